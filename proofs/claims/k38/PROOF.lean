import PyProof.Rows.All
import KE.RegKIsAll
import KE.RegKTryMore
import KE.KItem
import PySem.Challenge.RW_paceplan_k38_prices_asked
set_option Elab.async false
set_option linter.all false
set_option maxRecDepth 100000
theorem opt_two {α β γ : Type} {o : Option α} {f : α -> β} {g : α -> γ} {a : β} {b : γ} (h1 : o.map f = some a) (h2 : o.map g = some b) : o.map (fun s => (f s, g s)) = some (a, b) := by
 cases o with
 | none => cases h1
 | some x => cases h1; cases h2; rfl
namespace HW
open PySem
def keep : List Nat := [1, 2, 3, 5, 6, 7, 8, 9, 10, 11, 12, 13, 14, 16, 17, 18, 19, 20, 21, 22, 23, 24, 25, 26, 28, 29, 30, 31, 32, 33, 34, 35, 36, 38, 39, 41, 42, 43, 44, 45, 46, 47, 48, 49, 50, 51, 52, 53, 54, 55, 56, 57, 58, 59, 60]
def V : Program := PySem.W.view PySem.Challenge.pw_paceplan_k38_prices_asked keep
end HW
section HWs
open PySem PySem.W PyProof.Rows
set_option maxHeartbeats 0 in
theorem HWa : ∀ w : World, (openEnds treeTable PySem.Challenge.rw_paceplan_k38_prices_asked.row.prog w 7646).map (fun s => openSeen HW.V [] (importedModules PySem.Challenge.rw_paceplan_k38_prices_asked.row.prog.main.body) (fun s => xlAt HW.V [] s && recOk PySem.Challenge.rw_paceplan_k38_prices_asked.row.records s) true s) = some (openGood HW.V []) := by
 intro w
 delta openEnds fencedOpening topFrom
 rw [PySem.W.Fast.te14364793385576792824, PySem.W.Fast.te14082659384304107361, PySem.W.Fast.te10274390034422433532, PySem.W.Fast.te1435165496053646825, PySem.W.Fast.te14289696077712309145, PySem.W.Fast.te4187177175401517315]
 kernel_rfl
local macro_rules
 | `(tactic| o_head $H:term) => `(tactic| (
   refine holds_open (q := HW.V) (loose := []) (N := 7646)
    (Xt := fun s => xlAt HW.V [] s && recOk (RowW.records (OpenRow.toRowW (OpenLaw.row PySem.Challenge.rw_paceplan_k38_prices_asked))) s)
    (XP := XL HW.V []) (Yf := Hook.obs $H) (Ya := Hook.val $H) (YP := Hook.says $H)
    ?hl (Hook.of $H) (Hook.keeps $H)
    (fun s e => xl_of s (Bool.and_eq_true_iff.mp e).1) XL.keeps
    (by rfl) (by rfl) (by rfl)
    (fun s e => recFacts_of (Bool.and_eq_true_iff.mp e).2) (by rfl) (by assumption) (by decide +kernel)
    ⟨rfl, rfl, rfl, rfl, rfl, by decide +kernel⟩ ?hw ?hc
   (case hl =>
    intro w
    refine opt_two (HWa w) ?_
    delta openEnds fencedOpening topFrom
    rw [PySem.W.Fast.te14364793385576792824, PySem.W.Fast.te14082659384304107361, PySem.W.Fast.te10274390034422433532, PySem.W.Fast.te1435165496053646825, PySem.W.Fast.te14289696077712309145]
    kernel_rfl)))
set_option maxHeartbeats 0 in
open_top HWtop for PySem.Challenge.rw_paceplan_k38_prices_asked
end HWs
theorem zl1 : 1 ≤ PySem.sizeLine := by decide
theorem zl2 : 2 ≤ PySem.sizeLine := by decide
theorem zl3 : 3 ≤ PySem.sizeLine := by decide
theorem zl4 : 4 ≤ PySem.sizeLine := by decide
theorem zl5 : 5 ≤ PySem.sizeLine := by decide
theorem zl6 : 6 ≤ PySem.sizeLine := by decide
theorem zl7 : 7 ≤ PySem.sizeLine := by decide
theorem zl1000 : 1000 ≤ PySem.sizeLine := by decide
namespace L2
open PySem PySem.Spec PyProof.Rows
abbrev Key := Sum Int Str
def keyIs : Key -> Value -> Bool
 | .inl k, v => Value.isInt k v
 | .inr x, v => Value.isStrOf x v
def keyH (w : World) : Key -> Int
 | .inl k => hashInt k
 | .inr x => hashStr w x
theorem keyIs_shape : ∀ {k : Key} {v : Value}, keyIs k v = true -> (∃ i t, k = Sum.inl i /\ v = Value.int i t) ∨ (∃ x t, k = Sum.inr x /\ v = Value.str x t)
 | .inl i, v, h => by
  obtain ⟨t, e⟩ := Value.isInt_shape (k := i) (v := v) h
  exact .inl ⟨i, t, rfl, e⟩
 | .inr x, v, h => by
  obtain ⟨t, e⟩ := Value.isStrOf_shape (x := x) (v := v) h
  exact .inr ⟨x, t, rfl, e⟩
theorem key_ll (a b : Int) : decide ((Sum.inl a : Key) = Sum.inl b) = (a == b) := by
 by_cases e : a = b
 ·subst e; simp
 ·have h : ¬ (Sum.inl a : Key) = Sum.inl b := fun q => e (Sum.inl.inj q)
  rw [decide_eq_false h]
  exact (beq_eq_false_iff_ne.mpr e).symm
theorem key_rr (a b : Str) : decide ((Sum.inr a : Key) = Sum.inr b) = decide (a = b) := by
 by_cases e : a = b
 ·subst e; simp
 ·have h : ¬ (Sum.inr a : Key) = Sum.inr b := fun q => e (Sum.inr.inj q)
  rw [decide_eq_false h, decide_eq_false e]
theorem key_lr (a : Int) (b : Str) : decide ((Sum.inl a : Key) = Sum.inr b) = false := decide_eq_false (fun q => nomatch q)
theorem key_rl (a : Str) (b : Int) : decide ((Sum.inr a : Key) = Sum.inl b) = false := decide_eq_false (fun q => nomatch q)
def mixKind (prog : Program) (w : World) : PySem.KeyKind prog w Key where
 is := keyIs
 hash := keyH w
 inj := fun v a b ha hb => by
  rcases keyIs_shape ha with ⟨i, t, rfl, rfl⟩ | ⟨x, t, rfl, rfl⟩
  ·rcases keyIs_shape hb with ⟨j, u, rfl, e⟩ | ⟨y, u, rfl, e⟩
   ·injection e with e1 _; rw [e1]
   ·exact nomatch e
  ·rcases keyIs_shape hb with ⟨j, u, rfl, e⟩ | ⟨y, u, rfl, e⟩
   ·exact nomatch e
   ·injection e with e1 _; rw [e1]
 byValue := fun k v h => by
  rcases keyIs_shape h with ⟨i, t, rfl, rfl⟩ | ⟨x, t, rfl, rfl⟩ <;> rfl
 pyHash := fun hv h => by
  rcases keyIs_shape hv with ⟨i, t, rfl, rfl⟩ | ⟨x, t, rfl, rfl⟩
  ·exact wpAny_pyHash_int h
  ·exact wpAny_pyHash_str h
 eqBool := fun hu hv h => by
  rcases keyIs_shape hu with ⟨i, t, rfl, rfl⟩ | ⟨x, t, rfl, rfl⟩
  ·rcases keyIs_shape hv with ⟨j, u, rfl, rfl⟩ | ⟨y, u, rfl, rfl⟩
   ·rw [key_ll] at h; exact wpAny_eqBool_int h
   ·rw [key_lr] at h; exact SeqAt.EqAt.int_str i t y u _ _ _ _ h
  ·rcases keyIs_shape hv with ⟨j, u, rfl, rfl⟩ | ⟨y, u, rfl, rfl⟩
   ·rw [key_rl] at h; exact SeqAt.EqAt.str_int x t j u _ _ _ _ h
   ·rw [key_rr] at h; exact wpAny_eqBool_str h
 «strs» := fun k x t v h => by
  rcases keyIs_shape h with ⟨i, u, rfl, e⟩ | ⟨y, u, rfl, e⟩
  ·exact nomatch e
  ·injection e with e1 _
   subst e1
   cases v <;> rfl
end L2
namespace L2
open PySem PySem.Spec PyProof.Rows
inductive V where
 | non | bl (b : Bool) | int (i : Int) | str (x : Str) | byt (b : Array UInt8) | flt (b : UInt64) | ref (a : Addr) | ty (n : String)
 deriving DecidableEq
def RelV : V -> Value -> Prop
 | .non, u => u = Value.none
 | .bl b, u => u = Value.bool b
 | .int i, u => ∃ t, u = Value.int i t
 | .str x, u => ∃ t, u = Value.str x t
 | .byt b, u => ∃ t, u = Value.bytes b t
 | .flt b, u => ∃ t, u = Value.float b t
 | .ref a, u => u = Value.ref a
 | .ty n, u => u = Value.type n
abbrev Vals : List V -> List Value -> Prop := Paired RelV
theorem Vals.length {xs : List V} {us : List Value} (r : Vals xs us) : xs.length = us.length := Paired.length r
theorem Vals.get : ∀ {xs : List V} {us : List Value} {i : Nat} {x : V}, Vals xs us -> xs[i]? = some x -> ∃ u, us[i]? = some u /\ RelV x u
 | _, _, _, _, .nil, e => by simp at e
 | _, _, 0, _, .cons r _, e => by simp at e; subst e; exact ⟨_, rfl, r⟩
 | _, _, i + 1, x, .cons _ t, e => by
  obtain ⟨u, h1, h2⟩ := Vals.get (i := i) (x := x) t (by simpa using e)
  exact ⟨u, by simpa using h1, h2⟩
theorem Vals.set {x : V} {u : Value} (r : RelV x u) : ∀ {xs : List V} {us : List Value} (i : Nat), Vals xs us -> Vals (xs.set i x) (us.set i u)
 | _, _, _, .nil => .nil
 | _, _, 0, .cons _ t => .cons r t
 | _, _, i + 1, .cons q t => .cons q (Vals.set r i t)
theorem Vals.append : ∀ {xs ys : List V} {us ws : List Value}, Vals xs us -> Vals ys ws -> Vals (xs ++ ys) (us ++ ws)
 | _, _, _, _, .nil, s => s
 | _, _, _, _, .cons r t, s => .cons r (Vals.append t s)
theorem Vals.take : ∀ {xs : List V} {us : List Value} (n : Nat), Vals xs us -> Vals (xs.take n) (us.take n)
 | _, _, 0, _ => .nil
 | _, _, _ + 1, .nil => .nil
 | _, _, n + 1, .cons r t => .cons r (Vals.take n t)
theorem Vals.drop : ∀ {xs : List V} {us : List Value} (n : Nat), Vals xs us -> Vals (xs.drop n) (us.drop n)
 | _, _, 0, r => r
 | _, _, _ + 1, .nil => .nil
 | _, _, n + 1, .cons _ t => Vals.drop n t
def RelO : Option V -> Option Value -> Prop
 | some v, some u => RelV v u
 | none, none => True
 | _, _ => False
def KV {κ : Type} : List (κ × V) -> List (κ × Value) -> Prop := Paired fun (p : κ × V) (q : κ × Value) => p.1 = q.1 /\ RelV p.2 q.2
def kV : Key -> V
 | .inl i => .int i
 | .inr x => .str x
inductive HO where
 | lst (xs : List V)
 | tup (xs : List V)
 | dK (kvs : List (Key × V)) | dT (kvs : List (List Key × V))
 | set (S : Int -> Bool) (n : Nat)
 | ins (C dx : Addr) (fs : List (Str × V))
 | own (x : Addr)
 | xd (fs : List (Str × V))
 | met (f x : Addr)
 | rng (lo hi : Int)
 | frz (o : Obj) (u : HO)
 | tbl (ps : Array Value)
 | ext (φ : Heap -> Prop)
abbrev Hp := Addr -> Option HO
def upd (H : Hp) (a : Addr) (o : HO) : Hp := fun b => if b = a then some o else H b
theorem upd_same {H : Hp} {a : Addr} {o : HO} : upd H a o a = some o := by unfold upd; rw [if_pos rfl]
theorem upd_ne {H : Hp} {a b : Addr} {o : HO} (h : b ≠ a) : upd H a o b = H b := by unfold upd; rw [if_neg h]
theorem upd_upd {H : Hp} {a : Addr} {o u : HO} : upd (upd H a o) a u = upd H a u := by
 funext b; unfold upd; split <;> rfl
theorem ne_of_none {H : Hp} {a b : Addr} {o : HO} (h : H a = some o) (h' : H b = none) : a ≠ b := by
 intro e; subst e; rw [h] at h'; cases h'
section
variable (P : Program) (w : World)
def ObjOk (H : Hp) (h : Heap) (a : Addr) : HO -> Prop
 | .lst xs => xs.length ≤ sizeLine /\ ∃ (its : List Value) (n : Nat), Vals xs its /\ h.get? a = some { cls := .type "list", data := .seq its.toArray n }
 | .tup xs => xs.length ≤ sizeLine /\ ∃ its : List Value, Vals xs its /\ IsTup h a its.toArray
 | .dK kvs => kvs.length ≤ sizeLine /\ (a == sysModules) = false /\ ∃ vs, KV kvs vs /\ h.DictOf (mixKind P w) a vs
 | .dT kvs => kvs.length ≤ sizeLine /\ (a == sysModules) = false /\ ∃ xs : List (List Key × Addr × Value),
   Paired (fun (p : List Key × V) (q : List Key × Addr × Value) => p.1 = q.1 /\ H q.2.1 = some (.tup (p.1.map kV)) /\ RelV p.2 q.2.2) kvs xs ∧
   ∃ o es ep, h.get? a = some o /\ o.ExactDict /\ o.data = .dict es ep /\ es.toList = xs.map (entryOfKey (tupleKind (mixKind P w))) /\ (xs.map (·.1)).Nodup
 | .set S n => h.SetOf (intKind P w) a S n
 | .ins C dx fs => H dx = some (.own a) /\ fs.length ≤ 1000 /\ dx ≠ a /\ h.get? a = some (PySem.W.instObj C dx) ∧
   ∃ mA, h.Ns1 dx mA /\ (∀ f, RelO (fs.lookup f) (mA f)) /\ PySem.Within mA (fs.map (·.1))
 | .own _ => ∃ o, h.get? a = some o
 | .xd fs => ∃ mA, h.Ns1 a mA /\ ∀ f, RelO (fs.lookup f) (mA f)
 | .rng lo hi => ∃ t u v, h.get? a = some { cls := .type "range", data := .fields #[.int lo t, .int hi u, .int 1 v] }
 | .frz o u => h.get? a = some o /\ ObjOk H h a u
 | .tbl ps => h.get? a = some { cls := .none, data := .fields ps }
 | .met f x => h.get? a = some (PySem.W.methodObj (.ref f) (.ref x))
 | .ext φ => φ h /\ (∃ o, h.get? a = some o) /\ ∀ h1 h2 : Heap, φ h1 -> (∀ o, h1.get? a = some o -> h2.get? a = some o) -> φ h2
def HOk (H : Hp) (h : Heap) : Prop := ∀ a o, H a = some o -> ObjOk P w H h a o
end
section
variable {P : Program} {w : World} {H H' : Hp} {h h' : Heap} {a : Addr} {o : HO}
theorem ObjOk.lt (x : ObjOk P w H h a o) : a < h.objs.size := by
 cases o with
 | lst xs => obtain ⟨_, _, _, _, e⟩ := x; exact Heap.lt_size e
 | tup xs => obtain ⟨_, _, _, p⟩ := x; exact p.lt
 | dK kvs => obtain ⟨_, _, _, _, o, _, _, e, _⟩ := x; exact Heap.lt_size e
 | dT kvs => obtain ⟨_, _, _, _, o, _, _, e, _⟩ := x; exact Heap.lt_size e
 | set S n => obtain ⟨o, _, _, _, e, _⟩ := x; exact Heap.lt_size e
 | ins C dx fs => obtain ⟨_, _, _, e, _⟩ := x; exact Heap.lt_size e
 | own y => obtain ⟨_, e⟩ := x; exact Heap.lt_size e
 | xd fs => obtain ⟨_, ⟨_, _, _, e, _⟩, _⟩ := x; exact Heap.lt_size e
 | rng lo hi => obtain ⟨_, _, _, e⟩ := x; exact Heap.lt_size e
 | frz ob u => obtain ⟨e, _⟩ := x; exact Heap.lt_size e
 | tbl ps => exact Heap.lt_size (show h.get? a = some _ from x)
 | met f y => exact Heap.lt_size (show h.get? a = some _ from x)
 | ext φ => obtain ⟨_, ⟨_, e⟩, _⟩ := x; exact Heap.lt_size e
theorem Paired.mapP {α β : Type} {F G : α -> β -> Prop} : ∀ {l₁ : List α} {l₂ : List β}, Paired F l₁ l₂ -> (∀ a b, F a b -> G a b) -> Paired G l₁ l₂
 | _, _, .nil, _ => .nil
 | _, _, .cons r t, f => .cons (f _ _ r) (Paired.mapP t f)
theorem ObjOk.stay (x : ObjOk P w H h a o) (k : ∀ b u, (b = a ∨ H b = some (.own a)) -> h.get? b = some u -> h'.get? b = some u)
  (ho : ∀ b, H b = some (.own a) -> H' b = some (.own a)) (ht : ∀ b xs, H b = some (.tup xs) -> H' b = some (.tup xs)) : ObjOk P w H' h' a o := by
 induction o with
 | lst xs => obtain ⟨z, its, n, r, e⟩ := x; exact ⟨z, its, n, r, k _ _ (.inl rfl) e⟩
 | tup xs => obtain ⟨z, its, r, ob, e, c⟩ := x; exact ⟨z, its, r, ob, k _ _ (.inl rfl) e, c⟩
 | dK kvs => obtain ⟨z, y, vs, r, ob, es, ep, e, c⟩ := x; exact ⟨z, y, vs, r, ob, es, ep, k _ _ (.inl rfl) e, c⟩
 | dT kvs =>
  obtain ⟨z, y, xs, r, ob, es, ep, e, c⟩ := x
  exact ⟨z, y, xs, Paired.mapP r fun p q z => ⟨z.1, ht _ _ z.2.1, z.2.2⟩, ob, es, ep, k _ _ (.inl rfl) e, c⟩
 | set S n => obtain ⟨ob, es, ep, t, e, c⟩ := x; exact ⟨ob, es, ep, t, k _ _ (.inl rfl) e, c⟩
 | ins C dx fs =>
  obtain ⟨d, z, ne, e, mA, ⟨od, es, ep, e2, c⟩, r⟩ := x
  exact ⟨ho _ d, z, ne, k _ _ (.inl rfl) e, mA, ⟨od, es, ep, k _ _ (.inr d) e2, c⟩, r⟩
 | own y => obtain ⟨ob, e⟩ := x; exact ⟨ob, k _ _ (.inl rfl) e⟩
 | xd fs => obtain ⟨mA, ⟨od, es, ep, e, c⟩, r⟩ := x; exact ⟨mA, ⟨od, es, ep, k _ _ (.inl rfl) e, c⟩, r⟩
 | rng lo hi => obtain ⟨t, u, v, e⟩ := x; exact ⟨t, u, v, k _ _ (.inl rfl) e⟩
 | frz ob u ih => obtain ⟨e, q⟩ := x; exact ⟨k _ _ (.inl rfl) e, ih q⟩
 | tbl ps =>
  have e : h.get? a = some { cls := .none, data := .fields ps } := x
  show h'.get? a = some { cls := .none, data := .fields ps }
  exact k a _ (.inl rfl) e
 | met f y =>
  have e : h.get? a = some (PySem.W.methodObj (.ref f) (.ref y)) := x
  show h'.get? a = some (PySem.W.methodObj (.ref f) (.ref y))
  exact k a _ (.inl rfl) e
 | ext φ => obtain ⟨p, ⟨o, e⟩, st⟩ := x; exact ⟨st _ _ p fun o q => k _ _ (.inl rfl) q, ⟨o, k _ _ (.inl rfl) e⟩, st⟩
theorem HOk.lt (x : HOk P w H h) (e : H a = some o) : a < h.objs.size := (x a o e).lt
theorem HOk.fresh (x : HOk P w H h) (e : h.objs.size ≤ a) : H a = none := by
 cases q : H a with
 | none => rfl
 | some u => exact absurd (Nat.lt_of_lt_of_le (x.lt q) e) (Nat.lt_irrefl _)
theorem HOk.kept (x : HOk P w H h) (k : ∀ b u, h.get? b = some u -> h'.get? b = some u) : HOk P w H h' := fun a o e =>
 (x a o e).stay (fun b u _ q => k b u q) (fun _ q => q) fun _ _ q => q
theorem HOk.laid (x : HOk P w H h) (k : ∀ b u, h.get? b = some u -> h'.get? b = some u) (hp : h.objs.size ≤ a) (new : ObjOk P w (upd H a o) h' a o) : HOk P w (upd H a o) h' := fun b u e => by
 have hn := x.fresh hp
 by_cases hb : b = a
 ·subst hb; rw [upd_same] at e; cases e; exact new
 ·rw [upd_ne hb] at e
  exact (x b u e).stay (fun c v _ q => k c v q) (fun c q => by rw [upd_ne (ne_of_none q hn)]; exact q) fun c xs q => by rw [upd_ne (ne_of_none q hn)]; exact q
end
def Rd (H : Hp) (a : Addr) (u : HO) : Prop := H a = some u ∨ ∃ o, H a = some (.frz o u)
theorem Rd.ok {P : Program} {w : World} {H : Hp} {h : Heap} {a : Addr} {u : HO} (r : Rd H a u) (x : HOk P w H h) : ObjOk P w H h a u := by
 rcases r with r | ⟨o, r⟩
 ·exact x a u r
 ·obtain ⟨_, q⟩ := x a _ r
  exact q
def Mut : Option HO -> Prop
 | some (.lst _) => True
 | some (.dK _) => True
 | some (.dT _) => True
 | some (.set _ _) => True
 | some (.ins _ _ _) => True
 | some (.ext _) => True
 | _ => False
section
variable {P : Program} {w : World} {H : Hp} {h h' : Heap} {x e : Addr} {o' : HO}
theorem HOk.write (ok : HOk P w H h) (mu : Mut (H x)) (he : e = x ∨ H e = some (.own x)) (k : ∀ b u, b ≠ e -> h.get? b = some u -> h'.get? b = some u) (heo : ∃ u, h'.get? e = some u)
  (new : ObjOk P w (upd H x o') h' x o') : HOk P w (upd H x o') h' := fun b u q => by
 have nown : ∀ c y, H c = some (.own y) -> c ≠ x := fun c y r z => by subst z; rw [r] at mu; exact mu
 have ntup : ∀ c xs, H c = some (.tup xs) -> c ≠ x := fun c xs r z => by subst z; rw [r] at mu; exact mu
 by_cases hb : b = x
 ·subst hb; rw [upd_same] at q; cases q; exact new
 ·rw [upd_ne hb] at q
  by_cases hbe : b = e
  ·have q' : H b = some (.own x) := by
    rcases he with z | z
    ·exact absurd (hbe.trans z) hb
    ·rw [hbe]; exact z
   rw [q] at q'; cases q'
   obtain ⟨v, hv⟩ := heo
   exact ⟨v, by rw [hbe]; exact hv⟩
  ·refine (ok b u q).stay (fun c v hc r => k c v ?_ r) (fun c r => by rw [upd_ne (nown c b r)]; exact r) fun c xs r => by rw [upd_ne (ntup c xs r)]; exact r
   rcases hc with rfl | hc
   ·exact hbe
   ·rintro rfl
    rcases he with z | z
    ·exact nown c b hc z
    ·rw [hc] at z; cases z; exact hb rfl
end
structure Un (fs ex : List Addr) (H H' : Hp) (h h' : Heap) : Prop where
 keep : ∀ b o, h.get? b = some o -> H b = none -> b ∉ fs -> b ∉ ex -> h'.get? b = some o
 slot : ∀ b o, h.get? b = some o -> H b = none -> b ∈ fs -> b ∉ ex -> ∃ sl, h'.get? b = some { o with slots := sl }
 free : ∀ b o, h.get? b = some o -> H b = none -> b ∉ ex -> H' b = none
 there : ∀ b o, h.get? b = some o -> b ∉ ex -> ∃ o', h'.get? b = some o'
 tups : ∀ b xs, H b = some (.tup xs) -> H' b = some (.tup xs)
 frzs : ∀ b o u, H b = some (.frz o u) -> H' b = some (.frz o u)
 tbls : ∀ b ps, H b = some (.tbl ps) -> ∃ more, H' b = some (.tbl (ps ++ more))
section
variable {fs fs' ex ex' : List Addr} {H H1 H2 : Hp} {h h1 h2 h' : Heap} {a x e : Addr} {o : HO}
theorem Un.any (u : Un fs ex H H1 h h1) {b : Addr} {ob : Obj} (q : h.get? b = some ob) (n : H b = none) (hx : b ∉ ex) : ∃ sl, h1.get? b = some { ob with slots := sl } := by
 by_cases hb : b ∈ fs
 ·exact u.slot b ob q n hb hx
 ·exact ⟨ob.slots, u.keep b ob q n hb hx⟩
theorem Un.kept (k : ∀ b u, h.get? b = some u -> h'.get? b = some u) : Un fs ex H H h h' :=
 ⟨fun b ob q _ _ _ => k b ob q, fun b ob q _ _ _ => ⟨ob.slots, k b ob q⟩, fun _ _ _ n _ => n, fun b ob q _ => ⟨ob, k b ob q⟩, fun _ _ q => q, fun _ _ _ q => q, fun _ ps q => ⟨#[], by rw [q]; simp⟩⟩
theorem Un.refl : Un fs ex H H h h := Un.kept fun _ _ q => q
theorem Un.laid (k : ∀ b u, h.get? b = some u -> h'.get? b = some u) (hp : h.objs.size ≤ a) (hn : H a = none) : Un fs ex H (upd H a o) h h' where
 keep := fun b u q _ _ _ => k b u q
 slot := fun b u q _ _ _ => ⟨u.slots, k b u q⟩
 free := fun b u q n _ => by rw [upd_ne (Nat.ne_of_lt (Nat.lt_of_lt_of_le (Heap.lt_size q) hp))]; exact n
 there := fun b u q _ => ⟨u, k b u q⟩
 tups := fun b xs q => by rw [upd_ne (ne_of_none q hn)]; exact q
 frzs := fun b u xs q => by rw [upd_ne (ne_of_none q hn)]; exact q
 tbls := fun b ps q => ⟨#[], by rw [upd_ne (ne_of_none q hn), q]; simp⟩
theorem Un.write (mu : Mut (H x)) (he : e = x ∨ H e = some (.own x)) (k : ∀ b u, b ≠ e -> h.get? b = some u -> h'.get? b = some u) (heo : ∃ u, h'.get? e = some u) : Un fs ex H (upd H x o) h h' := by
 have hx : ∀ b, H b = none -> b ≠ x := fun b n z => by subst z; rw [n] at mu; exact mu
 have hb : ∀ b, H b = none -> b ≠ e := fun b n z => by
  subst z
  rcases he with r | r
  ·exact hx b n r
  ·rw [n] at r; cases r
 have hm : ∀ b u, H b = some u -> ¬ Mut (some u) -> b ≠ x := fun b u q nm z => by subst z; rw [q] at mu; exact nm mu
 refine ⟨fun b u q n _ _ => k b u (hb b n) q, fun b u q n _ _ => ⟨u.slots, k b u (hb b n) q⟩, fun b u q n _ => by rw [upd_ne (hx b n)]; exact n, fun b u q _ => ?_,
  fun b xs q => by rw [upd_ne (hm b _ q fun z => z)]; exact q, fun b u xs q => by rw [upd_ne (hm b _ q fun z => z)]; exact q, fun b ps q => ⟨#[], by rw [upd_ne (hm b _ q fun z => z), q]; simp⟩⟩
 by_cases hbe : b = e
 ·subst hbe; exact heo
 ·exact ⟨u, k b u hbe q⟩
end
def trk (h : Heap) (H : Hp) : List Addr := (List.range h.objs.size).filter fun a => (H a).isSome
def hidT (h : Heap) (H : Hp) : Heap := PySem.W.hideAll h (trk h H)
theorem hidT_size (h : Heap) (H : Hp) : (hidT h H).objs.size = h.objs.size := PySem.W.hideAll_size _ _
theorem hidT_get {h : Heap} {H : Hp} {b : Addr} {o : Obj} (e : h.get? b = some o) (n : H b = none) : (hidT h H).get? b = some o :=
 PySem.W.hideAll_get _ e fun hm => by
  have q : (H b).isSome = true := (List.mem_filter.mp hm).2
  rw [n] at q; simp at q
theorem of_hidT {h : Heap} {H : Hp} {b : Addr} {o : Obj} (e : (hidT h H).get? b = some o) : h.get? b = some o /\ H b = none := by
 have e' : h.get? b = some o := PySem.W.of_hideAll (trk h H) e
 refine ⟨e', ?_⟩
 cases q : H b with
 | none => rfl
 | some x =>
  have hm : b ∈ trk h H := List.mem_filter.mpr ⟨List.mem_range.mpr (Heap.lt_size e'), by simp [q]⟩
  have z : (hidT h H).get? b = none := PySem.W.hideAll_none (trk h H) hm
  rw [z] at e; cases e
def allNews (g h : Heap) (L : Addr) : List (Addr × Obj) := (List.range h.objs.size).filterMap fun a => if a = L ∨ (g.get? a).isSome = true then none else (h.get? a).map fun o => (a, o)
def rest (g h : Heap) (L d : Addr) : List (Addr × Obj) := (allNews g h L).filter fun p => decide (p.1 ≠ d)
end L2
namespace L2
open PySem PySem.Spec PyProof.Rows
structure Mod (K : PySem.W.Frag) (mg : Str -> Option Value) (base : Heap) : Prop where
 kin : K.In base
 glob : base.Ns mainGlobals mg
 blt : ∃ mb, base.Ns builtinsNs mb /\ ∀ x : Str, x ≠ "__name__" -> mb x = bootBuiltins x
 nolimit : base.NoLimit
structure Cx where
 prog : Program
 w : World
 K : PySem.W.Frag
 mg : Str -> Option Value
 base : Heap
 A : Around
 N : List Str
 s₀ : Shared
 H₀ : Hp
 env : Env
 outer : List Env
 stack : List Env
 ex : List Addr
 fn : Str -> Bool
 calm : Bool
 pn : List (Addr × Obj)
 xe : Value -> Shared -> Prop
def frs (l : List Env) : List Addr := l.filterMap (·.frame)
abbrev Cx.fs (X : Cx) : List Addr := frs X.outer
def Vis (sc : Scope) (x : Str) : Prop := sc.names.lookup x = some .local ∨ sc.names.lookup x = some .cell ∨ sc.names.lookup x = some .free
def Loc (sc : Scope) (x : Str) : Prop := sc.names.lookup x = some .local ∨ sc.names.lookup x = some .cell
def Look (env : Env) (h : Heap) (m : Str -> Option Value) (x : Str) (u : Value) : Prop :=
 (env.kindOf x = some .local /\ m x = some u) ∨ ((env.kindOf x = some .cell ∨ env.kindOf x = some .free) /\ ∃ c, env.cells.lookup x = some c /\ h.IsCell c (some u))
structure Cx.Ok (X : Cx) : Prop where
 mod : Mod X.K X.mg X.base
 kind : X.env.scope.kind = .function
 glob : X.env.globals = mainGlobals
 blt : X.env.builtins = builtinsNs
 above : X.s₀.heap.objs.size ≤ X.env.locals
 inj : ∀ x y c, X.env.cells.lookup x = some c -> X.env.cells.lookup y = some c -> x = y
 has : ∀ x, (X.env.kindOf x = some .cell ∨ X.env.kindOf x = some .free) -> ∃ c, X.env.cells.lookup x = some c
 cab : ∀ x c, X.fn x = true -> X.env.cells.lookup x = some c -> X.s₀.heap.objs.size ≤ c
 hd : X.calm = true -> X.A.handled = none
 frames : X.A.frames = some X.stack
 stk : X.stack = X.outer ∨ (X.stack = X.env :: X.outer /\ X.env.frame = some X.env.locals)
 exf : ∀ b ∈ X.ex, b ≠ X.env.locals /\ ∀ x c, X.env.cells.lookup x = some c -> c ≠ b
 bs : ∀ b o, X.base.get? b = some o -> X.s₀.heap.get? b = some o /\ X.H₀ b = none
 bsz : X.base.objs.size ≤ X.s₀.heap.objs.size
 noex : ∀ b o, X.base.get? b = some o -> b ∉ X.ex
 exfs : ∀ b ∈ X.ex, b ∉ X.fs
 funs : X.s₀.heap.FunFrames X.base X.outer
 frf : ∀ b ∈ X.fs, X.H₀ b = none
structure Inv (X : Cx) (pins : List (Addr × Obj)) (σ : List (Option V)) (H : Hp) (s : Shared) : Prop where
 ok : X.Ok
 os : s.os = X.s₀.os
 bare : AllBare s.gens
 base : Un X.fs X.ex X.H₀ H X.s₀.heap s.heap
 loc : ∃ m, s.heap.Ns X.env.locals m /\ ∀ (i : Nat) (x : Str) (v : V), X.N[i]? = some x -> σ[i]? = some (some v) -> Vis X.env.scope x -> ∃ u, RelV v u /\ Look X.env s.heap m x u
 cell : ∀ x c, X.env.cells.lookup x = some c -> ∃ v, s.heap.IsCell c v
 free : H X.env.locals = none
 freeC : ∀ x c, X.env.cells.lookup x = some c -> H c = none
 pin : ∀ p ∈ X.pn ++ pins, s.heap.get? p.1 = some p.2 /\ H p.1 = none /\ p.1 ≠ X.env.locals /\ p.1 ∉ X.fs /\ ∀ v, p.2.data ≠ .cell v
 hok : HOk X.prog X.w H s.heap
 len : σ.length = X.N.length
section
variable {X : Cx} {pins : List (Addr × Obj)} {σ : List (Option V)} {H H' : Hp} {s : Shared} {h' : Heap}
theorem Cx.Ok.nofr (ok : X.Ok) {b : Addr} {o : Obj} (e : X.base.get? b = some o) : b ∉ X.fs := fun hb => by
 have := (ok.funs.mem hb).1
 rw [e] at this; cases this
theorem Inv.bs (I : Inv X pins σ H s) : ∀ b o, X.base.get? b = some o -> s.heap.get? b = some o /\ H b = none := fun b o e =>
 ⟨I.base.keep b o (I.ok.bs b o e).1 (I.ok.bs b o e).2 (I.ok.nofr e) (I.ok.noex b o e), I.base.free b o (I.ok.bs b o e).1 (I.ok.bs b o e).2 (I.ok.noex b o e)⟩
theorem Inv.bk (I : Inv X pins σ H s) : ∀ b o, X.base.get? b = some o -> s.heap.get? b = some o := fun b o e => (I.bs b o e).1
theorem Inv.mod (I : Inv X pins σ H s) : Mod X.K X.mg X.base := I.ok.mod
theorem Inv.kIn (I : Inv X pins σ H s) : X.K.In s.heap := I.ok.mod.kin.keeps I.bk
theorem Inv.lt (I : Inv X pins σ H s) : X.env.locals < s.heap.objs.size := let ⟨_, hn, _⟩ := I.loc; hn.lt
theorem Inv.sz (I : Inv X pins σ H s) : X.s₀.heap.objs.size ≤ s.heap.objs.size := Nat.le_trans I.ok.above (Nat.le_of_lt I.lt)
theorem Inv.nofs (I : Inv X pins σ H s) {a : Addr} (h : s.heap.objs.size ≤ a) : a ∉ X.fs := fun hb => by
 obtain ⟨_, o, ho, _⟩ := I.ok.funs.mem hb
 exact absurd (Nat.lt_of_lt_of_le (Heap.lt_size ho) (Nat.le_trans I.sz h)) (Nat.lt_irrefl _)
theorem Inv.cne (I : Inv X pins σ H s) : ∀ x c, X.env.cells.lookup x = some c -> c ≠ X.env.locals := fun x c e z => by
 obtain ⟨v, o, ho, hd⟩ := I.cell x c e
 obtain ⟨m, ⟨o', es, ep, ho', hd', _⟩, _⟩ := I.loc
 rw [z, ho'] at ho; cases ho; rw [hd'] at hd; cases hd
theorem Inv.funs (I : Inv X pins σ H s) : s.heap.FunFrames X.base X.outer := by
 have all : ∀ (l : List Env), (∀ b ∈ frs l, b ∈ X.fs) -> X.s₀.heap.FunFrames X.base l -> s.heap.FunFrames X.base l := by
  intro l
  induction l with
  | nil => intro _ _; trivial
  | cons env r ih =>
   intro hs hl
   obtain ⟨hk, ⟨L, o, hf, hn, ho, hd⟩, hr⟩ := hl
   have hL : L ∈ X.fs := hs L (by unfold frs; rw [List.filterMap_cons, hf]; exact List.mem_cons_self)
   obtain ⟨sl, e⟩ := I.base.slot L o ho (I.ok.frf L hL) hL fun z => I.ok.exfs L z hL
   exact ⟨hk, ⟨L, _, hf, hn, e, hd⟩, ih (fun b hb => hs b (by unfold frs; rw [List.filterMap_cons, hf]; exact List.mem_cons_of_mem _ hb)) hr⟩
 exact all X.outer (fun _ hb => hb) I.ok.funs
theorem Inv.stack (I : Inv X pins σ H s) : s.heap.FunFrames X.base X.stack := by
 rcases I.ok.stk with e | ⟨e, hf⟩
 ·rw [e]; exact I.funs
 ·rw [e]
  obtain ⟨m, hn, _⟩ := I.loc
  refine .cons (by rw [I.ok.kind]; decide) hf hn ?_ I.funs
  exact Heap.get?_none_of_le (Nat.le_trans I.ok.bsz I.ok.above)
theorem Inv.stkSub (I : Inv X pins σ H s) : ∀ b ∈ frs X.stack, b ∈ X.env.locals :: X.fs := fun b hb => by
 rcases I.ok.stk with e | ⟨e, hf⟩
 ·rw [e] at hb; exact List.mem_cons_of_mem _ hb
 ·rw [e] at hb
  unfold frs at hb
  rw [List.filterMap_cons, hf] at hb
  exact hb
theorem Inv.stkFree (I : Inv X pins σ H s) : ∀ b ∈ frs X.stack, H b = none := fun b hb => by
 rcases List.mem_cons.mp (I.stkSub b hb) with e | hb
 ·rw [e]; exact I.free
 ·obtain ⟨_, o, ho, _⟩ := I.ok.funs.mem hb
  exact I.base.free b o ho (I.ok.frf b hb) fun z => I.ok.exfs b z hb
theorem Inv.step {g' : Array GenState} {t' : Nat} {d' : Drawn} {ch : List Addr} (I : Inv X pins σ H s)
  (hch : ∀ b ∈ ch, (b ∈ X.ex ∨ X.s₀.heap.get? b = none) /\ b ≠ X.env.locals /\ (∀ x c, X.env.cells.lookup x = some c -> c ≠ b) /\ ∀ p ∈ X.pn ++ pins, p.1 ≠ b)
  (keep : ∀ b o, b ≠ X.env.locals -> b ∉ X.fs -> b ∉ ch -> s.heap.get? b = some o -> H b = none -> h'.get? b = some o)
  (slot : ∀ b o, b ≠ X.env.locals -> b ∈ X.fs -> b ∉ ch -> s.heap.get? b = some o -> H b = none -> ∃ sl, h'.get? b = some { o with slots := sl }) (free : ∀ b o, b ∉ ch -> s.heap.get? b = some o -> H b = none -> H' b = none)
  (there : ∀ b o, b ∉ ch -> s.heap.get? b = some o -> ∃ o', h'.get? b = some o')
  (tups : ∀ b xs, H b = some (.tup xs) -> H' b = some (.tup xs)) (frzs : ∀ b o u, H b = some (.frz o u) -> H' b = some (.frz o u)) (tbls : ∀ b ps, H b = some (.tbl ps) -> ∃ more, H' b = some (.tbl (ps ++ more)))
  (ns : ∀ m, s.heap.Ns X.env.locals m -> h'.Ns X.env.locals m) (hok : HOk X.prog X.w H' h') (hg : AllBare g') :
  Inv X pins σ H' { s with heap := h', gens := g', drawn := d', toks := t' } := by
 have neL : ∀ b o, X.s₀.heap.get? b = some o -> b ≠ X.env.locals := fun b o e => Nat.ne_of_lt (Nat.lt_of_lt_of_le (Heap.lt_size e) I.ok.above)
 have neC : ∀ b o, X.s₀.heap.get? b = some o -> b ∉ X.ex -> b ∉ ch := fun b o e hx hb => by
  rcases (hch b hb).1 with z | z
  ·exact hx z
  ·rw [e] at z; cases z
 have cellK : ∀ x c, X.env.cells.lookup x = some c -> ∀ v, s.heap.IsCell c v -> h'.IsCell c v := fun x c e v ⟨o, ho, hd⟩ => by
  have nch : c ∉ ch := fun z => (hch c z).2.2.1 x c e rfl
  by_cases hc : c ∈ X.fs
  ·obtain ⟨sl, q⟩ := slot c o (I.cne x c e) hc nch ho (I.freeC x c e)
   exact ⟨_, q, hd⟩
  ·exact ⟨o, keep c o (I.cne x c e) hc nch ho (I.freeC x c e), hd⟩
 refine ⟨I.ok, I.os, hg, ⟨fun b o e n hb hx => ?_, fun b o e n hb hx => ?_, fun b o e n hx => ?_, fun b o e hx => ?_, fun b xs e => tups b xs (I.base.tups b xs e), fun b o xs e => frzs b o xs (I.base.frzs b o xs e), fun b ps e => ?_⟩, ?_, fun x c e => ?_, ?_, fun x c e => ?_, fun p hp => ?_, hok, I.len⟩
 ·exact keep b o (neL b o e) hb (neC b o e hx) (I.base.keep b o e n hb hx) (I.base.free b o e n hx)
 ·obtain ⟨sl, e1⟩ := I.base.slot b o e n hb hx
  obtain ⟨sl', e2⟩ := slot b _ (neL b o e) hb (neC b o e hx) e1 (I.base.free b o e n hx)
  exact ⟨sl', e2⟩
 ·obtain ⟨o', e1⟩ := I.base.there b o e hx
  exact free b o' (neC b o e hx) e1 (I.base.free b o e n hx)
 ·obtain ⟨o', e1⟩ := I.base.there b o e hx
  exact there b o' (neC b o e hx) e1
 ·obtain ⟨m1, e1⟩ := I.base.tbls b ps e
  obtain ⟨m2, e2⟩ := tbls b _ e1
  exact ⟨m1 ++ m2, by rw [e2, Array.append_assoc]⟩
 ·obtain ⟨m, hn, hl⟩ := I.loc
  refine ⟨m, ns m hn, fun i x v e1 e2 e3 => ?_⟩
  obtain ⟨u, r, l⟩ := hl i x v e1 e2 e3
  refine ⟨u, r, ?_⟩
  rcases l with l | ⟨k, c, e, z⟩
  ·exact .inl l
  ·exact .inr ⟨k, c, e, cellK x c e _ z⟩
 ·obtain ⟨v, z⟩ := I.cell x c e
  exact ⟨v, cellK x c e v z⟩
 ·obtain ⟨m, ⟨o, _, _, ho, _⟩, _⟩ := I.loc
  exact free _ o (fun z => (hch _ z).2.1 rfl) ho I.free
 ·obtain ⟨v, o, ho, hd⟩ := I.cell x c e
  exact free c o (fun z => (hch c z).2.2.1 x c e rfl) ho (I.freeC x c e)
 ·obtain ⟨e, n, ne, nf, d⟩ := I.pin p hp
  have nch : p.1 ∉ ch := fun z => (hch p.1 z).2.2.2 p hp rfl
  exact ⟨keep p.1 p.2 ne nf nch e n, free p.1 p.2 nch e n, ne, nf, d⟩
theorem Inv.un {t' : Nat} (I : Inv X pins σ H s) (u : Un X.fs [] H H' s.heap h') (hok : HOk X.prog X.w H' h') : Inv X pins σ H' { s with heap := h', toks := t' } := by
 obtain ⟨m, ⟨o, es, ep, ho, r⟩, _⟩ := id I.loc
 obtain ⟨sl, hL⟩ := u.any ho I.free (by simp)
 exact I.step (g' := s.gens) (d' := s.drawn) (ch := []) (fun _ z => nomatch z) (fun b o _ hb _ e n => u.keep b o e n hb (by simp)) (fun b o _ hb _ e n => u.slot b o e n hb (by simp)) (fun b o _ e n => u.free b o e n (by simp)) (fun b o _ e => u.there b o e (by simp)) u.tups u.frzs u.tbls (fun m' hm => by
  obtain ⟨o', es', ep', ho', r'⟩ := hm
  rw [ho] at ho'; cases ho'
  exact ⟨_, es', ep', hL, r'⟩) hok I.bare
theorem Inv.call {g' : Array GenState} {t' : Nat} {d' : Drawn} {ch : List Addr} (I : Inv X pins σ H s) (u : Un (frs X.stack) ch H H' s.heap h') (hok : HOk X.prog X.w H' h') (hg : AllBare g')
  (hch : ∀ b ∈ ch, (b ∈ X.ex ∨ X.s₀.heap.get? b = none) /\ b ≠ X.env.locals /\ (∀ x c, X.env.cells.lookup x = some c -> c ≠ b) /\ ∀ p ∈ X.pn ++ pins, p.1 ≠ b) :
  Inv X pins σ H' { s with heap := h', gens := g', drawn := d', toks := t' } := by
 obtain ⟨m, ⟨o, es, ep, ho, r⟩, _⟩ := id I.loc
 obtain ⟨sl, hL⟩ := u.any ho I.free fun z => (hch _ z).2.1 rfl
 exact I.step (ch := ch) hch (fun b o hL hb hc e n => u.keep b o e n (fun z => (List.mem_cons.mp (I.stkSub b z)).elim hL hb) hc) (fun b o _ _ hc e n => u.any e n hc) (fun b o hc e n => u.free b o e n hc) (fun b o hc e => u.there b o e hc) u.tups u.frzs u.tbls (fun m' hm => by
  obtain ⟨o', es', ep', ho', r'⟩ := hm
  rw [ho] at ho'; cases ho'
  exact ⟨_, es', ep', hL, r'⟩) hok hg
theorem Inv.turned {t' : Nat} {it : Addr} (I : Inv X pins σ H s) (k : ∀ b o, b ≠ it -> s.heap.get? b = some o -> h'.get? b = some o) (hn : H it = none) (hL : it ≠ X.env.locals)
  (h1 : it ∈ X.ex ∨ X.s₀.heap.get? it = none) (h2 : ∀ x c, X.env.cells.lookup x = some c -> c ≠ it) (h3 : ∀ p ∈ X.pn ++ pins, p.1 ≠ it) : Inv X pins σ H { s with heap := h', toks := t' } := by
 have nit : ∀ b u, H b = some u -> b ≠ it := fun b u e z => by rw [z, hn] at e; cases e
 refine I.step (g' := s.gens) (d' := s.drawn) (ch := [it]) (fun b hb => ?_) (fun b o _ _ hc e _ => k b o (fun z => hc (by simp [z])) e) (fun b o _ _ hc e _ => ⟨o.slots, k b o (fun z => hc (by simp [z])) e⟩) (fun _ _ _ _ n => n)
  (fun b o hc e => ⟨o, k b o (fun z => hc (by simp [z])) e⟩) (fun _ _ e => e) (fun _ _ _ e => e) (fun b ps e => ⟨#[], by rw [e]; simp⟩) (fun m hm => ?_) (fun b u e => ?_) I.bare
 ·have e : b = it := by simpa using hb
  subst e
  exact ⟨h1, hL, h2, h3⟩
 ·obtain ⟨o, es, ep, ho, r⟩ := hm
  exact ⟨o, es, ep, k _ o (Ne.symm hL) ho, r⟩
 ·refine (I.hok b u e).stay (fun c v hc q => k c v ?_ q) (fun _ q => q) fun _ _ q => q
  rcases hc with z | z
  ·rw [z]; exact nit b u e
  ·exact nit c _ z
theorem Inv.tok (I : Inv X pins σ H s) (t : Nat) : Inv X pins σ H { s with toks := t } := I.un (h' := s.heap) (t' := t) Un.refl I.hok
theorem Inv.kept {t' : Nat} (I : Inv X pins σ H s) (k : ∀ b u, s.heap.get? b = some u -> h'.get? b = some u) : Inv X pins σ H { s with heap := h', toks := t' } := I.un (Un.kept k) (I.hok.kept k)
theorem Inv.laid {a : Addr} {o : HO} {t' : Nat} (I : Inv X pins σ H s) (k : ∀ b u, s.heap.get? b = some u -> h'.get? b = some u) (hp : s.heap.objs.size ≤ a) (new : ObjOk X.prog X.w (upd H a o) h' a o) :
  Inv X pins σ (upd H a o) { s with heap := h', toks := t' } := I.un (Un.laid k hp (I.hok.fresh hp)) (I.hok.laid k hp new)
theorem Inv.write {x e : Addr} {o : HO} {t' : Nat} (I : Inv X pins σ H s) (mu : Mut (H x)) (he : e = x ∨ H e = some (.own x)) (k : ∀ b u, b ≠ e -> s.heap.get? b = some u -> h'.get? b = some u) (heo : ∃ u, h'.get? e = some u)
  (new : ObjOk X.prog X.w (upd H x o) h' x o) : Inv X pins σ (upd H x o) { s with heap := h', toks := t' } := I.un (Un.write mu he k heo) (I.hok.write mu he k heo new)
theorem Inv.weak {σ' : List (Option V)} (I : Inv X pins σ H s) (hl : σ'.length = σ.length) (w : ∀ (i : Nat) v, σ'[i]? = some (some v) -> σ[i]? = some (some v)) : Inv X pins σ' H s :=
 ⟨I.ok, I.os, I.bare, I.base, let ⟨m, hn, hl'⟩ := I.loc; ⟨m, hn, fun i x v e1 e2 e3 => hl' i x v e1 (w i v e2) e3⟩, I.cell, I.free, I.freeC, I.pin, I.hok, hl.trans I.len⟩
theorem Inv.pins_of {pins' : List (Addr × Obj)} (I : Inv X pins σ H s) (h : ∀ p ∈ pins', s.heap.get? p.1 = some p.2 /\ H p.1 = none /\ p.1 ≠ X.env.locals /\ p.1 ∉ X.fs /\ ∀ v, p.2.data ≠ .cell v) : Inv X pins' σ H s :=
 ⟨I.ok, I.os, I.bare, I.base, I.loc, I.cell, I.free, I.freeC, fun p hp => (List.mem_append.mp hp).elim (fun z => I.pin p (List.mem_append_left _ z)) (h p), I.hok, I.len⟩
theorem nodup_ix {N : List Str} (hN : N.Nodup) {i j : Nat} {x : Str} (a : N[i]? = some x) (b : N[j]? = some x) : i = j := by
 obtain ⟨h1, e1⟩ := List.getElem?_eq_some_iff.mp a
 obtain ⟨h2, e2⟩ := List.getElem?_eq_some_iff.mp b
 exact (List.getElem_inj hN).mp (e1.trans e2.symm)
theorem store_ok2 {M : Model} {A : Around} {E : Value -> Shared -> Prop} {i : Nat} {x : Str} {v : V} {u : Value} {Q : Unit -> Shared -> Prop} (I : Inv X pins σ H s) (hN : X.N.Nodup) (hi : X.N[i]? = some x) (hx : Loc X.env.scope x) (r : RelV v u)
  (h : ∀ s', Inv X pins (σ.set i (some v)) H s' -> (∃ a, Heap.SameBut a s.heap s'.heap /\ (a = X.env.locals ∨ X.env.cells.lookup x = some a)) -> Q () s') (hf : X.fn x = true ∨ X.env.scope.names.lookup x = some .local := by first | exact .inl rfl | exact .inr rfl | assumption) : wpAny M A (storeName X.env x u) Q E s := by
 obtain ⟨m, hn, hl⟩ := id I.loc
 have hcls : (X.env.scope.kind == .class || (X.env.scope.kind == .module && X.env.locals != X.env.globals)) = false := by rw [I.ok.kind]; rfl
 have hiσ : i < σ.length := by rw [I.len]; exact (List.getElem?_eq_some_iff.mp hi).1
 have cne := I.cne
 have tracked : ∀ {a : Addr} {h' : Heap}, (∃ o, s.heap.get? a = some o /\ H a = none) -> Heap.SameBut a s.heap h' -> HOk X.prog X.w H h' := fun {a h'} ha hs b ob e => by
  obtain ⟨_, _, hfree⟩ := ha
  refine (I.hok b ob e).stay (fun c w' hc q => (hs.2 c ?_).trans q) (fun _ q => q) fun _ _ q => q
  rintro rfl
  rcases hc with rfl | hc
  ·rw [hfree] at e; cases e
  ·rw [hfree] at hc; cases hc
 rcases hx with hk | hk
 ·refine wpAny_storeName_local hk hn (fun h' hn' hs => ?_) hcls
  obtain ⟨oL, _, _, hoL, _⟩ := id hn
  refine h _ ⟨I.ok, I.os, I.bare, ⟨fun b o e n hb hx => ?_, fun b o e n hb hx => ?_, I.base.free, fun b o e hx => ?_, I.base.tups, I.base.frzs, I.base.tbls⟩, ⟨_, hn', fun j y v' e1 e2 e3 => ?_⟩, fun y c e => ?_, I.free, I.freeC, fun p hp => ?_, tracked ⟨oL, hoL, I.free⟩ hs, by simpa using I.len⟩ ⟨_, hs, .inl rfl⟩
  ·exact (hs.2 b (Nat.ne_of_lt (Nat.lt_of_lt_of_le (Heap.lt_size e) I.ok.above))).trans (I.base.keep b o e n hb hx)
  ·obtain ⟨sl, e1⟩ := I.base.slot b o e n hb hx
   exact ⟨sl, (hs.2 b (Nat.ne_of_lt (Nat.lt_of_lt_of_le (Heap.lt_size e) I.ok.above))).trans e1⟩
  ·obtain ⟨o', e1⟩ := I.base.there b o e hx
   exact ⟨o', (hs.2 b (Nat.ne_of_lt (Nat.lt_of_lt_of_le (Heap.lt_size e) I.ok.above))).trans e1⟩
  ·by_cases hj : j = i
   ·subst hj
    rw [hi] at e1; cases e1
    rw [List.getElem?_set_self hiσ] at e2
    cases e2
    exact ⟨u, r, .inl ⟨hk, by simp⟩⟩
   ·rw [List.getElem?_set_ne (Ne.symm hj)] at e2
    obtain ⟨u', r', q⟩ := hl j y v' e1 e2 e3
    refine ⟨u', r', ?_⟩
    rcases q with ⟨k, e⟩ | ⟨k, c, e, z⟩
    ·refine .inl ⟨k, ?_⟩
     have : y ≠ x := fun e => hj (nodup_ix hN e1 (e ▸ hi))
     simp [this, e]
    ·exact .inr ⟨k, c, e, z.sameBut hs (cne y c e)⟩
  ·obtain ⟨w', z⟩ := I.cell y c e
   exact ⟨w', z.sameBut hs (cne y c e)⟩
  ·obtain ⟨e, n, ne, nf, d⟩ := I.pin p hp
   exact ⟨(hs.2 p.1 ne).trans e, n, ne, nf, d⟩
 ·have hfn : X.fn x = true := by
   rcases hf with z | z
   ·exact z
   ·rw [z] at hk; cases hk
  obtain ⟨c, hc⟩ := I.ok.has x (.inl hk)
  obtain ⟨w', z⟩ := I.cell x c hc
  refine wpAny_storeName_cell I.ok.kind hk hc z (fun h' hc' hs => ?_)
  obtain ⟨oc, hoc, hocd⟩ := id z
  refine h { s with heap := h' } ⟨I.ok, I.os, I.bare, ⟨fun b o e n hb hx => ?_, fun b o e n hb hx => ?_, I.base.free, fun b o e hx => ?_, I.base.tups, I.base.frzs, I.base.tbls⟩, ⟨m, hn.sameBut hs (Ne.symm (cne x c hc)), fun j y v' e1 e2 e3 => ?_⟩, fun y c' e => ?_, I.free, I.freeC, fun p hp => ?_, tracked ⟨oc, hoc, I.freeC x c hc⟩ hs, by simpa using I.len⟩ ⟨c, hs, .inr hc⟩
  ·exact (hs.2 b (Nat.ne_of_lt (Nat.lt_of_lt_of_le (Heap.lt_size e) (I.ok.cab x c hfn hc)))).trans (I.base.keep b o e n hb hx)
  ·obtain ⟨sl, e1⟩ := I.base.slot b o e n hb hx
   exact ⟨sl, (hs.2 b (Nat.ne_of_lt (Nat.lt_of_lt_of_le (Heap.lt_size e) (I.ok.cab x c hfn hc)))).trans e1⟩
  ·obtain ⟨o', e1⟩ := I.base.there b o e hx
   exact ⟨o', (hs.2 b (Nat.ne_of_lt (Nat.lt_of_lt_of_le (Heap.lt_size e) (I.ok.cab x c hfn hc)))).trans e1⟩
  ·by_cases hj : j = i
   ·subst hj
    rw [hi] at e1; cases e1
    rw [List.getElem?_set_self hiσ] at e2
    cases e2
    exact ⟨u, r, .inr ⟨.inl hk, c, hc, hc'⟩⟩
   ·rw [List.getElem?_set_ne (Ne.symm hj)] at e2
    obtain ⟨u', r', q⟩ := hl j y v' e1 e2 e3
    refine ⟨u', r', ?_⟩
    rcases q with q | ⟨k, c', e, z'⟩
    ·exact .inl q
    ·refine .inr ⟨k, c', e, z'.sameBut hs ?_⟩
     rintro rfl
     exact hj (nodup_ix hN e1 (I.ok.inj _ _ _ e hc ▸ hi))
  ·by_cases hcc : c' = c
   ·subst hcc; exact ⟨_, hc'⟩
   ·obtain ⟨w2, z2⟩ := I.cell y c' e
    exact ⟨w2, z2.sameBut hs hcc⟩
  ·obtain ⟨e, n, ne, nf, d⟩ := I.pin p hp
   refine ⟨(hs.2 p.1 ?_).trans e, n, ne, nf, d⟩
   intro q
   rw [q, hoc] at e
   have q' : oc = p.2 := Option.some.inj e
   exact d w' (by rw [← q']; exact hocd)
theorem store_ok {M : Model} {A : Around} {E : Value -> Shared -> Prop} {i : Nat} {x : Str} {v : V} {u : Value} {Q : Unit -> Shared -> Prop} (I : Inv X pins σ H s) (hN : X.N.Nodup) (hi : X.N[i]? = some x) (hx : Loc X.env.scope x) (r : RelV v u)
  (h : ∀ s', Inv X pins (σ.set i (some v)) H s' -> Q () s') (hf : X.fn x = true ∨ X.env.scope.names.lookup x = some .local := by first | exact .inl rfl | exact .inr rfl | assumption) : wpAny M A (storeName X.env x u) Q E s :=
 store_ok2 I hN hi hx r (fun s' I' _ => h s' I') hf
theorem Inv.call' {s' : Shared} {ch : List Addr} (I : Inv X pins σ H s) (ho : s'.os = s.os) (u : Un (frs X.stack) ch H H' s.heap s'.heap) (hok : HOk X.prog X.w H' s'.heap) (hg : AllBare s'.gens)
  (hch : ∀ b ∈ ch, (b ∈ X.ex ∨ X.s₀.heap.get? b = none) /\ b ≠ X.env.locals /\ (∀ x c, X.env.cells.lookup x = some c -> c ≠ b) /\ ∀ p ∈ X.pn ++ pins, p.1 ≠ b) : Inv X pins σ H' s' := by
 obtain ⟨h', g', d', t', o'⟩ := s'
 have e : o' = s.os := ho
 subst e
 exact I.call (g' := g') (t' := t') (d' := d') u hok hg hch
end
abbrev XK := Value -> Option Addr -> Hp -> Prop
abbrev St := List (Option V)
abbrev VK := V -> Hp -> Prop
abbrev TE := St -> Hp -> VK -> Prop
abbrev TT := St -> Hp -> (Bool -> Hp -> Prop) -> Prop
abbrev TA := St -> Hp -> (List V -> Hp -> Prop) -> Prop
structure Ends where
 nx : St -> Hp -> Prop
 rt : VK
 bk : St -> Hp -> Prop := fun _ _ => False
 ct : St -> Hp -> Prop := fun _ _ => False
abbrev TS := Ends -> St -> Hp -> Prop
def EP (X : Cx) (pins : List (Addr × Obj)) (σ : St) (Q : VK) (u : Value) (s' : Shared) : Prop := ∃ v H', Inv X pins σ H' s' /\ RelV v u /\ Q v H'
def TP (X : Cx) (pins : List (Addr × Obj)) (σ : St) (Q : Bool -> Hp -> Prop) (b : Bool) (s' : Shared) : Prop := ∃ H', Inv X pins σ H' s' /\ Q b H'
def AP (X : Cx) (pins : List (Addr × Obj)) (σ : St) (Q : List V -> Hp -> Prop) (us : List Value) (s' : Shared) : Prop := ∃ vs H', Inv X pins σ H' s' /\ Vals vs us /\ Q vs H'
def SP (X : Cx) (pins : List (Addr × Obj)) (D : Ends) (f : Flow) (s' : Shared) : Prop :=
 match f with
 | .next => ∃ σ' H', Inv X pins σ' H' s' /\ D.nx σ' H'
 | .brk => ∃ σ' H', Inv X pins σ' H' s' /\ D.bk σ' H'
 | .cont => ∃ σ' H', Inv X pins σ' H' s' /\ D.ct σ' H'
 | .ret u => ∃ v σ' H', Inv X pins σ' H' s' /\ RelV v u /\ D.rt v H'
def PE (X : Cx) (e : Expr) (t : TE) : Prop :=
 ∀ (pins : List (Addr × Obj)) (s : Shared) (σ : St) (H : Hp) (Q : VK), Inv X pins σ H s -> t σ H Q -> wpAny (model X.prog X.w) X.A (eval e X.env) (EP X pins σ Q) X.xe s
def PT (X : Cx) (e : Expr) (t : TT) : Prop :=
 ∀ (pins : List (Addr × Obj)) (s : Shared) (σ : St) (H : Hp) (Q : Bool -> Hp -> Prop), Inv X pins σ H s -> t σ H Q -> wpAny (model X.prog X.w) X.A (isTrue e X.env (eval e X.env)) (TP X pins σ Q) X.xe s
def PW (X : Cx) (e : Expr) (t : TT) : Prop :=
 ∀ (whole : Sem Value) (pins : List (Addr × Obj)) (s : Shared) (σ : St) (H : Hp) (Q : Bool -> Hp -> Prop), Inv X pins σ H s -> t σ H Q -> wpAny (model X.prog X.w) X.A (isTrue e X.env whole) (TP X pins σ Q) X.xe s
theorem PW.pt {X : Cx} {e : Expr} {t : TT} (h : PW X e t) : PT X e t := h _
def PA (X : Cx) (es : List Expr) (t : TA) : Prop :=
 ∀ (pos : Pos) (pins : List (Addr × Obj)) (s : Shared) (σ : St) (H : Hp) (Q : List V -> Hp -> Prop), Inv X pins σ H s -> t σ H Q -> wpAny (model X.prog X.w) X.A (spliced (backTo pos (starEach es X.env))) (AP X pins σ Q) X.xe s
def PS (X : Cx) (st : Stmt) (t : TS) : Prop :=
 ∀ (pins : List (Addr × Obj)) (s : Shared) (σ : St) (H : Hp) (D : Ends), Inv X pins σ H s -> t D σ H -> wpAny (model X.prog X.w) X.A (exec st X.env) (SP X pins D) X.xe s
def PSs (X : Cx) (st : List Stmt) (t : TS) : Prop :=
 ∀ (pins : List (Addr × Obj)) (s : Shared) (σ : St) (H : Hp) (D : Ends), Inv X pins σ H s -> t D σ H -> wpAny (model X.prog X.w) X.A (execs st X.env) (SP X pins D) X.xe s
theorem thn {α : Type} {t : Sem α} {Q Q' : α -> Shared -> Prop} {M : Model} {A : Around} {E : Value -> Shared -> Prop} {s : Shared} (h : wpAny M A t Q E s) (hQ : ∀ a s, Q a s -> Q' a s) : wpAny M A t Q' E s := wpAny_mono h hQ fun _ _ x => x
end L2
namespace L2
open PySem PySem.Spec PyProof.Rows
section
variable {X : Cx}
def tVar (i : Nat) : TE := fun σ H Q => ∃ v, σ[i]? = some (some v) /\ Q v H
def tC (v : V) : TE := fun _ H Q => Q v H
theorem pe_var {i : Nat} {x : Str} {pos : Pos} (hN : X.N[i]? = some x) (hv : Vis X.env.scope x) (hd : (x == ("__debug__" : Str)) = false := by decide) (hcd : (x == ("__classdict__" : Str)) = false := by decide) : PE X (.Name x pos) (tVar i) := by
 intro pins s σ H Q I h
 obtain ⟨v, e, h⟩ := h
 obtain ⟨m, hn, hl⟩ := I.loc
 obtain ⟨u, r, l⟩ := hl i x v hN e hv
 have fin : EP X pins σ Q u s := ⟨v, H, I, r, h⟩
 rcases l with ⟨hk, hm⟩ | ⟨hk, c, hc, hcell⟩
 ·exact wpAny_Name (wpAny_loadName_local I.ok.kind hk hn hm fin) hd
 ·rcases hk with hk | hk
  ·exact wpAny_Name (wpAny_loadName_cell I.ok.kind hk hc hcell fin) hd
  ·exact wpAny_Name (wpAny_loadName_free I.ok.kind hk hc hcell fin hcd) hd
theorem pe_int {i j pos} : PE X (.Constant (.int i) j pos) (tC (.int i)) := fun _ _ _ H _ I h => wpAny_Constant_int ⟨.int i, H, I.tok _, ⟨_, rfl⟩, h⟩
theorem pe_bl {b j pos} : PE X (.Constant (.bool b) j pos) (tC (.bl b)) := fun _ _ _ H _ I h => Constant_bool ⟨.bl b, H, I, rfl, h⟩
theorem pe_non {j pos} : PE X (.Constant .none j pos) (tC .non) := fun _ _ _ H _ I h => Constant_none ⟨.non, H, I, rfl, h⟩
theorem pe_str {x j pos} : PE X (.Constant (.str x) j pos) (tC (.str x)) := fun _ _ _ H _ I h => Calls.Constant_str ⟨.str x, H, I.tok _, ⟨_, rfl⟩, h⟩
def Gl (X : Cx) (x : Str) : Prop := X.env.kindOf x = some .globalImplicit
theorem ld_glob {E : Value -> Shared -> Prop} {pins : List (Addr × Obj)} {s : Shared} {σ : St} {H : Hp} {x : Str} {u : Value} {pos : Pos} {Q : Value -> Shared -> Prop} (I : Inv X pins σ H s) (hg : Gl X x) (hm : X.mg x = some u) (h : Q u s)
  (hd : (x == ("__debug__" : Str)) = false := by decide) : wpAny (model X.prog X.w) X.A (eval (.Name x pos) X.env) Q E s :=
 Calls.Name_function_global I.ok.kind hg (Calls.loadGlobal_global (by rw [I.ok.glob]; exact I.mod.glob.keeps I.bk) hm h) hd
theorem ld_blt {E : Value -> Shared -> Prop} {pins : List (Addr × Obj)} {s : Shared} {σ : St} {H : Hp} {x : Str} {u : Value} {pos : Pos} {Q : Value -> Shared -> Prop} (I : Inv X pins σ H s) (hg : Gl X x) (hm : X.mg x = none) (hv : bootBuiltins x = some u) (h : Q u s)
  (hn : x ≠ "__name__" := by decide) (hd : (x == ("__debug__" : Str)) = false := by decide) : wpAny (model X.prog X.w) X.A (eval (.Name x pos) X.env) Q E s := by
 obtain ⟨mb, h1, h2⟩ := I.mod.blt
 exact Calls.Name_function_global I.ok.kind hg (Calls.loadGlobal_builtin (by rw [I.ok.glob]; exact I.mod.glob.keeps I.bk) hm (by rw [I.ok.blt]; exact h1.keeps I.bk) ((h2 x hn).trans hv) h) hd
theorem pe_glob {x : Str} {v : V} {u : Value} {pos : Pos} (hg : Gl X x) (hm : X.mg x = some u) (r : RelV v u) (hd : (x == ("__debug__" : Str)) = false := by decide) : PE X (.Name x pos) (tC v) :=
 fun _ _ _ H _ I h => ld_glob I hg hm ⟨v, H, I, r, h⟩ hd
theorem pe_bltn {x : Str} {v : V} {u : Value} {pos : Pos} (hg : Gl X x) (hm : X.mg x = none) (hv : bootBuiltins x = some u) (r : RelV v u) (hn : x ≠ "__name__" := by decide) (hd : (x == ("__debug__" : Str)) = false := by decide) : PE X (.Name x pos) (tC v) :=
 fun _ _ _ H _ I h => ld_blt I hg hm hv ⟨v, H, I, r, h⟩ hn hd
def t2I (ta tb : TE) (k : Int -> Int -> Hp -> Prop) : St -> Hp -> Prop := fun σ H => ta σ H fun x H1 => tb σ H1 fun y H2 => ∃ i j, x = .int i /\ y = .int j /\ k i j H2
def tAdd (ta tb : TE) : TE := fun σ H Q => t2I ta tb (fun i j H2 => Q (.int (i + j)) H2) σ H
def tSub (ta tb : TE) : TE := fun σ H Q => t2I ta tb (fun i j H2 => Q (.int (i - j)) H2) σ H
def tMul (ta tb : TE) : TE := fun σ H Q => t2I ta tb (fun i j H2 => (-(2 ^ 64) < i /\ i < 2 ^ 64) /\ Q (.int (i * j)) H2) σ H
variable {a b : Expr} {ta tb : TE} {pos : Pos}
def PC (X : Cx) (op : CmpOp) (a b : Expr) (t : TE) : Prop :=
 ∀ (pins : List (Addr × Obj)) (s : Shared) (σ : St) (H : Hp) (Q : VK), Inv X pins σ H s -> t σ H Q →
  wpAny (model X.prog X.w) X.A (eval a X.env) (fun v s₁ => wpAny (model X.prog X.w) X.A (eval b X.env) (fun u s₂ => wpAny (model X.prog X.w) X.A (compareOp op v u) (EP X pins σ Q) X.xe s₂) X.xe s₁) X.xe s
def tCmp (p : Int -> Int -> Bool) (ta tb : TE) : TE := fun σ H Q => t2I ta tb (fun i j H2 => Q (.bl (p i j)) H2) σ H
abbrev tLt : TE -> TE -> TE := tCmp fun i j => decide (i < j)
abbrev tLe : TE -> TE -> TE := tCmp fun i j => decide (i ≤ j)
abbrev tGt : TE -> TE -> TE := tCmp fun i j => decide (j < i)
abbrev tGe : TE -> TE -> TE := tCmp fun i j => decide (j ≤ i)
abbrev tEqI : TE -> TE -> TE := tCmp fun i j => decide (i = j)
abbrev tNeI : TE -> TE -> TE := tCmp fun i j => !decide (i = j)
def tIsN (ta : TE) : TE := fun σ H Q => ta σ H fun x H1 => Q (.bl (decide (x = .non))) H1
def tNotN (ta : TE) : TE := fun σ H Q => ta σ H fun x H1 => Q (.bl (!decide (x = .non))) H1
def tB (t : TE) : TT := fun σ H Q => t σ H fun x H1 => ∃ c, x = .bl c /\ Q c H1
theorem pt_val {e : Expr} {t : TE} (h : PE X e t) (he : ∀ whole, isTrue e X.env whole = (do let v ← whole; standAt e.pos; holding [v] (truthy v)) := by intro _; rfl) : PT X e (tB t) := by
 intro pins s σ H Q I hw
 refine isTrue_plain (thn (h pins s σ H _ I hw) fun v s1 ⟨x, H1, I1, r1, q1⟩ => ?_) (he _)
 obtain ⟨d, rfl, q⟩ := q1
 cases r1
 exact wpAny_truthy_bool ⟨H1, I1, q⟩
variable {tA tB' : TT} {rest : List Expr}
def tAnd (t u : TT) : TT := fun σ H Q => t σ H fun c H1 => if c = true then u σ H1 Q else Q false H1
def tOr (t u : TT) : TT := fun σ H Q => t σ H fun c H1 => if c = true then Q true H1 else u σ H1 Q
def tNot (t : TT) : TT := fun σ H Q => t σ H fun c H1 => Q (!c) H1
theorem pw_and1 (ha : PT X a tA) : PW X (.BoolOp .And [a] pos) tA := by
 intro wh pins s σ H Q I h
 refine isTrue_and (thn (ha pins s σ H Q I h) fun c s1 e => ?_)
 cases c with
 | true => exact isTrue_and_nil e
 | false => exact e
theorem pw_or1 (ha : PT X a tA) : PW X (.BoolOp .Or [a] pos) tA := by
 intro wh pins s σ H Q I h
 refine isTrue_or (thn (ha pins s σ H Q I h) fun c s1 e => ?_)
 cases c with
 | false => exact isTrue_or_nil e
 | true => exact e
theorem pw_and (ha : PT X a tA) (hb : PW X (.BoolOp .And (b :: rest) pos) tB') : PW X (.BoolOp .And (a :: b :: rest) pos) (tAnd tA tB') := by
 intro wh pins s σ H Q I h
 refine isTrue_and (thn (ha pins s σ H _ I h) fun c s1 ⟨H1, I1, q1⟩ => ?_)
 cases c with
 | true => exact hb wh pins s1 σ H1 Q I1 q1
 | false => exact ⟨H1, I1, q1⟩
theorem pw_or (ha : PT X a tA) (hb : PW X (.BoolOp .Or (b :: rest) pos) tB') : PW X (.BoolOp .Or (a :: b :: rest) pos) (tOr tA tB') := by
 intro wh pins s σ H Q I h
 refine isTrue_or (thn (ha pins s σ H _ I h) fun c s1 ⟨H1, I1, q1⟩ => ?_)
 cases c with
 | true => exact ⟨H1, I1, q1⟩
 | false => exact hb wh pins s1 σ H1 Q I1 q1
theorem pt_not (ha : PT X a tA) : PT X (.UnaryOp .Not a pos) (tNot tA) := by
 intro pins s σ H Q I h
 exact isTrue_not (ha pins s σ H (fun c H1 => Q (!c) H1) I h)
def tAndV (ta tb : TE) : TE := fun σ H Q => ta σ H fun x H1 => ∃ c, x = .bl c /\ if c = true then tb σ H1 Q else Q (.bl false) H1
def tOrV (ta tb : TE) : TE := fun σ H Q => ta σ H fun x H1 => ∃ c, x = .bl c /\ if c = true then Q (.bl true) H1 else tb σ H1 Q
def tNotV (ta : TE) : TE := fun σ H Q => ta σ H fun x H1 => ∃ c, x = .bl c /\ Q (.bl (!c)) H1
theorem pe_one {op} {t : TE} (h : PE X a t) : PE X (.BoolOp op [a] pos) t := fun pins s σ H Q I hw => BoolOp_one (h pins s σ H Q I hw)
theorem pe_and (ha : PE X a ta) (hb : PE X (.BoolOp .And (b :: rest) pos) tb) : PE X (.BoolOp .And (a :: b :: rest) pos) (tAndV ta tb) := by
 intro pins s σ H Q I h
 refine BoolOp_and (thn (ha pins s σ H _ I h) fun v s1 ⟨x, H1, I1, r1, q1⟩ => ?_)
 obtain ⟨c, rfl, q1⟩ := q1
 cases r1
 refine wpAny_truthy_bool ?_
 cases c with
 | true => exact hb pins s1 σ H1 Q I1 q1
 | false => exact ⟨.bl false, H1, I1, rfl, q1⟩
theorem pe_or (ha : PE X a ta) (hb : PE X (.BoolOp .Or (b :: rest) pos) tb) : PE X (.BoolOp .Or (a :: b :: rest) pos) (tOrV ta tb) := by
 intro pins s σ H Q I h
 refine BoolOp_or (thn (ha pins s σ H _ I h) fun v s1 ⟨x, H1, I1, r1, q1⟩ => ?_)
 obtain ⟨c, rfl, q1⟩ := q1
 cases r1
 refine wpAny_truthy_bool ?_
 cases c with
 | false => exact hb pins s1 σ H1 Q I1 q1
 | true => exact ⟨.bl true, H1, I1, rfl, q1⟩
theorem pe_not (ha : PE X a ta) : PE X (.UnaryOp .Not a pos) (tNotV ta) := by
 intro pins s σ H Q I h
 refine UnaryOp_ (thn (ha pins s σ H _ I h) fun v s1 ⟨x, H1, I1, r1, q1⟩ => ?_)
 obtain ⟨c, rfl, q1⟩ := q1
 cases r1
 exact not_of (wpAny_truthy_bool ⟨.bl (!c), H1, I1, rfl, q1⟩)
def tIf (t : TT) (ta tb : TE) : TE := fun σ H Q => t σ H fun c H1 => if c = true then ta σ H1 Q else tb σ H1 Q
theorem pe_ifExp {c : Expr} (hc : PT X c tA) (ha : PE X a ta) (hb : PE X b tb) : PE X (.IfExp c a b pos) (tIf tA ta tb) := by
 intro pins s σ H Q I h
 refine wpAny_IfExp (thn (hc pins s σ H _ I h) fun d s1 ⟨H1, I1, q1⟩ => ?_)
 cases d with
 | true => exact ha pins s1 σ H1 Q I1 q1
 | false => exact hb pins s1 σ H1 Q I1 q1
end
end L2
namespace L2
open PySem PySem.Spec PyProof.Rows
def SqL (K : PySem.W.Frag) (H : Hp) (a : Addr) (xs : List V) : Prop :=
 Rd H a (.lst xs) ∨
  ∃ (o : Obj) (its : Array Value) (n : Nat), K.lookup a = some o /\ o.cls = .type "list" /\ o.dict = none /\ o.data = .seq its n /\ its.size ≤ sizeLine /\ Vals xs its.toList
def SqT (K : PySem.W.Frag) (H : Hp) (a : Addr) (xs : List V) : Prop :=
 Rd H a (.tup xs) ∨
  ∃ (o : Obj) (its : Array Value) (n : Nat), K.lookup a = some o /\ o.cls = .type "tuple" /\ o.data = .seq its n /\ its.size ≤ sizeLine /\ Vals xs its.toList
def absV : Value -> Option V
 | .none => some .non
 | .bool b => some (.bl b)
 | .int i _ => some (.int i)
 | .str x _ => some (.str x)
 | .bytes b _ => some (.byt b)
 | .float b _ => some (.flt b)
 | .ref a => some (.ref a)
 | .type n => some (.ty n)
 | _ => none
theorem RelV.abs {x : V} {u : Value} (r : RelV x u) : absV u = some x := by
 cases x with
 | non => cases r; rfl
 | bl _ => cases r; rfl
 | int _ => obtain ⟨t, rfl⟩ := r; rfl
 | str _ => obtain ⟨t, rfl⟩ := r; rfl
 | byt _ => obtain ⟨t, rfl⟩ := r; rfl
 | flt _ => obtain ⟨t, rfl⟩ := r; rfl
 | ref _ => cases r; rfl
 | ty _ => cases r; rfl
theorem RelV.inj {x y : V} {u : Value} (r : RelV x u) (q : RelV y u) : x = y := Option.some.inj (r.abs.symm.trans q.abs)
theorem Vals.inj : ∀ {xs ys : List V} {us : List Value}, Vals xs us -> Vals ys us -> xs = ys
 | _, _, _, .nil, .nil => rfl
 | _, _, _, .cons r t, .cons r' t' => by rw [r.inj r', Vals.inj t t']
section
variable {X : Cx} {pins : List (Addr × Obj)} {σ : St} {H : Hp} {s : Shared} {a : Addr} {xs ys : List V}
theorem SqL.of {K : PySem.W.Frag} (h : H a = some (.lst xs)) : SqL K H a xs := .inl (.inl h)
theorem SqT.of {K : PySem.W.Frag} (h : H a = some (.tup xs)) : SqT K H a xs := .inl (.inl h)
theorem Inv.list (I : Inv X pins σ H s) (h : SqL X.K H a xs) : ∃ its : List Value, Vals xs its /\ PlainL s.heap a its.toArray /\ xs.length ≤ sizeLine := by
 rcases h with h | ⟨o, its, n, hk, hc, hd, hs, hz, r⟩
 ·obtain ⟨z, its, n, r, e⟩ := h.ok I.hok
  exact ⟨its, r, ⟨_, n, e, rfl, rfl, rfl⟩, z⟩
 ·refine ⟨its.toList, r, ⟨o, n, I.kIn a o hk, hc, hd, by simpa using hs⟩, ?_⟩
  have e := r.length
  simp only [Array.length_toList] at e
  omega
theorem Inv.tuple (I : Inv X pins σ H s) (h : SqT X.K H a xs) : ∃ its : List Value, Vals xs its /\ IsTup s.heap a its.toArray /\ xs.length ≤ sizeLine := by
 rcases h with h | ⟨o, its, n, hk, hc, hs, hz, r⟩
 ·obtain ⟨z, its, r, p⟩ := h.ok I.hok
  exact ⟨its, r, p, z⟩
 ·refine ⟨its.toList, r, ⟨o, I.kIn a o hk, hc, n, by simpa using hs⟩, ?_⟩
  have e := r.length
  simp only [Array.length_toList] at e
  omega
theorem Inv.list_inj (I : Inv X pins σ H s) (h : SqL X.K H a xs) (h' : SqL X.K H a ys) : xs = ys := by
 obtain ⟨its, r, ⟨o, n, e, _, _, d⟩, _⟩ := I.list h
 obtain ⟨its', r', ⟨o', n', e', _, _, d'⟩, _⟩ := I.list h'
 rw [e] at e'; cases e'
 rw [d] at d'
 injection d' with d1 _
 have : its = its' := by simpa using congrArg Array.toList d1
 subst this
 exact r.inj r'
theorem Inv.tuple_inj (I : Inv X pins σ H s) (h : SqT X.K H a xs) (h' : SqT X.K H a ys) : xs = ys := by
 obtain ⟨its, r, ⟨o, e, _, n, d⟩, _⟩ := I.tuple h
 obtain ⟨its', r', ⟨o', e', _, n', d'⟩, _⟩ := I.tuple h'
 rw [e] at e'; cases e'
 rw [d] at d'
 injection d' with d1 _
 have : its = its' := by simpa using congrArg Array.toList d1
 subst this
 exact r.inj r'
end
abbrev Cx.wish (X : Cx) (E : Value -> Shared -> Prop) : Cx := { X with xe := E }
abbrev Cx.nox (X : Cx) : Cx := X.wish fun _ _ => False
theorem Cx.Ok.wish {X : Cx} (ok : X.Ok) (E : Value -> Shared -> Prop) : (X.wish E).Ok :=
 ⟨ok.mod, ok.kind, ok.glob, ok.blt, ok.above, ok.inj, ok.has, ok.cab, ok.hd, ok.frames, ok.stk, ok.exf, ok.bs, ok.bsz, ok.noex, ok.exfs, ok.funs, ok.frf⟩
theorem Cx.Ok.unwish {X : Cx} {E : Value -> Shared -> Prop} (ok : (X.wish E).Ok) : X.Ok :=
 ⟨ok.mod, ok.kind, ok.glob, ok.blt, ok.above, ok.inj, ok.has, ok.cab, ok.hd, ok.frames, ok.stk, ok.exf, ok.bs, ok.bsz, ok.noex, ok.exfs, ok.funs, ok.frf⟩
section
variable {X : Cx} {pins : List (Addr × Obj)} {σ : St} {H : Hp} {s : Shared} {E : Value -> Shared -> Prop}
theorem Inv.wish (I : Inv X pins σ H s) (E : Value -> Shared -> Prop) : Inv (X.wish E) pins σ H s := ⟨I.ok.wish E, I.os, I.bare, I.base, I.loc, I.cell, I.free, I.freeC, I.pin, I.hok, I.len⟩
theorem Inv.unwish (I : Inv (X.wish E) pins σ H s) : Inv X pins σ H s := ⟨I.ok.unwish, I.os, I.bare, I.base, I.loc, I.cell, I.free, I.freeC, I.pin, I.hok, I.len⟩
theorem SP.unwish {D : Ends} {f : Flow} {s' : Shared} (h : SP (X.wish E) pins D f s') : SP X pins D f s' := by
 cases f with
 | next => obtain ⟨σ', H', I, q⟩ := h; exact ⟨σ', H', I.unwish, q⟩
 | brk => obtain ⟨σ', H', I, q⟩ := h; exact ⟨σ', H', I.unwish, q⟩
 | cont => obtain ⟨σ', H', I, q⟩ := h; exact ⟨σ', H', I.unwish, q⟩
 | ret u => obtain ⟨v, σ', H', I, r, q⟩ := h; exact ⟨v, σ', H', I.unwish, r, q⟩
theorem PSs.nox {st : List Stmt} {t : TS} (h : PSs X.nox st t) : PSs X st t := fun pins s σ H D I hw =>
 wpAny_mono (h pins s σ H D (I.wish _) hw) (fun _ _ q => q.unwish) fun _ _ z => False.elim z
end
section
variable {X : Cx} {st : Stmt} {rest : List Stmt} {t u : TS} {e : Expr} {te : TE} {pos : Pos}
def tNext : TS := fun D σ H => D.nx σ H
def tSeq (t u : TS) : TS := fun D σ H => t { D with nx := u D } σ H
theorem pss_nil : PSs X [] tNext := fun _ _ σ H _ I h => wpAny_execs_nil ⟨σ, H, I, h⟩
theorem pss_cons (h1 : PS X st t) (h2 : PSs X rest u) : PSs X (st :: rest) (tSeq t u) := by
 intro pins s σ H D I h
 refine wpAny_execs_cons (thn (h1 pins s σ H { D with nx := u D } I h) fun f s1 q => ?_)
 cases f with
 | next =>
  obtain ⟨σ', H', I', q⟩ := q
  exact h2 pins s1 σ' H' D I' q
 | ret v => exact q
 | brk => exact q
 | cont => exact q
theorem pss_one (h1 : PS X st t) : PSs X [st] t := by
 intro pins s σ H D I h
 refine wpAny_execs_cons (thn (h1 pins s σ H D I h) fun f s1 q => ?_)
 cases f with
 | next => exact wpAny_execs_nil q
 | ret v => exact q
 | brk => exact q
 | cont => exact q
def tBreak : TS := fun D σ H => D.bk σ H
def tCont : TS := fun D σ H => D.ct σ H
theorem Inv.quiet {pins : List (Addr × Obj)} {σ : St} {H : Hp} {s : Shared} (I : Inv X pins σ H s) : interactive X.env = false := by simp [interactive, I.ok.kind]
def tDrop (te : TE) : TS := fun D σ H => te σ H fun _ H1 => D.nx σ H1
theorem ps_expr (he : PE X e te) (hs : swapsWith e none pos.line X.env = pure false := by rfl) : PS X (.Expr e pos) (tDrop te) := by
 intro pins s σ H D I h
 exact wpAny_Expr_any (thn (he pins s σ H _ I h) fun v s1 ⟨x, H1, I1, r1, q1⟩ => ⟨σ, H1, I1, q1⟩) I.quiet hs
def tRet (te : TE) : TS := fun D σ H => te σ H D.rt
theorem ps_ret (he : PE X e te) : PS X (.Return (some e) pos) (tRet te) := by
 intro pins s σ H D I h
 exact wpAny_Return_some (thn (he pins s σ H _ I h) fun v s1 ⟨x, H1, I1, r1, q1⟩ => ⟨x, σ, H1, I1, r1, q1⟩)
def tRetN : TS := fun D _ H => D.rt .non H
def tIfS (c : TT) (t u : TS) : TS := fun D σ H => c σ H fun b H1 => if b = true then t D σ H1 else u D σ H1
theorem ps_if {c : Expr} {a b : List Stmt} {tc : TT} (hc : PT X c tc) (ha : PSs X a t) (hb : PSs X b u) : PS X (.If c a b pos) (tIfS tc t u) := by
 intro pins s σ H D I h
 refine wpAny_If (thn (hc pins s σ H _ I h) fun d s1 ⟨H1, I1, q1⟩ => ?_)
 cases d with
 | true => exact ha pins s1 σ H1 D I1 q1
 | false => exact hb pins s1 σ H1 D I1 q1
def tNever : TS := fun _ _ _ => False
theorem ps_never : PS X st tNever := fun _ _ _ _ _ _ h => h.elim
end
abbrev TG := V -> St -> Hp -> (St -> Hp -> Prop) -> Prop
abbrev TGs := List V -> St -> Hp -> (St -> Hp -> Prop) -> Prop
def PG (X : Cx) (target : Expr) (t : TG) : Prop :=
 ∀ (pins : List (Addr × Obj)) (s : Shared) (σ : St) (H : Hp) (v : V) (u : Value) (Q : St -> Hp -> Prop), Inv X pins σ H s -> RelV v u -> t v σ H Q →
  wpAny (model X.prog X.w) X.A (assign target X.env u) (fun _ s' => ∃ σ' H', Inv X pins σ' H' s' /\ Q σ' H') X.xe s
def PGs (X : Cx) (ts : List Expr) (t : TGs) : Prop :=
 ∀ (pins : List (Addr × Obj)) (s : Shared) (σ : St) (H : Hp) (vs : List V) (us : List Value) (Q : St -> Hp -> Prop), Inv X pins σ H s -> Vals vs us -> t vs σ H Q →
  wpAny (model X.prog X.w) X.A (assignInOrder ((assignEach ts X.env).map (·.2)) us) (fun _ s' => ∃ σ' H', Inv X pins σ' H' s' /\ Q σ' H') X.xe s
abbrev TSet := V -> V -> V -> Hp -> (Hp -> Prop) -> Prop
def PSet (X : Cx) (t : TSet) : Prop :=
 ∀ (pins : List (Addr × Obj)) (s : Shared) (σ : St) (H : Hp) (o i v : V) (ov iv u : Value) (Q : Hp -> Prop), Inv X pins σ H s -> RelV o ov -> RelV i iv -> RelV v u -> t o i v H Q →
  wpAny (model X.prog X.w) X.A (setItem ov iv u) (fun _ s' => ∃ H', Inv X pins σ H' s' /\ Q H') X.xe s
abbrev TIp := V -> V -> Hp -> VK -> Prop
def PIp (X : Cx) (op : Operator) (t : TIp) : Prop :=
 ∀ (pins : List (Addr × Obj)) (s : Shared) (σ : St) (H : Hp) (x y : V) (v u : Value) (Q : VK), Inv X pins σ H s -> RelV x v -> RelV y u -> t x y H Q →
  wpAny (model X.prog X.w) X.A (inplaceOp op v u) (EP X pins σ Q) X.xe s
section
variable {X : Cx} {pos : Pos}
def gName (i : Nat) : TG := fun v σ H Q => Q (σ.set i (some v)) H
theorem pg_name {i : Nat} {x : Str} (hN : X.N.Nodup) (hi : X.N[i]? = some x) (hx : Loc X.env.scope x) (hf : X.fn x = true ∨ X.env.scope.names.lookup x = some .local := by first | exact .inl rfl | exact .inr rfl | assumption) : PG X (.Name x pos) (gName i) := by
 intro pins s σ H v u Q I r h
 exact wpAny_assign_Name (store_ok I hN hi hx r (fun s' I' => ⟨_, H, I', h⟩) hf)
def gNil : TGs := fun vs σ H Q => vs = [] /\ Q σ H
def gCons (t : TG) (u : TGs) : TGs := fun vs σ H Q => ∃ v r, vs = v :: r /\ t v σ H fun σ' H' => u r σ' H' Q
theorem pgs_nil : PGs X [] gNil := by
 intro pins s σ H vs us Q I r h
 obtain ⟨e, h⟩ := h
 subst e
 cases r
 exact assignInOrder_nil ⟨σ, H, I, h⟩
theorem pgs_cons {e : Expr} {es : List Expr} {t : TG} {u : TGs} (h1 : PG X e t) (h2 : PGs X es u)
  (hs : (assignEach (e :: es) X.env).map (·.2) = assign e X.env :: (assignEach es X.env).map (·.2) := by rfl) : PGs X (e :: es) (gCons t u) := by
 intro pins s σ H vs us Q I r h
 obtain ⟨v, vr, e1, h⟩ := h
 subst e1
 cases r with
 | cons r rr =>
  rw [hs]
  refine assignInOrder_cons (thn (h1 pins s σ H _ _ _ I r h) fun _ s1 ⟨σ1, H1, I1, q1⟩ => ?_)
  exact h2 pins s1 σ1 H1 _ _ Q I1 rr q1
def gTup (K : PySem.W.Frag) (n : Nat) (t : TGs) : TG := fun v σ H Q => ∃ a xs, v = .ref a /\ SqT K H a xs /\ xs.length = n /\ t xs σ H Q
theorem pg_tup {es : List Expr} {k : Nat} {t : TGs} {n : Nat} (hc : X.calm = true) (h : PGs X es t)
  (hn : (assignEach es X.env).length = n := by rfl) (hst : (assignEach es X.env).findIdx? (·.1) = none := by rfl) : PG X (.Tuple es k pos) (gTup X.K n t) := by
 intro pins s σ H v u Q I r hw
 obtain ⟨a, xs, e1, hq, hl, hw⟩ := hw
 subst e1
 cases r
 obtain ⟨its, rv, ht, hz⟩ := I.tuple hq
 refine assign_Tuple_tuple (I.ok.hd hc) ht (by simp [hn, ← hl, rv.length]) hst fun h' hx => ?_
 have I1 : Inv X pins σ H { s with heap := h' } := I.kept (t' := s.toks) fun b o e => hx b o (Nat.ne_of_lt (Heap.lt_size e)) e
 exact h pins _ σ H xs _ Q I1 (by simpa using rv) hw
def gSub (to ti : TE) (t : TSet) : TG := fun v σ H Q => to σ H fun o H1 => ti σ H1 fun i H2 => t o i v H2 fun H3 => Q σ H3
theorem pg_sub {o i : Expr} {to ti : TE} {t : TSet} (ho : PE X o to) (hi : PE X i ti) (hs : PSet X t)
  (ha : ∀ v, assign (.Subscript o i pos) X.env v = (do
   let ov ← holding [v] (eval o X.env)
   let iv ← holding [v, ov] (eval i X.env)
   standAt pos
   holding [v, ov, iv] (setItem ov iv v)
   release [v, ov, iv] []) := by intro _; rfl) : PG X (.Subscript o i pos) (gSub to ti t) := by
 intro pins s σ H v u Q I r h
 rw [ha]
 refine wpAny_bind (wpAny_holding (thn (ho pins s σ H _ I h) fun ov s1 ⟨x, H1, I1, r1, q1⟩ => ?_))
 refine wpAny_bind (wpAny_holding (thn (hi pins s1 σ H1 _ I1 q1) fun iv s2 ⟨y, H2, I2, r2, q2⟩ => ?_))
 refine wpAny_bind (wpAny_standAt (wpAny_bind (wpAny_holding (thn (hs pins s2 σ H2 x y v ov iv u _ I2 r1 r2 r q2) fun _ s3 ⟨H3, I3, q3⟩ => ?_))))
 exact wpAny_release ⟨σ, H3, I3, q3⟩
def tAsg (te : TE) (g : TG) : TS := fun D σ H => te σ H fun x H1 => g x σ H1 D.nx
theorem ps_asg {tg e : Expr} {te : TE} {g : TG} (he : PE X e te) (hg : PG X tg g) (hs : swapsWithSole [tg] e pos.line X.env = pure false := by rfl) (hw : swappedStores [tg] e X.env = pure none := by rfl)
  (h1 : (assignEach [tg] X.env).map (·.2) = [assign tg X.env] := by rfl) : PS X (.Assign [tg] e pos) (tAsg te g) := by
 intro pins s σ H D I h
 refine wpAny_Assign_stores (thn (he pins s σ H _ I h) fun v s1 ⟨x, H1, I1, r1, q1⟩ => ?_) hs hw
 rw [h1]
 exact thn (hg pins s1 σ H1 x v _ I1 r1 q1) fun _ s2 q => q
theorem ps_set {i : Nat} {x : Str} {e : Expr} {te : TE} {pos' : Pos} (hN : X.N.Nodup) (hi : X.N[i]? = some x) (hx : Loc X.env.scope x) (he : PE X e te) (hs : swapsWith e (some (.Name x pos')) pos.line X.env = pure false := by rfl) (hf : X.fn x = true ∨ X.env.scope.names.lookup x = some .local := by first | exact .inl rfl | exact .inr rfl | assumption) :
  PS X (.Assign [.Name x pos'] e pos) (tAsg te (gName i)) := by
 intro pins s σ H D I h
 refine wpAny_Assign_Name (thn (he pins s σ H _ I h) fun v s1 ⟨y, H1, I1, r1, q1⟩ => ?_) hs
 exact store_ok I1 hN hi hx r1 (fun s2 I2 => ⟨_, H1, I2, q1⟩) hf
def tPar (i j : Nat) (ta : TA) : TS := fun D σ H => ta σ H fun vs H1 => ∃ v w, vs = [v, w] /\ D.nx ((σ.set i (some v)).set j (some w)) H1
theorem ps_par {i j : Nat} {x y : Str} {a b : Expr} {ta : TA} {px py pt : Pos} {kt k2 pt2} (hc : X.calm = true) (hN : X.N.Nodup) (hi : X.N[i]? = some x) (hj : X.N[j]? = some y) (hij : i ≠ j)
  (hx : X.env.scope.names.lookup x = some .local) (hy : X.env.scope.names.lookup y = some .local) (ha : PA X [a, b] ta)
  (hw : swappedStores [.Tuple [.Name x px, .Name y py] kt pt] (.Tuple [a, b] k2 pt2) X.env = pure (some [x, y]))
  (hs : swapsWithSole [.Tuple [.Name x px, .Name y py] kt pt] (.Tuple [a, b] k2 pt2) pos.line X.env = pure false := by rfl) :
  PS X (.Assign [.Tuple [.Name x px, .Name y py] kt pt] (.Tuple [a, b] k2 pt2) pos) (tPar i j ta) := by
 intro pins s σ H D I h
 rw [exec_Assign_arm]
 refine wpAny_bind (wpAny_standAt ?_)
 rw [hs]
 refine wpAny_bind (wpAny_pure ?_)
 rw [if_neg (by decide)]
 refine wpAny_bind (Tuple_ (thn (ha _ pins s σ H _ I h) fun us s1 ⟨vs, H1, I1, r1, q1⟩ => ?_))
 obtain ⟨v, w, e1, q1⟩ := q1
 subst e1
 obtain ⟨u1, u2, rfl, rv, rw'⟩ : ∃ u1 u2, us = [u1, u2] /\ RelV v u1 /\ RelV w u2 := by
  cases r1 with
  | cons p q =>
   cases q with
   | cons p' q' =>
    cases q'
    exact ⟨_, _, rfl, p, p'⟩
 refine wpAny_newObj_type ?_ zl2
 have I2 : Inv X pins σ H1 { s1 with heap := s1.heap.push { cls := .type "tuple", data := .seq [u1, u2].toArray } } := I1.kept (t' := s1.toks) fun b o e => Heap.get?_push_of_some _ e
 rw [hw]
 refine wpAny_bind (wpAny_pure ?_)
 show wpAny (model X.prog X.w) X.A (do rule "assign.swapped-stores"; let items ← unpackItems (.ref s1.heap.objs.size) 2 none; assignInOrder [fun v => bindName X.env y v, fun v => bindName X.env x v] items.reverse; pure Flow.next) _ _ _
 refine wpAny_bind (wpAny_rule (wpAny_bind (unpackItems_tuple (items := #[u1, u2]) (I.ok.hd hc) (IsTup.new s1.heap _) fun h' hx' => ?_)))
 have I3 := I2.kept (h' := h') (t' := s1.toks) fun b o e => hx' b o (Nat.ne_of_lt (Heap.lt_size e)) e
 show wpAny _ _ (assignInOrder [fun v => bindName X.env y v, fun v => bindName X.env x v] [u2, u1] >>= fun _ => pure Flow.next) _ _ _
 refine wpAny_bind (assignInOrder_cons (wpAny_bindName (store_ok I3 hN hj (.inl hy) rw' (fun s2 I4 => ?_) (.inr hy))))
 refine assignInOrder_cons (wpAny_bindName (store_ok I4 hN hi (.inl hx) rv (fun s3 I5 => assignInOrder_nil (wpAny_pure ?_)) (.inr hx)))
 rw [List.set_comm _ _ (Ne.symm hij)] at I5
 exact ⟨_, H1, I5, q1⟩
def tAug (i : Nat) (te : TE) (ti : TIp) : TS := fun D σ H => ∃ x, σ[i]? = some (some x) /\ te σ H fun y H1 => ti x y H1 fun z H2 => D.nx (σ.set i (some z)) H2
theorem ps_aug {i : Nat} {x : Str} {e : Expr} {te : TE} {op : Operator} {ti : TIp} {pos' : Pos} (hN : X.N.Nodup) (hi : X.N[i]? = some x) (hx : Loc X.env.scope x) (he : PE X e te) (ho : PIp X op ti) (hf : X.fn x = true ∨ X.env.scope.names.lookup x = some .local := by first | exact .inl rfl | exact .inr rfl | assumption) :
  PS X (.AugAssign (.Name x pos') op e pos) (tAug i te ti) := by
 intro pins s σ H D I h
 obtain ⟨v, e1, h⟩ := h
 obtain ⟨m, hn, hl⟩ := I.loc
 have vis : Vis X.env.scope x := by rcases hx with k | k; exact .inl k; exact .inr (.inl k)
 obtain ⟨u, r, l⟩ := hl i x v hi e1 vis
 refine wpAny_AugAssign_Name ?_
 have go : wpAny (model X.prog X.w) X.A (eval e X.env) (fun w s₂ => wpAny (model X.prog X.w) X.A (inplaceOp op u w) (fun r s₃ => wpAny (model X.prog X.w) X.A (storeName X.env x r) (fun _ => SP X pins D .next) X.xe s₃) X.xe s₂) X.xe s := by
  refine thn (he pins s σ H _ I h) fun w s1 ⟨y, H1, I1, r1, q1⟩ => ?_
  refine thn (ho pins s1 σ H1 v y u w _ I1 r r1 q1) fun z s2 ⟨zv, H2, I2, r2, q2⟩ => ?_
  exact store_ok I2 hN hi hx r2 (fun s3 I3 => ⟨_, H2, I3, q2⟩) hf
 rcases l with ⟨hk, hm⟩ | ⟨hk, c, hc, hcell⟩
 ·exact wpAny_loadName_local I.ok.kind hk hn hm go
 ·rcases hk with hk | hk
  ·exact wpAny_loadName_cell I.ok.kind hk hc hcell go
  ·rcases hx with k | k
   ·have : X.env.scope.names.lookup x = some .free := hk
    rw [k] at this; cases this
   ·have : X.env.scope.names.lookup x = some .free := hk
    rw [k] at this; cases this
def tAugS (to ti te : TE) (tget : V -> V -> Hp -> VK -> Prop) (tip : TIp) (tset : TSet) : TS := fun D σ H => to σ H fun o H1 => ti σ H1 fun i H2 => tget o i H2 fun x H3 => te σ H3 fun y H4 => tip x y H4 fun z H5 => tset o i z H5 fun H6 => D.nx σ H6
def PGet (X : Cx) (t : V -> V -> Hp -> VK -> Prop) : Prop :=
 ∀ (pins : List (Addr × Obj)) (s : Shared) (σ : St) (H : Hp) (o i : V) (ov iv : Value) (Q : VK), Inv X pins σ H s -> RelV o ov -> RelV i iv -> t o i H Q →
  wpAny (model X.prog X.w) X.A (getItem ov iv) (EP X pins σ Q) X.xe s
def ipI (f : Int -> Int -> Int) : TIp := fun x y H Q => ∃ i j, x = .int i /\ y = .int j /\ Q (.int (f i j)) H
theorem ip_add : PIp X .Add (ipI fun i j => i + j) := by
 intro pins s σ H x y v u Q I r1 r2 h
 obtain ⟨i, j, e1, e2, q⟩ := h
 subst e1; subst e2
 obtain ⟨t, rfl⟩ := r1
 obtain ⟨t', rfl⟩ := r2
 exact iadd_int ⟨.int _, H, I.tok _, ⟨_, rfl⟩, q⟩
end
section
variable {X : Cx} {pos : Pos}
def tWhile (c : TT) (tb : TS) : TS := fun D σ H => ∃ W : Nat -> St -> Hp -> Prop, (∃ m, W m σ H) /\ ∀ m σ H, W m σ H →
 c σ H fun b H1 => if b = true then ∃ N : St -> Hp -> Prop, (∀ σ' H', N σ' H' -> ∃ m', m' < m /\ W m' σ' H') /\ tb { D with nx := N, ct := N, bk := D.nx } σ H1 else D.nx σ H1
theorem ps_while {c : Expr} {body : List Stmt} {tc : TT} {tb : TS} (hp : PassesOwn (model X.prog X.w) X.A X.env X.xe) (hc : PT X c tc) (hb : PSs X body tb) : PS X (.While c body [] pos) (tWhile tc tb) := by
 intro pins s σ H D I h
 obtain ⟨W, ⟨m0, w0⟩, turn⟩ := h
 refine wpAny_While (codeAny_whileLoop (fun n s' => ∃ σ' H', Inv X pins σ' H' s' /\ W n σ' H') ?_ m0 ⟨σ, H, I, w0⟩)
 rintro n s1 ⟨σ1, H1, I1, w1⟩
 refine wpAny_passesOwn hp (thn (hc pins s1 σ1 H1 _ I1 (turn n σ1 H1 w1)) fun b s2 ⟨H2, I2, q2⟩ => ?_)
 cases b with
 | true =>
  obtain ⟨N, hN, q2⟩ := q2
  rw [if_pos rfl]
  refine wpAny_passesOwn hp (thn (hb pins s2 σ1 H2 _ I2 q2) fun f s3 q3 => ?_)
  cases f with
  | next =>
   obtain ⟨σ3, H3, I3, n3⟩ := q3
   obtain ⟨m', hm, w3⟩ := hN σ3 H3 n3
   exact ⟨m', hm, σ3, H3, I3, w3⟩
  | cont =>
   obtain ⟨σ3, H3, I3, n3⟩ := q3
   obtain ⟨m', hm, w3⟩ := hN σ3 H3 n3
   exact ⟨m', hm, σ3, H3, I3, w3⟩
  | brk => exact q3
  | ret v => exact q3
 | false =>
  rw [if_neg Bool.false_ne_true]
  exact wpAny_execs_nil ⟨σ1, H2, I2, q2⟩
end
structure It where
 go : Nat -> Hp -> Prop
 yld : Nat -> Hp -> V -> Hp -> Prop
 stop : Nat -> Hp -> Prop
def FpOk (X : Cx) (pins : List (Addr × Obj)) (H : Hp) (b : Addr) : Prop :=
 H b = none /\ b ≠ X.env.locals /\ b ∉ X.fs /\ (b ∈ X.ex ∨ X.s₀.heap.get? b = none) /\ (∀ x c, X.env.cells.lookup x = some c -> c ≠ b) /\ ∀ p ∈ X.pn ++ pins, p.1 ≠ b
theorem Inv.fpOk {X : Cx} {pins : List (Addr × Obj)} {σ : St} {H H' : Hp} {s : Shared} {b : Addr} (I : Inv X pins σ H s) (hb : s.heap.objs.size ≤ b) (hn : H' b = none) : FpOk X pins H' b := by
 refine ⟨hn, Nat.ne_of_gt (Nat.lt_of_lt_of_le I.lt hb), I.nofs hb, .inr (Heap.get?_none_of_le (Nat.le_trans I.sz hb)), fun x c e z => ?_, fun p hp z => ?_⟩
 ·obtain ⟨v, q⟩ := I.cell x c e
  exact absurd (Nat.lt_of_lt_of_le q.lt (by rw [z]; exact hb)) (Nat.lt_irrefl _)
 ·exact absurd (Nat.lt_of_lt_of_le (Heap.lt_size (I.pin p hp).1) (by rw [z]; exact hb)) (Nat.lt_irrefl _)
structure Turn (P : Program) (w : World) (K : PySem.W.Frag) (tg : Expr) (J : It) (fp : List Addr) (it : Addr) (tn : Nat -> Heap -> Prop) : Prop where
 mem : it ∈ fp
 obj : ∀ i h, tn i h -> ∀ b ∈ fp, ∃ o, h.get? b = some o /\ ∀ v, o.data ≠ .cell v
 keep : ∀ i h h', tn i h -> (∀ b ∈ fp, ∀ o, h.get? b = some o -> h'.get? b = some o) -> tn i h'
 item : ∀ (X : Cx), X.prog = P -> X.w = w -> X.K = K -> X.calm = true -> ∀ (i : Nat) (pins : List (Addr × Obj)) (s : Shared) (σ : St) (H : Hp) (E : Value -> Shared -> Prop), Inv X pins σ H s -> (∀ b ∈ fp, FpOk X pins H b) -> tn i s.heap -> J.go i H →
  wpAny (model P w) X.A (pyNext (.ref it)) (fun r s1 => ∃ u, r = some u ∧
   wpAny (model P w) X.A (letOwnedTupleGo tg (.ref it) u) (fun _ s2 => ∃ x H', Inv X pins σ H' s2 /\ RelV x u /\ J.yld i H x H' /\ tn (i + 1) s2.heap /\ ∀ b ∈ fp, H' b = none) E s1) E s
 done : ∀ (X : Cx), X.prog = P -> X.w = w -> X.K = K -> X.calm = true -> ∀ (i : Nat) (pins : List (Addr × Obj)) (s : Shared) (σ : St) (H : Hp) (E : Value -> Shared -> Prop), Inv X pins σ H s -> (∀ b ∈ fp, FpOk X pins H b) -> tn i s.heap -> J.stop i H →
  wpAny (model P w) X.A (pyNext (.ref it)) (fun r s1 => r = none /\ Inv X pins σ H s1) E s
 self : ∀ (A : Around) (i : Nat) (s : Shared) (Q : Value -> Shared -> Prop) (E : Value -> Shared -> Prop), tn i s.heap -> Q (.ref it) s -> wpAny (model P w) A (pyIter (.ref it)) Q E s
abbrev TI := St -> Hp -> (It -> Hp -> Prop) -> Prop
def PIE (X : Cx) (pins : List (Addr × Obj)) (σ : St) (tg : Expr) (R : It -> Hp -> Prop) (itv : Value) (s2 : Shared) : Prop :=
 ∃ (it : Addr) (fp : List Addr) (tn : Nat -> Heap -> Prop) (J : It) (H' : Hp), itv = .ref it /\ Inv X pins σ H' s2 /\ Turn X.prog X.w X.K tg J fp it tn /\ tn 0 s2.heap /\ (∀ b ∈ fp, FpOk X pins H' b) /\ R J H'
def PI (X : Cx) (tg iter : Expr) (wi : TI) : Prop :=
 ∀ (pins : List (Addr × Obj)) (s : Shared) (σ : St) (H : Hp) (R : It -> Hp -> Prop), Inv X pins σ H s -> wi σ H R →
  wpAny (model X.prog X.w) X.A (eval iter X.env) (fun v s1 => wpAny (model X.prog X.w) X.A (pyIter v) (PIE X pins σ tg R) X.xe s1) X.xe s
theorem go_of {M : Model} {A : Around} {E : Value -> Shared -> Prop} {s : Shared} {tg : Expr} {it : Addr} {u : Value} {o : Obj} {n : String} {vs : Array Value} {Q : Unit -> Shared -> Prop} (ho : s.heap.get? it = some o) (hc : o.cls = .type n) (hd : o.data = .fields vs)
  (hn : ["enumerate", "zip", "dict_itemiterator", "dict_reverseitemiterator", "odict_iterator", "itertools.zip_longest", "itertools.pairwise"].contains n = false) (hQ : Q () s) : wpAny M A (letOwnedTupleGo tg (.ref it) u) Q E s := by
 unfold letOwnedTupleGo
 cases tg <;> first
  | exact wpAny_pure hQ
  | (cases u <;> first
    | exact wpAny_pure hQ
    | (refine wpAny_bind (wpAny_load ho ?_)
       rw [hc, hd]
       show wpAny M A (if (["enumerate", "zip", "dict_itemiterator", "dict_reverseitemiterator", "odict_iterator", "itertools.zip_longest", "itertools.pairwise"].contains n && vs[0]? == some (rawInt _)) = true then _ else _) Q E s
       rw [if_neg (by intro h; rw [hn, Bool.false_and] at h; cases h)]
       exact wpAny_pure hQ))
def Itl (K : PySem.W.Frag) (a : Addr) : It :=
 ⟨fun i H => ∃ xs x, SqL K H a xs /\ xs[i]? = some x, fun i H x H' => H' = H /\ ∀ xs, SqL K H a xs -> xs[i]? = some x, fun i H => ∃ xs, SqL K H a xs /\ xs.length ≤ i⟩
def Itt (K : PySem.W.Frag) (a : Addr) : It :=
 ⟨fun i H => ∃ xs x, SqT K H a xs /\ xs[i]? = some x, fun i H x H' => H' = H /\ ∀ xs, SqT K H a xs -> xs[i]? = some x, fun i H => ∃ xs, SqT K H a xs /\ xs.length ≤ i⟩
def Itr (lo : Int) (n : Nat) : It := ⟨fun i _ => i < n, fun i H x H' => H' = H /\ x = .int (lo + i), fun i _ => n ≤ i⟩
theorem turn_list {P : Program} {w : World} {K : PySem.W.Frag} {tg : Expr} (a it : Addr) : Turn P w K tg (Itl K a) [it] it (fun i h => h.IsListIter it a i) where
 mem := by simp
 obj := fun i h st b hb => by
  have e : b = it := by simpa using hb
  subst e
  obtain ⟨o, e, c, d⟩ := st
  exact ⟨o, e, fun v z => by rw [d] at z; cases z⟩
 keep := fun i h h' st k => st.at fun o e => k it (by simp) o e
 item := by
  intro X hP hw hK hc i pins s σ H E I hf st hg
  subst hP hw hK
  obtain ⟨xs, x, hq, hx⟩ := hg
  obtain ⟨its, rv, p, hz⟩ := I.list hq
  obtain ⟨u, hu, ru⟩ := rv.get hx
  obtain ⟨f0, f1, f2, f3, f4, f5⟩ := hf it (by simp)
  refine wpAny_pyNext_list_item st p.isList (x := u) (by simpa using hu) fun h' st' sb => ?_
  have I1 : Inv X pins σ H { s with heap := h' } := I.turned (t' := s.toks) (fun b o hb e => (sb.2 b hb).trans e) f0 f1 f3 f4 f5
  obtain ⟨o, e, c, d⟩ := id st'
  exact ⟨u, rfl, go_of (s := { s with heap := h' }) e c d (by decide) ⟨x, H, I1, ru, ⟨rfl, fun ys hy => by rw [I.list_inj hy hq]; exact hx⟩, st', fun b hb => (hf b hb).1⟩⟩
 done := by
  intro X hP hw hK hc i pins s σ H E I hf st hg
  subst hP hw hK
  obtain ⟨xs, hq, hx⟩ := hg
  obtain ⟨its, rv, p, hz⟩ := I.list hq
  obtain ⟨f0, f1, f2, f3, f4, f5⟩ := hf it (by simp)
  have hl := rv.length
  exact wpAny_pyNext_list_end (I.ok.hd hc) st p.isList (by simp; omega) fun h' eb => ⟨rfl, I.turned (t' := s.toks) (fun b o hb e => eb b o hb e) f0 f1 f3 f4 f5⟩
 self := fun _ _ _ _ _ st h => wpAny_pyIter_listiter st h
theorem turn_tuple {P : Program} {w : World} {K : PySem.W.Frag} {tg : Expr} (a it : Addr) : Turn P w K tg (Itt K a) [it] it (fun i h => h.IsTupleIter it a i) where
 mem := by simp
 obj := fun i h st b hb => by
  have e : b = it := by simpa using hb
  subst e
  obtain ⟨o, e, c, d⟩ := st
  exact ⟨o, e, fun v z => by rw [d] at z; cases z⟩
 keep := fun i h h' st k => st.at fun o e => k it (by simp) o e
 item := by
  intro X hP hw hK hc i pins s σ H E I hf st hg
  subst hP hw hK
  obtain ⟨xs, x, hq, hx⟩ := hg
  obtain ⟨its, rv, p, hz⟩ := I.tuple hq
  obtain ⟨u, hu, ru⟩ := rv.get hx
  obtain ⟨f0, f1, f2, f3, f4, f5⟩ := hf it (by simp)
  refine wpAny_pyNext_tuple_item st (show s.heap.IsTuple a its.toArray from p) (x := u) (by simpa using hu) fun h' st' sb => ?_
  have I1 : Inv X pins σ H { s with heap := h' } := I.turned (t' := s.toks) (fun b o hb e => (sb.2 b hb).trans e) f0 f1 f3 f4 f5
  obtain ⟨o, e, c, d⟩ := id st'
  exact ⟨u, rfl, go_of (s := { s with heap := h' }) e c d (by decide) ⟨x, H, I1, ru, ⟨rfl, fun ys hy => by rw [I.tuple_inj hy hq]; exact hx⟩, st', fun b hb => (hf b hb).1⟩⟩
 done := by
  intro X hP hw hK hc i pins s σ H E I hf st hg
  subst hP hw hK
  obtain ⟨xs, hq, hx⟩ := hg
  obtain ⟨its, rv, p, hz⟩ := I.tuple hq
  obtain ⟨f0, f1, f2, f3, f4, f5⟩ := hf it (by simp)
  have hl := rv.length
  exact wpAny_pyNext_tuple_end (I.ok.hd hc) st (show s.heap.IsTuple a its.toArray from p) (by simp; omega) fun h' eb => ⟨rfl, I.turned (t' := s.toks) (fun b o hb e => eb b o hb e) f0 f1 f3 f4 f5⟩
 self := fun _ _ _ _ _ st h => wpAny_pyIter_tupleiter st h
theorem turn_range {P : Program} {w : World} {K : PySem.W.Frag} {tg : Expr} (it : Addr) (lo : Int) (n : Nat) : Turn P w K tg (Itr lo n) [it] it (fun i h => IsRangeIter h it (lo + (i : Nat) * 1) ((n : Int) - (i : Nat)) 1) where
 mem := by simp
 obj := fun i h st b hb => by
  have e : b = it := by simpa using hb
  subst e
  exact ⟨_, st, fun v z => by
   have z' : Data.fields _ = Data.cell v := z
   cases z'⟩
 keep := fun i h h' st k => k it (by simp) _ st
 item := by
  intro X hP hw hK hc i pins s σ H E I hf st hg
  subst hP hw hK
  obtain ⟨f0, f1, f2, f3, f4, f5⟩ := hf it (by simp)
  have W := Walks.range (prog := X.prog) (w := X.w) (I.ok.hd hc) it lo 1 n
  refine W.item i s _ _ hg st fun v h' tk hv st' kk => ?_
  obtain ⟨t, rfl⟩ := hv
  have I1 : Inv X pins σ H { s with heap := h', toks := tk } := I.turned (fun b o hb e => kk b o (by simpa using hb) e) f0 f1 f3 f4 f5
  refine ⟨_, rfl, go_of (s := { s with heap := h', toks := tk }) (n := "range_iterator") st' rfl rfl (by decide) ⟨.int (lo + i), H, I1, ⟨t, ?_⟩, ⟨rfl, rfl⟩, st', fun b hb => (hf b hb).1⟩⟩
  rw [Int.mul_one]
 done := by
  intro X hP hw hK hc i pins s σ H E I hf st hg
  subst hP hw hK
  obtain ⟨f0, f1, f2, f3, f4, f5⟩ := hf it (by simp)
  exact wpAny_pyNext_range_end (I.ok.hd hc) st (by have : n ≤ i := hg; omega) fun h' eb => ⟨rfl, I.turned (t' := s.toks) (fun b o hb e => eb b o hb e) f0 f1 f3 f4 f5⟩
 self := fun _ _ _ _ _ st h => wpAny_pyIter_rangeiter st h
end L2
namespace L2
open PySem PySem.Spec PyProof.Rows
section
variable {X : Cx} {tg : Expr}
def iList (K : PySem.W.Frag) (tl : TE) : TI := fun σ H R => tl σ H fun x H1 => ∃ a, x = .ref a /\ (∃ xs, SqL K H1 a xs) /\ R (Itl K a) H1
def iTup (K : PySem.W.Frag) (tl : TE) : TI := fun σ H R => tl σ H fun x H1 => ∃ a, x = .ref a /\ (∃ xs, SqT K H1 a xs) /\ R (Itt K a) H1
theorem pi_list {l : Expr} {tl : TE} (hl : PE X l tl) : PI X tg l (iList X.K tl) := by
 intro pins s σ H R I h
 refine thn (hl pins s σ H _ I h) fun v s1 ⟨x, H1, I1, r1, q1⟩ => ?_
 obtain ⟨a, e, ⟨xs, hq⟩, q⟩ := q1
 subst e
 cases r1
 obtain ⟨its, rv, p, hz⟩ := I1.list hq
 refine wpAny_pyIter_list p.isList ?_
 refine ⟨s1.heap.objs.size, [s1.heap.objs.size], _, _, H1, rfl, I1.kept (t' := s1.toks) fun b o e => Heap.get?_push_of_some _ e, turn_list a _, ⟨_, Heap.get?_push_size _ rfl, rfl, rfl⟩, fun b hb => ?_, q⟩
 have e : b = s1.heap.objs.size := by simpa using hb
 subst e
 exact I1.fpOk (Nat.le_refl _) (I1.hok.fresh (Nat.le_refl _))
theorem pi_tup {l : Expr} {tl : TE} (hl : PE X l tl) : PI X tg l (iTup X.K tl) := by
 intro pins s σ H R I h
 refine thn (hl pins s σ H _ I h) fun v s1 ⟨x, H1, I1, r1, q1⟩ => ?_
 obtain ⟨a, e, ⟨xs, hq⟩, q⟩ := q1
 subst e
 cases r1
 obtain ⟨its, rv, p, hz⟩ := I1.tuple hq
 refine wpAny_pyIter_tuple (show s1.heap.IsTuple a its.toArray from p) ?_
 refine ⟨s1.heap.objs.size, [s1.heap.objs.size], _, _, H1, rfl, I1.kept (t' := s1.toks) fun b o e => Heap.get?_push_of_some _ e, turn_tuple a _, ⟨_, Heap.get?_push_size _ rfl, rfl, rfl⟩, fun b hb => ?_, q⟩
 have e : b = s1.heap.objs.size := by simpa using hb
 subst e
 exact I1.fpOk (Nat.le_refl _) (I1.hok.fresh (Nat.le_refl _))
theorem range_it {pins : List (Addr × Obj)} {σ : St} {H : Hp} {s : Shared} {R : It -> Hp -> Prop} {E : Value -> Shared -> Prop} {lo hi : Int} {t u v : Tok} {tk : Nat} (I : Inv X pins σ H s) (h1 : -(2 ^ 62) ≤ lo) (h2 : lo < 2 ^ 62) (h3 : -(2 ^ 62) ≤ hi) (h4 : hi < 2 ^ 62)
  (q : R (Itr lo (hi - lo).toNat) H) : wpAny (model X.prog X.w) X.A (pyIter (.ref s.heap.objs.size)) (PIE X pins σ tg R) E { s with heap := s.heap.push { cls := .type "range", data := .fields #[.int lo t, .int hi u, .int 1 v] }, toks := tk } := by
 refine wpAny_pyIter_range (IsRange.new ..) (small_one h1 h2 h3 h4) ?_
 have I1 : Inv X pins σ H { s with heap := s.heap.push { cls := .type "range", data := .fields #[.int lo t, .int hi u, .int 1 v] }, toks := tk } := I.kept fun b o e => Heap.get?_push_of_some _ e
 refine ⟨(s.heap.push { cls := .type "range", data := .fields #[.int lo t, .int hi u, .int 1 v] }).objs.size, [(s.heap.push { cls := .type "range", data := .fields #[.int lo t, .int hi u, .int 1 v] }).objs.size], _, _, H, rfl,
  I1.kept (t' := tk) fun b o e => Heap.get?_push_of_some _ e, turn_range _ lo (hi - lo).toNat, ?_, fun b hb => ?_, q⟩
 ·have e1 : lo + ((0 : Nat) : Int) * 1 = lo := by simp
  have e2 : (((hi - lo).toNat : Nat) : Int) - ((0 : Nat) : Int) = Builtin.Range.rangeSize lo hi 1 := by rw [rangeSize_one]; split <;> omega
  show IsRangeIter _ _ (lo + ((0 : Nat) : Int) * 1) ((((hi - lo).toNat : Nat) : Int) - ((0 : Nat) : Int)) 1
  rw [e1, e2]
  exact Heap.get?_push_size _ rfl
 ·have e : b = (s.heap.push { cls := .type "range", data := .fields #[.int lo t, .int hi u, .int 1 v] }).objs.size := by simpa using hb
  subst e
  exact I1.fpOk (Nat.le_refl _) (I1.hok.fresh (Nat.le_refl _))
def iRng1 (ta : TA) : TI := fun σ H R => ta σ H fun vs H1 => ∃ j : Int, vs = [.int j] /\ -(2 ^ 62) ≤ j /\ j < 2 ^ 62 /\ R (Itr 0 j.toNat) H1
def iRng2 (ta : TA) : TI := fun σ H R => ta σ H fun vs H1 => ∃ i j : Int, vs = [.int i, .int j] /\ (-(2 ^ 62) ≤ i /\ i < 2 ^ 62 /\ -(2 ^ 62) ≤ j /\ j < 2 ^ 62) /\ R (Itr i (j - i).toNat) H1
theorem pi_range1 {a : Expr} {ta : TA} {p pos : Pos} (hg : Gl X "range") (hm : X.mg "range" = none) (ha : PA X [a] ta) (hs : starEach [a] X.env = [(false, eval a X.env)] := by rfl) : PI X tg (.Call (.Name "range" p) [a] [] pos) (iRng1 ta) := by
 intro pins s σ H R I h
 refine Call_ (ld_blt I hg hm boot_range (PyProof.Rows.callWith_type1 (thn (ha pos pins s σ H _ I h) fun us s1 ⟨vs, H1, I1, r1, q1⟩ => ?_) hs rfl))
 obtain ⟨j, e, q1, q2, q⟩ := q1
 subst e
 cases r1 with
 | cons r rr =>
  cases rr
  obtain ⟨t, rfl⟩ := r
  exact call_range_1 (range_it I1 (by omega) (by omega) q1 q2 (by simpa using q))
def tFor (wi : TI) (g : TG) (tb : TS) : TS := fun D σ H => wi σ H fun J H1 => ∃ W : Nat -> Nat -> St -> Hp -> Prop, (∃ m, W 0 m σ H1) /\ ∀ i m σ H, W i m σ H →
 (J.stop i H /\ D.nx σ H) ∨ (J.go i H /\ ∃ N : St -> Hp -> Prop, (∀ σ' H', N σ' H' -> ∃ m', m' < m /\ W (i + 1) m' σ' H') /\ ∀ x H', J.yld i H x H' -> g x σ H' fun σ2 H2 => tb { D with nx := N, ct := N, bk := D.nx } σ2 H2)
def pinsAt (fp : List Addr) (h : Heap) : List (Addr × Obj) := fp.filterMap fun b => (h.get? b).map fun o => (b, o)
theorem mem_pinsAt {fp : List Addr} {h : Heap} {b : Addr} {o : Obj} (hb : b ∈ fp) (e : h.get? b = some o) : (b, o) ∈ pinsAt fp h := List.mem_filterMap.mpr ⟨b, hb, by rw [e]; rfl⟩
theorem of_pinsAt {fp : List Addr} {h : Heap} {p : Addr × Obj} (hp : p ∈ pinsAt fp h) : p.1 ∈ fp /\ h.get? p.1 = some p.2 := by
 obtain ⟨b, hb, e⟩ := List.mem_filterMap.mp hp
 cases q : h.get? b with
 | none => rw [q] at e; cases e
 | some o =>
  rw [q] at e
  have e' : (b, o) = p := Option.some.inj e
  subst e'
  exact ⟨hb, q⟩
theorem Inv.pinned {pins : List (Addr × Obj)} {σ : St} {H : Hp} {s : Shared} {fp : List Addr} (I : Inv X pins σ H s) (hf : ∀ b ∈ fp, FpOk X pins H b) (ho : ∀ b ∈ fp, ∃ o, s.heap.get? b = some o /\ ∀ v, o.data ≠ .cell v) : Inv X (pins ++ pinsAt fp s.heap) σ H s :=
 I.pins_of fun p hp => (List.mem_append.mp hp).elim (fun z => I.pin p (List.mem_append_right _ z)) fun z => by
  obtain ⟨hb, e⟩ := of_pinsAt z
  obtain ⟨f0, f1, f2, _⟩ := hf p.1 hb
  obtain ⟨o, e', d⟩ := ho p.1 hb
  rw [e] at e'; cases e'
  exact ⟨e, f0, f1, f2, d⟩
theorem Inv.unpinned {pins pl : List (Addr × Obj)} {σ : St} {H : Hp} {s : Shared} (I : Inv X (pins ++ pl) σ H s) : Inv X pins σ H s := I.pins_of fun p hp => I.pin p (List.mem_append_right _ (List.mem_append_left _ hp))
theorem ps_for {iter : Expr} {body : List Stmt} {wi : TI} {g : TG} {tb : TS} {pos : Pos} (hp : PassesOwn (model X.prog X.w) X.A X.env X.xe) (hc : X.calm = true) (hi : PI X tg iter wi) (hg : PG X tg g) (hb : PSs X body tb)
  (hs : ∀ x, foldedSetIterable iter X.env x = pure x := by intro _; rfl) : PS X (.For tg iter body [] pos) (tFor wi g tb) := by
 intro pins s σ H D I h
 refine wpAny_For (thn (hi pins s σ H _ I h) fun v s1 h1 => thn h1 fun itv s2 h2 => ?_) hs
 obtain ⟨it, fp, tn, J, H2, e, I2, T, st2, f2, W, ⟨m0, w0⟩, turn⟩ := h2
 subst e
 have stat : ∀ {H' : Hp}, (∀ b ∈ fp, H' b = none) -> ∀ b ∈ fp, FpOk X pins H' b := fun hn b hb => ⟨hn b hb, (f2 b hb).2⟩
 refine codeAny_forLoop_any (fun n s' => ∃ i σ' H', Inv X pins σ' H' s' /\ tn i s'.heap /\ (∀ b ∈ fp, H' b = none) /\ W i n σ' H') ?_ m0 ⟨0, σ, H2, I2, st2, fun b hb => (f2 b hb).1, w0⟩
 rintro n s3 ⟨i, σ3, H3, I3, st3, fr3, w3⟩
 rcases turn i n σ3 H3 w3 with ⟨stop, qn⟩ | ⟨go, N, hN, step⟩
 ·refine wpAny_passesOwn hp (thn (T.done X rfl rfl rfl hc i pins s3 σ3 H3 X.xe I3 (stat fr3) st3 stop) fun r s4 ⟨hr, I4⟩ => ?_)
  subst hr
  exact wpAny_execs_nil ⟨σ3, H3, I4, qn⟩
 ·refine wpAny_passesOwn hp (thn (T.item X rfl rfl rfl hc i pins s3 σ3 H3 X.xe I3 (stat fr3) st3 go) fun r s4 ⟨u, hr, h4⟩ => ?_)
  subst hr
  refine wpAny_passesOwn hp (thn h4 fun _ s5 ⟨x, H5, I5, r5, y5, st5, fr5⟩ => ?_)
  have I5' := I5.pinned (stat fr5) (T.obj _ _ st5)
  refine wpAny_passesOwn hp (thn (hg _ s5 σ3 H5 x u _ I5' r5 (step x H5 y5)) fun _ s6 ⟨σ6, H6, I6, q6⟩ => ?_)
  refine wpAny_passesOwn hp (thn (hb _ s6 σ6 H6 _ I6 q6) fun f s7 q7 => ?_)
  have again : ∀ {σ7 : St} {H7 : Hp}, Inv X (pins ++ pinsAt fp s5.heap) σ7 H7 s7 -> N σ7 H7 -> ∃ m, m < n /\ ∃ i σ' H', Inv X pins σ' H' s7 /\ tn i s7.heap /\ (∀ b ∈ fp, H' b = none) /\ W i m σ' H' := fun {σ7 H7} I7 n7 => by
   obtain ⟨m', hm, w7⟩ := hN σ7 H7 n7
   refine ⟨m', hm, i + 1, σ7, H7, I7.unpinned, T.keep _ _ _ st5 fun b hb o e => (I7.pin (b, o) (List.mem_append_right _ (List.mem_append_right _ (mem_pinsAt hb e)))).1, fun b hb => ?_, w7⟩
   obtain ⟨o, e, d⟩ := T.obj _ _ st5 b hb
   exact (I7.pin (b, o) (List.mem_append_right _ (List.mem_append_right _ (mem_pinsAt hb e)))).2.1
  cases f with
  | next => obtain ⟨σ7, H7, I7, n7⟩ := q7; exact again I7 n7
  | cont => obtain ⟨σ7, H7, I7, n7⟩ := q7; exact again I7 n7
  | brk => obtain ⟨σ7, H7, I7, q7⟩ := q7; exact ⟨σ7, H7, I7.unpinned, q7⟩
  | ret v => obtain ⟨x7, σ7, H7, I7, r7, q7⟩ := q7; exact ⟨x7, σ7, H7, I7.unpinned, r7, q7⟩
end
theorem for_list {K : PySem.W.Frag} {a : Addr} {xs : List V} {g : TG} {tb : TS} {D : Ends} {σ : St} {H : Hp} (Pv : Nat -> St -> Hp -> Prop) (h0 : Pv 0 σ H) (hl : ∀ i σ H, i ≤ xs.length -> Pv i σ H -> SqL K H a xs)
  (hs : ∀ i x σ H, xs[i]? = some x -> Pv i σ H -> g x σ H fun σ2 H2 => tb { D with nx := Pv (i + 1), ct := Pv (i + 1), bk := D.nx } σ2 H2) (hd : ∀ σ H, Pv xs.length σ H -> D.nx σ H) :
  ∃ W : Nat -> Nat -> St -> Hp -> Prop, (∃ m, W 0 m σ H) /\ ∀ i m σ H, W i m σ H →
   ((Itl K a).stop i H /\ D.nx σ H) ∨ ((Itl K a).go i H /\ ∃ N : St -> Hp -> Prop, (∀ σ' H', N σ' H' -> ∃ m', m' < m /\ W (i + 1) m' σ' H') /\ ∀ x H', (Itl K a).yld i H x H' -> g x σ H' fun σ2 H2 => tb { D with nx := N, ct := N, bk := D.nx } σ2 H2) := by
 refine ⟨fun i m σ H => m = xs.length - i /\ i ≤ xs.length /\ Pv i σ H, ⟨xs.length, by simp, Nat.zero_le _, h0⟩, ?_⟩
 rintro i m σ H ⟨rfl, hi, p⟩
 have q := hl i σ H hi p
 by_cases hlt : i < xs.length
 ·refine .inr ⟨⟨xs, xs[i], q, by simp [hlt]⟩, Pv (i + 1), fun σ' H' p' => ⟨xs.length - (i + 1), by omega, rfl, hlt, p'⟩, fun x H' y => ?_⟩
  obtain ⟨e, y⟩ := y
  subst e
  exact hs i x σ _ (y xs q) p
 ·have e : i = xs.length := by omega
  subst e
  exact .inl ⟨⟨xs, q, Nat.le_refl _⟩, hd σ H p⟩
theorem for_tup {K : PySem.W.Frag} {a : Addr} {xs : List V} {g : TG} {tb : TS} {D : Ends} {σ : St} {H : Hp} (Pv : Nat -> St -> Hp -> Prop) (h0 : Pv 0 σ H) (hl : ∀ i σ H, i ≤ xs.length -> Pv i σ H -> SqT K H a xs)
  (hs : ∀ i x σ H, xs[i]? = some x -> Pv i σ H -> g x σ H fun σ2 H2 => tb { D with nx := Pv (i + 1), ct := Pv (i + 1), bk := D.nx } σ2 H2) (hd : ∀ σ H, Pv xs.length σ H -> D.nx σ H) :
  ∃ W : Nat -> Nat -> St -> Hp -> Prop, (∃ m, W 0 m σ H) /\ ∀ i m σ H, W i m σ H →
   ((Itt K a).stop i H /\ D.nx σ H) ∨ ((Itt K a).go i H /\ ∃ N : St -> Hp -> Prop, (∀ σ' H', N σ' H' -> ∃ m', m' < m /\ W (i + 1) m' σ' H') /\ ∀ x H', (Itt K a).yld i H x H' -> g x σ H' fun σ2 H2 => tb { D with nx := N, ct := N, bk := D.nx } σ2 H2) := by
 refine ⟨fun i m σ H => m = xs.length - i /\ i ≤ xs.length /\ Pv i σ H, ⟨xs.length, by simp, Nat.zero_le _, h0⟩, ?_⟩
 rintro i m σ H ⟨rfl, hi, p⟩
 have q := hl i σ H hi p
 by_cases hlt : i < xs.length
 ·refine .inr ⟨⟨xs, xs[i], q, by simp [hlt]⟩, Pv (i + 1), fun σ' H' p' => ⟨xs.length - (i + 1), by omega, rfl, hlt, p'⟩, fun x H' y => ?_⟩
  obtain ⟨e, y⟩ := y
  subst e
  exact hs i x σ _ (y xs q) p
 ·have e : i = xs.length := by omega
  subst e
  exact .inl ⟨⟨xs, q, Nat.le_refl _⟩, hd σ H p⟩
theorem for_range {lo : Int} {n : Nat} {g : TG} {tb : TS} {D : Ends} {σ : St} {H : Hp} (Pv : Nat -> St -> Hp -> Prop) (h0 : Pv 0 σ H)
  (hs : ∀ i σ H, i < n -> Pv i σ H -> g (.int (lo + i)) σ H fun σ2 H2 => tb { D with nx := Pv (i + 1), ct := Pv (i + 1), bk := D.nx } σ2 H2) (hd : ∀ σ H, Pv n σ H -> D.nx σ H) :
  ∃ W : Nat -> Nat -> St -> Hp -> Prop, (∃ m, W 0 m σ H) /\ ∀ i m σ H, W i m σ H →
   ((Itr lo n).stop i H /\ D.nx σ H) ∨ ((Itr lo n).go i H /\ ∃ N : St -> Hp -> Prop, (∀ σ' H', N σ' H' -> ∃ m', m' < m /\ W (i + 1) m' σ' H') /\ ∀ x H', (Itr lo n).yld i H x H' -> g x σ H' fun σ2 H2 => tb { D with nx := N, ct := N, bk := D.nx } σ2 H2) := by
 refine ⟨fun i m σ H => m = n - i /\ i ≤ n /\ Pv i σ H, ⟨n, by simp, Nat.zero_le _, h0⟩, ?_⟩
 rintro i m σ H ⟨rfl, hi, p⟩
 by_cases hlt : i < n
 ·refine .inr ⟨hlt, Pv (i + 1), fun σ' H' p' => ⟨n - (i + 1), by omega, rfl, hlt, p'⟩, fun x H' y => ?_⟩
  obtain ⟨e, y⟩ := y
  subst e y
  exact hs i σ _ hlt p
 ·have e : i = n := by omega
  subst e
  exact .inl ⟨Nat.le_refl _, hd σ H p⟩
end L2
namespace L2
open PySem PySem.Spec PyProof.Rows
abbrev R2 := V -> V -> Hp -> VK -> Prop
def OpR (X : Cx) (f : Value -> Value -> Sem Value) (r : R2) : Prop :=
 ∀ (pins : List (Addr × Obj)) (s : Shared) (σ : St) (H : Hp) (x y : V) (v u : Value) (Q : VK), Inv X pins σ H s -> RelV x v -> RelV y u -> r x y H Q →
  wpAny (model X.prog X.w) X.A (f v u) (EP X pins σ Q) X.xe s
def UnR (X : Cx) (f : Value -> Sem Value) (r : V -> Hp -> VK -> Prop) : Prop :=
 ∀ (pins : List (Addr × Obj)) (s : Shared) (σ : St) (H : Hp) (x : V) (v : Value) (Q : VK), Inv X pins σ H s -> RelV x v -> r x H Q →
  wpAny (model X.prog X.w) X.A (f v) (EP X pins σ Q) X.xe s
def CallR (X : Cx) (f : Value) (r : List V -> Hp -> VK -> Prop) : Prop :=
 ∀ (pins : List (Addr × Obj)) (s : Shared) (σ : St) (H : Hp) (xs : List V) (us : List Value) (Q : VK), Inv X pins σ H s -> Vals xs us -> r xs H Q →
  wpAny (model X.prog X.w) X.A (call f us) (EP X pins σ Q) X.xe s
def TruR (X : Cx) (r : V -> Hp -> (Bool -> Hp -> Prop) -> Prop) : Prop :=
 ∀ (pins : List (Addr × Obj)) (s : Shared) (σ : St) (H : Hp) (x : V) (v : Value) (Q : Bool -> Hp -> Prop), Inv X pins σ H s -> RelV x v -> r x H Q →
  wpAny (model X.prog X.w) X.A (truthy v) (TP X pins σ Q) X.xe s
def tOp (r : R2) (ta tb : TE) : TE := fun σ H Q => ta σ H fun x H1 => tb σ H1 fun y H2 => r x y H2 Q
def tUn (r : V -> Hp -> VK -> Prop) (ta : TE) : TE := fun σ H Q => ta σ H fun x H1 => r x H1 Q
def rI (C : Int -> Int -> Prop) (g : Int -> Int -> V) : R2 := fun x y H Q => ∃ i j, x = .int i /\ y = .int j /\ C i j /\ Q (g i j) H
def rI0 (g : Int -> Int -> V) : R2 := fun x y H Q => ∃ i j, x = .int i /\ y = .int j /\ Q (g i j) H
def rU (g : Int -> V) : V -> Hp -> VK -> Prop := fun x H Q => ∃ i, x = .int i /\ Q (g i) H
section
variable {X : Cx} {a b c : Expr} {ta tb tc : TE} {pos : Pos}
theorem binT (ha : PE X a ta) (hb : PE X b tb) {pins : List (Addr × Obj)} {s : Shared} {σ : St} {H : Hp} {R : V -> V -> Hp -> Prop} (I : Inv X pins σ H s)
  (h : ta σ H fun x H1 => tb σ H1 fun y H2 => R x y H2) {Q : Value -> Shared -> Prop} {f : Value -> Value -> Sem Value}
  (hf : ∀ v u s2 x y H2, Inv X pins σ H2 s2 -> RelV x v -> RelV y u -> R x y H2 -> wpAny (model X.prog X.w) X.A (f v u) Q X.xe s2) :
  wpAny (model X.prog X.w) X.A (eval a X.env) (fun v s₁ => wpAny (model X.prog X.w) X.A (eval b X.env) (fun u s₂ => wpAny (model X.prog X.w) X.A (f v u) Q X.xe s₂) X.xe s₁) X.xe s := by
 refine thn (ha pins s σ H _ I h) fun v s1 ⟨x, H1, I1, r1, q1⟩ => ?_
 refine thn (hb pins s1 σ H1 _ I1 q1) fun u s2 ⟨y, H2, I2, r2, q2⟩ => ?_
 exact hf v u s2 x y H2 I2 r1 r2 q2
theorem pe_op {op : Operator} {r : R2} (ho : OpR X (binaryOp op) r) (ha : PE X a ta) (hb : PE X b tb) : PE X (.BinOp a op b pos) (tOp r ta tb) := by
 intro pins s σ H Q I h
 exact wpAny_BinOp (binT ha hb I h fun v u s2 x y H2 I2 rx ry q => ho pins s2 σ H2 x y v u Q I2 rx ry q)
theorem pe_un {op : UnaryOp} {r : V -> Hp -> VK -> Prop} (ho : UnR X (unaryOp op) r) (ha : PE X a ta) : PE X (.UnaryOp op a pos) (tUn r ta) := by
 intro pins s σ H Q I h
 exact UnaryOp_ (thn (ha pins s σ H _ I h) fun v s1 ⟨x, H1, I1, r1, q1⟩ => ho pins s1 σ H1 x v Q I1 r1 q1)
theorem opI {f : Value -> Value -> Sem Value} {C : Int -> Int -> Prop} {g : Int -> Int -> Int}
  (rule : ∀ (i j : Int) (t u : Tok) (s : Shared) (Q : Value -> Shared -> Prop) (E : Value -> Shared -> Prop), C i j -> Q (.int (g i j) s.toks) { s with toks := s.toks + 1 } -> wpAny (model X.prog X.w) X.A (f (.int i t) (.int j u)) Q E s) :
  OpR X f (rI C fun i j => .int (g i j)) := by
 intro pins s σ H x y v u Q I rx ry h
 obtain ⟨i, j, rfl, rfl, hc, q⟩ := h
 obtain ⟨t, rfl⟩ := rx
 obtain ⟨t', rfl⟩ := ry
 exact rule i j t t' s _ _ hc ⟨.int (g i j), H, I.tok _, ⟨_, rfl⟩, q⟩
theorem opI0 {f : Value -> Value -> Sem Value} {g : Int -> Int -> Int}
  (rule : ∀ (i j : Int) (t u : Tok) (s : Shared) (Q : Value -> Shared -> Prop) (E : Value -> Shared -> Prop), Q (.int (g i j) s.toks) { s with toks := s.toks + 1 } -> wpAny (model X.prog X.w) X.A (f (.int i t) (.int j u)) Q E s) :
  OpR X f (rI0 fun i j => .int (g i j)) := by
 intro pins s σ H x y v u Q I rx ry h
 obtain ⟨i, j, rfl, rfl, q⟩ := h
 obtain ⟨t, rfl⟩ := rx
 obtain ⟨t', rfl⟩ := ry
 exact rule i j t t' s _ _ ⟨.int (g i j), H, I.tok _, ⟨_, rfl⟩, q⟩
theorem opB0 {f : Value -> Value -> Sem Value} {g : Int -> Int -> Bool}
  (rule : ∀ (i j : Int) (t u : Tok) (s : Shared) (Q : Value -> Shared -> Prop) (E : Value -> Shared -> Prop), Q (.bool (g i j)) s -> wpAny (model X.prog X.w) X.A (f (.int i t) (.int j u)) Q E s) :
  OpR X f (rI0 fun i j => .bl (g i j)) := by
 intro pins s σ H x y v u Q I rx ry h
 obtain ⟨i, j, rfl, rfl, q⟩ := h
 obtain ⟨t, rfl⟩ := rx
 obtain ⟨t', rfl⟩ := ry
 exact rule i j t t' s _ _ ⟨.bl (g i j), H, I, rfl, q⟩
def CDiv (i j : Int) : Prop := 0 < j /\ j < 1073741824
def CDivN (i j : Int) : Prop := j ≠ 0 /\ j.natAbs < 1073741824
def CPow (i j : Int) : Prop := 0 ≤ j /\ j ≤ 1000000 /\ i.natAbs < 2 ^ 64
def CMul (i j : Int) : Prop := (-(2 ^ 64) < i /\ i < 2 ^ 64) ∨ (-(2 ^ 64) < j /\ j < 2 ^ 64)
theorem CMul.ok {i j : Int} (h : CMul i j) : IntMulOk i j := by
 rcases h with ⟨h1, h2⟩ | ⟨h1, h2⟩
 ·exact .of_left (intBits_le_64 h1 h2)
 ·exact .of_right (intBits_le_64 h1 h2)
theorem op_add : OpR X (binaryOp .Add) (rI0 fun i j => .int (i + j)) := opI0 fun _ _ _ _ _ _ _ q => add_int q
theorem op_sub : OpR X (binaryOp .Sub) (rI0 fun i j => .int (i - j)) := opI0 fun _ _ _ _ _ _ _ q => sub_int q
theorem op_mul : OpR X (binaryOp .Mult) (rI CMul fun i j => .int (i * j)) := opI fun _ _ _ _ _ _ _ hc q => mul_int q hc.ok
theorem op_fdiv : OpR X (binaryOp .FloorDiv) (rI CDiv fun i j => .int (i / j)) := opI fun i j _ _ _ _ _ hc q => by
 have h1 : (0 : Int) < j := hc.1
 have h2 : j < 1073741824 := hc.2
 exact floordiv_int (by omega) (by rw [Int.fdiv_eq_ediv_of_nonneg i (by omega)]; exact q) (.inl (PyProof.noPylong_small (by omega)))
theorem op_mod : OpR X (binaryOp .Mod) (rI (fun _ j => 0 < j) fun i j => .int (i % j)) := opI fun i j _ _ _ _ _ hc q => by
 have h1 : (0 : Int) < j := hc
 exact mod_int' (by omega) (by rw [Int.fmod_eq_emod_of_nonneg i (by omega)]; exact q)
theorem op_pow : OpR X (binaryOp .Pow) (rI CPow fun i j => .int (i ^ j.toNat)) := opI fun _ _ _ _ _ _ _ hc q => pow_int_small hc.1 hc.2.1 hc.2.2 q
theorem unI {f : Value -> Sem Value} {g : Int -> Int}
  (rule : ∀ (i : Int) (t : Tok) (s : Shared) (Q : Value -> Shared -> Prop) (E : Value -> Shared -> Prop), Q (.int (g i) s.toks) { s with toks := s.toks + 1 } -> wpAny (model X.prog X.w) X.A (f (.int i t)) Q E s) :
  UnR X f (rU fun i => .int (g i)) := by
 intro pins s σ H x v Q I rx h
 obtain ⟨i, rfl, q⟩ := h
 obtain ⟨t, rfl⟩ := rx
 exact rule i t s _ _ ⟨.int (g i), H, I.tok _, ⟨_, rfl⟩, q⟩
theorem un_neg : UnR X (unaryOp .USub) (rU fun i => .int (-i)) := unI fun _ _ _ _ _ q => neg_int q
end
def scal : V -> V -> Bool
 | .non, .non => true | .non, .int _ => true | .int _, .non => true | .non, .bl _ => true | .bl _, .non => true | .non, .str _ => true | .str _, .non => true
 | .int _, .int _ => true | .bl _, .bl _ => true | .str _, .str _ => true | .byt _, .byt _ => true
 | .int _, .str _ => true | .str _, .int _ => true | .bl _, .str _ => true | .str _, .bl _ => true
 | _, _ => false
def rEq : R2 := fun x y H Q => scal x y = true /\ Q (.bl (decide (x = y))) H
def rNe : R2 := fun x y H Q => scal x y = true /\ Q (.bl (!decide (x = y))) H
theorem dec_int {i j : Int} : decide (V.int i = V.int j) = (i == j) := by
 rw [Bool.eq_iff_iff]
 simp
theorem dec_bl {i j : Bool} : decide (V.bl i = V.bl j) = (i == j) := by
 rw [Bool.eq_iff_iff]
 simp
theorem dec_str {i j : Str} : decide (V.str i = V.str j) = (i == j) := by
 rw [Bool.eq_iff_iff]
 simp
theorem dec_byt {i j : Array UInt8} : decide (V.byt i = V.byt j) = (i.toList == j.toList) := by
 rw [Bool.eq_iff_iff]
 cases i
 cases j
 simp
section
variable {X : Cx} {a b c : Expr} {ta tb tc : TE} {pos : Pos}
theorem fin_bl {pins : List (Addr × Obj)} {σ : St} {H : Hp} {s : Shared} {Q : VK} {k k' : Bool} (I : Inv X pins σ H s) (q : Q (.bl k) H) (e : k = k') : EP X pins σ Q (.bool k') s := by
 subst e
 exact ⟨.bl k, H, I, rfl, q⟩
theorem op_eq : OpR X (compareOp .Eq) rEq := by
 intro pins s σ H x y v u Q I rx ry h
 obtain ⟨hs, q⟩ := h
 cases x with
 | non =>
  cases rx
  cases y with
  | non => cases ry; exact PySem.EqNone.eq_none_none (fin_bl I q (by simp))
  | bl j => cases ry; exact PySem.EqNone.eq_none_bool (fin_bl I q (by simp))
  | int j => obtain ⟨t', rfl⟩ := ry; exact PySem.EqNone.eq_none_int (fin_bl I q (by simp))
  | str j => obtain ⟨t', rfl⟩ := ry; exact PySem.EqNone.eq_none_str (fin_bl I q (by simp))
  | _ => exact absurd (show false = true from hs) Bool.false_ne_true
 | bl i =>
  cases rx
  cases y with
  | non => cases ry; exact PySem.EqNone.eq_bool_none (fin_bl I q (by simp))
  | bl j => cases ry; exact eq_bool (fin_bl I q dec_bl)
  | str j => obtain ⟨t', rfl⟩ := ry; exact PySem.EqMixed.eq_bool_str (fin_bl I q (by simp))
  | _ => exact absurd (show false = true from hs) Bool.false_ne_true
 | int i =>
  obtain ⟨t, rfl⟩ := rx
  cases y with
  | non => cases ry; exact PySem.EqNone.eq_int_none (fin_bl I q (by simp))
  | int j => obtain ⟨t', rfl⟩ := ry; exact eq_int (fin_bl I q dec_int)
  | str j => obtain ⟨t', rfl⟩ := ry; exact PySem.EqMixed.eq_int_str (fin_bl I q (by simp))
  | _ => exact absurd (show false = true from hs) Bool.false_ne_true
 | str i =>
  obtain ⟨t, rfl⟩ := rx
  cases y with
  | non => cases ry; exact PySem.EqNone.eq_str_none (fin_bl I q (by simp))
  | bl j => cases ry; exact PySem.EqMixed.eq_str_bool (fin_bl I q (by simp))
  | int j => obtain ⟨t', rfl⟩ := ry; exact PySem.EqMixed.eq_str_int (fin_bl I q (by simp))
  | str j => obtain ⟨t', rfl⟩ := ry; exact eq_str (fin_bl I q dec_str)
  | _ => exact absurd (show false = true from hs) Bool.false_ne_true
 | byt i =>
  obtain ⟨t, rfl⟩ := rx
  cases y with
  | byt j => obtain ⟨t', rfl⟩ := ry; exact PySem.W.eq_bytes (fin_bl I q dec_byt)
  | _ => exact absurd (show false = true from hs) Bool.false_ne_true
 | _ => cases y <;> exact absurd (show false = true from hs) Bool.false_ne_true
theorem op_ne : OpR X (compareOp .NotEq) rNe := by
 intro pins s σ H x y v u Q I rx ry h
 obtain ⟨hs, q⟩ := h
 cases x with
 | non =>
  cases rx
  cases y with
  | non => cases ry; exact PySem.EqNone.ne_none_none (fin_bl I q (by simp))
  | bl j => cases ry; exact PySem.EqNone.ne_none_bool (fin_bl I q (by simp))
  | int j => obtain ⟨t', rfl⟩ := ry; exact PySem.EqNone.ne_none_int (fin_bl I q (by simp))
  | str j => obtain ⟨t', rfl⟩ := ry; exact PySem.EqNone.ne_none_str (fin_bl I q (by simp))
  | _ => exact absurd (show false = true from hs) Bool.false_ne_true
 | bl i =>
  cases rx
  cases y with
  | non => cases ry; exact PySem.EqNone.ne_bool_none (fin_bl I q (by simp))
  | bl j => cases ry; exact ne_bool (fin_bl I q (congrArg not dec_bl))
  | str j => obtain ⟨t', rfl⟩ := ry; exact PySem.EqMixed.ne_bool_str (fin_bl I q (by simp))
  | _ => exact absurd (show false = true from hs) Bool.false_ne_true
 | int i =>
  obtain ⟨t, rfl⟩ := rx
  cases y with
  | non => cases ry; exact PySem.EqNone.ne_int_none (fin_bl I q (by simp))
  | int j => obtain ⟨t', rfl⟩ := ry; exact ne_int (fin_bl I q (congrArg not dec_int))
  | str j => obtain ⟨t', rfl⟩ := ry; exact PySem.EqMixed.ne_int_str (fin_bl I q (by simp))
  | _ => exact absurd (show false = true from hs) Bool.false_ne_true
 | str i =>
  obtain ⟨t, rfl⟩ := rx
  cases y with
  | non => cases ry; exact PySem.EqNone.ne_str_none (fin_bl I q (by simp))
  | bl j => cases ry; exact PySem.EqMixed.ne_str_bool (fin_bl I q (by simp))
  | int j => obtain ⟨t', rfl⟩ := ry; exact PySem.EqMixed.ne_str_int (fin_bl I q (by simp))
  | str j => obtain ⟨t', rfl⟩ := ry; exact ne_str (fin_bl I q (congrArg not dec_str))
  | _ => exact absurd (show false = true from hs) Bool.false_ne_true
 | byt i =>
  obtain ⟨t, rfl⟩ := rx
  cases y with
  | byt j => obtain ⟨t', rfl⟩ := ry; exact PySem.W.ne_bytes (fin_bl I q (congrArg not dec_byt))
  | _ => exact absurd (show false = true from hs) Bool.false_ne_true
 | _ => cases y <;> exact absurd (show false = true from hs) Bool.false_ne_true
theorem op_lt : OpR X (compareOp .Lt) (rI0 fun i j => .bl (decide (i < j))) := opB0 fun _ _ _ _ _ _ _ q => lt_int q
theorem op_gt : OpR X (compareOp .Gt) (rI0 fun i j => .bl (decide (j < i))) := opB0 fun _ _ _ _ _ _ _ q => gt_int q
theorem op_ge : OpR X (compareOp .GtE) (rI0 fun i j => .bl (decide (j ≤ i))) := opB0 fun _ _ _ _ _ _ _ q => ge_int q
theorem op_isN : OpR X (compareOp .Is) (fun x y H Q => y = .non /\ Q (.bl (decide (x = .non))) H) := by
 intro pins s σ H x y v u Q I rx ry h
 obtain ⟨rfl, q⟩ := h
 cases ry
 refine is_none_gen (fin_bl I q ?_)
 cases x <;> first
  | (cases rx; rfl)
  | (obtain ⟨t, rfl⟩ := rx; rfl)
theorem op_notN : OpR X (compareOp .IsNot) (fun x y H Q => y = .non /\ Q (.bl (!decide (x = .non))) H) := by
 intro pins s σ H x y v u Q I rx ry h
 obtain ⟨rfl, q⟩ := h
 cases ry
 refine isnot_none_gen (fin_bl I q ?_)
 cases x <;> first
  | (cases rx; rfl)
  | (obtain ⟨t, rfl⟩ := rx; rfl)
def isObj : HO -> Bool
 | .lst _ => true
 | .ins _ _ _ => true
 | _ => false
theorem nomark (b : Expr) {op : CmpOp} (h : op ≠ .In := by decide) (h2 : op ≠ .NotIn := by decide) : behindInMarks op b = false := by
 have e1 : (op == CmpOp.In) = false := by cases op <;> first | rfl | exact absurd rfl h
 have e2 : (op == CmpOp.NotIn) = false := by cases op <;> first | rfl | exact absurd rfl h2
 cases b <;> simp [behindInMarks, e1, e2]
theorem pe_cmpR {op : CmpOp} {r : R2} (ho : OpR X (compareOp op) r) (ha : PE X a ta) (hb : PE X b tb) (hm : behindInMarks op b = false) : PE X (.Compare a [op] [b] pos) (tOp r ta tb) := by
 intro pins s σ H Q I h
 exact wpAny_Compare1 (binT ha hb I h fun v u s2 x y H2 I2 rx ry q => ho pins s2 σ H2 x y v u Q I2 rx ry q) hm
def tTest (t : TE) : TT := fun σ H Q => t σ H fun x H' => ∃ k, x = .bl k /\ Q k H'
theorem pt_cmpR {op : CmpOp} {r : R2} (ho : OpR X (compareOp op) r) (ha : PE X a ta) (hb : PE X b tb) (hm : behindInMarks op b = false) : PT X (.Compare a [op] [b] pos) (tTest (tOp r ta tb)) := by
 intro pins s σ H Q I h
 refine wpAny_isTrue_Compare1 (thn (ha pins s σ H _ I h) fun v s1 ⟨x, H1, I1, r1, q1⟩ => thn (hb pins s1 σ H1 _ I1 q1) fun u s2 ⟨y, H2, I2, r2, q2⟩ =>
  thn (ho pins s2 σ H2 x y v u _ I2 r1 r2 q2) fun c s3 ⟨z, H3, I3, r3, k, e, q3⟩ => ?_) hm
 subst e
 cases r3
 exact wpAny_truthy_bool ⟨H3, I3, q3⟩
def tChain (r r' : R2) (ta tb tc : TE) : TE := fun σ H Q => ta σ H fun x H1 => tb σ H1 fun y H2 => r x y H2 fun z H3 => ∃ k, z = .bl k ∧
 (if k = true then tc σ H3 fun w' H4 => r' y w' H4 Q else Q (.bl false) H3)
def TruV (K : PySem.W.Frag) (x : V) (H : Hp) (k : Bool) : Prop :=
 match x with
 | .non => k = false
 | .bl b => k = b
 | .int i => k = (i != 0)
 | .str y => y.length ≤ sizeLine /\ k = ((y.length : Int) != 0)
 | .byt y => y.size ≤ sizeLine /\ k = ((y.size : Int) != 0)
 | .ref p => (∃ xs, SqL K H p xs /\ k = !xs.isEmpty) ∨ (∃ xs, SqT K H p xs /\ k = !xs.isEmpty) ∨ ∃ kvs, H p = some (.dK kvs) /\ k = !kvs.isEmpty
 | _ => False
theorem line63 : (sizeLine : Nat) < 2 ^ 63 := by rw [sizeLine_eq]; decide
def PlainIxT (b : Expr) : Prop := ∀ o i, subscripted b false o i = operate [o, i] (getItem o i)
theorem vals1 {x : V} {us : List Value} (r : Vals [x] us) : ∃ u, us = [u] /\ RelV x u := by
 cases r with
 | cons r1 r2 => cases r2; exact ⟨_, rfl, r1⟩
theorem vals2 {x y : V} {us : List Value} (r : Vals [x, y] us) : ∃ u w', us = [u, w'] /\ RelV x u /\ RelV y w' := by
 cases r with
 | cons r1 r2 =>
  cases r2 with
  | cons r3 r4 => cases r4; exact ⟨_, _, rfl, r1, r3⟩
theorem call_abs : CallR X (.builtin "abs") (fun xs H Q => ∃ i, xs = [.int i] /\ Q (.int (if i < 0 then -i else i)) H) := by
 intro pins s σ H xs us Q I r h
 obtain ⟨i, rfl, q⟩ := h
 obtain ⟨u, rfl, t, rfl⟩ := vals1 r
 exact call_abs_int fun u tk => ⟨.int (if i < 0 then -i else i), H, I.tok _, ⟨_, rfl⟩, q⟩
def LenV (K : PySem.W.Frag) (x : V) (H : Hp) (n : Nat) : Prop :=
 match x with
 | .str y => y.length ≤ sizeLine /\ n = y.length
 | .byt y => y.size ≤ sizeLine /\ n = y.size
 | .ref p => (∃ xs, SqL K H p xs /\ n = xs.length) ∨ ∃ xs, SqT K H p xs /\ n = xs.length
 | _ => False
end
end L2
namespace L2
open PySem PySem.Spec PyProof.Rows
structure ObjM (h : Heap) (x dx C : Addr) (mA : Str -> Option Value) : Prop where
 obj : h.get? x = some (PySem.W.instObj C dx)
 ns : h.Ns1 dx mA
 ne : dx ≠ x
theorem lookIn_ns {h : Heap} {dx : Addr} {mA : Str -> Option Value} (n : h.Ns1 dx mA) : ∃ od, h.get? dx = some od /\ ∀ name, PySem.W.lookIn name od = some (mA name) := by
 obtain ⟨o, es, ep, ho, hd, hk, _, hm⟩ := n
 refine ⟨o, ho, fun name => ?_⟩
 have e := hm name
 unfold nsFind findBy at e
 rw [← Array.find?_toList] at e
 unfold PySem.W.lookIn
 rw [hd]
 dsimp only
 split
 ·rename_i y q
  rw [q] at e
  exact congrArg some e
 ·rename_i q
  rw [q] at e
  have a : es.toList.any (·.refKey) = false := by
   rw [List.any_eq_false]
   intro y hy
   obtain ⟨z, t, hkey⟩ := hk y (Array.mem_toList_iff.mp hy)
   simp [DictEntry.refKey, hkey]
  have a' : ¬ es.toList.any (·.refKey) = true := by rw [a]; exact Bool.false_ne_true
  rw [if_neg a']
  exact congrArg some e
theorem ObjM.look {h : Heap} {x dx C : Addr} {mA : Str -> Option Value} (I : ObjM h x dx C mA) : ∃ od, PySem.W.InstAt h x (PySem.W.instObj C dx) C (some od) /\ ∀ name, PySem.W.lookIn name od = some (mA name) :=
 let ⟨od, ho, hl⟩ := lookIn_ns I.ns
 ⟨od, ⟨I.obj, rfl, rfl, ho⟩, hl⟩
section
variable {prog : Program} {w : World} {A : Around} {E : Value -> Shared -> Prop} {s : Shared} {K : PySem.W.Frag} {x dx C f : Addr} {mA : Str -> Option Value} {name : Str} {v : Value}
end
def putF (f : Str) (v : V) : List (Str × V) -> List (Str × V)
 | [] => [(f, v)]
 | (g, x) :: r => if g = f then (g, v) :: r else (g, x) :: putF f v r
theorem RelO.some_of {v : V} {o : Option Value} (r : RelO (some v) o) : ∃ u, o = some u /\ RelV v u := by
 cases o with
 | none => exact (show False from r).elim
 | some u => exact ⟨u, rfl, r⟩
theorem handed_of {v : V} {u : Value} (r : RelV v u) : PySem.W.handedIn u = true := by
 cases v with
 | non => cases (show u = Value.none from r); rfl
 | bl b => cases (show u = Value.bool b from r); rfl
 | int i => obtain ⟨t, e⟩ := (show ∃ t, u = Value.int i t from r); cases e; rfl
 | str x => obtain ⟨t, e⟩ := (show ∃ t, u = Value.str x t from r); cases e; rfl
 | byt b => obtain ⟨t, e⟩ := (show ∃ t, u = Value.bytes b t from r); cases e; rfl
 | flt b => obtain ⟨t, e⟩ := (show ∃ t, u = Value.float b t from r); cases e; rfl
 | ref a => cases (show u = Value.ref a from r); rfl
 | ty n => cases (show u = Value.type n from r); rfl
section
variable {P : Program} {w : World} {H H' : Hp} {h h' : Heap} {a C dx : Addr} {fs fs' : List (Str × V)}
theorem ins_get (hok : HOk P w H h) (e : H a = some (.ins C dx fs)) : ∃ mA, ObjM h a dx C mA /\ (∀ f, RelO (fs.lookup f) (mA f)) /\ PySem.Within mA (fs.map (·.1)) /\ fs.length ≤ 1000 /\ H dx = some (.own a) := by
 obtain ⟨d, z, ne, ob, mA, n, r, q⟩ := (show ObjOk P w H h a (.ins C dx fs) from hok a _ e)
 exact ⟨mA, ⟨ob, n, ne⟩, r, q, z, d⟩
end
structure Cls (K : PySem.W.Frag) (C : Addr) : Prop where
 pg : PySem.W.plainGet K C Str.empty = true
 hd : PySem.W.hasDictIn K C = true
 po : PySem.W.plainOver K C = true
 sa : PySem.W.findIn K (.ref C) "__setattr__" = some (some (.builtin "object.__setattr__"))
theorem Cls.get {K : PySem.W.Frag} {C : Addr} (c : Cls K C) (f : Str) : PySem.W.plainGet K C f = true := c.pg
def NoAttr (K : PySem.W.Frag) (C : Addr) (f : Str) : Prop := PySem.W.findIn K (.ref C) f = some none
structure Con (K : PySem.W.Frag) (C : Addr) (f : Str) (v : V) (u : Value) : Prop where
 at_ : PySem.W.findIn K (.ref C) f = some (some u)
 rel : RelV v u
 get : PySem.W.specialIn K u "__get__" = some none
 cp : PySem.W.copiedNames.contains f = false
structure Meth (K : PySem.W.Frag) (C : Addr) (m : Str) (f : Addr) : Prop where
 at_ : PySem.W.findIn K (.ref C) m = some (some (.ref f))
 fn : PySem.W.isFn K (.ref f) = true
 kp : PySem.W.keepIn K (.ref f) = true
section
variable {X : Cx} {pins : List (Addr × Obj)} {σ : St} {H : Hp} {s : Shared} {a C dx : Addr} {fs : List (Str × V)} {f : Str} {v : V} {A : Around} {E : Value -> Shared -> Prop}
theorem attr_of {prog : Program} {w : World} {env : Env} {e : Expr} {f : Str} {pos : Pos} {s : Shared} {Q : Value -> Shared -> Prop} (hb : attributeBase e f env (eval e env) = eval e env)
  (h : wpAny (model prog w) A (eval e env) (fun o s₁ => wpAny (model prog w) A (getAttr o f true) Q E s₁) E s) : wpAny (model prog w) A (eval (.Attribute e f pos) env) Q E s :=
 Attribute_any_ h (by rw [arm_eval_Attribute, hb])
end
def tFld (K : PySem.W.Frag) (ta : TE) (f : Str) : TE := fun σ H Q => ta σ H fun x H1 => ∃ a C dx fs v, x = .ref a /\ H1 a = some (.ins C dx fs) /\ Cls K C /\ NoAttr K C f /\ fs.lookup f = some v /\ Q v H1
def tCon (K : PySem.W.Frag) (ta : TE) (f : Str) : TE := fun σ H Q => ta σ H fun x H1 => ∃ a C dx fs v u, x = .ref a /\ H1 a = some (.ins C dx fs) /\ Cls K C /\ Con K C f v u /\ fs.lookup f = none /\ Q v H1
def sFld (K : PySem.W.Frag) (ta tv : TE) (f : Str) : TS := fun D σ H => tv σ H fun y H1 => ta σ H1 fun x H2 => ∃ a C dx fs, x = .ref a /\ H2 a = some (.ins C dx fs) /\ Cls K C /\ NoAttr K C f /\ fs.length < 1000 ∧
 D.nx σ (upd H2 a (.ins C dx (putF f y fs)))
def InOp (X : Cx) (op : Operator) (rd : V -> V -> Hp -> VK -> Prop) : Prop :=
 ∀ (pins : List (Addr × Obj)) (s : Shared) (σ : St) (H : Hp) (x y : V) (u v : Value) (Q : VK), Inv X pins σ H s -> RelV x u -> RelV y v -> rd x y H Q -> wpAny (model X.prog X.w) X.A (inplaceOp op u v) (EP X pins σ Q) X.xe s
def sFldAug (K : PySem.W.Frag) (ta tv : TE) (rd : V -> V -> Hp -> VK -> Prop) (f : Str) : TS := fun D σ H => ta σ H fun x H1 => ∃ a C dx fs v, x = .ref a /\ H1 a = some (.ins C dx fs) /\ Cls K C /\ NoAttr K C f /\ fs.lookup f = some v ∧
 tv σ H1 fun y H2 => rd v y H2 fun z H3 => ∃ dx' fs', H3 a = some (.ins C dx' fs') /\ fs'.length < 1000 /\ D.nx σ (upd H3 a (.ins C dx' (putF f z fs')))
section
variable {X : Cx} {o e value : Expr} {f : Str} {pos pos' tpos : Pos} {ta tv : TE}
def rAdd : V -> V -> Hp -> VK -> Prop := fun x y H Q => ∃ i j, x = .int i /\ y = .int j /\ Q (.int (i + j)) H
def rSub : V -> V -> Hp -> VK -> Prop := fun x y H Q => ∃ i j, x = .int i /\ y = .int j /\ Q (.int (i - j)) H
end
section
variable {X : Cx} {pins : List (Addr × Obj)} {σ : St} {H : Hp} {s : Shared} {A : Around} {E : Value -> Shared -> Prop} {Q : Value -> Shared -> Prop} {c : Value} {b : Bool}
inductive TyOf (K : PySem.W.Frag) (H : Hp) : V -> Value -> Prop where
 | non : TyOf K H .non (.type "NoneType")
 | bl (x : Bool) : TyOf K H (.bl x) (.type "bool")
 | int (i : Int) : TyOf K H (.int i) (.type "int")
 | str (x : Str) : TyOf K H (.str x) (.type "str")
 | flt (x : UInt64) : TyOf K H (.flt x) (.type "float")
 | lst {a : Addr} {xs : List V} (e : H a = some (.lst xs)) : TyOf K H (.ref a) (.type "list")
 | frz {a : Addr} {o : Obj} {xs : List V} (e : H a = some (.frz o (.lst xs))) : TyOf K H (.ref a) (.type "list")
 | tup {a : Addr} {xs : List V} (e : H a = some (.tup xs)) : TyOf K H (.ref a) (.type "tuple")
 | dK {a : Addr} {kvs : List (Key × V)} (e : H a = some (.dK kvs)) : TyOf K H (.ref a) (.type "dict")
 | dT {a : Addr} {kvs : List (List Key × V)} (e : H a = some (.dT kvs)) : TyOf K H (.ref a) (.type "dict")
 | ins {a C dx : Addr} {fs : List (Str × V)} (e : H a = some (.ins C dx fs)) (cl : Cls K C) (ha : PySem.W.findIn K (.ref C) "__class__" = some (some (.builtin "object.__class__")))
   (hn : PySem.W.specialIn K (.builtin "object.__class__") "__get__" = some (some (.builtin "getset_descriptor.__get__"))) (htk : PySem.W.takesIn K (.builtin "object.__class__") = some true)
   (hm : PySem.W.mroIn K C (.type "object") = some true) : TyOf K H (.ref a) (.ref C)
theorem isinst_ok {x : V} {u t : Value} (I : Inv X pins σ H s) (rx : RelV x u) (ty : TyOf X.K H x t) (e : PySem.W.kitOne X.K t c = some b) (h : ∀ tk, Q (.bool b) { s with toks := tk }) :
  wpAny (model X.prog X.w) A (call (.builtin "isinstance") [u, c]) Q E s := by
 cases ty with
 | non => cases (show u = Value.none from rx); exact PySem.W.kia_one PySem.W.kitx_none I.kIn True.intro e (fun z => nomatch z) h
 | bl y => cases (show u = Value.bool y from rx); exact PySem.W.kia_one PySem.W.kitx_bool I.kIn True.intro e (fun z => nomatch z) h
 | int i => obtain ⟨t, q⟩ := (show ∃ t, u = Value.int i t from rx); cases q; exact PySem.W.kia_one PySem.W.kitx_int I.kIn True.intro e (fun z => nomatch z) h
 | str y => obtain ⟨t, q⟩ := (show ∃ t, u = Value.str y t from rx); cases q; exact PySem.W.kia_one PySem.W.kitx_str I.kIn True.intro e (fun z => nomatch z) h
 | flt y => obtain ⟨t, q⟩ := (show ∃ t, u = Value.float y t from rx); cases q; exact PySem.W.kia_one PySem.W.kitx_float I.kIn True.intro e (fun z => nomatch z) h
 | @lst a xs ea =>
  cases (show u = Value.ref a from rx)
  obtain ⟨_, _, n, _, h1⟩ := (show ObjOk X.prog X.w H s.heap a (.lst xs) from I.hok a _ ea)
  exact PySem.W.kia_one PySem.W.kitx_list I.kIn ⟨_, h1, rfl⟩ e (fun z => nomatch z) h
 | @frz a ob xs ea =>
  cases (show u = Value.ref a from rx)
  obtain ⟨_, _, _, n, _, h1⟩ := (show ObjOk X.prog X.w H s.heap a (.frz ob (.lst xs)) from I.hok a _ ea)
  exact PySem.W.kia_one PySem.W.kitx_list I.kIn ⟨_, h1, rfl⟩ e (fun z => nomatch z) h
 | @tup a xs ea =>
  cases (show u = Value.ref a from rx)
  obtain ⟨_, _, _, p⟩ := (show ObjOk X.prog X.w H s.heap a (.tup xs) from I.hok a _ ea)
  obtain ⟨o, h1, h2, _⟩ := p
  exact PySem.W.kia_one PySem.W.kitx_tuple I.kIn ⟨o, h1, h2⟩ e (fun z => nomatch z) h
 | @dK a kvs ea =>
  cases (show u = Value.ref a from rx)
  obtain ⟨_, _, vs, _, p⟩ := (show ObjOk X.prog X.w H s.heap a (.dK kvs) from I.hok a _ ea)
  obtain ⟨o, es, ep, h1, h2, _⟩ := p
  exact PySem.W.kia_one PySem.W.kitx_dict I.kIn ⟨o, h1, h2.1⟩ e (fun z => nomatch z) h
 | @dT a kvs ea =>
  cases (show u = Value.ref a from rx)
  obtain ⟨_, _, xs, _, o, es, ep, h1, h2, _⟩ := (show ObjOk X.prog X.w H s.heap a (.dT kvs) from I.hok a _ ea)
  exact PySem.W.kia_one PySem.W.kitx_dict I.kIn ⟨o, h1, h2.1⟩ e (fun z => nomatch z) h
 | @ins a C dx fs ea cl ha hn htk hm =>
  cases (show u = Value.ref a from rx)
  obtain ⟨mA, O, _⟩ := ins_get I.hok ea
  obtain ⟨od, J, _⟩ := O.look
  exact PySem.W.kia_one (PySem.W.kitx_own (cl.get _) cl.hd ha hn htk hm) I.kIn J e (fun z => nomatch z) h
end
end L2
namespace L2
open PySem PySem.Spec PyProof.Rows
structure Room (k : Nat) (A : Around) : Prop where
 hd : A.handled = none
 dp : A.depth + 3 * k + 5 < recursionLimit
 un : A.units + 16 * k + 200 < cLine
 gd : A.guards = some []
theorem Room.mono {j k : Nat} {A : Around} (r : Room k A) (h : j ≤ k) : Room j A := ⟨r.hd, by have := r.dp; omega, by have := r.un; omega, r.gd⟩
theorem Room.deeper {k : Nat} {A : Around} (r : Room (k + 1) A) (env : Env) : Room k (A.deeper env) :=
 ⟨r.hd, by have := r.dp; show A.depth + 1 + 3 * k + 5 < _; omega, by have := r.un; show A.units + 3 + 16 * k + 200 < _; omega, r.gd⟩
theorem make_depth {A : Around} {C : Addr} {us : List Value} {kw : List (Str × Value)} : (A.under (.builtin "type.__call__" ⟨.ref C :: us, kw⟩)).depth = A.depth + 1 := by
 first | rfl | simp [Around.under, Code.weight, Code.isCreation, Code.isGuard, Code.isCaller, Code.frames, Code.isFrame, guardIds]
theorem make_units {A : Around} {C : Addr} {us : List Value} {kw : List (Str × Value)} : (A.under (.builtin "type.__call__" ⟨.ref C :: us, kw⟩)).units = A.units + 1 := by
 first | rfl | simp [Around.under, Code.cUnits, Code.frames, Code.isFrame]
theorem make_guards {A : Around} {C : Addr} {us : List Value} {kw : List (Str × Value)} : (A.under (.builtin "type.__call__" ⟨.ref C :: us, kw⟩)).guards = A.guards := by
 first | rfl | simp [Around.under, Code.guards, Code.isGuard, guardIds, pushGuards]
theorem Room.make {k : Nat} {A : Around} (r : Room (k + 1) A) (C : Addr) (us : List Value) (kw : List (Str × Value)) : Room k (A.under (.builtin "type.__call__" ⟨.ref C :: us, kw⟩)) :=
 ⟨r.hd, by have := r.dp; rw [make_depth]; omega, by have := r.un; rw [make_units]; omega, by rw [make_guards]; exact r.gd⟩
theorem Room.depth {k : Nat} {A : Around} (r : Room k A) : A.depth < recursionLimit := by have := r.dp; omega
theorem Room.units {k : Nat} {A : Around} (r : Room k A) : A.units + 64 < cLine := by have := r.un; omega
def tNil : TA := fun _ H Q => Q [] H
def tCons (ta : TE) (tr : TA) : TA := fun σ H Q => ta σ H fun x H1 => tr σ H1 fun xs H2 => Q (x :: xs) H2
section
variable {X : Cx} {e : Expr} {es : List Expr} {te : TE} {t : TA} {pos : Pos}
theorem pa_nil : PA X [] tNil := fun _ _ _ _ H Q I h => Calls.spliced_nil ⟨[], H, I, .nil, h⟩
theorem pa_cons (ha : PE X e te) (hr : PA X es t) (hs : starEach (e :: es) X.env = (false, eval e X.env) :: starEach es X.env := by rfl) : PA X (e :: es) (tCons te t) := by
 intro pos pins s σ H Q I h
 rw [hs]
 show wpAny _ _ (spliced ((false, eval e X.env) :: backTo pos (starEach es X.env))) _ _ s
 refine Calls.spliced_cons (thn (ha pins s σ H _ I h) fun u s1 ⟨x, H1, I1, r1, q1⟩ => ?_)
 exact thn (hr pos pins s1 σ H1 _ I1 q1) fun us s2 ⟨xs, H2, I2, r2, q2⟩ => ⟨x :: xs, H2, I2, .cons r1 r2, q2⟩
def tTup (t : TA) : TE := fun σ H Q => t σ H fun xs H1 => xs.length ≤ sizeLine /\ ∀ p, H1 p = none -> Q (.ref p) (upd H1 p (.tup xs))
def tLst (t : TA) : TE := fun σ H Q => t σ H fun xs H1 => xs.length ≤ sizeLine /\ ∀ p, H1 p = none -> Q (.ref p) (upd H1 p (.lst xs))
theorem pe_tup {x1} (h : PA X es t) : PE X (.Tuple es x1 pos) (tTup t) := by
 intro pins s σ H Q I hq
 refine wpAny_Tuple_spliced (thn (h pos pins s σ H _ I hq) fun us s1 ⟨xs, H1, I1, r, z, q⟩ => ⟨by rw [← r.length]; exact z, ?_⟩)
 have hf : H1 s1.heap.objs.size = none := I1.hok.fresh (Nat.le_refl _)
 refine ⟨.ref s1.heap.objs.size, upd H1 s1.heap.objs.size (.tup xs), I1.laid (t' := s1.toks) (fun b u e => Heap.get?_push_of_some _ e) (Nat.le_refl _) ?_, rfl, q _ hf⟩
 exact ⟨z, us, r, ⟨_, Heap.get?_push_size _ rfl, rfl, _, rfl⟩⟩
theorem pe_lst (h : PA X es t) : PE X (.List es pos) (tLst t) := by
 intro pins s σ H Q I hq
 refine wpAny_List_spliced (thn (h pos pins s σ H _ I hq) fun us s1 ⟨xs, H1, I1, r, z, q⟩ => ⟨by rw [← r.length]; exact z, ?_⟩)
 have hf : H1 s1.heap.objs.size = none := I1.hok.fresh (Nat.le_refl _)
 refine ⟨.ref s1.heap.objs.size, upd H1 s1.heap.objs.size (.lst xs), I1.laid (t' := s1.toks) (fun b u e => Heap.get?_push_of_some _ e) (Nat.le_refl _) ?_, rfl, q _ hf⟩
 exact ⟨z, us, 0, r, Heap.get?_push_size _ rfl⟩
end
abbrev Sp := List V -> Hp -> VK -> XK -> Prop
abbrev CXT := List Env -> Hp -> Shared -> XK -> Value -> Shared -> Prop
structure Env0 (P : Program) (w : World) (K : PySem.W.Frag) (mg : Str -> Option Value) (base : Heap) (A : Around) (outer : List Env) (s : Shared) (H : Hp) : Prop where
 frames : A.frames = some outer
 mod : Mod K mg base
 bs : ∀ b o, base.get? b = some o -> s.heap.get? b = some o /\ H b = none
 bsz : base.objs.size ≤ s.heap.objs.size
 funs : s.heap.FunFrames base outer
 frf : ∀ b ∈ frs outer, H b = none
 hok : HOk P w H s.heap
 bare : AllBare s.gens
def CE (outer : List Env) (P : Program) (w : World) (H : Hp) (s : Shared) (Q : VK) (u : Value) (s' : Shared) : Prop :=
 ∃ v H', s'.os = s.os /\ AllBare s'.gens /\ Un (frs outer) [] H H' s.heap s'.heap /\ HOk P w H' s'.heap /\ RelV v u /\ Q v H'
def CR (CX : CXT) (outer : List Env) (P : Program) (w : World) (H : Hp) (s : Shared) (Q : VK) (E : XK) (r : Result) (s' : Shared) : Prop :=
 match r with
 | .ok (.ret u) => CE outer P w H s Q u s'
 | .ok _ => False
 | .error e => CX outer H s E e s'
structure FnOk (P : Program) (w : World) (K : PySem.W.Frag) (mg : Str -> Option Value) (base : Heap) (CX : CXT) (k : Nat) (f : Addr) (fd : FuncData) (ps : List Str) (sp : Sp) : Prop where
 len : ∀ vs H Q E, sp vs H Q E -> vs.length = ps.length
 run : ∀ (A : Around) (outer : List Env) (s : Shared) (H : Hp) (args : Args) (us : List Value) (vs : List V) (Q : VK) (E : XK), Room k A -> Env0 P w K mg base A outer s H -> BindsTo s fd args (ps.zip us) -> Vals vs us -> sp vs H Q E →
  codeAny (model P w) A (.call (.ref f) args) (CR CX outer P w H s Q E) s
theorem Env0.make {P : Program} {w : World} {K : PySem.W.Frag} {mg : Str -> Option Value} {base : Heap} {A : Around} {outer : List Env} {s : Shared} {H : Hp} (e : Env0 P w K mg base A outer s H) (C : Addr) (us : List Value) (kw : List (Str × Value)) :
  Env0 P w K mg base (A.under (.builtin "type.__call__" ⟨.ref C :: us, kw⟩)) outer s H := ⟨by first | exact e.frames | (simpa [Around.under, Code.envs, Code.isFrame, pushEnvs] using e.frames), e.mod, e.bs, e.bsz, e.funs, e.frf, e.hok, e.bare⟩
section
variable {X : Cx} {pins : List (Addr × Obj)} {σ : St} {H : Hp} {s s' : Shared}
theorem Inv.env0 (I : Inv X pins σ H s) : Env0 X.prog X.w X.K X.mg X.base X.A X.stack s H :=
 ⟨I.ok.frames, I.ok.mod, I.bs, Nat.le_trans I.ok.bsz I.sz, I.stack, I.stkFree, I.hok, I.bare⟩
theorem Inv.after {Q : VK} {u : Value} (I : Inv X pins σ H s) (h : CE X.stack X.prog X.w H s Q u s') : EP X pins σ Q u s' := by
 obtain ⟨v, H', os, bare, un, hok, r, q⟩ := h
 obtain ⟨hh, g, d, t, os'⟩ := s'
 obtain rfl : os' = s.os := os
 exact ⟨v, H', I.call (h' := hh) (g' := g) (d' := d) (t' := t) (ch := []) un hok bare (fun b z => absurd z (by simp)), r, q⟩
end
def tCall (sp : Sp) (dvs : List V) (E : XK) (t : TA) : TE := fun σ H Q => t σ H fun vs H1 => sp (vs ++ dvs) H1 Q E
def tMeth (C : Addr) (m : Str) (sp : Sp) (dvs : List V) (E : XK) (ta : TE) (t : TA) : TE := fun σ H Q => ta σ H fun x H1 => ∃ a dx fs, x = .ref a /\ H1 a = some (.ins C dx fs) /\ fs.lookup m = none ∧
 t σ H1 fun vs H2 => sp (x :: (vs ++ dvs)) H2 Q E
def tMake (C : Addr) (sp : Sp) (dvs : List V) (E : XK) (t : TA) : TE := fun σ H Q => t σ H fun vs H1 => ∀ x dx, H1 x = none -> H1 dx = none -> dx ≠ x →
 sp (.ref x :: (vs ++ dvs)) (upd (upd H1 dx (.own x)) x (.ins C dx [])) (fun v H2 => v = .non /\ Q (.ref x) H2) E
def Binds (K : PySem.W.Frag) (fd : FuncData) (ps : List Str) (ds : List Value) : Prop :=
 ∀ (s : Shared) (us : List Value), K.In s.heap -> (us ++ ds).length = ps.length -> BindsTo s fd ⟨us, []⟩ (ps.zip (us ++ ds))
theorem Binds.all {K : PySem.W.Frag} {fd : FuncData} {ps : List Str} (h : ∀ us : List Value, us.length = ps.length -> bindArgs fd ⟨us, []⟩ = pure (ps.zip us)) : Binds K fd ps [] := fun s us _ hl => by
 rw [List.append_nil] at hl ⊢
 exact .of_eq (h us hl)
def Passes (CX : CXT) (X : Cx) (E : XK) : Prop := ∀ (pins : List (Addr × Obj)) (σ : St) (H : Hp) (s : Shared) (e : Value) (s' : Shared), Inv X pins σ H s -> CX X.stack H s E e s' -> X.xe e s'
section
variable {X : Cx} {CX : CXT} {k : Nat} {f C : Addr} {fd : FuncData} {ps : List Str} {sp : Sp} {dvs : List V} {ds : List Value} {E : XK} {x m : Str} {p pos apos : Pos} {e o : Expr} {es : List Expr} {ta : TE} {t : TA}
theorem run_fn {pins : List (Addr × Obj)} {σ : St} {H : Hp} {s : Shared} {Q : VK} {us : List Value} {vs : List V} (F : FnOk X.prog X.w X.K X.mg X.base CX k f fd ps sp) (hr : Room k X.A) (hb : Binds X.K fd ps ds) (hd : Vals dvs ds) (hx : Passes CX X E)
  (I : Inv X pins σ H s) (r : Vals vs us) (h : sp (vs ++ dvs) H Q E) : wpAny (model X.prog X.w) X.A (call (.ref f) us) (EP X pins σ Q) X.xe s := by
 have r2 : Vals (vs ++ dvs) (us ++ ds) := r.append hd
 have hl : (us ++ ds).length = ps.length := by rw [← r2.length]; exact F.len _ _ _ _ h
 refine wpAny_call (codeAny_mono (F.run X.A X.stack s H ⟨us, []⟩ (us ++ ds) (vs ++ dvs) Q E hr I.env0 (hb s us I.kIn hl) r2 h) fun r s' hq => ?_)
 cases r with
 | error e => exact hx pins σ H s e s' I hq
 | ok fl =>
  cases fl with
  | ret u => exact I.after hq
  | next => exact False.elim hq
  | brk => exact False.elim hq
  | cont => exact False.elim hq
theorem pe_call (F : FnOk X.prog X.w X.K X.mg X.base CX k f fd ps sp) (hr : Room k X.A) (hg : Gl X x) (hm : X.mg x = some (.ref f)) (hk : PySem.W.keepIn X.K (.ref f) = true) (hb : Binds X.K fd ps ds) (hd : Vals dvs ds) (hx : Passes CX X E)
  (ha : PA X (e :: es) t) (hdb : (x == ("__debug__" : Str)) = false := by decide) (he : starEach (e :: es) X.env = (false, eval e X.env) :: starEach es X.env := by rfl) (hpl : (backTo pos (starEach es X.env)).any (·.1) = false := by rfl) :
  PE X (.Call (.Name x p) (e :: es) [] pos) (tCall sp dvs E t) := by
 intro pins s σ H Q I h
 refine wpAny_Call_Name_kw (ld_glob I hg hm ?_ hdb)
 refine PySem.W.callWith_K (h₀ := X.base) I.ok.mod.kin hk (thn (ha pos pins s σ H _ I h) fun us s1 ⟨vs, H1, I1, r, q⟩ => ⟨I1.kIn, ?_⟩) he hpl
 exact run_fn F hr hb hd hx I1 r q
structure Mk (K : PySem.W.Frag) (C f : Addr) : Prop where
 makes : PySem.W.makesIn K C = true
 init : PySem.W.findIn K (.ref C) "__init__" = some (some (.ref f))
 fn : PySem.W.isFn K (.ref f) = true
 kp : PySem.W.keepIn K (.ref C) = true
end
def PK (X : Cx) (kws : List Keyword) (t : TA) : Prop :=
 ∀ (pos : Pos) (pins : List (Addr × Obj)) (s : Shared) (σ : St) (H : Hp) (Q : List V -> Hp -> Prop), Inv X pins σ H s -> t σ H Q -> wpAny (model X.prog X.w) X.A (evalAll ((backToKw pos (keywordEach kws X.env)).map (·.2))) (AP X pins σ Q) X.xe s
section
variable {X : Cx} {CX : CXT} {k : Nat} {f C : Addr} {fd : FuncData} {ps ks : List Str} {sp : Sp} {E : XK} {x m : Str} {p pos apos kpos : Pos} {e o : Expr} {es : List Expr} {kws : List Keyword} {te ta : TE} {t tk : TA} {nm : Option Str}
structure KBinds (K : PySem.W.Frag) (fd : FuncData) (ps ks : List Str) (g : List Value -> List Value -> List Value) (gV : List V -> List V -> List V) : Prop where
 to : ∀ (s : Shared) (us ws : List Value), K.In s.heap -> (g us ws).length = ps.length -> BindsTo s fd ⟨us, ks.zip ws⟩ (ps.zip (g us ws))
 rel : ∀ {vs : List V} {us : List Value} {zs : List V} {ws : List Value}, Vals vs us -> Vals zs ws -> Vals (gV vs zs) (g us ws)
def tCallK (sp : Sp) (gV : List V -> List V -> List V) (E : XK) (t tk : TA) : TE := fun σ H Q => t σ H fun vs H1 => tk σ H1 fun zs H2 => sp (gV vs zs) H2 Q E
variable {g : List Value -> List Value -> List Value} {gV : List V -> List V -> List V}
end
structure FnScope (N P : List Str) (sc : Scope) : Prop where
 kind : sc.kind = .function
 co : sc.isCoroutine = false
 gen : sc.isGenerator = false
 nd : N.Nodup
 pre : N.take P.length = P
 par : ∀ x ∈ P, sc.names.lookup x = some .local ∨ sc.names.lookup x = some .cell
 nofree : ∀ y ∈ sc.names, y.2 ≠ .free
theorem bindL_out {kindOf : Str -> Option NameKind} {x : Str} : ∀ {binds : List (Str × Value)} {m : Str -> Option Value}, (∀ v, (x, v) ∉ binds) -> bindL kindOf binds m x = m x
 | [], _, _ => rfl
 | (n, v) :: r, m, h => by
  unfold bindL
  rw [bindL_out fun w hw => h w (List.mem_cons_of_mem _ hw)]
  split
  ·have : x ≠ n := by rintro rfl; exact h v List.mem_cons_self
   simp [this]
  ·rfl
theorem bindC_out {kindOf : Str -> Option NameKind} {x : Str} : ∀ {binds : List (Str × Value)} {m : Str -> Option Value}, (∀ v, (x, v) ∉ binds) -> bindC kindOf binds m x = m x
 | [], _, _ => rfl
 | (n, v) :: r, m, h => by
  unfold bindC
  rw [bindC_out fun w hw => h w (List.mem_cons_of_mem _ hw)]
  split
  ·rfl
  ·have : x ≠ n := by rintro rfl; exact h v List.mem_cons_self
   simp [this]
theorem bindL_get {kindOf : Str -> Option NameKind} {x : Str} {v : Value} : ∀ {P : List Str} {vs : List Value} {i : Nat} {m : Str -> Option Value}, P.Nodup -> P[i]? = some x -> vs[i]? = some v -> kindOf x = some .local →
  bindL kindOf (P.zip vs) m x = some v
 | [], _, _, _, _, h, _, _ => by simp at h
 | _ :: _, [], _, _, _, _, h, _ => by simp at h
 | p :: P, w :: vs, 0, m, nd, h1, h2, hk => by
  simp at h1 h2; subst h1; subst h2
  show bindL kindOf ((p, w) :: P.zip vs) m p = _
  unfold bindL
  rw [bindL_out fun v hv => (List.nodup_cons.mp nd).1 (List.of_mem_zip hv).1, if_pos hk]
  simp
 | p :: P, w :: vs, i + 1, m, nd, h1, h2, hk => by
  show bindL kindOf ((p, w) :: P.zip vs) m x = _
  unfold bindL
  exact bindL_get (i := i) (List.nodup_cons.mp nd).2 (by simpa using h1) (by simpa using h2) hk
theorem bindC_get {kindOf : Str -> Option NameKind} {x : Str} {v : Value} : ∀ {P : List Str} {vs : List Value} {i : Nat} {m : Str -> Option Value}, P.Nodup -> P[i]? = some x -> vs[i]? = some v -> kindOf x ≠ some .local →
  bindC kindOf (P.zip vs) m x = some v
 | [], _, _, _, _, h, _, _ => by simp at h
 | _ :: _, [], _, _, _, _, h, _ => by simp at h
 | p :: P, w :: vs, 0, m, nd, h1, h2, hk => by
  simp at h1 h2; subst h1; subst h2
  show bindC kindOf ((p, w) :: P.zip vs) m p = _
  unfold bindC
  rw [bindC_out fun v hv => (List.nodup_cons.mp nd).1 (List.of_mem_zip hv).1, if_neg hk]
  simp
 | p :: P, w :: vs, i + 1, m, nd, h1, h2, hk => by
  show bindC kindOf ((p, w) :: P.zip vs) m x = _
  unfold bindC
  exact bindC_get (i := i) (List.nodup_cons.mp nd).2 (by simpa using h1) (by simpa using h2) hk
def start (N : List Str) (vs : List V) : St := vs.map some ++ List.replicate (N.length - vs.length) none
def cxOf (CX : CXT) (P : Program) (w : World) (K : PySem.W.Frag) (mg : Str -> Option Value) (base : Heap) (N : List Str) (qual : Str) (scope : Scope) (f : Addr) (cd : Value) (A : Around) (outer : List Env) (s : Shared) (H : Hp) (E : XK) : Cx where
 prog := P
 w := w
 K := K
 mg := mg
 base := base
 A := A.deeper (envOfC qual scope s.heap.objs.size f cd)
 N := N
 s₀ := s
 H₀ := H
 env := envOfC qual scope s.heap.objs.size f cd
 outer := outer
 stack := envOfC qual scope s.heap.objs.size f cd :: outer
 ex := []
 calm := true
 fn := fun _ => true
 pn := []
 xe := fun e s' => wpAny (model P w) (A.deeper (envOfC qual scope s.heap.objs.size f cd)) (leaving (envOfC qual scope s.heap.objs.size f cd) e) (fun _ s'' => CX outer H s E e s'') (fun e' s'' => CX outer H s E e' s'') s'
theorem cell_has {sc : Scope} {n : Nat} {x : Str} (h : sc.names.lookup x = some .cell) : ∃ c, (cellsFrom n sc.names []).lookup x = some c := by
 have q := PySem.W.cellsFrom_some sc.names n [] (.inl h)
 exact Option.isSome_iff_exists.mp q
theorem inv_start {CX : CXT} {P : Program} {w : World} {K : PySem.W.Frag} {mg : Str -> Option Value} {base : Heap} {N ps : List Str} {qual : Str} {scope : Scope} {f : Addr} {cd : Value} {A : Around} {outer : List Env} {s s1 : Shared} {H : Hp} {E : XK} {us : List Value} {vs : List V}
  (S : FnScope N ps scope) (hd : A.handled = none) (e0 : Env0 P w K mg base A outer s H) (hl : vs.length = ps.length) (r : Vals vs us)
  (x : InCallC s s.heap.objs.size (bindL (envOfC qual scope s.heap.objs.size f cd).kindOf (ps.zip us) fun _ => none) (cellsFrom (s.heap.objs.size + 1) scope.names []) (bindC (envOfC qual scope s.heap.objs.size f cd).kindOf (ps.zip us) fun _ => none) s1) :
  Inv (cxOf CX P w K mg base N qual scope f cd A outer s H E) [] (start N vs) H s1 := by
 have hpl : ps.length ≤ N.length := by have := congrArg List.length S.pre; rw [List.length_take] at this; omega
 obtain ⟨h1, tk, rfl, hk⟩ := x.done
 have noA : ∀ b : Addr, b ∉ (cxOf CX P w K mg base N qual scope f cd A outer s H E).ex := fun b z => absurd (show b ∈ ([] : List Addr) from z) (by simp)
 refine ⟨⟨e0.mod, S.kind, rfl, rfl, Nat.le_refl _, fun y z c h1 h2 => ?_, fun y hy => ?_, fun y c _ h => ?_, fun _ => hd, Around.frames_deeper e0.frames, .inr ⟨rfl, rfl⟩, fun b z => absurd z (noA b), e0.bs, e0.bsz, fun b _ _ => noA b, fun b z => absurd z (noA b), e0.funs, e0.frf⟩,
  rfl, e0.bare, Un.kept hk, ⟨_, x.toInCall.ns, fun i y v h1 h2 h3 => ?_⟩, fun y c h => ⟨_, x.cell y c h⟩, e0.hok.fresh (Nat.le_refl _), fun y c h => ?_, fun p hp => absurd (show p ∈ ([] : List (Addr × Obj)) from hp) (by simp), e0.hok.kept hk, ?_⟩
 ·exact name_of_addr x.apart (PySem.mem_of_lookup h1) (PySem.mem_of_lookup h2)
 ·have hy : scope.names.lookup y = some .cell ∨ scope.names.lookup y = some .free := hy
  rcases hy with hy | hy
  ·exact cell_has hy
  ·exact absurd rfl (S.nofree _ (PySem.mem_of_lookup hy))
 ·exact Nat.le_of_lt (x.above y c (PySem.mem_of_lookup h))
 ·have hi : i < vs.length := by
   unfold start at h2
   by_cases hi : i < vs.length
   ·exact hi
   ·rw [List.getElem?_append_right (by simpa using hi)] at h2
    rw [List.getElem?_replicate] at h2
    split at h2 <;> cases h2
  have ha : vs[i]? = some v := by
   unfold start at h2
   rw [List.getElem?_append_left (by simpa using hi), List.getElem?_map] at h2
   cases e : vs[i]? with
   | none => rw [e] at h2; cases h2
   | some a => rw [e] at h2; cases h2; rfl
  obtain ⟨u, hu, rv⟩ := r.get ha
  have hp : ps[i]? = some y := by
   rw [← S.pre, List.getElem?_take_of_lt (by omega)]; exact h1
  have ndP : ps.Nodup := by rw [← S.pre]; exact S.nd.sublist (List.take_sublist _ _)
  refine ⟨u, rv, ?_⟩
  rcases S.par y (List.mem_of_getElem? hp) with k | k
  ·exact .inl ⟨k, bindL_get ndP hp hu k⟩
  ·obtain ⟨c, e⟩ := cell_has (n := s.heap.objs.size + 1) k
   refine .inr ⟨.inl k, c, e, ?_⟩
   have q := x.cell y c e
   rw [bindC_get ndP hp hu (by show scope.names.lookup y ≠ _; rw [k]; decide)] at q
   exact q
 ·exact e0.hok.fresh (Nat.le_of_lt (x.above y c (PySem.mem_of_lookup h)))
 ·unfold start
  show _ = N.length
  rw [List.length_append, List.length_map, List.length_replicate]
  omega
theorem fn_of {CX : CXT} {P : Program} {w : World} {K : PySem.W.Frag} {mg : Str -> Option Value} {base : Heap} {k : Nat} {f : Addr} {name qual : Str} {params : Arguments} {body : List Stmt} {scope : Scope} {dV kV doc pm cdv ct oc : Value} {an od : Option Addr}
  {osl : Array (Option Value)} {N ps : List Str} {sp : Sp} (lk : K.lookup f = some ⟨oc, od, .func (PySem.W.fnOf name qual params body scope dV kV doc pm an cdv ct), osl⟩) (hcd : PySem.W.codeIn K cdv qual = true) (S : FnScope N ps scope)
  (len : ∀ vs H Q E, sp vs H Q E -> vs.length = ps.length)
  (hbody : ∀ (A : Around) (outer : List Env) (s : Shared) (H : Hp) (vs : List V) (Q : VK) (E : XK), Room k (A.deeper (envOfC qual scope s.heap.objs.size f cdv)) -> sp vs H Q E →
   ∃ t, PSs (cxOf CX P w K mg base N qual scope f cdv A outer s H E) body t /\ t { nx := fun _ H' => Q .non H', rt := Q } (start N vs) H) :
  FnOk P w K mg base CX (k + 1) f (PySem.W.fnOf name qual params body scope dV kV doc pm an cdv ct) ps sp := by
 refine ⟨len, fun A outer s H args us vs Q E hr e0 hb r hsp => ?_⟩
 have hl := len _ _ _ _ hsp
 have KX : K.In s.heap := e0.mod.kin.keeps fun b o e => (e0.bs b o e).1
 have lim : s.heap.NoLimit := e0.mod.nolimit.keeps fun b o e => (e0.bs b o e).1
 have hkind : ∀ y ∈ ps.zip us, scope.names.lookup y.1 = some .local ∨ (scope.names.lookup y.1 = some .cell /\ ((cellsFrom (s.heap.objs.size + 1) scope.names []).lookup y.1).isSome = true) := fun ⟨n, v⟩ hy => by
  rcases S.par n (List.of_mem_zip hy).1 with q | q
  ·exact .inl q
  ·exact .inr ⟨q, PySem.W.cellsFrom_some _ _ _ (.inl q)⟩
 refine codeAny_call_function hr.depth (KX _ _ lk) rfl S.co S.gen rfl (PySem.W.codeRec_of KX hcd) (hb _ _ _ _ ?_)
 refine wpAny_newFunctionEnv_cells S.kind hkind fun env he s1 x => ?_
 subst he
 refine ⟨lim.keeps x.toInCall.keep, codeAny_func ?_⟩
 obtain ⟨t, ht, hq⟩ := hbody A outer s H vs Q E (hr.deeper _) hsp
 have I : Inv (cxOf CX P w K mg base N qual scope f cdv A outer s H E) [] (start N vs) H s1 := inv_start S hr.hd e0 hl r x
 refine wpAny_mono (ht [] s1 (start N vs) H _ I hq) (fun fl s' hs => ?_) fun e s' hs => hs
 have fin : ∀ {σ' : St} {H' : Hp} {v : V} {u : Value}, Inv (cxOf CX P w K mg base N qual scope f cdv A outer s H E) [] σ' H' s' -> RelV v u -> Q v H' -> CE outer P w H s Q u s' :=
  fun {σ' H' v u} J rv q => ⟨v, H', J.os, J.bare, J.base, J.hok, rv, q⟩
 cases fl with
 | ret u =>
  obtain ⟨v, σ', H', J, rv, q⟩ := hs
  exact fin J rv q
 | next =>
  obtain ⟨σ', H', J, q⟩ := hs
  exact fin (v := V.non) (u := Value.none) J rfl q
 | brk =>
  obtain ⟨_, _, _, q⟩ := hs
  exact False.elim q
 | cont =>
  obtain ⟨_, _, _, q⟩ := hs
  exact False.elim q
end L2
namespace L2
open PySem PySem.Spec PyProof.Rows
section
variable {X : Cx} {x : Str} {p pos : Pos} {e : Expr} {es : List Expr} {t : TA} {id T : String} {r : List V -> Hp -> VK -> Prop}
def tCB (r : List V -> Hp -> VK -> Prop) (t : TA) : TE := fun σ H Q => t σ H fun vs H1 => r vs H1 Q
theorem pe_callB (hc : CallR X (.builtin id) r) (hg : Gl X x) (hm : X.mg x = none) (hv : bootBuiltins x = some (.builtin id)) (ha : PA X (e :: es) t) (hn : x ≠ "__name__" := by decide) (hdb : (x == ("__debug__" : Str)) = false := by decide)
  (he : starEach (e :: es) X.env = (false, eval e X.env) :: starEach es X.env := by rfl) (hpl : (backTo pos (starEach es X.env)).any (·.1) = false := by rfl) : PE X (.Call (.Name x p) (e :: es) [] pos) (tCB r t) := by
 intro pins s σ H Q I h
 refine wpAny_Call_Name_kw (ld_blt I hg hm hv ?_ hn hdb)
 exact PyProof.Rows.callWith_builtin1 (thn (ha pos pins s σ H _ I h) fun us s1 ⟨vs, H1, I1, r1, q1⟩ => hc pins s1 σ H1 vs us Q I1 r1 q1) he hpl
theorem pe_callTy (hc : CallR X (.type T) r) (hg : Gl X x) (hm : X.mg x = none) (hv : bootBuiltins x = some (.type T)) (ha : PA X (e :: es) t) (hn : x ≠ "__name__" := by decide) (hdb : (x == ("__debug__" : Str)) = false := by decide)
  (he : starEach (e :: es) X.env = (false, eval e X.env) :: starEach es X.env := by rfl) (hpl : (backTo pos (starEach es X.env)).any (·.1) = false := by rfl) : PE X (.Call (.Name x p) (e :: es) [] pos) (tCB r t) := by
 intro pins s σ H Q I h
 refine wpAny_Call_Name_kw (ld_blt I hg hm hv ?_ hn hdb)
 exact PyProof.Rows.callWith_type1 (thn (ha pos pins s σ H _ I h) fun us s1 ⟨vs, H1, I1, r1, q1⟩ => hc pins s1 σ H1 vs us Q I1 r1 q1) he hpl
end
end L2
namespace HT
open PySem PyProof.Rows
def lexLt : List Int -> List Int -> Bool
 | [], [] => false
 | [], _ :: _ => true
 | _ :: _, [] => false
 | x :: xs, y :: ys => if x = y then lexLt xs ys else decide (x < y)
section
open PySem.SeqAt
open PySem.AutoSeq1 (wpAny_loadPart')
open PySem.MeetsSeq PySem.MeetsSeq2 PySem.MeetsSeq3
end
section
variable {prog : Program} {w : World} {A : Around} {E : Value -> Shared -> Prop} {s : Shared}
theorem cat_tup {t b : Addr} {vs ws : List Value} {Q : Value -> Shared -> Prop} (ht : IsTup s.heap t vs.toArray) (hb : IsTup s.heap b ws.toArray) (hv : vs ≠ [])
  (h1 : ws = [] -> Q (.ref t) s) (h2 : ws ≠ [] -> Q (.ref s.heap.objs.size) { s with heap := s.heap.push { cls := .type "tuple", data := .seq (vs ++ ws).toArray } })
  (hsz : vs.length + ws.length ≤ sizeLine) : wpAny (model prog w) A (binaryOp .Add (.ref t) (.ref b)) Q E s := by
 obtain ⟨⟨cls, dd, data, sl⟩, ho, hc, n, hd⟩ := id ht
 obtain ⟨⟨cls2, dd2, data2, sl2⟩, ho2, hc2, n2, hd2⟩ := id hb
 simp only at hc hd hc2 hd2
 subst hc hd hc2 hd2
 have e : vs.toArray ++ ws.toArray = (vs ++ ws).toArray := by simp
 by_cases hw : ws = []
 ·exact concat_meets ⟨_, ho, rfl⟩ ⟨_, ho2, rfl⟩ noFill_tuple_add seq_tuple_add PySem.F.slot_tuple_add PySem.F.entry_tuple_add (PySem.F.args_tuple_add_2 _ _)
   (tuple_addW1 t b vs.toArray ws.toArray n n2 dd dd2 sl sl2 (by simpa using hv) (by simp [hw])) ⟨ho, ho2, h1 hw⟩
 ·refine concat_meets ⟨_, ho, rfl⟩ ⟨_, ho2, rfl⟩ noFill_tuple_add seq_tuple_add PySem.F.slot_tuple_add PySem.F.entry_tuple_add (PySem.F.args_tuple_add_2 _ _)
   (tuple_addW2 t b vs.toArray ws.toArray n n2 dd dd2 sl sl2 (by simpa using hv) (by simpa using hw) (by rw [List.size_toArray, List.size_toArray]; exact hsz)) ⟨ho, ho2, ?_⟩
  rw [e]
  exact h2 hw
def sIx (n d : Nat) : Option Int -> Nat
 | none => d
 | some v => if v < 0 then (v + (n : Int)).toNat else min v.toNat n
theorem sIx_none (n d : Nat) : sIx n d none = d := rfl
theorem sIx_nat (n d k : Nat) : sIx n d (some (k : Int)) = min k n := by
 show (if (k : Int) < 0 then ((k : Int) + (n : Int)).toNat else min (k : Int).toNat n) = min k n
 rw [if_neg (by omega), Int.toNat_natCast]
theorem sIx_le (n d : Nat) (hd : d ≤ n) (o : Option Int) : sIx n d o ≤ n := by
 cases o with
 | none => exact hd
 | some v =>
  show (if v < 0 then (v + (n : Int)).toNat else min v.toNat n) ≤ n
  by_cases hv : v < 0
  ·rw [if_pos hv]; omega
  ·rw [if_neg hv]; exact Nat.min_le_right _ _
theorem clip_eq (v : Int) (n d : Nat) : (if v < 0 then max (v + (n : Int)) 0 else min v (n : Int)) = ((sIx n d (some v) : Nat) : Int) := by
 show (if v < 0 then max (v + (n : Int)) 0 else min v (n : Int)) = (((if v < 0 then (v + (n : Int)).toNat else min v.toNat n) : Nat) : Int)
 by_cases hv : v < 0
 ·simp only [if_pos hv]; omega
 ·simp only [if_neg hv]; omega
theorem adjust_gen (lo hi : Option Int) (n : Nat) : Builtin.Slice.sliceAdjust lo hi 1 (n : Int) = (((sIx n 0 lo : Nat) : Int), ((sIx n n hi : Nat) : Int)) := by
 have h1 : ¬ ((1 : Int) < 0) := by omega
 unfold Builtin.Slice.sliceAdjust
 simp only [h1, if_false]
 refine Prod.ext ?_ ?_
 ·cases lo with
  | none => rfl
  | some v => exact clip_eq v n 0
 ·cases hi with
  | none => rfl
  | some v => exact clip_eq v n n
theorem places_gen (i j : Nat) : Builtin.Slice.slicePlaces (i : Int) (j : Int) 1 = j - i := by
 unfold Builtin.Slice.slicePlaces
 have h1 : (1 : Int) > 0 := by omega
 simp only [h1, if_true, Int.ediv_one]
 split <;> omega
theorem slicePart_ {v : Value} {o : Option Int} {Q : Option Int -> Shared -> Prop} (p : IsPart v o) (h : Q o s) : wpAny (model prog w) A (Builtin.Slice.slicePartIndex v) Q E s := by
 cases p with
 | none => exact slicePart_none h
 | int i t => exact slicePart_int h
theorem sliceApplied_gen {sl : Addr} {vl vu : Value} {lo hi : Option Int} {n : Nat} {Q : Int × Int × Nat -> Shared -> Prop} (hs : s.heap.IsSliceOf sl vl vu .none) (pl : IsPart vl lo) (pu : IsPart vu hi)
  (h : Q (((sIx n 0 lo : Nat) : Int), 1, sIx n n hi - sIx n 0 lo) s) : wpAny (model prog w) A (Builtin.Slice.sliceApplied (.ref sl) (pure (n : Int))) Q E s := by
 obtain ⟨os, hos, hcs, hds⟩ := id hs
 unfold Builtin.Slice.sliceApplied Builtin.Slice.sliceFields
 refine wpAny_bind (wpAny_bind (wpAny_field hos hds (x := vl) rfl (wpAny_bind (wpAny_field hos hds (x := vu) rfl (wpAny_bind (wpAny_field hos hds (x := .none) rfl (wpAny_pure ?_)))))))
 refine wpAny_bind (slicePart_none ?_)
 show wpAny _ _ (if ((1 : Int) == 0) = true then _ else _) _ _ s
 rw [if_neg (by decide)]
 refine wpAny_bind (slicePart_ pl (wpAny_bind (slicePart_ pu (wpAny_bind (wpAny_pure ?_)))))
 show wpAny _ _ (match Builtin.Slice.sliceAdjust lo hi 1 (n : Int) with | (lo, hi) => pure (lo, (1 : Int), Builtin.Slice.slicePlaces lo hi 1)) _ _ s
 rw [adjust_gen lo hi n]
 show wpAny _ _ (pure (((sIx n 0 lo : Nat) : Int), (1 : Int), Builtin.Slice.slicePlaces ((sIx n 0 lo : Nat) : Int) ((sIx n n hi : Nat) : Int) 1)) _ _ s
 rw [places_gen]
 exact wpAny_pure h
theorem pick_gen (xs : Array Value) (i k : Nat) : ((List.range k).filterMap fun (m : Nat) => xs[((i : Int) + (m : Int) * 1).toNat]?).toArray = ((xs.toList.drop i).take k).toArray := by
 have e : (fun (m : Nat) => xs[((i : Int) + (m : Int) * 1).toNat]?) = fun m => xs[i + m]? := by
  funext m
  have : ((i : Int) + (m : Int) * 1).toNat = i + m := by omega
  rw [this]
 rw [e]
 have := pick_run xs i k
 rw [List.filterMap_map] at this
 have e2 : ((fun x => xs[x]?) ∘ fun x => i + x) = fun m => xs[i + m]? := rfl
 rw [e2] at this
 rw [this]
theorem getItem_tuple_cut {t sl : Addr} {items : Array Value} {vl vu : Value} {lo hi : Option Int} {Q : Value -> Shared -> Prop} (ht : IsTup s.heap t items) (hs : s.heap.IsSliceOf sl vl vu .none) (pl : IsPart vl lo) (pu : IsPart vu hi)
  (hw : ¬ (sIx items.size 0 lo = 0 /\ sIx items.size items.size hi = items.size))
  (h : Q (.ref s.heap.objs.size) { s with heap := s.heap.push { cls := .type "tuple", data := .seq ((items.toList.drop (sIx items.size 0 lo)).take (sIx items.size items.size hi - sIx items.size 0 lo)).toArray } })
  (hsz : items.size ≤ sizeLine) : wpAny (model prog w) A (getItem (.ref t) (.ref sl)) Q E s := by
 have htake : sizeOk (.seq ((items.toList.drop (sIx items.size 0 lo)).take (sIx items.size items.size hi - sIx items.size 0 lo)).toArray) := by
  show ((items.toList.drop (sIx items.size 0 lo)).take (sIx items.size items.size hi - sIx items.size 0 lo)).toArray.size ≤ sizeLine
  rw [List.size_toArray, List.length_take, List.length_drop, Array.length_toList]
  omega
 have hj : sIx items.size items.size hi ≤ items.size := sIx_le _ _ (Nat.le_refl _) hi
 obtain ⟨os, hos, hcs, hds⟩ := id hs
 have hTs : s.TypeIs (.ref sl) "slice" := ⟨os, hos, hcs⟩
 unfold getItem
 try with_reducible refine wpAny_holding ?_
 first | refine wpAny_bind (wpAny_pure ?_) | skip
 refine wpAny_bind (wpAny_sequenceKey ht.typeIs (by decide) ?_)
 refine wpAny_bind (wpAny_callSpecial?_slot (name := Str.ofString "__getitem__") ht.typeIs PyProof.Rows.slot_tuple_getitem
  (wpAny_call_entry PyProof.Rows.slot_tuple_getitem ht.typeIs entry_tuple_getitem ?_ (args_tuple_getitem _ _)))
 show wpAny _ _ (Builtin.Tuple.tupleItemsOf (.ref t) >>= _) _ _ s
 refine wpAny_bind (tupleItemsOf_ ht ?_)
 refine wpAny_bind (wpAny_typeOf hTs ?_)
 rw [if_pos (by decide)]
 refine wpAny_bind (sliceApplied_gen hs pl pu ?_)
 have hno : ¬ ((((sIx items.size 0 lo : Nat) : Int) == 0 && (1 : Int) == 1 && (sIx items.size items.size hi - sIx items.size 0 lo) == items.size) = true) := by
  intro q
  rw [Bool.and_eq_true, Bool.and_eq_true] at q
  have q1 : ((sIx items.size 0 lo : Nat) : Int) = 0 := eq_of_beq q.1.1
  have q2 : sIx items.size items.size hi - sIx items.size 0 lo = items.size := eq_of_beq q.2
  exact hw ⟨by omega, by omega⟩
 show wpAny _ _ (if (((sIx items.size 0 lo : Nat) : Int) == 0 && (1 : Int) == 1 && (sIx items.size items.size hi - sIx items.size 0 lo) == items.size) = true then _ else _) _ _ s
 rw [if_neg hno, pick_gen]
 first
  | exact wpAny_bind (m := Builtin.Tuple.tupleExact _) (wpAny_newObj_type (wpAny_pure ⟨_, rfl, wpAny_pure h⟩) htake)
  | exact wpAny_bind (m := Builtin.Tuple.tupleExact _) (wpAny_newObj_type (wpAny_bind (wpAny_pure (wpAny_pure ⟨_, rfl, wpAny_pure h⟩))) htake)
  | exact wpAny_bind (wpAny_bind (m := Builtin.Tuple.tupleExact _) (wpAny_newObj_type (wpAny_pure (wpAny_pure ⟨_, rfl, wpAny_pure h⟩)) htake))
  | exact wpAny_bind (wpAny_bind (m := Builtin.Tuple.tupleExact _) (wpAny_newObj_type (wpAny_pure ⟨_, rfl, wpAny_pure h⟩) htake))
end
end HT
namespace L2
open PySem PySem.Spec PyProof.Rows
abbrev TO := St -> Hp -> (Option Int -> Hp -> Prop) -> Prop
def PO (X : Cx) (e : Option Expr) (t : TO) : Prop :=
 ∀ (pins : List (Addr × Obj)) (s : Shared) (σ : St) (H : Hp) (Q : Option Int -> Hp -> Prop), Inv X pins σ H s -> t σ H Q →
  wpAny (model X.prog X.w) X.A (evalPart e X.env) (fun u s' => ∃ o H', Inv X pins σ H' s' /\ IsPart u o /\ Q o H') X.xe s
def tNoPart : TO := fun _ H Q => Q none H
def tPart (t : TE) : TO := fun σ H Q => t σ H fun x H1 => ∃ i, x = .int i /\ Q (some i) H1
section
variable {X : Cx} {e : Expr} {te : TE} {lo hi : Option Expr} {tl th : TO} {pos p2 : Pos}
theorem po_none : PO X none tNoPart := by
 intro pins s σ H Q I h
 rw [evalPart_none]
 exact wpAny_pure ⟨none, H, I, .none, h⟩
theorem po_some (h : PE X e te) : PO X (some e) (tPart te) := by
 intro pins s σ H Q I hw
 rw [evalPart_some]
 refine thn (h pins s σ H _ I hw) fun u s1 ⟨x, H1, I1, r1, q1⟩ => ?_
 obtain ⟨i, rfl, q⟩ := q1
 obtain ⟨t, rfl⟩ := r1
 exact ⟨some i, H1, I1, .int i t, q⟩
def SlR (X : Cx) (r : V -> Option Int -> Option Int -> Hp -> VK -> Prop) : Prop :=
 ∀ (pins : List (Addr × Obj)) (s : Shared) (σ : St) (H : Hp) (x : V) (v vl vu : Value) (lo hi : Option Int) (sl : Addr) (Q : VK), Inv X pins σ H s -> RelV x v -> s.heap.IsSliceOf sl vl vu .none -> IsPart vl lo -> IsPart vu hi -> r x lo hi H Q →
  ∃ T id, typeLookup (.type T) "__getitem__" = pure (some (.builtin id)) /\ s.TypeIs v T /\ wpAny (model X.prog X.w) X.A (getItem v (.ref sl)) (EP X pins σ Q) X.xe s
theorem SlR.or {r r' : V -> Option Int -> Option Int -> Hp -> VK -> Prop} (h : SlR X r) (h' : SlR X r') : SlR X (fun x lo hi H Q => r x lo hi H Q ∨ r' x lo hi H Q) := by
 intro pins s σ H x v vl vu lo hi sl Q I rx hs pl pu q
 rcases q with q | q
 ·exact h pins s σ H x v vl vu lo hi sl Q I rx hs pl pu q
 ·exact h' pins s σ H x v vl vu lo hi sl Q I rx hs pl pu q
def tSl (r : V -> Option Int -> Option Int -> Hp -> VK -> Prop) (te : TE) (tl th : TO) : TE := fun σ H Q => te σ H fun x H1 => tl σ H1 fun l H2 => th σ H2 fun u H3 => r x l u H3 Q
theorem pe_slice {r : V -> Option Int -> Option Int -> Hp -> VK -> Prop} (hr : SlR X r) (he : PE X e te) (hl : PO X lo tl) (hu : PO X hi th) : PE X (.Subscript e (.Slice lo hi none p2) pos) (tSl r te tl th) := by
 intro pins s σ H Q I h
 refine Subscript_ (thn (he pins s σ H _ I h) fun v s1 ⟨x, H1, I1, r1, q1⟩ => ?_)
 refine wpAny_Slice (thn (hl pins s1 σ H1 _ I1 q1) fun vl s2 ⟨l, H2, I2, pl, q2⟩ => thn (hu pins s2 σ H2 _ I2 q2) fun vu s3 ⟨u, H3, I3, pu, q3⟩ => ?_)
 rw [evalPart_none]
 refine wpAny_pure ?_
 have I4 : Inv X pins σ H3 { s3 with heap := s3.heap.push { cls := .type "slice", data := .fields #[vl, vu, .none] } } := I3.kept (t' := s3.toks) fun b ob q => Heap.get?_push_of_some _ q
 obtain ⟨T, id, hT, ht, hg⟩ := hr pins { s3 with heap := s3.heap.push { cls := .type "slice", data := .fields #[vl, vu, .none] } } σ H3 x v vl vu l u s3.heap.objs.size Q I4 r1 (Heap.IsSliceOf.new ..) pl pu q3
 show wpAny (model X.prog X.w) X.A (subscriptTail e (.Slice lo hi none p2) v (.ref s3.heap.objs.size)) (EP X pins σ Q) X.xe { s3 with heap := s3.heap.push { cls := .type "slice", data := .fields #[vl, vu, .none] } }
 exact tail_any (ops := [.ref s3.heap.objs.size, v]) ht hT hg (by with_unfolding_all rfl)
def cutV (xs : List V) (lo hi : Option Int) : List V := (xs.drop (HT.sIx xs.length 0 lo)).take (HT.sIx xs.length xs.length hi - HT.sIx xs.length 0 lo)
theorem cutV_length (xs : List V) (lo hi : Option Int) : (cutV xs lo hi).length ≤ xs.length := by
 unfold cutV
 rw [List.length_take, List.length_drop]
 omega
def rSlT (K : PySem.W.Frag) : V -> Option Int -> Option Int -> Hp -> VK -> Prop := fun x lo hi H Q => ∃ a xs, x = .ref a /\ SqT K H a xs ∧
 ¬ (HT.sIx xs.length 0 lo = 0 /\ HT.sIx xs.length xs.length hi = xs.length) /\ ∀ p, H p = none -> Q (.ref p) (upd H p (.tup (cutV xs lo hi)))
theorem sl_tup : SlR X (rSlT X.K) := by
 intro pins s σ H x v vl vu lo hi sl Q I rx hs pl pu h
 obtain ⟨a, xs, rfl, hx, hw, q⟩ := h
 cases rx
 obtain ⟨its, r, ht, hz⟩ := I.tuple hx
 have hlen : its.toArray.size = xs.length := by rw [List.size_toArray]; exact r.length.symm
 refine ⟨"tuple", _, PyProof.Rows.slot_tuple_getitem.lookup, ht.typeIs, ?_⟩
 refine HT.getItem_tuple_cut ht hs pl pu (by rw [hlen]; exact hw) ?_ (by rw [hlen]; exact hz)
 rw [hlen]
 refine ⟨.ref s.heap.objs.size, _, I.laid (t' := s.toks) (o := .tup (cutV xs lo hi)) (fun b ob q => Heap.get?_push_of_some _ q) (Nat.le_refl _) ?_, rfl, q _ (I.hok.fresh (Nat.le_refl _))⟩
 exact ⟨Nat.le_trans (cutV_length xs lo hi) hz, _, (r.drop (HT.sIx xs.length 0 lo)).take (HT.sIx xs.length xs.length hi - HT.sIx xs.length 0 lo), IsTup.new _ _⟩
def rLtT (K : PySem.W.Frag) : R2 := fun x y H Q => ∃ a b ns ms, x = .ref a /\ y = .ref b /\ SqT K H a (ns.map V.int) /\ SqT K H b (ms.map V.int) /\ Q (.bl (HT.lexLt ns ms)) H
def rCatT (K : PySem.W.Frag) : R2 := fun x y H Q => ∃ a b xs ys, x = .ref a /\ y = .ref b /\ SqT K H a xs /\ SqT K H b ys /\ xs ≠ [] /\ xs.length + ys.length ≤ sizeLine ∧
 (ys = [] -> Q (.ref a) H) /\ (ys ≠ [] -> ∀ p, H p = none -> Q (.ref p) (upd H p (.tup (xs ++ ys))))
theorem Vals.nil_iff {xs : List V} {us : List Value} (r : Vals xs us) : us = [] ↔ xs = [] := by
 cases r with
 | nil => simp
 | cons _ _ => simp
theorem op_catT : OpR X (binaryOp .Add) (rCatT X.K) := by
 intro pins s σ H x y v u Q I rx ry h
 obtain ⟨a, b, xs, ys, rfl, rfl, ha, hb, hx, hz, q1, q2⟩ := h
 cases rx
 cases ry
 obtain ⟨its, r1, p1, _⟩ := I.tuple ha
 obtain ⟨its2, r2, p2, _⟩ := I.tuple hb
 refine HT.cat_tup p1 p2 (fun z => hx (r1.nil_iff.mp z)) (fun z => ⟨.ref a, H, I, rfl, q1 (r2.nil_iff.mp z)⟩) (fun z => ?_) (by rw [← r1.length, ← r2.length]; exact hz)
 refine ⟨.ref s.heap.objs.size, _, I.laid (t' := s.toks) (o := .tup (xs ++ ys)) (fun b ob q => Heap.get?_push_of_some _ q) (Nat.le_refl _) ?_, rfl, q2 (fun w => z (r2.nil_iff.mpr w)) _ (I.hok.fresh (Nat.le_refl _))⟩
 exact ⟨by rw [List.length_append]; exact hz, _, r1.append r2, IsTup.new _ _⟩
end
end L2
namespace L2
open PySem PySem.Spec PyProof.Rows
def ixN (n : Nat) (i : Int) : Option Nat := if 0 ≤ i then (if i < n then some i.toNat else none) else if -(n : Int) ≤ i then some (i + n).toNat else none
def atI {α : Type} (xs : List α) (i : Int) : Option α := (ixN xs.length i).bind fun j => xs[j]?
theorem ixN_seq {n : Nat} {i : Int} {j : Nat} (h : ixN n i = some j) : seqIndex? i n = some j /\ j < n /\ -(n : Int) ≤ i /\ i < n := by
 unfold ixN at h
 by_cases h0 : 0 ≤ i
 ·rw [if_pos h0] at h
  by_cases h1 : i < n
  ·rw [if_pos h1] at h
   have e : i.toNat = j := Option.some.inj h
   exact ⟨by rw [seqIndex_of h0 h1, e], by omega, by omega, h1⟩
  ·rw [if_neg h1] at h; cases h
 ·rw [if_neg h0] at h
  by_cases h1 : -(n : Int) ≤ i
  ·rw [if_pos h1] at h
   have e : (i + n).toNat = j := Option.some.inj h
   exact ⟨by rw [seqIndex_neg (by omega) h1, e], by omega, h1, by omega⟩
  ·rw [if_neg h1] at h; cases h
theorem atI_get {α : Type} {xs : List α} {i : Int} {v : α} (h : atI xs i = some v) : ∃ j, seqIndex? i xs.length = some j /\ xs[j]? = some v /\ j < xs.length /\ -(xs.length : Int) ≤ i /\ i < xs.length := by
 unfold atI at h
 cases e : ixN xs.length i with
 | none => rw [e] at h; cases h
 | some j =>
  rw [e] at h
  obtain ⟨h1, h2, h3, h4⟩ := ixN_seq e
  exact ⟨j, h1, h, h2, h3, h4⟩
theorem atI_nat {α : Type} {xs : List α} {j : Nat} {v : α} (h : xs[j]? = some v) : atI xs (j : Int) = some v := by
 have hj : j < xs.length := (List.getElem?_eq_some_iff.mp h).1
 have e : ixN xs.length (j : Int) = some j := by
  unfold ixN
  rw [if_pos (by omega), if_pos (by omega)]; simp
 unfold atI; rw [e]; exact h
theorem atI_last {α : Type} (xs : List α) (v : α) : atI (xs ++ [v]) (-1) = some v := by
 have hl : (xs ++ [v]).length = xs.length + 1 := by simp
 have e : ixN (xs ++ [v]).length (-1) = some xs.length := by
  unfold ixN
  rw [hl, if_neg (by decide), if_pos (by omega)]
  congr 1
  omega
 unfold atI
 rw [e]
 show (xs ++ [v])[xs.length]? = some v
 simp
def PlainIx (b : Expr) : Prop := ∀ o i, subscripted b false o i = operate [o, i] (getItem o i)
def IxR (X : Cx) (r : R2) : Prop :=
 ∀ (value slice : Expr) (pins : List (Addr × Obj)) (s : Shared) (σ : St) (H : Hp) (x y : V) (v u : Value) (Q : VK), Inv X pins σ H s -> RelV x v -> RelV y u -> r x y H Q →
  subscripted slice false v u = operate [v, u] (getItem v u) -> wpAny (model X.prog X.w) X.A (subscriptTail value slice v u) (EP X pins σ Q) X.xe s
def MtR (X : Cx) (id : String) (r : V -> List V -> Hp -> VK -> Prop) : Prop :=
 ∀ (pins : List (Addr × Obj)) (s : Shared) (σ : St) (H : Hp) (x : V) (xs : List V) (v : Value) (us : List Value) (Q : VK), Inv X pins σ H s -> RelV x v -> Vals xs us -> r x xs H Q →
  wpAny (model X.prog X.w) X.A (call (.builtin id) (v :: us)) (EP X pins σ Q) X.xe s
section
variable {X : Cx} {a b : Expr} {ta tb : TE} {pos : Pos}
theorem pe_ix {r : R2} (hr : IxR X r) (ha : PE X a ta) (hb : PE X b tb) (hs : PlainIx b) : PE X (.Subscript a b pos) (tOp r ta tb) := by
 intro pins s σ H Q I h
 exact Subscript_ (binT ha hb I h fun v u s2 x y H2 I2 rx ry q => hr a b pins s2 σ H2 x y v u Q I2 rx ry q (hs _ _))
def rIxL (K : PySem.W.Frag) : R2 := fun x y H Q => ∃ p xs i v, x = .ref p /\ y = .int i /\ SqL K H p xs /\ atI xs i = some v /\ Q v H
def rIxT (K : PySem.W.Frag) : R2 := fun x y H Q => ∃ p xs i v, x = .ref p /\ y = .int i /\ SqT K H p xs /\ atI xs i = some v /\ Q v H
def rIxS : R2 := fun x y H Q => ∃ z i c, x = .str z /\ y = .int i /\ z.length ≤ sizeLine /\ atI z.cps.toList i = some c /\ Q (.str ⟨#[c]⟩) H
theorem ix_list : IxR X (rIxL X.K) := by
 intro value slice pins s σ H x y v u Q I rx ry h hs
 obtain ⟨p, xs, i, z, rfl, rfl, hq, he, q⟩ := h
 cases rx
 obtain ⟨t, rfl⟩ := ry
 obtain ⟨its, r, pl, hz⟩ := I.list hq
 obtain ⟨j, h1, h2, h3, h4, h5⟩ := atI_get he
 obtain ⟨w, ew, rw'⟩ := r.get h2
 have hl := r.length
 have hn := line63
 have fin : EP X pins σ Q w s := ⟨z, H, I, rw', q⟩
 by_cases h0 : 0 ≤ i
 ·have hj : i.toNat = j := by
   rw [seqIndex_of h0 h5] at h1
   exact Option.some.inj h1
  exact item_listR pl.isList h0 (by omega) (by rw [hj]; simpa using ew) fin hs
 ·have hj : (i + (its.toArray.size : Int)).toNat = j := by
   rw [seqIndex_neg (by omega) h4] at h1
   rw [List.size_toArray, ← hl]
   exact Option.some.inj h1
  exact subscriptTail_builtinR (x := w) pl.isList.typeIs slot_list_getitem.lookup
   (wpAny_getItem_list_neg (Q := fun r s' => r = w /\ EP X pins σ Q r s') pl.isList (by omega) (by rw [List.size_toArray] <;> omega) (by omega) (by rw [hj]; simpa using ew) ⟨rfl, fin⟩) hs
theorem ix_tup : IxR X (rIxT X.K) := by
 intro value slice pins s σ H x y v u Q I rx ry h hs
 obtain ⟨p, xs, i, z, rfl, rfl, hq, he, q⟩ := h
 cases rx
 obtain ⟨t, rfl⟩ := ry
 obtain ⟨its, r, pl, hz⟩ := I.tuple hq
 obtain ⟨j, h1, h2, h3, h4, h5⟩ := atI_get he
 obtain ⟨w, ew, rw'⟩ := r.get h2
 have hl := r.length
 have hn := line63
 have fin : EP X pins σ Q w s := ⟨z, H, I, rw', q⟩
 exact subscriptTail_builtinR (x := w) pl.typeIs slot_tuple_getitem.lookup
  (getItem_tuple (j := j) (Q := fun r s' => r = w /\ EP X pins σ Q r s') pl (by omega) (by omega) (by rw [List.size_toArray, ← hl]; exact h1) (by simpa using ew) ⟨rfl, fin⟩) hs
def rIx (K : PySem.W.Frag) : R2 := fun x y H Q => rIxL K x y H Q ∨ rIxT K x y H Q ∨ rIxS x y H Q
theorem mapSeq_set (its : List Value) (n j : Nat) (u : Value) : Obj.mapSeq (·.setIfInBounds j u) { cls := .type "list", data := .seq its.toArray n } = { cls := .type "list", data := .seq (its.set j u).toArray n } := by
 simp [Obj.mapSeq]
theorem Inv.lst {pins : List (Addr × Obj)} {σ : St} {H : Hp} {s : Shared} {p : Addr} {xs : List V} (I : Inv X pins σ H s) (h : H p = some (.lst xs)) :
  ∃ (its : List Value) (n : Nat), Vals xs its /\ s.heap.get? p = some { cls := .type "list", data := .seq its.toArray n } /\ xs.length ≤ sizeLine := by
 obtain ⟨z, its, n, r, e⟩ := I.hok p _ h
 exact ⟨its, n, r, e, z⟩
theorem Inv.lstUpd {pins : List (Addr × Obj)} {σ : St} {H : Hp} {s : Shared} {p : Addr} {xs ys : List V} {its its' : List Value} {n n' : Nat} {f : Obj -> Obj} (I : Inv X pins σ H s) (h : H p = some (.lst xs))
  (ho : s.heap.get? p = some { cls := .type "list", data := .seq its.toArray n }) (hf : f { cls := .type "list", data := .seq its.toArray n } = { cls := .type "list", data := .seq its'.toArray n' }) (r : Vals ys its') (hz : ys.length ≤ sizeLine) (t : Nat) :
  Inv X pins σ (upd H p (.lst ys)) { s with heap := s.heap.update p f, toks := t } := by
 have e : (s.heap.update p f).get? p = some { cls := .type "list", data := .seq its'.toArray n' } := by
  rw [Heap.get?_update_self f ho (by rw [hf] <;> rfl), hf]
 refine I.write (x := p) (e := p) (by rw [h]; trivial) (.inl rfl) (fun b u hb q => (Heap.get?_update_other _ _ (Ne.symm hb)).trans q) ⟨_, e⟩ ?_
 exact ⟨hz, its', n', r, e⟩
def rSetL : V -> V -> V -> Hp -> (Hp -> Prop) -> Prop := fun o i v H Q => ∃ p xs k j, o = .ref p /\ i = .int k /\ H p = some (.lst xs) /\ ixN xs.length k = some j /\ Q (upd H p (.lst (xs.set j v)))
theorem set_list : PSet X rSetL := by
 intro pins s σ H o i v ov iv u Q I ro ri rv h
 obtain ⟨p, xs, k, j, rfl, rfl, hp, hj, q⟩ := h
 cases ro
 obtain ⟨t, rfl⟩ := ri
 obtain ⟨its, n, r, ho, hz⟩ := I.lst hp
 obtain ⟨h1, h2, h3, h4⟩ := ixN_seq hj
 have hl := r.length
 have hn := line63
 have I' : Inv X pins σ (upd H p (.lst (xs.set j v))) { s with heap := s.heap.update p (Obj.mapSeq (·.setIfInBounds j u)) } :=
  I.lstUpd hp ho (mapSeq_set its n j u) (r.set rv j) (by rw [List.length_set]; exact hz) s.toks
 by_cases h0 : 0 ≤ k
 ·have hk : k.toNat = j := by
   rw [seqIndex_of h0 h4] at h1
   exact Option.some.inj h1
  exact PySem.W.ki_setAt ho h0 (by omega) (by rw [List.size_toArray, ← hl]; exact h4) (by rw [hk]; exact ⟨_, I', q⟩)
 ·have hk : (k + (its.toArray.size : Int)).toNat = j := by
   rw [seqIndex_neg (by omega) h3] at h1
   rw [List.size_toArray, ← hl]
   exact Option.some.inj h1
  exact PySem.W.ki_setBack ho (by omega) (by rw [List.size_toArray, ← hl]; exact h3) (by omega) (by rw [hk]; exact ⟨_, I', q⟩)
theorem slice_bounds (lo hi : Option Int) (n : Nat) : (sliceBounds lo hi none n).1 = ((HT.sIx n 0 lo : Nat) : Int) /\ (sliceBounds lo hi none n).2.1 = ((HT.sIx n n hi : Nat) : Int) /\ (sliceBounds lo hi none n).2.2 = 1 := by
 refine ⟨?_, ?_, rfl⟩
 ·cases lo with
  | none => simp [sliceBounds, HT.sIx]
  | some i =>
   simp only [sliceBounds, HT.sIx, Option.getD_none, show (1 : Int) > 0 by decide, if_true]
   by_cases h : i < 0
   ·simp only [h, if_true] <;> omega
   ·simp only [h, if_false] <;> omega
 ·cases hi with
  | none => simp [sliceBounds, HT.sIx]
  | some i =>
   simp only [sliceBounds, HT.sIx, Option.getD_none, show (1 : Int) > 0 by decide, if_true]
   by_cases h : i < 0
   ·simp only [h, if_true] <;> omega
   ·simp only [h, if_false] <;> omega
theorem slicePick_cut (its : List Value) (lo hi : Option Int) : slicePick its.toArray lo hi none = ((its.drop (HT.sIx its.length 0 lo)).take (HT.sIx its.length its.length hi - HT.sIx its.length 0 lo)).toArray := by
 obtain ⟨h1, h2, h3⟩ := slice_bounds lo hi its.toArray.size
 unfold slicePick
 rw [h1, h2, h3]
 simp only [sliceRange_one, pick_run, List.size_toArray] <;> rfl
def rSlL (K : PySem.W.Frag) : V -> Option Int -> Option Int -> Hp -> VK -> Prop := fun x lo hi H Q => ∃ a xs, x = .ref a /\ SqL K H a xs /\ ∀ p, H p = none -> Q (.ref p) (upd H p (.lst (cutV xs lo hi)))
theorem sl_list : SlR X (rSlL X.K) := by
 intro pins s σ H x v vl vu lo hi sl Q I rx hs pl pu h
 obtain ⟨a, xs, rfl, hx, q⟩ := h
 cases rx
 obtain ⟨its, r, ht, hz⟩ := I.list hx
 have hlen := r.length
 refine ⟨"list", _, slot_list_getitem.lookup, ht.isList.typeIs, ?_⟩
 refine wpAny_getItem_list_slice ht.isList hs pl pu .none (by simp) ?_ (by rw [List.size_toArray] <;> omega)
 rw [slicePick_cut, ← hlen]
 refine ⟨.ref s.heap.objs.size, _, I.laid (t' := s.toks) (o := .lst (cutV xs lo hi)) (fun b ob q => Heap.get?_push_of_some _ q) (Nat.le_refl _) ?_, rfl, q _ (I.hok.fresh (Nat.le_refl _))⟩
 exact ⟨Nat.le_trans (cutV_length xs lo hi) hz, _, 0, (r.drop (HT.sIx xs.length 0 lo)).take (HT.sIx xs.length xs.length hi - HT.sIx xs.length 0 lo), Heap.get?_push_size _ rfl⟩
def flatV : V -> Bool
 | .non => true
 | .bl _ => true
 | .int _ => true
 | .str _ => true
 | _ => false
def eqV : V -> V -> Bool
 | .non, .non => true
 | .bl a, .bl b => a == b
 | .bl a, .int b => (if a then 1 else 0) == b
 | .int a, .bl b => a == (if b then 1 else 0)
 | .int a, .int b => a == b
 | .str a, .str b => a == b
 | _, _ => false
theorem eqAt_V {A : Around} {s : Shared} {y x : V} {u v : Value} (ry : RelV y u) (rx : RelV x v) (fy : flatV y = true) (fx : flatV x = true) : SeqAt.EqAt A s u v (eqV y x) := by
 cases y with
 | non =>
  cases ry
  cases x with
  | non => cases rx; exact SeqAt.EqAt.same _
  | bl b => cases rx; exact SeqAt.EqAt.none_bool b
  | int b => obtain ⟨t, rfl⟩ := rx; exact SeqAt.EqAt.none_int b t
  | str b => obtain ⟨t, rfl⟩ := rx; exact SeqAt.EqAt.none_str b t
  | _ => exact absurd (show false = true from fx) Bool.false_ne_true
 | bl a =>
  cases ry
  cases x with
  | non => cases rx; exact SeqAt.EqAt.bool_none a
  | bl b => cases rx; exact SeqAt.EqAt.bool_bool a b
  | int b => obtain ⟨t, rfl⟩ := rx; exact SeqAt.EqAt.bool_int a b t
  | str b => obtain ⟨t, rfl⟩ := rx; exact SeqAt.EqAt.bool_str a b t
  | _ => exact absurd (show false = true from fx) Bool.false_ne_true
 | int a =>
  obtain ⟨t', rfl⟩ := ry
  cases x with
  | non => cases rx; exact SeqAt.EqAt.int_none a t'
  | bl b => cases rx; exact SeqAt.EqAt.int_bool a t' b
  | int b => obtain ⟨t, rfl⟩ := rx; exact SeqAt.EqAt.int_int a t' b t
  | str b => obtain ⟨t, rfl⟩ := rx; exact SeqAt.EqAt.int_str a t' b t
  | _ => exact absurd (show false = true from fx) Bool.false_ne_true
 | str a =>
  obtain ⟨t', rfl⟩ := ry
  cases x with
  | non => cases rx; exact SeqAt.EqAt.str_none a t'
  | bl b => cases rx; exact SeqAt.EqAt.str_bool a t' b
  | int b => obtain ⟨t, rfl⟩ := rx; exact SeqAt.EqAt.str_int a t' b t
  | str b => obtain ⟨t, rfl⟩ := rx; exact SeqAt.EqAt.str_str a t' b t
  | _ => exact absurd (show false = true from fx) Bool.false_ne_true
 | _ => exact absurd (show false = true from fy) Bool.false_ne_true
def eqU (x : V) (u : Value) : Bool := match u with
 | .none => eqV .non x
 | .bool b => eqV (.bl b) x
 | .int i _ => eqV (.int i) x
 | .str z _ => eqV (.str z) x
 | _ => false
theorem eqU_of {x y : V} {u : Value} (r : RelV y u) (f : flatV y = true) : eqU x u = eqV y x := by
 cases y with
 | non => cases r; rfl
 | bl b => cases r; rfl
 | int i => obtain ⟨t, rfl⟩ := r; rfl
 | str z => obtain ⟨t, rfl⟩ := r; rfl
 | _ => exact absurd (show false = true from f) Bool.false_ne_true
theorem any_eqU {x : V} : ∀ {xs : List V} {us : List Value}, Vals xs us -> xs.all flatV = true -> us.any (eqU x) = xs.any fun y => eqV y x
 | _, _, .nil, _ => rfl
 | y :: xs, u :: us, .cons r t, f => by
  rw [List.all_cons, Bool.and_eq_true] at f
  rw [List.any_cons, List.any_cons, eqU_of r f.1, any_eqU t f.2]
theorem mem_eqAt {A : Around} {s : Shared} {x : V} {v : Value} (rx : RelV x v) (fx : flatV x = true) : ∀ {xs : List V} {us : List Value}, Vals xs us -> xs.all flatV = true -> ∀ u ∈ us, SeqAt.EqAt A s u v (eqU x u)
 | _, _, .nil, _ => fun u hu => by cases hu
 | y :: xs, u :: us, .cons r t, f => fun u' hu => by
  rw [List.all_cons, Bool.and_eq_true] at f
  rcases List.mem_cons.mp hu with rfl | hu
  ·rw [eqU_of r f.1]; exact eqAt_V r rx f.1 fx
  ·exact mem_eqAt rx fx t f.2 u' hu
def inV (x : V) (xs : List V) : Bool := xs.any fun y => eqV y x
def rIn (K : PySem.W.Frag) (neg : Bool) : R2 := fun x y H Q => ∃ p xs, y = .ref p /\ (SqL K H p xs ∨ SqT K H p xs) /\ flatV x = true /\ xs.all flatV = true /\ Q (.bl (if neg then !inV x xs else inV x xs)) H
theorem op_in_seq : OpR X (compareOp .In) (rIn X.K false) := by
 intro pins s σ H x y v u Q I rx ry h
 obtain ⟨p, xs, rfl, hq, fx, fs, q⟩ := h
 cases ry
 rcases hq with hq | hq
 ·obtain ⟨its, r, pl, hz⟩ := I.list hq
  refine SeqAt.in_listAt (eqU x) pl.isList (fun w hw => mem_eqAt rx fx r fs w (by simpa using hw)) ⟨.bl _, H, I, rfl, ?_⟩
  rw [show its.toArray.any (eqU x) = its.any (eqU x) by simp, any_eqU r fs]
  exact q
 ·obtain ⟨its, r, pl, hz⟩ := I.tuple hq
  refine SeqAt.in_tupleAt (eqU x) pl (fun w hw => mem_eqAt rx fx r fs w (by simpa using hw)) ⟨.bl _, H, I, rfl, ?_⟩
  rw [show its.toArray.any (eqU x) = its.any (eqU x) by simp, any_eqU r fs]
  exact q
theorem call_len_seq : CallR X (.builtin "len") (fun xs H Q => ∃ p ys, xs = [.ref p] /\ (SqL X.K H p ys ∨ SqT X.K H p ys) /\ Q (.int ys.length) H) := by
 intro pins s σ H xs us Q I r h
 obtain ⟨p, ys, rfl, hq, q⟩ := h
 obtain ⟨u, rfl, rx⟩ := vals1 r
 cases rx
 have hn := line63
 rcases hq with hq | hq
 ·obtain ⟨its, r', pl, hz⟩ := I.list hq
  have hlen := r'.length
  exact Calls.call_len_list pl.isList (by simp only [List.size_toArray] <;> omega) ⟨.int ys.length, H, I.tok _, ⟨s.toks + 1, by rw [List.size_toArray, hlen]⟩, q⟩
 ·obtain ⟨its, r', pl, hz⟩ := I.tuple hq
  have hlen := r'.length
  exact len_tuple pl (by simp only [List.size_toArray] <;> omega) ⟨.int ys.length, H, I.tok _, ⟨s.toks + 1, by rw [List.size_toArray, hlen]⟩, q⟩
theorem call_list_of : CallR X (.type "list") (fun xs H Q => ∃ p ys, xs = [.ref p] /\ (SqL X.K H p ys ∨ SqT X.K H p ys) /\ ∀ l, H l = none -> Q (.ref l) (upd H l (.lst ys))) := by
 intro pins s σ H xs us Q I r h
 obtain ⟨p, ys, rfl, hq, q⟩ := h
 obtain ⟨u, rfl, rx⟩ := vals1 r
 cases rx
 have fin : ∀ (its : List Value), Vals ys its -> ys.length ≤ sizeLine -> ∀ (h' : Heap) (c' : Nat), (∀ b o', s.heap.get? b = some o' -> h'.get? b = some o') →
   h'.get? s.heap.objs.size = some { cls := .type "list", dict := none, data := .seq its.toArray c', slots := #[] } -> EP X pins σ Q (.ref s.heap.objs.size) { s with heap := h' } := fun its r' hz h' c' kp e =>
  ⟨.ref s.heap.objs.size, _, I.laid (t' := s.toks) kp (Nat.le_refl _) (show ObjOk X.prog X.w _ h' _ (.lst ys) from ⟨hz, its, c', r', e⟩), rfl, q _ (I.hok.fresh (Nat.le_refl _))⟩
 rcases hq with hq | hq
 ·obtain ⟨its, r', pl, hz⟩ := I.list hq
  have hlen := r'.length
  obtain ⟨o, ho, hc, n, hd⟩ := pl.isList
  exact call_list_seq p (.inl rfl) ho hc hd (fun h' c' kp e => fin its r' hz h' c' kp e) (by simp only [List.size_toArray] <;> omega)
 ·obtain ⟨its, r', pl, hz⟩ := I.tuple hq
  have hlen := r'.length
  obtain ⟨o, ho, hc, n, hd⟩ := pl
  exact call_list_seq p (.inr rfl) ho hc hd (fun h' c' kp e => fin its r' hz h' c' kp e) (by simp only [List.size_toArray] <;> omega)
theorem call_tuple_of : CallR X (.type "tuple") (fun xs H Q => ∃ p ys, xs = [.ref p] /\ ((SqL X.K H p ys /\ ∀ l, H l = none -> Q (.ref l) (upd H l (.tup ys))) ∨ (SqT X.K H p ys /\ Q (.ref p) H))) := by
 intro pins s σ H xs us Q I r h
 obtain ⟨p, ys, rfl, h⟩ := h
 obtain ⟨u, rfl, rx⟩ := vals1 r
 cases rx
 rcases h with ⟨hq, q⟩ | ⟨hq, q⟩
 ·obtain ⟨its, r', pl, hz⟩ := I.list hq
  have hlen := r'.length
  refine call_tuple_list pl.isList (fun h' kp => ?_) (by simp only [List.size_toArray] <;> omega)
  have I1 : Inv X pins σ H { s with heap := h' } := I.kept (t' := s.toks) kp
  have I2 : Inv X pins σ (upd H h'.objs.size (.tup ys)) { s with heap := h'.push { cls := .type "tuple", data := .seq its.toArray } } :=
   I1.laid (t' := s.toks) (fun b o e => Heap.get?_push_of_some _ e) (Nat.le_refl _) (show ObjOk X.prog X.w _ _ _ (.tup ys) from ⟨hz, its, r', IsTup.new _ _⟩)
  exact ⟨.ref h'.objs.size, _, I2, rfl, q _ (I1.hok.fresh (Nat.le_refl _))⟩
 ·obtain ⟨its, r', pl, hz⟩ := I.tuple hq
  exact call_tuple_same pl ⟨.ref p, H, I, rfl, q⟩
def tyV (K : PySem.W.Frag) (T : String) (x : V) (H : Hp) : Prop := match x with
 | .str _ => T = "str"
 | .int _ => T = "int"
 | .ref p => (T = "list" /\ ∃ xs, SqL K H p xs) ∨ (T = "tuple" /\ ∃ o, K.lookup p = some o /\ o.cls = .type "tuple" /\ o.dict = none) ∨
   (T = "dict" /\ ((∃ kvs, H p = some (.dK kvs)) ∨ ∃ kvs, H p = some (.dT kvs))) ∨ (T = "set" /\ ∃ S n, H p = some (.set S n))
 | _ => False
theorem tyV_is {pins : List (Addr × Obj)} {σ : St} {H : Hp} {s : Shared} {T : String} {x : V} {v : Value} (I : Inv X pins σ H s) (r : RelV x v) (ty : tyV X.K T x H) :
  s.TypeIs v T /\ ∀ a, v = .ref a -> ∃ ob, s.heap.get? a = some ob /\ ob.dict = none := by
 cases x with
 | str z =>
  obtain ⟨t, rfl⟩ := r
  cases (show T = "str" from ty)
  exact ⟨typeIs_str s z t, fun _ e => nomatch e⟩
 | int i =>
  obtain ⟨t, rfl⟩ := r
  cases (show T = "int" from ty)
  exact ⟨typeIs_int s i t, fun _ e => nomatch e⟩
 | ref p =>
  cases r
  rcases ty with ⟨rfl, xs, hq⟩ | ⟨rfl, o, hk, hc, hd⟩ | ⟨rfl, hk⟩ | ⟨rfl, S, n, hk⟩
  ·obtain ⟨its, _, pl, _⟩ := I.list hq
   refine ⟨pl.isList.typeIs, fun a e => ?_⟩
   cases e
   obtain ⟨o, n, e, c, hd, _⟩ := pl
   exact ⟨o, e, hd⟩
  ·refine ⟨⟨o, I.kIn p o hk, hc⟩, fun a e => ?_⟩
   cases e
   exact ⟨o, I.kIn _ o hk, hd⟩
  ·have z : ∃ o, s.heap.get? p = some o /\ o.ExactDict := by
    rcases hk with ⟨kvs, hk⟩ | ⟨kvs, hk⟩
    ·obtain ⟨_, _, _, _, o, _, _, e, ex, _⟩ := I.hok p _ hk
     exact ⟨o, e, ex⟩
    ·obtain ⟨_, _, _, _, o, _, _, e, ex, _⟩ := I.hok p _ hk
     exact ⟨o, e, ex⟩
   obtain ⟨o, e, ex⟩ := z
   refine ⟨⟨o, e, ex.1⟩, fun a e2 => ?_⟩
   cases e2
   exact ⟨o, e, ex.2.1⟩
  ·obtain ⟨o, _, _, _, e, ex, _⟩ := I.hok p _ hk
   refine ⟨⟨o, e, ex.1⟩, fun a e2 => ?_⟩
   cases e2
   exact ⟨o, e, ex.2.1⟩
 | _ => exact False.elim ty
def tBM0 (K : PySem.W.Frag) (T : String) (r : V -> List V -> Hp -> VK -> Prop) (to : TE) : TE := fun σ H Q => to σ H fun x H1 => tyV K T x H1 /\ r x [] H1 Q
def tBM (K : PySem.W.Frag) (T : String) (r : V -> List V -> Hp -> VK -> Prop) (to : TE) (t : TA) : TE := fun σ H Q => to σ H fun x H1 => tyV K T x H1 /\ t σ H1 fun xs H2 => r x xs H2 Q
variable {o e : Expr} {es : List Expr} {to : TE} {t : TA} {name : Str} {apos cpos : Pos} {T id : String} {r : V -> List V -> Hp -> VK -> Prop}
theorem pe_bm (pa : PlainAttrs T) (slot : Slot T name id) (hty : typeOf (.builtin id) = pure (.type "method_descriptor")) (hm : MtR X id r) (ho : PE X o to) (ha : PA X (e :: es) t)
  (hbase : attributeBase o name X.env (eval o X.env) = eval o X.env := by rfl)
  (hfew : ((backTo cpos (starEach (e :: es) X.env)).all (fun x => !x.1) && (backToKw cpos (keywordEach [] X.env)).all (fun x => x.1.isSome)
   && decide ((e :: es).length + ([] : List Keyword).length + (if ([] : List Keyword).isEmpty then 0 else 1) < 30)) = true := by rfl)
  (hline : (apos.endLine == cpos.line) = true := by rfl) (hs : starEach (e :: es) X.env = (false, eval e X.env) :: starEach es X.env := by rfl) (hplain : (backTo cpos (starEach es X.env)).any (·.1) = false := by rfl) :
  PE X (.Call (.Attribute o name apos) (e :: es) [] cpos) (tBM X.K T r to t) := by
 intro pins s σ H Q I h
 refine wpAny_Call_method_late hbase hfew hline rfl (thn (ho pins s σ H _ I h) fun v s1 ⟨x, H1, I1, r1, ty, q1⟩ => ?_)
 obtain ⟨h1, h2⟩ := tyV_is I1 r1 ty
 refine ⟨T, id, pa, slot, hty, h1, h2, ?_⟩
 have hA := ha cpos pins s1 σ H1 _ I1 q1
 rw [hs] at hA ⊢
 refine Calls.callWith_builtin (by show (false || (backTo cpos (starEach es X.env)).any (·.1)) = false; rw [hplain] <;> rfl) (Calls.evalArgs_plain ?_)
 exact thn hA fun us s2 ⟨vs, H2, I2, r2, q2⟩ => hm pins s2 σ H2 x vs v us Q I2 r1 r2 q2
end
end L2
namespace L2
open PySem PySem.Spec PyProof.Rows
def MtM (X : Cx) (id : String) (r : V -> List V -> Hp -> VK -> Prop) : Prop :=
 ∀ (pins : List (Addr × Obj)) (s : Shared) (σ : St) (H : Hp) (x : V) (xs : List V) (v : Value) (us : List Value) (Q : VK), Inv X pins σ H s -> RelV x v -> Vals xs us -> r x xs H Q →
  wpAny (model X.prog X.w) X.A (call (.builtin id) (v :: us)) (EP X pins σ Q) X.xe s
theorem Vals.one : ∀ {x : V} {us : List Value}, Vals [x] us -> ∃ u, us = [u] /\ RelV x u
 | _, _, .cons r .nil => ⟨_, rfl, r⟩
section
variable {X : Cx} {pins : List (Addr × Obj)} {σ : St} {H : Hp} {s : Shared} {l b : Addr} {xs ys zs : List V}
theorem Inv.lset {its its' : List Value} {n : Nat} {f : Array Value -> Array Value} {t' : Nat} (I : Inv X pins σ H s) (hH : H l = some (.lst xs))
  (e : s.heap.get? l = some { cls := .type "list", data := .seq its.toArray n }) (hf : f its.toArray = its'.toArray) (hv : Vals ys its') (hz : ys.length ≤ sizeLine) :
  Inv X pins σ (upd H l (.lst ys)) { s with heap := s.heap.update l (Obj.mapSeq f), toks := t' } := by
 have q := PySem.IsL.update e f
 rw [hf] at q
 refine I.write (x := l) (e := l) (by rw [hH]; exact trivial) (.inl rfl) (fun b' u hb hu => (Heap.get?_update_other s.heap (Obj.mapSeq f) (Ne.symm hb)).trans hu) ⟨_, q⟩ ?_
 exact ⟨hz, its', _, hv, q⟩
theorem Inv.lnew {its : List Value} {t' : Nat} (I : Inv X pins σ H s) (hv : Vals ys its) (hz : ys.length ≤ sizeLine) :
  Inv X pins σ (upd H s.heap.objs.size (.lst ys)) { s with heap := s.heap.push { cls := .type "list", data := .seq its.toArray }, toks := t' } :=
 I.laid (fun _ _ q => Heap.get?_push_of_some _ q) (Nat.le_refl _) ⟨hz, its, 0, hv, Heap.get?_push_size _ rfl⟩
theorem Inv.fresh (I : Inv X pins σ H s) : H s.heap.objs.size = none := I.hok.fresh (Nat.le_refl _)
theorem Inv.lstM (I : Inv X pins σ H s) (hH : H l = some (.lst xs)) : xs.length ≤ sizeLine /\ ∃ (its : List Value) (n : Nat), Vals xs its /\ xs.length = its.length /\ s.heap.get? l = some { cls := .type "list", data := .seq its.toArray n } := by
 obtain ⟨z, its, n, r, e⟩ := I.hok l _ hH
 exact ⟨z, its, n, r, r.length, e⟩
end
section
variable {X : Cx}
def rAppend : V -> List V -> Hp -> VK -> Prop := fun x vs H Q => ∃ l xs y, x = .ref l /\ vs = [y] /\ H l = some (.lst xs) /\ xs.length < sizeLine /\ Q .non (upd H l (.lst (xs ++ [y])))
theorem mt_append : MtM X "list.append" rAppend := by
 intro pins s σ H x vs v us Q I rx rv h
 obtain ⟨l, xs, y, rfl, rfl, hH, hz, q⟩ := h
 cases rx
 obtain ⟨u, rfl, ru⟩ := rv.one
 obtain ⟨z, its, n, r, hl, e⟩ := I.lstM hH
 refine call_meets F.slot_list_append ⟨_, e, rfl⟩ F.entry_list_append (F.args_list_append_2 _ _) (PySem.list_append l its.toArray n u (by rw [List.size_toArray]; omega)) ⟨e, ?_⟩
 refine ⟨.non, _, I.lset (its' := its ++ [u]) hH e (by simp) (r.append (.cons ru .nil)) ?_, rfl, q⟩
 rw [List.length_append, List.length_singleton]
 omega
def rExtend : V -> List V -> Hp -> VK -> Prop := fun x vs H Q => ∃ l b xs zs, x = .ref l /\ vs = [.ref b] /\ H l = some (.lst xs) /\ H b = some (.lst zs) /\ xs.length + zs.length ≤ sizeLine /\ Q .non (upd H l (.lst (xs ++ zs)))
def rPop : V -> List V -> Hp -> VK -> Prop := fun x vs H Q => ∃ l xs y, x = .ref l /\ vs = [] /\ H l = some (.lst xs) /\ xs[xs.length - 1]? = some y /\ Q y (upd H l (.lst xs.dropLast))
def rPopAt : V -> List V -> Hp -> VK -> Prop := fun x vs H Q => ∃ l xs i k y, x = .ref l /\ vs = [.int i] /\ H l = some (.lst xs) /\ -(2 ^ 63) ≤ i /\ i < 2 ^ 63 /\ seqIndex? i xs.length = some k /\ xs[k]? = some y /\ Q y (upd H l (.lst (xs.eraseIdx k)))
def rReverse : V -> List V -> Hp -> VK -> Prop := fun x vs H Q => ∃ l xs, x = .ref l /\ vs = [] /\ H l = some (.lst xs) /\ Q .non (upd H l (.lst xs.reverse))
def rClear : V -> List V -> Hp -> VK -> Prop := fun x vs H Q => ∃ l xs, x = .ref l /\ vs = [] /\ H l = some (.lst xs) /\ Q .non (upd H l (.lst []))
def rCat : R2 := fun x y H Q => ∃ l b xs zs, x = .ref l /\ y = .ref b /\ H l = some (.lst xs) /\ H b = some (.lst zs) /\ xs.length + zs.length ≤ sizeLine /\ ∀ p, H p = none -> Q (.ref p) (upd H p (.lst (xs ++ zs)))
theorem op_cat : OpR X (binaryOp .Add) rCat := by
 intro pins s σ H x y v u Q I rx ry h
 obtain ⟨l, b, xs, zs, rfl, rfl, hH, hB, hz, q⟩ := h
 cases rx
 cases ry
 obtain ⟨z, its, n, r, hl, e⟩ := I.lstM hH
 obtain ⟨z2, its2, n2, r2, hl2, e2⟩ := I.lstM hB
 refine PySem.P.add_list e e2 ?_ (by rw [List.size_toArray, List.size_toArray]; omega)
 have ea : its.toArray ++ its2.toArray = (its ++ its2).toArray := by simp
 rw [ea]
 exact ⟨.ref _, _, I.lnew (t' := s.toks) (r.append r2) (by rw [List.length_append]; omega), rfl, q _ I.fresh⟩
def rRep : R2 := fun x y H Q => ∃ l k xs, x = .ref l /\ y = .int k /\ H l = some (.lst xs) /\ -(2 ^ 63) ≤ k /\ k < 2 ^ 63 /\ xs.length * k.toNat ≤ sizeLine ∧
 ∀ p, H p = none -> Q (.ref p) (upd H p (.lst (List.replicate k.toNat xs).flatten))
end
section
variable {prog : Program} {w : World} {A : Around} {E : Value -> Shared -> Prop} {s : Shared}
end
section
variable {X : Cx}
end
end L2
namespace Att
open PySem PySem.W PySem.Calls PyProof.Rows
theorem ints_of_wellAll {P : Params} {h : Heap} : ∀ (ns : List Int) (vs : List Value), WellAll P h vs (ns.map WData.int) -> IntsAre vs ns := by
 intro ns
 induction ns with
 | nil =>
  intro vs w
  rw [List.map_nil] at w
  cases w
  exact .nil
 | cons n ns ih =>
  intro vs w
  rw [List.map_cons] at w
  cases w with
  | cons a b =>
   cases a
   exact .cons _ _ (ih _ b)
theorem script_of {l : OpenLaw} {n : Nat} (hn : l.most = some n) {P : Params} {h : Heap} {args : List WData} {vals : List Value}
  (hpre : l.row.toRowW.claim.pre args = true) (hwl : WellAll P h vals args) :
  ∃ a vs ns, vals = [Value.ref a] /\ args = [WData.list (ns.map WData.int)] /\ h.get? a = some { cls := .type "list", data := .seq vs.toArray } /\ IntsAre vs ns /\ ns.length ≤ n := by
 have hsh : WShape.hasAll [] args [.list .int] = true := (pre_splitW hpre).1
 have hc : l.pre.holds [] { args := args } = true := (pre_splitW hpre).2
 obtain ⟨d, r, rfl, h1, h2⟩ := hasAllW_cons hsh
 obtain rfl := hasAllW_nil h2
 obtain ⟨xs, rfl, h3⟩ := hasW_list h1
 obtain ⟨ns, rfl⟩ := items_int h3
 have hlen : ns.length ≤ n := by
  unfold OpenLaw.pre at hc
  have h4 : (WTm.not (.lt (.lit (.int (n : Int))) (.len (.arg 0)))).holds [] { args := [.list (ns.map .int)] } = true := by
   have h4 := (holds_andW hc).1
   rw [hn] at h4
   exact h4
  have h5 := condW_of h4 (w_not (w_lt w_lit (w_len_list (w_arg rfl))))
  rw [List.length_map] at h5
  refine Nat.le_of_not_lt fun q => ?_
  have q' : (n : Int) < ((ns.length : Nat) : Int) := by omega
  first
   | (rw [decide_eq_true q'] at h5; exact absurd h5 (by decide))
   | (simp at h5; omega)
 cases hwl with
 | cons w1 w2 =>
  cases w2
  cases w1 with
  | list ho hall => exact ⟨_, _, ns, rfl, rfl, ho, ints_of_wellAll ns _ hall, hlen⟩
theorem post_true (l : OpenLaw) (args : List WData) : l.row.toRowW.claim.post args (.bool true) args = true :=
 postW_of (r := l.row.toRowW) (X := (true == true))
  (show WShape.has [] (.bool true) .bool = true by first | rfl | decide | simp [WShape.has, WShape.arms, WShape.armsAll])
  (show (WTm.eq .res (.lit (.bool true))).value [] { args := args, res := some (.bool true), after := args } = some (.bool (true == true)) from w_eq_bool (w_res rfl) w_lit) rfl
theorem attach_call {l : OpenLaw} {n : Nat} {q : Program} {loose : List Str} {XP : (Str -> Option Value) -> Heap -> Prop} {YP : World -> Heap -> Prop} {d : DefRec}
  (hn : l.most = some n) (hdf : d.params.defaults = [])
  (call : ∀ (w : World) (s₀ s₁ : Shared) (mg mb : Str -> Option Value) (fa : Addr) (o : Obj) (pm cd doc : Value) (a : Addr) (vs : List Value) (ns : List Int),
   Ground q loose [] XP w s₀ mg mb s₁.heap -> YP w s₁.heap →
   s₁.heap.get? fa = some o -> o.data = .func (docDef d.name d.params d.body d.scope pm cd doc) -> s₁.heap.CodeRec cd d.name -> mg d.name = some (.ref fa) →
   s₁.heap.get? a = some { cls := .type "list", data := .seq vs.toArray } -> IntsAre vs ns -> ns.length ≤ n -> s₁.gens = #[] →
   codeAny (model l.prog w) callerA (.call (.ref fa) ⟨[.ref a], []⟩) (fun r s' => r = .ok (.ret (.bool true)) /\ OldK s₁.heap s'.heap /\ s'.os = s₁.os /\ AllBare s'.gens) s₁) :
  WalkO q loose XP YP l.row.toRowW d [] (fun f vs => PySem.call f vs) := by
 intro w s₀ s₁ mg mb G Y fa o pm cd doc dV kV ho hd hcd hD hmg hg args vals as hpre hlay hrd hwl hlo
 obtain rfl : dV = .none := Dflts.none hD hdf
 obtain rfl : kV = .none := Dflts.noKw hD
 obtain ⟨a, vs, ns, rfl, rfl, hobj, hints, hlen⟩ := script_of hn hpre hwl
 refine enter_call (codeAny_mono (call w s₀ s₁ mg mb fa o pm cd doc a vs ns G Y ho (fd_plain hd) hcd hmg hobj hints hlen hg) fun r s' hq => ?_)
 obtain ⟨rfl, h2, h3, h4⟩ := hq
 exact ⟨.inl ⟨.bool true, .bool true, [], rfl, fun _ => rfl, .bool true, post_true l _, fun _ => ⟨List.Pairwise.nil, fun _ hm => (nomatch hm)⟩⟩, h2, h3, h4⟩
section
variable {prog : Program} {w : World} {A : Around} {E : Value -> Shared -> Prop} {s : Shared} {K : Frag}
def noObjs (h : Heap) : Heap := { h with objs := #[] }
def ledger (h : Heap) (L d : Addr) : List (Addr × Obj) := (List.range h.objs.size).filterMap fun a => if a = L ∨ a = d then none else (h.get? a).map fun o => (a, o)
end
end Att
namespace L2
open PySem PySem.Spec PyProof.Rows
theorem vals_ints : ∀ {vs : List Value} {ns : List Int}, IntsAre vs ns -> Vals (ns.map V.int) vs
 | _, _, .nil => .nil
 | _, _, .cons n t h => .cons ⟨t, rfl⟩ (vals_ints h)
def Only (H : Hp) : Prop := ∀ b, H b = none ∨ ∃ o xs, H b = some (.frz o (.lst xs))
theorem law_call {P : Program} {w : World} {K : PySem.W.Frag} {mg mb : Str -> Option Value} {CX : CXT} {k : Nat} {fa a : Addr} {fd : FuncData} {x : Str} {sp : Sp} {s₁ : Shared} {vs : List Value} {ns : List Int}
  (KX : K.In s₁.heap) (hns : s₁.heap.Ns mainGlobals mg) (hb : s₁.heap.Ns builtinsNs mb) (hbb : ∀ x : Str, x ≠ "__name__" -> mb x = bootBuiltins x) (hlim : s₁.heap.NoLimit) (hg : s₁.gens = #[])
  (ha : s₁.heap.get? a = some { cls := .type "list", data := .seq vs.toArray }) (hi : IntsAre vs ns) (hl : ns.length ≤ sizeLine) (hr : Room k callerA)
  (F : ∀ base : Heap, K.In base -> base.Ns mainGlobals mg -> FnOk P w K mg base CX k fa fd [x] sp) (hbind : ∀ (s : Shared) (u : Value), BindsTo s fd ⟨[u], []⟩ [(x, u)])
  (hsp : ∀ H : Hp, Only H -> SqL K H a (ns.map V.int) -> sp [.ref a] H (fun v _ => v = .bl true) fun _ _ _ => False)
  (hCX : ∀ H e s', CX [] H s₁ (fun _ _ _ => False) e s' -> False) :
  codeAny (model P w) callerA (.call (.ref fa) ⟨[.ref a], []⟩) (fun r s' => r = .ok (.ret (.bool true)) /\ OldK s₁.heap s'.heap /\ s'.os = s₁.os /\ AllBare s'.gens) s₁ := by
 have rv := vals_ints hi
 have lenV := hi.length
 have core : ∀ H : Hp, Only H -> SqL K H a (ns.map V.int) -> HOk P w H s₁.heap -> (∀ b, H b ≠ none -> b = a) -> (H a ≠ none -> K.lookup a = none) →
   codeAny (model P w) callerA (.call (.ref fa) ⟨[.ref a], []⟩) (fun r s' => r = .ok (.ret (.bool true)) /\ OldK s₁.heap s'.heap /\ s'.os = s₁.os /\ AllBare s'.gens) s₁ := by
  intro H hO hS hok hA hK
  have base_of : ∀ {b : Addr} {o : Obj}, s₁.heap.get? b = some o -> H b = none -> (hidT s₁.heap H).get? b = some o := fun e n => hidT_get e n
  have noA : ∀ {b : Addr} {o : Obj} {es : Array DictEntry} {ep : Nat}, s₁.heap.get? b = some o -> o.data = .dict es ep -> H b = none := fun {b o es ep} e d => by
   cases q : H b with
   | none => rfl
   | some u =>
    have e' : b = a := hA b (by rw [q]; simp)
    subst e'
    rw [ha] at e; cases e
    have d' : Data.seq vs.toArray _ = Data.dict es ep := d
    cases d'
  have nsK : ∀ {b : Addr} {m : Str -> Option Value}, s₁.heap.Ns b m -> (hidT s₁.heap H).Ns b m := fun {b m} ⟨o, es, ep, e, d, r⟩ => ⟨o, es, ep, base_of e (noA e d), d, r⟩
  have hKb : K.In (hidT s₁.heap H) := fun b o e => base_of (KX b o e) (by
   cases q : H b with
   | none => rfl
   | some u =>
    have e' : b = a := hA b (by rw [q]; simp)
    subst e'
    rw [hK (by rw [q]; simp)] at e; cases e)
  have hM : Mod K mg (hidT s₁.heap H) := ⟨hKb, nsK hns, ⟨mb, nsK hb, hbb⟩, let ⟨mc, h1, h2⟩ := hlim; ⟨mc, nsK h1, h2⟩⟩
  have e0 : Env0 P w K mg (hidT s₁.heap H) callerA [] s₁ H := ⟨rfl, hM, fun b o e => of_hidT e, Nat.le_of_eq (hidT_size _ _), trivial, fun b hb => absurd (show b ∈ ([] : List Addr) from hb) (by simp), hok, .of_eq hg⟩
  refine codeAny_mono ((F _ hKb (nsK hns)).run callerA [] s₁ H ⟨[.ref a], []⟩ [.ref a] [.ref a] _ _ hr e0 (hbind s₁ (.ref a)) (.cons rfl .nil) (hsp H hO hS)) fun r s' h => ?_
  cases r with
  | error e => exact (hCX H e s' h).elim
  | ok fl =>
   cases fl with
   | next => exact False.elim h
   | brk => exact False.elim h
   | cont => exact False.elim h
   | ret u =>
    obtain ⟨v, H', os, bare, un, hok', r', q⟩ := h
    have q' : v = .bl true := q
    subst q'
    obtain rfl : u = Value.bool true := r'
    refine ⟨rfl, OldK.of_keep fun b o e => ?_, os, bare⟩
    cases q : H b with
    | none => exact un.keep b o e q (by intro z; exact absurd (show b ∈ ([] : List Addr) from z) (by simp)) (by simp)
    | some u =>
     rcases hO b with z | ⟨ob, xs, z⟩
     ·rw [q] at z; cases z
     ·have z2 := un.frzs b ob _ z
      obtain ⟨e1, _⟩ := hok b _ z
      obtain ⟨e2, _⟩ := hok' b _ z2
      rw [e] at e1; cases e1
      exact e2
 cases hk : K.lookup a with
 | some o =>
  have e := KX a o hk
  rw [ha] at e
  cases e
  refine core (fun _ => none) (fun _ => .inl rfl) (.inr ⟨_, vs.toArray, _, hk, rfl, rfl, rfl, by rw [List.size_toArray, lenV]; exact hl, by simpa using rv⟩) (fun b u z => by have z' : (none : Option HO) = some u := z; cases z') (fun b z => absurd rfl z) fun z => absurd rfl z
 | none =>
  refine core (fun b => if b = a then some (.frz { cls := .type "list", data := .seq vs.toArray } (.lst (ns.map V.int))) else none) (fun b => ?_) (.inl (.inr ⟨{ cls := .type "list", data := .seq vs.toArray }, if_pos rfl⟩)) (fun b u z => ?_) (fun b z => ?_) fun _ => hk
  ·by_cases hb : b = a
   ·exact .inr ⟨_, _, if_pos hb⟩
   ·exact .inl (if_neg hb)
  ·by_cases hb : b = a
   ·have z' := (if_pos hb).symm.trans z
    cases z'
    subst hb
    exact ⟨ha, by rw [List.length_map]; exact hl, vs, _, rv, ha⟩
   ·have z' := (if_neg hb).symm.trans z
    cases z'
  ·by_cases hb : b = a
   ·exact hb
   ·exact absurd (if_neg hb) z
end L2
namespace L2
open PySem PySem.Spec PyProof.Rows
abbrev KOf {K : PySem.W.Frag} {h : Heap} (_ : K.In h) : PySem.W.Frag := K
theorem walk_of {l : PySem.W.OpenLaw} {n k : Nat} {q : Program} {loose : List Str} {XP : (Str -> Option Value) -> Heap -> Prop} {YP : World -> Heap -> Prop} {d : DefRec} {K : Params -> PySem.W.Frag} {CX : World -> CXT} {sp : World -> Sp} {x : Str}
  (hn : l.most = some n) (hn2 : n ≤ sizeLine) (hdf : d.params.defaults = []) (hr : Room k callerA)
  (hY : ∀ (w : World) (h : Heap), YP w h -> (K w.params).In h)
  (F : ∀ (w : World) (mg : Str -> Option Value) (fa : Addr) (h : Heap), (K w.params).In h -> h.Ns mainGlobals mg -> mg d.name = some (.ref fa) →
   ∃ fd : FuncData, (∀ (s : Shared) (u : Value), BindsTo s fd ⟨[u], []⟩ [(x, u)]) ∧
    ∀ base : Heap, (K w.params).In base -> base.Ns mainGlobals mg -> FnOk l.prog w (K w.params) mg base (CX w) k fa fd [x] (sp w))
  (hsp : ∀ (w : World) (H : Hp) (a : Addr) (ns : List Int), ns.length ≤ n -> Only H -> SqL (K w.params) H a (ns.map V.int) -> sp w [.ref a] H (fun v _ => v = .bl true) fun _ _ _ => False)
  (hCX : ∀ (w : World) (H : Hp) (s : Shared) (e : Value) (s' : Shared), CX w [] H s (fun _ _ _ => False) e s' -> False) :
  PySem.W.WalkO q loose XP YP l.row.toRowW d [] (fun f vs => PySem.call f vs) := by
 refine Att.attach_call hn hdf fun w s₀ s₁ mg mb fa o pm cd doc a vs ns G Y ho hd hcd hmg hobj hints hlen hg => ?_
 have KX := hY w _ Y
 obtain ⟨fd, hb, hF⟩ := F w mg fa _ KX G.T.g hmg
 exact law_call KX G.T.g G.T.b G.T.builtins G.T.nolimit hg hobj hints (Nat.le_trans hlen hn2) hr hF hb (fun H hO hS => hsp w H a ns hlen hO hS) fun H e s' => hCX w H s₁ e s'
end L2
namespace L2
open PySem PySem.Spec PyProof.Rows
def inClass (s : Stmt) (j : Nat) : Stmt := match s with
 | .ClassDef _ _ _ body _ _ _ _ _ _ _ => body.getD j (.Pass ⟨0, 0, 0, 0⟩)
 | _ => .Pass ⟨0, 0, 0, 0⟩
def defArgs (s : Stmt) : Arguments := match s with
 | .FunctionDef _ a _ _ _ _ _ _ _ _ => a
 | _ => { posonlyargs := [], args := [], vararg := none, kwonlyargs := [], kw_defaults := [], kwarg := none, defaults := [] }
def defBody (s : Stmt) : List Stmt := match s with
 | .FunctionDef _ _ b _ _ _ _ _ _ _ => b
 | _ => []
def defScope (s : Stmt) : Scope := match s with
 | .FunctionDef _ _ _ _ _ _ sc _ _ _ => sc
 | _ => { kind := .function, names := [], isGenerator := false, isCoroutine := false }
abbrev CX0 : CXT := fun _ _ _ _ _ _ => False
abbrev E0 : XK := fun _ _ _ => False
theorem pass0 {X : Cx} : Passes CX0 X E0 := fun _ _ _ _ _ _ _ h => h.elim
structure Fun (K : PySem.W.Frag) (x qual : Str) (st : Stmt) (f : Addr) (fd : FuncData) : Prop where
 ex : ∃ (oc : Value) (od : Option Addr) (kV doc pm : Value) (an : Option Addr) (cdv ct : Value) (osl : Array (Option Value)),
  fd = PySem.W.fnOf x qual (defArgs st) (defBody st) (defScope st) .none kV doc pm an cdv ct /\ K.lookup f = some ⟨oc, od, .func fd, osl⟩ /\ PySem.W.codeIn K cdv qual = true
 kp : PySem.W.keepIn K (.ref f) = true
section
variable {P : Program} {w : World} {K : PySem.W.Frag} {mg : Str -> Option Value} {base : Heap}
theorem Fun.ok {x qual : Str} {st : Stmt} {f : Addr} {fd : FuncData} {N ps : List Str} {k : Nat} {sp : Sp} (F : Fun K x qual st f fd) (S : FnScope N ps (defScope st)) (len : ∀ vs H Q E, sp vs H Q E -> vs.length = ps.length)
  (hbody : ∀ (cdv : Value) (A : Around) (outer : List Env) (s : Shared) (H : Hp) (vs : List V) (Q : VK) (E : XK), Room k (A.deeper (envOfC qual (defScope st) s.heap.objs.size f cdv)) -> sp vs H Q E →
   ∃ t, PSs (cxOf CX0 P w K mg base N qual (defScope st) f cdv A outer s H E).nox (defBody st) t /\ t { nx := fun _ H' => Q .non H', rt := Q } (start N vs) H) : FnOk P w K mg base CX0 (k + 1) f fd ps sp := by
 obtain ⟨oc, od, kV, doc, pm, an, cdv, ct, osl, rfl, lk, hcd⟩ := F.ex
 refine fn_of lk hcd S len fun A outer s H vs Q E hr hsp => ?_
 obtain ⟨t, h, q⟩ := hbody cdv A outer s H vs Q E hr hsp
 exact ⟨t, h.nox, q⟩
theorem Fun.binds {x qual : Str} {st : Stmt} {f : Addr} {fd : FuncData} {ps : List Str} (F : Fun K x qual st f fd)
  (h : ∀ (kV doc pm : Value) (an : Option Addr) (cdv ct : Value) (us : List Value), us.length = ps.length -> bindArgs (PySem.W.fnOf x qual (defArgs st) (defBody st) (defScope st) .none kV doc pm an cdv ct) ⟨us, []⟩ = pure (ps.zip us)) : Binds K fd ps [] := by
 obtain ⟨oc, od, kV, doc, pm, an, cdv, ct, osl, rfl, lk, hcd⟩ := F.ex
 exact .all (h kV doc pm an cdv ct)
theorem fun_mk {x qual : Str} {st : Stmt} {f : Addr} {oc : Value} {od an : Option Addr} {osl : Array (Option Value)} {kV doc pm cdv ct : Value} (l : K.lookup f = some ⟨oc, od, .func (PySem.W.fnOf x qual (defArgs st) (defBody st) (defScope st) .none kV doc pm an cdv ct), osl⟩)
  (c : PySem.W.codeIn K cdv qual = true) (k : PySem.W.keepIn K (.ref f) = true) : Fun K x qual st f (PySem.W.fnOf x qual (defArgs st) (defBody st) (defScope st) .none kV doc pm an cdv ct) := ⟨⟨oc, od, kV, doc, pm, an, cdv, ct, osl, rfl, l, c⟩, k⟩
end
theorem small1000 {n : Nat} (h : n ≤ 1000) : n < sizeLine := Nat.lt_of_le_of_lt h (by decide)
section
variable {X : Cx}
theorem pv (i : Nat) {x : Str} {pos : Pos} (hN : X.N[i]? = some x := by rfl) (hv : Vis X.env.scope x := by first | exact Or.inl rfl | exact Or.inr (Or.inl rfl) | exact Or.inr (Or.inr rfl)) (hd : (x == ("__debug__" : Str)) = false := by decide)
  (hcd : (x == ("__classdict__" : Str)) = false := by decide) : PE X (.Name x pos) (tVar i) := pe_var hN hv hd hcd
end
theorem iteF {A B : Prop} (h : B) : if false = true then A else B := by
 rw [if_neg Bool.false_ne_true]
 exact h
theorem iteT {A B : Prop} (h : A) : if true = true then A else B := by
 rw [if_pos rfl]
 exact h
theorem ite2 {c A B : Prop} [Decidable c] (h1 : c -> A) (h2 : ¬ c -> B) : if c then A else B := by
 by_cases h : c
 ·rw [if_pos h]
  exact h1 h
 ·rw [if_neg h]
  exact h2 h
theorem iteNS {c A B : Prop} [Decidable c] (hc : c) (h : B) : if (!decide c) = true then A else B := by
 rw [decide_eq_true hc]
 exact iteF h
def Same (H H' : Hp) : Prop := ∀ b o, H b = some o -> H' b = some o
theorem Same.refl (H : Hp) : Same H H := fun _ _ h => h
theorem Same.trans {H H1 H2 : Hp} (a : Same H H1) (b : Same H1 H2) : Same H H2 := fun c o h => b c o (a c o h)
theorem Same.seq {K : PySem.W.Frag} {H H' : Hp} {a : Addr} {xs : List V} (e : Same H H') (h : SqL K H a xs) : SqL K H' a xs := by
 rcases h with (h | ⟨o, h⟩) | h
 ·exact .inl (.inl (e _ _ h))
 ·exact .inl (.inr ⟨o, e _ _ h⟩)
 ·exact .inr h
end L2
set_option maxHeartbeats 4000000
namespace B
open PySem L2 PyProof.Rows
theorem iteN1 {c A B : Prop} [Decidable c] (hc : ¬ c) (h : A) : if (!decide c) = true then A else B := by
 have e : (!decide c) = true := by rw [decide_eq_false hc]; rfl
 rw [if_pos e]; exact h
theorem iteD1 {c A B : Prop} [Decidable c] (hc : c) (h : A) : if decide c = true then A else B := by
 rw [if_pos (decide_eq_true hc)]; exact h
theorem iteD0 {c A B : Prop} [Decidable c] (hc : ¬ c) (h : B) : if decide c = true then A else B := by
 have e : ¬ decide c = true := by rw [decide_eq_false hc]; intro z; cases z
 rw [if_neg e]; exact h
theorem iteB1 {b : Bool} {A B : Prop} (hb : b = true) (h : A) : if b = true then A else B := by rw [if_pos hb]; exact h
theorem iteB0 {b : Bool} {A B : Prop} (hb : b = false) (h : B) : if b = true then A else B := by
 rw [if_neg (by rw [hb]; intro z; cases z)]; exact h
def kitTT (A B : String) : Option Bool := if (Value.type A == Value.type B) = true then some true else if PySem.W.kitMeta B = true then (fastBuiltinMro A).map (·.contains (.type B)) else none
theorem kit_of {K : PySem.W.Frag} {A B : String} {b : Bool} (h : kitTT A B = some b) : PySem.W.kitOne K (.type A) (.type B) = some b := h
inductive Ty (H : Hp) : V -> String -> Prop where
 | non : Ty H .non "NoneType"
 | bl (b : Bool) : Ty H (.bl b) "bool"
 | int (i : Int) : Ty H (.int i) "int"
 | str (x : Str) : Ty H (.str x) "str"
 | lst {a : Addr} {xs : List V} (e : H a = some (.lst xs)) : Ty H (.ref a) "list"
 | tup {a : Addr} {xs : List V} (e : H a = some (.tup xs)) : Ty H (.ref a) "tuple"
theorem Ty.of {H : Hp} {v : V} {n : String} (K : PySem.W.Frag) (h : Ty H v n) : TyOf K H v (.type n) := by
 cases h with
 | non => exact .non
 | bl b => exact .bl b
 | int i => exact .int i
 | str x => exact .str x
 | lst e => exact .lst e
 | tup e => exact .tup e
def rIsi : List V -> Hp -> VK -> Prop := fun xs H Q => ∃ x n m b, xs = [x, .ty n] /\ Ty H x m /\ kitTT m n = some b /\ Q (.bl b) H
theorem call_isi {X : Cx} : CallR X (.builtin "isinstance") rIsi := by
 intro pins s σ H xs us Q I r h
 obtain ⟨x, n, m, b, rfl, ty, e, q⟩ := h
 obtain ⟨u, u2, rfl, rx, ry⟩ := vals2 r
 obtain rfl : u2 = Value.type n := ry
 exact isinst_ok I rx (ty.of X.K) (kit_of e) fun tk => ⟨.bl b, H, I.tok tk, rfl, q⟩
def wholeV : V -> Bool
 | .int _ => true
 | _ => false
def tupV (n : String) : Bool := n == "tuple"
structure Step (t : Addr) (H H' : Hp) : Prop where
 keep : ∀ b o, b ≠ t -> H b = some o -> H' b = some o
 tp : ∃ xs, H t = some (.lst xs)
 tp' : ∃ xs, H' t = some (.lst xs)
theorem Step.trans {t : Addr} {H H1 H2 : Hp} (a : Step t H H1) (b : Step t H1 H2) : Step t H H2 := ⟨fun c o n e => b.keep c o n (a.keep c o n e), a.tp, b.tp'⟩
theorem Step.up {t : Addr} {H : Hp} {xs ys : List V} (h : H t = some (.lst xs)) : Step t H (upd H t (.lst ys)) := ⟨fun c o n e => by rw [upd_ne n]; exact e, ⟨_, h⟩, ⟨_, upd_same⟩⟩
theorem same_new {H : Hp} {p : Addr} (h : H p = none) (o : HO) : Same H (upd H p o) := fun b u q => by rw [upd_ne (ne_of_none q h)]; exact q
theorem Step.same {t : Addr} {H H' : Hp} (s : Same H H') (h : ∃ xs, H t = some (.lst xs)) : Step t H H' := ⟨fun c o _ e => s c o e, h, let ⟨xs, e⟩ := h; ⟨xs, s _ _ e⟩⟩
theorem Step.new {t p : Addr} {H : Hp} (h : ∃ xs, H t = some (.lst xs)) (n : H p = none) (o : HO) : Step t H (upd H p o) := Step.same (same_new n o) h
def Th (H : Hp) (v : V) : Prop := ∃ n, Ty H v n /\ ∀ a xs, v = .ref a -> H a = some (.tup xs) -> ∀ x ∈ xs, ∃ m, Ty H x m
theorem pick {xs : List V} {r : Int} (h0 : 0 ≤ r) (h1 : r < (xs.length : Int)) : ∃ v, atI xs r = some v /\ v ∈ xs := by
 have hk : r.toNat < xs.length := by omega
 have ek : r = ((r.toNat : Nat) : Int) := by omega
 have q : atI xs ((r.toNat : Nat) : Int) = some xs[r.toNat] := atI_nat (List.getElem?_eq_getElem hk)
 rw [← ek] at q
 exact ⟨_, q, List.getElem_mem hk⟩
theorem pickI {ns : List Int} {r : Int} (h0 : 0 ≤ r) (h1 : r < (ns.length : Int)) : ∃ z : Int, atI (ns.map V.int) r = some (.int z) := by
 obtain ⟨v, h, hv⟩ := pick (xs := ns.map V.int) h0 (by rw [List.length_map]; exact h1)
 obtain ⟨z, _, rfl⟩ := List.mem_map.mp hv
 exact ⟨z, h⟩
structure Tape (H : Hp) (t s : Addr) : Prop where
 ex : ∃ (ns : List Int) (p q r : Int), H t = some (.lst [.ref s, .int p, .int q, .int r]) /\ H s = some (.lst (ns.map V.int)) /\ s ≠ t /\ ns.length ≤ 63 /\ 0 ≤ p /\ 0 ≤ q /\ 0 ≤ r
def sp_tape (K : PySem.W.Frag) : Sp := fun vs H Q _ => ∃ (a : Addr) (ns : List Int), vs = [.ref a] /\ SqL K H a (ns.map V.int) /\ ∀ (t s : Addr) (H' : Hp), Same H H' -> H t = none -> H s = none -> Tape H' t s -> Q (.ref t) H'
def sp_draw : Sp := fun vs H Q _ => ∃ (t s : Addr) (m : Int), vs = [.ref t, .int m] /\ Tape H t s /\ 0 < m /\ m < 1073741824 /\ ∀ (r : Int) (xs : List V), 0 ≤ r -> r < m -> Tape (upd H t (.lst xs)) t s -> Q (.int r) (upd H t (.lst xs))
def sp_lawT (K : PySem.W.Frag) : Sp := fun vs H Q _ => ∃ (a : Addr) (ns : List Int), vs = [.ref a] /\ SqL K H a (ns.map V.int) /\ ns.length ≤ 63 /\ ∀ H', Q (.bl true) H'
theorem gcd_turn {a b : Int} (ha : 0 ≤ a) (hb : 0 < b) : Int.gcd b (a % b) = Int.gcd a b := by
 obtain ⟨n, rfl⟩ := Int.eq_ofNat_of_zero_le ha
 obtain ⟨m, rfl⟩ := Int.eq_ofNat_of_zero_le (Int.le_of_lt hb)
 rw [← Int.natCast_emod]
 show Nat.gcd m (n % m) = Nat.gcd n m
 rw [Nat.gcd_comm m, ← Nat.gcd_rec, Nat.gcd_comm]
theorem abs_if (i : Int) : (if i < 0 then -i else i) = (i.natAbs : Int) := by split <;> omega
end B
namespace B
open PySem PySem.Spec L2 PyProof.Rows
mutual
inductive Deep (K : PySem.W.Frag) (H : Hp) : V -> PyData -> Prop where
 | non : Deep K H .non .none
 | bl (b : Bool) : Deep K H (.bl b) (.bool b)
 | int (i : Int) : Deep K H (.int i) (.int i)
 | str (x : Str) : Deep K H (.str x) (.str x)
 | lst {a : Addr} {xs : List V} {ds : List PyData} (e : SqL K H a xs) (h : DeepAll K H xs ds) : Deep K H (.ref a) (.list ds)
 | tup {a : Addr} {xs : List V} {ds : List PyData} (e : SqT K H a xs) (h : DeepAll K H xs ds) : Deep K H (.ref a) (.tuple ds)
inductive DeepAll (K : PySem.W.Frag) (H : Hp) : List V -> List PyData -> Prop where
 | nil : DeepAll K H [] []
 | cons {x : V} {d : PyData} {xs : List V} {ds : List PyData} (h : Deep K H x d) (t : DeepAll K H xs ds) : DeepAll K H (x :: xs) (d :: ds)
end
mutual
theorem Deep.reads {X : Cx} {pins : List (Addr × Obj)} {σ : L2.St} {H : Hp} {s : Shared} (I : Inv X pins σ H s) : ∀ {v : V} {d : PyData} {u : Value}, Deep X.K H v d -> RelV v u -> ∃ as, Reads s.heap u d as
 | _, _, u, .non, r => by cases (show u = Value.none from r); exact ⟨_, .none⟩
 | _, _, u, .bl b, r => by cases (show u = Value.bool b from r); exact ⟨_, .bool b⟩
 | _, _, u, .int i, r => by obtain ⟨t, q⟩ := (show ∃ t, u = Value.int i t from r); cases q; exact ⟨_, .int i t⟩
 | _, _, u, .str x, r => by obtain ⟨t, q⟩ := (show ∃ t, u = Value.str x t from r); cases q; exact ⟨_, .str x t⟩
 | _, _, u, .lst (a := a) e h, r => by
  cases (show u = Value.ref a from r)
  obtain ⟨its, rv, ⟨o, n, ho, hc, _, hd⟩, _⟩ := I.list e
  obtain ⟨as, q⟩ := DeepAll.reads I h rv
  exact ⟨_, .list ho hc hd (by simpa using q)⟩
 | _, _, u, .tup (a := a) e h, r => by
  cases (show u = Value.ref a from r)
  obtain ⟨its, rv, ⟨o, ho, hc, n, hd⟩, _⟩ := I.tuple e
  obtain ⟨as, q⟩ := DeepAll.reads I h rv
  exact ⟨_, .tuple ho hc hd (by simpa using q)⟩
theorem DeepAll.reads {X : Cx} {pins : List (Addr × Obj)} {σ : L2.St} {H : Hp} {s : Shared} (I : Inv X pins σ H s) : ∀ {vs : List V} {ds : List PyData} {us : List Value}, DeepAll X.K H vs ds -> Vals vs us -> ∃ as, ReadsAll s.heap us ds as
 | _, _, _, .nil, .nil => ⟨_, .nil⟩
 | _, _, _, .cons h t, .cons r q =>
  let ⟨_, a⟩ := Deep.reads I h r
  let ⟨_, b⟩ := DeepAll.reads I t q
  ⟨_, .cons a b⟩
end
structure Shows (d : PyData) : Prop where
 sh : d.showable = true
 nd : d.hasDict = false
 sz : d.shown.length ≤ sizeLine
 dp : d.depth ≤ 16
def rRepr (K : PySem.W.Frag) : List V -> Hp -> VK -> Prop := fun xs H Q => ∃ v d, xs = [v] /\ Deep K H v d /\ Shows d /\ Q (.str d.shown) H
theorem call_repr {X : Cx} {k : Nat} (hr : Room k X.A) : CallR X (.builtin "repr") (rRepr X.K) := by
 intro pins s σ H xs us Q I r h
 obtain ⟨v, d, rfl, dp, sh, q⟩ := h
 obtain ⟨u, rfl, ru⟩ := vals1 r
 cases dp with
 | non => cases (show u = Value.none from ru); exact PySem.P.repr_of_none ⟨.str "None", H, I.tok _, ⟨_, rfl⟩, q⟩
 | bl b => cases (show u = Value.bool b from ru); exact PySem.P.repr_of_bool ⟨.str _, H, I.tok _, ⟨_, rfl⟩, q⟩
 | int i =>
  obtain ⟨t, e⟩ := (show ∃ t, u = Value.int i t from ru)
  cases e
  exact PySem.P.repr_of_int (of_decide_eq_true sh.sh) ⟨.str _, H, I.tok _, ⟨_, rfl⟩, q⟩
 | str x =>
  obtain ⟨t, e⟩ := (show ∃ t, u = Value.str x t from ru)
  cases e
  exact PySem.P.repr_of_str ⟨.str _, H, I.tok _, ⟨_, rfl⟩, q⟩ sh.sz
 | @lst a ys ds e h =>
  cases (show u = Value.ref a from ru)
  obtain ⟨as, rd⟩ := Deep.reads I (.lst e h) (show RelV (.ref a) (.ref a) from rfl)
  exact repr_of_reads' rd sh.sh (fun z => by rw [sh.nd] at z; cases z) hr.gd (by have := hr.units; have := sh.dp; omega) (fun _ _ z => z) (fun h' u tk hk => ⟨.str _, H, I.kept hk, ⟨_, rfl⟩, q⟩) sh.sz
 | @tup a ys ds e h =>
  cases (show u = Value.ref a from ru)
  obtain ⟨as, rd⟩ := Deep.reads I (.tup e h) (show RelV (.ref a) (.ref a) from rfl)
  exact repr_of_reads' rd sh.sh (fun z => by rw [sh.nd] at z; cases z) hr.gd (by have := hr.units; have := sh.dp; omega) (fun _ _ z => z) (fun h' u tk hk => ⟨.str _, H, I.kept hk, ⟨_, rfl⟩, q⟩) sh.sz
end B
namespace B
open PySem PySem.Spec L2 PyProof.Rows
def cxC (X : Cx) (N' : List Str) (scope : Scope) (cl : List (Str × Addr)) (C : Addr) (fp : List Addr) (pins : List (Addr × Obj)) (s : Shared) (H : Hp) : Cx :=
 { X with N := N', s₀ := s, H₀ := H, env := compEnvC scope cl C X.env, outer := X.stack, stack := X.stack, ex := fp, fn := fun _ => false, pn := X.pn ++ pins, xe := fun _ _ => False }
def FreeOk (X : Cx) (scope : Scope) (cl : List (Str × Addr)) : List Str -> List (Option Nat) -> Prop
 | [], [] => True
 | _ :: N, none :: r => FreeOk X scope cl N r
 | x :: N, some j :: r => X.N[j]? = some x /\ X.env.kindOf x = some .cell /\ (compEnvC scope cl 0 X.env).kindOf x = some .cell /\ cl.lookup x = X.env.cells.lookup x /\ FreeOk X scope cl N r
 | _, _ => False
def frees (src : List (Option Nat)) (σ : L2.St) : L2.St := src.map fun o => o.bind fun j => (σ[j]?).getD none
theorem FreeOk.len {X : Cx} {scope : Scope} {cl : List (Str × Addr)} : ∀ {N : List Str} {src : List (Option Nat)}, FreeOk X scope cl N src -> N.length = src.length
 | [], [], _ => rfl
 | _ :: _, none :: _, h => congrArg (· + 1) (FreeOk.len (X := X) (scope := scope) (cl := cl) h)
 | _ :: _, some _ :: _, h => congrArg (· + 1) (FreeOk.len (X := X) (scope := scope) (cl := cl) h.2.2.2.2)
theorem FreeOk.at {X : Cx} {scope : Scope} {cl : List (Str × Addr)} {σ : L2.St} : ∀ {N : List Str} {src : List (Option Nat)} {i : Nat} {x : Str} {v : V}, FreeOk X scope cl N src -> N[i]? = some x -> (frees src σ)[i]? = some (some v) →
  ∃ j : Nat, X.N[j]? = some x /\ σ[j]? = some (some v) /\ X.env.kindOf x = some .cell /\ (compEnvC scope cl 0 X.env).kindOf x = some .cell /\ cl.lookup x = X.env.cells.lookup x
 | y :: N, none :: r, 0, x, v, h, e, q => by cases q
 | y :: N, none :: r, i + 1, x, v, h, e, q => FreeOk.at (N := N) (src := r) (i := i) h e q
 | y :: N, some j :: r, 0, x, v, h, e, q => by
  cases e
  refine ⟨j, h.1, ?_, h.2.1, h.2.2.1, h.2.2.2.1⟩
  have q' : some ((σ[j]?).getD none) = some (some v) := q
  injection q' with q'
  cases z : σ[j]? with
  | none => rw [z] at q'; cases q'
  | some o => rw [z] at q'; exact congrArg some q'
 | y :: N, some j :: r, i + 1, x, v, h, e, q => FreeOk.at (N := N) (src := r) (i := i) h.2.2.2.2 e q
def CellsOk (X : Cx) (scope : Scope) (cl : List (Str × Addr)) : Prop :=
 (∀ x, ((compEnvC scope cl 0 X.env).kindOf x = some .cell ∨ (compEnvC scope cl 0 X.env).kindOf x = some .free) -> ∃ c, cl.lookup x = some c) /\ ∀ x c, cl.lookup x = some c -> X.env.cells.lookup x = some c
def CellsIn (X : Cx) : List (Str × Addr) -> Prop
 | [] => True
 | y :: r => X.env.cells.lookup y.1 = some y.2 /\ CellsIn X r
theorem CellsIn.mem {X : Cx} : ∀ {cl : List (Str × Addr)}, CellsIn X cl -> ∀ y ∈ cl, X.env.cells.lookup y.1 = some y.2
 | [], _, y, h => by cases h
 | z :: r, k, y, h => by
  rcases List.mem_cons.mp h with e | h
  ·rw [e]; exact k.1
  ·exact CellsIn.mem k.2 y h
theorem mem_of_lookup {α : Type} {x : Str} {v : α} : ∀ {l : List (Str × α)}, l.lookup x = some v -> (x, v) ∈ l
 | [], h => by cases h
 | (y, w) :: r, h => by
  rw [List.lookup_cons] at h
  cases e : x == y with
  | true =>
   rw [e] at h
   have e' : x = y := eq_of_beq e
   cases h
   rw [e']; exact List.mem_cons_self
  | false =>
   rw [e] at h
   exact List.mem_cons_of_mem _ (mem_of_lookup h)
theorem cells_of {X : Cx} {scope : Scope} {cl : List (Str × Addr)} (h1 : ((relabel scope X.env).names.all fun y => !(y.2 == .cell || y.2 == .free) || (cl.lookup y.1).isSome) = true) (h2 : CellsIn X cl) : CellsOk X scope cl := by
 refine ⟨fun x h => ?_, fun x c e => h2.mem _ (mem_of_lookup e)⟩
 have h3 := List.all_eq_true.mp h1
 have key : ∀ k : NameKind, (k = .cell ∨ k = .free) -> (relabel scope X.env).names.lookup x = some k -> ∃ c, cl.lookup x = some c := fun k hk e => by
  have q := h3 _ (mem_of_lookup e)
  have z : (k == NameKind.cell || k == NameKind.free) = true := by rcases hk with rfl | rfl <;> rfl
  simp only [z, Bool.not_true, Bool.false_or] at q
  exact Option.isSome_iff_exists.mp q
 rcases h with h | h
 ·exact key _ (.inl rfl) h
 ·exact key _ (.inr rfl) h
def Ext (σ σ' : L2.St) : Prop := σ'.length = σ.length /\ ∀ (i : Nat) (v : V), σ[i]? = some (some v) -> σ'[i]? = some (some v)
theorem Ext.set {σ : L2.St} {i : Nat} {v : V} (h : σ[i]? = some none) : Ext σ (σ.set i (some v)) := by
 refine ⟨List.length_set, fun j u e => ?_⟩
 have ne : i ≠ j := fun z => by subst z; rw [h] at e; cases e
 rw [List.getElem?_set_ne ne]; exact e
section
variable {X : Cx} {N' : List Str} {scope : Scope} {cl : List (Str × Addr)} {src : List (Option Nat)} {pins : List (Addr × Obj)} {σ : L2.St} {H : Hp} {s : Shared} {fp : List Addr}
theorem Cx.comp_ok {C : Addr} (I : Inv X pins σ H s) (hC : s.heap.objs.size ≤ C) (hk : scope.kind = .function) (hf : ∀ b ∈ fp, FpOk X pins H b) (hfs : ∀ b ∈ fp, b < s.heap.objs.size) (hc : CellsOk X scope cl) :
  (cxC X N' scope cl C fp pins s H).Ok where
 mod := I.ok.mod
 kind := hk
 glob := I.ok.glob
 blt := I.ok.blt
 above := hC
 inj := fun x y c e1 e2 => I.ok.inj x y c (hc.2 x c e1) (hc.2 y c e2)
 has := fun x h => hc.1 x h
 cab := fun x c z => nomatch z
 hd := I.ok.hd
 frames := I.ok.frames
 stk := .inl rfl
 exf := fun b hb => ⟨fun z => by have := hfs b hb; rw [show b = C from z] at this; exact absurd (Nat.lt_of_lt_of_le this hC) (Nat.lt_irrefl _), fun x c e => (hf b hb).2.2.2.2.1 x c (hc.2 x c e)⟩
 bs := I.bs
 bsz := Nat.le_trans I.ok.bsz I.sz
 noex := fun b o e hb => by
  rcases (hf b hb).2.2.2.1 with z | z
  ·exact I.ok.noex b o e z
  ·rw [(I.ok.bs b o e).1] at z; cases z
 exfs := fun b hb z => by
  rcases List.mem_cons.mp (I.stkSub b z) with q | q
  ·exact (hf b hb).2.1 q
  ·exact (hf b hb).2.2.1 q
 funs := I.stack
 frf := I.stkFree
theorem Inv.comp {C : Addr} {h₁ : Heap} {m : Str -> Option Value} {tk : Nat} (I : Inv X pins σ H s) (hC : C = s.heap.objs.size) (hns : h₁.Ns C m) (keep : ∀ b o, s.heap.get? b = some o -> h₁.get? b = some o)
  (hk : scope.kind = .function) (hf : ∀ b ∈ fp, FpOk X pins H b) (hfs : ∀ b ∈ fp, b < s.heap.objs.size) (hc : CellsOk X scope cl) (hfree : FreeOk X scope cl N' src) :
  Inv (cxC X N' scope cl C fp pins s H) [] (frees src σ) H { s with heap := h₁, toks := tk } where
 ok := Cx.comp_ok I (Nat.le_of_eq hC.symm) hk hf hfs hc
 os := rfl
 bare := I.bare
 base := Un.kept keep
 loc := ⟨m, hns, fun i x v e1 e2 _ => by
  obtain ⟨j, hj, hσ, kc, kc', hl⟩ := hfree.at e1 e2
  obtain ⟨m0, hn0, hl0⟩ := I.loc
  obtain ⟨u, r, l⟩ := hl0 j x v hj hσ (Or.inr (Or.inl kc))
  rcases l with ⟨k, _⟩ | ⟨k, c, e, o, ho, hd⟩
  ·rw [kc] at k; cases k
  ·exact ⟨u, r, .inr ⟨.inl kc', c, hl.trans e, o, keep c o ho, hd⟩⟩⟩
 cell := fun x c e => let ⟨v, o, ho, hd⟩ := I.cell x c (hc.2 x c e); ⟨v, o, keep _ _ ho, hd⟩
 free := I.hok.fresh (Nat.le_of_eq hC.symm)
 freeC := fun x c e => I.freeC x c (hc.2 x c e)
 pin := fun p hp => by
  have hp' : p ∈ X.pn ++ pins := by
   have z : p ∈ (X.pn ++ pins) ++ [] := hp
   rw [List.append_nil] at z; exact z
  obtain ⟨e, n, ne, nf, d⟩ := I.pin p hp'
  refine ⟨keep _ _ e, n, fun z => ?_, fun z => ?_, d⟩
  ·have := Heap.lt_size e; rw [show p.1 = C from z, hC] at this; exact Nat.lt_irrefl _ this
  ·rcases List.mem_cons.mp (I.stkSub _ z) with q | q
   ·exact ne q
   ·exact nf q
 hok := I.hok.kept keep
 len := by show (frees src σ).length = N'.length; unfold frees; rw [List.length_map, hfree.len]
end
def PTs (X : Cx) (ifs : List Expr) (t : TT) : Prop :=
 ∀ (pins : List (Addr × Obj)) (s : Shared) (σ : L2.St) (H : Hp) (Q : Bool -> Hp -> Prop), Inv X pins σ H s -> t σ H Q →
  wpAny (model X.prog X.w) X.A (forIn ifs true fun c r => if r = true then do let ok ← isTrue c X.env (eval c X.env); pure (ForInStep.yield ok) else pure (ForInStep.yield r)) (TP X pins σ Q) X.xe s
def tYes : TT := fun _ H Q => Q true H
theorem pts_nil {X : Cx} : PTs X [] tYes := fun _ _ _ H _ I h => wpAny_tests_nil ⟨H, I, h⟩
theorem pts_one {X : Cx} {c : Expr} {t : TT} (h : PT X c t) : PTs X [c] t := fun pins s σ H Q I q => wpAny_tests_one (h pins s σ H Q I q)
section
variable {prog : Program} {w : World} {A : Around} {R : Result -> Shared -> Prop} {s : Shared}
theorem comp_loop {elt target iter : Expr} {ifs : List Expr} {scope : Scope} {pos : Pos} {it acc : Value} {env : Env} (I : Nat -> Shared -> Prop)
  (turn : ∀ n s, I n s -> wpAny (model prog w) A (pyNext it) (fun r s₁ => match r with
   | none => R (.ok .next) s₁
   | some v => wpAny (model prog w) A (letOwnedTupleGo target it v) (fun _ s₁' => wpAny (model prog w) A (assign target env v) (fun _ s₂ =>
     wpAny (model prog w) A (forIn ifs true fun c r => if r = true then do let ok ← isTrue c env (eval c env); pure (ForInStep.yield ok) else pure (ForInStep.yield r)) (fun ok s₃ =>
      if ok = true then wpAny (model prog w) A (eval elt env) (fun x s₄ =>
       wpAny (model prog w) A (call (.builtin "list.append") [acc, x]) (fun _ s₅ => ∃ m, m < n /\ I m s₅) (fun _ _ => False) s₄) (fun _ _ => False) s₃
      else ∃ m, m < n /\ I m s₃) (fun _ _ => False) s₂) (fun _ _ => False) s₁') (fun _ _ => False) s₁) (fun _ _ => False) s)
  (n : Nat) (h : I n s) : codeAny (model prog w) A (.compLoop (.ListComp elt [⟨target, iter, ifs, 0⟩] scope pos) 0 it acc env) R s := by
 refine codeAny_loop rfl I (fun n s hI => ?_) n h
 show wpAny _ A ((compTurn (.ListComp elt [⟨target, iter, ifs, 0⟩] scope pos) 0 it acc env).onRaise (fun x => do noteFrame x env; theTreesLotGoes x)) _ _ s
 refine wpAny_noted ?_
 rw [compTurn_list]
 refine wpAny_bind (wpAny_standAt (wpAny_bind (wpAny_mono (turn n s hI) (fun r s₁ h₁ => ?_) fun _ _ h' => h'.elim)))
 cases r with
 | none => exact wpAny_pure h₁
 | some v =>
  refine wpAny_bind (wpAny_mono h₁ (fun _ s₁' h₁' => ?_) fun _ _ h' => h'.elim)
  refine wpAny_bind (wpAny_mono h₁' (fun _ s₂ h₂ => wpAny_bind (wpAny_mono h₂ (fun ok s₃ h₃ => ?_) fun _ _ h' => h'.elim)) fun _ _ h' => h'.elim)
  cases ok with
  | false => exact wpAny_pure ⟨rfl, h₃⟩
  | true =>
   exact wpAny_bind (wpAny_bind (wpAny_mono h₃ (fun x s₄ h₄ => wpAny_bind (wpAny_mono h₄ (fun _ s₅ h₅ => wpAny_pure (wpAny_pure ⟨rfl, h₅⟩)) fun _ _ h' => h'.elim)) fun _ _ h' => h'.elim))
end
structure OffC (X : Cx) (pins : List (Addr × Obj)) (H : Hp) (C : Addr) : Prop where
 no : H C = none
 lo : C ≠ X.env.locals
 fs : C ∉ X.fs
 old : X.s₀.heap.get? C = none
 ce : ∀ x c, X.env.cells.lookup x = some c -> c ≠ C
 pn : ∀ p ∈ X.pn ++ pins, p.1 ≠ C
theorem OffC.turned {X : Cx} {pins : List (Addr × Obj)} {σ : L2.St} {H : Hp} {C : Addr} {s : Shared} (o : OffC X pins H C) (I : Inv X pins σ H s) {h' : Heap} (sb : Heap.SameBut C s.heap h') : Inv X pins σ H { s with heap := h' } :=
 I.turned (it := C) (t' := s.toks) (fun b u hb e => sb.extBut b u hb e) o.no o.lo (.inr o.old) o.ce o.pn
def tComp (wi : TI) (src : List (Option Nat)) (g : TG) (tt : TT) (te : TE) : TE := fun σ H Q => wi σ H fun J H1 => ∀ D, H1 D = none -> ∃ W : Nat -> Nat -> List V -> Hp -> Prop,
 (∃ m, W 0 m [] (upd H1 D (.lst []))) /\ ∀ i m ys H, W i m ys H -> (J.stop i H /\ Q (.ref D) H) ∨ (J.go i H /\ ∀ x H', J.yld i H x H' -> g x (frees src σ) H' fun σ2 H2 => Ext (frees src σ) σ2 /\ tt σ2 H2 fun ok H3 =>
  if ok = true then te σ2 H3 fun y H4 => H4 D = some (.lst ys) /\ ys.length < sizeLine /\ ∃ m', m' < m /\ W (i + 1) m' (ys ++ [y]) (upd H4 D (.lst (ys ++ [y]))) else ∃ m', m' < m /\ W (i + 1) m' ys H3)
section
variable {X : Cx} {N' : List Str} {scope : Scope} {cl : List (Str × Addr)} {src : List (Option Nat)} {tg iter elt : Expr} {ifs : List Expr} {wi : TI} {g : TG} {tt : TT} {te : TE} {pos : Pos}
theorem comp_run (hc : X.calm = true) (hi : PI X tg iter wi) (hg : ∀ C fp pins s H, PG (cxC X N' scope cl C fp pins s H) tg g) (ht : ∀ C fp pins s H, PTs (cxC X N' scope cl C fp pins s H) ifs tt)
  (he : ∀ C fp pins s H, PE (cxC X N' scope cl C fp pins s H) elt te) (hfree : FreeOk X scope cl N' src) (hcell : ∀ x ∈ scope.names, x.2 ≠ .cell) (hkind : scope.kind = .function) (hcl : CellsOk X scope cl)
  {RR : Value -> Addr -> Result -> Shared -> Prop} {pins : List (Addr × Obj)} {s : Shared} {σ : L2.St} {H : Hp} {Q : VK} (I : Inv X pins σ H s) (h : tComp wi src g tt te σ H Q)
  (hRR : ∀ D C H' s', Q (.ref D) H' -> (∃ m, s'.heap.Ns C m) -> Inv X pins σ H' s' -> OffC X pins H' C -> RR (.ref D) C (.ok .next) s') :
  wpAny (model X.prog X.w) X.A (eval iter X.env) (fun x s₁ => wpAny (model X.prog X.w) X.A (pyIter x) (fun itv s₂ => wpAny (model X.prog X.w) X.A (newList []) (fun acc s₃ =>
   wpAny (model X.prog X.w) X.A (newFunctionEnv scope X.env.globals cl [] X.env.qual none .none (some X.env)) (fun cenv s₄ =>
    codeAny (model X.prog X.w) X.A (.compStart (.ListComp elt [⟨tg, iter, ifs, 0⟩] scope pos) 0 itv acc { cenv with scope := relabel scope X.env }) (RR acc cenv.locals) s₄) X.xe s₃) X.xe s₂) X.xe s₁) X.xe s := by
 refine thn (hi pins s σ H _ I h) fun v s1 h1 => thn h1 fun itv s2 h2 => ?_
 obtain ⟨it, fp, tn, J, H2, e, I2, T, st2, f2, h2⟩ := h2
 subst e
 refine wpAny_newObj_type ?_ (by show 0 ≤ sizeLine; exact Nat.zero_le _)
 have hD : H2 s2.heap.objs.size = none := I2.fresh
 have I3 : Inv X pins σ (upd H2 s2.heap.objs.size (.lst [])) { s2 with heap := s2.heap.push { cls := .type "list", data := .seq ([] : List Value).toArray } } := I2.lnew (t' := s2.toks) (its := []) .nil (Nat.zero_le _)
 obtain ⟨W, ⟨m0, w0⟩, turn⟩ := h2 s2.heap.objs.size hD
 generalize hDe : s2.heap.objs.size = D at I3 turn w0 hD ⊢
 have st3 : tn 0 (s2.heap.push { cls := .type "list", data := .seq ([] : List Value).toArray }) := T.keep _ _ _ st2 fun b _ o e => Heap.get?_push_of_some _ e
 have f3 : ∀ b ∈ fp, FpOk X pins (upd H2 D (.lst [])) b /\ b < (s2.heap.push { cls := .type "list", data := .seq ([] : List Value).toArray }).objs.size := fun b hb => by
  obtain ⟨o, e, _⟩ := T.obj _ _ st2 b hb
  have l := Heap.lt_size e
  rw [hDe] at l
  refine ⟨⟨?_, (f2 b hb).2⟩, by rw [Heap.size_push, hDe]; exact Nat.lt_succ_of_lt l⟩
  rw [upd_ne (Nat.ne_of_lt l)]; exact (f2 b hb).1
 generalize (s2.heap.push { cls := .type "list", data := .seq ([] : List Value).toArray }) = h3 at I3 st3 f3 ⊢
 refine wpAny_newFunctionEnv hcell (by intro y hy; simp at hy) (fun h₄ hns₄ hsb₄ => ?_) hkind
 have keep : ∀ b o, h3.get? b = some o -> h₄.get? b = some o := fun b o e => hsb₄.extBut b o (Nat.ne_of_lt (Heap.lt_size e)) (Heap.get?_push_of_some _ e)
 have I4 := Inv.comp (C := h3.objs.size) (fp := fp) (tk := s2.toks + ([] : List (Str × Value)).length) I3 rfl hns₄ keep hkind (fun b hb => (f3 b hb).1) (fun b hb => (f3 b hb).2) hcl hfree
 have st4 : tn 0 h₄ := T.keep _ _ _ st3 fun b _ o e => keep b o e
 have fpn : ∀ b ∈ fp, (upd H2 D (.lst [])) b = none := fun b hb => (f3 b hb).1.1
 have hn3 : ∀ b ∈ fp, b ≠ h3.objs.size := fun b hb => Nat.ne_of_lt (f3 b hb).2
 have stat : ∀ {H' : Hp}, (∀ b ∈ fp, H' b = none) -> ∀ b ∈ fp, FpOk (cxC X N' scope cl h3.objs.size fp pins { s2 with heap := h3 } (upd H2 D (.lst []))) [] H' b := fun hn b hb =>
  ⟨hn b hb, hn3 b hb, I4.ok.exfs b hb, .inl hb, fun x c e => (f3 b hb).1.2.2.2.2.1 x c (hcl.2 x c e), fun p hp => (f3 b hb).1.2.2.2.2.2 p (by
   have z : p ∈ (X.pn ++ pins) ++ [] := hp
   rw [List.append_nil] at z; exact z)⟩
 have back : ∀ {H' : Hp} {s' : Shared}, Inv (cxC X N' scope cl h3.objs.size fp pins { s2 with heap := h3 } (upd H2 D (.lst []))) [] (frees src σ) H' s' -> (∃ m, s'.heap.Ns h3.objs.size m) /\ Inv X pins σ H' s' /\ OffC X pins H' h3.objs.size := fun {H' s'} I' => by
  have Ib : Inv X pins σ H' s' := I3.call' I'.os I'.base I'.hok I'.bare fun b hb => ⟨(f3 b hb).1.2.2.2.1, (f3 b hb).1.2.1, (f3 b hb).1.2.2.2.2.1, (f3 b hb).1.2.2.2.2.2⟩
  refine ⟨let ⟨m, hm, _⟩ := I'.loc; ⟨m, hm⟩, Ib, ⟨I'.free, fun z => ?_, I3.nofs (Nat.le_refl _), Heap.get?_none_of_le I3.sz, fun x c e z => ?_, fun p hp z => ?_⟩⟩
  ·have := I3.lt; rw [← z] at this; exact Nat.lt_irrefl _ this
  ·obtain ⟨v, o, ho, _⟩ := I3.cell x c e
   have := Heap.lt_size ho; rw [z] at this; exact Nat.lt_irrefl _ this
  ·obtain ⟨e, _⟩ := I3.pin p hp
   have := Heap.lt_size e; rw [z] at this; exact Nat.lt_irrefl _ this
 have loop : codeAny (model X.prog X.w) X.A (.compLoop (.ListComp elt [⟨tg, iter, ifs, 0⟩] scope pos) 0 (.ref it) (.ref D) (compEnvC scope cl h3.objs.size X.env)) (RR (.ref D) h3.objs.size) { s2 with heap := h₄, toks := s2.toks + ([] : List (Str × Value)).length } := by
  refine comp_loop (fun n s' => ∃ i ys H', Inv (cxC X N' scope cl h3.objs.size fp pins { s2 with heap := h3 } (upd H2 D (.lst []))) [] (frees src σ) H' s' /\ tn i s'.heap /\ (∀ b ∈ fp, H' b = none) /\ W i n ys H') ?_ m0 ⟨0, [], _, I4, st4, fpn, w0⟩
  rintro n s5 ⟨i, ys, H5, I5, st5, fr5, w5⟩
  rcases turn i n ys H5 w5 with ⟨stop, qn⟩ | ⟨go, step⟩
  ·refine thn (T.done (cxC X N' scope cl h3.objs.size fp pins { s2 with heap := h3 } (upd H2 D (.lst []))) rfl rfl rfl hc i [] s5 _ H5 _ I5 (stat fr5) st5 stop) fun r s6 ⟨hr, I6⟩ => ?_
   subst hr
   obtain ⟨b1, b2, b3⟩ := back I6
   exact hRR D _ H5 s6 qn b1 b2 b3
  ·refine thn (T.item (cxC X N' scope cl h3.objs.size fp pins { s2 with heap := h3 } (upd H2 D (.lst []))) rfl rfl rfl hc i [] s5 _ H5 _ I5 (stat fr5) st5 go) fun r s6 ⟨u, hr, h6⟩ => ?_
   subst hr
   refine thn h6 fun _ s7 ⟨x, H7, I7, r7, y7, st7, fr7⟩ => ?_
   have I7' := I7.pinned (stat fr7) (T.obj _ _ st7)
   refine thn (hg _ _ _ _ _ _ s7 _ H7 x u _ I7' r7 (step x H7 y7)) fun _ s8 ⟨σ8, H8, I8, ex8, q8⟩ => ?_
   refine thn (ht _ _ _ _ _ _ s8 σ8 H8 _ I8 q8) fun ok s9 ⟨H9, I9, q9⟩ => ?_
   have again : ∀ {ys' : List V} {Ha : Hp} {sa : Shared}, Inv (cxC X N' scope cl h3.objs.size fp pins { s2 with heap := h3 } (upd H2 D (.lst []))) ([] ++ pinsAt fp s7.heap) σ8 Ha sa -> (∃ m', m' < n /\ W (i + 1) m' ys' Ha) →
     ∃ m, m < n /\ ∃ i ys H', Inv (cxC X N' scope cl h3.objs.size fp pins { s2 with heap := h3 } (upd H2 D (.lst []))) [] (frees src σ) H' sa /\ tn i sa.heap /\ (∀ b ∈ fp, H' b = none) /\ W i m ys H' := fun {ys' Ha sa} Ia ⟨m', hm, wa⟩ => by
    refine ⟨m', hm, i + 1, ys', Ha, (Ia.unpinned).weak ex8.1.symm ex8.2, T.keep _ _ _ st7 fun b hb o e => (Ia.pin (b, o) (List.mem_append_right _ (List.mem_append_right _ (mem_pinsAt hb e)))).1, fun b hb => ?_, wa⟩
    obtain ⟨o, e, _⟩ := T.obj _ _ st7 b hb
    exact (Ia.pin (b, o) (List.mem_append_right _ (List.mem_append_right _ (mem_pinsAt hb e)))).2.1
   cases ok with
   | false => exact again I9 q9
   | true =>
    refine thn (he _ _ _ _ _ _ s9 σ8 H9 _ I9 q9) fun y s10 ⟨yv, H10, I10, r10, q10, hz, wn⟩ => ?_
    refine thn (mt_append _ s10 σ8 H10 (.ref D) [yv] (.ref D) [y] (fun _ Hz => ∃ m', m' < n /\ W (i + 1) m' (ys ++ [yv]) Hz) I10 rfl (.cons r10 .nil) ⟨D, ys, yv, rfl, rfl, q10, hz, wn⟩) fun _ s11 ⟨_, H11, I11, _, q11⟩ => ?_
    exact again I11 q11
 exact codeAny_compStart_list loop (T.self _ 0 _ _ _ st4 loop)
theorem pe_lcomp (hc : X.calm = true) (hi : PI X tg iter wi) (hg : ∀ C fp pins s H, PG (cxC X N' scope cl C fp pins s H) tg g) (ht : ∀ C fp pins s H, PTs (cxC X N' scope cl C fp pins s H) ifs tt)
  (he : ∀ C fp pins s H, PE (cxC X N' scope cl C fp pins s H) elt te) (hfree : FreeOk X scope cl N' src) (hclos : closureFor scope X.env = pure cl) (hcell : ∀ x ∈ scope.names, x.2 ≠ .cell) (hkind : scope.kind = .function)
  (hnames : ∀ x ∈ scope.names, x.2 = .local -> scope.names.lookup x.1 = some .local) (hcl : CellsOk X scope cl) (hs : ∀ x, foldedSetIterable iter X.env x = pure x := by intro _; rfl) :
  PE X (.ListComp elt [⟨tg, iter, ifs, 0⟩] scope pos) (tComp wi src g tt te) := by
 intro pins s σ H Q I h
 rw [eval_ListComp]
 refine wpAny_comprehension_free (use := none) rfl hs hclos hkind hnames (comp_run hc hi hg ht he hfree hcell hkind hcl (RR := fun acc C => compPost (model X.prog X.w) X.A X.xe none (EP X pins σ Q) acc C) I h fun D C H' s' q hm hI hb => ?_)
 obtain ⟨m, hm⟩ := hm
 exact ⟨m, hm, fun h' sb => ⟨.ref D, H', hb.turned hI sb, rfl, q⟩⟩
theorem ps_setC {i : Nat} {x : Str} {pos' pos2 : Pos} (hN : X.N.Nodup) (hi' : X.N[i]? = some x) (hx : Loc X.env.scope x) (hc : X.calm = true) (hi : PI X tg iter wi) (hg : ∀ C fp pins s H, PG (cxC X N' scope cl C fp pins s H) tg g) (ht : ∀ C fp pins s H, PTs (cxC X N' scope cl C fp pins s H) ifs tt)
  (he : ∀ C fp pins s H, PE (cxC X N' scope cl C fp pins s H) elt te) (hfree : FreeOk X scope cl N' src) (hclos : closureFor scope X.env = pure cl) (hcell : ∀ x ∈ scope.names, x.2 ≠ .cell) (hkind : scope.kind = .function)
  (hnames : ∀ x ∈ scope.names, x.2 = .local -> scope.names.lookup x.1 = some .local) (hcl : CellsOk X scope cl) (hs : ∀ x, foldedSetIterable iter X.env x = pure x := by intro _; rfl)
  (hsw : swapsWith (.ListComp elt [⟨tg, iter, ifs, 0⟩] scope pos) (some (.Name x pos')) pos2.line X.env = pure true := by rfl) (hf : X.fn x = true ∨ X.env.scope.names.lookup x = some .local := by first | exact .inl rfl | exact .inr rfl | assumption) :
  PS X (.Assign [.Name x pos'] (.ListComp elt [⟨tg, iter, ifs, 0⟩] scope pos) pos2) (tAsg (tComp wi src g tt te) (gName i)) := by
 intro pins s σ H D I h
 rw [exec_Assign_Name_used _ _ _ _ hsw]
 refine wpAny_bind (wpAny_standAt ?_)
 show wpAny _ _ ((comprehension (.ListComp elt [⟨tg, iter, ifs, 0⟩] scope pos) scope X.env _ (newList []) false (eval iter X.env) (some (assign (.Name x pos') X.env)) >>= fun _ => pure ()) >>= fun _ => pure Flow.next) _ _ s
 refine wpAny_bind (wpAny_bind (wpAny_mono (wpAny_comprehension_free (use := some (assign (.Name x pos') X.env)) (Q := fun _ s'' => SP X pins D .next s'') rfl hs hclos hkind hnames (comp_run hc hi hg ht he hfree hcell hkind hcl (RR := fun acc C => compPost (model X.prog X.w) X.A X.xe (some (assign (.Name x pos') X.env)) (fun _ s'' => SP X pins D .next s'') acc C) I h fun E C H' s' q hm hI hb => ?_)) (fun _ s'' h'' => wpAny_pure (wpAny_pure h'')) fun _ _ e => e))
 obtain ⟨m, o, es, ep, ho, hd, r1, r2⟩ := hm
 have I' : Inv X (pins ++ [(C, o)]) σ H' s' := hI.pins_of fun p hp => by
  rcases List.mem_append.mp hp with h | h
  ·exact hI.pin p (List.mem_append_right _ h)
  ·rw [List.mem_singleton] at h
   rw [h]
   exact ⟨ho, hb.no, hb.lo, hb.fs, fun v z => by rw [hd] at z; cases z⟩
 refine wpAny_assign_Name (store_ok I' hN hi' hx (show RelV (.ref E) (.ref E) from rfl) (fun s'' I'' => ?_) hf)
 have hC := (I''.pin (C, o) (List.mem_append_right _ (List.mem_append_right _ List.mem_cons_self))).1
 have I3 : Inv X pins (σ.set i (some (.ref E))) H' s'' := I''.pins_of fun p hp => I''.pin p (List.mem_append_right _ (List.mem_append_left _ hp))
 exact ⟨m, ⟨o, es, ep, hC, hd, r1, r2⟩, fun h' sb => ⟨_, H', hb.turned I3 sb, q⟩⟩
end
def rNeD (K : PySem.W.Frag) : R2 := fun x y H Q => ∃ d d', Deep K H x d /\ Deep K H y d' /\ d.canLay0 = true /\ d'.canLay0 = true /\ d.depth ≤ 32 /\ Q (.bl (!PyData.eqv d d')) H
noncomputable def hitAt (h : Heap) (x : Value) (d : PyData) (y : Value) : Bool :=
 open Classical in if y = x then true else if z : ∃ d', d'.canLay0 = true /\ d'.depth ≤ 32 /\ ∃ as, Reads h y d' as then PyData.eqv z.choose d else false
theorem hitAt_eq {A : Around} {s : Shared} {x y : Value} {d : PyData} {as : List Addr} (rx : Reads s.heap x d as) (cx : d.canLay0 = true) (hu : A.units + 32 < cLine)
  (hy : ∃ d', d'.canLay0 = true /\ d'.depth ≤ 32 /\ ∃ as, Reads s.heap y d' as) : SeqAt.EqAt A s y x (hitAt s.heap x d y) := by
 unfold hitAt
 by_cases e : y = x
 ·rw [if_pos e, e]; exact SeqAt.EqAt.same x
 ·rw [if_neg e, dif_pos hy]
  obtain ⟨c, dp, bs, r⟩ := hy.choose_spec
  exact SeqAt.eqAt_reads _ _ A s _ _ _ _ r rx c cx (by omega)
def Known (K : PySem.W.Frag) (H : Hp) (xs : List V) : Prop := ∀ x ∈ xs, ∃ d, Deep K H x d /\ d.canLay0 = true /\ d.depth ≤ 32
theorem known_reads {X : Cx} {pins : List (Addr × Obj)} {σ : L2.St} {H : Hp} {s : Shared} (I : Inv X pins σ H s) : ∀ {xs : List V} {us : List Value}, Vals xs us -> Known X.K H xs -> ∀ u ∈ us, ∃ d', d'.canLay0 = true /\ d'.depth ≤ 32 /\ ∃ as, Reads s.heap u d' as
 | _, _, .nil, _, u, hu => by cases hu
 | x :: xs, w :: us, .cons r t, k, u, hu => by
  rcases List.mem_cons.mp hu with rfl | hu
  ·obtain ⟨d, hd, c, dp⟩ := k x List.mem_cons_self
   obtain ⟨as, ra⟩ := Deep.reads I hd r
   exact ⟨d, c, dp, as, ra⟩
  ·exact known_reads I t (fun y hy => k y (List.mem_cons_of_mem _ hy)) u hu
def rNotInS (K : PySem.W.Frag) : R2 := fun x y H Q => ∃ a p xs, x = .ref a /\ y = .ref p /\ SqL K H p xs /\ V.ref a ∈ xs /\ Known K H xs /\ Q (.bl false) H
def rIndexS (K : PySem.W.Frag) : V -> List V -> Hp -> VK -> Prop := fun x vs H Q => ∃ p xs a d, x = .ref p /\ vs = [.ref a] /\ SqL K H p xs /\ V.ref a ∈ xs /\ Known K H xs /\ Deep K H (.ref a) d /\ d.canLay0 = true /\ d.depth ≤ 32 ∧
 ∀ (j : Nat) (v' : V), xs[j]? = some v' -> (v' = .ref a ∨ ∀ d', Deep K H v' d' -> d'.canLay0 = true -> PyData.eqv d' d = true) -> Q (.int j) H
end B
namespace B
abbrev R := Int × Int
def mkR (a b : Int) : R := (a / (Int.gcd a b : Int), b / (Int.gcd a b : Int))
structure Wf (n : Nat) (r : R) : Prop where
 pos : 0 < r.2
 top : r.1.natAbs < 2 ^ n
 bot : r.2.natAbs < 2 ^ n
 cop : Int.gcd r.1 r.2 = 1
theorem Wf.mono {n m : Nat} {r : R} (h : Wf n r) (l : n ≤ m) : Wf m r := ⟨h.pos, Nat.lt_of_lt_of_le h.top (Nat.pow_le_pow_right (by decide) l), Nat.lt_of_lt_of_le h.bot (Nat.pow_le_pow_right (by decide) l), h.cop⟩
theorem gcd_posR {a b : Int} (hb : 0 < b) : 0 < (Int.gcd a b : Int) := by
 have h : Int.gcd a b ≠ 0 := fun z => by
  have := (Int.gcd_eq_zero_iff.mp z).2
  omega
 omega
theorem natAbs_div_le (a : Int) {g : Int} (hg : 0 < g) : (a / g).natAbs ≤ a.natAbs := by
 have h1 := Int.ediv_mul_le a (show g ≠ 0 by omega)
 have h2 := Int.lt_ediv_add_one_mul_self a hg
 rcases Int.le_total 0 a with h | h
 ·have h3 := Int.ediv_nonneg h (show 0 ≤ g by omega)
  have h4 : a / g ≤ a / g * g := by
   have : a / g * 1 ≤ a / g * g := Int.mul_le_mul_of_nonneg_left (by omega) h3
   omega
  omega
 ·have h3 : a / g ≤ 0 := by
   have := Int.ediv_le_ediv hg h
   rw [Int.zero_ediv] at this; exact this
  have h5 : a ≤ a / g := by
   have : a / 1 ≤ a / g := by
    have q : (a / g + 1) * g ≤ (a / g + 1) * 1 ∨ 0 < a / g + 1 := by
     rcases Int.le_total (a / g + 1) 0 with z | z
     ·left
      have := Int.mul_le_mul_of_nonneg_left (a := 1) (b := g) (c := -(a / g + 1)) (by omega) (by omega)
      have e1 : -(a / g + 1) * 1 = -((a / g + 1) * 1) := Int.neg_mul _ _
      have e2 : -(a / g + 1) * g = -((a / g + 1) * g) := Int.neg_mul _ _
      omega
     ·rcases Int.lt_or_eq_of_le z with z | z
      ·right; exact z
      ·left; rw [← z]; simp
    rw [Int.ediv_one]
    rcases q with q | q
    ·omega
    ·omega
   rw [Int.ediv_one] at this; exact this
  omega
theorem mkR_wf {n : Nat} {a b : Int} (hb : 0 < b) (h1 : a.natAbs < 2 ^ n) (h2 : b.natAbs < 2 ^ n) : Wf n (mkR a b) :=
 ⟨Int.ediv_pos_of_pos_of_dvd hb (Int.le_of_lt (gcd_posR hb)) (Int.gcd_dvd_right a b), Nat.lt_of_le_of_lt (natAbs_div_le _ (gcd_posR hb)) h1, Nat.lt_of_le_of_lt (natAbs_div_le _ (gcd_posR hb)) h2, Int.gcd_ediv_gcd_ediv_gcd (by have := gcd_posR (a := a) hb; omega)⟩
def plusR (r q : R) : R := mkR (r.1 * q.2 + q.1 * r.2) (r.2 * q.2)
def timesR (r q : R) : R := mkR (r.1 * q.1) (r.2 * q.2)
def lessR (r q : R) : Bool := decide (r.1 * q.2 < q.1 * r.2)
theorem mul_lt {x y : Int} {n m : Nat} (h1 : x.natAbs < 2 ^ n) (h2 : y.natAbs < 2 ^ m) : (x * y).natAbs < 2 ^ (n + m) := by
 rw [Int.natAbs_mul, Nat.pow_add]
 exact Nat.mul_lt_mul'' h1 h2
theorem plus_top {n m : Nat} {r q : R} (h : Wf n r) (k : Wf m q) : (r.1 * q.2 + q.1 * r.2).natAbs < 2 ^ (n + m + 1) := by
 have a := mul_lt h.top k.bot
 have b := mul_lt k.top h.bot
 rw [Nat.add_comm m n] at b
 have e : 2 ^ (n + m + 1) = 2 * 2 ^ (n + m) := by rw [Nat.pow_succ, Nat.mul_comm]
 have := Int.natAbs_add_le (r.1 * q.2) (q.1 * r.2)
 omega
theorem plus_wf {n m : Nat} {r q : R} (h : Wf n r) (k : Wf m q) : Wf (n + m + 1) (plusR r q) :=
 mkR_wf (Int.mul_pos h.pos k.pos) (plus_top h k) (Nat.lt_of_lt_of_le (mul_lt h.bot k.bot) (Nat.pow_le_pow_right (by decide) (Nat.le_succ _)))
theorem times_wf {n m : Nat} {r q : R} (h : Wf n r) (k : Wf m q) : Wf (n + m) (timesR r q) :=
 mkR_wf (Int.mul_pos h.pos k.pos) (mul_lt h.top k.top) (mul_lt h.bot k.bot)
end B
namespace B
open PySem L2 PyProof.Rows
def CBig (i j : Int) : Prop := i.natAbs < 2 ^ 4000 /\ j.natAbs < 2 ^ 4000
def CQuo (_ j : Int) : Prop := 0 < j /\ j.natAbs < 2 ^ 4000
theorem bits_of {i : Int} (h : i.natAbs < 2 ^ 4000) : Builtin.Int.intBits i ≤ 2 ^ 20 := by
 unfold Builtin.Int.intBits
 split
 ·exact Nat.zero_le _
 ·rename_i z
  have hz : i.natAbs ≠ 0 := fun q => z (by have : i = 0 := by omega
                                           rw [this]; rfl)
  have := (Nat.log2_lt hz).mpr h
  have e : (2 : Nat) ^ 20 = 1048576 := by decide
  omega
section
variable {X : Cx}
theorem op_mulB : OpR X (binaryOp .Mult) (rI CBig fun i j => .int (i * j)) := opI fun _ _ _ _ _ _ _ hc q => mul_int q (IntMulOk.of_bits (bits_of hc.1) (bits_of hc.2))
theorem op_quo : OpR X (binaryOp .FloorDiv) (rI CQuo fun i j => .int (i / j)) := opI fun i j _ _ _ _ _ hc q => by
 have h1 : (0 : Int) < j := hc.1
 have h2 : j.natAbs < 2 ^ 4000 := hc.2
 refine floordiv_int (by omega) (by rw [Int.fdiv_eq_ediv_of_nonneg i (by omega)]; exact q) (.inl (PyProof.noPylong_of_log2 ?_))
 exact Nat.lt_trans ((Nat.log2_lt (show j.natAbs ≠ 0 by omega)).mpr h2) (by decide)
end
def Tst (K : PySem.W.Frag) (H H' : Hp) : Prop := ∀ p xs, SqT K H p xs -> SqT K H' p xs
theorem Tst.refl (K : PySem.W.Frag) (H : Hp) : Tst K H H := fun _ _ h => h
theorem Tst.trans {K : PySem.W.Frag} {H H1 H2 : Hp} (a : Tst K H H1) (b : Tst K H1 H2) : Tst K H H2 := fun p xs h => b p xs (a p xs h)
theorem Tst.same {K : PySem.W.Frag} {H H' : Hp} (s : Same H H') : Tst K H H' := fun p xs h => by
 rcases h with (h | ⟨o, h⟩) | h
 ·exact .inl (.inl (s _ _ h))
 ·exact .inl (.inr ⟨o, s _ _ h⟩)
 ·exact .inr h
theorem Tst.new {K : PySem.W.Frag} {H : Hp} {p : Addr} (h : H p = none) (o : HO) : Tst K H (upd H p o) := Tst.same (same_new h o)
theorem Tst.step {K : PySem.W.Frag} {t : Addr} {H H' : Hp} (S : Step t H H') : Tst K H H' := fun p xs h => by
 obtain ⟨ys, ht⟩ := S.tp
 rcases h with (h | ⟨o, h⟩) | h
 ·exact .inl (.inl (S.keep _ _ (fun z => by subst z; rw [h] at ht; cases ht) h))
 ·exact .inl (.inr ⟨o, S.keep _ _ (fun z => by subst z; rw [h] at ht; cases ht) h⟩)
 ·exact .inr h
theorem Tst.up {K : PySem.W.Frag} {H : Hp} {l : Addr} {xs : List V} (h : H l = some (.lst xs)) (ys : List V) : Tst K H (upd H l (.lst ys)) := Tst.step (Step.up h)
def RV (K : PySem.W.Frag) (H : Hp) (v : V) (r : R) : Prop := ∃ p, v = .ref p /\ SqT K H p [.int r.1, .int r.2]
theorem RV.mono {K : PySem.W.Frag} {H H' : Hp} {v : V} {r : R} (h : RV K H v r) (t : Tst K H H') : RV K H' v r := let ⟨p, e, q⟩ := h; ⟨p, e, t _ _ q⟩
theorem RV.of {K : PySem.W.Frag} {H : Hp} {p : Addr} {a b : Int} (h : H p = some (.tup [.int a, .int b])) : RV K H (.ref p) (a, b) := ⟨p, rfl, SqT.of h⟩
def RVs (K : PySem.W.Frag) (H : Hp) (xs : List V) (rs : List R) : Prop := xs.length = rs.length /\ ∀ (i : Nat) (x : V) (r : R), xs[i]? = some x -> rs[i]? = some r -> RV K H x r
def powR (r : R) : Nat -> R
 | 0 => (1, 1)
 | k + 1 => timesR (powR r k) r
theorem one_wf : Wf 1 (1, 1) := ⟨by decide, by decide, by decide, by decide⟩
theorem zero_wf : Wf 1 (0, 1) := ⟨by decide, by decide, by decide, by decide⟩
theorem pow_wf {n : Nat} {r : R} (h : Wf n r) : ∀ k, Wf (1 + k * n) (powR r k)
 | 0 => by rw [Nat.zero_mul]; exact one_wf
 | k + 1 => by
  have := times_wf (pow_wf h k) h
  rw [show 1 + (k + 1) * n = 1 + k * n + n by rw [Nat.add_mul]; omega]
  exact this
def sumR (rs : List R) : R := rs.foldl plusR (0, 1)
def dR (r : R) : PyData := .tuple [.int r.1, .int r.2]
theorem RV.deep {K : PySem.W.Frag} {H : Hp} {v : V} {r : R} (h : RV K H v r) : Deep K H v (dR r) := by
 obtain ⟨p, rfl, q⟩ := h
 exact .tup q (.cons (.int _) (.cons (.int _) .nil))
theorem dR_lay (r : R) : (dR r).canLay0 = true := rfl
theorem dR_depth (r : R) : (dR r).depth ≤ 32 := by show max 0 (max 0 0) + 1 ≤ 32; decide
theorem log_of {i : Int} {n : Nat} (h : i.natAbs < 2 ^ n) (hn : n ≤ 1900) : i.natAbs.log2 < 1920 := by
 by_cases z : i.natAbs = 0
 ·rw [z]; decide
 ·have := (Nat.log2_lt z).mpr (Nat.lt_of_lt_of_le h (Nat.pow_le_pow_right (by decide) hn))
  omega
theorem len_of {i : Int} {n : Nat} (h : i.natAbs < 2 ^ n) (hn : n ≤ 1900) : (PyData.int i).shown.length ≤ 1921 := by
 have q := int_text_length_le (a := i) (k := 1920) (by decide) (log_of h hn)
 have e : (PyData.int i).shown.length = (toString i).length := by
  show (Str.ofString (toString i)).length = _
  exact PySem.ofString_length _
 omega
theorem dR_shows {r : R} {n : Nat} (h : Wf n r) (hn : n ≤ 1900) : Shows (dR r) where
 sh := by
  show (decide (r.1.natAbs.log2 < 1920) && (decide (r.2.natAbs.log2 < 1920) && true)) = true
  rw [decide_eq_true (log_of h.top hn), decide_eq_true (log_of h.bot hn)]; rfl
 nd := rfl
 sz := by
  have a := len_of h.top hn
  have b := len_of h.bot hn
  have q := tupleText_len_le [(PyData.int r.1).shown, (PyData.int r.2).shown]
  have e : (dR r).shown = tupleText [(PyData.int r.1).shown, (PyData.int r.2).shown] := rfl
  rw [e]
  simp only [List.map_cons, List.map_nil, List.sum_cons, List.sum_nil, List.length_cons, List.length_nil] at q
  have : sizeLine = 16777216 := by decide
  omega
 dp := by show max 0 (max 0 0) + 1 ≤ 16; decide
theorem eqv_dR {r q : R} (h : PyData.eqv (dR r) (dR q) = true) : r = q := by
 have z : (r.1 == q.1 && (r.2 == q.2 && true)) = true := h
 simp only [Bool.and_true, Bool.and_eq_true, beq_iff_eq] at z
 exact Prod.ext z.1 z.2
theorem eqv_same (r : R) : PyData.eqv (dR r) (dR r) = true := by
 show (r.1 == r.1 && (r.2 == r.2 && true)) = true
 simp
end B
namespace B
open PySem L2 PyProof.Rows
def dL (rs : List R) : PyData := .list (rs.map dR)
def iSeq (K : PySem.W.Frag) (tl : TE) : TI := fun σ H R => tl σ H fun x H1 => (∃ a, x = .ref a /\ (∃ xs, SqL K H1 a xs) /\ R (Itl K a) H1) ∨ (∃ a, x = .ref a /\ (∃ xs, SqT K H1 a xs) /\ R (Itt K a) H1)
end B
namespace B
structure Red (r : R) : Prop where
 pos : 0 < r.2
 cop : Int.gcd r.1 r.2 = 1
theorem mkR_red {a b : Int} (hb : 0 < b) : Red (mkR a b) :=
 ⟨Int.ediv_pos_of_pos_of_dvd hb (Int.le_of_lt (gcd_posR hb)) (Int.gcd_dvd_right a b), Int.gcd_ediv_gcd_ediv_gcd (by have := gcd_posR (a := a) hb; omega)⟩
theorem mkR_uniq {a b x y : Int} (hb : 0 < b) (hy : 0 < y) (g : Int.gcd x y = 1) (e : x * b = a * y) : mkR a b = (x, y) := by
 have h1 : Int.gcd (a * y) (b * y) = Int.gcd a b * y.natAbs := Int.gcd_mul_right a y b
 have h2 : Int.gcd (x * b) (y * b) = Int.gcd x y * b.natAbs := Int.gcd_mul_right x b y
 rw [e, Int.mul_comm y b, h1, g, Nat.one_mul] at h2
 have h3 : (Int.gcd a b : Int) * y = b := by
  have z : ((Int.gcd a b * y.natAbs : Nat) : Int) = (b.natAbs : Int) := congrArg _ h2
  rw [Int.natCast_mul, Int.natAbs_of_nonneg (by omega), Int.natAbs_of_nonneg (by omega)] at z
  exact z
 have gp := gcd_posR (a := a) hb
 have h4 : a = x * (Int.gcd a b : Int) := by
  have z : x * (Int.gcd a b : Int) * y = a * y := by rw [Int.mul_assoc, h3]; exact e
  exact (Int.eq_of_mul_eq_mul_right (by omega) z).symm
 unfold mkR
 generalize (Int.gcd a b : Int) = G at h3 h4 gp
 subst h4
 subst h3
 rw [Int.mul_ediv_cancel _ (by omega), Int.mul_ediv_cancel_left _ (by omega)]
theorem cop_left {a b c : Int} (h : Int.gcd a b = 1) (d : c ∣ a) : Int.gcd c b = 1 :=
 Int.gcd_eq_one_iff.mpr fun z h1 h2 => Int.gcd_eq_one_iff.mp h z (Int.dvd_trans h1 d) h2
theorem cop_right {a b c : Int} (h : Int.gcd a b = 1) (d : c ∣ b) : Int.gcd a c = 1 := by
 rw [Int.gcd_comm]
 exact cop_left (by rw [Int.gcd_comm]; exact h) d
theorem cop_mul {a b c : Int} (h : Int.gcd a b = 1) (k : Int.gcd a c = 1) : Int.gcd a (b * c) = 1 := by
 rw [Int.gcd_mul_right_right_of_gcd_eq_one h]; exact k
theorem cop_mulL {a b c : Int} (h : Int.gcd a c = 1) (k : Int.gcd b c = 1) : Int.gcd (a * b) c = 1 := by
 rw [Int.gcd_comm]
 exact cop_mul (by rw [Int.gcd_comm]; exact h) (by rw [Int.gcd_comm]; exact k)
theorem gcd_parts {a b : Int} (hb : 0 < b) : ∃ g x y : Int, (Int.gcd a b : Int) = g /\ 0 < g /\ a = g * x /\ b = g * y /\ Int.gcd x y = 1 := by
 have gp := gcd_posR (a := a) hb
 obtain ⟨x, hx⟩ := Int.gcd_dvd_left a b
 obtain ⟨y, hy⟩ := Int.gcd_dvd_right a b
 refine ⟨_, x, y, rfl, gp, hx, hy, ?_⟩
 have z := Int.gcd_ediv_gcd_ediv_gcd (i := a) (j := b) (by omega)
 have e1 : a / (Int.gcd a b : Int) = x := by
  conv => lhs; lhs; rw [hx]
  exact Int.mul_ediv_cancel_left _ (by omega)
 have e2 : b / (Int.gcd a b : Int) = y := by
  conv => lhs; lhs; rw [hy]
  exact Int.mul_ediv_cancel_left _ (by omega)
 rw [e1, e2] at z
 exact z
theorem pos_of {g y b : Int} (hb : 0 < b) (hg : 0 < g) (e : b = g * y) : 0 < y := by
 rcases Int.lt_or_le 0 y with h | h
 ·exact h
 ·have := Int.mul_le_mul_of_nonneg_left h (Int.le_of_lt hg)
  rw [Int.mul_zero] at this
  omega
def plusG (r q : R) : R :=
 let d : Int := (Int.gcd r.2 q.2 : Nat)
 let t := r.1 * (q.2 / d) + q.1 * (r.2 / d)
 let e : Int := (Int.gcd t d : Nat)
 (t / e, r.2 / d * (q.2 / e))
theorem plusG_eq {r q : R} (hr : Red r) (hq : Red q) : plusG r q = plusR r q := by
 obtain ⟨d, u, v, e0, dp, e1, e2, cuv⟩ := gcd_parts (a := r.2) hq.pos
 have up := pos_of hr.pos dp e1
 have vp := pos_of hq.pos dp e2
 obtain ⟨e, x, w, f0, ep, f1, f2, cxw⟩ := gcd_parts (a := r.1 * v + q.1 * u) dp
 have wp := pos_of dp ep f2
 have du : r.2 / d = u := by rw [e1]; exact Int.mul_ediv_cancel_left _ (by omega)
 have dv : q.2 / d = v := by rw [e2]; exact Int.mul_ediv_cancel_left _ (by omega)
 have te : (r.1 * v + q.1 * u) / e = x := by rw [f1]; exact Int.mul_ediv_cancel_left _ (by omega)
 have qe : q.2 / e = w * v := by rw [e2, f2, Int.mul_assoc]; exact Int.mul_ediv_cancel_left _ (by omega)
 have c1 : Int.gcd r.1 u = 1 := cop_right hr.cop ⟨d, by rw [e1, Int.mul_comm]⟩
 have c2 : Int.gcd q.1 v = 1 := cop_right hq.cop ⟨d, by rw [e2, Int.mul_comm]⟩
 have xd : x ∣ (r.1 * v + q.1 * u) := ⟨e, by rw [f1, Int.mul_comm]⟩
 have t1 : Int.gcd (r.1 * v + q.1 * u) u = 1 := by
  rw [Int.gcd_comm, Int.gcd_add_mul_right_right, Int.gcd_comm]
  exact cop_mulL c1 (by rw [Int.gcd_comm]; exact cuv)
 have t2 : Int.gcd (r.1 * v + q.1 * u) v = 1 := by
  rw [Int.add_comm, Int.gcd_comm, Int.gcd_add_mul_right_right, Int.gcd_comm]
  exact cop_mulL c2 cuv
 have cx : Int.gcd x (u * (w * v)) = 1 := cop_mul (cop_left t1 xd) (cop_mul cxw (cop_left t2 xd))
 have z : plusG r q = (x, u * (w * v)) := by
  unfold plusG
  simp only [e0, du, dv, f0, te, qe]
 rw [z]
 unfold plusR
 refine (mkR_uniq (Int.mul_pos hr.pos hq.pos) (Int.mul_pos up (Int.mul_pos wp vp)) cx ?_).symm
 have k : r.1 * q.2 + q.1 * r.2 = d * (e * x) := by
  rw [e1, e2, ← f1, Int.mul_add]
  rw [Int.mul_left_comm r.1 d v, Int.mul_left_comm q.1 d u]
 rw [k, e1, e2]
 have k2 : d * u * (d * v) = d * u * (e * w * v) := by rw [← f2]
 rw [k2]
 ac_rfl
def timesG (r q : R) : R :=
 let l : Int := (Int.gcd r.1 q.2 : Nat)
 let m : Int := (Int.gcd q.1 r.2 : Nat)
 (r.1 / l * (q.1 / m), r.2 / m * (q.2 / l))
theorem timesG_eq {r q : R} (hr : Red r) (hq : Red q) : timesG r q = timesR r q := by
 obtain ⟨l, a, b, e0, lp, e1, e2, cab⟩ := gcd_parts (a := r.1) hq.pos
 obtain ⟨m, c, d, f0, mp, f1, f2, ccd⟩ := gcd_parts (a := q.1) hr.pos
 have bp := pos_of hq.pos lp e2
 have dp := pos_of hr.pos mp f2
 have z : timesG r q = (a * c, d * b) := by
  unfold timesG
  simp only [e0, f0]
  rw [show r.1 / l = a by rw [e1]; exact Int.mul_ediv_cancel_left _ (by omega), show q.2 / l = b by rw [e2]; exact Int.mul_ediv_cancel_left _ (by omega),
   show q.1 / m = c by rw [f1]; exact Int.mul_ediv_cancel_left _ (by omega), show r.2 / m = d by rw [f2]; exact Int.mul_ediv_cancel_left _ (by omega)]
 have cad : Int.gcd a d = 1 := cop_left (cop_right hr.cop ⟨m, by rw [f2, Int.mul_comm]⟩) ⟨l, by rw [e1, Int.mul_comm]⟩
 have ccb : Int.gcd c b = 1 := cop_left (cop_right hq.cop ⟨l, by rw [e2, Int.mul_comm]⟩) ⟨m, by rw [f1, Int.mul_comm]⟩
 rw [z]
 unfold timesR
 refine (mkR_uniq (Int.mul_pos hr.pos hq.pos) (Int.mul_pos dp bp) (cop_mul (cop_mulL cad ccd) (cop_mulL cab ccb)) ?_).symm
 rw [e1, e2, f1, f2]
 ac_rfl
theorem pow_eq_red {r : R} (hr : Red r) : ∀ k : Nat, powR r k = (r.1 ^ k, r.2 ^ k)
 | 0 => by rw [Int.pow_zero, Int.pow_zero]; rfl
 | k + 1 => by
  show timesR (powR r k) r = _
  rw [pow_eq_red hr k]
  unfold timesR
  refine mkR_uniq (Int.mul_pos (Int.pow_pos hr.pos) hr.pos) (Int.pow_pos hr.pos) (Int.pow_gcd_pow_of_gcd_eq_one hr.cop) ?_
  rw [Int.pow_succ, Int.pow_succ]
end B
namespace B
open PySem L2 PyProof.Rows
def CQuoN (_ j : Int) : Prop := j ≠ 0 /\ j.natAbs < 2 ^ 4000
theorem op_quoN {X : Cx} : OpR X (binaryOp .FloorDiv) (rI CQuoN fun i j => .int (i.fdiv j)) := opI fun i j _ _ _ _ _ hc q => by
 have h1 : j ≠ 0 := hc.1
 have h2 : j.natAbs < 2 ^ 4000 := hc.2
 refine floordiv_int h1 q (.inl (PyProof.noPylong_of_log2 ?_))
 exact Nat.lt_trans ((Nat.log2_lt (show j.natAbs ≠ 0 by omega)).mpr h2) (by decide)
def mkS (a b : Int) : R := if b < 0 then mkR (-a) (-b) else mkR a b
theorem mkS_pos {a b : Int} (h : 0 < b) : mkS a b = mkR a b := by unfold mkS; rw [if_neg (by omega)]
theorem fdiv_pos {a g : Int} (h : 0 < g) : a.fdiv g = a / g := Int.fdiv_eq_ediv_of_nonneg a (by omega)
theorem fdiv_negg {a g : Int} (h : 0 < g) : a.fdiv (-g) = -a / g := by
 have e : a.fdiv (-g) = (-a).fdiv g := by
  have := Int.neg_fdiv_neg (-a) g
  rw [Int.neg_neg] at this
  exact this
 rw [e, fdiv_pos h]
theorem gcd_neg2 (a b : Int) : Int.gcd (-a) (-b) = Int.gcd a b := by simp [Int.gcd]
theorem gcd_posN {a b : Int} (hb : b ≠ 0) : 0 < (Int.gcd a b : Int) := by
 have h : Int.gcd a b ≠ 0 := fun z => hb (Int.gcd_eq_zero_iff.mp z).2
 omega
theorem gcd_big {a b : Int} (hb : b ≠ 0) (hz : b.natAbs < 2 ^ 4000) : ((Int.gcd a b : Nat) : Int).natAbs < 2 ^ 4000 := by
 have z : Int.gcd a b ≤ b.natAbs := Nat.le_of_dvd (by omega) (by have := Int.gcd_dvd_right a b; exact Int.natAbs_dvd_natAbs.mpr this)
 have e : ((Int.gcd a b : Nat) : Int).natAbs = Int.gcd a b := Int.natAbs_natCast _
 omega
theorem mkS_pos1 {a b : Int} (hb : 0 < b) : (a.fdiv (Int.gcd a b : Int), b.fdiv (Int.gcd a b : Int)) = mkS a b := by
 rw [mkS_pos hb, fdiv_pos (gcd_posR hb), fdiv_pos (gcd_posR hb)]; rfl
theorem mkS_neg1 {a b : Int} (hb : b < 0) : (a.fdiv (-(Int.gcd a b : Int)), b.fdiv (-(Int.gcd a b : Int))) = mkS a b := by
 have g := gcd_posN (a := a) (b := b) (by omega)
 unfold mkS
 rw [if_pos hb, fdiv_negg g, fdiv_negg g]
 unfold mkR
 rw [gcd_neg2]
theorem mkS_wf {n : Nat} {a b : Int} (hb : b ≠ 0) (h1 : a.natAbs < 2 ^ n) (h2 : b.natAbs < 2 ^ n) : Wf n (mkS a b) := by
 unfold mkS
 split
 ·exact mkR_wf (by omega) (by rw [Int.natAbs_neg]; exact h1) (by rw [Int.natAbs_neg]; exact h2)
 ·exact mkR_wf (by omega) h1 h2
def minusR (r q : R) : R := mkR (r.1 * q.2 - q.1 * r.2) (r.2 * q.2)
def overR (r q : R) : R := mkS (r.1 * q.2) (r.2 * q.1)
theorem over_wf {n m : Nat} {r q : R} (h : Wf n r) (k : Wf m q) (z : q.1 ≠ 0) : Wf (n + m) (overR r q) :=
 mkS_wf (Int.mul_ne_zero (by have := h.pos; omega) z) (mul_lt h.top k.bot) (mul_lt h.bot k.top)
structure Small (d : PyData) : Prop where
 sh : d.showable = true
 nd : d.hasDict = false
 sz : d.shown.length ≤ 5000
 dp : d.depth ≤ 8
theorem small_dR {r : R} {n : Nat} (h : Wf n r) (hn : n ≤ 1900) : Small (dR r) where
 sh := (dR_shows h hn).sh
 nd := rfl
 sz := by
  have a := len_of h.top hn
  have b := len_of h.bot hn
  have q := tupleText_len_le [(PyData.int r.1).shown, (PyData.int r.2).shown]
  have e : (dR r).shown = tupleText [(PyData.int r.1).shown, (PyData.int r.2).shown] := rfl
  rw [e]
  simp only [List.map_cons, List.map_nil, List.sum_cons, List.sum_nil, List.length_cons, List.length_nil] at q
  omega
 dp := by show max 0 (max 0 0) + 1 ≤ 8; decide
end B
namespace B
theorem mkR_cross {a b : Int} (hb : 0 < b) : (mkR a b).1 * b = a * (mkR a b).2 := by
 obtain ⟨g, x, y, _, gp, e1, e2, c⟩ := gcd_parts (a := a) hb
 have yp := pos_of hb gp e2
 have e : x * b = a * y := by rw [e1, e2]; ac_rfl
 rw [mkR_uniq hb yp c e]
 exact e
theorem mkS_spec {a b : Int} (hb : b ≠ 0) : Red (mkS a b) /\ (mkS a b).1 * b = a * (mkS a b).2 := by
 unfold mkS
 split
 ·rename_i h
  refine ⟨mkR_red (by omega), ?_⟩
  have z := mkR_cross (a := -a) (b := -b) (by omega)
  rw [Int.mul_neg, Int.neg_mul] at z
  exact Int.neg_inj.mp z
 ·exact ⟨mkR_red (by omega), mkR_cross (by omega)⟩
theorem mkS_uniq {a b x y : Int} (hb : b ≠ 0) (hy : 0 < y) (g : Int.gcd x y = 1) (e : x * b = a * y) : mkS a b = (x, y) := by
 unfold mkS
 split
 ·refine mkR_uniq (by omega) hy g ?_
  rw [Int.mul_neg, Int.neg_mul, e]
 ·exact mkR_uniq (by omega) hy g e
theorem over_eq {r q : R} (hr : Red r) (hq : q.1 ≠ 0) : timesR r (mkS q.2 q.1) = overR r q := by
 obtain ⟨hs, es⟩ := mkS_spec (a := q.2) hq
 have hp : 0 < r.2 * (mkS q.2 q.1).2 := Int.mul_pos hr.pos hs.pos
 have ht := mkR_red (a := r.1 * (mkS q.2 q.1).1) hp
 have et := mkR_cross (a := r.1 * (mkS q.2 q.1).1) hp
 unfold overR timesR
 generalize hS : mkS q.2 q.1 = s at hs es hp ht et ⊢
 generalize mkR (r.1 * s.1) (r.2 * s.2) = t at ht et ⊢
 refine (mkS_uniq (Int.mul_ne_zero (by have := hr.pos; omega) hq) ht.pos ht.cop ?_).symm
 have k : t.1 * (r.2 * q.1) * s.2 = r.1 * q.2 * t.2 * s.2 := by
  have a1 : t.1 * (r.2 * q.1) * s.2 = q.1 * (t.1 * (r.2 * s.2)) := by ac_rfl
  have a2 : r.1 * q.2 * t.2 * s.2 = r.1 * t.2 * (q.2 * s.2) := by ac_rfl
  rw [a1, et, a2, ← es]
  ac_rfl
 exact Int.eq_of_mul_eq_mul_right (by have := hs.pos; omega) k
theorem minus_eq (r q : R) : plusR r (-q.1, q.2) = minusR r q := by
 unfold plusR minusR
 rw [Int.neg_mul, ← Int.sub_eq_add_neg]
end B
namespace B
open PySem PySem.Spec L2 PyProof.Rows
section
variable {prog : Program} {w : World} {A : Around} {E : Value -> Shared -> Prop} {h : Heap} {g : Array GenState} {d : Drawn} {t : Nat} {os : OsState} {K : PySem.W.Frag}
variable {nm q : Str} {C N : Addr} {bs bm bmB : List Value} {hdct : Bool} {sn : List Str} {sub : List Value} {ab : Bool} {col : Option Bool} {dd : Option Addr} {k0 k1 k2 k3 k5 : Option Value} {bN newId initId : String}
theorem exc_typecall (F : ExcBaseFacts bN newId initId bmB) (T : OwnTail h bmB bm) {rest : List Value} {fI : Addr} {Q : Fin -> Shared -> Prop} (X : K.In h)
  (hC : h.get? C = some (excClassObj nm q C N bs bm hdct sn sub ab col dd k0 k1 k2 k3 k5 newId)) (hi : PySem.W.findIn K (.ref C) "__init__" = some (some (.ref fI))) (hf : PySem.W.typeIn K (.ref fI) = some (.type "function"))
  (hq : ∀ h' e, Heap.MadeExcOf h h' e (.ref C) rest -> wpAny (model prog w) A (call (.ref fI) (.ref e :: rest)) (fun r s' => r = .none /\ Q (.done (.ret (.ref e))) s') E ⟨h', g, d, t, os⟩) (hz : rest.length ≤ sizeLine) :
  wpAny (model prog w) A (Builtin.«type.__call__» ⟨.ref C :: rest, []⟩) Q E ⟨h, g, d, t, os⟩ := by
 repeat (first
  | with_reducible refine wpAny_loadPart_at hC ?_
  | with_reducible refine wpAny_madeBy_exc hC ?_
  | wp_step)
 refine codeAny_call_builtin_code (Code.quiet_builtin _ F.quiet)
  (wpAny_check_new_subT F T hC ?_)
 refine codeAny_exc_new_subT F T hC ?_ hz
 show wpAny _ _ _ _ _ _
 have up : ∀ b o, h.get? b = some o -> ((h.push { cls := .type "tuple", data := .seq rest.toArray }).push
   { cls := .ref C, data := .fields #[.ref h.objs.size, .none, .none, .none, .bool false, .none] }).get? b = some o := fun b o e =>
  Heap.get?_push_of_some _ (Heap.get?_push_of_some _ e)
 have hC₁ := up _ _ hC
 have X₁ := X.keeps up
 have hx : ((h.push { cls := .type "tuple", data := .seq rest.toArray }).push
   { cls := .ref C, data := .fields #[.ref h.objs.size, .none, .none, .none, .bool false, .none] }).get? (h.objs.size + 1) =
   some { cls := .ref C, data := .fields #[.ref h.objs.size, .none, .none, .none, .bool false, .none] } := by heap_get
 have hcC : (Value.ref C :: bm).contains (.ref C) = true := by simp
 unfold isInstance
 repeat (first
  | with_reducible refine wpAny_loadPart_at hx ?_
  | (with_reducible refine wpAny_isSubtype_exc hC₁ ?_
     rw [hcC])
  | wp_step)
 show wpAny _ _ (typeLookup (.ref C) _) _ _ _
 refine (PySem.W.looks_findIn X₁ hi) _ _ _ _ (fun _ _ e => e) ?_
 refine wpAny_holding (wpAny_bind ?_)
 refine (PySem.W.bind_fn X₁ _ hf) _ _ _ _ (fun _ _ e => e) ?_
 refine wpAny_bind (wpAny_mono (hq _ (h.objs.size + 1)
  ⟨up, Heap.get?_none_of_le (Nat.le_succ _), h.objs.size, hx, Heap.get?_none_of_le (Nat.le_refl _), ?_⟩) (fun r s' hr => ?_) fun _ _ y => y)
 ·exact Heap.get?_push_of_some _ (Heap.get?_push_at rfl rfl)
 ·obtain ⟨rfl, hQ⟩ := hr
  wp_walk
  exact hQ
theorem exc_call (F : ExcBaseFacts bN newId initId bmB) (T : OwnTail h bmB bm) {rest : List Value} {fI : Addr} {Q : Value -> Shared -> Prop} (X : K.In h)
  (hC : h.get? C = some (excClassObj nm q C N bs bm hdct sn sub ab col dd k0 k1 k2 k3 k5 newId)) (hi : PySem.W.findIn K (.ref C) "__init__" = some (some (.ref fI))) (hf : PySem.W.typeIn K (.ref fI) = some (.type "function"))
  (hq : ∀ h' e, Heap.MadeExcOf h h' e (.ref C) rest -> wpAny (model prog w) (A.under (.builtin "type.__call__" ⟨.ref C :: rest, []⟩)) (call (.ref fI) (.ref e :: rest)) (fun r s' => r = .none /\ Q (.ref e) s') E ⟨h', g, d, t, os⟩) (hz : rest.length ≤ sizeLine) :
  wpAny (model prog w) A (call (.ref C) rest) Q E ⟨h, g, d, t, os⟩ := by
 have f1 := tc_lookup
 have f2 := tc_bind (.ref C)
 have hT : (⟨h, g, d, t, os⟩ : Shared).TypeIs (.ref C) "type" := ⟨_, hC, rfl⟩
 refine wpAny_call (codeAny_of_tree ?_)
 show wpAny _ _ (callAny (.ref C) _) _ _ _
 repeat (any_goals (first
  | assumption
  | with_reducible refine wpAny_loadPart_at hC ?_
  | wp_step))
 refine ⟨rfl, ?_⟩
 refine codeAny_call_builtin_at (Code.quiet_builtin _ (by decide +kernel)) entry_typeCall
  (wpAny_check_type_call_sub hC (exc_typecall F T X hC hi hf (fun h' e hm => ?_) hz))
 exact hq h' e hm
end
def vMro : List Value := [.type "ValueError", .type "Exception", .type "BaseException", .type "object"]
structure ClsX (K : PySem.W.Frag) (C : Addr) (bm : List Value) : Prop where
 ob : ∃ nm q N bs hdct sn sub ab col dd k0 k1 k2 k3 k5, K.lookup C = some (excClassObj nm q C N bs bm hdct sn sub ab col dd k0 k1 k2 k3 k5 "ValueError.__new__")
 tl : ∀ h : Heap, K.In h -> OwnTail h vMro bm
 hd : PySem.W.hasDictIn K C = true
 sa : PySem.W.findIn K (.ref C) "__setattr__" = some (some (.builtin "object.__setattr__"))
theorem lets_by {h : Heap} {tl : List Value} (T : OwnTail h vMro tl) (self : Value) : refuseLoop self "__setattr__" tl = pure () := by
 induction T with
 | base => exact PySem.F.store_ValueError.passes self
 | own _ _ _ _ ih => rw [refuseLoop_ref]; exact ih
theorem clsX_cls {K : PySem.W.Frag} {C : Addr} {bm : List Value} (c : ClsX K C bm) : ∃ cd, PySem.W.clsIn K C = some cd /\ cd.mro = .ref C :: bm := by
 obtain ⟨nm, q, N, bs, hdct, sn, sub, ab, col, dd, k0, k1, k2, k3, k5, lk⟩ := c.ob
 unfold PySem.W.clsIn
 rw [lk]
 exact ⟨_, rfl, rfl⟩
section
variable {prog : Program} {w : World} {A : Around} {s : Shared} {K : PySem.W.Frag} {x C : Addr} {R : Result -> Shared -> Prop}
theorem store_err {ox : Obj} {od : Option Obj} {name : Str} {tk : Tok} {v : Value} {bm : List Value} (X : K.In s.heap) (I : PySem.W.InstAt s.heap x ox C od) (c : ClsX K C bm) (n : NoAttr K C name)
  (h : ∀ b, wpAny (model prog w) A.in1 (Builtin.ObjectAttr.storeInOwnDict (.ref x) (.ref C) (.str name tk) name v b) (fun fin s' => match fin with
   | .done f => R (.ok f) s'
   | .again c' => c'.quiet = true /\ codeAny (model prog w) A c' R s') (fun e s' => R (.error e) s') s) :
  codeAny (model prog w) A (.call (.builtin "object.__setattr__") ⟨[.ref x, .str name tk, v], []⟩) R s := by
 have sf := PySem.F.store_object
 obtain ⟨cd, hc, hm⟩ := clsX_cls c
 have T := c.tl _ X
 have hob : (Value.ref C :: bm).contains (.type "object") = true := by
  rw [List.contains_cons, T.hasType (X := "object") (b := true) (by decide +kernel), Bool.or_true]
 have isO : PySem.W.Looks (model prog w) s.heap (isInstance (.ref x) (.type "object")) true := by
  refine I.type.andThen (PySem.W.looks_mroIn X ?_)
  unfold PySem.W.mroIn
  rw [hc]
  show (if cd.mro.isEmpty = true then none else some (cd.mro.contains (.type "object"))) = some true
  rw [hm, hob]; rfl
 have ms : PySem.W.Looks (model prog w) s.heap (mroOf (.ref C)) (.ref C :: bm) := by
  rw [← hm]; exact (PySem.W.looks_clsIn X hc).andThen .now
 refine codeAny_call_builtin sf.slot.plain sf.entry (PySem.W.check_slot (i := "object.__setattr__") (owner := "object") (n := "__setattr__") sf.kind sf.split isO (sf.args _ _ _) ?_)
 rw [PySem.W.osa_eq, refuse_eq]
 refine wpAny_bind (wpAny_bind (I.type.here (wpAny_bind (ms.here ?_))))
 rw [refuseLoop_ref, lets_by T]
 refine wpAny_pure (wpAny_bind (I.type.here (wpAny_bind ((PySem.W.looks_findIn X n).here (wpAny_bind ?_)))))
 exact PySem.W.Looks.here (r := none) .now (h _)
end
def ExcO (a C : Addr) (dx : Option Addr) : Heap -> Prop := fun h => ∃ t : Addr, h.get? a = some { cls := .ref C, dict := dx, data := .fields #[.ref t, .none, .none, .none, .bool false, .none] }
def exO (a C : Addr) (dx : Option Addr) : HO := .ext (ExcO a C dx)
theorem exO_ok {P : Program} {w : World} {H : Hp} {h : Heap} {a C : Addr} {dx : Option Addr} (e : ExcO a C dx h) : ObjOk P w H h a (exO a C dx) :=
 ⟨e, let ⟨_, q⟩ := e; ⟨_, q⟩, fun _ _ ⟨t, q⟩ k => ⟨t, k _ q⟩⟩
def del (H : Hp) (a : Addr) : Hp := fun b => if b = a then none else H b
theorem del_same {H : Hp} {a : Addr} : del H a a = none := by unfold del; rw [if_pos rfl]
theorem del_ne {H : Hp} {a b : Addr} (h : b ≠ a) : del H a b = H b := by unfold del; rw [if_neg h]
section
variable {X : Cx} {pins : List (Addr × Obj)} {σ : L2.St} {H : Hp} {s : Shared} {a C : Addr} {dx : Option Addr}
theorem Inv.forget {φ : Heap -> Prop} (I : L2.Inv X pins σ H s) (e : H a = some (.ext φ)) (new : X.s₀.heap.get? a = none) : L2.Inv X pins σ (del H a) s := by
 have none_of : ∀ b, H b = none -> del H a b = none := fun b h => by
  by_cases z : b = a
  ·rw [z]; exact del_same
  ·rw [del_ne z]; exact h
 refine ⟨I.ok, I.os, I.bare, ⟨I.base.keep, I.base.slot, fun b o q n hx => none_of b (I.base.free b o q n hx), I.base.there, fun b xs q => ?_, fun b o u q => ?_, fun b ps q => ?_⟩, I.loc, I.cell, none_of _ I.free, fun x c q => none_of _ (I.freeC x c q), fun p hp => ?_, fun b o q => ?_, I.len⟩
 ·have z := I.base.tups b xs q
  rw [del_ne (fun k => by rw [k, e] at z; cases z)]; exact z
 ·have z := I.base.frzs b o u q
  rw [del_ne (fun k => by rw [k, e] at z; cases z)]; exact z
 ·obtain ⟨m, z⟩ := I.base.tbls b ps q
  exact ⟨m, by rw [del_ne (fun k => by rw [k, e] at z; cases z)]; exact z⟩
 ·obtain ⟨p1, p2, p3⟩ := I.pin p hp
  exact ⟨p1, none_of _ p2, p3⟩
 ·have nb : b ≠ a := fun z => by rw [z, del_same] at q; cases q
  rw [del_ne nb] at q
  refine (I.hok b o q).stay (fun c u _ z => z) (fun c z => ?_) (fun c xs z => ?_)
  ·rw [del_ne (fun k => by rw [k, e] at z; cases z)]; exact z
  ·rw [del_ne (fun k => by rw [k, e] at z; cases z)]; exact z
end
theorem ObjOk.get {P : Program} {w : World} {H : Hp} {h : Heap} {a : Addr} {o : HO} (x : L2.ObjOk P w H h a o) : ∃ u, h.get? a = some u := by
 cases o with
 | lst xs => obtain ⟨_, _, _, _, e⟩ := x; exact ⟨_, e⟩
 | tup xs => obtain ⟨_, _, _, o, e, _⟩ := x; exact ⟨_, e⟩
 | dK kvs => obtain ⟨_, _, _, _, o, _, _, e, _⟩ := x; exact ⟨_, e⟩
 | dT kvs => obtain ⟨_, _, _, _, o, _, _, e, _⟩ := x; exact ⟨_, e⟩
 | set S n => obtain ⟨o, _, _, _, e, _⟩ := x; exact ⟨_, e⟩
 | ins C dx fs => obtain ⟨_, _, _, e, _⟩ := x; exact ⟨_, e⟩
 | own y => exact x
 | xd fs => obtain ⟨_, ⟨_, _, _, e, _⟩, _⟩ := x; exact ⟨_, e⟩
 | rng lo hi => obtain ⟨_, _, _, e⟩ := x; exact ⟨_, e⟩
 | frz ob u => obtain ⟨e, _⟩ := x; exact ⟨_, e⟩
 | tbl ps => exact ⟨_, show h.get? a = some _ from x⟩
 | met f y => exact ⟨_, show h.get? a = some _ from x⟩
 | ext φ => exact x.2.1
def Trc (h : Heap) (H : Hp) (x C T : Addr) (a0 : Value) : Prop :=
 ∃ oe vs oT ts, h.get? x = some oe /\ oe.cls = .ref C /\ vs[0]? = some a0 /\ oe.data = .fields vs /\ vs[1]? = some (.ref T) /\ H T = none /\ T ≠ x /\ h.get? T = some oT /\ oT.data = .fields ts /\ ts[3]? = some .none
def CXR (P : Program) (w : World) : CXT := fun outer H s E e s' => ∃ (x C T : Addr) (a0 : Value) (H' : Hp), e = .ref x /\ s'.os = s.os /\ AllBare s'.gens /\ Un (frs outer) [] H H' s.heap s'.heap /\ HOk P w H' s'.heap /\ s.heap.get? x = none /\ s.heap.get? T = none /\ H' x = none ∧
 Trc s'.heap H' x C T a0 /\ E (.ref C) none H'
structure NewAt (X : Cx) (pins : List (Addr × Obj)) (a : Addr) : Prop where
 st : X.s₀.heap.get? a = none
 lo : a ≠ X.env.locals
 ce : ∀ x c, X.env.cells.lookup x = some c -> c ≠ a
 pi : ∀ p ∈ X.pn ++ pins, p.1 ≠ a
 fr : a ∉ frs X.stack
section
variable {X : Cx} {pins : List (Addr × Obj)} {σ : L2.St} {H H' : Hp} {s : Shared} {a : Addr}
theorem Inv.newAt (I : L2.Inv X pins σ H s) (hex : X.ex = []) (h : s.heap.get? a = none) : NewAt X pins a where
 st := by
  cases e : X.s₀.heap.get? a with
  | none => rfl
  | some o =>
   obtain ⟨o', q⟩ := I.base.there a o e (by rw [hex]; simp)
   rw [h] at q; cases q
 lo := fun z => by
  obtain ⟨m, ⟨o, _, _, q, _⟩, _⟩ := I.loc
  rw [← z, h] at q; cases q
 ce := fun x c e z => by
  obtain ⟨v, o, q, _⟩ := I.cell x c e
  rw [z, h] at q; cases q
 pi := fun p hp z => by
  obtain ⟨q, _⟩ := I.pin p hp
  rw [z, h] at q; cases q
 fr := fun z => by
  obtain ⟨_, o, q, _⟩ := I.stack.mem z
  rw [h] at q; cases q
end
section
variable {X : Cx} {pins : List (Addr × Obj)} {σ : L2.St} {H : Hp} {s : Shared} {a : Addr} {o : HO}
theorem Inv.adopt (I : L2.Inv X pins σ H s) (na : NewAt X pins a) (ha : H a = none) (hex : X.ex = []) (new : L2.ObjOk X.prog X.w (upd H a o) s.heap a o) : L2.Inv X pins σ (upd H a o) s := by
 have keep : ∀ b u, H b = some u -> upd H a o b = some u := fun b u q => by rw [upd_ne (ne_of_none q ha)]; exact q
 have nn : ∀ b, b ≠ a -> H b = none -> upd H a o b = none := fun b nb q => by rw [upd_ne nb]; exact q
 refine ⟨I.ok, I.os, I.bare, ⟨I.base.keep, I.base.slot, fun b u q n hx => nn b (fun z => by rw [z, na.st] at q; cases q) (I.base.free b u q n hx), I.base.there, fun b xs q => keep _ _ (I.base.tups b xs q), fun b u v q => keep _ _ (I.base.frzs b u v q), fun b ps q => ?_⟩, I.loc, I.cell, nn _ na.lo.symm I.free, fun x c q => nn _ (na.ce x c q) (I.freeC x c q), fun p hp => ?_, fun b u q => ?_, I.len⟩
 ·obtain ⟨m, z⟩ := I.base.tbls b ps q
  exact ⟨m, keep _ _ z⟩
 ·obtain ⟨p1, p2, p3⟩ := I.pin p hp
  exact ⟨p1, nn _ (na.pi p hp) p2, p3⟩
 ·by_cases z : b = a
  ·subst z
   rw [upd_same] at q; cases q
   exact new
  ·rw [upd_ne z] at q
   exact (I.hok b u q).stay (fun c v _ w => w) (fun c w => keep _ _ w) (fun c xs w => keep _ _ w)
theorem Inv.none_of (I : L2.Inv X pins σ H s) (h : s.heap.get? a = none) : H a = none := by
 cases q : H a with
 | none => rfl
 | some o => obtain ⟨u, z⟩ := ObjOk.get (I.hok a o q); rw [h] at z; cases z
end
structure XC (K : PySem.W.Frag) (C f : Addr) (bm : List Value) : Prop where
 ob : ∃ nm q N bs hdct sn sub ab col dd k0 k1 k2 k3 k5, K.lookup C = some (excClassObj nm q C N bs bm hdct sn sub ab col dd k0 k1 k2 k3 k5 "ValueError.__new__")
 tl : ∀ h : Heap, K.In h -> OwnTail h vMro bm
 init : PySem.W.findIn K (.ref C) "__init__" = some (some (.ref f))
 fn : PySem.W.typeIn K (.ref f) = some (.type "function")
 kp : PySem.W.keepIn K (.ref C) = true
 cl : ClsX K C bm
section
variable {X : Cx} {k : Nat} {f C : Addr} {fd : FuncData} {ps : List Str} {sp : Sp} {bm : List Value}
theorem run_exc {pins : List (Addr × Obj)} {σ : L2.St} {H : Hp} {s : Shared} {Q : Addr -> Hp -> Prop} {us : List Value} {vs : List V} {E' : Value -> Shared -> Prop} (M : XC X.K C f bm) (hex : X.ex = []) (F : FnOk X.prog X.w X.K X.mg X.base CX0 k f fd ps sp) (hr : Room (k + 1) X.A) (hb : Binds X.K fd ps [])
  (I : L2.Inv X pins σ H s) (r : Vals vs us) (hz : us.length ≤ sizeLine) (h : ∀ a, H a = none -> sp (.ref a :: vs) (upd H a (exO a C none)) (fun v H2 => v = .non /\ Q a H2) E0) :
  wpAny (model X.prog X.w) X.A (call (.ref C) us) (fun v s' => ∃ a H', v = .ref a /\ NewAt X pins a /\ L2.Inv X pins σ H' s' /\ Q a H') E' s := by
 obtain ⟨nm, q, N, bs, hdct, sn, sub, ab, col, dd, k0, k1, k2, k3, k5, lk⟩ := M.ob
 obtain ⟨hp, g, d, t, os⟩ := s
 refine exc_call PySem.F.excBase_ValueError (M.tl hp I.kIn) I.kIn (I.kIn _ _ lk) M.init M.fn (fun h' e hm => ?_) hz
 have na := B.Inv.newAt I hex hm.new
 have he := B.Inv.none_of I hm.new
 obtain ⟨tt, ho, _⟩ := hm.there
 have I1 : L2.Inv X pins σ H ⟨h', g, d, t, os⟩ := I.kept (t' := t) hm.keeps
 have I2 : L2.Inv X pins σ (upd H e (exO e C none)) ⟨h', g, d, t, os⟩ := B.Inv.adopt I1 na he hex (exO_ok ⟨tt, ho⟩)
 have hq := h e he
 have r2 : Vals (V.ref e :: vs) (Value.ref e :: us) := .cons rfl r
 have hl : (Value.ref e :: us).length = ps.length := by
  have z := r2.length
  rw [F.len _ _ _ _ hq] at z
  exact z.symm
 have hbd := hb ⟨h', g, d, t, os⟩ (Value.ref e :: us) I2.kIn (by rw [List.append_nil]; exact hl)
 rw [List.append_nil] at hbd
 refine wpAny_call (codeAny_mono (F.run _ X.stack _ _ ⟨Value.ref e :: us, []⟩ (Value.ref e :: us) _ _ E0 (hr.make C us []) (I2.env0.make C us []) hbd r2 hq) fun r s' hq' => ?_)
 cases r with
 | error e => exact False.elim hq'
 | ok fl =>
  cases fl with
  | ret u =>
   obtain ⟨v, H', I3, rv, ev, q3⟩ := I2.after hq'
   subst ev
   exact ⟨rv, e, H', rfl, na, I3, q3⟩
  | next => exact False.elim hq'
  | brk => exact False.elim hq'
  | cont => exact False.elim hq'
def Takes (X : Cx) (E : XK) : Prop := ∀ (pins : List (Addr × Obj)) (σ : L2.St) (H : Hp) (s : Shared) (a C : Addr) (oe : Obj) (vs : Array Value) (a0 : Value), L2.Inv X pins σ H s -> H a = none -> NewAt X pins a -> s.heap.get? a = some oe -> oe.data = .fields vs →
 vs[0]? = some a0 -> vs[1]? = some .none -> oe.cls = .ref C -> E (.ref C) none H -> X.xe (.ref a) s
theorem raise_own {M : Model} {A : Around} {E : Value -> Shared -> Prop} {env : Env} {nm q : Str} {N : Addr} {bs : List Value} {hdct : Bool} {sn : List Str} {sub : List Value} {ab : Bool} {col : Option Bool} {dd : Option Addr} {k0 k1 k2 k3 k5 : Option Value} {newId : String}
  {s : Shared} {x : Sem Value} {Q : Flow -> Shared -> Prop} (hbase : bm.contains (.type "BaseException") = true) (hh : A.handled = none)
  (h : wpAny M A x (fun v s₁ => ∃ e t dx, v = .ref e /\ s₁.heap.get? C = some (excClassObj nm q C N bs bm hdct sn sub ab col dd k0 k1 k2 k3 k5 newId) ∧
   s₁.heap.get? e = some { cls := .ref C, dict := dx, data := .fields #[.ref t, .none, .none, .none, .bool false, .none] } /\ E (.ref e) s₁) E s) :
  wpAny M A (raiseStmt env (some x) none) Q E s := by
 have hcB : (Value.ref C :: bm).contains (.type "BaseException") = true := by rw [List.contains_cons, hbase, Bool.or_true]
 unfold raiseStmt
 refine wpAny_bind (wpAny_mono h (fun v s₁ h₁ => ?_) fun _ _ y => y)
 obtain ⟨e, t, dx, rfl, hC, he, hE⟩ := h₁
 obtain ⟨hp, g, d, tk, os⟩ := s₁
 repeat (first
  | with_reducible refine wpAny_loadPart_at he ?_
  | with_reducible refine wpAny_loadPart_at hC ?_
  | (with_reducible refine wpAny_isSubtype_exc hC ?_
     rw [hcB])
  | wp_step)
 exact wpAny_raiseNew_none hh hE
def tRaise (C : Addr) (sp : Sp) (E : XK) (t : TA) : TS := fun _ σ H => t σ H fun vs H1 => vs.length ≤ sizeLine /\ ∀ a, H1 a = none -> sp (.ref a :: vs) (upd H1 a (exO a C none)) (fun v H2 => v = .non /\ (∃ dx, H2 a = some (exO a C dx)) /\ E (.ref C) none (del H2 a)) E0
end
section
variable {X : Cx} {pins : List (Addr × Obj)} {σ : L2.St} {H : Hp} {s : Shared} {a C T : Addr} {a0 : Value}
end
def hid (N : List Str) : L2.St := List.replicate N.length none
theorem hid_weak {X : Cx} {pins : List (Addr × Obj)} {σ : L2.St} {H : Hp} {s : Shared} (I : L2.Inv X pins σ H s) : L2.Inv X pins (hid X.N) H s :=
 I.weak (by rw [I.len]; exact List.length_replicate) fun i v q => by
  unfold hid at q
  rw [List.getElem?_replicate] at q
  split at q <;> cases q
def Fly (X : Cx) (pins : List (Addr × Obj)) (R : Addr -> Hp -> Prop) : Value -> Shared -> Prop := fun e s => ∃ (x C T : Addr) (a0 : Value) (H : Hp), e = .ref x /\ L2.Inv X pins (hid X.N) H s /\ H x = none /\ NewAt X pins x /\ NewAt X pins T /\ Trc s.heap H x C T a0 /\ R C H
def inTry (X : Cx) (pins : List (Addr × Obj)) (R : Addr -> Hp -> Prop) : Cx := { X with pn := X.pn ++ pins, xe := Fly X pins R }
def inExc (X : Cx) (e : Addr) : Cx := { X with A := X.A.mark (some (.ref e)), calm := false, xe := fun _ _ => False }
section
variable {X : Cx} {pins pins' : List (Addr × Obj)} {σ : L2.St} {H : Hp} {s : Shared} {R : Addr -> Hp -> Prop} {e : Addr}
theorem toExc (I : L2.Inv X pins σ H s) : L2.Inv (inExc X e) pins σ H s :=
 ⟨⟨I.ok.mod, I.ok.kind, I.ok.glob, I.ok.blt, I.ok.above, I.ok.inj, I.ok.has, I.ok.cab, (fun z => nomatch z), I.ok.frames, I.ok.stk, I.ok.exf, I.ok.bs, I.ok.bsz, I.ok.noex, I.ok.exfs, I.ok.funs, I.ok.frf⟩, I.os, I.bare, I.base, I.loc, I.cell, I.free, I.freeC, I.pin, I.hok, I.len⟩
theorem ofExc (ok : X.Ok) (I : L2.Inv (inExc X e) pins σ H s) : L2.Inv X pins σ H s :=
 ⟨ok, I.os, I.bare, I.base, I.loc, I.cell, I.free, I.freeC, I.pin, I.hok, I.len⟩
end
def tTry (N : List Str) (R : Addr -> Hp -> Prop) (Ok : Addr -> Prop) (tb : TS) (th : TS) : TS := fun D σ H => tb D σ H /\ ∀ C H', R C H' -> Ok C /\ th D (hid N) H'
section
variable {X : Cx} {R : Addr -> Hp -> Prop} {body : List Stmt} {b₀ : Stmt} {suite : List Stmt} {x : Str} {p hpos pos : Pos} {u : Value} {tb th : TS}
end
section
variable {X : Cx} {o value : Expr} {f : Str} {ta tv : TE} {pos' pos : Pos}
def sFldX (K : PySem.W.Frag) (ta tv : TE) (f : Str) : TS := fun D σ H => tv σ H fun _ H1 => ta σ H1 fun x H2 => ∃ a C bm, x = .ref a /\ H2 a = some (exO a C none) /\ ClsX K C bm /\ NoAttr K C f /\ ∀ d, D.nx σ (upd H2 a (exO a C (some d)))
end
def EofR (R : Addr -> Hp -> Prop) : XK := fun v _ H => ∃ C, v = .ref C /\ R C H
theorem vm_has (a : Addr) : (Value.ref a :: vMro).contains (.type "BaseException") = true := by rw [List.contains_cons, (by decide +kernel : vMro.contains (.type "BaseException") = true), Bool.or_true]
def strKeysB (es : Array DictEntry) : Bool := es.toList.all fun e => match e.key with
 | .str _ _ => true
 | _ => false
theorem strKeys_of {es : Array DictEntry} (h : strKeysB es = true) : StrKeys es := fun e he => by
 have z := List.all_eq_true.mp h e (Array.mem_toList_iff.mpr he)
 revert z
 cases e.key <;> intro z <;> first | exact ⟨_, _, rfl⟩ | (cases z)
theorem xc_mk {K : PySem.W.Frag} {C f B0 NB : Addr} {nm q nmB qB : Str} {N : Addr} {bs bsB : List Value} {hdct hdctB : Bool} {sn snB : List Str} {sub subB : List Value} {ab abB : Bool} {col colB : Option Bool} {dd ddB : Option Addr} {k0 k1 k2 k3 k5 j0 j1 j2 j3 j5 : Option Value}
  {oc : Value} {od : Option Addr} {es : Array DictEntry} {n : Nat} {sl : Array (Option Value)}
  (lc : K.lookup C = some (excClassObj nm q C N bs (.ref B0 :: [.type "ValueError", .type "Exception", .type "BaseException", .type "object"]) hdct sn sub ab col dd k0 k1 k2 k3 k5 "ValueError.__new__"))
  (lb : K.lookup B0 = some (excClassObj nmB qB B0 NB bsB [.type "ValueError", .type "Exception", .type "BaseException", .type "object"] hdctB snB subB abB colB ddB j0 j1 j2 j3 j5 "ValueError.__new__"))
  (ln : K.lookup NB = some ⟨oc, od, .dict es n, sl⟩) (hs : strKeysB es = true) (hn : (nsFind es "__init__").isNone = true)
  (fi : PySem.W.findIn K (.ref C) "__init__" = some (some (.ref f))) (ti : PySem.W.typeIn K (.ref f) = some (.type "function")) (kc : PySem.W.keepIn K (.ref C) = true) (hh : PySem.W.hasDictIn K C = true) (sa : PySem.W.findIn K (.ref C) "__setattr__" = some (some (.builtin "object.__setattr__"))) : XC K C f (.ref B0 :: vMro) :=
 have ob : ∃ nm q N bs hdct sn sub ab col dd k0 k1 k2 k3 k5, K.lookup C = some (excClassObj nm q C N bs (.ref B0 :: vMro) hdct sn sub ab col dd k0 k1 k2 k3 k5 "ValueError.__new__") := ⟨_, _, _, _, _, _, _, _, _, _, _, _, _, _, _, lc⟩
 have tl : ∀ h : Heap, K.In h -> OwnTail h vMro (.ref B0 :: vMro) := fun h X => .own (X _ _ lb) ⟨_, es, n, X _ _ ln, rfl, strKeys_of hs, fun _ => rfl⟩ (Option.isNone_iff_eq_none.mp hn) .base
 ⟨ob, tl, fi, ti, kc, ob, tl, hh, sa⟩
structure GetX (K : PySem.W.Frag) (C : Addr) : Prop where
 ga : PySem.W.findIn K (.ref C) "__getattribute__" = some (some (.builtin "BaseException.__getattribute__"))
 gn : PySem.W.findIn K (.ref C) "__getattr__" = some none
 cl : PySem.W.findIn K (.ref C) "__class__" = some (some (.builtin "object.__class__"))
 cg : PySem.W.specialIn K (.builtin "object.__class__") "__get__" = some (some (.builtin "getset_descriptor.__get__"))
 ct : PySem.W.takesIn K (.builtin "object.__class__") = some true
section
variable {prog : Program} {w : World} {A : Around} {E : Value -> Shared -> Prop} {s : Shared} {K : PySem.W.Frag} {x C : Addr} {ox : Obj} {odo : Option Obj} {bm : List Value} {name : Str} {tk : Tok} {R : Result -> Shared -> Prop}
theorem err_open {fill ex : Bool} {Q : Value -> Shared -> Prop} (X : K.In s.heap) (I : PySem.W.InstAt s.heap x ox C odo) (g : GetX K C)
  (h : codeAny (model prog w) A (.call (.builtin "BaseException.__getattribute__") ⟨[.ref x, .str name tk], []⟩) (fun r s' => ∃ v, r = .ok (.ret v) /\ PySem.W.handedIn v = true /\ Q v s') s) :
  wpAny (model prog w) A (getAttrBy (.ref x) (.str name tk) fill ex) Q E s := by
 have FB := PySem.F.attrBase_ValueError
 unfold getAttrBy
 refine wpAny_holding (wpAny_bind (I.type.here (wpAny_bind ((PySem.W.looks_findIn X g.ga).here ?_))))
 have e2 : (Value.builtin "BaseException.__getattribute__" == Value.builtin "object.__getattribute__") = false := by decide +kernel
 dsimp only
 rw [e2, Bool.and_false, if_neg Bool.false_ne_true]
 unfold getAttrByItsOwn hookBefore
 rw [if_pos (show onTheHeap (Value.ref C) = true from rfl)]
 refine wpAny_bind ((PySem.W.looks_findIn X g.gn).here (wpAny_bind (wpAny_attempt (wpAny_holding ?_))))
 unfold callGetattribute
 rw [if_neg (by cases ex <;> decide)]
 unfold boundAndCalled
 rw [FB.ga.bind (.ref x)]
 refine wpAny_bind (wpAny_pure (wpAny_call (codeAny_mono h fun r s' hq => ?_)))
 obtain ⟨v, rfl, hh, q⟩ := hq
 exact PySem.W.handed_on hh q
theorem isB {X : K.In s.heap} (I : PySem.W.InstAt s.heap x ox C odo) (c : ClsX K C bm) (T : String) (hT : vMro.contains (.type T) = true) : PySem.W.Looks (model prog w) s.heap (isInstance (.ref x) (.type T)) true := by
 obtain ⟨cd, hc, hm⟩ := clsX_cls c
 have hob : (Value.ref C :: bm).contains (.type T) = true := by
  rw [List.contains_cons, (c.tl _ X).hasType (X := T) (b := true) hT, Bool.or_true]
 refine I.type.andThen (PySem.W.looks_mroIn X ?_)
 unfold PySem.W.mroIn
 rw [hc]
 show (if cd.mro.isEmpty = true then none else some (cd.mro.contains (.type T))) = some true
 rw [hm, hob]; rfl
theorem err_body (X : K.In s.heap) (I : PySem.W.InstAt s.heap x ox C odo) (c : ClsX K C bm)
  (h : wpAny (model prog w) A.in1 (Builtin.«object.__getattribute__» ⟨[.ref x, .str name tk], []⟩) (fun fin s' => match fin with
   | .done f => R (.ok f) s'
   | .again c' => c'.quiet = true /\ codeAny (model prog w) A c' R s') (fun e s' => R (.error e) s') s) :
  codeAny (model prog w) A (.call (.builtin "BaseException.__getattribute__") ⟨[.ref x, .str name tk], []⟩) R s := by
 have FB := PySem.F.attrBase_ValueError
 exact codeAny_call_builtin FB.ga.plain PySem.F.entry_bexc_ga (PySem.W.check_slot (i := "BaseException.__getattribute__") (owner := "BaseException") (n := "__getattribute__") (by decide +kernel) (by decide +kernel) (isB (X := X) I c "BaseException" (by decide +kernel)) (PySem.F.args_bexc_ga _ _) h)
theorem err_val {v : Value} (X : K.In s.heap) (I : PySem.W.InstAt s.heap x ox C odo) (c : ClsX K C bm) (hf : PySem.W.findObj K C odo name = some (.value v)) (h : R (.ok (.ret v)) s) :
  codeAny (model prog w) A (.call (.builtin "BaseException.__getattribute__") ⟨[.ref x, .str name tk], []⟩) R s := by
 refine err_body X I c ?_
 unfold Builtin.«object.__getattribute__»
 have L := PySem.W.looks_find (M := model prog w) X I hf
 refine wpAny_bind (wpAny_pure (wpAny_bind (wpAny_pure (wpAny_bind (I.type.here (wpAny_bind (L.here ?_)))))))
 exact wpAny_pure h
theorem err_class {od : Obj} (X : K.In s.heap) (I : PySem.W.InstAt s.heap x ox C (some od)) (c : ClsX K C bm) (g : GetX K C) (h : R (.ok (.ret (.ref C))) s) :
  codeAny (model prog w) A (.call (.builtin "BaseException.__getattribute__") ⟨[.ref x, .str "__class__" tk], []⟩) R s := by
 refine err_body X I c ?_
 unfold Builtin.«object.__getattribute__»
 obtain ⟨cd, hc, hm⟩ := clsX_cls c
 have hf := PySem.W.findObj_data (K := K) (C := C) (od := od) (name := "__class__") (by rw [hc]; rfl) g.cl g.cg g.ct
 have L := PySem.W.looks_find (M := model prog w) X I hf
 have mo : PySem.W.mroIn K C (.type "object") = some true := by
  unfold PySem.W.mroIn
  rw [hc]
  show (if cd.mro.isEmpty = true then none else some (cd.mro.contains (.type "object"))) = some true
  rw [hm, List.contains_cons, (c.tl _ X).hasType (X := "object") (b := true) (by decide +kernel), Bool.or_true]; rfl
 refine wpAny_bind (wpAny_pure (wpAny_bind (wpAny_pure (wpAny_bind (I.type.here (wpAny_bind (L.here ?_)))))))
 show wpAny _ _ (holding [Value.builtin "object.__class__"] (call (.builtin "getset_descriptor.__get__") [.builtin "object.__class__", .ref x, .ref C]) >>= ret) _ _ _
 exact wpAny_bind (wpAny_holding (wpAny_call (PySem.W.class_get X I mo (wpAny_pure h))))
end
section
variable {K : PySem.W.Frag} {x C : Addr} {ox od : Obj} {bm : List Value}
theorem kitx_err (c : ClsX K C bm) (g : GetX K C) : PySem.W.KitX K (.ref x) (.ref C) (fun h => PySem.W.InstAt h x ox C (some od)) where
 ty := fun _ _ _ I => I.type
 it := fun _ _ X _ => by
  obtain ⟨nm, q, N, bs, hdct, sn, sub, ab, col, dd, k0, k1, k2, k3, k5, lk⟩ := c.ob
  intro A' Q' E' s' k q
  unfold isType loadHead
  exact wpAny_bind (wpAny_loadPart (k _ _ (X _ _ lk)) (wpAny_pure q))
 ne := fun h tp dd its n sl X htp => by
  obtain ⟨nm, q, N, bs, hdct, sn, sub, ab, col, dd', k0, k1, k2, k3, k5, lk⟩ := c.ob
  refine Bool.eq_false_iff.mpr fun z => ?_
  have e : C = tp := Value.ref.inj (beq_iff_eq.mp z)
  subst e
  have z2 := congrArg Obj.cls (Option.some.inj ((X _ _ lk).symm.trans htp))
  exact absurd (show Value.type "type" = Value.type "tuple" from z2) (by decide +kernel)
 ca := fun {prog w A E Q s} X I k => by
  unfold getAttr? getAttrBy?
  refine wpAny_bind (wpAny_mkText (wpAny_bind (wpAny_attempt ?_)))
  exact err_open (s := { s with toks := s.toks + 1 }) X I g (err_class (s := { s with toks := s.toks + 1 }) X I c g ⟨_, rfl, rfl, wpAny_pure k⟩)
end
structure Kept (S ch : List Addr) (h h' : Heap) : Prop where
 same : ∀ b o, b ∉ S -> b ∉ ch -> h.get? b = some o -> h'.get? b = some o
 slot : ∀ b o, b ∉ ch -> h.get? b = some o -> ∃ sl, h'.get? b = some { o with slots := sl }
theorem Kept.trans {S c1 c2 : List Addr} {h h1 h2 : Heap} (a : Kept S c1 h h1) (b : Kept S c2 h1 h2) : Kept S (c1 ++ c2) h h2 where
 same := fun x o n1 n2 q => b.same x o n1 (fun z => n2 (List.mem_append_right _ z)) (a.same x o n1 (fun z => n2 (List.mem_append_left _ z)) q)
 slot := fun x o n2 q => by
  obtain ⟨sl, z⟩ := a.slot x o (fun z => n2 (List.mem_append_left _ z)) q
  obtain ⟨sl', z'⟩ := b.slot x _ (fun z => n2 (List.mem_append_right _ z)) z
  exact ⟨sl', z'⟩
theorem Kept.upd {S : List Addr} {h : Heap} {T : Addr} {f : Obj -> Obj} : Kept S [T] h (h.update T f) where
 same := fun b o _ n q => by rw [Heap.get?_update_other _ _ (fun z => n (by rw [z]; exact List.mem_singleton.mpr rfl))]; exact q
 slot := fun b o n q => ⟨o.slots, by rw [Heap.get?_update_other _ _ (fun z => n (by rw [z]; exact List.mem_singleton.mpr rfl))]; exact q⟩
def TrcD (h : Heap) (x C T : Addr) (dx : Option Addr) (fl : Value) : Prop :=
 ∃ oe vs oT ts, h.get? x = some oe /\ oe.cls = .ref C /\ oe.dict = dx /\ oe.data = .fields vs /\ vs[1]? = some (.ref T) /\ T ≠ x /\ h.get? T = some oT /\ oT.data = .fields ts /\ ts[3]? = some fl
section
variable {M : Model} {A : Around} {E : Value -> Shared -> Prop} {s : Shared} {base : Heap} {env : Env} {outer : List Env} {L e C T : Addr} {oe : Obj} {vs : Array Value} {dx : Option Addr} {fl : Value}
theorem dict_mapF (f : Array Value -> Array Value) (o : Obj) : (Obj.mapFields f o).dict = o.dict := by
 unfold Obj.mapFields; split <;> rfl
theorem entryD {hadNext : Bool} {head : Value} {Q : Unit -> Shared -> Prop} (hfr : A.frames = some (env :: outer)) (hl : s.heap.FunFrames base (env :: outer)) (hf : env.frame = some L)
  (he : s.heap.get? e = some oe) (hd : oe.data = .fields vs) (hsz : 1 < vs.size) (hc : oe.cls = .ref C) (hx : oe.dict = dx)
  (h : ∀ h' T, Kept (frs (env :: outer)) [e] s.heap h' -> s.heap.get? T = none -> TrcD h' e C T dx (rawInt L) -> Q () { s with heap := h' }) :
  wpAny M A (do let a ← frameOf env; let pl ← entryPlaceOf L hadNext; let b ← EntryCells.newEntry head a .none (rawInt L) .none pl; setField (.ref e) 1 b) Q E s := by
 have hene : e ∉ frs (env :: outer) := fun hm => by
  obtain ⟨_, o, ho, hnf⟩ := hl.mem hm
  rw [he] at ho; cases ho; exact hnf vs hd
 refine wpAny_bind (wpAny_frameOf_fun hfr hl hf fun h1 s1 => wpAny_bind (wpAny_entryPlaceOf fun pl hpl => ?_))
 unfold EntryCells.newEntry newFields
 refine wpAny_bind (wpAny_newObj_type ?_ (hpl.sizeOk5 _ _ _ _ _))
 have he1 : h1.get? e = some oe := (s1.2.1 e hene).trans he
 generalize hob : ({ cls := .type "traceback", dict := none, data := .fields ([head, .ref L, .none, rawInt L, .none] ++ (if pl.isEmpty then List.replicate 6 Value.none else pl)).toArray } : Obj) = ob
 have he2 := Heap.get?_push_of_some (h := h1) ob he1
 refine wpAny_setField he2 hd hsz (h _ h1.objs.size ⟨fun b o n1 n2 q => ?_, fun b o n2 q => ?_⟩ ?_ ?_)
 ·rw [Heap.get?_update_other _ _ (fun z => n2 (by rw [z]; exact List.mem_singleton.mpr rfl))]
  exact Heap.get?_push_of_some _ ((s1.2.1 b n1).trans q)
 ·obtain ⟨sl, z⟩ := s1.2.2 b o q
  refine ⟨sl, ?_⟩
  rw [Heap.get?_update_other _ _ (fun z => n2 (by rw [z]; exact List.mem_singleton.mpr rfl))]
  exact Heap.get?_push_of_some _ z
 ·exact Heap.get?_none_of_le (Nat.le_of_eq s1.1.symm)
 ·have nT : h1.objs.size ≠ e := Nat.ne_of_gt (Heap.lt_size he1)
  have d3 := Obj.data_mapFields hd (·.setIfInBounds 1 (Value.ref h1.objs.size))
  refine ⟨_, _, ob, _, Heap.get?_update_self _ he2 (Obj.isFreed_of_fields d3), (Obj.cls_mapFields _ _).trans hc, (dict_mapF _ _).trans hx, d3, by simp [hsz], nT, ?_, by rw [← hob], ?_⟩
  ·rw [Heap.get?_update_other _ _ (Ne.symm nT)]
   exact Heap.get?_push_size h1 (by rw [← hob]; rfl)
  ·first | (simp; done) | (rcases hpl with rfl | ⟨_, _, _, _, _, _, _, rfl⟩ <;> simp)
theorem flightD {Q : Unit -> Shared -> Prop} (t : TrcD s.heap e C T dx fl) (h : ∀ h', Kept [] [T] s.heap h' -> TrcD h' e C T dx .none -> Q () { s with heap := h' }) : wpAny M A (setFlight (.ref e) none) Q E s := by
 obtain ⟨oe, vs, oT, ts, q1, q2, q3, q4, q5, q6, q7, q8, q9⟩ := t
 have z3 : 3 < ts.size := (Array.getElem?_eq_some_iff.mp q9).1
 unfold setFlight
 refine wpAny_bind (wpAny_field q1 q4 q5 ?_)
 rw [if_pos (by simp)]
 refine wpAny_setField q7 q8 z3 (h _ Kept.upd ?_)
 have d3 := Obj.data_mapFields q8 (·.setIfInBounds 3 ((none : Option Addr).elim Value.none fun f => rawInt f))
 exact ⟨oe, vs, _, _, (Heap.get?_update_other _ _ q6).trans q1, q2, q3, q4, q5, q6, Heap.get?_update_self _ q7 (Obj.isFreed_of_fields d3), d3, by simp [z3]⟩
theorem note1 {Q : Unit -> Shared -> Prop} (hfr : A.frames = some (env :: outer)) (hl : s.heap.FunFrames base (env :: outer)) (hf : env.frame = some L) (he : s.heap.get? e = some oe) (hd : oe.data = .fields vs) (h1 : vs[1]? = some .none) (hc : oe.cls = .ref C) (hx : oe.dict = dx)
  (h : ∀ h' T, Kept (frs (env :: outer)) [e] s.heap h' -> s.heap.get? T = none -> TrcD h' e C T dx (rawInt L) -> Q () { s with heap := h' }) : wpAny M A (noteFrame (.ref e) env) Q E s := by
 unfold noteFrame
 simp only [hf]
 refine wpAny_bind (wpAny_field he hd h1 ?_)
 rw [if_neg (by decide)]
 exact entryD hfr hl hf he hd (Array.getElem?_eq_some_iff.mp h1).1 hc hx h
theorem noteN {Q : Unit -> Shared -> Prop} (hfr : A.frames = some (env :: outer)) (hl : s.heap.FunFrames base (env :: outer)) (hf : env.frame = some L) (t : TrcD s.heap e C T dx .none)
  (h : ∀ h' T', Kept (frs (env :: outer)) [T, e] s.heap h' -> s.heap.get? T' = none -> TrcD h' e C T' dx (rawInt L) -> Q () { s with heap := h' }) : wpAny M A (noteFrame (.ref e) env) Q E s := by
 obtain ⟨oe, vs, oT, ts, q1, q2, q3, q4, q5, q6, q7, q8, q9⟩ := t
 unfold noteFrame
 simp only [hf]
 refine wpAny_bind (wpAny_field q1 q4 q5 ?_)
 rw [if_pos (by simp)]
 refine wpAny_bind (wpAny_field q7 q8 q9 ?_)
 rw [if_neg (by simp [rawInt])]
 refine wpAny_bind (wpAny_setField q7 q8 (Array.getElem?_eq_some_iff.mp q9).1 ?_)
 have k1 : Kept (frs (env :: outer)) [T] s.heap (s.heap.update T (Obj.mapFields (·.setIfInBounds 3 Value.none))) := Kept.upd
 have nf : ∀ b o, s.heap.get? b = some o -> (∀ us, o.data ≠ .fields us) -> b ∉ [T] := fun b o hb hn z => by
  rw [List.mem_singleton.mp z, q7] at hb; cases hb; exact hn ts q8
 refine entryD (base := base) hfr (hl.of_keeps fun b o hb hn => ?_) hf ((Heap.get?_update_other _ _ q6).trans q1) q4 (Array.getElem?_eq_some_iff.mp q5).1 q2 q3 fun h' T' k nT t' => h h' T' (k1.trans k) ?_ t'
 ·obtain ⟨sl, z⟩ := k1.slot b o (nf b o hb hn) hb
  exact ⟨_, z, rfl⟩
 ·cases q : s.heap.get? T' with
  | none => rfl
  | some o =>
   exfalso
   by_cases z : T' = T
   ·have d3 := Obj.data_mapFields q8 (·.setIfInBounds 3 Value.none)
    rw [z, Heap.get?_update_self _ q7 (Obj.isFreed_of_fields d3)] at nT; cases nT
   ·rw [Heap.get?_update_other _ _ (Ne.symm z)] at nT; rw [q] at nT; cases nT
end
def DicO (d : Addr) (fs : List (Str × V)) : Heap -> Prop := fun h => ∃ mA, h.Ns1 d mA /\ ∀ f, RelO (fs.lookup f) (mA f)
def dO (d : Addr) (fs : List (Str × V)) : HO := .ext (DicO d fs)
theorem dO_ok {P : Program} {w : World} {H : Hp} {h : Heap} {d : Addr} {fs : List (Str × V)} (e : DicO d fs h) : ObjOk P w H h d (dO d fs) :=
 ⟨e, let ⟨_, ⟨_, _, _, q, _⟩, _⟩ := e; ⟨_, q⟩, fun _ _ ⟨mA, n, r⟩ k => ⟨mA, n.at k, r⟩⟩
theorem relO_none {a : Option V} {b : Option Value} (r : RelO a b) (h : b ≠ none) : a ≠ none := fun z => by
 subst z
 cases b with
 | none => exact h rfl
 | some _ => exact r.elim
theorem relO_cons {fs : List (Str × V)} {mA : Str -> Option Value} {f : Str} {y : V} {u : Value} (r : ∀ g, RelO (fs.lookup g) (mA g)) (q : RelV y u) : ∀ g, RelO (((f, y) :: fs).lookup g) (if g = f then some u else mA g) := fun g => by
 by_cases z : g = f
 ·subst z
  rw [if_pos rfl, List.lookup_cons_self]; exact q
 ·rw [if_neg z, List.lookup_cons, beq_eq_false_iff_ne.mpr z]; exact r g
theorem within_of {fs : List (Str × V)} {mA : Str -> Option Value} (r : ∀ g, RelO (fs.lookup g) (mA g)) : PySem.Within mA (fs.map (·.1)) := fun g hg => by
 have z := relO_none (r g) hg
 cases q : fs.lookup g with
 | none => exact absurd q z
 | some v =>
  obtain ⟨l1, l2, e, _⟩ := List.lookup_eq_some_iff.mp q
  rw [e]; simp
section
variable {X : Cx} {pins : List (Addr × Obj)} {σ : L2.St} {H : Hp} {s : Shared} {a C : Addr}
theorem setX1 {A : Around} {E : Value -> Shared -> Prop} {f : Str} {y : V} {u : Value} {bm : List Value} {Q : Unit -> Shared -> Prop} (hex : X.ex = []) (I : L2.Inv X pins σ H s) (e : H a = some (exO a C none)) (c : ClsX X.K C bm) (n : NoAttr X.K C f) (ry : RelV y u)
  (h : ∀ d s', H d = none -> d ≠ a -> L2.Inv X pins σ (upd (upd H a (exO a C (some d))) d (dO d [(f, y)])) s' -> Q () s') : wpAny (model X.prog X.w) A (setAttr (.ref a) f u) Q E s := by
 obtain ⟨t, hx⟩ := (show ObjOk X.prog X.w H s.heap a (exO a C none) from I.hok a _ e).1
 have J : PySem.W.InstAt s.heap a _ C none := ⟨hx, rfl, rfl, trivial⟩
 refine PySem.W.set_plain I.kIn J c.sa (store_err (s := { s with toks := s.toks + 1 }) I.kIn J c n fun b => ?_)
 obtain ⟨cd, hc, hd'⟩ := PySem.W.any_some c.hd
 refine wpAny_bind (wpAny_pure (wpAny_bind (wpAny_bind (wpAny_loadPart hx (wpAny_bind (PySem.W.Looks.here (s := { s with toks := s.toks + 1 }) (PySem.W.looks_clsIn I.kIn hc) ?_))))))
 rw [hd']
 show wpAny _ _ (alloc { cls := .type "dict", data := .dict #[] } >>= fun d => update a (fun o => { o with dict := some d }) >>= fun _ => dictMade (.ref C) a d) _ _ _
 have la : a < s.heap.objs.size := Heap.lt_size hx
 have nad : s.heap.objs.size ≠ a := Nat.ne_of_gt la
 have g1 := Heap.get?_push_of_some (h := s.heap) { cls := .type "dict", data := .dict #[] } hx
 refine wpAny_bind (wpAny_alloc (wpAny_bind (wpAny_update g1 ?_)))
 have g2 := Heap.get?_update_self (fun o => { o with dict := some s.heap.objs.size }) g1 rfl
 have e1 : ((s.heap.push { cls := .type "dict", data := .dict #[] }).update a fun o => { o with dict := some s.heap.objs.size }).get? s.heap.objs.size = some { cls := .type "dict", data := .dict #[] } := by
  rw [Heap.get?_update_other _ _ nad.symm]; exact Heap.get?_push_size s.heap rfl
 have e3 : ((s.heap.push { cls := .type "dict", data := .dict #[] }).update a fun o => { o with dict := some s.heap.objs.size }).Ns s.heap.objs.size (fun _ => none) :=
  ⟨_, #[], _, e1, rfl, (fun e he => absurd he (by simp)), fun _ => rfl⟩
 have keep : ∀ b o, b ≠ a -> s.heap.get? b = some o -> ((s.heap.push { cls := .type "dict", data := .dict #[] }).update a fun o => { o with dict := some s.heap.objs.size }).get? b = some o := fun b o nb q => by
  rw [Heap.get?_update_other _ _ (Ne.symm nb)]; exact Heap.get?_push_of_some _ q
 refine wpAny_pure (a := some s.heap.objs.size) (wpAny_bind (wpAny_pure (wpAny_bind ?_)))
 refine wpAny_nsSet1 (Heap.Ns1.of_empty e3) fun h' hn2 hs2 => ?_
 have rel : ∀ g, RelO ([(f, y)].lookup g) (if g = f then some u else none) := relO_cons (fs := []) (mA := fun _ => none) (fun _ => trivial) ry
 obtain ⟨oD, esD, epD, hoD, hdD, hcD⟩ := hn2.count (within_of rel)
 refine wpAny_bind (wpAny_lookBehind hoD (by rw [hdD]; exact pastItsLine_dict (Nat.le_trans hcD (Nat.le_add_left _ _))) ?_)
 have hno : s.heap.get? s.heap.objs.size = none := Heap.get?_none_of_le (Nat.le_refl _)
 have hH : H s.heap.objs.size = none := B.Inv.none_of I hno
 refine wpAny_pure (h s.heap.objs.size _ hH nad ?_)
 have ga : h'.get? a = some { cls := .ref C, dict := some s.heap.objs.size, data := .fields #[.ref t, .none, .none, .none, .bool false, .none] } := (hs2.2 a nad.symm).trans g2
 have I2 : L2.Inv X pins σ (upd H a (exO a C (some s.heap.objs.size))) { s with heap := h', toks := s.toks + 1 + 1 } := I.write (x := a) (e := a) (o := exO a C (some s.heap.objs.size)) (h' := h') (by rw [e]; trivial) (.inl rfl) (fun b o nb q => by
  have nb2 : b ≠ s.heap.objs.size := Nat.ne_of_lt (Heap.lt_size q)
  exact (hs2.2 b nb2).trans (keep b o nb q)) ⟨_, ga⟩ (exO_ok ⟨t, ga⟩)
 exact B.Inv.adopt I2 (B.Inv.newAt I hex hno) (by rw [upd_ne nad]; exact hH) hex (dO_ok ⟨_, hn2, rel⟩)
theorem setX2 {A : Around} {E : Value -> Shared -> Prop} {f : Str} {y : V} {u : Value} {bm : List Value} {d : Addr} {fs : List (Str × V)} {Q : Unit -> Shared -> Prop} (I : L2.Inv X pins σ H s) (e : H a = some (exO a C (some d))) (ed : H d = some (dO d fs)) (hl : fs.length ≤ 100) (c : ClsX X.K C bm) (n : NoAttr X.K C f) (ry : RelV y u)
  (h : ∀ s', L2.Inv X pins σ (upd H d (dO d ((f, y) :: fs))) s' -> Q () s') : wpAny (model X.prog X.w) A (setAttr (.ref a) f u) Q E s := by
 obtain ⟨t, hx⟩ := (show ObjOk X.prog X.w H s.heap a (exO a C (some d)) from I.hok a _ e).1
 obtain ⟨mA, hn, rel0⟩ := (show ObjOk X.prog X.w H s.heap d (dO d fs) from I.hok d _ ed).1
 obtain ⟨od, _, _, hod, _⟩ := id hn
 have J : PySem.W.InstAt s.heap a _ C (some od) := ⟨hx, rfl, rfl, hod⟩
 refine PySem.W.set_plain I.kIn J c.sa (store_err (s := { s with toks := s.toks + 1 }) I.kIn J c n fun b => ?_)
 obtain ⟨cd, hc, hd'⟩ := PySem.W.any_some c.hd
 refine wpAny_bind (wpAny_pure (wpAny_bind (wpAny_bind (wpAny_loadPart hx (wpAny_bind (PySem.W.Looks.here (s := { s with toks := s.toks + 1 }) (PySem.W.looks_clsIn I.kIn hc) ?_))))))
 rw [hd']
 refine wpAny_pure (a := some d) (wpAny_bind (wpAny_pure (wpAny_bind ?_)))
 refine wpAny_nsSet1 (s := { s with toks := s.toks + 1 }) hn fun h' hn2 hs2 => ?_
 have rel := relO_cons (f := f) rel0 ry
 obtain ⟨oD, esD, epD, hoD, hdD, hcD⟩ := hn2.count (within_of rel)
 have hz : esD.size ≤ 101 := by rw [List.length_map, List.length_cons] at hcD; omega
 refine wpAny_bind (wpAny_lookBehind hoD (by rw [hdD]; exact pastItsLine_dict (Nat.le_trans hz (by decide))) ?_)
 refine wpAny_pure (h _ ?_)
 exact I.write (x := d) (e := d) (o := dO d ((f, y) :: fs)) (h' := h') (by rw [ed]; trivial) (.inl rfl) (fun b o nb q => (hs2.2 b nb).trans q) ⟨_, hoD⟩ (dO_ok ⟨_, hn2, rel⟩)
end
section
variable {X : Cx} {o value : Expr} {f : Str} {ta tv : TE} {pos' pos : Pos}
def sFldE (K : PySem.W.Frag) (ta tv : TE) (f : Str) : TS := fun D σ H => tv σ H fun y H1 => ta σ H1 fun x H2 => ∃ a C bm, x = .ref a /\ ClsX K C bm /\ NoAttr K C f ∧
 ((H2 a = some (exO a C none) /\ ∀ d, H2 d = none -> d ≠ a -> D.nx σ (upd (upd H2 a (exO a C (some d))) d (dO d [(f, y)]))) ∨
  ∃ d fs, H2 a = some (exO a C (some d)) /\ H2 d = some (dO d fs) /\ fs.length ≤ 100 /\ D.nx σ (upd H2 d (dO d ((f, y) :: fs))))
theorem ps_fldE (hex : X.ex = []) (ha : PE X o ta) (hv : PE X value tv) (hs : swapsWith value (some (.Attribute o f pos')) pos.line X.env = pure false) : PS X (.Assign [.Attribute o f pos'] value pos) (sFldE X.K ta tv f) := by
 intro pins s σ H D I h
 refine plainObj_wpAny_Assign_Attribute (thn (hv pins s σ H _ I h) fun u s1 ⟨y, H1, I1, ry, q⟩ => thn (ha pins s1 σ H1 _ I1 q) fun ov s2 ⟨x, H2, I2, rx, a, C, bm, ex, c, n, q2⟩ => ?_) hs
 subst ex
 obtain rfl : ov = Value.ref a := rx
 rcases q2 with ⟨ea, k⟩ | ⟨d, fs, ea, ed, hl, k⟩
 ·exact B.setX1 hex I2 ea c n ry fun d s' hd nd I' => ⟨σ, _, I', k d hd nd⟩
 ·exact B.setX2 I2 ea ed hl c n ry fun s' I' => ⟨σ, _, I', k⟩
end
theorem Kept.any {S ch : List Addr} {h h' : Heap} (k : Kept [] ch h h') : Kept S ch h h' := ⟨fun b o _ n q => k.same b o (fun z => by cases z) n q, k.slot⟩
section
variable {X : Cx} {pins : List (Addr × Obj)} {σ : L2.St} {H : Hp} {s : Shared} {a C T : Addr} {dx : Option Addr} {fl : Value}
theorem Inv.leftK {ch : List Addr} {h' : Heap} {tk : Nat} (I : L2.Inv X pins σ H s) (hch : ∀ b ∈ ch, H b = none /\ NewAt X pins b) (k : Kept (frs X.stack) ch s.heap h') : L2.Inv X pins σ H { s with heap := h', toks := tk } := by
 have trk : ∀ b o, H b = some o -> b ∉ frs X.stack /\ b ∉ ch := fun b o q =>
  ⟨(fun z => by rw [I.stkFree b z] at q; cases q), (fun z => by rw [(hch b z).1] at q; cases q)⟩
 refine I.call' (s' := { s with heap := h', toks := tk }) (ch := ch) rfl ⟨fun b o q _ n1 n2 => k.same b o n1 n2 q, fun b o q _ n1 n2 => k.slot b o n2 q, fun b o _ n _ => n, fun b o q n2 => ?_, fun b xs q => q, fun b o u q => q, fun b ps q => ⟨#[], by rw [Array.append_empty]; exact q⟩⟩ (fun b o q => ?_) I.bare
  (fun b hb => ⟨.inr (hch b hb).2.st, (hch b hb).2.lo, (hch b hb).2.ce, (hch b hb).2.pi⟩)
 ·obtain ⟨sl, z⟩ := k.slot b o n2 q
  exact ⟨_, z⟩
 ·refine (I.hok b o q).stay (fun c u hc z => ?_) (fun c z => z) (fun c xs z => z)
  rcases hc with rfl | hc
  ·obtain ⟨n1, n2⟩ := trk _ _ q; exact k.same _ _ n1 n2 z
  ·obtain ⟨n1, n2⟩ := trk _ _ hc; exact k.same _ _ n1 n2 z
theorem noted1 {A : Around} {E' : Value -> Shared -> Prop} {Q : Shared -> Prop} {oe : Obj} {vs : Array Value} (hA : A.frames = X.A.frames) (I : L2.Inv X pins σ H s) (hex : X.ex = []) (hst : X.stack = X.env :: X.outer) (hfr : X.env.frame = some X.env.locals)
  (ha : H a = none) (na : NewAt X pins a) (hx : s.heap.get? a = some oe) (hd : oe.data = .fields vs) (h1 : vs[1]? = some .none) (hc : oe.cls = .ref C) (hdx : oe.dict = dx)
  (h : ∀ (s' : Shared) (T : Addr), L2.Inv X pins σ H s' -> NewAt X pins T -> H T = none -> TrcD s'.heap a C T dx .none -> Q s') :
  wpAny (model X.prog X.w) A (noteFrame (.ref a) X.env) (fun _ s2 => wpAny (model X.prog X.w) A (setFlight (.ref a) none) (fun _ s3 => Q s3) E' s2) E' s := by
 have hfrm : A.frames = some (X.env :: X.outer) := by rw [hA, I.ok.frames, hst]
 refine note1 (base := X.base) hfrm (by rw [← hst]; exact I.stack) hfr hx hd h1 hc hdx fun h1 T k1 nT t1 => ?_
 refine flightD (s := { s with heap := h1 }) t1 fun h2 k2 t2 => ?_
 have nt := B.Inv.newAt I hex nT
 have hT := B.Inv.none_of I nT
 rw [← hst] at k1
 refine h { s with heap := h2 } T (B.Inv.leftK (tk := s.toks) I (fun b hb => ?_) (k1.trans k2.any)) nt hT t2
 simp only [List.cons_append, List.nil_append, List.mem_cons, List.not_mem_nil, or_false] at hb
 rcases hb with rfl | rfl
 ·exact ⟨ha, na⟩
 ·exact ⟨hT, nt⟩
theorem notedN {A : Around} {E' : Value -> Shared -> Prop} {Q : Shared -> Prop} (hA : A.frames = X.A.frames) (I : L2.Inv X pins σ H s) (hex : X.ex = []) (hst : X.stack = X.env :: X.outer) (hfr : X.env.frame = some X.env.locals)
  (ha : H a = none) (na : NewAt X pins a) (hT : H T = none) (nT : NewAt X pins T) (t : TrcD s.heap a C T dx .none)
  (h : ∀ (s' : Shared) (T' : Addr), L2.Inv X pins σ H s' -> NewAt X pins T' -> H T' = none -> TrcD s'.heap a C T' dx .none -> Q s') :
  wpAny (model X.prog X.w) A (noteFrame (.ref a) X.env) (fun _ s2 => wpAny (model X.prog X.w) A (setFlight (.ref a) none) (fun _ s3 => Q s3) E' s2) E' s := by
 have hfrm : A.frames = some (X.env :: X.outer) := by rw [hA, I.ok.frames, hst]
 refine noteN (base := X.base) hfrm (by rw [← hst]; exact I.stack) hfr t fun h1 T' k1 nT' t1 => ?_
 refine flightD (s := { s with heap := h1 }) t1 fun h2 k2 t2 => ?_
 have nt := B.Inv.newAt I hex nT'
 have hT' := B.Inv.none_of I nT'
 rw [← hst] at k1
 refine h { s with heap := h2 } T' (B.Inv.leftK (tk := s.toks) I (fun b hb => ?_) (k1.trans k2.any)) nt hT' t2
 simp only [List.cons_append, List.nil_append, List.mem_cons, List.not_mem_nil, or_false] at hb
 rcases hb with rfl | rfl | rfl
 ·exact ⟨hT, nT⟩
 ·exact ⟨ha, na⟩
 ·exact ⟨hT', nt⟩
theorem flownN {A : Around} {E' : Value -> Shared -> Prop} {Q : Shared -> Prop} (I : L2.Inv X pins σ H s) (hT : H T = none) (nT : NewAt X pins T) (t : TrcD s.heap a C T dx .none)
  (h : ∀ (s' : Shared), L2.Inv X pins σ H s' -> TrcD s'.heap a C T dx .none -> Q s') : wpAny (model X.prog X.w) A (setFlight (.ref a) none) (fun _ s3 => Q s3) E' s := by
 refine flightD t fun h2 k2 t2 => h _ (B.Inv.leftK (tk := s.toks) I (fun b hb => ?_) k2.any) t2
 rw [List.mem_singleton.mp hb]; exact ⟨hT, nT⟩
end
def CXD (P : Program) (w : World) : CXT := fun outer H s E e s' => ∃ (x C T : Addr) (dx : Option Addr) (H' : Hp), e = .ref x /\ s'.os = s.os /\ AllBare s'.gens /\ Un (frs outer) [] H H' s.heap s'.heap /\ HOk P w H' s'.heap /\ s.heap.get? x = none /\ s.heap.get? T = none /\ H' x = none /\ H' T = none ∧
 TrcD s'.heap x C T dx .none /\ E (.ref C) dx H'
section
variable {P : Program} {w : World} {K : PySem.W.Frag} {mg : Str -> Option Value} {base : Heap} {N : List Str} {qual : Str} {scope : Scope} {f : Addr} {cd : Value} {A : Around} {outer : List Env} {s : Shared} {H : Hp} {E : XK}
def TakesD (X : Cx) (E : XK) : Prop := ∀ (pins : List (Addr × Obj)) (σ : L2.St) (H : Hp) (s : Shared) (a C : Addr) (dx : Option Addr) (oe : Obj) (vs : Array Value), L2.Inv X pins σ H s -> H a = none -> NewAt X pins a -> s.heap.get? a = some oe -> oe.data = .fields vs →
 vs[1]? = some .none -> oe.cls = .ref C -> oe.dict = dx -> E (.ref C) dx H -> X.xe (.ref a) s
theorem takesD : TakesD (cxOf (CXD P w) P w K mg base N qual scope f cd A outer s H E) E := by
 intro pins σ H1 s1 a C dx oe vs I ha na hx hd h1 hc hdx hE
 show wpAny (model P w) _ (leaving _ _) _ _ s1
 unfold leaving
 refine wpAny_bind (noted1 rfl I rfl rfl rfl ha na hx hd h1 hc hdx fun s3 T' I3 nT' hT' tr' => ?_)
 exact ⟨a, C, T', dx, H1, rfl, I3.os, I3.bare, I3.base, I3.hok, na.st, nT'.st, ha, hT', tr', hE⟩
theorem Fun.okD {x : Str} {st : Stmt} {fd : FuncData} {ps : List Str} {k : Nat} {sp : Sp} (F : Fun K x qual st f fd) (S : FnScope N ps (defScope st)) (len : ∀ vs H Q E, sp vs H Q E -> vs.length = ps.length)
  (hbody : ∀ (cdv : Value) (A : Around) (outer : List Env) (s : Shared) (H : Hp) (vs : List V) (Q : VK) (E : XK), Room k (A.deeper (envOfC qual (defScope st) s.heap.objs.size f cdv)) -> sp vs H Q E →
   ∃ t, PSs (cxOf (CXD P w) P w K mg base N qual (defScope st) f cdv A outer s H E) (defBody st) t /\ t { nx := fun _ H' => Q .non H', rt := Q } (start N vs) H) : FnOk P w K mg base (CXD P w) (k + 1) f fd ps sp := by
 obtain ⟨oc, od, kV, doc, pm, an, cdv, ct, osl, rfl, lk, hcd⟩ := F.ex
 exact fn_of lk hcd S len fun A outer s H vs Q E hr hsp => hbody cdv A outer s H vs Q E hr hsp
end
section
variable {X : Cx} {k : Nat} {f C : Addr} {fd : FuncData} {ps : List Str} {sp : Sp} {bm : List Value}
def tRaiseD (C : Addr) (sp : Sp) (E : XK) (t : TA) : TS := fun _ σ H => t σ H fun vs H1 => vs.length ≤ sizeLine /\ ∀ a, H1 a = none -> sp (.ref a :: vs) (upd H1 a (exO a C none)) (fun v H2 => v = .non /\ ∃ dx, H2 a = some (exO a C dx) /\ E (.ref C) dx (del H2 a)) E0
theorem ps_raiseD {x : Str} {p cpos pos : Pos} {e : Expr} {es : List Expr} {t : TA} {E : XK} (M : XC X.K C f bm) (hbase : bm.contains (.type "BaseException") = true) (hex : X.ex = []) (tk : TakesD X E) (F : FnOk X.prog X.w X.K X.mg X.base CX0 k f fd ps sp) (hr : Room (k + 1) X.A) (hb : Binds X.K fd ps [])
  (hg : Gl X x) (hm : X.mg x = some (.ref C)) (ha : PA X (e :: es) t) (hdb : (x == ("__debug__" : Str)) = false := by decide) (he : starEach (e :: es) X.env = (false, eval e X.env) :: starEach es X.env := by rfl) (hpl : (backTo cpos (starEach es X.env)).any (·.1) = false := by rfl) :
  PS X (.Raise (some (.Call (.Name x p) (e :: es) [] cpos)) none pos) (tRaiseD C sp E t) := by
 intro pins s σ H D I h
 obtain ⟨nm, q, N, bs, hdct, sn, sub, ab, col, dd, k0, k1, k2, k3, k5, lk⟩ := M.ob
 rw [arm_exec_Raise]
 refine wpAny_bind (wpAny_standAt (raise_own (C := C) (bm := bm) (nm := nm) (q := q) (N := N) (bs := bs) (hdct := hdct) (sn := sn) (sub := sub) (ab := ab) (col := col) (dd := dd) (k0 := k0) (k1 := k1) (k2 := k2) (k3 := k3) (k5 := k5) (newId := "ValueError.__new__") hbase hr.hd ?_))
 refine wpAny_bind (wpAny_mono (Q := fun v s' => ∃ a H', v = .ref a /\ NewAt X pins a /\ L2.Inv X pins σ H' s' /\ ∃ dx, H' a = some (exO a C dx) /\ E (.ref C) dx (del H' a)) ?_ (fun v s1 h1 => wpAny_bind (wpAny_standAt (wpAny_pure ?_))) fun _ _ y => y)
 ·refine wpAny_Call_Name_kw (ld_glob I hg hm ?_ hdb)
  refine PySem.W.callWith_K (h₀ := X.base) I.ok.mod.kin M.kp (thn (ha cpos pins s σ H _ I h) fun us s1 ⟨vs, H1, I1, r, hz, q⟩ => ⟨I1.kIn, ?_⟩) he hpl
  exact run_exc M hex F hr hb I1 (us := [] ++ us) r (by rw [List.nil_append, ← r.length]; exact hz) q
 ·obtain ⟨a, H', rfl, na, I1, dx, hx, hE⟩ := h1
  obtain ⟨tt, ho⟩ := (show L2.ObjOk X.prog X.w H' s1.heap a (exO a C dx) from I1.hok a _ hx).1
  exact ⟨a, tt, dx, rfl, I1.kIn _ _ lk, ho, tk pins σ (del H' a) s1 a C dx _ _ (B.Inv.forget I1 hx na.st) del_same na ho rfl rfl rfl rfl hE⟩
end
abbrev RX := Addr -> Option Addr -> Hp -> Prop
def FlyD (X : Cx) (pins : List (Addr × Obj)) (R : RX) : Value -> Shared -> Prop := fun e s => ∃ (x C T : Addr) (dx : Option Addr) (H : Hp), e = .ref x /\ L2.Inv X pins (hid X.N) H s /\ H x = none /\ NewAt X pins x /\ H T = none /\ NewAt X pins T /\ TrcD s.heap x C T dx .none /\ R C dx H
def inTryD (X : Cx) (pins : List (Addr × Obj)) (R : RX) : Cx := { X with pn := X.pn ++ pins, xe := FlyD X pins R }
section
variable {X : Cx} {pins pins' : List (Addr × Obj)} {σ : L2.St} {H : Hp} {s : Shared} {R : RX} {e : Addr}
theorem toTryD (I : L2.Inv X pins σ H s) : L2.Inv (inTryD X pins R) [] σ H s :=
 ⟨⟨I.ok.mod, I.ok.kind, I.ok.glob, I.ok.blt, I.ok.above, I.ok.inj, I.ok.has, I.ok.cab, I.ok.hd, I.ok.frames, I.ok.stk, I.ok.exf, I.ok.bs, I.ok.bsz, I.ok.noex, I.ok.exfs, I.ok.funs, I.ok.frf⟩, I.os, I.bare, I.base, I.loc, I.cell, I.free, I.freeC,
  fun p hp => I.pin p (by rw [List.append_nil] at hp; exact hp), I.hok, I.len⟩
theorem ofTryD (I : L2.Inv (inTryD X pins R) pins' σ H s) : L2.Inv X pins σ H s :=
 ⟨⟨I.ok.mod, I.ok.kind, I.ok.glob, I.ok.blt, I.ok.above, I.ok.inj, I.ok.has, I.ok.cab, I.ok.hd, I.ok.frames, I.ok.stk, I.ok.exf, I.ok.bs, I.ok.bsz, I.ok.noex, I.ok.exfs, I.ok.funs, I.ok.frf⟩, I.os, I.bare, I.base, I.loc, I.cell, I.free, I.freeC,
  fun p hp => I.pin p (List.mem_append_left _ hp), I.hok, I.len⟩
def EofD (R : RX) : XK := fun v dx H => ∃ C, v = .ref C /\ R C dx H
theorem passTD (hex : X.ex = []) : Passes (CXD X.prog X.w) (inTryD X pins R) (EofD R) := by
 intro pins' σ H1 s1 e s2 I hx
 obtain ⟨x, C, T, dx, H2, rfl, ho, hb, un, hok, nx, nT, hx2, hT2, tr, C', e', hr⟩ := hx
 cases e'
 have na := B.Inv.newAt I hex nx
 have nt := B.Inv.newAt I hex nT
 have I2 : L2.Inv (inTryD X pins R) pins' σ H2 s2 := I.call' ho un hok hb (fun b hb => by cases hb)
 exact ⟨x, C, T, dx, H2, rfl, hid_weak (ofTryD I2), hx2, ⟨na.st, na.lo, na.ce, fun p hp => na.pi p (List.mem_append_left _ hp), na.fr⟩, hT2, ⟨nt.st, nt.lo, nt.ce, fun p hp => nt.pi p (List.mem_append_left _ hp), nt.fr⟩, tr, hr⟩
theorem SP.ofTryD {D : Ends} {f : Flow} (h : SP (inTryD X pins R) [] D f s) : SP X pins D f s := by
 cases f with
 | next => obtain ⟨σ', H', I, q⟩ := h; exact ⟨σ', H', B.ofTryD I, q⟩
 | brk => obtain ⟨σ', H', I, q⟩ := h; exact ⟨σ', H', B.ofTryD I, q⟩
 | cont => obtain ⟨σ', H', I, q⟩ := h; exact ⟨σ', H', B.ofTryD I, q⟩
 | ret u => obtain ⟨v, σ', H', I, r, q⟩ := h; exact ⟨v, σ', H', B.ofTryD I, r, q⟩
end
theorem name_gone {X : Cx} {pins : List (Addr × Obj)} {σ : L2.St} {H : Hp} {s : Shared} {M : Model} {A : Around} {E : Value -> Shared -> Prop} {i : Nat} {x : Str} {pos : Pos} {Q : Unit -> Shared -> Prop} (I : L2.Inv X pins σ H s) (hN : X.N.Nodup) (hi : X.N[i]? = some x) (hk : X.env.scope.names.lookup x = some .local)
  (h : ∀ s', L2.Inv X pins (σ.set i none) H s' -> Q () s') : wpAny M A (do bindName X.env x .none; unbindBehindTheSuite X.env x pos) Q E s := by
 obtain ⟨m, hn, hl⟩ := id I.loc
 have hiσ : i < σ.length := by rw [I.len]; exact (List.getElem?_eq_some_iff.mp hi).1
 have lt : ∀ b o, X.s₀.heap.get? b = some o -> b ≠ X.env.locals := fun b o e => Nat.ne_of_lt (Nat.lt_of_lt_of_le (Heap.lt_size e) I.ok.above)
 refine wpAny_nameGoes_keeps hk hn (by rw [I.ok.kind]; rfl) fun h' v hn' hs => h _ ?_
 refine ⟨I.ok, I.os, I.bare, ⟨fun b o e n hb hx => (hs.2 b (lt b o e)).trans (I.base.keep b o e n hb hx), fun b o e n hb hx => ?_, I.base.free, fun b o e hx => ?_, I.base.tups, I.base.frzs, I.base.tbls⟩, ⟨_, hn', fun j y v' e1 e2 e3 => ?_⟩, fun y c e => ?_, I.free, I.freeC, fun p hp => ?_, fun b ob e => ?_, by simpa using I.len⟩
 ·obtain ⟨sl, e1⟩ := I.base.slot b o e n hb hx
  exact ⟨sl, (hs.2 b (lt b o e)).trans e1⟩
 ·obtain ⟨o', e1⟩ := I.base.there b o e hx
  exact ⟨o', (hs.2 b (lt b o e)).trans e1⟩
 ·have hj : j ≠ i := fun z => by subst z; rw [List.getElem?_set_self hiσ] at e2; cases e2
  rw [List.getElem?_set_ne (Ne.symm hj)] at e2
  obtain ⟨u', r', q⟩ := hl j y v' e1 e2 e3
  refine ⟨u', r', ?_⟩
  rcases q with ⟨k, e⟩ | ⟨k, c, e, z⟩
  ·refine .inl ⟨k, ?_⟩
   have ny : y ≠ x := fun e => hj (nodup_ix hN e1 (e ▸ hi))
   show (if y = x then v else m y) = some u'
   rw [if_neg ny]; exact e
  ·exact .inr ⟨k, c, e, z.sameBut hs (I.cne y c e)⟩
 ·obtain ⟨w', z⟩ := I.cell y c e
  exact ⟨w', z.sameBut hs (I.cne y c e)⟩
 ·obtain ⟨e, n, ne, nf, d⟩ := I.pin p hp
  exact ⟨(hs.2 p.1 ne).trans e, n, ne, nf, d⟩
 ·refine (I.hok b ob e).stay (fun c w' hc q => (hs.2 c ?_).trans q) (fun _ q => q) fun _ _ q => q
  rintro rfl
  rcases hc with rfl | hc
  ·rw [I.free] at e; cases e
  ·rw [I.free] at hc; cases hc
def ErO (a C d : Addr) : Heap -> Prop := fun h => ∃ oe, h.get? a = some oe /\ oe.cls = .ref C /\ oe.dict = some d /\ PySem.W.notCls oe = true
def erO (a C d : Addr) : HO := .ext (ErO a C d)
theorem erO_ok {P : Program} {w : World} {H : Hp} {h : Heap} {a C d : Addr} (e : ErO a C d h) : ObjOk P w H h a (erO a C d) :=
 ⟨e, let ⟨_, q, _⟩ := e; ⟨_, q⟩, fun _ _ ⟨o, q, r⟩ k => ⟨o, k _ q, r⟩⟩
theorem TrcD.er {h : Heap} {x C T d : Addr} {fl : Value} (t : TrcD h x C T (some d) fl) : ErO x C d h := by
 obtain ⟨oe, vs, oT, ts, q1, q2, q3, q4, _⟩ := t
 exact ⟨oe, q1, q2, q3, by unfold PySem.W.notCls; rw [q4]⟩
def gone (i : Nat) (D : Ends) : Ends := { nx := fun σ H => D.nx (σ.set i none) H, rt := D.rt, bk := fun σ H => D.bk (σ.set i none) H, ct := fun σ H => D.ct (σ.set i none) H }
def tTryD (N : List Str) (R : RX) (Ok : Addr -> Prop) (tb th : TS) : TS := fun D σ H => tb D σ H /\ ∀ C dx H', R C dx H' -> Ok C /\ th D (hid N) H'
def tTryAs (N : List Str) (i : Nat) (R : RX) (Ok : Addr -> Prop) (tb th : TS) : TS := fun D σ H => tb D σ H /\ ∀ C dx H', R C dx H' -> Ok C /\ ∃ d, dx = some d /\ ∀ a, H' a = none -> th (gone i D) ((hid N).set i (some (.ref a))) (upd H' a (erO a C d))
section
variable {X : Cx} {R : RX} {body : List Stmt} {b₀ : Stmt} {suite : List Stmt} {x : Str} {p hpos pos : Pos} {u : Value} {tb th : TS}
theorem typ_of {M : Model} {h : Heap} {a C T : Addr} {dx : Option Addr} {fl : Value} (t : TrcD h a C T dx fl) : PySem.W.Looks M h (typeOf (.ref a)) (.ref C) := by
 obtain ⟨oe, _, _, _, q1, q2, _⟩ := t
 rw [← q2]
 exact (PySem.W.Looks.ld q1).andThen .now
theorem ps_tryAs {i : Nat} {n : Str} (hex : X.ex = []) (hst : X.stack = X.env :: X.outer) (hfr : X.env.frame = some X.env.locals) (hg : Gl X x) (hm : X.mg x = some u) (hN : X.N.Nodup) (hi : X.N[i]? = some n) (hn : X.env.scope.names.lookup n = some .local)
  (hb : ∀ pins, PSs (inTryD X pins R) body tb) (hs : ∀ e, PSs (inExc X e) (b₀ :: suite) th) (hd : (x == ("__debug__" : Str)) = false := by decide) :
  PS X (.Try body [.ExceptHandler (some (.Name x p)) (some n) (b₀ :: suite) hpos] [] [] pos) (tTryAs X.N i R (fun C => PySem.W.exmOne X.K (.ref C) u = some true) tb th) := by
 intro pins s σ H D I ⟨h1, h2⟩
 refine wpAny_Try_except (wpAny_mono (hb pins [] s σ H D (toTryD I) h1) (fun f s1 q => ?_) fun e s1 q => ?_)
 ·have q' := SP.ofTryD q
  cases f with
  | next => exact wpAny_execs_nil q'
  | brk => exact q'
  | cont => exact q'
  | ret u => exact q'
 ·obtain ⟨a, C, T, dx, H1, rfl, I1, ha, na, hT, nT, tr, hR⟩ := q
  obtain ⟨hk, d, rfl, hth⟩ := h2 C dx H1 hR
  refine notedN rfl I1 hex hst hfr ha na hT nT tr fun s2 T2 I2 nT2 hT2 tr2 => ?_
  refine wpAny_handleBy_cons (codeAny_handlers_test ?_) (by intro z; cases z)
  refine ld_glob (X := inExc X a) (toExc I2) hg hm ?_ hd
  refine PySem.W.Looks.here (s := s2) (PySem.W.exm_one (M := model X.prog X.w) I2.kIn (typ_of tr2) hk) ?_
  refine codeAny_handlers_suite_as ?_
  refine flownN I2 hT2 nT2 tr2 fun s3 I3 tr3 => ?_
  have I4 : L2.Inv X pins (hid X.N) (upd H1 a (erO a C d)) s3 := B.Inv.adopt I3 na ha hex (erO_ok tr3.er)
  refine store_ok (X := inExc X a) (toExc I4) hN hi (.inl hn) (v := .ref a) (u := .ref a) rfl (fun s5 I5 => ?_) (.inr hn)
  refine wpAny_mono (hs a pins s5 _ _ (gone i D) I5 (hth a ha)) (fun f s6 q6 => ?_) fun _ _ z => z.elim
  cases f with
  | next => obtain ⟨σ', H', J, q⟩ := q6; exact name_gone (ofExc I.ok J) hN hi hn fun s' J' => ⟨_, _, J', q⟩
  | brk => obtain ⟨σ', H', J, q⟩ := q6; exact name_gone (ofExc I.ok J) hN hi hn fun s' J' => ⟨_, _, J', q⟩
  | cont => obtain ⟨σ', H', J, q⟩ := q6; exact name_gone (ofExc I.ok J) hN hi hn fun s' J' => ⟨_, _, J', q⟩
  | ret u => obtain ⟨v, σ', H', J, r, q⟩ := q6; exact name_gone (ofExc I.ok J) hN hi hn fun s' J' => ⟨v, _, _, J', r, q⟩
end
def rIsE (K : PySem.W.Frag) : List V -> Hp -> VK -> Prop := fun xs H Q => ∃ (a C d : Addr) (fs : List (Str × V)) (bm : List Value) (c : V) (b : Bool), xs = [.ref a, c] /\ H a = some (erO a C d) /\ H d = some (dO d fs) /\ ClsX K C bm /\ GetX K C ∧
 ((∃ n, c = .ty n /\ PySem.W.kitOne K (.ref C) (.type n) = some b) ∨ (∃ D, c = .ref D /\ PySem.W.kitOne K (.ref C) (.ref D) = some b) ∨
  ∃ (p : Addr) (cs : List Addr), c = .ref p /\ H p = some (.tup (cs.map V.ref)) /\ PySem.W.kitAny K (.ref C) (cs.map Value.ref) = some b) /\ Q (.bl b) H
theorem vals_refs : ∀ {cs : List Addr} {us : List Value}, Vals (cs.map V.ref) us -> us = cs.map Value.ref
 | [], _, .nil => rfl
 | c :: cs, _, .cons r q => by
  rw [List.map_cons, vals_refs q, (show _ = Value.ref c from r)]
theorem call_isE {X : Cx} : CallR X (.builtin "isinstance") (rIsE X.K) := by
 intro pins s σ H xs us Q I r h
 obtain ⟨a, C, d, fs, bm, c, b, rfl, ea, ed, cl, gx, k, q⟩ := h
 obtain ⟨u, u2, rfl, rx, ry⟩ := vals2 r
 obtain rfl : u = Value.ref a := rx
 obtain ⟨oe, h1, h2, h3, h4⟩ := (show ObjOk X.prog X.w H s.heap a (erO a C d) from I.hok a _ ea).1
 obtain ⟨mA, ⟨od, es, ep, h5, _⟩, _⟩ := (show ObjOk X.prog X.w H s.heap d (dO d fs) from I.hok d _ ed).1
 have J : PySem.W.InstAt s.heap a oe C (some od) := ⟨h1, h2, h4, by rw [h3]; exact h5⟩
 rcases k with ⟨n, rfl, e⟩ | ⟨D, rfl, e⟩ | ⟨p, cs, rfl, hp, e⟩
 ·obtain rfl : u2 = Value.type n := ry
  exact PySem.W.kia_one (kitx_err cl gx) I.kIn J e (fun z => nomatch z) fun tk => ⟨.bl b, H, I.tok tk, rfl, q⟩
 ·obtain rfl : u2 = Value.ref D := ry
  exact PySem.W.kia_one (kitx_err cl gx) I.kIn J e (fun z => nomatch z) fun tk => ⟨.bl b, H, I.tok tk, rfl, q⟩
 ·obtain rfl : u2 = Value.ref p := ry
  obtain ⟨_, its, rv, o, ho, hc, n, hd⟩ := (show ObjOk X.prog X.w H s.heap p (.tup (cs.map V.ref)) from I.hok p _ hp)
  rw [vals_refs rv] at hd
  obtain ⟨oc, odd, oda, osl⟩ := o
  dsimp only at hc hd
  subst hc; subst hd
  exact PySem.W.kia_tup (kitx_err cl gx) I.kIn J ho e (fun z => nomatch z) fun tk => ⟨.bl b, H, I.tok tk, rfl, q⟩
theorem call_isK {X : Cx} {K : PySem.W.Frag} (h : X.K = K) : CallR X (.builtin "isinstance") (rIsE K) := by
 subst h; exact call_isE
def IsErr (H : Hp) (a C d : Addr) : Prop := H a = some (erO a C d) ∨ H a = some (exO a C (some d))
section
variable {X : Cx} {pins : List (Addr × Obj)} {σ : L2.St} {H : Hp} {s : Shared} {a C d : Addr} {fs : List (Str × V)}
theorem IsErr.inst (I : L2.Inv X pins σ H s) (h : IsErr H a C d) (ed : H d = some (dO d fs)) : ∃ (oe od : Obj) (mA : Str -> Option Value), PySem.W.InstAt s.heap a oe C (some od) /\ (∀ name, PySem.W.lookIn name od = some (mA name)) /\ ∀ f, RelO (fs.lookup f) (mA f) := by
 obtain ⟨mA, hn, r⟩ := (show ObjOk X.prog X.w H s.heap d (dO d fs) from I.hok d _ ed).1
 obtain ⟨od, ho, hl⟩ := lookIn_ns hn
 rcases h with h | h
 ·obtain ⟨oe, h1, h2, h3, h4⟩ := (show ObjOk X.prog X.w H s.heap a (erO a C d) from I.hok a _ h).1
  exact ⟨oe, od, mA, ⟨h1, h2, h4, by rw [h3]; exact ho⟩, hl, r⟩
 ·obtain ⟨t, h1⟩ := (show ObjOk X.prog X.w H s.heap a (exO a C (some d)) from I.hok a _ h).1
  exact ⟨_, od, mA, ⟨h1, rfl, rfl, ho⟩, hl, r⟩
end
def tFldE (K : PySem.W.Frag) (ta : TE) (f : Str) : TE := fun σ H Q => ta σ H fun x H1 => ∃ a C d fs bm v, x = .ref a /\ IsErr H1 a C d /\ H1 d = some (dO d fs) /\ ClsX K C bm /\ GetX K C /\ NoAttr K C f /\ fs.lookup f = some v /\ Q v H1
theorem pe_fldE {X : Cx} {e : Expr} {f : Str} {pos : Pos} {ta : TE} {K : PySem.W.Frag} (hK : X.K = K) (he : PE X e ta) (hb : attributeBase e f X.env (eval e X.env) = eval e X.env) : PE X (.Attribute e f pos) (tFldE K ta f) := by
 subst hK
 intro pins s σ H Q I h
 refine attr_of hb (thn (he pins s σ H _ I h) fun u s1 ⟨x, H1, I1, rx, a, C, d, fs, bm, v, ex, ea, ed, c, g, n, l, q⟩ => ?_)
 subst ex
 obtain rfl : u = Value.ref a := rx
 obtain ⟨oe, od, mA, J, hl, r⟩ := IsErr.inst I1 ea ed
 obtain ⟨u', hu, ru⟩ := RelO.some_of (v := v) (o := mA f) (by rw [← l]; exact r f)
 unfold getAttr
 refine wpAny_bind (wpAny_mkText ?_)
 refine err_open (s := { s1 with toks := s1.toks + 1 }) I1.kIn J g ?_
 refine err_val (s := { s1 with toks := s1.toks + 1 }) I1.kIn J c (PySem.W.findObj_own c.hd n rfl (by rw [hl, hu])) ?_
 exact ⟨u', rfl, handed_of ru, v, H1, I1.tok _, ru, q⟩
def rIsX (K : PySem.W.Frag) : List V -> Hp -> VK -> Prop := fun xs H Q => ∃ (a C d : Addr) (fs : List (Str × V)) (bm : List Value) (c : V) (b : Bool), xs = [.ref a, c] /\ IsErr H a C d /\ H d = some (dO d fs) /\ ClsX K C bm /\ GetX K C ∧
 ((∃ n, c = .ty n /\ PySem.W.kitOne K (.ref C) (.type n) = some b) ∨ (∃ D, c = .ref D /\ PySem.W.kitOne K (.ref C) (.ref D) = some b) ∨
  ∃ (p : Addr) (cs : List Addr), c = .ref p /\ H p = some (.tup (cs.map V.ref)) /\ PySem.W.kitAny K (.ref C) (cs.map Value.ref) = some b) /\ Q (.bl b) H
def tMakeE (C : Addr) (sp : Sp) (t : TA) : TE := fun σ H Q => t σ H fun vs H1 => vs.length ≤ sizeLine /\ ∀ a, H1 a = none -> sp (.ref a :: vs) (upd H1 a (exO a C none)) (fun v H2 => v = .non /\ Q (.ref a) H2) E0
theorem turnedL {X : Cx} {pins : List (Addr × Obj)} {σ : L2.St} {H : Hp} {s : Shared} {h' : Heap} {t' : Nat} {fp : List Addr} (I : Inv X pins σ H s)
  (k : ∀ b o, b ∉ fp -> s.heap.get? b = some o -> h'.get? b = some o) (hf : ∀ b ∈ fp, FpOk X pins H b) : Inv X pins σ H { s with heap := h', toks := t' } := by
 have off : ∀ b u, H b = some u -> b ∉ fp := fun b u e z => by rw [(hf b z).1] at e; cases e
 refine I.step (g' := s.gens) (d' := s.drawn) (ch := fp) (fun b hb => ?_) (fun b o _ _ hc e _ => k b o hc e) (fun b o _ _ hc e _ => ⟨o.slots, k b o hc e⟩) (fun _ _ _ _ n => n)
  (fun b o hc e => ⟨o, k b o hc e⟩) (fun _ _ e => e) (fun _ _ _ e => e) (fun b ps e => ⟨#[], by rw [e]; simp⟩) (fun m hm => ?_) (fun b u e => ?_) I.bare
 ·obtain ⟨_, f1, _, f3, f4, f5⟩ := hf b hb
  exact ⟨f3, f1, f4, f5⟩
 ·obtain ⟨o, es, ep, ho, r⟩ := hm
  exact ⟨o, es, ep, k _ o (fun z => (hf _ z).2.1 rfl) ho, r⟩
 ·refine (I.hok b u e).stay (fun c v hc q => k c v ?_ q) (fun _ q => q) fun _ _ q => q
  rcases hc with z | z
  ·rw [z]; exact off b u e
  ·exact off c _ z
section
variable {prog : Program} {w : World} {A : Around} {E : Value -> Shared -> Prop} {s : Shared}
theorem nx_item {j t : Addr} {k : Nat} {ys : Array Value} {v : Value} {G : Value -> Shared -> Prop} (a : s.heap.IsTupleIter j t k) (b : s.heap.IsTuple t ys) (c : ys[k]? = some v)
  (g : ∀ h', h'.IsTupleIter j t (k + 1) -> Heap.SameBut j s.heap h' -> G v { s with heap := h' }) : wpAny (model prog w) A (Builtin.SmallTypes.nextOf (.ref j)) G E s := by
 obtain ⟨o, e1, e2, e3⟩ := id a
 obtain ⟨q, f1, _, n, f2⟩ := b
 unfold Builtin.SmallTypes.nextOf
 refine wpAny_bind (wpAny_callSpecial?_slot (name := Str.ofString "__next__") a.typeIs F.slot_tuple_iterator_next
  (wpAny_call_entry F.slot_tuple_iterator_next a.typeIs F.entry_tuple_iterator_next ?_ (F.args_tuple_iterator_next_1 _)))
 show wpAny (model prog w) _ (field (.ref j) 0 >>= _) _ _ s
 refine wpAny_bind (wpAny_field e1 e3 (x := .ref t) rfl ?_)
 show wpAny (model prog w) _ (if (Value.ref t == Value.none) = true then _ else _) _ _ s
 rw [if_neg (fun z => Bool.noConfusion z : ¬ ((Value.ref t == Value.none) = true))]
 show wpAny (model prog w) _ (field (.ref j) 1 >>= _) _ _ s
 refine wpAny_bind (wpAny_field e1 e3 (x := .int k 0) rfl ?_)
 show wpAny (model prog w) _ (seqItems? (.ref t) >>= _) _ _ s
 refine wpAny_bind (wpAny_seqItems f1 f2 ?_)
 simp only [c, Int.toNat_natCast]
 refine wpAny_bind (wpAny_setField e1 e3 (by simp) (wpAny_pure ⟨v, rfl, wpAny_pure (g _ ?_ (Heap.SameBut.update ..))⟩))
 refine ⟨_, Heap.get?_update_self _ e1 (Obj.isFreed_of_fields (Obj.data_mapFields e3 _)), (Obj.cls_mapFields ..).trans e2, ?_⟩
 rw [Obj.data_mapFields e3]; simp [rawInt]
theorem nx_end {j t : Addr} {k : Nat} {ys : Array Value} {G : Value -> Shared -> Prop} (hh : A.handled = none) (a : s.heap.IsTupleIter j t k) (b : s.heap.IsTuple t ys) (c : ys[k]? = none)
  (g : ∀ h' e, Heap.ExtBut j s.heap h' -> (∃ o, h'.get? e = some o /\ o.cls = .type "StopIteration") -> E (.ref e) { s with heap := h' }) : wpAny (model prog w) A (Builtin.SmallTypes.nextOf (.ref j)) G E s := by
 obtain ⟨o, e1, e2, e3⟩ := id a
 obtain ⟨q, f1, _, n, f2⟩ := b
 unfold Builtin.SmallTypes.nextOf
 refine wpAny_bind (wpAny_callSpecial?_slot (name := Str.ofString "__next__") a.typeIs F.slot_tuple_iterator_next
  (wpAny_call_entry F.slot_tuple_iterator_next a.typeIs F.entry_tuple_iterator_next ?_ (F.args_tuple_iterator_next_1 _)))
 show wpAny (model prog w) _ (field (.ref j) 0 >>= _) _ _ s
 refine wpAny_bind (wpAny_field e1 e3 (x := .ref t) rfl ?_)
 show wpAny (model prog w) _ (if (Value.ref t == Value.none) = true then _ else _) _ _ s
 rw [if_neg (fun z => Bool.noConfusion z : ¬ ((Value.ref t == Value.none) = true))]
 show wpAny (model prog w) _ (field (.ref j) 1 >>= _) _ _ s
 refine wpAny_bind (wpAny_field e1 e3 (x := .int k 0) rfl ?_)
 show wpAny (model prog w) _ (seqItems? (.ref t) >>= _) _ _ s
 refine wpAny_bind (wpAny_seqItems f1 f2 ?_)
 simp only [c, Int.toNat_natCast]
 refine wpAny_bind (wpAny_rule (wpAny_bind (wpAny_setField e1 e3 (by simp) ?_)))
 show wpAny (model prog w) _ (newExc (.type "StopIteration") [] >>= _) _ _ _
 refine wpAny_bind ?_
 simp only [newTuple, newExc]
 refine wpAny_bind (wpAny_newObj_type ?_ (by size_fits))
 refine wpAny_bind (m := firstArgMember _ _) (wpAny_of_eq (a := Value.none) (by first | rfl | (simp only [firstArgMember] <;> rfl)) ?_)
 refine wpAny_newObj_type ?_ (by size_fits)
 simp only [raiseNew]
 refine wpAny_bind (wpAny_handled ?_)
 first | rw [hh] | rw [show A.in1.handled = none from hh]
 refine wpAny_bind (wpAny_pure (wpAny_throw (g _ _ (((Heap.SameBut.update ..).extBut.push _).push _) ⟨_, Heap.get?_push_size _ rfl, rfl⟩)))
structure Five (z TI TO i1 i2 : Addr) : Prop where
 a1 : TI ≠ z
 a2 : TO ≠ z
 a3 : i1 ≠ z
 a4 : i2 ≠ z
 a5 : TI ≠ TO
 a6 : TI ≠ i1
 a7 : TI ≠ i2
 a8 : TO ≠ i1
 a9 : TO ≠ i2
 b1 : i1 ≠ i2
theorem zip_step {z TI TO i1 i2 : Addr} {x y a b : Value} {A1 A2 : Heap -> Prop} {G : Value -> Shared -> Prop} (D : Five z TI TO i1 i2)
  (hz : IsZip s.heap z TI TO .none) (hI : IsPair s.heap TI (.ref i1) (.ref i2)) (hO : IsPair s.heap TO a b)
  (N1 : ∀ (s' : Shared) (G : Value -> Shared -> Prop) (E : Value -> Shared -> Prop), (∀ c o, c ≠ z -> s.heap.get? c = some o -> s'.heap.get? c = some o) -> (∀ h', A1 h' -> Heap.SameBut i1 s'.heap h' -> G x { s' with heap := h' }) -> wpAny (model prog w) A (Builtin.SmallTypes.nextOf (.ref i1)) G E s')
  (N2 : ∀ (s' : Shared) (G : Value -> Shared -> Prop) (E : Value -> Shared -> Prop), (∀ c o, c ≠ z -> c ≠ TO -> c ≠ i1 -> s.heap.get? c = some o -> s'.heap.get? c = some o) -> (∀ h', A2 h' -> Heap.SameBut i2 s'.heap h' -> G y { s' with heap := h' }) -> wpAny (model prog w) A (Builtin.SmallTypes.nextOf (.ref i2)) G E s')
  (l1 : i1 < s.heap.objs.size) (l2 : i2 < s.heap.objs.size)
  (g : ∀ h₁ h₂ h', A1 h₁ -> A2 h₂ -> (∀ c o, c ≠ z -> c ≠ TO -> c ≠ i2 -> h₁.get? c = some o -> h'.get? c = some o) -> (∀ c o, c ≠ z -> c ≠ TO -> h₂.get? c = some o -> h'.get? c = some o) →
   IsZip h' z TI TO (rawInt s.heap.objs.size) -> IsPair h' TO x y -> IsPair h' s.heap.objs.size x y -> h'.objs.size = s.heap.objs.size + 1 →
   (∀ c o, c ∉ [z, TO, i1, i2] -> s.heap.get? c = some o -> h'.get? c = some o) -> G (.ref s.heap.objs.size) { s with heap := h' }) :
  wpAny (model prog w) A (Builtin.«zip.__next__» ⟨[.ref z], []⟩) (fun fin s' => ∃ v, fin = .done (.ret v) /\ G v s') E s := by
 show wpAny (model prog w) _ (field (.ref z) 2 >>= _) _ _ _
 refine wpAny_bind (wpAny_field hz rfl (x := .bool false) rfl ?_)
 show wpAny (model prog w) _ (field (.ref z) 3 >>= _) _ _ _
 refine wpAny_bind (wpAny_field hz rfl (x := .ref TI) rfl ?_)
 refine wpAny_bind (wpAny_seqItems hI rfl ?_)
 show wpAny (model prog w) _ (Builtin.SmallTypes.ownedTupleIsFree (.ref z) >>= _) _ _ _
 refine wpAny_bind ?_
 unfold Builtin.SmallTypes.ownedTupleIsFree
 refine wpAny_bind (wpAny_field hz rfl (x := .none) rfl (wpAny_pure ?_))
 simp only [if_true]
 refine wpAny_bind (wpAny_rule ?_)
 refine wpAny_bind (wpAny_field hz rfl (x := .ref TO) rfl ?_)
 refine wpAny_bind (wpAny_setField_rec hz (by simp) fun g1 z1 s1 => ?_)
 replace z1 : IsZip g1 z TI TO .ellipsis := z1
 refine wpAny_bind ?_
 simp only [List.zipIdx_nil, List.zipIdx_cons, List.forIn_nil, List.forIn_cons]
 refine wpAny_bind (wpAny_bind (wpAny_onRaise ?_))
 show wpAny (model prog w) _ (Builtin.SmallTypes.nextOf (.ref i1) >>= _) _ _ _
 refine wpAny_bind (N1 _ _ _ (fun c o n e => s1.extBut c o n e) fun g2 q1 s2 => wpAny_pure ?_)
 have O2 : IsPair g2 TO a b := s2.extBut _ _ D.a8 (s1.extBut _ _ D.a2 hO)
 refine wpAny_bind (wpAny_seqItems O2 rfl ?_)
 refine wpAny_bind (wpAny_updateSeq_pair O2 fun g3 O3 s3 => ?_)
 replace O3 : IsPair g3 TO x b := O3
 refine wpAny_bind (wpAny_letGo (wpAny_pure ?_))
 refine wpAny_bind (wpAny_bind (wpAny_onRaise ?_))
 show wpAny (model prog w) _ (Builtin.SmallTypes.nextOf (.ref i2) >>= _) _ _ _
 refine wpAny_bind (N2 _ _ _ (fun c o n m k e => s3.extBut _ _ m (s2.extBut _ _ k (s1.extBut c o n e))) fun g4 q2 s4 => wpAny_pure ?_)
 have O4 : IsPair g4 TO x b := s4.extBut _ _ D.a9 O3
 refine wpAny_bind (wpAny_seqItems O4 rfl ?_)
 refine wpAny_bind (wpAny_updateSeq_pair O4 fun g5 O5 s5 => ?_)
 replace O5 : IsPair g5 TO x y := O5
 refine wpAny_bind (wpAny_letGo (wpAny_pure (wpAny_pure ?_)))
 refine wpAny_bind (wpAny_seqItems O5 rfl ?_)
 refine wpAny_bind (wpAny_newTuple ?_)
 have sz : g5.objs.size = s.heap.objs.size := by rw [s5.1, s4.1, s3.1, s2.1, s1.1]
 have z5 : IsZip g5 z TI TO .ellipsis := s5.extBut _ _ D.a2.symm (s4.extBut _ _ D.a4.symm (s3.extBut _ _ D.a2.symm (s2.extBut _ _ D.a3.symm z1)))
 have zl : z < g5.objs.size := Heap.lt_size z5
 show wpAny (model prog w) _ (Builtin.SmallTypes.ownedTupleHandOut (.ref z) (.ref g5.objs.size) >>= _) _ _ _
 refine wpAny_bind ?_
 unfold Builtin.SmallTypes.ownedTupleHandOut
 have z6 : IsZip (g5.push { cls := .type "tuple", data := .seq #[x, y] }) z TI TO .ellipsis := Heap.get?_push_of_some _ z5
 refine wpAny_bind (wpAny_setField_rec z6 (by simp) fun g7 z7 s7 => ?_)
 replace z7 : IsZip g7 z TI TO (rawInt g5.objs.size) := z7
 refine wpAny_setField_rec z7 (by simp) fun g8 z8 s8 => ?_
 replace z8 : IsZip g8 z TI TO (rawInt g5.objs.size) := z8
 have up : ∀ c o, c ≠ z -> g5.get? c = some o -> g8.get? c = some o := fun c o n e => s8.extBut _ _ n (s7.extBut _ _ n (Heap.get?_push_of_some _ e))
 have t8 : IsPair g8 g5.objs.size x y := s8.extBut _ _ (Nat.ne_of_gt zl) (s7.extBut _ _ (Nat.ne_of_gt zl) (Heap.get?_push_size _ rfl))
 have sz8 : g8.objs.size = g5.objs.size + 1 := by rw [s8.1, s7.1, Heap.size_push]
 rw [sz] at z8 t8 sz8
 refine wpAny_pure ⟨_, rfl, ?_⟩
 show G (.ref g5.objs.size) _
 rw [sz]
 refine g g2 g4 g8 q1 q2 (fun c o n m k e => up c o n (s5.extBut _ _ m (s4.extBut _ _ k (s3.extBut _ _ m e)))) (fun c o n m e => up c o n (s5.extBut _ _ m e)) z8 (up _ _ D.a2 O5) t8 sz8 fun c o n e => ?_
 simp only [List.mem_cons, List.not_mem_nil, or_false, not_or] at n
 exact up c o n.1 (s5.extBut _ _ n.2.1 (s4.extBut _ _ n.2.2.2 (s3.extBut _ _ n.2.1 (s2.extBut _ _ n.2.2.1 (s1.extBut _ _ n.1 e)))))
theorem zip_stop {z TI TO i1 i2 : Addr} {a b : Value} {G : Fin -> Shared -> Prop} (D : Five z TI TO i1 i2)
  (hz : IsZip s.heap z TI TO .none) (hI : IsPair s.heap TI (.ref i1) (.ref i2)) (hO : IsPair s.heap TO a b)
  (N : (∀ (s' : Shared) (G : Value -> Shared -> Prop) (E : Value -> Shared -> Prop), (∀ c o, c ≠ z -> s.heap.get? c = some o -> s'.heap.get? c = some o) →
    (∀ h' e, Heap.ExtBut i1 s'.heap h' -> (∃ o, h'.get? e = some o /\ o.cls = .type "StopIteration") -> E (.ref e) { s' with heap := h' }) -> wpAny (model prog w) A (Builtin.SmallTypes.nextOf (.ref i1)) G E s') ∨
   ((∃ x, ∀ (s' : Shared) (G : Value -> Shared -> Prop) (E : Value -> Shared -> Prop), (∀ c o, c ≠ z -> s.heap.get? c = some o -> s'.heap.get? c = some o) -> (∀ h', Heap.SameBut i1 s'.heap h' -> G x { s' with heap := h' }) -> wpAny (model prog w) A (Builtin.SmallTypes.nextOf (.ref i1)) G E s') ∧
    ∀ (s' : Shared) (G : Value -> Shared -> Prop) (E : Value -> Shared -> Prop), (∀ c o, c ≠ z -> c ≠ TO -> c ≠ i1 -> s.heap.get? c = some o -> s'.heap.get? c = some o) →
    (∀ h' e, Heap.ExtBut i2 s'.heap h' -> (∃ o, h'.get? e = some o /\ o.cls = .type "StopIteration") -> E (.ref e) { s' with heap := h' }) -> wpAny (model prog w) A (Builtin.SmallTypes.nextOf (.ref i2)) G E s'))
  (g : ∀ h' e, (∀ c o, c ∉ [z, TO, i1, i2] -> s.heap.get? c = some o -> h'.get? c = some o) -> (∃ o, h'.get? e = some o /\ o.cls = .type "StopIteration") -> E (.ref e) { s with heap := h' }) :
  wpAny (model prog w) A (Builtin.«zip.__next__» ⟨[.ref z], []⟩) G E s := by
 show wpAny (model prog w) _ (field (.ref z) 2 >>= _) _ _ _
 refine wpAny_bind (wpAny_field hz rfl (x := .bool false) rfl ?_)
 show wpAny (model prog w) _ (field (.ref z) 3 >>= _) _ _ _
 refine wpAny_bind (wpAny_field hz rfl (x := .ref TI) rfl ?_)
 refine wpAny_bind (wpAny_seqItems hI rfl ?_)
 show wpAny (model prog w) _ (Builtin.SmallTypes.ownedTupleIsFree (.ref z) >>= _) _ _ _
 refine wpAny_bind ?_
 unfold Builtin.SmallTypes.ownedTupleIsFree
 refine wpAny_bind (wpAny_field hz rfl (x := .none) rfl (wpAny_pure ?_))
 simp only [if_true]
 refine wpAny_bind (wpAny_rule ?_)
 refine wpAny_bind (wpAny_field hz rfl (x := .ref TO) rfl ?_)
 refine wpAny_bind (wpAny_setField_rec hz (by simp) fun g1 z1 s1 => ?_)
 replace z1 : IsZip g1 z TI TO .ellipsis := z1
 refine wpAny_bind ?_
 simp only [List.zipIdx_nil, List.zipIdx_cons, List.forIn_nil, List.forIn_cons]
 refine wpAny_bind (wpAny_bind (wpAny_onRaise ?_))
 show wpAny (model prog w) _ (Builtin.SmallTypes.nextOf (.ref i1) >>= _) _ _ _
 rcases N with N | ⟨⟨x, N⟩, N'⟩
 ·refine wpAny_bind (N _ _ _ (fun c o n e => s1.extBut c o n e) fun g2 e s2 he => ?_)
  obtain ⟨oe, he, hc⟩ := he
  have z2 : IsZip g2 z TI TO .ellipsis := s2 _ _ D.a3.symm z1
  have ne : e ≠ z := fun q => by subst q; rw [z2] at he; cases he; simp at hc
  refine wpAny_setField_rec z2 (by simp) fun g3 _ s3 => g g3 e (fun c o n q => ?_) ⟨oe, s3.extBut _ _ ne he, hc⟩
  simp only [List.mem_cons, List.not_mem_nil, or_false, not_or] at n
  exact s3.extBut _ _ n.1 (s2 _ _ n.2.2.1 (s1.extBut _ _ n.1 q))
 ·refine wpAny_bind (N _ _ _ (fun c o n e => s1.extBut c o n e) fun g2 s2 => wpAny_pure ?_)
  have O2 : IsPair g2 TO a b := s2.extBut _ _ D.a8 (s1.extBut _ _ D.a2 hO)
  refine wpAny_bind (wpAny_seqItems O2 rfl ?_)
  refine wpAny_bind (wpAny_updateSeq_pair O2 fun g3 O3 s3 => ?_)
  refine wpAny_bind (wpAny_letGo (wpAny_pure ?_))
  refine wpAny_bind (wpAny_bind (wpAny_onRaise ?_))
  show wpAny (model prog w) _ (Builtin.SmallTypes.nextOf (.ref i2) >>= _) _ _ _
  refine wpAny_bind (N' _ _ _ (fun c o n m k e => s3.extBut _ _ m (s2.extBut _ _ k (s1.extBut c o n e))) fun g4 e s4 he => ?_)
  obtain ⟨oe, he, hc⟩ := he
  have z4 : IsZip g4 z TI TO .ellipsis := s4 _ _ D.a4.symm (s3.extBut _ _ D.a2.symm (s2.extBut _ _ D.a3.symm z1))
  have ne : e ≠ z := fun q => by subst q; rw [z4] at he; cases he; simp at hc
  refine wpAny_setField_rec z4 (by simp) fun g5 _ s5 => g g5 e (fun c o n q => ?_) ⟨oe, s5.extBut _ _ ne he, hc⟩
  simp only [List.mem_cons, List.not_mem_nil, or_false, not_or] at n
  exact s5.extBut _ _ n.1 (s4 _ _ n.2.2.2 (s3.extBut _ _ n.2.1 (s2.extBut _ _ n.2.2.1 (s1.extBut _ _ n.1 q))))
end
theorem turnedN {X : Cx} {pins : List (Addr × Obj)} {σ : L2.St} {H : Hp} {s : Shared} {h' : Heap} {t' : Nat} {fp : List Addr} {p : Addr} {v : HO} (I : Inv X pins σ H s)
  (k : ∀ b o, b ∉ fp -> s.heap.get? b = some o -> h'.get? b = some o) (hf : ∀ b ∈ fp, FpOk X pins H b) (hp : s.heap.objs.size ≤ p) (new : ObjOk X.prog X.w (upd H p v) h' p v) :
  Inv X pins σ (upd H p v) { s with heap := h', toks := t' } := by
 have off : ∀ b u, H b = some u -> b ∉ fp := fun b u e z => by rw [(hf b z).1] at e; cases e
 have hn : H p = none := I.hok.fresh hp
 have old : ∀ b u, H b = some u -> upd H p v b = some u := fun b u e => by rw [upd_ne (ne_of_none e hn)]; exact e
 refine I.step (g' := s.gens) (d' := s.drawn) (ch := fp) (fun b hb => ?_) (fun b o _ _ hc e _ => k b o hc e) (fun b o _ _ hc e _ => ⟨o.slots, k b o hc e⟩) (fun b o _ e n => ?_)
  (fun b o hc e => ⟨o, k b o hc e⟩) (fun b xs e => old b _ e) (fun b o u e => old b _ e) (fun b ps e => ⟨#[], by rw [old b _ e]; simp⟩) (fun m hm => ?_) (fun b u e => ?_) I.bare
 ·obtain ⟨_, f1, _, f3, f4, f5⟩ := hf b hb
  exact ⟨f3, f1, f4, f5⟩
 ·rw [upd_ne (Nat.ne_of_lt (Nat.lt_of_lt_of_le (Heap.lt_size e) hp))]; exact n
 ·obtain ⟨o, es, ep, ho, r⟩ := hm
  exact ⟨o, es, ep, k _ o (fun z => (hf _ z).2.1 rfl) ho, r⟩
 ·by_cases hb : b = p
  ·subst hb; rw [upd_same] at e; cases e; exact new
  ·rw [upd_ne hb] at e
   refine (I.hok b u e).stay (fun c v hc q => k c v ?_ q) (fun c q => old c _ q) fun c xs q => old c _ q
   rcases hc with z | z
   ·rw [z]; exact off b u e
   ·exact off c _ z
theorem sqT_off {X : Cx} {pins : List (Addr × Obj)} {σ : L2.St} {H : Hp} {s : Shared} {a b : Addr} {xs : List V} (I : Inv X pins σ H s) (h : SqT X.K H a xs) (f : FpOk X pins H b) : a ≠ b := fun z => by
 subst z
 rcases h with (h | ⟨o, h⟩) | ⟨o, its, n, hk, _⟩
 ·rw [f.1] at h; cases h
 ·rw [f.1] at h; cases h
 ·have e := I.ok.mod.kin a o hk
  rcases f.2.2.2.1 with z | z
  ·exact I.ok.noex a o e z
  ·rw [(I.ok.bs a o e).1] at z; cases z
def Itz (K : PySem.W.Frag) (a b : Addr) : It :=
 ⟨fun i H => ∃ xs ys x y, SqT K H a xs /\ SqT K H b ys /\ xs[i]? = some x /\ ys[i]? = some y,
  fun i H v H' => ∃ p x y, H p = none /\ v = .ref p /\ H' = upd H p (.tup [x, y]) /\ (∀ xs, SqT K H a xs -> xs[i]? = some x) /\ ∀ ys, SqT K H b ys -> ys[i]? = some y,
  fun i H => ∃ xs ys, SqT K H a xs /\ SqT K H b ys /\ (xs.length ≤ i ∨ ys.length ≤ i)⟩
def ZSt (z TI TO i1 i2 a b : Addr) (i : Nat) (h : Heap) : Prop := IsZip h z TI TO .none /\ IsPair h TI (.ref i1) (.ref i2) /\ (∃ u v, IsPair h TO u v) /\ h.IsTupleIter i1 a i /\ h.IsTupleIter i2 b i
theorem tupIter_at {h h' : Heap} {i a : Addr} {n : Nat} (x : h.IsTupleIter i a n) (k : ∀ o, h.get? i = some o -> h'.get? i = some o) : h'.IsTupleIter i a n := let ⟨o, e, r⟩ := x; ⟨o, k o e, r⟩
theorem tup_at {h h' : Heap} {a : Addr} {ys : Array Value} (x : h.IsTuple a ys) (k : ∀ o, h.get? a = some o -> h'.get? a = some o) : h'.IsTuple a ys := let ⟨o, e, r⟩ := x; ⟨o, k o e, r⟩
theorem tupIter_lt {h : Heap} {i a : Addr} {n : Nat} (x : h.IsTupleIter i a n) : i < h.objs.size := let ⟨_, e, _⟩ := x; Heap.lt_size e
theorem turn_zip {P : Program} {w : World} {K : PySem.W.Frag} {elts : List Expr} {x1} {pos : Pos} {z TI TO i1 i2 a b : Addr} (D : Five z TI TO i1 i2) :
  Turn P w K (.Tuple elts x1 pos) (Itz K a b) [z, TI, TO, i1, i2] z (ZSt z TI TO i1 i2 a b) where
 mem := by simp
 obj := fun i h st c hc => by
  obtain ⟨h1, h2, ⟨u, v, h3⟩, ⟨o4, h4, c4, d4⟩, ⟨o5, h5, c5, d5⟩⟩ := st
  simp only [List.mem_cons, List.not_mem_nil, or_false] at hc
  rcases hc with rfl | rfl | rfl | rfl | rfl
  ·exact ⟨_, h1, fun v q => by cases (show Data.fields _ = Data.cell v from q)⟩
  ·exact ⟨_, h2, fun v q => by cases (show Data.seq _ _ = Data.cell v from q)⟩
  ·exact ⟨_, h3, fun v q => by cases (show Data.seq _ _ = Data.cell v from q)⟩
  ·exact ⟨o4, h4, fun v q => by rw [d4] at q; cases q⟩
  ·exact ⟨o5, h5, fun v q => by rw [d5] at q; cases q⟩
 keep := fun i h h' st k => by
  obtain ⟨h1, h2, ⟨u, v, h3⟩, h4, h5⟩ := st
  exact ⟨k z (by simp) _ h1, k TI (by simp) _ h2, ⟨u, v, k TO (by simp) _ h3⟩, tupIter_at h4 fun o e => k i1 (by simp) o e, tupIter_at h5 fun o e => k i2 (by simp) o e⟩
 item := by
  intro X hP hw hK hc i pins s σ H E I hf st hg
  subst hP hw hK
  obtain ⟨xs, ys, x, y, q1, q2, hx, hy⟩ := hg
  obtain ⟨its, rv, p1, z1⟩ := I.tuple q1
  obtain ⟨jts, rw', p2, z2⟩ := I.tuple q2
  obtain ⟨u, hu, ru⟩ := rv.get hx
  obtain ⟨v, hv, rv2⟩ := rw'.get hy
  have off1 : ∀ c ∈ [z, TI, TO, i1, i2], a ≠ c := fun c hc => sqT_off I q1 (hf c hc)
  have off2 : ∀ c ∈ [z, TI, TO, i1, i2], b ≠ c := fun c hc => sqT_off I q2 (hf c hc)
  obtain ⟨h1, h2, ⟨o1, o2, h3⟩, h4, h5⟩ := st
  have hT : s.TypeIs (.ref z) "zip" := ⟨_, h1, rfl⟩
  unfold pyNext
  refine wpAny_bind (wpAny_attempt (wpAny_callSpecial?_slot (name := Str.ofString "__next__") hT F.slot_zip_next
   (wpAny_call_entry F.slot_zip_next hT F.entry_zip_next ?_ (F.args_zip_next_1 _))))
  refine zip_step (x := u) (y := v) (A1 := fun h => h.IsTupleIter i1 a (i + 1)) (A2 := fun h => h.IsTupleIter i2 b (i + 1)) D h1 h2 h3 ?_ ?_ (tupIter_lt h4) (tupIter_lt h5) ?_
  ·intro s' G E' k g
   exact nx_item (tupIter_at h4 fun o e => k _ o D.a3 e) (tup_at (show s.heap.IsTuple a its.toArray from p1) fun o e => k _ o (off1 z (by simp)) e) (by simpa using hu) g
  ·intro s' G E' k g
   exact nx_item (tupIter_at h5 fun o e => k _ o D.a4 (Ne.symm D.a9) (Ne.symm D.b1) e) (tup_at (show s.heap.IsTuple b jts.toArray from p2) fun o e => k _ o (off2 z (by simp)) (off2 TO (by simp)) (off2 i1 (by simp)) e) (by simpa using hv) g
  ·intro g1 g2 h' a1 a2 k1 k2 zz po pn sz kk
   refine wpAny_pure ⟨_, rfl, ?_⟩
   refine wpAny_letOwnedTupleGo_zip zz fun h'' z3 sb => ?_
   have nz : s.heap.objs.size ≠ z := Nat.ne_of_gt (Heap.lt_size h1)
   have hp : H s.heap.objs.size = none := I.fresh
   have P : ObjOk X.prog X.w (upd H s.heap.objs.size (.tup [x, y])) h'' s.heap.objs.size (.tup [x, y]) :=
    ⟨by show 2 ≤ sizeLine; decide, [u, v], .cons ru (.cons rv2 .nil), ⟨_, sb.extBut _ _ nz pn, rfl, _, rfl⟩⟩
   have I2 : Inv X pins σ (upd H s.heap.objs.size (.tup [x, y])) { s with heap := h'', toks := s.toks } := turnedN I (fun c o n e => by
    have n' : c ∉ [z, TO, i1, i2] := fun q => n (by
     simp only [List.mem_cons, List.not_mem_nil, or_false] at q ⊢
     rcases q with q | q | q | q <;> simp [q])
    exact sb.extBut _ _ (fun q => n (by simp [q])) (kk c o n' e)) hf (Nat.le_refl _) P
   refine ⟨.ref s.heap.objs.size, _, I2, rfl, ⟨_, x, y, hp, rfl, rfl, fun zs hz => by rw [I.tuple_inj hz q1]; exact hx, fun zs hz => by rw [I.tuple_inj hz q2]; exact hy⟩, ⟨z3, ?_, ⟨u, v, ?_⟩, ?_, ?_⟩, fun c hc => ?_⟩
   ·refine sb.extBut _ _ D.a1 (kk TI _ ?_ h2)
    have := D.a1; have := D.a5; have := D.a6; have := D.a7
    simp only [List.mem_cons, List.not_mem_nil, or_false, not_or]
    exact ⟨D.a1, D.a5, D.a6, D.a7⟩
   ·exact sb.extBut _ _ D.a2 po
   ·exact tupIter_at a1 fun o e => sb.extBut _ _ D.a3 (k1 _ o D.a3 (Ne.symm D.a8) D.b1 e)
   ·exact tupIter_at a2 fun o e => sb.extBut _ _ D.a4 (k2 _ o D.a4 (Ne.symm D.a9) e)
   ·have lt : c < s.heap.objs.size := by
     simp only [List.mem_cons, List.not_mem_nil, or_false] at hc
     rcases hc with rfl | rfl | rfl | rfl | rfl
     ·exact Heap.lt_size h1
     ·exact Heap.lt_size h2
     ·exact Heap.lt_size h3
     ·exact tupIter_lt h4
     ·exact tupIter_lt h5
    rw [upd_ne (Nat.ne_of_lt lt)]
    exact (hf c hc).1
 done := by
  intro X hP hw hK hc i pins s σ H E I hf st hg
  subst hP hw hK
  obtain ⟨xs, ys, q1, q2, hd⟩ := hg
  obtain ⟨its, rv, p1, z1⟩ := I.tuple q1
  obtain ⟨jts, rw', p2, z2⟩ := I.tuple q2
  have l1 := rv.length
  have l2 := rw'.length
  have off1 : ∀ c ∈ [z, TI, TO, i1, i2], a ≠ c := fun c hc => sqT_off I q1 (hf c hc)
  have off2 : ∀ c ∈ [z, TI, TO, i1, i2], b ≠ c := fun c hc => sqT_off I q2 (hf c hc)
  obtain ⟨h1, h2, ⟨o1, o2, h3⟩, h4, h5⟩ := st
  have hT : s.TypeIs (.ref z) "zip" := ⟨_, h1, rfl⟩
  have hh : X.A.in1.handled = none := I.ok.hd hc
  unfold pyNext
  refine wpAny_bind (wpAny_attempt (wpAny_callSpecial?_slot (name := Str.ofString "__next__") hT F.slot_zip_next
   (wpAny_call_entry F.slot_zip_next hT F.entry_zip_next ?_ (F.args_zip_next_1 _))))
  refine zip_stop D h1 h2 h3 ?_ fun h' e kk he => ?_
  ·cases e : its.toArray[i]? with
   | none =>
    refine .inl fun s' G E' k g => ?_
    exact nx_end hh (tupIter_at h4 fun o e => k _ o D.a3 e) (tup_at (show s.heap.IsTuple a its.toArray from p1) fun o e => k _ o (off1 z (by simp)) e) e g
   | some u =>
    refine .inr ⟨⟨u, fun s' G E' k g => ?_⟩, fun s' G E' k g => ?_⟩
    ·exact nx_item (tupIter_at h4 fun o e => k _ o D.a3 e) (tup_at (show s.heap.IsTuple a its.toArray from p1) fun o e => k _ o (off1 z (by simp)) e) e fun h' _ sb => g h' sb
    ·have hi : i < its.length := by
      have := (Array.getElem?_eq_some_iff.mp e).1
      simpa using this
     exact nx_end hh (tupIter_at h5 fun o e => k _ o D.a4 (Ne.symm D.a9) (Ne.symm D.b1) e) (tup_at (show s.heap.IsTuple b jts.toArray from p2) fun o e => k _ o (off2 z (by simp)) (off2 TO (by simp)) (off2 i1 (by simp)) e)
      (by rw [Array.getElem?_eq_none_iff]; simp; omega) g
  ·obtain ⟨o, ho, hc'⟩ := he
   refine wpAny_bind (wpAny_isInstance (T := "StopIteration") (b := true) ⟨o, ho, hc'⟩ isSubtype_stop ?_)
   refine wpAny_pure ⟨rfl, ?_⟩
   exact turnedL (t' := s.toks) I (fun c o n e => kk c o (fun q => n (by
     simp only [List.mem_cons, List.not_mem_nil, or_false] at q ⊢
     rcases q with q | q | q | q <;> simp [q])) e) hf
 self := fun _ _ _ _ _ st h => wpAny_pyIter_zip st.1 h
abbrev zA (h : Heap) (a : Addr) : Heap := h.push { cls := .type "tuple_iterator", data := .fields #[.ref a, .int 0 0] }
abbrev zB (h : Heap) (a b : Addr) : Heap := zA (zA h a) b
abbrev zC (h : Heap) (a b : Addr) : Heap := (zB h a b).push { cls := .type "tuple", data := .seq #[.ref h.objs.size, .ref (zA h a).objs.size] }
abbrev zD (h : Heap) (a b : Addr) : Heap := (zC h a b).push { cls := .type "tuple", data := .seq #[.none, .none] }
abbrev zE (h : Heap) (a b : Addr) : Heap := (zD h a b).push { cls := .type "zip", data := .fields #[.none, .bool false, .bool false, .ref (zB h a b).objs.size, .ref (zC h a b).objs.size] }
theorem zip_new (a b : Addr) (xs ys : Array Value) : Meets (Builtin.«zip.__new__» ⟨[.type "zip", .ref a, .ref b], []⟩) (fun _ R s => s.heap.IsTuple a xs /\ s.heap.IsTuple b ys ∧
  R (.ok (.ret (.ref (zD s.heap a b).objs.size))) { s with heap := zE s.heap a b }) :=
 .of_wp fun prog w A R s h => by
  obtain ⟨hp, g, d, tk, os⟩ := s; obtain ⟨l1, l2, h⟩ := h
  have zsub := sub_zip
  have L1 : Heap.IsTuple (Shared.heap ⟨hp, g, d, tk, os⟩) a xs := l1
  have L2 : Heap.IsTuple (Shared.heap ⟨hp.push { cls := .type "tuple_iterator", data := .fields #[.ref a, .int 0 0] }, g, d, tk, os⟩) b ys := Heap.IsTuple.push l2 _
  wp_walk using wpAny_pyIter_tuple L1, wpAny_pyIter_tuple L2
  exact ⟨_, rfl, h⟩
theorem five_new (n : Nat) : Five (n + 4) (n + 2) (n + 3) n (n + 1) := by constructor <;> (intro q; have : (_ : Nat) = _ := q; omega)
def iZip (K : PySem.W.Frag) (ta : TA) : TI := fun σ H R => ta σ H fun vs H1 => ∃ a b, vs = [.ref a, .ref b] /\ (∃ xs, SqT K H1 a xs) /\ (∃ ys, SqT K H1 b ys) /\ R (Itz K a b) H1
theorem pi_zip {X : Cx} {elts : List Expr} {x1} {tp p pos : Pos} {a b : Expr} {ta : TA} (hg : Gl X "zip") (hm : X.mg "zip" = none) (ha : PA X [a, b] ta) (hs : starEach [a, b] X.env = [(false, eval a X.env), (false, eval b X.env)] := by rfl) (hs2 : starEach [b] X.env = [(false, eval b X.env)] := by rfl) :
  PI X (.Tuple elts x1 tp) (.Call (.Name "zip" p) [a, b] [] pos) (iZip X.K ta) := by
 intro pins s σ H R I h
 refine Call_ (ld_blt I hg hm (show bootBuiltins "zip" = some (.type "zip") by kernel_rfl) (PyProof.Rows.callWith_type1 (thn (ha pos pins s σ H _ I h) fun us s1 ⟨vs, H1, I1, r1, q1⟩ => ?_) (by rw [hs, hs2]) (by rw [hs2]; rfl)))
 obtain ⟨a, b, e, ⟨xs, hx⟩, ⟨ys, hy⟩, q⟩ := q1
 subst e
 obtain ⟨u, v, rfl, ru, rv⟩ := vals2 r1
 cases ru; cases rv
 obtain ⟨its, _, p1, _⟩ := I1.tuple hx
 obtain ⟨jts, _, p2, _⟩ := I1.tuple hy
 refine callType_new F.called_zip (by decide) (F.typeCall_zip_2 _ _) (F.newCall_zip_2 _ _) (fun obj => F.args_object_init_3 obj _ _) F.entry_zip_new (zip_new a b its.toArray jts.toArray) ⟨p1, p2, ?_⟩
 have e1 : (zA s1.heap a).objs.size = s1.heap.objs.size + 1 := Heap.size_push ..
 have e2 : (zB s1.heap a b).objs.size = s1.heap.objs.size + 2 := by rw [Heap.size_push, e1]
 have e3 : (zC s1.heap a b).objs.size = s1.heap.objs.size + 3 := by rw [Heap.size_push, e2]
 have e4 : (zD s1.heap a b).objs.size = s1.heap.objs.size + 4 := by rw [Heap.size_push, e3]
 have g5 : (zE s1.heap a b).get? (zD s1.heap a b).objs.size = some _ := Heap.get?_push_size _ rfl
 have g4 : (zE s1.heap a b).get? (zC s1.heap a b).objs.size = some _ := Heap.get?_push_of_some _ (Heap.get?_push_size _ rfl)
 have g3 : (zE s1.heap a b).get? (zB s1.heap a b).objs.size = some _ := Heap.get?_push_of_some _ (Heap.get?_push_of_some _ (Heap.get?_push_size _ rfl))
 have g2 : (zE s1.heap a b).get? (zA s1.heap a).objs.size = some _ := Heap.get?_push_of_some _ (Heap.get?_push_of_some _ (Heap.get?_push_of_some _ (Heap.get?_push_size _ rfl)))
 have g1 : (zE s1.heap a b).get? s1.heap.objs.size = some _ := Heap.get?_push_of_some _ (Heap.get?_push_of_some _ (Heap.get?_push_of_some _ (Heap.get?_push_of_some _ (Heap.get?_push_size _ rfl))))
 have kk : ∀ c o, s1.heap.get? c = some o -> (zE s1.heap a b).get? c = some o := fun c o x => Heap.get?_push_of_some _ (Heap.get?_push_of_some _ (Heap.get?_push_of_some _ (Heap.get?_push_of_some _ (Heap.get?_push_of_some _ x))))
 show _ /\ _
 rw [e2, e3, e4] at g5
 rw [e1, e2] at g3
 rw [e3] at g4
 rw [e1] at g2
 rw [e4]
 generalize zE s1.heap a b = hE at g1 g2 g3 g4 g5 kk
 refine ⟨⟨_, g5, rfl⟩, wpAny_pyIter_zip g5 ?_⟩
 have I2 : Inv X pins σ H1 { s1 with heap := hE } := I1.kept (t' := s1.toks) kk
 refine ⟨_, _, _, _, H1, rfl, I2, turn_zip (five_new s1.heap.objs.size), ⟨g5, g3, ⟨_, _, g4⟩, ⟨_, g1, rfl, rfl⟩, ⟨_, g2, rfl, rfl⟩⟩, fun c hc => ?_, q⟩
 have le : s1.heap.objs.size ≤ c := by
  simp only [List.mem_cons, List.not_mem_nil, or_false] at hc
  rcases hc with h | h | h | h | h <;> (rw [h]; first | exact Nat.le_refl _ | exact Nat.le_add_right _ _)
 exact I1.fpOk le (I1.hok.fresh le)
theorem draws_tup {prog : Program} {w : World} {A : Around} (hh : A.handled = none) (it a : Addr) (ne : a ≠ it) (items : Array Value) :
  Draws prog w A it [it, a] items.size (fun i v => items[i]? = some v) (fun i h => h.IsTupleIter it a i /\ h.IsTuple a items) where
 live := fun _ _ st => let ⟨o, ho, _⟩ := st.1; ⟨o, ho⟩
 frame := fun _ _ _ st hk => ⟨tupIter_at st.1 fun o e => hk it (by simp) o e, tup_at st.2 fun o e => hk a (by simp) o e⟩
 item := fun i s Q E hi st hQ => by
  have hx : items[i]? = some (items[i]'hi) := Array.getElem?_eq_getElem hi
  exact nx_item st.1 st.2 hx fun h' i' sb => hQ _ h' s.toks hx ⟨i', tup_at st.2 fun o e => sb.extBut _ _ ne e⟩ sb
 done := fun s Q E st hE => nx_end hh st.1 st.2 (by simp) hE
theorem enum_newT (a : Addr) (xs : Array Value) : Meets (Builtin.«enumerate.__new__» ⟨[.type "enumerate", .ref a], []⟩) (fun _ R s => s.heap.IsTuple a xs ∧
   R (.ok (.ret (.ref (zA s.heap a).objs.size))) { s with heap := (zA s.heap a).push { cls := .type "enumerate", data := .fields #[.none, .bool false, .ref s.heap.objs.size, rawInt 0, .none, .none] } }) :=
 .of_wp fun prog w A R s h => by
  obtain ⟨hp, g, d, tk, os⟩ := s; obtain ⟨hl, h⟩ := h
  obtain ⟨⟨c, dct, dt, sl⟩, ho, hc, n, hd⟩ := id hl
  replace hc : c = .type "tuple" := hc
  replace hd : dt = .seq xs n := hd
  subst hc hd
  have hsub := sub_enumerate
  have L : Heap.IsTuple (Shared.heap ⟨hp, g, d, tk, os⟩) a xs := hl
  wp_walk using AutoSeq1.wpAny_loadPart' ho
  refine wpAny_stack_any fun st => wpAny_pure ?_
  split
  ·rename_i c _ _ _ _ _
   cases (c == Value.type "enumerate")
   ·wp_walk using AutoSeq1.wpAny_loadPart' ho, wpAny_pyIter_tuple L
    exact ⟨_, rfl, h⟩
   ·wp_walk using AutoSeq1.wpAny_loadPart' ho, wpAny_pyIter_tuple L
    exact ⟨_, rfl, h⟩
  ·wp_walk using AutoSeq1.wpAny_loadPart' ho, wpAny_pyIter_tuple L
   exact ⟨_, rfl, h⟩
theorem call_enumT {prog : Program} {w : World} {A : Around} {E : Value -> Shared -> Prop} {s : Shared} {a : Addr} {items : Array Value} {Q : Value -> Shared -> Prop} (hL : s.heap.IsTuple a items)
  (h : ∀ h', IsEnum h' (s.heap.objs.size + 1) s.heap.objs.size 0 .none -> h'.IsTupleIter s.heap.objs.size a 0 -> h'.objs.size = s.heap.objs.size + 2 →
   (∀ b o, s.heap.get? b = some o -> h'.get? b = some o) -> Q (.ref (s.heap.objs.size + 1)) { s with heap := h' }) :
  wpAny (model prog w) A (call (.type "enumerate") [.ref a]) Q E s := by
 refine callType_new F.called_enumerate (by decide) (F.typeCall_enumerate_1 _) (F.newCall_enumerate_1 _) (fun obj => F.args_object_init_2 obj _) F.entry_enumerate_new
  (enum_newT a items) ⟨hL, ?_⟩
 have hz : (zA s.heap a).objs.size = s.heap.objs.size + 1 := Heap.size_push ..
 show _ /\ _
 rw [hz]
 have he : IsEnum ((zA s.heap a).push { cls := .type "enumerate", data := .fields #[.none, .bool false, .ref s.heap.objs.size, rawInt 0, .none, .none] }) (s.heap.objs.size + 1) s.heap.objs.size 0 .none := by
  have := Heap.get?_push_size (zA s.heap a) (o := { cls := .type "enumerate", data := .fields #[.none, .bool false, .ref s.heap.objs.size, rawInt 0, .none, .none] }) rfl
  rw [hz] at this; exact this
 refine ⟨⟨_, he, rfl⟩, h _ he ⟨_, Heap.get?_push_of_some _ (Heap.get?_push_size _ rfl), rfl, rfl⟩ (by rw [Heap.size_push, hz]) fun b o x => Heap.get?_push_of_some _ (Heap.get?_push_of_some _ x)⟩
def IteT (K : PySem.W.Frag) (a : Addr) : It :=
 ⟨fun i H => ∃ xs x, SqT K H a xs /\ xs[i]? = some x,
  fun i H v H' => ∃ p x, H p = none /\ v = .ref p /\ H' = upd H p (.tup [.int i, x]) /\ ∀ xs, SqT K H a xs -> xs[i]? = some x,
  fun i H => ∃ xs, SqT K H a xs /\ xs.length ≤ i⟩
theorem turn_enT {P : Program} {w : World} {K : PySem.W.Frag} {elts : List Expr} {x1} {pos : Pos} {e it a : Addr} (hei : e ≠ it) :
  Turn P w K (.Tuple elts x1 pos) (IteT K a) [e, it] e (fun i h => (∃ old, IsEnum h e it (i : Nat) old) /\ h.IsTupleIter it a i) where
 mem := by simp
 obj := fun i h st c hc => by
  obtain ⟨⟨old, h1⟩, ⟨o2, h2, c2, d2⟩⟩ := st
  simp only [List.mem_cons, List.not_mem_nil, or_false] at hc
  rcases hc with rfl | rfl
  ·exact ⟨_, h1, fun v q => by cases (show Data.fields _ = Data.cell v from q)⟩
  ·exact ⟨o2, h2, fun v q => by rw [d2] at q; cases q⟩
 keep := fun i h h' st k => by
  obtain ⟨⟨old, h1⟩, h2⟩ := st
  exact ⟨⟨old, k e (by simp) _ h1⟩, tupIter_at h2 fun o q => k it (by simp) o q⟩
 item := by
  intro X hP hw hK hc i pins s σ H E I hf st hg
  subst hP hw hK
  obtain ⟨xs, x, q1, hx⟩ := hg
  obtain ⟨its, rv, p1, z1⟩ := I.tuple q1
  obtain ⟨u, hu, ru⟩ := rv.get hx
  have off : ∀ c ∈ [e, it], a ≠ c := fun c hc => sqT_off I q1 (hf c hc)
  obtain ⟨⟨old, h1⟩, h2⟩ := st
  have hh : X.A.in1.handled = none := I.ok.hd hc
  have na : a ≠ it := off it (by simp)
  have ne : e ∉ [it, a] := fun q => by
   simp only [List.mem_cons, List.not_mem_nil, or_false] at q
   rcases q with q | q
   ·exact hei q
   ·exact off e (by simp) q.symm
  have hi : i < its.toArray.size := by have := (List.getElem?_eq_some_iff.mp hu).1; simpa using this
  have el : e < s.heap.objs.size := Heap.lt_size h1
  have il : it < s.heap.objs.size := by obtain ⟨o2, q2, _⟩ := h2; exact Heap.lt_size q2
  refine wpAny_pyNext_enum_itemD (draws_tup hh it a na its.toArray) h1 ⟨h2, p1⟩ hi hei ne fun v h' tk hv eo st' tup hz hk => ⟨_, rfl, wpAny_letOwnedTupleGo_enum eo fun h'' e2 sb => ?_⟩
  have ev : v = u := by
   have : its.toArray[i]? = some u := by simpa using hu
   rw [this] at hv
   exact (Option.some.inj hv).symm
  subst ev
  have nt : s.heap.objs.size ≠ e := Nat.ne_of_gt el
  have ni : s.heap.objs.size ≠ it := Nat.ne_of_gt il
  have P : ObjOk X.prog X.w (upd H s.heap.objs.size (.tup [.int i, x])) h'' s.heap.objs.size (.tup [.int i, x]) :=
   ⟨by show 2 ≤ sizeLine; decide, [.int i tk, v], .cons ⟨_, rfl⟩ (.cons ru .nil), ⟨_, sb.extBut _ _ nt tup, rfl, _, rfl⟩⟩
  have I2 : Inv X pins σ (upd H s.heap.objs.size (.tup [.int i, x])) { s with heap := h'', toks := tk + 1 } := turnedN I (fun c o' n q => by
   have n1 : c ≠ e := fun r => n (by simp [r])
   have n2 : c ≠ it := fun r => n (by simp [r])
   exact sb.extBut _ _ n1 (hk c o' n1 n2 q)) hf (Nat.le_refl _) P
  refine ⟨.ref s.heap.objs.size, _, I2, rfl, ⟨_, x, I.fresh, rfl, rfl, fun ys hy => by rw [I.tuple_inj hy q1]; exact hx⟩, ⟨⟨_, by simpa using e2⟩, tupIter_at st'.1 fun o q => sb.extBut _ _ hei.symm q⟩, fun c hc => ?_⟩
  have lt : c < s.heap.objs.size := by
   simp only [List.mem_cons, List.not_mem_nil, or_false] at hc
   rcases hc with rfl | rfl
   ·exact el
   ·exact il
  rw [upd_ne (Nat.ne_of_lt lt)]
  exact (hf c hc).1
 done := by
  intro X hP hw hK hc i pins s σ H E I hf st hg
  subst hP hw hK
  obtain ⟨xs, q1, hx⟩ := hg
  obtain ⟨its, rv, p1, z1⟩ := I.tuple q1
  have off : ∀ c ∈ [e, it], a ≠ c := fun c hc => sqT_off I q1 (hf c hc)
  obtain ⟨⟨old, h1⟩, h2⟩ := st
  have hh : X.A.in1.handled = none := I.ok.hd hc
  have hl := rv.length
  have nn : its.toArray[i]? = none := by rw [Array.getElem?_eq_none_iff]; simp; omega
  have hT : s.TypeIs (.ref e) "enumerate" := ⟨_, h1, rfl⟩
  unfold pyNext
  refine wpAny_bind (wpAny_attempt (wpAny_callSpecial?_slot (name := Str.ofString "__next__") hT F.slot_enumerate_next
   (wpAny_call_entry F.slot_enumerate_next hT F.entry_enumerate_next ?_ (F.args_enumerate_next_1 _))))
  show wpAny _ _ (field (.ref e) 2 >>= _) _ _ _
  refine wpAny_bind (wpAny_field h1 rfl (x := .ref it) rfl ?_)
  refine wpAny_bind (nx_end hh h2 p1 nn fun h' x he' hx' => ?_)
  obtain ⟨o, ho, hcl⟩ := hx'
  refine wpAny_bind (wpAny_isInstance (T := "StopIteration") (b := true) ⟨o, ho, hcl⟩ isSubtype_stop ?_)
  refine wpAny_pure ⟨rfl, ?_⟩
  exact turnedL (t' := s.toks) I (fun c o' n q => he' c o' (fun r => n (by simp [r])) q) hf
 self := fun A i s Q E st h => by
  obtain ⟨⟨old, h1⟩, _⟩ := st
  exact wpAny_pyIter_enum h1 h
def iEnT (K : PySem.W.Frag) (ta : TA) : TI := fun σ H R => ta σ H fun vs H1 => ∃ a, vs = [.ref a] /\ (∃ xs, SqT K H1 a xs) /\ R (IteT K a) H1
theorem pi_enum {X : Cx} {elts : List Expr} {x1} {tp p pos : Pos} {a : Expr} {ta : TA} (hg : Gl X "enumerate") (hm : X.mg "enumerate" = none) (ha : PA X [a] ta) (hs : starEach [a] X.env = [(false, eval a X.env)] := by rfl) :
  PI X (.Tuple elts x1 tp) (.Call (.Name "enumerate" p) [a] [] pos) (iEnT X.K ta) := by
 intro pins s σ H R I h
 refine Call_ (ld_blt I hg hm (show bootBuiltins "enumerate" = some (.type "enumerate") by kernel_rfl) (PyProof.Rows.callWith_type1 (thn (ha pos pins s σ H _ I h) fun us s1 ⟨vs, H1, I1, r1, q1⟩ => ?_) hs rfl))
 obtain ⟨a, e, ⟨xs, hx⟩, q⟩ := q1
 subst e
 obtain ⟨u, rfl, ru⟩ := r1.one
 cases ru
 obtain ⟨its, _, p1, _⟩ := I1.tuple hx
 refine call_enumT p1 fun h' he hi sz kk => wpAny_pyIter_enum he ?_
 have I2 : Inv X pins σ H1 { s1 with heap := h' } := I1.kept (t' := s1.toks) kk
 refine ⟨_, [s1.heap.objs.size + 1, s1.heap.objs.size], _, _, H1, rfl, I2, turn_enT (a := a) (Nat.succ_ne_self _), ⟨⟨_, he⟩, hi⟩, fun c hc => ?_, q⟩
 have le : s1.heap.objs.size ≤ c := by
  simp only [List.mem_cons, List.not_mem_nil, or_false] at hc
  rcases hc with h | h
  ·rw [h]; exact Nat.le_succ _
  ·rw [h]; exact Nat.le_refl _
 exact I1.fpOk le (I1.hok.fresh le)
theorem for_enum {K : PySem.W.Frag} {a : Addr} {xs : List V} {g : TG} {tb : TS} {D : Ends} {σ : L2.St} {H : Hp} (Pv : Nat -> L2.St -> Hp -> Prop) (h0 : Pv 0 σ H)
  (hl : ∀ i σ H, i ≤ xs.length -> Pv i σ H -> SqT K H a xs)
  (hs : ∀ i x p σ H, xs[i]? = some x -> Pv i σ H -> H p = none -> g (.ref p) σ (upd H p (.tup [.int i, x])) fun σ2 H2 => tb { D with nx := Pv (i + 1), ct := Pv (i + 1), bk := D.nx } σ2 H2) (hd : ∀ σ H, Pv xs.length σ H -> D.nx σ H) :
  ∃ W : Nat -> Nat -> L2.St -> Hp -> Prop, (∃ m, W 0 m σ H) /\ ∀ i m σ H, W i m σ H →
   ((IteT K a).stop i H /\ D.nx σ H) ∨ ((IteT K a).go i H /\ ∃ N : L2.St -> Hp -> Prop, (∀ σ' H', N σ' H' -> ∃ m', m' < m /\ W (i + 1) m' σ' H') /\ ∀ x H', (IteT K a).yld i H x H' -> g x σ H' fun σ2 H2 => tb { D with nx := N, ct := N, bk := D.nx } σ2 H2) := by
 refine ⟨fun i m σ H => m = xs.length - i /\ i ≤ xs.length /\ Pv i σ H, ⟨_, rfl, Nat.zero_le _, h0⟩, ?_⟩
 rintro i m σ H ⟨rfl, hi, p⟩
 have q := hl i σ H hi p
 by_cases hlt : i < xs.length
 ·refine .inr ⟨⟨xs, _, q, List.getElem?_eq_getElem hlt⟩, Pv (i + 1), fun σ' H' p' => ⟨xs.length - (i + 1), by omega, rfl, hlt, p'⟩, fun x H' y => ?_⟩
  obtain ⟨pp, v, hp, rfl, rfl, hv⟩ := y
  exact hs i v pp σ _ (hv xs q) p hp
 ·have e : i = xs.length := by omega
  subst e
  exact .inl ⟨⟨xs, q, Nat.le_refl _⟩, hd σ H p⟩
def IteL (K : PySem.W.Frag) (a : Addr) : It :=
 ⟨fun i H => ∃ xs x, SqL K H a xs /\ xs[i]? = some x,
  fun i H v H' => ∃ p x, H p = none /\ v = .ref p /\ H' = upd H p (.tup [.int i, x]) /\ ∀ xs, SqL K H a xs -> xs[i]? = some x,
  fun i H => ∃ xs, SqL K H a xs /\ xs.length ≤ i⟩
def iEnL (K : PySem.W.Frag) (ta : TA) : TI := fun σ H R => ta σ H fun vs H1 => ∃ a, vs = [.ref a] /\ (∃ xs, SqL K H1 a xs) /\ R (IteL K a) H1
section
variable {prog : Program} {w : World} {A : Around} {E : Value -> Shared -> Prop}
end
def gLst (K : PySem.W.Frag) (n : Nat) (t : TGs) : TG := fun v σ H Q => ∃ a xs, v = .ref a /\ SqL K H a xs /\ xs.length = n /\ t xs σ H Q
section
variable {prog : Program} {w : World} {A : Around} {E : Value -> Shared -> Prop} {s : Shared}
open HT in
theorem tuple_whole {t sl : Addr} {items : Array Value} {vl vu : Value} {lo hi : Option Int} {Q : Value -> Shared -> Prop} (ht : IsTup s.heap t items) (hs : s.heap.IsSliceOf sl vl vu .none) (pl : IsPart vl lo) (pu : IsPart vu hi)
  (h1 : sIx items.size 0 lo = 0) (h2 : sIx items.size items.size hi = items.size) (h : Q (.ref t) s) : wpAny (model prog w) A (getItem (.ref t) (.ref sl)) Q E s := by
 obtain ⟨os, hos, hcs, hds⟩ := id hs
 have hTs : s.TypeIs (.ref sl) "slice" := ⟨os, hos, hcs⟩
 unfold getItem
 try with_reducible refine wpAny_holding ?_
 first | refine wpAny_bind (wpAny_pure ?_) | skip
 refine wpAny_bind (wpAny_sequenceKey ht.typeIs (by decide) ?_)
 refine wpAny_bind (wpAny_callSpecial?_slot (name := Str.ofString "__getitem__") ht.typeIs PyProof.Rows.slot_tuple_getitem
  (wpAny_call_entry PyProof.Rows.slot_tuple_getitem ht.typeIs entry_tuple_getitem ?_ (args_tuple_getitem _ _)))
 show wpAny _ _ (Builtin.Tuple.tupleItemsOf (.ref t) >>= _) _ _ s
 refine wpAny_bind (tupleItemsOf_ ht ?_)
 refine wpAny_bind (wpAny_typeOf hTs ?_)
 rw [if_pos (by decide)]
 refine wpAny_bind (sliceApplied_gen hs pl pu ?_)
 have hyes : ((((sIx items.size 0 lo : Nat) : Int) == 0 && (1 : Int) == 1 && (sIx items.size items.size hi - sIx items.size 0 lo) == items.size) = true) := by
  rw [h1, h2]; simp
 show wpAny _ _ (if (((sIx items.size 0 lo : Nat) : Int) == 0 && (1 : Int) == 1 && (sIx items.size items.size hi - sIx items.size 0 lo) == items.size) = true then _ else _) _ _ s
 rw [if_pos hyes]
 refine wpAny_bind ?_
 unfold Builtin.Tuple.tupleIsExact
 refine wpAny_bind (wpAny_typeOf ht.typeIs ?_)
 refine wpAny_pure ?_
 rw [if_pos (by decide)]
 exact wpAny_bind (wpAny_rule (wpAny_pure ⟨_, rfl, wpAny_pure h⟩))
end
def rSlW (K : PySem.W.Frag) : V -> Option Int -> Option Int -> Hp -> VK -> Prop := fun x lo hi H Q => ∃ a xs, x = .ref a /\ SqT K H a xs /\ HT.sIx xs.length 0 lo = 0 /\ HT.sIx xs.length xs.length hi = xs.length /\ Q (.ref a) H
theorem sl_tupW {X : Cx} : SlR X (rSlW X.K) := by
 intro pins s σ H x v vl vu lo hi sl Q I rx hs pl pu h
 obtain ⟨a, xs, rfl, hx, h1, h2, q⟩ := h
 cases rx
 obtain ⟨its, r, ht, hz⟩ := I.tuple hx
 have hlen : its.toArray.size = xs.length := by rw [List.size_toArray]; exact r.length.symm
 refine ⟨"tuple", _, PyProof.Rows.slot_tuple_getitem.lookup, ht.typeIs, ?_⟩
 exact tuple_whole ht hs pl pu (by rw [hlen]; exact h1) (by rw [hlen]; exact h2) ⟨.ref a, H, I, rfl, q⟩
theorem sl_tupA {X : Cx} : SlR X (fun x lo hi H Q => rSlW X.K x lo hi H Q ∨ rSlT X.K x lo hi H Q) := SlR.or sl_tupW sl_tup
end B
namespace B
theorem mkR_eq {a b c d : Int} (hb : 0 < b) (hd : 0 < d) (e : a * d = c * b) : mkR a b = mkR c d := by
 have hr := mkR_red (a := c) hd
 have hc := mkR_cross (a := c) hd
 generalize mkR c d = m at hr hc ⊢
 refine mkR_uniq hb hr.pos hr.cop ?_
 refine Int.eq_of_mul_eq_mul_right (show d ≠ 0 by omega) ?_
 have e1 : m.1 * b * d = m.1 * d * b := by ac_rfl
 have e2 : a * m.2 * d = a * d * m.2 := by ac_rfl
 rw [e1, hc, e2, e]
 ac_rfl
structure Bq (D N : Nat) (r : R) : Prop where
 pos : 0 < r.2
 cop : Int.gcd r.1 r.2 = 1
 dvd : r.2 ∣ (D : Int)
 le : r.1.natAbs ≤ N * r.2.natAbs
theorem Bq.red {D N : Nat} {r : R} (h : Bq D N r) : Red r := ⟨h.pos, h.cop⟩
theorem bq_mk {D N : Nat} {a b : Int} (hb : 0 < b) (hd : b ∣ (D : Int)) (hl : a.natAbs ≤ N * b.natAbs) : Bq D N (mkR a b) := by
 obtain ⟨g, x, y, e0, gp, e1, e2, c⟩ := gcd_parts (a := a) hb
 have yp := pos_of hb gp e2
 have e : mkR a b = (x, y) := by
  unfold mkR
  rw [e0, show a / g = x by rw [e1]; exact Int.mul_ediv_cancel_left _ (by omega), show b / g = y by rw [e2]; exact Int.mul_ediv_cancel_left _ (by omega)]
 rw [e]
 refine ⟨yp, c, Int.dvd_trans ⟨g, by rw [e2, Int.mul_comm]⟩ hd, ?_⟩
 rw [e1, e2, Int.natAbs_mul, Int.natAbs_mul] at hl
 have gn : 0 < g.natAbs := by omega
 refine Nat.le_of_mul_le_mul_left (c := g.natAbs) ?_ gn
 show g.natAbs * x.natAbs ≤ g.natAbs * (N * y.natAbs)
 rw [Nat.mul_left_comm]
 exact hl
theorem Bq.mono {D N D' N' : Nat} {r : R} (h : Bq D N r) (hd : D ∣ D') (hn : N ≤ N') : Bq D' N' r :=
 ⟨h.pos, h.cop, Int.dvd_trans h.dvd (Int.ofNat_dvd.mpr hd), Nat.le_trans h.le (Nat.mul_le_mul_right _ hn)⟩
theorem Bq.plus {D N M : Nat} {r q : R} (hD : 0 < D) (h : Bq D N r) (k : Bq D M q) : Bq D (N + M) (plusR r q) := by
 obtain ⟨y, ey⟩ := h.dvd
 obtain ⟨v, ev⟩ := k.dvd
 have dp : (0 : Int) < (D : Int) := by omega
 have e : plusR r q = mkR (r.1 * y + q.1 * v) (D : Int) := by
  unfold plusR
  refine mkR_eq (Int.mul_pos h.pos k.pos) dp ?_
  rw [Int.add_mul, Int.add_mul]
  have a1 : r.1 * q.2 * (D : Int) = r.1 * y * (r.2 * q.2) := by rw [ey]; ac_rfl
  have a2 : q.1 * r.2 * (D : Int) = q.1 * v * (r.2 * q.2) := by rw [ev]; ac_rfl
  rw [a1, a2]
 rw [e]
 refine bq_mk dp (Int.dvd_refl _) ?_
 have b1 : (r.1 * y).natAbs ≤ N * D := by
  have : (D : Int).natAbs = r.2.natAbs * y.natAbs := by rw [ey, Int.natAbs_mul]
  rw [Int.natAbs_mul]
  have z := Nat.mul_le_mul_right y.natAbs h.le
  rw [Nat.mul_assoc, ← this] at z
  simpa using z
 have b2 : (q.1 * v).natAbs ≤ M * D := by
  have : (D : Int).natAbs = q.2.natAbs * v.natAbs := by rw [ev, Int.natAbs_mul]
  rw [Int.natAbs_mul]
  have z := Nat.mul_le_mul_right v.natAbs k.le
  rw [Nat.mul_assoc, ← this] at z
  simpa using z
 have b3 := Int.natAbs_add_le (r.1 * y) (q.1 * v)
 have b4 : (D : Int).natAbs = D := Int.natAbs_natCast D
 rw [b4, Nat.add_mul]
 omega
theorem Bq.neg {D N : Nat} {r : R} (h : Bq D N r) : Bq D N (-r.1, r.2) := ⟨h.pos, by show Int.gcd (-r.1) r.2 = 1; rw [Int.neg_gcd]; exact h.cop, h.dvd, by show (-r.1).natAbs ≤ _; rw [Int.natAbs_neg]; exact h.le⟩
theorem Bq.minus {D N M : Nat} {r q : R} (hD : 0 < D) (h : Bq D N r) (k : Bq D M q) : Bq D (N + M) (minusR r q) := by
 rw [← minus_eq]
 exact h.plus hD k.neg
theorem Bq.times {D N E M : Nat} {r q : R} (h : Bq D N r) (k : Bq E M q) : Bq (D * E) (N * M) (timesR r q) := by
 refine bq_mk (Int.mul_pos h.pos k.pos) ?_ ?_
 ·rw [Int.natCast_mul]; exact Int.mul_dvd_mul h.dvd k.dvd
 ·rw [Int.natAbs_mul, Int.natAbs_mul]
  have z := Nat.mul_le_mul h.le k.le
  calc r.1.natAbs * q.1.natAbs ≤ N * r.2.natAbs * (M * q.2.natAbs) := z
   _ = N * M * (r.2.natAbs * q.2.natAbs) := by ac_rfl
theorem mkR_pos {a b : Int} (ha : 0 < a) (hb : 0 < b) : 0 < (mkR a b).1 := Int.ediv_pos_of_pos_of_dvd ha (Int.le_of_lt (gcd_posR hb)) (Int.gcd_dvd_left a b)
theorem Bq.bot {D N : Nat} {r : R} (hD : 0 < D) (h : Bq D N r) : r.2.natAbs ≤ D := by
 have := Int.natAbs_dvd_natAbs.mpr h.dvd
 rw [Int.natAbs_natCast] at this
 exact Nat.le_of_dvd hD this
theorem Bq.wf {D N n : Nat} {r : R} (h : Bq D N r) (hD : 0 < D) (h1 : D < 2 ^ n) (h2 : N * D < 2 ^ n) : Wf n r :=
 ⟨h.pos, Nat.lt_of_le_of_lt (Nat.le_trans h.le (Nat.mul_le_mul_left _ (h.bot hD))) h2, Nat.lt_of_le_of_lt (h.bot hD) h1, h.cop⟩
theorem less_iff {r q : R} : lessR r q = true ↔ r.1 * q.2 < q.1 * r.2 := by unfold lessR; exact decide_eq_true_iff
theorem less_not {r q : R} : lessR r q = false ↔ q.1 * r.2 ≤ r.1 * q.2 := by unfold lessR; rw [decide_eq_false_iff_not, Int.not_lt]
theorem lt_le {a b c : R} (pa : 0 < a.2) (pb : 0 < b.2) (pc : 0 < c.2) (h : lessR a b = true) (k : lessR c b = false) : lessR a c = true := by
 rw [less_iff] at h ⊢
 rw [less_not] at k
 have h1 := Int.mul_lt_mul_of_pos_right h pc
 have k1 := Int.mul_le_mul_of_nonneg_right k (Int.le_of_lt pa)
 have e1 : b.1 * a.2 * c.2 = b.1 * c.2 * a.2 := by ac_rfl
 have z : a.1 * b.2 * c.2 < c.1 * b.2 * a.2 := by omega
 refine Int.lt_of_mul_lt_mul_right (a := b.2) ?_ (Int.le_of_lt pb)
 have e2 : a.1 * c.2 * b.2 = a.1 * b.2 * c.2 := by ac_rfl
 have e3 : c.1 * a.2 * b.2 = c.1 * b.2 * a.2 := by ac_rfl
 omega
theorem le_lt {a b c : R} (pa : 0 < a.2) (pb : 0 < b.2) (pc : 0 < c.2) (h : lessR b a = false) (k : lessR b c = true) : lessR a c = true := by
 rw [less_iff] at k ⊢
 rw [less_not] at h
 have h1 := Int.mul_le_mul_of_nonneg_right h (Int.le_of_lt pc)
 have k1 := Int.mul_lt_mul_of_pos_right k pa
 have e1 : b.1 * a.2 * c.2 = b.1 * c.2 * a.2 := by ac_rfl
 refine Int.lt_of_mul_lt_mul_right (a := b.2) ?_ (Int.le_of_lt pb)
 have e2 : a.1 * c.2 * b.2 = a.1 * b.2 * c.2 := by ac_rfl
 have e3 : c.1 * a.2 * b.2 = c.1 * b.2 * a.2 := by ac_rfl
 omega
theorem less_asym {a b : R} (h : lessR a b = true) : lessR b a = false := by
 rw [less_iff] at h
 rw [less_not]
 omega
theorem less_plus {r q : R} (hr : Red r) (hq : Red q) (h : 0 < q.1) : lessR r (plusR r q) = true := by
 rw [less_iff]
 have bp := Int.mul_pos hr.pos hq.pos
 have c := mkR_cross (a := r.1 * q.2 + q.1 * r.2) bp
 have p := (mkR_red (a := r.1 * q.2 + q.1 * r.2) bp).pos
 show r.1 * (mkR (r.1 * q.2 + q.1 * r.2) (r.2 * q.2)).2 < (mkR (r.1 * q.2 + q.1 * r.2) (r.2 * q.2)).1 * r.2
 generalize mkR (r.1 * q.2 + q.1 * r.2) (r.2 * q.2) = z at c p ⊢
 refine Int.lt_of_mul_lt_mul_right (a := r.2 * q.2) ?_ (Int.le_of_lt bp)
 have e1 : z.1 * r.2 * (r.2 * q.2) = z.1 * (r.2 * q.2) * r.2 := by ac_rfl
 rw [e1, c, Int.add_mul, Int.add_mul]
 have e2 : r.1 * q.2 * z.2 * r.2 = r.1 * z.2 * (r.2 * q.2) := by ac_rfl
 have e3 := Int.mul_pos (Int.mul_pos (Int.mul_pos h hr.pos) p) hr.pos
 omega
theorem mkR_nn {a b : Int} (ha : 0 ≤ a) : 0 ≤ (mkR a b).1 := Int.ediv_nonneg ha (by omega)
theorem plus_nn {r q : R} (hr : Red r) (hq : Red q) (h1 : 0 ≤ r.1) (h2 : 0 ≤ q.1) : 0 ≤ (plusR r q).1 :=
 mkR_nn (Int.add_nonneg (Int.mul_nonneg h1 (Int.le_of_lt hq.pos)) (Int.mul_nonneg h2 (Int.le_of_lt hr.pos)))
theorem minus_ne {r q : R} (hr : Red r) (hq : Red q) (h : lessR q r = true) : (minusR r q).1 ≠ 0 := fun z => by
 have bp := Int.mul_pos hr.pos hq.pos
 have c := mkR_cross (a := r.1 * q.2 - q.1 * r.2) bp
 have p := (mkR_red (a := r.1 * q.2 - q.1 * r.2) bp).pos
 rw [show (mkR (r.1 * q.2 - q.1 * r.2) (r.2 * q.2)).1 = 0 from z, Int.zero_mul] at c
 rw [less_iff] at h
 have := Int.mul_pos (show 0 < r.1 * q.2 - q.1 * r.2 by omega) p
 omega
theorem nn_less {r : R} : lessR r (0, 1) = false ↔ 0 ≤ r.1 := by
 rw [less_not]
 show 0 * r.2 ≤ r.1 * 1 ↔ _
 omega
theorem times_mk {a b : Int} {s : R} (hb : 0 < b) (hs : 0 < s.2) : timesR (mkR a b) s = mkR (a * s.1) (b * s.2) := by
 have hr := mkR_red (a := a) hb
 have hc := mkR_cross (a := a) hb
 unfold timesR
 refine mkR_eq (Int.mul_pos hr.pos hs) (Int.mul_pos hb hs) ?_
 generalize mkR a b = m at hr hc ⊢
 have e1 : m.1 * s.1 * (b * s.2) = m.1 * b * (s.1 * s.2) := by ac_rfl
 rw [e1, hc]
 ac_rfl
theorem mkR_one (k : Int) : mkR k 1 = (k, 1) := mkR_uniq (by decide) (by decide) (by simp) rfl
end B
namespace B
open PySem PySem.Spec L2 PyProof.Rows
inductive Rl where
 | pow (k : Int)
 | tab (rows : List (R × R))
def rowD : R × R := ((0, 1), (0, 1))
def slopeR (lo hi : R × R) : R := overR (minusR hi.2 lo.2) (minusR hi.1 lo.1)
def slp (rows : List (R × R)) (k : Nat) : R := slopeR (rows.getD k rowD) (rows.getD (k + 1) rowD)
def pOf (rows : List (R × R)) (s : R) : Nat := rows.countP fun r => lessR r.1 s
def qOf (rows : List (R × R)) (s : R) : Nat := rows.countP fun r => !lessR s r.1
def leftT (rows : List (R × R)) (s : R) : R := if pOf rows s = 0 then (0, 1) else slp rows (pOf rows s - 1)
def rightT (rows : List (R × R)) (s : R) : Option R := if qOf rows s < rows.length then some (slp rows (qOf rows s - 1)) else none
def powS (k : Int) (s : R) : R := timesR (k, 1) (powR s (k - 1).toNat)
def sidesOf : Rl -> R -> R × Option R
 | .pow k, s => (powS k s, some (powS k s))
 | .tab rows, s => (leftT rows s, rightT rows s)
def Inc (rows : List (R × R)) : Prop := rows.Pairwise fun a b => lessR a.1 b.1 = true
def AllP (rows : List (R × R)) : Prop := ∀ r ∈ rows, 0 < r.1.2
theorem cnt_p {s : R} (hs : 0 < s.2) : ∀ {rows : List (R × R)}, Inc rows -> AllP rows -> ∀ {k : Nat} {r : R × R}, rows[k]? = some r -> lessR r.1 s = decide (k < pOf rows s)
 | [], _, _, k, r, e => by simp at e
 | x :: t, hi, hp, k, r, e => by
  have hi' := List.pairwise_cons.mp hi
  have hpt : AllP t := fun y hy => hp y (List.mem_cons_of_mem _ hy)
  unfold pOf
  cases c : lessR x.1 s with
  | true =>
   rw [List.countP_cons_of_pos (p := fun r : R × R => lessR r.1 s) c]
   cases k with
   | zero =>
    simp at e
    rw [← e, c]
    simp
   | succ k =>
    rw [cnt_p hs hi'.2 hpt (k := k) (by simpa using e)]
    unfold pOf
    simp
  | false =>
   have z : t.countP (fun r => lessR r.1 s) = 0 := by
    rw [List.countP_eq_zero]
    intro y hy
    have h1 := hi'.1 y hy
    have h2 : lessR s y.1 = true := le_lt hs (hp x List.mem_cons_self) (hpt y hy) c h1
    rw [less_asym h2]
    simp
   rw [List.countP_cons_of_neg (by rw [c]; simp), z]
   cases k with
   | zero => simp at e; rw [← e, c]; simp
   | succ k =>
    have my : r ∈ t := List.mem_of_getElem? (i := k) (by simpa using e)
    have := (List.countP_eq_zero.mp z) r my
    simp at this
    rw [this]; simp
theorem cnt_q {s : R} (hs : 0 < s.2) : ∀ {rows : List (R × R)}, Inc rows -> AllP rows -> ∀ {k : Nat} {r : R × R}, rows[k]? = some r -> lessR s r.1 = decide (qOf rows s ≤ k)
 | [], _, _, k, r, e => by simp at e
 | x :: t, hi, hp, k, r, e => by
  have hi' := List.pairwise_cons.mp hi
  have hpt : AllP t := fun y hy => hp y (List.mem_cons_of_mem _ hy)
  unfold qOf
  cases c : lessR s x.1 with
  | false =>
   rw [List.countP_cons_of_pos (by rw [c]; rfl)]
   cases k with
   | zero =>
    simp at e
    rw [← e, c]
    simp
   | succ k =>
    rw [cnt_q hs hi'.2 hpt (k := k) (by simpa using e)]
    unfold qOf
    simp
  | true =>
   have all : ∀ y ∈ t, lessR s y.1 = true := fun y hy => lt_le hs (hp x List.mem_cons_self) (hpt y hy) c (less_asym (hi'.1 y hy))
   have z : t.countP (fun r => !lessR s r.1) = 0 := by
    rw [List.countP_eq_zero]
    intro y hy
    rw [all y hy]
    simp
   rw [List.countP_cons_of_neg (by rw [c]; simp), z]
   cases k with
   | zero => simp at e; rw [← e, c]; simp
   | succ k =>
    have my : r ∈ t := List.mem_of_getElem? (i := k) (by simpa using e)
    rw [all r my]; simp
abbrev D0 : Nat := 5822723907000000000
abbrev N0 : Nat := 1000000007
abbrev N1 : Nat := 17179869184
abbrev NR : Nat := 11000000077
abbrev N2 : Nat := 1180591620717411303424
structure RowsOk (rows : List (R × R)) : Prop where
 n2 : 2 ≤ rows.length
 n12 : rows.length ≤ 12
 inc : Inc rows
 zero : ∃ y, rows[0]? = some ((0, 1), y)
 sp : ∀ r ∈ rows, Bq D0 NR r.1
 pw : ∀ r ∈ rows, Bq (D0 * D0) N2 r.2
def RlOk : Rl -> Prop
 | .pow k => 2 ≤ k /\ k ≤ 4
 | .tab rows => RowsOk rows
structure SpOk (s : R) : Prop where
 bq : Bq (D0 * 2) N1 s
 nn : 0 ≤ s.1
def Below : Rl -> R -> Prop
 | .pow _, _ => True
 | .tab rows, s => ∃ r, rows[rows.length - 1]? = some r /\ lessR r.1 s = false
theorem SpOk.wf {s : R} (h : SpOk s) : Wf 98 s := h.bq.wf (by decide) (by decide) (by decide)
theorem wfS {r : R} (h : Bq D0 NR r) : Wf 98 r := h.wf (by decide) (by decide) (by decide)
theorem wfP {r : R} (h : Bq (D0 * D0) N2 r) : Wf 197 r := h.wf (by decide) (by decide) (by decide)
theorem RowsOk.allP {rows : List (R × R)} (h : RowsOk rows) : AllP rows := fun r hr => (h.sp r hr).pos
theorem RowsOk.slope {rows : List (R × R)} (h : RowsOk rows) {i j : Nat} {a b : R × R} (hij : i < j) (ha : rows[i]? = some a) (hb : rows[j]? = some b) :
  (minusR b.1 a.1).1 ≠ 0 /\ Wf 99 (minusR b.1 a.1) /\ Wf 198 (minusR b.2 a.2) /\ Wf 300 (slopeR a b) := by
 have ma := List.mem_of_getElem? ha
 have mb := List.mem_of_getElem? hb
 have lt : lessR a.1 b.1 = true := by
  obtain ⟨h1, e1⟩ := List.getElem?_eq_some_iff.mp ha
  obtain ⟨h2, e2⟩ := List.getElem?_eq_some_iff.mp hb
  have := List.pairwise_iff_getElem.mp h.inc i j h1 h2 hij
  rw [e1, e2] at this
  exact this
 have ne := minus_ne (h.sp b mb).red (h.sp a ma).red lt
 have w1 : Wf 99 (minusR b.1 a.1) := ((h.sp b mb).minus (by decide) (h.sp a ma)).wf (by decide) (by decide) (by decide)
 have w2 : Wf 198 (minusR b.2 a.2) := ((h.pw b mb).minus (by decide) (h.pw a ma)).wf (by decide) (by decide) (by decide)
 exact ⟨ne, w1, w2, (over_wf w2 w1 ne).mono (by decide)⟩
theorem getD_at {rows : List (R × R)} {k : Nat} {a : R × R} (h : rows[k]? = some a) : rows.getD k rowD = a := by rw [List.getD_eq_getElem?_getD, h]; rfl
theorem slp_at {rows : List (R × R)} {k : Nat} {a b : R × R} (ha : rows[k]? = some a) (hb : rows[k + 1]? = some b) : slp rows k = slopeR a b := by unfold slp; rw [getD_at ha, getD_at hb]
theorem RowsOk.p_lt {rows : List (R × R)} (h : RowsOk rows) {s : R} (hs : 0 < s.2) (hb : Below (.tab rows) s) : pOf rows s < rows.length := by
 obtain ⟨r, e, c⟩ := hb
 have := cnt_p hs h.inc h.allP e
 rw [c] at this
 have z := of_decide_eq_false this.symm
 have := h.n2
 omega
theorem RowsOk.pq {rows : List (R × R)} (h : RowsOk rows) {s : R} (hs : 0 < s.2) (hn : 0 ≤ s.1) (hp : pOf rows s < rows.length) {r : R × R} (e : rows[pOf rows s]? = some r) :
  (lessR s r.1 = true -> 0 < pOf rows s /\ qOf rows s = pOf rows s) /\ (lessR s r.1 = false -> qOf rows s = pOf rows s + 1) := by
 have c1 := cnt_p hs h.inc h.allP e
 have c2 := cnt_q hs h.inc h.allP e
 have le : ∀ k, k < pOf rows s -> k < qOf rows s := fun k hk => by
  have ek : rows[k]? = some (rows[k]'(by omega)) := List.getElem?_eq_getElem _
  have d1 := cnt_p hs h.inc h.allP ek
  have d2 := cnt_q hs h.inc h.allP ek
  rw [decide_eq_true hk] at d1
  rw [less_asym d1] at d2
  have := of_decide_eq_false d2.symm
  omega
 constructor
 ·intro z
  rw [z] at c2
  have q := of_decide_eq_true c2.symm
  have pp : 0 < pOf rows s := by
   rcases Nat.eq_zero_or_pos (pOf rows s) with w | w
   ·obtain ⟨y, ey⟩ := h.zero
    rw [w] at e
    rw [ey] at e
    cases e
    have := nn_less.mpr hn
    rw [z] at this
    cases this
   ·exact w
  refine ⟨pp, ?_⟩
  have := le (pOf rows s - 1) (by omega)
  omega
 ·intro z
  rw [z] at c2
  have q := of_decide_eq_false c2.symm
  have up : qOf rows s ≤ pOf rows s + 1 := by
   by_cases w : pOf rows s + 1 < rows.length
   ·have ek : rows[pOf rows s + 1]? = some (rows[pOf rows s + 1]'w) := List.getElem?_eq_getElem _
    have d2 := cnt_q hs h.inc h.allP ek
    have lt : lessR r.1 (rows[pOf rows s + 1]'w).1 = true := by
     obtain ⟨h1, e1⟩ := List.getElem?_eq_some_iff.mp e
     have := List.pairwise_iff_getElem.mp h.inc _ _ h1 w (Nat.lt_succ_self _)
     rw [e1] at this
     exact this
    have c1' : lessR r.1 s = false := by rw [c1]; simp
    have lt2 : lessR s (rows[pOf rows s + 1]'w).1 = true := le_lt hs (h.allP r (List.mem_of_getElem? e)) (h.allP _ (List.getElem_mem _)) c1' lt
    rw [lt2] at d2
    exact of_decide_eq_true d2.symm
   ·have : qOf rows s ≤ rows.length := List.countP_le_length
    omega
  omega
theorem RowsOk.q_pos {rows : List (R × R)} (h : RowsOk rows) {s : R} (hs : 0 < s.2) (hn : 0 ≤ s.1) : 0 < qOf rows s := by
 obtain ⟨y, ey⟩ := h.zero
 have := cnt_q hs h.inc h.allP ey
 rw [nn_less.mpr hn] at this
 have := of_decide_eq_false this.symm
 omega
theorem k_wf {k : Int} (h : 2 ≤ k /\ k ≤ 4) : Wf 3 (k, 1) := ⟨by show (0 : Int) < 1; decide, by show k.natAbs < 2 ^ 3; omega, by show (1 : Int).natAbs < 2 ^ 3; decide, by show Int.gcd k 1 = 1; simp⟩
def lAt (rows : List (R × R)) (s : R) (i : Nat) : R := if 0 < pOf rows s /\ pOf rows s - 1 < i then slp rows (pOf rows s - 1) else (0, 1)
def rAt (rows : List (R × R)) (s : R) (i : Nat) : Option R := if 0 < qOf rows s /\ qOf rows s - 1 < i then some (slp rows (qOf rows s - 1)) else none
def powAt (k : Int) (s : R) (j : Nat) : R := mkR (k * s.1 ^ j) (s.2 ^ j)
theorem powAt_zero (k : Int) (s : R) : powAt k s 0 = (k, 1) := by unfold powAt; rw [Int.pow_zero, Int.pow_zero, Int.mul_one]; exact mkR_one k
theorem powAt_succ {k : Int} {s : R} (hs : 0 < s.2) (j : Nat) : timesR (powAt k s j) s = powAt k s (j + 1) := by
 unfold powAt
 rw [times_mk (Int.pow_pos hs) hs, Int.pow_succ, Int.pow_succ, Int.mul_assoc]
theorem powAt_end {k : Int} {s : R} (hr : Red s) : powAt k s (k - 1).toNat = powS k s := by
 unfold powS powAt timesR
 rw [pow_eq_red hr, Int.one_mul]
theorem powAt_wf {k : Int} {s : R} (h : 2 ≤ k /\ k ≤ 4) (w : Wf 98 s) {j : Nat} (hj : j ≤ 3) : Wf 300 (powAt k s j) := by
 have e := pow_eq_red ⟨w.pos, w.cop⟩ j
 have pw := pow_wf w j
 have a := times_wf (k_wf h) pw
 have z : timesR (k, 1) (powR s j) = powAt k s j := by
  unfold timesR powAt
  rw [e, Int.one_mul]
 rw [z] at a
 refine a.mono ?_
 have : j * 98 ≤ 3 * 98 := Nat.mul_le_mul_right _ hj
 omega
def bearM (l : R) (r : Option R) (g : R) : Bool := !lessR g l && (match r with | none => true | some x => !lessR x g)
end B
namespace B
def val (r : R) : Rat := (r.1 : Rat) / (r.2 : Rat)
theorem ne_cast {b : Int} (h : 0 < b) : (b : Rat) ≠ 0 := fun z => by
 have : b = 0 := Rat.intCast_inj.mp (by rw [z]; rfl)
 omega
theorem val_inj {r q : R} (hr : Red r) (hq : Red q) (h : val r = val q) : r = q := by
 have h1 := ne_cast hr.pos
 have h2 := ne_cast hq.pos
 have e : r.1 * q.2 = q.1 * r.2 := by
  refine Rat.intCast_inj.mp ?_
  rw [Rat.intCast_mul, Rat.intCast_mul]
  unfold val at h
  generalize (r.1 : Rat) = x at *
  generalize (r.2 : Rat) = y at *
  generalize (q.1 : Rat) = u at *
  generalize (q.2 : Rat) = v at *
  grind
 have e1 : mkR r.1 r.2 = (r.1, r.2) := mkR_uniq hr.pos hr.pos hr.cop rfl
 have e2 : mkR r.1 r.2 = (q.1, q.2) := mkR_uniq hr.pos hq.pos hq.cop e.symm
 exact e1.symm.trans e2
end B
namespace B
def slV (rows : List (R × R)) (i : Nat) : Rat := (val (rows.getD (i + 1) rowD).2 - val (rows.getD i rowD).2) / (val (rows.getD (i + 1) rowD).1 - val (rows.getD i rowD).1)
section
variable {s p : Nat -> Rat} {n : Nat}
def sl (s p : Nat -> Rat) (i : Nat) : Rat := (p (i + 1) - p i) / (s (i + 1) - s i)
end
end B
namespace B
open PySem PySem.Spec L2 PyProof.Rows
structure QE (X : Cx) (e : Expr) (t : TE) : Prop where
 p : PE X e t
structure QT (X : Cx) (e : Expr) (t : TT) : Prop where
 p : PT X e t
structure QW (X : Cx) (e : Expr) (t : TT) : Prop where
 p : PW X e t
structure QA (X : Cx) (es : List Expr) (t : TA) : Prop where
 p : PA X es t
structure QS (X : Cx) (st : Stmt) (t : TS) : Prop where
 p : PS X st t
structure QSs (X : Cx) (st : List Stmt) (t : TS) : Prop where
 p : PSs X st t
structure QI (X : Cx) (tg iter : Expr) (wi : TI) : Prop where
 p : PI X tg iter wi
structure QG (X : Cx) (target : Expr) (t : TG) : Prop where
 p : PG X target t
structure QGs (X : Cx) (ts : List Expr) (t : TGs) : Prop where
 p : PGs X ts t
theorem QSs.ok {X : Cx} {b : List Stmt} {t : TS} {D : Ends} {σ : L2.St} {H : Hp} (h : QSs X b t) (r : t D σ H) : ∃ t : TS, PSs X b t /\ t D σ H := ⟨t, h.p, r⟩
structure QO (X : Cx) (o : Option Expr) (t : L2.TO) : Prop where
 p : PO X o t
section
set_option autoImplicit true
set_option relaxedAutoImplicit true
theorem qv  (i : Nat) {x : Str} {pos : Pos} (hN : X.N[i]? = some x := by rfl) (hv : Vis X.env.scope x := by first | exact Or.inl rfl | exact Or.inr (Or.inl rfl) | exact Or.inr (Or.inr rfl)) (hd : (x == ("__debug__" : Str)) = false := by decide) (hcd : (x == ("__classdict__" : Str)) = false := by decide) : QE X (.Name x pos) (tVar i) := ⟨pv i hN hv hd hcd⟩
theorem qe_int  {i j pos} : QE X (.Constant (.int i) j pos) (tC (.int i)) := ⟨pe_int ⟩
theorem qe_bl  {b j pos} : QE X (.Constant (.bool b) j pos) (tC (.bl b)) := ⟨pe_bl ⟩
theorem qe_non  {j pos} : QE X (.Constant .none j pos) (tC .non) := ⟨pe_non ⟩
theorem qe_str  {x j pos} : QE X (.Constant (.str x) j pos) (tC (.str x)) := ⟨pe_str ⟩
theorem qe_glob  {x : Str} {v : V} {u : Value} {pos : Pos} (hg : Gl X x) (hm : X.mg x = some u) (r : RelV v u) (hd : (x == ("__debug__" : Str)) = false := by decide) : QE X (.Name x pos) (tC v) := ⟨pe_glob hg hm r hd⟩
theorem qe_bltn  {x : Str} {v : V} {u : Value} {pos : Pos} (hg : Gl X x) (hm : X.mg x = none) (hv : bootBuiltins x = some u) (r : RelV v u) (hn : x ≠ "__name__" := by decide) (hd : (x == ("__debug__" : Str)) = false := by decide) : QE X (.Name x pos) (tC v) := ⟨pe_bltn hg hm hv r hn hd⟩
theorem qe_un  {op : UnaryOp} {r : V -> Hp -> VK -> Prop} (ho : UnR X (unaryOp op) r) (ha : QE X a ta) : QE X (.UnaryOp op a pos) (tUn r ta) := ⟨pe_un ho ha.p⟩
theorem qe_not  (ha : QE X a ta) : QE X (.UnaryOp .Not a pos) (tNotV ta) := ⟨pe_not ha.p⟩
theorem qe_op  {op : Operator} {r : R2} (ho : OpR X (binaryOp op) r) (ha : QE X a ta) (hb : QE X b tb) : QE X (.BinOp a op b pos) (tOp r ta tb) := ⟨pe_op ho ha.p hb.p⟩
theorem qe_one  {op} {t : TE} (h : QE X a t) : QE X (.BoolOp op [a] pos) t := ⟨pe_one h.p⟩
theorem qe_and {rest : List Expr} (ha : QE X a ta) (hb : QE X (.BoolOp .And (b :: rest) pos) tb) : QE X (.BoolOp .And (a :: b :: rest) pos) (tAndV ta tb) := ⟨pe_and ha.p hb.p⟩
theorem qe_or {rest : List Expr} (ha : QE X a ta) (hb : QE X (.BoolOp .Or (b :: rest) pos) tb) : QE X (.BoolOp .Or (a :: b :: rest) pos) (tOrV ta tb) := ⟨pe_or ha.p hb.p⟩
theorem qe_cmpR  {op : CmpOp} {r : R2} (ho : OpR X (compareOp op) r) (ha : QE X a ta) (hb : QE X b tb) (hm : behindInMarks op b = false) : QE X (.Compare a [op] [b] pos) (tOp r ta tb) := ⟨pe_cmpR ho ha.p hb.p hm⟩
theorem qe_ifExp  {c : Expr} (hc : QT X c tA) (ha : QE X a ta) (hb : QE X b tb) : QE X (.IfExp c a b pos) (tIf tA ta tb) := ⟨pe_ifExp hc.p ha.p hb.p⟩
theorem qe_lst  (h : QA X es t) : QE X (.List es pos) (tLst t) := ⟨pe_lst h.p⟩
theorem qe_tup  {x1} (h : QA X es t) : QE X (.Tuple es x1 pos) (tTup t) := ⟨pe_tup h.p⟩
theorem qe_slice {lo hi : Option Expr} {r : V -> Option Int -> Option Int -> Hp -> VK -> Prop} (hr : SlR X r) (he : QE X e te) (hl : QO X lo tl) (hu : QO X hi th) : QE X (.Subscript e (.Slice lo hi none p2) pos) (tSl r te tl th) := ⟨pe_slice hr he.p hl.p hu.p⟩
theorem qo_none   : QO X none tNoPart := ⟨po_none ⟩
theorem qo_some  (h : QE X e te) : QO X (some e) (tPart te) := ⟨po_some h.p⟩
theorem qe_ix  {r : R2} (hr : IxR X r) (ha : QE X a ta) (hb : QE X b tb) (hs : PlainIx b) : QE X (.Subscript a b pos) (tOp r ta tb) := ⟨pe_ix hr ha.p hb.p hs⟩
theorem qe_call  (F : FnOk X.prog X.w X.K X.mg X.base CX k f fd ps sp) (hr : Room k X.A) (hg : Gl X x) (hm : X.mg x = some (.ref f)) (hk : PySem.W.keepIn X.K (.ref f) = true) (hb : Binds X.K fd ps ds) (hd : Vals dvs ds) (hx : Passes CX X E) (ha : QA X (e :: es) t) (hdb : (x == ("__debug__" : Str)) = false := by decide) (he : starEach (e :: es) X.env = (false, eval e X.env) :: starEach es X.env := by rfl) (hpl : (backTo pos (starEach es X.env)).any (·.1) = false := by rfl) : QE X (.Call (.Name x p) (e :: es) [] pos) (tCall sp dvs E t) := ⟨pe_call F hr hg hm hk hb hd hx ha.p hdb he hpl⟩
theorem qe_callB {id : String} (hc : CallR X (.builtin id) r) (hg : Gl X x) (hm : X.mg x = none) (hv : bootBuiltins x = some (.builtin id)) (ha : QA X (e :: es) t) (hn : x ≠ "__name__" := by decide) (hdb : (x == ("__debug__" : Str)) = false := by decide) (he : starEach (e :: es) X.env = (false, eval e X.env) :: starEach es X.env := by rfl) (hpl : (backTo pos (starEach es X.env)).any (·.1) = false := by rfl) : QE X (.Call (.Name x p) (e :: es) [] pos) (tCB r t) := ⟨pe_callB hc hg hm hv ha.p hn hdb he hpl⟩
theorem qe_callTy  (hc : CallR X (.type T) r) (hg : Gl X x) (hm : X.mg x = none) (hv : bootBuiltins x = some (.type T)) (ha : QA X (e :: es) t) (hn : x ≠ "__name__" := by decide) (hdb : (x == ("__debug__" : Str)) = false := by decide) (he : starEach (e :: es) X.env = (false, eval e X.env) :: starEach es X.env := by rfl) (hpl : (backTo pos (starEach es X.env)).any (·.1) = false := by rfl) : QE X (.Call (.Name x p) (e :: es) [] pos) (tCB r t) := ⟨pe_callTy hc hg hm hv ha.p hn hdb he hpl⟩
theorem qe_bm {id : String} (pa : PlainAttrs T) (slot : Slot T name id) (hty : typeOf (.builtin id) = pure (.type "method_descriptor")) (hm : MtR X id r) (ho : QE X o to) (ha : QA X (e :: es) t) (hbase : attributeBase o name X.env (eval o X.env) = eval o X.env := by rfl) (hfew : ((backTo cpos (starEach (e :: es) X.env)).all (fun x => !x.1) && (backToKw cpos (keywordEach [] X.env)).all (fun x => x.1.isSome)
   && decide ((e :: es).length + ([] : List Keyword).length + (if ([] : List Keyword).isEmpty then 0 else 1) < 30)) = true := by rfl) (hline : (apos.endLine == cpos.line) = true := by rfl) (hs : starEach (e :: es) X.env = (false, eval e X.env) :: starEach es X.env := by rfl) (hplain : (backTo cpos (starEach es X.env)).any (·.1) = false := by rfl) : QE X (.Call (.Attribute o name apos) (e :: es) [] cpos) (tBM X.K T r to t) := ⟨pe_bm pa slot hty hm ho.p ha.p hbase hfew hline hs hplain⟩
theorem qa_nil   : QA X [] tNil := ⟨pa_nil ⟩
theorem qa_cons  (ha : QE X e te) (hr : QA X es t) (hs : starEach (e :: es) X.env = (false, eval e X.env) :: starEach es X.env := by rfl) : QA X (e :: es) (tCons te t) := ⟨pa_cons ha.p hr.p hs⟩
theorem qt_cmpR  {op : CmpOp} {r : R2} (ho : OpR X (compareOp op) r) (ha : QE X a ta) (hb : QE X b tb) (hm : behindInMarks op b = false) : QT X (.Compare a [op] [b] pos) (tTest (tOp r ta tb)) := ⟨pt_cmpR ho ha.p hb.p hm⟩
theorem qt_val  {e : Expr} {t : TE} (h : QE X e t) (he : ∀ whole, isTrue e X.env whole = (do let v ← whole; standAt e.pos; holding [v] (truthy v)) := by intro _; rfl) : QT X e (tB t) := ⟨pt_val h.p he⟩
theorem qt_not  (ha : QT X a tA) : QT X (.UnaryOp .Not a pos) (tNot tA) := ⟨pt_not ha.p⟩
theorem qw_and {rest : List Expr} (ha : QT X a tA) (hb : QW X (.BoolOp .And (b :: rest) pos) tB') : QW X (.BoolOp .And (a :: b :: rest) pos) (tAnd tA tB') := ⟨pw_and ha.p hb.p⟩
theorem qw_and1  (ha : QT X a tA) : QW X (.BoolOp .And [a] pos) tA := ⟨pw_and1 ha.p⟩
theorem qw_or {rest : List Expr} (ha : QT X a tA) (hb : QW X (.BoolOp .Or (b :: rest) pos) tB') : QW X (.BoolOp .Or (a :: b :: rest) pos) (tOr tA tB') := ⟨pw_or ha.p hb.p⟩
theorem qw_or1  (ha : QT X a tA) : QW X (.BoolOp .Or [a] pos) tA := ⟨pw_or1 ha.p⟩
theorem qw_pt  {X : Cx} {e : Expr} {t : TT} (h : QW X e t) : QT X e t := ⟨PW.pt h.p⟩
theorem qs_set  {i : Nat} {x : Str} {e : Expr} {te : TE} {pos' : Pos} (hN : X.N.Nodup) (hi : X.N[i]? = some x) (hx : Loc X.env.scope x) (he : QE X e te) (hs : swapsWith e (some (.Name x pos')) pos.line X.env = pure false := by rfl) (hf : X.fn x = true ∨ X.env.scope.names.lookup x = some .local := by first | exact .inl rfl | exact .inr rfl | assumption) : QS X (.Assign [.Name x pos'] e pos) (tAsg te (gName i)) := ⟨ps_set hN hi hx he.p hs hf⟩
theorem qs_par  {i j : Nat} {x y : Str} {a b : Expr} {ta : TA} {px py pt : Pos} {kt k2 pt2} (hc : X.calm = true) (hN : X.N.Nodup) (hi : X.N[i]? = some x) (hj : X.N[j]? = some y) (hij : i ≠ j) (hx : X.env.scope.names.lookup x = some .local) (hy : X.env.scope.names.lookup y = some .local) (ha : QA X [a, b] ta) (hw : swappedStores [.Tuple [.Name x px, .Name y py] kt pt] (.Tuple [a, b] k2 pt2) X.env = pure (some [x, y])) (hs : swapsWithSole [.Tuple [.Name x px, .Name y py] kt pt] (.Tuple [a, b] k2 pt2) pos.line X.env = pure false := by rfl) : QS X (.Assign [.Tuple [.Name x px, .Name y py] kt pt] (.Tuple [a, b] k2 pt2) pos) (tPar i j ta) := ⟨ps_par hc hN hi hj hij hx hy ha.p hw hs⟩
theorem qs_asg  {tg e : Expr} {te : TE} {g : TG} (he : QE X e te) (hg : QG X tg g) (hs : swapsWithSole [tg] e pos.line X.env = pure false := by rfl) (hw : swappedStores [tg] e X.env = pure none := by rfl) (h1 : (assignEach [tg] X.env).map (·.2) = [assign tg X.env] := by rfl) : QS X (.Assign [tg] e pos) (tAsg te g) := ⟨ps_asg he.p hg.p hs hw h1⟩
theorem qs_aug  {i : Nat} {x : Str} {e : Expr} {te : TE} {op : Operator} {ti : TIp} {pos' : Pos} (hN : X.N.Nodup) (hi : X.N[i]? = some x) (hx : Loc X.env.scope x) (he : QE X e te) (ho : PIp X op ti) (hf : X.fn x = true ∨ X.env.scope.names.lookup x = some .local := by first | exact .inl rfl | exact .inr rfl | assumption) : QS X (.AugAssign (.Name x pos') op e pos) (tAug i te ti) := ⟨ps_aug hN hi hx he.p ho hf⟩
theorem qs_if  {c : Expr} {a b : List Stmt} {tc : TT} (hc : QT X c tc) (ha : QSs X a t) (hb : QSs X b u) : QS X (.If c a b pos) (tIfS tc t u) := ⟨ps_if hc.p ha.p hb.p⟩
theorem qs_while  {c : Expr} {body : List Stmt} {tc : TT} {tb : TS} (hp : PassesOwn (model X.prog X.w) X.A X.env X.xe) (hc : QT X c tc) (hb : QSs X body tb) : QS X (.While c body [] pos) (tWhile tc tb) := ⟨ps_while hp hc.p hb.p⟩
theorem qs_for  {iter : Expr} {body : List Stmt} {wi : TI} {g : TG} {tb : TS} {pos : Pos} (hp : PassesOwn (model X.prog X.w) X.A X.env X.xe) (hc : X.calm = true) (hi : QI X tg iter wi) (hg : QG X tg g) (hb : QSs X body tb) (hs : ∀ x, foldedSetIterable iter X.env x = pure x := by intro _; rfl) : QS X (.For tg iter body [] pos) (tFor wi g tb) := ⟨ps_for hp hc hi.p hg.p hb.p hs⟩
theorem qs_ret  (he : QE X e te) : QS X (.Return (some e) pos) (tRet te) := ⟨ps_ret he.p⟩
theorem qs_expr  (he : QE X e te) (hs : swapsWith e none pos.line X.env = pure false := by rfl) : QS X (.Expr e pos) (tDrop te) := ⟨ps_expr he.p hs⟩
theorem qs_never {st : Stmt}  : QS X st tNever := ⟨ps_never ⟩
theorem qss_nil   : QSs X [] tNext := ⟨pss_nil ⟩
theorem qss_one {st : Stmt} (h1 : QS X st t) : QSs X [st] t := ⟨pss_one h1.p⟩
theorem qss_cons {st : Stmt} {rest : List Stmt} (h1 : QS X st t) (h2 : QSs X rest u) : QSs X (st :: rest) (tSeq t u) := ⟨pss_cons h1.p h2.p⟩
theorem qi_range1  {a : Expr} {ta : TA} {p pos : Pos} (hg : Gl X "range") (hm : X.mg "range" = none) (ha : QA X [a] ta) (hs : starEach [a] X.env = [(false, eval a X.env)] := by rfl) : QI X tg (.Call (.Name "range" p) [a] [] pos) (iRng1 ta) := ⟨pi_range1 hg hm ha.p hs⟩
theorem qi_list {tg : Expr} {l : Expr} {tl : TE} (hl : QE X l tl) : QI X tg l (iList X.K tl) := ⟨pi_list hl.p⟩
theorem qi_tup  {l : Expr} {tl : TE} (hl : QE X l tl) : QI X tg l (iTup X.K tl) := ⟨pi_tup hl.p⟩
theorem qg_name  {i : Nat} {x : Str} (hN : X.N.Nodup) (hi : X.N[i]? = some x) (hx : Loc X.env.scope x) (hf : X.fn x = true ∨ X.env.scope.names.lookup x = some .local := by first | exact .inl rfl | exact .inr rfl | assumption) : QG X (.Name x pos) (gName i) := ⟨pg_name hN hi hx hf⟩
theorem qg_tup  {es : List Expr} {k : Nat} {t : TGs} {n : Nat} (hc : X.calm = true) (h : QGs X es t) (hn : (assignEach es X.env).length = n := by rfl) (hst : (assignEach es X.env).findIdx? (·.1) = none := by rfl) : QG X (.Tuple es k pos) (gTup X.K n t) := ⟨pg_tup hc h.p hn hst⟩
theorem qg_sub  {o i : Expr} {to ti : TE} {t : TSet} (ho : QE X o to) (hi : QE X i ti) (hs : PSet X t) (ha : ∀ v, assign (.Subscript o i pos) X.env v = (do
   let ov ← holding [v] (eval o X.env)
   let iv ← holding [v, ov] (eval i X.env)
   standAt pos
   holding [v, ov, iv] (setItem ov iv v)
   release [v, ov, iv] []) := by intro _; rfl) : QG X (.Subscript o i pos) (gSub to ti t) := ⟨pg_sub ho.p hi.p hs ha⟩
theorem qgs_nil   : QGs X [] gNil := ⟨pgs_nil ⟩
theorem qgs_cons  {e : Expr} {es : List Expr} {t : TG} {u : TGs} (h1 : QG X e t) (h2 : QGs X es u) (hs : (assignEach (e :: es) X.env).map (·.2) = assign e X.env :: (assignEach es X.env).map (·.2) := by rfl) : QGs X (e :: es) (gCons t u) := ⟨pgs_cons h1.p h2.p hs⟩
end
structure QTs (X : Cx) (ifs : List Expr) (t : TT) : Prop where
 p : PTs X ifs t
section
set_option autoImplicit true
set_option relaxedAutoImplicit true
theorem qts_nil  {X : Cx} : QTs X [] tYes := ⟨pts_nil ⟩
theorem qts_one  {X : Cx} {c : Expr} {t : TT} (h : QT X c t) : QTs X [c] t := ⟨pts_one h.p⟩
theorem qe_lcomp  (hc : X.calm = true) (hi : QI X tg iter wi) (hg : ∀ C fp pins s H, QG (cxC X N' scope cl C fp pins s H) tg g) (ht : ∀ C fp pins s H, QTs (cxC X N' scope cl C fp pins s H) ifs tt) (he : ∀ C fp pins s H, QE (cxC X N' scope cl C fp pins s H) elt te) (hfree : FreeOk X scope cl N' src) (hclos : closureFor scope X.env = pure cl) (hcell : ∀ x ∈ scope.names, x.2 ≠ .cell) (hkind : scope.kind = .function) (hnames : ∀ x ∈ scope.names, x.2 = .local -> scope.names.lookup x.1 = some .local) (hcl : CellsOk X scope cl) (hs : ∀ x, foldedSetIterable iter X.env x = pure x := by intro _; rfl) : QE X (.ListComp elt [⟨tg, iter, ifs, 0⟩] scope pos) (tComp wi src g tt te) := ⟨pe_lcomp hc hi.p (fun z0 z1 z2 z3 z4 => (hg z0 z1 z2 z3 z4).p) (fun z0 z1 z2 z3 z4 => (ht z0 z1 z2 z3 z4).p) (fun z0 z1 z2 z3 z4 => (he z0 z1 z2 z3 z4).p) hfree hclos hcell hkind hnames hcl hs⟩
theorem qs_setC  {i : Nat} {x : Str} {pos' pos2 : Pos} (hN : X.N.Nodup) (hi' : X.N[i]? = some x) (hx : Loc X.env.scope x) (hc : X.calm = true) (hi : QI X tg iter wi) (hg : ∀ C fp pins s H, QG (cxC X N' scope cl C fp pins s H) tg g) (ht : ∀ C fp pins s H, QTs (cxC X N' scope cl C fp pins s H) ifs tt) (he : ∀ C fp pins s H, QE (cxC X N' scope cl C fp pins s H) elt te) (hfree : FreeOk X scope cl N' src) (hclos : closureFor scope X.env = pure cl) (hcell : ∀ x ∈ scope.names, x.2 ≠ .cell) (hkind : scope.kind = .function) (hnames : ∀ x ∈ scope.names, x.2 = .local -> scope.names.lookup x.1 = some .local) (hcl : CellsOk X scope cl) (hs : ∀ x, foldedSetIterable iter X.env x = pure x := by intro _; rfl) (hsw : swapsWith (.ListComp elt [⟨tg, iter, ifs, 0⟩] scope pos) (some (.Name x pos')) pos2.line X.env = pure true := by rfl) (hf : X.fn x = true ∨ X.env.scope.names.lookup x = some .local := by first | exact .inl rfl | exact .inr rfl | assumption) : QS X (.Assign [.Name x pos'] (.ListComp elt [⟨tg, iter, ifs, 0⟩] scope pos) pos2) (tAsg (tComp wi src g tt te) (gName i)) := ⟨ps_setC hN hi' hx hc hi.p (fun z0 z1 z2 z3 z4 => (hg z0 z1 z2 z3 z4).p) (fun z0 z1 z2 z3 z4 => (ht z0 z1 z2 z3 z4).p) (fun z0 z1 z2 z3 z4 => (he z0 z1 z2 z3 z4).p) hfree hclos hcell hkind hnames hcl hs hsw hf⟩
end
section
variable {X : Cx} {K : PySem.W.Frag}
theorem ix_tupK (hK : X.K = K) : IxR X (rIxT K) := hK ▸ ix_tup
def rLen (K : PySem.W.Frag) : List V -> Hp -> VK -> Prop := fun xs H Q => ∃ p ys, xs = [.ref p] /\ (SqL K H p ys ∨ SqT K H p ys) /\ Q (.int ys.length) H
end
theorem star_bin {a b : Expr} {op : Operator} {pos : Pos} {es : List Expr} {env : Env} : starEach (.BinOp a op b pos :: es) env = (false, eval (.BinOp a op b pos) env) :: starEach es env := rfl
theorem for_zip {K : PySem.W.Frag} {a b : Addr} {xs ys : List V} {n : Nat} {g : TG} {tb : TS} {D : Ends} {σ : L2.St} {H : Hp} (Pv : Nat -> L2.St -> Hp -> Prop) (h1 : n ≤ xs.length) (h2 : n ≤ ys.length) (h3 : xs.length ≤ n ∨ ys.length ≤ n) (h0 : Pv 0 σ H)
  (hl : ∀ i σ H, i ≤ n -> Pv i σ H -> SqT K H a xs /\ SqT K H b ys)
  (hs : ∀ i x y p σ H, i < n -> xs[i]? = some x -> ys[i]? = some y -> Pv i σ H -> H p = none -> g (.ref p) σ (upd H p (.tup [x, y])) fun σ2 H2 => tb { D with nx := Pv (i + 1), ct := Pv (i + 1), bk := D.nx } σ2 H2) (hd : ∀ σ H, Pv n σ H -> D.nx σ H) :
  ∃ W : Nat -> Nat -> L2.St -> Hp -> Prop, (∃ m, W 0 m σ H) /\ ∀ i m σ H, W i m σ H →
   ((Itz K a b).stop i H /\ D.nx σ H) ∨ ((Itz K a b).go i H /\ ∃ N : L2.St -> Hp -> Prop, (∀ σ' H', N σ' H' -> ∃ m', m' < m /\ W (i + 1) m' σ' H') /\ ∀ x H', (Itz K a b).yld i H x H' -> g x σ H' fun σ2 H2 => tb { D with nx := N, ct := N, bk := D.nx } σ2 H2) := by
 refine ⟨fun i m σ H => m = n - i /\ i ≤ n /\ Pv i σ H, ⟨n, by simp, Nat.zero_le _, h0⟩, ?_⟩
 rintro i m σ H ⟨rfl, hi, p⟩
 obtain ⟨q1, q2⟩ := hl i σ H hi p
 by_cases hlt : i < n
 ·have e1 : xs[i]? = some (xs[i]'(by omega)) := List.getElem?_eq_getElem _
  have e2 : ys[i]? = some (ys[i]'(by omega)) := List.getElem?_eq_getElem _
  refine .inr ⟨⟨xs, ys, _, _, q1, q2, e1, e2⟩, Pv (i + 1), fun σ' H' p' => ⟨n - (i + 1), by omega, rfl, hlt, p'⟩, fun x H' y => ?_⟩
  obtain ⟨pp, x0, y0, hp, rfl, rfl, y1, y2⟩ := y
  exact hs i x0 y0 pp σ _ hlt (y1 xs q1) (y2 ys q2) p hp
 ·have e : i = n := by omega
  subst e
  exact .inl ⟨⟨xs, ys, q1, q2, h3⟩, hd σ H p⟩
end B
namespace B
open PySem
section
variable {es : List Expr} {env : Env}
theorem star_tup {a b c} : starEach (.Tuple a b c :: es) env = (false, eval (.Tuple a b c) env) :: starEach es env := rfl
theorem star_lst {a b} : starEach (.List a b :: es) env = (false, eval (.List a b) env) :: starEach es env := rfl
theorem star_sub {a b c} : starEach (.Subscript a b c :: es) env = (false, eval (.Subscript a b c) env) :: starEach es env := rfl
theorem star_call {a b c d} : starEach (.Call a b c d :: es) env = (false, eval (.Call a b c d) env) :: starEach es env := rfl
theorem star_name {a b} : starEach (.Name a b :: es) env = (false, eval (.Name a b) env) :: starEach es env := rfl
theorem star_con {a b c} : starEach (.Constant a b c :: es) env = (false, eval (.Constant a b c) env) :: starEach es env := rfl
theorem star_un {a b c} : starEach (.UnaryOp a b c :: es) env = (false, eval (.UnaryOp a b c) env) :: starEach es env := rfl
theorem star_lc {a b c d} : starEach (.ListComp a b c d :: es) env = (false, eval (.ListComp a b c d) env) :: starEach es env := rfl
theorem star_if {a b c d} : starEach (.IfExp a b c d :: es) env = (false, eval (.IfExp a b c d) env) :: starEach es env := rfl
end
end B
namespace B
open PySem L2 PyProof.Rows
inductive Als {α : Type} (P : V -> α -> Prop) : List V -> List α -> Prop where
 | nil : Als P [] []
 | cons {x : V} {d : α} {xs : List V} {ds : List α} (h : P x d) (t : Als P xs ds) : Als P (x :: xs) (d :: ds)
theorem Als.len {α : Type} {P : V -> α -> Prop} : ∀ {xs : List V} {ds : List α}, Als P xs ds -> xs.length = ds.length
 | _, _, .nil => rfl
 | _, _, .cons _ t => congrArg (· + 1) t.len
theorem Als.mono {α : Type} {P P' : V -> α -> Prop} (m : ∀ v d, P v d -> P' v d) : ∀ {xs : List V} {ds : List α}, Als P xs ds -> Als P' xs ds
 | _, _, .nil => .nil
 | _, _, .cons h t => .cons (m _ _ h) (t.mono m)
theorem Als.snoc {α : Type} {P : V -> α -> Prop} {x : V} {d : α} (k : P x d) : ∀ {xs : List V} {ds : List α}, Als P xs ds -> Als P (xs ++ [x]) (ds ++ [d])
 | _, _, .nil => .cons k .nil
 | _, _, .cons h t => .cons h (t.snoc k)
theorem Als.at {α : Type} {P : V -> α -> Prop} : ∀ {xs : List V} {ds : List α}, Als P xs ds -> ∀ {i : Nat} {x : V}, xs[i]? = some x -> ∃ d, ds[i]? = some d /\ P x d
 | _, _, .cons h _, 0, x, e => by
  rw [List.getElem?_cons_zero] at e
  cases e
  exact ⟨_, rfl, h⟩
 | _, _, .cons _ t, i + 1, x, e => t.at (i := i) (by rw [List.getElem?_cons_succ] at e; exact e)
 | _, _, .nil, _, _, e => by cases e
theorem Als.deep {α : Type} {K : PySem.W.Frag} {H : Hp} {P : V -> α -> Prop} {f : α -> PyData} (m : ∀ v d, P v d -> Deep K H v (f d)) : ∀ {xs : List V} {ds : List α}, Als P xs ds -> DeepAll K H xs (ds.map f)
 | _, _, .nil => .nil
 | _, _, .cons h t => .cons (m _ _ h) (t.deep m)
end B
namespace B
open PySem PySem.Spec L2 PyProof.Rows
theorem Als.last {α : Type} {P : V -> α -> Prop} {xs : List V} {ds : List α} {n : Nat} (h : Als P xs ds) (hn : ds.length = n + 1) : ∃ x d, atI xs (-1) = some x /\ ds[n]? = some d /\ P x d /\ xs[n]? = some x := by
 have hl := h.len
 have hx : xs[n]? = some (xs[n]'(by omega)) := List.getElem?_eq_getElem _
 obtain ⟨d, hd, p⟩ := h.at hx
 refine ⟨_, d, ?_, hd, p, hx⟩
 have e : xs = xs.take n ++ [xs[n]'(by omega)] := by
  have := List.take_append_drop n xs
  rw [List.drop_eq_getElem_cons (by omega)] at this
  rw [List.drop_eq_nil_of_le (by omega)] at this
  exact this.symm
 have := atI_last (xs.take n) (xs[n]'(by omega))
 rw [← e] at this
 exact this
theorem cut_tail {xs : List V} (h : 1 ≤ xs.length) : cutV xs (some 1) none = xs.drop 1 := by
 unfold cutV
 rw [show (some (1 : Int)) = some (((1 : Nat) : Int)) from rfl, HT.sIx_nat, HT.sIx_none, Nat.min_eq_left h]
 exact List.take_of_length_le (by rw [List.length_drop]; omega)
section
set_option autoImplicit true
set_option relaxedAutoImplicit true
theorem qi_zip  {X : Cx} {elts : List Expr} {x1} {tp p pos : Pos} {a b : Expr} {ta : TA} (hg : Gl X "zip") (hm : X.mg "zip" = none) (ha : QA X [a, b] ta) (hs : starEach [a, b] X.env = [(false, eval a X.env), (false, eval b X.env)] := by rfl) (hs2 : starEach [b] X.env = [(false, eval b X.env)] := by rfl) : QI X (.Tuple elts x1 tp) (.Call (.Name "zip" p) [a, b] [] pos) (iZip X.K ta) := ⟨pi_zip hg hm ha.p hs hs2⟩
end
def rEqD (K : PySem.W.Frag) : R2 := fun x y H Q => ∃ d d', Deep K H x d /\ Deep K H y d' /\ d.canLay0 = true /\ d'.canLay0 = true /\ d.depth ≤ 32 /\ Q (.bl (PyData.eqv d d')) H
theorem op_eqD {X : Cx} {k : Nat} (hr : Room k X.A) : OpR X (compareOp .Eq) (rEqD X.K) := by
 intro pins s σ H x y v u Q I rx ry h
 obtain ⟨d, d', hd, hd', c, c', dp, q⟩ := h
 obtain ⟨as, ra⟩ := Deep.reads I hd rx
 obtain ⟨bs, rb⟩ := Deep.reads I hd' ry
 exact SeqAt.compareEq_reads ra rb c c' (by have := hr.units; omega) ⟨.bl _, H, I, rfl, q⟩
theorem eqv_iff {r q : R} : PyData.eqv (dR r) (dR q) = decide (r = q) := by
 by_cases h : r = q
 ·rw [decide_eq_true h, h]; exact eqv_same q
 ·rw [decide_eq_false h]
  cases c : PyData.eqv (dR r) (dR q) with
  | false => rfl
  | true => exact absurd (eqv_dR c) h
def rIsiT (K : PySem.W.Frag) : List V -> Hp -> VK -> Prop := fun xs H Q => ∃ a ys n b, xs = [.ref a, .ty n] /\ SqT K H a ys /\ kitTT "tuple" n = some b /\ Q (.bl b) H
theorem call_isiT {X : Cx} : CallR X (.builtin "isinstance") (rIsiT X.K) := by
 intro pins s σ H xs us Q I r h
 obtain ⟨a, ys, n, b, rfl, hS, e, q⟩ := h
 obtain ⟨u, u2, rfl, rx, ry⟩ := vals2 r
 obtain rfl : u2 = Value.type n := ry
 cases (show u = Value.ref a from rx)
 obtain ⟨its, _, ⟨o, h1, h2, _⟩, _⟩ := I.tuple hS
 exact PySem.W.kia_one PySem.W.kitx_tuple I.kIn ⟨o, h1, h2⟩ (kit_of e) (fun z => nomatch z) fun tk => ⟨.bl b, H, I.tok tk, rfl, q⟩
section
set_option autoImplicit true
set_option relaxedAutoImplicit true
theorem qe_fldE  {X : Cx} {e : Expr} {f : Str} {pos : Pos} {ta : TE} {K : PySem.W.Frag} (hK : X.K = K) (he : QE X e ta) (hb : attributeBase e f X.env (eval e X.env) = eval e X.env) : QE X (.Attribute e f pos) (tFldE K ta f) := ⟨pe_fldE hK he.p hb⟩
theorem qs_fldE  (hex : X.ex = []) (ha : QE X o ta) (hv : QE X value tv) (hs : swapsWith value (some (.Attribute o f pos')) pos.line X.env = pure false) : QS X (.Assign [.Attribute o f pos'] value pos) (sFldE X.K ta tv f) := ⟨ps_fldE hex ha.p hv.p hs⟩
theorem qs_raiseD  {x : Str} {p cpos pos : Pos} {e : Expr} {es : List Expr} {t : TA} {E : XK} (M : XC X.K C f bm) (hbase : bm.contains (.type "BaseException") = true) (hex : X.ex = []) (tk : TakesD X E) (F : FnOk X.prog X.w X.K X.mg X.base CX0 k f fd ps sp) (hr : Room (k + 1) X.A) (hb : Binds X.K fd ps []) (hg : Gl X x) (hm : X.mg x = some (.ref C)) (ha : QA X (e :: es) t) (hdb : (x == ("__debug__" : Str)) = false := by decide) (he : starEach (e :: es) X.env = (false, eval e X.env) :: starEach es X.env := by rfl) (hpl : (backTo cpos (starEach es X.env)).any (·.1) = false := by rfl) : QS X (.Raise (some (.Call (.Name x p) (e :: es) [] cpos)) none pos) (tRaiseD C sp E t) := ⟨ps_raiseD M hbase hex tk F hr hb hg hm ha.p hdb he hpl⟩
theorem qs_tryAs {R : RX} {suite : List Stmt} {i : Nat} {n : Str} (hex : X.ex = []) (hst : X.stack = X.env :: X.outer) (hfr : X.env.frame = some X.env.locals) (hg : Gl X x) (hm : X.mg x = some u) (hN : X.N.Nodup) (hi : X.N[i]? = some n) (hn : X.env.scope.names.lookup n = some .local) (hb : ∀ pins, QSs (inTryD X pins R) body tb) (hs : ∀ e, QSs (inExc X e) (b₀ :: suite) th) (hd : (x == ("__debug__" : Str)) = false := by decide) : QS X (.Try body [.ExceptHandler (some (.Name x p)) (some n) (b₀ :: suite) hpos] [] [] pos) (tTryAs X.N i R (fun C => PySem.W.exmOne X.K (.ref C) u = some true) tb th) := ⟨ps_tryAs hex hst hfr hg hm hN hi hn (fun z0 => (hb z0).p) (fun z0 => (hs z0).p) hd⟩
end
end B
namespace L2
open PySem PySem.Spec PyProof.Rows
section
variable {κ : Type} [DecidableEq κ]
def valV (kvs : List (κ × V)) (k : κ) : Option V := (kvs.find? fun kv => decide (kv.1 = k)).map (·.2)
def putK (kvs : List (κ × V)) (k : κ) (v : V) : List (κ × V) :=
 if (kvs.any fun kv => decide (kv.1 = k)) = true then kvs.map (fun kv => if kv.1 = k then (kv.1, v) else kv) else kvs ++ [(k, v)]
def dropK (kvs : List (κ × V)) (k : κ) : List (κ × V) := kvs.filter fun kv => decide (kv.1 ≠ k)
end
abbrev KT (H : Hp) : List (List Key × V) -> List (List Key × Addr × Value) -> Prop := Paired fun p q => p.1 = q.1 /\ H q.2.1 = some (.tup (p.1.map kV)) /\ RelV p.2 q.2.2
section
variable {P : Program} {w : World} {H : Hp} {h : Heap} {a : Addr}
end
def DGet (H : Hp) (a : Addr) (y : V) (r : Option V) : Prop :=
 (∃ kvs k, Rd H a (.dK kvs) /\ y = kV k /\ r = valV kvs k) ∨ ∃ kvs k b, Rd H a (.dT kvs) /\ y = .ref b /\ H b = some (.tup (k.map kV)) /\ r = valV kvs k
def DPut (H : Hp) (a : Addr) (y v : V) (H' : Hp) : Prop :=
 (∃ kvs k, H a = some (.dK kvs) /\ y = kV k /\ kvs.length < sizeLine /\ H' = upd H a (.dK (putK kvs k v))) ∨
 ∃ kvs k b, H a = some (.dT kvs) /\ y = .ref b /\ H b = some (.tup (k.map kV)) /\ kvs.length < sizeLine /\ H' = upd H a (.dT (putK kvs k v))
section
variable {X : Cx} {pins : List (Addr × Obj)} {σ : St} {H : Hp} {s : Shared} {a : Addr} {y v : V} {u r : Value} {o : Option V} {A : Around} {E : Value -> Shared -> Prop}
end
section
variable {X : Cx} {pins : List (Addr × Obj)} {σ : St} {H : Hp} {s : Shared} {a : Addr} {kvs : List (Key × V)} {k : Key} {u : Value} {A : Around} {E : Value -> Shared -> Prop}
end
def NoSl (i : Expr) : Prop := ∀ ov iv, subscripted i false ov iv = operate [ov, iv] (getItem ov iv)
def tDGet (td ty : TE) : TE := fun σ H Q => td σ H fun x H1 => ty σ H1 fun y H2 => ∃ a v, x = .ref a /\ DGet H2 a y (some v) /\ Q v H2
def tDIn (ty td : TE) : TE := fun σ H Q => ty σ H fun y H1 => td σ H1 fun x H2 => ∃ a o, x = .ref a /\ DGet H2 a y o /\ Q (.bl o.isSome) H2
def tDNotIn (ty td : TE) : TE := fun σ H Q => ty σ H fun y H1 => td σ H1 fun x H2 => ∃ a o, x = .ref a /\ DGet H2 a y o /\ Q (.bl (!o.isSome)) H2
def sDPut (td ty tv : TE) : TS := fun D σ H => tv σ H fun v H1 => td σ H1 fun x H2 => ty σ H2 fun y H3 => ∃ a H4, x = .ref a /\ DPut H3 a y v H4 /\ D.nx σ H4
def sDAug (td ty tv : TE) (rd : V -> V -> Hp -> VK -> Prop) : TS := fun D σ H => td σ H fun x H1 => ty σ H1 fun y H2 => ∃ a v, x = .ref a /\ DGet H2 a y (some v) ∧
 tv σ H2 fun y2 H3 => rd v y2 H3 fun z H4 => ∃ H5, DPut H4 a y z H5 /\ D.nx σ H5
section
variable {X : Cx} {o i e value : Expr} {pos pos' tpos : Pos} {td ty tv : TE}
end
def tDNewK : TE := fun _ H Q => ∀ p, H p = none -> Q (.ref p) (upd H p (.dK []))
section
variable {X : Cx} {pos : Pos}
end
def tPairs : List (TE × TE) -> St -> Hp -> (List (V × V) -> Hp -> Prop) -> Prop
 | [], _, H, Q => Q [] H
 | (tk, tv) :: r, σ, H, Q => tk σ H fun x H1 => tv σ H1 fun y H2 => tPairs r σ H2 fun ps H3 => Q ((x, y) :: ps) H3
abbrev VV : List (V × V) -> List (Value × Value) -> Prop := Paired fun p q => RelV p.1 q.1 /\ RelV p.2 q.2
def PPs (X : Cx) (pos : Pos) (keys : List (Option Expr)) (values : List Expr) (trs : List (TE × TE)) : Prop :=
 ∀ (pins : List (Addr × Obj)) (s : Shared) (σ : St) (H : Hp) (Q : List (V × V) -> Hp -> Prop), Inv X pins σ H s -> tPairs trs σ H Q →
  wpAny (model X.prog X.w) X.A (evalPairs (pairTrees keys values X.env pos)) (fun vs s' => ∃ ps H', Inv X pins σ H' s' /\ VV ps vs /\ Q ps H') X.xe s
def mergeK (kvs more : List (Key × V)) : List (Key × V) := more.foldl (fun acc kv => putK acc kv.1 kv.2) kvs
def tDisp (trs : List (TE × TE)) : TE := fun σ H Q => ∀ p, H p = none -> tPairs trs σ (upd H p (.dK [])) fun ps H2 => H2 p = some (.dK []) /\ ∃ kvs : List (Key × V), ps = kvs.map (fun kv => (kV kv.1, kv.2)) /\ kvs.length ≤ 15 /\ Q (.ref p) (upd H2 p (.dK (mergeK [] kvs)))
structure M1 (X : Cx) (o : Expr) (m : Str) (apos : Pos) (e : Expr) (cpos : Pos) : Prop where
 base : attributeBase o m X.env (eval o X.env) = eval o X.env
 few : ((backTo cpos (starEach [e] X.env)).all (fun x => !x.1) && (backToKw cpos (keywordEach [] X.env)).all (fun x => x.1.isSome)
  && decide (([e] : List Expr).length + ([] : List Keyword).length + (if ([] : List Keyword).isEmpty then 0 else 1) < 30)) = true
 line : (apos.endLine == cpos.line) = true
 trees : backTo cpos (starEach [e] X.env) = [(false, eval e X.env)]
structure M2 (X : Cx) (o : Expr) (m : Str) (apos : Pos) (e f : Expr) (cpos : Pos) : Prop where
 base : attributeBase o m X.env (eval o X.env) = eval o X.env
 few : ((backTo cpos (starEach [e, f] X.env)).all (fun x => !x.1) && (backToKw cpos (keywordEach [] X.env)).all (fun x => x.1.isSome)
  && decide (([e, f] : List Expr).length + ([] : List Keyword).length + (if ([] : List Keyword).isEmpty then 0 else 1) < 30)) = true
 line : (apos.endLine == cpos.line) = true
 trees : backTo cpos (starEach [e, f] X.env) = [(false, eval e X.env), (false, eval f X.env)]
def IsD (H : Hp) (a : Addr) : Prop := (∃ kvs, Rd H a (.dK kvs)) ∨ ∃ kvs, Rd H a (.dT kvs)
section
variable {X : Cx} {pins : List (Addr × Obj)} {σ : St} {H : Hp} {s : Shared} {a : Addr} {y d : V} {u r : Value} {o : Option V} {A : Around} {E : Value -> Shared -> Prop}
end
def tDGet1 (td ty : TE) : TE := fun σ H Q => td σ H fun x H1 => ∃ a, x = .ref a /\ IsD H1 a /\ ty σ H1 fun y H2 => ∃ o, DGet H2 a y o /\ Q (o.getD .non) H2
def tDGet2 (td ty tx : TE) : TE := fun σ H Q => td σ H fun x H1 => ∃ a, x = .ref a /\ IsD H1 a /\ ty σ H1 fun y H2 => tx σ H2 fun z H3 => ∃ o, DGet H3 a y o /\ Q (o.getD z) H3
section
variable {X : Cx} {o e f : Expr} {apos cpos : Pos} {td ty tx : TE}
end
end L2
namespace B
open PySem PySem.Spec L2 PyProof.Rows
def tyD : PyData -> String
 | .none => "NoneType"
 | .bool _ => "bool"
 | .int _ => "int"
 | .str _ => "str"
 | .list _ => "list"
 | .tuple _ => "tuple"
 | .dict _ => "dict"
def rIsiD (K : PySem.W.Frag) : List V -> Hp -> VK -> Prop := fun xs H Q => ∃ v d n b, xs = [v, .ty n] /\ Deep K H v d /\ kitTT (tyD d) n = some b /\ Q (.bl b) H
theorem call_isiD {X : Cx} : CallR X (.builtin "isinstance") (rIsiD X.K) := by
 intro pins s σ H xs us Q I r h
 obtain ⟨v, d, n, b, rfl, hD, e, q⟩ := h
 cases hD with
 | non => exact call_isi pins s σ H _ us Q I r ⟨_, n, _, b, rfl, .non, e, q⟩
 | bl c => exact call_isi pins s σ H _ us Q I r ⟨_, n, _, b, rfl, .bl c, e, q⟩
 | int i => exact call_isi pins s σ H _ us Q I r ⟨_, n, _, b, rfl, .int i, e, q⟩
 | str x => exact call_isi pins s σ H _ us Q I r ⟨_, n, _, b, rfl, .str x, e, q⟩
 | @tup a ys ds hS hA => exact call_isiT pins s σ H _ us Q I r ⟨a, ys, n, b, rfl, hS, e, q⟩
 | @lst a ys ds hS hA =>
  obtain ⟨u, u2, rfl, rx, ry⟩ := vals2 r
  obtain rfl : u2 = Value.type n := ry
  cases (show u = Value.ref a from rx)
  obtain ⟨its, _, ⟨o, k, h1, h2, _⟩, _⟩ := I.list hS
  exact PySem.W.kia_one PySem.W.kitx_list I.kIn ⟨o, h1, h2⟩ (kit_of e) (fun z => nomatch z) fun tk => ⟨.bl b, H, I.tok tk, rfl, q⟩
def wholeD : PyData -> Bool
 | .int _ => true
 | _ => false
def tupD (n : Nat) : PyData -> Bool
 | .tuple xs => decide (xs.length = n)
 | _ => false
def ratD : PyData -> Bool
 | .tuple [.int a, .int b] => decide (1 ≤ b) && decide (Int.gcd a b = 1)
 | _ => false
def pairD : PyData -> Bool
 | .tuple [x, y] => ratD x && ratD y
 | _ => false
theorem isi_int {K : PySem.W.Frag} {H : Hp} {v : V} {d : PyData} (h : Deep K H v d) : ∃ b c, kitTT (tyD d) "int" = some b /\ kitTT (tyD d) "bool" = some c /\ wholeD d = (b && !c) := by
 cases h with
 | non => exact ⟨false, false, by simp only [tyD]; decide +kernel, by simp only [tyD]; decide +kernel, rfl⟩
 | bl b => exact ⟨true, true, by simp only [tyD]; decide +kernel, by simp only [tyD]; decide +kernel, rfl⟩
 | int i => exact ⟨true, false, by simp only [tyD]; decide +kernel, by simp only [tyD]; decide +kernel, rfl⟩
 | str x => exact ⟨false, false, by simp only [tyD]; decide +kernel, by simp only [tyD]; decide +kernel, rfl⟩
 | lst e t => exact ⟨false, false, by simp only [tyD]; decide +kernel, by simp only [tyD]; decide +kernel, rfl⟩
 | tup e t => exact ⟨false, false, by simp only [tyD]; decide +kernel, by simp only [tyD]; decide +kernel, rfl⟩
theorem isi_tup {K : PySem.W.Frag} {H : Hp} {v : V} {d : PyData} (h : Deep K H v d) : (kitTT (tyD d) "tuple" = some true /\ ∃ a xs ds, v = .ref a /\ d = .tuple ds /\ SqT K H a xs /\ DeepAll K H xs ds) ∨ (kitTT (tyD d) "tuple" = some false /\ ∀ ds, d ≠ .tuple ds) := by
 cases h with
 | non => exact .inr ⟨by simp only [tyD]; decide +kernel, fun _ z => nomatch z⟩
 | bl b => exact .inr ⟨by simp only [tyD]; decide +kernel, fun _ z => nomatch z⟩
 | int i => exact .inr ⟨by simp only [tyD]; decide +kernel, fun _ z => nomatch z⟩
 | str x => exact .inr ⟨by simp only [tyD]; decide +kernel, fun _ z => nomatch z⟩
 | lst e t => exact .inr ⟨by simp only [tyD]; decide +kernel, fun _ z => nomatch z⟩
 | tup e t => exact .inl ⟨by simp only [tyD]; decide +kernel, _, _, _, rfl, rfl, e, t⟩
theorem tupD_no {d : PyData} {n : Nat} (h : ∀ ds, d ≠ .tuple ds) : tupD n d = false := by
 cases d <;> first | rfl | exact absurd rfl (h _)
theorem DeepAll.len {K : PySem.W.Frag} {H : Hp} : ∀ {xs : List V} {ds : List PyData}, DeepAll K H xs ds -> xs.length = ds.length
 | _, _, .nil => rfl
 | _, _, .cons _ t => congrArg Nat.succ t.len
theorem Deep.two {K : PySem.W.Frag} {H : Hp} {v : V} {d : PyData} (h : Deep K H v d) (c : tupD 2 d = true) : ∃ a x y dx dy, v = .ref a /\ d = .tuple [dx, dy] /\ SqT K H a [x, y] /\ Deep K H x dx /\ Deep K H y dy := by
 cases h with
 | @tup a xs ds e t =>
  have l : ds.length = 2 := of_decide_eq_true c
  cases t with
  | nil => cases l
  | cons hx t => cases t with
   | nil => cases l
   | cons hy t => cases t with
    | nil => exact ⟨a, _, _, _, _, rfl, rfl, e, hx, hy⟩
    | cons hz t => simp at l
 | _ => cases c
theorem ratD_no {d : PyData} (h : tupD 2 d = false) : ratD d = false := by
 cases c : ratD d with
 | false => rfl
 | true =>
  unfold ratD at c
  split at c
  ·cases h
  ·cases c
theorem pairD_no {d : PyData} (h : tupD 2 d = false) : pairD d = false := by
 cases c : pairD d with
 | false => rfl
 | true =>
  unfold pairD at c
  split at c
  ·cases h
  ·cases c
structure Sh (k n : Nat) (d : PyData) : Prop where
 sh : d.showable = true
 nd : d.hasDict = false
 dp : d.depth ≤ k
 sz : d.shown.length ≤ n
theorem Sh.mono {k n k' n' : Nat} {d : PyData} (h : Sh k n d) (hk : k ≤ k') (hn : n ≤ n') : Sh k' n' d := ⟨h.sh, h.nd, Nat.le_trans h.dp hk, Nat.le_trans h.sz hn⟩
theorem Sh.all {k n : Nat} : ∀ {ds : List PyData}, (∀ d ∈ ds, Sh k n d) -> PyData.showableAll ds = true /\ PyData.hasDictAll ds = false /\ PyData.depthAll ds ≤ k /\ ((PyData.shownAll ds).map (·.length)).sum ≤ n * ds.length /\ (PyData.shownAll ds).length = ds.length
 | [], _ => ⟨rfl, rfl, Nat.zero_le _, Nat.zero_le _, rfl⟩
 | d :: ds, h => by
  obtain ⟨a, b, c, e, f⟩ := Sh.all (ds := ds) fun x hx => h x (List.mem_cons_of_mem _ hx)
  have z := h d List.mem_cons_self
  refine ⟨?_, ?_, ?_, ?_, ?_⟩
  ·show (d.showable && PyData.showableAll ds) = true
   rw [z.sh, a]; rfl
  ·show (d.hasDict || PyData.hasDictAll ds) = false
   rw [z.nd, b]; rfl
  ·show max d.depth (PyData.depthAll ds) ≤ k
   exact Nat.max_le.mpr ⟨z.dp, c⟩
  ·show d.shown.length + ((PyData.shownAll ds).map (·.length)).sum ≤ n * (ds.length + 1)
   have := z.sz
   rw [Nat.mul_succ]; omega
  ·show (PyData.shownAll ds).length + 1 = ds.length + 1
   rw [f]
theorem Sh.tup {k n m N : Nat} {ds : List PyData} (h : ∀ d ∈ ds, Sh k n d) (hm : ds.length ≤ m) (hN : (n + 3) * m + 8 ≤ N) : Sh (k + 1) N (.tuple ds) := by
 obtain ⟨a, b, c, e, f⟩ := Sh.all h
 refine ⟨a, b, Nat.succ_le_succ c, ?_⟩
 show (tupleText (PyData.shownAll ds)).length ≤ N
 have q := tupleText_len_le (PyData.shownAll ds)
 have l : n * ds.length + 3 * ds.length ≤ (n + 3) * m := by
  rw [← Nat.add_mul]
  exact Nat.mul_le_mul_left _ hm
 omega
theorem Sh.shows {k n : Nat} {d : PyData} (h : Sh k n d) (hk : k ≤ 16) (hn : n ≤ 16777216) : Shows d := ⟨h.sh, h.nd, Nat.le_trans h.sz (Nat.le_trans hn (by decide)), Nat.le_trans h.dp hk⟩
theorem sh_dR {r : R} {n : Nat} (h : Wf n r) (hn : n ≤ 1900) : Sh 1 5000 (dR r) := ⟨(small_dR h hn).sh, rfl, (by show max 0 (max 0 0) + 1 ≤ 1; decide), (small_dR h hn).sz⟩
mutual
theorem Deep.same {K : PySem.W.Frag} {H H' : Hp} (s : Same H H') : ∀ {v : V} {d : PyData}, Deep K H v d -> Deep K H' v d
 | _, _, .non => .non
 | _, _, .bl b => .bl b
 | _, _, .int i => .int i
 | _, _, .str x => .str x
 | _, _, .lst e t => .lst (s.seq e) (DeepAll.same s t)
 | _, _, .tup e t => .tup (Tst.same s _ _ e) (DeepAll.same s t)
theorem DeepAll.same {K : PySem.W.Frag} {H H' : Hp} (s : Same H H') : ∀ {vs : List V} {ds : List PyData}, DeepAll K H vs ds -> DeepAll K H' vs ds
 | _, _, .nil => .nil
 | _, _, .cons h t => .cons (Deep.same s h) (DeepAll.same s t)
end
theorem op_isB {X : Cx} : OpR X (compareOp .Is) (fun x y H Q => ∃ b c, x = .bl b /\ y = .bl c /\ Q (.bl (decide (b = c))) H) := by
 intro pins s σ H x y v u Q I rx ry h
 obtain ⟨b, c, rfl, rfl, q⟩ := h
 obtain rfl : v = Value.bool b := rx
 obtain rfl : u = Value.bool c := ry
 refine wpAny_is_plain (by cases b <;> cases c <;> rfl) ⟨.bl _, H, I, ?_, q⟩
 cases b <;> cases c <;> rfl
end B
namespace B
open PySem PySem.Spec L2 PyProof.Rows
def rCatU (K : PySem.W.Frag) : R2 := fun x y H Q => ∃ a b xs ys, x = .ref a /\ y = .ref b /\ SqT K H a xs /\ SqT K H b ys /\ xs.length + ys.length ≤ sizeLine /\ ∀ p H', Same H H' -> SqT K H' p (xs ++ ys) -> Q (.ref p) H'
theorem op_catU {X : Cx} : OpR X (binaryOp .Add) (rCatU X.K) := by
 intro pins s σ H x y v u Q I rx ry h
 obtain ⟨a, b, xs, ys, rfl, rfl, ha, hb, hz, q⟩ := h
 by_cases hx : xs = []
 ·subst hx
  cases rx
  cases ry
  obtain ⟨its, r1, p1, _⟩ := I.tuple ha
  obtain ⟨its2, r2, p2, _⟩ := I.tuple hb
  have e0 : its = [] := r1.nil_iff.mpr rfl
  subst e0
  obtain ⟨⟨cls, dd, data, sl⟩, ho, hc, n, hd⟩ := id p1
  obtain ⟨⟨cls2, dd2, data2, sl2⟩, ho2, hc2, n2, hd2⟩ := id p2
  simp only at hc hd hc2 hd2
  subst hc hd hc2 hd2
  exact concat_meets ⟨_, ho, rfl⟩ ⟨_, ho2, rfl⟩ noFill_tuple_add seq_tuple_add PySem.F.slot_tuple_add PySem.F.entry_tuple_add (PySem.F.args_tuple_add_2 _ _)
   (tuple_addW0 a b _ _ n n2 dd dd2 sl sl2 (by simp)) ⟨ho, ho2, ⟨.ref b, H, I, rfl, q b H (Same.refl H) hb⟩⟩
 ·refine op_catT pins s σ H _ _ v u Q I rx ry ⟨a, b, xs, ys, rfl, rfl, ha, hb, hx, hz, fun e => ?_, fun _ p hp => ?_⟩
  ·subst e
   exact q a H (Same.refl H) (by rw [List.append_nil]; exact ha)
  ·exact q p _ (same_new hp _) (SqT.of upd_same)
def rSlU (K : PySem.W.Frag) : V -> Option Int -> Option Int -> Hp -> VK -> Prop := fun x lo hi H Q => ∃ a xs, x = .ref a /\ SqT K H a xs /\ ∀ p H', Same H H' -> SqT K H' p (cutV xs lo hi) -> Q (.ref p) H'
theorem sl_tupU {X : Cx} : SlR X (rSlU X.K) := by
 intro pins s σ H x v vl vu lo hi sl Q I rx hs pl pu h
 obtain ⟨a, xs, rfl, hx, q⟩ := h
 refine sl_tupA pins s σ H _ v vl vu lo hi sl Q I rx hs pl pu ?_
 by_cases c : HT.sIx xs.length 0 lo = 0 /\ HT.sIx xs.length xs.length hi = xs.length
 ·refine .inl ⟨a, xs, rfl, hx, c.1, c.2, q a H (Same.refl H) ?_⟩
  have e : cutV xs lo hi = xs := by
   unfold cutV
   rw [c.1, c.2, List.drop_zero, Nat.sub_zero, List.take_length]
  rw [e]
  exact hx
 ·exact .inr ⟨a, xs, rfl, hx, c, fun p hp => q p _ (same_new hp _) (SqT.of upd_same)⟩
theorem cut_to {xs : List V} {n : Nat} (h : n ≤ xs.length) : cutV xs none (some (n : Int)) = xs.take n := by
 unfold cutV
 rw [HT.sIx_nat, HT.sIx_none, Nat.min_eq_left h, Nat.sub_zero, List.drop_zero]
theorem cut_from {xs : List V} {n : Nat} (h : n ≤ xs.length) : cutV xs (some (n : Int)) none = xs.drop n := by
 unfold cutV
 rw [HT.sIx_nat, HT.sIx_none, Nat.min_eq_left h]
 exact List.take_of_length_le (by rw [List.length_drop]; omega)
def Stat (K : PySem.W.Frag) (s : Addr) : Prop := ∃ ns : List Int, ns.length ≤ 63 /\ ∀ H : Hp, SqL K H s (ns.map V.int)
structure Tape3 (K : PySem.W.Frag) (H : Hp) (t s : Addr) : Prop where
 ex : ∃ (ns : List Int) (p q : Int), H t = some (.lst [.ref s, .int p, .int q]) /\ ((Rd H s (.lst (ns.map V.int)) /\ s ≠ t) ∨ ∀ H', SqL K H' s (ns.map V.int)) /\ ns.length ≤ 63 /\ 0 ≤ p /\ 0 ≤ q
theorem rd_same {H H' : Hp} {a : Addr} {u : HO} (h : Rd H a u) (z : Same H H') : Rd H' a u := by
 rcases h with h | ⟨o, h⟩
 ·exact .inl (z _ _ h)
 ·exact .inr ⟨o, z _ _ h⟩
theorem rd_upl {H : Hp} {a l : Addr} {u o : HO} (h : Rd H a u) (n : l ≠ a) : Rd (upd H l o) a u := by
 unfold Rd
 rw [upd_ne n.symm]
 exact h
theorem rd_ne {H : Hp} {a l : Addr} {u : HO} (h : Rd H a u) (n : H l = none) : l ≠ a := fun e => by
 subst e
 rcases h with h | ⟨o, h⟩
 ·rw [n] at h; cases h
 ·rw [n] at h; cases h
theorem Tape3.lst {K : PySem.W.Frag} {H : Hp} {t s : Addr} (h : Tape3 K H t s) : ∃ xs, H t = some (.lst xs) := let ⟨_, _, _, e, _⟩ := h.ex; ⟨_, e⟩
theorem Tape3.same {K : PySem.W.Frag} {H H' : Hp} {t s : Addr} (h : Tape3 K H t s) (z : Same H H') : Tape3 K H' t s := by
 obtain ⟨ns, p, q, h1, h2, h3⟩ := h.ex
 refine ⟨ns, p, q, z _ _ h1, ?_, h3⟩
 rcases h2 with ⟨a, b⟩ | a
 ·exact .inl ⟨rd_same a z, b⟩
 ·exact .inr a
theorem Tape3.new {K : PySem.W.Frag} {H : Hp} {t s p : Addr} (h : Tape3 K H t s) (n : H p = none) (o : HO) : Tape3 K (upd H p o) t s := h.same (same_new n o)
theorem Tape3.off {K : PySem.W.Frag} {H : Hp} {t s D : Addr} (h : Tape3 K H t s) (n : H D = none) : D ≠ s ∨ Stat K s := by
 obtain ⟨ns, p, q, _, h2, h3, _⟩ := h.ex
 rcases h2 with ⟨a, _⟩ | a
 ·exact .inl (rd_ne a n)
 ·exact .inr ⟨ns, h3, a⟩
theorem Tape3.upl {K : PySem.W.Frag} {H : Hp} {t s l : Addr} (h : Tape3 K H t s) (a : l ≠ t) (b : l ≠ s ∨ Stat K s) (o : HO) : Tape3 K (upd H l o) t s := by
 obtain ⟨ns, p, q, h1, h2, h3⟩ := h.ex
 rcases b with b | ⟨ms, m3, m⟩
 ·refine ⟨ns, p, q, by rw [upd_ne a.symm]; exact h1, ?_, h3⟩
  rcases h2 with ⟨c, d⟩ | c
  ·exact .inl ⟨rd_upl c b, d⟩
  ·exact .inr c
 ·exact ⟨ms, p, q, by rw [upd_ne a.symm]; exact h1, .inr m, m3, h3.2⟩
def sp_tape3 (K : PySem.W.Frag) : Sp := fun vs H Q _ => ∃ (a : Addr) (ns : List Int), vs = [.ref a] /\ SqL K H a (ns.map V.int) /\ ns.length ≤ 63 /\ ∀ (t : Addr) (H' : Hp), Same H H' -> H t = none -> Tape3 K H' t a -> Q (.ref t) H'
def sp_draw3 (K : PySem.W.Frag) : Sp := fun vs H Q _ => ∃ (t s : Addr) (m : Int), vs = [.ref t, .int m] /\ Tape3 K H t s /\ 0 < m /\ m < 1073741824 /\ ∀ (r : Int) (xs : List V), 0 ≤ r -> r < m -> Tape3 K (upd H t (.lst xs)) t s -> Q (.int r) (upd H t (.lst xs))
theorem Tape3.mk3 {K : PySem.W.Frag} {H : Hp} {t a : Addr} {ns : List Int} (hS : SqL K H a (ns.map V.int)) (hl : ns.length ≤ 63) (ht : H t = none) : Tape3 K (upd H t (.lst [.ref a, .int 0, .int 0])) t a := by
 refine ⟨ns, 0, 0, upd_same, ?_, hl, Int.le_refl _, Int.le_refl _⟩
 rcases hS with h | h
 ·exact .inl ⟨rd_upl h (rd_ne h ht), (rd_ne h ht).symm⟩
 ·exact .inr fun _ => .inr h
section
set_option autoImplicit true
set_option relaxedAutoImplicit true
theorem qi_enum  {X : Cx} {elts : List Expr} {x1} {tp p pos : Pos} {a : Expr} {ta : TA} (hg : Gl X "enumerate") (hm : X.mg "enumerate" = none) (ha : QA X [a] ta) (hs : starEach [a] X.env = [(false, eval a X.env)] := by rfl) : QI X (.Tuple elts x1 tp) (.Call (.Name "enumerate" p) [a] [] pos) (iEnT X.K ta) := ⟨pi_enum hg hm ha.p hs⟩
end
theorem bools_at : ∀ {bs : List Bool} {us : List Value}, Vals (bs.map V.bl) us -> ∀ {i : Nat} {v : Value}, us[i]? = some v -> v = .bool (bs.getD i true)
 | [], _, .nil, i, v, e => by cases e
 | b :: bs, _, .cons r t, 0, v, e => by
  rw [List.getElem?_cons_zero] at e
  cases e
  exact (show _ = Value.bool b from r)
 | b :: bs, _, .cons r t, i + 1, v, e => by
  rw [List.getElem?_cons_succ] at e
  exact bools_at t e
theorem all_range : ∀ (bs : List Bool), (List.range bs.length).all (fun i => bs.getD i true) = bs.all id
 | [] => rfl
 | b :: bs => by
  rw [List.length_cons, List.range_succ_eq_map, List.all_cons, List.all_map, List.all_cons]
  have := all_range bs
  show (b && (List.range bs.length).all (fun i => bs.getD i true)) = (id b && bs.all id)
  rw [this]; rfl
theorem call_allL {X : Cx} (hc : X.calm = true) : CallR X (.builtin "all") (fun xs H Q => ∃ (p : Addr) (bs : List Bool), xs = [.ref p] /\ SqL X.K H p (bs.map V.bl) /\ Q (.bl (bs.all id)) H) := by
 intro pins s σ H xs us Q I r h
 obtain ⟨p, bs, rfl, hq, q⟩ := h
 obtain ⟨u, rfl, rx⟩ := vals1 r
 cases rx
 obtain ⟨its, rv, pl, hz⟩ := I.list hq
 have ne : p ≠ s.heap.objs.size := by
  obtain ⟨o, ho, _⟩ := pl.isList
  exact Nat.ne_of_lt (Heap.lt_size ho)
 have hlen : its.toArray.size = bs.length := by rw [List.size_toArray, ← rv.length, List.length_map]
 refine call_all_walk (wpAny_pyIter_list pl.isList ?_)
 refine ⟨_, _, _, _, _, _, fun i => bs.getD i true, rfl, Walks.list (A := X.A.in1) (I.ok.hd hc) _ p ne its.toArray, ⟨⟨_, Heap.get?_push_size _ rfl, rfl, rfl⟩, pl.isList.push _⟩, fun i v s' Q' E' hv hQ => ?_, fun h' tk hk => ?_⟩
 ·have e := bools_at rv (i := i) (v := v) (by simpa using hv)
  subst e
  exact wpAny_truthy_bool hQ
 ·rw [hlen, all_range]
  refine ⟨.bl _, H, I.kept (t' := tk) fun b o e => hk b o (fun z => ?_) (Heap.get?_push_of_some _ e), rfl, q⟩
  rw [List.mem_singleton.mp z] at e
  exact absurd (Heap.lt_size e) (Nat.lt_irrefl _)
section
variable {prog : Program} {w : World} {A : Around} {E : Value -> Shared -> Prop} {s : Shared}
end
def upTo (n : Nat) : List Int := (List.range n).map fun i : Nat => (i : Int)
def tRng1 (ta : TA) : TE := fun σ H Q => ta σ H fun vs H1 => ∃ j : Int, vs = [.int j] /\ ∀ p, H1 p = none -> Q (.ref p) (upd H1 p (.rng 0 j))
def Itd (hi : Int) (n : Nat) : It := ⟨fun i _ => i < n, fun i H x H' => H' = H /\ x = .int (hi - i), fun i _ => n ≤ i⟩
def iRngD (ta : TA) : TI := fun σ H R => ta σ H fun vs H1 => ∃ i j : Int, vs = [.int i, .int j, .int (-1)] /\ (-1000 ≤ i /\ i ≤ 1000 /\ -1000 ≤ j /\ j ≤ 1000) /\ R (Itd i (i - j).toNat) H1
section
set_option autoImplicit true
set_option relaxedAutoImplicit true
end
structure Wlk (J : It) (H : Hp) (n : Nat) (P : Nat -> V -> Hp -> Prop) : Prop where
 go : ∀ i H', i < n -> Same H H' -> J.go i H'
 stop : ∀ H', Same H H' -> J.stop n H'
 yld : ∀ i H' x H'', i < n -> Same H H' -> J.yld i H' x H'' -> Same H' H'' /\ P i x H''
theorem wlk_lst {K : PySem.W.Frag} {H : Hp} {a : Addr} {xs : List V} (h : SqL K H a xs) : Wlk (Itl K a) H xs.length (fun i x _ => xs[i]? = some x) where
 go := fun i H' hi s => ⟨xs, _, s.seq h, List.getElem?_eq_getElem hi⟩
 stop := fun H' s => ⟨xs, s.seq h, Nat.le_refl _⟩
 yld := fun i H' x H'' hi s y => by obtain ⟨rfl, hy⟩ := y; exact ⟨Same.refl _, hy xs (s.seq h)⟩
theorem wlk_tup {K : PySem.W.Frag} {H : Hp} {a : Addr} {xs : List V} (h : SqT K H a xs) : Wlk (Itt K a) H xs.length (fun i x _ => xs[i]? = some x) where
 go := fun i H' hi s => ⟨xs, _, Tst.same s _ _ h, List.getElem?_eq_getElem hi⟩
 stop := fun H' s => ⟨xs, Tst.same s _ _ h, Nat.le_refl _⟩
 yld := fun i H' x H'' hi s y => by obtain ⟨rfl, hy⟩ := y; exact ⟨Same.refl _, hy xs (Tst.same s _ _ h)⟩
theorem comp_ix {J : It} {H : Hp} {D : Addr} {n : Nat} {P : Nat -> V -> Hp -> Prop} (w : Wlk J H n P) (c : Nat -> Bool) (f : Nat -> V) {src : List (Option Nat)} {σ : L2.St} {g : TG} {tt : TT} {te : TE} {Q : Hp -> Prop} (hD : H D = none) (hn : n ≤ 1000)
  (turn : ∀ (i : Nat) (x : V) (H' : Hp), i < n -> Same H H' -> P i x H' -> ∀ (R : VK) (E : Hp -> Prop), (c i = true -> ∀ H'', Same H' H'' -> R (f i) H'') -> (c i = false -> ∀ H'', Same H' H'' -> E H'') →
   g x (frees src σ) H' fun σ2 H2 => Ext (frees src σ) σ2 /\ tt σ2 H2 fun ok H3 => if ok = true then te σ2 H3 R else E H3)
  (fin : ∀ H', Same H H' -> H' D = some (.lst (((List.range n).filter c).map f)) -> Q H') :
  ∃ W : Nat -> Nat -> List V -> Hp -> Prop, (∃ m, W 0 m [] (upd H D (.lst []))) /\ ∀ i m ys H, W i m ys H -> (J.stop i H /\ Q H) ∨ (J.go i H /\ ∀ x H', J.yld i H x H' →
   g x (frees src σ) H' fun σ2 H2 => Ext (frees src σ) σ2 /\ tt σ2 H2 fun ok H3 =>
    if ok = true then te σ2 H3 fun y H4 => H4 D = some (.lst ys) /\ ys.length < sizeLine /\ ∃ m', m' < m /\ W (i + 1) m' (ys ++ [y]) (upd H4 D (.lst (ys ++ [y]))) else ∃ m', m' < m /\ W (i + 1) m' ys H3) := by
 refine ⟨fun i m ys H' => i ≤ n /\ m = n - i /\ ys = ((List.range i).filter c).map f /\ Same H H' /\ H' D = some (.lst ys), ⟨_, Nat.zero_le _, rfl, rfl, same_new hD _, upd_same⟩, ?_⟩
 rintro i m ys H1 ⟨hi, rfl, rfl, s1, d1⟩
 by_cases hix : i < n
 ·refine .inr ⟨w.go i H1 hix s1, fun x H2 y => ?_⟩
  obtain ⟨s2, p⟩ := w.yld i H1 x H2 hix s1 y
  have d2 := s2 _ _ d1
  have len : (((List.range i).filter c).map f).length ≤ i := by
   rw [List.length_map]
   exact Nat.le_trans (List.length_filter_le _ _) (by rw [List.length_range]; exact Nat.le_refl _)
  refine turn i x H2 hix (s1.trans s2) p _ _ (fun hc H3 s3 => ?_) fun hc H3 s3 => ?_
  ·have d3 := s3 _ _ d2
   refine ⟨d3, small1000 (by omega), n - (i + 1), by omega, hix, rfl, ?_, fun b o q => ?_, upd_same⟩
   ·rw [List.range_succ, List.filter_append, List.map_append]
    simp [hc]
   ·rw [upd_ne (ne_of_none q hD)]
    exact s3 _ _ (s2 _ _ (s1 _ _ q))
  ·refine ⟨n - (i + 1), by omega, hix, rfl, ?_, (s1.trans s2).trans s3, s3 _ _ d2⟩
   rw [List.range_succ, List.filter_append, List.map_append]
   simp [hc]
 ·have e : i = n := by omega
  subst e
  exact .inl ⟨w.stop H1 s1, fin H1 s1 d1⟩
theorem getD_of {α : Type} {l : List α} {i : Nat} {x : α} (d : α) (h : l[i]? = some x) : l.getD i d = x := by rw [List.getD_eq_getElem?_getD, h]; rfl
section
variable {prog : Program} {w : World} {A : Around} {E : Value -> Shared -> Prop} {s : Shared}
end
theorem hit_is {h : Heap} {x y : Value} {d e : PyData} {as bs : List Addr} (rx : Reads h x d as) (ry : Reads h y e bs) (cd : d.canLay0 = true) (ce : e.canLay0 = true) (dp : e.depth ≤ 32) (rf : PyData.eqv d d = true) : hitAt h x d y = PyData.eqv e d := by
 unfold hitAt
 by_cases q : y = x
 ·subst q
  rw [if_pos rfl, SeqAt.Reads.unique _ _ _ _ _ ce ry rx, rf]
 ·have z : ∃ d', d'.canLay0 = true /\ d'.depth ≤ 32 /\ ∃ as, Reads h y d' as := ⟨e, ce, dp, bs, ry⟩
  rw [if_neg q, dif_pos z]
  obtain ⟨c, _, cs, r⟩ := z.choose_spec
  rw [SeqAt.Reads.unique _ _ _ _ _ ce ry r]
def Lays (ds : List PyData) : Prop := ∀ e ∈ ds, e.canLay0 = true /\ e.depth ≤ 32
theorem hits_map {X : Cx} {pins : List (Addr × Obj)} {σ : L2.St} {H : Hp} {s : Shared} (I : Inv X pins σ H s) {v : Value} {d : PyData} {as : List Addr} (rx : Reads s.heap v d as) (cd : d.canLay0 = true) (rf : PyData.eqv d d = true) :
  ∀ {xs : List V} {us : List Value} {ds : List PyData}, Vals xs us -> DeepAll X.K H xs ds -> Lays ds -> us.map (hitAt s.heap v d) = ds.map fun e => PyData.eqv e d
 | _, _, _, .nil, .nil, _ => rfl
 | _, _, _, .cons r t, .cons h k, l => by
  obtain ⟨bs, ry⟩ := Deep.reads I h r
  obtain ⟨ce, dp⟩ := l _ List.mem_cons_self
  rw [List.map_cons, List.map_cons, hit_is rx ry cd ce dp rf, hits_map I rx cd rf t k fun e he => l e (List.mem_cons_of_mem _ he)]
theorem DeepAll.known {K : PySem.W.Frag} {H : Hp} : ∀ {xs : List V} {ds : List PyData}, DeepAll K H xs ds -> Lays ds -> Known K H xs
 | _, _, .nil, _, x, hx => by cases hx
 | _, _, .cons h t, l, x, hx => by
  rcases List.mem_cons.mp hx with rfl | hx
  ·obtain ⟨a, b⟩ := l _ List.mem_cons_self
   exact ⟨_, h, a, b⟩
  ·exact DeepAll.known t (fun e he => l e (List.mem_cons_of_mem _ he)) x hx
def rInD (K : PySem.W.Frag) : R2 := fun x y H Q => ∃ p xs ds d, y = .ref p /\ SqL K H p xs /\ DeepAll K H xs ds /\ Lays ds /\ Deep K H x d /\ d.canLay0 = true /\ PyData.eqv d d = true /\ Q (.bl (ds.any fun e => PyData.eqv e d)) H
def rNotInD (K : PySem.W.Frag) : R2 := fun x y H Q => ∃ p xs ds d, y = .ref p /\ SqL K H p xs /\ DeepAll K H xs ds /\ Lays ds /\ Deep K H x d /\ d.canLay0 = true /\ PyData.eqv d d = true /\ Q (.bl (!ds.any fun e => PyData.eqv e d)) H
theorem any_of_map {α β : Type} {f : α -> Bool} {g : β -> Bool} : ∀ {l : List α} {m : List β}, l.map f = m.map g -> l.any f = m.any g
 | [], [], _ => rfl
 | [], _ :: _, h => by simp at h
 | _ :: _, [], h => by simp at h
 | a :: l, b :: m, h => by
  rw [List.map_cons, List.map_cons] at h
  injection h with h1 h2
  rw [List.any_cons, List.any_cons, h1, any_of_map h2]
theorem op_notInD {X : Cx} {k : Nat} (hr : Room k X.A) : OpR X (compareOp .NotIn) (rNotInD X.K) := by
 intro pins s σ H x y v u Q I rx ry h
 obtain ⟨p, xs, ds, d, rfl, hq, hd, ls, hx, cd, rf, q⟩ := h
 cases ry
 obtain ⟨its, r, pl, hz⟩ := I.list hq
 obtain ⟨as, ra⟩ := Deep.reads I hx rx
 refine SeqAt.notIn_listAt (hitAt s.heap v d) pl.isList (fun w hw => hitAt_eq ra cd (by show X.A.units + 1 + 32 < cLine; have := hr.units; omega) (known_reads I r (hd.known ls) w (by simpa using hw))) ⟨_, H, I, ?_, q⟩
 show Value.bool (!its.toArray.any (hitAt s.heap v d)) = Value.bool (!ds.any fun e => PyData.eqv e d)
 rw [List.any_toArray, any_of_map (hits_map I ra cd rf r hd ls)]
def rInDT (K : PySem.W.Frag) : R2 := fun x y H Q => ∃ p xs ds d, y = .ref p /\ SqT K H p xs /\ DeepAll K H xs ds /\ Lays ds /\ Deep K H x d /\ d.canLay0 = true /\ PyData.eqv d d = true /\ Q (.bl (ds.any fun e => PyData.eqv e d)) H
def rIndexD (K : PySem.W.Frag) : V -> List V -> Hp -> VK -> Prop := fun x vs H Q => ∃ p xs ds w d, x = .ref p /\ vs = [w] /\ SqL K H p xs /\ DeepAll K H xs ds /\ Lays ds /\ Deep K H w d /\ d.canLay0 = true /\ PyData.eqv d d = true /\ (∃ e ∈ ds, PyData.eqv e d = true) ∧
 ∀ (j : Nat) (e : PyData), ds[j]? = some e -> PyData.eqv e d = true -> (∀ m f, m < j -> ds[m]? = some f -> PyData.eqv f d = false) -> Q (.int j) H
theorem fits_ix {j : Nat} (h : j ≤ 16777216) : Builtin.List.listFitsIndex (j : Int) = true := by
 unfold Builtin.List.listFitsIndex
 have e : (2 : Int) ^ 63 = 9223372036854775808 := by decide
 rw [e, Bool.and_eq_true, decide_eq_true_iff, decide_eq_true_iff]
 omega
theorem ins_meets (l : Addr) (its : Array Value) (n : Nat) (x : Int) (tk : Tok) (u2 : Value) (hc : Builtin.List.listFitsIndex x = true) (hsz : its.size ≤ sizeLine) :
  Meets (Builtin.«list.insert» ⟨[.ref l, .int x tk, u2], []⟩) (fun _ R s => s.heap.get? l = some { cls := .type "list", dict := none, data := .seq its n, slots := #[] } /\ R (.ok (.ret Value.none)) { s with heap := s.heap.update l (Obj.mapSeq fun xs => have k := if x < 0 then (x + ((xs.size : Nat) : Int)).toNat else min x.toNat xs.size; (xs.extract 0 k).push u2 ++ xs.extract k), toks := s.toks }) := by
 apply AutoListH.list_insert_list_int_val_1
 ·rw [hc]; simp
 ·exact hsz
def rInsert : V -> List V -> Hp -> VK -> Prop := fun x vs H Q => ∃ (l : Addr) (xs : List V) (j : Nat) (y : V), x = .ref l /\ vs = [.int j, y] /\ H l = some (.lst xs) /\ j ≤ xs.length /\ xs.length < sizeLine /\ Q .non (upd H l (.lst (xs.take j ++ y :: xs.drop j)))
theorem mt_insert {X : Cx} : MtM X "list.insert" rInsert := by
 intro pins s σ H x vs v us Q I rx rv h
 obtain ⟨l, xs, j, y, rfl, rfl, hH, hj, hz, q⟩ := h
 cases rx
 obtain ⟨u, u2, rfl, ru, ru2⟩ := vals2 rv
 obtain ⟨tk, rfl⟩ := (show ∃ t, u = Value.int j t from ru)
 obtain ⟨z, its, n, r, hl, e⟩ := I.lstM hH
 have hlen := r.length
 have sl : sizeLine = 16777216 := by decide
 have hsz : its.toArray.size ≤ sizeLine := by rw [List.size_toArray]; omega
 have hfi : Builtin.List.listFitsIndex (j : Int) = true := fits_ix (show j ≤ 16777216 by omega)
 generalize hx : (j : Int) = x at hfi
 have M := ins_meets l its.toArray n x tk u2 hfi hsz
 refine call_meets PySem.F.slot_list_insert ⟨_, e, rfl⟩ PySem.F.entry_list_insert (PySem.F.args_list_insert_3 _ _ _) M ⟨e, ?_⟩
 have hv : Vals (xs.take j ++ y :: xs.drop j) (its.take j ++ u2 :: its.drop j) := (r.take j).append (.cons ru2 (r.drop j))
 refine ⟨.non, _, I.lset (its' := its.take j ++ u2 :: its.drop j) hH e ?_ hv ?_, rfl, q⟩
 ·subst hx
  have e1 : ¬ ((j : Int) < 0) := by omega
  have e2 : min j its.length = j := by omega
  simp [e1, e2, List.take_of_length_le]
 ·rw [List.length_append, List.length_cons, List.length_take, List.length_drop]
  omega
mutual
def ibd : PyData -> Bool
 | .int i => decide (i.natAbs < 2 ^ 230)
 | .tuple ds => ibdAll ds
 | .list ds => ibdAll ds
 | .dict _ => false
 | _ => true
def ibdAll : List PyData -> Bool
 | [] => true
 | d :: ds => ibd d && ibdAll ds
end
theorem ibdAll_of : ∀ {ds : List PyData}, (∀ d ∈ ds, ibd d = true) -> ibdAll ds = true
 | [], _ => rfl
 | d :: ds, h => by
  show (ibd d && ibdAll ds) = true
  rw [h d List.mem_cons_self, ibdAll_of fun e he => h e (List.mem_cons_of_mem _ he)]; rfl
theorem ibdAll_mem : ∀ {ds : List PyData}, ibdAll ds = true -> ∀ d ∈ ds, ibd d = true
 | d :: ds, h, e, he => by
  have h' : (ibd d && ibdAll ds) = true := h
  rw [Bool.and_eq_true] at h'
  rcases List.mem_cons.mp he with rfl | he
  ·exact h'.1
  ·exact ibdAll_mem h'.2 e he
theorem layAll_of : ∀ {ds : List PyData}, (∀ d ∈ ds, d.canLay0 = true) -> PyData.canLayAll0 ds = true
 | [], _ => rfl
 | d :: ds, h => by
  show (d.canLay0 && PyData.canLayAll0 ds) = true
  rw [h d List.mem_cons_self, layAll_of fun e he => h e (List.mem_cons_of_mem _ he)]; rfl
structure Gd (k n : Nat) (d : PyData) : Prop where
 sh : Sh k n d
 lay : d.canLay0 = true
 bd : ibd d = true
theorem Gd.mono {k n k' n' : Nat} {d : PyData} (h : Gd k n d) (hk : k ≤ k') (hn : n ≤ n') : Gd k' n' d := ⟨h.sh.mono hk hn, h.lay, h.bd⟩
theorem Gd.tup {k n m N : Nat} {ds : List PyData} (h : ∀ d ∈ ds, Gd k n d) (hm : ds.length ≤ m) (hN : (n + 3) * m + 8 ≤ N) : Gd (k + 1) N (.tuple ds) :=
 ⟨Sh.tup (fun d hd => (h d hd).sh) hm hN, layAll_of fun d hd => (h d hd).lay, ibdAll_of fun d hd => (h d hd).bd⟩
theorem Sh.lst {k n m N : Nat} {ds : List PyData} (h : ∀ d ∈ ds, Sh k n d) (hm : ds.length ≤ m) (hN : (n + 3) * m + 8 ≤ N) : Sh (k + 1) N (.list ds) := by
 obtain ⟨a, b, c, e, f⟩ := Sh.all h
 refine ⟨a, b, Nat.succ_le_succ c, ?_⟩
 show (listText (PyData.shownAll ds)).length ≤ N
 have q := listText_len_le (PyData.shownAll ds)
 have l : n * ds.length + 3 * ds.length ≤ (n + 3) * m := by
  rw [← Nat.add_mul]
  exact Nat.mul_le_mul_left _ hm
 omega
theorem Gd.lst {k n m N : Nat} {ds : List PyData} (h : ∀ d ∈ ds, Gd k n d) (hm : ds.length ≤ m) (hN : (n + 3) * m + 8 ≤ N) : Gd (k + 1) N (.list ds) :=
 ⟨Sh.lst (fun d hd => (h d hd).sh) hm hN, layAll_of fun d hd => (h d hd).lay, ibdAll_of fun d hd => (h d hd).bd⟩
theorem gd_none : Gd 0 5000 .none := ⟨⟨rfl, rfl, Nat.le_refl _, by decide⟩, rfl, rfl⟩
theorem gd_bool (b : Bool) : Gd 0 5000 (.bool b) := by cases b <;> exact ⟨⟨rfl, rfl, Nat.le_refl _, by decide⟩, rfl, rfl⟩
theorem gd_dR {r : R} (h : Wf 230 r) : Gd 1 5000 (dR r) := ⟨sh_dR h (by decide), dR_lay r, by
 show (decide (r.1.natAbs < 2 ^ 230) && (decide (r.2.natAbs < 2 ^ 230) && true)) = true
 rw [decide_eq_true h.top, decide_eq_true h.bot]; rfl⟩
theorem gd_int {i : Int} (h : i.natAbs < 2 ^ 230) : Gd 0 5000 (.int i) := ⟨⟨(show decide (i.natAbs.log2 < 1920) = true from decide_eq_true (log_of h (by decide))), rfl, Nat.le_refl _, Nat.le_trans (len_of h (by decide)) (by decide)⟩, rfl, decide_eq_true h⟩
theorem gd_two {k n N : Nat} {x y : PyData} (hx : Gd k n x) (hy : Gd k n y) (hN : (n + 3) * 2 + 8 ≤ N) : Gd (k + 1) N (.tuple [x, y]) := Gd.tup (m := 2) (fun d hd => by
 simp only [List.mem_cons, List.not_mem_nil, or_false] at hd
 rcases hd with rfl | rfl
 ·exact hx
 ·exact hy) (Nat.le_refl _) hN
def decR : PyData -> R
 | .tuple [.int a, .int b] => (a, b)
 | _ => (0, 1)
def decRow : PyData -> R × R
 | .tuple [x, y] => (decR x, decR y)
 | _ => rowD
end B
namespace B
open PySem PySem.Spec L2 PyProof.Rows
theorem comp_own {J : It} {H : Hp} {D : Addr} {n : Nat} (Pv : Nat -> List V -> Hp -> Prop) {src : List (Option Nat)} {σ : L2.St} {g : TG} {tt : TT} {te : TE} {Q : Hp -> Prop} (h0 : Pv 0 [] (upd H D (.lst [])))
  (go : ∀ i ys H', i < n -> Pv i ys H' -> J.go i H') (stop : ∀ ys H', Pv n ys H' -> J.stop n H' /\ Q H')
  (turn : ∀ i ys H' x H'', i < n -> Pv i ys H' -> J.yld i H' x H'' -> ∀ (R : VK) (E : Hp -> Prop), (∀ y H4, H4 D = some (.lst ys) -> ys.length < sizeLine -> Pv (i + 1) (ys ++ [y]) (upd H4 D (.lst (ys ++ [y]))) -> R y H4) -> (∀ H3, Pv (i + 1) ys H3 -> E H3) →
   g x (frees src σ) H'' fun σ2 H2 => Ext (frees src σ) σ2 /\ tt σ2 H2 fun ok H3 => if ok = true then te σ2 H3 R else E H3) :
  ∃ W : Nat -> Nat -> List V -> Hp -> Prop, (∃ m, W 0 m [] (upd H D (.lst []))) /\ ∀ i m ys H, W i m ys H -> (J.stop i H /\ Q H) ∨ (J.go i H /\ ∀ x H', J.yld i H x H' →
   g x (frees src σ) H' fun σ2 H2 => Ext (frees src σ) σ2 /\ tt σ2 H2 fun ok H3 =>
    if ok = true then te σ2 H3 fun y H4 => H4 D = some (.lst ys) /\ ys.length < sizeLine /\ ∃ m', m' < m /\ W (i + 1) m' (ys ++ [y]) (upd H4 D (.lst (ys ++ [y]))) else ∃ m', m' < m /\ W (i + 1) m' ys H3) := by
 refine ⟨fun i m ys H' => i ≤ n /\ m = n - i /\ Pv i ys H', ⟨_, Nat.zero_le _, rfl, h0⟩, ?_⟩
 rintro i m ys H1 ⟨hi, rfl, p⟩
 by_cases hix : i < n
 ·refine .inr ⟨go i ys H1 hix p, fun x H2 y => ?_⟩
  refine turn i ys H1 x H2 hix p y _ _ (fun y H4 a b c => ⟨a, b, n - (i + 1), by omega, hix, rfl, c⟩) fun H3 c => ⟨n - (i + 1), by omega, hix, rfl, c⟩
 ·have e : i = n := by omega
  subst e
  exact .inl (stop ys H1 p)
def tCut (t : TS) : TS := fun D σ H => ∃ M : L2.St -> Hp -> Prop, t { D with nx := M } σ H /\ ∀ σ' H', M σ' H' -> D.nx σ' H'
theorem qs_cut {X : Cx} {st : Stmt} {t : TS} (h : QS X st t) : QS X st (tCut t) := ⟨by
 intro pins s σ H D I q
 obtain ⟨M, q, k⟩ := q
 refine thn (h.p pins s σ H _ I q) fun f s' z => ?_
 cases f with
 | next => obtain ⟨σ', H', I', m⟩ := z; exact ⟨σ', H', I', k _ _ m⟩
 | brk => exact z
 | cont => exact z
 | ret u => exact z⟩
def tChain3 (r r' r'' : R2) (ta tb tc td : TE) : TE := fun σ H Q => ta σ H fun x H1 => tb σ H1 fun y H2 => r x y H2 fun z H3 => ∃ k, z = .bl k ∧
 (if k = true then tc σ H3 fun w' H4 => r' y w' H4 fun z' H5 => ∃ k', z' = .bl k' /\ (if k' = true then td σ H5 fun u' H6 => r'' w' u' H6 Q else Q (.bl false) H5) else Q (.bl false) H3)
theorem dl_same {t : Addr} {H H' : Hp} (s : Same H H') : Same (del H t) (del H' t) := fun b o q => by
 unfold del at q ⊢
 by_cases c : b = t
 ·rw [if_pos c] at q; cases q
 ·rw [if_neg c] at q ⊢; exact s _ _ q
theorem dl_step {t : Addr} {H H' : Hp} (S : Step t H H') : Same (del H t) (del H' t) := fun b o q => by
 unfold del at q ⊢
 by_cases c : b = t
 ·rw [if_pos c] at q; cases q
 ·rw [if_neg c] at q ⊢; exact S.keep _ _ c q
theorem dl_full {t : Addr} {H : Hp} : Same (del H t) H := fun b o q => by
 unfold del at q
 by_cases c : b = t
 ·rw [if_pos c] at q; cases q
 ·rw [if_neg c] at q; exact q
theorem dl_new {t p : Addr} {H : Hp} {o : HO} (g : H p = none) (h : ∃ xs, H t = some (.lst xs)) : del (upd H p o) t p = some o := by
 have n : p ≠ t := fun z => by subst z; obtain ⟨xs, e⟩ := h; rw [g] at e; cases e
 unfold del
 rw [if_neg n, upd_same]
theorem dl_tst {K : PySem.W.Frag} {t : Addr} {H : Hp} (h : ∃ xs, H t = some (.lst xs)) : Tst K H (del H t) := fun p xs q => by
 obtain ⟨ys, e⟩ := h
 rcases q with q | q
 ·rcases q with q | ⟨o, q⟩
  ·have n : p ≠ t := fun z => by subst z; rw [e] at q; cases q
   exact .inl (.inl (by unfold del; rw [if_neg n]; exact q))
  ·have n : p ≠ t := fun z => by subst z; rw [e] at q; cases q
   exact .inl (.inr ⟨o, by unfold del; rw [if_neg n]; exact q⟩)
 ·exact .inr q
theorem DeepAll.app {K : PySem.W.Frag} {H : Hp} : ∀ {xs ys : List V} {ds es : List PyData}, DeepAll K H xs ds -> DeepAll K H ys es -> DeepAll K H (xs ++ ys) (ds ++ es)
 | _, _, _, _, .nil, h => h
 | _, _, _, _, .cons a t, h => .cons a (DeepAll.app t h)
theorem DeepAll.takeN {K : PySem.W.Frag} {H : Hp} : ∀ (n : Nat) {xs : List V} {ds : List PyData}, DeepAll K H xs ds -> DeepAll K H (xs.take n) (ds.take n)
 | 0, _, _, _ => .nil
 | _ + 1, _, _, .nil => .nil
 | n + 1, _, _, .cons h t => .cons h (DeepAll.takeN n t)
theorem DeepAll.dropN {K : PySem.W.Frag} {H : Hp} : ∀ (n : Nat) {xs : List V} {ds : List PyData}, DeepAll K H xs ds -> DeepAll K H (xs.drop n) (ds.drop n)
 | 0, _, _, h => h
 | _ + 1, _, _, .nil => .nil
 | n + 1, _, _, .cons _ t => DeepAll.dropN n t
theorem DeepAll.atN {K : PySem.W.Frag} {H : Hp} : ∀ {xs : List V} {ds : List PyData}, DeepAll K H xs ds -> ∀ {i : Nat} {d : PyData}, ds[i]? = some d -> ∃ x, xs[i]? = some x /\ Deep K H x d
 | _, _, .cons h _, 0, d, e => by
  rw [List.getElem?_cons_zero] at e
  cases e
  exact ⟨_, rfl, h⟩
 | _, _, .cons _ t, i + 1, d, e => DeepAll.atN t (i := i) (by rw [List.getElem?_cons_succ] at e; exact e)
 | _, _, .nil, _, _, e => by cases e
theorem DeepAll.pick {K : PySem.W.Frag} {H : Hp} {xs : List V} {ds : List PyData} (h : DeepAll K H xs ds) {r : Int} (h0 : 0 ≤ r) (h1 : r < xs.length) : ∃ v d, atI xs r = some v /\ d ∈ ds /\ Deep K H v d := by
 have hl := h.len
 have e : ds[r.toNat]? = some (ds[r.toNat]'(by omega)) := List.getElem?_eq_getElem _
 obtain ⟨v, a, b⟩ := DeepAll.atN h e
 have q : atI xs ((r.toNat : Nat) : Int) = some v := atI_nat a
 rw [show ((r.toNat : Nat) : Int) = r by omega] at q
 exact ⟨v, _, q, List.getElem_mem _, b⟩
theorem gd_app {k n : Nat} {ds es : List PyData} (h : ∀ d ∈ ds, Gd k n d) (h' : ∀ d ∈ es, Gd k n d) : ∀ d ∈ ds ++ es, Gd k n d := fun d hd => (List.mem_append.mp hd).elim (h d) (h' d)
theorem gd_take {k n : Nat} {ds : List PyData} (m : Nat) (h : ∀ d ∈ ds, Gd k n d) : ∀ d ∈ ds.take m, Gd k n d := fun d hd => h d (List.mem_of_mem_take hd)
theorem gd_drop {k n : Nat} {ds : List PyData} (m : Nat) (h : ∀ d ∈ ds, Gd k n d) : ∀ d ∈ ds.drop m, Gd k n d := fun d hd => h d (List.mem_of_mem_drop hd)
theorem gd_wide {k n k' n' : Nat} {ds : List PyData} (hk : k ≤ k') (hn : n ≤ n') (h : ∀ d ∈ ds, Gd k n d) : ∀ d ∈ ds, Gd k' n' d := fun d hd => (h d hd).mono hk hn
theorem cut_any {xs : List V} {n : Nat} : cutV xs none (some (n : Int)) = xs.take n := by
 by_cases h : n ≤ xs.length
 ·exact cut_to h
 ·unfold cutV
  rw [HT.sIx_nat, HT.sIx_none, Nat.sub_zero, List.drop_zero, Nat.min_eq_right (by omega), List.take_of_length_le (Nat.le_refl _), List.take_of_length_le (by omega)]
section
variable {prog : Program} {w : World} {A : Around} {E : Value -> Shared -> Prop} {s : Shared}
end
def tRev (K : PySem.W.Frag) (te : TE) : TE := fun σ H Q => te σ H fun x H1 => ∃ a xs, x = .ref a /\ SqT K H1 a xs /\ ∀ p, H1 p = none -> Q (.ref p) (upd H1 p (.tup xs.reverse))
end B
namespace B
theorem cast_pos {b : Int} (h : 0 < b) : (0 : Rat) < (b : Rat) := by
 have := Rat.intCast_lt_intCast.mpr h
 exact this
theorem val_less {r q : R} (hr : 0 < r.2) (hq : 0 < q.2) : lessR r q = true ↔ val r < val q := by
 rw [less_iff, ← Rat.intCast_lt_intCast, Rat.intCast_mul, Rat.intCast_mul]
 have h1 := cast_pos hr
 have h2 := cast_pos hq
 have e1 : (r.1 : Rat) = val r * (r.2 : Rat) := by
  have := ne_cast hr
  unfold val
  generalize (r.1 : Rat) = x at *
  generalize (r.2 : Rat) = y at *
  grind
 have e2 : (q.1 : Rat) = val q * (q.2 : Rat) := by
  have := ne_cast hq
  unfold val
  generalize (q.1 : Rat) = x at *
  generalize (q.2 : Rat) = y at *
  grind
 rw [e1, e2]
 generalize val r = x at *
 generalize val q = y at *
 generalize (r.2 : Rat) = u at *
 generalize (q.2 : Rat) = v at *
 have c : 0 < u * v := Rat.mul_pos h1 h2
 constructor
 ·intro h
  have h' : x * (u * v) < y * (u * v) := by grind
  by_cases w : x < y
  ·exact w
  ·have z : y ≤ x := Rat.not_lt.mp w
   have := Rat.mul_le_mul_of_nonneg_right z (Rat.le_of_lt c)
   grind
 ·intro h
  have := Rat.mul_lt_mul_of_pos_right h c
  grind
theorem val_not {r q : R} (hr : 0 < r.2) (hq : 0 < q.2) : lessR r q = false ↔ val q ≤ val r := by
 have a := val_less hr hq
 cases c : lessR r q with
 | true =>
  have := a.mp c
  constructor
  ·intro z; cases z
  ·intro z; grind
 | false =>
  constructor
  ·intro _
   by_cases w : val r < val q
   ·rw [a.mpr w] at c; cases c
   ·exact Rat.not_lt.mp w
  ·intro _; rfl
end B
namespace B
open PySem PySem.Spec L2 PyProof.Rows
theorem comp_filt {α : Type} {K : PySem.W.Frag} {H : Hp} {D a : Addr} {xs : List V} {ds : List α} {P : Hp -> V -> α -> Prop} {p : α -> Bool} {src : List (Option Nat)} {σ : L2.St} {g : TG} {tt : TT} {te : TE} {Q : Hp -> Prop}
  (mono : ∀ H H' v d, Tst K H H' -> P H v d -> P H' v d) (hD : H D = none) (hS : SqL K H a xs) (als : Als (P H) xs ds) (hn : ds.length ≤ 1000)
  (turn : ∀ (i : Nat) (x : V) (d : α) (H' : Hp), xs[i]? = some x -> ds[i]? = some d -> Same H H' -> P H' x d -> ∀ (R : VK) (E : Hp -> Prop), (∀ H'', Same H' H'' -> p d = true -> R x H'') -> (∀ H'', Same H' H'' -> p d = false -> E H'') →
   g x (frees src σ) H' fun σ2 H2 => Ext (frees src σ) σ2 /\ tt σ2 H2 fun ok H3 => if ok = true then te σ2 H3 R else E H3)
  (fin : ∀ H' ys, Same H H' -> H' D = some (.lst ys) -> Als (P H') ys (ds.filter p) -> Q H') :
  ∃ W : Nat -> Nat -> List V -> Hp -> Prop, (∃ m, W 0 m [] (upd H D (.lst []))) /\ ∀ i m ys H, W i m ys H -> ((Itl K a).stop i H /\ Q H) ∨ ((Itl K a).go i H /\ ∀ x H', (Itl K a).yld i H x H' →
   g x (frees src σ) H' fun σ2 H2 => Ext (frees src σ) σ2 /\ tt σ2 H2 fun ok H3 =>
    if ok = true then te σ2 H3 fun y H4 => H4 D = some (.lst ys) /\ ys.length < sizeLine /\ ∃ m', m' < m /\ W (i + 1) m' (ys ++ [y]) (upd H4 D (.lst (ys ++ [y]))) else ∃ m', m' < m /\ W (i + 1) m' ys H3) := by
 refine ⟨fun i m ys H' => i ≤ ds.length /\ m = ds.length - i /\ H' D = some (.lst ys) /\ Same H H' /\ Als (P H') ys ((ds.take i).filter p), ⟨_, Nat.zero_le _, rfl, upd_same, same_new hD _, .nil⟩, ?_⟩
 rintro i m ys H1 ⟨hi, rfl, d1, s1, al1⟩
 have hS1 : SqL K H1 a xs := s1.seq hS
 by_cases hix : i < ds.length
 ·have hx0 : xs[i]? = some (xs[i]'(by rw [als.len]; exact hix)) := List.getElem?_eq_getElem _
  refine .inr ⟨⟨xs, _, hS1, hx0⟩, ?_⟩
  rintro x H2 ⟨rfl, hy⟩
  have hx := hy xs hS1
  obtain ⟨d, hd, pd⟩ := als.at hx
  have tk : ds.take (i + 1) = ds.take i ++ [d] := by rw [List.take_add_one, hd]; rfl
  refine turn i x d _ hx hd s1 (mono _ _ _ _ (Tst.same s1) pd) _ _ (fun H3 s3 o3 => ?_) fun H3 s3 n3 => ?_
  ·have d3 : H3 D = some (.lst ys) := s3 _ _ d1
   have tm : Tst K H2 (upd H3 D (.lst (ys ++ [x]))) := (Tst.same s3).trans (Tst.up d3 _)
   have ly : ys.length ≤ 1000 := by
    rw [al1.len]
    exact Nat.le_trans (List.length_filter_le _ _) (by rw [List.length_take]; omega)
   refine ⟨d3, small1000 ly, ds.length - (i + 1), by omega, hix, rfl, upd_same, fun b o q => ?_, ?_⟩
   ·rw [upd_ne (ne_of_none q hD)]
    exact s3 _ _ (s1 _ _ q)
   ·rw [tk, List.filter_append, List.filter_cons_of_pos o3, List.filter_nil]
    exact (al1.mono fun v d p => mono _ _ _ _ tm p).snoc (mono _ _ _ _ ((Tst.same s1).trans tm) pd)
  ·refine ⟨ds.length - (i + 1), by omega, hix, rfl, s3 _ _ d1, s1.trans s3, ?_⟩
   rw [tk, List.filter_append, List.filter_cons_of_neg (by rw [n3]; decide), List.filter_nil, List.append_nil]
   exact al1.mono fun v d p => mono _ _ _ _ (Tst.same s3) p
 ·have e : i = ds.length := by omega
  subst e
  rw [List.take_length] at al1
  exact .inl ⟨⟨xs, hS1, by rw [als.len]; exact Nat.le_refl _⟩, fin H1 ys s1 d1 al1⟩
def Ris (zs : List R) : Prop := zs.Pairwise fun a b => lessR a b = true
theorem ris_at {zs : List R} {s : R} (hz : ∀ z ∈ zs, Red z) (hs : Red s) (pw : Ris zs) {j : Nat} {z : R} (e : zs[j]? = some z) : lessR z s = decide (j < (zs.filter (lessR · s)).length) := by
 have inc : Inc (zs.map fun z => (z, z)) := List.pairwise_map.mpr pw
 have al : AllP (zs.map fun z => (z, z)) := fun r hr => by
  obtain ⟨z, hm, rfl⟩ := List.mem_map.mp hr
  exact (hz z hm).pos
 have e' : (zs.map fun z => (z, z))[j]? = some (z, z) := by rw [List.getElem?_map, e]; rfl
 have c := cnt_p hs.pos inc al e'
 have n : pOf (zs.map fun z => (z, z)) s = (zs.filter (lessR · s)).length := by
  unfold pOf
  rw [List.countP_map, List.countP_eq_length_filter]
  rfl
 rw [n] at c
 exact c
theorem less_or {z s : R} (hz : Red z) (hs : Red s) (n : lessR z s = false) (ne : z ≠ s) : lessR s z = true := by
 have le := (val_not hz.pos hs.pos).mp n
 refine (val_less hs.pos hz.pos).mpr ?_
 have nv : val z ≠ val s := fun q => ne (val_inj hz hs q)
 grind
theorem ris_ins {zs : List R} {s : R} (hz : ∀ z ∈ zs, Red z) (hs : Red s) (pw : Ris zs) (no : ¬ s ∈ zs) : Ris (zs.take (zs.filter (lessR · s)).length ++ s :: zs.drop (zs.filter (lessR · s)).length) := by
 have at_ := fun j z => ris_at (j := j) (z := z) hz hs pw
 generalize (zs.filter (lessR · s)).length = n at at_
 have lo : ∀ a ∈ zs.take n, lessR a s = true := fun a ha => by
  obtain ⟨j, hj⟩ := List.getElem?_of_mem ha
  rw [List.getElem?_take] at hj
  split at hj
  ·rename_i c
   rw [at_ j a hj, decide_eq_true c]
  ·cases hj
 have hi : ∀ a ∈ zs.drop n, lessR s a = true := fun a ha => by
  have ma := List.mem_of_mem_drop ha
  obtain ⟨j, hj⟩ := List.getElem?_of_mem ha
  rw [List.getElem?_drop] at hj
  have c := at_ (n + j) a hj
  rw [decide_eq_false (by omega)] at c
  exact less_or (hz a ma) hs c fun q => no (by rw [← q]; exact ma)
 have both : (zs.take n ++ zs.drop n).Pairwise fun a b => lessR a b = true := by rw [List.take_append_drop]; exact pw
 obtain ⟨p1, p2, p3⟩ := List.pairwise_append.mp both
 refine List.pairwise_append.mpr ⟨p1, List.pairwise_cons.mpr ⟨hi, p2⟩, fun a ha b hb => ?_⟩
 rcases List.mem_cons.mp hb with rfl | hb
 ·exact lo a ha
 ·exact p3 a ha b hb
theorem any_dR {zs : List R} {s : R} : ((zs.map dR).any fun e => PyData.eqv e (dR s)) = decide (s ∈ zs) := by
 rw [List.any_map]
 by_cases c : s ∈ zs
 ·rw [decide_eq_true c, List.any_eq_true]
  exact ⟨s, c, eqv_same s⟩
 ·rw [decide_eq_false c, List.any_eq_false]
  intro z hz
  show ¬ PyData.eqv (dR z) (dR s) = true
  rw [eqv_iff, decide_eq_true_iff]
  intro q
  exact c (by rw [← q]; exact hz)
theorem lays_dR (zs : List R) : Lays (zs.map dR) := fun e he => by
 obtain ⟨z, _, rfl⟩ := List.mem_map.mp he
 exact ⟨dR_lay z, dR_depth z⟩
theorem Als.take {α : Type} {P : V -> α -> Prop} : ∀ {xs : List V} {ds : List α} (n : Nat), Als P xs ds -> Als P (xs.take n) (ds.take n)
 | _, _, 0, _ => by rw [List.take_zero, List.take_zero]; exact .nil
 | _, _, _ + 1, .nil => .nil
 | _, _, n + 1, .cons h t => .cons h (Als.take n t)
theorem Als.drop {α : Type} {P : V -> α -> Prop} : ∀ {xs : List V} {ds : List α} (n : Nat), Als P xs ds -> Als P (xs.drop n) (ds.drop n)
 | _, _, 0, h => h
 | _, _, _ + 1, .nil => .nil
 | _, _, n + 1, .cons _ t => Als.drop n t
theorem Als.join {α : Type} {P : V -> α -> Prop} : ∀ {xs ys : List V} {ds es : List α}, Als P xs ds -> Als P ys es -> Als P (xs ++ ys) (ds ++ es)
 | _, _, _, _, .nil, k => k
 | _, _, _, _, .cons h t, k => .cons h (Als.join t k)
end B
namespace L2
open PySem PySem.Spec PyProof.Rows
structure RoomM (k : Nat) (A : Around) : Prop where
 dp : A.depth + 3 * k + 5 < recursionLimit
 un : A.units + 16 * k + 200 < cLine
 gd : A.guards = some []
theorem RoomM.depth {k : Nat} {A : Around} (r : RoomM k A) : A.depth < recursionLimit := by have := r.dp; omega
theorem RoomM.deeper {k : Nat} {A : Around} (r : RoomM (k + 1) A) (env : Env) : RoomM k (A.deeper env) :=
 ⟨by have := r.dp; show A.depth + 1 + 3 * k + 5 < _; omega, by have := r.un; show A.units + 3 + 16 * k + 200 < _; omega, r.gd⟩
theorem Room.inM {j k : Nat} {A : Around} {v : Option Value} (r : Room k A) (h : j ≤ k) : RoomM j (A.mark v) :=
 ⟨by have := r.dp; show A.depth + 3 * j + 5 < _; omega, by have := r.un; show A.units + 16 * j + 200 < _; omega, r.gd⟩
structure FnOkM (P : Program) (w : World) (K : PySem.W.Frag) (mg : Str -> Option Value) (base : Heap) (CX : CXT) (k : Nat) (f : Addr) (fd : FuncData) (ps : List Str) (sp : Sp) : Prop where
 len : ∀ vs H Q E, sp vs H Q E -> vs.length = ps.length
 run : ∀ (A : Around) (outer : List Env) (s : Shared) (H : Hp) (args : Args) (us : List Value) (vs : List V) (Q : VK) (E : XK), RoomM k A -> Env0 P w K mg base A outer s H -> BindsTo s fd args (ps.zip us) -> Vals vs us -> sp vs H Q E →
  codeAny (model P w) A (.call (.ref f) args) (CR CX outer P w H s Q E) s
def cxM (CX : CXT) (P : Program) (w : World) (K : PySem.W.Frag) (mg : Str -> Option Value) (base : Heap) (N : List Str) (qual : Str) (scope : Scope) (f : Addr) (cd : Value) (A : Around) (outer : List Env) (s : Shared) (H : Hp) (E : XK) : Cx := { cxOf CX P w K mg base N qual scope f cd A outer s H E with calm := false }
theorem inv_startM {CX : CXT} {P : Program} {w : World} {K : PySem.W.Frag} {mg : Str -> Option Value} {base : Heap} {N ps : List Str} {qual : Str} {scope : Scope} {f : Addr} {cd : Value} {A : Around} {outer : List Env} {s s1 : Shared} {H : Hp} {E : XK} {us : List Value} {vs : List V}
  (S : FnScope N ps scope) (e0 : Env0 P w K mg base A outer s H) (hl : vs.length = ps.length) (r : Vals vs us)
  (x : InCallC s s.heap.objs.size (bindL (envOfC qual scope s.heap.objs.size f cd).kindOf (ps.zip us) fun _ => none) (cellsFrom (s.heap.objs.size + 1) scope.names []) (bindC (envOfC qual scope s.heap.objs.size f cd).kindOf (ps.zip us) fun _ => none) s1) :
  Inv (cxM CX P w K mg base N qual scope f cd A outer s H E) [] (start N vs) H s1 := by
 have e1 : Env0 P w K mg base { A with handled := none } outer s H := ⟨e0.frames, e0.mod, e0.bs, e0.bsz, e0.funs, e0.frf, e0.hok, e0.bare⟩
 have I := inv_start (CX := CX) (E := E) S rfl e1 hl r x
 exact ⟨⟨I.ok.mod, I.ok.kind, I.ok.glob, I.ok.blt, I.ok.above, I.ok.inj, I.ok.has, I.ok.cab, (fun z => nomatch z), I.ok.frames, I.ok.stk, I.ok.exf, I.ok.bs, I.ok.bsz, I.ok.noex, I.ok.exfs, I.ok.funs, I.ok.frf⟩, I.os, I.bare, I.base, I.loc, I.cell, I.free, I.freeC, I.pin, I.hok, I.len⟩
theorem fn_ofM {CX : CXT} {P : Program} {w : World} {K : PySem.W.Frag} {mg : Str -> Option Value} {base : Heap} {k : Nat} {f : Addr} {name qual : Str} {params : Arguments} {body : List Stmt} {scope : Scope} {dV kV doc pm cdv ct oc : Value} {an od : Option Addr}
  {osl : Array (Option Value)} {N ps : List Str} {sp : Sp} (lk : K.lookup f = some ⟨oc, od, .func (PySem.W.fnOf name qual params body scope dV kV doc pm an cdv ct), osl⟩) (hcd : PySem.W.codeIn K cdv qual = true) (S : FnScope N ps scope)
  (len : ∀ vs H Q E, sp vs H Q E -> vs.length = ps.length)
  (hbody : ∀ (A : Around) (outer : List Env) (s : Shared) (H : Hp) (vs : List V) (Q : VK) (E : XK), RoomM k (A.deeper (envOfC qual scope s.heap.objs.size f cdv)) -> sp vs H Q E →
   ∃ t, PSs (cxM CX P w K mg base N qual scope f cdv A outer s H E) body t /\ t { nx := fun _ H' => Q .non H', rt := Q } (start N vs) H) :
  FnOkM P w K mg base CX (k + 1) f (PySem.W.fnOf name qual params body scope dV kV doc pm an cdv ct) ps sp := by
 refine ⟨len, fun A outer s H args us vs Q E hr e0 hb r hsp => ?_⟩
 have hl := len _ _ _ _ hsp
 have KX : K.In s.heap := e0.mod.kin.keeps fun b o e => (e0.bs b o e).1
 have lim : s.heap.NoLimit := e0.mod.nolimit.keeps fun b o e => (e0.bs b o e).1
 have hkind : ∀ y ∈ ps.zip us, scope.names.lookup y.1 = some .local ∨ (scope.names.lookup y.1 = some .cell /\ ((cellsFrom (s.heap.objs.size + 1) scope.names []).lookup y.1).isSome = true) := fun ⟨n, v⟩ hy => by
  rcases S.par n (List.of_mem_zip hy).1 with q | q
  ·exact .inl q
  ·exact .inr ⟨q, PySem.W.cellsFrom_some _ _ _ (.inl q)⟩
 refine codeAny_call_function hr.depth (KX _ _ lk) rfl S.co S.gen rfl (PySem.W.codeRec_of KX hcd) (hb _ _ _ _ ?_)
 refine wpAny_newFunctionEnv_cells S.kind hkind fun env he s1 x => ?_
 subst he
 refine ⟨lim.keeps x.toInCall.keep, codeAny_func ?_⟩
 obtain ⟨t, ht, hq⟩ := hbody A outer s H vs Q E (hr.deeper _) hsp
 have I : Inv (cxM CX P w K mg base N qual scope f cdv A outer s H E) [] (start N vs) H s1 := inv_startM S e0 hl r x
 refine wpAny_mono (ht [] s1 (start N vs) H _ I hq) (fun fl s' hs => ?_) fun e s' hs => hs
 have fin : ∀ {σ' : St} {H' : Hp} {v : V} {u : Value}, Inv (cxM CX P w K mg base N qual scope f cdv A outer s H E) [] σ' H' s' -> RelV v u -> Q v H' -> CE outer P w H s Q u s' :=
  fun {σ' H' v u} J rv q => ⟨v, H', J.os, J.bare, J.base, J.hok, rv, q⟩
 cases fl with
 | ret u =>
  obtain ⟨v, σ', H', J, rv, q⟩ := hs
  exact fin J rv q
 | next =>
  obtain ⟨σ', H', J, q⟩ := hs
  exact fin (v := V.non) (u := Value.none) J rfl q
 | brk =>
  obtain ⟨_, _, _, q⟩ := hs
  exact False.elim q
 | cont =>
  obtain ⟨_, _, _, q⟩ := hs
  exact False.elim q
section
variable {X : Cx} {CX : CXT} {k : Nat} {f C : Addr} {fd : FuncData} {ps : List Str} {sp : Sp} {dvs : List V} {ds : List Value} {E : XK} {x m : Str} {p pos apos : Pos} {e o : Expr} {es : List Expr} {ta : TE} {t : TA}
theorem run_fnM {pins : List (Addr × Obj)} {σ : St} {H : Hp} {s : Shared} {Q : VK} {us : List Value} {vs : List V} (F : FnOkM X.prog X.w X.K X.mg X.base CX k f fd ps sp) (hr : RoomM k X.A) (hb : Binds X.K fd ps ds) (hd : Vals dvs ds) (hx : Passes CX X E)
  (I : Inv X pins σ H s) (r : Vals vs us) (h : sp (vs ++ dvs) H Q E) : wpAny (model X.prog X.w) X.A (call (.ref f) us) (EP X pins σ Q) X.xe s := by
 have r2 : Vals (vs ++ dvs) (us ++ ds) := r.append hd
 have hl : (us ++ ds).length = ps.length := by rw [← r2.length]; exact F.len _ _ _ _ h
 refine wpAny_call (codeAny_mono (F.run X.A X.stack s H ⟨us, []⟩ (us ++ ds) (vs ++ dvs) Q E hr I.env0 (hb s us I.kIn hl) r2 h) fun r s' hq => ?_)
 cases r with
 | error e => exact hx pins σ H s e s' I hq
 | ok fl =>
  cases fl with
  | ret u => exact I.after hq
  | next => exact False.elim hq
  | brk => exact False.elim hq
  | cont => exact False.elim hq
theorem pe_callM (F : FnOkM X.prog X.w X.K X.mg X.base CX k f fd ps sp) (hr : RoomM k X.A) (hg : Gl X x) (hm : X.mg x = some (.ref f)) (hk : PySem.W.keepIn X.K (.ref f) = true) (hb : Binds X.K fd ps ds) (hd : Vals dvs ds) (hx : Passes CX X E)
  (ha : PA X (e :: es) t) (hdb : (x == ("__debug__" : Str)) = false := by decide) (he : starEach (e :: es) X.env = (false, eval e X.env) :: starEach es X.env := by rfl) (hpl : (backTo pos (starEach es X.env)).any (·.1) = false := by rfl) :
  PE X (.Call (.Name x p) (e :: es) [] pos) (tCall sp dvs E t) := by
 intro pins s σ H Q I h
 refine wpAny_Call_Name_kw (ld_glob I hg hm ?_ hdb)
 refine PySem.W.callWith_K (h₀ := X.base) I.ok.mod.kin hk (thn (ha pos pins s σ H _ I h) fun us s1 ⟨vs, H1, I1, r, q⟩ => ⟨I1.kIn, ?_⟩) he hpl
 exact run_fnM F hr hb hd hx I1 r q
end
section
variable {P : Program} {w : World} {K : PySem.W.Frag} {mg : Str -> Option Value} {base : Heap}
theorem Fun.okM {x qual : Str} {st : Stmt} {f : Addr} {fd : FuncData} {N ps : List Str} {k : Nat} {sp : Sp} (F : Fun K x qual st f fd) (S : FnScope N ps (defScope st)) (len : ∀ vs H Q E, sp vs H Q E -> vs.length = ps.length)
  (hbody : ∀ (cdv : Value) (A : Around) (outer : List Env) (s : Shared) (H : Hp) (vs : List V) (Q : VK) (E : XK), RoomM k (A.deeper (envOfC qual (defScope st) s.heap.objs.size f cdv)) -> sp vs H Q E →
   ∃ t, PSs (cxM CX0 P w K mg base N qual (defScope st) f cdv A outer s H E).nox (defBody st) t /\ t { nx := fun _ H' => Q .non H', rt := Q } (start N vs) H) : FnOkM P w K mg base CX0 (k + 1) f fd ps sp := by
 obtain ⟨oc, od, kV, doc, pm, an, cdv, ct, osl, rfl, lk, hcd⟩ := F.ex
 refine fn_ofM lk hcd S len fun A outer s H vs Q E hr hsp => ?_
 obtain ⟨t, h, q⟩ := hbody cdv A outer s H vs Q E hr hsp
 exact ⟨t, h.nox, q⟩
end
end L2
namespace B
open PySem PySem.Spec L2 PyProof.Rows
section
set_option autoImplicit true
set_option relaxedAutoImplicit true
theorem qe_callM {X : Cx} {CX : CXT} {k : Nat} {f : Addr} {fd : FuncData} {ps : List Str} {sp : Sp} {dvs : List V} {ds : List Value} {E : XK} {x : Str} {p pos : Pos} {e : Expr} {es : List Expr} {t : TA} (F : FnOkM X.prog X.w X.K X.mg X.base CX k f fd ps sp) (hr : RoomM k X.A) (hg : Gl X x) (hm : X.mg x = some (.ref f)) (hk : PySem.W.keepIn X.K (.ref f) = true) (hb : Binds X.K fd ps ds) (hd : Vals dvs ds) (hx : Passes CX X E) (ha : QA X (e :: es) t) (hdb : (x == ("__debug__" : Str)) = false := by decide) (he : starEach (e :: es) X.env = (false, eval e X.env) :: starEach es X.env := by rfl) (hpl : (backTo pos (starEach es X.env)).any (·.1) = false := by rfl) : QE X (.Call (.Name x p) (e :: es) [] pos) (tCall sp dvs E t) := ⟨pe_callM F hr hg hm hk hb hd hx ha.p hdb he hpl⟩
end
end B
namespace My
open PySem L2 B PyProof.Rows
theorem qsA {X : Cx} {pos : Pos} (i : Nat) {x : Str} {e : Expr} {te : TE} {pos' : Pos} (hN : X.N.Nodup) (he : QE X e te) (hi : X.N[i]? = some x := by rfl) (hx : Loc X.env.scope x := by first | exact Or.inl rfl | exact Or.inr rfl) (hs : swapsWith e (some (.Name x pos')) pos.line X.env = pure false := by rfl) (hf : X.fn x = true ∨ X.env.scope.names.lookup x = some .local := by first | exact .inl rfl | exact .inr rfl | assumption) : QS X (.Assign [.Name x pos'] e pos) (tAsg te (gName i)) := qs_set hN hi hx he hs hf
theorem scA {N P : List Str} {sc : Scope} (a : sc.kind = .function := by rfl) (b : sc.isCoroutine = false := by rfl) (c : sc.isGenerator = false := by rfl) (d : N.Nodup := by decide +kernel) (e : N.take P.length = P := by rfl) (f : ∀ x ∈ P, sc.names.lookup x = some .local ∨ sc.names.lookup x = some .cell := by decide +kernel) (g : ∀ y ∈ sc.names, y.2 ≠ .free := by decide +kernel) : FnScope N P sc := ⟨a, b, c, d, e, f, g⟩
theorem bdA {K : PySem.W.Frag} {x qual : Str} {st : Stmt} {f : Addr} {fd : FuncData} {ps : List Str} (F : Fun K x qual st f fd) (h : ∀ (kV doc pm : Value) (an : Option Addr) (cdv ct : Value) (us : List Value), us.length = ps.length -> bindArgs (PySem.W.fnOf x qual (defArgs st) (defBody st) (defScope st) .none kV doc pm an cdv ct) ⟨us, []⟩ = pure (ps.zip us) := by
 intro _ _ _ _ _ _ us hl
 match us, hl with
 | [], h2 => first | rfl | (simp at h2)
 | [_], h2 => first | rfl | (simp at h2)
 | [_, _], h2 => first | rfl | (simp at h2)
 | [_, _, _], h2 => first | rfl | (simp at h2)
 | [_, _, _, _], h2 => first | rfl | (simp at h2)
 | _ :: _ :: _ :: _ :: _ :: _, h2 => simp at h2) : Binds K fd ps [] := F.binds h
def top (i : Nat) : Stmt := PySem.Challenge.pw_paceplan_k38_prices_asked.main.body.getD i (.Pass ⟨0, 0, 0, 0⟩)
abbrev s_Q21 : Stmt := top 1
abbrev s_Q7 : Stmt := top 2
abbrev s_Q39 : Stmt := top 3
abbrev s_Q0 : Stmt := top 17
abbrev s_Q22 : Stmt := top 18
abbrev s_Q2 : Stmt := top 19
abbrev s_Q45 : Stmt := top 20
abbrev s_Q49 : Stmt := top 21
abbrev s_Q46 : Stmt := top 22
abbrev s_Q47 : Stmt := top 23
abbrev s_Q50 : Stmt := top 24
abbrev s_Q40 : Stmt := top 25
abbrev s_Q31 : Stmt := top 26
abbrev s_Q3 : Stmt := top 30
abbrev s_Q41 : Stmt := top 31
abbrev s_Q11 : Stmt := top 32
abbrev s_Q23 : Stmt := top 33
abbrev s_Q4 : Stmt := top 34
abbrev s_Q12 : Stmt := top 35
abbrev s_Q48 : Stmt := top 36
abbrev s_Q24 : Stmt := top 38
abbrev s_Q5 : Stmt := top 39
abbrev s_Q25 : Stmt := top 41
abbrev s_Q26 : Stmt := top 42
abbrev s_Q27 : Stmt := top 43
abbrev s_Q32 : Stmt := top 44
abbrev s_Q33 : Stmt := top 45
abbrev s_Q28 : Stmt := top 46
abbrev s_Q13 : Stmt := top 47
abbrev s_Q29 : Stmt := top 48
abbrev s_Q8 : Stmt := top 49
abbrev s_Q9 : Stmt := top 50
abbrev s_Q14 : Stmt := top 51
abbrev s_Q1 : Stmt := top 52
abbrev s_Q10 : Stmt := top 53
abbrev s_Q15 : Stmt := top 54
abbrev s_Q6 : Stmt := top 55
abbrev s_Q16 : Stmt := top 56
abbrev s_Q30 : Stmt := top 57
abbrev s_Q17 : Stmt := top 58
abbrev s_Q18 : Stmt := top 59
abbrev s_Q51 : Stmt := top 60
abbrev s_Q34 : Stmt := inClass (top 11) 0
structure Ad where
 a_Q21 : Addr
 d_Q21 : FuncData
 a_Q7 : Addr
 d_Q7 : FuncData
 a_Q39 : Addr
 d_Q39 : FuncData
 a_Q0 : Addr
 d_Q0 : FuncData
 a_Q22 : Addr
 d_Q22 : FuncData
 a_Q2 : Addr
 d_Q2 : FuncData
 a_Q45 : Addr
 d_Q45 : FuncData
 a_Q49 : Addr
 d_Q49 : FuncData
 a_Q46 : Addr
 d_Q46 : FuncData
 a_Q47 : Addr
 d_Q47 : FuncData
 a_Q50 : Addr
 d_Q50 : FuncData
 a_Q40 : Addr
 d_Q40 : FuncData
 a_Q31 : Addr
 d_Q31 : FuncData
 a_Q3 : Addr
 d_Q3 : FuncData
 a_Q41 : Addr
 d_Q41 : FuncData
 a_Q11 : Addr
 d_Q11 : FuncData
 a_Q23 : Addr
 d_Q23 : FuncData
 a_Q4 : Addr
 d_Q4 : FuncData
 a_Q12 : Addr
 d_Q12 : FuncData
 a_Q48 : Addr
 d_Q48 : FuncData
 a_Q24 : Addr
 d_Q24 : FuncData
 a_Q5 : Addr
 d_Q5 : FuncData
 a_Q25 : Addr
 d_Q25 : FuncData
 a_Q26 : Addr
 d_Q26 : FuncData
 a_Q27 : Addr
 d_Q27 : FuncData
 a_Q32 : Addr
 d_Q32 : FuncData
 a_Q33 : Addr
 d_Q33 : FuncData
 a_Q28 : Addr
 d_Q28 : FuncData
 a_Q13 : Addr
 d_Q13 : FuncData
 a_Q29 : Addr
 d_Q29 : FuncData
 a_Q8 : Addr
 d_Q8 : FuncData
 a_Q9 : Addr
 d_Q9 : FuncData
 a_Q14 : Addr
 d_Q14 : FuncData
 a_Q1 : Addr
 d_Q1 : FuncData
 a_Q10 : Addr
 d_Q10 : FuncData
 a_Q15 : Addr
 d_Q15 : FuncData
 a_Q6 : Addr
 d_Q6 : FuncData
 a_Q16 : Addr
 d_Q16 : FuncData
 a_Q30 : Addr
 d_Q30 : FuncData
 a_Q17 : Addr
 d_Q17 : FuncData
 a_Q18 : Addr
 d_Q18 : FuncData
 a_Q51 : Addr
 d_Q51 : FuncData
 c_NOUGHT : Addr
 k_POWER : Tok
 k_TABLE : Tok
 c_base : Addr
 c_Q34 : Addr
 a_Q34 : Addr
 d_Q34 : FuncData
 c_Q19 : Addr
 c_Q35 : Addr
 c_Q42 : Addr
 c_Q43 : Addr
 c_Q44 : Addr
 c_Q36 : Addr
 c_Q37 : Addr
 c_Q20 : Addr
 c_Q38 : Addr
structure Txt (K : PySem.W.Frag) (mg : Str -> Option Value) (t : Ad) : Prop where
 F_Q21 : Fun K "is_whole" "is_whole" s_Q21 t.a_Q21 t.d_Q21
 b_Q21 : Binds K t.d_Q21 ["thing"] []
 m_Q21 : mg "is_whole" = some (.ref t.a_Q21)
 F_Q7 : Fun K "is_tuple_of" "is_tuple_of" s_Q7 t.a_Q7 t.d_Q7
 b_Q7 : Binds K t.d_Q7 ["thing", "length"] []
 m_Q7 : mg "is_tuple_of" = some (.ref t.a_Q7)
 F_Q39 : Fun K "copied" "copied" s_Q39 t.a_Q39 t.d_Q39
 b_Q39 : Binds K t.d_Q39 ["thing"] []
 m_Q39 : mg "copied" = some (.ref t.a_Q39)
 F_Q0 : Fun K "greatest_divisor" "greatest_divisor" s_Q0 t.a_Q0 t.d_Q0
 b_Q0 : Binds K t.d_Q0 ["one", "other"] []
 m_Q0 : mg "greatest_divisor" = some (.ref t.a_Q0)
 F_Q22 : Fun K "is_ratio" "is_ratio" s_Q22 t.a_Q22 t.d_Q22
 b_Q22 : Binds K t.d_Q22 ["thing"] []
 m_Q22 : mg "is_ratio" = some (.ref t.a_Q22)
 F_Q2 : Fun K "is_ratio_pair" "is_ratio_pair" s_Q2 t.a_Q2 t.d_Q2
 b_Q2 : Binds K t.d_Q2 ["thing"] []
 m_Q2 : mg "is_ratio_pair" = some (.ref t.a_Q2)
 F_Q45 : Fun K "ratio" "ratio" s_Q45 t.a_Q45 t.d_Q45
 b_Q45 : Binds K t.d_Q45 ["top", "bottom"] []
 m_Q45 : mg "ratio" = some (.ref t.a_Q45)
 F_Q49 : Fun K "plus" "plus" s_Q49 t.a_Q49 t.d_Q49
 b_Q49 : Binds K t.d_Q49 ["one", "other"] []
 m_Q49 : mg "plus" = some (.ref t.a_Q49)
 F_Q46 : Fun K "minus" "minus" s_Q46 t.a_Q46 t.d_Q46
 b_Q46 : Binds K t.d_Q46 ["one", "other"] []
 m_Q46 : mg "minus" = some (.ref t.a_Q46)
 F_Q47 : Fun K "times" "times" s_Q47 t.a_Q47 t.d_Q47
 b_Q47 : Binds K t.d_Q47 ["one", "other"] []
 m_Q47 : mg "times" = some (.ref t.a_Q47)
 F_Q50 : Fun K "over" "over" s_Q50 t.a_Q50 t.d_Q50
 b_Q50 : Binds K t.d_Q50 ["one", "other"] []
 m_Q50 : mg "over" = some (.ref t.a_Q50)
 F_Q40 : Fun K "raised" "raised" s_Q40 t.a_Q40 t.d_Q40
 b_Q40 : Binds K t.d_Q40 ["one", "power"] []
 m_Q40 : mg "raised" = some (.ref t.a_Q40)
 F_Q31 : Fun K "is_less" "is_less" s_Q31 t.a_Q31 t.d_Q31
 b_Q31 : Binds K t.d_Q31 ["one", "other"] []
 m_Q31 : mg "is_less" = some (.ref t.a_Q31)
 F_Q3 : Fun K "slope_between" "slope_between" s_Q3 t.a_Q3 t.d_Q3
 b_Q3 : Binds K t.d_Q3 ["low", "high"] []
 m_Q3 : mg "slope_between" = some (.ref t.a_Q3)
 F_Q41 : Fun K "top_of" "top_of" s_Q41 t.a_Q41 t.d_Q41
 b_Q41 : Binds K t.d_Q41 ["rule"] []
 m_Q41 : mg "top_of" = some (.ref t.a_Q41)
 F_Q11 : Fun K "is_beyond" "is_beyond" s_Q11 t.a_Q11 t.d_Q11
 b_Q11 : Binds K t.d_Q11 ["rule", "speed"] []
 m_Q11 : mg "is_beyond" = some (.ref t.a_Q11)
 F_Q23 : Fun K "place_of" "place_of" s_Q23 t.a_Q23 t.d_Q23
 b_Q23 : Binds K t.d_Q23 ["rows", "speed"] []
 m_Q23 : mg "place_of" = some (.ref t.a_Q23)
 F_Q4 : Fun K "table_slopes" "table_slopes" s_Q4 t.a_Q4 t.d_Q4
 b_Q4 : Binds K t.d_Q4 ["rows", "speed"] []
 m_Q4 : mg "table_slopes" = some (.ref t.a_Q4)
 F_Q12 : Fun K "slopes_at" "slopes_at" s_Q12 t.a_Q12 t.d_Q12
 b_Q12 : Binds K t.d_Q12 ["rule", "speed"] []
 m_Q12 : mg "slopes_at" = some (.ref t.a_Q12)
 F_Q48 : Fun K "bears" "bears" s_Q48 t.a_Q48 t.d_Q48
 b_Q48 : Binds K t.d_Q48 ["rule", "speed", "slope"] []
 m_Q48 : mg "bears" = some (.ref t.a_Q48)
 F_Q24 : Fun K "is_price" "is_price" s_Q24 t.a_Q24 t.d_Q24
 b_Q24 : Binds K t.d_Q24 ["rule", "price"] []
 m_Q24 : mg "is_price" = some (.ref t.a_Q24)
 F_Q5 : Fun K "right_prices" "right_prices" s_Q5 t.a_Q5 t.d_Q5
 b_Q5 : Binds K t.d_Q5 ["works", "rule", "thing"] []
 m_Q5 : mg "right_prices" = some (.ref t.a_Q5)
 F_Q25 : Fun K "_law_tape" "_law_tape" s_Q25 t.a_Q25 t.d_Q25
 b_Q25 : Binds K t.d_Q25 ["_law_script"] []
 m_Q25 : mg "_law_tape" = some (.ref t.a_Q25)
 F_Q26 : Fun K "_law_draw" "_law_draw" s_Q26 t.a_Q26 t.d_Q26
 b_Q26 : Binds K t.d_Q26 ["_law_tape_here", "_law_many"] []
 m_Q26 : mg "_law_draw" = some (.ref t.a_Q26)
 F_Q27 : Fun K "_law_frac" "_law_frac" s_Q27 t.a_Q27 t.d_Q27
 b_Q27 : Binds K t.d_Q27 ["_law_top", "_law_bottom"] []
 m_Q27 : mg "_law_frac" = some (.ref t.a_Q27)
 F_Q32 : Fun K "_law_add" "_law_add" s_Q32 t.a_Q32 t.d_Q32
 b_Q32 : Binds K t.d_Q32 ["_law_one", "_law_other"] []
 m_Q32 : mg "_law_add" = some (.ref t.a_Q32)
 F_Q33 : Fun K "_law_mul" "_law_mul" s_Q33 t.a_Q33 t.d_Q33
 b_Q33 : Binds K t.d_Q33 ["_law_one", "_law_other"] []
 m_Q33 : mg "_law_mul" = some (.ref t.a_Q33)
 F_Q28 : Fun K "_law_less" "_law_less" s_Q28 t.a_Q28 t.d_Q28
 b_Q28 : Binds K t.d_Q28 ["_law_one", "_law_other"] []
 m_Q28 : mg "_law_less" = some (.ref t.a_Q28)
 F_Q13 : Fun K "_law_works" "_law_works" s_Q13 t.a_Q13 t.d_Q13
 b_Q13 : Binds K t.d_Q13 ["_law_tape_here", "_law_many"] []
 m_Q13 : mg "_law_works" = some (.ref t.a_Q13)
 F_Q29 : Fun K "_law_rule" "_law_rule" s_Q29 t.a_Q29 t.d_Q29
 b_Q29 : Binds K t.d_Q29 ["_law_tape_here", "_law_kinks", "_law_most"] []
 m_Q29 : mg "_law_rule" = some (.ref t.a_Q29)
 F_Q8 : Fun K "_law_rising" "_law_rising" s_Q8 t.a_Q8 t.d_Q8
 b_Q8 : Binds K t.d_Q8 ["_law_some"] []
 m_Q8 : mg "_law_rising" = some (.ref t.a_Q8)
 F_Q9 : Fun K "_law_slopes" "_law_slopes" s_Q9 t.a_Q9 t.d_Q9
 b_Q9 : Binds K t.d_Q9 ["_law_rule_here", "_law_speed"] []
 m_Q9 : mg "_law_slopes" = some (.ref t.a_Q9)
 F_Q14 : Fun K "_law_price" "_law_price" s_Q14 t.a_Q14 t.d_Q14
 b_Q14 : Binds K t.d_Q14 ["_law_tape_here", "_law_rule_here", "_law_speed"] []
 m_Q14 : mg "_law_price" = some (.ref t.a_Q14)
 F_Q1 : Fun K "_law_some_speed" "_law_some_speed" s_Q1 t.a_Q1 t.d_Q1
 b_Q1 : Binds K t.d_Q1 ["_law_tape_here", "_law_rule_here", "_law_kinks"] []
 m_Q1 : mg "_law_some_speed" = some (.ref t.a_Q1)
 F_Q10 : Fun K "_law_prices" "_law_prices" s_Q10 t.a_Q10 t.d_Q10
 b_Q10 : Binds K t.d_Q10 ["_law_tape_here", "_law_works_here", "_law_rule_here", "_law_kinks"] []
 m_Q10 : mg "_law_prices" = some (.ref t.a_Q10)
 F_Q15 : Fun K "_law_marks" "_law_marks" s_Q15 t.a_Q15 t.d_Q15
 b_Q15 : Binds K t.d_Q15 ["_law_e"] []
 m_Q15 : mg "_law_marks" = some (.ref t.a_Q15)
 F_Q6 : Fun K "_law_is_ratio" "_law_is_ratio" s_Q6 t.a_Q6 t.d_Q6
 b_Q6 : Binds K t.d_Q6 ["_law_thing"] []
 m_Q6 : mg "_law_is_ratio" = some (.ref t.a_Q6)
 F_Q16 : Fun K "_law_wrong" "_law_wrong" s_Q16 t.a_Q16 t.d_Q16
 b_Q16 : Binds K t.d_Q16 ["_law_works_here", "_law_rule_here", "_law_thing"] []
 m_Q16 : mg "_law_wrong" = some (.ref t.a_Q16)
 F_Q30 : Fun K "_law_bent" "_law_bent" s_Q30 t.a_Q30 t.d_Q30
 b_Q30 : Binds K t.d_Q30 ["_law_tape_here", "_law_rule_here", "_law_pair"] []
 m_Q30 : mg "_law_bent" = some (.ref t.a_Q30)
 F_Q17 : Fun K "_law_tried" "_law_tried" s_Q17 t.a_Q17 t.d_Q17
 b_Q17 : Binds K t.d_Q17 ["_law_works_here", "_law_rule_here", "_law_thing"] []
 m_Q17 : mg "_law_tried" = some (.ref t.a_Q17)
 F_Q18 : Fun K "_law_right" "_law_right" s_Q18 t.a_Q18 t.d_Q18
 b_Q18 : Binds K t.d_Q18 ["_law_works_here", "_law_rule_here", "_law_thing"] []
 m_Q18 : mg "_law_right" = some (.ref t.a_Q18)
 F_Q51 : Fun K "law" "law" s_Q51 t.a_Q51 t.d_Q51
 b_Q51 : Binds K t.d_Q51 ["_law_script"] []
 m_Q51 : mg "law" = some (.ref t.a_Q51)
 m_NOUGHT : mg "NOUGHT" = some (.ref t.c_NOUGHT)
 q_NOUGHT : ∀ H, SqT K H t.c_NOUGHT [.int (0), .int (1)]
 m_POWER : mg "POWER" = some (.str "power" t.k_POWER)
 m_TABLE : mg "TABLE" = some (.str "table" t.k_TABLE)
 X_Q34 : XC K t.c_Q34 t.a_Q34 (.ref t.c_base :: vMro)
 F_Q34 : Fun K "__init__" "NoPrice.__init__" s_Q34 t.a_Q34 t.d_Q34
 b_Q34 : Binds K t.d_Q34 ["self", "work"] []
 m_Q34 : mg "NoPrice" = some (.ref t.c_Q34)
 n_Q34_work : NoAttr K t.c_Q34 "work"
 g_Q34 : GetX K t.c_Q34
 m_Q19 : mg "PaceError" = some (.ref t.c_Q19)
 m_Q35 : mg "NoLeast" = some (.ref t.c_Q35)
 m_Q42 : mg "NoMuch" = some (.ref t.c_Q42)
 m_Q43 : mg "NoPlan" = some (.ref t.c_Q43)
 m_Q44 : mg "NoRoom" = some (.ref t.c_Q44)
 m_Q36 : mg "NoSheet" = some (.ref t.c_Q36)
 m_Q37 : mg "NoSpeed" = some (.ref t.c_Q37)
 m_Q20 : mg "NoStretch" = some (.ref t.c_Q20)
 m_Q38 : mg "NoRatio" = some (.ref t.c_Q38)
 x_catch : PySem.W.exmOne K (.ref t.c_Q34) (.ref t.c_Q19) = some true
 y_self : PySem.W.kitOne K (.ref t.c_Q34) (.ref t.c_Q34) = some true
 y_base : PySem.W.kitOne K (.ref t.c_Q34) (.ref t.c_Q19) = some true
 y_val : PySem.W.kitOne K (.ref t.c_Q34) (.type "ValueError") = some true
 y_not : PySem.W.kitAny K (.ref t.c_Q34) [.ref t.c_Q35, .ref t.c_Q42, .ref t.c_Q43, .ref t.c_Q44, .ref t.c_Q36, .ref t.c_Q37, .ref t.c_Q20] = some false
 z_ValueError : mg "ValueError" = none
 z_abs : mg "abs" = none
 z_all : mg "all" = none
 z_bool : mg "bool" = none
 z_enumerate : mg "enumerate" = none
 z_int : mg "int" = none
 z_isinstance : mg "isinstance" = none
 z_len : mg "len" = none
 z_list : mg "list" = none
 z_range : mg "range" = none
 z_repr : mg "repr" = none
 z_tuple : mg "tuple" = none
 z_zip : mg "zip" = none
def sp_greatest_divisor (_ : PySem.W.Frag) : Sp := fun vs H Q _ => ∃ a b : Int, vs = [.int a, .int b] /\ Q (.int (Int.gcd a b : Nat)) H
def newR (H : Hp) (Q : VK) (r : R) : Prop := ∀ p, H p = none -> Q (.ref p) (upd H p (.tup [.int r.1, .int r.2]))
def toR (K : PySem.W.Frag) (H : Hp) (Q : VK) (r : R) : Prop := ∀ (v : V) (H' : Hp), Same H H' -> RV K H' v r -> Q v H'
def sp_ratio (_ : PySem.W.Frag) : Sp := fun vs H Q _ => ∃ a b : Int, vs = [.int a, .int b] /\ b ≠ 0 /\ b.natAbs < 2 ^ 4000 /\ newR H Q (mkS a b)
def sp_plus (K : PySem.W.Frag) : Sp := fun vs H Q _ => ∃ (v w : V) (r q : R) (n m : Nat), vs = [v, w] /\ RV K H v r /\ RV K H w q /\ Wf n r /\ Wf m q /\ n + m + 1 ≤ 3000 /\ newR H Q (plusR r q)
abbrev sp_law_plus := sp_plus
def sp_minus (K : PySem.W.Frag) : Sp := fun vs H Q _ => ∃ (v w : V) (r q : R) (n m : Nat), vs = [v, w] /\ RV K H v r /\ RV K H w q /\ Wf n r /\ Wf m q /\ n + m + 1 ≤ 3000 /\ toR K H Q (minusR r q)
def sp_law_minus (K : PySem.W.Frag) : Sp := fun vs H Q _ => ∃ (v w : V) (r q : R) (n m : Nat), vs = [v, w] /\ RV K H v r /\ RV K H w q /\ Wf n r /\ Wf m q /\ n + m + 1 ≤ 3000 /\ newR H Q (minusR r q)
def sp_times (K : PySem.W.Frag) : Sp := fun vs H Q _ => ∃ (v w : V) (r q : R) (n m : Nat), vs = [v, w] /\ RV K H v r /\ RV K H w q /\ Wf n r /\ Wf m q /\ n + m + 1 ≤ 3000 /\ newR H Q (timesR r q)
abbrev sp_law_times := sp_times
def sp_over (K : PySem.W.Frag) : Sp := fun vs H Q _ => ∃ (v w : V) (r q : R) (n m : Nat), vs = [v, w] /\ RV K H v r /\ RV K H w q /\ Wf n r /\ Wf m q /\ n + m + 1 ≤ 3000 /\ q.1 ≠ 0 /\ toR K H Q (overR r q)
def sp_law_over (K : PySem.W.Frag) : Sp := fun vs H Q _ => ∃ (v w : V) (r q : R) (n m : Nat), vs = [v, w] /\ RV K H v r /\ RV K H w q /\ Wf n r /\ Wf m q /\ n + m + 1 ≤ 3000 /\ q.1 ≠ 0 /\ newR H Q (overR r q)
def sp_is_less (K : PySem.W.Frag) : Sp := fun vs H Q _ => ∃ (v w : V) (r q : R) (n m : Nat), vs = [v, w] /\ RV K H v r /\ RV K H w q /\ Wf n r /\ Wf m q /\ n + m + 1 ≤ 3000 /\ Q (.bl (lessR r q)) H
abbrev sp_law_less := sp_is_less
def sp_raised (K : PySem.W.Frag) : Sp := fun vs H Q _ => ∃ (v : V) (r : R) (k : Int), vs = [v, .int k] /\ RV K H v r /\ Wf 98 r /\ 0 ≤ k /\ k ≤ 4 /\ toR K H Q (powR r k.toNat)
theorem big_of {i : Int} {n : Nat} (h : i.natAbs < 2 ^ n) (hn : n ≤ 4000) : i.natAbs < 2 ^ 4000 := Nat.lt_of_lt_of_le h (Nat.pow_le_pow_right (by decide) hn)
theorem rv_new {K : PySem.W.Frag} {H : Hp} {p : Addr} {x y : Int} (_ : Same H (upd H p (.tup [.int x, .int y]))) : RV K (upd H p (.tup [.int x, .int y])) (.ref p) (x, y) := RV.of upd_same
theorem cop_neg' {a b : Int} (h : Int.gcd a b = 1) : Int.gcd (-a) b = 1 := by rw [Int.neg_gcd]; exact h
theorem div_lt {a g : Int} (hg : 0 < g) (h : a.natAbs < 2 ^ 4000) : (a / g).natAbs < 2 ^ 4000 := Nat.lt_of_le_of_lt (natAbs_div_le a hg) h
theorem gcd_lt {a b : Int} (hb : 0 < b) (h : b.natAbs < 2 ^ 4000) : ((Int.gcd a b : Nat) : Int).natAbs < 2 ^ 4000 := gcd_big (by omega) h
theorem two63 {n : Int} (h0 : 0 ≤ n) (h1 : n ≤ 100) : -(2 ^ 62) ≤ n /\ n < 2 ^ 62 := by constructor <;> omega
theorem pow_lt98 {a : Int} {i : Nat} (h : a.natAbs < 2 ^ 98) (hi : i ≤ 4) : (a ^ i).natAbs < 2 ^ 4000 := by
 rw [Int.natAbs_pow]
 refine Nat.lt_of_le_of_lt (Nat.pow_le_pow_left (Nat.le_of_lt h) i) ?_
 rw [← Nat.pow_mul]
 exact Nat.pow_lt_pow_right (by decide) (by omega)
def RowV (K : PySem.W.Frag) (H : Hp) (v : V) (w : R × R) : Prop := ∃ p x y, v = .ref p /\ SqT K H p [x, y] /\ RV K H x w.1 /\ RV K H y w.2
theorem RowV.mono {K : PySem.W.Frag} {H H' : Hp} {v : V} {w : R × R} (h : RowV K H v w) (t : Tst K H H') : RowV K H' v w := let ⟨p, q, q', a, b, c, d⟩ := h; ⟨p, q, q', a, t _ _ b, c.mono t, d.mono t⟩
def RlV (K : PySem.W.Frag) (H : Hp) (v : V) : Rl -> Prop
 | .pow k => ∃ p, v = .ref p /\ SqT K H p [.str (Str.ofString "power"), .int k]
 | .tab rows => ∃ p q xs, v = .ref p /\ SqT K H p [.str (Str.ofString "table"), .ref q] /\ SqT K H q xs /\ Als (RowV K H) xs rows
theorem RlV.mono {K : PySem.W.Frag} {H H' : Hp} {v : V} {rl : Rl} (h : RlV K H v rl) (t : Tst K H H') : RlV K H' v rl := by
 cases rl with
 | pow k => obtain ⟨p, a, b⟩ := h; exact ⟨p, a, t _ _ b⟩
 | tab rows => obtain ⟨p, q, xs, a, b, c, d⟩ := h; exact ⟨p, q, xs, a, t _ _ b, t _ _ c, d.mono fun _ _ z => z.mono t⟩
def OptV (K : PySem.W.Frag) (H : Hp) (v : V) : Option R -> Prop
 | none => v = .non
 | some r => RV K H v r
def SidV (K : PySem.W.Frag) (H : Hp) (v : V) (w : R × Option R) : Prop := ∃ p x y, v = .ref p /\ SqT K H p [x, y] /\ RV K H x w.1 /\ OptV K H y w.2
structure SlOk (a b : R × R) : Prop where
 ne : (minusR b.1 a.1).1 ≠ 0
 w1 : Wf 99 (minusR b.1 a.1)
 w2 : Wf 198 (minusR b.2 a.2)
 a1 : Wf 98 a.1
 b1 : Wf 98 b.1
 a2 : Wf 197 a.2
 b2 : Wf 197 b.2
theorem slOk {rows : List (R × R)} (h : RowsOk rows) {i j : Nat} {a b : R × R} (hij : i < j) (ha : rows[i]? = some a) (hb : rows[j]? = some b) : SlOk a b :=
 let ⟨e1, e2, e3, _⟩ := h.slope hij ha hb
 let ma := List.mem_of_getElem? ha
 let mb := List.mem_of_getElem? hb
 ⟨e1, e2, e3, wfS (h.sp a ma), wfS (h.sp b mb), wfP (h.pw a ma), wfP (h.pw b mb)⟩
def sp_slope_between (K : PySem.W.Frag) : Sp := fun vs H Q _ => ∃ (v w : V) (a b : R × R), vs = [v, w] /\ RowV K H v a /\ RowV K H w b /\ SlOk a b /\ toR K H Q (slopeR a b)
def sp_place_of (K : PySem.W.Frag) : Sp := fun vs H Q _ => ∃ (q : Addr) (v : V) (xs : List V) (rows : List (R × R)) (s : R), vs = [.ref q, v] /\ SqT K H q xs /\ Als (RowV K H) xs rows /\ RowsOk rows /\ RV K H v s /\ SpOk s /\ Below (.tab rows) s /\ Q (.int (pOf rows s)) H
def sp_table_slopes (K : PySem.W.Frag) : Sp := fun vs H Q _ => ∃ (q : Addr) (v : V) (xs : List V) (rows : List (R × R)) (s : R), vs = [.ref q, v] /\ SqT K H q xs /\ Als (RowV K H) xs rows /\ RowsOk rows /\ RV K H v s /\ SpOk s /\ Below (.tab rows) s /\ ∀ (v' : V) (H' : Hp), Same H H' -> SidV K H' v' (leftT rows s, rightT rows s) -> Q v' H'
def sp_slopes_at (K : PySem.W.Frag) : Sp := fun vs H Q _ => ∃ (v w : V) (rl : Rl) (s : R), vs = [v, w] /\ RlV K H v rl /\ RlOk rl /\ RV K H w s /\ SpOk s /\ Below rl s /\ ∀ (v' : V) (H' : Hp), Same H H' -> SidV K H' v' (sidesOf rl s) -> Q v' H'
def sp_bears (K : PySem.W.Frag) : Sp := fun vs H Q _ => ∃ (v w u : V) (rl : Rl) (s gg : R), vs = [v, w, u] /\ RlV K H v rl /\ RlOk rl /\ RV K H w s /\ SpOk s /\ Below rl s /\ RV K H u gg /\ Wf 400 gg /\ ∀ (H' : Hp), Same H H' -> Q (.bl (bearM (sidesOf rl s).1 (sidesOf rl s).2 gg)) H'
theorem row_nn {rows : List (R × R)} (h : RowsOk rows) {k : Nat} {r : R × R} (e : rows[k]? = some r) : 0 ≤ r.1.1 := by
 obtain ⟨y, ey⟩ := h.zero
 cases k with
 | zero => rw [ey] at e; cases e; exact Int.le_refl _
 | succ k =>
  obtain ⟨h1, e1⟩ := List.getElem?_eq_some_iff.mp e
  obtain ⟨h2, e2⟩ := List.getElem?_eq_some_iff.mp ey
  have := List.pairwise_iff_getElem.mp h.inc 0 (k + 1) h2 h1 (Nat.succ_pos k)
  rw [e1, e2, less_iff] at this
  have z : 0 * r.1.2 < r.1.1 * 1 := this
  omega
def dOp : Option R -> PyData
 | none => .none
 | some r => dR r
def dSd (w : R × Option R) : PyData := .tuple [dR w.1, dOp w.2]
def topM (rows : List (R × R)) : R := (rows.getD (rows.length - 1) rowD).1
def beyM : Rl -> R -> Bool
 | .pow _, _ => false
 | .tab rows, s => lessR (topM rows) s
theorem last_at {rows : List (R × R)} (h : RowsOk rows) : ∃ r, rows[rows.length - 1]? = some r /\ topM rows = r.1 := by
 have n := h.n2
 have e : rows[rows.length - 1]? = some (rows[rows.length - 1]'(by omega)) := List.getElem?_eq_getElem _
 exact ⟨_, e, by unfold topM; rw [getD_at e]⟩
def sp_top_of (K : PySem.W.Frag) : Sp := fun vs H Q _ => ∃ (v : V) (rl : Rl), vs = [v] /\ RlV K H v rl /\ RlOk rl /\ (∀ k, rl = .pow k -> Q .non H) /\ ∀ rows x, rl = .tab rows -> RV K H x (topM rows) -> Q x H
def sp_is_beyond (K : PySem.W.Frag) : Sp := fun vs H Q _ => ∃ (v w : V) (rl : Rl) (s : R), vs = [v, w] /\ RlV K H v rl /\ RlOk rl /\ RV K H w s /\ Wf 98 s /\ Q (.bl (beyM rl s)) H
def sp_is_whole (K : PySem.W.Frag) : Sp := fun vs H Q _ => ∃ (v : V) (d : PyData), vs = [v] /\ Deep K H v d /\ Q (.bl (wholeD d)) H
def sp_is_tuple_of (K : PySem.W.Frag) : Sp := fun vs H Q _ => ∃ (v : V) (d : PyData) (m : Nat), vs = [v, .int m] /\ Deep K H v d /\ Q (.bl (tupD m d)) H
def sp_is_ratio (K : PySem.W.Frag) : Sp := fun vs H Q _ => ∃ (v : V) (d : PyData), vs = [v] /\ Deep K H v d /\ Q (.bl (ratD d)) H
def sp_is_ratio_pair (K : PySem.W.Frag) : Sp := fun vs H Q _ => ∃ (v : V) (d : PyData), vs = [v] /\ Deep K H v d /\ Q (.bl (pairD d)) H
theorem wholeD_int {d : PyData} (h : wholeD d = true) : ∃ i, d = .int i := by
 cases d with
 | int i => exact ⟨i, rfl⟩
 | _ => cases h
theorem rat_x {x y : PyData} (h : wholeD x = false) : ratD (.tuple [x, y]) = false := by
 cases x with
 | int i => cases h
 | _ => rfl
theorem rat_y {x y : PyData} (h : wholeD y = false) : ratD (.tuple [x, y]) = false := by
 cases y with
 | int i => cases h
 | _ => cases x <;> rfl
theorem del_same {H H' : Hp} {x : Addr} {o0 : HO} (hx : H x = none) (kp : ∀ b o, b ≠ x -> upd H x o0 b = some o -> H' b = some o) : Same H (del H' x) := fun b o e => by
 have nb : b ≠ x := ne_of_none e hx
 unfold del
 rw [if_neg nb]
 exact kp b o nb (by rw [upd_ne nb]; exact e)
theorem del_at {H : Hp} {x d : Addr} (n : d ≠ x) : del H x d = H d := by unfold del; rw [if_neg n]
def sp_copied (_ : PySem.W.Frag) : Sp := fun vs H Q _ => ∃ v : V, vs = [v] /\ ((∃ i, v = .int i) ∨ ∃ x, v = .str x) /\ Q v H
def toRD : PyData -> R
 | .tuple [.int a, .int b] => (a, b)
 | _ => (0, 1)
theorem rat_two {d : PyData} (h : ratD d = true) : ∃ a b, d = .tuple [.int a, .int b] /\ 1 ≤ b /\ Int.gcd a b = 1 := by
 unfold ratD at h
 split at h
 ·rename_i a b
  rw [Bool.and_eq_true, decide_eq_true_iff, decide_eq_true_iff] at h
  exact ⟨a, b, rfl, h⟩
 ·cases h
theorem rv_rat {K : PySem.W.Frag} {H : Hp} {v : V} {d : PyData} (h : Deep K H v d) (r : ratD d = true) (b : ibd d = true) : RV K H v (toRD d) /\ Wf 230 (toRD d) := by
 obtain ⟨x, y, rfl, h1, h2⟩ := rat_two r
 obtain ⟨p, v1, v2, d1, d2, rfl, e, hS, hx, hy⟩ := h.two (show tupD 2 (.tuple [.int x, .int y]) = true from rfl)
 cases e
 cases hx
 cases hy
 have b1 := of_decide_eq_true (show decide (x.natAbs < 2 ^ 230) = true from ibdAll_mem (show ibdAll [.int x, .int y] = true from b) (.int x) List.mem_cons_self)
 have b2 := of_decide_eq_true (show decide (y.natAbs < 2 ^ 230) = true from ibdAll_mem (show ibdAll [.int x, .int y] = true from b) (.int y) (List.mem_cons_of_mem _ List.mem_cons_self))
 exact ⟨⟨p, rfl, hS⟩, by show 0 < y; omega, b1, b2, h2⟩
theorem all_getD {f : PyData -> Bool} (ds : List PyData) : ((List.range ds.length).map fun i => f (ds.getD i .none)).all id = ds.all f := by
 rw [Bool.eq_iff_iff, List.all_eq_true, List.all_eq_true]
 constructor
 ·intro h d hd
  obtain ⟨i, hi, e⟩ := List.mem_iff_getElem.mp hd
  have := h (f (ds.getD i .none)) (List.mem_map.mpr ⟨i, List.mem_range.mpr hi, rfl⟩)
  rw [getD_of PyData.none (List.getElem?_eq_getElem hi), e] at this
  exact this
 ·intro h b hb
  obtain ⟨i, hi, rfl⟩ := List.mem_map.mp hb
  have hi' := List.mem_range.mp hi
  rw [getD_of PyData.none (List.getElem?_eq_getElem hi')]
  exact h _ (List.getElem_mem hi')
theorem find_at {n i : Nat} {f : Nat -> Bool} (hi : i < n) (h : f i = true) (b : ∀ j, j < i -> f j = false) : (List.range n).find? f = some i := by
 rw [List.find?_range_eq_some]
 exact ⟨h, List.mem_range.mpr hi, fun j hj => by rw [b j hj]; rfl⟩
theorem find_no {n : Nat} {f : Nat -> Bool} (b : ∀ j, j < n -> f j = false) : (List.range n).find? f = none := by
 rw [List.find?_eq_none]
 intro j hj
 rw [b j (List.mem_range.mp hj)]
 exact Bool.false_ne_true
def sp_NoPrice (_ : PySem.W.Frag) (C : Addr) : Sp := fun vs H Q _ => ∃ (a : Addr) (n : Int), vs = [.ref a, .int n] /\ H a = some (exO a C none) /\ ∀ (d : Addr) (H' : Hp), H d = none -> d ≠ a -> (∀ b o, b ≠ a -> H b = some o -> H' b = some o) -> H' a = some (exO a C (some d)) -> H' d = some (dO d [("work", .int n)]) -> Q .non H'
def priceM (rl : Rl) (s g : R) : Bool := !lessR s (0, 1) && (!beyM rl s && bearM (sidesOf rl s).1 (sidesOf rl s).2 g)
def fsD : PyData -> PyData
 | .tuple [x, _] => x
 | _ => .none
def snD : PyData -> PyData
 | .tuple [_, y] => y
 | _ => .none
def okP (rl : Rl) (d : PyData) : Bool := priceM rl (toRD (fsD d)) (toRD (snD d))
def shpP (n : Nat) : PyData -> Bool
 | .tuple ds => decide (ds.length = n) && ds.all pairD
 | _ => false
def itD : PyData -> List PyData
 | .tuple ds => ds
 | _ => []
def wrongP (n : Nat) (rl : Rl) (d : PyData) : Option Int := if shpP n d = true then ((List.range n).find? fun i => !okP rl ((itD d).getD i .none)).map fun i => (i : Int) else some (-1)
def SpP (d : PyData) : Prop := pairD d = true -> Bq (D0 * 2) N1 (toRD (fsD d))
def SpD (d : PyData) : Prop := ∀ e ∈ itD d, SpP e
theorem pair_two {d : PyData} (h : pairD d = true) : ∃ x y, d = .tuple [x, y] /\ ratD x = true /\ ratD y = true := by
 unfold B.pairD at h
 split at h
 ·rw [Bool.and_eq_true] at h
  exact ⟨_, _, rfl, h⟩
 ·cases h
theorem bey_below {rl : Rl} {s : R} (ok : RlOk rl) (h : beyM rl s = false) : Below rl s := by
 cases rl with
 | pow k => exact trivial
 | tab rows =>
  obtain ⟨r, e, er⟩ := last_at (show RowsOk rows from ok)
  refine ⟨r, e, ?_⟩
  rw [← er]
  exact h
def sp_is_price (K : PySem.W.Frag) : Sp := fun vs H Q _ => ∃ (v w : V) (rl : Rl) (d : PyData), vs = [v, w] /\ RlV K H v rl /\ RlOk rl /\ Deep K H w d /\ pairD d = true /\ ibd d = true /\ SpP d /\ ∀ H', Same H H' -> Q (.bl (okP rl d)) H'
def sp_right_prices (K : PySem.W.Frag) (C : Addr) : Sp := fun vs H Q E => ∃ (pw : Addr) (xw : List V) (v c : V) (rl : Rl) (d : PyData), vs = [.ref pw, v, c] /\ SqT K H pw xw /\ RlV K H v rl /\ RlOk rl /\ Deep K H c d /\ ibd d = true /\ SpD d /\ xw.length ≤ 9 /\ (wrongP xw.length rl d = none -> ∀ H', Same H H' -> Q (.bl true) H') ∧
 (∀ n, wrongP xw.length rl d = some n -> ∀ (dd : Addr) (H' : Hp), Same H H' -> H' dd = some (dO dd [("work", .int n)]) -> E (.ref C) (some dd) H')
abbrev Wk := Nat × Nat × R
def WkV (K : PySem.W.Frag) (H : Hp) (v : V) (w : Wk) : Prop := ∃ p x, v = .ref p /\ SqT K H p [.int w.1, .int w.2.1, x] /\ RV K H x w.2.2
theorem WkV.mono {K : PySem.W.Frag} {H H' : Hp} {v : V} {w : Wk} (h : WkV K H v w) (t : Tst K H H') : WkV K H' v w := let ⟨p, x, e, s, r⟩ := h; ⟨p, x, e, t _ _ s, r.mono t⟩
structure AmOk (r : R) : Prop where
 top : 1 ≤ r.1
 top' : r.1 ≤ 12
 bot : 1 ≤ r.2
 bot' : r.2 ≤ 7
 dvd : r.2 ∣ 84
structure WkOk (w : Wk) : Prop where
 le : w.1 ≤ w.2.1
 lt : w.2.1 < 24
 am : AmOk w.2.2
def WksV (K : PySem.W.Frag) (H : Hp) (v : V) (ws : List Wk) : Prop := ∃ p xs, v = .ref p /\ SqT K H p xs /\ Als (WkV K H) xs ws
theorem amOk_mk {a b : Int} (h1 : 1 ≤ a) (h2 : a ≤ 12) (h3 : 1 ≤ b) (h4 : b ≤ 7) (h5 : b ∣ 84) : AmOk (mkR a b) := by
 have g0 : 0 < (Int.gcd a b : Int) := gcd_posR (by omega)
 have da : (Int.gcd a b : Int) ∣ a := Int.gcd_dvd_left a b
 have db : (Int.gcd a b : Int) ∣ b := Int.gcd_dvd_right a b
 have p1 : 0 < a / (Int.gcd a b : Int) := Int.ediv_pos_of_pos_of_dvd (by omega) (Int.le_of_lt g0) da
 have p2 : 0 < b / (Int.gcd a b : Int) := Int.ediv_pos_of_pos_of_dvd (by omega) (Int.le_of_lt g0) db
 have q1 : a / (Int.gcd a b : Int) ≤ a := Int.ediv_le_self _ (by omega)
 have q2 : b / (Int.gcd a b : Int) ≤ b := Int.ediv_le_self _ (by omega)
 refine ⟨p1, by show a / (Int.gcd a b : Int) ≤ 12; omega, p2, by show b / (Int.gcd a b : Int) ≤ 7; omega, Int.dvd_trans ?_ h5⟩
 exact ⟨(Int.gcd a b : Int), (Int.ediv_mul_cancel db).symm⟩
theorem sh_int {i : Int} (h : i.natAbs < 2 ^ 100) : Sh 0 2000 (.int i) := by
 refine ⟨?_, rfl, Nat.le_refl _, Nat.le_trans (len_of h (by decide)) (by decide)⟩
 show decide (i.natAbs.log2 < 1920) = true
 refine decide_eq_true ?_
 by_cases z : i.natAbs = 0
 ·rw [z]; decide
 ·exact Nat.lt_of_lt_of_le ((Nat.log2_lt z).mpr h) (by decide)
def dWk (w : Wk) : PyData := .tuple [.int w.1, .int w.2.1, dR w.2.2]
def dWks (ws : List Wk) : PyData := .tuple (ws.map dWk)
theorem WkV.deep {K : PySem.W.Frag} {H : Hp} {v : V} {w : Wk} (h : WkV K H v w) : Deep K H v (dWk w) := by
 obtain ⟨p, x, rfl, hS, rx⟩ := h
 exact .tup hS (.cons (.int _) (.cons (.int _) (.cons rx.deep .nil)))
theorem WksV.deep {K : PySem.W.Frag} {H : Hp} {v : V} {ws : List Wk} (h : WksV K H v ws) : Deep K H v (dWks ws) := by
 obtain ⟨p, xs, rfl, hS, al⟩ := h
 exact .tup hS (al.deep fun _ _ q => q.deep)
theorem nat_small {n : Nat} (h : n < 24) : ((n : Int)).natAbs < 2 ^ 100 := by
 have : (2 : Nat) ^ 100 = 1267650600228229401496703205376 := by decide
 omega
theorem sh_dWk {w : Wk} (h : WkOk w) : Sh 2 20000 (dWk w) := by
 have o := h.am
 have big : (2 : Nat) ^ 100 = 1267650600228229401496703205376 := by decide
 have l1 := h.le
 have l2 := h.lt
 have t1 := o.top
 have t2 := o.top'
 have b1 := o.bot
 have b2 := o.bot'
 refine Sh.tup (k := 1) (n := 6100) (m := 3) (fun d hd => ?_) (Nat.le_refl _) (by decide)
 simp only [List.mem_cons, List.not_mem_nil, or_false] at hd
 rcases hd with rfl | rfl | rfl
 ·exact (sh_int (nat_small (by omega))).mono (by decide) (by decide)
 ·exact (sh_int (nat_small (by omega))).mono (by decide) (by decide)
 ·refine Sh.tup (k := 0) (n := 2000) (m := 2) (fun d hd => ?_) (Nat.le_refl _) (by decide)
  simp only [List.mem_cons, List.not_mem_nil, or_false] at hd
  rcases hd with rfl | rfl
  ·exact sh_int (by omega)
  ·exact sh_int (by omega)
def sp_law_works (K : PySem.W.Frag) : Sp := fun vs H Q _ => ∃ (t s : Addr) (m : Nat), vs = [.ref t, .int m] /\ Tape3 K H t s /\ m ≤ 64 /\ ∀ (v : V) (ws : List Wk) (H' : Hp), Step t H H' -> Tape3 K H' t s -> WksV K H' v ws -> ws.length = m -> (∀ w ∈ ws, WkOk w) -> Q v H'
def dRow (w : R × R) : PyData := .tuple [dR w.1, dR w.2]
theorem RowV.deep {K : PySem.W.Frag} {H : Hp} {v : V} {w : R × R} (h : RowV K H v w) : Deep K H v (dRow w) := by
 obtain ⟨p, x, y, rfl, hS, hx, hy⟩ := h
 exact .tup hS (.cons hx.deep (.cons hy.deep .nil))
def dRl : Rl -> PyData
 | .pow k => .tuple [.str "power", .int k]
 | .tab rows => .tuple [.str "table", .tuple (rows.map dRow)]
theorem RlV.deep {K : PySem.W.Frag} {H : Hp} {v : V} : ∀ {rl : Rl}, RlV K H v rl -> Deep K H v (dRl rl)
 | .pow k, h => by
  obtain ⟨p, rfl, hS⟩ := h
  exact .tup hS (.cons (.str _) (.cons (.int _) .nil))
 | .tab rows, h => by
  obtain ⟨p, q, xs, rfl, hS, hq, al⟩ := h
  exact .tup hS (.cons (.str _) (.cons (.tup hq (al.deep fun v d z => RowV.deep z)) .nil))
theorem sh_str8 {x : Str} (h : (PyData.str x).showable = true) (l : (PyData.str x).shown.length ≤ 8) : Sh 0 8 (.str x) := ⟨h, rfl, Nat.le_refl 0, l⟩
theorem sh_row {w : R × R} (h1 : Wf 1000 w.1) (h2 : Wf 1000 w.2) : Sh 2 10020 (dRow w) := by
 refine Sh.tup (k := 1) (n := 5000) (m := 2) (fun d hd => ?_) (Nat.le_refl _) (by decide)
 simp only [List.mem_cons, List.not_mem_nil, or_false] at hd
 rcases hd with rfl | rfl
 ·exact sh_dR h1 (by decide)
 ·exact sh_dR h2 (by decide)
theorem sh_tab {rows : List (R × R)} (h : ∀ w ∈ rows, Wf 1000 w.1 /\ Wf 1000 w.2) (hl : rows.length ≤ 12) : Sh 4 250000 (dRl (.tab rows)) := by
 have a : Sh 3 121000 (.tuple (rows.map dRow)) := by
  refine Sh.tup (k := 2) (n := 10020) (m := 12) (fun d hd => ?_) (by rw [List.length_map]; exact hl) (by decide)
  obtain ⟨w, hw, rfl⟩ := List.mem_map.mp hd
  exact sh_row (h w hw).1 (h w hw).2
 refine Sh.tup (k := 3) (n := 121000) (m := 2) (fun d hd => ?_) (Nat.le_refl _) (by decide)
 simp only [List.mem_cons, List.not_mem_nil, or_false] at hd
 rcases hd with rfl | rfl
 ·exact (sh_str8 (by decide +kernel) (by decide +kernel)).mono (by decide) (by decide)
 ·exact a
theorem sh_rl {rl : Rl} (ok : RlOk rl) : Sh 4 250000 (dRl rl) := by
 cases rl with
 | pow k =>
  have h' : 2 ≤ k /\ k ≤ 4 := ok
  have hk : k = 2 ∨ k = 3 ∨ k = 4 := by omega
  refine Sh.tup (k := 3) (n := 121000) (m := 2) (fun d hd => ?_) (Nat.le_refl _) (by decide)
  simp only [List.mem_cons, List.not_mem_nil, or_false] at hd
  rcases hd with rfl | rfl
  ·exact (sh_str8 (by decide +kernel) (by decide +kernel)).mono (by decide) (by decide)
  ·rcases hk with rfl | rfl | rfl
   all_goals exact ⟨rfl, rfl, Nat.zero_le _, Nat.le_trans (by decide +kernel : _ ≤ 8) (by decide)⟩
 | tab rows =>
  have h' : RowsOk rows := ok
  exact sh_tab (fun w hw => ⟨(wfS (h'.sp w hw)).mono (by decide), (wfP (h'.pw w hw)).mono (by decide)⟩) h'.n12
def sp_law_rising (K : PySem.W.Frag) : Sp := fun vs H Q _ => ∃ (a : Addr) (xs : List V) (rs : List R), vs = [.ref a] /\ SqL K H a xs /\ Als (RV K H) xs rs /\ (∀ r ∈ rs, Wf 98 r) /\ rs.length ≤ 20 /\ ∀ (l : Addr) (ys : List V) (zs : List R) (H' : Hp), Same H H' -> H l = none -> H' l = some (.lst ys) -> Als (RV K H') ys zs -> zs.length ≤ rs.length -> Ris zs -> (∀ z ∈ zs, z ∈ rs) -> Q (.ref l) H'
def hid (H : Hp) (t D : Addr) : Hp := del (del H t) D
theorem hd_same {t D : Addr} {H H' : Hp} (s : Same H H') : Same (hid H t D) (hid H' t D) := dl_same (dl_same s)
theorem hd_step {t D : Addr} {H H' : Hp} (S : Step t H H') : Same (hid H t D) (hid H' t D) := dl_same (dl_step S)
theorem hd_full {t D : Addr} {H : Hp} : Same (hid H t D) H := dl_full.trans dl_full
theorem hd_at {t D : Addr} {H : Hp} (n : D ≠ t) (h : ∃ ys, H D = some (.lst ys)) : ∃ ys, del H t D = some (.lst ys) := let ⟨ys, q⟩ := h; ⟨ys, by rw [del_at n]; exact q⟩
theorem hd_new {t D p : Addr} {H : Hp} {o : HO} (g : H p = none) (h : ∃ xs, H t = some (.lst xs)) (h2 : ∃ ys, H D = some (.lst ys)) : hid (upd H p o) t D p = some o := by
 unfold hid
 rw [del_at (show p ≠ D from fun z => by subst z; obtain ⟨_, q⟩ := h2; rw [g] at q; cases q)]
 exact dl_new g h
theorem hd_tst {K : PySem.W.Frag} {t D : Addr} {H : Hp} (h : ∃ xs, H t = some (.lst xs)) (n : D ≠ t) (h2 : ∃ ys, H D = some (.lst ys)) : Tst K H (hid H t D) := (dl_tst h).trans (dl_tst (hd_at n h2))
theorem hd_up {t D : Addr} {H : Hp} {o : HO} (n : D ≠ t) : Same (hid H t D) (hid (upd H D o) t D) := fun b x q => by
 unfold hid at q ⊢
 by_cases z : b = D
 ·subst z; unfold del at q; rw [if_pos rfl] at q; cases q
 ·rw [del_at z] at q ⊢
  by_cases y : b = t
  ·subst y; unfold del at q; rw [if_pos rfl] at q; cases q
  ·rw [del_at y] at q ⊢
   rw [upd_ne z]
   exact q
theorem nwO {t D p : Addr} {H : Hp} {o : HO} (g : H p = none) (h : ∃ xs, H t = some (.lst xs)) (h2 : ∃ ys, H D = some (.lst ys)) : Same H (upd H p o) /\ upd H p o p = some o /\ hid (upd H p o) t D p = some o := ⟨same_new g o, upd_same, hd_new g h h2⟩
theorem nwN {t p : Addr} {H : Hp} (g : H p = none) (h : ∃ xs, H t = some (.lst xs)) : p ≠ t := fun z => by subst z; obtain ⟨_, q⟩ := h; rw [g] at q; cases q
theorem tS {K : PySem.W.Frag} {H H' : Hp} (e : Same H H') {p : Addr} {xs : List V} (h : SqT K H p xs) : SqT K H' p xs := Tst.same e _ _ h
theorem tP {K : PySem.W.Frag} {t : Addr} {H H' : Hp} (e : Step t H H') {p : Addr} {xs : List V} (h : SqT K H p xs) : SqT K H' p xs := Tst.step e _ _ h
theorem dS {K : PySem.W.Frag} {t D : Addr} {H H' : Hp} (e : Same H H') {v : V} {d : PyData} (h : Deep K (hid H t D) v d) : Deep K (hid H' t D) v d := h.same (hd_same e)
theorem dP {K : PySem.W.Frag} {t D : Addr} {H H' : Hp} (e : Step t H H') {v : V} {d : PyData} (h : Deep K (hid H t D) v d) : Deep K (hid H' t D) v d := h.same (hd_step e)
theorem aS {K : PySem.W.Frag} {t D : Addr} {H H' : Hp} (e : Same H H') {v : List V} {d : List PyData} (h : DeepAll K (hid H t D) v d) : DeepAll K (hid H' t D) v d := DeepAll.same (hd_same e) h
theorem aP {K : PySem.W.Frag} {t D : Addr} {H H' : Hp} (e : Step t H H') {v : List V} {d : List PyData} (h : DeepAll K (hid H t D) v d) : DeepAll K (hid H' t D) v d := DeepAll.same (hd_step e) h
theorem dpT {K : PySem.W.Frag} {H : Hp} {p : Addr} {xs : List V} {ds : List PyData} (h : H p = some (.tup xs)) (a : DeepAll K H xs ds) : Deep K H (.ref p) (.tuple ds) := .tup (SqT.of h) a
theorem dpL {K : PySem.W.Frag} {H : Hp} {p : Addr} {xs : List V} {ds : List PyData} (h : H p = some (.lst xs)) (a : DeepAll K H xs ds) : Deep K H (.ref p) (.list ds) := .lst (SqL.of h) a
theorem gW {k n k' n' : Nat} {d : PyData} (h : Gd k n d) (hk : k ≤ k' := by decide) (hn : n ≤ n' := by decide) : Gd k' n' d := h.mono hk hn
theorem gN {k n : Nat} : ∀ d ∈ ([] : List PyData), Gd k n d := fun d hd => by cases hd
theorem gC {k n : Nat} {e : PyData} {ds : List PyData} (h : Gd k n e) (t : ∀ d ∈ ds, Gd k n d) : ∀ d ∈ e :: ds, Gd k n d := fun d hd => (List.mem_cons.mp hd).elim (fun z => z ▸ h) (t d)
theorem gTu {k n : Nat} {ds : List PyData} (m N : Nat) (h : ∀ d ∈ ds, Gd k n d) (hm : ds.length ≤ m := by exact Nat.le_refl _) (hN : (n + 3) * m + 8 ≤ N := by decide) : Gd (k + 1) N (.tuple ds) := Gd.tup (m := m) h hm hN
theorem gLs {k n : Nat} {ds : List PyData} (m N : Nat) (h : ∀ d ∈ ds, Gd k n d) (hm : ds.length ≤ m := by exact Nat.le_refl _) (hN : (n + 3) * m + 8 ≤ N := by decide) : Gd (k + 1) N (.list ds) := Gd.lst (m := m) h hm hN
theorem nwE {t D p : Addr} {H H' : Hp} {o : HO} (e : upd H p o = H') (g : H p = none) (h : ∃ xs, H t = some (.lst xs)) (h2 : ∃ ys, H D = some (.lst ys)) : Same H H' /\ H' p = some o /\ hid H' t D p = some o := e ▸ nwO g h h2
theorem cr3 {K : PySem.W.Frag} {t s D : Addr} {H0 H H' : Hp} (e : Same H H') (S : Step t H0 H) (T : Tape3 K H t s) (h : ∃ ys, H D = some (.lst ys)) : Step t H0 H' /\ Tape3 K H' t s /\ ∃ ys, H' D = some (.lst ys) := ⟨S.trans (.same e T.lst), T.same e, h.imp fun _ q => e _ _ q⟩
abbrev sp_law_tape := sp_tape3
abbrev sp_law_draw := sp_draw3
def sp_law_frac (_ : PySem.W.Frag) : Sp := fun vs H Q _ => ∃ a b : Int, vs = [.int a, .int b] /\ 0 < b /\ b.natAbs < 2 ^ 4000 /\ newR H Q (mkR a b)
abbrev sp_law_add := sp_plus
abbrev sp_law_mul := sp_times
def KiB (r : R) : Prop := Bq 6 5 r
theorem KiB.wf {r : R} (h : KiB r) : Wf 98 r := Bq.wf h (by decide) (by decide) (by decide)
theorem ki_lit {a b : Int} (hb : 0 < b) (hd : b ∣ ((6 : Nat) : Int)) (hl : a.natAbs ≤ 5 * b.natAbs) (g : Int.gcd a b = 1) : KiB ((a, b) : R) := by
 have := bq_mk (D := 6) (N := 5) hb hd hl
 rw [mkR_uniq hb hb g rfl] at this
 exact this
def RlS : Rl -> Prop
 | .pow _ => True
 | .tab rows => ∀ r ∈ rows, Bq 360 6 r.1 /\ Bq 2160 2522 r.2
def sp_law_rule (K : PySem.W.Frag) : Sp := fun vs H Q _ => ∃ (t s kl : Addr) (xk : List V) (v : V) (ks : List R) (rm : R), vs = [.ref t, .ref kl, v] /\ Tape3 K H t s /\ kl ≠ t /\ H kl = some (.lst xk) /\ Als (RV K H) xk ks /\ (∀ r ∈ ks, KiB r) /\ ks.length ≤ 4 /\ RV K H v rm /\ KiB rm /\ 0 ≤ rm.1 /\ ∀ (u : V) (rl : Rl) (H' : Hp), Step t H H' -> Tape3 K H' t s -> RlV K H' u rl -> RlOk rl -> RlS rl -> Q u H'
def TriV (K : PySem.W.Frag) (H : Hp) (v : V) (w : R × R × R) : Prop := ∃ p x y z, v = .ref p /\ SqT K H p [x, y, z] /\ RV K H x w.1 /\ RV K H y w.2.1 /\ RV K H z w.2.2
theorem TriV.mono {K : PySem.W.Frag} {H H' : Hp} {v : V} {w : R × R × R} (h : TriV K H v w) (t : Tst K H H') : TriV K H' v w := let ⟨p, x, y, z, e, s, a, b, c⟩ := h; ⟨p, x, y, z, e, t _ _ s, a.mono t, b.mono t, c.mono t⟩
def triM (rows : List (R × R)) (k : Nat) : R × R × R := ((rows.getD k rowD).1, (rows.getD (k + 1) rowD).1, slp rows k)
theorem plus_neg {r q : R} : plusR r (-q.1, q.2) = minusR r q := by
 unfold plusR minusR
 congr 1
 show r.1 * q.2 + -q.1 * r.2 = r.1 * q.2 - q.1 * r.2
 rw [Int.neg_mul]
 rfl
theorem times_inv {r q : R} (hr : 0 < r.2) (hq : 0 < q.1) : timesR r (q.2, q.1) = overR r q := by
 unfold timesR overR mkS
 rw [if_neg (by have := Int.mul_pos hr hq; omega)]
def sp_law_slopes (K : PySem.W.Frag) : Sp := fun vs H Q _ => ∃ (v w : V) (rl : Rl) (s : R), vs = [v, w] /\ RlV K H v rl /\ RlOk rl /\ RV K H w s /\ SpOk s /\ Below rl s /\ ∀ (v' : V) (H' : Hp), Same H H' -> SidV K H' v' (sidesOf rl s) -> Q v' H'
theorem filt_lt (p m : Nat) (h : p ≤ m) : (List.range m).filter (fun k => decide (k < p)) = List.range p := by
 obtain ⟨d, rfl⟩ := Nat.exists_eq_add_of_le h
 induction d with
 | zero => exact List.filter_eq_self.mpr fun k hk => decide_eq_true (by have := List.mem_range.mp hk; omega)
 | succ d ih => rw [← Nat.add_assoc, List.range_succ, List.filter_append, ih (by omega), List.filter_cons, if_neg (by rw [decide_eq_true_iff]; omega), List.filter_nil, List.append_nil]
theorem filt_ge_head (q m : Nat) (h : q < m) : ((List.range m).filter (fun k => decide (q ≤ k))).head? = some q := by
 rw [List.head?_filter, List.find?_range_eq_some]
 exact ⟨decide_eq_true (Nat.le_refl _), List.mem_range.mpr h, fun j hj => by rw [decide_eq_false (by omega)]; rfl⟩
theorem filt_ge_nil (q m : Nat) (h : m ≤ q) : (List.range m).filter (fun k => decide (q ≤ k)) = [] := by
 rw [List.filter_eq_nil_iff]
 intro k hk
 have := List.mem_range.mp hk
 rw [decide_eq_true_iff]
 omega
theorem slp_small {rows : List (R × R)} (ok : RowsOk rows) (sm : RlS (.tab rows)) {k : Nat} (hk : k + 1 < rows.length) : Wf 42 (slp rows k) := by
 have ha : rows[k]? = some rows[k] := List.getElem?_eq_getElem (by omega)
 have hb : rows[k + 1]? = some rows[k + 1] := List.getElem?_eq_getElem hk
 have slok := slOk ok (Nat.lt_succ_self k) ha hb
 have ma := sm _ (List.getElem_mem (show k < rows.length by omega))
 have mb := sm _ (List.getElem_mem hk)
 have w2 : Wf 24 (minusR rows[k + 1].2 rows[k].2) := (Bq.minus (by decide) mb.2 ma.2).wf (by decide) (by decide) (by decide)
 have w1 : Wf 13 (minusR rows[k + 1].1 rows[k].1) := (Bq.minus (by decide) mb.1 ma.1).wf (by decide) (by decide) (by decide)
 have := over_wf w2 w1 slok.ne
 rw [slp_at ha hb]
 exact this.mono (by decide)
theorem sides_small {rl : Rl} {s : R} (ok : RlOk rl) (sm : RlS rl) (h6 : Bq 360 6 s) (hs : SpOk s) (hb : Below rl s) : Wf 42 (sidesOf rl s).1 /\ ∀ x, (sidesOf rl s).2 = some x -> Wf 42 x := by
 cases rl with
 | pow k =>
  have ok' : 2 ≤ k /\ k ≤ 4 := ok
  have ws : Wf 12 s := h6.wf (by decide) (by decide) (by decide)
  have a := times_wf (k_wf ok') (pow_wf ws (k - 1).toNat)
  have w : Wf 42 (powS k s) := by
   unfold powS
   refine a.mono ?_
   have : (k - 1).toNat * 12 ≤ 3 * 12 := Nat.mul_le_mul_right _ (by omega)
   omega
  exact ⟨w, fun x e => by cases e; exact w⟩
 | tab rows =>
  have ok' : RowsOk rows := ok
  have pl := ok'.p_lt hs.bq.pos hb
  have qp := ok'.q_pos hs.bq.pos hs.nn
  constructor
  ·show Wf 42 (leftT rows s)
   unfold leftT
   split
   ·exact zero_wf.mono (by decide)
   ·exact slp_small ok' sm (by omega)
  ·intro x e
   have e' : rightT rows s = some x := e
   unfold rightT at e'
   split at e'
   ·cases e'; exact slp_small ok' sm (by omega)
   ·cases e'
def sp_law_price (K : PySem.W.Frag) : Sp := fun vs H Q _ => ∃ (t s : Addr) (v w : V) (rl : Rl) (z : R), vs = [.ref t, v, w] /\ Tape3 K H t s /\ RlV K H v rl /\ RlOk rl /\ RlS rl /\ RV K H w z /\ SpOk z /\ Bq 360 6 z /\ Below rl z /\ ∀ (u : V) (g : R) (H' : Hp), Step t H H' -> Tape3 K H' t s -> RowV K H' u (z, g) -> Wf 140 g -> Q u H'
def SpK (z : R) : Prop := Bq 360 6 z /\ 0 ≤ z.1
theorem SpK.ok {z : R} (h : SpK z) : SpOk z := ⟨h.1.mono ⟨16174233075000000 * 2, by decide⟩ (by decide), h.2⟩
theorem SpK.wf {z : R} (h : SpK z) : Wf 98 z := h.1.wf (by decide) (by decide) (by decide)
theorem spk_lit {a b : Int} (hb : 0 < b) (hd : b ∣ ((360 : Nat) : Int)) (hl : a.natAbs ≤ 6 * b.natAbs) (g : Int.gcd a b = 1) (h0 : 0 ≤ a) : SpK ((a, b) : R) := by
 have := bq_mk (D := 360) (N := 6) hb hd hl
 rw [mkR_uniq hb hb g rfl] at this
 exact ⟨this, h0⟩
theorem row_spk {rows : List (R × R)} (ok : RowsOk rows) (sm : RlS (.tab rows)) {r : R × R} (hr : r ∈ rows) : SpK r.1 := ⟨(sm r hr).1, by obtain ⟨i, hi, e⟩ := List.mem_iff_getElem.mp hr; exact row_nn ok (e ▸ List.getElem?_eq_getElem hi)⟩
def sp_law_some_speed (K : PySem.W.Frag) : Sp := fun vs H Q _ => ∃ (t s kl : Addr) (xk : List V) (v : V) (ks : List R) (rl : Rl), vs = [.ref t, v, .ref kl] /\ Tape3 K H t s /\ RlV K H v rl /\ RlOk rl /\ RlS rl /\ kl ≠ t /\ H kl = some (.lst xk) /\ Als (RV K H) xk ks /\ (∀ r ∈ ks, SpK r) /\ ks.length ≤ 4 /\ ∀ (u : V) (z : R) (H' : Hp), Step t H H' -> Tape3 K H' t s -> RV K H' u z -> SpK z -> Below rl z -> Q u H'
theorem als_pick {K : PySem.W.Frag} {H : Hp} {xs : List V} {rs : List R} (al : Als (RV K H) xs rs) {r : Int} (h0 : 0 ≤ r) (h1 : r < (xs.length : Int)) : ∃ v z, atI xs r = some v /\ z ∈ rs /\ RV K H v z := by
 obtain ⟨n, rfl⟩ := Int.eq_ofNat_of_zero_le h0
 obtain ⟨v, hv⟩ : ∃ v, xs[n]? = some v := ⟨_, List.getElem?_eq_getElem (by omega)⟩
 obtain ⟨z, hz, rv⟩ := al.at hv
 exact ⟨v, z, atI_nat hv, List.mem_of_getElem? hz, rv⟩
def sp_law_prices (K : PySem.W.Frag) : Sp := fun vs H Q _ => ∃ (t s kl pw : Addr) (xk xw : List V) (v : V) (ks : List R) (rl : Rl), vs = [.ref t, .ref pw, v, .ref kl] /\ Tape3 K H t s /\ SqT K H pw xw /\ xw.length ≤ 9 /\ RlV K H v rl /\ RlOk rl /\ RlS rl /\ kl ≠ t /\ H kl = some (.lst xk) /\ Als (RV K H) xk ks /\ (∀ r ∈ ks, SpK r) /\ ks.length ≤ 4 /\ ∀ (p : Addr) (ys : List V) (prs : List (R × R)) (H' : Hp), Step t H H' -> Tape3 K H' t s -> SqT K H' p ys -> Als (RowV K H') ys prs -> prs.length = xw.length -> (∀ r ∈ prs, SpK r.1 /\ Wf 140 r.2) -> Q (.ref p) H'
theorem ratD_f {d : PyData} (h : ∀ a b : Int, d = .tuple [.int a, .int b] -> ¬ (1 ≤ b /\ Int.gcd a b = 1)) : ratD d = false := by
 cases c : ratD d with
 | false => rfl
 | true =>
  obtain ⟨a, b, e, z1, z2⟩ := rat_two c
  exact absurd ⟨z1, z2⟩ (h a b e)
theorem mkR_is {a b : Int} (hb : 0 < b) : mkR a b = (a, b) ↔ Int.gcd a b = 1 := by
 constructor
 ·intro e
  have := (mkR_red (a := a) hb).cop
  rw [e] at this
  exact this
 ·exact fun g => mkR_uniq hb hb g rfl
theorem call_isiDK {X : Cx} {K : PySem.W.Frag} (hK : X.K = K) : CallR X (.builtin "isinstance") (rIsiD K) := hK ▸ call_isiD
def sp_law_is_ratio (K : PySem.W.Frag) : Sp := fun vs H Q _ => ∃ (v : V) (d : PyData), vs = [v] /\ Deep K H v d /\ ibd d = true /\ ∀ H', Same H H' -> Q (.bl (ratD d)) H'
def optN : Option Int -> V
 | none => .non
 | some n => .int n
def sp_law_wrong (K : PySem.W.Frag) : Sp := fun vs H Q _ => ∃ (pw : Addr) (xw : List V) (v c : V) (rl : Rl) (d : PyData), vs = [.ref pw, v, c] /\ SqT K H pw xw /\ RlV K H v rl /\ RlOk rl /\ Deep K H c d /\ ibd d = true /\ SpD d /\ xw.length ≤ 9 /\ ∀ H', Same H H' -> Q (optN (wrongP xw.length rl d)) H'
theorem pairD_f {d : PyData} (h : ∀ x y, d = .tuple [x, y] -> ¬ (ratD x = true /\ ratD y = true)) : pairD d = false := by
 cases c : pairD d with
 | false => rfl
 | true =>
  obtain ⟨x, y, e, z⟩ := pair_two c
  exact absurd z (h x y e)
theorem sides_wf {rl : Rl} {s : R} (ok : RlOk rl) (hs : SpOk s) (hb : Below rl s) : Wf 300 (sidesOf rl s).1 /\ ∀ x, (sidesOf rl s).2 = some x -> Wf 300 x := by
 cases rl with
 | pow k =>
  have ok' : 2 ≤ k /\ k ≤ 4 := ok
  have w : Wf 300 (powS k s) := by rw [← powAt_end hs.bq.red]; exact powAt_wf ok' hs.wf (by omega)
  exact ⟨w, fun x e => by cases e; exact w⟩
 | tab rows =>
  have ok' : RowsOk rows := ok
  have pl := ok'.p_lt hs.bq.pos hb
  have qp := ok'.q_pos hs.bq.pos hs.nn
  have sw : ∀ k, k + 1 < rows.length -> Wf 300 (slp rows k) := fun k hk => by
   have ha : rows[k]? = some rows[k] := List.getElem?_eq_getElem (by omega)
   have hb : rows[k + 1]? = some rows[k + 1] := List.getElem?_eq_getElem hk
   have slok := slOk ok' (Nat.lt_succ_self k) ha hb
   rw [slp_at ha hb]
   exact (over_wf slok.w2 slok.w1 slok.ne).mono (by decide)
  constructor
  ·show Wf 300 (leftT rows s)
   unfold leftT
   split
   ·exact zero_wf.mono (by decide)
   ·exact sw _ (by omega)
  ·intro x e
   have e' : rightT rows s = some x := e
   unfold rightT at e'
   split at e'
   ·cases e'; exact sw _ (by omega)
   ·cases e'
def sp_law_marks (K : PySem.W.Frag) (C : Addr) : Sp := fun vs H Q _ => ∃ (x dd : Addr) (fs : List (Str × V)), vs = [.ref x] /\ H x = some (erO x C dd) /\ H dd = some (dO dd fs) /\ ∀ (l : Addr) (H' : Hp), Same H H' -> H' l = some (.lst [.bl true, .bl true, .bl true, .bl false]) -> Q (.ref l) H'
def TrV (K : PySem.W.Frag) (C : Addr) (H : Hp) (u : V) : Option Int -> Prop
 | none => ∃ p l, u = .ref p /\ SqT K H p [.bl true, .ref l] /\ H l = some (.lst [])
 | some n => ∃ p l x dd, u = .ref p /\ SqT K H p [.ref x, .ref l] /\ H x = some (erO x C dd) /\ H dd = some (dO dd [("work", .int n)]) /\ H l = some (.lst [.bl true, .bl true, .bl true, .bl false])
def sp_law_tried (K : PySem.W.Frag) (C : Addr) : Sp := fun vs H Q _ => ∃ (pw : Addr) (xw : List V) (v c : V) (rl : Rl) (d : PyData), vs = [.ref pw, v, c] /\ SqT K H pw xw /\ RlV K H v rl /\ RlOk rl /\ Deep K H c d /\ ibd d = true /\ SpD d /\ xw.length ≤ 9 /\ ∀ (u : V) (H' : Hp), Same H H' -> TrV K C H' u (wrongP xw.length rl d) -> Q u H'
theorem spP_of {x y : PyData} (h : Bq (D0 * 2) N1 (toRD x)) : SpP (.tuple [x, y]) := fun _ => h
theorem bq_l2 {a b : Int} {q : Int} (hb : 0 < b) (hd : ((D0 * 2 : Nat) : Int) = b * q) (hl : a.natAbs ≤ N1 * b.natAbs) (g : Int.gcd a b = 1) : Bq (D0 * 2) N1 ((a, b) : R) := by
 have := bq_mk (D := D0 * 2) (N := N1) hb ⟨q, hd⟩ hl
 rw [mkR_uniq hb hb g rfl] at this
 exact this
theorem spP_c {d : PyData} {ds : List PyData} (h : SpP d) (t : ∀ e ∈ ds, SpP e) : ∀ e ∈ d :: ds, SpP e := fun e he => (List.mem_cons.mp he).elim (fun z => z ▸ h) (t e)
theorem spP_n : ∀ e ∈ ([] : List PyData), SpP e := fun e he => by cases he
theorem spP_a {xs ds : List PyData} (h : ∀ e ∈ xs, SpP e) (t : ∀ e ∈ ds, SpP e) : ∀ e ∈ xs ++ ds, SpP e := fun e he => (List.mem_append.mp he).elim (h e) (t e)
def sp_law_bent (K : PySem.W.Frag) : Sp := fun vs H Q _ => ∃ (t s D : Addr) (v w : V) (z g : R), vs = [.ref t, v, w] /\ Tape3 K H t s /\ D ≠ t /\ (∃ ys, H D = some (.lst ys)) /\ RowV K H w (z, g) /\ SpK z /\ Wf 140 g /\ ∀ (u : V) (d : PyData) (H' : Hp), Step t H H' -> Tape3 K H' t s -> Deep K (hid H' t D) u d -> Gd 3 100000 d -> SpP d -> Q u H'
def sp_law_right (K : PySem.W.Frag) : Sp := fun vs H Q _ => ∃ (pw : Addr) (xw : List V) (v c : V) (rl : Rl) (d dw dr : PyData), vs = [.ref pw, v, c] /\ SqT K H pw xw /\ RlV K H v rl /\ RlOk rl /\ Deep K H c d /\ ibd d = true /\ SpD d /\ xw.length ≤ 9 /\ Deep K H (.ref pw) dw /\ Deep K H v dr /\ Shows (.tuple [dw, dr, d]) /\ ∀ H', Same H H' -> Q (.bl true) H'
theorem hd_tt {K : PySem.W.Frag} {t : Addr} {H : Hp} (h : ∃ xs, H t = some (.lst xs)) : Tst K H (hid H t t) := by
 have e : hid H t t = del H t := by
  funext b
  unfold hid del
  by_cases z : b = t
  ·rw [if_pos z, if_pos z]
  ·rw [if_neg z]
 rw [e]
 exact dl_tst h
theorem hd_in {t D : Addr} {H : Hp} {o : HO} (g : H D = none) : Same (hid H t t) (hid (upd H D o) t D) := fun b x q => by
 unfold hid at q ⊢
 by_cases y : b = t
 ·subst y; unfold del at q; rw [if_pos rfl] at q; cases q
 ·rw [del_at y, del_at y] at q
  have z : b ≠ D := fun e => by subst e; rw [g] at q; cases q
  rw [del_at z, del_at y, upd_ne z]
  exact q
theorem cut_fromA {xs : List V} {n : Nat} : cutV xs (some (n : Int)) none = xs.drop n := by
 by_cases h : n ≤ xs.length
 ·exact cut_from h
 ·unfold cutV
  rw [HT.sIx_nat, HT.sIx_none, Nat.min_eq_right (by omega), List.drop_eq_nil_of_le (Nat.le_refl _), List.drop_eq_nil_of_le (by omega), List.take_nil]
theorem rows_sp {prs : List (R × R)} (h : ∀ r ∈ prs, SpK r.1 /\ Wf 140 r.2) : ∀ e ∈ prs.map dRow, SpP e := fun e he => by
 obtain ⟨r, hr, rfl⟩ := List.mem_map.mp he
 exact spP_of (show Bq (D0 * 2) N1 (toRD (dR r.1)) from (h r hr).1.1.mono ⟨16174233075000000 * 2, by decide⟩ (by decide))
theorem spd_tup {ds : List PyData} (h : ∀ e ∈ ds, SpP e) : SpD (.tuple ds) := h
theorem spd_lst {ds : List PyData} : SpD (.list ds) := fun e he => by cases he
theorem spd_non : SpD .none := fun e he => by cases he
theorem spP_d {ds : List PyData} (n : Nat) (h : ∀ e ∈ ds, SpP e) : ∀ e ∈ ds.drop n, SpP e := fun e he => h e (List.mem_of_mem_drop he)
theorem spP_t {ds : List PyData} (n : Nat) (h : ∀ e ∈ ds, SpP e) : ∀ e ∈ ds.take n, SpP e := fun e he => h e (List.mem_of_mem_take he)
theorem gsC {k n : Nat} {e : PyData} {ds : List PyData} (h : Gd k n e) (s : SpD e) (t : ∀ d ∈ ds, Gd k n d /\ SpD d) : ∀ d ∈ e :: ds, Gd k n d /\ SpD d := fun d hd => (List.mem_cons.mp hd).elim (fun z => z ▸ ⟨h, s⟩) (t d)
theorem gsN {k n : Nat} : ∀ d ∈ ([] : List PyData), Gd k n d /\ SpD d := fun d hd => by cases hd
theorem gsA {k n : Nat} {xs ds : List PyData} (h : ∀ d ∈ xs, Gd k n d /\ SpD d) (t : ∀ d ∈ ds, Gd k n d /\ SpD d) : ∀ d ∈ xs ++ ds, Gd k n d /\ SpD d := fun d hd => (List.mem_append.mp hd).elim (h d) (t d)
theorem sh_three {ws : List Wk} {rl : Rl} {d : PyData} (hw : ∀ w ∈ ws, WkOk w) (lw : ws.length ≤ 9) (ok : RlOk rl) (g : Gd 5 2000000 d) : Shows (.tuple [dWks ws, dRl rl, d]) := by
 refine Sh.shows (k := 6) (n := 6000017) (Sh.tup (k := 5) (n := 2000000) (m := 3) (fun e he => ?_) (Nat.le_refl _) (by decide)) (by decide) (by decide)
 simp only [List.mem_cons, List.not_mem_nil, or_false] at he
 rcases he with rfl | rfl | rfl
 ·refine (Sh.tup (k := 2) (n := 20000) (m := 9) (N := 190000) (fun d hd => ?_) (by rw [List.length_map]; exact lw) (by decide)).mono (by decide) (by decide)
  obtain ⟨w, hw', rfl⟩ := List.mem_map.mp hd
  exact sh_dWk (hw w hw')
 ·exact (sh_rl ok).mono (by decide) (by decide)
 ·exact g.sh
theorem all_true {l : List Nat} : (l.map fun _ => V.bl true).all flatV = true := by
 rw [List.all_map]; exact List.all_eq_true.mpr fun _ _ => rfl
theorem none_false {l : List Nat} : inV (.bl false) (l.map fun _ => V.bl true) = false := by
 unfold inV
 rw [List.any_map]
 exact List.any_eq_false.mpr fun _ _ z => by cases z
def sp_law (K : PySem.W.Frag) : Sp := fun vs H Q _ => ∃ (a : Addr) (ns : List Int), vs = [.ref a] /\ SqL K H a (ns.map V.int) /\ ns.length ≤ 63 /\ ∀ H', Q (.bl true) H'
theorem sc_Q21 : FnScope ["thing"] ["thing"] (defScope s_Q21) := scA
theorem sc_Q7 : FnScope ["thing", "length"] ["thing", "length"] (defScope s_Q7) := scA
theorem sc_Q39 : FnScope ["thing"] ["thing"] (defScope s_Q39) := scA
theorem sc_Q0 : FnScope ["one", "other", "high", "low", "rest"] ["one", "other"] (defScope s_Q0) := scA
theorem sc_Q22 : FnScope ["thing", "top", "bottom"] ["thing"] (defScope s_Q22) := scA
theorem sc_Q2 : FnScope ["thing"] ["thing"] (defScope s_Q2) := scA
theorem sc_Q45 : FnScope ["top", "bottom", "shared"] ["top", "bottom"] (defScope s_Q45) := scA
theorem sc_Q49 : FnScope ["one", "other", "shared", "top", "rest"] ["one", "other"] (defScope s_Q49) := scA
theorem sc_Q46 : FnScope ["one", "other"] ["one", "other"] (defScope s_Q46) := scA
theorem sc_Q47 : FnScope ["one", "other", "left", "right"] ["one", "other"] (defScope s_Q47) := scA
theorem sc_Q50 : FnScope ["one", "other"] ["one", "other"] (defScope s_Q50) := scA
theorem sc_Q40 : FnScope ["one", "power", "top", "bottom", "step"] ["one", "power"] (defScope s_Q40) := scA
theorem sc_Q31 : FnScope ["one", "other"] ["one", "other"] (defScope s_Q31) := scA
theorem sc_Q3 : FnScope ["low", "high"] ["low", "high"] (defScope s_Q3) := scA
theorem sc_Q41 : FnScope ["rule"] ["rule"] (defScope s_Q41) := scA
theorem sc_Q11 : FnScope ["rule", "speed", "top"] ["rule", "speed"] (defScope s_Q11) := scA
theorem sc_Q23 : FnScope ["rows", "speed", "place"] ["rows", "speed"] (defScope s_Q23) := scA
theorem sc_Q4 : FnScope ["rows", "speed", "place", "left"] ["rows", "speed"] (defScope s_Q4) := scA
theorem sc_Q12 : FnScope ["rule", "speed", "slope"] ["rule", "speed"] (defScope s_Q12) := scA
theorem sc_Q48 : FnScope ["rule", "speed", "slope", "slopes"] ["rule", "speed", "slope"] (defScope s_Q48) := scA
theorem sc_Q24 : FnScope ["rule", "price", "speed"] ["rule", "price"] (defScope s_Q24) := scA
theorem sc_Q5 : FnScope ["works", "rule", "thing", "number", "price"] ["works", "rule", "thing"] (defScope s_Q5) := scA
theorem sc_Q25 : FnScope ["_law_script"] ["_law_script"] (defScope s_Q25) := scA
theorem sc_Q26 : FnScope ["_law_tape_here", "_law_many", "_law_spot", "_law_cell", "_law_mixed", "_law_found"] ["_law_tape_here", "_law_many"] (defScope s_Q26) := scA
theorem sc_Q27 : FnScope ["_law_top", "_law_bottom", "_law_one", "_law_other"] ["_law_top", "_law_bottom"] (defScope s_Q27) := scA
theorem sc_Q32 : FnScope ["_law_one", "_law_other"] ["_law_one", "_law_other"] (defScope s_Q32) := scA
theorem sc_Q33 : FnScope ["_law_one", "_law_other"] ["_law_one", "_law_other"] (defScope s_Q33) := scA
theorem sc_Q28 : FnScope ["_law_one", "_law_other"] ["_law_one", "_law_other"] (defScope s_Q28) := scA
theorem sc_Q13 : FnScope ["_law_tape_here", "_law_many", "_law_end", "_law_works_here", "_law_k", "_law_first", "_law_last", "_law_way"] ["_law_tape_here", "_law_many"] (defScope s_Q13) := scA
theorem sc_Q29 : FnScope ["_law_tape_here", "_law_kinks", "_law_most", "_law_way", "_law_speeds", "_law_last", "_law_power", "_law_slope", "_law_rows", "_law_speed", "_law_step"] ["_law_tape_here", "_law_kinks", "_law_most"] (defScope s_Q29) := scA
theorem sc_Q8 : FnScope ["_law_some", "_law_found", "_law_one", "_law_place"] ["_law_some"] (defScope s_Q8) := scA
theorem sc_Q9 : FnScope ["_law_rule_here", "_law_speed", "_law_slope", "_law_k", "_law_found", "_law_low", "_law_high", "_law_wide", "_law_rise", "_law_left", "_law_right_here"] ["_law_rule_here", "_law_speed"] (defScope s_Q9) := scA
theorem sc_Q14 : FnScope ["_law_tape_here", "_law_rule_here", "_law_speed", "_law_left", "_law_right_here", "_law_part", "_law_rise"] ["_law_tape_here", "_law_rule_here", "_law_speed"] (defScope s_Q14) := scA
theorem sc_Q1 : FnScope ["_law_tape_here", "_law_rule_here", "_law_kinks", "_law_some"] ["_law_tape_here", "_law_rule_here", "_law_kinks"] (defScope s_Q1) := scA
theorem sc_Q10 : FnScope ["_law_tape_here", "_law_works_here", "_law_rule_here", "_law_kinks"] ["_law_tape_here", "_law_works_here", "_law_rule_here", "_law_kinks"] (defScope s_Q10) := scA
theorem sc_Q15 : FnScope ["_law_e", "_law_marks_here"] ["_law_e"] (defScope s_Q15) := scA
theorem sc_Q6 : FnScope ["_law_thing"] ["_law_thing"] (defScope s_Q6) := scA
theorem sc_Q16 : FnScope ["_law_works_here", "_law_rule_here", "_law_thing", "_law_pair", "_law_number", "_law_speed", "_law_slope", "_law_left", "_law_right_here"] ["_law_works_here", "_law_rule_here", "_law_thing"] (defScope s_Q16) := scA
theorem sc_Q30 : FnScope ["_law_tape_here", "_law_rule_here", "_law_pair", "_law_speed", "_law_slope", "_law_near", "_law_some"] ["_law_tape_here", "_law_rule_here", "_law_pair"] (defScope s_Q30) := scA
theorem sc_Q17 : FnScope ["_law_works_here", "_law_rule_here", "_law_thing", "_law_told", "_law_e"] ["_law_works_here", "_law_rule_here", "_law_thing"] (defScope s_Q17) := scA
theorem sc_Q18 : FnScope ["_law_works_here", "_law_rule_here", "_law_thing", "_law_due", "_law_ahead", "_law_found", "_law_marks_here", "_law_number"] ["_law_works_here", "_law_rule_here", "_law_thing"] (defScope s_Q18) := scA
theorem sc_Q51 : FnScope ["_law_script", "_law_tape_here", "_law_k", "_law_works_here", "_law_kinks", "_law_rule_here", "_law_prices_here", "_law_things", "_law_j", "_law_at"] ["_law_script"] (defScope s_Q51) := scA
theorem sc_Q34 : FnScope ["self", "work"] ["self", "work"] (defScope s_Q34) := scA
end My
namespace My
open PySem L2 B PyProof.Rows
section
variable {P : Program} {w : World} {K : PySem.W.Frag} {mg : Str -> Option Value} {base : Heap} {t : Ad}
theorem ok_Q21 (T : Txt K mg t) : FnOk P w K mg base CX0 1 t.a_Q21 t.d_Q21 ["thing"] (sp_is_whole K) := by
 refine T.F_Q21.ok sc_Q21 (fun vs H Q E h => ?_) (fun cdv A outer s H vs Q E hr h => ?_)
 ·obtain ⟨_, _, rfl, _⟩ := h; rfl
 obtain ⟨v, d, rfl, hD, k⟩ := h
 obtain ⟨b, c, e1, e2, e3⟩ := isi_int hD
 refine QSs.ok (qss_one (qs_ret (qe_and (qe_callB call_isiD (by rfl) T.z_isinstance PyProof.Rows.boot_isinstance (qa_cons (qv 0) (qa_cons (qe_bltn (v := V.ty "int") rfl T.z_int PyProof.Rows.boot_int rfl) qa_nil star_name) star_name)) (qe_one (qe_not (qe_callB call_isiD (by rfl) T.z_isinstance PyProof.Rows.boot_isinstance (qa_cons (qv 0) (qa_cons (qe_bltn (v := V.ty "bool") rfl T.z_bool PyProof.Rows.boot_bool rfl) qa_nil star_name) star_name))))))) ?_
 rw [e3] at k
 refine ⟨_, rfl, _, _, _, _, rfl, hD, e1, _, rfl, ?_⟩
 cases b with
 | false => exact k
 | true => exact ⟨_, rfl, _, _, _, _, rfl, hD, e2, _, rfl, k⟩
theorem ok_Q7 (T : Txt K mg t) : FnOk P w K mg base CX0 1 t.a_Q7 t.d_Q7 ["thing", "length"] (sp_is_tuple_of K) := by
 refine T.F_Q7.ok sc_Q7 (fun vs H Q E h => ?_) (fun cdv A outer s H vs Q E hr h => ?_)
 ·obtain ⟨_, _, _, rfl, _⟩ := h; rfl
 obtain ⟨v, d, m, rfl, hD, k⟩ := h
 refine QSs.ok (qss_one (qs_ret (qe_and (qe_callB call_isiD (by rfl) T.z_isinstance PyProof.Rows.boot_isinstance (qa_cons (qv 0) (qa_cons (qe_bltn (v := V.ty "tuple") rfl T.z_tuple PyProof.Rows.boot_tuple rfl) qa_nil star_name) star_name)) (qe_one (qe_cmpR op_eq (qe_callB call_len_seq (by rfl) T.z_len PySem.boot_len (qa_cons (qv 0) qa_nil star_name)) (qv 1) (nomark _)))))) ?_
 rcases isi_tup hD with ⟨e, p, xs, ds, rfl, rfl, hS, hA⟩ | ⟨e, no⟩
 ·refine ⟨_, rfl, _, _, _, _, rfl, hD, e, _, rfl, ?_⟩
  refine ⟨_, rfl, p, _, rfl, .inr hS, _, rfl, rfl, ?_⟩
  have q : decide ((V.int xs.length : V) = .int m) = tupD m (.tuple ds) := by
   show _ = decide (ds.length = m)
   rw [hA.len]
   refine decide_eq_decide.mpr ⟨fun z => by injection z with z; omega, fun z => by rw [z]⟩
  rw [q]
  exact k
 ·refine ⟨_, rfl, _, _, _, _, rfl, hD, e, _, rfl, ?_⟩
  rw [tupD_no no] at k
  exact k
theorem ok_Q39 (T : Txt K mg t) : FnOk P w K mg base CX0 1 t.a_Q39 t.d_Q39 ["thing"] (sp_copied K) := by
 refine T.F_Q39.ok sc_Q39 (fun vs H Q E h => ?_) (fun cdv A outer s H vs Q E hr h => ?_)
 ·obtain ⟨_, rfl, _⟩ := h; rfl
 obtain ⟨v, rfl, hv, k⟩ := h
 refine QSs.ok (qss_cons (qs_if (qt_val (qe_callB call_isi (by rfl) T.z_isinstance PyProof.Rows.boot_isinstance (qa_cons (qv 0) (qa_cons (qe_bltn (v := V.ty "list") rfl T.z_list PyProof.Rows.boot_list rfl) qa_nil star_name) star_name))) (qss_one qs_never) qss_nil)
   (qss_cons (qs_if (qt_val (qe_callB call_isi (by rfl) T.z_isinstance PyProof.Rows.boot_isinstance (qa_cons (qv 0) (qa_cons (qe_bltn (v := V.ty "tuple") rfl T.z_tuple PyProof.Rows.boot_tuple rfl) qa_nil star_name) star_name))) (qss_one qs_never) qss_nil)
   (qss_one (qs_ret (qv 0))))) ?_
 rcases hv with ⟨i, rfl⟩ | ⟨x, rfl⟩
 ·refine ⟨_, rfl, _, _, "int", false, rfl, .int i, by decide +kernel, false, rfl, iteF ?_⟩
  refine ⟨_, rfl, _, _, "int", false, rfl, .int i, by decide +kernel, false, rfl, iteF ?_⟩
  exact ⟨_, rfl, k⟩
 ·refine ⟨_, rfl, _, _, "str", false, rfl, .str x, by decide +kernel, false, rfl, iteF ?_⟩
  refine ⟨_, rfl, _, _, "str", false, rfl, .str x, by decide +kernel, false, rfl, iteF ?_⟩
  exact ⟨_, rfl, k⟩
theorem ok_Q0 (T : Txt K mg t) : FnOk P w K mg base CX0 1 t.a_Q0 t.d_Q0 ["one", "other"] (sp_greatest_divisor K) := by
 refine T.F_Q0.ok sc_Q0 (fun vs H Q E h => ?_) (fun cdv A outer s H vs Q E hr h => ?_)
 ·obtain ⟨_, _, rfl, _⟩ := h; rfl
 obtain ⟨a, b, rfl, k⟩ := h
 refine QSs.ok (qss_cons (qsA 2 sc_Q0.nd (qe_callB call_abs (by rfl) T.z_abs PyProof.Rows.boot_abs (qa_cons (qv 0) qa_nil star_name)))
   (qss_cons (qsA 3 sc_Q0.nd (qe_callB call_abs (by rfl) T.z_abs PyProof.Rows.boot_abs (qa_cons (qv 1) qa_nil star_name)))
   (qss_cons (qs_while PassesOwn.never (qt_cmpR op_ne (qv 3) qe_int (nomark _))
   (qss_cons (qsA 4 sc_Q0.nd (qe_op op_mod (qv 2) (qv 3)))
   (qss_cons (qsA 2 sc_Q0.nd (qv 3))
   (qss_one (qsA 3 sc_Q0.nd (qv 4))))))
   (qss_one (qs_ret (qv 2)))))) ?_
 refine ⟨_, rfl, _, rfl, _, rfl, _, rfl, ?_⟩
 rw [abs_if, abs_if]
 refine ⟨fun m σ H' => ∃ (x y : Int) (v : Option V), σ = [some (.int a), some (.int b), some (.int x), some (.int y), v] /\ H' = H /\ 0 ≤ x /\ 0 ≤ y /\ Int.gcd x y = Int.gcd a b /\ m = y.toNat, ⟨_, _, _, _, rfl, rfl, by omega, by omega, (by simp [Int.gcd]), rfl⟩, ?_⟩
 rintro m σ H' ⟨x, y, v, rfl, rfl, hx, hy, hg, rfl⟩
 refine ⟨_, rfl, rfl, _, rfl, ?_⟩
 by_cases c : y = 0
 ·subst c
  refine iteNS rfl ?_
  rw [← hg] at k
  refine ⟨_, rfl, ?_⟩
  have e : (x : Int) = (Int.gcd x 0 : Nat) := by simp [Int.gcd]; omega
  rw [← e] at k
  exact k
 ·refine iteN1 (fun z => c (by injection z)) ?_
  refine ⟨_, fun _ _ z => z, ?_⟩
  refine ⟨_, rfl, _, rfl, _, _, rfl, rfl, (by omega), _, rfl, _, rfl, ?_⟩
  refine ⟨_, ?_, y, x % y, _, rfl, rfl, hy, Int.emod_nonneg _ c, ?_, rfl⟩
  ·have := Int.emod_lt_of_pos x (show 0 < y by omega)
   have := Int.emod_nonneg x c
   omega
  ·rw [gcd_turn hx (by omega), hg]
theorem ok_Q22 (T : Txt K mg t) : FnOk P w K mg base CX0 2 t.a_Q22 t.d_Q22 ["thing"] (sp_is_ratio K) := by
 refine T.F_Q22.ok sc_Q22 (fun vs H Q E h => ?_) (fun cdv A outer s H vs Q E hr h => ?_)
 ·obtain ⟨_, _, rfl, _⟩ := h; rfl
 obtain ⟨v, d, rfl, hD, k⟩ := h
 refine QSs.ok (qss_cons (qs_if (qt_not (qt_val (qe_call (ok_Q7 T) (hr.mono (by decide)) rfl T.m_Q7 T.F_Q7.kp T.b_Q7 .nil pass0 (qa_cons (qv 0) (qa_cons qe_int qa_nil star_con) star_name)))) (qss_one (qs_ret qe_bl)) qss_nil)
   (qss_cons (qsA 1 sc_Q22.nd (qe_ix ix_tup (qv 0) qe_int (fun _ _ => rfl)))
   (qss_cons (qsA 2 sc_Q22.nd (qe_ix ix_tup (qv 0) qe_int (fun _ _ => rfl)))
   (qss_cons (qs_if (qw_pt (qw_or (qt_not (qt_val (qe_call (ok_Q21 T) (hr.mono (by decide)) rfl T.m_Q21 T.F_Q21.kp T.b_Q21 .nil pass0 (qa_cons (qv 1) qa_nil star_name)))) (qw_or (qt_not (qt_val (qe_call (ok_Q21 T) (hr.mono (by decide)) rfl T.m_Q21 T.F_Q21.kp T.b_Q21 .nil pass0 (qa_cons (qv 2) qa_nil star_name)))) (qw_or1 (qt_cmpR op_lt (qv 2) qe_int (nomark _)))))) (qss_one (qs_ret qe_bl)) qss_nil)
   (qss_one (qs_ret (qe_cmpR op_eq (qe_call (ok_Q0 T) (hr.mono (by decide)) rfl T.m_Q0 T.F_Q0.kp T.b_Q0 .nil pass0 (qa_cons (qv 1) (qa_cons (qv 2) qa_nil star_name) star_name)) qe_int (nomark _)))))))) ?_
 refine ⟨_, rfl, v, d, 2, rfl, hD, ⟨_, rfl, ?_⟩⟩
 cases c2 : tupD 2 d with
 | false =>
  refine iteT ?_
  rw [ratD_no c2] at k
  exact k
 | true =>
  refine iteF ?_
  obtain ⟨p, x, y, dx, dy, rfl, rfl, hS, hx, hy⟩ := hD.two c2
  refine ⟨_, rfl, p, _, _, _, rfl, rfl, hS, rfl, _, rfl, p, _, _, _, rfl, rfl, hS, rfl, ?_⟩
  refine ⟨_, rfl, x, dx, rfl, hx, _, rfl, ?_⟩
  cases cx : wholeD dx with
  | false =>
   refine iteT (iteT ?_)
   rw [rat_x cx] at k
   exact k
  | true =>
   refine iteF ?_
   refine ⟨_, rfl, y, dy, rfl, hy, _, rfl, ?_⟩
   cases cy : wholeD dy with
   | false =>
    refine iteT (iteT ?_)
    rw [rat_y cy] at k
    exact k
   | true =>
    refine iteF ?_
    obtain ⟨i, rfl⟩ := wholeD_int cx
    obtain ⟨j, rfl⟩ := wholeD_int cy
    cases hx
    cases hy
    have kk : Q (.bl (decide (1 ≤ j) && decide (Int.gcd i j = 1))) H := k
    refine ⟨_, rfl, _, _, rfl, rfl, _, rfl, ?_⟩
    by_cases c : j < 1
    ·refine iteD1 c ?_
     rw [decide_eq_false (show ¬ 1 ≤ j by omega)] at kk
     exact kk
    ·refine iteD0 c ?_
     refine ⟨_, rfl, _, rfl, i, j, rfl, rfl, ?_⟩
     rw [decide_eq_true (show 1 ≤ j by omega), Bool.true_and] at kk
     have q : decide ((V.int (Int.gcd i j : Nat) : V) = .int 1) = decide (Int.gcd i j = 1) := decide_eq_decide.mpr ⟨fun z => by injection z with z; omega, fun z => by rw [z]; rfl⟩
     rw [q]
     exact kk
theorem ok_Q2 (T : Txt K mg t) : FnOk P w K mg base CX0 3 t.a_Q2 t.d_Q2 ["thing"] (sp_is_ratio_pair K) := by
 refine T.F_Q2.ok sc_Q2 (fun vs H Q E h => ?_) (fun cdv A outer s H vs Q E hr h => ?_)
 ·obtain ⟨_, _, rfl, _⟩ := h; rfl
 obtain ⟨v, d, rfl, hD, k⟩ := h
 refine QSs.ok (qss_one (qs_ret (qe_and (qe_call (ok_Q7 T) (hr.mono (by decide)) rfl T.m_Q7 T.F_Q7.kp T.b_Q7 .nil pass0 (qa_cons (qv 0) (qa_cons qe_int qa_nil star_con) star_name)) (qe_and (qe_call (ok_Q22 T) (hr.mono (by decide)) rfl T.m_Q22 T.F_Q22.kp T.b_Q22 .nil pass0 (qa_cons (qe_ix ix_tup (qv 0) qe_int (fun _ _ => rfl)) qa_nil star_sub)) (qe_one (qe_call (ok_Q22 T) (hr.mono (by decide)) rfl T.m_Q22 T.F_Q22.kp T.b_Q22 .nil pass0 (qa_cons (qe_ix ix_tup (qv 0) qe_int (fun _ _ => rfl)) qa_nil star_sub))))))) ?_
 refine ⟨_, rfl, v, d, 2, rfl, hD, ?_⟩
 cases c2 : tupD 2 d with
 | false =>
  rw [pairD_no c2] at k
  exact ⟨_, rfl, k⟩
 | true =>
  obtain ⟨p, x, y, dx, dy, rfl, rfl, hS, hx, hy⟩ := hD.two c2
  have kk : Q (.bl (ratD dx && ratD dy)) H := k
  refine ⟨_, rfl, ?_⟩
  refine ⟨_, rfl, p, _, _, _, rfl, rfl, hS, rfl, x, dx, rfl, hx, ?_⟩
  cases cx : ratD dx with
  | false =>
   rw [cx] at kk
   exact ⟨_, rfl, kk⟩
  | true =>
   rw [cx] at kk
   exact ⟨_, rfl, _, rfl, p, _, _, _, rfl, rfl, hS, rfl, y, dy, rfl, hy, kk⟩
theorem ok_Q45 (T : Txt K mg t) : FnOk P w K mg base CX0 2 t.a_Q45 t.d_Q45 ["top", "bottom"] (sp_ratio K) := by
 refine T.F_Q45.ok sc_Q45 (fun vs H Q E h => ?_) (fun cdv A outer s H vs Q E hr h => ?_)
 ·obtain ⟨_, _, rfl, _⟩ := h; rfl
 obtain ⟨a, b, rfl, hb, hz, k⟩ := h
 refine QSs.ok (qss_cons (qs_if (qt_cmpR op_eq (qv 1) qe_int (nomark _)) (qss_one qs_never) qss_nil)
   (qss_cons (qsA 2 sc_Q45.nd (qe_call (ok_Q0 T) (hr.mono (by decide)) rfl T.m_Q0 T.F_Q0.kp T.b_Q0 .nil pass0 (qa_cons (qv 0) (qa_cons (qv 1) qa_nil star_name) star_name)))
   (qss_cons (qs_if (qt_cmpR op_lt (qv 1) qe_int (nomark _)) (qss_one (qsA 2 sc_Q45.nd (qe_un un_neg (qv 2)))) qss_nil)
   (qss_one (qs_ret (qe_tup (qa_cons (qe_op op_quoN (qv 0) (qv 2)) (qa_cons (qe_op op_quoN (qv 1) (qv 2)) qa_nil star_bin) star_bin))))))) ?_
 have gp := gcd_posN (a := a) hb
 have gb := gcd_big (a := a) hb hz
 refine ⟨_, rfl, rfl, _, rfl, ?_⟩
 refine iteD0 (fun z => by injection z with z; omega) ?_
 refine ⟨_, rfl, _, rfl, a, b, rfl, ?_⟩
 refine ⟨_, rfl, _, _, rfl, rfl, _, rfl, ?_⟩
 by_cases hn : b < 0
 ·refine iteD1 hn ?_
  rw [← mkS_neg1 hn] at k
  have gm : (-((Int.gcd a b : Nat) : Int)).natAbs < 2 ^ 4000 := by rw [Int.natAbs_neg]; exact gb
  refine ⟨_, rfl, _, rfl, ?_⟩
  refine ⟨_, rfl, _, rfl, _, _, rfl, rfl, ⟨by omega, gm⟩, _, rfl, _, rfl, _, _, rfl, rfl, ⟨by omega, gm⟩, zl2, fun p hp => ?_⟩
  exact k p hp
 ·refine iteD0 hn ?_
  rw [← mkS_pos1 (by omega : 0 < b)] at k
  refine ⟨_, rfl, _, rfl, _, _, rfl, rfl, ⟨by omega, gb⟩, _, rfl, _, rfl, _, _, rfl, rfl, ⟨by omega, gb⟩, zl2, fun p hp => ?_⟩
  exact k p hp
theorem ok_Q49 (T : Txt K mg t) : FnOk P w K mg base CX0 2 t.a_Q49 t.d_Q49 ["one", "other"] (sp_plus K) := by
 refine T.F_Q49.ok sc_Q49 (fun vs H Q E h => ?_) (fun cdv A outer s H vs Q E hr h => ?_)
 ·obtain ⟨_, _, _, _, _, _, rfl, _⟩ := h; rfl
 obtain ⟨v, w, r, q, n, m, rfl, hv, hw, wr, wq, hz, k⟩ := h
 refine QSs.ok (qss_cons (qsA 2 sc_Q49.nd (qe_call (ok_Q0 T) (hr.mono (by decide)) rfl T.m_Q0 T.F_Q0.kp T.b_Q0 .nil pass0 (qa_cons (qe_ix ix_tup (qv 0) qe_int (fun _ _ => rfl)) (qa_cons (qe_ix ix_tup (qv 1) qe_int (fun _ _ => rfl)) qa_nil star_sub) star_sub)))
   (qss_cons (qsA 3 sc_Q49.nd (qe_op op_add (qe_op op_mulB (qe_ix ix_tup (qv 0) qe_int (fun _ _ => rfl)) (qe_op op_quo (qe_ix ix_tup (qv 1) qe_int (fun _ _ => rfl)) (qv 2))) (qe_op op_mulB (qe_ix ix_tup (qv 1) qe_int (fun _ _ => rfl)) (qe_op op_quo (qe_ix ix_tup (qv 0) qe_int (fun _ _ => rfl)) (qv 2)))))
   (qss_cons (qsA 4 sc_Q49.nd (qe_call (ok_Q0 T) (hr.mono (by decide)) rfl T.m_Q0 T.F_Q0.kp T.b_Q0 .nil pass0 (qa_cons (qv 3) (qa_cons (qv 2) qa_nil star_name) star_name)))
   (qss_one (qs_ret (qe_tup (qa_cons (qe_op op_quo (qv 3) (qv 4)) (qa_cons (qe_op op_mulB (qe_op op_quo (qe_ix ix_tup (qv 0) qe_int (fun _ _ => rfl)) (qv 2)) (qe_op op_quo (qe_ix ix_tup (qv 1) qe_int (fun _ _ => rfl)) (qv 4))) qa_nil star_bin) star_bin))))))) ?_
 obtain ⟨p, rfl, hv⟩ := hv
 obtain ⟨p', rfl, hw⟩ := hw
 have c1 := big_of wr.top (show n ≤ 4000 by omega)
 have c2 := big_of wr.bot (show n ≤ 4000 by omega)
 have c3 := big_of wq.top (show m ≤ 4000 by omega)
 have c4 := big_of wq.bot (show m ≤ 4000 by omega)
 have gp : (0 : Int) < (Int.gcd r.2 q.2 : Nat) := gcd_posR wq.pos
 have gb := gcd_lt (a := r.2) wq.pos c4
 refine ⟨_, rfl, p, _, _, _, rfl, rfl, hv, rfl, _, rfl, p', _, _, _, rfl, rfl, hw, rfl, r.2, q.2, rfl, ?_⟩
 have z := plusG_eq ⟨wr.pos, wr.cop⟩ ⟨wq.pos, wq.cop⟩
 have kk : newR H Q (plusG r q) := by rw [z]; exact k
 unfold plusG at kk
 simp only at kk
 generalize ((Int.gcd r.2 q.2 : Nat) : Int) = d at gp gb kk ⊢
 refine ⟨_, rfl, p, _, _, _, rfl, rfl, hv, rfl, _, rfl, p', _, _, _, rfl, rfl, hw, rfl, _, rfl, _, _, rfl, rfl, ⟨gp, gb⟩, _, _, rfl, rfl, ⟨c1, div_lt gp c4⟩, _, rfl, p', _, _, _, rfl, rfl, hw, rfl, _, rfl, p, _, _, _, rfl, rfl, hv, rfl, _, rfl, _, _, rfl, rfl, ⟨gp, gb⟩, _, _, rfl, rfl, ⟨c3, div_lt gp c2⟩, _, _, rfl, rfl, ?_⟩
 refine ⟨_, rfl, _, rfl, _, _, rfl, ?_⟩
 have ep : (0 : Int) < (Int.gcd (r.1 * (q.2 / d) + q.1 * (r.2 / d)) d : Nat) := gcd_posR gp
 have eb := gcd_lt (a := r.1 * (q.2 / d) + q.1 * (r.2 / d)) gp gb
 generalize ((Int.gcd (r.1 * (q.2 / d) + q.1 * (r.2 / d)) d : Nat) : Int) = e at ep eb kk ⊢
 refine ⟨_, rfl, _, rfl, _, _, rfl, rfl, ⟨ep, eb⟩, _, rfl, p, _, _, _, rfl, rfl, hv, rfl, _, rfl, _, _, rfl, rfl, ⟨gp, gb⟩, _, rfl, p', _, _, _, rfl, rfl, hw, rfl, _, rfl, _, _, rfl, rfl, ⟨ep, eb⟩, _, _, rfl, rfl, ⟨div_lt gp c2, div_lt ep c4⟩, zl2, kk⟩
theorem ok_Q46 (T : Txt K mg t) : FnOk P w K mg base CX0 3 t.a_Q46 t.d_Q46 ["one", "other"] (sp_minus K) := by
 refine T.F_Q46.ok sc_Q46 (fun vs H Q E h => ?_) (fun cdv A outer s H vs Q E hr h => ?_)
 ·obtain ⟨_, _, _, _, _, _, rfl, _⟩ := h; rfl
 obtain ⟨v, w, r, q, n, m, rfl, hv, hw, wr, wq, hz, k⟩ := h
 refine QSs.ok (qss_one (qs_ret (qe_call (ok_Q49 T) (hr.mono (by decide)) rfl T.m_Q49 T.F_Q49.kp T.b_Q49 .nil pass0 (qa_cons (qv 0) (qa_cons (qe_tup (qa_cons (qe_un un_neg (qe_ix ix_tup (qv 1) qe_int (fun _ _ => rfl))) (qa_cons (qe_ix ix_tup (qv 1) qe_int (fun _ _ => rfl)) qa_nil star_sub) star_un)) qa_nil star_tup) star_name)))) ?_
 obtain ⟨p', rfl, hw⟩ := hw
 refine ⟨_, rfl, _, rfl, p', _, _, _, rfl, rfl, hw, rfl, _, rfl, _, rfl, p', _, _, _, rfl, rfl, hw, rfl, zl2, fun pt ht => ?_⟩
 have s1 := same_new ht (.tup [.int (-q.1), .int q.2])
 refine ⟨v, .ref pt, r, (-q.1, q.2), n, m, rfl, hv.mono (Tst.same s1), RV.of upd_same, wr, ⟨wq.pos, by show (-q.1).natAbs < _; rw [Int.natAbs_neg]; exact wq.top, wq.bot, cop_neg' wq.cop⟩, hz, fun p hp => ?_⟩
 refine k _ _ (s1.trans (same_new hp _)) ?_
 rw [← minus_eq]
 exact RV.of upd_same
theorem ok_Q47 (T : Txt K mg t) : FnOk P w K mg base CX0 2 t.a_Q47 t.d_Q47 ["one", "other"] (sp_times K) := by
 refine T.F_Q47.ok sc_Q47 (fun vs H Q E h => ?_) (fun cdv A outer s H vs Q E hr h => ?_)
 ·obtain ⟨_, _, _, _, _, _, rfl, _⟩ := h; rfl
 obtain ⟨v, w, r, q, n, m, rfl, hv, hw, wr, wq, hz, k⟩ := h
 refine QSs.ok (qss_cons (qsA 2 sc_Q47.nd (qe_call (ok_Q0 T) (hr.mono (by decide)) rfl T.m_Q0 T.F_Q0.kp T.b_Q0 .nil pass0 (qa_cons (qe_ix ix_tup (qv 0) qe_int (fun _ _ => rfl)) (qa_cons (qe_ix ix_tup (qv 1) qe_int (fun _ _ => rfl)) qa_nil star_sub) star_sub)))
   (qss_cons (qsA 3 sc_Q47.nd (qe_call (ok_Q0 T) (hr.mono (by decide)) rfl T.m_Q0 T.F_Q0.kp T.b_Q0 .nil pass0 (qa_cons (qe_ix ix_tup (qv 1) qe_int (fun _ _ => rfl)) (qa_cons (qe_ix ix_tup (qv 0) qe_int (fun _ _ => rfl)) qa_nil star_sub) star_sub)))
   (qss_one (qs_ret (qe_tup (qa_cons (qe_op op_mulB (qe_op op_quo (qe_ix ix_tup (qv 0) qe_int (fun _ _ => rfl)) (qv 2)) (qe_op op_quo (qe_ix ix_tup (qv 1) qe_int (fun _ _ => rfl)) (qv 3))) (qa_cons (qe_op op_mulB (qe_op op_quo (qe_ix ix_tup (qv 0) qe_int (fun _ _ => rfl)) (qv 3)) (qe_op op_quo (qe_ix ix_tup (qv 1) qe_int (fun _ _ => rfl)) (qv 2))) qa_nil star_bin) star_bin)))))) ?_
 obtain ⟨p, rfl, hv⟩ := hv
 obtain ⟨p', rfl, hw⟩ := hw
 have c1 := big_of wr.top (show n ≤ 4000 by omega)
 have c2 := big_of wr.bot (show n ≤ 4000 by omega)
 have c3 := big_of wq.top (show m ≤ 4000 by omega)
 have c4 := big_of wq.bot (show m ≤ 4000 by omega)
 have lp : (0 : Int) < (Int.gcd r.1 q.2 : Nat) := gcd_posR wq.pos
 have lb := gcd_lt (a := r.1) wq.pos c4
 have mp : (0 : Int) < (Int.gcd q.1 r.2 : Nat) := gcd_posR wr.pos
 have mb := gcd_lt (a := q.1) wr.pos c2
 have z := timesG_eq ⟨wr.pos, wr.cop⟩ ⟨wq.pos, wq.cop⟩
 have kk : newR H Q (timesG r q) := by rw [z]; exact k
 unfold timesG at kk
 simp only at kk
 refine ⟨_, rfl, p, _, _, _, rfl, rfl, hv, rfl, _, rfl, p', _, _, _, rfl, rfl, hw, rfl, r.1, q.2, rfl, _, rfl, p', _, _, _, rfl, rfl, hw, rfl, _, rfl, p, _, _, _, rfl, rfl, hv, rfl, q.1, r.2, rfl, ?_⟩
 generalize ((Int.gcd r.1 q.2 : Nat) : Int) = l at lp lb kk ⊢
 generalize ((Int.gcd q.1 r.2 : Nat) : Int) = m' at mp mb kk ⊢
 refine ⟨_, rfl, p, _, _, _, rfl, rfl, hv, rfl, _, rfl, _, _, rfl, rfl, ⟨lp, lb⟩, _, rfl, p', _, _, _, rfl, rfl, hw, rfl, _, rfl, _, _, rfl, rfl, ⟨mp, mb⟩, _, _, rfl, rfl, ⟨div_lt lp c1, div_lt mp c3⟩, _, rfl, p, _, _, _, rfl, rfl, hv, rfl, _, rfl, _, _, rfl, rfl, ⟨mp, mb⟩, _, rfl, p', _, _, _, rfl, rfl, hw, rfl, _, rfl, _, _, rfl, rfl, ⟨lp, lb⟩, _, _, rfl, rfl, ⟨div_lt mp c2, div_lt lp c4⟩, zl2, kk⟩
theorem ok_Q50 (T : Txt K mg t) : FnOk P w K mg base CX0 3 t.a_Q50 t.d_Q50 ["one", "other"] (sp_over K) := by
 refine T.F_Q50.ok sc_Q50 (fun vs H Q E h => ?_) (fun cdv A outer s H vs Q E hr h => ?_)
 ·obtain ⟨_, _, _, _, _, _, rfl, _⟩ := h; rfl
 obtain ⟨v, w, r, q, n, m, rfl, hv, hw, wr, wq, hz, hq, k⟩ := h
 refine QSs.ok (qss_cons (qs_if (qt_cmpR op_eq (qe_ix ix_tup (qv 1) qe_int (fun _ _ => rfl)) qe_int (nomark _)) (qss_one qs_never) qss_nil)
   (qss_one (qs_ret (qe_call (ok_Q47 T) (hr.mono (by decide)) rfl T.m_Q47 T.F_Q47.kp T.b_Q47 .nil pass0 (qa_cons (qv 0) (qa_cons (qe_call (ok_Q45 T) (hr.mono (by decide)) rfl T.m_Q45 T.F_Q45.kp T.b_Q45 .nil pass0 (qa_cons (qe_ix ix_tup (qv 1) qe_int (fun _ _ => rfl)) (qa_cons (qe_ix ix_tup (qv 1) qe_int (fun _ _ => rfl)) qa_nil star_sub) star_sub)) qa_nil star_call) star_name))))) ?_
 obtain ⟨p', rfl, hw⟩ := hw
 refine ⟨_, rfl, p', _, _, _, rfl, rfl, hw, rfl, rfl, _, rfl, ?_⟩
 refine iteD0 (fun z => by injection z with z; exact hq z) ?_
 refine ⟨_, rfl, _, rfl, p', _, _, _, rfl, rfl, hw, rfl, _, rfl, p', _, _, _, rfl, rfl, hw, rfl, q.2, q.1, rfl, hq, big_of wq.top (by omega), fun ps hps => ?_⟩
 have s1 := same_new hps (.tup [.int (mkS q.2 q.1).1, .int (mkS q.2 q.1).2])
 refine ⟨v, .ref ps, r, mkS q.2 q.1, n, m, rfl, hv.mono (Tst.same s1), RV.of upd_same, wr, mkS_wf hq wq.bot wq.top, hz, fun p hp => ?_⟩
 refine k _ _ (s1.trans (same_new hp _)) ?_
 rw [← over_eq ⟨wr.pos, wr.cop⟩ hq]
 exact RV.of upd_same
theorem ok_Q40 (T : Txt K mg t) : FnOk P w K mg base CX0 1 t.a_Q40 t.d_Q40 ["one", "power"] (sp_raised K) := by
 refine T.F_Q40.ok sc_Q40 (fun vs H Q E h => ?_) (fun cdv A outer s H vs Q E hr h => ?_)
 ·obtain ⟨_, _, _, rfl, _⟩ := h; rfl
 obtain ⟨v, r, k₁, rfl, hv, wr, h0, h6, k⟩ := h
 refine QSs.ok (qss_cons (qsA 2 sc_Q40.nd qe_int)
   (qss_cons (qsA 3 sc_Q40.nd qe_int)
   (qss_cons (qs_for PassesOwn.never rfl (qi_range1 rfl T.z_range (qa_cons (qv 1) qa_nil star_name)) (qg_name (i := 4) sc_Q40.nd rfl (by first | exact Or.inl rfl | exact Or.inr rfl))
   (qss_cons (qsA 2 sc_Q40.nd (qe_op op_mulB (qv 2) (qe_ix ix_tup (qv 0) qe_int (fun _ _ => rfl))))
   (qss_one (qsA 3 sc_Q40.nd (qe_op op_mulB (qv 3) (qe_ix ix_tup (qv 0) qe_int (fun _ _ => rfl)))))))
   (qss_one (qs_ret (qe_tup (qa_cons (qv 2) (qa_cons (qv 3) qa_nil star_name) star_name))))))) ?_
 have kb := two63 h0 (by omega : k₁ ≤ 100)
 obtain ⟨p, rfl, hv⟩ := hv
 refine ⟨_, rfl, k₁, rfl, kb.1, kb.2, for_range (lo := 0) (n := k₁.toNat) (fun i σ H' => ∃ (x : Option V), σ = [some (.ref p), some (.int k₁), some (.int (r.1 ^ i)), some (.int (r.2 ^ i)), x] /\ H' = H) ⟨none, by rw [Int.pow_zero, Int.pow_zero] <;> rfl, rfl⟩ ?_ ?_⟩
 ·rintro i σ H1 hi ⟨x, rfl, rfl⟩
  have b1 := pow_lt98 (i := i) wr.top (by omega)
  have b2 := pow_lt98 (i := i) wr.bot (by omega)
  refine ⟨_, rfl, _, rfl, p, _, _, _, rfl, rfl, hv, rfl, _, _, rfl, rfl, ⟨b1, big_of wr.top (by decide)⟩, ?_⟩
  refine ⟨_, rfl, _, rfl, p, _, _, _, rfl, rfl, hv, rfl, _, _, rfl, rfl, ⟨b2, big_of wr.bot (by decide)⟩, ?_⟩
  exact ⟨_, by rw [Int.pow_succ, Int.pow_succ] <;> rfl, rfl⟩
 ·rintro σ H1 ⟨x, rfl, rfl⟩
  refine ⟨_, rfl, _, rfl, zl2, fun q hq => ?_⟩
  have e := pow_eq_red ⟨wr.pos, wr.cop⟩ k₁.toNat
  refine k _ _ (same_new hq _) ?_
  rw [e]
  exact RV.of upd_same
theorem ok_Q31 (T : Txt K mg t) : FnOk P w K mg base CX0 1 t.a_Q31 t.d_Q31 ["one", "other"] (sp_is_less K) := by
 refine T.F_Q31.ok sc_Q31 (fun vs H Q E h => ?_) (fun cdv A outer s H vs Q E hr h => ?_)
 ·obtain ⟨_, _, _, _, _, _, rfl, _⟩ := h; rfl
 obtain ⟨v, w, r, q, n, m, rfl, hv, hw, wr, wq, hz, k⟩ := h
 refine QSs.ok (qss_one (qs_ret (qe_cmpR op_lt (qe_op op_mulB (qe_ix ix_tup (qv 0) qe_int (fun _ _ => rfl)) (qe_ix ix_tup (qv 1) qe_int (fun _ _ => rfl))) (qe_op op_mulB (qe_ix ix_tup (qv 1) qe_int (fun _ _ => rfl)) (qe_ix ix_tup (qv 0) qe_int (fun _ _ => rfl))) (nomark _)))) ?_
 obtain ⟨p, rfl, hv⟩ := hv
 obtain ⟨p', rfl, hw⟩ := hw
 have c1 := big_of wr.top (show n ≤ 4000 by omega)
 have c2 := big_of wr.bot (show n ≤ 4000 by omega)
 have c3 := big_of wq.top (show m ≤ 4000 by omega)
 have c4 := big_of wq.bot (show m ≤ 4000 by omega)
 refine ⟨_, rfl, p, _, _, _, rfl, rfl, hv, rfl, _, rfl, p', _, _, _, rfl, rfl, hw, rfl, _, _, rfl, rfl, ⟨c1, c4⟩, _, rfl, p', _, _, _, rfl, rfl, hw, rfl, _, rfl, p, _, _, _, rfl, rfl, hv, rfl, _, _, rfl, rfl, ⟨c3, c2⟩, _, _, rfl, rfl, k⟩
theorem ok_Q3 (T : Txt K mg t) : FnOk P w K mg base CX0 4 t.a_Q3 t.d_Q3 ["low", "high"] (sp_slope_between K) := by
 refine T.F_Q3.ok sc_Q3 (fun vs H Q E h => ?_) (fun cdv A outer s H vs Q E hr h => ?_)
 ·obtain ⟨_, _, _, _, rfl, _⟩ := h; rfl
 obtain ⟨v, w, a, b, rfl, ⟨p, x, y, rfl, hS, hx, hy⟩, ⟨p2, x2, y2, rfl, hS2, hx2, hy2⟩, ok, k⟩ := h
 refine QSs.ok (qss_one (qs_ret (qe_call (ok_Q50 T) (hr.mono (by decide)) rfl T.m_Q50 T.F_Q50.kp T.b_Q50 .nil pass0 (qa_cons (qe_call (ok_Q46 T) (hr.mono (by decide)) rfl T.m_Q46 T.F_Q46.kp T.b_Q46 .nil pass0 (qa_cons (qe_ix ix_tup (qv 1) qe_int (fun _ _ => rfl)) (qa_cons (qe_ix ix_tup (qv 0) qe_int (fun _ _ => rfl)) qa_nil star_sub) star_sub)) (qa_cons (qe_call (ok_Q46 T) (hr.mono (by decide)) rfl T.m_Q46 T.F_Q46.kp T.b_Q46 .nil pass0 (qa_cons (qe_ix ix_tup (qv 1) qe_int (fun _ _ => rfl)) (qa_cons (qe_ix ix_tup (qv 0) qe_int (fun _ _ => rfl)) qa_nil star_sub) star_sub)) qa_nil star_call) star_call)))) ?_
 refine ⟨_, rfl, p2, _, _, _, rfl, rfl, hS2, rfl, _, rfl, p, _, _, _, rfl, rfl, hS, rfl, y2, y, b.2, a.2, 197, 197, rfl, hy2, hy, ok.b2, ok.a2, by decide, fun v1 H1 s1 h1 => ?_⟩
 refine ⟨_, rfl, p2, _, _, _, rfl, rfl, Tst.same s1 _ _ hS2, rfl, _, rfl, p, _, _, _, rfl, rfl, Tst.same s1 _ _ hS, rfl, x2, x, b.1, a.1, 98, 98, rfl, hx2.mono (Tst.same s1), hx.mono (Tst.same s1), ok.b1, ok.a1, by decide, fun v2 H2 s2 h2 => ?_⟩
 exact ⟨v1, v2, _, _, 198, 99, rfl, h1.mono (Tst.same s2), h2, ok.w2, ok.w1, by decide, ok.ne, fun v3 H3 s3 h3 => k v3 H3 (s1.trans (s2.trans s3)) h3⟩
theorem ok_Q41 (T : Txt K mg t) : FnOk P w K mg base CX0 1 t.a_Q41 t.d_Q41 ["rule"] (sp_top_of K) := by
 refine T.F_Q41.ok sc_Q41 (fun vs H Q E h => ?_) (fun cdv A outer s H vs Q E hr h => ?_)
 ·obtain ⟨_, _, rfl, _⟩ := h; rfl
 obtain ⟨v, rl, rfl, hv, ok, k1, k2⟩ := h
 refine QSs.ok (qss_cons (qs_if (qt_cmpR op_eq (qe_ix ix_tup (qv 0) qe_int (fun _ _ => rfl)) (qe_glob (v := .str "power") rfl T.m_POWER ⟨_, rfl⟩) (nomark _)) (qss_one (qs_ret qe_non)) qss_nil)
   (qss_one (qs_ret (qe_ix ix_tup (qe_ix ix_tup (qe_ix ix_tup (qv 0) qe_int (fun _ _ => rfl)) (qe_un un_neg qe_int) (fun _ _ => rfl)) qe_int (fun _ _ => rfl))))) ?_
 cases rl with
 | pow kk =>
  obtain ⟨p, rfl, hS⟩ := hv
  exact ⟨_, rfl, p, _, _, _, rfl, rfl, hS, rfl, rfl, _, rfl, iteD1 rfl (k1 kk rfl)⟩
 | tab rows =>
  obtain ⟨p, q, xs, rfl, hS, hq, al⟩ := hv
  have ok' : RowsOk rows := ok
  have n2 := ok'.n2
  obtain ⟨xl, w, hat, hw, ⟨pw, y1, y2, rfl, hSw, h1, h2⟩, _⟩ := al.last (n := rows.length - 1) (by omega)
  refine ⟨_, rfl, p, _, _, _, rfl, rfl, hS, rfl, rfl, _, rfl, iteD0 (by decide) ?_⟩
  refine ⟨_, rfl, p, _, _, _, rfl, rfl, hS, rfl, _, rfl, q, _, _, _, rfl, rfl, hq, hat, pw, _, _, _, rfl, rfl, hSw, rfl, k2 rows _ rfl ?_⟩
  unfold topM
  rw [getD_at hw]
  exact h1
theorem ok_Q11 (T : Txt K mg t) : FnOk P w K mg base CX0 2 t.a_Q11 t.d_Q11 ["rule", "speed"] (sp_is_beyond K) := by
 refine T.F_Q11.ok sc_Q11 (fun vs H Q E h => ?_) (fun cdv A outer s H vs Q E hr h => ?_)
 ·obtain ⟨_, _, _, _, rfl, _⟩ := h; rfl
 obtain ⟨v, w, rl, s, rfl, hv, ok, hw, ws, k⟩ := h
 refine QSs.ok (qss_cons (qsA 2 sc_Q11.nd (qe_call (ok_Q41 T) (hr.mono (by decide)) rfl T.m_Q41 T.F_Q41.kp T.b_Q41 .nil pass0 (qa_cons (qv 0) qa_nil star_name)))
   (qss_one (qs_ret (qe_and (qe_cmpR op_notN (qv 2) qe_non (nomark _)) (qe_one (qe_call (ok_Q31 T) (hr.mono (by decide)) rfl T.m_Q31 T.F_Q31.kp T.b_Q31 .nil pass0 (qa_cons (qv 2) (qa_cons (qv 1) qa_nil star_name) star_name))))))) ?_
 refine ⟨_, rfl, v, rl, rfl, hv, ok, ?_, ?_⟩
 ·rintro kk rfl
  exact ⟨_, rfl, rfl, _, rfl, iteNS rfl k⟩
 ·rintro rows x rfl hx
  obtain ⟨px, rfl, _⟩ := id hx
  have ok' : RowsOk rows := ok
  obtain ⟨r, e, er⟩ := last_at ok'
  have wt : Wf 98 (topM rows) := by rw [er]; exact wfS (ok'.sp r (List.mem_of_getElem? e))
  refine ⟨_, rfl, rfl, _, rfl, iteN1 (fun z => nomatch z) ?_⟩
  exact ⟨_, rfl, _, rfl, .ref px, w, topM rows, s, 98, 98, rfl, hx, hw, wt, ws, by decide, k⟩
theorem ok_Q23 (T : Txt K mg t) : FnOk P w K mg base CX0 2 t.a_Q23 t.d_Q23 ["rows", "speed"] (sp_place_of K) := by
 refine T.F_Q23.ok sc_Q23 (fun vs H Q E h => ?_) (fun cdv A outer s H vs Q E hr h => ?_)
 ·obtain ⟨_, _, _, _, _, rfl, _⟩ := h; rfl
 obtain ⟨q, v, xs, rows, s, rfl, hq, al, ok, hv, hs, hb, k⟩ := h
 refine QSs.ok (qss_cons (qsA 2 sc_Q23.nd qe_int)
   (qss_cons (qs_while PassesOwn.never (qt_val (qe_call (ok_Q31 T) (hr.mono (by decide)) rfl T.m_Q31 T.F_Q31.kp T.b_Q31 .nil pass0 (qa_cons (qe_ix ix_tup (qe_ix ix_tup (qv 0) (qv 2) (fun _ _ => rfl)) qe_int (fun _ _ => rfl)) (qa_cons (qv 1) qa_nil star_name) star_sub)))
   (qss_one (qs_aug (i := 2) sc_Q23.nd rfl (by first | exact Or.inl rfl | exact Or.inr rfl) qe_int ip_add)))
   (qss_one (qs_ret (qv 2))))) ?_
 have pl := ok.p_lt hs.bq.pos hb
 refine ⟨fun m σ H' => ∃ i : Nat, σ = [some (.ref q), some v, some (.int (i : Int))] /\ H' = H /\ i ≤ pOf rows s /\ m = pOf rows s - i, ⟨_, 0, rfl, rfl, Nat.zero_le _, rfl⟩, ?_⟩
 rintro m σ H' ⟨i, rfl, rfl, hi, rfl⟩
 have hx0 : xs[i]? = some (xs[i]'(by rw [al.len]; omega)) := List.getElem?_eq_getElem _
 obtain ⟨r, hr, hrv⟩ := al.at hx0
 obtain ⟨pa, x, y, ex, hS, hx, hy⟩ := id hrv
 have mr := List.mem_of_getElem? hr
 refine ⟨_, rfl, _, rfl, q, _, _, _, rfl, rfl, hq, atI_nat hx0, pa, _, _, _, ex, rfl, hS, rfl, _, rfl, x, v, r.1, s, 98, 98, rfl, hx, hv, wfS (ok.sp r mr), hs.wf, by decide, _, rfl, ?_⟩
 rw [cnt_p hs.bq.pos ok.inc ok.allP hr]
 by_cases c : i < pOf rows s
 ·refine iteD1 c ?_
  refine ⟨_, fun _ _ z => z, ?_⟩
  exact ⟨_, rfl, _, _, rfl, rfl, _, (by omega), i + 1, rfl, rfl, c, rfl⟩
 ·refine iteD0 c ?_
  have e : i = pOf rows s := by omega
  subst e
  exact ⟨_, rfl, k⟩
theorem ok_Q4 (T : Txt K mg t) : FnOk P w K mg base CX0 5 t.a_Q4 t.d_Q4 ["rows", "speed"] (sp_table_slopes K) := by
 refine T.F_Q4.ok sc_Q4 (fun vs H Q E h => ?_) (fun cdv A outer s H vs Q E hr h => ?_)
 ·obtain ⟨_, _, _, _, _, rfl, _⟩ := h; rfl
 obtain ⟨q, v, xs, rows, s, rfl, hq, al, ok, hv, hs, hb, k⟩ := h
 refine QSs.ok (qss_cons (qsA 2 sc_Q4.nd (qe_call (ok_Q23 T) (hr.mono (by decide)) rfl T.m_Q23 T.F_Q23.kp T.b_Q23 .nil pass0 (qa_cons (qv 0) (qa_cons (qv 1) qa_nil star_name) star_name)))
   (qss_cons (qsA 3 sc_Q4.nd (qe_glob (v := .ref t.c_NOUGHT) rfl T.m_NOUGHT rfl))
   (qss_cons (qs_if (qt_cmpR op_gt (qv 2) qe_int (nomark _)) (qss_one (qsA 3 sc_Q4.nd (qe_call (ok_Q3 T) (hr.mono (by decide)) rfl T.m_Q3 T.F_Q3.kp T.b_Q3 .nil pass0 (qa_cons (qe_ix ix_tup (qv 0) (qe_op op_sub (qv 2) qe_int) (fun _ _ => rfl)) (qa_cons (qe_ix ix_tup (qv 0) (qv 2) (fun _ _ => rfl)) qa_nil star_sub) star_sub)))) qss_nil)
   (qss_cons (qs_if (qt_val (qe_call (ok_Q31 T) (hr.mono (by decide)) rfl T.m_Q31 T.F_Q31.kp T.b_Q31 .nil pass0 (qa_cons (qv 1) (qa_cons (qe_ix ix_tup (qe_ix ix_tup (qv 0) (qv 2) (fun _ _ => rfl)) qe_int (fun _ _ => rfl)) qa_nil star_sub) star_name))) (qss_one (qs_ret (qe_tup (qa_cons (qv 3) (qa_cons (qv 3) qa_nil star_name) star_name)))) qss_nil)
   (qss_cons (qs_if (qt_cmpR op_eq (qv 2) (qe_op op_sub (qe_callB call_len_seq (by rfl) T.z_len PySem.boot_len (qa_cons (qv 0) qa_nil star_name)) qe_int) (nomark _)) (qss_one (qs_ret (qe_tup (qa_cons (qv 3) (qa_cons qe_non qa_nil star_con) star_name)))) qss_nil)
   (qss_one (qs_ret (qe_tup (qa_cons (qv 3) (qa_cons (qe_call (ok_Q3 T) (hr.mono (by decide)) rfl T.m_Q3 T.F_Q3.kp T.b_Q3 .nil pass0 (qa_cons (qe_ix ix_tup (qv 0) (qv 2) (fun _ _ => rfl)) (qa_cons (qe_ix ix_tup (qv 0) (qe_op op_add (qv 2) qe_int) (fun _ _ => rfl)) qa_nil star_sub) star_sub)) qa_nil star_call) star_name))))))))) ?_
 have pl := ok.p_lt hs.bq.pos hb
 have hx0 : xs[pOf rows s]? = some (xs[pOf rows s]'(by rw [al.len]; exact pl)) := List.getElem?_eq_getElem _
 obtain ⟨r, hr, hrv⟩ := al.at hx0
 obtain ⟨pa, x, y, ex, hS, hx, hy⟩ := id hrv
 have mr := List.mem_of_getElem? hr
 have pq := ok.pq hs.bq.pos hs.nn pl hr
 refine ⟨_, rfl, _, rfl, q, v, xs, rows, s, rfl, hq, al, ok, hv, hs, hb, ?_⟩
 refine ⟨_, rfl, _, _, rfl, rfl, _, rfl, ?_⟩
 by_cases c0 : 0 < pOf rows s
 ·refine iteD1 (by omega) ?_
  have hw0 : xs[pOf rows s - 1]? = some (xs[pOf rows s - 1]'(by rw [al.len]; omega)) := List.getElem?_eq_getElem _
  obtain ⟨r0, hr0, hrv0⟩ := al.at hw0
  have hr' : rows[pOf rows s - 1 + 1]? = some r := by rw [Nat.sub_add_cancel c0]; exact hr
  refine ⟨_, rfl, _, rfl, _, _, rfl, rfl, q, _, _, _, rfl, rfl, hq, (by rw [show ((pOf rows s : Int) - 1) = ((pOf rows s - 1 : Nat) : Int) by omega]; exact atI_nat hw0), _, rfl, _, rfl, q, _, _, _, rfl, rfl, hq, atI_nat hx0, _, _, r0, r, rfl, hrv0, hrv, slOk ok (by omega) hr0 hr, fun v1 H1 s1 h1 => ?_⟩
  have el : leftT rows s = slopeR r0 r := by
   unfold leftT
   rw [if_neg (by omega), slp_at hr0 hr']
  rw [← el] at h1
  refine ⟨_, rfl, _, rfl, _, rfl, q, _, _, _, rfl, rfl, Tst.same s1 _ _ hq, atI_nat hx0, pa, _, _, _, ex, rfl, Tst.same s1 _ _ hS, rfl, v, x, s, r.1, 98, 98, rfl, hv.mono (Tst.same s1), hx.mono (Tst.same s1), hs.wf, wfS (ok.sp r mr), by decide, _, rfl, ?_⟩
  cases c : lessR s r.1 with
  | true =>
   refine iteT ?_
   refine ⟨_, rfl, _, rfl, zl2, fun p hp => ?_⟩
   obtain ⟨pp, eq⟩ := pq.1 c
   have e1 : rightT rows s = some (leftT rows s) := by
    unfold rightT leftT
    rw [eq, if_pos pl, if_neg (by omega)]
   refine k _ _ (s1.trans (same_new hp _)) ⟨p, _, _, rfl, SqT.of upd_same, h1.mono (Tst.new hp _), ?_⟩
   show OptV K _ _ (rightT rows s)
   rw [e1]
   exact h1.mono (Tst.new hp _)
  | false =>
   refine iteF ?_
   have eq := pq.2 c
   refine ⟨_, rfl, _, rfl, q, xs, rfl, .inr (Tst.same s1 _ _ hq), _, _, rfl, rfl, rfl, _, rfl, ?_⟩
   by_cases cl : pOf rows s = rows.length - 1
   ·refine iteD1 (by rw [al.len]; congr 1; omega) ?_
    refine ⟨_, rfl, zl2, fun p hp => ?_⟩
    have e1 : rightT rows s = none := by
     unfold rightT
     rw [eq, if_neg (by omega)]
    refine k _ _ (s1.trans (same_new hp _)) ⟨p, _, _, rfl, SqT.of upd_same, h1.mono (Tst.new hp _), ?_⟩
    show OptV K _ _ (rightT rows s)
    rw [e1]
    rfl
   ·refine iteD0 (fun z => cl (by injection z with z; rw [al.len] at z; omega)) ?_
    have hy0 : xs[pOf rows s + 1]? = some (xs[pOf rows s + 1]'(by rw [al.len]; omega)) := List.getElem?_eq_getElem _
    obtain ⟨r2, hr2, hrv2⟩ := al.at hy0
    refine ⟨_, rfl, _, rfl, _, rfl, q, _, _, _, rfl, rfl, Tst.same s1 _ _ hq, atI_nat hx0, _, rfl, _, rfl, _, _, rfl, rfl, q, _, _, _, rfl, rfl, Tst.same s1 _ _ hq, atI_nat (j := pOf rows s + 1) hy0, _, _, r, r2, rfl, hrv.mono (Tst.same s1), hrv2.mono (Tst.same s1), slOk ok (Nat.lt_succ_self _) hr hr2, fun v3 H3 s3 h3 => ?_⟩
    refine ⟨zl2, fun p hp => ?_⟩
    have e1 : rightT rows s = some (slopeR r r2) := by
     unfold rightT
     rw [eq, if_pos (by omega), Nat.add_sub_cancel, slp_at hr hr2]
    refine k _ _ ((s1.trans s3).trans (same_new hp _)) ⟨p, _, _, rfl, SqT.of upd_same, (h1.mono (Tst.same s3)).mono (Tst.new hp _), ?_⟩
    show OptV K _ _ (rightT rows s)
    rw [e1]
    exact h3.mono (Tst.new hp _)
 ·refine iteD0 (by omega) ?_
  have s1 := Same.refl H
  have h1 : RV K H (.ref t.c_NOUGHT) (leftT rows s) := by
   unfold leftT
   rw [if_pos (by omega)]
   exact ⟨_, rfl, T.q_NOUGHT H⟩
  refine ⟨_, rfl, _, rfl, _, rfl, q, _, _, _, rfl, rfl, Tst.same s1 _ _ hq, atI_nat hx0, pa, _, _, _, ex, rfl, Tst.same s1 _ _ hS, rfl, v, x, s, r.1, 98, 98, rfl, hv.mono (Tst.same s1), hx.mono (Tst.same s1), hs.wf, wfS (ok.sp r mr), by decide, _, rfl, ?_⟩
  cases c : lessR s r.1 with
  | true =>
   refine iteT ?_
   refine ⟨_, rfl, _, rfl, zl2, fun p hp => ?_⟩
   obtain ⟨pp, eq⟩ := pq.1 c
   have e1 : rightT rows s = some (leftT rows s) := by
    unfold rightT leftT
    rw [eq, if_pos pl, if_neg (by omega)]
   refine k _ _ (s1.trans (same_new hp _)) ⟨p, _, _, rfl, SqT.of upd_same, h1.mono (Tst.new hp _), ?_⟩
   show OptV K _ _ (rightT rows s)
   rw [e1]
   exact h1.mono (Tst.new hp _)
  | false =>
   refine iteF ?_
   have eq := pq.2 c
   refine ⟨_, rfl, _, rfl, q, xs, rfl, .inr (Tst.same s1 _ _ hq), _, _, rfl, rfl, rfl, _, rfl, ?_⟩
   by_cases cl : pOf rows s = rows.length - 1
   ·refine iteD1 (by rw [al.len]; congr 1; omega) ?_
    refine ⟨_, rfl, zl2, fun p hp => ?_⟩
    have e1 : rightT rows s = none := by
     unfold rightT
     rw [eq, if_neg (by omega)]
    refine k _ _ (s1.trans (same_new hp _)) ⟨p, _, _, rfl, SqT.of upd_same, h1.mono (Tst.new hp _), ?_⟩
    show OptV K _ _ (rightT rows s)
    rw [e1]
    rfl
   ·refine iteD0 (fun z => cl (by injection z with z; rw [al.len] at z; omega)) ?_
    have hy0 : xs[pOf rows s + 1]? = some (xs[pOf rows s + 1]'(by rw [al.len]; omega)) := List.getElem?_eq_getElem _
    obtain ⟨r2, hr2, hrv2⟩ := al.at hy0
    refine ⟨_, rfl, _, rfl, _, rfl, q, _, _, _, rfl, rfl, Tst.same s1 _ _ hq, atI_nat hx0, _, rfl, _, rfl, _, _, rfl, rfl, q, _, _, _, rfl, rfl, Tst.same s1 _ _ hq, atI_nat (j := pOf rows s + 1) hy0, _, _, r, r2, rfl, hrv.mono (Tst.same s1), hrv2.mono (Tst.same s1), slOk ok (Nat.lt_succ_self _) hr hr2, fun v3 H3 s3 h3 => ?_⟩
    refine ⟨zl2, fun p hp => ?_⟩
    have e1 : rightT rows s = some (slopeR r r2) := by
     unfold rightT
     rw [eq, if_pos (by omega), Nat.add_sub_cancel, slp_at hr hr2]
    refine k _ _ ((s1.trans s3).trans (same_new hp _)) ⟨p, _, _, rfl, SqT.of upd_same, (h1.mono (Tst.same s3)).mono (Tst.new hp _), ?_⟩
    show OptV K _ _ (rightT rows s)
    rw [e1]
    exact h3.mono (Tst.new hp _)
theorem ok_Q12 (T : Txt K mg t) : FnOk P w K mg base CX0 6 t.a_Q12 t.d_Q12 ["rule", "speed"] (sp_slopes_at K) := by
 refine T.F_Q12.ok sc_Q12 (fun vs H Q E h => ?_) (fun cdv A outer s H vs Q E hr h => ?_)
 ·obtain ⟨_, _, _, _, rfl, _⟩ := h; rfl
 obtain ⟨v, w, rl, s, rfl, hv, ok, hw, hs, hb, k⟩ := h
 refine QSs.ok (qss_cons (qs_if (qt_cmpR op_eq (qe_ix ix_tup (qv 0) qe_int (fun _ _ => rfl)) (qe_glob (v := .str "table") rfl T.m_TABLE ⟨_, rfl⟩) (nomark _)) (qss_one (qs_ret (qe_call (ok_Q4 T) (hr.mono (by decide)) rfl T.m_Q4 T.F_Q4.kp T.b_Q4 .nil pass0 (qa_cons (qe_ix ix_tup (qv 0) qe_int (fun _ _ => rfl)) (qa_cons (qv 1) qa_nil star_name) star_sub)))) qss_nil)
   (qss_cons (qsA 2 sc_Q12.nd (qe_call (ok_Q47 T) (hr.mono (by decide)) rfl T.m_Q47 T.F_Q47.kp T.b_Q47 .nil pass0 (qa_cons (qe_tup (qa_cons (qe_ix ix_tup (qv 0) qe_int (fun _ _ => rfl)) (qa_cons qe_int qa_nil star_con) star_sub)) (qa_cons (qe_call (ok_Q40 T) (hr.mono (by decide)) rfl T.m_Q40 T.F_Q40.kp T.b_Q40 .nil pass0 (qa_cons (qv 1) (qa_cons (qe_op op_sub (qe_ix ix_tup (qv 0) qe_int (fun _ _ => rfl)) qe_int) qa_nil star_bin) star_name)) qa_nil star_call) star_tup)))
   (qss_one (qs_ret (qe_tup (qa_cons (qv 2) (qa_cons (qv 2) qa_nil star_name) star_name)))))) ?_
 cases rl with
 | pow kk =>
  obtain ⟨p, rfl, hS⟩ := hv
  have ok' : 2 ≤ kk /\ kk ≤ 4 := ok
  refine ⟨_, rfl, p, _, _, _, rfl, rfl, hS, rfl, rfl, _, rfl, iteD0 (by decide) ?_⟩
  refine ⟨_, rfl, p, _, _, _, rfl, rfl, hS, rfl, zl2, fun pk hk => ?_⟩
  have s1 := same_new hk (.tup [.int kk, .int 1])
  refine ⟨_, rfl, _, rfl, p, _, _, _, rfl, rfl, Tst.same s1 _ _ hS, rfl, _, _, rfl, rfl, w, s, kk - 1, rfl, hw.mono (Tst.same s1), hs.wf, by omega, by omega, fun v2 H2 s2 h2 => ?_⟩
  have w2 := pow_wf hs.wf (kk - 1).toNat
  have le : 1 + (kk - 1).toNat * 98 ≤ 300 := by
   have : (kk - 1).toNat ≤ 3 := by omega
   have : (kk - 1).toNat * 98 ≤ 3 * 98 := Nat.mul_le_mul_right _ this
   omega
  refine ⟨.ref pk, v2, (kk, 1), powR s (kk - 1).toNat, 3, 300, rfl, (rv_new (K := K) s1).mono (Tst.same s2), h2, k_wf ok', w2.mono le, by decide, fun p3 h3 => ?_⟩
  refine ⟨_, rfl, _, rfl, zl2, fun p4 h4 => ?_⟩
  have s3 := same_new h3 (.tup [.int (powS kk s).1, .int (powS kk s).2])
  have s4 := same_new h4 (.tup [.ref p3, .ref p3])
  have rv := (rv_new (K := K) s3).mono (Tst.same s4)
  exact k _ _ (((s1.trans s2).trans s3).trans s4) ⟨p4, _, _, rfl, SqT.of upd_same, rv, rv⟩
 | tab rows =>
  obtain ⟨p, q, xs, rfl, hS, hq, al⟩ := hv
  refine ⟨_, rfl, p, _, _, _, rfl, rfl, hS, rfl, rfl, _, rfl, iteD1 (by decide) ?_⟩
  exact ⟨_, rfl, p, _, _, _, rfl, rfl, hS, rfl, _, rfl, q, w, xs, rows, s, rfl, hq, al, ok, hw, hs, hb, k⟩
theorem ok_Q48 (T : Txt K mg t) : FnOk P w K mg base CX0 7 t.a_Q48 t.d_Q48 ["rule", "speed", "slope"] (sp_bears K) := by
 refine T.F_Q48.ok sc_Q48 (fun vs H Q E h => ?_) (fun cdv A outer s H vs Q E hr h => ?_)
 ·obtain ⟨_, _, _, _, _, _, rfl, _⟩ := h; rfl
 obtain ⟨v, w, u, rl, s, gg, rfl, hv, ok, hw, hs, hb, hu, wg, k⟩ := h
 refine QSs.ok (qss_cons (qsA 3 sc_Q48.nd (qe_call (ok_Q12 T) (hr.mono (by decide)) rfl T.m_Q12 T.F_Q12.kp T.b_Q12 .nil pass0 (qa_cons (qv 0) (qa_cons (qv 1) qa_nil star_name) star_name)))
   (qss_cons (qs_if (qt_val (qe_call (ok_Q31 T) (hr.mono (by decide)) rfl T.m_Q31 T.F_Q31.kp T.b_Q31 .nil pass0 (qa_cons (qv 2) (qa_cons (qe_ix ix_tup (qv 3) qe_int (fun _ _ => rfl)) qa_nil star_sub) star_name))) (qss_one (qs_ret qe_bl)) qss_nil)
   (qss_one (qs_ret (qe_or (qe_cmpR op_isN (qe_ix ix_tup (qv 3) qe_int (fun _ _ => rfl)) qe_non (nomark _)) (qe_one (qe_not (qe_call (ok_Q31 T) (hr.mono (by decide)) rfl T.m_Q31 T.F_Q31.kp T.b_Q31 .nil pass0 (qa_cons (qe_ix ix_tup (qv 3) qe_int (fun _ _ => rfl)) (qa_cons (qv 2) qa_nil star_name) star_sub))))))))) ?_
 obtain ⟨wl, wo⟩ := sides_wf ok hs hb
 refine ⟨_, rfl, _, rfl, v, w, rl, s, rfl, hv, ok, hw, hs, hb, fun v1 H1 s1 h1 => ?_⟩
 obtain ⟨p, x, y, rfl, hS, hx, hy⟩ := h1
 have hu1 := hu.mono (Tst.same s1)
 refine ⟨_, rfl, _, rfl, p, _, _, _, rfl, rfl, hS, rfl, u, x, gg, _, 400, 300, rfl, hu1, hx, wg, wl, by decide, _, rfl, ?_⟩
 generalize sidesOf rl s = sd at hx hy k wl wo
 obtain ⟨l, o⟩ := sd
 have kk := k H1 s1
 unfold bearM at kk
 simp only at kk
 cases c : lessR gg l with
 | true =>
  refine iteT ?_
  rw [c] at kk
  exact kk
 | false =>
  refine iteF ?_
  rw [c] at kk
  refine ⟨_, rfl, p, _, _, _, rfl, rfl, hS, rfl, rfl, _, rfl, ?_⟩
  cases o with
  | none =>
   obtain rfl : y = .non := hy
   exact iteD1 rfl kk
  | some z =>
   have hy' : RV K H1 y z := hy
   obtain ⟨py, rfl, _⟩ := id hy'
   refine iteD0 (fun e => nomatch e) ?_
   exact ⟨_, rfl, p, _, _, _, rfl, rfl, hS, rfl, _, rfl, .ref py, u, z, gg, 300, 400, rfl, hy', hu1, wo z rfl, wg, by decide, _, rfl, kk⟩
theorem ok_Q24 (T : Txt K mg t) : FnOk P w K mg base CX0 8 t.a_Q24 t.d_Q24 ["rule", "price"] (sp_is_price K) := by
 refine T.F_Q24.ok sc_Q24 (fun vs H Q E h => ?_) (fun cdv A outer s H vs Q E hr h => ?_)
 ·obtain ⟨_, _, _, _, rfl, _⟩ := h; rfl
 obtain ⟨v, w, rl, d, rfl, hv, ok, hD, pr, hb, sp, k⟩ := h
 refine QSs.ok (qss_cons (qsA 2 sc_Q24.nd (qe_ix ix_tup (qv 1) qe_int (fun _ _ => rfl)))
   (qss_cons (qs_if (qw_pt (qw_or (qt_val (qe_call (ok_Q31 T) (hr.mono (by decide)) rfl T.m_Q31 T.F_Q31.kp T.b_Q31 .nil pass0 (qa_cons (qv 2) (qa_cons (qe_glob (v := .ref t.c_NOUGHT) rfl T.m_NOUGHT rfl) qa_nil star_name) star_name))) (qw_or1 (qt_val (qe_call (ok_Q11 T) (hr.mono (by decide)) rfl T.m_Q11 T.F_Q11.kp T.b_Q11 .nil pass0 (qa_cons (qv 0) (qa_cons (qv 2) qa_nil star_name) star_name)))))) (qss_one (qs_ret qe_bl)) qss_nil)
   (qss_one (qs_ret (qe_call (ok_Q48 T) (hr.mono (by decide)) rfl T.m_Q48 T.F_Q48.kp T.b_Q48 .nil pass0 (qa_cons (qv 0) (qa_cons (qv 2) (qa_cons (qe_ix ix_tup (qv 1) qe_int (fun _ _ => rfl)) qa_nil star_sub) star_name) star_name)))))) ?_
 obtain ⟨x, y, rfl, rx, ry⟩ := pair_two pr
 obtain ⟨p, v1, v2, d1, d2, rfl, e, hS, hx, hy⟩ := hD.two (show tupD 2 (.tuple [x, y]) = true from rfl)
 cases e
 have b1 := ibdAll_mem (show ibdAll [x, y] = true from hb) x List.mem_cons_self
 have b2 := ibdAll_mem (show ibdAll [x, y] = true from hb) y (List.mem_cons_of_mem _ List.mem_cons_self)
 obtain ⟨rv1, w1⟩ := rv_rat hx rx b1
 obtain ⟨rv2, w2⟩ := rv_rat hy ry b2
 have bq : Bq (D0 * 2) N1 (toRD x) := sp pr
 have k' : ∀ H', Same H H' -> Q (.bl (priceM rl (toRD x) (toRD y))) H' := k
 have ws : Wf 98 (toRD x) := bq.wf (by decide) (by decide) (by decide)
 refine ⟨_, rfl, p, _, _, _, rfl, rfl, hS, rfl, ?_⟩
 refine ⟨_, rfl, v1, .ref t.c_NOUGHT, toRD x, (0, 1), 98, 1, rfl, rv1, ⟨_, rfl, T.q_NOUGHT _⟩, ws, zero_wf, by decide, _, rfl, ?_⟩
 cases c0 : lessR (toRD x) (0, 1) with
 | true =>
  refine iteT (iteT ?_)
  have := k' H (Same.refl H)
  rw [show priceM rl (toRD x) (toRD y) = false by unfold priceM; rw [c0]; rfl] at this
  exact this
 | false =>
 refine iteF ?_
 refine ⟨_, rfl, _, rfl, v, v1, rl, toRD x, rfl, hv, ok, rv1, ws, _, rfl, ?_⟩
 cases c1 : beyM rl (toRD x) with
 | true =>
  refine iteT ?_
  have := k' H (Same.refl H)
  rw [show priceM rl (toRD x) (toRD y) = false by unfold priceM; rw [c0, c1]; rfl] at this
  exact this
 | false =>
 refine iteF ?_
 refine ⟨_, rfl, _, rfl, _, rfl, p, _, _, _, rfl, rfl, hS, rfl, v, v1, v2, rl, toRD x, toRD y, rfl, hv, ok, rv1, ⟨bq, nn_less.mp c0⟩, bey_below ok c1, rv2, w2.mono (by decide), fun H' s' => ?_⟩
 have := k' H' s'
 rw [show priceM rl (toRD x) (toRD y) = bearM (sidesOf rl (toRD x)).1 (sidesOf rl (toRD x)).2 (toRD y) by unfold priceM; rw [c0, c1]; rfl] at this
 exact this
theorem ok_Q25 (T : Txt K mg t) : FnOk P w K mg base CX0 1 t.a_Q25 t.d_Q25 ["_law_script"] (sp_law_tape K) := by
 refine T.F_Q25.ok sc_Q25 (fun vs H Q E h => ?_) (fun cdv A outer s H vs Q E hr h => ?_)
 ·obtain ⟨_, _, rfl, _⟩ := h; rfl
 obtain ⟨a, ns, rfl, hS, hl, k⟩ := h
 refine QSs.ok (qss_one (qs_ret (qe_lst (qa_cons (qv 0) (qa_cons qe_int (qa_cons qe_int qa_nil star_con) star_con) star_name)))) ?_
 refine ⟨_, rfl, zl3, fun t ht => ?_⟩
 exact k t _ (same_new ht _) ht (Tape3.mk3 hS hl ht)
theorem ok_Q26 (T : Txt K mg t) : FnOk P w K mg base CX0 1 t.a_Q26 t.d_Q26 ["_law_tape_here", "_law_many"] (sp_law_draw K) := by
 refine T.F_Q26.ok sc_Q26 (fun vs H Q E h => ?_) (fun cdv A outer s H vs Q E hr h => ?_)
 ·obtain ⟨_, _, _, rfl, _⟩ := h; rfl
 obtain ⟨t₁, s₁, m, rfl, tp, hm0, hm1, k⟩ := h
 refine QSs.ok (qss_cons (qs_if (qt_cmpR op_eq (qe_ix ix_list (qv 0) qe_int (fun _ _ => rfl)) qe_int (nomark _)) (qss_cons (qsA 2 sc_Q26.nd (qe_ix ix_list (qv 0) qe_int (fun _ _ => rfl)))
   (qss_cons (qs_asg (qe_op op_add (qv 2) qe_int) (qg_sub (qv 0) qe_int set_list))
   (qss_cons (qsA 3 sc_Q26.nd (qv 2))
   (qss_cons (qs_if (qt_cmpR op_gt (qe_callB call_len_seq (by rfl) T.z_len PySem.boot_len (qa_cons (qe_ix ix_list (qv 0) qe_int (fun _ _ => rfl)) qa_nil star_sub)) qe_int (nomark _)) (qss_one (qsA 3 sc_Q26.nd (qe_ix ix_list (qe_ix ix_list (qv 0) qe_int (fun _ _ => rfl)) (qe_op op_mod (qv 2) (qe_callB call_len_seq (by rfl) T.z_len PySem.boot_len (qa_cons (qe_ix ix_list (qv 0) qe_int (fun _ _ => rfl)) qa_nil star_sub))) (fun _ _ => rfl)))) qss_nil)
   (qss_cons (qs_if (qw_pt (qw_or (qt_cmpR op_lt (qv 3) (qe_op op_pow qe_int qe_int) (nomark _)) (qw_or1 (qt_cmpR op_ge (qv 2) (qe_callB call_len_seq (by rfl) T.z_len PySem.boot_len (qa_cons (qe_ix ix_list (qv 0) qe_int (fun _ _ => rfl)) qa_nil star_sub)) (nomark _))))) (qss_cons (qsA 4 sc_Q26.nd (qe_op op_mod (qe_op op_mul (qe_op op_add (qe_op op_mod (qv 3) qe_int) qe_int) (qe_op op_add qe_int (qe_op op_mul qe_int (qe_op op_mod (qv 2) qe_int)))) qe_int))
   (qss_one (qs_ret (qe_op op_mod (qe_op op_fdiv (qe_op op_mod (qe_op op_mul (qe_op op_add (qv 4) (qe_op op_mul qe_int (qv 2))) qe_int) qe_int) qe_int) (qv 1))))) qss_nil)
   (qss_one (qs_asg (qv 3) (qg_sub (qv 0) qe_int set_list)))))))) qss_nil)
   (qss_cons (qsA 5 sc_Q26.nd (qe_op op_mod (qe_ix ix_list (qv 0) qe_int (fun _ _ => rfl)) (qv 1)))
   (qss_cons (qs_asg (qe_op op_fdiv (qe_ix ix_list (qv 0) qe_int (fun _ _ => rfl)) (qv 1)) (qg_sub (qv 0) qe_int set_list))
   (qss_one (qs_ret (qv 5)))))) ?_
 obtain ⟨ns, p, q, ht, hs, hlen, hp0, hq0⟩ := tp.ex
 have hs' : ∀ o, SqL K (upd H t₁ o) s₁ (ns.map V.int) := fun o => hs.elim (fun z => .inl (rd_upl z.1 z.2.symm)) fun z => z _
 have tap : ∀ (p' q' : Int), 0 ≤ p' -> 0 ≤ q' -> Tape3 K (upd H t₁ (.lst [.ref s₁, .int p', .int q'])) t₁ s₁ := fun p' q' a b => ⟨ns, p', q', upd_same, hs.elim (fun z => .inl ⟨rd_upl z.1 z.2.symm, z.2⟩) fun z => .inr z, hlen, a, b⟩
 have hl : ((ns.map V.int).length : Int) = (ns.length : Int) := by rw [List.length_map]
 refine ⟨_, rfl, t₁, _, _, _, rfl, rfl, SqL.of ht, rfl, rfl, _, rfl, ?_⟩
 by_cases c0 : q = 0
 ·refine iteD1 (by rw [c0]) ?_
  refine ⟨_, rfl, t₁, _, _, _, rfl, rfl, SqL.of ht, rfl, ?_⟩
  refine ⟨_, rfl, _, _, rfl, rfl, _, rfl, t₁, _, _, _, rfl, rfl, ht, rfl, ?_⟩
  refine ⟨_, rfl, ?_⟩
  refine ⟨_, rfl, t₁, _, _, _, rfl, rfl, SqL.of upd_same, rfl, s₁, _, rfl, .inl (hs' _), _, _, rfl, rfl, _, rfl, ?_⟩
  refine ite2 (fun c9 => ?_) (fun _ => ?_)
  ·have c8 : (0 : Int) < (ns.length : Int) := by
    have c7 : (0 : Int) < ((ns.map V.int).length : Int) := of_decide_eq_true c9
    rw [hl] at c7; exact c7
   obtain ⟨z, hz⟩ := pickI (ns := ns) (r := p % (ns.length : Int)) (Int.emod_nonneg _ (by omega)) (Int.emod_lt_of_pos _ c8)
   rw [← hl] at hz c8
   refine ⟨_, rfl, t₁, _, _, _, rfl, rfl, SqL.of upd_same, rfl, _, rfl, _, rfl, t₁, _, _, _, rfl, rfl, SqL.of upd_same, rfl, s₁, _, rfl, .inl (hs' _), _, _, rfl, rfl, c8, s₁, _, _, _, rfl, rfl, hs' _, hz, ?_⟩
   refine ⟨_, rfl, _, _, rfl, rfl, ⟨by decide, by decide, by decide⟩, _, _, rfl, rfl, _, rfl, ?_⟩
   refine ite2 (fun _ => ?_) (fun d1 => ?_)
   ·refine iteT ?_
    refine ⟨_, rfl, _, _, rfl, rfl, (by show (0 : Int) < _; decide), _, _, rfl, rfl, _, rfl, _, _, rfl, rfl, (by show (0 : Int) < _; decide), _, _, rfl, rfl, .inl ⟨by omega, by omega⟩, _, _, rfl, rfl, _, _, rfl, rfl, .inl ⟨by omega, by omega⟩, _, _, rfl, rfl, (by show (0 : Int) < _; decide), ?_⟩
    refine ⟨_, rfl, _, rfl, _, _, rfl, rfl, .inl ⟨by omega, by omega⟩, _, _, rfl, rfl, _, _, rfl, rfl, .inr ⟨by decide, by decide⟩, _, _, rfl, rfl, (by show (0 : Int) < _; decide), _, _, rfl, rfl, ⟨by decide, by decide⟩, _, rfl, _, _, rfl, rfl, hm0, ?_⟩
    exact k _ _ (Int.emod_nonneg _ (by omega)) (Int.emod_lt_of_pos _ hm0) (tap (p + 1) q (by omega) hq0)
   ·refine ⟨_, rfl, _, rfl, t₁, _, _, _, rfl, rfl, SqL.of upd_same, rfl, s₁, _, rfl, .inl (hs' _), _, _, rfl, rfl, _, rfl, ?_⟩
    refine ite2 (fun _ => ?_) (fun _ => ?_)
    ·refine ⟨_, rfl, _, _, rfl, rfl, (by show (0 : Int) < _; decide), _, _, rfl, rfl, _, rfl, _, _, rfl, rfl, (by show (0 : Int) < _; decide), _, _, rfl, rfl, .inl ⟨by omega, by omega⟩, _, _, rfl, rfl, _, _, rfl, rfl, .inl ⟨by omega, by omega⟩, _, _, rfl, rfl, (by show (0 : Int) < _; decide), ?_⟩
     refine ⟨_, rfl, _, rfl, _, _, rfl, rfl, .inl ⟨by omega, by omega⟩, _, _, rfl, rfl, _, _, rfl, rfl, .inr ⟨by decide, by decide⟩, _, _, rfl, rfl, (by show (0 : Int) < _; decide), _, _, rfl, rfl, ⟨by decide, by decide⟩, _, rfl, _, _, rfl, rfl, hm0, ?_⟩
     exact k _ _ (Int.emod_nonneg _ (by omega)) (Int.emod_lt_of_pos _ hm0) (tap (p + 1) q (by omega) hq0)
    ·have d2 : (0 : Int) ≤ z := by
      have d3 : 1000000000000000000 ≤ z := by simpa using d1
      omega
     refine ⟨_, rfl, _, rfl, t₁, _, _, _, rfl, rfl, upd_same, rfl, ?_⟩
     rw [upd_upd]
     refine ⟨_, rfl, t₁, _, _, _, rfl, rfl, SqL.of upd_same, rfl, _, rfl, _, _, rfl, rfl, hm0, ?_⟩
     refine ⟨_, rfl, t₁, _, _, _, rfl, rfl, SqL.of upd_same, rfl, _, rfl, _, _, rfl, rfl, ⟨hm0, hm1⟩, _, rfl, t₁, _, _, _, rfl, rfl, upd_same, rfl, ?_⟩
     refine ⟨_, rfl, ?_⟩
     rw [upd_upd]
     exact k _ _ (Int.emod_nonneg _ (by omega)) (Int.emod_lt_of_pos _ hm0) (tap (p + 1) (z / m) (by omega) (Int.ediv_nonneg d2 (by omega)))
  ·obtain ⟨z, hz⟩ : ∃ z, z = p := ⟨_, rfl⟩
   refine ⟨_, rfl, _, _, rfl, rfl, ⟨by decide, by decide, by decide⟩, _, _, rfl, rfl, _, rfl, ?_⟩
   refine ite2 (fun _ => ?_) (fun d1 => ?_)
   ·refine iteT ?_
    refine ⟨_, rfl, _, _, rfl, rfl, (by show (0 : Int) < _; decide), _, _, rfl, rfl, _, rfl, _, _, rfl, rfl, (by show (0 : Int) < _; decide), _, _, rfl, rfl, .inl ⟨by omega, by omega⟩, _, _, rfl, rfl, _, _, rfl, rfl, .inl ⟨by omega, by omega⟩, _, _, rfl, rfl, (by show (0 : Int) < _; decide), ?_⟩
    refine ⟨_, rfl, _, rfl, _, _, rfl, rfl, .inl ⟨by omega, by omega⟩, _, _, rfl, rfl, _, _, rfl, rfl, .inr ⟨by decide, by decide⟩, _, _, rfl, rfl, (by show (0 : Int) < _; decide), _, _, rfl, rfl, ⟨by decide, by decide⟩, _, rfl, _, _, rfl, rfl, hm0, ?_⟩
    exact k _ _ (Int.emod_nonneg _ (by omega)) (Int.emod_lt_of_pos _ hm0) (tap (p + 1) q (by omega) hq0)
   ·refine ⟨_, rfl, _, rfl, t₁, _, _, _, rfl, rfl, SqL.of upd_same, rfl, s₁, _, rfl, .inl (hs' _), _, _, rfl, rfl, _, rfl, ?_⟩
    refine ite2 (fun _ => ?_) (fun _ => ?_)
    ·refine ⟨_, rfl, _, _, rfl, rfl, (by show (0 : Int) < _; decide), _, _, rfl, rfl, _, rfl, _, _, rfl, rfl, (by show (0 : Int) < _; decide), _, _, rfl, rfl, .inl ⟨by omega, by omega⟩, _, _, rfl, rfl, _, _, rfl, rfl, .inl ⟨by omega, by omega⟩, _, _, rfl, rfl, (by show (0 : Int) < _; decide), ?_⟩
     refine ⟨_, rfl, _, rfl, _, _, rfl, rfl, .inl ⟨by omega, by omega⟩, _, _, rfl, rfl, _, _, rfl, rfl, .inr ⟨by decide, by decide⟩, _, _, rfl, rfl, (by show (0 : Int) < _; decide), _, _, rfl, rfl, ⟨by decide, by decide⟩, _, rfl, _, _, rfl, rfl, hm0, ?_⟩
     exact k _ _ (Int.emod_nonneg _ (by omega)) (Int.emod_lt_of_pos _ hm0) (tap (p + 1) q (by omega) hq0)
    ·have d2 : (0 : Int) ≤ p := by
      have d3 : 1000000000000000000 ≤ p := by simpa using d1
      omega
     refine ⟨_, rfl, _, rfl, t₁, _, _, _, rfl, rfl, upd_same, rfl, ?_⟩
     rw [upd_upd]
     refine ⟨_, rfl, t₁, _, _, _, rfl, rfl, SqL.of upd_same, rfl, _, rfl, _, _, rfl, rfl, hm0, ?_⟩
     refine ⟨_, rfl, t₁, _, _, _, rfl, rfl, SqL.of upd_same, rfl, _, rfl, _, _, rfl, rfl, ⟨hm0, hm1⟩, _, rfl, t₁, _, _, _, rfl, rfl, upd_same, rfl, ?_⟩
     refine ⟨_, rfl, ?_⟩
     rw [upd_upd]
     exact k _ _ (Int.emod_nonneg _ (by omega)) (Int.emod_lt_of_pos _ hm0) (tap (p + 1) (p / m) (by omega) (Int.ediv_nonneg d2 (by omega)))
 refine iteD0 (fun z => c0 (by injection z)) ?_
 refine ⟨_, rfl, t₁, _, _, _, rfl, rfl, SqL.of ht, rfl, _, rfl, _, _, rfl, rfl, hm0, ?_⟩
 refine ⟨_, rfl, t₁, _, _, _, rfl, rfl, SqL.of ht, rfl, _, rfl, _, _, rfl, rfl, ⟨hm0, hm1⟩, _, rfl, t₁, _, _, _, rfl, rfl, ht, rfl, ?_⟩
 refine ⟨_, rfl, ?_⟩
 exact k _ _ (Int.emod_nonneg _ (by omega)) (Int.emod_lt_of_pos _ hm0) (tap p (q / m) hp0 (Int.ediv_nonneg hq0 (by omega)))
theorem ok_Q27 (T : Txt K mg t) : FnOk P w K mg base CX0 1 t.a_Q27 t.d_Q27 ["_law_top", "_law_bottom"] (sp_law_frac K) := by
 refine T.F_Q27.ok sc_Q27 (fun vs H Q E h => ?_) (fun cdv A outer s H vs Q E hr h => ?_)
 ·obtain ⟨_, _, rfl, _⟩ := h; rfl
 obtain ⟨a, b, rfl, hb, hz, k⟩ := h
 refine QSs.ok (qss_cons (qs_par (i := 2) (j := 3) rfl sc_Q27.nd rfl rfl (by decide) rfl rfl (qa_cons (qe_callB call_abs (by rfl) T.z_abs PyProof.Rows.boot_abs (qa_cons (qv 0) qa_nil star_name)) (qa_cons (qv 1) qa_nil star_name) star_call) rfl)
   (qss_cons (qs_while PassesOwn.never (qt_cmpR op_ne (qv 3) qe_int (nomark _))
   (qss_one (qs_par (i := 2) (j := 3) rfl sc_Q27.nd rfl rfl (by decide) rfl rfl (qa_cons (qv 3) (qa_cons (qe_op op_mod (qv 2) (qv 3)) qa_nil star_bin) star_name) rfl)))
   (qss_one (qs_ret (qe_tup (qa_cons (qe_op op_quo (qv 0) (qv 2)) (qa_cons (qe_op op_quo (qv 1) (qv 2)) qa_nil star_bin) star_bin)))))) ?_
 have gp := gcd_posR (a := a) hb
 have gb := gcd_lt (a := a) hb hz
 refine ⟨_, rfl, _, rfl, _, rfl, _, _, rfl, ?_⟩
 rw [abs_if]
 refine ⟨fun m σ H' => ∃ (x y : Int), σ = [some (.int a), some (.int b), some (.int x), some (.int y)] /\ H' = H /\ 0 ≤ x /\ 0 ≤ y /\ Int.gcd x y = Int.gcd a b /\ m = y.toNat, ⟨_, _, _, rfl, rfl, by omega, by omega, (by simp [Int.gcd]), rfl⟩, ?_⟩
 rintro m σ H' ⟨x, y, rfl, rfl, hx, hy, hg, rfl⟩
 refine ⟨_, rfl, rfl, _, rfl, ?_⟩
 by_cases c : y = 0
 ·subst c
  refine iteNS rfl ?_
  have e : (x : Int) = (Int.gcd x 0 : Nat) := by simp [Int.gcd]; omega
  rw [hg] at e
  subst e
  exact ⟨_, rfl, _, rfl, _, _, rfl, rfl, ⟨gp, gb⟩, _, rfl, _, rfl, _, _, rfl, rfl, ⟨gp, gb⟩, zl2, fun p hp => k p hp⟩
 ·refine iteN1 (fun z => c (by injection z)) ?_
  refine ⟨_, fun _ _ z => z, ?_⟩
  refine ⟨_, rfl, _, rfl, _, rfl, _, _, rfl, rfl, (by omega), _, _, rfl, ?_⟩
  refine ⟨_, ?_, y, x % y, rfl, rfl, hy, Int.emod_nonneg _ c, ?_, rfl⟩
  ·have := Int.emod_lt_of_pos x (show 0 < y by omega)
   have := Int.emod_nonneg x c
   omega
  ·rw [gcd_turn hx (by omega), hg]
theorem ok_Q32 (T : Txt K mg t) : FnOk P w K mg base CX0 2 t.a_Q32 t.d_Q32 ["_law_one", "_law_other"] (sp_law_add K) := by
 refine T.F_Q32.ok sc_Q32 (fun vs H Q E h => ?_) (fun cdv A outer s H vs Q E hr h => ?_)
 ·obtain ⟨_, _, _, _, _, _, rfl, _⟩ := h; rfl
 obtain ⟨v, w, r, q, n, m, rfl, hv, hw, wr, wq, hz, k⟩ := h
 refine QSs.ok (qss_one (qs_ret (qe_call (ok_Q27 T) (hr.mono (by decide)) rfl T.m_Q27 T.F_Q27.kp T.b_Q27 .nil pass0 (qa_cons (qe_op op_add (qe_op op_mulB (qe_ix ix_tup (qv 0) qe_int (fun _ _ => rfl)) (qe_ix ix_tup (qv 1) qe_int (fun _ _ => rfl))) (qe_op op_mulB (qe_ix ix_tup (qv 1) qe_int (fun _ _ => rfl)) (qe_ix ix_tup (qv 0) qe_int (fun _ _ => rfl)))) (qa_cons (qe_op op_mulB (qe_ix ix_tup (qv 0) qe_int (fun _ _ => rfl)) (qe_ix ix_tup (qv 1) qe_int (fun _ _ => rfl))) qa_nil star_bin) star_bin)))) ?_
 obtain ⟨p, rfl, hv⟩ := hv
 obtain ⟨p', rfl, hw⟩ := hw
 have c1 := big_of wr.top (show n ≤ 4000 by omega)
 have c2 := big_of wr.bot (show n ≤ 4000 by omega)
 have c3 := big_of wq.top (show m ≤ 4000 by omega)
 have c4 := big_of wq.bot (show m ≤ 4000 by omega)
 refine ⟨_, rfl, p, _, _, _, rfl, rfl, hv, rfl, _, rfl, p', _, _, _, rfl, rfl, hw, rfl, _, _, rfl, rfl, ⟨c1, c4⟩, _, rfl, p', _, _, _, rfl, rfl, hw, rfl, _, rfl, p, _, _, _, rfl, rfl, hv, rfl, _, _, rfl, rfl, ⟨c3, c2⟩, _, _, rfl, rfl, _, rfl, p, _, _, _, rfl, rfl, hv, rfl, _, rfl, p', _, _, _, rfl, rfl, hw, rfl, _, _, rfl, rfl, ⟨c2, c4⟩, _, _, rfl, Int.mul_pos wr.pos wq.pos, big_of (mul_lt wr.bot wq.bot) (by omega), k⟩
theorem ok_Q33 (T : Txt K mg t) : FnOk P w K mg base CX0 2 t.a_Q33 t.d_Q33 ["_law_one", "_law_other"] (sp_law_mul K) := by
 refine T.F_Q33.ok sc_Q33 (fun vs H Q E h => ?_) (fun cdv A outer s H vs Q E hr h => ?_)
 ·obtain ⟨_, _, _, _, _, _, rfl, _⟩ := h; rfl
 obtain ⟨v, w, r, q, n, m, rfl, hv, hw, wr, wq, hz, k⟩ := h
 refine QSs.ok (qss_one (qs_ret (qe_call (ok_Q27 T) (hr.mono (by decide)) rfl T.m_Q27 T.F_Q27.kp T.b_Q27 .nil pass0 (qa_cons (qe_op op_mulB (qe_ix ix_tup (qv 0) qe_int (fun _ _ => rfl)) (qe_ix ix_tup (qv 1) qe_int (fun _ _ => rfl))) (qa_cons (qe_op op_mulB (qe_ix ix_tup (qv 0) qe_int (fun _ _ => rfl)) (qe_ix ix_tup (qv 1) qe_int (fun _ _ => rfl))) qa_nil star_bin) star_bin)))) ?_
 obtain ⟨p, rfl, hv⟩ := hv
 obtain ⟨p', rfl, hw⟩ := hw
 have c1 := big_of wr.top (show n ≤ 4000 by omega)
 have c2 := big_of wr.bot (show n ≤ 4000 by omega)
 have c3 := big_of wq.top (show m ≤ 4000 by omega)
 have c4 := big_of wq.bot (show m ≤ 4000 by omega)
 refine ⟨_, rfl, p, _, _, _, rfl, rfl, hv, rfl, _, rfl, p', _, _, _, rfl, rfl, hw, rfl, _, _, rfl, rfl, ⟨c1, c3⟩, _, rfl, p, _, _, _, rfl, rfl, hv, rfl, _, rfl, p', _, _, _, rfl, rfl, hw, rfl, _, _, rfl, rfl, ⟨c2, c4⟩, _, _, rfl, Int.mul_pos wr.pos wq.pos, big_of (mul_lt wr.bot wq.bot) (by omega), k⟩
theorem ok_Q28 (T : Txt K mg t) : FnOk P w K mg base CX0 1 t.a_Q28 t.d_Q28 ["_law_one", "_law_other"] (sp_law_less K) := by
 refine T.F_Q28.ok sc_Q28 (fun vs H Q E h => ?_) (fun cdv A outer s H vs Q E hr h => ?_)
 ·obtain ⟨_, _, _, _, _, _, rfl, _⟩ := h; rfl
 obtain ⟨v, w, r, q, n, m, rfl, hv, hw, wr, wq, hz, k⟩ := h
 refine QSs.ok (qss_one (qs_ret (qe_cmpR op_lt (qe_op op_mulB (qe_ix ix_tup (qv 0) qe_int (fun _ _ => rfl)) (qe_ix ix_tup (qv 1) qe_int (fun _ _ => rfl))) (qe_op op_mulB (qe_ix ix_tup (qv 1) qe_int (fun _ _ => rfl)) (qe_ix ix_tup (qv 0) qe_int (fun _ _ => rfl))) (nomark _)))) ?_
 obtain ⟨p, rfl, hv⟩ := hv
 obtain ⟨p', rfl, hw⟩ := hw
 have c1 := big_of wr.top (show n ≤ 4000 by omega)
 have c2 := big_of wr.bot (show n ≤ 4000 by omega)
 have c3 := big_of wq.top (show m ≤ 4000 by omega)
 have c4 := big_of wq.bot (show m ≤ 4000 by omega)
 refine ⟨_, rfl, p, _, _, _, rfl, rfl, hv, rfl, _, rfl, p', _, _, _, rfl, rfl, hw, rfl, _, _, rfl, rfl, ⟨c1, c4⟩, _, rfl, p', _, _, _, rfl, rfl, hw, rfl, _, rfl, p, _, _, _, rfl, rfl, hv, rfl, _, _, rfl, rfl, ⟨c3, c2⟩, _, _, rfl, rfl, k⟩
theorem ok_Q13 (T : Txt K mg t) : FnOk P w K mg base CX0 2 t.a_Q13 t.d_Q13 ["_law_tape_here", "_law_many"] (sp_law_works K) := by
 refine T.F_Q13.ok sc_Q13 (fun vs H Q E h => ?_) (fun cdv A outer s H vs Q E hr h => ?_)
 ·obtain ⟨_, _, _, rfl, _⟩ := h; rfl
 obtain ⟨t₁, s₁, m, rfl, tp, hm, k⟩ := h
 refine QSs.ok (qss_cons (qsA 2 sc_Q13.nd (qe_ix ix_list (qe_lst (qa_cons qe_int (qa_cons qe_int (qa_cons qe_int (qa_cons qe_int qa_nil star_con) star_con) star_con) star_con)) (qe_call (ok_Q26 T) (hr.mono (by decide)) rfl T.m_Q26 T.F_Q26.kp T.b_Q26 .nil pass0 (qa_cons (qv 0) (qa_cons qe_int qa_nil star_con) star_name)) (fun _ _ => rfl)))
   (qss_cons (qsA 3 sc_Q13.nd (qe_lst qa_nil))
   (qss_cons (qs_for PassesOwn.never rfl (qi_range1 rfl T.z_range (qa_cons (qv 1) qa_nil star_name)) (qg_name (i := 4) sc_Q13.nd rfl (by first | exact Or.inl rfl | exact Or.inr rfl))
   (qss_cons (qsA 5 sc_Q13.nd (qe_call (ok_Q26 T) (hr.mono (by decide)) rfl T.m_Q26 T.F_Q26.kp T.b_Q26 .nil pass0 (qa_cons (qv 0) (qa_cons (qv 2) qa_nil star_name) star_name)))
   (qss_cons (qsA 6 sc_Q13.nd (qe_op op_add (qv 5) (qe_call (ok_Q26 T) (hr.mono (by decide)) rfl T.m_Q26 T.F_Q26.kp T.b_Q26 .nil pass0 (qa_cons (qv 0) (qa_cons (qe_op op_sub (qv 2) (qv 5)) qa_nil star_bin) star_name))))
   (qss_cons (qsA 7 sc_Q13.nd (qe_call (ok_Q26 T) (hr.mono (by decide)) rfl T.m_Q26 T.F_Q26.kp T.b_Q26 .nil pass0 (qa_cons (qv 0) (qa_cons qe_int qa_nil star_con) star_name)))
   (qss_cons (qs_if (qt_cmpR op_eq (qv 7) qe_int (nomark _)) (qss_one (qsA 6 sc_Q13.nd (qv 5))) qss_nil)
   (qss_cons (qs_if (qt_cmpR op_eq (qv 7) qe_int (nomark _)) (qss_one (qs_par (i := 5) (j := 6) rfl sc_Q13.nd rfl rfl (by decide) rfl rfl (qa_cons qe_int (qa_cons (qe_op op_sub (qv 2) qe_int) qa_nil star_bin) star_con) rfl)) qss_nil)
   (qss_cons (qs_if (qw_pt (qw_and (qt_cmpR op_eq (qv 7) qe_int (nomark _)) (qw_and1 (qt_cmpR op_gt (qv 4) qe_int (nomark _))))) (qss_one (qs_asg (qe_slice sl_tupU (qe_ix ix_list (qv 3) (qe_call (ok_Q26 T) (hr.mono (by decide)) rfl T.m_Q26 T.F_Q26.kp T.b_Q26 .nil pass0 (qa_cons (qv 0) (qa_cons (qv 4) qa_nil star_name) star_name)) (fun _ _ => rfl)) qo_none (qo_some qe_int)) (qg_tup rfl (qgs_cons (qg_name (i := 5) sc_Q13.nd rfl (by first | exact Or.inl rfl | exact Or.inr rfl)) (qgs_cons (qg_name (i := 6) sc_Q13.nd rfl (by first | exact Or.inl rfl | exact Or.inr rfl)) qgs_nil))))) qss_nil)
   (qss_one (qs_expr (qe_bm PySem.F.plainAttrs_list PySem.F.slot_list_append PySem.F.type_list_append mt_append (qv 3) (qa_cons (qe_tup (qa_cons (qv 5) (qa_cons (qv 6) (qa_cons (qe_call (ok_Q27 T) (hr.mono (by decide)) rfl T.m_Q27 T.F_Q27.kp T.b_Q27 .nil pass0 (qa_cons (qe_op op_add qe_int (qe_call (ok_Q26 T) (hr.mono (by decide)) rfl T.m_Q26 T.F_Q26.kp T.b_Q26 .nil pass0 (qa_cons (qv 0) (qa_cons qe_int qa_nil star_con) star_name))) (qa_cons (qe_ix ix_list (qe_lst (qa_cons qe_int (qa_cons qe_int (qa_cons qe_int (qa_cons qe_int (qa_cons qe_int (qa_cons qe_int qa_nil star_con) star_con) star_con) star_con) star_con) star_con)) (qe_call (ok_Q26 T) (hr.mono (by decide)) rfl T.m_Q26 T.F_Q26.kp T.b_Q26 .nil pass0 (qa_cons (qv 0) (qa_cons qe_int qa_nil star_con) star_name)) (fun _ _ => rfl)) qa_nil star_sub) star_bin)) qa_nil star_call) star_name) star_name)) qa_nil star_tup)))))))))))
   (qss_one (qs_ret (qe_callTy call_tuple_of (by rfl) T.z_tuple PyProof.Rows.boot_tuple (qa_cons (qv 3) qa_nil star_name))))))) ?_
 obtain ⟨y0, e0⟩ := tp.lst
 refine ⟨zl4, fun le hle => ?_⟩
 have nle : le ≠ t₁ := fun z => by subst z; rw [e0] at hle; cases hle
 have s0 := same_new hle (.lst [.int 3, .int 7, .int 12, .int 24])
 have T0 := tp.new hle (.lst [.int 3, .int 7, .int 12, .int 24])
 have h00 : upd H le (.lst [.int 3, .int 7, .int 12, .int 24]) le = some (.lst [.int 3, .int 7, .int 12, .int 24]) := upd_same
 generalize upd H le (.lst [.int 3, .int 7, .int 12, .int 24]) = H0 at T0 s0 h00 ⊢
 obtain ⟨y00, e00⟩ := T0.lst
 refine ⟨_, rfl, t₁, s₁, 4, rfl, T0, by omega, by omega, fun r0 x0_ a0 b0 T0 => ?_⟩
 have S0 : Step t₁ H (upd H0 t₁ (.lst x0_)) := (Step.same s0 tp.lst).trans (Step.up e00)
 have h01 : upd H0 t₁ (.lst x0_) le = some (.lst [.int 3, .int 7, .int 12, .int 24]) := by rw [upd_ne nle]; exact h00
 generalize upd H0 t₁ (.lst x0_) = HA at T0 S0 h01 ⊢
 rename_i T0'
 obtain ⟨en, hen, en1, en2⟩ : ∃ e : Nat, atI [V.int 3, .int 7, .int 12, .int 24] r0 = some (.int e) /\ 3 ≤ e /\ e ≤ 24 := by
  rcases (show r0 = 0 ∨ r0 = 1 ∨ r0 = 2 ∨ r0 = 3 by omega) with rfl | rfl | rfl | rfl
  ·exact ⟨3, rfl, by decide, by decide⟩
  ·exact ⟨7, rfl, by decide, by decide⟩
  ·exact ⟨12, rfl, by decide, by decide⟩
  ·exact ⟨24, rfl, by decide, by decide⟩
 refine ⟨le, _, _, _, rfl, rfl, SqL.of h01, hen, ?_⟩
 refine ⟨(by show 0 ≤ sizeLine; exact Nat.zero_le _), fun lw hlw0 => ?_⟩
 obtain ⟨yA, eA⟩ := T0.lst
 have nl : lw ≠ t₁ := fun z => by subst z; rw [eA] at hlw0; cases hlw0
 have nls := T0.off hlw0
 refine ⟨_, rfl, m, rfl, by omega, by omega, for_range (lo := 0) (n := (m : Int).toNat) (fun i σ H' => ∃ (xs : List V) (ws : List Wk) (x5 x6 x7 x8 : Option V), σ = [some (.ref t₁), some (.int m), some (.int en), some (.ref lw), x5, x6, x7, x8] /\ Tape3 K H' t₁ s₁ /\ (∀ b o, b ≠ t₁ -> HA b = some o -> H' b = some o) /\ H' lw = some (.lst xs) /\ Als (WkV K H') xs ws /\ ws.length = i /\ ∀ w ∈ ws, WkOk w) ⟨[], [], none, none, none, none, rfl, T0.new hlw0 _, (fun b o _ q => same_new hlw0 _ _ _ q), upd_same, .nil, rfl, fun w hw => by cases hw⟩ ?_ ?_⟩
 ·rintro i σ H1 hi ⟨xs, ws, x5, x6, x7, x8, rfl, T1, kp, hlw, alw, hlen, okw⟩
  rw [Int.zero_add]
  obtain ⟨y1, e1⟩ := T1.lst
  refine ⟨_, rfl, _, rfl, t₁, s₁, en, rfl, T1, by omega, by omega, fun r2 x2_ a2 b2 T2 => ?_⟩
  obtain ⟨ff, rfl⟩ := Int.eq_ofNat_of_zero_le a2
  have S2 : Step t₁ H1 _ := Step.up (ys := x2_) e1
  generalize upd H1 t₁ (.lst x2_) = H2 at T2 S2 ⊢
  obtain ⟨y2, e2⟩ := T2.lst
  refine ⟨_, rfl, _, rfl, _, rfl, _, rfl, _, _, rfl, rfl, t₁, s₁, (en : Int) - ff, rfl, T2, by omega, by omega, fun r3 x3_ a3 b3 T3 => ?_⟩
  have S3 := S2.trans (Step.up (ys := x3_) e2)
  generalize upd H2 t₁ (.lst x3_) = H3 at T3 S3 ⊢
  obtain ⟨y3, e3⟩ := T3.lst
  refine ⟨_, _, rfl, rfl, ?_⟩
  obtain ⟨la, hla⟩ : ∃ la : Nat, (ff : Int) + r3 = (la : Nat) := ⟨((ff : Int) + r3).toNat, by omega⟩
  dsimp only
  rw [hla]
  refine ⟨_, rfl, t₁, s₁, 7, rfl, T3, by omega, by omega, fun r4 x4_ a4 b4 T4 => ?_⟩
  have S4 := S3.trans (Step.up (ys := x4_) e3)
  generalize hHH : upd H3 t₁ (.lst x4_) = HH at T4 S4 ⊢
  have kp4 := S4.keep
  have tst4 : Tst K H1 HH := Tst.step S4
  refine ⟨_, rfl, rfl, _, rfl, ?_⟩
  by_cases c0 : r4 = 0
  ·subst c0
   refine iteD1 rfl ?_
   refine ⟨_, rfl, ?_⟩
   refine ⟨_, rfl, rfl, _, rfl, iteD0 (by intro z; cases z) ?_⟩
   refine ⟨_, rfl, rfl, _, rfl, iteF (iteF ?_)⟩
   obtain ⟨y4, e4⟩ := T4.lst
   have hlw4 : HH lw = some (.lst xs) := kp4 _ _ nl hlw
   refine ⟨_, rfl, .inl ⟨rfl, _, SqL.of hlw4⟩, ?_⟩
   refine ⟨_, rfl, _, rfl, _, rfl, t₁, s₁, 12, rfl, T4, by omega, by omega, fun r5 x5_ a5 b5 T5 => ?_⟩
   have S5 : Step t₁ HH _ := Step.up (ys := x5_) e4
   generalize upd HH t₁ (.lst x5_) = H5 at T5 S5 ⊢
   obtain ⟨y5, e5⟩ := T5.lst
   refine ⟨_, _, rfl, rfl, zl6, fun l6 h6 => ?_⟩
   have S6 := S5.trans (Step.new T5.lst h6 (.lst [.int 1, .int 1, .int 2, .int 3, .int 4, .int 7]))
   have n6 : l6 ≠ t₁ := fun z => by subst z; rw [e5] at h6; cases h6
   have T6' := T5.new h6 (.lst [.int 1, .int 1, .int 2, .int 3, .int 4, .int 7])
   obtain ⟨y6, e6⟩ := T6'.lst
   have h6' : upd H5 l6 (.lst [.int 1, .int 1, .int 2, .int 3, .int 4, .int 7]) l6 = some (.lst [.int 1, .int 1, .int 2, .int 3, .int 4, .int 7]) := upd_same
   generalize upd H5 l6 (.lst [.int 1, .int 1, .int 2, .int 3, .int 4, .int 7]) = H6 at T6' S6 e6 h6' ⊢
   refine ⟨_, rfl, t₁, s₁, 6, rfl, T6', by omega, by omega, fun r7 x7_ a7 b7 T7 => ?_⟩
   have S7 := S6.trans (Step.up (ys := x7_) e6)
   have h67 : upd H6 t₁ (.lst x7_) l6 = some (.lst [.int 1, .int 1, .int 2, .int 3, .int 4, .int 7]) := by rw [upd_ne n6]; exact h6'
   generalize upd H6 t₁ (.lst x7_) = H7 at T7 S7 h67 ⊢
   obtain ⟨bb, hbb, bo1, bo2, bo3⟩ : ∃ b : Int, atI [V.int 1, .int 1, .int 2, .int 3, .int 4, .int 7] r7 = some (.int b) /\ 1 ≤ b /\ b ≤ 7 /\ b ∣ 84 := by
    rcases (show r7 = 0 ∨ r7 = 1 ∨ r7 = 2 ∨ r7 = 3 ∨ r7 = 4 ∨ r7 = 5 by omega) with rfl | rfl | rfl | rfl | rfl | rfl
    ·exact ⟨1, rfl, by decide, by decide, by decide⟩
    ·exact ⟨1, rfl, by decide, by decide, by decide⟩
    ·exact ⟨2, rfl, by decide, by decide, by decide⟩
    ·exact ⟨3, rfl, by decide, by decide, by decide⟩
    ·exact ⟨4, rfl, by decide, by decide, by decide⟩
    ·exact ⟨7, rfl, by decide, by decide, by decide⟩
   refine ⟨l6, _, _, _, rfl, rfl, SqL.of h67, hbb, ?_⟩
   refine ⟨1 + r5, bb, rfl, by omega, big_of (n := 3) (by show bb.natAbs < 8; omega) (by decide), fun pf hpf => ?_⟩
   have am := amOk_mk (a := 1 + r5) (by omega) (by omega) bo1 bo2 bo3
   have s8 := same_new hpf (.tup [.int (mkR (1 + r5) bb).1, .int (mkR (1 + r5) bb).2])
   have rf : RV K _ (.ref pf) (mkR (1 + r5) bb) := ⟨pf, rfl, SqT.of (upd_same (H := H7) (a := pf) (o := .tup [.int (mkR (1 + r5) bb).1, .int (mkR (1 + r5) bb).2]))⟩
   have T8 := T7.same s8
   generalize upd H7 pf (.tup [.int (mkR (1 + r5) bb).1, .int (mkR (1 + r5) bb).2]) = H8 at T8 s8 rf ⊢
   refine ⟨zl3, fun pw hpw => ?_⟩
   have s9 := same_new hpw (.tup [.int (ff : Nat), .int (ff : Nat), .ref pf])
   have hpw9 : SqT K _ pw [.int (ff : Nat), .int (ff : Nat), .ref pf] := SqT.of (upd_same (H := H8) (a := pw) (o := .tup [.int (ff : Nat), .int (ff : Nat), .ref pf]))
   have T9 := T8.same s9
   have rf9 := rf.mono (Tst.same s9)
   generalize upd H8 pw (.tup [.int (ff : Nat), .int (ff : Nat), .ref pf]) = H9 at T9 s9 rf9 hpw9 ⊢
   have S9 := S7.trans (Step.same (s8.trans s9) T7.lst)
   have hlw9 := S9.keep _ _ nl hlw4
   refine ⟨lw, xs, _, rfl, rfl, hlw9, small1000 (by rw [alw.len]; omega), ?_⟩
   have t9 : Tst K H1 (upd H9 lw (.lst (xs ++ [.ref pw]))) := (tst4.trans (Tst.step S9)).trans (Tst.up hlw9 _)
   refine ⟨_, ws ++ [(ff, ff, mkR (1 + r5) bb)], _, _, _, _, rfl, T9.upl nl nls _, fun b o nb q => ?_, upd_same, (alw.mono fun v d m => m.mono t9).snoc ⟨pw, .ref pf, rfl, Tst.up (K := K) hlw9 _ _ _ hpw9, rf9.mono (Tst.up hlw9 _)⟩, by rw [List.length_append, hlen]; rfl, fun z hz => ?_⟩
   ·rw [upd_ne (ne_of_none q hlw0)]
    exact S9.keep _ _ nb (kp4 _ _ nb (kp b o nb q))
   ·rcases List.mem_append.mp hz with h | h
    ·exact okw z h
    ·rw [List.mem_singleton] at h
     subst h
     exact ⟨by show ff ≤ ff; omega, by show ff < 24; omega, am⟩
  refine iteD0 (fun z => c0 (by injection z)) ?_
  refine ⟨_, rfl, rfl, _, rfl, ?_⟩
  by_cases c1 : r4 = 1
  ·subst c1
   refine iteD1 rfl ?_
   refine ⟨_, rfl, _, _, rfl, rfl, _, _, rfl, ?_⟩
   refine ⟨_, rfl, rfl, _, rfl, iteF (iteF ?_)⟩
   dsimp only
   rw [show (en : Int) - 1 = ((en - 1 : Nat) : Int) by omega]
   obtain ⟨y4, e4⟩ := T4.lst
   have hlw4 : HH lw = some (.lst xs) := kp4 _ _ nl hlw
   refine ⟨_, rfl, .inl ⟨rfl, _, SqL.of hlw4⟩, ?_⟩
   refine ⟨_, rfl, _, rfl, _, rfl, t₁, s₁, 12, rfl, T4, by omega, by omega, fun r5 x5_ a5 b5 T5 => ?_⟩
   have S5 : Step t₁ HH _ := Step.up (ys := x5_) e4
   generalize upd HH t₁ (.lst x5_) = H5 at T5 S5 ⊢
   obtain ⟨y5, e5⟩ := T5.lst
   refine ⟨_, _, rfl, rfl, zl6, fun l6 h6 => ?_⟩
   have S6 := S5.trans (Step.new T5.lst h6 (.lst [.int 1, .int 1, .int 2, .int 3, .int 4, .int 7]))
   have n6 : l6 ≠ t₁ := fun z => by subst z; rw [e5] at h6; cases h6
   have T6' := T5.new h6 (.lst [.int 1, .int 1, .int 2, .int 3, .int 4, .int 7])
   obtain ⟨y6, e6⟩ := T6'.lst
   have h6' : upd H5 l6 (.lst [.int 1, .int 1, .int 2, .int 3, .int 4, .int 7]) l6 = some (.lst [.int 1, .int 1, .int 2, .int 3, .int 4, .int 7]) := upd_same
   generalize upd H5 l6 (.lst [.int 1, .int 1, .int 2, .int 3, .int 4, .int 7]) = H6 at T6' S6 e6 h6' ⊢
   refine ⟨_, rfl, t₁, s₁, 6, rfl, T6', by omega, by omega, fun r7 x7_ a7 b7 T7 => ?_⟩
   have S7 := S6.trans (Step.up (ys := x7_) e6)
   have h67 : upd H6 t₁ (.lst x7_) l6 = some (.lst [.int 1, .int 1, .int 2, .int 3, .int 4, .int 7]) := by rw [upd_ne n6]; exact h6'
   generalize upd H6 t₁ (.lst x7_) = H7 at T7 S7 h67 ⊢
   obtain ⟨bb, hbb, bo1, bo2, bo3⟩ : ∃ b : Int, atI [V.int 1, .int 1, .int 2, .int 3, .int 4, .int 7] r7 = some (.int b) /\ 1 ≤ b /\ b ≤ 7 /\ b ∣ 84 := by
    rcases (show r7 = 0 ∨ r7 = 1 ∨ r7 = 2 ∨ r7 = 3 ∨ r7 = 4 ∨ r7 = 5 by omega) with rfl | rfl | rfl | rfl | rfl | rfl
    ·exact ⟨1, rfl, by decide, by decide, by decide⟩
    ·exact ⟨1, rfl, by decide, by decide, by decide⟩
    ·exact ⟨2, rfl, by decide, by decide, by decide⟩
    ·exact ⟨3, rfl, by decide, by decide, by decide⟩
    ·exact ⟨4, rfl, by decide, by decide, by decide⟩
    ·exact ⟨7, rfl, by decide, by decide, by decide⟩
   refine ⟨l6, _, _, _, rfl, rfl, SqL.of h67, hbb, ?_⟩
   refine ⟨1 + r5, bb, rfl, by omega, big_of (n := 3) (by show bb.natAbs < 8; omega) (by decide), fun pf hpf => ?_⟩
   have am := amOk_mk (a := 1 + r5) (by omega) (by omega) bo1 bo2 bo3
   have s8 := same_new hpf (.tup [.int (mkR (1 + r5) bb).1, .int (mkR (1 + r5) bb).2])
   have rf : RV K _ (.ref pf) (mkR (1 + r5) bb) := ⟨pf, rfl, SqT.of (upd_same (H := H7) (a := pf) (o := .tup [.int (mkR (1 + r5) bb).1, .int (mkR (1 + r5) bb).2]))⟩
   have T8 := T7.same s8
   generalize upd H7 pf (.tup [.int (mkR (1 + r5) bb).1, .int (mkR (1 + r5) bb).2]) = H8 at T8 s8 rf ⊢
   refine ⟨zl3, fun pw hpw => ?_⟩
   have s9 := same_new hpw (.tup [.int (0 : Nat), .int ((en - 1) : Nat), .ref pf])
   have hpw9 : SqT K _ pw [.int (0 : Nat), .int ((en - 1) : Nat), .ref pf] := SqT.of (upd_same (H := H8) (a := pw) (o := .tup [.int (0 : Nat), .int ((en - 1) : Nat), .ref pf]))
   have T9 := T8.same s9
   have rf9 := rf.mono (Tst.same s9)
   generalize upd H8 pw (.tup [.int (0 : Nat), .int ((en - 1) : Nat), .ref pf]) = H9 at T9 s9 rf9 hpw9 ⊢
   have S9 := S7.trans (Step.same (s8.trans s9) T7.lst)
   have hlw9 := S9.keep _ _ nl hlw4
   refine ⟨lw, xs, _, rfl, rfl, hlw9, small1000 (by rw [alw.len]; omega), ?_⟩
   have t9 : Tst K H1 (upd H9 lw (.lst (xs ++ [.ref pw]))) := (tst4.trans (Tst.step S9)).trans (Tst.up hlw9 _)
   refine ⟨_, ws ++ [(0, (en - 1), mkR (1 + r5) bb)], _, _, _, _, rfl, T9.upl nl nls _, fun b o nb q => ?_, upd_same, (alw.mono fun v d m => m.mono t9).snoc ⟨pw, .ref pf, rfl, Tst.up (K := K) hlw9 _ _ _ hpw9, rf9.mono (Tst.up hlw9 _)⟩, by rw [List.length_append, hlen]; rfl, fun z hz => ?_⟩
   ·rw [upd_ne (ne_of_none q hlw0)]
    exact S9.keep _ _ nb (kp4 _ _ nb (kp b o nb q))
   ·rcases List.mem_append.mp hz with h | h
    ·exact okw z h
    ·rw [List.mem_singleton] at h
     subst h
     exact ⟨by show 0 ≤ (en - 1); omega, by show (en - 1) < 24; omega, am⟩
  refine iteD0 (fun z => c1 (by injection z)) ?_
  refine ⟨_, rfl, rfl, _, rfl, ?_⟩
  by_cases c2 : r4 = 2
  ·subst c2
   refine iteT ?_
   refine ⟨_, rfl, _, _, rfl, rfl, _, rfl, ?_⟩
   by_cases ci : 0 < i
   ·refine iteD1 (by omega) ?_
    obtain ⟨y4, e4⟩ := T4.lst
    have hlw4 : HH lw = some (.lst xs) := kp4 _ _ nl hlw
    refine ⟨_, rfl, _, rfl, _, rfl, t₁, s₁, i, rfl, T4, by omega, by omega, fun r9 x9_ a9 b9 T9 => ?_⟩
    have S9' := S4.trans (Step.up (ys := x9_) e4)
    have hlwN : upd HH t₁ (.lst x9_) lw = some (.lst xs) := by rw [upd_ne nl]; exact hlw4
    clear hHH kp4 tst4 T4
    generalize upd HH t₁ (.lst x9_) = HN at T9 S9' hlwN ⊢
    obtain ⟨j, rfl⟩ := Int.eq_ofNat_of_zero_le a9
    obtain ⟨xw, hxw⟩ : ∃ xw, xs[j]? = some xw := ⟨_, List.getElem?_eq_getElem (by rw [alw.len]; omega)⟩
    obtain ⟨w, hw, pw0, xa, rfl, hSw, ra⟩ := alw.at hxw
    have okw0 := okw w (List.mem_of_getElem? hw)
    have hSwN := Tst.step (K := K) S9' _ _ hSw
    refine ⟨lw, _, _, _, rfl, rfl, SqL.of hlwN, atI_nat hxw, ?_⟩
    refine ⟨_, rfl, pw0, _, rfl, hSwN, fun pc HQ sQ hpc => ?_⟩
    rw [show cutV [V.int (w.1 : Nat), V.int (w.2.1 : Nat), xa] none (some 2) = [V.int (w.1 : Nat), V.int (w.2.1 : Nat)] from cut_to (n := 2) (by show 2 ≤ 3; decide)] at hpc
    refine ⟨pc, _, rfl, hpc, rfl, _, _, rfl, _, _, rfl, rfl, ?_⟩
    have S4 := S9'.trans (Step.same sQ T9.lst)
    have T4 := T9.same sQ
    have kp4 := S4.keep
    have tst4 : Tst K H1 HQ := Tst.step S4
    have lew := okw0.le
    have ltw := okw0.lt
    obtain ⟨wf, wl, wr⟩ := w
    replace lew : wf ≤ wl := lew
    replace ltw : wl < 24 := ltw
    clear e4 y4 hlw4
    obtain ⟨y4, e4⟩ := T4.lst
    have hlw4 : HQ lw = some (.lst xs) := kp4 _ _ nl hlw
    refine ⟨_, rfl, .inl ⟨rfl, _, SqL.of hlw4⟩, ?_⟩
    refine ⟨_, rfl, _, rfl, _, rfl, t₁, s₁, 12, rfl, T4, by omega, by omega, fun r5 x5_ a5 b5 T5 => ?_⟩
    have S5 : Step t₁ HQ _ := Step.up (ys := x5_) e4
    generalize upd HQ t₁ (.lst x5_) = H5 at T5 S5 ⊢
    obtain ⟨y5, e5⟩ := T5.lst
    refine ⟨_, _, rfl, rfl, zl6, fun l6 h6 => ?_⟩
    have S6 := S5.trans (Step.new T5.lst h6 (.lst [.int 1, .int 1, .int 2, .int 3, .int 4, .int 7]))
    have n6 : l6 ≠ t₁ := fun z => by subst z; rw [e5] at h6; cases h6
    have T6' := T5.new h6 (.lst [.int 1, .int 1, .int 2, .int 3, .int 4, .int 7])
    obtain ⟨y6, e6⟩ := T6'.lst
    have h6' : upd H5 l6 (.lst [.int 1, .int 1, .int 2, .int 3, .int 4, .int 7]) l6 = some (.lst [.int 1, .int 1, .int 2, .int 3, .int 4, .int 7]) := upd_same
    generalize upd H5 l6 (.lst [.int 1, .int 1, .int 2, .int 3, .int 4, .int 7]) = H6 at T6' S6 e6 h6' ⊢
    refine ⟨_, rfl, t₁, s₁, 6, rfl, T6', by omega, by omega, fun r7 x7_ a7 b7 T7 => ?_⟩
    have S7 := S6.trans (Step.up (ys := x7_) e6)
    have h67 : upd H6 t₁ (.lst x7_) l6 = some (.lst [.int 1, .int 1, .int 2, .int 3, .int 4, .int 7]) := by rw [upd_ne n6]; exact h6'
    generalize upd H6 t₁ (.lst x7_) = H7 at T7 S7 h67 ⊢
    obtain ⟨bb, hbb, bo1, bo2, bo3⟩ : ∃ b : Int, atI [V.int 1, .int 1, .int 2, .int 3, .int 4, .int 7] r7 = some (.int b) /\ 1 ≤ b /\ b ≤ 7 /\ b ∣ 84 := by
     rcases (show r7 = 0 ∨ r7 = 1 ∨ r7 = 2 ∨ r7 = 3 ∨ r7 = 4 ∨ r7 = 5 by omega) with rfl | rfl | rfl | rfl | rfl | rfl
     ·exact ⟨1, rfl, by decide, by decide, by decide⟩
     ·exact ⟨1, rfl, by decide, by decide, by decide⟩
     ·exact ⟨2, rfl, by decide, by decide, by decide⟩
     ·exact ⟨3, rfl, by decide, by decide, by decide⟩
     ·exact ⟨4, rfl, by decide, by decide, by decide⟩
     ·exact ⟨7, rfl, by decide, by decide, by decide⟩
    refine ⟨l6, _, _, _, rfl, rfl, SqL.of h67, hbb, ?_⟩
    refine ⟨1 + r5, bb, rfl, by omega, big_of (n := 3) (by show bb.natAbs < 8; omega) (by decide), fun pf hpf => ?_⟩
    have am := amOk_mk (a := 1 + r5) (by omega) (by omega) bo1 bo2 bo3
    have s8 := same_new hpf (.tup [.int (mkR (1 + r5) bb).1, .int (mkR (1 + r5) bb).2])
    have rf : RV K _ (.ref pf) (mkR (1 + r5) bb) := ⟨pf, rfl, SqT.of (upd_same (H := H7) (a := pf) (o := .tup [.int (mkR (1 + r5) bb).1, .int (mkR (1 + r5) bb).2]))⟩
    have T8 := T7.same s8
    generalize upd H7 pf (.tup [.int (mkR (1 + r5) bb).1, .int (mkR (1 + r5) bb).2]) = H8 at T8 s8 rf ⊢
    refine ⟨zl3, fun pw hpw => ?_⟩
    have s9 := same_new hpw (.tup [.int (wf : Nat), .int (wl : Nat), .ref pf])
    have hpw9 : SqT K _ pw [.int (wf : Nat), .int (wl : Nat), .ref pf] := SqT.of (upd_same (H := H8) (a := pw) (o := .tup [.int (wf : Nat), .int (wl : Nat), .ref pf]))
    have T9 := T8.same s9
    have rf9 := rf.mono (Tst.same s9)
    generalize upd H8 pw (.tup [.int (wf : Nat), .int (wl : Nat), .ref pf]) = H9 at T9 s9 rf9 hpw9 ⊢
    have S9 := S7.trans (Step.same (s8.trans s9) T7.lst)
    have hlw9 := S9.keep _ _ nl hlw4
    refine ⟨lw, xs, _, rfl, rfl, hlw9, small1000 (by rw [alw.len]; omega), ?_⟩
    have t9 : Tst K H1 (upd H9 lw (.lst (xs ++ [.ref pw]))) := (tst4.trans (Tst.step S9)).trans (Tst.up hlw9 _)
    refine ⟨_, ws ++ [(wf, wl, mkR (1 + r5) bb)], _, _, _, _, rfl, T9.upl nl nls _, fun b o nb q => ?_, upd_same, (alw.mono fun v d m => m.mono t9).snoc ⟨pw, .ref pf, rfl, Tst.up (K := K) hlw9 _ _ _ hpw9, rf9.mono (Tst.up hlw9 _)⟩, by rw [List.length_append, hlen]; rfl, fun z hz => ?_⟩
    ·rw [upd_ne (ne_of_none q hlw0)]
     exact S9.keep _ _ nb (kp4 _ _ nb (kp b o nb q))
    ·rcases List.mem_append.mp hz with h | h
     ·exact okw z h
     ·rw [List.mem_singleton] at h
      subst h
      exact ⟨by show wf ≤ wl; omega, by show wl < 24; omega, am⟩
   ·refine iteD0 (by omega) ?_
    obtain ⟨y4, e4⟩ := T4.lst
    have hlw4 : HH lw = some (.lst xs) := kp4 _ _ nl hlw
    refine ⟨_, rfl, .inl ⟨rfl, _, SqL.of hlw4⟩, ?_⟩
    refine ⟨_, rfl, _, rfl, _, rfl, t₁, s₁, 12, rfl, T4, by omega, by omega, fun r5 x5_ a5 b5 T5 => ?_⟩
    have S5 : Step t₁ HH _ := Step.up (ys := x5_) e4
    generalize upd HH t₁ (.lst x5_) = H5 at T5 S5 ⊢
    obtain ⟨y5, e5⟩ := T5.lst
    refine ⟨_, _, rfl, rfl, zl6, fun l6 h6 => ?_⟩
    have S6 := S5.trans (Step.new T5.lst h6 (.lst [.int 1, .int 1, .int 2, .int 3, .int 4, .int 7]))
    have n6 : l6 ≠ t₁ := fun z => by subst z; rw [e5] at h6; cases h6
    have T6' := T5.new h6 (.lst [.int 1, .int 1, .int 2, .int 3, .int 4, .int 7])
    obtain ⟨y6, e6⟩ := T6'.lst
    have h6' : upd H5 l6 (.lst [.int 1, .int 1, .int 2, .int 3, .int 4, .int 7]) l6 = some (.lst [.int 1, .int 1, .int 2, .int 3, .int 4, .int 7]) := upd_same
    generalize upd H5 l6 (.lst [.int 1, .int 1, .int 2, .int 3, .int 4, .int 7]) = H6 at T6' S6 e6 h6' ⊢
    refine ⟨_, rfl, t₁, s₁, 6, rfl, T6', by omega, by omega, fun r7 x7_ a7 b7 T7 => ?_⟩
    have S7 := S6.trans (Step.up (ys := x7_) e6)
    have h67 : upd H6 t₁ (.lst x7_) l6 = some (.lst [.int 1, .int 1, .int 2, .int 3, .int 4, .int 7]) := by rw [upd_ne n6]; exact h6'
    generalize upd H6 t₁ (.lst x7_) = H7 at T7 S7 h67 ⊢
    obtain ⟨bb, hbb, bo1, bo2, bo3⟩ : ∃ b : Int, atI [V.int 1, .int 1, .int 2, .int 3, .int 4, .int 7] r7 = some (.int b) /\ 1 ≤ b /\ b ≤ 7 /\ b ∣ 84 := by
     rcases (show r7 = 0 ∨ r7 = 1 ∨ r7 = 2 ∨ r7 = 3 ∨ r7 = 4 ∨ r7 = 5 by omega) with rfl | rfl | rfl | rfl | rfl | rfl
     ·exact ⟨1, rfl, by decide, by decide, by decide⟩
     ·exact ⟨1, rfl, by decide, by decide, by decide⟩
     ·exact ⟨2, rfl, by decide, by decide, by decide⟩
     ·exact ⟨3, rfl, by decide, by decide, by decide⟩
     ·exact ⟨4, rfl, by decide, by decide, by decide⟩
     ·exact ⟨7, rfl, by decide, by decide, by decide⟩
    refine ⟨l6, _, _, _, rfl, rfl, SqL.of h67, hbb, ?_⟩
    refine ⟨1 + r5, bb, rfl, by omega, big_of (n := 3) (by show bb.natAbs < 8; omega) (by decide), fun pf hpf => ?_⟩
    have am := amOk_mk (a := 1 + r5) (by omega) (by omega) bo1 bo2 bo3
    have s8 := same_new hpf (.tup [.int (mkR (1 + r5) bb).1, .int (mkR (1 + r5) bb).2])
    have rf : RV K _ (.ref pf) (mkR (1 + r5) bb) := ⟨pf, rfl, SqT.of (upd_same (H := H7) (a := pf) (o := .tup [.int (mkR (1 + r5) bb).1, .int (mkR (1 + r5) bb).2]))⟩
    have T8 := T7.same s8
    generalize upd H7 pf (.tup [.int (mkR (1 + r5) bb).1, .int (mkR (1 + r5) bb).2]) = H8 at T8 s8 rf ⊢
    refine ⟨zl3, fun pw hpw => ?_⟩
    have s9 := same_new hpw (.tup [.int (ff : Nat), .int (la : Nat), .ref pf])
    have hpw9 : SqT K _ pw [.int (ff : Nat), .int (la : Nat), .ref pf] := SqT.of (upd_same (H := H8) (a := pw) (o := .tup [.int (ff : Nat), .int (la : Nat), .ref pf]))
    have T9 := T8.same s9
    have rf9 := rf.mono (Tst.same s9)
    generalize upd H8 pw (.tup [.int (ff : Nat), .int (la : Nat), .ref pf]) = H9 at T9 s9 rf9 hpw9 ⊢
    have S9 := S7.trans (Step.same (s8.trans s9) T7.lst)
    have hlw9 := S9.keep _ _ nl hlw4
    refine ⟨lw, xs, _, rfl, rfl, hlw9, small1000 (by rw [alw.len]; omega), ?_⟩
    have t9 : Tst K H1 (upd H9 lw (.lst (xs ++ [.ref pw]))) := (tst4.trans (Tst.step S9)).trans (Tst.up hlw9 _)
    refine ⟨_, ws ++ [(ff, la, mkR (1 + r5) bb)], _, _, _, _, rfl, T9.upl nl nls _, fun b o nb q => ?_, upd_same, (alw.mono fun v d m => m.mono t9).snoc ⟨pw, .ref pf, rfl, Tst.up (K := K) hlw9 _ _ _ hpw9, rf9.mono (Tst.up hlw9 _)⟩, by rw [List.length_append, hlen]; rfl, fun z hz => ?_⟩
    ·rw [upd_ne (ne_of_none q hlw0)]
     exact S9.keep _ _ nb (kp4 _ _ nb (kp b o nb q))
    ·rcases List.mem_append.mp hz with h | h
     ·exact okw z h
     ·rw [List.mem_singleton] at h
      subst h
      exact ⟨by show ff ≤ la; omega, by show la < 24; omega, am⟩
  refine iteD0 (fun z => c2 (by injection z)) (iteF ?_)
  obtain ⟨y4, e4⟩ := T4.lst
  have hlw4 : HH lw = some (.lst xs) := kp4 _ _ nl hlw
  refine ⟨_, rfl, .inl ⟨rfl, _, SqL.of hlw4⟩, ?_⟩
  refine ⟨_, rfl, _, rfl, _, rfl, t₁, s₁, 12, rfl, T4, by omega, by omega, fun r5 x5_ a5 b5 T5 => ?_⟩
  have S5 : Step t₁ HH _ := Step.up (ys := x5_) e4
  generalize upd HH t₁ (.lst x5_) = H5 at T5 S5 ⊢
  obtain ⟨y5, e5⟩ := T5.lst
  refine ⟨_, _, rfl, rfl, zl6, fun l6 h6 => ?_⟩
  have S6 := S5.trans (Step.new T5.lst h6 (.lst [.int 1, .int 1, .int 2, .int 3, .int 4, .int 7]))
  have n6 : l6 ≠ t₁ := fun z => by subst z; rw [e5] at h6; cases h6
  have T6' := T5.new h6 (.lst [.int 1, .int 1, .int 2, .int 3, .int 4, .int 7])
  obtain ⟨y6, e6⟩ := T6'.lst
  have h6' : upd H5 l6 (.lst [.int 1, .int 1, .int 2, .int 3, .int 4, .int 7]) l6 = some (.lst [.int 1, .int 1, .int 2, .int 3, .int 4, .int 7]) := upd_same
  generalize upd H5 l6 (.lst [.int 1, .int 1, .int 2, .int 3, .int 4, .int 7]) = H6 at T6' S6 e6 h6' ⊢
  refine ⟨_, rfl, t₁, s₁, 6, rfl, T6', by omega, by omega, fun r7 x7_ a7 b7 T7 => ?_⟩
  have S7 := S6.trans (Step.up (ys := x7_) e6)
  have h67 : upd H6 t₁ (.lst x7_) l6 = some (.lst [.int 1, .int 1, .int 2, .int 3, .int 4, .int 7]) := by rw [upd_ne n6]; exact h6'
  generalize upd H6 t₁ (.lst x7_) = H7 at T7 S7 h67 ⊢
  obtain ⟨bb, hbb, bo1, bo2, bo3⟩ : ∃ b : Int, atI [V.int 1, .int 1, .int 2, .int 3, .int 4, .int 7] r7 = some (.int b) /\ 1 ≤ b /\ b ≤ 7 /\ b ∣ 84 := by
   rcases (show r7 = 0 ∨ r7 = 1 ∨ r7 = 2 ∨ r7 = 3 ∨ r7 = 4 ∨ r7 = 5 by omega) with rfl | rfl | rfl | rfl | rfl | rfl
   ·exact ⟨1, rfl, by decide, by decide, by decide⟩
   ·exact ⟨1, rfl, by decide, by decide, by decide⟩
   ·exact ⟨2, rfl, by decide, by decide, by decide⟩
   ·exact ⟨3, rfl, by decide, by decide, by decide⟩
   ·exact ⟨4, rfl, by decide, by decide, by decide⟩
   ·exact ⟨7, rfl, by decide, by decide, by decide⟩
  refine ⟨l6, _, _, _, rfl, rfl, SqL.of h67, hbb, ?_⟩
  refine ⟨1 + r5, bb, rfl, by omega, big_of (n := 3) (by show bb.natAbs < 8; omega) (by decide), fun pf hpf => ?_⟩
  have am := amOk_mk (a := 1 + r5) (by omega) (by omega) bo1 bo2 bo3
  have s8 := same_new hpf (.tup [.int (mkR (1 + r5) bb).1, .int (mkR (1 + r5) bb).2])
  have rf : RV K _ (.ref pf) (mkR (1 + r5) bb) := ⟨pf, rfl, SqT.of (upd_same (H := H7) (a := pf) (o := .tup [.int (mkR (1 + r5) bb).1, .int (mkR (1 + r5) bb).2]))⟩
  have T8 := T7.same s8
  generalize upd H7 pf (.tup [.int (mkR (1 + r5) bb).1, .int (mkR (1 + r5) bb).2]) = H8 at T8 s8 rf ⊢
  refine ⟨zl3, fun pw hpw => ?_⟩
  have s9 := same_new hpw (.tup [.int (ff : Nat), .int (la : Nat), .ref pf])
  have hpw9 : SqT K _ pw [.int (ff : Nat), .int (la : Nat), .ref pf] := SqT.of (upd_same (H := H8) (a := pw) (o := .tup [.int (ff : Nat), .int (la : Nat), .ref pf]))
  have T9 := T8.same s9
  have rf9 := rf.mono (Tst.same s9)
  generalize upd H8 pw (.tup [.int (ff : Nat), .int (la : Nat), .ref pf]) = H9 at T9 s9 rf9 hpw9 ⊢
  have S9 := S7.trans (Step.same (s8.trans s9) T7.lst)
  have hlw9 := S9.keep _ _ nl hlw4
  refine ⟨lw, xs, _, rfl, rfl, hlw9, small1000 (by rw [alw.len]; omega), ?_⟩
  have t9 : Tst K H1 (upd H9 lw (.lst (xs ++ [.ref pw]))) := (tst4.trans (Tst.step S9)).trans (Tst.up hlw9 _)
  refine ⟨_, ws ++ [(ff, la, mkR (1 + r5) bb)], _, _, _, _, rfl, T9.upl nl nls _, fun b o nb q => ?_, upd_same, (alw.mono fun v d m => m.mono t9).snoc ⟨pw, .ref pf, rfl, Tst.up (K := K) hlw9 _ _ _ hpw9, rf9.mono (Tst.up hlw9 _)⟩, by rw [List.length_append, hlen]; rfl, fun z hz => ?_⟩
  ·rw [upd_ne (ne_of_none q hlw0)]
   exact S9.keep _ _ nb (kp4 _ _ nb (kp b o nb q))
  ·rcases List.mem_append.mp hz with h | h
   ·exact okw z h
   ·rw [List.mem_singleton] at h
    subst h
    exact ⟨by show ff ≤ la; omega, by show la < 24; omega, am⟩
 ·rintro σ H1 ⟨xs, ws, x5, x6, x7, x8, rfl, T1, kp, hlw, alw, hlen, okw⟩
  refine ⟨_, rfl, lw, _, rfl, .inl ⟨SqL.of hlw, fun p hp => ?_⟩⟩
  have s5 := same_new hp (.tup xs)
  exact k (.ref p) ws _ ((S0.trans ⟨kp, T0.lst, T1.lst⟩).trans (Step.same s5 T1.lst)) (T1.same s5) ⟨p, xs, rfl, SqT.of upd_same, alw.mono fun _ _ q => q.mono (Tst.same s5)⟩ (by rw [hlen]; omega) okw
theorem ok_Q8 (T : Txt K mg t) : FnOk P w K mg base CX0 2 t.a_Q8 t.d_Q8 ["_law_some"] (sp_law_rising K) := by
 refine T.F_Q8.ok sc_Q8 (fun vs H Q E h => ?_) (fun cdv A outer s H vs Q E hr h => ?_)
 ·obtain ⟨_, _, _, rfl, _⟩ := h; rfl
 obtain ⟨a, xs, rs, rfl, hS, al0, wf, n20, k⟩ := h
 refine QSs.ok (qss_cons (qsA 1 sc_Q8.nd (qe_lst qa_nil))
   (qss_cons (qs_for PassesOwn.never rfl (qi_list (qv 0)) (qg_name (i := 2) sc_Q8.nd rfl (by first | exact Or.inl rfl | exact Or.inr rfl))
   (qss_cons (qsA 3 sc_Q8.nd (qe_callB call_len_seq (by rfl) T.z_len PySem.boot_len (qa_cons (qe_lcomp (N' := ["_law_other", "_law_one"]) (src := [none, some 2]) rfl (by exact (qi_list (qv 1))) (fun _ _ _ _ _ => (by exact (by exact qg_name (i := 0) (by show List.Nodup (["_law_other", "_law_one"] : List Str); decide +kernel) (by exact rfl) (by first | exact Or.inl rfl | exact Or.inr rfl)))) (fun _ _ _ _ _ => (qts_one (qt_val (by exact (qe_call (ok_Q28 T) (by exact hr.mono (by decide)) (by exact rfl) T.m_Q28 T.F_Q28.kp T.b_Q28 (by exact .nil) (by exact pass0) (qa_cons (by exact (qv 0)) (qa_cons (by exact (qv 1)) qa_nil star_name) star_name)))))) (fun _ _ _ _ _ => (by exact (by exact (qv 0)))) (by exact ⟨rfl, rfl, rfl, rfl, trivial⟩) rfl (by decide +kernel) rfl (by decide +kernel) (by exact cells_of rfl ⟨rfl, trivial⟩)) qa_nil star_lc)))
   (qss_one (qs_if (qt_cmpR (op_notInD hr) (qv 2) (qv 1) (by with_unfolding_all rfl)) (qss_one (qs_expr (qe_bm PySem.F.plainAttrs_list PySem.F.slot_list_insert PySem.F.type_list_insert mt_insert (qv 1) (qa_cons (qv 3) (qa_cons (qv 2) qa_nil star_name) star_name)))) qss_nil))))
   (qss_one (qs_ret (qv 1))))) ?_
 have hxl := al0.len
 refine ⟨(by show 0 ≤ sizeLine; exact Nat.zero_le _), fun l hl => ?_⟩
 have s0 := same_new hl (.lst [])
 have nin : ∀ b o, H b = some o -> b ≠ l := fun b o q => ne_of_none q hl
 refine ⟨_, rfl, a, rfl, ⟨_, s0.seq hS⟩, for_list (K := K) (a := a) (xs := xs) (fun i σ H' => ∃ (x2 x3 : Option V) (ys : List V) (zs : List R), σ = [some (.ref a), some (.ref l), x2, x3] /\ Same H H' /\ H' l = some (.lst ys) /\ Als (RV K H') ys zs /\ zs.length ≤ i /\ Ris zs /\ ∀ z ∈ zs, z ∈ rs) ⟨none, none, [], [], rfl, s0, upd_same, .nil, Nat.le_refl _, List.Pairwise.nil, fun z hz => nomatch hz⟩ (fun i σ H' _ ⟨_, _, _, _, _, s, _⟩ => s.seq hS) ?_ ?_⟩
 ·rintro i x σ H1 hx ⟨x2, x3, ys, zs, rfl, s1, hl1, al1, hlen, ris, sub⟩
  obtain ⟨z, hz0, rvz⟩ := al0.at hx
  have hil : i < xs.length := (List.getElem?_eq_some_iff.mp hx).1
  have mz := List.mem_of_getElem? hz0
  have wz := wf z mz
  have hz := rvz.mono (Tst.same s1)
  refine ⟨_, rfl, l, rfl, ⟨_, SqL.of hl1⟩, fun D hD => comp_filt (K := K) (P := RV K) (p := fun y => lessR y z) (fun _ _ _ _ t p => p.mono t) hD (SqL.of hl1) al1 (by omega) (fun j x d H3 hx hd s3 pd R E kR kE => ?_) fun H3 ds s3 hD3 al3 => ?_⟩
  ·refine ⟨Ext.set rfl, _, rfl, _, rfl, _, _, d, z, 98, 98, rfl, pd, hz.mono (Tst.same s3), wf d (sub d (List.mem_of_getElem? hd)), wz, by decide, _, rfl, ?_⟩
   cases c : lessR d z with
   | true => exact iteT ⟨_, rfl, kR _ (Same.refl _) c⟩
   | false => exact iteF (kE _ (Same.refl _) c)
  refine ⟨D, ds, rfl, .inl (SqL.of hD3), ?_⟩
  have dl : ds.length = (zs.filter fun y => lessR y z).length := al3.len
  have dle : ds.length ≤ zs.length := by rw [dl]; exact List.length_filter_le _ _
  have s13 := s1.trans s3
  have hl3 := s3 _ _ hl1
  have hz3 := hz.mono (Tst.same s3)
  have alz := al1.mono fun _ _ q => q.mono (Tst.same s3)
  obtain ⟨pz, rfl, hSz⟩ := id hz3
  refine ⟨_, rfl, _, rfl, l, ys, zs.map dR, dR z, rfl, SqL.of hl3, alz.deep fun _ _ q => q.deep, lays_dR zs, hz3.deep, dR_lay z, eqv_same z, _, rfl, ?_⟩
  rw [any_dR]
  by_cases cm : z ∈ zs
  ·rw [decide_eq_true cm]
   refine iteF ?_
   exact ⟨_, _, ys, zs, rfl, s13, hl3, alz, by omega, ris, sub⟩
  ·rw [decide_eq_false cm]
   refine iteT ?_
   refine ⟨_, rfl, .inl ⟨rfl, _, SqL.of hl3⟩, _, rfl, _, rfl, l, ys, ds.length, .ref pz, rfl, rfl, hl3, by rw [al1.len]; exact dle, small1000 (by rw [al1.len]; omega), ?_⟩
   have tm := Tst.up (K := K) hl3 (ys.take ds.length ++ .ref pz :: ys.drop ds.length)
   refine ⟨_, _, _, zs.take ds.length ++ z :: zs.drop ds.length, rfl, fun b o q => ?_, upd_same, ?_, ?_, ?_, ?_⟩
   ·rw [upd_ne (nin b o q)]
    exact s13 _ _ q
   ·have alm := alz.mono fun _ _ q => q.mono tm
    exact (alm.take _).join (.cons (hz3.mono tm) (alm.drop _))
   ·rw [List.length_append, List.length_cons, List.length_take, List.length_drop]
    omega
   ·rw [dl]
    exact ris_ins (fun y hy => ⟨(wf y (sub y hy)).pos, (wf y (sub y hy)).cop⟩) ⟨wz.pos, wz.cop⟩ ris cm
   ·intro y hy
    rcases List.mem_append.mp hy with q | q
    ·exact sub y (List.mem_of_mem_take q)
    ·rcases List.mem_cons.mp q with q | q
     ·rw [q]; exact mz
     ·exact sub y (List.mem_of_mem_drop q)
 ·rintro σ H1 ⟨x2, x3, ys, zs, rfl, s1, hl1, al1, hlen, ris, sub⟩
  exact ⟨_, rfl, k l ys zs H1 s1 hl hl1 al1 (by omega) ris sub⟩
theorem ok_Q9 (T : Txt K mg t) : FnOk P w K mg base CX0 3 t.a_Q9 t.d_Q9 ["_law_rule_here", "_law_speed"] (sp_law_slopes K) := by
 refine T.F_Q9.ok sc_Q9 (fun vs H Q E h => ?_) (fun cdv A outer s H vs Q E hr h => ?_)
 ·obtain ⟨_, _, _, _, rfl, _⟩ := h; rfl
 obtain ⟨v, w, rl, s, rfl, hv, ok, hw, hs, hb, k⟩ := h
 refine QSs.ok (qss_cons (qs_if (qt_cmpR op_eq (qe_ix ix_tup (qv 0) qe_int (fun _ _ => rfl)) qe_str (nomark _)) (qss_cons (qsA 2 sc_Q9.nd (qe_tup (qa_cons (qe_ix ix_tup (qv 0) qe_int (fun _ _ => rfl)) (qa_cons qe_int qa_nil star_con) star_sub)))
   (qss_cons (qs_for PassesOwn.never rfl (qi_range1 rfl T.z_range (qa_cons (qe_op op_sub (qe_ix ix_tup (qv 0) qe_int (fun _ _ => rfl)) qe_int) qa_nil star_bin)) (qg_name (i := 3) sc_Q9.nd rfl (by first | exact Or.inl rfl | exact Or.inr rfl))
   (qss_one (qsA 2 sc_Q9.nd (qe_call (ok_Q33 T) (hr.mono (by decide)) rfl T.m_Q33 T.F_Q33.kp T.b_Q33 .nil pass0 (qa_cons (qv 2) (qa_cons (qv 1) qa_nil star_name) star_name)))))
   (qss_one (qs_ret (qe_tup (qa_cons (qv 2) (qa_cons (qv 2) qa_nil star_name) star_name)))))) qss_nil)
   (qss_cons (qsA 4 sc_Q9.nd (qe_lst qa_nil))
   (qss_cons (qs_for PassesOwn.never rfl (qi_zip rfl T.z_zip (qa_cons (qe_ix ix_tup (qv 0) qe_int (fun _ _ => rfl)) (qa_cons (qe_slice sl_tup (qe_ix ix_tup (qv 0) qe_int (fun _ _ => rfl)) (qo_some qe_int) qo_none) qa_nil star_sub) star_sub)) (qg_tup rfl (qgs_cons (qg_name (i := 5) sc_Q9.nd rfl (by first | exact Or.inl rfl | exact Or.inr rfl)) (qgs_cons (qg_name (i := 6) sc_Q9.nd rfl (by first | exact Or.inl rfl | exact Or.inr rfl)) qgs_nil)))
   (qss_cons (qsA 7 sc_Q9.nd (qe_call (ok_Q32 T) (hr.mono (by decide)) rfl T.m_Q32 T.F_Q32.kp T.b_Q32 .nil pass0 (qa_cons (qe_ix ix_tup (qv 6) qe_int (fun _ _ => rfl)) (qa_cons (qe_tup (qa_cons (qe_un un_neg (qe_ix ix_tup (qe_ix ix_tup (qv 5) qe_int (fun _ _ => rfl)) qe_int (fun _ _ => rfl))) (qa_cons (qe_ix ix_tup (qe_ix ix_tup (qv 5) qe_int (fun _ _ => rfl)) qe_int (fun _ _ => rfl)) qa_nil star_sub) star_un)) qa_nil star_tup) star_sub)))
   (qss_cons (qsA 8 sc_Q9.nd (qe_call (ok_Q32 T) (hr.mono (by decide)) rfl T.m_Q32 T.F_Q32.kp T.b_Q32 .nil pass0 (qa_cons (qe_ix ix_tup (qv 6) qe_int (fun _ _ => rfl)) (qa_cons (qe_tup (qa_cons (qe_un un_neg (qe_ix ix_tup (qe_ix ix_tup (qv 5) qe_int (fun _ _ => rfl)) qe_int (fun _ _ => rfl))) (qa_cons (qe_ix ix_tup (qe_ix ix_tup (qv 5) qe_int (fun _ _ => rfl)) qe_int (fun _ _ => rfl)) qa_nil star_sub) star_un)) qa_nil star_tup) star_sub)))
   (qss_one (qs_expr (qe_bm PySem.F.plainAttrs_list PySem.F.slot_list_append PySem.F.type_list_append mt_append (qv 4) (qa_cons (qe_tup (qa_cons (qe_ix ix_tup (qv 5) qe_int (fun _ _ => rfl)) (qa_cons (qe_ix ix_tup (qv 6) qe_int (fun _ _ => rfl)) (qa_cons (qe_call (ok_Q33 T) (hr.mono (by decide)) rfl T.m_Q33 T.F_Q33.kp T.b_Q33 .nil pass0 (qa_cons (qv 8) (qa_cons (qe_tup (qa_cons (qe_ix ix_tup (qv 7) qe_int (fun _ _ => rfl)) (qa_cons (qe_ix ix_tup (qv 7) qe_int (fun _ _ => rfl)) qa_nil star_sub) star_sub)) qa_nil star_tup) star_name)) qa_nil star_call) star_sub) star_sub)) qa_nil star_tup)))))))
   (qss_cons (qs_setC (i := 9) (N' := ["_law_row", "_law_speed"]) (src := [none, some 1]) sc_Q9.nd rfl (by first | exact Or.inl rfl | exact Or.inr rfl) rfl (by exact (qi_list (qv 4))) (fun _ _ _ _ _ => (by exact (by exact qg_name (i := 0) (by show List.Nodup (["_law_row", "_law_speed"] : List Str); decide +kernel) (by exact rfl) (by first | exact Or.inl rfl | exact Or.inr rfl)))) (fun _ _ _ _ _ => (qts_one (qt_val (by exact (qe_call (ok_Q28 T) (by exact hr.mono (by decide)) (by exact rfl) T.m_Q28 T.F_Q28.kp T.b_Q28 (by exact .nil) (by exact pass0) (qa_cons (by exact (qe_ix (ix_tupK (K := K) (by exact rfl)) (by exact (qv 0)) qe_int (by exact fun _ _ => rfl))) (qa_cons (by exact (qv 1)) qa_nil star_name) star_sub)))))) (fun _ _ _ _ _ => (by exact (by exact (qe_ix (ix_tupK (K := K) (by exact rfl)) (by exact (qv 0)) qe_int (by exact fun _ _ => rfl))))) (by exact ⟨rfl, rfl, rfl, rfl, trivial⟩) rfl (by decide +kernel) rfl (by decide +kernel) (by exact cells_of rfl ⟨rfl, trivial⟩))
   (qss_cons (qs_setC (i := 10) (N' := ["_law_row", "_law_speed"]) (src := [none, some 1]) sc_Q9.nd rfl (by first | exact Or.inl rfl | exact Or.inr rfl) rfl (by exact (qi_list (qv 4))) (fun _ _ _ _ _ => (by exact (by exact qg_name (i := 0) (by show List.Nodup (["_law_row", "_law_speed"] : List Str); decide +kernel) (by exact rfl) (by first | exact Or.inl rfl | exact Or.inr rfl)))) (fun _ _ _ _ _ => (qts_one (qt_val (by exact (qe_call (ok_Q28 T) (by exact hr.mono (by decide)) (by exact rfl) T.m_Q28 T.F_Q28.kp T.b_Q28 (by exact .nil) (by exact pass0) (qa_cons (by exact (qv 1)) (qa_cons (by exact (qe_ix (ix_tupK (K := K) (by exact rfl)) (by exact (qv 0)) qe_int (by exact fun _ _ => rfl))) qa_nil star_sub) star_name)))))) (fun _ _ _ _ _ => (by exact (by exact (qe_ix (ix_tupK (K := K) (by exact rfl)) (by exact (qv 0)) qe_int (by exact fun _ _ => rfl))))) (by exact ⟨rfl, rfl, rfl, rfl, trivial⟩) rfl (by decide +kernel) rfl (by decide +kernel) (by exact cells_of rfl ⟨rfl, trivial⟩))
   (qss_one (qs_ret (qe_tup (qa_cons (qe_ifExp (qt_cmpR op_gt (qe_callB call_len_seq (by rfl) T.z_len PySem.boot_len (qa_cons (qv 9) qa_nil star_name)) qe_int (nomark _)) (qe_ix ix_list (qv 9) (qe_un un_neg qe_int) (fun _ _ => rfl)) (qe_tup (qa_cons qe_int (qa_cons qe_int qa_nil star_con) star_con))) (qa_cons (qe_ifExp (qt_cmpR op_gt (qe_callB call_len_seq (by rfl) T.z_len PySem.boot_len (qa_cons (qv 10) qa_nil star_name)) qe_int (nomark _)) (qe_ix ix_list (qv 10) qe_int (fun _ _ => rfl)) qe_non) qa_nil star_if) star_if))))))))) ?_
 cases rl with
 | pow kk =>
  obtain ⟨p, rfl, hS⟩ := hv
  have ok' : 2 ≤ kk /\ kk ≤ 4 := ok
  refine ⟨_, rfl, p, _, _, _, rfl, rfl, hS, rfl, rfl, _, rfl, iteD1 rfl ?_⟩
  refine ⟨_, rfl, p, _, _, _, rfl, rfl, hS, rfl, zl2, fun p1 h1 => ?_⟩
  have s1 := same_new h1 (.tup [.int kk, .int 1])
  refine ⟨_, rfl, p, _, _, _, rfl, rfl, Tst.same s1 _ _ hS, rfl, _, _, rfl, rfl, kk - 1, rfl, by omega, by omega, for_range (lo := 0) (n := (kk - 1).toNat) (fun i σ H' => ∃ (u : V) (x3 : Option V), σ = [some (.ref p), some w, some u, x3, none, none, none, none, none, none, none] /\ Same H H' /\ RV K H' u (powAt kk s i)) ⟨_, none, rfl, s1, by rw [powAt_zero]; exact rv_new (K := K) s1⟩ ?_ ?_⟩
  ·rintro i σ H1 hi ⟨u, x3, rfl, sm, hu⟩
   refine ⟨_, rfl, _, rfl, u, w, powAt kk s i, s, 300, 98, rfl, hu, hw.mono (Tst.same sm), powAt_wf ok' hs.wf (by omega), hs.wf, by decide, fun q g => ?_⟩
   have e := same_new g (.tup [.int (timesR (powAt kk s i) s).1, .int (timesR (powAt kk s i) s).2])
   refine ⟨_, _, rfl, sm.trans e, ?_⟩
   rw [← powAt_succ hs.bq.pos]
   exact rv_new (K := K) e
  ·rintro σ H1 ⟨u, x3, rfl, sm, hu⟩
   rw [powAt_end hs.bq.red] at hu
   refine ⟨_, rfl, _, rfl, zl2, fun q g => ?_⟩
   have e := same_new g (.tup [u, u])
   exact k _ _ (sm.trans e) ⟨q, _, _, rfl, SqT.of upd_same, hu.mono (Tst.same e), hu.mono (Tst.same e)⟩
 | tab rows =>
  have ok' : RowsOk rows := ok
  obtain ⟨p, q, xs, rfl, hS, hq, al⟩ := hv
  have n2 := ok'.n2
  have n12 := ok'.n12
  have hlen : xs.length = rows.length := al.len
  have pl := ok'.p_lt hs.bq.pos hb
  have qp := ok'.q_pos hs.bq.pos hs.nn
  refine ⟨_, rfl, p, _, _, _, rfl, rfl, hS, rfl, rfl, _, rfl, iteD0 (by decide) ?_⟩
  refine ⟨(by show 0 ≤ sizeLine; exact Nat.zero_le _), fun ls hls => ?_⟩
  have m := same_new hls (.lst [])
  refine ⟨_, rfl, p, _, _, _, rfl, rfl, Tst.same m _ _ hS, rfl, _, rfl, p, _, _, _, rfl, rfl, Tst.same m _ _ hS, rfl, _, rfl, q, xs, rfl, Tst.same m _ _ hq, ?_, fun pz hz => ?_⟩
  ·rintro ⟨z, _⟩
   rw [show (some (1 : Int)) = some (((1 : Nat) : Int)) from rfl, HT.sIx_nat, Nat.min_eq_left (by omega)] at z
   omega
  rw [cut_tail (by omega)]
  have m2 := same_new hz (.tup (xs.drop 1))
  have hl0 : (upd (upd H ls (.lst [])) pz (.tup (xs.drop 1))) ls = some (.lst []) := m2 _ _ upd_same
  have hpz0 : SqT K (upd (upd H ls (.lst [])) pz (.tup (xs.drop 1))) pz (xs.drop 1) := SqT.of upd_same
  have sm0 := m.trans m2
  generalize (upd (upd H ls (.lst [])) pz (.tup (xs.drop 1))) = Hz at hl0 hpz0 sm0 ⊢
  refine ⟨q, pz, rfl, ⟨_, Tst.same sm0 _ _ hq⟩, ⟨_, hpz0⟩, for_zip (K := K) (a := q) (b := pz) (xs := xs) (ys := xs.drop 1) (n := xs.length - 1) (fun i σ H' => ∃ (x5 x6 x7 x8 : Option V) (ys : List V), σ = [some (.ref p), some w, none, none, some (.ref ls), x5, x6, x7, x8, none, none] /\ Same H H' /\ SqT K H' pz (xs.drop 1) /\ H' ls = some (.lst ys) /\ Als (TriV K H') ys ((List.range i).map (triM rows))) (by omega) (by rw [List.length_drop]; omega) (.inr (by rw [List.length_drop]; omega)) ⟨none, none, none, none, [], rfl, sm0, hpz0, hl0, .nil⟩ (fun i σ H1 _ ⟨_, _, _, _, _, _, sm, hpz, _⟩ => ⟨Tst.same sm _ _ hq, hpz⟩) ?_ ?_⟩
  ·rintro i x y pt σ H1 hi hx hy ⟨x5, x6, x7, x8, ys, rfl, sm, hpz, hl, alT⟩ hpt
   have e1 := same_new hpt (.tup [x, y])
   obtain ⟨a, ha, rva⟩ := al.at hx
   have hy' : xs[i + 1]? = some y := by rw [List.getElem?_drop, Nat.add_comm] at hy; exact hy
   obtain ⟨b, hb', rvb⟩ := al.at hy'
   have slok := slOk ok' (Nat.lt_succ_self i) ha hb'
   have hlt : lessR a.1 b.1 = true := by
    obtain ⟨h1, e1'⟩ := List.getElem?_eq_some_iff.mp ha
    obtain ⟨h2, e2'⟩ := List.getElem?_eq_some_iff.mp hb'
    have := List.pairwise_iff_getElem.mp ok'.inc i (i + 1) h1 h2 (by omega)
    rw [e1', e2'] at this
    exact this
   have hpos : 0 < (minusR b.1 a.1).1 := by
    have := less_iff.mp hlt
    exact mkR_pos (by omega) (Int.mul_pos slok.b1.pos slok.a1.pos)
   have wneg1 : Wf 98 ((-a.1.1, a.1.2) : R) := ⟨slok.a1.pos, by show (-a.1.1).natAbs < _; rw [Int.natAbs_neg]; exact slok.a1.top, slok.a1.bot, by show Int.gcd (-a.1.1) a.1.2 = 1; rw [Int.neg_gcd]; exact slok.a1.cop⟩
   have wneg2 : Wf 197 ((-a.2.1, a.2.2) : R) := ⟨slok.a2.pos, by show (-a.2.1).natAbs < _; rw [Int.natAbs_neg]; exact slok.a2.top, slok.a2.bot, by show Int.gcd (-a.2.1) a.2.2 = 1; rw [Int.neg_gcd]; exact slok.a2.cop⟩
   have winv : Wf 99 (((minusR b.1 a.1).2, (minusR b.1 a.1).1) : R) := ⟨hpos, slok.w1.bot, slok.w1.top, by show Int.gcd (minusR b.1 a.1).2 (minusR b.1 a.1).1 = 1; rw [Int.gcd_comm]; exact slok.w1.cop⟩
   refine ⟨pt, _, rfl, SqT.of upd_same, rfl, _, _, rfl, _, _, rfl, rfl, ?_⟩
   have t1 := (Tst.same (K := K) sm).trans (Tst.same e1)
   obtain ⟨pa, xa, ya, rfl, hSa, ⟨pxa, rfl, hxa⟩, ⟨pya, rfl, hya⟩⟩ := rva.mono t1
   obtain ⟨pb, xb, yb, rfl, hSb, hxb, hyb⟩ := rvb.mono t1
   have sm1 := sm.trans e1
   have hpz1 := Tst.same (K := K) e1 _ _ hpz
   have hl1 := e1 _ _ hl
   have al1 := alT.mono fun _ _ q => q.mono (Tst.same e1)
   clear rva rvb t1 e1
   generalize upd H1 pt (.tup [.ref pa, .ref pb]) = H2 at sm1 hpz1 hl1 al1 hSa hxa hya hSb hxb hyb ⊢
   refine ⟨_, rfl, pb, _, _, _, rfl, rfl, hSb, rfl, _, rfl, pa, _, _, _, rfl, rfl, hSa, rfl, pxa, _, _, _, rfl, rfl, hxa, rfl, _, rfl, _, rfl, pa, _, _, _, rfl, rfl, hSa, rfl, pxa, _, _, _, rfl, rfl, hxa, rfl, zl2, fun p1 g1 => ?_⟩
   have f1 := same_new g1 (.tup [.int (-a.1.1), .int a.1.2])
   have r1 : RV K (upd H2 p1 (.tup [.int (-a.1.1), .int a.1.2])) (.ref p1) (-a.1.1, a.1.2) := RV.of upd_same
   generalize upd H2 p1 (.tup [.int (-a.1.1), .int a.1.2]) = H3 at f1 r1 ⊢
   refine ⟨xb, .ref p1, b.1, (-a.1.1, a.1.2), 98, 98, rfl, hxb.mono (Tst.same f1), r1, slok.b1, wneg1, by decide, fun p2 g2 => ?_⟩
   rw [plus_neg]
   have f2 := same_new g2 (.tup [.int (minusR b.1 a.1).1, .int (minusR b.1 a.1).2])
   have q2 : SqT K (upd H3 p2 (.tup [.int (minusR b.1 a.1).1, .int (minusR b.1 a.1).2])) p2 [.int (minusR b.1 a.1).1, .int (minusR b.1 a.1).2] := SqT.of upd_same
   generalize upd H3 p2 (.tup [.int (minusR b.1 a.1).1, .int (minusR b.1 a.1).2]) = H4 at f2 q2 ⊢
   have f12 := f1.trans f2
   have t12 := Tst.same (K := K) f12
   refine ⟨_, rfl, pb, _, _, _, rfl, rfl, t12 _ _ hSb, rfl, _, rfl, pa, _, _, _, rfl, rfl, t12 _ _ hSa, rfl, pya, _, _, _, rfl, rfl, t12 _ _ hya, rfl, _, rfl, _, rfl, pa, _, _, _, rfl, rfl, t12 _ _ hSa, rfl, pya, _, _, _, rfl, rfl, t12 _ _ hya, rfl, zl2, fun p3 g3 => ?_⟩
   have f3 := same_new g3 (.tup [.int (-a.2.1), .int a.2.2])
   have r3 : RV K (upd H4 p3 (.tup [.int (-a.2.1), .int a.2.2])) (.ref p3) (-a.2.1, a.2.2) := RV.of upd_same
   generalize upd H4 p3 (.tup [.int (-a.2.1), .int a.2.2]) = H5 at f3 r3 ⊢
   have f13 := f12.trans f3
   refine ⟨yb, .ref p3, b.2, (-a.2.1, a.2.2), 197, 197, rfl, hyb.mono (Tst.same f13), r3, slok.b2, wneg2, by decide, fun p4 g4 => ?_⟩
   rw [plus_neg]
   have f4 := same_new g4 (.tup [.int (minusR b.2 a.2).1, .int (minusR b.2 a.2).2])
   have r4 : RV K (upd H5 p4 (.tup [.int (minusR b.2 a.2).1, .int (minusR b.2 a.2).2])) (.ref p4) (minusR b.2 a.2) := RV.of upd_same
   generalize upd H5 p4 (.tup [.int (minusR b.2 a.2).1, .int (minusR b.2 a.2).2]) = H6 at f4 r4 ⊢
   have f34 := f3.trans f4
   have f14 := f13.trans f4
   have t14 := Tst.same (K := K) f14
   have q2' := Tst.same (K := K) f34 _ _ q2
   refine ⟨_, rfl, .inl ⟨rfl, _, SqL.of (f14 _ _ hl1)⟩, _, rfl, pa, _, _, _, rfl, rfl, t14 _ _ hSa, rfl, _, rfl, pb, _, _, _, rfl, rfl, t14 _ _ hSb, rfl, _, rfl, _, rfl, p2, _, _, _, rfl, rfl, q2', rfl, _, rfl, p2, _, _, _, rfl, rfl, q2', rfl, zl2, fun p5 g5 => ?_⟩
   have f5 := same_new g5 (.tup [.int (minusR b.1 a.1).2, .int (minusR b.1 a.1).1])
   have r5 : RV K (upd H6 p5 (.tup [.int (minusR b.1 a.1).2, .int (minusR b.1 a.1).1])) (.ref p5) ((minusR b.1 a.1).2, (minusR b.1 a.1).1) := RV.of upd_same
   generalize upd H6 p5 (.tup [.int (minusR b.1 a.1).2, .int (minusR b.1 a.1).1]) = H7 at f5 r5 ⊢
   refine ⟨.ref p4, .ref p5, minusR b.2 a.2, ((minusR b.1 a.1).2, (minusR b.1 a.1).1), 198, 99, rfl, r4.mono (Tst.same f5), r5, slok.w2, winv, by decide, fun p6 g6 => ?_⟩
   rw [times_inv slok.w2.pos hpos, show overR (minusR b.2 a.2) (minusR b.1 a.1) = slp rows i from (slp_at ha hb').symm ▸ rfl]
   have f6 := same_new g6 (.tup [.int (slp rows i).1, .int (slp rows i).2])
   have r6 : RV K (upd H7 p6 (.tup [.int (slp rows i).1, .int (slp rows i).2])) (.ref p6) (slp rows i) := RV.of upd_same
   generalize upd H7 p6 (.tup [.int (slp rows i).1, .int (slp rows i).2]) = H8 at f6 r6 ⊢
   refine ⟨zl3, fun p7 g7 => ?_⟩
   have f7 := same_new g7 (.tup [.ref pxa, xb, .ref p6])
   have f17 := ((f14.trans f5).trans f6).trans f7
   have t17 := Tst.same (K := K) f17
   have tri : TriV K (upd H8 p7 (.tup [.ref pxa, xb, .ref p6])) (.ref p7) (triM rows i) := by
    refine ⟨p7, _, _, _, rfl, SqT.of upd_same, ?_, ?_, r6.mono (Tst.same f7)⟩
    ·show RV K _ _ (rows.getD i rowD).1
     rw [getD_at ha]
     exact ⟨pxa, rfl, t17 _ _ hxa⟩
    ·show RV K _ _ (rows.getD (i + 1) rowD).1
     rw [getD_at hb']
     exact hxb.mono t17
   generalize upd H8 p7 (.tup [.ref pxa, xb, .ref p6]) = H9 at f17 t17 tri ⊢
   have lyt := al1.len
   rw [List.length_map, List.length_range] at lyt
   have hl9 := f17 _ _ hl1
   refine ⟨ls, ys, _, rfl, rfl, hl9, small1000 (by omega), ?_⟩
   have tu := Tst.up (K := K) hl9 (ys ++ [.ref p7])
   refine ⟨_, _, _, _, _, rfl, fun b_ o_ q_ => ?_, tu _ _ (t17 _ _ hpz1), upd_same, ?_⟩
   ·rw [upd_ne (ne_of_none q_ hls)]
    exact f17 _ _ (sm1 _ _ q_)
   ·rw [List.range_succ, List.map_append]
    exact (al1.mono fun _ _ q => q.mono (t17.trans tu)).snoc (tri.mono tu)
  ·rintro σ HB ⟨x5, x6, x7, x8, yt, rfl, sm, hpz, hl, alT⟩
   have lyt := alT.len
   rw [List.length_map, List.length_range] at lyt
   have rowW : ∀ i, i < rows.length -> Wf 98 (rows.getD i rowD).1 := fun i hi => by
    rw [getD_at (List.getElem?_eq_getElem hi)]
    exact wfS (ok'.sp _ (List.getElem_mem hi))
   have HW := hw.mono (Tst.same sm)
   refine ⟨_, rfl, ls, rfl, ⟨_, SqL.of hl⟩, fun D1 hD1 => comp_own (J := Itl K ls) (n := rows.length - 1) (fun i ys H' => Same HB H' /\ H' D1 = some (.lst ys) /\ ys.length ≤ i /\ Als (RV K H') ys (((List.range i).filter fun k => lessR (triM rows k).1 s).map (slp rows))) ⟨same_new hD1 _, upd_same, Nat.le_refl _, .nil⟩ (fun i ys H' hi ⟨s', _⟩ => ⟨yt, _, s'.seq (SqL.of hl), List.getElem?_eq_getElem (by omega)⟩) (fun yl HC ⟨sC, hC, _, aC⟩ => ⟨⟨yt, sC.seq (SqL.of hl), by omega⟩, ?_⟩) ?_⟩
   rotate_left
   ·rintro i ys H1 x H2 hi ⟨s', h', l', a'⟩ ⟨rfl, hx⟩ R E kR kE
    have hx' := hx yt (s'.seq (SqL.of hl))
    obtain ⟨w3, hw3, p3, y1, y2, y3, rfl, hS3, v1, v2, v3⟩ := alT.at hx'
    have ew : w3 = triM rows i := by
     rw [List.getElem?_map, List.getElem?_range (by omega)] at hw3
     exact (Option.some.inj hw3).symm
    subst ew
    have ts := Tst.same (K := K) s'
    have wk : Wf 98 (triM rows i).1 := rowW i (by omega)
    have wk1 : Wf 98 (triM rows i).2.1 := rowW (i + 1) (by omega)
    refine ⟨Ext.set rfl, ?_⟩
    refine ⟨_, rfl, p3, _, _, _, rfl, rfl, ts _ _ hS3, rfl, _, rfl, y1, w, (triM rows i).1, s, 98, 98, rfl, v1.mono ts, HW.mono ts, wk, hs.wf, by decide, _, rfl, ?_⟩
    have hs1 : ((List.range (i + 1)).filter fun k => lessR (triM rows k).1 s).map (slp rows) = ((List.range i).filter fun k => lessR (triM rows k).1 s).map (slp rows) ++ (if lessR (triM rows i).1 s = true then [slp rows i] else []) := by
     rw [List.range_succ, List.filter_append, List.map_append]
     congr 1
     by_cases c : lessR (triM rows i).1 s = true
     ·rw [if_pos c, List.filter_cons, if_pos c]; rfl
     ·rw [if_neg c, List.filter_cons, if_neg c]; rfl
    cases c : lessR (triM rows i).1 s with
    | false =>
     refine iteF (kE _ ⟨s', h', by omega, ?_⟩)
     rw [hs1, c, if_neg Bool.false_ne_true, List.append_nil]
     exact a'
    | true =>
     refine iteT ⟨_, rfl, p3, _, _, _, rfl, rfl, ts _ _ hS3, rfl, ?_⟩
     refine kR y3 _ h' (small1000 (by omega)) ⟨fun b o q => ?_, upd_same, by rw [List.length_append]; show ys.length + 1 ≤ i + 1; omega, ?_⟩
     ·rw [upd_ne (ne_of_none q hD1)]
      exact s' _ _ q
     ·rw [hs1, c, if_pos rfl]
      have tu := Tst.up (K := K) h' (ys ++ [y3])
      exact (a'.mono fun _ _ q => q.mono tu).snoc ((v3.mono ts).mono tu)
   have hlC := sC _ _ hl
   have alC := alT.mono fun _ _ q => q.mono (Tst.same sC)
   have HWC := HW.mono (Tst.same sC)
   refine ⟨_, rfl, ls, rfl, ⟨_, SqL.of hlC⟩, fun D2 hD2 => comp_own (J := Itl K ls) (n := rows.length - 1) (fun i ys H' => Same HC H' /\ H' D2 = some (.lst ys) /\ ys.length ≤ i /\ Als (RV K H') ys (((List.range i).filter fun k => lessR s (triM rows k).2.1).map (slp rows))) ⟨same_new hD2 _, upd_same, Nat.le_refl _, .nil⟩ (fun i ys H' hi ⟨s', _⟩ => ⟨yt, _, s'.seq (SqL.of hlC), List.getElem?_eq_getElem (by omega)⟩) (fun yr HE ⟨sE, hE, _, aE⟩ => ⟨⟨yt, sE.seq (SqL.of hlC), by omega⟩, ?_⟩) ?_⟩
   rotate_left
   ·rintro i ys H1 x H2 hi ⟨s', h', l', a'⟩ ⟨rfl, hx⟩ R E kR kE
    have hx' := hx yt (s'.seq (SqL.of hlC))
    obtain ⟨w3, hw3, p3, y1, y2, y3, rfl, hS3, v1, v2, v3⟩ := alC.at hx'
    have ew : w3 = triM rows i := by
     rw [List.getElem?_map, List.getElem?_range (by omega)] at hw3
     exact (Option.some.inj hw3).symm
    subst ew
    have ts := Tst.same (K := K) s'
    have wk : Wf 98 (triM rows i).1 := rowW i (by omega)
    have wk1 : Wf 98 (triM rows i).2.1 := rowW (i + 1) (by omega)
    refine ⟨Ext.set rfl, ?_⟩
    refine ⟨_, rfl, _, rfl, p3, _, _, _, rfl, rfl, ts _ _ hS3, rfl, w, y2, s, (triM rows i).2.1, 98, 98, rfl, HWC.mono ts, v2.mono ts, hs.wf, wk1, by decide, _, rfl, ?_⟩
    have hs1 : ((List.range (i + 1)).filter fun k => lessR s (triM rows k).2.1).map (slp rows) = ((List.range i).filter fun k => lessR s (triM rows k).2.1).map (slp rows) ++ (if lessR s (triM rows i).2.1 = true then [slp rows i] else []) := by
     rw [List.range_succ, List.filter_append, List.map_append]
     congr 1
     by_cases c : lessR s (triM rows i).2.1 = true
     ·rw [if_pos c, List.filter_cons, if_pos c]; rfl
     ·rw [if_neg c, List.filter_cons, if_neg c]; rfl
    cases c : lessR s (triM rows i).2.1 with
    | false =>
     refine iteF (kE _ ⟨s', h', by omega, ?_⟩)
     rw [hs1, c, if_neg Bool.false_ne_true, List.append_nil]
     exact a'
    | true =>
     refine iteT ⟨_, rfl, p3, _, _, _, rfl, rfl, ts _ _ hS3, rfl, ?_⟩
     refine kR y3 _ h' (small1000 (by omega)) ⟨fun b o q => ?_, upd_same, by rw [List.length_append]; show ys.length + 1 ≤ i + 1; omega, ?_⟩
     ·rw [upd_ne (ne_of_none q hD2)]
      exact s' _ _ q
     ·rw [hs1, c, if_pos rfl]
      have tu := Tst.up (K := K) h' (ys ++ [y3])
      exact (a'.mono fun _ _ q => q.mono tu).snoc ((v3.mono ts).mono tu)
   have smE := (sm.trans sC).trans sE
   have hC' := sE _ _ hC
   have aC' := aC.mono fun _ _ q => q.mono (Tst.same sE)
   have eqL : ((List.range (rows.length - 1)).filter fun k => lessR (triM rows k).1 s) = List.range (pOf rows s) := by
    rw [← filt_lt (pOf rows s) (rows.length - 1) (by omega)]
    refine List.filter_congr fun k hk => ?_
    have hk' := List.mem_range.mp hk
    show lessR (rows.getD k rowD).1 s = _
    rw [getD_at (List.getElem?_eq_getElem (show k < rows.length by omega))]
    exact cnt_p hs.bq.pos ok'.inc ok'.allP (List.getElem?_eq_getElem (show k < rows.length by omega))
   have eqC : ((List.range (rows.length - 1)).filter fun k => lessR s (triM rows k).2.1) = (List.range (rows.length - 1)).filter fun k => decide (qOf rows s - 1 ≤ k) := by
    refine List.filter_congr fun k hk => ?_
    have hk' := List.mem_range.mp hk
    show lessR s (rows.getD (k + 1) rowD).1 = _
    rw [getD_at (List.getElem?_eq_getElem (show k + 1 < rows.length by omega)), cnt_q hs.bq.pos ok'.inc ok'.allP (List.getElem?_eq_getElem (show k + 1 < rows.length by omega))]
    exact decide_eq_decide.mpr ⟨fun h => by omega, fun h => by omega⟩
   have eqR : qOf rows s < rows.length -> ((List.range (rows.length - 1)).filter fun k => lessR s (triM rows k).2.1).head? = some (qOf rows s - 1) := fun h => by
    rw [eqC]; exact filt_ge_head _ _ (by omega)
   have eqN : ¬ qOf rows s < rows.length -> (((List.range (rows.length - 1)).filter fun k => lessR s (triM rows k).2.1).map (slp rows)).length = 0 := fun h => by
    rw [eqC, filt_ge_nil _ _ (by omega)]; rfl
   rw [eqL] at aC'
   have lyl := aC'.len
   rw [List.length_map, List.length_range] at lyl
   by_cases cp : pOf rows s = 0
   ·refine ⟨_, rfl, D1, _, rfl, .inl (SqL.of hC'), _, _, rfl, rfl, _, rfl, iteD0 (by omega) ?_⟩
    refine ⟨zl2, fun pz hpz => ?_⟩
    have ez := same_new hpz (.tup [.int 0, .int 1])
    have rz : RV K (upd HE pz (.tup [.int 0, .int 1])) (.ref pz) (leftT rows s) := by unfold leftT; rw [if_pos cp]; exact RV.of upd_same
    generalize upd HE pz (.tup [.int 0, .int 1]) = HF at ez rz ⊢
    by_cases cq : qOf rows s < rows.length
    ·obtain ⟨y0, hy0⟩ : ∃ y, yr[0]? = some y := ⟨_, List.getElem?_eq_getElem (by rw [aE.len]; have := eqR cq; cases z : ((List.range (rows.length - 1)).filter fun k => lessR s (triM rows k).2.1) with | nil => rw [z] at this; cases this | cons _ _ => simp)⟩
     obtain ⟨d0, hd0, rv0⟩ := aE.at hy0
     have ed : d0 = slp rows (qOf rows s - 1) := by
      rw [List.getElem?_map, ← List.head?_eq_getElem?, eqR cq] at hd0
      exact (Option.some.inj hd0).symm
     subst ed
     have ly0 : 0 < yr.length := (List.getElem?_eq_some_iff.mp hy0).1
     refine ⟨_, rfl, D2, _, rfl, .inl (SqL.of (ez _ _ hE)), _, _, rfl, rfl, _, rfl, iteD1 (by omega) ?_⟩
     refine ⟨_, rfl, D2, _, _, _, rfl, rfl, SqL.of (ez _ _ hE), atI_nat (j := 0) hy0, zl2, fun pf hpf => ?_⟩
     have ef := same_new hpf (.tup [.ref pz, y0])
     refine k (.ref pf) _ ((smE.trans ez).trans ef) ⟨pf, _, _, rfl, SqT.of upd_same, (rz).mono (Tst.same ef), ?_⟩
     rw [show (sidesOf (.tab rows) s).2 = some (slp rows (qOf rows s - 1)) by show rightT rows s = _; unfold rightT; rw [if_pos cq]]
     exact (rv0.mono (Tst.same ez)).mono (Tst.same ef)
    ·have yn : yr = [] := by
      have := aE.len
      rw [eqN cq] at this
      exact List.length_eq_zero_iff.mp this
     refine ⟨_, rfl, D2, _, rfl, .inl (SqL.of (ez _ _ hE)), _, _, rfl, rfl, _, rfl, iteD0 (by rw [yn]; show ¬ ((0 : Nat) : Int) > 0; decide) ?_⟩
     refine ⟨zl2, fun pf hpf => ?_⟩
     have ef := same_new hpf (.tup [.ref pz, .non])
     refine k (.ref pf) _ ((smE.trans ez).trans ef) ⟨pf, _, _, rfl, SqT.of upd_same, (rz).mono (Tst.same ef), ?_⟩
     rw [show (sidesOf (.tab rows) s).2 = none by show rightT rows s = _; unfold rightT; rw [if_neg cq]]
     rfl
   ·obtain ⟨xl, dl, hlast, hdl, rvl, _⟩ := aC'.last (n := pOf rows s - 1) (by rw [List.length_map, List.length_range]; omega)
    have edl : dl = slp rows (pOf rows s - 1) := by
     rw [List.getElem?_map, List.getElem?_range (by omega)] at hdl
     exact (Option.some.inj hdl).symm
    subst edl
    refine ⟨_, rfl, D1, _, rfl, .inl (SqL.of hC'), _, _, rfl, rfl, _, rfl, iteD1 (by omega) ?_⟩
    refine ⟨_, rfl, _, rfl, D1, _, _, _, rfl, rfl, SqL.of hC', hlast, ?_⟩
    have rz : RV K HE xl (leftT rows s) := by unfold leftT; rw [if_neg cp]; exact rvl
    by_cases cq : qOf rows s < rows.length
    ·obtain ⟨y0, hy0⟩ : ∃ y, yr[0]? = some y := ⟨_, List.getElem?_eq_getElem (by rw [aE.len]; have := eqR cq; cases z : ((List.range (rows.length - 1)).filter fun k => lessR s (triM rows k).2.1) with | nil => rw [z] at this; cases this | cons _ _ => simp)⟩
     obtain ⟨d0, hd0, rv0⟩ := aE.at hy0
     have ed : d0 = slp rows (qOf rows s - 1) := by
      rw [List.getElem?_map, ← List.head?_eq_getElem?, eqR cq] at hd0
      exact (Option.some.inj hd0).symm
     subst ed
     have ly0 : 0 < yr.length := (List.getElem?_eq_some_iff.mp hy0).1
     refine ⟨_, rfl, D2, _, rfl, .inl (SqL.of (hE)), _, _, rfl, rfl, _, rfl, iteD1 (by omega) ?_⟩
     refine ⟨_, rfl, D2, _, _, _, rfl, rfl, SqL.of (hE), atI_nat (j := 0) hy0, zl2, fun pf hpf => ?_⟩
     have ef := same_new hpf (.tup [xl, y0])
     refine k (.ref pf) _ ((smE).trans ef) ⟨pf, _, _, rfl, SqT.of upd_same, (rz).mono (Tst.same ef), ?_⟩
     rw [show (sidesOf (.tab rows) s).2 = some (slp rows (qOf rows s - 1)) by show rightT rows s = _; unfold rightT; rw [if_pos cq]]
     exact rv0.mono (Tst.same ef)
    ·have yn : yr = [] := by
      have := aE.len
      rw [eqN cq] at this
      exact List.length_eq_zero_iff.mp this
     refine ⟨_, rfl, D2, _, rfl, .inl (SqL.of (hE)), _, _, rfl, rfl, _, rfl, iteD0 (by rw [yn]; show ¬ ((0 : Nat) : Int) > 0; decide) ?_⟩
     refine ⟨zl2, fun pf hpf => ?_⟩
     have ef := same_new hpf (.tup [xl, .non])
     refine k (.ref pf) _ ((smE).trans ef) ⟨pf, _, _, rfl, SqT.of upd_same, (rz).mono (Tst.same ef), ?_⟩
     rw [show (sidesOf (.tab rows) s).2 = none by show rightT rows s = _; unfold rightT; rw [if_neg cq]]
     rfl
theorem ok_Q14 (T : Txt K mg t) : FnOk P w K mg base CX0 4 t.a_Q14 t.d_Q14 ["_law_tape_here", "_law_rule_here", "_law_speed"] (sp_law_price K) := by
 refine T.F_Q14.ok sc_Q14 (fun vs H Q E h => ?_) (fun cdv A outer s H vs Q E hr h => ?_)
 ·obtain ⟨_, _, _, _, _, _, rfl, _⟩ := h; rfl
 obtain ⟨t₁, s₁, v, w, rl, z, rfl, tp, hv, ok, sm, hw, hs, h6, hb, k⟩ := h
 refine QSs.ok (qss_cons (qs_asg (qe_call (ok_Q9 T) (hr.mono (by decide)) rfl T.m_Q9 T.F_Q9.kp T.b_Q9 .nil pass0 (qa_cons (qv 1) (qa_cons (qv 2) qa_nil star_name) star_name)) (qg_tup rfl (qgs_cons (qg_name (i := 3) sc_Q14.nd rfl (by first | exact Or.inl rfl | exact Or.inr rfl)) (qgs_cons (qg_name (i := 4) sc_Q14.nd rfl (by first | exact Or.inl rfl | exact Or.inr rfl)) qgs_nil))))
   (qss_cons (qs_if (qt_cmpR op_isN (qv 4) qe_non (nomark _)) (qss_one (qs_ret (qe_tup (qa_cons (qv 2) (qa_cons (qe_call (ok_Q32 T) (hr.mono (by decide)) rfl T.m_Q32 T.F_Q32.kp T.b_Q32 .nil pass0 (qa_cons (qv 3) (qa_cons (qe_tup (qa_cons (qe_call (ok_Q26 T) (hr.mono (by decide)) rfl T.m_Q26 T.F_Q26.kp T.b_Q26 .nil pass0 (qa_cons (qv 0) (qa_cons qe_int qa_nil star_con) star_name)) (qa_cons qe_int qa_nil star_con) star_call)) qa_nil star_tup) star_name)) qa_nil star_call) star_name)))) qss_nil)
   (qss_cons (qsA 5 sc_Q14.nd (qe_ix ix_list (qe_lst (qa_cons (qe_tup (qa_cons qe_int (qa_cons qe_int qa_nil star_con) star_con)) (qa_cons (qe_tup (qa_cons qe_int (qa_cons qe_int qa_nil star_con) star_con)) (qa_cons (qe_tup (qa_cons qe_int (qa_cons qe_int qa_nil star_con) star_con)) (qa_cons (qe_tup (qa_cons qe_int (qa_cons qe_int qa_nil star_con) star_con)) qa_nil star_tup) star_tup) star_tup) star_tup)) (qe_call (ok_Q26 T) (hr.mono (by decide)) rfl T.m_Q26 T.F_Q26.kp T.b_Q26 .nil pass0 (qa_cons (qv 0) (qa_cons qe_int qa_nil star_con) star_name)) (fun _ _ => rfl)))
   (qss_cons (qsA 6 sc_Q14.nd (qe_call (ok_Q32 T) (hr.mono (by decide)) rfl T.m_Q32 T.F_Q32.kp T.b_Q32 .nil pass0 (qa_cons (qv 4) (qa_cons (qe_tup (qa_cons (qe_un un_neg (qe_ix ix_tup (qv 3) qe_int (fun _ _ => rfl))) (qa_cons (qe_ix ix_tup (qv 3) qe_int (fun _ _ => rfl)) qa_nil star_sub) star_un)) qa_nil star_tup) star_name)))
   (qss_one (qs_ret (qe_tup (qa_cons (qv 2) (qa_cons (qe_call (ok_Q32 T) (hr.mono (by decide)) rfl T.m_Q32 T.F_Q32.kp T.b_Q32 .nil pass0 (qa_cons (qv 3) (qa_cons (qe_call (ok_Q33 T) (hr.mono (by decide)) rfl T.m_Q33 T.F_Q33.kp T.b_Q33 .nil pass0 (qa_cons (qv 6) (qa_cons (qv 5) qa_nil star_name) star_name)) qa_nil star_call) star_name)) qa_nil star_call) star_name)))))))) ?_
 obtain ⟨wl, wr⟩ := sides_small ok sm h6 hs hb
 refine ⟨_, rfl, _, rfl, v, w, rl, z, rfl, hv, ok, hw, hs, hb, fun v' H1 s1 sid => ?_⟩
 obtain ⟨ps, x1, x2, rfl, hps, rvl, rvr⟩ := sid
 generalize (sidesOf rl z).1 = gl at wl rvl
 generalize (sidesOf rl z).2 = gr at wr rvr
 have rvw := hw.mono (Tst.same s1)
 have tp0 := tp.lst
 have T1 := tp.same s1
 have S1 : Step t₁ H H1 := Step.same s1 tp.lst
 refine ⟨ps, _, rfl, hps, rfl, _, _, rfl, _, _, rfl, rfl, ?_⟩
 cases gr with
 | none =>
  have e2 : x2 = .non := rvr
  subst e2
  refine ⟨_, rfl, rfl, _, rfl, iteD1 rfl ?_⟩
  refine ⟨_, rfl, _, rfl, _, rfl, t₁, s₁, 4, rfl, T1, by decide, by decide, fun r za a1 b1 T2 => ?_⟩
  have S2 := Step.up (ys := za) T1.lst.choose_spec
  have t2 := Tst.step (K := K) S2
  generalize upd H1 t₁ (.lst za) = H2 at T2 S2 t2 ⊢
  refine ⟨zl2, fun p3 g3 => ?_⟩
  have s3 := same_new g3 (.tup [.int r, .int 1])
  have r3 : RV K (upd H2 p3 (.tup [.int r, .int 1])) (.ref p3) (r, 1) := RV.of upd_same
  have w3 : Wf 4 ((r, 1) : R) := ⟨by show (0 : Int) < 1; decide, by show r.natAbs < 16; omega, by show (1 : Int).natAbs < 16; decide, by show Int.gcd r 1 = 1; simp⟩
  generalize upd H2 p3 (.tup [.int r, .int 1]) = H3 at s3 r3 ⊢
  have t3 := t2.trans (Tst.same (K := K) s3)
  refine ⟨x1, .ref p3, gl, (r, 1), 42, 4, rfl, rvl.mono t3, r3, wl, w3, by decide, fun p4 g4 => ?_⟩
  have w4 := plus_wf wl w3
  generalize plusR gl (r, 1) = gg at w4 ⊢
  have s4 := same_new g4 (.tup [.int gg.1, .int gg.2])
  have r4 : RV K (upd H3 p4 (.tup [.int gg.1, .int gg.2])) (.ref p4) gg := RV.of upd_same
  generalize upd H3 p4 (.tup [.int gg.1, .int gg.2]) = H4 at s4 r4 ⊢
  refine ⟨zl2, fun p5 g5 => ?_⟩
  have s5 := same_new g5 (.tup [w, .ref p4])
  have s35 := (s3.trans s4).trans s5
  exact k (.ref p5) gg _ ((S1.trans S2).trans (.same s35 T2.lst)) (T2.same s35) ⟨p5, _, _, rfl, SqT.of upd_same, (rvw.mono t2).mono (Tst.same s35), r4.mono (Tst.same s5)⟩ (w4.mono (by decide))
 | some gr =>
  have rvr' : RV K H1 x2 gr := rvr
  have wr' := wr gr rfl
  obtain ⟨px2, rfl, hx2⟩ := id rvr'
  refine ⟨_, rfl, rfl, _, rfl, iteD0 (by intro e; cases e) ?_⟩
  have hd_ : ∃ ys, H1 t₁ = some (.lst ys) := T1.lst
  have rvr2 := rvr'
  clear rvr rvr'
  refine ⟨zl2, fun pw1 gw1 => ?_⟩
  generalize hG : upd H1 pw1 (.tup [.int 0, .int 1]) = Hw1
  obtain ⟨ew1, hw1, dw1⟩ := nwE hG gw1 T1.lst hd_
  obtain ⟨S1, T1, hd_⟩ := cr3 ew1 S1 T1 hd_
  replace rvl := rvl.mono (Tst.same ew1)
  replace rvr2 := rvr2.mono (Tst.same ew1)
  replace rvw := rvw.mono (Tst.same ew1)
  have rq0 : RV K Hw1 (.ref pw1) (0, 1) := RV.of hw1
  clear ew1 hw1 dw1 hG
  refine ⟨zl2, fun pw2 gw2 => ?_⟩
  generalize hG : upd Hw1 pw2 (.tup [.int 1, .int 1]) = Hw2
  obtain ⟨ew2, hw2, dw2⟩ := nwE hG gw2 T1.lst hd_
  obtain ⟨S1, T1, hd_⟩ := cr3 ew2 S1 T1 hd_
  replace rvl := rvl.mono (Tst.same ew2)
  replace rvr2 := rvr2.mono (Tst.same ew2)
  replace rvw := rvw.mono (Tst.same ew2)
  replace rq0 := rq0.mono (Tst.same ew2)
  have rq1 : RV K Hw2 (.ref pw2) (1, 1) := RV.of hw2
  clear ew2 hw2 dw2 hG
  refine ⟨zl2, fun pw3 gw3 => ?_⟩
  generalize hG : upd Hw2 pw3 (.tup [.int 1, .int 2]) = Hw3
  obtain ⟨ew3, hw3, dw3⟩ := nwE hG gw3 T1.lst hd_
  obtain ⟨S1, T1, hd_⟩ := cr3 ew3 S1 T1 hd_
  replace rvl := rvl.mono (Tst.same ew3)
  replace rvr2 := rvr2.mono (Tst.same ew3)
  replace rvw := rvw.mono (Tst.same ew3)
  replace rq0 := rq0.mono (Tst.same ew3)
  replace rq1 := rq1.mono (Tst.same ew3)
  have rq2 : RV K Hw3 (.ref pw3) (1, 2) := RV.of hw3
  clear ew3 hw3 dw3 hG
  refine ⟨zl2, fun pw4 gw4 => ?_⟩
  generalize hG : upd Hw3 pw4 (.tup [.int 1, .int 3]) = Hw4
  obtain ⟨ew4, hw4, dw4⟩ := nwE hG gw4 T1.lst hd_
  obtain ⟨S1, T1, hd_⟩ := cr3 ew4 S1 T1 hd_
  replace rvl := rvl.mono (Tst.same ew4)
  replace rvr2 := rvr2.mono (Tst.same ew4)
  replace rvw := rvw.mono (Tst.same ew4)
  replace rq0 := rq0.mono (Tst.same ew4)
  replace rq1 := rq1.mono (Tst.same ew4)
  replace rq2 := rq2.mono (Tst.same ew4)
  have rq3 : RV K Hw4 (.ref pw4) (1, 3) := RV.of hw4
  clear ew4 hw4 dw4 hG
  refine ⟨zl4, fun pw5 gw5 => ?_⟩
  generalize hG : upd Hw4 pw5 (.lst [V.ref pw1, V.ref pw2, V.ref pw3, V.ref pw4]) = Hw5
  obtain ⟨ew5, hw5, dw5⟩ := nwE hG gw5 T1.lst hd_
  have nw5 := nwN gw5 T1.lst
  obtain ⟨S1, T1, hd_⟩ := cr3 ew5 S1 T1 hd_
  replace rvl := rvl.mono (Tst.same ew5)
  replace rvr2 := rvr2.mono (Tst.same ew5)
  replace rvw := rvw.mono (Tst.same ew5)
  replace rq0 := rq0.mono (Tst.same ew5)
  replace rq1 := rq1.mono (Tst.same ew5)
  replace rq2 := rq2.mono (Tst.same ew5)
  replace rq3 := rq3.mono (Tst.same ew5)
  have lsq := hw5
  clear ew5 hw5 dw5 hG
  refine ⟨_, rfl, t₁, s₁, 4, rfl, T1, by decide, by decide, fun rw6 zw6 aw6 bw6 Tw6 => ?_⟩
  have Sw6 := Step.up (ys := zw6) T1.lst.choose_spec
  replace S1 := S1.trans Sw6
  replace hd_ := Sw6.tp'
  replace rvl := rvl.mono (Tst.step (K := K) Sw6)
  replace rvr2 := rvr2.mono (Tst.step (K := K) Sw6)
  replace rvw := rvw.mono (Tst.step (K := K) Sw6)
  replace rq0 := rq0.mono (Tst.step (K := K) Sw6)
  replace rq1 := rq1.mono (Tst.step (K := K) Sw6)
  replace rq2 := rq2.mono (Tst.step (K := K) Sw6)
  replace rq3 := rq3.mono (Tst.step (K := K) Sw6)
  replace lsq := Sw6.keep _ _ nw5 lsq
  replace T1 := Tw6
  clear Tw6 Sw6
  generalize upd Hw5 t₁ (.lst zw6) = Hw6 at S1 T1 hd_ rvl rvr2 rvw rq0 rq1 rq2 rq3 lsq ⊢
  obtain ⟨vq, rq, hatq, rvq, wq⟩ : ∃ (vq : V) (rq : R), atI ([V.ref pw1, V.ref pw2, V.ref pw3, V.ref pw4] : List V) rw6 = some vq /\ RV K Hw6 vq rq /\ Wf 3 rq := by
   rcases (show rw6 = 0 ∨ rw6 = 1 ∨ rw6 = 2 ∨ rw6 = 3 by omega) with rfl | rfl | rfl | rfl
   ·exact ⟨_, _, rfl, rq0, ⟨by decide, by decide, by decide, by decide⟩⟩
   ·exact ⟨_, _, rfl, rq1, ⟨by decide, by decide, by decide, by decide⟩⟩
   ·exact ⟨_, _, rfl, rq2, ⟨by decide, by decide, by decide, by decide⟩⟩
   ·exact ⟨_, _, rfl, rq3, ⟨by decide, by decide, by decide, by decide⟩⟩
  refine ⟨pw5, _, _, _, rfl, rfl, SqL.of lsq, hatq, ?_⟩
  obtain ⟨px1, rfl, hx1⟩ := id rvl
  refine ⟨_, rfl, _, rfl, px1, _, _, _, rfl, rfl, hx1, rfl, _, rfl, _, rfl, px1, _, _, _, rfl, rfl, hx1, rfl, zl2, fun pw7 gw7 => ?_⟩
  generalize hG : upd Hw6 pw7 (.tup [.int (-gl.1), .int gl.2]) = Hw7
  obtain ⟨ew7, hw7, dw7⟩ := nwE hG gw7 T1.lst hd_
  obtain ⟨S1, T1, hd_⟩ := cr3 ew7 S1 T1 hd_
  replace rvl := rvl.mono (Tst.same ew7)
  replace rvr2 := rvr2.mono (Tst.same ew7)
  replace rvw := rvw.mono (Tst.same ew7)
  replace rvq := rvq.mono (Tst.same ew7)
  have rvn : RV K Hw7 (.ref pw7) (-gl.1, gl.2) := RV.of hw7
  clear ew7 hw7 dw7 hG
  have wn : Wf 42 ((-gl.1, gl.2) : R) := ⟨wl.pos, by show (-gl.1).natAbs < _; rw [Int.natAbs_neg]; exact wl.top, wl.bot, by show Int.gcd (-gl.1) gl.2 = 1; rw [Int.neg_gcd]; exact wl.cop⟩
  refine ⟨_, .ref pw7, gr, (-gl.1, gl.2), 42, 42, rfl, rvr2, rvn, wr', wn, by decide, fun pw8 gw8 => ?_⟩
  generalize hG : upd Hw7 pw8 (.tup [.int (plusR gr (-gl.1, gl.2)).1, .int (plusR gr (-gl.1, gl.2)).2]) = Hw8
  obtain ⟨ew8, hw8, dw8⟩ := nwE hG gw8 T1.lst hd_
  obtain ⟨S1, T1, hd_⟩ := cr3 ew8 S1 T1 hd_
  replace rvl := rvl.mono (Tst.same ew8)
  replace rvr2 := rvr2.mono (Tst.same ew8)
  replace rvw := rvw.mono (Tst.same ew8)
  replace rvq := rvq.mono (Tst.same ew8)
  replace rvn := rvn.mono (Tst.same ew8)
  have rvd : RV K Hw8 (.ref pw8) (plusR gr (-gl.1, gl.2)) := RV.of hw8
  clear ew8 hw8 dw8 hG
  have wd := plus_wf wr' wn
  generalize plusR gr (-gl.1, gl.2) = dd at rvd wd
  refine ⟨_, rfl, _, rfl, _, rfl, _, rfl, .ref pw8, vq, dd, rq, 85, 3, rfl, rvd, rvq, wd, wq, by decide, fun pw9 gw9 => ?_⟩
  generalize hG : upd Hw8 pw9 (.tup [.int (timesR dd rq).1, .int (timesR dd rq).2]) = Hw9
  obtain ⟨ew9, hw9, dw9⟩ := nwE hG gw9 T1.lst hd_
  obtain ⟨S1, T1, hd_⟩ := cr3 ew9 S1 T1 hd_
  replace rvl := rvl.mono (Tst.same ew9)
  replace rvr2 := rvr2.mono (Tst.same ew9)
  replace rvw := rvw.mono (Tst.same ew9)
  replace rvq := rvq.mono (Tst.same ew9)
  replace rvn := rvn.mono (Tst.same ew9)
  replace rvd := rvd.mono (Tst.same ew9)
  have rvm_ : RV K Hw9 (.ref pw9) (timesR dd rq) := RV.of hw9
  clear ew9 hw9 dw9 hG
  have wm_ := times_wf wd wq
  generalize timesR dd rq = mm at rvm_ wm_
  refine ⟨_, .ref pw9, gl, mm, 42, 88, rfl, rvl, rvm_, wl, wm_, by decide, fun pw10 gw10 => ?_⟩
  generalize hG : upd Hw9 pw10 (.tup [.int (plusR gl mm).1, .int (plusR gl mm).2]) = Hw10
  obtain ⟨ew10, hw10, dw10⟩ := nwE hG gw10 T1.lst hd_
  obtain ⟨S1, T1, hd_⟩ := cr3 ew10 S1 T1 hd_
  replace rvl := rvl.mono (Tst.same ew10)
  replace rvr2 := rvr2.mono (Tst.same ew10)
  replace rvw := rvw.mono (Tst.same ew10)
  replace rvq := rvq.mono (Tst.same ew10)
  replace rvn := rvn.mono (Tst.same ew10)
  replace rvd := rvd.mono (Tst.same ew10)
  replace rvm_ := rvm_.mono (Tst.same ew10)
  have rvg : RV K Hw10 (.ref pw10) (plusR gl mm) := RV.of hw10
  clear ew10 hw10 dw10 hG
  have wg := plus_wf wl wm_
  generalize plusR gl mm = gg at rvg wg
  refine ⟨zl2, fun pf hpf => ?_⟩
  have sf := same_new hpf (.tup [w, .ref pw10])
  exact k (.ref pf) gg _ (S1.trans (.same sf T1.lst)) (T1.same sf) ⟨pf, _, _, rfl, SqT.of upd_same, rvw.mono (Tst.same sf), rvg.mono (Tst.same sf)⟩ (wg.mono (by decide))
theorem ok_Q1 (T : Txt K mg t) : FnOk P w K mg base CX0 2 t.a_Q1 t.d_Q1 ["_law_tape_here", "_law_rule_here", "_law_kinks"] (sp_law_some_speed K) := by
 refine T.F_Q1.ok sc_Q1 (fun vs H Q E h => ?_) (fun cdv A outer s H vs Q E hr h => ?_)
 ·obtain ⟨_, _, _, _, _, _, _, rfl, _⟩ := h; rfl
 obtain ⟨t₁, s₁, kl, xk, v, ks, rl, rfl, tp, hv, ok, sm, nD, hkl, alk, hks, k4, k⟩ := h
 refine QSs.ok (qss_cons (qsA 3 sc_Q1.nd (qe_op op_cat (qe_lst (qa_cons (qe_tup (qa_cons qe_int (qa_cons qe_int qa_nil star_con) star_con)) (qa_cons (qe_tup (qa_cons qe_int (qa_cons qe_int qa_nil star_con) star_con)) (qa_cons (qe_tup (qa_cons qe_int (qa_cons qe_int qa_nil star_con) star_con)) (qa_cons (qe_tup (qa_cons qe_int (qa_cons qe_int qa_nil star_con) star_con)) (qa_cons (qe_tup (qa_cons qe_int (qa_cons qe_int qa_nil star_con) star_con)) qa_nil star_tup) star_tup) star_tup) star_tup) star_tup)) (qe_callTy call_list_of (by rfl) T.z_list PyProof.Rows.boot_list (qa_cons (qv 2) qa_nil star_name))))
   (qss_cons (qs_if (qt_cmpR op_eq (qe_ix ix_tup (qv 1) qe_int (fun _ _ => rfl)) qe_str (nomark _)) (qss_cons (qsA 3 sc_Q1.nd (qe_op op_cat (qv 3) (qe_lcomp (N' := ["_law_row"]) (src := [none]) rfl (by exact (qi_tup (qe_ix ix_tup (qv 1) qe_int (fun _ _ => rfl)))) (fun _ _ _ _ _ => (by exact (by exact qg_name (i := 0) (by show List.Nodup (["_law_row"] : List Str); decide +kernel) (by exact rfl) (by first | exact Or.inl rfl | exact Or.inr rfl)))) (fun _ _ _ _ _ => qts_nil) (fun _ _ _ _ _ => (by exact (by exact (qe_ix (ix_tupK (K := K) (by exact rfl)) (by exact (qv 0)) qe_int (by exact fun _ _ => rfl))))) (by exact trivial) rfl (by decide +kernel) rfl (by decide +kernel) (by exact cells_of rfl trivial))))
   (qss_one (qs_setC (i := 3) (N' := ["_law_speed", "_law_rule_here"]) (src := [none, some 1]) sc_Q1.nd rfl (by first | exact Or.inl rfl | exact Or.inr rfl) rfl (by exact (qi_list (qv 3))) (fun _ _ _ _ _ => (by exact (by exact qg_name (i := 0) (by show List.Nodup (["_law_speed", "_law_rule_here"] : List Str); decide +kernel) (by exact rfl) (by first | exact Or.inl rfl | exact Or.inr rfl)))) (fun _ _ _ _ _ => (qts_one (qt_not (qt_val (by exact (qe_call (ok_Q28 T) (by exact hr.mono (by decide)) (by exact rfl) T.m_Q28 T.F_Q28.kp T.b_Q28 (by exact .nil) (by exact pass0) (qa_cons (by exact (qe_ix (ix_tupK (K := K) (by exact rfl)) (by exact (qe_ix (ix_tupK (K := K) (by exact rfl)) (by exact (qe_ix (ix_tupK (K := K) (by exact rfl)) (by exact (qv 1)) qe_int (by exact fun _ _ => rfl))) (by exact (qe_un un_neg qe_int)) (by exact fun _ _ => rfl))) qe_int (by exact fun _ _ => rfl))) (qa_cons (by exact (qv 0)) qa_nil star_name) star_sub))))))) (fun _ _ _ _ _ => (by exact (by exact (qv 0)))) (by exact ⟨rfl, rfl, rfl, rfl, trivial⟩) rfl (by decide +kernel) rfl (by decide +kernel) (by exact cells_of rfl ⟨rfl, trivial⟩)))) qss_nil)
   (qss_one (qs_ret (qe_ix ix_list (qv 3) (qe_call (ok_Q26 T) (hr.mono (by decide)) rfl T.m_Q26 T.F_Q26.kp T.b_Q26 .nil pass0 (qa_cons (qv 0) (qa_cons (qe_callB call_len_seq (by rfl) T.z_len PySem.boot_len (qa_cons (qv 3) qa_nil star_name)) qa_nil star_call) star_name)) (fun _ _ => rfl)))))) ?_
 have hd_ : ∃ ys, H kl = some (.lst ys) := ⟨_, hkl⟩
 have S0 : Step t₁ H H := ⟨fun _ _ _ q => q, tp.lst, tp.lst⟩
 refine ⟨zl2, fun py1 gy1 => ?_⟩
 generalize hG : upd H py1 (.tup [.int 0, .int 1]) = Hy1
 obtain ⟨ey1, hy1, dy1⟩ := nwE hG gy1 tp.lst hd_
 obtain ⟨S0, tp, hd_⟩ := cr3 ey1 S0 tp hd_
 replace hkl := ey1 _ _ hkl
 replace alk := alk.mono fun _ _ q => q.mono (Tst.same ey1)
 replace hv := hv.mono (Tst.same ey1)
 have rf0 : RV K Hy1 (.ref py1) (0, 1) := RV.of hy1
 clear ey1 hy1 dy1 hG
 refine ⟨zl2, fun py2 gy2 => ?_⟩
 generalize hG : upd Hy1 py2 (.tup [.int 1, .int 2]) = Hy2
 obtain ⟨ey2, hy2, dy2⟩ := nwE hG gy2 tp.lst hd_
 obtain ⟨S0, tp, hd_⟩ := cr3 ey2 S0 tp hd_
 replace hkl := ey2 _ _ hkl
 replace alk := alk.mono fun _ _ q => q.mono (Tst.same ey2)
 replace hv := hv.mono (Tst.same ey2)
 replace rf0 := rf0.mono (Tst.same ey2)
 have rf1 : RV K Hy2 (.ref py2) (1, 2) := RV.of hy2
 clear ey2 hy2 dy2 hG
 refine ⟨zl2, fun py3 gy3 => ?_⟩
 generalize hG : upd Hy2 py3 (.tup [.int 1, .int 1]) = Hy3
 obtain ⟨ey3, hy3, dy3⟩ := nwE hG gy3 tp.lst hd_
 obtain ⟨S0, tp, hd_⟩ := cr3 ey3 S0 tp hd_
 replace hkl := ey3 _ _ hkl
 replace alk := alk.mono fun _ _ q => q.mono (Tst.same ey3)
 replace hv := hv.mono (Tst.same ey3)
 replace rf0 := rf0.mono (Tst.same ey3)
 replace rf1 := rf1.mono (Tst.same ey3)
 have rf2 : RV K Hy3 (.ref py3) (1, 1) := RV.of hy3
 clear ey3 hy3 dy3 hG
 refine ⟨zl2, fun py4 gy4 => ?_⟩
 generalize hG : upd Hy3 py4 (.tup [.int 3, .int 1]) = Hy4
 obtain ⟨ey4, hy4, dy4⟩ := nwE hG gy4 tp.lst hd_
 obtain ⟨S0, tp, hd_⟩ := cr3 ey4 S0 tp hd_
 replace hkl := ey4 _ _ hkl
 replace alk := alk.mono fun _ _ q => q.mono (Tst.same ey4)
 replace hv := hv.mono (Tst.same ey4)
 replace rf0 := rf0.mono (Tst.same ey4)
 replace rf1 := rf1.mono (Tst.same ey4)
 replace rf2 := rf2.mono (Tst.same ey4)
 have rf3 : RV K Hy4 (.ref py4) (3, 1) := RV.of hy4
 clear ey4 hy4 dy4 hG
 refine ⟨zl2, fun py5 gy5 => ?_⟩
 generalize hG : upd Hy4 py5 (.tup [.int 7, .int 3]) = Hy5
 obtain ⟨ey5, hy5, dy5⟩ := nwE hG gy5 tp.lst hd_
 obtain ⟨S0, tp, hd_⟩ := cr3 ey5 S0 tp hd_
 replace hkl := ey5 _ _ hkl
 replace alk := alk.mono fun _ _ q => q.mono (Tst.same ey5)
 replace hv := hv.mono (Tst.same ey5)
 replace rf0 := rf0.mono (Tst.same ey5)
 replace rf1 := rf1.mono (Tst.same ey5)
 replace rf2 := rf2.mono (Tst.same ey5)
 replace rf3 := rf3.mono (Tst.same ey5)
 have rf4 : RV K Hy5 (.ref py5) (7, 3) := RV.of hy5
 clear ey5 hy5 dy5 hG
 refine ⟨zl5, fun py6 gy6 => ?_⟩
 generalize hG : upd Hy5 py6 (.lst [V.ref py1, V.ref py2, V.ref py3, V.ref py4, V.ref py5]) = Hy6
 obtain ⟨ey6, hy6, dy6⟩ := nwE hG gy6 tp.lst hd_
 have ny6 := nwN gy6 tp.lst
 obtain ⟨S0, tp, hd_⟩ := cr3 ey6 S0 tp hd_
 replace hkl := ey6 _ _ hkl
 replace alk := alk.mono fun _ _ q => q.mono (Tst.same ey6)
 replace hv := hv.mono (Tst.same ey6)
 replace rf0 := rf0.mono (Tst.same ey6)
 replace rf1 := rf1.mono (Tst.same ey6)
 replace rf2 := rf2.mono (Tst.same ey6)
 replace rf3 := rf3.mono (Tst.same ey6)
 replace rf4 := rf4.mono (Tst.same ey6)
 have ls1 := hy6
 have al1 : Als (RV K Hy6) ([V.ref py1, V.ref py2, V.ref py3, V.ref py4, V.ref py5] : List V) [(0, 1), (1, 2), (1, 1), (3, 1), (7, 3)] := (.cons rf0 (.cons rf1 (.cons rf2 (.cons rf3 (.cons rf4 .nil)))))
 clear ey6 hy6 dy6 hG
 refine ⟨_, rfl, kl, _, rfl, .inl (SqL.of hkl), fun py7 gy7 => ?_⟩
 generalize hG : upd Hy6 py7 (.lst xk) = Hy7
 obtain ⟨ey7, hy7, dy7⟩ := nwE hG gy7 tp.lst hd_
 have ny7 := nwN gy7 tp.lst
 obtain ⟨S0, tp, hd_⟩ := cr3 ey7 S0 tp hd_
 replace hkl := ey7 _ _ hkl
 replace alk := alk.mono fun _ _ q => q.mono (Tst.same ey7)
 replace hv := hv.mono (Tst.same ey7)
 replace ls1 := ey7 _ _ ls1
 replace al1 := al1.mono fun _ _ q => q.mono (Tst.same ey7)
 have ls3 := hy7
 clear ey7 hy7 dy7 hG
 refine ⟨py6, py7, _, _, rfl, rfl, ls1, ls3, Nat.le_trans (show _ ≤ 1000 by have := alk.len; first | omega | (simp <;> omega)) zl1000, fun py8 gy8 => ?_⟩
 generalize hG : upd Hy7 py8 (.lst (([V.ref py1, V.ref py2, V.ref py3, V.ref py4, V.ref py5] : List V) ++ xk)) = Hy8
 obtain ⟨ey8, hy8, dy8⟩ := nwE hG gy8 tp.lst hd_
 have ny8 := nwN gy8 tp.lst
 obtain ⟨S0, tp, hd_⟩ := cr3 ey8 S0 tp hd_
 replace hkl := ey8 _ _ hkl
 replace alk := alk.mono fun _ _ q => q.mono (Tst.same ey8)
 replace hv := hv.mono (Tst.same ey8)
 replace ls1 := ey8 _ _ ls1
 replace al1 := al1.mono fun _ _ q => q.mono (Tst.same ey8)
 replace ls3 := ey8 _ _ ls3
 have ls5 := hy8
 have al5 : Als (RV K Hy8) (([V.ref py1, V.ref py2, V.ref py3, V.ref py4, V.ref py5] : List V) ++ xk) (([(0, 1), (1, 2), (1, 1), (3, 1), (7, 3)] : List R) ++ ks) := Als.join al1 alk
 clear ey8 hy8 dy8 hG
 have kb5 : ∀ r ∈ (([(0, 1), (1, 2), (1, 1), (3, 1), (7, 3)] : List R) ++ ks), SpK r := fun r hr => by
  rcases List.mem_append.mp hr with h | h
  ·simp only [List.mem_cons, List.not_mem_nil, or_false] at h
   rcases h with rfl | rfl | rfl | rfl | rfl
   ·exact spk_lit (by decide) ⟨360, by decide⟩ (by decide) (by decide) (by decide)
   ·exact spk_lit (by decide) ⟨180, by decide⟩ (by decide) (by decide) (by decide)
   ·exact spk_lit (by decide) ⟨360, by decide⟩ (by decide) (by decide) (by decide)
   ·exact spk_lit (by decide) ⟨360, by decide⟩ (by decide) (by decide) (by decide)
   ·exact spk_lit (by decide) ⟨120, by decide⟩ (by decide) (by decide) (by decide)
  ·exact hks r h
 have ln5 : (([(0, 1), (1, 2), (1, 1), (3, 1), (7, 3)] : List R) ++ ks).length ≤ 9 := by simp <;> omega
 have m05 : ((0, 1) : R) ∈ (([(0, 1), (1, 2), (1, 1), (3, 1), (7, 3)] : List R) ++ ks) := List.mem_append_left _ List.mem_cons_self
 generalize (([(0, 1), (1, 2), (1, 1), (3, 1), (7, 3)] : List R) ++ ks) = rs5 at al5 kb5 ln5 m05
 have xl5 := al5.len
 generalize (([V.ref py1, V.ref py2, V.ref py3, V.ref py4, V.ref py5] : List V) ++ xk) = xs5 at ls5 al5 xl5 ⊢
 cases rl with
 | pow kk =>
  obtain ⟨p, rfl, hS⟩ := hv
  refine ⟨_, rfl, p, _, _, _, rfl, rfl, hS, rfl, rfl, _, rfl, iteD0 (by decide) ?_⟩
  obtain ⟨yf, ef⟩ := tp.lst
  have lpos : 0 < xs5.length := by rw [al5.len]; exact List.length_pos_of_mem m05
  refine ⟨_, rfl, _, rfl, _, rfl, py8, _, rfl, .inl (SqL.of ls5), t₁, s₁, _, rfl, tp, by omega, by omega, fun rr zz aa bb TF => ?_⟩
  have SF := Step.up (ys := zz) ef
  have lsF := SF.keep _ _ ny8 ls5
  have alF := al5.mono fun _ _ q => q.mono (Tst.step (K := K) SF)
  generalize upd Hy8 t₁ (.lst zz) = HF at TF SF lsF alF ⊢
  obtain ⟨u, z, hat, mz, rvz⟩ := als_pick alF aa bb
  refine ⟨py8, _, _, _, rfl, rfl, SqL.of lsF, hat, ?_⟩
  exact k u z HF (S0.trans SF) TF rvz (kb5 z mz) trivial
 | tab rows =>
  have ok' : RowsOk rows := ok
  obtain ⟨p, q, xr, rfl, hS, hq, alr⟩ := hv
  have n2 := ok'.n2
  have n12 := ok'.n12
  have lxr := alr.len
  refine ⟨_, rfl, p, _, _, _, rfl, rfl, hS, rfl, rfl, _, rfl, iteD1 (by decide) ?_⟩
  refine ⟨_, rfl, _, rfl, p, _, _, _, rfl, rfl, hS, rfl, q, rfl, ⟨_, hq⟩, fun D hD => comp_own (J := Itt K q) (n := rows.length) (fun i ys H' => Same Hy8 H' /\ H' D = some (.lst ys) /\ ys.length = i /\ Als (RV K H') ys ((rows.take i).map (·.1))) ⟨same_new hD _, upd_same, rfl, by rw [List.take_zero]; exact .nil⟩ (fun i ys H' hi ⟨s', _⟩ => ⟨xr, _, Tst.same (K := K) s' _ _ hq, List.getElem?_eq_getElem (by omega)⟩) (fun yl HC ⟨sC, hC, lC, aC⟩ => ⟨⟨xr, Tst.same (K := K) sC _ _ hq, by omega⟩, ?_⟩) ?_⟩
  rotate_left
  ·rintro i ys H1 x H2 hi ⟨s', h', l', a'⟩ ⟨rfl, hx⟩ R E kR kE
   have hx' := hx xr (Tst.same (K := K) s' _ _ hq)
   obtain ⟨rw0, hr0, pr, y1, y2, rfl, hSr, v1, v2⟩ := alr.at hx'
   have ts := Tst.same (K := K) s'
   refine ⟨Ext.set rfl, ?_⟩
   refine ⟨_, rfl, pr, _, _, _, rfl, rfl, ts _ _ hSr, rfl, ?_⟩
   have tu := Tst.up (K := K) h' (ys ++ [y1])
   refine kR y1 _ h' (small1000 (by omega)) ⟨fun b o q_ => ?_, upd_same, by rw [List.length_append, l']; rfl, ?_⟩
   ·rw [upd_ne (ne_of_none q_ hD)]
    exact s' _ _ q_
   ·rw [List.take_add_one, hr0, List.map_append]
    exact (a'.mono fun _ _ q => q.mono tu).snoc ((v1.mono ts).mono tu)
  rw [List.take_of_length_le (Nat.le_refl _)] at aC
  have ls6 := sC _ _ ls5
  have al6 := al5.mono fun _ _ q => q.mono (Tst.same sC)
  refine ⟨py8, D, _, _, rfl, rfl, ls6, hC, Nat.le_trans (show _ ≤ 1000 by omega) zl1000, fun l7 h7 => ?_⟩
  have s7 := same_new h7 (.lst (xs5 ++ yl))
  have ls7 : upd HC l7 (.lst (xs5 ++ yl)) l7 = some (.lst (xs5 ++ yl)) := upd_same
  have al7 := (al6.join aC).mono fun _ _ q => q.mono (Tst.same s7)
  have sC7 := sC.trans s7
  have T7 := tp.same sC7
  have S7 := S0.trans (.same sC7 tp.lst)
  have t7 := Tst.same (K := K) sC7
  generalize upd HC l7 (.lst (xs5 ++ yl)) = H7 at ls7 al7 sC7 T7 S7 t7 ⊢
  obtain ⟨xl, rlast, hlast, hrl, ⟨pr, y1, y2, rfl, hSr, rvt, _⟩, _⟩ := alr.last (n := rows.length - 1) (by omega)
  have ml := List.mem_of_getElem? hrl
  have kt := row_spk ok' sm ml
  have kb7 : ∀ r ∈ rs5 ++ rows.map (·.1), SpK r := fun r hr => by
   rcases List.mem_append.mp hr with h | h
   ·exact kb5 r h
   ·obtain ⟨w, hw, rfl⟩ := List.mem_map.mp h
    exact row_spk ok' sm hw
  have l7l : (rs5 ++ rows.map (·.1)).length ≤ 30 := by rw [List.length_append, List.length_map]; omega
  have xl7 := al7.len
  refine ⟨_, rfl, l7, rfl, ⟨_, SqL.of ls7⟩, fun Dc hDc => comp_filt (K := K) (P := RV K) (p := fun y => !lessR rlast.1 y) (fun _ _ _ _ t p => p.mono t) hDc (SqL.of ls7) al7 (by omega) (fun j x d H3 hx hd s3 pd R E kR kE => ?_) fun H8 ds s8 hD8 al8 => ?_⟩
  ·have wd := (kb7 d (List.mem_of_getElem? hd)).wf
   have t3 := t7.trans (Tst.same (K := K) s3)
   refine ⟨Ext.set rfl, ?_⟩
   refine ⟨_, rfl, p, _, _, _, rfl, rfl, t3 _ _ hS, rfl, _, rfl, q, _, _, _, rfl, rfl, t3 _ _ hq, hlast, pr, _, _, _, rfl, rfl, t3 _ _ hSr, rfl, _, rfl, y1, x, rlast.1, d, 98, 98, rfl, rvt.mono t3, pd, kt.wf, wd, by decide, _, rfl, ?_⟩
   cases c1 : lessR rlast.1 d with
   | true => exact iteF (kE _ (Same.refl _) (by show (!lessR rlast.1 d) = false; rw [c1]; rfl))
   | false => exact iteT ⟨_, rfl, kR _ (Same.refl _) (by show (!lessR rlast.1 d) = true; rw [c1]; rfl)⟩
  have nDc : Dc ≠ t₁ := nwN hDc T7.lst
  have T8 := T7.same s8
  have S8 := S7.trans (.same s8 T7.lst)
  have m08 : ((0, 1) : R) ∈ (rs5 ++ rows.map (·.1)).filter fun y => !lessR rlast.1 y := List.mem_filter.mpr ⟨List.mem_append_left _ m05, by show (!lessR rlast.1 (0, 1)) = true; rw [nn_less.mpr kt.2]; rfl⟩
  have kb8 : ∀ r ∈ (rs5 ++ rows.map (·.1)).filter fun y => !lessR rlast.1 y, SpK r := fun r hr => kb7 r (List.mem_filter.mp hr).1
  have lds : ds.length ≤ 30 := by rw [al8.len]; exact Nat.le_trans (List.length_filter_le _ _) l7l
  have bel : ∀ r ∈ (rs5 ++ rows.map (·.1)).filter fun y => !lessR rlast.1 y, Below (.tab rows) r := fun r hr => by
   have h2 : (!lessR rlast.1 r) = true := (List.mem_filter.mp hr).2
   refine ⟨rlast, hrl, ?_⟩
   cases c : lessR rlast.1 r with
   | false => rfl
   | true => rw [c] at h2; cases h2
  generalize ((rs5 ++ rows.map (·.1)).filter fun y => !lessR rlast.1 y) = rs8 at al8 m08 kb8 bel
  obtain ⟨yf, ef⟩ := T8.lst
  have lpos : 0 < ds.length := by rw [al8.len]; exact List.length_pos_of_mem m08
  refine ⟨_, rfl, _, rfl, _, rfl, Dc, _, rfl, .inl (SqL.of hD8), t₁, s₁, _, rfl, T8, by omega, by omega, fun rr zz aa bb TF => ?_⟩
  have SF := Step.up (ys := zz) ef
  have lsF := SF.keep _ _ nDc hD8
  have alF := al8.mono fun _ _ q => q.mono (Tst.step (K := K) SF)
  generalize upd H8 t₁ (.lst zz) = HF at TF SF lsF alF ⊢
  obtain ⟨u, z, hat, mz, rvz⟩ := als_pick alF aa bb
  refine ⟨Dc, _, _, _, rfl, rfl, SqL.of lsF, hat, ?_⟩
  exact k u z HF (S8.trans SF) TF rvz (kb8 z mz) (bel z mz)
theorem ok_Q10 (T : Txt K mg t) : FnOk P w K mg base CX0 5 t.a_Q10 t.d_Q10 ["_law_tape_here", "_law_works_here", "_law_rule_here", "_law_kinks"] (sp_law_prices K) := by
 refine T.F_Q10.ok sc_Q10 (fun vs H Q E h => ?_) (fun cdv A outer s H vs Q E hr h => ?_)
 ·obtain ⟨_, _, _, _, _, _, _, _, _, rfl, _⟩ := h; rfl
 obtain ⟨t₁, s₁, kl, pw, xk, xw, v, ks, rl, rfl, tp, hW, n9, hv, ok, sm, nD, hkl, alk, hks, k4, k⟩ := h
 refine QSs.ok (qss_one (qs_ret (qe_callTy call_tuple_of (by rfl) T.z_tuple PyProof.Rows.boot_tuple (qa_cons (qe_lcomp (N' := ["_law_work", "_law_tape_here", "_law_rule_here", "_law_kinks"]) (src := [none, some 0, some 2, some 3]) rfl (by exact (qi_tup (qv 1))) (fun _ _ _ _ _ => (by exact (by exact qg_name (i := 0) (by show List.Nodup (["_law_work", "_law_tape_here", "_law_rule_here", "_law_kinks"] : List Str); decide +kernel) (by exact rfl) (by first | exact Or.inl rfl | exact Or.inr rfl)))) (fun _ _ _ _ _ => qts_nil) (fun _ _ _ _ _ => (by exact (by exact (qe_call (ok_Q14 T) (by exact hr.mono (by decide)) (by exact rfl) T.m_Q14 T.F_Q14.kp T.b_Q14 (by exact .nil) (by exact pass0) (qa_cons (by exact (qv 1)) (qa_cons (by exact (qv 2)) (qa_cons (by exact (qe_call (ok_Q1 T) (by exact hr.mono (by decide)) (by exact rfl) T.m_Q1 T.F_Q1.kp T.b_Q1 (by exact .nil) (by exact pass0) (qa_cons (by exact (qv 1)) (qa_cons (by exact (qv 2)) (qa_cons (by exact (qv 3)) qa_nil star_name) star_name) star_name))) qa_nil star_call) star_name) star_name))))) (by exact ⟨rfl, rfl, rfl, rfl, ⟨rfl, rfl, rfl, rfl, ⟨rfl, rfl, rfl, rfl, trivial⟩⟩⟩) rfl (by decide +kernel) rfl (by decide +kernel) (by exact cells_of rfl ⟨rfl, ⟨rfl, ⟨rfl, trivial⟩⟩⟩)) qa_nil star_lc)))) ?_
 refine ⟨_, rfl, pw, rfl, ⟨_, hW⟩, fun D hD => ?_⟩
 have nDt : D ≠ t₁ := fun z => by subst z; obtain ⟨_, q⟩ := tp.lst; rw [hD] at q; cases q
 have off := tp.off hD
 refine comp_own (J := Itt K pw) (n := xw.length) (fun i ys H' => ys.length = i /\ (∀ b o, b ≠ t₁ -> H b = some o -> H' b = some o) /\ Tst K H H' /\ Tape3 K H' t₁ s₁ /\ H' D = some (.lst ys) /\ ∃ prs : List (R × R), Als (RowV K H') ys prs /\ prs.length = i /\ ∀ r ∈ prs, SpK r.1 /\ Wf 140 r.2) ⟨rfl, fun b o _ q => same_new hD _ _ _ q, Tst.same (same_new hD _), tp.same (same_new hD _), upd_same, [], .nil, rfl, fun r hr => by cases hr⟩ (fun i ys H' hi ⟨_, _, tt, _⟩ => ⟨xw, _, tt _ _ hW, List.getElem?_eq_getElem hi⟩) (fun yl HC ⟨lC, kC, tC, TC, hC, prs, aC, lp, bC⟩ => ⟨⟨xw, tC _ _ hW, Nat.le_refl _⟩, ?_⟩) ?_
 ·refine ⟨D, _, rfl, .inl ⟨SqL.of hC, fun pt hpt => ?_⟩⟩
  have st := same_new hpt (.tup yl)
  exact k pt yl prs _ ⟨fun b o nb q => st _ _ (kC b o nb q), tp.lst, (TC.same st).lst⟩ (TC.same st) (SqT.of upd_same) (aC.mono fun _ _ q => q.mono (Tst.same st)) lp bC
 ·rintro i ys H1 x H2 hi ⟨l1, k1, t1, T1, h1, prs, a1, lp, b1⟩ ⟨rfl, hx⟩ R E kR kE
  refine ⟨Ext.set rfl, ?_⟩
  refine ⟨_, rfl, _, rfl, _, rfl, _, rfl, _, rfl, t₁, s₁, kl, xk, v, ks, rl, rfl, T1, hv.mono t1, ok, sm, nD, k1 _ _ nD hkl, alk.mono fun _ _ q => q.mono t1, hks, k4, fun u z H3 S3 T3 rvz kz bz => ?_⟩
  have t3 := Tst.step (K := K) S3
  refine ⟨t₁, s₁, v, u, rl, z, rfl, T3, (hv.mono t1).mono t3, ok, sm, rvz, kz.ok, kz.1, bz, fun u2 g H4 S4 T4 row wg => ?_⟩
  have S34 := S3.trans S4
  have t34 := Tst.step (K := K) S34
  have hD4 := S34.keep _ _ nDt h1
  have tu := Tst.up (K := K) hD4 (ys ++ [u2])
  refine kR u2 H4 hD4 (small1000 (by omega)) ⟨by rw [List.length_append, l1]; rfl, fun b o nb q => ?_, (t1.trans t34).trans tu, T4.upl nDt off _, upd_same, prs ++ [(z, g)], (a1.mono fun _ _ q => q.mono (t34.trans tu)).snoc (row.mono tu), by rw [List.length_append, lp]; rfl, fun r hr => ?_⟩
  ·rw [upd_ne (ne_of_none q hD)]
   exact S34.keep _ _ nb (k1 b o nb q)
  ·rcases List.mem_append.mp hr with h | h
   ·exact b1 r h
   ·rw [List.mem_singleton.mp h]; exact ⟨kz, wg⟩
theorem ok_Q15 (T : Txt K mg t) : FnOkM P w K mg base CX0 1 t.a_Q15 t.d_Q15 ["_law_e"] (sp_law_marks K t.c_Q34) := by
 refine T.F_Q15.okM sc_Q15 (fun vs H Q E h => ?_) (fun cdv A outer s H vs Q E hr h => ?_)
 ·obtain ⟨_, _, _, rfl, _⟩ := h; rfl
 obtain ⟨x, dd, fs, rfl, ex, ed, k⟩ := h
 refine QSs.ok (qss_cons (qsA 1 sc_Q15.nd (qe_lst (qa_cons (qe_callB (call_isK (K := K) rfl) (by rfl) T.z_isinstance PyProof.Rows.boot_isinstance (qa_cons (qv 0) (qa_cons (qe_glob (v := .ref t.c_Q34) rfl T.m_Q34 rfl) qa_nil star_name) star_name)) (qa_cons (qe_callB (call_isK (K := K) rfl) (by rfl) T.z_isinstance PyProof.Rows.boot_isinstance (qa_cons (qv 0) (qa_cons (qe_glob (v := .ref t.c_Q19) rfl T.m_Q19 rfl) qa_nil star_name) star_name)) (qa_cons (qe_callB (call_isK (K := K) rfl) (by rfl) T.z_isinstance PyProof.Rows.boot_isinstance (qa_cons (qv 0) (qa_cons (qe_bltn (v := V.ty "ValueError") rfl T.z_ValueError PyProof.Rows.Boot.ValueError rfl) qa_nil star_name) star_name)) qa_nil star_call) star_call) star_call)))
   (qss_one (qs_ret (qe_op op_cat (qv 1) (qe_lst (qa_cons (qe_callB (call_isK (K := K) rfl) (by rfl) T.z_isinstance PyProof.Rows.boot_isinstance (qa_cons (qv 0) (qa_cons (qe_tup (qa_cons (qe_glob (v := .ref t.c_Q35) rfl T.m_Q35 rfl) (qa_cons (qe_glob (v := .ref t.c_Q42) rfl T.m_Q42 rfl) (qa_cons (qe_glob (v := .ref t.c_Q43) rfl T.m_Q43 rfl) (qa_cons (qe_glob (v := .ref t.c_Q44) rfl T.m_Q44 rfl) (qa_cons (qe_glob (v := .ref t.c_Q36) rfl T.m_Q36 rfl) (qa_cons (qe_glob (v := .ref t.c_Q37) rfl T.m_Q37 rfl) (qa_cons (qe_glob (v := .ref t.c_Q20) rfl T.m_Q20 rfl) qa_nil star_name) star_name) star_name) star_name) star_name) star_name) star_name)) qa_nil star_tup) star_name)) qa_nil star_call)))))) ?_
 have cl := T.X_Q34.cl
 have gx := T.g_Q34
 refine ⟨_, rfl, x, _, dd, _, _, _, true, rfl, ex, ed, cl, gx, .inr (.inl ⟨_, rfl, T.y_self⟩), _, rfl, x, _, dd, _, _, _, true, rfl, ex, ed, cl, gx, .inr (.inl ⟨_, rfl, T.y_base⟩), _, rfl, x, _, dd, _, _, _, true, rfl, ex, ed, cl, gx, .inl ⟨_, rfl, T.y_val⟩, zl3, fun l1 h1 => ?_⟩
 have s1 := same_new h1 (.lst [.bl true, .bl true, .bl true])
 have hl1 : upd H l1 (.lst [.bl true, .bl true, .bl true]) l1 = some (.lst [.bl true, .bl true, .bl true]) := upd_same
 generalize upd H l1 (.lst [.bl true, .bl true, .bl true]) = H1 at s1 hl1 ⊢
 refine ⟨_, rfl, _, rfl, zl7, fun p2 g2 => ?_⟩
 have s2 := same_new g2 (.tup [.ref t.c_Q35, .ref t.c_Q42, .ref t.c_Q43, .ref t.c_Q44, .ref t.c_Q36, .ref t.c_Q37, .ref t.c_Q20])
 have s12 := s1.trans s2
 refine ⟨x, _, dd, _, _, _, false, rfl, s12 _ _ ex, s12 _ _ ed, cl, gx, .inr (.inr ⟨p2, [t.c_Q35, t.c_Q42, t.c_Q43, t.c_Q44, t.c_Q36, t.c_Q37, t.c_Q20], rfl, upd_same, T.y_not⟩), zl1, fun l3 h3 => ?_⟩
 have s3 := same_new h3 (.lst [.bl false])
 refine ⟨l1, l3, _, _, rfl, rfl, s3 _ _ (s2 _ _ hl1), upd_same, zl4, fun l4 h4 => ?_⟩
 exact k l4 _ ((s12.trans s3).trans (same_new h4 _)) upd_same
theorem ok_Q6 (T : Txt K mg t) : FnOk P w K mg base CX0 2 t.a_Q6 t.d_Q6 ["_law_thing"] (sp_law_is_ratio K) := by
 refine T.F_Q6.ok sc_Q6 (fun vs H Q E h => ?_) (fun cdv A outer s H vs Q E hr h => ?_)
 ·obtain ⟨_, _, rfl, _⟩ := h; rfl
 obtain ⟨v, d, rfl, hD, hb, k⟩ := h
 refine QSs.ok (qss_cons (qs_if (qw_pt (qw_or (qt_not (qt_val (qe_callB call_isiD (by rfl) T.z_isinstance PyProof.Rows.boot_isinstance (qa_cons (qv 0) (qa_cons (qe_bltn (v := V.ty "tuple") rfl T.z_tuple PyProof.Rows.boot_tuple rfl) qa_nil star_name) star_name)))) (qw_or1 (qt_cmpR op_ne (qe_callB call_len_seq (by rfl) T.z_len PySem.boot_len (qa_cons (qv 0) qa_nil star_name)) qe_int (nomark _))))) (qss_one (qs_ret qe_bl)) qss_nil)
   (qss_cons (qs_if (qw_pt (qw_or (qt_cmpR op_gt (qe_callB call_len_seq (by rfl) T.z_len PySem.boot_len (qa_cons (qe_lcomp (N' := ["_law_one"]) (src := [none]) rfl (by exact (qi_tup (qv 0))) (fun _ _ _ _ _ => (by exact (by exact qg_name (i := 0) (by show List.Nodup (["_law_one"] : List Str); decide +kernel) (by exact rfl) (by first | exact Or.inl rfl | exact Or.inr rfl)))) (fun _ _ _ _ _ => (qts_one (qw_pt (qw_or (qt_not (qt_val (by exact (qe_callB (call_isiDK (K := K) (by exact rfl)) (by exact rfl) T.z_isinstance PyProof.Rows.boot_isinstance (qa_cons (by exact (qv 0)) (qa_cons (by exact (qe_bltn (v := V.ty "int") rfl T.z_int PyProof.Rows.boot_int rfl)) qa_nil star_name) star_name))))) (qw_or1 (qt_val (by exact (qe_callB (call_isiDK (K := K) (by exact rfl)) (by exact rfl) T.z_isinstance PyProof.Rows.boot_isinstance (qa_cons (by exact (qv 0)) (qa_cons (by exact (qe_bltn (v := V.ty "bool") rfl T.z_bool PyProof.Rows.boot_bool rfl)) qa_nil star_name) star_name))))))))) (fun _ _ _ _ _ => (by exact (by exact (qv 0)))) (by exact trivial) rfl (by decide +kernel) rfl (by decide +kernel) (by exact cells_of rfl trivial)) qa_nil star_lc)) qe_int (nomark _)) (qw_or1 (qt_cmpR op_lt (qe_ix ix_tup (qv 0) qe_int (fun _ _ => rfl)) qe_int (nomark _))))) (qss_one (qs_ret qe_bl)) qss_nil)
   (qss_one (qs_ret (qe_cmpR (op_eqD hr) (qe_call (ok_Q27 T) (hr.mono (by decide)) rfl T.m_Q27 T.F_Q27.kp T.b_Q27 .nil pass0 (qa_cons (qe_ix ix_tup (qv 0) qe_int (fun _ _ => rfl)) (qa_cons (qe_ix ix_tup (qv 0) qe_int (fun _ _ => rfl)) qa_nil star_sub) star_sub)) (qv 0) (nomark _)))))) ?_
 rcases isi_tup hD with ⟨e, p, xs, ds, rfl, rfl, hS, hA⟩ | ⟨e, no⟩
 rotate_left
 ·refine ⟨_, rfl, _, _, _, _, rfl, hD, e, _, rfl, iteT (iteT ?_)⟩
  have := k _ (Same.refl _)
  rw [ratD_f fun a b z => absurd z (no _)] at this
  exact this
 refine ⟨_, rfl, _, _, _, _, rfl, hD, e, _, rfl, iteF ?_⟩
 have hl := hA.len
 refine ⟨_, rfl, p, _, rfl, .inr hS, rfl, _, rfl, ?_⟩
 by_cases c2 : ds.length = 2
 rotate_left
 ·refine iteN1 (fun z => c2 (by injection z with z; omega)) ?_
  have := k _ (Same.refl _)
  rw [ratD_f fun a b z => by cases z; exact absurd rfl c2] at this
  exact this
 refine iteNS (by rw [hl, c2]; rfl) ?_
 obtain ⟨q, x, y, dx, dy, e1, e2, hS', hx, hy⟩ := hD.two (show decide (ds.length = 2) = true from decide_eq_true c2)
 cases e1
 cases e2
 refine ⟨_, rfl, p, rfl, ⟨_, hS'⟩, fun D hDn => comp_ix (wlk_tup hS') (fun i => !wholeD ([dx, dy].getD i .none)) (fun i => [x, y].getD i .non) hDn (by show 2 ≤ 1000; decide) (fun i u H' hi s' hu R E kR kE => ?_) fun H1 s1 h1 => ?_⟩
 ·have hi2 : i < 2 := hi
  rcases (show i = 0 ∨ i = 1 by omega) with rfl | rfl
  ·cases hu
   obtain ⟨b, c, e1, e2, e3⟩ := isi_int (hx.same s')
   have w : wholeD dx = (b && !c) := e3
   refine ⟨Ext.set rfl, ?_⟩
   refine ⟨_, rfl, _, _, _, _, rfl, hx.same s', e1, _, rfl, ?_⟩
   cases b with
   | false => exact iteT (iteT ⟨_, rfl, kR (by show (!wholeD dx) = true; rw [w]; rfl) _ (Same.refl _)⟩)
   | true =>
    refine iteF ⟨_, rfl, _, _, _, _, rfl, hx.same s', e2, _, rfl, ?_⟩
    cases c with
    | false => exact iteF (kE (by show (!wholeD dx) = false; rw [w]; rfl) _ (Same.refl _))
    | true => exact iteT ⟨_, rfl, kR (by show (!wholeD dx) = true; rw [w]; rfl) _ (Same.refl _)⟩
  ·cases hu
   obtain ⟨b, c, e1, e2, e3⟩ := isi_int (hy.same s')
   have w : wholeD dy = (b && !c) := e3
   refine ⟨Ext.set rfl, ?_⟩
   refine ⟨_, rfl, _, _, _, _, rfl, hy.same s', e1, _, rfl, ?_⟩
   cases b with
   | false => exact iteT (iteT ⟨_, rfl, kR (by show (!wholeD dy) = true; rw [w]; rfl) _ (Same.refl _)⟩)
   | true =>
    refine iteF ⟨_, rfl, _, _, _, _, rfl, hy.same s', e2, _, rfl, ?_⟩
    cases c with
    | false => exact iteF (kE (by show (!wholeD dy) = false; rw [w]; rfl) _ (Same.refl _))
    | true => exact iteT ⟨_, rfl, kR (by show (!wholeD dy) = true; rw [w]; rfl) _ (Same.refl _)⟩
 replace h1 : H1 D = some (.lst ((([0, 1] : List Nat).filter (fun i => !wholeD ([dx, dy].getD i .none))).map fun i => [x, y].getD i .non)) := h1
 cases wx : wholeD dx with
 | false =>
  cases wy : wholeD dy with
  | false =>
  simp [wx, wy] at h1
  refine ⟨D, _, rfl, .inl (SqL.of h1), _, _, rfl, rfl, _, rfl, iteD1 (by show ((2 : Nat) : Int) > 0; decide) (iteT ?_)⟩
  have := k _ s1
  rw [rat_x wx] at this
  exact this
  | true =>
  simp [wx, wy] at h1
  refine ⟨D, _, rfl, .inl (SqL.of h1), _, _, rfl, rfl, _, rfl, iteD1 (by show ((1 : Nat) : Int) > 0; decide) (iteT ?_)⟩
  have := k _ s1
  rw [rat_x wx] at this
  exact this
 | true =>
  cases wy : wholeD dy with
  | false =>
  simp [wx, wy] at h1
  refine ⟨D, _, rfl, .inl (SqL.of h1), _, _, rfl, rfl, _, rfl, iteD1 (by show ((1 : Nat) : Int) > 0; decide) (iteT ?_)⟩
  have := k _ s1
  rw [rat_y wy] at this
  exact this
  | true =>
  simp [wx, wy] at h1
  obtain ⟨i, rfl⟩ := wholeD_int wx
  obtain ⟨j, rfl⟩ := wholeD_int wy
  cases hx
  cases hy
  refine ⟨D, _, rfl, .inl (SqL.of h1), _, _, rfl, rfl, _, rfl, iteD0 (by show ¬ ((0 : Nat) : Int) > 0; decide) ?_⟩
  have hS2 := Tst.same (K := K) s1 _ _ hS'
  refine ⟨_, rfl, p, _, _, _, rfl, rfl, hS2, rfl, _, _, rfl, rfl, _, rfl, ?_⟩
  by_cases j0 : j < 1
  ·refine iteD1 j0 ?_
   have := k _ s1
   rw [ratD_f fun a b z => by cases z; omega] at this
   exact this
  refine iteD0 j0 ?_
  have b2 := of_decide_eq_true (show decide (j.natAbs < 2 ^ 230) = true from ibdAll_mem (show ibdAll [.int i, .int j] = true from hb) (.int j) (List.mem_cons_of_mem _ List.mem_cons_self))
  refine ⟨_, rfl, p, _, _, _, rfl, rfl, hS2, rfl, _, rfl, p, _, _, _, rfl, rfl, hS2, rfl, i, j, rfl, by omega, big_of (n := 230) b2 (by decide), fun pm hm => ?_⟩
  have s3 := same_new hm (.tup [.int (mkR i j).1, .int (mkR i j).2])
  refine ⟨_, rfl, dR (mkR i j), dR (i, j), (RV.of (K := K) upd_same).deep, .tup (Tst.same (K := K) s3 _ _ hS2) (.cons (.int _) (.cons (.int _) .nil)), dR_lay _, dR_lay _, (by show max 0 (max 0 0) + 1 ≤ 32; decide), ?_⟩
  have := k _ (s1.trans s3)
  have ev : PyData.eqv (dR (mkR i j)) (dR (i, j)) = ratD (.tuple [.int i, .int j]) := by
   show _ = (decide (1 ≤ j) && decide (Int.gcd i j = 1))
   rw [decide_eq_true (show 1 ≤ j by omega), Bool.true_and]
   by_cases g : Int.gcd i j = 1
   ·rw [decide_eq_true g, (mkR_is (by omega)).mpr g]; exact eqv_same _
   ·rw [decide_eq_false g]
    cases z : PyData.eqv (dR (mkR i j)) (dR (i, j)) with
    | false => rfl
    | true => exact absurd ((mkR_is (by omega)).mp (eqv_dR z)) g
  rw [ev]
  exact this
theorem ok_Q16 (T : Txt K mg t) : FnOk P w K mg base CX0 4 t.a_Q16 t.d_Q16 ["_law_works_here", "_law_rule_here", "_law_thing"] (sp_law_wrong K) := by
 refine T.F_Q16.ok sc_Q16 (fun vs H Q E h => ?_) (fun cdv A outer s H vs Q E hr h => ?_)
 ·obtain ⟨_, _, _, _, _, _, rfl, _⟩ := h; rfl
 obtain ⟨pw, xw, v, c, rl, d, rfl, hW, hv, ok, hDp, hbd, hsp, n9, k⟩ := h
 refine QSs.ok (qss_cons (qs_if (qw_pt (qw_or (qt_not (qt_val (qe_callB call_isiD (by rfl) T.z_isinstance PyProof.Rows.boot_isinstance (qa_cons (qv 2) (qa_cons (qe_bltn (v := V.ty "tuple") rfl T.z_tuple PyProof.Rows.boot_tuple rfl) qa_nil star_name) star_name)))) (qw_or1 (qt_cmpR op_ne (qe_callB call_len_seq (by rfl) T.z_len PySem.boot_len (qa_cons (qv 2) qa_nil star_name)) (qe_callB call_len_seq (by rfl) T.z_len PySem.boot_len (qa_cons (qv 0) qa_nil star_name)) (nomark _))))) (qss_one (qs_ret (qe_un un_neg qe_int))) qss_nil)
   (qss_cons (qs_for PassesOwn.never rfl (qi_tup (qv 2)) (qg_name (i := 3) sc_Q16.nd rfl (by first | exact Or.inl rfl | exact Or.inr rfl))
   (qss_one (qs_if (qw_pt (qw_or (qt_not (qt_val (qe_callB call_isiD (by rfl) T.z_isinstance PyProof.Rows.boot_isinstance (qa_cons (qv 3) (qa_cons (qe_bltn (v := V.ty "tuple") rfl T.z_tuple PyProof.Rows.boot_tuple rfl) qa_nil star_name) star_name)))) (qw_or (qt_cmpR op_ne (qe_callB call_len_seq (by rfl) T.z_len PySem.boot_len (qa_cons (qv 3) qa_nil star_name)) qe_int (nomark _)) (qw_or (qt_not (qt_val (qe_call (ok_Q6 T) (hr.mono (by decide)) rfl T.m_Q6 T.F_Q6.kp T.b_Q6 .nil pass0 (qa_cons (qe_ix ix_tup (qv 3) qe_int (fun _ _ => rfl)) qa_nil star_sub)))) (qw_or1 (qt_not (qt_val (qe_call (ok_Q6 T) (hr.mono (by decide)) rfl T.m_Q6 T.F_Q6.kp T.b_Q6 .nil pass0 (qa_cons (qe_ix ix_tup (qv 3) qe_int (fun _ _ => rfl)) qa_nil star_sub))))))))) (qss_one (qs_ret (qe_un un_neg qe_int))) qss_nil)))
   (qss_cons (qs_for PassesOwn.never rfl (qi_range1 rfl T.z_range (qa_cons (qe_callB call_len_seq (by rfl) T.z_len PySem.boot_len (qa_cons (qv 0) qa_nil star_name)) qa_nil star_call)) (qg_name (i := 4) sc_Q16.nd rfl (by first | exact Or.inl rfl | exact Or.inr rfl))
   (qss_cons (qs_asg (qe_ix ix_tup (qv 2) (qv 4) (fun _ _ => rfl)) (qg_tup rfl (qgs_cons (qg_name (i := 5) sc_Q16.nd rfl (by first | exact Or.inl rfl | exact Or.inr rfl)) (qgs_cons (qg_name (i := 6) sc_Q16.nd rfl (by first | exact Or.inl rfl | exact Or.inr rfl)) qgs_nil))))
   (qss_cons (qs_if (qw_pt (qw_or (qt_val (qe_call (ok_Q28 T) (hr.mono (by decide)) rfl T.m_Q28 T.F_Q28.kp T.b_Q28 .nil pass0 (qa_cons (qv 5) (qa_cons (qe_tup (qa_cons qe_int (qa_cons qe_int qa_nil star_con) star_con)) qa_nil star_tup) star_name))) (qw_or1 (qw_pt (qw_and (qt_cmpR op_eq (qe_ix ix_tup (qv 1) qe_int (fun _ _ => rfl)) qe_str (nomark _)) (qw_and1 (qt_val (qe_call (ok_Q28 T) (hr.mono (by decide)) rfl T.m_Q28 T.F_Q28.kp T.b_Q28 .nil pass0 (qa_cons (qe_ix ix_tup (qe_ix ix_tup (qe_ix ix_tup (qv 1) qe_int (fun _ _ => rfl)) (qe_un un_neg qe_int) (fun _ _ => rfl)) qe_int (fun _ _ => rfl)) (qa_cons (qv 5) qa_nil star_name) star_sub))))))))) (qss_one (qs_ret (qv 4))) qss_nil)
   (qss_cons (qs_asg (qe_call (ok_Q9 T) (hr.mono (by decide)) rfl T.m_Q9 T.F_Q9.kp T.b_Q9 .nil pass0 (qa_cons (qv 1) (qa_cons (qv 5) qa_nil star_name) star_name)) (qg_tup rfl (qgs_cons (qg_name (i := 7) sc_Q16.nd rfl (by first | exact Or.inl rfl | exact Or.inr rfl)) (qgs_cons (qg_name (i := 8) sc_Q16.nd rfl (by first | exact Or.inl rfl | exact Or.inr rfl)) qgs_nil))))
   (qss_one (qs_if (qw_pt (qw_or (qt_val (qe_call (ok_Q28 T) (hr.mono (by decide)) rfl T.m_Q28 T.F_Q28.kp T.b_Q28 .nil pass0 (qa_cons (qv 6) (qa_cons (qv 7) qa_nil star_name) star_name))) (qw_or1 (qw_pt (qw_and (qt_cmpR op_notN (qv 8) qe_non (nomark _)) (qw_and1 (qt_val (qe_call (ok_Q28 T) (hr.mono (by decide)) rfl T.m_Q28 T.F_Q28.kp T.b_Q28 .nil pass0 (qa_cons (qv 8) (qa_cons (qv 6) qa_nil star_name) star_name))))))))) (qss_one (qs_ret (qv 4))) qss_nil))))))
   (qss_one (qs_ret qe_non))))) ?_
 have shp : shpP xw.length d = false -> ∀ H', Same H H' -> Q (.int (-1)) H' := fun sh H' s' => by
  have := k H' s'
  rw [show wrongP xw.length rl d = some (-1) by unfold wrongP; rw [sh]; rfl] at this
  exact this
 rcases isi_tup hDp with ⟨e, pc, xc, ds, rfl, rfl, hC, alD⟩ | ⟨e, no⟩
 rotate_left
 ·refine ⟨_, rfl, _, _, _, _, rfl, hDp, e, _, rfl, iteT (iteT ?_)⟩
  exact ⟨_, rfl, shp (by cases d with | tuple ds => exact absurd rfl (no _) | _ => rfl) _ (Same.refl _)⟩
 refine ⟨_, rfl, _, _, _, _, rfl, hDp, e, _, rfl, iteF ?_⟩
 have lcd := alD.len
 refine ⟨_, rfl, pc, _, rfl, .inr hC, _, rfl, pw, _, rfl, .inr hW, rfl, _, rfl, ?_⟩
 by_cases ldd : ds.length = xw.length
 rotate_left
 ·refine iteN1 (fun z => ldd (by injection z with z; omega)) ?_
  exact ⟨_, rfl, shp (by show (decide (ds.length = xw.length) && ds.all pairD) = false; rw [decide_eq_false ldd]; rfl) _ (Same.refl _)⟩
 refine iteNS (by rw [show (xc.length : Int) = (xw.length : Int) by omega]) ?_
 have bad : ∀ (i : Nat) (hi : i < ds.length), pairD ds[i] = false -> shpP xw.length (.tuple ds) = false := fun i hi h => by
  show (decide (ds.length = xw.length) && ds.all pairD) = false
  rw [Bool.and_eq_false_iff]
  right
  rw [List.all_eq_false]
  exact ⟨ds[i], List.getElem_mem hi, by rw [h]; exact Bool.false_ne_true⟩
 refine ⟨_, rfl, pc, rfl, ⟨_, hC⟩, for_tup (K := K) (a := pc) (xs := xc) (fun i σ H' => ∃ (x3 : Option V), σ = [some (.ref pw), some v, some (.ref pc), x3, none, none, none, none, none] /\ Same H H' /\ ∀ m, m < i -> pairD (ds.getD m .none) = true) ⟨none, rfl, Same.refl H, fun m hm => absurd hm (Nat.not_lt_zero _)⟩ (fun i σ H1 _ ⟨_, _, sm, _⟩ => Tst.same sm _ _ hC) ?_ ?_⟩
 ·rintro i x σ H1 hx ⟨x3, rfl, s1, gd⟩
  have hil : i < ds.length := by have := (List.getElem?_eq_some_iff.mp hx).1; omega
  have hde : ds[i]? = some ds[i] := List.getElem?_eq_getElem hil
  obtain ⟨w, hw, dv0⟩ := DeepAll.atN alD hde
  rw [hx] at hw
  cases hw
  have bi := ibdAll_mem (show ibdAll ds = true from hbd) _ (List.getElem_mem hil)
  have dv := dv0.same s1
  have bd := bad i hil
  generalize hq : ds[i] = di at dv bd bi
  rcases isi_tup dv with ⟨e, p, xs, dd, rfl, rfl, hS, hA⟩ | ⟨e, no⟩
  rotate_left
  ·refine ⟨_, rfl, _, _, _, _, rfl, dv, e, _, rfl, iteT (iteT ?_)⟩
   exact ⟨_, rfl, shp (bd (pairD_f fun x y z => absurd z (no _))) _ s1⟩
  refine ⟨_, rfl, _, _, _, _, rfl, dv, e, _, rfl, iteF ?_⟩
  have hl := hA.len
  refine ⟨_, rfl, p, _, rfl, .inr hS, rfl, _, rfl, ?_⟩
  by_cases c2 : dd.length = 2
  rotate_left
  ·refine iteN1 (fun z => c2 (by injection z with z; omega)) (iteT ?_)
   exact ⟨_, rfl, shp (bd (pairD_f fun x y z => by cases z; exact absurd rfl c2)) _ s1⟩
  refine iteNS (by rw [hl, c2]; rfl) ?_
  obtain ⟨q, x, y, dx, dy, e1, e2, hS', hx_, hy_⟩ := dv.two (show decide (dd.length = 2) = true from decide_eq_true c2)
  cases e1
  cases e2
  have bx := ibdAll_mem (show ibdAll [dx, dy] = true from bi) dx List.mem_cons_self
  have by_ := ibdAll_mem (show ibdAll [dx, dy] = true from bi) dy (List.mem_cons_of_mem _ List.mem_cons_self)
  refine ⟨_, rfl, p, _, _, _, rfl, rfl, hS', rfl, x, dx, rfl, hx_, bx, fun H2 s2 => ⟨_, rfl, ?_⟩⟩
  cases cx : ratD dx with
  | false =>
   refine iteT (iteT ?_)
   exact ⟨_, rfl, shp (bd (pairD_f fun x y z => by cases z; rw [cx]; exact fun w => by cases w.1)) _ (s1.trans s2)⟩
  | true =>
  refine iteF ?_
  refine ⟨_, rfl, p, _, _, _, rfl, rfl, Tst.same (K := K) s2 _ _ hS', rfl, y, dy, rfl, hy_.same s2, by_, fun H3 s3 => ⟨_, rfl, ?_⟩⟩
  have s13 := (s1.trans s2).trans s3
  cases cy : ratD dy with
  | false =>
   refine iteT ?_
   exact ⟨_, rfl, shp (bd (pairD_f fun x y z => by cases z; rw [cy]; exact fun w => by cases w.2)) _ s13⟩
  | true =>
  refine iteF ⟨_, rfl, s13, fun m hm => ?_⟩
  by_cases z : m < i
  ·exact gd m z
  ·have : m = i := by omega
   subst this
   rw [getD_of PyData.none hde, hq]
   show (ratD dx && ratD dy) = true
   rw [cx, cy]; rfl
 rintro σ H1 ⟨x3, rfl, s1, gd⟩
 clear bad shp
 have alr : ds.all pairD = true := List.all_eq_true.mpr fun e he => by
  obtain ⟨j, hj, e'⟩ := List.mem_iff_getElem.mp he
  have := gd j (by omega)
  rw [getD_of PyData.none (List.getElem?_eq_getElem hj), e'] at this
  exact this
 have bdd : wrongP xw.length rl (.tuple ds) = ((List.range xw.length).find? fun i => !okP rl (ds.getD i .none)).map fun i => (i : Int) := by
  unfold wrongP
  rw [show shpP xw.length (.tuple ds) = true by show (decide (ds.length = xw.length) && ds.all pairD) = true; rw [alr, decide_eq_true ldd]; rfl]
  rfl
 rw [bdd] at k
 have t1 := Tst.same (K := K) s1
 refine ⟨_, rfl, pw, _, rfl, .inr (t1 _ _ hW), _, rfl, by omega, by omega, for_range (lo := 0) (n := (xw.length : Int).toNat) (fun i σ H' => ∃ (x4 x5 x6 x7 x8 : Option V), σ = [some (.ref pw), some v, some (.ref pc), x3, x4, x5, x6, x7, x8] /\ Same H H' /\ ∀ m, m < i -> okP rl (ds.getD m .none) = true) ⟨none, none, none, none, none, rfl, s1, fun m hm => absurd hm (Nat.not_lt_zero _)⟩ ?_ ?_⟩
 ·rintro i σ H2 hi ⟨x4, x5, x6, x7, x8, rfl, s2, gd2⟩
  rw [Int.zero_add]
  have t2 := Tst.same (K := K) s2
  have hil : i < ds.length := by omega
  have hde : ds[i]? = some ds[i] := List.getElem?_eq_getElem hil
  obtain ⟨w, hw, dv0⟩ := DeepAll.atN alD hde
  have mm : ds[i] ∈ ds := List.getElem_mem hil
  have pr := List.all_eq_true.mp alr _ mm
  have bi := ibdAll_mem (show ibdAll ds = true from hbd) _ mm
  have spi := hsp _ mm pr
  have bad : okP rl ds[i] = false -> ∀ H', Same H H' -> Q (.int (i : Int)) H' := fun h H' s' => by
   have := k H' s'
   rw [find_at (i := i) (show i < xw.length by omega) (by rw [getD_of PyData.none hde, h]; rfl) (fun j hj => by rw [gd2 j hj]; rfl)] at this
   exact this
  have nxt : okP rl ds[i] = true -> ∀ m, m < i + 1 -> okP rl (ds.getD m .none) = true := fun h m hm => by
   by_cases z : m < i
   ·exact gd2 m z
   ·have : m = i := by omega
    subst this
    rw [getD_of PyData.none hde]; exact h
  generalize ds[i] = di at dv0 pr bi spi bad nxt
  have dv := dv0.same s2
  obtain ⟨dx, dy, rfl, rx, ry⟩ := pair_two pr
  obtain ⟨p, v1, v2, d1, d2, rfl, e, hS, hx_, hy_⟩ := dv.two (show tupD 2 (.tuple [dx, dy]) = true from rfl)
  cases e
  have bx := ibdAll_mem (show ibdAll [dx, dy] = true from bi) dx List.mem_cons_self
  have by_ := ibdAll_mem (show ibdAll [dx, dy] = true from bi) dy (List.mem_cons_of_mem _ List.mem_cons_self)
  obtain ⟨rv1, w1⟩ := rv_rat hx_ rx bx
  obtain ⟨rv2, w2⟩ := rv_rat hy_ ry by_
  have bq : Bq (D0 * 2) N1 (toRD dx) := spi
  have ws : Wf 98 (toRD dx) := bq.wf (by decide) (by decide) (by decide)
  have bad' : priceM rl (toRD dx) (toRD dy) = false -> ∀ H', Same H H' -> Q (.int (i : Int)) H' := bad
  have nxt' : priceM rl (toRD dx) (toRD dy) = true -> ∀ m, m < i + 1 -> okP rl (ds.getD m .none) = true := nxt
  clear bad nxt
  refine ⟨_, rfl, _, rfl, pc, _, _, _, rfl, rfl, t2 _ _ hC, atI_nat hw, p, _, rfl, hS, rfl, _, _, rfl, _, _, rfl, rfl, ?_⟩
  refine ⟨_, rfl, zl2, fun pz hpz => ?_⟩
  have sz := same_new hpz (.tup [.int 0, .int 1])
  have rz : RV K (upd H2 pz (.tup [.int 0, .int 1])) (.ref pz) (0, 1) := RV.of upd_same
  generalize upd H2 pz (.tup [.int 0, .int 1]) = H3 at sz rz ⊢
  have s3 := s2.trans sz
  have t3 := Tst.same (K := K) sz
  refine ⟨v1, .ref pz, toRD dx, (0, 1), 98, 1, rfl, rv1.mono t3, rz, ws, zero_wf, by decide, _, rfl, ?_⟩
  cases c0 : lessR (toRD dx) (0, 1) with
  | true =>
   refine iteT (iteT ⟨_, rfl, ?_⟩)
   exact bad' (by unfold priceM; rw [c0]; rfl) _ s3
  | false =>
  refine iteF ?_
  cases rl with
  | pow kk =>
   obtain ⟨pr_, rfl, hSr⟩ := hv
   have c1 : beyM (.pow kk) (toRD dx) = false := rfl
   have hv : RlV K H (.ref pr_) (.pow kk) := ⟨pr_, rfl, hSr⟩
   generalize hV : V.ref pr_ = v at hv ⊢
   refine ⟨_, rfl, pr_, _, _, _, hV.symm, rfl, Tst.same (K := K) s3 _ _ hSr, rfl, rfl, _, rfl, iteD0 (by decide) (iteF ?_)⟩
   have hb := bey_below ok c1
   have hs : SpOk (toRD dx) := ⟨bq, nn_less.mp c0⟩
   refine ⟨_, rfl, _, rfl, v, v1, (Rl.pow kk), toRD dx, rfl, hv.mono (Tst.same s3), ok, rv1.mono t3, hs, hb, fun u H4 s4 sid => ?_⟩
   obtain ⟨ps, x1, x2, rfl, hps, rvl, rvr⟩ := sid
   have s34 := s3.trans s4
   have t34 := t3.trans (Tst.same (K := K) s4)
   obtain ⟨wl, wr⟩ := sides_wf ok hs hb
   have pm : priceM (Rl.pow kk) (toRD dx) (toRD dy) = bearM (sidesOf (Rl.pow kk) (toRD dx)).1 (sidesOf (Rl.pow kk) (toRD dx)).2 (toRD dy) := by unfold priceM; rw [c0, c1]; rfl
   generalize (sidesOf (Rl.pow kk) (toRD dx)).1 = gl at wl rvl pm
   generalize (sidesOf (Rl.pow kk) (toRD dx)).2 = gr at wr rvr pm
   refine ⟨ps, _, rfl, hps, rfl, _, _, rfl, _, _, rfl, rfl, ?_⟩
   refine ⟨_, rfl, _, rfl, v2, x1, toRD dy, gl, 230, 300, rfl, rv2.mono t34, rvl, w2, wl, by decide, _, rfl, ?_⟩
   cases c2 : lessR (toRD dy) gl with
   | true =>
    refine iteT (iteT ⟨_, rfl, ?_⟩)
    exact bad' (by rw [pm]; unfold bearM; rw [c2]; rfl) _ s34
   | false =>
   refine iteF ?_
   cases gr with
   | none =>
    have e2 : x2 = .non := rvr
    subst e2
    refine ⟨_, rfl, rfl, _, rfl, iteNS rfl (iteF ⟨_, _, _, _, _, rfl, s34, nxt' ?_⟩)⟩
    rw [pm]; unfold bearM; rw [c2]; rfl
   | some gr =>
    have rvr' : RV K H4 x2 gr := rvr
    obtain ⟨px2, rfl, hx2⟩ := id rvr'
    refine ⟨_, rfl, rfl, _, rfl, iteN1 (fun e => by cases e) ?_⟩
    refine ⟨_, rfl, _, rfl, _, v2, gr, toRD dy, 300, 230, rfl, rvr', rv2.mono t34, wr gr rfl, w2, by decide, _, rfl, ?_⟩
    cases c3 : lessR gr (toRD dy) with
    | true =>
     refine iteT ⟨_, rfl, ?_⟩
     exact bad' (by rw [pm]; unfold bearM; rw [c2]; show (!false && !lessR gr (toRD dy)) = false; rw [c3]; rfl) _ s34
    | false =>
     refine iteF ⟨_, _, _, _, _, rfl, s34, nxt' ?_⟩
     rw [pm]; unfold bearM; rw [c2]; show (!false && !lessR gr (toRD dy)) = true; rw [c3]; rfl
  | tab rows =>
   have ok' : RowsOk rows := ok
   obtain ⟨pr_, qr, xr, rfl, hSr, hqr, alr_⟩ := hv
   have n2 := ok'.n2
   have hv : RlV K H (.ref pr_) (.tab rows) := ⟨pr_, qr, xr, rfl, hSr, hqr, alr_⟩
   obtain ⟨xl, rlast, hlast, hrl, ⟨pl, y1, y2, rfl, hSl, rvt, _⟩, _⟩ := alr_.last (n := rows.length - 1) (by omega)
   have wt : Wf 98 rlast.1 := wfS (ok'.sp _ (List.mem_of_getElem? hrl))
   have tm : topM rows = rlast.1 := by unfold topM; rw [getD_at hrl]
   generalize hV : V.ref pr_ = v at hv ⊢
   have tz := Tst.same (K := K) s3
   refine ⟨_, rfl, pr_, _, _, _, hV.symm, rfl, tz _ _ hSr, rfl, rfl, _, rfl, iteD1 (by decide) ?_⟩
   refine ⟨_, rfl, pr_, _, _, _, hV.symm, rfl, tz _ _ hSr, rfl, _, rfl, qr, _, _, _, rfl, rfl, tz _ _ hqr, hlast, pl, _, _, _, rfl, rfl, tz _ _ hSl, rfl, _, rfl, y1, v1, rlast.1, toRD dx, 98, 98, rfl, rvt.mono tz, rv1.mono t3, wt, ws, by decide, _, rfl, ?_⟩
   cases c1' : lessR rlast.1 (toRD dx) with
   | true =>
    refine iteT ⟨_, rfl, ?_⟩
    exact bad' (by unfold priceM; rw [c0, show beyM (.tab rows) (toRD dx) = true by show lessR (topM rows) (toRD dx) = true; rw [tm]; exact c1']; rfl) _ s3
   | false =>
   refine iteF ?_
   have c1 : beyM (.tab rows) (toRD dx) = false := by show lessR (topM rows) (toRD dx) = false; rw [tm]; exact c1'
   have hb := bey_below ok c1
   have hs : SpOk (toRD dx) := ⟨bq, nn_less.mp c0⟩
   refine ⟨_, rfl, _, rfl, v, v1, (Rl.tab rows), toRD dx, rfl, hv.mono (Tst.same s3), ok, rv1.mono t3, hs, hb, fun u H4 s4 sid => ?_⟩
   obtain ⟨ps, x1, x2, rfl, hps, rvl, rvr⟩ := sid
   have s34 := s3.trans s4
   have t34 := t3.trans (Tst.same (K := K) s4)
   obtain ⟨wl, wr⟩ := sides_wf ok hs hb
   have pm : priceM (Rl.tab rows) (toRD dx) (toRD dy) = bearM (sidesOf (Rl.tab rows) (toRD dx)).1 (sidesOf (Rl.tab rows) (toRD dx)).2 (toRD dy) := by unfold priceM; rw [c0, c1]; rfl
   generalize (sidesOf (Rl.tab rows) (toRD dx)).1 = gl at wl rvl pm
   generalize (sidesOf (Rl.tab rows) (toRD dx)).2 = gr at wr rvr pm
   refine ⟨ps, _, rfl, hps, rfl, _, _, rfl, _, _, rfl, rfl, ?_⟩
   refine ⟨_, rfl, _, rfl, v2, x1, toRD dy, gl, 230, 300, rfl, rv2.mono t34, rvl, w2, wl, by decide, _, rfl, ?_⟩
   cases c2 : lessR (toRD dy) gl with
   | true =>
    refine iteT (iteT ⟨_, rfl, ?_⟩)
    exact bad' (by rw [pm]; unfold bearM; rw [c2]; rfl) _ s34
   | false =>
   refine iteF ?_
   cases gr with
   | none =>
    have e2 : x2 = .non := rvr
    subst e2
    refine ⟨_, rfl, rfl, _, rfl, iteNS rfl (iteF ⟨_, _, _, _, _, rfl, s34, nxt' ?_⟩)⟩
    rw [pm]; unfold bearM; rw [c2]; rfl
   | some gr =>
    have rvr' : RV K H4 x2 gr := rvr
    obtain ⟨px2, rfl, hx2⟩ := id rvr'
    refine ⟨_, rfl, rfl, _, rfl, iteN1 (fun e => by cases e) ?_⟩
    refine ⟨_, rfl, _, rfl, _, v2, gr, toRD dy, 300, 230, rfl, rvr', rv2.mono t34, wr gr rfl, w2, by decide, _, rfl, ?_⟩
    cases c3 : lessR gr (toRD dy) with
    | true =>
     refine iteT ⟨_, rfl, ?_⟩
     exact bad' (by rw [pm]; unfold bearM; rw [c2]; show (!false && !lessR gr (toRD dy)) = false; rw [c3]; rfl) _ s34
    | false =>
     refine iteF ⟨_, _, _, _, _, rfl, s34, nxt' ?_⟩
     rw [pm]; unfold bearM; rw [c2]; show (!false && !lessR gr (toRD dy)) = true; rw [c3]; rfl
 ·rintro σ H2 ⟨x4, x5, x6, x7, x8, rfl, s2, gd2⟩
  have := k H2 s2
  rw [find_no (fun j hj => by rw [gd2 j (by omega)]; rfl)] at this
  exact this
theorem ok_Q30 (T : Txt K mg t) : FnOk P w K mg base CX0 3 t.a_Q30 t.d_Q30 ["_law_tape_here", "_law_rule_here", "_law_pair"] (sp_law_bent K) := by
 refine T.F_Q30.ok sc_Q30 (fun vs H Q E h => ?_) (fun cdv A outer s H vs Q E hr h => ?_)
 ·obtain ⟨_, _, _, _, _, _, _, rfl, _⟩ := h; rfl
 obtain ⟨t₁, s₁, D, v, w, z, g, rfl, tp, nD, hd_, hrow, kz, wg, k⟩ := h
 refine QSs.ok (qss_cons (qs_asg (qv 2) (qg_tup rfl (qgs_cons (qg_name (i := 3) sc_Q30.nd rfl (by first | exact Or.inl rfl | exact Or.inr rfl)) (qgs_cons (qg_name (i := 4) sc_Q30.nd rfl (by first | exact Or.inl rfl | exact Or.inr rfl)) qgs_nil))))
   (qss_cons (qsA 5 sc_Q30.nd (qe_call (ok_Q32 T) (hr.mono (by decide)) rfl T.m_Q32 T.F_Q32.kp T.b_Q32 .nil pass0 (qa_cons (qv 4) (qa_cons (qe_call (ok_Q27 T) (hr.mono (by decide)) rfl T.m_Q27 T.F_Q27.kp T.b_Q27 .nil pass0 (qa_cons (qe_ix ix_list (qe_lst (qa_cons qe_int (qa_cons (qe_un un_neg qe_int) qa_nil star_un) star_con)) (qe_call (ok_Q26 T) (hr.mono (by decide)) rfl T.m_Q26 T.F_Q26.kp T.b_Q26 .nil pass0 (qa_cons (qv 0) (qa_cons qe_int qa_nil star_con) star_name)) (fun _ _ => rfl)) (qa_cons (qe_ix ix_list (qe_lst (qa_cons qe_int (qa_cons qe_int (qa_cons qe_int qa_nil star_con) star_con) star_con)) (qe_call (ok_Q26 T) (hr.mono (by decide)) rfl T.m_Q26 T.F_Q26.kp T.b_Q26 .nil pass0 (qa_cons (qv 0) (qa_cons qe_int qa_nil star_con) star_name)) (fun _ _ => rfl)) qa_nil star_sub) star_sub)) qa_nil star_call) star_name)))
   (qss_cons (qsA 6 sc_Q30.nd (qe_lst (qa_cons (qe_tup (qa_cons (qv 3) (qa_cons (qv 5) qa_nil star_name) star_name)) (qa_cons (qe_tup (qa_cons (qe_call (ok_Q32 T) (hr.mono (by decide)) rfl T.m_Q32 T.F_Q32.kp T.b_Q32 .nil pass0 (qa_cons (qv 3) (qa_cons (qe_tup (qa_cons qe_int (qa_cons qe_int qa_nil star_con) star_con)) qa_nil star_tup) star_name)) (qa_cons (qv 4) qa_nil star_name) star_call)) (qa_cons (qe_tup (qa_cons (qe_call (ok_Q32 T) (hr.mono (by decide)) rfl T.m_Q32 T.F_Q32.kp T.b_Q32 .nil pass0 (qa_cons (qv 3) (qa_cons (qe_tup (qa_cons qe_int (qa_cons qe_int qa_nil star_con) star_con)) qa_nil star_tup) star_name)) (qa_cons (qv 4) qa_nil star_name) star_call)) (qa_cons (qe_tup (qa_cons (qe_tup (qa_cons (qe_un un_neg qe_int) (qa_cons qe_int qa_nil star_con) star_un)) (qa_cons (qv 4) qa_nil star_name) star_tup)) qa_nil star_tup) star_tup) star_tup) star_tup)))
   (qss_cons (qsA 6 sc_Q30.nd (qe_op op_cat (qv 6) (qe_lst (qa_cons (qe_tup (qa_cons (qv 3) (qa_cons (qe_tup (qa_cons qe_int (qa_cons qe_int qa_nil star_con) star_con)) qa_nil star_tup) star_name)) (qa_cons (qe_tup (qa_cons (qe_tup (qa_cons qe_bl (qa_cons qe_int qa_nil star_con) star_con)) (qa_cons (qv 4) qa_nil star_name) star_tup)) (qa_cons (qe_lst (qa_cons (qv 3) (qa_cons (qv 4) qa_nil star_name) star_name)) (qa_cons (qe_tup (qa_cons (qv 3) qa_nil star_name)) (qa_cons (qe_tup (qa_cons (qv 3) (qa_cons (qe_callTy call_list_of (by rfl) T.z_list PyProof.Rows.boot_list (qa_cons (qv 4) qa_nil star_name)) qa_nil star_call) star_name)) qa_nil star_tup) star_tup) star_lst) star_tup) star_tup))))
   (qss_cons (qsA 6 sc_Q30.nd (qe_op op_cat (qv 6) (qe_lst (qa_cons (qe_tup (qa_cons (qv 3) (qa_cons qe_non qa_nil star_con) star_name)) qa_nil star_tup))))
   (qss_cons (qsA 6 sc_Q30.nd (qe_op op_cat (qv 6) (qe_lst (qa_cons (qe_tup (qa_cons (qv 3) (qa_cons (qe_tup (qa_cons (qe_ix ix_tup (qv 4) qe_int (fun _ _ => rfl)) (qa_cons (qe_un un_neg (qe_ix ix_tup (qv 4) qe_int (fun _ _ => rfl))) qa_nil star_un) star_sub)) qa_nil star_tup) star_name)) (qa_cons (qe_tup (qa_cons (qv 3) (qa_cons (qv 4) (qa_cons (qv 4) qa_nil star_name) star_name) star_name)) (qa_cons qe_non (qa_cons (qe_tup (qa_cons (qe_tup (qa_cons qe_int (qa_cons qe_int qa_nil star_con) star_con)) (qa_cons (qv 4) qa_nil star_name) star_tup)) (qa_cons (qe_tup (qa_cons (qv 3) (qa_cons (qe_tup (qa_cons qe_int (qa_cons qe_int qa_nil star_con) star_con)) qa_nil star_tup) star_name)) qa_nil star_tup) star_tup) star_con) star_tup) star_tup))))
   (qss_one (qs_ret (qe_ix ix_list (qv 6) (qe_call (ok_Q26 T) (hr.mono (by decide)) rfl T.m_Q26 T.F_Q26.kp T.b_Q26 .nil pass0 (qa_cons (qv 0) (qa_cons qe_int qa_nil star_con) star_name)) (fun _ _ => rfl)))))))))) ?_
 obtain ⟨za, zb⟩ := z
 obtain ⟨ga, gb⟩ := g
 obtain ⟨pq, vx, vy, rfl, hpq, ⟨px, rfl, hx⟩, ⟨py, rfl, hy⟩⟩ := hrow
 replace hx : SqT K H px [V.int za, V.int zb] := hx
 replace hy : SqT K H py [V.int ga, V.int gb] := hy
 have wz : Wf 98 ((za, zb) : R) := kz.wf
 have ba : za.natAbs < 2 ^ 98 := wz.top
 have bb : zb.natAbs < 2 ^ 98 := wz.bot
 have bc : ga.natAbs < 2 ^ 140 := wg.top
 have bd : gb.natAbs < 2 ^ 140 := wg.bot
 have bz : Bq (D0 * 2) N1 (toRD (PyData.tuple [.int za, .int zb])) := kz.1.mono ⟨16174233075000000 * 2, by decide⟩ (by decide)
 have b1 : Bq 2520 6 ((za, zb) : R) := kz.1.mono ⟨7, by decide⟩ (by decide)
 have bz7 : Bq (D0 * 2) N1 (plusR (za, zb) (1, 7)) := (Bq.plus (by decide) b1 (show Bq 2520 1 ((1, 7) : R) from ⟨by decide, by decide, ⟨360, by decide⟩, by decide⟩)).mono ⟨4621209450000000, by decide⟩ (by decide)
 have bz100 : Bq (D0 * 2) N1 (plusR (za, zb) (100, 1)) := (Bq.plus (by decide) kz.1 (show Bq 360 100 ((100, 1) : R) from ⟨by decide, by decide, ⟨360, by decide⟩, by decide⟩)).mono ⟨16174233075000000 * 2, by decide⟩ (by decide)
 have S0 : Step t₁ H H := ⟨fun _ _ _ q => q, tp.lst, tp.lst⟩
 have tD := hd_tst (K := K) tp.lst nD hd_
 have dax : DeepAll K (hid H t₁ D) [V.int za, V.int zb] [.int za, .int zb] := .cons (.int _) (.cons (.int _) .nil)
 have dpx : Deep K (hid H t₁ D) (.ref px) (.tuple [.int za, .int zb]) := .tup (tD _ _ hx) dax
 have day : DeepAll K (hid H t₁ D) [V.int ga, V.int gb] [.int ga, .int gb] := .cons (.int _) (.cons (.int _) .nil)
 have dpy : Deep K (hid H t₁ D) (.ref py) (.tuple [.int ga, .int gb]) := .tup (tD _ _ hy) day
 have gex : ∀ d ∈ ([.int za, .int zb] : List PyData), Gd 0 5000 d := gC (gd_int (by omega)) (gC (gd_int (by omega)) gN)
 have gdx := gTu 2 10014 gex
 have gey : ∀ d ∈ ([.int ga, .int gb] : List PyData), Gd 0 5000 d := gC (gd_int (by omega)) (gC (gd_int (by omega)) gN)
 have gdy := gTu 2 10014 gey
 generalize PyData.tuple [.int za, .int zb] = dX at dpx gdx bz
 generalize PyData.tuple [.int ga, .int gb] = dY at dpy gdy
 refine ⟨_, rfl, pq, _, rfl, hpq, rfl, _, _, rfl, _, _, rfl, rfl, _, rfl, _, rfl, zl2, fun pa1 ga1 => ?_⟩
 generalize hG : upd H pa1 (.lst [V.int (1), V.int (-1)]) = Ha1
 obtain ⟨ea1, ha1, da1⟩ := nwE hG ga1 tp.lst hd_
 have na1 := nwN ga1 tp.lst
 obtain ⟨S0, tp, hd_⟩ := cr3 ea1 S0 tp hd_
 replace hx := tS ea1 hx
 replace hy := tS ea1 hy
 replace dpx := dS ea1 dpx
 replace day := aS ea1 day
 replace dpy := dS ea1 dpy
 have lsa1 := ha1
 have daa1 : DeepAll K (hid Ha1 t₁ D) [V.int (1), V.int (-1)] [.int (1), .int (-1)] := (.cons (.int _) (.cons (.int _) .nil))
 have dpa1 := dpL da1 daa1
 clear ea1 ha1 da1 hG
 have gea1 : ∀ d ∈ ([.int (1), .int (-1)] : List PyData), Gd 0 5000 d := (gC (gW (gd_int (by decide))) (gC (gW (gd_int (by decide))) gN))
 have gda1 := gLs 2 10014 gea1
 refine ⟨_, rfl, t₁, s₁, 2, rfl, tp, by decide, by decide, fun ra2 za2 aa2 ba2 Ta2 => ?_⟩
 have Sa2 := Step.up (ys := za2) tp.lst.choose_spec
 replace S0 := S0.trans Sa2
 replace hd_ := hd_.imp fun _ q => Sa2.keep _ _ nD q
 replace hx := tP Sa2 hx
 replace hy := tP Sa2 hy
 replace dpx := dP Sa2 dpx
 replace day := aP Sa2 day
 replace dpy := dP Sa2 dpy
 replace lsa1 := Sa2.keep _ _ na1 lsa1
 replace tp := Ta2
 clear Ta2 Sa2
 generalize upd Ha1 t₁ (.lst za2) = Ha2 at S0 tp hd_ hx hy dpx day dpy lsa1 ⊢
 obtain ⟨ya2, hya2, oa2⟩ : ∃ y : Int, atI [V.int (1), V.int (-1)] ra2 = some (.int y) /\ (y = 1 ∨ y = -1) := by
  rcases (show ra2 = 0 ∨ ra2 = 1 by omega) with rfl | rfl
  ·exact ⟨1, rfl, by decide⟩
  ·exact ⟨-1, rfl, by decide⟩
 refine ⟨pa1, _, _, _, rfl, rfl, SqL.of lsa1, hya2, zl3, fun pa3 ga3 => ?_⟩
 generalize hG : upd Ha2 pa3 (.lst [V.int (1), V.int (9), V.int (1000)]) = Ha3
 obtain ⟨ea3, ha3, da3⟩ := nwE hG ga3 tp.lst hd_
 have na3 := nwN ga3 tp.lst
 obtain ⟨S0, tp, hd_⟩ := cr3 ea3 S0 tp hd_
 replace hx := tS ea3 hx
 replace hy := tS ea3 hy
 replace dpx := dS ea3 dpx
 replace day := aS ea3 day
 replace dpy := dS ea3 dpy
 have lsa3 := ha3
 have daa3 : DeepAll K (hid Ha3 t₁ D) [V.int (1), V.int (9), V.int (1000)] [.int (1), .int (9), .int (1000)] := (.cons (.int _) (.cons (.int _) (.cons (.int _) .nil)))
 have dpa3 := dpL da3 daa3
 clear ea3 ha3 da3 hG
 have gea3 : ∀ d ∈ ([.int (1), .int (9), .int (1000)] : List PyData), Gd 0 5000 d := (gC (gW (gd_int (by decide))) (gC (gW (gd_int (by decide))) (gC (gW (gd_int (by decide))) gN)))
 have gda3 := gLs 3 15017 gea3
 refine ⟨_, rfl, t₁, s₁, 3, rfl, tp, by decide, by decide, fun ra4 za4 aa4 ba4 Ta4 => ?_⟩
 have Sa4 := Step.up (ys := za4) tp.lst.choose_spec
 replace S0 := S0.trans Sa4
 replace hd_ := hd_.imp fun _ q => Sa4.keep _ _ nD q
 replace hx := tP Sa4 hx
 replace hy := tP Sa4 hy
 replace dpx := dP Sa4 dpx
 replace day := aP Sa4 day
 replace dpy := dP Sa4 dpy
 replace lsa3 := Sa4.keep _ _ na3 lsa3
 replace tp := Ta4
 clear Ta4 Sa4
 generalize upd Ha3 t₁ (.lst za4) = Ha4 at S0 tp hd_ hx hy dpx day dpy lsa3 ⊢
 obtain ⟨ya4, hya4, oa4⟩ : ∃ y : Int, atI [V.int (1), V.int (9), V.int (1000)] ra4 = some (.int y) /\ (y = 1 ∨ y = 9 ∨ y = 1000) := by
  rcases (show ra4 = 0 ∨ ra4 = 1 ∨ ra4 = 2 by omega) with rfl | rfl | rfl
  ·exact ⟨1, rfl, by decide⟩
  ·exact ⟨9, rfl, by decide⟩
  ·exact ⟨1000, rfl, by decide⟩
 have wfa5 : Wf 10 (mkR ya2 ya4) := by
  rcases oa2 with rfl | rfl <;> rcases oa4 with rfl | rfl | rfl <;> exact ⟨by decide, by decide, by decide, by decide⟩
 refine ⟨pa3, _, _, _, rfl, rfl, SqL.of lsa3, hya4, ya2, ya4, rfl, by omega, big_of (n := 10) (by show ya4.natAbs < 1024; omega) (by decide), fun pa5 ga5 => ?_⟩
 generalize hG : upd Ha4 pa5 (.tup [V.int ((mkR ya2 ya4).1), V.int ((mkR ya2 ya4).2)]) = Ha5
 obtain ⟨ea5, ha5, da5⟩ := nwE hG ga5 tp.lst hd_
 obtain ⟨S0, tp, hd_⟩ := cr3 ea5 S0 tp hd_
 replace hx := tS ea5 hx
 replace hy := tS ea5 hy
 replace dpx := dS ea5 dpx
 replace day := aS ea5 day
 replace dpy := dS ea5 dpy
 have sqa5 := SqT.of (K := K) ha5
 have daa5 : DeepAll K (hid Ha5 t₁ D) [V.int ((mkR ya2 ya4).1), V.int ((mkR ya2 ya4).2)] [.int ((mkR ya2 ya4).1), .int ((mkR ya2 ya4).2)] := .cons (.int _) (.cons (.int _) .nil)
 have dpa5 := dpT da5 daa5
 clear ea5 ha5 da5 hG
 have gea5 : ∀ d ∈ ([.int ((mkR ya2 ya4).1), .int ((mkR ya2 ya4).2)] : List PyData), Gd 0 5000 d := (gC (gW (gd_int (Nat.lt_of_lt_of_le wfa5.top (by decide)))) (gC (gW (gd_int (Nat.lt_of_lt_of_le wfa5.bot (by decide)))) gN))
 have gda5 := gTu 2 10014 gea5
 have wfa6 : Wf 151 (plusR (ga, gb) (mkR ya2 ya4)) := plus_wf wg wfa5
 refine ⟨.ref py, .ref pa5, (ga, gb), (mkR ya2 ya4), 140, 10, rfl, ⟨_, rfl, hy⟩, ⟨_, rfl, sqa5⟩, wg, wfa5, by decide, fun pa6 ga6 => ?_⟩
 generalize hG : upd Ha5 pa6 (.tup [V.int ((plusR (ga, gb) (mkR ya2 ya4)).1), V.int ((plusR (ga, gb) (mkR ya2 ya4)).2)]) = Ha6
 obtain ⟨ea6, ha6, da6⟩ := nwE hG ga6 tp.lst hd_
 obtain ⟨S0, tp, hd_⟩ := cr3 ea6 S0 tp hd_
 replace hx := tS ea6 hx
 replace hy := tS ea6 hy
 replace dpx := dS ea6 dpx
 replace day := aS ea6 day
 replace dpy := dS ea6 dpy
 have sqa6 := SqT.of (K := K) ha6
 have daa6 : DeepAll K (hid Ha6 t₁ D) [V.int ((plusR (ga, gb) (mkR ya2 ya4)).1), V.int ((plusR (ga, gb) (mkR ya2 ya4)).2)] [.int ((plusR (ga, gb) (mkR ya2 ya4)).1), .int ((plusR (ga, gb) (mkR ya2 ya4)).2)] := .cons (.int _) (.cons (.int _) .nil)
 have dpa6 := dpT da6 daa6
 clear ea6 ha6 da6 hG
 have gea6 : ∀ d ∈ ([.int ((plusR (ga, gb) (mkR ya2 ya4)).1), .int ((plusR (ga, gb) (mkR ya2 ya4)).2)] : List PyData), Gd 0 5000 d := (gC (gW (gd_int (Nat.lt_of_lt_of_le wfa6.top (by decide)))) (gC (gW (gd_int (Nat.lt_of_lt_of_le wfa6.bot (by decide)))) gN))
 have gda6 := gTu 2 10014 gea6
 refine ⟨_, rfl, _, rfl, zl2, fun pa7 ga7 => ?_⟩
 generalize hG : upd Ha6 pa7 (.tup [V.ref px, V.ref pa6]) = Ha7
 obtain ⟨ea7, ha7, da7⟩ := nwE hG ga7 tp.lst hd_
 obtain ⟨S0, tp, hd_⟩ := cr3 ea7 S0 tp hd_
 replace hx := tS ea7 hx
 replace hy := tS ea7 hy
 replace dpx := dS ea7 dpx
 replace day := aS ea7 day
 replace dpy := dS ea7 dpy
 replace dpa6 := dS ea7 dpa6
 have sqa7 := SqT.of (K := K) ha7
 have daa7 : DeepAll K (hid Ha7 t₁ D) [V.ref px, V.ref pa6] [dX, PyData.tuple [.int ((plusR (ga, gb) (mkR ya2 ya4)).1), .int ((plusR (ga, gb) (mkR ya2 ya4)).2)]] := (.cons dpx (.cons dpa6 .nil))
 have dpa7 := dpT da7 daa7
 clear ea7 ha7 da7 hG
 have gea7 : ∀ d ∈ ([dX, PyData.tuple [.int ((plusR (ga, gb) (mkR ya2 ya4)).1), .int ((plusR (ga, gb) (mkR ya2 ya4)).2)]] : List PyData), Gd 1 10014 d := (gC (gW gdx) (gC (gW gda6) gN))
 have gda7 := gTu 2 20042 gea7
 have sma8 : SpP (PyData.tuple [dX, PyData.tuple [.int ((plusR (ga, gb) (mkR ya2 ya4)).1), .int ((plusR (ga, gb) (mkR ya2 ya4)).2)]]) := (spP_of bz)
 generalize PyData.tuple [dX, PyData.tuple [.int ((plusR (ga, gb) (mkR ya2 ya4)).1), .int ((plusR (ga, gb) (mkR ya2 ya4)).2)]] = dma8 at dpa7 gda7 sma8
 refine ⟨_, rfl, zl2, fun pa9 ga9 => ?_⟩
 generalize hG : upd Ha7 pa9 (.tup [V.int (1), V.int (7)]) = Ha9
 obtain ⟨ea9, ha9, da9⟩ := nwE hG ga9 tp.lst hd_
 obtain ⟨S0, tp, hd_⟩ := cr3 ea9 S0 tp hd_
 replace hx := tS ea9 hx
 replace hy := tS ea9 hy
 replace dpx := dS ea9 dpx
 replace day := aS ea9 day
 replace dpy := dS ea9 dpy
 replace dpa7 := dS ea9 dpa7
 have sqa9 := SqT.of (K := K) ha9
 have daa9 : DeepAll K (hid Ha9 t₁ D) [V.int (1), V.int (7)] [.int (1), .int (7)] := (.cons (.int _) (.cons (.int _) .nil))
 have dpa9 := dpT da9 daa9
 clear ea9 ha9 da9 hG
 have gea9 : ∀ d ∈ ([.int (1), .int (7)] : List PyData), Gd 0 5000 d := (gC (gW (gd_int (by decide))) (gC (gW (gd_int (by decide))) gN))
 have gda9 := gTu 2 10014 gea9
 have wfa10 : Wf 109 (plusR (za, zb) (1, 7)) := plus_wf wz (⟨by decide, by decide, by decide, by decide⟩ : Wf 10 _)
 refine ⟨.ref px, .ref pa9, (za, zb), (1, 7), 98, 10, rfl, ⟨_, rfl, hx⟩, ⟨_, rfl, sqa9⟩, wz, (⟨by decide, by decide, by decide, by decide⟩ : Wf 10 _), by decide, fun pa10 ga10 => ?_⟩
 generalize hG : upd Ha9 pa10 (.tup [V.int ((plusR (za, zb) (1, 7)).1), V.int ((plusR (za, zb) (1, 7)).2)]) = Ha10
 obtain ⟨ea10, ha10, da10⟩ := nwE hG ga10 tp.lst hd_
 obtain ⟨S0, tp, hd_⟩ := cr3 ea10 S0 tp hd_
 replace hx := tS ea10 hx
 replace hy := tS ea10 hy
 replace dpx := dS ea10 dpx
 replace day := aS ea10 day
 replace dpy := dS ea10 dpy
 replace dpa7 := dS ea10 dpa7
 have sqa10 := SqT.of (K := K) ha10
 have daa10 : DeepAll K (hid Ha10 t₁ D) [V.int ((plusR (za, zb) (1, 7)).1), V.int ((plusR (za, zb) (1, 7)).2)] [.int ((plusR (za, zb) (1, 7)).1), .int ((plusR (za, zb) (1, 7)).2)] := .cons (.int _) (.cons (.int _) .nil)
 have dpa10 := dpT da10 daa10
 clear ea10 ha10 da10 hG
 have gea10 : ∀ d ∈ ([.int ((plusR (za, zb) (1, 7)).1), .int ((plusR (za, zb) (1, 7)).2)] : List PyData), Gd 0 5000 d := (gC (gW (gd_int (Nat.lt_of_lt_of_le wfa10.top (by decide)))) (gC (gW (gd_int (Nat.lt_of_lt_of_le wfa10.bot (by decide)))) gN))
 have gda10 := gTu 2 10014 gea10
 refine ⟨_, rfl, zl2, fun pa11 ga11 => ?_⟩
 generalize hG : upd Ha10 pa11 (.tup [V.ref pa10, V.ref py]) = Ha11
 obtain ⟨ea11, ha11, da11⟩ := nwE hG ga11 tp.lst hd_
 obtain ⟨S0, tp, hd_⟩ := cr3 ea11 S0 tp hd_
 replace hx := tS ea11 hx
 replace hy := tS ea11 hy
 replace dpx := dS ea11 dpx
 replace day := aS ea11 day
 replace dpy := dS ea11 dpy
 replace dpa7 := dS ea11 dpa7
 replace dpa10 := dS ea11 dpa10
 have sqa11 := SqT.of (K := K) ha11
 have daa11 : DeepAll K (hid Ha11 t₁ D) [V.ref pa10, V.ref py] [PyData.tuple [.int ((plusR (za, zb) (1, 7)).1), .int ((plusR (za, zb) (1, 7)).2)], dY] := (.cons dpa10 (.cons dpy .nil))
 have dpa11 := dpT da11 daa11
 clear ea11 ha11 da11 hG
 have gea11 : ∀ d ∈ ([PyData.tuple [.int ((plusR (za, zb) (1, 7)).1), .int ((plusR (za, zb) (1, 7)).2)], dY] : List PyData), Gd 1 10014 d := (gC (gW gda10) (gC (gW gdy) gN))
 have gda11 := gTu 2 20042 gea11
 have sma12 : SpP (PyData.tuple [PyData.tuple [.int ((plusR (za, zb) (1, 7)).1), .int ((plusR (za, zb) (1, 7)).2)], dY]) := (spP_of bz7)
 generalize PyData.tuple [PyData.tuple [.int ((plusR (za, zb) (1, 7)).1), .int ((plusR (za, zb) (1, 7)).2)], dY] = dma12 at dpa11 gda11 sma12
 refine ⟨_, rfl, zl2, fun pa13 ga13 => ?_⟩
 generalize hG : upd Ha11 pa13 (.tup [V.int (100), V.int (1)]) = Ha13
 obtain ⟨ea13, ha13, da13⟩ := nwE hG ga13 tp.lst hd_
 obtain ⟨S0, tp, hd_⟩ := cr3 ea13 S0 tp hd_
 replace hx := tS ea13 hx
 replace hy := tS ea13 hy
 replace dpx := dS ea13 dpx
 replace day := aS ea13 day
 replace dpy := dS ea13 dpy
 replace dpa7 := dS ea13 dpa7
 replace dpa11 := dS ea13 dpa11
 have sqa13 := SqT.of (K := K) ha13
 have daa13 : DeepAll K (hid Ha13 t₁ D) [V.int (100), V.int (1)] [.int (100), .int (1)] := (.cons (.int _) (.cons (.int _) .nil))
 have dpa13 := dpT da13 daa13
 clear ea13 ha13 da13 hG
 have gea13 : ∀ d ∈ ([.int (100), .int (1)] : List PyData), Gd 0 5000 d := (gC (gW (gd_int (by decide))) (gC (gW (gd_int (by decide))) gN))
 have gda13 := gTu 2 10014 gea13
 have wfa14 : Wf 109 (plusR (za, zb) (100, 1)) := plus_wf wz (⟨by decide, by decide, by decide, by decide⟩ : Wf 10 _)
 refine ⟨.ref px, .ref pa13, (za, zb), (100, 1), 98, 10, rfl, ⟨_, rfl, hx⟩, ⟨_, rfl, sqa13⟩, wz, (⟨by decide, by decide, by decide, by decide⟩ : Wf 10 _), by decide, fun pa14 ga14 => ?_⟩
 generalize hG : upd Ha13 pa14 (.tup [V.int ((plusR (za, zb) (100, 1)).1), V.int ((plusR (za, zb) (100, 1)).2)]) = Ha14
 obtain ⟨ea14, ha14, da14⟩ := nwE hG ga14 tp.lst hd_
 obtain ⟨S0, tp, hd_⟩ := cr3 ea14 S0 tp hd_
 replace hy := tS ea14 hy
 replace dpx := dS ea14 dpx
 replace day := aS ea14 day
 replace dpy := dS ea14 dpy
 replace dpa7 := dS ea14 dpa7
 replace dpa11 := dS ea14 dpa11
 have sqa14 := SqT.of (K := K) ha14
 have daa14 : DeepAll K (hid Ha14 t₁ D) [V.int ((plusR (za, zb) (100, 1)).1), V.int ((plusR (za, zb) (100, 1)).2)] [.int ((plusR (za, zb) (100, 1)).1), .int ((plusR (za, zb) (100, 1)).2)] := .cons (.int _) (.cons (.int _) .nil)
 have dpa14 := dpT da14 daa14
 clear ea14 ha14 da14 hG
 have gea14 : ∀ d ∈ ([.int ((plusR (za, zb) (100, 1)).1), .int ((plusR (za, zb) (100, 1)).2)] : List PyData), Gd 0 5000 d := (gC (gW (gd_int (Nat.lt_of_lt_of_le wfa14.top (by decide)))) (gC (gW (gd_int (Nat.lt_of_lt_of_le wfa14.bot (by decide)))) gN))
 have gda14 := gTu 2 10014 gea14
 refine ⟨_, rfl, zl2, fun pa15 ga15 => ?_⟩
 generalize hG : upd Ha14 pa15 (.tup [V.ref pa14, V.ref py]) = Ha15
 obtain ⟨ea15, ha15, da15⟩ := nwE hG ga15 tp.lst hd_
 obtain ⟨S0, tp, hd_⟩ := cr3 ea15 S0 tp hd_
 replace hy := tS ea15 hy
 replace dpx := dS ea15 dpx
 replace day := aS ea15 day
 replace dpy := dS ea15 dpy
 replace dpa7 := dS ea15 dpa7
 replace dpa11 := dS ea15 dpa11
 replace dpa14 := dS ea15 dpa14
 have sqa15 := SqT.of (K := K) ha15
 have daa15 : DeepAll K (hid Ha15 t₁ D) [V.ref pa14, V.ref py] [PyData.tuple [.int ((plusR (za, zb) (100, 1)).1), .int ((plusR (za, zb) (100, 1)).2)], dY] := (.cons dpa14 (.cons dpy .nil))
 have dpa15 := dpT da15 daa15
 clear ea15 ha15 da15 hG
 have gea15 : ∀ d ∈ ([PyData.tuple [.int ((plusR (za, zb) (100, 1)).1), .int ((plusR (za, zb) (100, 1)).2)], dY] : List PyData), Gd 1 10014 d := (gC (gW gda14) (gC (gW gdy) gN))
 have gda15 := gTu 2 20042 gea15
 have sma16 : SpP (PyData.tuple [PyData.tuple [.int ((plusR (za, zb) (100, 1)).1), .int ((plusR (za, zb) (100, 1)).2)], dY]) := (spP_of bz100)
 generalize PyData.tuple [PyData.tuple [.int ((plusR (za, zb) (100, 1)).1), .int ((plusR (za, zb) (100, 1)).2)], dY] = dma16 at dpa15 gda15 sma16
 refine ⟨_, rfl, zl2, fun pa17 ga17 => ?_⟩
 generalize hG : upd Ha15 pa17 (.tup [V.int (-1), V.int (2)]) = Ha17
 obtain ⟨ea17, ha17, da17⟩ := nwE hG ga17 tp.lst hd_
 obtain ⟨S0, tp, hd_⟩ := cr3 ea17 S0 tp hd_
 replace hy := tS ea17 hy
 replace dpx := dS ea17 dpx
 replace day := aS ea17 day
 replace dpy := dS ea17 dpy
 replace dpa7 := dS ea17 dpa7
 replace dpa11 := dS ea17 dpa11
 replace dpa15 := dS ea17 dpa15
 have sqa17 := SqT.of (K := K) ha17
 have daa17 : DeepAll K (hid Ha17 t₁ D) [V.int (-1), V.int (2)] [.int (-1), .int (2)] := (.cons (.int _) (.cons (.int _) .nil))
 have dpa17 := dpT da17 daa17
 clear ea17 ha17 da17 hG
 have gea17 : ∀ d ∈ ([.int (-1), .int (2)] : List PyData), Gd 0 5000 d := (gC (gW (gd_int (by decide))) (gC (gW (gd_int (by decide))) gN))
 have gda17 := gTu 2 10014 gea17
 refine ⟨_, rfl, zl2, fun pa18 ga18 => ?_⟩
 generalize hG : upd Ha17 pa18 (.tup [V.ref pa17, V.ref py]) = Ha18
 obtain ⟨ea18, ha18, da18⟩ := nwE hG ga18 tp.lst hd_
 obtain ⟨S0, tp, hd_⟩ := cr3 ea18 S0 tp hd_
 replace hy := tS ea18 hy
 replace dpx := dS ea18 dpx
 replace day := aS ea18 day
 replace dpy := dS ea18 dpy
 replace dpa7 := dS ea18 dpa7
 replace dpa11 := dS ea18 dpa11
 replace dpa15 := dS ea18 dpa15
 replace dpa17 := dS ea18 dpa17
 have sqa18 := SqT.of (K := K) ha18
 have daa18 : DeepAll K (hid Ha18 t₁ D) [V.ref pa17, V.ref py] [PyData.tuple [.int (-1), .int (2)], dY] := (.cons dpa17 (.cons dpy .nil))
 have dpa18 := dpT da18 daa18
 clear ea18 ha18 da18 hG
 have gea18 : ∀ d ∈ ([PyData.tuple [.int (-1), .int (2)], dY] : List PyData), Gd 1 10014 d := (gC (gW gda17) (gC (gW gdy) gN))
 have gda18 := gTu 2 20042 gea18
 have sma19 : SpP (PyData.tuple [PyData.tuple [.int (-1), .int (2)], dY]) := (spP_of (bq_l2 (q := 5822723907000000000) (by decide) (by decide) (by decide) (by decide)))
 generalize PyData.tuple [PyData.tuple [.int (-1), .int (2)], dY] = dma19 at dpa18 gda18 sma19
 refine ⟨zl4, fun pa20 ga20 => ?_⟩
 generalize hG : upd Ha18 pa20 (.lst [V.ref pa7, V.ref pa11, V.ref pa15, V.ref pa18]) = Ha20
 obtain ⟨ea20, ha20, da20⟩ := nwE hG ga20 tp.lst hd_
 have na20 := nwN ga20 tp.lst
 obtain ⟨S0, tp, hd_⟩ := cr3 ea20 S0 tp hd_
 replace hy := tS ea20 hy
 replace dpx := dS ea20 dpx
 replace day := aS ea20 day
 replace dpy := dS ea20 dpy
 replace dpa7 := dS ea20 dpa7
 replace dpa11 := dS ea20 dpa11
 replace dpa15 := dS ea20 dpa15
 replace dpa18 := dS ea20 dpa18
 have lsa20 := ha20
 have daa20 : DeepAll K (hid Ha20 t₁ D) [V.ref pa7, V.ref pa11, V.ref pa15, V.ref pa18] [dma8, dma12, dma16, dma19] := (.cons dpa7 (.cons dpa11 (.cons dpa15 (.cons dpa18 .nil))))
 have dpa20 := dpL da20 daa20
 clear ea20 ha20 da20 hG
 have gea20 : ∀ d ∈ ([dma8, dma12, dma16, dma19] : List PyData), Gd 2 20042 d := (gC (gW gda7) (gC (gW gda11) (gC (gW gda15) (gC (gW gda18) gN))))
 have gda20 := gLs 4 80188 gea20
 refine ⟨_, rfl, _, rfl, zl2, fun pa21 ga21 => ?_⟩
 generalize hG : upd Ha20 pa21 (.tup [V.int (2), V.int (4)]) = Ha21
 obtain ⟨ea21, ha21, da21⟩ := nwE hG ga21 tp.lst hd_
 obtain ⟨S0, tp, hd_⟩ := cr3 ea21 S0 tp hd_
 replace hy := tS ea21 hy
 replace dpx := dS ea21 dpx
 replace day := aS ea21 day
 replace dpy := dS ea21 dpy
 replace lsa20 := ea21 _ _ lsa20
 replace daa20 := aS ea21 daa20
 have sqa21 := SqT.of (K := K) ha21
 have daa21 : DeepAll K (hid Ha21 t₁ D) [V.int (2), V.int (4)] [.int (2), .int (4)] := (.cons (.int _) (.cons (.int _) .nil))
 have dpa21 := dpT da21 daa21
 clear ea21 ha21 da21 hG
 have gea21 : ∀ d ∈ ([.int (2), .int (4)] : List PyData), Gd 0 5000 d := (gC (gW (gd_int (by decide))) (gC (gW (gd_int (by decide))) gN))
 have gda21 := gTu 2 10014 gea21
 refine ⟨zl2, fun pa22 ga22 => ?_⟩
 generalize hG : upd Ha21 pa22 (.tup [V.ref px, V.ref pa21]) = Ha22
 obtain ⟨ea22, ha22, da22⟩ := nwE hG ga22 tp.lst hd_
 obtain ⟨S0, tp, hd_⟩ := cr3 ea22 S0 tp hd_
 replace hy := tS ea22 hy
 replace dpx := dS ea22 dpx
 replace day := aS ea22 day
 replace dpy := dS ea22 dpy
 replace lsa20 := ea22 _ _ lsa20
 replace daa20 := aS ea22 daa20
 replace dpa21 := dS ea22 dpa21
 have sqa22 := SqT.of (K := K) ha22
 have daa22 : DeepAll K (hid Ha22 t₁ D) [V.ref px, V.ref pa21] [dX, PyData.tuple [.int (2), .int (4)]] := (.cons dpx (.cons dpa21 .nil))
 have dpa22 := dpT da22 daa22
 clear ea22 ha22 da22 hG
 have gea22 : ∀ d ∈ ([dX, PyData.tuple [.int (2), .int (4)]] : List PyData), Gd 1 10014 d := (gC (gW gdx) (gC (gW gda21) gN))
 have gda22 := gTu 2 20042 gea22
 have sma23 : SpP (PyData.tuple [dX, PyData.tuple [.int (2), .int (4)]]) := (spP_of bz)
 generalize PyData.tuple [dX, PyData.tuple [.int (2), .int (4)]] = dma23 at dpa22 gda22 sma23
 refine ⟨zl2, fun pa24 ga24 => ?_⟩
 generalize hG : upd Ha22 pa24 (.tup [V.bl true, V.int (1)]) = Ha24
 obtain ⟨ea24, ha24, da24⟩ := nwE hG ga24 tp.lst hd_
 obtain ⟨S0, tp, hd_⟩ := cr3 ea24 S0 tp hd_
 replace hy := tS ea24 hy
 replace dpx := dS ea24 dpx
 replace day := aS ea24 day
 replace dpy := dS ea24 dpy
 replace lsa20 := ea24 _ _ lsa20
 replace daa20 := aS ea24 daa20
 replace dpa22 := dS ea24 dpa22
 have sqa24 := SqT.of (K := K) ha24
 have daa24 : DeepAll K (hid Ha24 t₁ D) [V.bl true, V.int (1)] [PyData.bool true, .int (1)] := (.cons (.bl _) (.cons (.int _) .nil))
 have dpa24 := dpT da24 daa24
 clear ea24 ha24 da24 hG
 have gea24 : ∀ d ∈ ([PyData.bool true, .int (1)] : List PyData), Gd 0 5000 d := (gC (gW (gd_bool true)) (gC (gW (gd_int (by decide))) gN))
 have gda24 := gTu 2 10014 gea24
 refine ⟨_, rfl, zl2, fun pa25 ga25 => ?_⟩
 generalize hG : upd Ha24 pa25 (.tup [V.ref pa24, V.ref py]) = Ha25
 obtain ⟨ea25, ha25, da25⟩ := nwE hG ga25 tp.lst hd_
 obtain ⟨S0, tp, hd_⟩ := cr3 ea25 S0 tp hd_
 replace hy := tS ea25 hy
 replace dpx := dS ea25 dpx
 replace day := aS ea25 day
 replace dpy := dS ea25 dpy
 replace lsa20 := ea25 _ _ lsa20
 replace daa20 := aS ea25 daa20
 replace dpa22 := dS ea25 dpa22
 replace dpa24 := dS ea25 dpa24
 have sqa25 := SqT.of (K := K) ha25
 have daa25 : DeepAll K (hid Ha25 t₁ D) [V.ref pa24, V.ref py] [PyData.tuple [PyData.bool true, .int (1)], dY] := (.cons dpa24 (.cons dpy .nil))
 have dpa25 := dpT da25 daa25
 clear ea25 ha25 da25 hG
 have gea25 : ∀ d ∈ ([PyData.tuple [PyData.bool true, .int (1)], dY] : List PyData), Gd 1 10014 d := (gC (gW gda24) (gC (gW gdy) gN))
 have gda25 := gTu 2 20042 gea25
 have sma26 : SpP (PyData.tuple [PyData.tuple [PyData.bool true, .int (1)], dY]) := (fun h => Bool.noConfusion (show false = true from h))
 generalize PyData.tuple [PyData.tuple [PyData.bool true, .int (1)], dY] = dma26 at dpa25 gda25 sma26
 refine ⟨_, rfl, _, rfl, zl2, fun pa27 ga27 => ?_⟩
 generalize hG : upd Ha25 pa27 (.lst [V.ref px, V.ref py]) = Ha27
 obtain ⟨ea27, ha27, da27⟩ := nwE hG ga27 tp.lst hd_
 have na27 := nwN ga27 tp.lst
 obtain ⟨S0, tp, hd_⟩ := cr3 ea27 S0 tp hd_
 replace hy := tS ea27 hy
 replace dpx := dS ea27 dpx
 replace day := aS ea27 day
 replace dpy := dS ea27 dpy
 replace lsa20 := ea27 _ _ lsa20
 replace daa20 := aS ea27 daa20
 replace dpa22 := dS ea27 dpa22
 replace dpa25 := dS ea27 dpa25
 have lsa27 := ha27
 have daa27 : DeepAll K (hid Ha27 t₁ D) [V.ref px, V.ref py] [dX, dY] := (.cons dpx (.cons dpy .nil))
 have dpa27 := dpL da27 daa27
 clear ea27 ha27 da27 hG
 have gea27 : ∀ d ∈ ([dX, dY] : List PyData), Gd 1 10014 d := (gC (gW gdx) (gC (gW gdy) gN))
 have gda27 := gLs 2 20042 gea27
 have sma28 : SpP (PyData.list [dX, dY]) := (fun h => Bool.noConfusion (show false = true from h))
 generalize PyData.list [dX, dY] = dma28 at dpa27 gda27 sma28
 refine ⟨_, rfl, zl1, fun pa29 ga29 => ?_⟩
 generalize hG : upd Ha27 pa29 (.tup [V.ref px]) = Ha29
 obtain ⟨ea29, ha29, da29⟩ := nwE hG ga29 tp.lst hd_
 obtain ⟨S0, tp, hd_⟩ := cr3 ea29 S0 tp hd_
 replace hy := tS ea29 hy
 replace dpx := dS ea29 dpx
 replace day := aS ea29 day
 replace dpy := dS ea29 dpy
 replace lsa20 := ea29 _ _ lsa20
 replace daa20 := aS ea29 daa20
 replace dpa22 := dS ea29 dpa22
 replace dpa25 := dS ea29 dpa25
 replace dpa27 := dS ea29 dpa27
 have sqa29 := SqT.of (K := K) ha29
 have daa29 : DeepAll K (hid Ha29 t₁ D) [V.ref px] [dX] := (.cons dpx .nil)
 have dpa29 := dpT da29 daa29
 clear ea29 ha29 da29 hG
 have gea29 : ∀ d ∈ ([dX] : List PyData), Gd 1 10014 d := (gC (gW gdx) gN)
 have gda29 := gTu 1 10025 gea29
 have sma30 : SpP (PyData.tuple [dX]) := (fun h => Bool.noConfusion (show false = true from h))
 generalize PyData.tuple [dX] = dma30 at dpa29 gda29 sma30
 refine ⟨_, rfl, _, rfl, py, _, rfl, .inr hy, fun pa31 ga31 => ?_⟩
 generalize hG : upd Ha29 pa31 (.lst [V.int ga, V.int gb]) = Ha31
 obtain ⟨ea31, ha31, da31⟩ := nwE hG ga31 tp.lst hd_
 have na31 := nwN ga31 tp.lst
 obtain ⟨S0, tp, hd_⟩ := cr3 ea31 S0 tp hd_
 replace hy := tS ea31 hy
 replace dpx := dS ea31 dpx
 replace day := aS ea31 day
 replace dpy := dS ea31 dpy
 replace lsa20 := ea31 _ _ lsa20
 replace daa20 := aS ea31 daa20
 replace dpa22 := dS ea31 dpa22
 replace dpa25 := dS ea31 dpa25
 replace dpa27 := dS ea31 dpa27
 replace dpa29 := dS ea31 dpa29
 have lsa31 : Ha31 pa31 = some (.lst [V.int ga, V.int gb]) := ha31
 have dpa31 : Deep K (hid Ha31 t₁ D) (.ref pa31) (.list [.int ga, .int gb]) := .lst (SqL.of da31) day
 clear ea31 ha31 da31 hG
 have gda31 : Gd 1 10014 (.list [.int ga, .int gb]) := Gd.lst (m := 2) gey (by first | omega | (simp <;> omega)) (by decide)
 refine ⟨zl2, fun pa32 ga32 => ?_⟩
 generalize hG : upd Ha31 pa32 (.tup [V.ref px, V.ref pa31]) = Ha32
 obtain ⟨ea32, ha32, da32⟩ := nwE hG ga32 tp.lst hd_
 obtain ⟨S0, tp, hd_⟩ := cr3 ea32 S0 tp hd_
 replace hy := tS ea32 hy
 replace dpx := dS ea32 dpx
 replace dpy := dS ea32 dpy
 replace lsa20 := ea32 _ _ lsa20
 replace daa20 := aS ea32 daa20
 replace dpa22 := dS ea32 dpa22
 replace dpa25 := dS ea32 dpa25
 replace dpa27 := dS ea32 dpa27
 replace dpa29 := dS ea32 dpa29
 replace dpa31 := dS ea32 dpa31
 have sqa32 := SqT.of (K := K) ha32
 have daa32 : DeepAll K (hid Ha32 t₁ D) [V.ref px, V.ref pa31] [dX, PyData.list [.int ga, .int gb]] := (.cons dpx (.cons dpa31 .nil))
 have dpa32 := dpT da32 daa32
 clear ea32 ha32 da32 hG
 have gea32 : ∀ d ∈ ([dX, PyData.list [.int ga, .int gb]] : List PyData), Gd 1 10014 d := (gC (gW gdx) (gC (gW gda31) gN))
 have gda32 := gTu 2 20042 gea32
 have sma33 : SpP (PyData.tuple [dX, PyData.list [.int ga, .int gb]]) := (spP_of bz)
 generalize PyData.tuple [dX, PyData.list [.int ga, .int gb]] = dma33 at dpa32 gda32 sma33
 refine ⟨zl5, fun pa34 ga34 => ?_⟩
 generalize hG : upd Ha32 pa34 (.lst [V.ref pa22, V.ref pa25, V.ref pa27, V.ref pa29, V.ref pa32]) = Ha34
 obtain ⟨ea34, ha34, da34⟩ := nwE hG ga34 tp.lst hd_
 have na34 := nwN ga34 tp.lst
 obtain ⟨S0, tp, hd_⟩ := cr3 ea34 S0 tp hd_
 replace hy := tS ea34 hy
 replace dpx := dS ea34 dpx
 replace dpy := dS ea34 dpy
 replace lsa20 := ea34 _ _ lsa20
 replace daa20 := aS ea34 daa20
 replace dpa22 := dS ea34 dpa22
 replace dpa25 := dS ea34 dpa25
 replace dpa27 := dS ea34 dpa27
 replace dpa29 := dS ea34 dpa29
 replace dpa32 := dS ea34 dpa32
 have lsa34 := ha34
 have daa34 : DeepAll K (hid Ha34 t₁ D) [V.ref pa22, V.ref pa25, V.ref pa27, V.ref pa29, V.ref pa32] [dma23, dma26, dma28, dma30, dma33] := (.cons dpa22 (.cons dpa25 (.cons dpa27 (.cons dpa29 (.cons dpa32 .nil)))))
 have dpa34 := dpL da34 daa34
 clear ea34 ha34 da34 hG
 have gea34 : ∀ d ∈ ([dma23, dma26, dma28, dma30, dma33] : List PyData), Gd 2 20042 d := (gC (gW gda22) (gC (gW gda25) (gC (gW gda27) (gC (gW gda29) (gC (gW gda32) gN)))))
 have gda34 := gLs 5 100233 gea34
 refine ⟨pa20, pa34, _, _, rfl, rfl, lsa20, lsa34, Nat.le_trans (show _ ≤ 1000 by first | omega | (simp <;> omega)) zl1000, fun pa35 ga35 => ?_⟩
 generalize hG : upd Ha34 pa35 (.lst ([V.ref pa7, V.ref pa11, V.ref pa15, V.ref pa18] ++ [V.ref pa22, V.ref pa25, V.ref pa27, V.ref pa29, V.ref pa32])) = Ha35
 obtain ⟨ea35, ha35, da35⟩ := nwE hG ga35 tp.lst hd_
 have na35 := nwN ga35 tp.lst
 obtain ⟨S0, tp, hd_⟩ := cr3 ea35 S0 tp hd_
 replace hy := tS ea35 hy
 replace dpx := dS ea35 dpx
 replace dpy := dS ea35 dpy
 replace daa20 := aS ea35 daa20
 replace daa34 := aS ea35 daa34
 have lsa35 : Ha35 pa35 = some (.lst ([V.ref pa7, V.ref pa11, V.ref pa15, V.ref pa18] ++ [V.ref pa22, V.ref pa25, V.ref pa27, V.ref pa29, V.ref pa32])) := ha35
 have daa35 : DeepAll K (hid Ha35 t₁ D) ([V.ref pa7, V.ref pa11, V.ref pa15, V.ref pa18] ++ [V.ref pa22, V.ref pa25, V.ref pa27, V.ref pa29, V.ref pa32]) ([dma8, dma12, dma16, dma19] ++ [dma23, dma26, dma28, dma30, dma33]) := DeepAll.app daa20 daa34
 have dpa35 : Deep K (hid Ha35 t₁ D) (.ref pa35) (.list ([dma8, dma12, dma16, dma19] ++ [dma23, dma26, dma28, dma30, dma33])) := .lst (SqL.of da35) daa35
 clear ea35 ha35 da35 hG
 have gea35 : ∀ d ∈ ([dma8, dma12, dma16, dma19] ++ [dma23, dma26, dma28, dma30, dma33] : List PyData), Gd 2 20042 d := (gd_app (gd_wide (by decide) (by decide) gea20) (gd_wide (by decide) (by decide) gea34))
 have gda35 : Gd 3 180413 (.list ([dma8, dma12, dma16, dma19] ++ [dma23, dma26, dma28, dma30, dma33])) := Gd.lst (m := 9) gea35 (by first | omega | (simp <;> omega)) (by decide)
 refine ⟨_, rfl, _, rfl, zl2, fun pa36 ga36 => ?_⟩
 generalize hG : upd Ha35 pa36 (.tup [V.ref px, V.non]) = Ha36
 obtain ⟨ea36, ha36, da36⟩ := nwE hG ga36 tp.lst hd_
 obtain ⟨S0, tp, hd_⟩ := cr3 ea36 S0 tp hd_
 replace hy := tS ea36 hy
 replace dpx := dS ea36 dpx
 replace dpy := dS ea36 dpy
 replace lsa35 := ea36 _ _ lsa35
 replace daa35 := aS ea36 daa35
 have sqa36 := SqT.of (K := K) ha36
 have daa36 : DeepAll K (hid Ha36 t₁ D) [V.ref px, V.non] [dX, PyData.none] := (.cons dpx (.cons .non .nil))
 have dpa36 := dpT da36 daa36
 clear ea36 ha36 da36 hG
 have gea36 : ∀ d ∈ ([dX, PyData.none] : List PyData), Gd 1 10014 d := (gC (gW gdx) (gC (gW gd_none) gN))
 have gda36 := gTu 2 20042 gea36
 have sma37 : SpP (PyData.tuple [dX, PyData.none]) := (spP_of bz)
 generalize PyData.tuple [dX, PyData.none] = dma37 at dpa36 gda36 sma37
 refine ⟨zl1, fun pa38 ga38 => ?_⟩
 generalize hG : upd Ha36 pa38 (.lst [V.ref pa36]) = Ha38
 obtain ⟨ea38, ha38, da38⟩ := nwE hG ga38 tp.lst hd_
 have na38 := nwN ga38 tp.lst
 obtain ⟨S0, tp, hd_⟩ := cr3 ea38 S0 tp hd_
 replace hy := tS ea38 hy
 replace dpx := dS ea38 dpx
 replace dpy := dS ea38 dpy
 replace lsa35 := ea38 _ _ lsa35
 replace daa35 := aS ea38 daa35
 replace dpa36 := dS ea38 dpa36
 have lsa38 := ha38
 have daa38 : DeepAll K (hid Ha38 t₁ D) [V.ref pa36] [dma37] := (.cons dpa36 .nil)
 have dpa38 := dpL da38 daa38
 clear ea38 ha38 da38 hG
 have gea38 : ∀ d ∈ ([dma37] : List PyData), Gd 2 20042 d := (gC (gW gda36) gN)
 have gda38 := gLs 1 20053 gea38
 refine ⟨pa35, pa38, _, _, rfl, rfl, lsa35, lsa38, Nat.le_trans (show _ ≤ 1000 by first | omega | (simp <;> omega)) zl1000, fun pa39 ga39 => ?_⟩
 generalize hG : upd Ha38 pa39 (.lst ([V.ref pa7, V.ref pa11, V.ref pa15, V.ref pa18] ++ [V.ref pa22, V.ref pa25, V.ref pa27, V.ref pa29, V.ref pa32] ++ [V.ref pa36])) = Ha39
 obtain ⟨ea39, ha39, da39⟩ := nwE hG ga39 tp.lst hd_
 have na39 := nwN ga39 tp.lst
 obtain ⟨S0, tp, hd_⟩ := cr3 ea39 S0 tp hd_
 replace hy := tS ea39 hy
 replace dpx := dS ea39 dpx
 replace dpy := dS ea39 dpy
 replace daa35 := aS ea39 daa35
 replace daa38 := aS ea39 daa38
 have lsa39 : Ha39 pa39 = some (.lst ([V.ref pa7, V.ref pa11, V.ref pa15, V.ref pa18] ++ [V.ref pa22, V.ref pa25, V.ref pa27, V.ref pa29, V.ref pa32] ++ [V.ref pa36])) := ha39
 have daa39 : DeepAll K (hid Ha39 t₁ D) ([V.ref pa7, V.ref pa11, V.ref pa15, V.ref pa18] ++ [V.ref pa22, V.ref pa25, V.ref pa27, V.ref pa29, V.ref pa32] ++ [V.ref pa36]) ([dma8, dma12, dma16, dma19] ++ [dma23, dma26, dma28, dma30, dma33] ++ [dma37]) := DeepAll.app daa35 daa38
 have dpa39 : Deep K (hid Ha39 t₁ D) (.ref pa39) (.list ([dma8, dma12, dma16, dma19] ++ [dma23, dma26, dma28, dma30, dma33] ++ [dma37])) := .lst (SqL.of da39) daa39
 clear ea39 ha39 da39 hG
 have gea39 : ∀ d ∈ ([dma8, dma12, dma16, dma19] ++ [dma23, dma26, dma28, dma30, dma33] ++ [dma37] : List PyData), Gd 2 20042 d := (gd_app (gd_wide (by decide) (by decide) gea35) (gd_wide (by decide) (by decide) gea38))
 have gda39 : Gd 3 200458 (.list ([dma8, dma12, dma16, dma19] ++ [dma23, dma26, dma28, dma30, dma33] ++ [dma37])) := Gd.lst (m := 10) gea39 (by first | omega | (simp <;> omega)) (by decide)
 refine ⟨_, rfl, _, rfl, _, rfl, py, _, _, _, rfl, rfl, hy, rfl, _, rfl, py, _, _, _, rfl, rfl, hy, rfl, _, rfl, zl2, fun pa40 ga40 => ?_⟩
 generalize hG : upd Ha39 pa40 (.tup [V.int (ga), V.int (-gb)]) = Ha40
 obtain ⟨ea40, ha40, da40⟩ := nwE hG ga40 tp.lst hd_
 obtain ⟨S0, tp, hd_⟩ := cr3 ea40 S0 tp hd_
 replace dpx := dS ea40 dpx
 replace dpy := dS ea40 dpy
 replace lsa39 := ea40 _ _ lsa39
 replace daa39 := aS ea40 daa39
 have sqa40 := SqT.of (K := K) ha40
 have daa40 : DeepAll K (hid Ha40 t₁ D) [V.int (ga), V.int (-gb)] [.int (ga), .int (-gb)] := (.cons (.int _) (.cons (.int _) .nil))
 have dpa40 := dpT da40 daa40
 clear ea40 ha40 da40 hG
 have gea40 : ∀ d ∈ ([.int (ga), .int (-gb)] : List PyData), Gd 0 5000 d := (gC (gW (gd_int (by omega))) (gC (gW (gd_int (by omega))) gN))
 have gda40 := gTu 2 10014 gea40
 refine ⟨zl2, fun pa41 ga41 => ?_⟩
 generalize hG : upd Ha40 pa41 (.tup [V.ref px, V.ref pa40]) = Ha41
 obtain ⟨ea41, ha41, da41⟩ := nwE hG ga41 tp.lst hd_
 obtain ⟨S0, tp, hd_⟩ := cr3 ea41 S0 tp hd_
 replace dpx := dS ea41 dpx
 replace dpy := dS ea41 dpy
 replace lsa39 := ea41 _ _ lsa39
 replace daa39 := aS ea41 daa39
 replace dpa40 := dS ea41 dpa40
 have sqa41 := SqT.of (K := K) ha41
 have daa41 : DeepAll K (hid Ha41 t₁ D) [V.ref px, V.ref pa40] [dX, PyData.tuple [.int (ga), .int (-gb)]] := (.cons dpx (.cons dpa40 .nil))
 have dpa41 := dpT da41 daa41
 clear ea41 ha41 da41 hG
 have gea41 : ∀ d ∈ ([dX, PyData.tuple [.int (ga), .int (-gb)]] : List PyData), Gd 1 10014 d := (gC (gW gdx) (gC (gW gda40) gN))
 have gda41 := gTu 2 20042 gea41
 have sma42 : SpP (PyData.tuple [dX, PyData.tuple [.int (ga), .int (-gb)]]) := (spP_of bz)
 generalize PyData.tuple [dX, PyData.tuple [.int (ga), .int (-gb)]] = dma42 at dpa41 gda41 sma42
 refine ⟨_, rfl, _, rfl, _, rfl, zl3, fun pa43 ga43 => ?_⟩
 generalize hG : upd Ha41 pa43 (.tup [V.ref px, V.ref py, V.ref py]) = Ha43
 obtain ⟨ea43, ha43, da43⟩ := nwE hG ga43 tp.lst hd_
 obtain ⟨S0, tp, hd_⟩ := cr3 ea43 S0 tp hd_
 replace dpx := dS ea43 dpx
 replace dpy := dS ea43 dpy
 replace lsa39 := ea43 _ _ lsa39
 replace daa39 := aS ea43 daa39
 replace dpa41 := dS ea43 dpa41
 have sqa43 := SqT.of (K := K) ha43
 have daa43 : DeepAll K (hid Ha43 t₁ D) [V.ref px, V.ref py, V.ref py] [dX, dY, dY] := (.cons dpx (.cons dpy (.cons dpy .nil)))
 have dpa43 := dpT da43 daa43
 clear ea43 ha43 da43 hG
 have gea43 : ∀ d ∈ ([dX, dY, dY] : List PyData), Gd 1 10014 d := (gC (gW gdx) (gC (gW gdy) (gC (gW gdy) gN)))
 have gda43 := gTu 3 30059 gea43
 have sma44 : SpP (PyData.tuple [dX, dY, dY]) := (fun h => Bool.noConfusion (show false = true from h))
 generalize PyData.tuple [dX, dY, dY] = dma44 at dpa43 gda43 sma44
 refine ⟨zl2, fun pa45 ga45 => ?_⟩
 generalize hG : upd Ha43 pa45 (.tup [V.int (0), V.int (1)]) = Ha45
 obtain ⟨ea45, ha45, da45⟩ := nwE hG ga45 tp.lst hd_
 obtain ⟨S0, tp, hd_⟩ := cr3 ea45 S0 tp hd_
 replace dpx := dS ea45 dpx
 replace dpy := dS ea45 dpy
 replace lsa39 := ea45 _ _ lsa39
 replace daa39 := aS ea45 daa39
 replace dpa41 := dS ea45 dpa41
 replace dpa43 := dS ea45 dpa43
 have sqa45 := SqT.of (K := K) ha45
 have daa45 : DeepAll K (hid Ha45 t₁ D) [V.int (0), V.int (1)] [.int (0), .int (1)] := (.cons (.int _) (.cons (.int _) .nil))
 have dpa45 := dpT da45 daa45
 clear ea45 ha45 da45 hG
 have gea45 : ∀ d ∈ ([.int (0), .int (1)] : List PyData), Gd 0 5000 d := (gC (gW (gd_int (by decide))) (gC (gW (gd_int (by decide))) gN))
 have gda45 := gTu 2 10014 gea45
 refine ⟨_, rfl, zl2, fun pa46 ga46 => ?_⟩
 generalize hG : upd Ha45 pa46 (.tup [V.ref pa45, V.ref py]) = Ha46
 obtain ⟨ea46, ha46, da46⟩ := nwE hG ga46 tp.lst hd_
 obtain ⟨S0, tp, hd_⟩ := cr3 ea46 S0 tp hd_
 replace dpx := dS ea46 dpx
 replace dpy := dS ea46 dpy
 replace lsa39 := ea46 _ _ lsa39
 replace daa39 := aS ea46 daa39
 replace dpa41 := dS ea46 dpa41
 replace dpa43 := dS ea46 dpa43
 replace dpa45 := dS ea46 dpa45
 have sqa46 := SqT.of (K := K) ha46
 have daa46 : DeepAll K (hid Ha46 t₁ D) [V.ref pa45, V.ref py] [PyData.tuple [.int (0), .int (1)], dY] := (.cons dpa45 (.cons dpy .nil))
 have dpa46 := dpT da46 daa46
 clear ea46 ha46 da46 hG
 have gea46 : ∀ d ∈ ([PyData.tuple [.int (0), .int (1)], dY] : List PyData), Gd 1 10014 d := (gC (gW gda45) (gC (gW gdy) gN))
 have gda46 := gTu 2 20042 gea46
 have sma47 : SpP (PyData.tuple [PyData.tuple [.int (0), .int (1)], dY]) := (spP_of (bq_l2 (q := 11645447814000000000) (by decide) (by decide) (by decide) (by decide)))
 generalize PyData.tuple [PyData.tuple [.int (0), .int (1)], dY] = dma47 at dpa46 gda46 sma47
 refine ⟨_, rfl, zl2, fun pa48 ga48 => ?_⟩
 generalize hG : upd Ha46 pa48 (.tup [V.int (0), V.int (1)]) = Ha48
 obtain ⟨ea48, ha48, da48⟩ := nwE hG ga48 tp.lst hd_
 obtain ⟨S0, tp, hd_⟩ := cr3 ea48 S0 tp hd_
 replace dpx := dS ea48 dpx
 replace lsa39 := ea48 _ _ lsa39
 replace daa39 := aS ea48 daa39
 replace dpa41 := dS ea48 dpa41
 replace dpa43 := dS ea48 dpa43
 replace dpa46 := dS ea48 dpa46
 have sqa48 := SqT.of (K := K) ha48
 have daa48 : DeepAll K (hid Ha48 t₁ D) [V.int (0), V.int (1)] [.int (0), .int (1)] := (.cons (.int _) (.cons (.int _) .nil))
 have dpa48 := dpT da48 daa48
 clear ea48 ha48 da48 hG
 have gea48 : ∀ d ∈ ([.int (0), .int (1)] : List PyData), Gd 0 5000 d := (gC (gW (gd_int (by decide))) (gC (gW (gd_int (by decide))) gN))
 have gda48 := gTu 2 10014 gea48
 refine ⟨zl2, fun pa49 ga49 => ?_⟩
 generalize hG : upd Ha48 pa49 (.tup [V.ref px, V.ref pa48]) = Ha49
 obtain ⟨ea49, ha49, da49⟩ := nwE hG ga49 tp.lst hd_
 obtain ⟨S0, tp, hd_⟩ := cr3 ea49 S0 tp hd_
 replace dpx := dS ea49 dpx
 replace lsa39 := ea49 _ _ lsa39
 replace daa39 := aS ea49 daa39
 replace dpa41 := dS ea49 dpa41
 replace dpa43 := dS ea49 dpa43
 replace dpa46 := dS ea49 dpa46
 replace dpa48 := dS ea49 dpa48
 have sqa49 := SqT.of (K := K) ha49
 have daa49 : DeepAll K (hid Ha49 t₁ D) [V.ref px, V.ref pa48] [dX, PyData.tuple [.int (0), .int (1)]] := (.cons dpx (.cons dpa48 .nil))
 have dpa49 := dpT da49 daa49
 clear ea49 ha49 da49 hG
 have gea49 : ∀ d ∈ ([dX, PyData.tuple [.int (0), .int (1)]] : List PyData), Gd 1 10014 d := (gC (gW gdx) (gC (gW gda48) gN))
 have gda49 := gTu 2 20042 gea49
 have sma50 : SpP (PyData.tuple [dX, PyData.tuple [.int (0), .int (1)]]) := (spP_of bz)
 generalize PyData.tuple [dX, PyData.tuple [.int (0), .int (1)]] = dma50 at dpa49 gda49 sma50
 refine ⟨zl5, fun pa51 ga51 => ?_⟩
 generalize hG : upd Ha49 pa51 (.lst [V.ref pa41, V.ref pa43, V.non, V.ref pa46, V.ref pa49]) = Ha51
 obtain ⟨ea51, ha51, da51⟩ := nwE hG ga51 tp.lst hd_
 have na51 := nwN ga51 tp.lst
 obtain ⟨S0, tp, hd_⟩ := cr3 ea51 S0 tp hd_
 replace lsa39 := ea51 _ _ lsa39
 replace daa39 := aS ea51 daa39
 replace dpa41 := dS ea51 dpa41
 replace dpa43 := dS ea51 dpa43
 replace dpa46 := dS ea51 dpa46
 replace dpa49 := dS ea51 dpa49
 have lsa51 := ha51
 have daa51 : DeepAll K (hid Ha51 t₁ D) [V.ref pa41, V.ref pa43, V.non, V.ref pa46, V.ref pa49] [dma42, dma44, PyData.none, dma47, dma50] := (.cons dpa41 (.cons dpa43 (.cons .non (.cons dpa46 (.cons dpa49 .nil)))))
 have dpa51 := dpL da51 daa51
 clear ea51 ha51 da51 hG
 have gea51 : ∀ d ∈ ([dma42, dma44, PyData.none, dma47, dma50] : List PyData), Gd 2 30059 d := (gC (gW gda41) (gC (gW gda43) (gC (gW gd_none) (gC (gW gda46) (gC (gW gda49) gN)))))
 have gda51 := gLs 5 150318 gea51
 refine ⟨pa39, pa51, _, _, rfl, rfl, lsa39, lsa51, Nat.le_trans (show _ ≤ 1000 by first | omega | (simp <;> omega)) zl1000, fun pa52 ga52 => ?_⟩
 generalize hG : upd Ha51 pa52 (.lst ([V.ref pa7, V.ref pa11, V.ref pa15, V.ref pa18] ++ [V.ref pa22, V.ref pa25, V.ref pa27, V.ref pa29, V.ref pa32] ++ [V.ref pa36] ++ [V.ref pa41, V.ref pa43, V.non, V.ref pa46, V.ref pa49])) = Ha52
 obtain ⟨ea52, ha52, da52⟩ := nwE hG ga52 tp.lst hd_
 have na52 := nwN ga52 tp.lst
 obtain ⟨S0, tp, hd_⟩ := cr3 ea52 S0 tp hd_
 replace daa39 := aS ea52 daa39
 replace daa51 := aS ea52 daa51
 have lsa52 : Ha52 pa52 = some (.lst ([V.ref pa7, V.ref pa11, V.ref pa15, V.ref pa18] ++ [V.ref pa22, V.ref pa25, V.ref pa27, V.ref pa29, V.ref pa32] ++ [V.ref pa36] ++ [V.ref pa41, V.ref pa43, V.non, V.ref pa46, V.ref pa49])) := ha52
 have daa52 : DeepAll K (hid Ha52 t₁ D) ([V.ref pa7, V.ref pa11, V.ref pa15, V.ref pa18] ++ [V.ref pa22, V.ref pa25, V.ref pa27, V.ref pa29, V.ref pa32] ++ [V.ref pa36] ++ [V.ref pa41, V.ref pa43, V.non, V.ref pa46, V.ref pa49]) ([dma8, dma12, dma16, dma19] ++ [dma23, dma26, dma28, dma30, dma33] ++ [dma37] ++ [dma42, dma44, PyData.none, dma47, dma50]) := DeepAll.app daa39 daa51
 have dpa52 : Deep K (hid Ha52 t₁ D) (.ref pa52) (.list ([dma8, dma12, dma16, dma19] ++ [dma23, dma26, dma28, dma30, dma33] ++ [dma37] ++ [dma42, dma44, PyData.none, dma47, dma50])) := .lst (SqL.of da52) daa52
 clear ea52 ha52 da52 hG
 have gea52 : ∀ d ∈ ([dma8, dma12, dma16, dma19] ++ [dma23, dma26, dma28, dma30, dma33] ++ [dma37] ++ [dma42, dma44, PyData.none, dma47, dma50] : List PyData), Gd 2 30059 d := (gd_app (gd_wide (by decide) (by decide) gea39) (gd_wide (by decide) (by decide) gea51))
 have gda52 : Gd 3 450938 (.list ([dma8, dma12, dma16, dma19] ++ [dma23, dma26, dma28, dma30, dma33] ++ [dma37] ++ [dma42, dma44, PyData.none, dma47, dma50])) := Gd.lst (m := 15) gea52 (by first | omega | (simp <;> omega)) (by decide)
 have spp : ∀ e ∈ ([dma8, dma12, dma16, dma19] ++ [dma23, dma26, dma28, dma30, dma33] ++ [dma37] ++ [dma42, dma44, PyData.none, dma47, dma50] : List PyData), SpP e := (spP_a (spP_a (spP_a (spP_c sma8 (spP_c sma12 (spP_c sma16 (spP_c sma19 spP_n)))) (spP_c sma23 (spP_c sma26 (spP_c sma28 (spP_c sma30 (spP_c sma33 spP_n)))))) (spP_c sma37 spP_n)) (spP_c sma42 (spP_c sma44 (spP_c (fun h => Bool.noConfusion (show false = true from h)) (spP_c sma47 (spP_c sma50 spP_n))))))
 refine ⟨_, rfl, _, rfl, t₁, s₁, 15, rfl, tp, by decide, by decide, fun ra53 za53 aa53 ba53 Ta53 => ?_⟩
 have Sa53 := Step.up (ys := za53) tp.lst.choose_spec
 replace S0 := S0.trans Sa53
 replace hd_ := hd_.imp fun _ q => Sa53.keep _ _ nD q
 replace lsa52 := Sa53.keep _ _ na52 lsa52
 replace daa52 := aP Sa53 daa52
 replace tp := Ta53
 clear Ta53 Sa53
 generalize upd Ha52 t₁ (.lst za53) = Ha53 at S0 tp hd_ lsa52 daa52 ⊢
 obtain ⟨va53, wa53, ata53, mea53, dva53⟩ := DeepAll.pick daa52 aa53 ba53
 refine ⟨pa52, _, _, va53, rfl, rfl, SqL.of lsa52, ata53, ?_⟩
 exact k (va53) (wa53) _ S0 tp dva53 (gW (gea52 _ mea53)) (spp _ mea53)
theorem ok_Q34 (T : Txt K mg t) : FnOk P w K mg base CX0 2 t.a_Q34 t.d_Q34 ["self", "work"] (sp_NoPrice K t.c_Q34) := by
 refine T.F_Q34.ok sc_Q34 (fun vs H Q E h => ?_) (fun cdv A outer s H vs Q E hr h => ?_)
 ·obtain ⟨_, _, rfl, _⟩ := h; rfl
 obtain ⟨a, n, rfl, ha, k⟩ := h
 refine QSs.ok (qss_one (qs_fldE rfl (qv 0) (qe_call (ok_Q39 T) (hr.mono (by decide)) rfl T.m_Q39 T.F_Q39.kp T.b_Q39 .nil pass0 (qa_cons (qv 1) qa_nil star_name)) rfl)) ?_
 refine ⟨_, rfl, .int n, rfl, .inl ⟨n, rfl⟩, _, rfl, a, _, _, rfl, T.X_Q34.cl, T.n_Q34_work, .inl ⟨ha, fun d hd nd => ?_⟩⟩
 refine k d _ hd nd (fun b o nb q => ?_) ?_ upd_same
 ·rw [upd_ne (ne_of_none q hd), upd_ne nb]; exact q
 ·rw [upd_ne (Ne.symm nd), upd_same]
theorem ok_Q5 (T : Txt K mg t) : FnOk P w K mg base (CXD P w) 9 t.a_Q5 t.d_Q5 ["works", "rule", "thing"] (sp_right_prices K t.c_Q34) := by
 refine B.Fun.okD T.F_Q5 sc_Q5 (fun vs H Q E h => ?_) (fun cdv A outer s H vs Q E hr h => ?_)
 ·obtain ⟨_, _, _, _, _, _, rfl, _⟩ := h; rfl
 obtain ⟨pw, xw, v, c, rl, d, rfl, hW, hv, ok, hDp, hbd, hsp, n9, k, ke⟩ := h
 refine QSs.ok (qss_cons (qs_if (qw_pt (qw_or (qt_not (qt_val (qe_call (ok_Q7 T) (hr.mono (by decide)) rfl T.m_Q7 T.F_Q7.kp T.b_Q7 .nil pass0 (qa_cons (qv 2) (qa_cons (qe_callB call_len_seq (by rfl) T.z_len PySem.boot_len (qa_cons (qv 0) qa_nil star_name)) qa_nil star_call) star_name)))) (qw_or1 (qt_not (qt_val (qe_callB (call_allL rfl) (by rfl) T.z_all PyProof.Rows.boot_all (qa_cons (qe_lcomp (N' := ["price"]) (src := [none]) rfl (by exact (qi_tup (qv 2))) (fun _ _ _ _ _ => (by exact (by exact qg_name (i := 0) (by show List.Nodup (["price"] : List Str); decide +kernel) (by exact rfl) (by first | exact Or.inl rfl | exact Or.inr rfl)))) (fun _ _ _ _ _ => qts_nil) (fun _ _ _ _ _ => (by exact (by exact (qe_call (ok_Q2 T) (by exact hr.mono (by decide)) (by exact rfl) T.m_Q2 T.F_Q2.kp T.b_Q2 (by exact .nil) (by exact pass0) (qa_cons (by exact (qv 0)) qa_nil star_name))))) (by exact trivial) rfl (by decide +kernel) rfl (by decide +kernel) (by exact cells_of rfl trivial)) qa_nil star_lc))))))) (qss_one (qs_raiseD T.X_Q34 (vm_has _) rfl takesD (ok_Q34 T) (hr.mono (by decide)) T.b_Q34 rfl T.m_Q34 (qa_cons (qe_un un_neg qe_int) qa_nil star_un))) qss_nil)
   (qss_cons (qs_for PassesOwn.leaving rfl (qi_enum rfl T.z_enumerate (qa_cons (qv 2) qa_nil star_name)) (qg_tup rfl (qgs_cons (qg_name (i := 3) sc_Q5.nd rfl (by first | exact Or.inl rfl | exact Or.inr rfl)) (qgs_cons (qg_name (i := 4) sc_Q5.nd rfl (by first | exact Or.inl rfl | exact Or.inr rfl)) qgs_nil)))
   (qss_one (qs_if (qt_not (qt_val (qe_call (ok_Q24 T) (hr.mono (by decide)) rfl T.m_Q24 T.F_Q24.kp T.b_Q24 .nil pass0 (qa_cons (qv 1) (qa_cons (qv 4) qa_nil star_name) star_name)))) (qss_one (qs_raiseD T.X_Q34 (vm_has _) rfl takesD (ok_Q34 T) (hr.mono (by decide)) T.b_Q34 rfl T.m_Q34 (qa_cons (qv 3) qa_nil star_name))) qss_nil)))
   (qss_one (qs_ret qe_bl)))) ?_
 cases shp : shpP xw.length d with
 | false =>
  have bd : wrongP xw.length rl d = some (-1) := by unfold wrongP; rw [shp]; rfl
  refine ⟨_, rfl, _, rfl, pw, _, rfl, .inr hW, c, d, xw.length, rfl, hDp, ⟨_, rfl, ?_⟩⟩
  cases ct : tupD xw.length d with
  | false =>
   refine iteT (iteT ?_)
   refine ⟨_, rfl, zl1, fun x hx => ⟨x, _, rfl, upd_same, fun d' H' hd nd kp ha hd' => ⟨rfl, some d', ha, ?_⟩⟩⟩
   exact ke _ bd d' _ (del_same hx kp) (by rw [del_at nd]; exact hd')
  | true =>
   refine iteF ?_
   obtain ⟨pc, xc, ds, rfl, rfl, hC, alD⟩ : ∃ pc xc ds, c = .ref pc /\ d = .tuple ds /\ SqT K H pc xc /\ DeepAll K H xc ds := by
    cases hDp with
    | tup e t => exact ⟨_, _, _, rfl, rfl, e, t⟩
    | _ => cases ct
   have lcd := alD.len
   have ldd := of_decide_eq_true (show decide (ds.length = xw.length) = true from ct)
   refine ⟨_, rfl, pc, rfl, ⟨_, hC⟩, fun D hD => comp_ix (wlk_tup hC) (fun _ => true) (fun i => V.bl (pairD (ds.getD i .none))) hD (by omega) (fun i x H' hi s' hx R E kR kE => ?_) fun H1 s1 h1 => ?_⟩
   ·obtain ⟨v, hv, dv⟩ := DeepAll.atN alD (List.getElem?_eq_getElem (show i < ds.length by omega))
    rw [hx] at hv
    cases hv
    rw [getD_of PyData.none (List.getElem?_eq_getElem (show i < ds.length by omega))] at kR
    exact ⟨Ext.set rfl, _, rfl, x, _, rfl, dv.same s', kR rfl _ (Same.refl _)⟩
   have e1 : (((List.range xc.length).filter fun _ => true).map fun i => V.bl (pairD (ds.getD i .none))) = ((List.range xc.length).map fun i => pairD (ds.getD i .none)).map V.bl := by rw [List.filter_eq_self.mpr (fun _ _ => rfl), List.map_map]; rfl
   rw [e1] at h1
   have sh' : (decide (ds.length = xw.length) && ds.all pairD) = false := shp
   rw [decide_eq_true ldd, Bool.true_and] at sh'
   have al : ((List.range xc.length).map fun i => pairD (ds.getD i .none)).all id = false := by rw [lcd, all_getD]; exact sh'
   refine ⟨D, _, rfl, SqL.of h1, ⟨_, rfl, ?_⟩⟩
   rw [al]
   refine iteT ?_
   refine ⟨_, rfl, zl1, fun x hx => ⟨x, _, rfl, upd_same, fun d' H' hd nd kp ha hd' => ⟨rfl, some d', ha, ?_⟩⟩⟩
   exact ke _ bd d' _ (s1.trans (del_same hx kp)) (by rw [del_at nd]; exact hd')
 | true =>
 obtain ⟨pc, xc, ds, rfl, rfl, hC, alD⟩ : ∃ pc xc ds, c = .ref pc /\ d = .tuple ds /\ SqT K H pc xc /\ DeepAll K H xc ds := by
  cases hDp with
  | tup e t => exact ⟨_, _, _, rfl, rfl, e, t⟩
  | _ => cases shp
 have sh' : (decide (ds.length = xw.length) && ds.all pairD) = true := shp
 rw [Bool.and_eq_true, decide_eq_true_iff] at sh'
 obtain ⟨ldd, alr⟩ := sh'
 have lcd := alD.len
 have bdd : wrongP xw.length rl (.tuple ds) = ((List.range xw.length).find? fun i => !okP rl (ds.getD i .none)).map fun i => (i : Int) := by unfold wrongP; rw [shp]; rfl
 refine ⟨_, rfl, _, rfl, pw, _, rfl, .inr hW, .ref pc, .tuple ds, xw.length, rfl, hDp, ⟨_, rfl, ?_⟩⟩
 rw [show tupD xw.length (.tuple ds) = true from decide_eq_true ldd]
 refine iteF ?_
 refine ⟨_, rfl, pc, rfl, ⟨_, hC⟩, fun D hD => comp_ix (wlk_tup hC) (fun _ => true) (fun i => V.bl (pairD (ds.getD i .none))) hD (by omega) (fun i x H' hi s' hx R E kR kE => ?_) fun H1 s1 h1 => ?_⟩
 ·obtain ⟨v, hv, dv⟩ := DeepAll.atN alD (List.getElem?_eq_getElem (show i < ds.length by omega))
  rw [hx] at hv
  cases hv
  rw [getD_of PyData.none (List.getElem?_eq_getElem (show i < ds.length by omega))] at kR
  exact ⟨Ext.set rfl, _, rfl, x, _, rfl, dv.same s', kR rfl _ (Same.refl _)⟩
 have e1 : (((List.range xc.length).filter fun _ => true).map fun i => V.bl (pairD (ds.getD i .none))) = ((List.range xc.length).map fun i => pairD (ds.getD i .none)).map V.bl := by rw [List.filter_eq_self.mpr (fun _ _ => rfl), List.map_map]; rfl
 rw [e1] at h1
 have al : ((List.range xc.length).map fun i => pairD (ds.getD i .none)).all id = true := by rw [lcd, all_getD]; exact alr
 refine ⟨D, _, rfl, SqL.of h1, ⟨_, rfl, ?_⟩⟩
 rw [al]
 refine iteF ?_
 refine ⟨_, rfl, pc, rfl, ⟨_, Tst.same s1 _ _ hC⟩, for_enum (K := K) (a := pc) (xs := xc) (fun i σ H' => ∃ (x4 x5 : Option V), σ = [some (.ref pw), some v, some (.ref pc), x4, x5] /\ Same H H' /\ ∀ m, m < i -> okP rl (ds.getD m .none) = true) ⟨_, _, rfl, s1, fun m hm => absurd hm (Nat.not_lt_zero _)⟩ (fun i σ H1 _ ⟨_, _, _, sm, _⟩ => Tst.same sm _ _ hC) ?_ ?_⟩
 ·rintro i x pt σ H2 hx ⟨x4, x5, rfl, sm, gd⟩ hpt
  have e1 := same_new hpt (.tup [.int i, x])
  refine ⟨pt, _, rfl, SqT.of upd_same, rfl, _, _, rfl, _, _, rfl, rfl, ?_⟩
  have sm1 := sm.trans e1
  have hil : i < ds.length := by have := (List.getElem?_eq_some_iff.mp hx).1; omega
  have hde : ds[i]? = some ds[i] := List.getElem?_eq_getElem hil
  obtain ⟨w, hw, dv⟩ := DeepAll.atN alD hde
  rw [hx] at hw
  cases hw
  have mm : ds[i] ∈ ds := List.getElem_mem hil
  generalize upd H2 pt (.tup [.int i, x]) = H3 at sm1 ⊢
  refine ⟨_, rfl, _, rfl, v, x, rl, ds[i], rfl, hv.mono (Tst.same sm1), ok, dv.same sm1, List.all_eq_true.mp alr _ mm, ibdAll_mem (show ibdAll ds = true from hbd) _ mm, hsp _ mm, fun H4 s4 => ⟨_, rfl, ?_⟩⟩
  have sm4 := sm1.trans s4
  cases c : okP rl ds[i] with
  | false =>
   refine iteT ?_
   have bd : wrongP xw.length rl (.tuple ds) = some (i : Int) := by
    rw [bdd, find_at (i := i) (show i < xw.length by omega) (by rw [getD_of PyData.none hde, c]; rfl) (fun j hj => by rw [gd j hj]; rfl)]
    rfl
   refine ⟨_, rfl, zl1, fun x hx => ⟨x, _, rfl, upd_same, fun d' H' hd nd kp ha hd' => ⟨rfl, some d', ha, ?_⟩⟩⟩
   exact ke _ bd d' _ (sm4.trans (del_same hx kp)) (by rw [del_at nd]; exact hd')
  | true =>
   refine iteF ⟨_, _, rfl, sm4, fun m hm => ?_⟩
   by_cases z : m < i
   ·exact gd m z
   ·have : m = i := by omega
    subst this
    rw [getD_of PyData.none hde]
    exact c
 ·rintro σ H2 ⟨x4, x5, rfl, sm, gd⟩
  refine k ?_ H2 sm
  rw [bdd, find_no (fun j hj => by rw [gd j (by omega)]; rfl)]
  rfl
theorem ok_Q29 (T : Txt K mg t) : FnOk P w K mg base CX0 3 t.a_Q29 t.d_Q29 ["_law_tape_here", "_law_kinks", "_law_most"] (sp_law_rule K) := by
 refine T.F_Q29.ok sc_Q29 (fun vs H Q E h => ?_) (fun cdv A outer s H vs Q E hr h => ?_)
 ·obtain ⟨_, _, _, _, _, _, _, rfl, _⟩ := h; rfl
 obtain ⟨t₁, s₁, kl, xk, v, ks, rm, rfl, tp, nD, hkl, alk, hks, k4, rvm, hkm, hm0, k⟩ := h
 refine QSs.ok (qss_cons (qsA 3 sc_Q29.nd (qe_call (ok_Q26 T) (hr.mono (by decide)) rfl T.m_Q26 T.F_Q26.kp T.b_Q26 .nil pass0 (qa_cons (qv 0) (qa_cons qe_int qa_nil star_con) star_name)))
   (qss_cons (qs_if (qt_cmpR op_lt (qv 3) qe_int (nomark _)) (qss_one (qs_ret (qe_tup (qa_cons qe_str (qa_cons (qe_op op_add qe_int (qv 3)) qa_nil star_bin) star_con)))) qss_nil)
   (qss_cons (qsA 4 sc_Q29.nd (qe_op op_cat (qe_slice sl_list (qe_lst (qa_cons (qe_tup (qa_cons qe_int (qa_cons qe_int qa_nil star_con) star_con)) (qa_cons (qe_tup (qa_cons qe_int (qa_cons qe_int qa_nil star_con) star_con)) (qa_cons (qe_tup (qa_cons qe_int (qa_cons qe_int qa_nil star_con) star_con)) (qa_cons (qe_tup (qa_cons qe_int (qa_cons qe_int qa_nil star_con) star_con)) (qa_cons (qe_tup (qa_cons qe_int (qa_cons qe_int qa_nil star_con) star_con)) qa_nil star_tup) star_tup) star_tup) star_tup) star_tup)) qo_none (qo_some (qe_call (ok_Q26 T) (hr.mono (by decide)) rfl T.m_Q26 T.F_Q26.kp T.b_Q26 .nil pass0 (qa_cons (qv 0) (qa_cons qe_int qa_nil star_con) star_name)))) (qe_slice sl_list (qe_callTy call_list_of (by rfl) T.z_list PyProof.Rows.boot_list (qa_cons (qv 1) qa_nil star_name)) qo_none (qo_some (qe_call (ok_Q26 T) (hr.mono (by decide)) rfl T.m_Q26 T.F_Q26.kp T.b_Q26 .nil pass0 (qa_cons (qv 0) (qa_cons qe_int qa_nil star_con) star_name))))))
   (qss_cons (qs_setC (i := 4) (N' := ["_law_speed", "_law_most"]) (src := [none, some 2]) sc_Q29.nd rfl (by first | exact Or.inl rfl | exact Or.inr rfl) rfl (by exact (qi_list (qv 4))) (fun _ _ _ _ _ => (by exact (by exact qg_name (i := 0) (by show List.Nodup (["_law_speed", "_law_most"] : List Str); decide +kernel) (by exact rfl) (by first | exact Or.inl rfl | exact Or.inr rfl)))) (fun _ _ _ _ _ => (qts_one (qw_pt (qw_and (qt_val (by exact (qe_call (ok_Q28 T) (by exact hr.mono (by decide)) (by exact rfl) T.m_Q28 T.F_Q28.kp T.b_Q28 (by exact .nil) (by exact pass0) (qa_cons (by exact (qe_tup (qa_cons qe_int (qa_cons qe_int qa_nil star_con) star_con))) (qa_cons (by exact (qv 0)) qa_nil star_name) star_tup)))) (qw_and1 (qt_val (by exact (qe_call (ok_Q28 T) (by exact hr.mono (by decide)) (by exact rfl) T.m_Q28 T.F_Q28.kp T.b_Q28 (by exact .nil) (by exact pass0) (qa_cons (by exact (qv 0)) (qa_cons (by exact (qv 1)) qa_nil star_name) star_name))))))))) (fun _ _ _ _ _ => (by exact (by exact (qv 0)))) (by exact ⟨rfl, rfl, rfl, rfl, trivial⟩) rfl (by decide +kernel) rfl (by decide +kernel) (by exact cells_of rfl ⟨rfl, trivial⟩))
   (qss_cons (qsA 5 sc_Q29.nd (qe_ix ix_list (qe_lst (qa_cons (qv 2) (qa_cons (qe_call (ok_Q32 T) (hr.mono (by decide)) rfl T.m_Q32 T.F_Q32.kp T.b_Q32 .nil pass0 (qa_cons (qv 2) (qa_cons (qe_tup (qa_cons qe_int (qa_cons (qe_op op_add qe_int (qe_call (ok_Q26 T) (hr.mono (by decide)) rfl T.m_Q26 T.F_Q26.kp T.b_Q26 .nil pass0 (qa_cons (qv 0) (qa_cons qe_int qa_nil star_con) star_name))) qa_nil star_bin) star_con)) qa_nil star_tup) star_name)) qa_nil star_call) star_name)) (qe_call (ok_Q26 T) (hr.mono (by decide)) rfl T.m_Q26 T.F_Q26.kp T.b_Q26 .nil pass0 (qa_cons (qv 0) (qa_cons qe_int qa_nil star_con) star_name)) (fun _ _ => rfl)))
   (qss_cons (qs_cut (qs_if (qt_cmpR (op_eqD hr) (qv 5) (qe_tup (qa_cons qe_int (qa_cons qe_int qa_nil star_con) star_con)) (nomark _)) (qss_one (qsA 5 sc_Q29.nd (qe_tup (qa_cons qe_int (qa_cons qe_int qa_nil star_con) star_con)))) qss_nil))
   (qss_cons (qsA 6 sc_Q29.nd (qe_ix ix_list (qe_lst (qa_cons (qe_tup (qa_cons qe_int (qa_cons qe_int qa_nil star_con) star_con)) (qa_cons (qe_tup (qa_cons qe_int (qa_cons qe_int qa_nil star_con) star_con)) (qa_cons (qe_tup (qa_cons qe_int (qa_cons qe_int qa_nil star_con) star_con)) qa_nil star_tup) star_tup) star_tup)) (qe_call (ok_Q26 T) (hr.mono (by decide)) rfl T.m_Q26 T.F_Q26.kp T.b_Q26 .nil pass0 (qa_cons (qv 0) (qa_cons qe_int qa_nil star_con) star_name)) (fun _ _ => rfl)))
   (qss_cons (qsA 7 sc_Q29.nd (qe_call (ok_Q27 T) (hr.mono (by decide)) rfl T.m_Q27 T.F_Q27.kp T.b_Q27 .nil pass0 (qa_cons (qe_op op_add qe_int (qe_call (ok_Q26 T) (hr.mono (by decide)) rfl T.m_Q26 T.F_Q26.kp T.b_Q26 .nil pass0 (qa_cons (qv 0) (qa_cons qe_int qa_nil star_con) star_name))) (qa_cons (qe_op op_add qe_int (qe_call (ok_Q26 T) (hr.mono (by decide)) rfl T.m_Q26 T.F_Q26.kp T.b_Q26 .nil pass0 (qa_cons (qv 0) (qa_cons qe_int qa_nil star_con) star_name))) qa_nil star_bin) star_bin)))
   (qss_cons (qsA 8 sc_Q29.nd (qe_lst (qa_cons (qe_tup (qa_cons (qe_tup (qa_cons qe_int (qa_cons qe_int qa_nil star_con) star_con)) (qa_cons (qv 6) qa_nil star_name) star_tup)) qa_nil star_tup)))
   (qss_cons (qs_for PassesOwn.never rfl (qi_list (qe_op op_cat (qe_call (ok_Q8 T) (hr.mono (by decide)) rfl T.m_Q8 T.F_Q8.kp T.b_Q8 .nil pass0 (qa_cons (qv 4) qa_nil star_name)) (qe_lst (qa_cons (qv 5) qa_nil star_name)))) (qg_name (i := 9) sc_Q29.nd rfl (by first | exact Or.inl rfl | exact Or.inr rfl))
   (qss_cons (qsA 10 sc_Q29.nd (qe_call (ok_Q32 T) (hr.mono (by decide)) rfl T.m_Q32 T.F_Q32.kp T.b_Q32 .nil pass0 (qa_cons (qv 9) (qa_cons (qe_tup (qa_cons (qe_un un_neg (qe_ix ix_tup (qe_ix ix_tup (qe_ix ix_list (qv 8) (qe_un un_neg qe_int) (fun _ _ => rfl)) qe_int (fun _ _ => rfl)) qe_int (fun _ _ => rfl))) (qa_cons (qe_ix ix_tup (qe_ix ix_tup (qe_ix ix_list (qv 8) (qe_un un_neg qe_int) (fun _ _ => rfl)) qe_int (fun _ _ => rfl)) qe_int (fun _ _ => rfl)) qa_nil star_sub) star_un)) qa_nil star_tup) star_name)))
   (qss_cons (qs_expr (qe_bm PySem.F.plainAttrs_list PySem.F.slot_list_append PySem.F.type_list_append mt_append (qv 8) (qa_cons (qe_tup (qa_cons (qv 9) (qa_cons (qe_call (ok_Q32 T) (hr.mono (by decide)) rfl T.m_Q32 T.F_Q32.kp T.b_Q32 .nil pass0 (qa_cons (qe_ix ix_tup (qe_ix ix_list (qv 8) (qe_un un_neg qe_int) (fun _ _ => rfl)) qe_int (fun _ _ => rfl)) (qa_cons (qe_call (ok_Q33 T) (hr.mono (by decide)) rfl T.m_Q33 T.F_Q33.kp T.b_Q33 .nil pass0 (qa_cons (qv 7) (qa_cons (qv 10) qa_nil star_name) star_name)) qa_nil star_call) star_sub)) qa_nil star_call) star_name)) qa_nil star_tup)))
   (qss_one (qsA 7 sc_Q29.nd (qe_call (ok_Q32 T) (hr.mono (by decide)) rfl T.m_Q32 T.F_Q32.kp T.b_Q32 .nil pass0 (qa_cons (qv 7) (qa_cons (qe_call (ok_Q27 T) (hr.mono (by decide)) rfl T.m_Q27 T.F_Q27.kp T.b_Q27 .nil pass0 (qa_cons (qe_call (ok_Q26 T) (hr.mono (by decide)) rfl T.m_Q26 T.F_Q26.kp T.b_Q26 .nil pass0 (qa_cons (qv 0) (qa_cons qe_int qa_nil star_con) star_name)) (qa_cons (qe_op op_add qe_int (qe_call (ok_Q26 T) (hr.mono (by decide)) rfl T.m_Q26 T.F_Q26.kp T.b_Q26 .nil pass0 (qa_cons (qv 0) (qa_cons qe_int qa_nil star_con) star_name))) qa_nil star_bin) star_call)) qa_nil star_call) star_name)))))))
   (qss_one (qs_ret (qe_tup (qa_cons qe_str (qa_cons (qe_callTy call_tuple_of (by rfl) T.z_tuple PyProof.Rows.boot_tuple (qa_cons (qv 8) qa_nil star_name)) qa_nil star_call) star_con)))))))))))))) ?_
 have hd_ : ∃ ys, H kl = some (.lst ys) := ⟨_, hkl⟩
 have tp0 := tp.lst
 have S0 : Step t₁ H H := ⟨fun _ _ _ q => q, tp.lst, tp.lst⟩
 refine ⟨_, rfl, t₁, s₁, 6, rfl, tp, by decide, by decide, fun ru1 zu1 au1 bu1 Tu1 => ?_⟩
 have Su1 := Step.up (ys := zu1) tp.lst.choose_spec
 replace S0 := S0.trans Su1
 replace hd_ := hd_.imp fun _ q => Su1.keep _ _ nD q
 replace hkl := Su1.keep _ _ nD hkl
 replace alk := alk.mono fun _ _ q => q.mono (Tst.step (K := K) Su1)
 replace rvm := rvm.mono (Tst.step (K := K) Su1)
 replace tp := Tu1
 clear Tu1 Su1
 generalize upd H t₁ (.lst zu1) = Hu1 at S0 tp hd_ hkl alk rvm ⊢
 refine ⟨_, rfl, _, _, rfl, rfl, _, rfl, ite2 (fun cw => ?_) (fun cw => ?_)⟩
 ·refine ⟨_, rfl, _, _, rfl, rfl, zl2, fun p0 hp0 => ?_⟩
  have s0 := same_new hp0 (.tup [.str (Str.ofString "power"), .int (2 + ru1)])
  have c3 := of_decide_eq_true cw
  exact k (.ref p0) (.pow (2 + ru1)) _ (S0.trans (.same s0 tp.lst)) (tp.same s0) ⟨p0, rfl, SqT.of upd_same⟩ ⟨by omega, by omega⟩ trivial
 refine ⟨zl2, fun pu2 gu2 => ?_⟩
 generalize hG : upd Hu1 pu2 (.tup [.int 1, .int 2]) = Hu2
 obtain ⟨eu2, hu2, du2⟩ := nwE hG gu2 tp.lst hd_
 obtain ⟨S0, tp, hd_⟩ := cr3 eu2 S0 tp hd_
 replace hkl := eu2 _ _ hkl
 replace alk := alk.mono fun _ _ q => q.mono (Tst.same eu2)
 replace rvm := rvm.mono (Tst.same eu2)
 have rf0 : RV K Hu2 (.ref pu2) (1, 2) := RV.of hu2
 clear eu2 hu2 du2 hG
 refine ⟨zl2, fun pu3 gu3 => ?_⟩
 generalize hG : upd Hu2 pu3 (.tup [.int 1, .int 1]) = Hu3
 obtain ⟨eu3, hu3, du3⟩ := nwE hG gu3 tp.lst hd_
 obtain ⟨S0, tp, hd_⟩ := cr3 eu3 S0 tp hd_
 replace hkl := eu3 _ _ hkl
 replace alk := alk.mono fun _ _ q => q.mono (Tst.same eu3)
 replace rvm := rvm.mono (Tst.same eu3)
 replace rf0 := rf0.mono (Tst.same eu3)
 have rf1 : RV K Hu3 (.ref pu3) (1, 1) := RV.of hu3
 clear eu3 hu3 du3 hG
 refine ⟨zl2, fun pu4 gu4 => ?_⟩
 generalize hG : upd Hu3 pu4 (.tup [.int 2, .int 1]) = Hu4
 obtain ⟨eu4, hu4, du4⟩ := nwE hG gu4 tp.lst hd_
 obtain ⟨S0, tp, hd_⟩ := cr3 eu4 S0 tp hd_
 replace hkl := eu4 _ _ hkl
 replace alk := alk.mono fun _ _ q => q.mono (Tst.same eu4)
 replace rvm := rvm.mono (Tst.same eu4)
 replace rf0 := rf0.mono (Tst.same eu4)
 replace rf1 := rf1.mono (Tst.same eu4)
 have rf2 : RV K Hu4 (.ref pu4) (2, 1) := RV.of hu4
 clear eu4 hu4 du4 hG
 refine ⟨zl2, fun pu5 gu5 => ?_⟩
 generalize hG : upd Hu4 pu5 (.tup [.int 7, .int 3]) = Hu5
 obtain ⟨eu5, hu5, du5⟩ := nwE hG gu5 tp.lst hd_
 obtain ⟨S0, tp, hd_⟩ := cr3 eu5 S0 tp hd_
 replace hkl := eu5 _ _ hkl
 replace alk := alk.mono fun _ _ q => q.mono (Tst.same eu5)
 replace rvm := rvm.mono (Tst.same eu5)
 replace rf0 := rf0.mono (Tst.same eu5)
 replace rf1 := rf1.mono (Tst.same eu5)
 replace rf2 := rf2.mono (Tst.same eu5)
 have rf3 : RV K Hu5 (.ref pu5) (7, 3) := RV.of hu5
 clear eu5 hu5 du5 hG
 refine ⟨zl2, fun pu6 gu6 => ?_⟩
 generalize hG : upd Hu5 pu6 (.tup [.int 5, .int 1]) = Hu6
 obtain ⟨eu6, hu6, du6⟩ := nwE hG gu6 tp.lst hd_
 obtain ⟨S0, tp, hd_⟩ := cr3 eu6 S0 tp hd_
 replace hkl := eu6 _ _ hkl
 replace alk := alk.mono fun _ _ q => q.mono (Tst.same eu6)
 replace rvm := rvm.mono (Tst.same eu6)
 replace rf0 := rf0.mono (Tst.same eu6)
 replace rf1 := rf1.mono (Tst.same eu6)
 replace rf2 := rf2.mono (Tst.same eu6)
 replace rf3 := rf3.mono (Tst.same eu6)
 have rf4 : RV K Hu6 (.ref pu6) (5, 1) := RV.of hu6
 clear eu6 hu6 du6 hG
 refine ⟨zl5, fun pu7 gu7 => ?_⟩
 generalize hG : upd Hu6 pu7 (.lst [V.ref pu2, V.ref pu3, V.ref pu4, V.ref pu5, V.ref pu6]) = Hu7
 obtain ⟨eu7, hu7, du7⟩ := nwE hG gu7 tp.lst hd_
 have nu7 := nwN gu7 tp.lst
 obtain ⟨S0, tp, hd_⟩ := cr3 eu7 S0 tp hd_
 replace hkl := eu7 _ _ hkl
 replace alk := alk.mono fun _ _ q => q.mono (Tst.same eu7)
 replace rvm := rvm.mono (Tst.same eu7)
 replace rf0 := rf0.mono (Tst.same eu7)
 replace rf1 := rf1.mono (Tst.same eu7)
 replace rf2 := rf2.mono (Tst.same eu7)
 replace rf3 := rf3.mono (Tst.same eu7)
 replace rf4 := rf4.mono (Tst.same eu7)
 have ls1 := hu7
 have al1 : Als (RV K Hu7) ([V.ref pu2, V.ref pu3, V.ref pu4, V.ref pu5, V.ref pu6] : List V) [(1, 2), (1, 1), (2, 1), (7, 3), (5, 1)] := (.cons rf0 (.cons rf1 (.cons rf2 (.cons rf3 (.cons rf4 .nil)))))
 clear eu7 hu7 du7 hG
 refine ⟨_, rfl, t₁, s₁, 6, rfl, tp, by decide, by decide, fun ru8 zu8 au8 bu8 Tu8 => ?_⟩
 have Su8 := Step.up (ys := zu8) tp.lst.choose_spec
 replace S0 := S0.trans Su8
 replace hd_ := hd_.imp fun _ q => Su8.keep _ _ nD q
 replace hkl := Su8.keep _ _ nD hkl
 replace alk := alk.mono fun _ _ q => q.mono (Tst.step (K := K) Su8)
 replace rvm := rvm.mono (Tst.step (K := K) Su8)
 replace ls1 := Su8.keep _ _ nu7 ls1
 replace al1 := al1.mono fun _ _ q => q.mono (Tst.step (K := K) Su8)
 replace tp := Tu8
 clear Tu8 Su8
 generalize upd Hu7 t₁ (.lst zu8) = Hu8 at S0 tp hd_ hkl alk rvm ls1 al1 ⊢
 obtain ⟨n1, rfl⟩ := Int.eq_ofNat_of_zero_le au8
 refine ⟨_, rfl, pu7, _, rfl, SqL.of ls1, fun pu9 gu9 => ?_⟩
 generalize hG : upd Hu8 pu9 (.lst (cutV ([V.ref pu2, V.ref pu3, V.ref pu4, V.ref pu5, V.ref pu6] : List V) none (some ((n1 : Nat) : Int)))) = Hu9
 obtain ⟨eu9, hu9, du9⟩ := nwE hG gu9 tp.lst hd_
 have nu9 := nwN gu9 tp.lst
 obtain ⟨S0, tp, hd_⟩ := cr3 eu9 S0 tp hd_
 replace hkl := eu9 _ _ hkl
 replace alk := alk.mono fun _ _ q => q.mono (Tst.same eu9)
 replace rvm := rvm.mono (Tst.same eu9)
 replace ls1 := eu9 _ _ ls1
 replace al1 := al1.mono fun _ _ q => q.mono (Tst.same eu9)
 have ls2 : Hu9 pu9 = some (.lst (([V.ref pu2, V.ref pu3, V.ref pu4, V.ref pu5, V.ref pu6] : List V).take n1)) := (by have z := hu9; rw [cut_any] at z; exact z)
 have al2 : Als (RV K Hu9) (([V.ref pu2, V.ref pu3, V.ref pu4, V.ref pu5, V.ref pu6] : List V).take n1) (([(1, 2), (1, 1), (2, 1), (7, 3), (5, 1)] : List R).take n1) := Als.take n1 al1
 clear eu9 hu9 du9 hG
 refine ⟨_, rfl, kl, _, rfl, .inl (SqL.of hkl), fun pu10 gu10 => ?_⟩
 generalize hG : upd Hu9 pu10 (.lst xk) = Hu10
 obtain ⟨eu10, hu10, du10⟩ := nwE hG gu10 tp.lst hd_
 have nu10 := nwN gu10 tp.lst
 obtain ⟨S0, tp, hd_⟩ := cr3 eu10 S0 tp hd_
 replace hkl := eu10 _ _ hkl
 replace alk := alk.mono fun _ _ q => q.mono (Tst.same eu10)
 replace rvm := rvm.mono (Tst.same eu10)
 replace ls2 := eu10 _ _ ls2
 replace al2 := al2.mono fun _ _ q => q.mono (Tst.same eu10)
 have ls3 := hu10
 clear eu10 hu10 du10 hG
 refine ⟨_, rfl, t₁, s₁, 5, rfl, tp, by decide, by decide, fun ru11 zu11 au11 bu11 Tu11 => ?_⟩
 have Su11 := Step.up (ys := zu11) tp.lst.choose_spec
 replace S0 := S0.trans Su11
 replace hd_ := hd_.imp fun _ q => Su11.keep _ _ nD q
 replace hkl := Su11.keep _ _ nD hkl
 replace alk := alk.mono fun _ _ q => q.mono (Tst.step (K := K) Su11)
 replace rvm := rvm.mono (Tst.step (K := K) Su11)
 replace ls2 := Su11.keep _ _ nu9 ls2
 replace al2 := al2.mono fun _ _ q => q.mono (Tst.step (K := K) Su11)
 replace ls3 := Su11.keep _ _ nu10 ls3
 replace tp := Tu11
 clear Tu11 Su11
 generalize upd Hu10 t₁ (.lst zu11) = Hu11 at S0 tp hd_ hkl alk rvm ls2 al2 ls3 ⊢
 obtain ⟨n2, rfl⟩ := Int.eq_ofNat_of_zero_le au11
 refine ⟨_, rfl, pu10, _, rfl, SqL.of ls3, fun pu12 gu12 => ?_⟩
 generalize hG : upd Hu11 pu12 (.lst (cutV xk none (some ((n2 : Nat) : Int)))) = Hu12
 obtain ⟨eu12, hu12, du12⟩ := nwE hG gu12 tp.lst hd_
 have nu12 := nwN gu12 tp.lst
 obtain ⟨S0, tp, hd_⟩ := cr3 eu12 S0 tp hd_
 replace hkl := eu12 _ _ hkl
 replace alk := alk.mono fun _ _ q => q.mono (Tst.same eu12)
 replace rvm := rvm.mono (Tst.same eu12)
 replace ls2 := eu12 _ _ ls2
 replace al2 := al2.mono fun _ _ q => q.mono (Tst.same eu12)
 replace ls3 := eu12 _ _ ls3
 have ls4 : Hu12 pu12 = some (.lst (xk.take n2)) := (by have z := hu12; rw [cut_any] at z; exact z)
 have al4 : Als (RV K Hu12) (xk.take n2) (ks.take n2) := Als.take n2 alk
 clear eu12 hu12 du12 hG
 refine ⟨pu9, pu12, _, _, rfl, rfl, ls2, ls4, Nat.le_trans (show _ ≤ 1000 by first | omega | (simp <;> omega)) zl1000, fun pu13 gu13 => ?_⟩
 generalize hG : upd Hu12 pu13 (.lst (([V.ref pu2, V.ref pu3, V.ref pu4, V.ref pu5, V.ref pu6] : List V).take n1 ++ xk.take n2)) = Hu13
 obtain ⟨eu13, hu13, du13⟩ := nwE hG gu13 tp.lst hd_
 have nu13 := nwN gu13 tp.lst
 obtain ⟨S0, tp, hd_⟩ := cr3 eu13 S0 tp hd_
 replace hkl := eu13 _ _ hkl
 replace rvm := rvm.mono (Tst.same eu13)
 replace ls2 := eu13 _ _ ls2
 replace al2 := al2.mono fun _ _ q => q.mono (Tst.same eu13)
 replace ls4 := eu13 _ _ ls4
 replace al4 := al4.mono fun _ _ q => q.mono (Tst.same eu13)
 have ls5 := hu13
 have al5 : Als (RV K Hu13) (([V.ref pu2, V.ref pu3, V.ref pu4, V.ref pu5, V.ref pu6] : List V).take n1 ++ xk.take n2) (([(1, 2), (1, 1), (2, 1), (7, 3), (5, 1)] : List R).take n1 ++ ks.take n2) := Als.join al2 al4
 clear eu13 hu13 du13 hG
 have kb5 : ∀ r ∈ (([(1, 2), (1, 1), (2, 1), (7, 3), (5, 1)] : List R).take n1 ++ ks.take n2), KiB r := fun r hr => by
  rcases List.mem_append.mp hr with h | h
  ·have h := List.mem_of_mem_take h
   simp only [List.mem_cons, List.not_mem_nil, or_false] at h
   rcases h with rfl | rfl | rfl | rfl | rfl
   ·exact ki_lit (by decide) ⟨3, by decide⟩ (by decide) (by decide)
   ·exact ki_lit (by decide) ⟨6, by decide⟩ (by decide) (by decide)
   ·exact ki_lit (by decide) ⟨6, by decide⟩ (by decide) (by decide)
   ·exact ki_lit (by decide) ⟨2, by decide⟩ (by decide) (by decide)
   ·exact ki_lit (by decide) ⟨6, by decide⟩ (by decide) (by decide)
  ·exact hks r (List.mem_of_mem_take h)
 have ln5 : (([(1, 2), (1, 1), (2, 1), (7, 3), (5, 1)] : List R).take n1 ++ ks.take n2).length ≤ 9 := by simp <;> omega
 generalize (([(1, 2), (1, 1), (2, 1), (7, 3), (5, 1)] : List R).take n1 ++ ks.take n2) = rs5 at al5 kb5 ln5
 have xl5 := al5.len
 generalize (([V.ref pu2, V.ref pu3, V.ref pu4, V.ref pu5, V.ref pu6] : List V).take n1 ++ xk.take n2) = xs5 at ls5 al5 xl5
 refine ⟨_, rfl, pu13, rfl, ⟨_, SqL.of ls5⟩, fun Dc hDc => comp_filt (K := K) (P := RV K) (p := fun y => lessR (0, 1) y && lessR y rm) (fun _ _ _ _ t p => p.mono t) hDc (SqL.of ls5) al5 (by omega) (fun j x d H3 hx hd s3 pd R E kR kE => ?_) fun H6 ds s6 hD6 al6 => ?_⟩
 ·have wd := (kb5 d (List.mem_of_getElem? hd)).wf
  refine ⟨Ext.set rfl, zl2, fun pz hpz => ?_⟩
  have sz := same_new hpz (.tup [.int 0, .int 1])
  refine ⟨_, rfl, .ref pz, x, (0, 1), d, 1, 98, rfl, RV.of upd_same, pd.mono (Tst.same sz), zero_wf, wd, by decide, _, rfl, ?_⟩
  cases c1 : lessR (0, 1) d with
  | false => exact iteF (iteF (kE _ sz (by show (lessR (0, 1) d && lessR d rm) = false; rw [c1]; rfl)))
  | true =>
   refine iteT ⟨_, rfl, _, rfl, x, v, d, rm, 98, 98, rfl, pd.mono (Tst.same sz), (rvm.mono (Tst.same s3)).mono (Tst.same sz), wd, hkm.wf, by decide, _, rfl, ?_⟩
   cases c2 : lessR d rm with
   | false => exact iteF (kE _ sz (by show (lessR (0, 1) d && lessR d rm) = false; rw [c1, c2]; rfl))
   | true => exact iteT ⟨_, rfl, kR _ sz (by show (lessR (0, 1) d && lessR d rm) = true; rw [c1, c2]; rfl)⟩
 have nDc := nwN hDc tp.lst
 obtain ⟨S0, tp, hd_⟩ := cr3 s6 S0 tp hd_
 replace hkl := s6 _ _ hkl
 replace rvm := rvm.mono (Tst.same s6)
 refine ⟨_, rfl, _, rfl, _, rfl, t₁, s₁, 5, rfl, tp, by decide, by decide, fun ru14 zu14 au14 bu14 Tu14 => ?_⟩
 have Su14 := Step.up (ys := zu14) tp.lst.choose_spec
 replace S0 := S0.trans Su14
 replace hd_ := hd_.imp fun _ q => Su14.keep _ _ nD q
 replace hkl := Su14.keep _ _ nD hkl
 replace rvm := rvm.mono (Tst.step (K := K) Su14)
 replace hD6 := Su14.keep _ _ nDc hD6
 replace al6 := al6.mono fun _ _ q => q.mono (Tst.step (K := K) Su14)
 replace tp := Tu14
 clear Tu14 Su14
 generalize upd H6 t₁ (.lst zu14) = Hu14 at S0 tp hd_ hkl rvm hD6 al6 ⊢
 have wl1 : Wf 98 ((1, 1 + ru14) : R) := ⟨by show 0 < 1 + ru14; omega, by show (1 : Int).natAbs < 2 ^ 98; decide, by show (1 + ru14).natAbs < 2 ^ 98; omega, by show Int.gcd 1 (1 + ru14) = 1; simp⟩
 have bl1 : Bq 360 1 ((1, 1 + ru14) : R) := by
  have h : Bq 360 1 (mkR 1 (1 + ru14)) := by
   refine bq_mk (by omega) ?_ (by omega)
   rcases (show ru14 = 0 ∨ ru14 = 1 ∨ ru14 = 2 ∨ ru14 = 3 ∨ ru14 = 4 by omega) with rfl | rfl | rfl | rfl | rfl
   ·exact ⟨360, by decide⟩
   ·exact ⟨180, by decide⟩
   ·exact ⟨120, by decide⟩
   ·exact ⟨90, by decide⟩
   ·exact ⟨72, by decide⟩
  rw [mkR_uniq (x := 1) (y := 1 + ru14) (by omega) (by omega) (by simp) rfl] at h
  exact h
 refine ⟨_, _, rfl, rfl, zl2, fun pu15 gu15 => ?_⟩
 generalize hG : upd Hu14 pu15 (.tup [.int 1, .int (1 + ru14)]) = Hu15
 obtain ⟨eu15, hu15, du15⟩ := nwE hG gu15 tp.lst hd_
 obtain ⟨S0, tp, hd_⟩ := cr3 eu15 S0 tp hd_
 replace hkl := eu15 _ _ hkl
 replace rvm := rvm.mono (Tst.same eu15)
 replace hD6 := eu15 _ _ hD6
 replace al6 := al6.mono fun _ _ q => q.mono (Tst.same eu15)
 have rl1 : RV K Hu15 (.ref pu15) (1, 1 + ru14) := RV.of hu15
 clear eu15 hu15 du15 hG
 refine ⟨v, .ref pu15, rm, (1, 1 + ru14), 98, 98, rfl, rvm, rl1, hkm.wf, wl1, by decide, fun pu16 gu16 => ?_⟩
 generalize hG : upd Hu15 pu16 (.tup [.int (plusR rm (1, 1 + ru14)).1, .int (plusR rm (1, 1 + ru14)).2]) = Hu16
 obtain ⟨eu16, hu16, du16⟩ := nwE hG gu16 tp.lst hd_
 obtain ⟨S0, tp, hd_⟩ := cr3 eu16 S0 tp hd_
 replace hkl := eu16 _ _ hkl
 replace rvm := rvm.mono (Tst.same eu16)
 replace hD6 := eu16 _ _ hD6
 replace al6 := al6.mono fun _ _ q => q.mono (Tst.same eu16)
 replace rl1 := rl1.mono (Tst.same eu16)
 have rl2 : RV K Hu16 (.ref pu16) (plusR rm (1, 1 + ru14)) := RV.of hu16
 clear eu16 hu16 du16 hG
 refine ⟨zl2, fun pu17 gu17 => ?_⟩
 generalize hG : upd Hu16 pu17 (.lst [v, V.ref pu16]) = Hu17
 obtain ⟨eu17, hu17, du17⟩ := nwE hG gu17 tp.lst hd_
 have nu17 := nwN gu17 tp.lst
 obtain ⟨S0, tp, hd_⟩ := cr3 eu17 S0 tp hd_
 replace hkl := eu17 _ _ hkl
 replace rvm := rvm.mono (Tst.same eu17)
 replace hD6 := eu17 _ _ hD6
 replace al6 := al6.mono fun _ _ q => q.mono (Tst.same eu17)
 replace rl2 := rl2.mono (Tst.same eu17)
 have ls7 := hu17
 clear eu17 hu17 du17 hG
 refine ⟨_, rfl, t₁, s₁, 2, rfl, tp, by decide, by decide, fun ru18 zu18 au18 bu18 Tu18 => ?_⟩
 have Su18 := Step.up (ys := zu18) tp.lst.choose_spec
 replace S0 := S0.trans Su18
 replace hd_ := hd_.imp fun _ q => Su18.keep _ _ nD q
 replace hkl := Su18.keep _ _ nD hkl
 replace rvm := rvm.mono (Tst.step (K := K) Su18)
 replace hD6 := Su18.keep _ _ nDc hD6
 replace al6 := al6.mono fun _ _ q => q.mono (Tst.step (K := K) Su18)
 replace rl2 := rl2.mono (Tst.step (K := K) Su18)
 replace ls7 := Su18.keep _ _ nu17 ls7
 replace tp := Tu18
 clear Tu18 Su18
 generalize upd Hu17 t₁ (.lst zu18) = Hu18 at S0 tp hd_ hkl rvm hD6 al6 rl2 ls7 ⊢
 obtain ⟨vl, rl, hat, rvl, bl, nl0, ge⟩ : ∃ (vl : V) (rl : R), atI [v, V.ref pu16] ru18 = some vl /\ RV K Hu18 vl rl /\ Bq 360 6 rl /\ 0 ≤ rl.1 /\ lessR rl rm = false := by
  rcases (show ru18 = 0 ∨ ru18 = 1 by omega) with rfl | rfl
  ·exact ⟨v, rm, rfl, rvm, Bq.mono hkm ⟨60, by decide⟩ (by decide), hm0, less_not.mpr (Int.le_refl _)⟩
  ·exact ⟨_, _, rfl, rl2, Bq.plus (by decide) (Bq.mono hkm ⟨60, by decide⟩ (Nat.le_refl _)) bl1, plus_nn (Bq.red hkm) (Bq.red bl1) hm0 (by show (0 : Int) ≤ 1; decide), less_asym (less_plus (Bq.red hkm) (Bq.red bl1) (by show (0 : Int) < 1; decide))⟩
 refine ⟨pu17, _, _, _, rfl, rfl, SqL.of ls7, hat, ?_⟩
 refine ⟨fun σ H' => ∃ (vl : V) (rl : R), σ = [some (.ref t₁), some (.ref kl), some v, some (.int ru1), some (.ref Dc), some vl, none, none, none, none, none] /\ Step t₁ Hu18 H' /\ Tape3 K H' t₁ s₁ /\ RV K H' vl rl /\ Bq 360 6 rl /\ 0 < rl.1 /\ ∀ r : R, 0 < r.2 -> lessR (0, 1) r = true -> lessR r rm = true -> lessR r rl = true, ?_, ?_⟩
 ·refine ⟨_, rfl, zl2, fun pz hpz => ?_⟩
  have sz := same_new hpz (.tup [.int 0, .int 1])
  refine ⟨dR rl, dR (0, 1), (rvl.mono (Tst.same sz)).deep, (RV.of (K := K) upd_same).deep, dR_lay _, dR_lay _, (by show max 0 (max 0 0) + 1 ≤ 32; decide), _, rfl, ?_⟩
  have Sz : Step t₁ Hu18 (upd Hu18 pz (.tup [.int 0, .int 1])) := Step.same sz tp.lst
  have Tz := tp.same sz
  have rvz := rvl.mono (Tst.same sz)
  generalize upd Hu18 pz (.tup [.int 0, .int 1]) = HZ at Sz Tz rvz ⊢
  by_cases ez : rl = (0, 1)
  ·refine iteB1 (by rw [ez]; exact eqv_same _) ?_
   refine ⟨zl2, fun py hpy => ?_⟩
   have sy := same_new hpy (.tup [.int 1, .int 1])
   refine ⟨.ref py, (1, 1), rfl, Sz.trans (.same sy Tz.lst), Tz.same sy, RV.of upd_same, ⟨by decide, by decide, ⟨360, by decide⟩, by decide⟩, by decide, fun r p1 h1 h2 => ?_⟩
   rw [ez] at ge
   have h3 := lt_le p1 (Bq.red hkm).pos (show (0 : Int) < ((0, 1) : R).2 by decide) h2 ge
   rw [less_asym h1] at h3
   cases h3
  ·refine iteB0 (by cases zz : PyData.eqv (dR rl) (dR (0, 1)) with | false => rfl | true => exact absurd (eqv_dR zz) ez) ?_
   refine ⟨vl, rl, rfl, Sz, Tz, rvz, bl, ?_, fun r p1 h1 h2 => lt_le p1 (Bq.red hkm).pos bl.pos h2 ge⟩
   rcases (show rl.1 = 0 ∨ 0 < rl.1 by omega) with q | q
   ·exfalso
    apply ez
    obtain ⟨ra, rb⟩ := rl
    have q' : ra = 0 := q
    subst q'
    have c' : Int.gcd 0 rb = 1 := bl.cop
    have p' : 0 < rb := bl.pos
    rw [Int.gcd_zero_left] at c'
    have : rb = 1 := by omega
    rw [this]
   ·exact q
 rintro σ H7 ⟨vl, rl, rfl, Sc, Tc, rvl, bl, pos, ge⟩
 replace hd_ := hd_.imp fun _ q => Sc.keep _ _ nD q
 replace hkl := Sc.keep _ _ nD hkl
 replace rvm := rvm.mono (Tst.step (K := K) Sc)
 replace hD6 := Sc.keep _ _ nDc hD6
 replace al6 := al6.mono fun _ _ q => q.mono (Tst.step (K := K) Sc)
 replace S0 := S0.trans Sc
 replace tp := Tc
 clear Tc Sc
 refine ⟨zl2, fun pu19 gu19 => ?_⟩
 generalize hG : upd H7 pu19 (.tup [.int 0, .int 1]) = Hu19
 obtain ⟨eu19, hu19, du19⟩ := nwE hG gu19 tp.lst hd_
 obtain ⟨S0, tp, hd_⟩ := cr3 eu19 S0 tp hd_
 replace hkl := eu19 _ _ hkl
 replace rvm := rvm.mono (Tst.same eu19)
 replace hD6 := eu19 _ _ hD6
 replace al6 := al6.mono fun _ _ q => q.mono (Tst.same eu19)
 replace rvl := rvl.mono (Tst.same eu19)
 have rp0 : RV K Hu19 (.ref pu19) (0, 1) := RV.of hu19
 clear eu19 hu19 du19 hG
 refine ⟨zl2, fun pu20 gu20 => ?_⟩
 generalize hG : upd Hu19 pu20 (.tup [.int 1, .int 3]) = Hu20
 obtain ⟨eu20, hu20, du20⟩ := nwE hG gu20 tp.lst hd_
 obtain ⟨S0, tp, hd_⟩ := cr3 eu20 S0 tp hd_
 replace hkl := eu20 _ _ hkl
 replace rvm := rvm.mono (Tst.same eu20)
 replace hD6 := eu20 _ _ hD6
 replace al6 := al6.mono fun _ _ q => q.mono (Tst.same eu20)
 replace rvl := rvl.mono (Tst.same eu20)
 replace rp0 := rp0.mono (Tst.same eu20)
 have rp1 : RV K Hu20 (.ref pu20) (1, 3) := RV.of hu20
 clear eu20 hu20 du20 hG
 refine ⟨zl2, fun pu21 gu21 => ?_⟩
 generalize hG : upd Hu20 pu21 (.tup [.int 2, .int 1]) = Hu21
 obtain ⟨eu21, hu21, du21⟩ := nwE hG gu21 tp.lst hd_
 obtain ⟨S0, tp, hd_⟩ := cr3 eu21 S0 tp hd_
 replace hkl := eu21 _ _ hkl
 replace rvm := rvm.mono (Tst.same eu21)
 replace hD6 := eu21 _ _ hD6
 replace al6 := al6.mono fun _ _ q => q.mono (Tst.same eu21)
 replace rvl := rvl.mono (Tst.same eu21)
 replace rp0 := rp0.mono (Tst.same eu21)
 replace rp1 := rp1.mono (Tst.same eu21)
 have rp2 : RV K Hu21 (.ref pu21) (2, 1) := RV.of hu21
 clear eu21 hu21 du21 hG
 refine ⟨zl3, fun pu22 gu22 => ?_⟩
 generalize hG : upd Hu21 pu22 (.lst [V.ref pu19, V.ref pu20, V.ref pu21]) = Hu22
 obtain ⟨eu22, hu22, du22⟩ := nwE hG gu22 tp.lst hd_
 have nu22 := nwN gu22 tp.lst
 obtain ⟨S0, tp, hd_⟩ := cr3 eu22 S0 tp hd_
 replace hkl := eu22 _ _ hkl
 replace rvm := rvm.mono (Tst.same eu22)
 replace hD6 := eu22 _ _ hD6
 replace al6 := al6.mono fun _ _ q => q.mono (Tst.same eu22)
 replace rvl := rvl.mono (Tst.same eu22)
 replace rp0 := rp0.mono (Tst.same eu22)
 replace rp1 := rp1.mono (Tst.same eu22)
 replace rp2 := rp2.mono (Tst.same eu22)
 have lsp := hu22
 have alp_ : Als (RV K Hu22) ([V.ref pu19, V.ref pu20, V.ref pu21] : List V) [(0, 1), (1, 3), (2, 1)] := (.cons rp0 (.cons rp1 (.cons rp2 .nil)))
 clear eu22 hu22 du22 hG
 refine ⟨_, rfl, t₁, s₁, 3, rfl, tp, by decide, by decide, fun ru23 zu23 au23 bu23 Tu23 => ?_⟩
 have Su23 := Step.up (ys := zu23) tp.lst.choose_spec
 replace S0 := S0.trans Su23
 replace hd_ := hd_.imp fun _ q => Su23.keep _ _ nD q
 replace hkl := Su23.keep _ _ nD hkl
 replace rvm := rvm.mono (Tst.step (K := K) Su23)
 replace hD6 := Su23.keep _ _ nDc hD6
 replace al6 := al6.mono fun _ _ q => q.mono (Tst.step (K := K) Su23)
 replace rvl := rvl.mono (Tst.step (K := K) Su23)
 replace rp0 := rp0.mono (Tst.step (K := K) Su23)
 replace rp1 := rp1.mono (Tst.step (K := K) Su23)
 replace rp2 := rp2.mono (Tst.step (K := K) Su23)
 replace lsp := Su23.keep _ _ nu22 lsp
 replace alp_ := alp_.mono fun _ _ q => q.mono (Tst.step (K := K) Su23)
 replace tp := Tu23
 clear Tu23 Su23
 generalize upd Hu22 t₁ (.lst zu23) = Hu23 at S0 tp hd_ hkl rvm hD6 al6 rvl rp0 rp1 rp2 lsp alp_ ⊢
 obtain ⟨vp, rp, hatp, rvp, bp⟩ : ∃ (vp : V) (rp : R), atI ([V.ref pu19, V.ref pu20, V.ref pu21] : List V) ru23 = some vp /\ RV K Hu23 vp rp /\ Bq 2160 2 rp := by
  rcases (show ru23 = 0 ∨ ru23 = 1 ∨ ru23 = 2 by omega) with rfl | rfl | rfl
  ·exact ⟨_, _, rfl, rp0, ⟨by decide, by decide, ⟨2160, by decide⟩, by decide⟩⟩
  ·exact ⟨_, _, rfl, rp1, ⟨by decide, by decide, ⟨720, by decide⟩, by decide⟩⟩
  ·exact ⟨_, _, rfl, rp2, ⟨by decide, by decide, ⟨2160, by decide⟩, by decide⟩⟩
 refine ⟨pu22, _, _, _, rfl, rfl, SqL.of lsp, hatp, _, rfl, t₁, s₁, 3, rfl, tp, by decide, by decide, fun ru24 zu24 au24 bu24 Tu24 => ?_⟩
 have Su24 := Step.up (ys := zu24) tp.lst.choose_spec
 replace S0 := S0.trans Su24
 replace hd_ := hd_.imp fun _ q => Su24.keep _ _ nD q
 replace hkl := Su24.keep _ _ nD hkl
 replace rvm := rvm.mono (Tst.step (K := K) Su24)
 replace hD6 := Su24.keep _ _ nDc hD6
 replace al6 := al6.mono fun _ _ q => q.mono (Tst.step (K := K) Su24)
 replace rvl := rvl.mono (Tst.step (K := K) Su24)
 replace rvp := rvp.mono (Tst.step (K := K) Su24)
 replace tp := Tu24
 clear Tu24 Su24
 generalize upd Hu23 t₁ (.lst zu24) = Hu24 at S0 tp hd_ hkl rvm hD6 al6 rvl rvp ⊢
 refine ⟨_, _, rfl, rfl, _, rfl, t₁, s₁, 3, rfl, tp, by decide, by decide, fun ru25 zu25 au25 bu25 Tu25 => ?_⟩
 have Su25 := Step.up (ys := zu25) tp.lst.choose_spec
 replace S0 := S0.trans Su25
 replace hd_ := hd_.imp fun _ q => Su25.keep _ _ nD q
 replace hkl := Su25.keep _ _ nD hkl
 replace rvm := rvm.mono (Tst.step (K := K) Su25)
 replace hD6 := Su25.keep _ _ nDc hD6
 replace al6 := al6.mono fun _ _ q => q.mono (Tst.step (K := K) Su25)
 replace rvl := rvl.mono (Tst.step (K := K) Su25)
 replace rvp := rvp.mono (Tst.step (K := K) Su25)
 replace tp := Tu25
 clear Tu25 Su25
 generalize upd Hu24 t₁ (.lst zu25) = Hu25 at S0 tp hd_ hkl rvm hD6 al6 rvl rvp ⊢
 refine ⟨_, _, rfl, rfl, 1 + ru24, 1 + ru25, rfl, by omega, big_of (n := 3) (by show (1 + ru25).natAbs < 8; omega) (by decide), fun pu26 gu26 => ?_⟩
 generalize hG : upd Hu25 pu26 (.tup [.int (mkR (1 + ru24) (1 + ru25)).1, .int (mkR (1 + ru24) (1 + ru25)).2]) = Hu26
 obtain ⟨eu26, hu26, du26⟩ := nwE hG gu26 tp.lst hd_
 obtain ⟨S0, tp, hd_⟩ := cr3 eu26 S0 tp hd_
 replace hkl := eu26 _ _ hkl
 replace rvm := rvm.mono (Tst.same eu26)
 replace hD6 := eu26 _ _ hD6
 replace al6 := al6.mono fun _ _ q => q.mono (Tst.same eu26)
 replace rvl := rvl.mono (Tst.same eu26)
 replace rvp := rvp.mono (Tst.same eu26)
 have rsl : RV K Hu26 (.ref pu26) (mkR (1 + ru24) (1 + ru25)) := RV.of hu26
 clear eu26 hu26 du26 hG
 have bsl : Bq 6 3 (mkR (1 + ru24) (1 + ru25)) := by
  refine bq_mk (by omega) ?_ (by omega)
  rcases (show ru25 = 0 ∨ ru25 = 1 ∨ ru25 = 2 by omega) with q | q | q <;> rw [q]
  ·exact ⟨6, by decide⟩
  ·exact ⟨3, by decide⟩
  ·exact ⟨2, by decide⟩
 generalize (mkR (1 + ru24) (1 + ru25)) = sl0 at rsl bsl
 refine ⟨zl2, fun pu27 gu27 => ?_⟩
 generalize hG : upd Hu26 pu27 (.tup [.int 0, .int 1]) = Hu27
 obtain ⟨eu27, hu27, du27⟩ := nwE hG gu27 tp.lst hd_
 obtain ⟨S0, tp, hd_⟩ := cr3 eu27 S0 tp hd_
 replace hkl := eu27 _ _ hkl
 replace rvm := rvm.mono (Tst.same eu27)
 replace hD6 := eu27 _ _ hD6
 replace al6 := al6.mono fun _ _ q => q.mono (Tst.same eu27)
 replace rvl := rvl.mono (Tst.same eu27)
 replace rvp := rvp.mono (Tst.same eu27)
 replace rsl := rsl.mono (Tst.same eu27)
 have rz0 : RV K Hu27 (.ref pu27) (0, 1) := RV.of hu27
 clear eu27 hu27 du27 hG
 refine ⟨_, rfl, zl2, fun pu28 gu28 => ?_⟩
 generalize hG : upd Hu27 pu28 (.tup [V.ref pu27, vp]) = Hu28
 obtain ⟨eu28, hu28, du28⟩ := nwE hG gu28 tp.lst hd_
 obtain ⟨S0, tp, hd_⟩ := cr3 eu28 S0 tp hd_
 replace hkl := eu28 _ _ hkl
 replace rvm := rvm.mono (Tst.same eu28)
 replace hD6 := eu28 _ _ hD6
 replace al6 := al6.mono fun _ _ q => q.mono (Tst.same eu28)
 replace rvl := rvl.mono (Tst.same eu28)
 replace rvp := rvp.mono (Tst.same eu28)
 replace rsl := rsl.mono (Tst.same eu28)
 replace rz0 := rz0.mono (Tst.same eu28)
 have rrow : RowV K Hu28 (.ref pu28) ((0, 1), rp) := ⟨pu28, _, _, rfl, SqT.of hu28, rz0, rvp⟩
 clear eu28 hu28 du28 hG
 refine ⟨zl1, fun pu29 gu29 => ?_⟩
 have glr := gu29
 have Sb := S0
 have off := tp.off gu29
 generalize hG : upd Hu28 pu29 (.lst [V.ref pu28]) = Hu29
 obtain ⟨eu29, hu29, du29⟩ := nwE hG gu29 tp.lst hd_
 have nu29 := nwN gu29 tp.lst
 obtain ⟨S0, tp, hd_⟩ := cr3 eu29 S0 tp hd_
 replace hkl := eu29 _ _ hkl
 replace rvm := rvm.mono (Tst.same eu29)
 replace hD6 := eu29 _ _ hD6
 replace al6 := al6.mono fun _ _ q => q.mono (Tst.same eu29)
 replace rvl := rvl.mono (Tst.same eu29)
 replace rvp := rvp.mono (Tst.same eu29)
 replace rsl := rsl.mono (Tst.same eu29)
 replace rz0 := rz0.mono (Tst.same eu29)
 replace rrow := rrow.mono (Tst.same eu29)
 have hlr := hu29
 have alr : Als (RowV K Hu29) [V.ref pu28] [((0, 1), rp)] := .cons rrow .nil
 clear eu29 hu29 du29 hG
 have hlr0 : H pu29 = none := by
  cases e : H pu29 with
  | none => rfl
  | some o => rw [Sb.keep _ _ nu29 e] at glr; cases glr
 refine ⟨_, rfl, Dc, ds, _, rfl, SqL.of hD6, al6, (fun r hr => (kb5 r (List.mem_filter.mp hr).1).wf), Nat.le_trans (List.length_filter_le _ _) (by omega), fun lq yq zq HQ eQ hlq0 hq alq lzq ris sub => ?_⟩
 have nlq := nwN hlq0 tp.lst
 obtain ⟨S0, tp, hd_⟩ := cr3 eQ S0 tp hd_
 replace hkl := eQ _ _ hkl
 replace rvm := rvm.mono (Tst.same eQ)
 replace hD6 := eQ _ _ hD6
 replace al6 := al6.mono fun _ _ q => q.mono (Tst.same eQ)
 replace rvl := rvl.mono (Tst.same eQ)
 replace rsl := rsl.mono (Tst.same eQ)
 replace hlr := eQ _ _ hlr
 replace alr := alr.mono fun _ _ q => q.mono (Tst.same eQ)
 refine ⟨_, rfl, zl1, fun pu30 gu30 => ?_⟩
 generalize hG : upd HQ pu30 (.lst [vl]) = Hu30
 obtain ⟨eu30, hu30, du30⟩ := nwE hG gu30 tp.lst hd_
 have nu30 := nwN gu30 tp.lst
 obtain ⟨S0, tp, hd_⟩ := cr3 eu30 S0 tp hd_
 replace hkl := eu30 _ _ hkl
 replace rvm := rvm.mono (Tst.same eu30)
 replace rvl := rvl.mono (Tst.same eu30)
 replace rsl := rsl.mono (Tst.same eu30)
 replace hlr := eu30 _ _ hlr
 replace alr := alr.mono fun _ _ q => q.mono (Tst.same eu30)
 replace hq := eu30 _ _ hq
 replace alq := alq.mono fun _ _ q => q.mono (Tst.same eu30)
 have ls9 := hu30
 clear eu30 hu30 du30 hG
 have lzq2 : zq.length ≤ 9 := Nat.le_trans lzq (Nat.le_trans (List.length_filter_le _ _) ln5)
 have lyq := alq.len
 refine ⟨lq, pu30, _, _, rfl, rfl, hq, ls9, Nat.le_trans (show _ ≤ 1000 by first | omega | (simp <;> omega)) zl1000, fun pu31 gu31 => ?_⟩
 have nlrp := ne_of_none hlr gu31
 generalize hG : upd Hu30 pu31 (.lst (yq ++ [vl])) = Hu31
 obtain ⟨eu31, hu31, du31⟩ := nwE hG gu31 tp.lst hd_
 have nu31 := nwN gu31 tp.lst
 obtain ⟨S0, tp, hd_⟩ := cr3 eu31 S0 tp hd_
 replace hkl := eu31 _ _ hkl
 replace rvm := rvm.mono (Tst.same eu31)
 replace rvl := rvl.mono (Tst.same eu31)
 replace rsl := rsl.mono (Tst.same eu31)
 replace hlr := eu31 _ _ hlr
 replace alr := alr.mono fun _ _ q => q.mono (Tst.same eu31)
 replace hq := eu31 _ _ hq
 replace alq := alq.mono fun _ _ q => q.mono (Tst.same eu31)
 replace ls9 := eu31 _ _ ls9
 have ls10 := hu31
 have al10 : Als (RV K Hu31) (yq ++ [vl]) (zq ++ [rl]) := alq.join (.cons rvl .nil)
 clear eu31 hu31 du31 hG
 have pz : ∀ r ∈ zq, lessR (0, 1) r = true /\ lessR r rm = true /\ KiB r := fun r hr => by
  obtain ⟨h1, h2⟩ := List.mem_filter.mp (sub r hr)
  have h2' : (lessR (0, 1) r && lessR r rm) = true := h2
  rw [Bool.and_eq_true] at h2'
  exact ⟨h2'.1, h2'.2, kb5 r h1⟩
 have risS : Ris ((0, 1) :: (zq ++ [rl])) := by
  refine List.pairwise_cons.mpr ⟨fun r hr => ?_, List.pairwise_append.mpr ⟨ris, List.pairwise_singleton _ _, fun r hr q hq' => ?_⟩⟩
  ·rcases List.mem_append.mp hr with h | h
   ·exact (pz r h).1
   ·rw [List.mem_singleton.mp h]
    exact less_iff.mpr (by show 0 * rl.2 < rl.1 * 1; omega)
  ·rw [List.mem_singleton.mp hq']
   exact ge r (Bq.red (pz r hr).2.2).pos (pz r hr).1 (pz r hr).2.1
 have bS : ∀ r ∈ zq ++ [rl], Bq 360 6 r := fun r hr => by
  rcases List.mem_append.mp hr with h | h
  ·exact Bq.mono (pz r h).2.2 ⟨60, by decide⟩ (by decide)
  ·rw [List.mem_singleton.mp h]; exact bl
 have lS : (zq ++ [rl]).length ≤ 10 := by rw [List.length_append]; show zq.length + 1 ≤ 10; omega
 have lS1 : 1 ≤ (zq ++ [rl]).length := by rw [List.length_append]; show 1 ≤ zq.length + 1; omega
 generalize zq ++ [rl] = SS at al10 risS bS lS lS1
 generalize yq ++ [vl] = xS at al10 ls10
 have lxS := al10.len
 refine ⟨pu31, rfl, ⟨_, SqL.of ls10⟩, for_list (K := K) (a := pu31) (xs := xS) (fun i σ H' => ∃ (x9 x10 : Option V) (vs : V) (sl : R) (ys : List V) (rows : List (R × R)), σ = [some (.ref t₁), some (.ref kl), some v, some (.int ru1), some (.ref Dc), some vl, some vp, some vs, some (.ref pu29), x9, x10] /\ (∀ b o, b ≠ t₁ -> H b = some o -> H' b = some o) /\ Tst K Hu31 H' /\ Tape3 K H' t₁ s₁ /\ H' pu31 = some (.lst xS) /\ H' pu29 = some (.lst ys) /\ Als (RowV K H') ys rows /\ rows.map (·.1) = (0, 1) :: SS.take i /\ (∀ r ∈ rows, Bq 2160 (2 + 252 * i) r.2) /\ RV K H' vs sl /\ Bq 6 (3 + 2 * i) sl) ⟨_, _, .ref pu26, sl0, _, _, rfl, S0.keep, Tst.refl _ _, tp, ls10, hlr, alr, rfl, (fun r hr => by rw [List.mem_singleton.mp hr]; exact bp), rsl, bsl⟩ (fun i σ H' _ ⟨_, _, _, _, _, _, _, _, _, _, q, _⟩ => SqL.of q) ?_ ?_⟩
 ·rintro i x σ HI hx ⟨x9, x10, vs, sl, ys, rows, rfl, kpI, tI, TI, l10, hrI, alI, mapI, pwI, rvs, bqs⟩
  obtain ⟨z, hz0, rvz0⟩ := al10.at hx
  have hil : i < xS.length := (List.getElem?_eq_some_iff.mp hx).1
  have rvz := rvz0.mono tI
  have bz := bS z (List.mem_of_getElem? hz0)
  have lrow : rows.length = i + 1 := by
   have := congrArg List.length mapI
   rw [List.length_map, List.length_cons, List.length_take] at this
   omega
  obtain ⟨xl, rw0, hlast, hrl, ⟨pr, yx, yy, rfl, hSr, ⟨px, rfl, hpx⟩, rvy⟩, _⟩ := alI.last (n := i) lrow
  have mrl := List.mem_of_getElem? hrl
  have bsp : Bq 360 6 rw0.1 := by
   have : rw0.1 ∈ (0, 1) :: SS.take i := by rw [← mapI]; exact List.mem_map_of_mem mrl
   rcases List.mem_cons.mp this with e | e
   ·rw [e]; exact ⟨by decide, by decide, ⟨360, by decide⟩, by decide⟩
   ·exact bS _ (List.mem_of_mem_take e)
  have bpw := pwI rw0 mrl
  have hlt : lessR rw0.1 z = true := by
   have e1 : ((0, 1) :: SS)[i]? = some rw0.1 := by
    have e := congrArg (fun l => l[i]?) mapI
    rw [List.getElem?_map, hrl] at e
    have e' : some rw0.1 = ((0, 1) :: SS.take i)[i]? := e
    rw [e']
    cases i with
    | zero => rfl
    | succ j => rw [List.getElem?_cons_succ, List.getElem?_cons_succ, List.getElem?_take_of_lt (by omega)]
   have e2 : ((0, 1) :: SS)[i + 1]? = some z := by rw [List.getElem?_cons_succ]; exact hz0
   obtain ⟨h1, e1'⟩ := List.getElem?_eq_some_iff.mp e1
   obtain ⟨h2, e2'⟩ := List.getElem?_eq_some_iff.mp e2
   have := List.pairwise_iff_getElem.mp risS i (i + 1) h1 h2 (by omega)
   rw [e1', e2'] at this
   exact this
  refine ⟨_, rfl, _, rfl, _, rfl, pu29, _, _, _, rfl, rfl, SqL.of hrI, hlast, pr, _, _, _, rfl, rfl, hSr, rfl, px, _, _, _, rfl, rfl, hpx, rfl, _, rfl, _, rfl, _, rfl, pu29, _, _, _, rfl, rfl, SqL.of hrI, hlast, pr, _, _, _, rfl, rfl, hSr, rfl, px, _, _, _, rfl, rfl, hpx, rfl, zl2, fun pn hpn => ?_⟩
  have i9 : i ≤ 9 := by omega
  have wz : Wf 98 z := bz.wf (by decide) (by decide) (by decide)
  have bn := bsp.neg
  have bqs' : Bq 6 21 sl := bqs.mono ⟨1, by decide⟩ (by omega)
  have wsl : Wf 98 sl := bqs'.wf (by decide) (by decide) (by decide)
  have wpw : Wf 98 rw0.2 := (bpw.mono (D' := 2160) (N' := 2522) ⟨1, by decide⟩ (by omega)).wf (by decide) (by decide) (by decide)
  have s1 := same_new hpn (.tup [.int (-rw0.1.1), .int rw0.1.2])
  have rn : RV K (upd HI pn (.tup [.int (-rw0.1.1), .int rw0.1.2])) (.ref pn) (-rw0.1.1, rw0.1.2) := RV.of upd_same
  generalize upd HI pn (.tup [.int (-rw0.1.1), .int rw0.1.2]) = H1 at s1 rn ⊢
  refine ⟨x, .ref pn, z, (-rw0.1.1, rw0.1.2), 98, 98, rfl, rvz.mono (Tst.same s1), rn, wz, bn.wf (by decide) (by decide) (by decide), by decide, fun p2 h2 => ?_⟩
  have bst : Bq 360 12 (plusR z (-rw0.1.1, rw0.1.2)) := Bq.plus (by decide) bz bn
  generalize plusR z (-rw0.1.1, rw0.1.2) = stp at bst ⊢
  have s2 := same_new h2 (.tup [.int stp.1, .int stp.2])
  have r2 : RV K (upd H1 p2 (.tup [.int stp.1, .int stp.2])) (.ref p2) stp := RV.of upd_same
  generalize upd H1 p2 (.tup [.int stp.1, .int stp.2]) = H2 at s2 r2 ⊢
  have s12 := s1.trans s2
  have t12 := Tst.same (K := K) s12
  refine ⟨_, rfl, .inl ⟨rfl, _, SqL.of (s12 _ _ hrI)⟩, _, rfl, _, rfl, _, rfl, pu29, _, _, _, rfl, rfl, SqL.of (s12 _ _ hrI), hlast, pr, _, _, _, rfl, rfl, t12 _ _ hSr, rfl, _, rfl, _, rfl, vs, .ref p2, sl, stp, 98, 98, rfl, rvs.mono t12, r2, wsl, bst.wf (by decide) (by decide) (by decide), by decide, fun p3 h3 => ?_⟩
  have bt : Bq 2160 252 (timesR sl stp) := (Bq.times bqs' bst).mono ⟨1, by decide⟩ (by decide)
  generalize timesR sl stp = tm at bt ⊢
  have s3 := same_new h3 (.tup [.int tm.1, .int tm.2])
  have r3 : RV K (upd H2 p3 (.tup [.int tm.1, .int tm.2])) (.ref p3) tm := RV.of upd_same
  generalize upd H2 p3 (.tup [.int tm.1, .int tm.2]) = H3 at s3 r3 ⊢
  have s13 := s12.trans s3
  refine ⟨yy, .ref p3, rw0.2, tm, 98, 98, rfl, rvy.mono (Tst.same s13), r3, wpw, bt.wf (by decide) (by decide) (by decide), by decide, fun p4 h4 => ?_⟩
  have bp4 : Bq 2160 (2 + 252 * (i + 1)) (plusR rw0.2 tm) := (Bq.plus (by decide) bpw bt).mono ⟨1, by decide⟩ (by omega)
  generalize plusR rw0.2 tm = np at bp4 ⊢
  have s4 := same_new h4 (.tup [.int np.1, .int np.2])
  have r4 : RV K (upd H3 p4 (.tup [.int np.1, .int np.2])) (.ref p4) np := RV.of upd_same
  generalize upd H3 p4 (.tup [.int np.1, .int np.2]) = H4 at s4 r4 ⊢
  have s14 := s13.trans s4
  refine ⟨zl2, fun p5 h5 => ?_⟩
  have s5 := same_new h5 (.tup [x, .ref p4])
  have s15 := s14.trans s5
  have row5 : RowV K (upd H4 p5 (.tup [x, .ref p4])) (.ref p5) (z, np) := ⟨p5, x, .ref p4, rfl, SqT.of upd_same, rvz.mono (Tst.same s15), r4.mono (Tst.same s5)⟩
  generalize upd H4 p5 (.tup [x, .ref p4]) = H5 at s15 row5 ⊢
  have hr5 := s15 _ _ hrI
  have lyI := alI.len
  refine ⟨pu29, ys, _, rfl, rfl, hr5, small1000 (by omega), ?_⟩
  have tu := Tst.up (K := K) hr5 (ys ++ [.ref p5])
  have T6 := (TI.same s15).upl nu29 off (.lst (ys ++ [.ref p5]))
  have kp6 : ∀ b o, b ≠ t₁ -> H b = some o -> upd H5 pu29 (.lst (ys ++ [.ref p5])) b = some o := fun b o nb q => by rw [upd_ne (ne_of_none q hlr0)]; exact s15 _ _ (kpI b o nb q)
  have l106 : upd H5 pu29 (.lst (ys ++ [.ref p5])) pu31 = some (.lst xS) := by rw [upd_ne (Ne.symm nlrp)]; exact s15 _ _ l10
  have hr6 : upd H5 pu29 (.lst (ys ++ [.ref p5])) pu29 = some (.lst (ys ++ [.ref p5])) := upd_same
  have t56 := (Tst.same (K := K) s15).trans tu
  have al6 := (alI.mono fun _ _ q => q.mono t56).snoc (row5.mono tu)
  have rvs6 := rvs.mono t56
  have t06 := tI.trans t56
  generalize upd H5 pu29 (.lst (ys ++ [.ref p5])) = H6 at T6 kp6 l106 hr6 al6 rvs6 t06 ⊢
  refine ⟨_, rfl, _, rfl, t₁, s₁, 3, rfl, T6, by decide, by decide, fun ra za a1 b1 T7 => ?_⟩
  have S7 := Step.up (ys := za) T6.lst.choose_spec
  generalize upd H6 t₁ (.lst za) = H7 at T7 S7 ⊢
  refine ⟨_, rfl, t₁, s₁, 3, rfl, T7, by decide, by decide, fun rb zb a2 b2 T8 => ?_⟩
  have S8 := S7.trans (Step.up (ys := zb) T7.lst.choose_spec)
  generalize upd H7 t₁ (.lst zb) = H8 at T8 S8 ⊢
  refine ⟨_, _, rfl, rfl, ra, 1 + rb, rfl, by omega, big_of (n := 3) (by show (1 + rb).natAbs < 8; omega) (by decide), fun p9 h9 => ?_⟩
  have bm : Bq 6 2 (mkR ra (1 + rb)) := by
   refine bq_mk (by omega) ?_ (by omega)
   rcases (show rb = 0 ∨ rb = 1 ∨ rb = 2 by omega) with q | q | q <;> rw [q]
   ·exact ⟨6, by decide⟩
   ·exact ⟨3, by decide⟩
   ·exact ⟨2, by decide⟩
  generalize mkR ra (1 + rb) = mr at bm ⊢
  have s9 := same_new h9 (.tup [.int mr.1, .int mr.2])
  have r9 : RV K (upd H8 p9 (.tup [.int mr.1, .int mr.2])) (.ref p9) mr := RV.of upd_same
  have T9 := T8.same s9
  have S9 := S8.trans (.same s9 T8.lst)
  generalize upd H8 p9 (.tup [.int mr.1, .int mr.2]) = H9 at s9 r9 T9 S9 ⊢
  refine ⟨vs, .ref p9, sl, mr, 98, 98, rfl, rvs6.mono (Tst.step S9), r9, wsl, bm.wf (by decide) (by decide) (by decide), by decide, fun pa ha => ?_⟩
  have bs2 : Bq 6 (3 + 2 * (i + 1)) (plusR sl mr) := (Bq.plus (by decide) bqs bm).mono ⟨1, by decide⟩ (by omega)
  have sa := same_new ha (.tup [.int (plusR sl mr).1, .int (plusR sl mr).2])
  have SA := S9.trans (.same sa T9.lst)
  have tA := Tst.step (K := K) SA
  refine ⟨_, _, .ref pa, plusR sl mr, _, _, rfl, fun b o nb q => SA.keep _ _ nb (kp6 b o nb q), t06.trans tA, T9.same sa, SA.keep _ _ nu31 l106, SA.keep _ _ nu29 hr6, al6.mono fun _ _ q => q.mono tA, ?_, fun r hr => ?_, RV.of upd_same, bs2⟩
  ·rw [List.map_append, mapI, List.take_add_one, hz0]
   rfl
  ·rcases List.mem_append.mp hr with h | h
   ·exact (pwI r h).mono ⟨1, by decide⟩ (by omega)
   ·rw [List.mem_singleton.mp h]; exact bp4
 ·rintro σ HI ⟨x9, x10, vs, sl, ys, rows, rfl, kpI, tI, TI, l10, hrI, alI, mapI, pwI, rvs, bqs⟩
  refine ⟨_, rfl, pu29, _, rfl, .inl ⟨SqL.of hrI, fun pt hpt => ?_⟩⟩
  have st := same_new hpt (.tup ys)
  have hpt2 : SqT K (upd HI pt (.tup ys)) pt ys := SqT.of upd_same
  have alt := alI.mono fun _ _ q => q.mono (Tst.same st)
  have TT := TI.same st
  generalize upd HI pt (.tup ys) = HT at st hpt2 alt TT ⊢
  refine ⟨zl2, fun pu hpu => ?_⟩
  have su := same_new hpu (.tup [.str (Str.ofString "table"), .ref pt])
  have stu := st.trans su
  have lrow : rows.length = SS.length + 1 := by
   have := congrArg List.length mapI
   rw [List.length_map, List.length_cons, List.length_take] at this
   omega
  rw [List.take_of_length_le (by omega)] at mapI
  have inc : Inc rows := by
   have := risS
   rw [← mapI] at this
   exact List.pairwise_map.mp this
  have b360 : ∀ r ∈ rows, Bq 360 6 r.1 := fun r hr => by
   have : r.1 ∈ (0, 1) :: SS := by rw [← mapI]; exact List.mem_map_of_mem hr
   rcases List.mem_cons.mp this with e | e
   ·rw [e]; exact ⟨by decide, by decide, ⟨360, by decide⟩, by decide⟩
   ·exact bS _ e
  refine k (.ref pu) (.tab rows) _ ⟨fun b o nb q => stu _ _ (kpI b o nb q), tp0, (TT.same su).lst⟩ (TT.same su) ⟨pu, pt, ys, rfl, SqT.of upd_same, Tst.same (K := K) su _ _ hpt2, alt.mono fun _ _ q => q.mono (Tst.same su)⟩ ⟨by omega, by omega, inc, ?_, fun r hr => ?_, fun r hr => ?_⟩ fun r hr => ⟨b360 r hr, (pwI r hr).mono ⟨1, by decide⟩ (by have := al10.len; omega)⟩
  ·cases rows with
   | nil => cases lrow
   | cons r0 rr =>
    obtain ⟨ra, rb⟩ := r0
    have e : ra = (0, 1) := (List.cons.inj mapI).1
    exact ⟨rb, by rw [e]; rfl⟩
  ·exact (b360 r hr).mono ⟨16174233075000000, by decide⟩ (by decide)
  ·exact (pwI r hr).mono ⟨2695705512500000 * 5822723907000000000, by decide⟩ (by have := al10.len; show 2 + 252 * xS.length ≤ 1180591620717411303424; omega)
theorem ok_Q17 (T : Txt K mg t) : FnOk P w K mg base CX0 10 t.a_Q17 t.d_Q17 ["_law_works_here", "_law_rule_here", "_law_thing"] (sp_law_tried K t.c_Q34) := by
 refine T.F_Q17.ok sc_Q17 (fun vs H Q E h => ?_) (fun cdv A outer s H vs Q E hr h => ?_)
 ·obtain ⟨_, _, _, _, _, _, rfl, _⟩ := h; rfl
 obtain ⟨pw, xw, v, c, rl, d, rfl, hW, hv, ok, hD, hb, hsp, n9, k⟩ := h
 refine QSs.ok (qss_cons (qsA 3 sc_Q17.nd (qe_tup (qa_cons qe_non (qa_cons (qe_lst qa_nil) qa_nil star_lst) star_con)))
   (qss_cons (qs_tryAs (i := 4) (R := (fun C dx H' => C = t.c_Q34 /\ Same H H' /\ ∃ (dd : Addr) (n : Int), dx = some dd /\ H' dd = some (dO dd [("work", .int n)]) /\ wrongP xw.length rl d = some n)) rfl rfl rfl rfl T.m_Q19 sc_Q17.nd rfl rfl (fun _ => (qss_one (qsA 3 sc_Q17.nd (qe_tup (qa_cons (qe_call (ok_Q5 T) (hr.mono (by decide)) rfl T.m_Q5 T.F_Q5.kp T.b_Q5 .nil (passTD rfl) (qa_cons (qv 0) (qa_cons (qv 1) (qa_cons (qv 2) qa_nil star_name) star_name) star_name)) (qa_cons (qe_lst qa_nil) qa_nil star_lst) star_call)))))
   (fun _ => (qss_one (qsA 3 sc_Q17.nd (qe_tup (qa_cons (qv 4) (qa_cons (qe_callM (ok_Q15 T) (by exact hr.inM (by decide)) rfl T.m_Q15 T.F_Q15.kp T.b_Q15 .nil pass0 (qa_cons (qv 4) qa_nil star_name)) qa_nil star_call) star_name))))))
   (qss_one (qs_ret (qv 3))))) ?_
 refine ⟨(by show 0 ≤ sizeLine; exact Nat.zero_le _), fun l0 h0 => ⟨zl2, fun p0 g0 => ?_⟩⟩
 have s0 := (same_new h0 (.lst [])).trans (same_new g0 (.tup [.non, .ref l0]))
 generalize upd (upd H l0 (.lst [])) p0 (.tup [.non, .ref l0]) = H0 at s0 ⊢
 have t0 := Tst.same (K := K) s0
 refine ⟨⟨_, rfl, _, rfl, _, rfl, pw, xw, v, c, rl, d, rfl, t0 _ _ hW, hv.mono t0, ok, hD.same s0, hb, hsp, n9, fun du H1 s1 => ⟨(by show 0 ≤ sizeLine; exact Nat.zero_le _), fun l1 h1 => ⟨zl2, fun p1 g1 => ?_⟩⟩, fun n du dd H1 s1 hd => ⟨_, rfl, rfl, s0.trans s1, dd, n, rfl, hd, du⟩⟩, ?_⟩
 ·have sa := same_new h1 (.lst [])
  have sb := same_new g1 (.tup [.bl true, .ref l1])
  refine ⟨_, rfl, k _ _ (((s0.trans s1).trans sa).trans sb) ?_⟩
  rw [du]
  exact ⟨p1, l1, rfl, SqT.of upd_same, sb _ _ upd_same⟩
 rintro C dx H' ⟨rfl, s1, dd, n, rfl, hd, du⟩
 refine ⟨T.x_catch, dd, rfl, fun x hx => ?_⟩
 have s2 := same_new hx (erO x t.c_Q34 dd)
 have ex := upd_same (H := H') (a := x) (o := erO x t.c_Q34 dd)
 have ed := s2 _ _ hd
 generalize upd H' x (erO x t.c_Q34 dd) = H2 at s2 ex ed ⊢
 refine ⟨_, rfl, _, rfl, x, dd, _, rfl, ex, ed, fun l H3 s3 hl => ⟨zl2, fun p4 g4 => ?_⟩⟩
 have s4 := same_new g4 (.tup [.ref x, .ref l])
 refine ⟨_, rfl, k _ _ (((s1.trans s2).trans s3).trans s4) ?_⟩
 rw [du]
 exact ⟨p4, l, x, dd, rfl, SqT.of upd_same, s4 _ _ (s3 _ _ ex), s4 _ _ (s3 _ _ ed), s4 _ _ hl⟩
theorem ok_Q18 (T : Txt K mg t) : FnOk P w K mg base CX0 11 t.a_Q18 t.d_Q18 ["_law_works_here", "_law_rule_here", "_law_thing"] (sp_law_right K) := by
 refine T.F_Q18.ok sc_Q18 (fun vs H Q E h => ?_) (fun cdv A outer s H vs Q E hr h => ?_)
 ·obtain ⟨_, _, _, _, _, _, _, _, rfl, _⟩ := h; rfl
 obtain ⟨pw, xw, v, c, rl, d, dw, dr, rfl, hW, hv, ok, hD, hb, hsp, n9, hdw, hdr, sh, k⟩ := h
 refine QSs.ok (qss_cons (qsA 3 sc_Q18.nd (qe_call (ok_Q16 T) (hr.mono (by decide)) rfl T.m_Q16 T.F_Q16.kp T.b_Q16 .nil pass0 (qa_cons (qv 0) (qa_cons (qv 1) (qa_cons (qv 2) qa_nil star_name) star_name) star_name)))
   (qss_cons (qsA 4 sc_Q18.nd (qe_callB (call_repr hr) (by rfl) T.z_repr PyProof.Rows.boot_repr (qa_cons (qe_tup (qa_cons (qv 0) (qa_cons (qv 1) (qa_cons (qv 2) qa_nil star_name) star_name) star_name)) qa_nil star_tup)))
   (qss_cons (qs_asg (qe_call (ok_Q17 T) (hr.mono (by decide)) rfl T.m_Q17 T.F_Q17.kp T.b_Q17 .nil pass0 (qa_cons (qv 0) (qa_cons (qv 1) (qa_cons (qv 2) qa_nil star_name) star_name) star_name)) (qg_tup rfl (qgs_cons (qg_name (i := 5) sc_Q18.nd rfl (by first | exact Or.inl rfl | exact Or.inr rfl)) (qgs_cons (qg_name (i := 6) sc_Q18.nd rfl (by first | exact Or.inl rfl | exact Or.inr rfl)) qgs_nil))))
   (qss_cons (qs_if (qt_cmpR op_ne (qe_callB (call_repr hr) (by rfl) T.z_repr PyProof.Rows.boot_repr (qa_cons (qe_tup (qa_cons (qv 0) (qa_cons (qv 1) (qa_cons (qv 2) qa_nil star_name) star_name) star_name)) qa_nil star_tup)) (qv 4) (nomark _)) (qss_one (qs_ret qe_bl)) qss_nil)
   (qss_cons (qs_if (qt_cmpR op_isN (qv 3) qe_non (nomark _)) (qss_one (qs_ret (qe_and (qe_cmpR (op_eqD hr) (qv 6) (qe_lst qa_nil) (nomark _)) (qe_one (qe_cmpR op_isB (qv 5) qe_bl (nomark _)))))) qss_nil)
   (qss_cons (qsA 7 sc_Q18.nd (qe_ifExp (qt_cmpR op_gt (qe_callB call_len_seq (by rfl) T.z_len PySem.boot_len (qa_cons (qv 6) qa_nil star_name)) qe_int (nomark _)) (qe_fldE (K := K) rfl (qv 5) rfl) qe_non))
   (qss_one (qs_ret (qe_and (qe_cmpR (op_eqD hr) (qv 6) (qe_lst (qa_cons qe_bl (qa_cons qe_bl (qa_cons qe_bl (qa_cons qe_bl qa_nil star_con) star_con) star_con) star_con)) (nomark _)) (qe_and (qe_not (qe_callB call_isiD (by rfl) T.z_isinstance PyProof.Rows.boot_isinstance (qa_cons (qv 7) (qa_cons (qe_bltn (v := V.ty "bool") rfl T.z_bool PyProof.Rows.boot_bool rfl) qa_nil star_name) star_name))) (qe_one (qe_cmpR op_eq (qv 7) (qv 3) (nomark _))))))))))))) ?_
 obtain ⟨q, hq⟩ : ∃ q, wrongP xw.length rl d = q := ⟨_, rfl⟩
 refine ⟨_, rfl, _, rfl, _, rfl, pw, xw, v, c, rl, d, rfl, hW, hv, ok, hD, hb, hsp, n9, fun H1 s1 => ?_⟩
 rw [hq]
 refine ⟨_, rfl, _, rfl, _, rfl, zl3, fun p2 g2 => ?_⟩
 have e2 := same_new g2 (.tup [.ref pw, v, c])
 have q2 : SqT K (upd H1 p2 (.tup [.ref pw, v, c])) p2 [.ref pw, v, c] := SqT.of upd_same
 generalize upd H1 p2 (.tup [.ref pw, v, c]) = H2 at e2 q2 ⊢
 have s2 := s1.trans e2
 refine ⟨.ref p2, .tuple [dw, dr, d], rfl, .tup q2 (.cons (hdw.same s2) (.cons (hdr.same s2) (.cons (hD.same s2) .nil))), sh, ?_⟩
 have t2 := Tst.same (K := K) s2
 refine ⟨_, rfl, _, rfl, _, rfl, pw, xw, v, c, rl, d, rfl, t2 _ _ hW, hv.mono t2, ok, hD.same s2, hb, hsp, n9, fun u H3 s3' tr => ?_⟩
 rw [hq] at tr
 have s3 := s2.trans s3'
 cases q with
 | none =>
  obtain ⟨p, l, rfl, hp, hl⟩ := tr
  refine ⟨p, _, rfl, hp, rfl, _, _, rfl, _, _, rfl, rfl, ?_⟩
  refine ⟨_, rfl, _, rfl, _, rfl, zl3, fun p4 g4 => ?_⟩
  have e4 := same_new g4 (.tup [.ref pw, v, c])
  have q4 : SqT K (upd H3 p4 (.tup [.ref pw, v, c])) p4 [.ref pw, v, c] := SqT.of upd_same
  generalize upd H3 p4 (.tup [.ref pw, v, c]) = H4 at e4 q4 ⊢
  have s4 := s3.trans e4
  refine ⟨.ref p4, .tuple [dw, dr, d], rfl, .tup q4 (.cons (hdw.same s4) (.cons (hdr.same s4) (.cons (hD.same s4) .nil))), sh, ?_⟩
  refine ⟨_, rfl, rfl, _, rfl, iteNS rfl ?_⟩
  refine ⟨_, rfl, rfl, _, rfl, iteD1 rfl ?_⟩
  refine ⟨_, rfl, (by show 0 ≤ sizeLine; exact Nat.zero_le _), fun l5 g5 => ?_⟩
  have e5 := same_new g5 (.lst [])
  have h5 : upd H4 l5 (.lst []) l5 = some (.lst []) := upd_same
  generalize upd H4 l5 (.lst []) = H5 at e5 h5 ⊢
  have s5 := s4.trans e5
  refine ⟨.list [], .list [], .lst (SqL.of (e5 _ _ (e4 _ _ hl))) .nil, .lst (SqL.of h5) .nil, rfl, rfl, by decide, _, rfl, iteB1 rfl ?_⟩
  refine ⟨_, rfl, _, _, rfl, rfl, ?_⟩
  exact k _ s5
 | some n =>
  obtain ⟨p, l, x, dd, rfl, hp, hx, hd, hl⟩ := tr
  refine ⟨p, _, rfl, hp, rfl, _, _, rfl, _, _, rfl, rfl, ?_⟩
  refine ⟨_, rfl, _, rfl, _, rfl, zl3, fun p4 g4 => ?_⟩
  have e4 := same_new g4 (.tup [.ref pw, v, c])
  have q4 : SqT K (upd H3 p4 (.tup [.ref pw, v, c])) p4 [.ref pw, v, c] := SqT.of upd_same
  generalize upd H3 p4 (.tup [.ref pw, v, c]) = H4 at e4 q4 ⊢
  have s4 := s3.trans e4
  refine ⟨.ref p4, .tuple [dw, dr, d], rfl, .tup q4 (.cons (hdw.same s4) (.cons (hdr.same s4) (.cons (hD.same s4) .nil))), sh, ?_⟩
  refine ⟨_, rfl, rfl, _, rfl, iteNS rfl ?_⟩
  refine ⟨_, rfl, rfl, _, rfl, iteD0 (fun z => by cases z) ?_⟩
  refine ⟨_, rfl, l, _, rfl, .inl (SqL.of (e4 _ _ hl)), _, _, rfl, rfl, _, rfl, iteD1 (by show ((4 : Nat) : Int) > 0; decide) ?_⟩
  refine ⟨_, rfl, x, _, dd, _, _, _, rfl, .inl (e4 _ _ hx), e4 _ _ hd, T.X_Q34.cl, T.g_Q34, T.n_Q34_work, rfl, ?_⟩
  refine ⟨_, rfl, zl4, fun l5 g5 => ?_⟩
  have e5 := same_new g5 (.lst [.bl true, .bl true, .bl true, .bl false])
  have h5 : upd H4 l5 (.lst [.bl true, .bl true, .bl true, .bl false]) l5 = some (.lst [.bl true, .bl true, .bl true, .bl false]) := upd_same
  generalize upd H4 l5 (.lst [.bl true, .bl true, .bl true, .bl false]) = H5 at e5 h5 ⊢
  have s5 := s4.trans e5
  refine ⟨.list [.bool true, .bool true, .bool true, .bool false], .list [.bool true, .bool true, .bool true, .bool false], .lst (SqL.of (e5 _ _ (e4 _ _ hl))) (.cons (.bl _) (.cons (.bl _) (.cons (.bl _) (.cons (.bl _) .nil)))), .lst (SqL.of h5) (.cons (.bl _) (.cons (.bl _) (.cons (.bl _) (.cons (.bl _) .nil)))), rfl, rfl, by decide, _, rfl, iteB1 rfl ?_⟩
  refine ⟨_, rfl, _, .int n, _, _, rfl, .int n, rfl, _, rfl, _, rfl, iteT ?_⟩
  refine ⟨_, rfl, _, rfl, rfl, ?_⟩
  rw [decide_eq_true (show V.int n = optN (some n) from rfl)]
  exact k _ s5
theorem ok_Q51 (T : Txt K mg t) : FnOk P w K mg base CX0 12 t.a_Q51 t.d_Q51 ["_law_script"] (sp_law K) := by
 refine T.F_Q51.ok sc_Q51 (fun vs H Q E h => ?_) (fun cdv A outer s H vs Q E hr h => ?_)
 ·obtain ⟨_, _, rfl, _⟩ := h; rfl
 obtain ⟨a, ns, rfl, hS, hl, k⟩ := h
 refine QSs.ok (qss_cons (qsA 1 sc_Q51.nd (qe_call (ok_Q25 T) (hr.mono (by decide)) rfl T.m_Q25 T.F_Q25.kp T.b_Q25 .nil pass0 (qa_cons (qv 0) qa_nil star_name)))
   (qss_cons (qs_for PassesOwn.never rfl (qi_range1 rfl T.z_range (qa_cons qe_int qa_nil star_con)) (qg_name (i := 2) sc_Q51.nd rfl (by first | exact Or.inl rfl | exact Or.inr rfl))
   (qss_cons (qsA 3 sc_Q51.nd (qe_call (ok_Q13 T) (hr.mono (by decide)) rfl T.m_Q13 T.F_Q13.kp T.b_Q13 .nil pass0 (qa_cons (qv 1) (qa_cons (qe_call (ok_Q26 T) (hr.mono (by decide)) rfl T.m_Q26 T.F_Q26.kp T.b_Q26 .nil pass0 (qa_cons (qv 1) (qa_cons qe_int qa_nil star_con) star_name)) qa_nil star_call) star_name)))
   (qss_cons (qsA 4 sc_Q51.nd (qe_lst (qa_cons (qe_tup (qa_cons qe_int (qa_cons qe_int qa_nil star_con) star_con)) (qa_cons (qe_tup (qa_cons qe_int (qa_cons qe_int qa_nil star_con) star_con)) (qa_cons (qe_tup (qa_cons qe_int (qa_cons qe_int qa_nil star_con) star_con)) qa_nil star_tup) star_tup) star_tup)))
   (qss_cons (qsA 5 sc_Q51.nd (qe_call (ok_Q29 T) (hr.mono (by decide)) rfl T.m_Q29 T.F_Q29.kp T.b_Q29 .nil pass0 (qa_cons (qv 1) (qa_cons (qv 4) (qa_cons (qe_ix ix_list (qe_lst (qa_cons (qe_tup (qa_cons qe_int (qa_cons qe_int qa_nil star_con) star_con)) (qa_cons (qe_tup (qa_cons qe_int (qa_cons qe_int qa_nil star_con) star_con)) (qa_cons (qe_tup (qa_cons qe_int (qa_cons qe_int qa_nil star_con) star_con)) qa_nil star_tup) star_tup) star_tup)) (qe_call (ok_Q26 T) (hr.mono (by decide)) rfl T.m_Q26 T.F_Q26.kp T.b_Q26 .nil pass0 (qa_cons (qv 1) (qa_cons qe_int qa_nil star_con) star_name)) (fun _ _ => rfl)) qa_nil star_sub) star_name) star_name)))
   (qss_cons (qsA 6 sc_Q51.nd (qe_call (ok_Q10 T) (hr.mono (by decide)) rfl T.m_Q10 T.F_Q10.kp T.b_Q10 .nil pass0 (qa_cons (qv 1) (qa_cons (qv 3) (qa_cons (qv 5) (qa_cons (qv 4) qa_nil star_name) star_name) star_name) star_name)))
   (qss_cons (qsA 7 sc_Q51.nd (qe_lst (qa_cons (qv 6) (qa_cons (qe_callTy call_list_of (by rfl) T.z_list PyProof.Rows.boot_list (qa_cons (qv 6) qa_nil star_name)) (qa_cons (qe_op op_catU (qv 6) (qe_tup (qa_cons (qe_tup (qa_cons (qe_tup (qa_cons qe_int (qa_cons qe_int qa_nil star_con) star_con)) (qa_cons (qe_tup (qa_cons qe_int (qa_cons qe_int qa_nil star_con) star_con)) qa_nil star_tup) star_tup)) qa_nil star_tup))) (qa_cons (qe_slice sl_tupU (qv 6) (qo_some qe_int) qo_none) (qa_cons qe_non qa_nil star_con) star_sub) star_bin) star_call) star_name)))
   (qss_cons (qs_for PassesOwn.never rfl (qi_range1 rfl T.z_range (qa_cons qe_int qa_nil star_con)) (qg_name (i := 8) sc_Q51.nd rfl (by first | exact Or.inl rfl | exact Or.inr rfl))
   (qss_one (qs_if (qt_cmpR op_gt (qe_callB call_len_seq (by rfl) T.z_len PySem.boot_len (qa_cons (qv 6) qa_nil star_name)) qe_int (nomark _)) (qss_cons (qsA 9 sc_Q51.nd (qe_call (ok_Q26 T) (hr.mono (by decide)) rfl T.m_Q26 T.F_Q26.kp T.b_Q26 .nil pass0 (qa_cons (qv 1) (qa_cons (qe_callB call_len_seq (by rfl) T.z_len PySem.boot_len (qa_cons (qv 6) qa_nil star_name)) qa_nil star_call) star_name)))
   (qss_one (qs_expr (qe_bm PySem.F.plainAttrs_list PySem.F.slot_list_append PySem.F.type_list_append mt_append (qv 7) (qa_cons (qe_op op_catU (qe_op op_catU (qe_slice sl_tupU (qv 6) qo_none (qo_some (qv 9))) (qe_tup (qa_cons (qe_call (ok_Q30 T) (hr.mono (by decide)) rfl T.m_Q30 T.F_Q30.kp T.b_Q30 .nil pass0 (qa_cons (qv 1) (qa_cons (qv 5) (qa_cons (qe_ix ix_tup (qv 6) (qv 9) (fun _ _ => rfl)) qa_nil star_sub) star_name) star_name)) qa_nil star_call))) (qe_slice sl_tupU (qv 6) (qo_some (qe_op op_add (qv 9) qe_int)) qo_none)) qa_nil star_bin))))) qss_nil)))
   (qss_one (qs_if (qt_cmpR op_in_seq qe_bl (qe_lcomp (N' := ["_law_thing", "_law_works_here", "_law_rule_here"]) (src := [none, some 3, some 5]) rfl (by exact (qi_list (qv 7))) (fun _ _ _ _ _ => (by exact (by exact qg_name (i := 0) (by show List.Nodup (["_law_thing", "_law_works_here", "_law_rule_here"] : List Str); decide +kernel) (by exact rfl) (by first | exact Or.inl rfl | exact Or.inr rfl)))) (fun _ _ _ _ _ => qts_nil) (fun _ _ _ _ _ => (by exact (by exact (qe_call (ok_Q18 T) (by exact hr.mono (by decide)) (by exact rfl) T.m_Q18 T.F_Q18.kp T.b_Q18 (by exact .nil) (by exact pass0) (qa_cons (by exact (qv 1)) (qa_cons (by exact (qv 2)) (qa_cons (by exact (qv 0)) qa_nil star_name) star_name) star_name))))) (by exact ⟨rfl, rfl, rfl, rfl, ⟨rfl, rfl, rfl, rfl, trivial⟩⟩) rfl (by decide +kernel) rfl (by decide +kernel) (by exact cells_of rfl ⟨rfl, ⟨rfl, trivial⟩⟩)) (by with_unfolding_all rfl)) (qss_one (qs_ret qe_bl)) qss_nil)))))))))
   (qss_one (qs_ret qe_bl)))) ?_
 refine ⟨_, rfl, a, ns, rfl, hS, hl, fun t₁ H1 s1 ht T1 => ?_⟩
 refine ⟨6, rfl, by decide, by decide, for_range (lo := 0) (n := 6) (fun i σ H' => ∃ (x2 x3 x4 x5 x6 x7 x8 x9 : Option V), σ = [some (.ref a), some (.ref t₁), x2, x3, x4, x5, x6, x7, x8, x9] /\ Tape3 K H' t₁ a) ⟨none, none, none, none, none, none, none, none, rfl, T1⟩ ?_ ?_⟩
 ·rintro i₀ σ H2 hi ⟨x2, x3, x4, x5, x6, x7, x8, x9, rfl, tp⟩
  have S0 : Step t₁ H2 H2 := ⟨fun _ _ _ q => q, tp.lst, tp.lst⟩
  have hd_ := tp.lst
  refine ⟨_, rfl, _, rfl, t₁, a, 9, rfl, tp, by decide, by decide, fun ru1 zu1 au1 bu1 Tu1 => ?_⟩
  have Su1 := Step.up (ys := zu1) tp.lst.choose_spec
  replace S0 := S0.trans Su1
  replace hd_ := Su1.tp'
  replace tp := Tu1
  clear Tu1 Su1
  generalize upd H2 t₁ (.lst zu1) = Hu1 at S0 tp hd_ ⊢
  obtain ⟨m, rfl⟩ := Int.eq_ofNat_of_zero_le au1
  refine ⟨t₁, a, m, rfl, tp, by omega, fun vw ws HW SW TW wv lw okw => ?_⟩
  replace hd_ := SW.tp'
  replace S0 := S0.trans SW
  replace tp := TW
  clear TW SW
  obtain ⟨pw, xw, rfl, hW, alw⟩ := wv
  have lxw := alw.len
  refine ⟨zl2, fun pu2 gu2 => ?_⟩
  generalize hG : upd HW pu2 (.tup [.int 1, .int 3]) = Hu2
  obtain ⟨eu2, hu2, du2⟩ := nwE hG gu2 tp.lst hd_
  obtain ⟨S0, tp, hd_⟩ := cr3 eu2 S0 tp hd_
  replace hW := tS eu2 hW
  replace alw := alw.mono fun _ _ q => q.mono (Tst.same eu2)
  have rk0 : RV K Hu2 (.ref pu2) (1, 3) := RV.of hu2
  clear eu2 hu2 du2 hG
  refine ⟨zl2, fun pu3 gu3 => ?_⟩
  generalize hG : upd Hu2 pu3 (.tup [.int 4, .int 3]) = Hu3
  obtain ⟨eu3, hu3, du3⟩ := nwE hG gu3 tp.lst hd_
  obtain ⟨S0, tp, hd_⟩ := cr3 eu3 S0 tp hd_
  replace hW := tS eu3 hW
  replace alw := alw.mono fun _ _ q => q.mono (Tst.same eu3)
  replace rk0 := rk0.mono (Tst.same eu3)
  have rk1 : RV K Hu3 (.ref pu3) (4, 3) := RV.of hu3
  clear eu3 hu3 du3 hG
  refine ⟨zl2, fun pu4 gu4 => ?_⟩
  generalize hG : upd Hu3 pu4 (.tup [.int 9, .int 2]) = Hu4
  obtain ⟨eu4, hu4, du4⟩ := nwE hG gu4 tp.lst hd_
  obtain ⟨S0, tp, hd_⟩ := cr3 eu4 S0 tp hd_
  replace hW := tS eu4 hW
  replace alw := alw.mono fun _ _ q => q.mono (Tst.same eu4)
  replace rk0 := rk0.mono (Tst.same eu4)
  replace rk1 := rk1.mono (Tst.same eu4)
  have rk2 : RV K Hu4 (.ref pu4) (9, 2) := RV.of hu4
  clear eu4 hu4 du4 hG
  refine ⟨zl3, fun pu5 gu5 => ?_⟩
  generalize hG : upd Hu4 pu5 (.lst [V.ref pu2, V.ref pu3, V.ref pu4]) = Hu5
  obtain ⟨eu5, hu5, du5⟩ := nwE hG gu5 tp.lst hd_
  have nu5 := nwN gu5 tp.lst
  obtain ⟨S0, tp, hd_⟩ := cr3 eu5 S0 tp hd_
  replace hW := tS eu5 hW
  replace alw := alw.mono fun _ _ q => q.mono (Tst.same eu5)
  replace rk0 := rk0.mono (Tst.same eu5)
  replace rk1 := rk1.mono (Tst.same eu5)
  replace rk2 := rk2.mono (Tst.same eu5)
  have lsk := hu5
  have alk : Als (RV K Hu5) ([V.ref pu2, V.ref pu3, V.ref pu4] : List V) [(1, 3), (4, 3), (9, 2)] := (.cons rk0 (.cons rk1 (.cons rk2 .nil)))
  clear eu5 hu5 du5 hG
  have kbk : ∀ r ∈ ([(1, 3), (4, 3), (9, 2)] : List R), KiB r := fun r hr => by
   simp only [List.mem_cons, List.not_mem_nil, or_false] at hr
   rcases hr with rfl | rfl | rfl
   ·exact ki_lit (by decide) ⟨2, by decide⟩ (by decide) (by decide)
   ·exact ki_lit (by decide) ⟨2, by decide⟩ (by decide) (by decide)
   ·exact ki_lit (by decide) ⟨3, by decide⟩ (by decide) (by decide)
  have spk : ∀ r ∈ ([(1, 3), (4, 3), (9, 2)] : List R), SpK r := fun r hr => by
   simp only [List.mem_cons, List.not_mem_nil, or_false] at hr
   rcases hr with rfl | rfl | rfl
   ·exact spk_lit (by decide) ⟨120, by decide⟩ (by decide) (by decide) (by decide)
   ·exact spk_lit (by decide) ⟨120, by decide⟩ (by decide) (by decide) (by decide)
   ·exact spk_lit (by decide) ⟨180, by decide⟩ (by decide) (by decide) (by decide)
  refine ⟨_, rfl, _, rfl, zl2, fun pu6 gu6 => ?_⟩
  generalize hG : upd Hu5 pu6 (.tup [.int 3, .int 1]) = Hu6
  obtain ⟨eu6, hu6, du6⟩ := nwE hG gu6 tp.lst hd_
  obtain ⟨S0, tp, hd_⟩ := cr3 eu6 S0 tp hd_
  replace hW := tS eu6 hW
  replace alw := alw.mono fun _ _ q => q.mono (Tst.same eu6)
  replace lsk := eu6 _ _ lsk
  replace alk := alk.mono fun _ _ q => q.mono (Tst.same eu6)
  have rm0 : RV K Hu6 (.ref pu6) (3, 1) := RV.of hu6
  clear eu6 hu6 du6 hG
  refine ⟨zl2, fun pu7 gu7 => ?_⟩
  generalize hG : upd Hu6 pu7 (.tup [.int 1, .int 1]) = Hu7
  obtain ⟨eu7, hu7, du7⟩ := nwE hG gu7 tp.lst hd_
  obtain ⟨S0, tp, hd_⟩ := cr3 eu7 S0 tp hd_
  replace hW := tS eu7 hW
  replace alw := alw.mono fun _ _ q => q.mono (Tst.same eu7)
  replace lsk := eu7 _ _ lsk
  replace alk := alk.mono fun _ _ q => q.mono (Tst.same eu7)
  replace rm0 := rm0.mono (Tst.same eu7)
  have rm1 : RV K Hu7 (.ref pu7) (1, 1) := RV.of hu7
  clear eu7 hu7 du7 hG
  refine ⟨zl2, fun pu8 gu8 => ?_⟩
  generalize hG : upd Hu7 pu8 (.tup [.int 5, .int 2]) = Hu8
  obtain ⟨eu8, hu8, du8⟩ := nwE hG gu8 tp.lst hd_
  obtain ⟨S0, tp, hd_⟩ := cr3 eu8 S0 tp hd_
  replace hW := tS eu8 hW
  replace alw := alw.mono fun _ _ q => q.mono (Tst.same eu8)
  replace lsk := eu8 _ _ lsk
  replace alk := alk.mono fun _ _ q => q.mono (Tst.same eu8)
  replace rm0 := rm0.mono (Tst.same eu8)
  replace rm1 := rm1.mono (Tst.same eu8)
  have rm2 : RV K Hu8 (.ref pu8) (5, 2) := RV.of hu8
  clear eu8 hu8 du8 hG
  refine ⟨zl3, fun pu9 gu9 => ?_⟩
  generalize hG : upd Hu8 pu9 (.lst [V.ref pu6, V.ref pu7, V.ref pu8]) = Hu9
  obtain ⟨eu9, hu9, du9⟩ := nwE hG gu9 tp.lst hd_
  have nu9 := nwN gu9 tp.lst
  obtain ⟨S0, tp, hd_⟩ := cr3 eu9 S0 tp hd_
  replace hW := tS eu9 hW
  replace alw := alw.mono fun _ _ q => q.mono (Tst.same eu9)
  replace lsk := eu9 _ _ lsk
  replace alk := alk.mono fun _ _ q => q.mono (Tst.same eu9)
  replace rm0 := rm0.mono (Tst.same eu9)
  replace rm1 := rm1.mono (Tst.same eu9)
  replace rm2 := rm2.mono (Tst.same eu9)
  have lsm := hu9
  have alm : Als (RV K Hu9) ([V.ref pu6, V.ref pu7, V.ref pu8] : List V) [(3, 1), (1, 1), (5, 2)] := (.cons rm0 (.cons rm1 (.cons rm2 .nil)))
  clear eu9 hu9 du9 hG
  refine ⟨_, rfl, t₁, a, 3, rfl, tp, by decide, by decide, fun ru10 zu10 au10 bu10 Tu10 => ?_⟩
  have Su10 := Step.up (ys := zu10) tp.lst.choose_spec
  replace S0 := S0.trans Su10
  replace hd_ := Su10.tp'
  replace hW := tP Su10 hW
  replace alw := alw.mono fun _ _ q => q.mono (Tst.step (K := K) Su10)
  replace lsk := Su10.keep _ _ nu5 lsk
  replace alk := alk.mono fun _ _ q => q.mono (Tst.step (K := K) Su10)
  replace rm0 := rm0.mono (Tst.step (K := K) Su10)
  replace rm1 := rm1.mono (Tst.step (K := K) Su10)
  replace rm2 := rm2.mono (Tst.step (K := K) Su10)
  replace lsm := Su10.keep _ _ nu9 lsm
  replace tp := Tu10
  clear Tu10 Su10
  generalize upd Hu9 t₁ (.lst zu10) = Hu10 at S0 tp hd_ hW alw lsk alk rm0 rm1 rm2 lsm ⊢
  obtain ⟨vm, rm, hat, rvm, kbm, nm0⟩ : ∃ (vm : V) (rm : R), atI ([V.ref pu6, V.ref pu7, V.ref pu8] : List V) ru10 = some vm /\ RV K Hu10 vm rm /\ KiB rm /\ 0 ≤ rm.1 := by
   rcases (show ru10 = 0 ∨ ru10 = 1 ∨ ru10 = 2 by omega) with rfl | rfl | rfl
   ·exact ⟨_, _, rfl, rm0, ki_lit (by decide) ⟨6, by decide⟩ (by decide) (by decide), by decide⟩
   ·exact ⟨_, _, rfl, rm1, ki_lit (by decide) ⟨6, by decide⟩ (by decide) (by decide), by decide⟩
   ·exact ⟨_, _, rfl, rm2, ki_lit (by decide) ⟨3, by decide⟩ (by decide) (by decide), by decide⟩
  refine ⟨pu9, _, _, _, rfl, rfl, SqL.of lsm, hat, t₁, a, pu5, [V.ref pu2, V.ref pu3, V.ref pu4], vm, [(1, 3), (4, 3), (9, 2)], rm, rfl, tp, nu5, lsk, alk, kbk, by decide, rvm, kbm, nm0, fun vr rl HR SR TR rv okr smr => ?_⟩
  clear rvm hat
  replace hd_ := SR.tp'
  replace hW := tP SR hW
  replace alw := alw.mono fun _ _ q => q.mono (Tst.step (K := K) SR)
  replace lsk := SR.keep _ _ nu5 lsk
  replace alk := alk.mono fun _ _ q => q.mono (Tst.step (K := K) SR)
  replace S0 := S0.trans SR
  replace tp := TR
  clear TR SR
  refine ⟨_, rfl, _, rfl, _, rfl, _, rfl, t₁, a, pu5, pw, [V.ref pu2, V.ref pu3, V.ref pu4], xw, vr, [(1, 3), (4, 3), (9, 2)], rl, rfl, tp, hW, by omega, rv, okr, smr, nu5, lsk, alk, spk, by decide, fun pp ys prs HP SP TP hSp alp lp bp => ?_⟩
  replace hd_ := SP.tp'
  replace hW := tP SP hW
  replace alw := alw.mono fun _ _ q => q.mono (Tst.step (K := K) SP)
  replace rv := rv.mono (Tst.step (K := K) SP)
  replace S0 := S0.trans SP
  replace tp := TP
  clear TP SP
  have lyp := alp.len
  have tD := hd_tt (K := K) tp.lst
  have dap : DeepAll K (hid HP t₁ t₁) ys (prs.map dRow) := (alp.mono fun _ _ q => q.mono tD).deep fun _ _ q => q.deep
  have dpp : Deep K (hid HP t₁ t₁) (.ref pp) (.tuple (prs.map dRow)) := .tup (tD _ _ hSp) dap
  have gep : ∀ d ∈ prs.map dRow, Gd 2 10014 d := fun d hd => by
   obtain ⟨w, hw, rfl⟩ := List.mem_map.mp hd
   exact gd_two (gd_dR ((bp w hw).1.wf.mono (by decide))) (gd_dR ((bp w hw).2.mono (by decide))) (by decide)
  have gdp : Gd 3 90161 (.tuple (prs.map dRow)) := gTu 9 90161 gep (by rw [List.length_map]; omega)
  have sps := rows_sp bp
  refine ⟨_, rfl, _, rfl, pp, _, rfl, .inr hSp, fun pu11 gu11 => ?_⟩
  generalize hG : upd HP pu11 (.lst ys) = Hu11
  obtain ⟨eu11, hu11, du11⟩ := nwE hG gu11 tp.lst hd_
  have nu11 := nwN gu11 tp.lst
  obtain ⟨S0, tp, hd_⟩ := cr3 eu11 S0 tp hd_
  replace hW := tS eu11 hW
  replace alw := alw.mono fun _ _ q => q.mono (Tst.same eu11)
  replace rv := rv.mono (Tst.same eu11)
  replace hSp := tS eu11 hSp
  replace alp := alp.mono fun _ _ q => q.mono (Tst.same eu11)
  replace dap := aS eu11 dap
  replace dpp := dS eu11 dpp
  have lsu11 : Hu11 pu11 = some (.lst ys) := hu11
  have dpu11 : Deep K (hid Hu11 t₁ t₁) (.ref pu11) (.list ((prs.map dRow))) := .lst (SqL.of du11) dap
  clear eu11 hu11 du11 hG
  have gdu11 : Gd 3 90161 (.list ((prs.map dRow))) := Gd.lst (m := 9) gep (by first | omega | (simp <;> omega)) (by decide)
  refine ⟨_, rfl, zl2, fun pu12 gu12 => ?_⟩
  generalize hG : upd Hu11 pu12 (.tup [V.int (0), V.int (1)]) = Hu12
  obtain ⟨eu12, hu12, du12⟩ := nwE hG gu12 tp.lst hd_
  obtain ⟨S0, tp, hd_⟩ := cr3 eu12 S0 tp hd_
  replace hW := tS eu12 hW
  replace alw := alw.mono fun _ _ q => q.mono (Tst.same eu12)
  replace rv := rv.mono (Tst.same eu12)
  replace hSp := tS eu12 hSp
  replace alp := alp.mono fun _ _ q => q.mono (Tst.same eu12)
  replace dap := aS eu12 dap
  replace dpp := dS eu12 dpp
  replace lsu11 := eu12 _ _ lsu11
  replace dpu11 := dS eu12 dpu11
  have squ12 := SqT.of (K := K) hu12
  have dau12 : DeepAll K (hid Hu12 t₁ t₁) [V.int (0), V.int (1)] [.int (0), .int (1)] := (.cons (.int _) (.cons (.int _) .nil))
  have dpu12 := dpT du12 dau12
  clear eu12 hu12 du12 hG
  have geu12 : ∀ d ∈ ([.int (0), .int (1)] : List PyData), Gd 0 5000 d := (gC (gW (gd_int (by decide))) (gC (gW (gd_int (by decide))) gN))
  have gdu12 := gTu 2 10014 geu12
  refine ⟨zl2, fun pu13 gu13 => ?_⟩
  generalize hG : upd Hu12 pu13 (.tup [V.int (0), V.int (1)]) = Hu13
  obtain ⟨eu13, hu13, du13⟩ := nwE hG gu13 tp.lst hd_
  obtain ⟨S0, tp, hd_⟩ := cr3 eu13 S0 tp hd_
  replace hW := tS eu13 hW
  replace alw := alw.mono fun _ _ q => q.mono (Tst.same eu13)
  replace rv := rv.mono (Tst.same eu13)
  replace hSp := tS eu13 hSp
  replace alp := alp.mono fun _ _ q => q.mono (Tst.same eu13)
  replace dap := aS eu13 dap
  replace dpp := dS eu13 dpp
  replace lsu11 := eu13 _ _ lsu11
  replace dpu11 := dS eu13 dpu11
  replace squ12 := tS eu13 squ12
  replace dau12 := aS eu13 dau12
  replace dpu12 := dS eu13 dpu12
  have squ13 := SqT.of (K := K) hu13
  have dau13 : DeepAll K (hid Hu13 t₁ t₁) [V.int (0), V.int (1)] [.int (0), .int (1)] := (.cons (.int _) (.cons (.int _) .nil))
  have dpu13 := dpT du13 dau13
  clear eu13 hu13 du13 hG
  have geu13 : ∀ d ∈ ([.int (0), .int (1)] : List PyData), Gd 0 5000 d := (gC (gW (gd_int (by decide))) (gC (gW (gd_int (by decide))) gN))
  have gdu13 := gTu 2 10014 geu13
  refine ⟨zl2, fun pu14 gu14 => ?_⟩
  generalize hG : upd Hu13 pu14 (.tup [V.ref pu12, V.ref pu13]) = Hu14
  obtain ⟨eu14, hu14, du14⟩ := nwE hG gu14 tp.lst hd_
  obtain ⟨S0, tp, hd_⟩ := cr3 eu14 S0 tp hd_
  replace hW := tS eu14 hW
  replace alw := alw.mono fun _ _ q => q.mono (Tst.same eu14)
  replace rv := rv.mono (Tst.same eu14)
  replace hSp := tS eu14 hSp
  replace alp := alp.mono fun _ _ q => q.mono (Tst.same eu14)
  replace dap := aS eu14 dap
  replace dpp := dS eu14 dpp
  replace lsu11 := eu14 _ _ lsu11
  replace dpu11 := dS eu14 dpu11
  replace squ12 := tS eu14 squ12
  replace dau12 := aS eu14 dau12
  replace dpu12 := dS eu14 dpu12
  replace squ13 := tS eu14 squ13
  replace dau13 := aS eu14 dau13
  replace dpu13 := dS eu14 dpu13
  have squ14 := SqT.of (K := K) hu14
  have dau14 : DeepAll K (hid Hu14 t₁ t₁) [V.ref pu12, V.ref pu13] [PyData.tuple [.int (0), .int (1)], PyData.tuple [.int (0), .int (1)]] := (.cons dpu12 (.cons dpu13 .nil))
  have dpu14 := dpT du14 dau14
  clear eu14 hu14 du14 hG
  have geu14 : ∀ d ∈ ([PyData.tuple [.int (0), .int (1)], PyData.tuple [.int (0), .int (1)]] : List PyData), Gd 1 10014 d := (gC (gW gdu12) (gC (gW gdu13) gN))
  have gdu14 := gTu 2 20042 geu14
  refine ⟨zl1, fun pu15 gu15 => ?_⟩
  generalize hG : upd Hu14 pu15 (.tup [V.ref pu14]) = Hu15
  obtain ⟨eu15, hu15, du15⟩ := nwE hG gu15 tp.lst hd_
  obtain ⟨S0, tp, hd_⟩ := cr3 eu15 S0 tp hd_
  replace hW := tS eu15 hW
  replace alw := alw.mono fun _ _ q => q.mono (Tst.same eu15)
  replace rv := rv.mono (Tst.same eu15)
  replace hSp := tS eu15 hSp
  replace alp := alp.mono fun _ _ q => q.mono (Tst.same eu15)
  replace dap := aS eu15 dap
  replace dpp := dS eu15 dpp
  replace lsu11 := eu15 _ _ lsu11
  replace dpu11 := dS eu15 dpu11
  replace squ12 := tS eu15 squ12
  replace dau12 := aS eu15 dau12
  replace dpu12 := dS eu15 dpu12
  replace squ13 := tS eu15 squ13
  replace dau13 := aS eu15 dau13
  replace dpu13 := dS eu15 dpu13
  replace squ14 := tS eu15 squ14
  replace dau14 := aS eu15 dau14
  replace dpu14 := dS eu15 dpu14
  have squ15 := SqT.of (K := K) hu15
  have dau15 : DeepAll K (hid Hu15 t₁ t₁) [V.ref pu14] [PyData.tuple [PyData.tuple [.int (0), .int (1)], PyData.tuple [.int (0), .int (1)]]] := (.cons dpu14 .nil)
  have dpu15 := dpT du15 dau15
  clear eu15 hu15 du15 hG
  have geu15 : ∀ d ∈ ([PyData.tuple [PyData.tuple [.int (0), .int (1)], PyData.tuple [.int (0), .int (1)]]] : List PyData), Gd 2 20042 d := (gC (gW gdu14) gN)
  have gdu15 := gTu 1 20053 geu15
  refine ⟨pp, pu15, _, _, rfl, rfl, hSp, squ15, Nat.le_trans (show _ ≤ 1000 by first | omega | (simp <;> omega)) zl1000, fun pu16 Hu16 eu16 cu16 => ?_⟩
  obtain ⟨S0, tp, hd_⟩ := cr3 eu16 S0 tp hd_
  replace hW := tS eu16 hW
  replace alw := alw.mono fun _ _ q => q.mono (Tst.same eu16)
  replace rv := rv.mono (Tst.same eu16)
  replace hSp := tS eu16 hSp
  replace alp := alp.mono fun _ _ q => q.mono (Tst.same eu16)
  replace dap := aS eu16 dap
  replace dpp := dS eu16 dpp
  replace lsu11 := eu16 _ _ lsu11
  replace dpu11 := dS eu16 dpu11
  replace squ12 := tS eu16 squ12
  replace dau12 := aS eu16 dau12
  replace dpu12 := dS eu16 dpu12
  replace squ13 := tS eu16 squ13
  replace dau13 := aS eu16 dau13
  replace dpu13 := dS eu16 dpu13
  replace squ14 := tS eu16 squ14
  replace dau14 := aS eu16 dau14
  replace dpu14 := dS eu16 dpu14
  replace squ15 := tS eu16 squ15
  replace dau15 := aS eu16 dau15
  replace dpu15 := dS eu16 dpu15
  have squ16 : SqT K Hu16 pu16 (ys ++ [V.ref pu14]) := cu16
  have dau16 : DeepAll K (hid Hu16 t₁ t₁) (ys ++ [V.ref pu14]) (((prs.map dRow)) ++ [PyData.tuple [PyData.tuple [.int (0), .int (1)], PyData.tuple [.int (0), .int (1)]]]) := DeepAll.app dap dau15
  have dpu16 : Deep K (hid Hu16 t₁ t₁) (.ref pu16) (.tuple (((prs.map dRow)) ++ [PyData.tuple [PyData.tuple [.int (0), .int (1)], PyData.tuple [.int (0), .int (1)]]])) := .tup (hd_tt (K := K) tp.lst _ _ cu16) dau16
  clear eu16
  have geu16 : ∀ d ∈ (((prs.map dRow)) ++ [PyData.tuple [PyData.tuple [.int (0), .int (1)], PyData.tuple [.int (0), .int (1)]]] : List PyData), Gd 2 20042 d := (gd_app (gd_wide (by decide) (by decide) gep) (gd_wide (by decide) (by decide) geu15))
  have gdu16 : Gd 3 200458 (.tuple (((prs.map dRow)) ++ [PyData.tuple [PyData.tuple [.int (0), .int (1)], PyData.tuple [.int (0), .int (1)]]])) := Gd.tup (m := 10) geu16 (by first | omega | (simp <;> omega)) (by decide)
  refine ⟨_, rfl, _, rfl, pp, _, rfl, hSp, fun pu17 Hu17 eu17 cu17 => ?_⟩
  obtain ⟨S0, tp, hd_⟩ := cr3 eu17 S0 tp hd_
  replace hW := tS eu17 hW
  replace alw := alw.mono fun _ _ q => q.mono (Tst.same eu17)
  replace rv := rv.mono (Tst.same eu17)
  replace hSp := tS eu17 hSp
  replace alp := alp.mono fun _ _ q => q.mono (Tst.same eu17)
  replace dap := aS eu17 dap
  replace dpp := dS eu17 dpp
  replace lsu11 := eu17 _ _ lsu11
  replace dpu11 := dS eu17 dpu11
  replace squ12 := tS eu17 squ12
  replace dau12 := aS eu17 dau12
  replace dpu12 := dS eu17 dpu12
  replace squ13 := tS eu17 squ13
  replace dau13 := aS eu17 dau13
  replace dpu13 := dS eu17 dpu13
  replace squ14 := tS eu17 squ14
  replace dau14 := aS eu17 dau14
  replace dpu14 := dS eu17 dpu14
  replace squ15 := tS eu17 squ15
  replace dau15 := aS eu17 dau15
  replace dpu15 := dS eu17 dpu15
  replace squ16 := tS eu17 squ16
  replace dau16 := aS eu17 dau16
  replace dpu16 := dS eu17 dpu16
  rw [show (some (1) : Option Int) = some ((1 : Nat) : Int) from rfl, cut_fromA (n := 1)] at cu17
  have squ17 : SqT K Hu17 pu17 (ys.drop 1) := cu17
  have dau17 : DeepAll K (hid Hu17 t₁ t₁) (ys.drop 1) (((prs.map dRow)).drop 1) := DeepAll.dropN 1 dap
  have dpu17 : Deep K (hid Hu17 t₁ t₁) (.ref pu17) (.tuple (((prs.map dRow)).drop 1)) := .tup (hd_tt (K := K) tp.lst _ _ cu17) dau17
  clear eu17
  have geu17 : ∀ d ∈ (((prs.map dRow)).drop 1 : List PyData), Gd 2 10014 d := gd_drop 1 gep
  have gdu17 : Gd 3 90161 (.tuple (((prs.map dRow)).drop 1)) := Gd.tup (m := 9) geu17 (by first | omega | (simp <;> omega)) (by decide)
  refine ⟨zl5, fun D hD => ?_⟩
  have nD := nwN hD tp.lst
  have off := tp.off hD
  have sD := same_new hD (.lst [V.ref pp, V.ref pu11, V.ref pu16, V.ref pu17, V.non])
  have hDl : upd Hu17 D (.lst [V.ref pp, V.ref pu11, V.ref pu16, V.ref pu17, V.non]) D = some (.lst [V.ref pp, V.ref pu11, V.ref pu16, V.ref pu17, V.non]) := upd_same
  have daT : DeepAll K (hid (upd Hu17 D (.lst [V.ref pp, V.ref pu11, V.ref pu16, V.ref pu17, V.non])) t₁ D) [V.ref pp, V.ref pu11, V.ref pu16, V.ref pu17, V.non] [PyData.tuple (prs.map dRow), PyData.list ((prs.map dRow)), PyData.tuple (((prs.map dRow)) ++ [PyData.tuple [PyData.tuple [.int (0), .int (1)], PyData.tuple [.int (0), .int (1)]]]), PyData.tuple (((prs.map dRow)).drop 1), PyData.none] := DeepAll.same (hd_in hD) (.cons dpp (.cons dpu11 (.cons dpu16 (.cons dpu17 (.cons .non .nil)))))
  have gsT : ∀ d ∈ ([PyData.tuple (prs.map dRow), PyData.list ((prs.map dRow)), PyData.tuple (((prs.map dRow)) ++ [PyData.tuple [PyData.tuple [.int (0), .int (1)], PyData.tuple [.int (0), .int (1)]]]), PyData.tuple (((prs.map dRow)).drop 1), PyData.none] : List PyData), Gd 5 2000000 d /\ SpD d := (gsC (gW gdp) (spd_tup sps) (gsC (gW gdu11) spd_lst (gsC (gW gdu16) (spd_tup (spP_a sps (spP_c (spP_of (bq_l2 (q := 11645447814000000000) (by decide) (by decide) (by decide) (by decide))) spP_n))) (gsC (gW gdu17) (spd_tup (spP_d 1 sps)) (gsC (gW gd_none) spd_non gsN)))))
  replace tp := tp.same sD
  replace hW := tS sD hW
  replace alw := alw.mono fun _ _ q => q.mono (Tst.same sD)
  replace rv := rv.mono (Tst.same sD)
  replace hSp := tS sD hSp
  replace alp := alp.mono fun _ _ q => q.mono (Tst.same sD)
  clear dap dpp lsu11 dpu11 squ12 dau12 dpu12 squ13 dau13 dpu13 squ14 dau14 dpu14 squ15 dau15 dpu15 squ16 dau16 dpu16 squ17 dau17 dpu17
  generalize upd Hu17 D (.lst [V.ref pp, V.ref pu11, V.ref pu16, V.ref pu17, V.non]) = HD at hDl daT tp hW alw rv hSp alp ⊢
  have lT : ([V.ref pp, V.ref pu11, V.ref pu16, V.ref pu17, V.non] : List V).length ≤ 5 := Nat.le_refl _
  generalize ([V.ref pp, V.ref pu11, V.ref pu16, V.ref pu17, V.non] : List V) = xT at hDl daT lT
  generalize ([PyData.tuple (prs.map dRow), PyData.list ((prs.map dRow)), PyData.tuple (((prs.map dRow)) ++ [PyData.tuple [PyData.tuple [.int (0), .int (1)], PyData.tuple [.int (0), .int (1)]]]), PyData.tuple (((prs.map dRow)).drop 1), PyData.none] : List PyData) = dT at daT gsT
  refine ⟨4, rfl, by decide, by decide, for_range (lo := 0) (n := 4) (fun i σ H' => ∃ (y8 y9 : Option V) (xs : List V) (ds : List PyData), σ = [some (.ref a), some (.ref t₁), some (.int (0 + (i₀ : Int))), some (.ref pw), some (.ref pu5), some vr, some (.ref pp), some (.ref D), y8, y9] /\ Tape3 K H' t₁ a /\ Tst K HD H' /\ H' D = some (.lst xs) /\ xs.length ≤ 5 + i /\ DeepAll K (hid H' t₁ D) xs ds /\ ∀ d ∈ ds, Gd 5 2000000 d /\ SpD d) ⟨_, _, xT, dT, rfl, tp, fun _ _ q => q, hDl, by omega, daT, gsT⟩ ?_ ?_⟩
  ·rintro j σ H3 hj ⟨y8, y9, xs, ds, rfl, tp, tT, hDl, lx, daT, gsT⟩
   replace hSp := tT _ _ hSp
   refine ⟨_, rfl, pp, _, rfl, .inr hSp, _, _, rfl, rfl, _, rfl, ite2 (fun cp => ?_) (fun cp => ⟨_, _, xs, ds, rfl, tp, tT, hDl, by omega, daT, gsT⟩)⟩
   have cp' := of_decide_eq_true cp
   replace alp := alp.mono fun _ _ q => q.mono tT
   have S0 : Step t₁ H3 H3 := ⟨fun _ _ _ q => q, tp.lst, tp.lst⟩
   have hd_ : ∃ ys, H3 D = some (.lst ys) := ⟨_, hDl⟩
   have tD := hd_tst (K := K) tp.lst nD hd_
   have dap : DeepAll K (hid H3 t₁ D) ys (prs.map dRow) := (alp.mono fun _ _ q => q.mono tD).deep fun _ _ q => q.deep
   have dpp : Deep K (hid H3 t₁ D) (.ref pp) (.tuple (prs.map dRow)) := .tup (tD _ _ hSp) dap
   refine ⟨_, rfl, _, rfl, pp, _, rfl, .inr hSp, t₁, a, _, rfl, tp, by omega, by omega, fun rb1 zb1 ab1 bb1 Tb1 => ?_⟩
   have Sb1 := Step.up (ys := zb1) tp.lst.choose_spec
   replace S0 := S0.trans Sb1
   replace hd_ := hd_.imp fun _ q => Sb1.keep _ _ nD q
   replace hDl := Sb1.keep _ _ nD hDl
   replace hSp := tP Sb1 hSp
   replace alp := alp.mono fun _ _ q => q.mono (Tst.step (K := K) Sb1)
   replace dap := aP Sb1 dap
   replace daT := aP Sb1 daT
   replace tp := Tb1
   clear Tb1 Sb1
   generalize upd H3 t₁ (.lst zb1) = Hb1 at S0 tp hd_ hDl hSp alp dap daT ⊢
   obtain ⟨at_, rfl⟩ := Int.eq_ofNat_of_zero_le ab1
   obtain ⟨xq, hxq⟩ : ∃ x, ys[at_]? = some x := ⟨_, List.getElem?_eq_getElem (by omega)⟩
   obtain ⟨⟨z, g⟩, hrq, rvq⟩ := alp.at hxq
   obtain ⟨kz, wg⟩ := bp _ (List.mem_of_getElem? hrq)
   refine ⟨_, rfl, .inl ⟨rfl, _, SqL.of hDl⟩, _, rfl, _, rfl, _, rfl, pp, _, rfl, hSp, fun pb2 Hb2 eb2 cb2 => ?_⟩
   obtain ⟨S0, tp, hd_⟩ := cr3 eb2 S0 tp hd_
   replace hDl := eb2 _ _ hDl
   replace hSp := tS eb2 hSp
   replace dap := aS eb2 dap
   replace daT := aS eb2 daT
   replace rvq := rvq.mono (Tst.same eb2)
   rw [show (some ((at_ : Nat)) : Option Int) = some ((at_ : Nat) : Int) from rfl, cut_any (n := at_)] at cb2
   have sqb2 : SqT K Hb2 pb2 (ys.take at_) := cb2
   have dab2 : DeepAll K (hid Hb2 t₁ D) (ys.take at_) (((prs.map dRow)).take at_) := DeepAll.takeN at_ dap
   have dpb2 : Deep K (hid Hb2 t₁ D) (.ref pb2) (.tuple (((prs.map dRow)).take at_)) := .tup (hd_tst (K := K) tp.lst nD hd_ _ _ cb2) dab2
   clear eb2
   have geb2 : ∀ d ∈ (((prs.map dRow)).take at_ : List PyData), Gd 2 10014 d := gd_take at_ gep
   have gdb2 : Gd 3 90161 (.tuple (((prs.map dRow)).take at_)) := Gd.tup (m := 9) geb2 (by first | omega | (simp <;> omega)) (by decide)
   refine ⟨_, rfl, _, rfl, _, rfl, _, rfl, pp, _, _, _, rfl, rfl, hSp, atI_nat hxq, t₁, a, D, vr, xq, z, g, rfl, tp, nD, hd_, rvq, kz, wg, fun ub3 db3 Hb3 Sb3 Tb3 Db3 Gb3 Pb3 => ?_⟩
   replace hd_ := hd_.imp fun _ q => Sb3.keep _ _ nD q
   replace hDl := Sb3.keep _ _ nD hDl
   replace hSp := tP Sb3 hSp
   replace dap := aP Sb3 dap
   replace daT := aP Sb3 daT
   replace rvq := rvq.mono (Tst.step (K := K) Sb3)
   replace sqb2 := tP Sb3 sqb2
   replace dab2 := aP Sb3 dab2
   replace S0 := S0.trans Sb3
   replace tp := Tb3
   clear Tb3 Sb3
   refine ⟨zl1, fun pb4 gb4 => ?_⟩
   generalize hG : upd Hb3 pb4 (.tup [ub3]) = Hb4
   obtain ⟨eb4, hb4, db4⟩ := nwE hG gb4 tp.lst hd_
   obtain ⟨S0, tp, hd_⟩ := cr3 eb4 S0 tp hd_
   replace hDl := eb4 _ _ hDl
   replace hSp := tS eb4 hSp
   replace dap := aS eb4 dap
   replace daT := aS eb4 daT
   replace sqb2 := tS eb4 sqb2
   replace dab2 := aS eb4 dab2
   replace Db3 := dS eb4 Db3
   have sqb4 := SqT.of (K := K) hb4
   have dab4 : DeepAll K (hid Hb4 t₁ D) [ub3] [db3] := (.cons Db3 .nil)
   have dpb4 := dpT db4 dab4
   clear eb4 hb4 db4 hG
   have geb4 : ∀ d ∈ ([db3] : List PyData), Gd 3 100000 d := (gC (gW Gb3) gN)
   have gdb4 := gTu 1 100011 geb4
   refine ⟨pb2, pb4, _, _, rfl, rfl, sqb2, sqb4, Nat.le_trans (show _ ≤ 1000 by first | omega | (simp <;> omega)) zl1000, fun pb5 Hb5 eb5 cb5 => ?_⟩
   obtain ⟨S0, tp, hd_⟩ := cr3 eb5 S0 tp hd_
   replace hDl := eb5 _ _ hDl
   replace hSp := tS eb5 hSp
   replace dap := aS eb5 dap
   replace daT := aS eb5 daT
   replace dab2 := aS eb5 dab2
   replace dab4 := aS eb5 dab4
   have sqb5 : SqT K Hb5 pb5 ((ys.take at_) ++ [ub3]) := cb5
   have dab5 : DeepAll K (hid Hb5 t₁ D) ((ys.take at_) ++ [ub3]) ((((prs.map dRow)).take at_) ++ [db3]) := DeepAll.app dab2 dab4
   have dpb5 : Deep K (hid Hb5 t₁ D) (.ref pb5) (.tuple ((((prs.map dRow)).take at_) ++ [db3])) := .tup (hd_tst (K := K) tp.lst nD hd_ _ _ cb5) dab5
   clear eb5
   have geb5 : ∀ d ∈ ((((prs.map dRow)).take at_) ++ [db3] : List PyData), Gd 3 100000 d := (gd_app (gd_wide (by decide) (by decide) geb2) (gd_wide (by decide) (by decide) geb4))
   have gdb5 : Gd 4 1000038 (.tuple ((((prs.map dRow)).take at_) ++ [db3])) := Gd.tup (m := 10) geb5 (by first | omega | (simp <;> omega)) (by decide)
   refine ⟨_, rfl, _, rfl, _, _, rfl, rfl, _, rfl, pp, _, rfl, hSp, fun pb6 Hb6 eb6 cb6 => ?_⟩
   obtain ⟨S0, tp, hd_⟩ := cr3 eb6 S0 tp hd_
   replace hDl := eb6 _ _ hDl
   replace dap := aS eb6 dap
   replace daT := aS eb6 daT
   replace sqb5 := tS eb6 sqb5
   replace dab5 := aS eb6 dab5
   rw [show (some ((at_ : Nat) + 1) : Option Int) = some ((at_ + 1 : Nat) : Int) from rfl, cut_fromA (n := at_ + 1)] at cb6
   have sqb6 : SqT K Hb6 pb6 (ys.drop (at_ + 1)) := cb6
   have dab6 : DeepAll K (hid Hb6 t₁ D) (ys.drop (at_ + 1)) (((prs.map dRow)).drop (at_ + 1)) := DeepAll.dropN (at_ + 1) dap
   have dpb6 : Deep K (hid Hb6 t₁ D) (.ref pb6) (.tuple (((prs.map dRow)).drop (at_ + 1))) := .tup (hd_tst (K := K) tp.lst nD hd_ _ _ cb6) dab6
   clear eb6
   have geb6 : ∀ d ∈ (((prs.map dRow)).drop (at_ + 1) : List PyData), Gd 2 10014 d := gd_drop (at_ + 1) gep
   have gdb6 : Gd 3 90161 (.tuple (((prs.map dRow)).drop (at_ + 1))) := Gd.tup (m := 9) geb6 (by first | omega | (simp <;> omega)) (by decide)
   refine ⟨pb5, pb6, _, _, rfl, rfl, sqb5, sqb6, Nat.le_trans (show _ ≤ 1000 by first | omega | (simp <;> omega)) zl1000, fun pb7 Hb7 eb7 cb7 => ?_⟩
   obtain ⟨S0, tp, hd_⟩ := cr3 eb7 S0 tp hd_
   replace hDl := eb7 _ _ hDl
   replace daT := aS eb7 daT
   replace dab5 := aS eb7 dab5
   replace dab6 := aS eb7 dab6
   have sqb7 : SqT K Hb7 pb7 (((ys.take at_) ++ [ub3]) ++ (ys.drop (at_ + 1))) := cb7
   have dab7 : DeepAll K (hid Hb7 t₁ D) (((ys.take at_) ++ [ub3]) ++ (ys.drop (at_ + 1))) (((((prs.map dRow)).take at_) ++ [db3]) ++ (((prs.map dRow)).drop (at_ + 1))) := DeepAll.app dab5 dab6
   have dpb7 : Deep K (hid Hb7 t₁ D) (.ref pb7) (.tuple (((((prs.map dRow)).take at_) ++ [db3]) ++ (((prs.map dRow)).drop (at_ + 1)))) := .tup (hd_tst (K := K) tp.lst nD hd_ _ _ cb7) dab7
   clear eb7
   have geb7 : ∀ d ∈ (((((prs.map dRow)).take at_) ++ [db3]) ++ (((prs.map dRow)).drop (at_ + 1)) : List PyData), Gd 3 100000 d := (gd_app (gd_wide (by decide) (by decide) geb5) (gd_wide (by decide) (by decide) geb6))
   have gdb7 : Gd 4 1900065 (.tuple (((((prs.map dRow)).take at_) ++ [db3]) ++ (((prs.map dRow)).drop (at_ + 1)))) := Gd.tup (m := 19) geb7 (by first | omega | (simp <;> omega)) (by decide)
   refine ⟨D, xs, _, rfl, rfl, hDl, small1000 (by omega), ?_⟩
   have up : Same (hid Hb7 t₁ D) (hid (upd Hb7 D (.lst (xs ++ [V.ref pb7]))) t₁ D) := hd_up nD
   exact ⟨_, _, xs ++ [V.ref pb7], ds ++ [PyData.tuple (((((prs.map dRow)).take at_) ++ [db3]) ++ (((prs.map dRow)).drop (at_ + 1)))], rfl, tp.upl nD off _, (tT.trans (Tst.step (K := K) S0)).trans (Tst.up hDl _), upd_same, by rw [List.length_append]; show xs.length + 1 ≤ _; omega, DeepAll.app (DeepAll.same up daT) (.cons (dpb7.same up) .nil), gsA gsT (gsC (gW gdb7) (spd_tup (spP_a (spP_a (spP_t _ sps) (spP_c Pb3 spP_n)) (spP_d _ sps))) gsN)⟩
  rintro σ H4 ⟨y8, y9, xs, ds, rfl, tp, tT, hDl, lx, daT, gsT⟩
  replace hW := tT _ _ hW
  replace alw := alw.mono fun _ _ q => q.mono tT
  replace rv := rv.mono tT
  have da4 : DeepAll K H4 xs ds := DeepAll.same hd_full daT
  have ldx := da4.len
  refine ⟨_, rfl, D, rfl, ⟨_, SqL.of hDl⟩, fun D2 hD2 => comp_ix (wlk_lst (SqL.of hDl)) (fun _ => true) (fun _ => V.bl true) hD2 (by omega) (fun i x H' hi s' hx R E kR kE => ?_) fun H5 s5 h5 => ?_⟩
  ·obtain ⟨u, hu, du⟩ := DeepAll.atN da4 (List.getElem?_eq_getElem (show i < ds.length by omega))
   rw [hx] at hu
   cases hu
   obtain ⟨gd, sp⟩ := gsT _ (List.getElem_mem (show i < ds.length by omega))
   generalize ds[i] = d at du gd sp
   have t' := Tst.same (K := K) s'
   refine ⟨Ext.set rfl, _, rfl, _, rfl, _, rfl, pw, xw, vr, x, rl, d, dWks ws, dRl rl, rfl, t' _ _ hW, rv.mono t', okr, du.same s', gd.bd, sp, by omega, WksV.deep ⟨pw, xw, rfl, t' _ _ hW, alw.mono fun _ _ q => q.mono t'⟩, (rv.mono t').deep, sh_three okw (by omega) okr gd, fun H6 s6 => kR rfl _ s6⟩
  rw [List.filter_eq_self.mpr (fun _ _ => rfl)] at h5
  refine ⟨D2, _, rfl, .inl (SqL.of h5), rfl, all_true, _, rfl, iteB0 none_false ?_⟩
  exact ⟨_, _, _, _, _, _, _, _, rfl, tp.same s5⟩
 ·rintro σ H2 ⟨x2, x3, x4, x5, x6, x7, x8, x9, rfl, _⟩
  exact k _
end
set_option autoImplicit true in
set_option relaxedAutoImplicit true in
open PySem.W in
theorem all_mk {l : OpenLaw} {w : World} {K : Frag} {h : Heap} {mg : Str -> Option Value} {fa : Addr} (X : K.In h) (G : h.Ns mainGlobals mg) (hfa : mg "law" = some (.ref fa))
  (p_Q21 : nsIn K mainGlobals "is_whole" = some (some (.ref f_Q21))) (l_Q21 : K.lookup f_Q21 = some ⟨oc_Q21, od_Q21, .func (fnOf "is_whole" "is_whole" (defArgs s_Q21) (defBody s_Q21) (defScope s_Q21) .none kV_Q21 dc_Q21 pm_Q21 an_Q21 cd_Q21 ct_Q21), sl_Q21⟩) (c_Q21 : codeIn K cd_Q21 "is_whole" = true) (k_Q21 : keepIn K (.ref f_Q21) = true)
  (p_Q7 : nsIn K mainGlobals "is_tuple_of" = some (some (.ref f_Q7))) (l_Q7 : K.lookup f_Q7 = some ⟨oc_Q7, od_Q7, .func (fnOf "is_tuple_of" "is_tuple_of" (defArgs s_Q7) (defBody s_Q7) (defScope s_Q7) .none kV_Q7 dc_Q7 pm_Q7 an_Q7 cd_Q7 ct_Q7), sl_Q7⟩) (c_Q7 : codeIn K cd_Q7 "is_tuple_of" = true) (k_Q7 : keepIn K (.ref f_Q7) = true)
  (p_Q39 : nsIn K mainGlobals "copied" = some (some (.ref f_Q39))) (l_Q39 : K.lookup f_Q39 = some ⟨oc_Q39, od_Q39, .func (fnOf "copied" "copied" (defArgs s_Q39) (defBody s_Q39) (defScope s_Q39) .none kV_Q39 dc_Q39 pm_Q39 an_Q39 cd_Q39 ct_Q39), sl_Q39⟩) (c_Q39 : codeIn K cd_Q39 "copied" = true) (k_Q39 : keepIn K (.ref f_Q39) = true)
  (p_Q0 : nsIn K mainGlobals "greatest_divisor" = some (some (.ref f_Q0))) (l_Q0 : K.lookup f_Q0 = some ⟨oc_Q0, od_Q0, .func (fnOf "greatest_divisor" "greatest_divisor" (defArgs s_Q0) (defBody s_Q0) (defScope s_Q0) .none kV_Q0 dc_Q0 pm_Q0 an_Q0 cd_Q0 ct_Q0), sl_Q0⟩) (c_Q0 : codeIn K cd_Q0 "greatest_divisor" = true) (k_Q0 : keepIn K (.ref f_Q0) = true)
  (p_Q22 : nsIn K mainGlobals "is_ratio" = some (some (.ref f_Q22))) (l_Q22 : K.lookup f_Q22 = some ⟨oc_Q22, od_Q22, .func (fnOf "is_ratio" "is_ratio" (defArgs s_Q22) (defBody s_Q22) (defScope s_Q22) .none kV_Q22 dc_Q22 pm_Q22 an_Q22 cd_Q22 ct_Q22), sl_Q22⟩) (c_Q22 : codeIn K cd_Q22 "is_ratio" = true) (k_Q22 : keepIn K (.ref f_Q22) = true)
  (p_Q2 : nsIn K mainGlobals "is_ratio_pair" = some (some (.ref f_Q2))) (l_Q2 : K.lookup f_Q2 = some ⟨oc_Q2, od_Q2, .func (fnOf "is_ratio_pair" "is_ratio_pair" (defArgs s_Q2) (defBody s_Q2) (defScope s_Q2) .none kV_Q2 dc_Q2 pm_Q2 an_Q2 cd_Q2 ct_Q2), sl_Q2⟩) (c_Q2 : codeIn K cd_Q2 "is_ratio_pair" = true) (k_Q2 : keepIn K (.ref f_Q2) = true)
  (p_Q45 : nsIn K mainGlobals "ratio" = some (some (.ref f_Q45))) (l_Q45 : K.lookup f_Q45 = some ⟨oc_Q45, od_Q45, .func (fnOf "ratio" "ratio" (defArgs s_Q45) (defBody s_Q45) (defScope s_Q45) .none kV_Q45 dc_Q45 pm_Q45 an_Q45 cd_Q45 ct_Q45), sl_Q45⟩) (c_Q45 : codeIn K cd_Q45 "ratio" = true) (k_Q45 : keepIn K (.ref f_Q45) = true)
  (p_Q49 : nsIn K mainGlobals "plus" = some (some (.ref f_Q49))) (l_Q49 : K.lookup f_Q49 = some ⟨oc_Q49, od_Q49, .func (fnOf "plus" "plus" (defArgs s_Q49) (defBody s_Q49) (defScope s_Q49) .none kV_Q49 dc_Q49 pm_Q49 an_Q49 cd_Q49 ct_Q49), sl_Q49⟩) (c_Q49 : codeIn K cd_Q49 "plus" = true) (k_Q49 : keepIn K (.ref f_Q49) = true)
  (p_Q46 : nsIn K mainGlobals "minus" = some (some (.ref f_Q46))) (l_Q46 : K.lookup f_Q46 = some ⟨oc_Q46, od_Q46, .func (fnOf "minus" "minus" (defArgs s_Q46) (defBody s_Q46) (defScope s_Q46) .none kV_Q46 dc_Q46 pm_Q46 an_Q46 cd_Q46 ct_Q46), sl_Q46⟩) (c_Q46 : codeIn K cd_Q46 "minus" = true) (k_Q46 : keepIn K (.ref f_Q46) = true)
  (p_Q47 : nsIn K mainGlobals "times" = some (some (.ref f_Q47))) (l_Q47 : K.lookup f_Q47 = some ⟨oc_Q47, od_Q47, .func (fnOf "times" "times" (defArgs s_Q47) (defBody s_Q47) (defScope s_Q47) .none kV_Q47 dc_Q47 pm_Q47 an_Q47 cd_Q47 ct_Q47), sl_Q47⟩) (c_Q47 : codeIn K cd_Q47 "times" = true) (k_Q47 : keepIn K (.ref f_Q47) = true)
  (p_Q50 : nsIn K mainGlobals "over" = some (some (.ref f_Q50))) (l_Q50 : K.lookup f_Q50 = some ⟨oc_Q50, od_Q50, .func (fnOf "over" "over" (defArgs s_Q50) (defBody s_Q50) (defScope s_Q50) .none kV_Q50 dc_Q50 pm_Q50 an_Q50 cd_Q50 ct_Q50), sl_Q50⟩) (c_Q50 : codeIn K cd_Q50 "over" = true) (k_Q50 : keepIn K (.ref f_Q50) = true)
  (p_Q40 : nsIn K mainGlobals "raised" = some (some (.ref f_Q40))) (l_Q40 : K.lookup f_Q40 = some ⟨oc_Q40, od_Q40, .func (fnOf "raised" "raised" (defArgs s_Q40) (defBody s_Q40) (defScope s_Q40) .none kV_Q40 dc_Q40 pm_Q40 an_Q40 cd_Q40 ct_Q40), sl_Q40⟩) (c_Q40 : codeIn K cd_Q40 "raised" = true) (k_Q40 : keepIn K (.ref f_Q40) = true)
  (p_Q31 : nsIn K mainGlobals "is_less" = some (some (.ref f_Q31))) (l_Q31 : K.lookup f_Q31 = some ⟨oc_Q31, od_Q31, .func (fnOf "is_less" "is_less" (defArgs s_Q31) (defBody s_Q31) (defScope s_Q31) .none kV_Q31 dc_Q31 pm_Q31 an_Q31 cd_Q31 ct_Q31), sl_Q31⟩) (c_Q31 : codeIn K cd_Q31 "is_less" = true) (k_Q31 : keepIn K (.ref f_Q31) = true)
  (p_Q3 : nsIn K mainGlobals "slope_between" = some (some (.ref f_Q3))) (l_Q3 : K.lookup f_Q3 = some ⟨oc_Q3, od_Q3, .func (fnOf "slope_between" "slope_between" (defArgs s_Q3) (defBody s_Q3) (defScope s_Q3) .none kV_Q3 dc_Q3 pm_Q3 an_Q3 cd_Q3 ct_Q3), sl_Q3⟩) (c_Q3 : codeIn K cd_Q3 "slope_between" = true) (k_Q3 : keepIn K (.ref f_Q3) = true)
  (p_Q41 : nsIn K mainGlobals "top_of" = some (some (.ref f_Q41))) (l_Q41 : K.lookup f_Q41 = some ⟨oc_Q41, od_Q41, .func (fnOf "top_of" "top_of" (defArgs s_Q41) (defBody s_Q41) (defScope s_Q41) .none kV_Q41 dc_Q41 pm_Q41 an_Q41 cd_Q41 ct_Q41), sl_Q41⟩) (c_Q41 : codeIn K cd_Q41 "top_of" = true) (k_Q41 : keepIn K (.ref f_Q41) = true)
  (p_Q11 : nsIn K mainGlobals "is_beyond" = some (some (.ref f_Q11))) (l_Q11 : K.lookup f_Q11 = some ⟨oc_Q11, od_Q11, .func (fnOf "is_beyond" "is_beyond" (defArgs s_Q11) (defBody s_Q11) (defScope s_Q11) .none kV_Q11 dc_Q11 pm_Q11 an_Q11 cd_Q11 ct_Q11), sl_Q11⟩) (c_Q11 : codeIn K cd_Q11 "is_beyond" = true) (k_Q11 : keepIn K (.ref f_Q11) = true)
  (p_Q23 : nsIn K mainGlobals "place_of" = some (some (.ref f_Q23))) (l_Q23 : K.lookup f_Q23 = some ⟨oc_Q23, od_Q23, .func (fnOf "place_of" "place_of" (defArgs s_Q23) (defBody s_Q23) (defScope s_Q23) .none kV_Q23 dc_Q23 pm_Q23 an_Q23 cd_Q23 ct_Q23), sl_Q23⟩) (c_Q23 : codeIn K cd_Q23 "place_of" = true) (k_Q23 : keepIn K (.ref f_Q23) = true)
  (p_Q4 : nsIn K mainGlobals "table_slopes" = some (some (.ref f_Q4))) (l_Q4 : K.lookup f_Q4 = some ⟨oc_Q4, od_Q4, .func (fnOf "table_slopes" "table_slopes" (defArgs s_Q4) (defBody s_Q4) (defScope s_Q4) .none kV_Q4 dc_Q4 pm_Q4 an_Q4 cd_Q4 ct_Q4), sl_Q4⟩) (c_Q4 : codeIn K cd_Q4 "table_slopes" = true) (k_Q4 : keepIn K (.ref f_Q4) = true)
  (p_Q12 : nsIn K mainGlobals "slopes_at" = some (some (.ref f_Q12))) (l_Q12 : K.lookup f_Q12 = some ⟨oc_Q12, od_Q12, .func (fnOf "slopes_at" "slopes_at" (defArgs s_Q12) (defBody s_Q12) (defScope s_Q12) .none kV_Q12 dc_Q12 pm_Q12 an_Q12 cd_Q12 ct_Q12), sl_Q12⟩) (c_Q12 : codeIn K cd_Q12 "slopes_at" = true) (k_Q12 : keepIn K (.ref f_Q12) = true)
  (p_Q48 : nsIn K mainGlobals "bears" = some (some (.ref f_Q48))) (l_Q48 : K.lookup f_Q48 = some ⟨oc_Q48, od_Q48, .func (fnOf "bears" "bears" (defArgs s_Q48) (defBody s_Q48) (defScope s_Q48) .none kV_Q48 dc_Q48 pm_Q48 an_Q48 cd_Q48 ct_Q48), sl_Q48⟩) (c_Q48 : codeIn K cd_Q48 "bears" = true) (k_Q48 : keepIn K (.ref f_Q48) = true)
  (p_Q24 : nsIn K mainGlobals "is_price" = some (some (.ref f_Q24))) (l_Q24 : K.lookup f_Q24 = some ⟨oc_Q24, od_Q24, .func (fnOf "is_price" "is_price" (defArgs s_Q24) (defBody s_Q24) (defScope s_Q24) .none kV_Q24 dc_Q24 pm_Q24 an_Q24 cd_Q24 ct_Q24), sl_Q24⟩) (c_Q24 : codeIn K cd_Q24 "is_price" = true) (k_Q24 : keepIn K (.ref f_Q24) = true)
  (p_Q5 : nsIn K mainGlobals "right_prices" = some (some (.ref f_Q5))) (l_Q5 : K.lookup f_Q5 = some ⟨oc_Q5, od_Q5, .func (fnOf "right_prices" "right_prices" (defArgs s_Q5) (defBody s_Q5) (defScope s_Q5) .none kV_Q5 dc_Q5 pm_Q5 an_Q5 cd_Q5 ct_Q5), sl_Q5⟩) (c_Q5 : codeIn K cd_Q5 "right_prices" = true) (k_Q5 : keepIn K (.ref f_Q5) = true)
  (p_Q25 : nsIn K mainGlobals "_law_tape" = some (some (.ref f_Q25))) (l_Q25 : K.lookup f_Q25 = some ⟨oc_Q25, od_Q25, .func (fnOf "_law_tape" "_law_tape" (defArgs s_Q25) (defBody s_Q25) (defScope s_Q25) .none kV_Q25 dc_Q25 pm_Q25 an_Q25 cd_Q25 ct_Q25), sl_Q25⟩) (c_Q25 : codeIn K cd_Q25 "_law_tape" = true) (k_Q25 : keepIn K (.ref f_Q25) = true)
  (p_Q26 : nsIn K mainGlobals "_law_draw" = some (some (.ref f_Q26))) (l_Q26 : K.lookup f_Q26 = some ⟨oc_Q26, od_Q26, .func (fnOf "_law_draw" "_law_draw" (defArgs s_Q26) (defBody s_Q26) (defScope s_Q26) .none kV_Q26 dc_Q26 pm_Q26 an_Q26 cd_Q26 ct_Q26), sl_Q26⟩) (c_Q26 : codeIn K cd_Q26 "_law_draw" = true) (k_Q26 : keepIn K (.ref f_Q26) = true)
  (p_Q27 : nsIn K mainGlobals "_law_frac" = some (some (.ref f_Q27))) (l_Q27 : K.lookup f_Q27 = some ⟨oc_Q27, od_Q27, .func (fnOf "_law_frac" "_law_frac" (defArgs s_Q27) (defBody s_Q27) (defScope s_Q27) .none kV_Q27 dc_Q27 pm_Q27 an_Q27 cd_Q27 ct_Q27), sl_Q27⟩) (c_Q27 : codeIn K cd_Q27 "_law_frac" = true) (k_Q27 : keepIn K (.ref f_Q27) = true)
  (p_Q32 : nsIn K mainGlobals "_law_add" = some (some (.ref f_Q32))) (l_Q32 : K.lookup f_Q32 = some ⟨oc_Q32, od_Q32, .func (fnOf "_law_add" "_law_add" (defArgs s_Q32) (defBody s_Q32) (defScope s_Q32) .none kV_Q32 dc_Q32 pm_Q32 an_Q32 cd_Q32 ct_Q32), sl_Q32⟩) (c_Q32 : codeIn K cd_Q32 "_law_add" = true) (k_Q32 : keepIn K (.ref f_Q32) = true)
  (p_Q33 : nsIn K mainGlobals "_law_mul" = some (some (.ref f_Q33))) (l_Q33 : K.lookup f_Q33 = some ⟨oc_Q33, od_Q33, .func (fnOf "_law_mul" "_law_mul" (defArgs s_Q33) (defBody s_Q33) (defScope s_Q33) .none kV_Q33 dc_Q33 pm_Q33 an_Q33 cd_Q33 ct_Q33), sl_Q33⟩) (c_Q33 : codeIn K cd_Q33 "_law_mul" = true) (k_Q33 : keepIn K (.ref f_Q33) = true)
  (p_Q28 : nsIn K mainGlobals "_law_less" = some (some (.ref f_Q28))) (l_Q28 : K.lookup f_Q28 = some ⟨oc_Q28, od_Q28, .func (fnOf "_law_less" "_law_less" (defArgs s_Q28) (defBody s_Q28) (defScope s_Q28) .none kV_Q28 dc_Q28 pm_Q28 an_Q28 cd_Q28 ct_Q28), sl_Q28⟩) (c_Q28 : codeIn K cd_Q28 "_law_less" = true) (k_Q28 : keepIn K (.ref f_Q28) = true)
  (p_Q13 : nsIn K mainGlobals "_law_works" = some (some (.ref f_Q13))) (l_Q13 : K.lookup f_Q13 = some ⟨oc_Q13, od_Q13, .func (fnOf "_law_works" "_law_works" (defArgs s_Q13) (defBody s_Q13) (defScope s_Q13) .none kV_Q13 dc_Q13 pm_Q13 an_Q13 cd_Q13 ct_Q13), sl_Q13⟩) (c_Q13 : codeIn K cd_Q13 "_law_works" = true) (k_Q13 : keepIn K (.ref f_Q13) = true)
  (p_Q29 : nsIn K mainGlobals "_law_rule" = some (some (.ref f_Q29))) (l_Q29 : K.lookup f_Q29 = some ⟨oc_Q29, od_Q29, .func (fnOf "_law_rule" "_law_rule" (defArgs s_Q29) (defBody s_Q29) (defScope s_Q29) .none kV_Q29 dc_Q29 pm_Q29 an_Q29 cd_Q29 ct_Q29), sl_Q29⟩) (c_Q29 : codeIn K cd_Q29 "_law_rule" = true) (k_Q29 : keepIn K (.ref f_Q29) = true)
  (p_Q8 : nsIn K mainGlobals "_law_rising" = some (some (.ref f_Q8))) (l_Q8 : K.lookup f_Q8 = some ⟨oc_Q8, od_Q8, .func (fnOf "_law_rising" "_law_rising" (defArgs s_Q8) (defBody s_Q8) (defScope s_Q8) .none kV_Q8 dc_Q8 pm_Q8 an_Q8 cd_Q8 ct_Q8), sl_Q8⟩) (c_Q8 : codeIn K cd_Q8 "_law_rising" = true) (k_Q8 : keepIn K (.ref f_Q8) = true)
  (p_Q9 : nsIn K mainGlobals "_law_slopes" = some (some (.ref f_Q9))) (l_Q9 : K.lookup f_Q9 = some ⟨oc_Q9, od_Q9, .func (fnOf "_law_slopes" "_law_slopes" (defArgs s_Q9) (defBody s_Q9) (defScope s_Q9) .none kV_Q9 dc_Q9 pm_Q9 an_Q9 cd_Q9 ct_Q9), sl_Q9⟩) (c_Q9 : codeIn K cd_Q9 "_law_slopes" = true) (k_Q9 : keepIn K (.ref f_Q9) = true)
  (p_Q14 : nsIn K mainGlobals "_law_price" = some (some (.ref f_Q14))) (l_Q14 : K.lookup f_Q14 = some ⟨oc_Q14, od_Q14, .func (fnOf "_law_price" "_law_price" (defArgs s_Q14) (defBody s_Q14) (defScope s_Q14) .none kV_Q14 dc_Q14 pm_Q14 an_Q14 cd_Q14 ct_Q14), sl_Q14⟩) (c_Q14 : codeIn K cd_Q14 "_law_price" = true) (k_Q14 : keepIn K (.ref f_Q14) = true)
  (p_Q1 : nsIn K mainGlobals "_law_some_speed" = some (some (.ref f_Q1))) (l_Q1 : K.lookup f_Q1 = some ⟨oc_Q1, od_Q1, .func (fnOf "_law_some_speed" "_law_some_speed" (defArgs s_Q1) (defBody s_Q1) (defScope s_Q1) .none kV_Q1 dc_Q1 pm_Q1 an_Q1 cd_Q1 ct_Q1), sl_Q1⟩) (c_Q1 : codeIn K cd_Q1 "_law_some_speed" = true) (k_Q1 : keepIn K (.ref f_Q1) = true)
  (p_Q10 : nsIn K mainGlobals "_law_prices" = some (some (.ref f_Q10))) (l_Q10 : K.lookup f_Q10 = some ⟨oc_Q10, od_Q10, .func (fnOf "_law_prices" "_law_prices" (defArgs s_Q10) (defBody s_Q10) (defScope s_Q10) .none kV_Q10 dc_Q10 pm_Q10 an_Q10 cd_Q10 ct_Q10), sl_Q10⟩) (c_Q10 : codeIn K cd_Q10 "_law_prices" = true) (k_Q10 : keepIn K (.ref f_Q10) = true)
  (p_Q15 : nsIn K mainGlobals "_law_marks" = some (some (.ref f_Q15))) (l_Q15 : K.lookup f_Q15 = some ⟨oc_Q15, od_Q15, .func (fnOf "_law_marks" "_law_marks" (defArgs s_Q15) (defBody s_Q15) (defScope s_Q15) .none kV_Q15 dc_Q15 pm_Q15 an_Q15 cd_Q15 ct_Q15), sl_Q15⟩) (c_Q15 : codeIn K cd_Q15 "_law_marks" = true) (k_Q15 : keepIn K (.ref f_Q15) = true)
  (p_Q6 : nsIn K mainGlobals "_law_is_ratio" = some (some (.ref f_Q6))) (l_Q6 : K.lookup f_Q6 = some ⟨oc_Q6, od_Q6, .func (fnOf "_law_is_ratio" "_law_is_ratio" (defArgs s_Q6) (defBody s_Q6) (defScope s_Q6) .none kV_Q6 dc_Q6 pm_Q6 an_Q6 cd_Q6 ct_Q6), sl_Q6⟩) (c_Q6 : codeIn K cd_Q6 "_law_is_ratio" = true) (k_Q6 : keepIn K (.ref f_Q6) = true)
  (p_Q16 : nsIn K mainGlobals "_law_wrong" = some (some (.ref f_Q16))) (l_Q16 : K.lookup f_Q16 = some ⟨oc_Q16, od_Q16, .func (fnOf "_law_wrong" "_law_wrong" (defArgs s_Q16) (defBody s_Q16) (defScope s_Q16) .none kV_Q16 dc_Q16 pm_Q16 an_Q16 cd_Q16 ct_Q16), sl_Q16⟩) (c_Q16 : codeIn K cd_Q16 "_law_wrong" = true) (k_Q16 : keepIn K (.ref f_Q16) = true)
  (p_Q30 : nsIn K mainGlobals "_law_bent" = some (some (.ref f_Q30))) (l_Q30 : K.lookup f_Q30 = some ⟨oc_Q30, od_Q30, .func (fnOf "_law_bent" "_law_bent" (defArgs s_Q30) (defBody s_Q30) (defScope s_Q30) .none kV_Q30 dc_Q30 pm_Q30 an_Q30 cd_Q30 ct_Q30), sl_Q30⟩) (c_Q30 : codeIn K cd_Q30 "_law_bent" = true) (k_Q30 : keepIn K (.ref f_Q30) = true)
  (p_Q17 : nsIn K mainGlobals "_law_tried" = some (some (.ref f_Q17))) (l_Q17 : K.lookup f_Q17 = some ⟨oc_Q17, od_Q17, .func (fnOf "_law_tried" "_law_tried" (defArgs s_Q17) (defBody s_Q17) (defScope s_Q17) .none kV_Q17 dc_Q17 pm_Q17 an_Q17 cd_Q17 ct_Q17), sl_Q17⟩) (c_Q17 : codeIn K cd_Q17 "_law_tried" = true) (k_Q17 : keepIn K (.ref f_Q17) = true)
  (p_Q18 : nsIn K mainGlobals "_law_right" = some (some (.ref f_Q18))) (l_Q18 : K.lookup f_Q18 = some ⟨oc_Q18, od_Q18, .func (fnOf "_law_right" "_law_right" (defArgs s_Q18) (defBody s_Q18) (defScope s_Q18) .none kV_Q18 dc_Q18 pm_Q18 an_Q18 cd_Q18 ct_Q18), sl_Q18⟩) (c_Q18 : codeIn K cd_Q18 "_law_right" = true) (k_Q18 : keepIn K (.ref f_Q18) = true)
  {f_Q51 : Addr} {od_Q51 an_Q51 : Option Addr} {sl_Q51 : Array (Option Value)} {oc_Q51 kV_Q51 dc_Q51 pm_Q51 cd_Q51 ct_Q51 : Value}
  (p_Q51 : nsIn K mainGlobals "law" = some (some (.ref f_Q51))) (l_Q51 : K.lookup f_Q51 = some ⟨oc_Q51, od_Q51, .func (fnOf "law" "law" (defArgs s_Q51) (defBody s_Q51) (defScope s_Q51) .none kV_Q51 dc_Q51 pm_Q51 an_Q51 cd_Q51 ct_Q51), sl_Q51⟩) (c_Q51 : codeIn K cd_Q51 "law" = true) (k_Q51 : keepIn K (.ref f_Q51) = true)
  {f_NOUGHT : Addr} {od_NOUGHT : Option Addr} {sl_NOUGHT : Array (Option Value)} {tkNOUGHT0 tkNOUGHT1 : Tok} {n_NOUGHT : Nat} (p_NOUGHT : nsIn K mainGlobals "NOUGHT" = some (some (.ref f_NOUGHT))) (l_NOUGHT : K.lookup f_NOUGHT = some ⟨.type "tuple", od_NOUGHT, .seq #[.int (0) tkNOUGHT0, .int (1) tkNOUGHT1] n_NOUGHT, sl_NOUGHT⟩)
  {tkPOWER : Tok} (p_POWER : nsIn K mainGlobals "POWER" = some (some (.str "power" tkPOWER)))
  {tkTABLE : Tok} (p_TABLE : nsIn K mainGlobals "TABLE" = some (some (.str "table" tkTABLE)))
  {cB NB : Addr} {nmB qB : Str} {bsB : List Value} {hdB : Bool} {snB : List Str} {suB : List Value} {abB : Bool} {coB : Option Bool} {ddB : Option Addr} {j0 j1 j2 j3 j5 : Option Value} {ocB : Value} {odB : Option Addr} {esB : Array DictEntry} {nB : Nat} {slB : Array (Option Value)}
  (pB : nsIn K mainGlobals "PaceError" = some (some (.ref cB))) (lB : K.lookup cB = some (excClassObj nmB qB cB NB bsB [.type "ValueError", .type "Exception", .type "BaseException", .type "object"] hdB snB suB abB coB ddB j0 j1 j2 j3 j5 "ValueError.__new__")) (lnB : K.lookup NB = some ⟨ocB, odB, .dict esB nB, slB⟩) (hsB : strKeysB esB = true) (hnB : (nsFind esB "__init__").isNone = true)
  (cgB : specialIn K (.builtin "object.__class__") "__get__" = some (some (.builtin "getset_descriptor.__get__"))) (ctB : takesIn K (.builtin "object.__class__") = some true)
  {c_Q34 N_Q34 i_Q34 : Addr} {nm_Q34 q_Q34 : Str} {bs_Q34 : List Value} {hd_Q34 : Bool} {sn_Q34 : List Str} {su_Q34 : List Value} {ab_Q34 : Bool} {co_Q34 : Option Bool} {dd_Q34 : Option Addr} {k0_Q34 k1_Q34 k2_Q34 k3_Q34 k5_Q34 : Option Value} {od_Q34 an_Q34 : Option Addr} {sl_Q34 : Array (Option Value)} {oc_Q34 kV_Q34 dc_Q34 pm_Q34 cd_Q34 ct_Q34 : Value}
  (p_Q34 : nsIn K mainGlobals "NoPrice" = some (some (.ref c_Q34))) (lc_Q34 : K.lookup c_Q34 = some (excClassObj nm_Q34 q_Q34 c_Q34 N_Q34 bs_Q34 (.ref cB :: [.type "ValueError", .type "Exception", .type "BaseException", .type "object"]) hd_Q34 sn_Q34 su_Q34 ab_Q34 co_Q34 dd_Q34 k0_Q34 k1_Q34 k2_Q34 k3_Q34 k5_Q34 "ValueError.__new__")) (fi_Q34 : findIn K (.ref c_Q34) "__init__" = some (some (.ref i_Q34)))
  (l_Q34 : K.lookup i_Q34 = some ⟨oc_Q34, od_Q34, .func (fnOf "__init__" "NoPrice.__init__" (defArgs s_Q34) (defBody s_Q34) (defScope s_Q34) .none kV_Q34 dc_Q34 pm_Q34 an_Q34 cd_Q34 ct_Q34), sl_Q34⟩) (cd_Q34_ : codeIn K cd_Q34 "NoPrice.__init__" = true) (ki_Q34 : keepIn K (.ref i_Q34) = true) (ti_Q34 : typeIn K (.ref i_Q34) = some (.type "function")) (kc_Q34 : keepIn K (.ref c_Q34) = true)
  (hh_Q34 : hasDictIn K c_Q34 = true) (sa_Q34 : findIn K (.ref c_Q34) "__setattr__" = some (some (.builtin "object.__setattr__")))
  (na_Q34_work : findIn K (.ref c_Q34) "work" = some none) (ga_Q34 : findIn K (.ref c_Q34) "__getattribute__" = some (some (.builtin "BaseException.__getattribute__"))) (gn_Q34 : findIn K (.ref c_Q34) "__getattr__" = some none) (cl_Q34 : findIn K (.ref c_Q34) "__class__" = some (some (.builtin "object.__class__")))
  {c_Q19 : Addr} (p_Q19 : nsIn K mainGlobals "PaceError" = some (some (.ref c_Q19)))
  {c_Q35 : Addr} (p_Q35 : nsIn K mainGlobals "NoLeast" = some (some (.ref c_Q35)))
  {c_Q42 : Addr} (p_Q42 : nsIn K mainGlobals "NoMuch" = some (some (.ref c_Q42)))
  {c_Q43 : Addr} (p_Q43 : nsIn K mainGlobals "NoPlan" = some (some (.ref c_Q43)))
  {c_Q44 : Addr} (p_Q44 : nsIn K mainGlobals "NoRoom" = some (some (.ref c_Q44)))
  {c_Q36 : Addr} (p_Q36 : nsIn K mainGlobals "NoSheet" = some (some (.ref c_Q36)))
  {c_Q37 : Addr} (p_Q37 : nsIn K mainGlobals "NoSpeed" = some (some (.ref c_Q37)))
  {c_Q20 : Addr} (p_Q20 : nsIn K mainGlobals "NoStretch" = some (some (.ref c_Q20)))
  {c_Q38 : Addr} (p_Q38 : nsIn K mainGlobals "NoRatio" = some (some (.ref c_Q38)))
  (w_x_catch : exmOne K (.ref c_Q34) (.ref c_Q19) = some true)
  (w_y_self : kitOne K (.ref c_Q34) (.ref c_Q34) = some true)
  (w_y_base : kitOne K (.ref c_Q34) (.ref c_Q19) = some true)
  (w_y_val : kitOne K (.ref c_Q34) (.type "ValueError") = some true)
  (w_y_not : kitAny K (.ref c_Q34) [.ref c_Q35, .ref c_Q42, .ref c_Q43, .ref c_Q44, .ref c_Q36, .ref c_Q37, .ref c_Q20] = some false)
  (z_ValueError : nsIn K mainGlobals "ValueError" = some none)
  (z_abs : nsIn K mainGlobals "abs" = some none)
  (z_all : nsIn K mainGlobals "all" = some none)
  (z_bool : nsIn K mainGlobals "bool" = some none)
  (z_enumerate : nsIn K mainGlobals "enumerate" = some none)
  (z_int : nsIn K mainGlobals "int" = some none)
  (z_isinstance : nsIn K mainGlobals "isinstance" = some none)
  (z_len : nsIn K mainGlobals "len" = some none)
  (z_list : nsIn K mainGlobals "list" = some none)
  (z_range : nsIn K mainGlobals "range" = some none)
  (z_repr : nsIn K mainGlobals "repr" = some none)
  (z_tuple : nsIn K mainGlobals "tuple" = some none)
  (z_zip : nsIn K mainGlobals "zip" = some none)
  : ∃ fd : FuncData, (∀ (s : Shared) (v : Value), BindsTo s fd ⟨[v], []⟩ [("_law_script", v)]) /\ ∀ base : Heap, K.In base -> base.Ns mainGlobals mg -> FnOk l.prog w K mg base CX0 12 fa fd ["_law_script"] (sp_law K) := by
 have e := hfa.symm.trans (mg_of X G p_Q51)
 cases e
 obtain ⟨d_Q21, F_Q21⟩ : ∃ d, Fun K "is_whole" "is_whole" s_Q21 f_Q21 d := ⟨_, fun_mk l_Q21 c_Q21 k_Q21⟩
 obtain ⟨d_Q7, F_Q7⟩ : ∃ d, Fun K "is_tuple_of" "is_tuple_of" s_Q7 f_Q7 d := ⟨_, fun_mk l_Q7 c_Q7 k_Q7⟩
 obtain ⟨d_Q39, F_Q39⟩ : ∃ d, Fun K "copied" "copied" s_Q39 f_Q39 d := ⟨_, fun_mk l_Q39 c_Q39 k_Q39⟩
 obtain ⟨d_Q0, F_Q0⟩ : ∃ d, Fun K "greatest_divisor" "greatest_divisor" s_Q0 f_Q0 d := ⟨_, fun_mk l_Q0 c_Q0 k_Q0⟩
 obtain ⟨d_Q22, F_Q22⟩ : ∃ d, Fun K "is_ratio" "is_ratio" s_Q22 f_Q22 d := ⟨_, fun_mk l_Q22 c_Q22 k_Q22⟩
 obtain ⟨d_Q2, F_Q2⟩ : ∃ d, Fun K "is_ratio_pair" "is_ratio_pair" s_Q2 f_Q2 d := ⟨_, fun_mk l_Q2 c_Q2 k_Q2⟩
 obtain ⟨d_Q45, F_Q45⟩ : ∃ d, Fun K "ratio" "ratio" s_Q45 f_Q45 d := ⟨_, fun_mk l_Q45 c_Q45 k_Q45⟩
 obtain ⟨d_Q49, F_Q49⟩ : ∃ d, Fun K "plus" "plus" s_Q49 f_Q49 d := ⟨_, fun_mk l_Q49 c_Q49 k_Q49⟩
 obtain ⟨d_Q46, F_Q46⟩ : ∃ d, Fun K "minus" "minus" s_Q46 f_Q46 d := ⟨_, fun_mk l_Q46 c_Q46 k_Q46⟩
 obtain ⟨d_Q47, F_Q47⟩ : ∃ d, Fun K "times" "times" s_Q47 f_Q47 d := ⟨_, fun_mk l_Q47 c_Q47 k_Q47⟩
 obtain ⟨d_Q50, F_Q50⟩ : ∃ d, Fun K "over" "over" s_Q50 f_Q50 d := ⟨_, fun_mk l_Q50 c_Q50 k_Q50⟩
 obtain ⟨d_Q40, F_Q40⟩ : ∃ d, Fun K "raised" "raised" s_Q40 f_Q40 d := ⟨_, fun_mk l_Q40 c_Q40 k_Q40⟩
 obtain ⟨d_Q31, F_Q31⟩ : ∃ d, Fun K "is_less" "is_less" s_Q31 f_Q31 d := ⟨_, fun_mk l_Q31 c_Q31 k_Q31⟩
 obtain ⟨d_Q3, F_Q3⟩ : ∃ d, Fun K "slope_between" "slope_between" s_Q3 f_Q3 d := ⟨_, fun_mk l_Q3 c_Q3 k_Q3⟩
 obtain ⟨d_Q41, F_Q41⟩ : ∃ d, Fun K "top_of" "top_of" s_Q41 f_Q41 d := ⟨_, fun_mk l_Q41 c_Q41 k_Q41⟩
 obtain ⟨d_Q11, F_Q11⟩ : ∃ d, Fun K "is_beyond" "is_beyond" s_Q11 f_Q11 d := ⟨_, fun_mk l_Q11 c_Q11 k_Q11⟩
 obtain ⟨d_Q23, F_Q23⟩ : ∃ d, Fun K "place_of" "place_of" s_Q23 f_Q23 d := ⟨_, fun_mk l_Q23 c_Q23 k_Q23⟩
 obtain ⟨d_Q4, F_Q4⟩ : ∃ d, Fun K "table_slopes" "table_slopes" s_Q4 f_Q4 d := ⟨_, fun_mk l_Q4 c_Q4 k_Q4⟩
 obtain ⟨d_Q12, F_Q12⟩ : ∃ d, Fun K "slopes_at" "slopes_at" s_Q12 f_Q12 d := ⟨_, fun_mk l_Q12 c_Q12 k_Q12⟩
 obtain ⟨d_Q48, F_Q48⟩ : ∃ d, Fun K "bears" "bears" s_Q48 f_Q48 d := ⟨_, fun_mk l_Q48 c_Q48 k_Q48⟩
 obtain ⟨d_Q24, F_Q24⟩ : ∃ d, Fun K "is_price" "is_price" s_Q24 f_Q24 d := ⟨_, fun_mk l_Q24 c_Q24 k_Q24⟩
 obtain ⟨d_Q5, F_Q5⟩ : ∃ d, Fun K "right_prices" "right_prices" s_Q5 f_Q5 d := ⟨_, fun_mk l_Q5 c_Q5 k_Q5⟩
 obtain ⟨d_Q25, F_Q25⟩ : ∃ d, Fun K "_law_tape" "_law_tape" s_Q25 f_Q25 d := ⟨_, fun_mk l_Q25 c_Q25 k_Q25⟩
 obtain ⟨d_Q26, F_Q26⟩ : ∃ d, Fun K "_law_draw" "_law_draw" s_Q26 f_Q26 d := ⟨_, fun_mk l_Q26 c_Q26 k_Q26⟩
 obtain ⟨d_Q27, F_Q27⟩ : ∃ d, Fun K "_law_frac" "_law_frac" s_Q27 f_Q27 d := ⟨_, fun_mk l_Q27 c_Q27 k_Q27⟩
 obtain ⟨d_Q32, F_Q32⟩ : ∃ d, Fun K "_law_add" "_law_add" s_Q32 f_Q32 d := ⟨_, fun_mk l_Q32 c_Q32 k_Q32⟩
 obtain ⟨d_Q33, F_Q33⟩ : ∃ d, Fun K "_law_mul" "_law_mul" s_Q33 f_Q33 d := ⟨_, fun_mk l_Q33 c_Q33 k_Q33⟩
 obtain ⟨d_Q28, F_Q28⟩ : ∃ d, Fun K "_law_less" "_law_less" s_Q28 f_Q28 d := ⟨_, fun_mk l_Q28 c_Q28 k_Q28⟩
 obtain ⟨d_Q13, F_Q13⟩ : ∃ d, Fun K "_law_works" "_law_works" s_Q13 f_Q13 d := ⟨_, fun_mk l_Q13 c_Q13 k_Q13⟩
 obtain ⟨d_Q29, F_Q29⟩ : ∃ d, Fun K "_law_rule" "_law_rule" s_Q29 f_Q29 d := ⟨_, fun_mk l_Q29 c_Q29 k_Q29⟩
 obtain ⟨d_Q8, F_Q8⟩ : ∃ d, Fun K "_law_rising" "_law_rising" s_Q8 f_Q8 d := ⟨_, fun_mk l_Q8 c_Q8 k_Q8⟩
 obtain ⟨d_Q9, F_Q9⟩ : ∃ d, Fun K "_law_slopes" "_law_slopes" s_Q9 f_Q9 d := ⟨_, fun_mk l_Q9 c_Q9 k_Q9⟩
 obtain ⟨d_Q14, F_Q14⟩ : ∃ d, Fun K "_law_price" "_law_price" s_Q14 f_Q14 d := ⟨_, fun_mk l_Q14 c_Q14 k_Q14⟩
 obtain ⟨d_Q1, F_Q1⟩ : ∃ d, Fun K "_law_some_speed" "_law_some_speed" s_Q1 f_Q1 d := ⟨_, fun_mk l_Q1 c_Q1 k_Q1⟩
 obtain ⟨d_Q10, F_Q10⟩ : ∃ d, Fun K "_law_prices" "_law_prices" s_Q10 f_Q10 d := ⟨_, fun_mk l_Q10 c_Q10 k_Q10⟩
 obtain ⟨d_Q15, F_Q15⟩ : ∃ d, Fun K "_law_marks" "_law_marks" s_Q15 f_Q15 d := ⟨_, fun_mk l_Q15 c_Q15 k_Q15⟩
 obtain ⟨d_Q6, F_Q6⟩ : ∃ d, Fun K "_law_is_ratio" "_law_is_ratio" s_Q6 f_Q6 d := ⟨_, fun_mk l_Q6 c_Q6 k_Q6⟩
 obtain ⟨d_Q16, F_Q16⟩ : ∃ d, Fun K "_law_wrong" "_law_wrong" s_Q16 f_Q16 d := ⟨_, fun_mk l_Q16 c_Q16 k_Q16⟩
 obtain ⟨d_Q30, F_Q30⟩ : ∃ d, Fun K "_law_bent" "_law_bent" s_Q30 f_Q30 d := ⟨_, fun_mk l_Q30 c_Q30 k_Q30⟩
 obtain ⟨d_Q17, F_Q17⟩ : ∃ d, Fun K "_law_tried" "_law_tried" s_Q17 f_Q17 d := ⟨_, fun_mk l_Q17 c_Q17 k_Q17⟩
 obtain ⟨d_Q18, F_Q18⟩ : ∃ d, Fun K "_law_right" "_law_right" s_Q18 f_Q18 d := ⟨_, fun_mk l_Q18 c_Q18 k_Q18⟩
 have F_Q51 := fun_mk (st := s_Q51) l_Q51 c_Q51 k_Q51
 have F_Q34 := fun_mk (st := s_Q34) l_Q34 cd_Q34_ ki_Q34
 have T : Txt K mg ⟨f_Q21, d_Q21, f_Q7, d_Q7, f_Q39, d_Q39, f_Q0, d_Q0, f_Q22, d_Q22, f_Q2, d_Q2, f_Q45, d_Q45, f_Q49, d_Q49, f_Q46, d_Q46, f_Q47, d_Q47, f_Q50, d_Q50, f_Q40, d_Q40, f_Q31, d_Q31, f_Q3, d_Q3, f_Q41, d_Q41, f_Q11, d_Q11, f_Q23, d_Q23, f_Q4, d_Q4, f_Q12, d_Q12, f_Q48, d_Q48, f_Q24, d_Q24, f_Q5, d_Q5, f_Q25, d_Q25, f_Q26, d_Q26, f_Q27, d_Q27, f_Q32, d_Q32, f_Q33, d_Q33, f_Q28, d_Q28, f_Q13, d_Q13, f_Q29, d_Q29, f_Q8, d_Q8, f_Q9, d_Q9, f_Q14, d_Q14, f_Q1, d_Q1, f_Q10, d_Q10, f_Q15, d_Q15, f_Q6, d_Q6, f_Q16, d_Q16, f_Q30, d_Q30, f_Q17, d_Q17, f_Q18, d_Q18, fa, fnOf "law" "law" (defArgs s_Q51) (defBody s_Q51) (defScope s_Q51) .none kV_Q51 dc_Q51 pm_Q51 an_Q51 cd_Q51 ct_Q51, f_NOUGHT, tkPOWER, tkTABLE, cB, c_Q34, i_Q34, fnOf "__init__" "NoPrice.__init__" (defArgs s_Q34) (defBody s_Q34) (defScope s_Q34) .none kV_Q34 dc_Q34 pm_Q34 an_Q34 cd_Q34 ct_Q34, c_Q19, c_Q35, c_Q42, c_Q43, c_Q44, c_Q36, c_Q37, c_Q20, c_Q38⟩ := {
  F_Q21 := F_Q21, b_Q21 := bdA F_Q21, m_Q21 := mg_of X G p_Q21,
  F_Q7 := F_Q7, b_Q7 := bdA F_Q7, m_Q7 := mg_of X G p_Q7,
  F_Q39 := F_Q39, b_Q39 := bdA F_Q39, m_Q39 := mg_of X G p_Q39,
  F_Q0 := F_Q0, b_Q0 := bdA F_Q0, m_Q0 := mg_of X G p_Q0,
  F_Q22 := F_Q22, b_Q22 := bdA F_Q22, m_Q22 := mg_of X G p_Q22,
  F_Q2 := F_Q2, b_Q2 := bdA F_Q2, m_Q2 := mg_of X G p_Q2,
  F_Q45 := F_Q45, b_Q45 := bdA F_Q45, m_Q45 := mg_of X G p_Q45,
  F_Q49 := F_Q49, b_Q49 := bdA F_Q49, m_Q49 := mg_of X G p_Q49,
  F_Q46 := F_Q46, b_Q46 := bdA F_Q46, m_Q46 := mg_of X G p_Q46,
  F_Q47 := F_Q47, b_Q47 := bdA F_Q47, m_Q47 := mg_of X G p_Q47,
  F_Q50 := F_Q50, b_Q50 := bdA F_Q50, m_Q50 := mg_of X G p_Q50,
  F_Q40 := F_Q40, b_Q40 := bdA F_Q40, m_Q40 := mg_of X G p_Q40,
  F_Q31 := F_Q31, b_Q31 := bdA F_Q31, m_Q31 := mg_of X G p_Q31,
  F_Q3 := F_Q3, b_Q3 := bdA F_Q3, m_Q3 := mg_of X G p_Q3,
  F_Q41 := F_Q41, b_Q41 := bdA F_Q41, m_Q41 := mg_of X G p_Q41,
  F_Q11 := F_Q11, b_Q11 := bdA F_Q11, m_Q11 := mg_of X G p_Q11,
  F_Q23 := F_Q23, b_Q23 := bdA F_Q23, m_Q23 := mg_of X G p_Q23,
  F_Q4 := F_Q4, b_Q4 := bdA F_Q4, m_Q4 := mg_of X G p_Q4,
  F_Q12 := F_Q12, b_Q12 := bdA F_Q12, m_Q12 := mg_of X G p_Q12,
  F_Q48 := F_Q48, b_Q48 := bdA F_Q48, m_Q48 := mg_of X G p_Q48,
  F_Q24 := F_Q24, b_Q24 := bdA F_Q24, m_Q24 := mg_of X G p_Q24,
  F_Q5 := F_Q5, b_Q5 := bdA F_Q5, m_Q5 := mg_of X G p_Q5,
  F_Q25 := F_Q25, b_Q25 := bdA F_Q25, m_Q25 := mg_of X G p_Q25,
  F_Q26 := F_Q26, b_Q26 := bdA F_Q26, m_Q26 := mg_of X G p_Q26,
  F_Q27 := F_Q27, b_Q27 := bdA F_Q27, m_Q27 := mg_of X G p_Q27,
  F_Q32 := F_Q32, b_Q32 := bdA F_Q32, m_Q32 := mg_of X G p_Q32,
  F_Q33 := F_Q33, b_Q33 := bdA F_Q33, m_Q33 := mg_of X G p_Q33,
  F_Q28 := F_Q28, b_Q28 := bdA F_Q28, m_Q28 := mg_of X G p_Q28,
  F_Q13 := F_Q13, b_Q13 := bdA F_Q13, m_Q13 := mg_of X G p_Q13,
  F_Q29 := F_Q29, b_Q29 := bdA F_Q29, m_Q29 := mg_of X G p_Q29,
  F_Q8 := F_Q8, b_Q8 := bdA F_Q8, m_Q8 := mg_of X G p_Q8,
  F_Q9 := F_Q9, b_Q9 := bdA F_Q9, m_Q9 := mg_of X G p_Q9,
  F_Q14 := F_Q14, b_Q14 := bdA F_Q14, m_Q14 := mg_of X G p_Q14,
  F_Q1 := F_Q1, b_Q1 := bdA F_Q1, m_Q1 := mg_of X G p_Q1,
  F_Q10 := F_Q10, b_Q10 := bdA F_Q10, m_Q10 := mg_of X G p_Q10,
  F_Q15 := F_Q15, b_Q15 := bdA F_Q15, m_Q15 := mg_of X G p_Q15,
  F_Q6 := F_Q6, b_Q6 := bdA F_Q6, m_Q6 := mg_of X G p_Q6,
  F_Q16 := F_Q16, b_Q16 := bdA F_Q16, m_Q16 := mg_of X G p_Q16,
  F_Q30 := F_Q30, b_Q30 := bdA F_Q30, m_Q30 := mg_of X G p_Q30,
  F_Q17 := F_Q17, b_Q17 := bdA F_Q17, m_Q17 := mg_of X G p_Q17,
  F_Q18 := F_Q18, b_Q18 := bdA F_Q18, m_Q18 := mg_of X G p_Q18,
  F_Q51 := F_Q51, b_Q51 := bdA F_Q51, m_Q51 := mg_of X G p_Q51,
  m_NOUGHT := mg_of X G p_NOUGHT, q_NOUGHT := fun H => .inr ⟨_, _, _, l_NOUGHT, rfl, rfl, zl2, (.cons ⟨_, rfl⟩ (.cons ⟨_, rfl⟩ .nil))⟩,
  m_POWER := mg_of X G p_POWER,
  m_TABLE := mg_of X G p_TABLE,
  X_Q34 := xc_mk lc_Q34 lB lnB hsB hnB fi_Q34 ti_Q34 kc_Q34 hh_Q34 sa_Q34, F_Q34 := F_Q34, b_Q34 := bdA F_Q34, m_Q34 := mg_of X G p_Q34, n_Q34_work := na_Q34_work, g_Q34 := ⟨ga_Q34, gn_Q34, cl_Q34, cgB, ctB⟩,
  m_Q19 := mg_of X G p_Q19,
  m_Q35 := mg_of X G p_Q35,
  m_Q42 := mg_of X G p_Q42,
  m_Q43 := mg_of X G p_Q43,
  m_Q44 := mg_of X G p_Q44,
  m_Q36 := mg_of X G p_Q36,
  m_Q37 := mg_of X G p_Q37,
  m_Q20 := mg_of X G p_Q20,
  m_Q38 := mg_of X G p_Q38,
  x_catch := w_x_catch,
  y_self := w_y_self,
  y_base := w_y_base,
  y_val := w_y_val,
  y_not := w_y_not,
  z_ValueError := mg_none_of X G z_ValueError, z_abs := mg_none_of X G z_abs, z_all := mg_none_of X G z_all, z_bool := mg_none_of X G z_bool, z_enumerate := mg_none_of X G z_enumerate, z_int := mg_none_of X G z_int, z_isinstance := mg_none_of X G z_isinstance, z_len := mg_none_of X G z_len, z_list := mg_none_of X G z_list, z_range := mg_none_of X G z_range, z_repr := mg_none_of X G z_repr, z_tuple := mg_none_of X G z_tuple, z_zip := mg_none_of X G z_zip }
 exact ⟨_, fun s v => .of_eq rfl, fun base _ _ => ok_Q51 T⟩
theorem walk {l : PySem.W.OpenLaw} {q : Program} {loose : List Str} {XP : (Str -> Option Value) -> Heap -> Prop} {YP : World -> Heap -> Prop} {d : DefRec} {K : Params -> PySem.W.Frag} (hn : l.most = some 63) (hdf : d.params.defaults = [])
  (hY : ∀ (w : World) (h : Heap), YP w h -> (K w.params).In h)
  (F : ∀ (w : World) (mg : Str -> Option Value) (fa : Addr) (h : Heap), (K w.params).In h -> h.Ns mainGlobals mg -> mg d.name = some (.ref fa) →
   ∃ fd : FuncData, (∀ (s : Shared) (u : Value), BindsTo s fd ⟨[u], []⟩ [("_law_script", u)]) /\ ∀ base : Heap, (K w.params).In base -> base.Ns mainGlobals mg -> FnOk l.prog w (K w.params) mg base CX0 12 fa fd ["_law_script"] (sp_law (K w.params))) :
  PySem.W.WalkO q loose XP YP l.row.toRowW d [] (fun f vs => PySem.call f vs) :=
 L2.walk_of (n := 63) (k := 12) (x := "_law_script") (CX := fun _ => CX0) (sp := fun w => sp_law (K w.params)) hn (by decide) hdf ⟨rfl, by decide, by decide, rfl⟩ hY F (fun _ _ a ns hl _ hS => ⟨a, ns, rfl, hS, hl, fun _ => rfl⟩) fun _ _ _ _ _ z => z
end My
open PySem PySem.W PyProof.Rows
set_option maxRecDepth 100000 in
set_option maxHeartbeats 0 in
theorem PySem.Challenge.cw_paceplan_k38_prices_asked_holds : PySem.Challenge.rw_paceplan_k38_prices_asked.Holds := by
 w_on; refine HWtop ?_
 k_fill
 refine My.walk (l := PySem.Challenge.rw_paceplan_k38_prices_asked) rfl rfl (fun w h Y => PySem.W.kIn_of Y) ?F
 case F =>
  intro w mg fa h KX G hmg
  refine' My.all_mk KX G hmg ?p_Q21 ?l_Q21 ?c_Q21 ?k_Q21 ?p_Q7 ?l_Q7 ?c_Q7 ?k_Q7 ?p_Q39 ?l_Q39 ?c_Q39 ?k_Q39 ?p_Q0 ?l_Q0 ?c_Q0 ?k_Q0 ?p_Q22 ?l_Q22 ?c_Q22 ?k_Q22 ?p_Q2 ?l_Q2 ?c_Q2 ?k_Q2 ?p_Q45 ?l_Q45 ?c_Q45 ?k_Q45 ?p_Q49 ?l_Q49 ?c_Q49 ?k_Q49 ?p_Q46 ?l_Q46 ?c_Q46 ?k_Q46 ?p_Q47 ?l_Q47 ?c_Q47 ?k_Q47 ?p_Q50 ?l_Q50 ?c_Q50 ?k_Q50 ?p_Q40 ?l_Q40 ?c_Q40 ?k_Q40 ?p_Q31 ?l_Q31 ?c_Q31 ?k_Q31 ?p_Q3 ?l_Q3 ?c_Q3 ?k_Q3 ?p_Q41 ?l_Q41 ?c_Q41 ?k_Q41 ?p_Q11 ?l_Q11 ?c_Q11 ?k_Q11 ?p_Q23 ?l_Q23 ?c_Q23 ?k_Q23 ?p_Q4 ?l_Q4 ?c_Q4 ?k_Q4 ?p_Q12 ?l_Q12 ?c_Q12 ?k_Q12 ?p_Q48 ?l_Q48 ?c_Q48 ?k_Q48 ?p_Q24 ?l_Q24 ?c_Q24 ?k_Q24 ?p_Q5 ?l_Q5 ?c_Q5 ?k_Q5 ?p_Q25 ?l_Q25 ?c_Q25 ?k_Q25 ?p_Q26 ?l_Q26 ?c_Q26 ?k_Q26 ?p_Q27 ?l_Q27 ?c_Q27 ?k_Q27 ?p_Q32 ?l_Q32 ?c_Q32 ?k_Q32 ?p_Q33 ?l_Q33 ?c_Q33 ?k_Q33 ?p_Q28 ?l_Q28 ?c_Q28 ?k_Q28 ?p_Q13 ?l_Q13 ?c_Q13 ?k_Q13 ?p_Q29 ?l_Q29 ?c_Q29 ?k_Q29 ?p_Q8 ?l_Q8 ?c_Q8 ?k_Q8 ?p_Q9 ?l_Q9 ?c_Q9 ?k_Q9 ?p_Q14 ?l_Q14 ?c_Q14 ?k_Q14 ?p_Q1 ?l_Q1 ?c_Q1 ?k_Q1 ?p_Q10 ?l_Q10 ?c_Q10 ?k_Q10 ?p_Q15 ?l_Q15 ?c_Q15 ?k_Q15 ?p_Q6 ?l_Q6 ?c_Q6 ?k_Q6 ?p_Q16 ?l_Q16 ?c_Q16 ?k_Q16 ?p_Q30 ?l_Q30 ?c_Q30 ?k_Q30 ?p_Q17 ?l_Q17 ?c_Q17 ?k_Q17 ?p_Q18 ?l_Q18 ?c_Q18 ?k_Q18 ?p_Q51 ?l_Q51 ?c_Q51 ?k_Q51 ?p_NOUGHT ?l_NOUGHT ?p_POWER ?p_TABLE ?pB ?lB ?lnB ?hsB ?hnB ?cgB ?ctB ?p_Q34 ?lc_Q34 ?fi_Q34 ?l_Q34 ?cd_Q34_ ?ki_Q34 ?ti_Q34 ?kc_Q34 ?hh_Q34 ?sa_Q34 ?na_Q34_work ?ga_Q34 ?gn_Q34 ?cl_Q34 ?p_Q19 ?p_Q35 ?p_Q42 ?p_Q43 ?p_Q44 ?p_Q36 ?p_Q37 ?p_Q20 ?p_Q38 ?w_x_catch ?w_y_self ?w_y_base ?w_y_val ?w_y_not ?z_ValueError ?z_abs ?z_all ?z_bool ?z_enumerate ?z_int ?z_isinstance ?z_len ?z_list ?z_range ?z_repr ?z_tuple ?z_zip
  (case p_Q21 => k_is)
  (case l_Q21 => k_is)
  (case c_Q21 => k_is)
  (case k_Q21 => k_is)
  (case p_Q7 => k_is)
  (case l_Q7 => k_is)
  (case c_Q7 => k_is)
  (case k_Q7 => k_is)
  (case p_Q39 => k_is)
  (case l_Q39 => k_is)
  (case c_Q39 => k_is)
  (case k_Q39 => k_is)
  (case p_Q0 => k_is)
  (case l_Q0 => k_is)
  (case c_Q0 => k_is)
  (case k_Q0 => k_is)
  (case p_Q22 => k_is)
  (case l_Q22 => k_is)
  (case c_Q22 => k_is)
  (case k_Q22 => k_is)
  (case p_Q2 => k_is)
  (case l_Q2 => k_is)
  (case c_Q2 => k_is)
  (case k_Q2 => k_is)
  (case p_Q45 => k_is)
  (case l_Q45 => k_is)
  (case c_Q45 => k_is)
  (case k_Q45 => k_is)
  (case p_Q49 => k_is)
  (case l_Q49 => k_is)
  (case c_Q49 => k_is)
  (case k_Q49 => k_is)
  (case p_Q46 => k_is)
  (case l_Q46 => k_is)
  (case c_Q46 => k_is)
  (case k_Q46 => k_is)
  (case p_Q47 => k_is)
  (case l_Q47 => k_is)
  (case c_Q47 => k_is)
  (case k_Q47 => k_is)
  (case p_Q50 => k_is)
  (case l_Q50 => k_is)
  (case c_Q50 => k_is)
  (case k_Q50 => k_is)
  (case p_Q40 => k_is)
  (case l_Q40 => k_is)
  (case c_Q40 => k_is)
  (case k_Q40 => k_is)
  (case p_Q31 => k_is)
  (case l_Q31 => k_is)
  (case c_Q31 => k_is)
  (case k_Q31 => k_is)
  (case p_Q3 => k_is)
  (case l_Q3 => k_is)
  (case c_Q3 => k_is)
  (case k_Q3 => k_is)
  (case p_Q41 => k_is)
  (case l_Q41 => k_is)
  (case c_Q41 => k_is)
  (case k_Q41 => k_is)
  (case p_Q11 => k_is)
  (case l_Q11 => k_is)
  (case c_Q11 => k_is)
  (case k_Q11 => k_is)
  (case p_Q23 => k_is)
  (case l_Q23 => k_is)
  (case c_Q23 => k_is)
  (case k_Q23 => k_is)
  (case p_Q4 => k_is)
  (case l_Q4 => k_is)
  (case c_Q4 => k_is)
  (case k_Q4 => k_is)
  (case p_Q12 => k_is)
  (case l_Q12 => k_is)
  (case c_Q12 => k_is)
  (case k_Q12 => k_is)
  (case p_Q48 => k_is)
  (case l_Q48 => k_is)
  (case c_Q48 => k_is)
  (case k_Q48 => k_is)
  (case p_Q24 => k_is)
  (case l_Q24 => k_is)
  (case c_Q24 => k_is)
  (case k_Q24 => k_is)
  (case p_Q5 => k_is)
  (case l_Q5 => k_is)
  (case c_Q5 => k_is)
  (case k_Q5 => k_is)
  (case p_Q25 => k_is)
  (case l_Q25 => k_is)
  (case c_Q25 => k_is)
  (case k_Q25 => k_is)
  (case p_Q26 => k_is)
  (case l_Q26 => k_is)
  (case c_Q26 => k_is)
  (case k_Q26 => k_is)
  (case p_Q27 => k_is)
  (case l_Q27 => k_is)
  (case c_Q27 => k_is)
  (case k_Q27 => k_is)
  (case p_Q32 => k_is)
  (case l_Q32 => k_is)
  (case c_Q32 => k_is)
  (case k_Q32 => k_is)
  (case p_Q33 => k_is)
  (case l_Q33 => k_is)
  (case c_Q33 => k_is)
  (case k_Q33 => k_is)
  (case p_Q28 => k_is)
  (case l_Q28 => k_is)
  (case c_Q28 => k_is)
  (case k_Q28 => k_is)
  (case p_Q13 => k_is)
  (case l_Q13 => k_is)
  (case c_Q13 => k_is)
  (case k_Q13 => k_is)
  (case p_Q29 => k_is)
  (case l_Q29 => k_is)
  (case c_Q29 => k_is)
  (case k_Q29 => k_is)
  (case p_Q8 => k_is)
  (case l_Q8 => k_is)
  (case c_Q8 => k_is)
  (case k_Q8 => k_is)
  (case p_Q9 => k_is)
  (case l_Q9 => k_is)
  (case c_Q9 => k_is)
  (case k_Q9 => k_is)
  (case p_Q14 => k_is)
  (case l_Q14 => k_is)
  (case c_Q14 => k_is)
  (case k_Q14 => k_is)
  (case p_Q1 => k_is)
  (case l_Q1 => k_is)
  (case c_Q1 => k_is)
  (case k_Q1 => k_is)
  (case p_Q10 => k_is)
  (case l_Q10 => k_is)
  (case c_Q10 => k_is)
  (case k_Q10 => k_is)
  (case p_Q15 => k_is)
  (case l_Q15 => k_is)
  (case c_Q15 => k_is)
  (case k_Q15 => k_is)
  (case p_Q6 => k_is)
  (case l_Q6 => k_is)
  (case c_Q6 => k_is)
  (case k_Q6 => k_is)
  (case p_Q16 => k_is)
  (case l_Q16 => k_is)
  (case c_Q16 => k_is)
  (case k_Q16 => k_is)
  (case p_Q30 => k_is)
  (case l_Q30 => k_is)
  (case c_Q30 => k_is)
  (case k_Q30 => k_is)
  (case p_Q17 => k_is)
  (case l_Q17 => k_is)
  (case c_Q17 => k_is)
  (case k_Q17 => k_is)
  (case p_Q18 => k_is)
  (case l_Q18 => k_is)
  (case c_Q18 => k_is)
  (case k_Q18 => k_is)
  (case p_Q51 => k_is)
  (case l_Q51 => k_is)
  (case c_Q51 => k_is)
  (case k_Q51 => k_is)
  (case p_NOUGHT => k_is)
  (case l_NOUGHT => k_is)
  (case p_POWER => k_is)
  (case p_TABLE => k_is)
  (case pB => k_is)
  (case lB => k_is)
  (case lnB => k_is)
  (case hsB => rfl)
  (case hnB => rfl)
  (case cgB => k_is)
  (case ctB => k_is)
  (case p_Q34 => k_is)
  (case lc_Q34 => k_is)
  (case fi_Q34 => k_is)
  (case l_Q34 => k_is)
  (case cd_Q34_ => k_is)
  (case ki_Q34 => k_is)
  (case ti_Q34 => k_is)
  (case kc_Q34 => k_is)
  (case hh_Q34 => k_is)
  (case sa_Q34 => k_is)
  (case na_Q34_work => k_is)
  (case ga_Q34 => k_is)
  (case gn_Q34 => k_is)
  (case cl_Q34 => k_is)
  (case p_Q19 => k_is)
  (case p_Q35 => k_is)
  (case p_Q42 => k_is)
  (case p_Q43 => k_is)
  (case p_Q44 => k_is)
  (case p_Q36 => k_is)
  (case p_Q37 => k_is)
  (case p_Q20 => k_is)
  (case p_Q38 => k_is)
  (case w_x_catch => kts_exm)
  (case w_y_self => kit_is)
  (case w_y_base => kit_is)
  (case w_y_val => kit_is)
  (case w_y_not => kit_is)
  (case z_ValueError => k_is)
  (case z_abs => k_is)
  (case z_all => k_is)
  (case z_bool => k_is)
  (case z_enumerate => k_is)
  (case z_int => k_is)
  (case z_isinstance => k_is)
  (case z_len => k_is)
  (case z_list => k_is)
  (case z_range => k_is)
  (case z_repr => k_is)
  (case z_tuple => k_is)
  (case z_zip => k_is)
