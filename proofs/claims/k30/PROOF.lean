import PyProof.Rows.All
import KE.RegKIsAll
import KE.RegKTryMore
import KE.KItem
import PySem.Challenge.RW_paceplan_k30_weights_and_densities
set_option Elab.async false
set_option linter.all false
set_option maxRecDepth 100000
theorem opt_two {α β γ : Type} {o : Option α} {f : α -> β} {g : α -> γ} {a : β} {b : γ} (h1 : o.map f = some a) (h2 : o.map g = some b) : o.map (fun s => (f s, g s)) = some (a, b) := by
 cases o with
 | none => cases h1
 | some x => cases h1; cases h2; rfl
namespace HW
open PySem
def keep : List Nat := [1, 2, 4, 5, 6, 7, 8, 9, 10, 12, 13, 14, 16, 17, 18, 19, 20, 21, 22, 23, 24]
def V : Program := PySem.W.view PySem.Challenge.pw_paceplan_k30_weights_and_densities keep
end HW
section HWs
open PySem PySem.W PyProof.Rows
set_option maxHeartbeats 0 in
theorem HWa : ∀ w : World, (openEnds treeTable PySem.Challenge.rw_paceplan_k30_weights_and_densities.row.prog w 2172).map (fun s => openSeen HW.V [] (importedModules PySem.Challenge.rw_paceplan_k30_weights_and_densities.row.prog.main.body) (fun s => xlAt HW.V [] s && recOk PySem.Challenge.rw_paceplan_k30_weights_and_densities.row.records s) true s) = some (openGood HW.V []) := by
 intro w
 delta openEnds fencedOpening topFrom
 rw [PySem.W.Fast.te14364793385576792824, PySem.W.Fast.te14082659384304107361, PySem.W.Fast.te10274390034422433532, PySem.W.Fast.te1435165496053646825, PySem.W.Fast.te14289696077712309145, PySem.W.Fast.te4187177175401517315]
 kernel_rfl
local macro_rules
 | `(tactic| o_head $H:term) => `(tactic| (
   refine holds_open (q := HW.V) (loose := []) (N := 2172)
    (Xt := fun s => xlAt HW.V [] s && recOk (RowW.records (OpenRow.toRowW (OpenLaw.row PySem.Challenge.rw_paceplan_k30_weights_and_densities))) s)
    (XP := XL HW.V []) (Yf := Hook.obs $H) (Ya := Hook.val $H) (YP := Hook.says $H)
    ?hl (Hook.of $H) (Hook.keeps $H)
    (fun s e => xl_of s (Bool.and_eq_true_iff.mp e).1) XL.keeps
    (by rfl) (by rfl) (by rfl)
    (fun s e => recFacts_of (Bool.and_eq_true_iff.mp e).2) (by rfl) (by assumption) (by decide +kernel)
    ⟨rfl, rfl, rfl, rfl, rfl, by decide +kernel⟩ ?hw ?hc
   (case hl =>
    intro w
    refine opt_two (HWa w) ?_
    delta openEnds fencedOpening topFrom
    rw [PySem.W.Fast.te14364793385576792824, PySem.W.Fast.te14082659384304107361, PySem.W.Fast.te10274390034422433532, PySem.W.Fast.te1435165496053646825, PySem.W.Fast.te14289696077712309145]
    kernel_rfl)))
set_option maxHeartbeats 0 in
open_top HWtop for PySem.Challenge.rw_paceplan_k30_weights_and_densities
end HWs
theorem zl2 : 2 ≤ PySem.sizeLine := by decide
theorem zl3 : 3 ≤ PySem.sizeLine := by decide
theorem zl4 : 4 ≤ PySem.sizeLine := by decide
theorem zl6 : 6 ≤ PySem.sizeLine := by decide
namespace L2
open PySem PySem.Spec PyProof.Rows
abbrev Key := Sum Int Str
def keyIs : Key -> Value -> Bool
 | .inl k, v => Value.isInt k v
 | .inr x, v => Value.isStrOf x v
def keyH (w : World) : Key -> Int
 | .inl k => hashInt k
 | .inr x => hashStr w x
theorem keyIs_shape : ∀ {k : Key} {v : Value}, keyIs k v = true -> (∃ i t, k = Sum.inl i /\ v = Value.int i t) ∨ (∃ x t, k = Sum.inr x /\ v = Value.str x t)
 | .inl i, v, h => by
  obtain ⟨t, e⟩ := Value.isInt_shape (k := i) (v := v) h
  exact .inl ⟨i, t, rfl, e⟩
 | .inr x, v, h => by
  obtain ⟨t, e⟩ := Value.isStrOf_shape (x := x) (v := v) h
  exact .inr ⟨x, t, rfl, e⟩
theorem keyIs_int (i : Int) (t : Tok) : keyIs (.inl i) (.int i t) = true := by simp [keyIs, Value.isInt]
theorem keyIs_str (x : Str) (t : Tok) : keyIs (.inr x) (.str x t) = true := by simp [keyIs, Value.isStrOf]
theorem key_ll (a b : Int) : decide ((Sum.inl a : Key) = Sum.inl b) = (a == b) := by
 by_cases e : a = b
 ·subst e; simp
 ·have h : ¬ (Sum.inl a : Key) = Sum.inl b := fun q => e (Sum.inl.inj q)
  rw [decide_eq_false h]
  exact (beq_eq_false_iff_ne.mpr e).symm
theorem key_rr (a b : Str) : decide ((Sum.inr a : Key) = Sum.inr b) = decide (a = b) := by
 by_cases e : a = b
 ·subst e; simp
 ·have h : ¬ (Sum.inr a : Key) = Sum.inr b := fun q => e (Sum.inr.inj q)
  rw [decide_eq_false h, decide_eq_false e]
theorem key_lr (a : Int) (b : Str) : decide ((Sum.inl a : Key) = Sum.inr b) = false := decide_eq_false (fun q => nomatch q)
theorem key_rl (a : Str) (b : Int) : decide ((Sum.inr a : Key) = Sum.inl b) = false := decide_eq_false (fun q => nomatch q)
def mixKind (prog : Program) (w : World) : PySem.KeyKind prog w Key where
 is := keyIs
 hash := keyH w
 inj := fun v a b ha hb => by
  rcases keyIs_shape ha with ⟨i, t, rfl, rfl⟩ | ⟨x, t, rfl, rfl⟩
  ·rcases keyIs_shape hb with ⟨j, u, rfl, e⟩ | ⟨y, u, rfl, e⟩
   ·injection e with e1 _; rw [e1]
   ·exact nomatch e
  ·rcases keyIs_shape hb with ⟨j, u, rfl, e⟩ | ⟨y, u, rfl, e⟩
   ·exact nomatch e
   ·injection e with e1 _; rw [e1]
 byValue := fun k v h => by
  rcases keyIs_shape h with ⟨i, t, rfl, rfl⟩ | ⟨x, t, rfl, rfl⟩ <;> rfl
 pyHash := fun hv h => by
  rcases keyIs_shape hv with ⟨i, t, rfl, rfl⟩ | ⟨x, t, rfl, rfl⟩
  ·exact wpAny_pyHash_int h
  ·exact wpAny_pyHash_str h
 eqBool := fun hu hv h => by
  rcases keyIs_shape hu with ⟨i, t, rfl, rfl⟩ | ⟨x, t, rfl, rfl⟩
  ·rcases keyIs_shape hv with ⟨j, u, rfl, rfl⟩ | ⟨y, u, rfl, rfl⟩
   ·rw [key_ll] at h; exact wpAny_eqBool_int h
   ·rw [key_lr] at h; exact SeqAt.EqAt.int_str i t y u _ _ _ _ h
  ·rcases keyIs_shape hv with ⟨j, u, rfl, rfl⟩ | ⟨y, u, rfl, rfl⟩
   ·rw [key_rl] at h; exact SeqAt.EqAt.str_int x t j u _ _ _ _ h
   ·rw [key_rr] at h; exact wpAny_eqBool_str h
 «strs» := fun k x t v h => by
  rcases keyIs_shape h with ⟨i, u, rfl, e⟩ | ⟨y, u, rfl, e⟩
  ·exact nomatch e
  ·injection e with e1 _
   subst e1
   cases v <;> rfl
theorem mixKind_int (prog : Program) (w : World) (i : Int) (t : Tok) : (mixKind prog w).is (.inl i) (.int i t) = true := keyIs_int i t
theorem mixKind_str (prog : Program) (w : World) (x : Str) (t : Tok) : (mixKind prog w).is (.inr x) (.str x t) = true := keyIs_str x t
end L2
namespace L2
open PySem PySem.Spec PyProof.Rows
inductive V where
 | non | bl (b : Bool) | int (i : Int) | str (x : Str) | byt (b : Array UInt8) | flt (b : UInt64) | ref (a : Addr) | ty (n : String)
 deriving DecidableEq
def RelV : V -> Value -> Prop
 | .non, u => u = Value.none
 | .bl b, u => u = Value.bool b
 | .int i, u => ∃ t, u = Value.int i t
 | .str x, u => ∃ t, u = Value.str x t
 | .byt b, u => ∃ t, u = Value.bytes b t
 | .flt b, u => ∃ t, u = Value.float b t
 | .ref a, u => u = Value.ref a
 | .ty n, u => u = Value.type n
abbrev Vals : List V -> List Value -> Prop := Paired RelV
theorem Vals.length {xs : List V} {us : List Value} (r : Vals xs us) : xs.length = us.length := Paired.length r
theorem Vals.get : ∀ {xs : List V} {us : List Value} {i : Nat} {x : V}, Vals xs us -> xs[i]? = some x -> ∃ u, us[i]? = some u /\ RelV x u
 | _, _, _, _, .nil, e => by simp at e
 | _, _, 0, _, .cons r _, e => by simp at e; subst e; exact ⟨_, rfl, r⟩
 | _, _, i + 1, x, .cons _ t, e => by
  obtain ⟨u, h1, h2⟩ := Vals.get (i := i) (x := x) t (by simpa using e)
  exact ⟨u, by simpa using h1, h2⟩
theorem Vals.set {x : V} {u : Value} (r : RelV x u) : ∀ {xs : List V} {us : List Value} (i : Nat), Vals xs us -> Vals (xs.set i x) (us.set i u)
 | _, _, _, .nil => .nil
 | _, _, 0, .cons _ t => .cons r t
 | _, _, i + 1, .cons q t => .cons q (Vals.set r i t)
theorem Vals.append : ∀ {xs ys : List V} {us ws : List Value}, Vals xs us -> Vals ys ws -> Vals (xs ++ ys) (us ++ ws)
 | _, _, _, _, .nil, s => s
 | _, _, _, _, .cons r t, s => .cons r (Vals.append t s)
theorem Vals.take : ∀ {xs : List V} {us : List Value} (n : Nat), Vals xs us -> Vals (xs.take n) (us.take n)
 | _, _, 0, _ => .nil
 | _, _, _ + 1, .nil => .nil
 | _, _, n + 1, .cons r t => .cons r (Vals.take n t)
theorem Vals.drop : ∀ {xs : List V} {us : List Value} (n : Nat), Vals xs us -> Vals (xs.drop n) (us.drop n)
 | _, _, 0, r => r
 | _, _, _ + 1, .nil => .nil
 | _, _, n + 1, .cons _ t => Vals.drop n t
def RelO : Option V -> Option Value -> Prop
 | some v, some u => RelV v u
 | none, none => True
 | _, _ => False
def KV {κ : Type} : List (κ × V) -> List (κ × Value) -> Prop := Paired fun (p : κ × V) (q : κ × Value) => p.1 = q.1 /\ RelV p.2 q.2
def kV : Key -> V
 | .inl i => .int i
 | .inr x => .str x
inductive HO where
 | lst (xs : List V)
 | tup (xs : List V)
 | dK (kvs : List (Key × V)) | dT (kvs : List (List Key × V))
 | set (S : Int -> Bool) (n : Nat)
 | ins (C dx : Addr) (fs : List (Str × V))
 | own (x : Addr)
 | xd (fs : List (Str × V))
 | met (f x : Addr)
 | rng (lo hi : Int)
 | frz (o : Obj) (u : HO)
 | tbl (ps : Array Value)
 | ext (φ : Heap -> Prop)
abbrev Hp := Addr -> Option HO
def upd (H : Hp) (a : Addr) (o : HO) : Hp := fun b => if b = a then some o else H b
theorem upd_same {H : Hp} {a : Addr} {o : HO} : upd H a o a = some o := by unfold upd; rw [if_pos rfl]
theorem upd_ne {H : Hp} {a b : Addr} {o : HO} (h : b ≠ a) : upd H a o b = H b := by unfold upd; rw [if_neg h]
theorem upd_upd {H : Hp} {a : Addr} {o u : HO} : upd (upd H a o) a u = upd H a u := by
 funext b; unfold upd; split <;> rfl
theorem ne_of {H : Hp} {a b : Addr} {o u : HO} (h : H a = some o) (h' : H b = some u) (d : o ≠ u) : a ≠ b := by
 intro e; subst e; rw [h] at h'; exact d (Option.some.inj h')
theorem ne_of_none {H : Hp} {a b : Addr} {o : HO} (h : H a = some o) (h' : H b = none) : a ≠ b := by
 intro e; subst e; rw [h] at h'; cases h'
section
variable (P : Program) (w : World)
def ObjOk (H : Hp) (h : Heap) (a : Addr) : HO -> Prop
 | .lst xs => xs.length ≤ sizeLine /\ ∃ (its : List Value) (n : Nat), Vals xs its /\ h.get? a = some { cls := .type "list", data := .seq its.toArray n }
 | .tup xs => xs.length ≤ sizeLine /\ ∃ its : List Value, Vals xs its /\ IsTup h a its.toArray
 | .dK kvs => kvs.length ≤ sizeLine /\ (a == sysModules) = false /\ ∃ vs, KV kvs vs /\ h.DictOf (mixKind P w) a vs
 | .dT kvs => kvs.length ≤ sizeLine /\ (a == sysModules) = false /\ ∃ xs : List (List Key × Addr × Value),
   Paired (fun (p : List Key × V) (q : List Key × Addr × Value) => p.1 = q.1 /\ H q.2.1 = some (.tup (p.1.map kV)) /\ RelV p.2 q.2.2) kvs xs ∧
   ∃ o es ep, h.get? a = some o /\ o.ExactDict /\ o.data = .dict es ep /\ es.toList = xs.map (entryOfKey (tupleKind (mixKind P w))) /\ (xs.map (·.1)).Nodup
 | .set S n => h.SetOf (intKind P w) a S n
 | .ins C dx fs => H dx = some (.own a) /\ fs.length ≤ 1000 /\ dx ≠ a /\ h.get? a = some (PySem.W.instObj C dx) ∧
   ∃ mA, h.Ns1 dx mA /\ (∀ f, RelO (fs.lookup f) (mA f)) /\ PySem.Within mA (fs.map (·.1))
 | .own _ => ∃ o, h.get? a = some o
 | .xd fs => ∃ mA, h.Ns1 a mA /\ ∀ f, RelO (fs.lookup f) (mA f)
 | .rng lo hi => ∃ t u v, h.get? a = some { cls := .type "range", data := .fields #[.int lo t, .int hi u, .int 1 v] }
 | .frz o u => h.get? a = some o /\ ObjOk H h a u
 | .tbl ps => h.get? a = some { cls := .none, data := .fields ps }
 | .met f x => h.get? a = some (PySem.W.methodObj (.ref f) (.ref x))
 | .ext φ => φ h /\ (∃ o, h.get? a = some o) /\ ∀ h1 h2 : Heap, φ h1 -> (∀ o, h1.get? a = some o -> h2.get? a = some o) -> φ h2
def HOk (H : Hp) (h : Heap) : Prop := ∀ a o, H a = some o -> ObjOk P w H h a o
end
section
variable {P : Program} {w : World} {H H' : Hp} {h h' : Heap} {a : Addr} {o : HO}
theorem ObjOk.lt (x : ObjOk P w H h a o) : a < h.objs.size := by
 cases o with
 | lst xs => obtain ⟨_, _, _, _, e⟩ := x; exact Heap.lt_size e
 | tup xs => obtain ⟨_, _, _, p⟩ := x; exact p.lt
 | dK kvs => obtain ⟨_, _, _, _, o, _, _, e, _⟩ := x; exact Heap.lt_size e
 | dT kvs => obtain ⟨_, _, _, _, o, _, _, e, _⟩ := x; exact Heap.lt_size e
 | set S n => obtain ⟨o, _, _, _, e, _⟩ := x; exact Heap.lt_size e
 | ins C dx fs => obtain ⟨_, _, _, e, _⟩ := x; exact Heap.lt_size e
 | own y => obtain ⟨_, e⟩ := x; exact Heap.lt_size e
 | xd fs => obtain ⟨_, ⟨_, _, _, e, _⟩, _⟩ := x; exact Heap.lt_size e
 | rng lo hi => obtain ⟨_, _, _, e⟩ := x; exact Heap.lt_size e
 | frz ob u => obtain ⟨e, _⟩ := x; exact Heap.lt_size e
 | tbl ps => exact Heap.lt_size (show h.get? a = some _ from x)
 | met f y => exact Heap.lt_size (show h.get? a = some _ from x)
 | ext φ => obtain ⟨_, ⟨_, e⟩, _⟩ := x; exact Heap.lt_size e
theorem Paired.mapP {α β : Type} {F G : α -> β -> Prop} : ∀ {l₁ : List α} {l₂ : List β}, Paired F l₁ l₂ -> (∀ a b, F a b -> G a b) -> Paired G l₁ l₂
 | _, _, .nil, _ => .nil
 | _, _, .cons r t, f => .cons (f _ _ r) (Paired.mapP t f)
theorem ObjOk.stay (x : ObjOk P w H h a o) (k : ∀ b u, (b = a ∨ H b = some (.own a)) -> h.get? b = some u -> h'.get? b = some u)
  (ho : ∀ b, H b = some (.own a) -> H' b = some (.own a)) (ht : ∀ b xs, H b = some (.tup xs) -> H' b = some (.tup xs)) : ObjOk P w H' h' a o := by
 induction o with
 | lst xs => obtain ⟨z, its, n, r, e⟩ := x; exact ⟨z, its, n, r, k _ _ (.inl rfl) e⟩
 | tup xs => obtain ⟨z, its, r, ob, e, c⟩ := x; exact ⟨z, its, r, ob, k _ _ (.inl rfl) e, c⟩
 | dK kvs => obtain ⟨z, y, vs, r, ob, es, ep, e, c⟩ := x; exact ⟨z, y, vs, r, ob, es, ep, k _ _ (.inl rfl) e, c⟩
 | dT kvs =>
  obtain ⟨z, y, xs, r, ob, es, ep, e, c⟩ := x
  exact ⟨z, y, xs, Paired.mapP r fun p q z => ⟨z.1, ht _ _ z.2.1, z.2.2⟩, ob, es, ep, k _ _ (.inl rfl) e, c⟩
 | set S n => obtain ⟨ob, es, ep, t, e, c⟩ := x; exact ⟨ob, es, ep, t, k _ _ (.inl rfl) e, c⟩
 | ins C dx fs =>
  obtain ⟨d, z, ne, e, mA, ⟨od, es, ep, e2, c⟩, r⟩ := x
  exact ⟨ho _ d, z, ne, k _ _ (.inl rfl) e, mA, ⟨od, es, ep, k _ _ (.inr d) e2, c⟩, r⟩
 | own y => obtain ⟨ob, e⟩ := x; exact ⟨ob, k _ _ (.inl rfl) e⟩
 | xd fs => obtain ⟨mA, ⟨od, es, ep, e, c⟩, r⟩ := x; exact ⟨mA, ⟨od, es, ep, k _ _ (.inl rfl) e, c⟩, r⟩
 | rng lo hi => obtain ⟨t, u, v, e⟩ := x; exact ⟨t, u, v, k _ _ (.inl rfl) e⟩
 | frz ob u ih => obtain ⟨e, q⟩ := x; exact ⟨k _ _ (.inl rfl) e, ih q⟩
 | tbl ps =>
  have e : h.get? a = some { cls := .none, data := .fields ps } := x
  show h'.get? a = some { cls := .none, data := .fields ps }
  exact k a _ (.inl rfl) e
 | met f y =>
  have e : h.get? a = some (PySem.W.methodObj (.ref f) (.ref y)) := x
  show h'.get? a = some (PySem.W.methodObj (.ref f) (.ref y))
  exact k a _ (.inl rfl) e
 | ext φ => obtain ⟨p, ⟨o, e⟩, st⟩ := x; exact ⟨st _ _ p fun o q => k _ _ (.inl rfl) q, ⟨o, k _ _ (.inl rfl) e⟩, st⟩
theorem HOk.lt (x : HOk P w H h) (e : H a = some o) : a < h.objs.size := (x a o e).lt
theorem HOk.fresh (x : HOk P w H h) (e : h.objs.size ≤ a) : H a = none := by
 cases q : H a with
 | none => rfl
 | some u => exact absurd (Nat.lt_of_lt_of_le (x.lt q) e) (Nat.lt_irrefl _)
theorem HOk.kept (x : HOk P w H h) (k : ∀ b u, h.get? b = some u -> h'.get? b = some u) : HOk P w H h' := fun a o e =>
 (x a o e).stay (fun b u _ q => k b u q) (fun _ q => q) fun _ _ q => q
theorem HOk.laid (x : HOk P w H h) (k : ∀ b u, h.get? b = some u -> h'.get? b = some u) (hp : h.objs.size ≤ a) (new : ObjOk P w (upd H a o) h' a o) : HOk P w (upd H a o) h' := fun b u e => by
 have hn := x.fresh hp
 by_cases hb : b = a
 ·subst hb; rw [upd_same] at e; cases e; exact new
 ·rw [upd_ne hb] at e
  exact (x b u e).stay (fun c v _ q => k c v q) (fun c q => by rw [upd_ne (ne_of_none q hn)]; exact q) fun c xs q => by rw [upd_ne (ne_of_none q hn)]; exact q
end
def Rd (H : Hp) (a : Addr) (u : HO) : Prop := H a = some u ∨ ∃ o, H a = some (.frz o u)
theorem Rd.ok {P : Program} {w : World} {H : Hp} {h : Heap} {a : Addr} {u : HO} (r : Rd H a u) (x : HOk P w H h) : ObjOk P w H h a u := by
 rcases r with r | ⟨o, r⟩
 ·exact x a u r
 ·obtain ⟨_, q⟩ := x a _ r
  exact q
def Mut : Option HO -> Prop
 | some (.lst _) => True
 | some (.dK _) => True
 | some (.dT _) => True
 | some (.set _ _) => True
 | some (.ins _ _ _) => True
 | some (.ext _) => True
 | _ => False
section
variable {P : Program} {w : World} {H : Hp} {h h' : Heap} {x e : Addr} {o' : HO}
theorem HOk.write (ok : HOk P w H h) (mu : Mut (H x)) (he : e = x ∨ H e = some (.own x)) (k : ∀ b u, b ≠ e -> h.get? b = some u -> h'.get? b = some u) (heo : ∃ u, h'.get? e = some u)
  (new : ObjOk P w (upd H x o') h' x o') : HOk P w (upd H x o') h' := fun b u q => by
 have nown : ∀ c y, H c = some (.own y) -> c ≠ x := fun c y r z => by subst z; rw [r] at mu; exact mu
 have ntup : ∀ c xs, H c = some (.tup xs) -> c ≠ x := fun c xs r z => by subst z; rw [r] at mu; exact mu
 by_cases hb : b = x
 ·subst hb; rw [upd_same] at q; cases q; exact new
 ·rw [upd_ne hb] at q
  by_cases hbe : b = e
  ·have q' : H b = some (.own x) := by
    rcases he with z | z
    ·exact absurd (hbe.trans z) hb
    ·rw [hbe]; exact z
   rw [q] at q'; cases q'
   obtain ⟨v, hv⟩ := heo
   exact ⟨v, by rw [hbe]; exact hv⟩
  ·refine (ok b u q).stay (fun c v hc r => k c v ?_ r) (fun c r => by rw [upd_ne (nown c b r)]; exact r) fun c xs r => by rw [upd_ne (ntup c xs r)]; exact r
   rcases hc with rfl | hc
   ·exact hbe
   ·rintro rfl
    rcases he with z | z
    ·exact nown c b hc z
    ·rw [hc] at z; cases z; exact hb rfl
end
structure Un (fs ex : List Addr) (H H' : Hp) (h h' : Heap) : Prop where
 keep : ∀ b o, h.get? b = some o -> H b = none -> b ∉ fs -> b ∉ ex -> h'.get? b = some o
 slot : ∀ b o, h.get? b = some o -> H b = none -> b ∈ fs -> b ∉ ex -> ∃ sl, h'.get? b = some { o with slots := sl }
 free : ∀ b o, h.get? b = some o -> H b = none -> b ∉ ex -> H' b = none
 there : ∀ b o, h.get? b = some o -> b ∉ ex -> ∃ o', h'.get? b = some o'
 tups : ∀ b xs, H b = some (.tup xs) -> H' b = some (.tup xs)
 frzs : ∀ b o u, H b = some (.frz o u) -> H' b = some (.frz o u)
 tbls : ∀ b ps, H b = some (.tbl ps) -> ∃ more, H' b = some (.tbl (ps ++ more))
section
variable {fs fs' ex ex' : List Addr} {H H1 H2 : Hp} {h h1 h2 h' : Heap} {a x e : Addr} {o : HO}
theorem Un.any (u : Un fs ex H H1 h h1) {b : Addr} {ob : Obj} (q : h.get? b = some ob) (n : H b = none) (hx : b ∉ ex) : ∃ sl, h1.get? b = some { ob with slots := sl } := by
 by_cases hb : b ∈ fs
 ·exact u.slot b ob q n hb hx
 ·exact ⟨ob.slots, u.keep b ob q n hb hx⟩
theorem Un.kept (k : ∀ b u, h.get? b = some u -> h'.get? b = some u) : Un fs ex H H h h' :=
 ⟨fun b ob q _ _ _ => k b ob q, fun b ob q _ _ _ => ⟨ob.slots, k b ob q⟩, fun _ _ _ n _ => n, fun b ob q _ => ⟨ob, k b ob q⟩, fun _ _ q => q, fun _ _ _ q => q, fun _ ps q => ⟨#[], by rw [q]; simp⟩⟩
theorem Un.refl : Un fs ex H H h h := Un.kept fun _ _ q => q
theorem Un.laid (k : ∀ b u, h.get? b = some u -> h'.get? b = some u) (hp : h.objs.size ≤ a) (hn : H a = none) : Un fs ex H (upd H a o) h h' where
 keep := fun b u q _ _ _ => k b u q
 slot := fun b u q _ _ _ => ⟨u.slots, k b u q⟩
 free := fun b u q n _ => by rw [upd_ne (Nat.ne_of_lt (Nat.lt_of_lt_of_le (Heap.lt_size q) hp))]; exact n
 there := fun b u q _ => ⟨u, k b u q⟩
 tups := fun b xs q => by rw [upd_ne (ne_of_none q hn)]; exact q
 frzs := fun b u xs q => by rw [upd_ne (ne_of_none q hn)]; exact q
 tbls := fun b ps q => ⟨#[], by rw [upd_ne (ne_of_none q hn), q]; simp⟩
theorem Un.write (mu : Mut (H x)) (he : e = x ∨ H e = some (.own x)) (k : ∀ b u, b ≠ e -> h.get? b = some u -> h'.get? b = some u) (heo : ∃ u, h'.get? e = some u) : Un fs ex H (upd H x o) h h' := by
 have hx : ∀ b, H b = none -> b ≠ x := fun b n z => by subst z; rw [n] at mu; exact mu
 have hb : ∀ b, H b = none -> b ≠ e := fun b n z => by
  subst z
  rcases he with r | r
  ·exact hx b n r
  ·rw [n] at r; cases r
 have hm : ∀ b u, H b = some u -> ¬ Mut (some u) -> b ≠ x := fun b u q nm z => by subst z; rw [q] at mu; exact nm mu
 refine ⟨fun b u q n _ _ => k b u (hb b n) q, fun b u q n _ _ => ⟨u.slots, k b u (hb b n) q⟩, fun b u q n _ => by rw [upd_ne (hx b n)]; exact n, fun b u q _ => ?_,
  fun b xs q => by rw [upd_ne (hm b _ q fun z => z)]; exact q, fun b u xs q => by rw [upd_ne (hm b _ q fun z => z)]; exact q, fun b ps q => ⟨#[], by rw [upd_ne (hm b _ q fun z => z), q]; simp⟩⟩
 by_cases hbe : b = e
 ·subst hbe; exact heo
 ·exact ⟨u, k b u hbe q⟩
end
def trk (h : Heap) (H : Hp) : List Addr := (List.range h.objs.size).filter fun a => (H a).isSome
def hidT (h : Heap) (H : Hp) : Heap := PySem.W.hideAll h (trk h H)
theorem hidT_size (h : Heap) (H : Hp) : (hidT h H).objs.size = h.objs.size := PySem.W.hideAll_size _ _
theorem hidT_get {h : Heap} {H : Hp} {b : Addr} {o : Obj} (e : h.get? b = some o) (n : H b = none) : (hidT h H).get? b = some o :=
 PySem.W.hideAll_get _ e fun hm => by
  have q : (H b).isSome = true := (List.mem_filter.mp hm).2
  rw [n] at q; simp at q
theorem of_hidT {h : Heap} {H : Hp} {b : Addr} {o : Obj} (e : (hidT h H).get? b = some o) : h.get? b = some o /\ H b = none := by
 have e' : h.get? b = some o := PySem.W.of_hideAll (trk h H) e
 refine ⟨e', ?_⟩
 cases q : H b with
 | none => rfl
 | some x =>
  have hm : b ∈ trk h H := List.mem_filter.mpr ⟨List.mem_range.mpr (Heap.lt_size e'), by simp [q]⟩
  have z : (hidT h H).get? b = none := PySem.W.hideAll_none (trk h H) hm
  rw [z] at e; cases e
def allNews (g h : Heap) (L : Addr) : List (Addr × Obj) := (List.range h.objs.size).filterMap fun a => if a = L ∨ (g.get? a).isSome = true then none else (h.get? a).map fun o => (a, o)
def rest (g h : Heap) (L d : Addr) : List (Addr × Obj) := (allNews g h L).filter fun p => decide (p.1 ≠ d)
end L2
namespace L2
open PySem PySem.Spec PyProof.Rows
structure Mod (K : PySem.W.Frag) (mg : Str -> Option Value) (base : Heap) : Prop where
 kin : K.In base
 glob : base.Ns mainGlobals mg
 blt : ∃ mb, base.Ns builtinsNs mb /\ ∀ x : Str, x ≠ "__name__" -> mb x = bootBuiltins x
 nolimit : base.NoLimit
structure Cx where
 prog : Program
 w : World
 K : PySem.W.Frag
 mg : Str -> Option Value
 base : Heap
 A : Around
 N : List Str
 s₀ : Shared
 H₀ : Hp
 env : Env
 outer : List Env
 stack : List Env
 ex : List Addr
 fn : Str -> Bool
 calm : Bool
 pn : List (Addr × Obj)
 xe : Value -> Shared -> Prop
def frs (l : List Env) : List Addr := l.filterMap (·.frame)
abbrev Cx.fs (X : Cx) : List Addr := frs X.outer
def Vis (sc : Scope) (x : Str) : Prop := sc.names.lookup x = some .local ∨ sc.names.lookup x = some .cell ∨ sc.names.lookup x = some .free
def Loc (sc : Scope) (x : Str) : Prop := sc.names.lookup x = some .local ∨ sc.names.lookup x = some .cell
def Look (env : Env) (h : Heap) (m : Str -> Option Value) (x : Str) (u : Value) : Prop :=
 (env.kindOf x = some .local /\ m x = some u) ∨ ((env.kindOf x = some .cell ∨ env.kindOf x = some .free) /\ ∃ c, env.cells.lookup x = some c /\ h.IsCell c (some u))
structure Cx.Ok (X : Cx) : Prop where
 mod : Mod X.K X.mg X.base
 kind : X.env.scope.kind = .function
 glob : X.env.globals = mainGlobals
 blt : X.env.builtins = builtinsNs
 above : X.s₀.heap.objs.size ≤ X.env.locals
 inj : ∀ x y c, X.env.cells.lookup x = some c -> X.env.cells.lookup y = some c -> x = y
 has : ∀ x, (X.env.kindOf x = some .cell ∨ X.env.kindOf x = some .free) -> ∃ c, X.env.cells.lookup x = some c
 cab : ∀ x c, X.fn x = true -> X.env.cells.lookup x = some c -> X.s₀.heap.objs.size ≤ c
 hd : X.calm = true -> X.A.handled = none
 frames : X.A.frames = some X.stack
 stk : X.stack = X.outer ∨ (X.stack = X.env :: X.outer /\ X.env.frame = some X.env.locals)
 exf : ∀ b ∈ X.ex, b ≠ X.env.locals /\ ∀ x c, X.env.cells.lookup x = some c -> c ≠ b
 bs : ∀ b o, X.base.get? b = some o -> X.s₀.heap.get? b = some o /\ X.H₀ b = none
 bsz : X.base.objs.size ≤ X.s₀.heap.objs.size
 noex : ∀ b o, X.base.get? b = some o -> b ∉ X.ex
 exfs : ∀ b ∈ X.ex, b ∉ X.fs
 funs : X.s₀.heap.FunFrames X.base X.outer
 frf : ∀ b ∈ X.fs, X.H₀ b = none
structure Inv (X : Cx) (pins : List (Addr × Obj)) (σ : List (Option V)) (H : Hp) (s : Shared) : Prop where
 ok : X.Ok
 os : s.os = X.s₀.os
 bare : AllBare s.gens
 base : Un X.fs X.ex X.H₀ H X.s₀.heap s.heap
 loc : ∃ m, s.heap.Ns X.env.locals m /\ ∀ (i : Nat) (x : Str) (v : V), X.N[i]? = some x -> σ[i]? = some (some v) -> Vis X.env.scope x -> ∃ u, RelV v u /\ Look X.env s.heap m x u
 cell : ∀ x c, X.env.cells.lookup x = some c -> ∃ v, s.heap.IsCell c v
 free : H X.env.locals = none
 freeC : ∀ x c, X.env.cells.lookup x = some c -> H c = none
 pin : ∀ p ∈ X.pn ++ pins, s.heap.get? p.1 = some p.2 /\ H p.1 = none /\ p.1 ≠ X.env.locals /\ p.1 ∉ X.fs /\ ∀ v, p.2.data ≠ .cell v
 hok : HOk X.prog X.w H s.heap
 len : σ.length = X.N.length
section
variable {X : Cx} {pins : List (Addr × Obj)} {σ : List (Option V)} {H H' : Hp} {s : Shared} {h' : Heap}
theorem Cx.Ok.nofr (ok : X.Ok) {b : Addr} {o : Obj} (e : X.base.get? b = some o) : b ∉ X.fs := fun hb => by
 have := (ok.funs.mem hb).1
 rw [e] at this; cases this
theorem Inv.bs (I : Inv X pins σ H s) : ∀ b o, X.base.get? b = some o -> s.heap.get? b = some o /\ H b = none := fun b o e =>
 ⟨I.base.keep b o (I.ok.bs b o e).1 (I.ok.bs b o e).2 (I.ok.nofr e) (I.ok.noex b o e), I.base.free b o (I.ok.bs b o e).1 (I.ok.bs b o e).2 (I.ok.noex b o e)⟩
theorem Inv.bk (I : Inv X pins σ H s) : ∀ b o, X.base.get? b = some o -> s.heap.get? b = some o := fun b o e => (I.bs b o e).1
theorem Inv.mod (I : Inv X pins σ H s) : Mod X.K X.mg X.base := I.ok.mod
theorem Inv.kIn (I : Inv X pins σ H s) : X.K.In s.heap := I.ok.mod.kin.keeps I.bk
theorem Inv.lt (I : Inv X pins σ H s) : X.env.locals < s.heap.objs.size := let ⟨_, hn, _⟩ := I.loc; hn.lt
theorem Inv.sz (I : Inv X pins σ H s) : X.s₀.heap.objs.size ≤ s.heap.objs.size := Nat.le_trans I.ok.above (Nat.le_of_lt I.lt)
theorem Inv.nofs (I : Inv X pins σ H s) {a : Addr} (h : s.heap.objs.size ≤ a) : a ∉ X.fs := fun hb => by
 obtain ⟨_, o, ho, _⟩ := I.ok.funs.mem hb
 exact absurd (Nat.lt_of_lt_of_le (Heap.lt_size ho) (Nat.le_trans I.sz h)) (Nat.lt_irrefl _)
theorem Inv.cne (I : Inv X pins σ H s) : ∀ x c, X.env.cells.lookup x = some c -> c ≠ X.env.locals := fun x c e z => by
 obtain ⟨v, o, ho, hd⟩ := I.cell x c e
 obtain ⟨m, ⟨o', es, ep, ho', hd', _⟩, _⟩ := I.loc
 rw [z, ho'] at ho; cases ho; rw [hd'] at hd; cases hd
theorem Inv.funs (I : Inv X pins σ H s) : s.heap.FunFrames X.base X.outer := by
 have all : ∀ (l : List Env), (∀ b ∈ frs l, b ∈ X.fs) -> X.s₀.heap.FunFrames X.base l -> s.heap.FunFrames X.base l := by
  intro l
  induction l with
  | nil => intro _ _; trivial
  | cons env r ih =>
   intro hs hl
   obtain ⟨hk, ⟨L, o, hf, hn, ho, hd⟩, hr⟩ := hl
   have hL : L ∈ X.fs := hs L (by unfold frs; rw [List.filterMap_cons, hf]; exact List.mem_cons_self)
   obtain ⟨sl, e⟩ := I.base.slot L o ho (I.ok.frf L hL) hL fun z => I.ok.exfs L z hL
   exact ⟨hk, ⟨L, _, hf, hn, e, hd⟩, ih (fun b hb => hs b (by unfold frs; rw [List.filterMap_cons, hf]; exact List.mem_cons_of_mem _ hb)) hr⟩
 exact all X.outer (fun _ hb => hb) I.ok.funs
theorem Inv.stack (I : Inv X pins σ H s) : s.heap.FunFrames X.base X.stack := by
 rcases I.ok.stk with e | ⟨e, hf⟩
 ·rw [e]; exact I.funs
 ·rw [e]
  obtain ⟨m, hn, _⟩ := I.loc
  refine .cons (by rw [I.ok.kind]; decide) hf hn ?_ I.funs
  exact Heap.get?_none_of_le (Nat.le_trans I.ok.bsz I.ok.above)
theorem Inv.stkSub (I : Inv X pins σ H s) : ∀ b ∈ frs X.stack, b ∈ X.env.locals :: X.fs := fun b hb => by
 rcases I.ok.stk with e | ⟨e, hf⟩
 ·rw [e] at hb; exact List.mem_cons_of_mem _ hb
 ·rw [e] at hb
  unfold frs at hb
  rw [List.filterMap_cons, hf] at hb
  exact hb
theorem Inv.stkFree (I : Inv X pins σ H s) : ∀ b ∈ frs X.stack, H b = none := fun b hb => by
 rcases List.mem_cons.mp (I.stkSub b hb) with e | hb
 ·rw [e]; exact I.free
 ·obtain ⟨_, o, ho, _⟩ := I.ok.funs.mem hb
  exact I.base.free b o ho (I.ok.frf b hb) fun z => I.ok.exfs b z hb
theorem Inv.step {g' : Array GenState} {t' : Nat} {d' : Drawn} {ch : List Addr} (I : Inv X pins σ H s)
  (hch : ∀ b ∈ ch, (b ∈ X.ex ∨ X.s₀.heap.get? b = none) /\ b ≠ X.env.locals /\ (∀ x c, X.env.cells.lookup x = some c -> c ≠ b) /\ ∀ p ∈ X.pn ++ pins, p.1 ≠ b)
  (keep : ∀ b o, b ≠ X.env.locals -> b ∉ X.fs -> b ∉ ch -> s.heap.get? b = some o -> H b = none -> h'.get? b = some o)
  (slot : ∀ b o, b ≠ X.env.locals -> b ∈ X.fs -> b ∉ ch -> s.heap.get? b = some o -> H b = none -> ∃ sl, h'.get? b = some { o with slots := sl }) (free : ∀ b o, b ∉ ch -> s.heap.get? b = some o -> H b = none -> H' b = none)
  (there : ∀ b o, b ∉ ch -> s.heap.get? b = some o -> ∃ o', h'.get? b = some o')
  (tups : ∀ b xs, H b = some (.tup xs) -> H' b = some (.tup xs)) (frzs : ∀ b o u, H b = some (.frz o u) -> H' b = some (.frz o u)) (tbls : ∀ b ps, H b = some (.tbl ps) -> ∃ more, H' b = some (.tbl (ps ++ more)))
  (ns : ∀ m, s.heap.Ns X.env.locals m -> h'.Ns X.env.locals m) (hok : HOk X.prog X.w H' h') (hg : AllBare g') :
  Inv X pins σ H' { s with heap := h', gens := g', drawn := d', toks := t' } := by
 have neL : ∀ b o, X.s₀.heap.get? b = some o -> b ≠ X.env.locals := fun b o e => Nat.ne_of_lt (Nat.lt_of_lt_of_le (Heap.lt_size e) I.ok.above)
 have neC : ∀ b o, X.s₀.heap.get? b = some o -> b ∉ X.ex -> b ∉ ch := fun b o e hx hb => by
  rcases (hch b hb).1 with z | z
  ·exact hx z
  ·rw [e] at z; cases z
 have cellK : ∀ x c, X.env.cells.lookup x = some c -> ∀ v, s.heap.IsCell c v -> h'.IsCell c v := fun x c e v ⟨o, ho, hd⟩ => by
  have nch : c ∉ ch := fun z => (hch c z).2.2.1 x c e rfl
  by_cases hc : c ∈ X.fs
  ·obtain ⟨sl, q⟩ := slot c o (I.cne x c e) hc nch ho (I.freeC x c e)
   exact ⟨_, q, hd⟩
  ·exact ⟨o, keep c o (I.cne x c e) hc nch ho (I.freeC x c e), hd⟩
 refine ⟨I.ok, I.os, hg, ⟨fun b o e n hb hx => ?_, fun b o e n hb hx => ?_, fun b o e n hx => ?_, fun b o e hx => ?_, fun b xs e => tups b xs (I.base.tups b xs e), fun b o xs e => frzs b o xs (I.base.frzs b o xs e), fun b ps e => ?_⟩, ?_, fun x c e => ?_, ?_, fun x c e => ?_, fun p hp => ?_, hok, I.len⟩
 ·exact keep b o (neL b o e) hb (neC b o e hx) (I.base.keep b o e n hb hx) (I.base.free b o e n hx)
 ·obtain ⟨sl, e1⟩ := I.base.slot b o e n hb hx
  obtain ⟨sl', e2⟩ := slot b _ (neL b o e) hb (neC b o e hx) e1 (I.base.free b o e n hx)
  exact ⟨sl', e2⟩
 ·obtain ⟨o', e1⟩ := I.base.there b o e hx
  exact free b o' (neC b o e hx) e1 (I.base.free b o e n hx)
 ·obtain ⟨o', e1⟩ := I.base.there b o e hx
  exact there b o' (neC b o e hx) e1
 ·obtain ⟨m1, e1⟩ := I.base.tbls b ps e
  obtain ⟨m2, e2⟩ := tbls b _ e1
  exact ⟨m1 ++ m2, by rw [e2, Array.append_assoc]⟩
 ·obtain ⟨m, hn, hl⟩ := I.loc
  refine ⟨m, ns m hn, fun i x v e1 e2 e3 => ?_⟩
  obtain ⟨u, r, l⟩ := hl i x v e1 e2 e3
  refine ⟨u, r, ?_⟩
  rcases l with l | ⟨k, c, e, z⟩
  ·exact .inl l
  ·exact .inr ⟨k, c, e, cellK x c e _ z⟩
 ·obtain ⟨v, z⟩ := I.cell x c e
  exact ⟨v, cellK x c e v z⟩
 ·obtain ⟨m, ⟨o, _, _, ho, _⟩, _⟩ := I.loc
  exact free _ o (fun z => (hch _ z).2.1 rfl) ho I.free
 ·obtain ⟨v, o, ho, hd⟩ := I.cell x c e
  exact free c o (fun z => (hch c z).2.2.1 x c e rfl) ho (I.freeC x c e)
 ·obtain ⟨e, n, ne, nf, d⟩ := I.pin p hp
  have nch : p.1 ∉ ch := fun z => (hch p.1 z).2.2.2 p hp rfl
  exact ⟨keep p.1 p.2 ne nf nch e n, free p.1 p.2 nch e n, ne, nf, d⟩
theorem Inv.un {t' : Nat} (I : Inv X pins σ H s) (u : Un X.fs [] H H' s.heap h') (hok : HOk X.prog X.w H' h') : Inv X pins σ H' { s with heap := h', toks := t' } := by
 obtain ⟨m, ⟨o, es, ep, ho, r⟩, _⟩ := id I.loc
 obtain ⟨sl, hL⟩ := u.any ho I.free (by simp)
 exact I.step (g' := s.gens) (d' := s.drawn) (ch := []) (fun _ z => nomatch z) (fun b o _ hb _ e n => u.keep b o e n hb (by simp)) (fun b o _ hb _ e n => u.slot b o e n hb (by simp)) (fun b o _ e n => u.free b o e n (by simp)) (fun b o _ e => u.there b o e (by simp)) u.tups u.frzs u.tbls (fun m' hm => by
  obtain ⟨o', es', ep', ho', r'⟩ := hm
  rw [ho] at ho'; cases ho'
  exact ⟨_, es', ep', hL, r'⟩) hok I.bare
theorem Inv.call {g' : Array GenState} {t' : Nat} {d' : Drawn} {ch : List Addr} (I : Inv X pins σ H s) (u : Un (frs X.stack) ch H H' s.heap h') (hok : HOk X.prog X.w H' h') (hg : AllBare g')
  (hch : ∀ b ∈ ch, (b ∈ X.ex ∨ X.s₀.heap.get? b = none) /\ b ≠ X.env.locals /\ (∀ x c, X.env.cells.lookup x = some c -> c ≠ b) /\ ∀ p ∈ X.pn ++ pins, p.1 ≠ b) :
  Inv X pins σ H' { s with heap := h', gens := g', drawn := d', toks := t' } := by
 obtain ⟨m, ⟨o, es, ep, ho, r⟩, _⟩ := id I.loc
 obtain ⟨sl, hL⟩ := u.any ho I.free fun z => (hch _ z).2.1 rfl
 exact I.step (ch := ch) hch (fun b o hL hb hc e n => u.keep b o e n (fun z => (List.mem_cons.mp (I.stkSub b z)).elim hL hb) hc) (fun b o _ _ hc e n => u.any e n hc) (fun b o hc e n => u.free b o e n hc) (fun b o hc e => u.there b o e hc) u.tups u.frzs u.tbls (fun m' hm => by
  obtain ⟨o', es', ep', ho', r'⟩ := hm
  rw [ho] at ho'; cases ho'
  exact ⟨_, es', ep', hL, r'⟩) hok hg
theorem Inv.turned {t' : Nat} {it : Addr} (I : Inv X pins σ H s) (k : ∀ b o, b ≠ it -> s.heap.get? b = some o -> h'.get? b = some o) (hn : H it = none) (hL : it ≠ X.env.locals)
  (h1 : it ∈ X.ex ∨ X.s₀.heap.get? it = none) (h2 : ∀ x c, X.env.cells.lookup x = some c -> c ≠ it) (h3 : ∀ p ∈ X.pn ++ pins, p.1 ≠ it) : Inv X pins σ H { s with heap := h', toks := t' } := by
 have nit : ∀ b u, H b = some u -> b ≠ it := fun b u e z => by rw [z, hn] at e; cases e
 refine I.step (g' := s.gens) (d' := s.drawn) (ch := [it]) (fun b hb => ?_) (fun b o _ _ hc e _ => k b o (fun z => hc (by simp [z])) e) (fun b o _ _ hc e _ => ⟨o.slots, k b o (fun z => hc (by simp [z])) e⟩) (fun _ _ _ _ n => n)
  (fun b o hc e => ⟨o, k b o (fun z => hc (by simp [z])) e⟩) (fun _ _ e => e) (fun _ _ _ e => e) (fun b ps e => ⟨#[], by rw [e]; simp⟩) (fun m hm => ?_) (fun b u e => ?_) I.bare
 ·have e : b = it := by simpa using hb
  subst e
  exact ⟨h1, hL, h2, h3⟩
 ·obtain ⟨o, es, ep, ho, r⟩ := hm
  exact ⟨o, es, ep, k _ o (Ne.symm hL) ho, r⟩
 ·refine (I.hok b u e).stay (fun c v hc q => k c v ?_ q) (fun _ q => q) fun _ _ q => q
  rcases hc with z | z
  ·rw [z]; exact nit b u e
  ·exact nit c _ z
theorem Inv.tok (I : Inv X pins σ H s) (t : Nat) : Inv X pins σ H { s with toks := t } := I.un (h' := s.heap) (t' := t) Un.refl I.hok
theorem Inv.kept {t' : Nat} (I : Inv X pins σ H s) (k : ∀ b u, s.heap.get? b = some u -> h'.get? b = some u) : Inv X pins σ H { s with heap := h', toks := t' } := I.un (Un.kept k) (I.hok.kept k)
theorem Inv.laid {a : Addr} {o : HO} {t' : Nat} (I : Inv X pins σ H s) (k : ∀ b u, s.heap.get? b = some u -> h'.get? b = some u) (hp : s.heap.objs.size ≤ a) (new : ObjOk X.prog X.w (upd H a o) h' a o) :
  Inv X pins σ (upd H a o) { s with heap := h', toks := t' } := I.un (Un.laid k hp (I.hok.fresh hp)) (I.hok.laid k hp new)
theorem Inv.write {x e : Addr} {o : HO} {t' : Nat} (I : Inv X pins σ H s) (mu : Mut (H x)) (he : e = x ∨ H e = some (.own x)) (k : ∀ b u, b ≠ e -> s.heap.get? b = some u -> h'.get? b = some u) (heo : ∃ u, h'.get? e = some u)
  (new : ObjOk X.prog X.w (upd H x o) h' x o) : Inv X pins σ (upd H x o) { s with heap := h', toks := t' } := I.un (Un.write mu he k heo) (I.hok.write mu he k heo new)
theorem Inv.weak {σ' : List (Option V)} (I : Inv X pins σ H s) (hl : σ'.length = σ.length) (w : ∀ (i : Nat) v, σ'[i]? = some (some v) -> σ[i]? = some (some v)) : Inv X pins σ' H s :=
 ⟨I.ok, I.os, I.bare, I.base, let ⟨m, hn, hl'⟩ := I.loc; ⟨m, hn, fun i x v e1 e2 e3 => hl' i x v e1 (w i v e2) e3⟩, I.cell, I.free, I.freeC, I.pin, I.hok, hl.trans I.len⟩
theorem Inv.pins_of {pins' : List (Addr × Obj)} (I : Inv X pins σ H s) (h : ∀ p ∈ pins', s.heap.get? p.1 = some p.2 /\ H p.1 = none /\ p.1 ≠ X.env.locals /\ p.1 ∉ X.fs /\ ∀ v, p.2.data ≠ .cell v) : Inv X pins' σ H s :=
 ⟨I.ok, I.os, I.bare, I.base, I.loc, I.cell, I.free, I.freeC, fun p hp => (List.mem_append.mp hp).elim (fun z => I.pin p (List.mem_append_left _ z)) (h p), I.hok, I.len⟩
theorem nodup_ix {N : List Str} (hN : N.Nodup) {i j : Nat} {x : Str} (a : N[i]? = some x) (b : N[j]? = some x) : i = j := by
 obtain ⟨h1, e1⟩ := List.getElem?_eq_some_iff.mp a
 obtain ⟨h2, e2⟩ := List.getElem?_eq_some_iff.mp b
 exact (List.getElem_inj hN).mp (e1.trans e2.symm)
theorem store_ok2 {M : Model} {A : Around} {E : Value -> Shared -> Prop} {i : Nat} {x : Str} {v : V} {u : Value} {Q : Unit -> Shared -> Prop} (I : Inv X pins σ H s) (hN : X.N.Nodup) (hi : X.N[i]? = some x) (hx : Loc X.env.scope x) (r : RelV v u)
  (h : ∀ s', Inv X pins (σ.set i (some v)) H s' -> (∃ a, Heap.SameBut a s.heap s'.heap /\ (a = X.env.locals ∨ X.env.cells.lookup x = some a)) -> Q () s') (hf : X.fn x = true ∨ X.env.scope.names.lookup x = some .local := by first | exact .inl rfl | exact .inr rfl | assumption) : wpAny M A (storeName X.env x u) Q E s := by
 obtain ⟨m, hn, hl⟩ := id I.loc
 have hcls : (X.env.scope.kind == .class || (X.env.scope.kind == .module && X.env.locals != X.env.globals)) = false := by rw [I.ok.kind]; rfl
 have hiσ : i < σ.length := by rw [I.len]; exact (List.getElem?_eq_some_iff.mp hi).1
 have cne := I.cne
 have tracked : ∀ {a : Addr} {h' : Heap}, (∃ o, s.heap.get? a = some o /\ H a = none) -> Heap.SameBut a s.heap h' -> HOk X.prog X.w H h' := fun {a h'} ha hs b ob e => by
  obtain ⟨_, _, hfree⟩ := ha
  refine (I.hok b ob e).stay (fun c w' hc q => (hs.2 c ?_).trans q) (fun _ q => q) fun _ _ q => q
  rintro rfl
  rcases hc with rfl | hc
  ·rw [hfree] at e; cases e
  ·rw [hfree] at hc; cases hc
 rcases hx with hk | hk
 ·refine wpAny_storeName_local hk hn (fun h' hn' hs => ?_) hcls
  obtain ⟨oL, _, _, hoL, _⟩ := id hn
  refine h _ ⟨I.ok, I.os, I.bare, ⟨fun b o e n hb hx => ?_, fun b o e n hb hx => ?_, I.base.free, fun b o e hx => ?_, I.base.tups, I.base.frzs, I.base.tbls⟩, ⟨_, hn', fun j y v' e1 e2 e3 => ?_⟩, fun y c e => ?_, I.free, I.freeC, fun p hp => ?_, tracked ⟨oL, hoL, I.free⟩ hs, by simpa using I.len⟩ ⟨_, hs, .inl rfl⟩
  ·exact (hs.2 b (Nat.ne_of_lt (Nat.lt_of_lt_of_le (Heap.lt_size e) I.ok.above))).trans (I.base.keep b o e n hb hx)
  ·obtain ⟨sl, e1⟩ := I.base.slot b o e n hb hx
   exact ⟨sl, (hs.2 b (Nat.ne_of_lt (Nat.lt_of_lt_of_le (Heap.lt_size e) I.ok.above))).trans e1⟩
  ·obtain ⟨o', e1⟩ := I.base.there b o e hx
   exact ⟨o', (hs.2 b (Nat.ne_of_lt (Nat.lt_of_lt_of_le (Heap.lt_size e) I.ok.above))).trans e1⟩
  ·by_cases hj : j = i
   ·subst hj
    rw [hi] at e1; cases e1
    rw [List.getElem?_set_self hiσ] at e2
    cases e2
    exact ⟨u, r, .inl ⟨hk, by simp⟩⟩
   ·rw [List.getElem?_set_ne (Ne.symm hj)] at e2
    obtain ⟨u', r', q⟩ := hl j y v' e1 e2 e3
    refine ⟨u', r', ?_⟩
    rcases q with ⟨k, e⟩ | ⟨k, c, e, z⟩
    ·refine .inl ⟨k, ?_⟩
     have : y ≠ x := fun e => hj (nodup_ix hN e1 (e ▸ hi))
     simp [this, e]
    ·exact .inr ⟨k, c, e, z.sameBut hs (cne y c e)⟩
  ·obtain ⟨w', z⟩ := I.cell y c e
   exact ⟨w', z.sameBut hs (cne y c e)⟩
  ·obtain ⟨e, n, ne, nf, d⟩ := I.pin p hp
   exact ⟨(hs.2 p.1 ne).trans e, n, ne, nf, d⟩
 ·have hfn : X.fn x = true := by
   rcases hf with z | z
   ·exact z
   ·rw [z] at hk; cases hk
  obtain ⟨c, hc⟩ := I.ok.has x (.inl hk)
  obtain ⟨w', z⟩ := I.cell x c hc
  refine wpAny_storeName_cell I.ok.kind hk hc z (fun h' hc' hs => ?_)
  obtain ⟨oc, hoc, hocd⟩ := id z
  refine h { s with heap := h' } ⟨I.ok, I.os, I.bare, ⟨fun b o e n hb hx => ?_, fun b o e n hb hx => ?_, I.base.free, fun b o e hx => ?_, I.base.tups, I.base.frzs, I.base.tbls⟩, ⟨m, hn.sameBut hs (Ne.symm (cne x c hc)), fun j y v' e1 e2 e3 => ?_⟩, fun y c' e => ?_, I.free, I.freeC, fun p hp => ?_, tracked ⟨oc, hoc, I.freeC x c hc⟩ hs, by simpa using I.len⟩ ⟨c, hs, .inr hc⟩
  ·exact (hs.2 b (Nat.ne_of_lt (Nat.lt_of_lt_of_le (Heap.lt_size e) (I.ok.cab x c hfn hc)))).trans (I.base.keep b o e n hb hx)
  ·obtain ⟨sl, e1⟩ := I.base.slot b o e n hb hx
   exact ⟨sl, (hs.2 b (Nat.ne_of_lt (Nat.lt_of_lt_of_le (Heap.lt_size e) (I.ok.cab x c hfn hc)))).trans e1⟩
  ·obtain ⟨o', e1⟩ := I.base.there b o e hx
   exact ⟨o', (hs.2 b (Nat.ne_of_lt (Nat.lt_of_lt_of_le (Heap.lt_size e) (I.ok.cab x c hfn hc)))).trans e1⟩
  ·by_cases hj : j = i
   ·subst hj
    rw [hi] at e1; cases e1
    rw [List.getElem?_set_self hiσ] at e2
    cases e2
    exact ⟨u, r, .inr ⟨.inl hk, c, hc, hc'⟩⟩
   ·rw [List.getElem?_set_ne (Ne.symm hj)] at e2
    obtain ⟨u', r', q⟩ := hl j y v' e1 e2 e3
    refine ⟨u', r', ?_⟩
    rcases q with q | ⟨k, c', e, z'⟩
    ·exact .inl q
    ·refine .inr ⟨k, c', e, z'.sameBut hs ?_⟩
     rintro rfl
     exact hj (nodup_ix hN e1 (I.ok.inj _ _ _ e hc ▸ hi))
  ·by_cases hcc : c' = c
   ·subst hcc; exact ⟨_, hc'⟩
   ·obtain ⟨w2, z2⟩ := I.cell y c' e
    exact ⟨w2, z2.sameBut hs hcc⟩
  ·obtain ⟨e, n, ne, nf, d⟩ := I.pin p hp
   refine ⟨(hs.2 p.1 ?_).trans e, n, ne, nf, d⟩
   intro q
   rw [q, hoc] at e
   have q' : oc = p.2 := Option.some.inj e
   exact d w' (by rw [← q']; exact hocd)
theorem store_ok {M : Model} {A : Around} {E : Value -> Shared -> Prop} {i : Nat} {x : Str} {v : V} {u : Value} {Q : Unit -> Shared -> Prop} (I : Inv X pins σ H s) (hN : X.N.Nodup) (hi : X.N[i]? = some x) (hx : Loc X.env.scope x) (r : RelV v u)
  (h : ∀ s', Inv X pins (σ.set i (some v)) H s' -> Q () s') (hf : X.fn x = true ∨ X.env.scope.names.lookup x = some .local := by first | exact .inl rfl | exact .inr rfl | assumption) : wpAny M A (storeName X.env x u) Q E s :=
 store_ok2 I hN hi hx r (fun s' I' _ => h s' I') hf
theorem Inv.call' {s' : Shared} {ch : List Addr} (I : Inv X pins σ H s) (ho : s'.os = s.os) (u : Un (frs X.stack) ch H H' s.heap s'.heap) (hok : HOk X.prog X.w H' s'.heap) (hg : AllBare s'.gens)
  (hch : ∀ b ∈ ch, (b ∈ X.ex ∨ X.s₀.heap.get? b = none) /\ b ≠ X.env.locals /\ (∀ x c, X.env.cells.lookup x = some c -> c ≠ b) /\ ∀ p ∈ X.pn ++ pins, p.1 ≠ b) : Inv X pins σ H' s' := by
 obtain ⟨h', g', d', t', o'⟩ := s'
 have e : o' = s.os := ho
 subst e
 exact I.call (g' := g') (t' := t') (d' := d') u hok hg hch
end
abbrev XK := Value -> Option Addr -> Hp -> Prop
abbrev St := List (Option V)
abbrev VK := V -> Hp -> Prop
abbrev TE := St -> Hp -> VK -> Prop
abbrev TT := St -> Hp -> (Bool -> Hp -> Prop) -> Prop
abbrev TA := St -> Hp -> (List V -> Hp -> Prop) -> Prop
structure Ends where
 nx : St -> Hp -> Prop
 rt : VK
 bk : St -> Hp -> Prop := fun _ _ => False
 ct : St -> Hp -> Prop := fun _ _ => False
abbrev TS := Ends -> St -> Hp -> Prop
def EP (X : Cx) (pins : List (Addr × Obj)) (σ : St) (Q : VK) (u : Value) (s' : Shared) : Prop := ∃ v H', Inv X pins σ H' s' /\ RelV v u /\ Q v H'
def TP (X : Cx) (pins : List (Addr × Obj)) (σ : St) (Q : Bool -> Hp -> Prop) (b : Bool) (s' : Shared) : Prop := ∃ H', Inv X pins σ H' s' /\ Q b H'
def AP (X : Cx) (pins : List (Addr × Obj)) (σ : St) (Q : List V -> Hp -> Prop) (us : List Value) (s' : Shared) : Prop := ∃ vs H', Inv X pins σ H' s' /\ Vals vs us /\ Q vs H'
def SP (X : Cx) (pins : List (Addr × Obj)) (D : Ends) (f : Flow) (s' : Shared) : Prop :=
 match f with
 | .next => ∃ σ' H', Inv X pins σ' H' s' /\ D.nx σ' H'
 | .brk => ∃ σ' H', Inv X pins σ' H' s' /\ D.bk σ' H'
 | .cont => ∃ σ' H', Inv X pins σ' H' s' /\ D.ct σ' H'
 | .ret u => ∃ v σ' H', Inv X pins σ' H' s' /\ RelV v u /\ D.rt v H'
def PE (X : Cx) (e : Expr) (t : TE) : Prop :=
 ∀ (pins : List (Addr × Obj)) (s : Shared) (σ : St) (H : Hp) (Q : VK), Inv X pins σ H s -> t σ H Q -> wpAny (model X.prog X.w) X.A (eval e X.env) (EP X pins σ Q) X.xe s
def PT (X : Cx) (e : Expr) (t : TT) : Prop :=
 ∀ (pins : List (Addr × Obj)) (s : Shared) (σ : St) (H : Hp) (Q : Bool -> Hp -> Prop), Inv X pins σ H s -> t σ H Q -> wpAny (model X.prog X.w) X.A (isTrue e X.env (eval e X.env)) (TP X pins σ Q) X.xe s
def PW (X : Cx) (e : Expr) (t : TT) : Prop :=
 ∀ (whole : Sem Value) (pins : List (Addr × Obj)) (s : Shared) (σ : St) (H : Hp) (Q : Bool -> Hp -> Prop), Inv X pins σ H s -> t σ H Q -> wpAny (model X.prog X.w) X.A (isTrue e X.env whole) (TP X pins σ Q) X.xe s
theorem PW.pt {X : Cx} {e : Expr} {t : TT} (h : PW X e t) : PT X e t := h _
def PA (X : Cx) (es : List Expr) (t : TA) : Prop :=
 ∀ (pos : Pos) (pins : List (Addr × Obj)) (s : Shared) (σ : St) (H : Hp) (Q : List V -> Hp -> Prop), Inv X pins σ H s -> t σ H Q -> wpAny (model X.prog X.w) X.A (spliced (backTo pos (starEach es X.env))) (AP X pins σ Q) X.xe s
def PS (X : Cx) (st : Stmt) (t : TS) : Prop :=
 ∀ (pins : List (Addr × Obj)) (s : Shared) (σ : St) (H : Hp) (D : Ends), Inv X pins σ H s -> t D σ H -> wpAny (model X.prog X.w) X.A (exec st X.env) (SP X pins D) X.xe s
def PSs (X : Cx) (st : List Stmt) (t : TS) : Prop :=
 ∀ (pins : List (Addr × Obj)) (s : Shared) (σ : St) (H : Hp) (D : Ends), Inv X pins σ H s -> t D σ H -> wpAny (model X.prog X.w) X.A (execs st X.env) (SP X pins D) X.xe s
theorem thn {α : Type} {t : Sem α} {Q Q' : α -> Shared -> Prop} {M : Model} {A : Around} {E : Value -> Shared -> Prop} {s : Shared} (h : wpAny M A t Q E s) (hQ : ∀ a s, Q a s -> Q' a s) : wpAny M A t Q' E s := wpAny_mono h hQ fun _ _ x => x
end L2
namespace L2
open PySem PySem.Spec PyProof.Rows
section
variable {X : Cx}
def tVar (i : Nat) : TE := fun σ H Q => ∃ v, σ[i]? = some (some v) /\ Q v H
def tC (v : V) : TE := fun _ H Q => Q v H
theorem pe_var {i : Nat} {x : Str} {pos : Pos} (hN : X.N[i]? = some x) (hv : Vis X.env.scope x) (hd : (x == ("__debug__" : Str)) = false := by decide) (hcd : (x == ("__classdict__" : Str)) = false := by decide) : PE X (.Name x pos) (tVar i) := by
 intro pins s σ H Q I h
 obtain ⟨v, e, h⟩ := h
 obtain ⟨m, hn, hl⟩ := I.loc
 obtain ⟨u, r, l⟩ := hl i x v hN e hv
 have fin : EP X pins σ Q u s := ⟨v, H, I, r, h⟩
 rcases l with ⟨hk, hm⟩ | ⟨hk, c, hc, hcell⟩
 ·exact wpAny_Name (wpAny_loadName_local I.ok.kind hk hn hm fin) hd
 ·rcases hk with hk | hk
  ·exact wpAny_Name (wpAny_loadName_cell I.ok.kind hk hc hcell fin) hd
  ·exact wpAny_Name (wpAny_loadName_free I.ok.kind hk hc hcell fin hcd) hd
theorem pe_int {i j pos} : PE X (.Constant (.int i) j pos) (tC (.int i)) := fun _ _ _ H _ I h => wpAny_Constant_int ⟨.int i, H, I.tok _, ⟨_, rfl⟩, h⟩
theorem pe_bl {b j pos} : PE X (.Constant (.bool b) j pos) (tC (.bl b)) := fun _ _ _ H _ I h => Constant_bool ⟨.bl b, H, I, rfl, h⟩
theorem pe_non {j pos} : PE X (.Constant .none j pos) (tC .non) := fun _ _ _ H _ I h => Constant_none ⟨.non, H, I, rfl, h⟩
def Gl (X : Cx) (x : Str) : Prop := X.env.kindOf x = some .globalImplicit
theorem ld_glob {E : Value -> Shared -> Prop} {pins : List (Addr × Obj)} {s : Shared} {σ : St} {H : Hp} {x : Str} {u : Value} {pos : Pos} {Q : Value -> Shared -> Prop} (I : Inv X pins σ H s) (hg : Gl X x) (hm : X.mg x = some u) (h : Q u s)
  (hd : (x == ("__debug__" : Str)) = false := by decide) : wpAny (model X.prog X.w) X.A (eval (.Name x pos) X.env) Q E s :=
 Calls.Name_function_global I.ok.kind hg (Calls.loadGlobal_global (by rw [I.ok.glob]; exact I.mod.glob.keeps I.bk) hm h) hd
theorem ld_blt {E : Value -> Shared -> Prop} {pins : List (Addr × Obj)} {s : Shared} {σ : St} {H : Hp} {x : Str} {u : Value} {pos : Pos} {Q : Value -> Shared -> Prop} (I : Inv X pins σ H s) (hg : Gl X x) (hm : X.mg x = none) (hv : bootBuiltins x = some u) (h : Q u s)
  (hn : x ≠ "__name__" := by decide) (hd : (x == ("__debug__" : Str)) = false := by decide) : wpAny (model X.prog X.w) X.A (eval (.Name x pos) X.env) Q E s := by
 obtain ⟨mb, h1, h2⟩ := I.mod.blt
 exact Calls.Name_function_global I.ok.kind hg (Calls.loadGlobal_builtin (by rw [I.ok.glob]; exact I.mod.glob.keeps I.bk) hm (by rw [I.ok.blt]; exact h1.keeps I.bk) ((h2 x hn).trans hv) h) hd
theorem pe_glob {x : Str} {v : V} {u : Value} {pos : Pos} (hg : Gl X x) (hm : X.mg x = some u) (r : RelV v u) (hd : (x == ("__debug__" : Str)) = false := by decide) : PE X (.Name x pos) (tC v) :=
 fun _ _ _ H _ I h => ld_glob I hg hm ⟨v, H, I, r, h⟩ hd
theorem pe_bltn {x : Str} {v : V} {u : Value} {pos : Pos} (hg : Gl X x) (hm : X.mg x = none) (hv : bootBuiltins x = some u) (r : RelV v u) (hn : x ≠ "__name__" := by decide) (hd : (x == ("__debug__" : Str)) = false := by decide) : PE X (.Name x pos) (tC v) :=
 fun _ _ _ H _ I h => ld_blt I hg hm hv ⟨v, H, I, r, h⟩ hn hd
def t2I (ta tb : TE) (k : Int -> Int -> Hp -> Prop) : St -> Hp -> Prop := fun σ H => ta σ H fun x H1 => tb σ H1 fun y H2 => ∃ i j, x = .int i /\ y = .int j /\ k i j H2
def tAdd (ta tb : TE) : TE := fun σ H Q => t2I ta tb (fun i j H2 => Q (.int (i + j)) H2) σ H
def tSub (ta tb : TE) : TE := fun σ H Q => t2I ta tb (fun i j H2 => Q (.int (i - j)) H2) σ H
def tMul (ta tb : TE) : TE := fun σ H Q => t2I ta tb (fun i j H2 => (-(2 ^ 64) < i /\ i < 2 ^ 64) /\ Q (.int (i * j)) H2) σ H
variable {a b : Expr} {ta tb : TE} {pos : Pos}
def PC (X : Cx) (op : CmpOp) (a b : Expr) (t : TE) : Prop :=
 ∀ (pins : List (Addr × Obj)) (s : Shared) (σ : St) (H : Hp) (Q : VK), Inv X pins σ H s -> t σ H Q →
  wpAny (model X.prog X.w) X.A (eval a X.env) (fun v s₁ => wpAny (model X.prog X.w) X.A (eval b X.env) (fun u s₂ => wpAny (model X.prog X.w) X.A (compareOp op v u) (EP X pins σ Q) X.xe s₂) X.xe s₁) X.xe s
def tCmp (p : Int -> Int -> Bool) (ta tb : TE) : TE := fun σ H Q => t2I ta tb (fun i j H2 => Q (.bl (p i j)) H2) σ H
abbrev tLt : TE -> TE -> TE := tCmp fun i j => decide (i < j)
abbrev tLe : TE -> TE -> TE := tCmp fun i j => decide (i ≤ j)
abbrev tGt : TE -> TE -> TE := tCmp fun i j => decide (j < i)
abbrev tGe : TE -> TE -> TE := tCmp fun i j => decide (j ≤ i)
abbrev tEqI : TE -> TE -> TE := tCmp fun i j => decide (i = j)
abbrev tNeI : TE -> TE -> TE := tCmp fun i j => !decide (i = j)
def tIsN (ta : TE) : TE := fun σ H Q => ta σ H fun x H1 => Q (.bl (decide (x = .non))) H1
def tNotN (ta : TE) : TE := fun σ H Q => ta σ H fun x H1 => Q (.bl (!decide (x = .non))) H1
def tB (t : TE) : TT := fun σ H Q => t σ H fun x H1 => ∃ c, x = .bl c /\ Q c H1
theorem pt_val {e : Expr} {t : TE} (h : PE X e t) (he : ∀ whole, isTrue e X.env whole = (do let v ← whole; standAt e.pos; holding [v] (truthy v)) := by intro _; rfl) : PT X e (tB t) := by
 intro pins s σ H Q I hw
 refine isTrue_plain (thn (h pins s σ H _ I hw) fun v s1 ⟨x, H1, I1, r1, q1⟩ => ?_) (he _)
 obtain ⟨d, rfl, q⟩ := q1
 cases r1
 exact wpAny_truthy_bool ⟨H1, I1, q⟩
variable {tA tB' : TT} {rest : List Expr}
def tAnd (t u : TT) : TT := fun σ H Q => t σ H fun c H1 => if c = true then u σ H1 Q else Q false H1
def tOr (t u : TT) : TT := fun σ H Q => t σ H fun c H1 => if c = true then Q true H1 else u σ H1 Q
def tNot (t : TT) : TT := fun σ H Q => t σ H fun c H1 => Q (!c) H1
theorem pw_and1 (ha : PT X a tA) : PW X (.BoolOp .And [a] pos) tA := by
 intro wh pins s σ H Q I h
 refine isTrue_and (thn (ha pins s σ H Q I h) fun c s1 e => ?_)
 cases c with
 | true => exact isTrue_and_nil e
 | false => exact e
theorem pw_or1 (ha : PT X a tA) : PW X (.BoolOp .Or [a] pos) tA := by
 intro wh pins s σ H Q I h
 refine isTrue_or (thn (ha pins s σ H Q I h) fun c s1 e => ?_)
 cases c with
 | false => exact isTrue_or_nil e
 | true => exact e
theorem pw_and (ha : PT X a tA) (hb : PW X (.BoolOp .And (b :: rest) pos) tB') : PW X (.BoolOp .And (a :: b :: rest) pos) (tAnd tA tB') := by
 intro wh pins s σ H Q I h
 refine isTrue_and (thn (ha pins s σ H _ I h) fun c s1 ⟨H1, I1, q1⟩ => ?_)
 cases c with
 | true => exact hb wh pins s1 σ H1 Q I1 q1
 | false => exact ⟨H1, I1, q1⟩
theorem pw_or (ha : PT X a tA) (hb : PW X (.BoolOp .Or (b :: rest) pos) tB') : PW X (.BoolOp .Or (a :: b :: rest) pos) (tOr tA tB') := by
 intro wh pins s σ H Q I h
 refine isTrue_or (thn (ha pins s σ H _ I h) fun c s1 ⟨H1, I1, q1⟩ => ?_)
 cases c with
 | true => exact ⟨H1, I1, q1⟩
 | false => exact hb wh pins s1 σ H1 Q I1 q1
theorem pt_not (ha : PT X a tA) : PT X (.UnaryOp .Not a pos) (tNot tA) := by
 intro pins s σ H Q I h
 exact isTrue_not (ha pins s σ H (fun c H1 => Q (!c) H1) I h)
def tAndV (ta tb : TE) : TE := fun σ H Q => ta σ H fun x H1 => ∃ c, x = .bl c /\ if c = true then tb σ H1 Q else Q (.bl false) H1
def tOrV (ta tb : TE) : TE := fun σ H Q => ta σ H fun x H1 => ∃ c, x = .bl c /\ if c = true then Q (.bl true) H1 else tb σ H1 Q
def tNotV (ta : TE) : TE := fun σ H Q => ta σ H fun x H1 => ∃ c, x = .bl c /\ Q (.bl (!c)) H1
theorem pe_one {op} {t : TE} (h : PE X a t) : PE X (.BoolOp op [a] pos) t := fun pins s σ H Q I hw => BoolOp_one (h pins s σ H Q I hw)
theorem pe_and (ha : PE X a ta) (hb : PE X (.BoolOp .And (b :: rest) pos) tb) : PE X (.BoolOp .And (a :: b :: rest) pos) (tAndV ta tb) := by
 intro pins s σ H Q I h
 refine BoolOp_and (thn (ha pins s σ H _ I h) fun v s1 ⟨x, H1, I1, r1, q1⟩ => ?_)
 obtain ⟨c, rfl, q1⟩ := q1
 cases r1
 refine wpAny_truthy_bool ?_
 cases c with
 | true => exact hb pins s1 σ H1 Q I1 q1
 | false => exact ⟨.bl false, H1, I1, rfl, q1⟩
theorem pe_not (ha : PE X a ta) : PE X (.UnaryOp .Not a pos) (tNotV ta) := by
 intro pins s σ H Q I h
 refine UnaryOp_ (thn (ha pins s σ H _ I h) fun v s1 ⟨x, H1, I1, r1, q1⟩ => ?_)
 obtain ⟨c, rfl, q1⟩ := q1
 cases r1
 exact not_of (wpAny_truthy_bool ⟨.bl (!c), H1, I1, rfl, q1⟩)
def tIf (t : TT) (ta tb : TE) : TE := fun σ H Q => t σ H fun c H1 => if c = true then ta σ H1 Q else tb σ H1 Q
end
end L2
namespace L2
open PySem PySem.Spec PyProof.Rows
def SqL (K : PySem.W.Frag) (H : Hp) (a : Addr) (xs : List V) : Prop :=
 Rd H a (.lst xs) ∨
  ∃ (o : Obj) (its : Array Value) (n : Nat), K.lookup a = some o /\ o.cls = .type "list" /\ o.dict = none /\ o.data = .seq its n /\ its.size ≤ sizeLine /\ Vals xs its.toList
def SqT (K : PySem.W.Frag) (H : Hp) (a : Addr) (xs : List V) : Prop :=
 Rd H a (.tup xs) ∨
  ∃ (o : Obj) (its : Array Value) (n : Nat), K.lookup a = some o /\ o.cls = .type "tuple" /\ o.data = .seq its n /\ its.size ≤ sizeLine /\ Vals xs its.toList
def absV : Value -> Option V
 | .none => some .non
 | .bool b => some (.bl b)
 | .int i _ => some (.int i)
 | .str x _ => some (.str x)
 | .bytes b _ => some (.byt b)
 | .float b _ => some (.flt b)
 | .ref a => some (.ref a)
 | .type n => some (.ty n)
 | _ => none
theorem RelV.abs {x : V} {u : Value} (r : RelV x u) : absV u = some x := by
 cases x with
 | non => cases r; rfl
 | bl _ => cases r; rfl
 | int _ => obtain ⟨t, rfl⟩ := r; rfl
 | str _ => obtain ⟨t, rfl⟩ := r; rfl
 | byt _ => obtain ⟨t, rfl⟩ := r; rfl
 | flt _ => obtain ⟨t, rfl⟩ := r; rfl
 | ref _ => cases r; rfl
 | ty _ => cases r; rfl
theorem RelV.inj {x y : V} {u : Value} (r : RelV x u) (q : RelV y u) : x = y := Option.some.inj (r.abs.symm.trans q.abs)
theorem Vals.inj : ∀ {xs ys : List V} {us : List Value}, Vals xs us -> Vals ys us -> xs = ys
 | _, _, _, .nil, .nil => rfl
 | _, _, _, .cons r t, .cons r' t' => by rw [r.inj r', Vals.inj t t']
section
variable {X : Cx} {pins : List (Addr × Obj)} {σ : St} {H : Hp} {s : Shared} {a : Addr} {xs ys : List V}
theorem SqL.of {K : PySem.W.Frag} (h : H a = some (.lst xs)) : SqL K H a xs := .inl (.inl h)
theorem SqT.of {K : PySem.W.Frag} (h : H a = some (.tup xs)) : SqT K H a xs := .inl (.inl h)
theorem Inv.list (I : Inv X pins σ H s) (h : SqL X.K H a xs) : ∃ its : List Value, Vals xs its /\ PlainL s.heap a its.toArray /\ xs.length ≤ sizeLine := by
 rcases h with h | ⟨o, its, n, hk, hc, hd, hs, hz, r⟩
 ·obtain ⟨z, its, n, r, e⟩ := h.ok I.hok
  exact ⟨its, r, ⟨_, n, e, rfl, rfl, rfl⟩, z⟩
 ·refine ⟨its.toList, r, ⟨o, n, I.kIn a o hk, hc, hd, by simpa using hs⟩, ?_⟩
  have e := r.length
  simp only [Array.length_toList] at e
  omega
theorem Inv.tuple (I : Inv X pins σ H s) (h : SqT X.K H a xs) : ∃ its : List Value, Vals xs its /\ IsTup s.heap a its.toArray /\ xs.length ≤ sizeLine := by
 rcases h with h | ⟨o, its, n, hk, hc, hs, hz, r⟩
 ·obtain ⟨z, its, r, p⟩ := h.ok I.hok
  exact ⟨its, r, p, z⟩
 ·refine ⟨its.toList, r, ⟨o, I.kIn a o hk, hc, n, by simpa using hs⟩, ?_⟩
  have e := r.length
  simp only [Array.length_toList] at e
  omega
theorem Inv.list_inj (I : Inv X pins σ H s) (h : SqL X.K H a xs) (h' : SqL X.K H a ys) : xs = ys := by
 obtain ⟨its, r, ⟨o, n, e, _, _, d⟩, _⟩ := I.list h
 obtain ⟨its', r', ⟨o', n', e', _, _, d'⟩, _⟩ := I.list h'
 rw [e] at e'; cases e'
 rw [d] at d'
 injection d' with d1 _
 have : its = its' := by simpa using congrArg Array.toList d1
 subst this
 exact r.inj r'
theorem Inv.tuple_inj (I : Inv X pins σ H s) (h : SqT X.K H a xs) (h' : SqT X.K H a ys) : xs = ys := by
 obtain ⟨its, r, ⟨o, e, _, n, d⟩, _⟩ := I.tuple h
 obtain ⟨its', r', ⟨o', e', _, n', d'⟩, _⟩ := I.tuple h'
 rw [e] at e'; cases e'
 rw [d] at d'
 injection d' with d1 _
 have : its = its' := by simpa using congrArg Array.toList d1
 subst this
 exact r.inj r'
end
abbrev Cx.wish (X : Cx) (E : Value -> Shared -> Prop) : Cx := { X with xe := E }
abbrev Cx.nox (X : Cx) : Cx := X.wish fun _ _ => False
theorem Cx.Ok.wish {X : Cx} (ok : X.Ok) (E : Value -> Shared -> Prop) : (X.wish E).Ok :=
 ⟨ok.mod, ok.kind, ok.glob, ok.blt, ok.above, ok.inj, ok.has, ok.cab, ok.hd, ok.frames, ok.stk, ok.exf, ok.bs, ok.bsz, ok.noex, ok.exfs, ok.funs, ok.frf⟩
theorem Cx.Ok.unwish {X : Cx} {E : Value -> Shared -> Prop} (ok : (X.wish E).Ok) : X.Ok :=
 ⟨ok.mod, ok.kind, ok.glob, ok.blt, ok.above, ok.inj, ok.has, ok.cab, ok.hd, ok.frames, ok.stk, ok.exf, ok.bs, ok.bsz, ok.noex, ok.exfs, ok.funs, ok.frf⟩
section
variable {X : Cx} {pins : List (Addr × Obj)} {σ : St} {H : Hp} {s : Shared} {E : Value -> Shared -> Prop}
theorem Inv.wish (I : Inv X pins σ H s) (E : Value -> Shared -> Prop) : Inv (X.wish E) pins σ H s := ⟨I.ok.wish E, I.os, I.bare, I.base, I.loc, I.cell, I.free, I.freeC, I.pin, I.hok, I.len⟩
theorem Inv.unwish (I : Inv (X.wish E) pins σ H s) : Inv X pins σ H s := ⟨I.ok.unwish, I.os, I.bare, I.base, I.loc, I.cell, I.free, I.freeC, I.pin, I.hok, I.len⟩
theorem SP.unwish {D : Ends} {f : Flow} {s' : Shared} (h : SP (X.wish E) pins D f s') : SP X pins D f s' := by
 cases f with
 | next => obtain ⟨σ', H', I, q⟩ := h; exact ⟨σ', H', I.unwish, q⟩
 | brk => obtain ⟨σ', H', I, q⟩ := h; exact ⟨σ', H', I.unwish, q⟩
 | cont => obtain ⟨σ', H', I, q⟩ := h; exact ⟨σ', H', I.unwish, q⟩
 | ret u => obtain ⟨v, σ', H', I, r, q⟩ := h; exact ⟨v, σ', H', I.unwish, r, q⟩
theorem PSs.nox {st : List Stmt} {t : TS} (h : PSs X.nox st t) : PSs X st t := fun pins s σ H D I hw =>
 wpAny_mono (h pins s σ H D (I.wish _) hw) (fun _ _ q => q.unwish) fun _ _ z => False.elim z
end
section
variable {X : Cx} {st : Stmt} {rest : List Stmt} {t u : TS} {e : Expr} {te : TE} {pos : Pos}
def tNext : TS := fun D σ H => D.nx σ H
def tSeq (t u : TS) : TS := fun D σ H => t { D with nx := u D } σ H
theorem pss_nil : PSs X [] tNext := fun _ _ σ H _ I h => wpAny_execs_nil ⟨σ, H, I, h⟩
theorem pss_cons (h1 : PS X st t) (h2 : PSs X rest u) : PSs X (st :: rest) (tSeq t u) := by
 intro pins s σ H D I h
 refine wpAny_execs_cons (thn (h1 pins s σ H { D with nx := u D } I h) fun f s1 q => ?_)
 cases f with
 | next =>
  obtain ⟨σ', H', I', q⟩ := q
  exact h2 pins s1 σ' H' D I' q
 | ret v => exact q
 | brk => exact q
 | cont => exact q
theorem pss_one (h1 : PS X st t) : PSs X [st] t := by
 intro pins s σ H D I h
 refine wpAny_execs_cons (thn (h1 pins s σ H D I h) fun f s1 q => ?_)
 cases f with
 | next => exact wpAny_execs_nil q
 | ret v => exact q
 | brk => exact q
 | cont => exact q
def tBreak : TS := fun D σ H => D.bk σ H
def tCont : TS := fun D σ H => D.ct σ H
theorem Inv.quiet {pins : List (Addr × Obj)} {σ : St} {H : Hp} {s : Shared} (I : Inv X pins σ H s) : interactive X.env = false := by simp [interactive, I.ok.kind]
def tDrop (te : TE) : TS := fun D σ H => te σ H fun _ H1 => D.nx σ H1
theorem ps_expr (he : PE X e te) (hs : swapsWith e none pos.line X.env = pure false := by rfl) : PS X (.Expr e pos) (tDrop te) := by
 intro pins s σ H D I h
 exact wpAny_Expr_any (thn (he pins s σ H _ I h) fun v s1 ⟨x, H1, I1, r1, q1⟩ => ⟨σ, H1, I1, q1⟩) I.quiet hs
def tRet (te : TE) : TS := fun D σ H => te σ H D.rt
theorem ps_ret (he : PE X e te) : PS X (.Return (some e) pos) (tRet te) := by
 intro pins s σ H D I h
 exact wpAny_Return_some (thn (he pins s σ H _ I h) fun v s1 ⟨x, H1, I1, r1, q1⟩ => ⟨x, σ, H1, I1, r1, q1⟩)
def tRetN : TS := fun D _ H => D.rt .non H
def tIfS (c : TT) (t u : TS) : TS := fun D σ H => c σ H fun b H1 => if b = true then t D σ H1 else u D σ H1
theorem ps_if {c : Expr} {a b : List Stmt} {tc : TT} (hc : PT X c tc) (ha : PSs X a t) (hb : PSs X b u) : PS X (.If c a b pos) (tIfS tc t u) := by
 intro pins s σ H D I h
 refine wpAny_If (thn (hc pins s σ H _ I h) fun d s1 ⟨H1, I1, q1⟩ => ?_)
 cases d with
 | true => exact ha pins s1 σ H1 D I1 q1
 | false => exact hb pins s1 σ H1 D I1 q1
def tNever : TS := fun _ _ _ => False
theorem ps_never : PS X st tNever := fun _ _ _ _ _ _ h => h.elim
end
abbrev TG := V -> St -> Hp -> (St -> Hp -> Prop) -> Prop
abbrev TGs := List V -> St -> Hp -> (St -> Hp -> Prop) -> Prop
def PG (X : Cx) (target : Expr) (t : TG) : Prop :=
 ∀ (pins : List (Addr × Obj)) (s : Shared) (σ : St) (H : Hp) (v : V) (u : Value) (Q : St -> Hp -> Prop), Inv X pins σ H s -> RelV v u -> t v σ H Q →
  wpAny (model X.prog X.w) X.A (assign target X.env u) (fun _ s' => ∃ σ' H', Inv X pins σ' H' s' /\ Q σ' H') X.xe s
def PGs (X : Cx) (ts : List Expr) (t : TGs) : Prop :=
 ∀ (pins : List (Addr × Obj)) (s : Shared) (σ : St) (H : Hp) (vs : List V) (us : List Value) (Q : St -> Hp -> Prop), Inv X pins σ H s -> Vals vs us -> t vs σ H Q →
  wpAny (model X.prog X.w) X.A (assignInOrder ((assignEach ts X.env).map (·.2)) us) (fun _ s' => ∃ σ' H', Inv X pins σ' H' s' /\ Q σ' H') X.xe s
abbrev TSet := V -> V -> V -> Hp -> (Hp -> Prop) -> Prop
def PSet (X : Cx) (t : TSet) : Prop :=
 ∀ (pins : List (Addr × Obj)) (s : Shared) (σ : St) (H : Hp) (o i v : V) (ov iv u : Value) (Q : Hp -> Prop), Inv X pins σ H s -> RelV o ov -> RelV i iv -> RelV v u -> t o i v H Q →
  wpAny (model X.prog X.w) X.A (setItem ov iv u) (fun _ s' => ∃ H', Inv X pins σ H' s' /\ Q H') X.xe s
abbrev TIp := V -> V -> Hp -> VK -> Prop
def PIp (X : Cx) (op : Operator) (t : TIp) : Prop :=
 ∀ (pins : List (Addr × Obj)) (s : Shared) (σ : St) (H : Hp) (x y : V) (v u : Value) (Q : VK), Inv X pins σ H s -> RelV x v -> RelV y u -> t x y H Q →
  wpAny (model X.prog X.w) X.A (inplaceOp op v u) (EP X pins σ Q) X.xe s
section
variable {X : Cx} {pos : Pos}
def gName (i : Nat) : TG := fun v σ H Q => Q (σ.set i (some v)) H
theorem pg_name {i : Nat} {x : Str} (hN : X.N.Nodup) (hi : X.N[i]? = some x) (hx : Loc X.env.scope x) (hf : X.fn x = true ∨ X.env.scope.names.lookup x = some .local := by first | exact .inl rfl | exact .inr rfl | assumption) : PG X (.Name x pos) (gName i) := by
 intro pins s σ H v u Q I r h
 exact wpAny_assign_Name (store_ok I hN hi hx r (fun s' I' => ⟨_, H, I', h⟩) hf)
def gNil : TGs := fun vs σ H Q => vs = [] /\ Q σ H
def gCons (t : TG) (u : TGs) : TGs := fun vs σ H Q => ∃ v r, vs = v :: r /\ t v σ H fun σ' H' => u r σ' H' Q
theorem pgs_nil : PGs X [] gNil := by
 intro pins s σ H vs us Q I r h
 obtain ⟨e, h⟩ := h
 subst e
 cases r
 exact assignInOrder_nil ⟨σ, H, I, h⟩
theorem pgs_cons {e : Expr} {es : List Expr} {t : TG} {u : TGs} (h1 : PG X e t) (h2 : PGs X es u)
  (hs : (assignEach (e :: es) X.env).map (·.2) = assign e X.env :: (assignEach es X.env).map (·.2) := by rfl) : PGs X (e :: es) (gCons t u) := by
 intro pins s σ H vs us Q I r h
 obtain ⟨v, vr, e1, h⟩ := h
 subst e1
 cases r with
 | cons r rr =>
  rw [hs]
  refine assignInOrder_cons (thn (h1 pins s σ H _ _ _ I r h) fun _ s1 ⟨σ1, H1, I1, q1⟩ => ?_)
  exact h2 pins s1 σ1 H1 _ _ Q I1 rr q1
def gTup (K : PySem.W.Frag) (n : Nat) (t : TGs) : TG := fun v σ H Q => ∃ a xs, v = .ref a /\ SqT K H a xs /\ xs.length = n /\ t xs σ H Q
theorem pg_tup {es : List Expr} {k : Nat} {t : TGs} {n : Nat} (hc : X.calm = true) (h : PGs X es t)
  (hn : (assignEach es X.env).length = n := by rfl) (hst : (assignEach es X.env).findIdx? (·.1) = none := by rfl) : PG X (.Tuple es k pos) (gTup X.K n t) := by
 intro pins s σ H v u Q I r hw
 obtain ⟨a, xs, e1, hq, hl, hw⟩ := hw
 subst e1
 cases r
 obtain ⟨its, rv, ht, hz⟩ := I.tuple hq
 refine assign_Tuple_tuple (I.ok.hd hc) ht (by simp [hn, ← hl, rv.length]) hst fun h' hx => ?_
 have I1 : Inv X pins σ H { s with heap := h' } := I.kept (t' := s.toks) fun b o e => hx b o (Nat.ne_of_lt (Heap.lt_size e)) e
 exact h pins _ σ H xs _ Q I1 (by simpa using rv) hw
def gSub (to ti : TE) (t : TSet) : TG := fun v σ H Q => to σ H fun o H1 => ti σ H1 fun i H2 => t o i v H2 fun H3 => Q σ H3
theorem pg_sub {o i : Expr} {to ti : TE} {t : TSet} (ho : PE X o to) (hi : PE X i ti) (hs : PSet X t)
  (ha : ∀ v, assign (.Subscript o i pos) X.env v = (do
   let ov ← holding [v] (eval o X.env)
   let iv ← holding [v, ov] (eval i X.env)
   standAt pos
   holding [v, ov, iv] (setItem ov iv v)
   release [v, ov, iv] []) := by intro _; rfl) : PG X (.Subscript o i pos) (gSub to ti t) := by
 intro pins s σ H v u Q I r h
 rw [ha]
 refine wpAny_bind (wpAny_holding (thn (ho pins s σ H _ I h) fun ov s1 ⟨x, H1, I1, r1, q1⟩ => ?_))
 refine wpAny_bind (wpAny_holding (thn (hi pins s1 σ H1 _ I1 q1) fun iv s2 ⟨y, H2, I2, r2, q2⟩ => ?_))
 refine wpAny_bind (wpAny_standAt (wpAny_bind (wpAny_holding (thn (hs pins s2 σ H2 x y v ov iv u _ I2 r1 r2 r q2) fun _ s3 ⟨H3, I3, q3⟩ => ?_))))
 exact wpAny_release ⟨σ, H3, I3, q3⟩
def tAsg (te : TE) (g : TG) : TS := fun D σ H => te σ H fun x H1 => g x σ H1 D.nx
theorem ps_asg {tg e : Expr} {te : TE} {g : TG} (he : PE X e te) (hg : PG X tg g) (hs : swapsWithSole [tg] e pos.line X.env = pure false := by rfl) (hw : swappedStores [tg] e X.env = pure none := by rfl)
  (h1 : (assignEach [tg] X.env).map (·.2) = [assign tg X.env] := by rfl) : PS X (.Assign [tg] e pos) (tAsg te g) := by
 intro pins s σ H D I h
 refine wpAny_Assign_stores (thn (he pins s σ H _ I h) fun v s1 ⟨x, H1, I1, r1, q1⟩ => ?_) hs hw
 rw [h1]
 exact thn (hg pins s1 σ H1 x v _ I1 r1 q1) fun _ s2 q => q
theorem ps_set {i : Nat} {x : Str} {e : Expr} {te : TE} {pos' : Pos} (hN : X.N.Nodup) (hi : X.N[i]? = some x) (hx : Loc X.env.scope x) (he : PE X e te) (hs : swapsWith e (some (.Name x pos')) pos.line X.env = pure false := by rfl) (hf : X.fn x = true ∨ X.env.scope.names.lookup x = some .local := by first | exact .inl rfl | exact .inr rfl | assumption) :
  PS X (.Assign [.Name x pos'] e pos) (tAsg te (gName i)) := by
 intro pins s σ H D I h
 refine wpAny_Assign_Name (thn (he pins s σ H _ I h) fun v s1 ⟨y, H1, I1, r1, q1⟩ => ?_) hs
 exact store_ok I1 hN hi hx r1 (fun s2 I2 => ⟨_, H1, I2, q1⟩) hf
def tPar (i j : Nat) (ta : TA) : TS := fun D σ H => ta σ H fun vs H1 => ∃ v w, vs = [v, w] /\ D.nx ((σ.set i (some v)).set j (some w)) H1
theorem ps_par {i j : Nat} {x y : Str} {a b : Expr} {ta : TA} {px py pt : Pos} {kt k2 pt2} (hc : X.calm = true) (hN : X.N.Nodup) (hi : X.N[i]? = some x) (hj : X.N[j]? = some y) (hij : i ≠ j)
  (hx : X.env.scope.names.lookup x = some .local) (hy : X.env.scope.names.lookup y = some .local) (ha : PA X [a, b] ta)
  (hw : swappedStores [.Tuple [.Name x px, .Name y py] kt pt] (.Tuple [a, b] k2 pt2) X.env = pure (some [x, y]))
  (hs : swapsWithSole [.Tuple [.Name x px, .Name y py] kt pt] (.Tuple [a, b] k2 pt2) pos.line X.env = pure false := by rfl) :
  PS X (.Assign [.Tuple [.Name x px, .Name y py] kt pt] (.Tuple [a, b] k2 pt2) pos) (tPar i j ta) := by
 intro pins s σ H D I h
 rw [exec_Assign_arm]
 refine wpAny_bind (wpAny_standAt ?_)
 rw [hs]
 refine wpAny_bind (wpAny_pure ?_)
 rw [if_neg (by decide)]
 refine wpAny_bind (Tuple_ (thn (ha _ pins s σ H _ I h) fun us s1 ⟨vs, H1, I1, r1, q1⟩ => ?_))
 obtain ⟨v, w, e1, q1⟩ := q1
 subst e1
 obtain ⟨u1, u2, rfl, rv, rw'⟩ : ∃ u1 u2, us = [u1, u2] /\ RelV v u1 /\ RelV w u2 := by
  cases r1 with
  | cons p q =>
   cases q with
   | cons p' q' =>
    cases q'
    exact ⟨_, _, rfl, p, p'⟩
 refine wpAny_newObj_type ?_ zl2
 have I2 : Inv X pins σ H1 { s1 with heap := s1.heap.push { cls := .type "tuple", data := .seq [u1, u2].toArray } } := I1.kept (t' := s1.toks) fun b o e => Heap.get?_push_of_some _ e
 rw [hw]
 refine wpAny_bind (wpAny_pure ?_)
 show wpAny (model X.prog X.w) X.A (do rule "assign.swapped-stores"; let items ← unpackItems (.ref s1.heap.objs.size) 2 none; assignInOrder [fun v => bindName X.env y v, fun v => bindName X.env x v] items.reverse; pure Flow.next) _ _ _
 refine wpAny_bind (wpAny_rule (wpAny_bind (unpackItems_tuple (items := #[u1, u2]) (I.ok.hd hc) (IsTup.new s1.heap _) fun h' hx' => ?_)))
 have I3 := I2.kept (h' := h') (t' := s1.toks) fun b o e => hx' b o (Nat.ne_of_lt (Heap.lt_size e)) e
 show wpAny _ _ (assignInOrder [fun v => bindName X.env y v, fun v => bindName X.env x v] [u2, u1] >>= fun _ => pure Flow.next) _ _ _
 refine wpAny_bind (assignInOrder_cons (wpAny_bindName (store_ok I3 hN hj (.inl hy) rw' (fun s2 I4 => ?_) (.inr hy))))
 refine assignInOrder_cons (wpAny_bindName (store_ok I4 hN hi (.inl hx) rv (fun s3 I5 => assignInOrder_nil (wpAny_pure ?_)) (.inr hx)))
 rw [List.set_comm _ _ (Ne.symm hij)] at I5
 exact ⟨_, H1, I5, q1⟩
def tAug (i : Nat) (te : TE) (ti : TIp) : TS := fun D σ H => ∃ x, σ[i]? = some (some x) /\ te σ H fun y H1 => ti x y H1 fun z H2 => D.nx (σ.set i (some z)) H2
def tAugS (to ti te : TE) (tget : V -> V -> Hp -> VK -> Prop) (tip : TIp) (tset : TSet) : TS := fun D σ H => to σ H fun o H1 => ti σ H1 fun i H2 => tget o i H2 fun x H3 => te σ H3 fun y H4 => tip x y H4 fun z H5 => tset o i z H5 fun H6 => D.nx σ H6
def PGet (X : Cx) (t : V -> V -> Hp -> VK -> Prop) : Prop :=
 ∀ (pins : List (Addr × Obj)) (s : Shared) (σ : St) (H : Hp) (o i : V) (ov iv : Value) (Q : VK), Inv X pins σ H s -> RelV o ov -> RelV i iv -> t o i H Q →
  wpAny (model X.prog X.w) X.A (getItem ov iv) (EP X pins σ Q) X.xe s
def ipI (f : Int -> Int -> Int) : TIp := fun x y H Q => ∃ i j, x = .int i /\ y = .int j /\ Q (.int (f i j)) H
end
section
variable {X : Cx} {pos : Pos}
def tWhile (c : TT) (tb : TS) : TS := fun D σ H => ∃ W : Nat -> St -> Hp -> Prop, (∃ m, W m σ H) /\ ∀ m σ H, W m σ H →
 c σ H fun b H1 => if b = true then ∃ N : St -> Hp -> Prop, (∀ σ' H', N σ' H' -> ∃ m', m' < m /\ W m' σ' H') /\ tb { D with nx := N, ct := N, bk := D.nx } σ H1 else D.nx σ H1
theorem ps_while {c : Expr} {body : List Stmt} {tc : TT} {tb : TS} (hp : PassesOwn (model X.prog X.w) X.A X.env X.xe) (hc : PT X c tc) (hb : PSs X body tb) : PS X (.While c body [] pos) (tWhile tc tb) := by
 intro pins s σ H D I h
 obtain ⟨W, ⟨m0, w0⟩, turn⟩ := h
 refine wpAny_While (codeAny_whileLoop (fun n s' => ∃ σ' H', Inv X pins σ' H' s' /\ W n σ' H') ?_ m0 ⟨σ, H, I, w0⟩)
 rintro n s1 ⟨σ1, H1, I1, w1⟩
 refine wpAny_passesOwn hp (thn (hc pins s1 σ1 H1 _ I1 (turn n σ1 H1 w1)) fun b s2 ⟨H2, I2, q2⟩ => ?_)
 cases b with
 | true =>
  obtain ⟨N, hN, q2⟩ := q2
  rw [if_pos rfl]
  refine wpAny_passesOwn hp (thn (hb pins s2 σ1 H2 _ I2 q2) fun f s3 q3 => ?_)
  cases f with
  | next =>
   obtain ⟨σ3, H3, I3, n3⟩ := q3
   obtain ⟨m', hm, w3⟩ := hN σ3 H3 n3
   exact ⟨m', hm, σ3, H3, I3, w3⟩
  | cont =>
   obtain ⟨σ3, H3, I3, n3⟩ := q3
   obtain ⟨m', hm, w3⟩ := hN σ3 H3 n3
   exact ⟨m', hm, σ3, H3, I3, w3⟩
  | brk => exact q3
  | ret v => exact q3
 | false =>
  rw [if_neg Bool.false_ne_true]
  exact wpAny_execs_nil ⟨σ1, H2, I2, q2⟩
end
structure It where
 go : Nat -> Hp -> Prop
 yld : Nat -> Hp -> V -> Hp -> Prop
 stop : Nat -> Hp -> Prop
def FpOk (X : Cx) (pins : List (Addr × Obj)) (H : Hp) (b : Addr) : Prop :=
 H b = none /\ b ≠ X.env.locals /\ b ∉ X.fs /\ (b ∈ X.ex ∨ X.s₀.heap.get? b = none) /\ (∀ x c, X.env.cells.lookup x = some c -> c ≠ b) /\ ∀ p ∈ X.pn ++ pins, p.1 ≠ b
theorem Inv.fpOk {X : Cx} {pins : List (Addr × Obj)} {σ : St} {H H' : Hp} {s : Shared} {b : Addr} (I : Inv X pins σ H s) (hb : s.heap.objs.size ≤ b) (hn : H' b = none) : FpOk X pins H' b := by
 refine ⟨hn, Nat.ne_of_gt (Nat.lt_of_lt_of_le I.lt hb), I.nofs hb, .inr (Heap.get?_none_of_le (Nat.le_trans I.sz hb)), fun x c e z => ?_, fun p hp z => ?_⟩
 ·obtain ⟨v, q⟩ := I.cell x c e
  exact absurd (Nat.lt_of_lt_of_le q.lt (by rw [z]; exact hb)) (Nat.lt_irrefl _)
 ·exact absurd (Nat.lt_of_lt_of_le (Heap.lt_size (I.pin p hp).1) (by rw [z]; exact hb)) (Nat.lt_irrefl _)
structure Turn (P : Program) (w : World) (K : PySem.W.Frag) (tg : Expr) (J : It) (fp : List Addr) (it : Addr) (tn : Nat -> Heap -> Prop) : Prop where
 mem : it ∈ fp
 obj : ∀ i h, tn i h -> ∀ b ∈ fp, ∃ o, h.get? b = some o /\ ∀ v, o.data ≠ .cell v
 keep : ∀ i h h', tn i h -> (∀ b ∈ fp, ∀ o, h.get? b = some o -> h'.get? b = some o) -> tn i h'
 item : ∀ (X : Cx), X.prog = P -> X.w = w -> X.K = K -> X.calm = true -> ∀ (i : Nat) (pins : List (Addr × Obj)) (s : Shared) (σ : St) (H : Hp) (E : Value -> Shared -> Prop), Inv X pins σ H s -> (∀ b ∈ fp, FpOk X pins H b) -> tn i s.heap -> J.go i H →
  wpAny (model P w) X.A (pyNext (.ref it)) (fun r s1 => ∃ u, r = some u ∧
   wpAny (model P w) X.A (letOwnedTupleGo tg (.ref it) u) (fun _ s2 => ∃ x H', Inv X pins σ H' s2 /\ RelV x u /\ J.yld i H x H' /\ tn (i + 1) s2.heap /\ ∀ b ∈ fp, H' b = none) E s1) E s
 done : ∀ (X : Cx), X.prog = P -> X.w = w -> X.K = K -> X.calm = true -> ∀ (i : Nat) (pins : List (Addr × Obj)) (s : Shared) (σ : St) (H : Hp) (E : Value -> Shared -> Prop), Inv X pins σ H s -> (∀ b ∈ fp, FpOk X pins H b) -> tn i s.heap -> J.stop i H →
  wpAny (model P w) X.A (pyNext (.ref it)) (fun r s1 => r = none /\ Inv X pins σ H s1) E s
 self : ∀ (A : Around) (i : Nat) (s : Shared) (Q : Value -> Shared -> Prop) (E : Value -> Shared -> Prop), tn i s.heap -> Q (.ref it) s -> wpAny (model P w) A (pyIter (.ref it)) Q E s
abbrev TI := St -> Hp -> (It -> Hp -> Prop) -> Prop
def PIE (X : Cx) (pins : List (Addr × Obj)) (σ : St) (tg : Expr) (R : It -> Hp -> Prop) (itv : Value) (s2 : Shared) : Prop :=
 ∃ (it : Addr) (fp : List Addr) (tn : Nat -> Heap -> Prop) (J : It) (H' : Hp), itv = .ref it /\ Inv X pins σ H' s2 /\ Turn X.prog X.w X.K tg J fp it tn /\ tn 0 s2.heap /\ (∀ b ∈ fp, FpOk X pins H' b) /\ R J H'
def PI (X : Cx) (tg iter : Expr) (wi : TI) : Prop :=
 ∀ (pins : List (Addr × Obj)) (s : Shared) (σ : St) (H : Hp) (R : It -> Hp -> Prop), Inv X pins σ H s -> wi σ H R →
  wpAny (model X.prog X.w) X.A (eval iter X.env) (fun v s1 => wpAny (model X.prog X.w) X.A (pyIter v) (PIE X pins σ tg R) X.xe s1) X.xe s
theorem go_of {M : Model} {A : Around} {E : Value -> Shared -> Prop} {s : Shared} {tg : Expr} {it : Addr} {u : Value} {o : Obj} {n : String} {vs : Array Value} {Q : Unit -> Shared -> Prop} (ho : s.heap.get? it = some o) (hc : o.cls = .type n) (hd : o.data = .fields vs)
  (hn : ["enumerate", "zip", "dict_itemiterator", "dict_reverseitemiterator", "odict_iterator", "itertools.zip_longest", "itertools.pairwise"].contains n = false) (hQ : Q () s) : wpAny M A (letOwnedTupleGo tg (.ref it) u) Q E s := by
 unfold letOwnedTupleGo
 cases tg <;> first
  | exact wpAny_pure hQ
  | (cases u <;> first
    | exact wpAny_pure hQ
    | (refine wpAny_bind (wpAny_load ho ?_)
       rw [hc, hd]
       show wpAny M A (if (["enumerate", "zip", "dict_itemiterator", "dict_reverseitemiterator", "odict_iterator", "itertools.zip_longest", "itertools.pairwise"].contains n && vs[0]? == some (rawInt _)) = true then _ else _) Q E s
       rw [if_neg (by intro h; rw [hn, Bool.false_and] at h; cases h)]
       exact wpAny_pure hQ))
def Itl (K : PySem.W.Frag) (a : Addr) : It :=
 ⟨fun i H => ∃ xs x, SqL K H a xs /\ xs[i]? = some x, fun i H x H' => H' = H /\ ∀ xs, SqL K H a xs -> xs[i]? = some x, fun i H => ∃ xs, SqL K H a xs /\ xs.length ≤ i⟩
def Itt (K : PySem.W.Frag) (a : Addr) : It :=
 ⟨fun i H => ∃ xs x, SqT K H a xs /\ xs[i]? = some x, fun i H x H' => H' = H /\ ∀ xs, SqT K H a xs -> xs[i]? = some x, fun i H => ∃ xs, SqT K H a xs /\ xs.length ≤ i⟩
def Itr (lo : Int) (n : Nat) : It := ⟨fun i _ => i < n, fun i H x H' => H' = H /\ x = .int (lo + i), fun i _ => n ≤ i⟩
theorem turn_list {P : Program} {w : World} {K : PySem.W.Frag} {tg : Expr} (a it : Addr) : Turn P w K tg (Itl K a) [it] it (fun i h => h.IsListIter it a i) where
 mem := by simp
 obj := fun i h st b hb => by
  have e : b = it := by simpa using hb
  subst e
  obtain ⟨o, e, c, d⟩ := st
  exact ⟨o, e, fun v z => by rw [d] at z; cases z⟩
 keep := fun i h h' st k => st.at fun o e => k it (by simp) o e
 item := by
  intro X hP hw hK hc i pins s σ H E I hf st hg
  subst hP hw hK
  obtain ⟨xs, x, hq, hx⟩ := hg
  obtain ⟨its, rv, p, hz⟩ := I.list hq
  obtain ⟨u, hu, ru⟩ := rv.get hx
  obtain ⟨f0, f1, f2, f3, f4, f5⟩ := hf it (by simp)
  refine wpAny_pyNext_list_item st p.isList (x := u) (by simpa using hu) fun h' st' sb => ?_
  have I1 : Inv X pins σ H { s with heap := h' } := I.turned (t' := s.toks) (fun b o hb e => (sb.2 b hb).trans e) f0 f1 f3 f4 f5
  obtain ⟨o, e, c, d⟩ := id st'
  exact ⟨u, rfl, go_of (s := { s with heap := h' }) e c d (by decide) ⟨x, H, I1, ru, ⟨rfl, fun ys hy => by rw [I.list_inj hy hq]; exact hx⟩, st', fun b hb => (hf b hb).1⟩⟩
 done := by
  intro X hP hw hK hc i pins s σ H E I hf st hg
  subst hP hw hK
  obtain ⟨xs, hq, hx⟩ := hg
  obtain ⟨its, rv, p, hz⟩ := I.list hq
  obtain ⟨f0, f1, f2, f3, f4, f5⟩ := hf it (by simp)
  have hl := rv.length
  exact wpAny_pyNext_list_end (I.ok.hd hc) st p.isList (by simp; omega) fun h' eb => ⟨rfl, I.turned (t' := s.toks) (fun b o hb e => eb b o hb e) f0 f1 f3 f4 f5⟩
 self := fun _ _ _ _ _ st h => wpAny_pyIter_listiter st h
theorem turn_tuple {P : Program} {w : World} {K : PySem.W.Frag} {tg : Expr} (a it : Addr) : Turn P w K tg (Itt K a) [it] it (fun i h => h.IsTupleIter it a i) where
 mem := by simp
 obj := fun i h st b hb => by
  have e : b = it := by simpa using hb
  subst e
  obtain ⟨o, e, c, d⟩ := st
  exact ⟨o, e, fun v z => by rw [d] at z; cases z⟩
 keep := fun i h h' st k => st.at fun o e => k it (by simp) o e
 item := by
  intro X hP hw hK hc i pins s σ H E I hf st hg
  subst hP hw hK
  obtain ⟨xs, x, hq, hx⟩ := hg
  obtain ⟨its, rv, p, hz⟩ := I.tuple hq
  obtain ⟨u, hu, ru⟩ := rv.get hx
  obtain ⟨f0, f1, f2, f3, f4, f5⟩ := hf it (by simp)
  refine wpAny_pyNext_tuple_item st (show s.heap.IsTuple a its.toArray from p) (x := u) (by simpa using hu) fun h' st' sb => ?_
  have I1 : Inv X pins σ H { s with heap := h' } := I.turned (t' := s.toks) (fun b o hb e => (sb.2 b hb).trans e) f0 f1 f3 f4 f5
  obtain ⟨o, e, c, d⟩ := id st'
  exact ⟨u, rfl, go_of (s := { s with heap := h' }) e c d (by decide) ⟨x, H, I1, ru, ⟨rfl, fun ys hy => by rw [I.tuple_inj hy hq]; exact hx⟩, st', fun b hb => (hf b hb).1⟩⟩
 done := by
  intro X hP hw hK hc i pins s σ H E I hf st hg
  subst hP hw hK
  obtain ⟨xs, hq, hx⟩ := hg
  obtain ⟨its, rv, p, hz⟩ := I.tuple hq
  obtain ⟨f0, f1, f2, f3, f4, f5⟩ := hf it (by simp)
  have hl := rv.length
  exact wpAny_pyNext_tuple_end (I.ok.hd hc) st (show s.heap.IsTuple a its.toArray from p) (by simp; omega) fun h' eb => ⟨rfl, I.turned (t' := s.toks) (fun b o hb e => eb b o hb e) f0 f1 f3 f4 f5⟩
 self := fun _ _ _ _ _ st h => wpAny_pyIter_tupleiter st h
theorem turn_range {P : Program} {w : World} {K : PySem.W.Frag} {tg : Expr} (it : Addr) (lo : Int) (n : Nat) : Turn P w K tg (Itr lo n) [it] it (fun i h => IsRangeIter h it (lo + (i : Nat) * 1) ((n : Int) - (i : Nat)) 1) where
 mem := by simp
 obj := fun i h st b hb => by
  have e : b = it := by simpa using hb
  subst e
  exact ⟨_, st, fun v z => by
   have z' : Data.fields _ = Data.cell v := z
   cases z'⟩
 keep := fun i h h' st k => k it (by simp) _ st
 item := by
  intro X hP hw hK hc i pins s σ H E I hf st hg
  subst hP hw hK
  obtain ⟨f0, f1, f2, f3, f4, f5⟩ := hf it (by simp)
  have W := Walks.range (prog := X.prog) (w := X.w) (I.ok.hd hc) it lo 1 n
  refine W.item i s _ _ hg st fun v h' tk hv st' kk => ?_
  obtain ⟨t, rfl⟩ := hv
  have I1 : Inv X pins σ H { s with heap := h', toks := tk } := I.turned (fun b o hb e => kk b o (by simpa using hb) e) f0 f1 f3 f4 f5
  refine ⟨_, rfl, go_of (s := { s with heap := h', toks := tk }) (n := "range_iterator") st' rfl rfl (by decide) ⟨.int (lo + i), H, I1, ⟨t, ?_⟩, ⟨rfl, rfl⟩, st', fun b hb => (hf b hb).1⟩⟩
  rw [Int.mul_one]
 done := by
  intro X hP hw hK hc i pins s σ H E I hf st hg
  subst hP hw hK
  obtain ⟨f0, f1, f2, f3, f4, f5⟩ := hf it (by simp)
  exact wpAny_pyNext_range_end (I.ok.hd hc) st (by have : n ≤ i := hg; omega) fun h' eb => ⟨rfl, I.turned (t' := s.toks) (fun b o hb e => eb b o hb e) f0 f1 f3 f4 f5⟩
 self := fun _ _ _ _ _ st h => wpAny_pyIter_rangeiter st h
end L2
namespace L2
open PySem PySem.Spec PyProof.Rows
section
variable {X : Cx} {tg : Expr}
def iList (K : PySem.W.Frag) (tl : TE) : TI := fun σ H R => tl σ H fun x H1 => ∃ a, x = .ref a /\ (∃ xs, SqL K H1 a xs) /\ R (Itl K a) H1
def iTup (K : PySem.W.Frag) (tl : TE) : TI := fun σ H R => tl σ H fun x H1 => ∃ a, x = .ref a /\ (∃ xs, SqT K H1 a xs) /\ R (Itt K a) H1
theorem pi_list {l : Expr} {tl : TE} (hl : PE X l tl) : PI X tg l (iList X.K tl) := by
 intro pins s σ H R I h
 refine thn (hl pins s σ H _ I h) fun v s1 ⟨x, H1, I1, r1, q1⟩ => ?_
 obtain ⟨a, e, ⟨xs, hq⟩, q⟩ := q1
 subst e
 cases r1
 obtain ⟨its, rv, p, hz⟩ := I1.list hq
 refine wpAny_pyIter_list p.isList ?_
 refine ⟨s1.heap.objs.size, [s1.heap.objs.size], _, _, H1, rfl, I1.kept (t' := s1.toks) fun b o e => Heap.get?_push_of_some _ e, turn_list a _, ⟨_, Heap.get?_push_size _ rfl, rfl, rfl⟩, fun b hb => ?_, q⟩
 have e : b = s1.heap.objs.size := by simpa using hb
 subst e
 exact I1.fpOk (Nat.le_refl _) (I1.hok.fresh (Nat.le_refl _))
theorem pi_tup {l : Expr} {tl : TE} (hl : PE X l tl) : PI X tg l (iTup X.K tl) := by
 intro pins s σ H R I h
 refine thn (hl pins s σ H _ I h) fun v s1 ⟨x, H1, I1, r1, q1⟩ => ?_
 obtain ⟨a, e, ⟨xs, hq⟩, q⟩ := q1
 subst e
 cases r1
 obtain ⟨its, rv, p, hz⟩ := I1.tuple hq
 refine wpAny_pyIter_tuple (show s1.heap.IsTuple a its.toArray from p) ?_
 refine ⟨s1.heap.objs.size, [s1.heap.objs.size], _, _, H1, rfl, I1.kept (t' := s1.toks) fun b o e => Heap.get?_push_of_some _ e, turn_tuple a _, ⟨_, Heap.get?_push_size _ rfl, rfl, rfl⟩, fun b hb => ?_, q⟩
 have e : b = s1.heap.objs.size := by simpa using hb
 subst e
 exact I1.fpOk (Nat.le_refl _) (I1.hok.fresh (Nat.le_refl _))
theorem range_it {pins : List (Addr × Obj)} {σ : St} {H : Hp} {s : Shared} {R : It -> Hp -> Prop} {E : Value -> Shared -> Prop} {lo hi : Int} {t u v : Tok} {tk : Nat} (I : Inv X pins σ H s) (h1 : -(2 ^ 62) ≤ lo) (h2 : lo < 2 ^ 62) (h3 : -(2 ^ 62) ≤ hi) (h4 : hi < 2 ^ 62)
  (q : R (Itr lo (hi - lo).toNat) H) : wpAny (model X.prog X.w) X.A (pyIter (.ref s.heap.objs.size)) (PIE X pins σ tg R) E { s with heap := s.heap.push { cls := .type "range", data := .fields #[.int lo t, .int hi u, .int 1 v] }, toks := tk } := by
 refine wpAny_pyIter_range (IsRange.new ..) (small_one h1 h2 h3 h4) ?_
 have I1 : Inv X pins σ H { s with heap := s.heap.push { cls := .type "range", data := .fields #[.int lo t, .int hi u, .int 1 v] }, toks := tk } := I.kept fun b o e => Heap.get?_push_of_some _ e
 refine ⟨(s.heap.push { cls := .type "range", data := .fields #[.int lo t, .int hi u, .int 1 v] }).objs.size, [(s.heap.push { cls := .type "range", data := .fields #[.int lo t, .int hi u, .int 1 v] }).objs.size], _, _, H, rfl,
  I1.kept (t' := tk) fun b o e => Heap.get?_push_of_some _ e, turn_range _ lo (hi - lo).toNat, ?_, fun b hb => ?_, q⟩
 ·have e1 : lo + ((0 : Nat) : Int) * 1 = lo := by simp
  have e2 : (((hi - lo).toNat : Nat) : Int) - ((0 : Nat) : Int) = Builtin.Range.rangeSize lo hi 1 := by rw [rangeSize_one]; split <;> omega
  show IsRangeIter _ _ (lo + ((0 : Nat) : Int) * 1) ((((hi - lo).toNat : Nat) : Int) - ((0 : Nat) : Int)) 1
  rw [e1, e2]
  exact Heap.get?_push_size _ rfl
 ·have e : b = (s.heap.push { cls := .type "range", data := .fields #[.int lo t, .int hi u, .int 1 v] }).objs.size := by simpa using hb
  subst e
  exact I1.fpOk (Nat.le_refl _) (I1.hok.fresh (Nat.le_refl _))
def iRng1 (ta : TA) : TI := fun σ H R => ta σ H fun vs H1 => ∃ j : Int, vs = [.int j] /\ -(2 ^ 62) ≤ j /\ j < 2 ^ 62 /\ R (Itr 0 j.toNat) H1
def iRng2 (ta : TA) : TI := fun σ H R => ta σ H fun vs H1 => ∃ i j : Int, vs = [.int i, .int j] /\ (-(2 ^ 62) ≤ i /\ i < 2 ^ 62 /\ -(2 ^ 62) ≤ j /\ j < 2 ^ 62) /\ R (Itr i (j - i).toNat) H1
theorem pi_range1 {a : Expr} {ta : TA} {p pos : Pos} (hg : Gl X "range") (hm : X.mg "range" = none) (ha : PA X [a] ta) (hs : starEach [a] X.env = [(false, eval a X.env)] := by rfl) : PI X tg (.Call (.Name "range" p) [a] [] pos) (iRng1 ta) := by
 intro pins s σ H R I h
 refine Call_ (ld_blt I hg hm boot_range (PyProof.Rows.callWith_type1 (thn (ha pos pins s σ H _ I h) fun us s1 ⟨vs, H1, I1, r1, q1⟩ => ?_) hs rfl))
 obtain ⟨j, e, q1, q2, q⟩ := q1
 subst e
 cases r1 with
 | cons r rr =>
  cases rr
  obtain ⟨t, rfl⟩ := r
  exact call_range_1 (range_it I1 (by omega) (by omega) q1 q2 (by simpa using q))
theorem pi_range2 {a b : Expr} {ta : TA} {p pos : Pos} (hg : Gl X "range") (hm : X.mg "range" = none) (ha : PA X [a, b] ta) (hs : starEach [a, b] X.env = [(false, eval a X.env), (false, eval b X.env)] := by rfl) (hs2 : starEach [b] X.env = [(false, eval b X.env)] := by rfl) :
  PI X tg (.Call (.Name "range" p) [a, b] [] pos) (iRng2 ta) := by
 intro pins s σ H R I h
 refine Call_ (ld_blt I hg hm boot_range (PyProof.Rows.callWith_type1 (thn (ha pos pins s σ H _ I h) fun us s1 ⟨vs, H1, I1, r1, q1⟩ => ?_) (by rw [hs, hs2]) (by rw [hs2]; rfl)))
 obtain ⟨i, j, e, ⟨q1, q2, q3, q4⟩, q⟩ := q1
 subst e
 cases r1 with
 | cons r rr =>
  cases rr with
  | cons r' rr =>
   cases rr
   obtain ⟨t, rfl⟩ := r
   obtain ⟨t', rfl⟩ := r'
   exact call_range_2 (range_it I1 q1 q2 q3 q4 q)
def tFor (wi : TI) (g : TG) (tb : TS) : TS := fun D σ H => wi σ H fun J H1 => ∃ W : Nat -> Nat -> St -> Hp -> Prop, (∃ m, W 0 m σ H1) /\ ∀ i m σ H, W i m σ H →
 (J.stop i H /\ D.nx σ H) ∨ (J.go i H /\ ∃ N : St -> Hp -> Prop, (∀ σ' H', N σ' H' -> ∃ m', m' < m /\ W (i + 1) m' σ' H') /\ ∀ x H', J.yld i H x H' -> g x σ H' fun σ2 H2 => tb { D with nx := N, ct := N, bk := D.nx } σ2 H2)
def pinsAt (fp : List Addr) (h : Heap) : List (Addr × Obj) := fp.filterMap fun b => (h.get? b).map fun o => (b, o)
theorem mem_pinsAt {fp : List Addr} {h : Heap} {b : Addr} {o : Obj} (hb : b ∈ fp) (e : h.get? b = some o) : (b, o) ∈ pinsAt fp h := List.mem_filterMap.mpr ⟨b, hb, by rw [e]; rfl⟩
theorem of_pinsAt {fp : List Addr} {h : Heap} {p : Addr × Obj} (hp : p ∈ pinsAt fp h) : p.1 ∈ fp /\ h.get? p.1 = some p.2 := by
 obtain ⟨b, hb, e⟩ := List.mem_filterMap.mp hp
 cases q : h.get? b with
 | none => rw [q] at e; cases e
 | some o =>
  rw [q] at e
  have e' : (b, o) = p := Option.some.inj e
  subst e'
  exact ⟨hb, q⟩
theorem Inv.pinned {pins : List (Addr × Obj)} {σ : St} {H : Hp} {s : Shared} {fp : List Addr} (I : Inv X pins σ H s) (hf : ∀ b ∈ fp, FpOk X pins H b) (ho : ∀ b ∈ fp, ∃ o, s.heap.get? b = some o /\ ∀ v, o.data ≠ .cell v) : Inv X (pins ++ pinsAt fp s.heap) σ H s :=
 I.pins_of fun p hp => (List.mem_append.mp hp).elim (fun z => I.pin p (List.mem_append_right _ z)) fun z => by
  obtain ⟨hb, e⟩ := of_pinsAt z
  obtain ⟨f0, f1, f2, _⟩ := hf p.1 hb
  obtain ⟨o, e', d⟩ := ho p.1 hb
  rw [e] at e'; cases e'
  exact ⟨e, f0, f1, f2, d⟩
theorem Inv.unpinned {pins pl : List (Addr × Obj)} {σ : St} {H : Hp} {s : Shared} (I : Inv X (pins ++ pl) σ H s) : Inv X pins σ H s := I.pins_of fun p hp => I.pin p (List.mem_append_right _ (List.mem_append_left _ hp))
theorem ps_for {iter : Expr} {body : List Stmt} {wi : TI} {g : TG} {tb : TS} {pos : Pos} (hp : PassesOwn (model X.prog X.w) X.A X.env X.xe) (hc : X.calm = true) (hi : PI X tg iter wi) (hg : PG X tg g) (hb : PSs X body tb)
  (hs : ∀ x, foldedSetIterable iter X.env x = pure x := by intro _; rfl) : PS X (.For tg iter body [] pos) (tFor wi g tb) := by
 intro pins s σ H D I h
 refine wpAny_For (thn (hi pins s σ H _ I h) fun v s1 h1 => thn h1 fun itv s2 h2 => ?_) hs
 obtain ⟨it, fp, tn, J, H2, e, I2, T, st2, f2, W, ⟨m0, w0⟩, turn⟩ := h2
 subst e
 have stat : ∀ {H' : Hp}, (∀ b ∈ fp, H' b = none) -> ∀ b ∈ fp, FpOk X pins H' b := fun hn b hb => ⟨hn b hb, (f2 b hb).2⟩
 refine codeAny_forLoop_any (fun n s' => ∃ i σ' H', Inv X pins σ' H' s' /\ tn i s'.heap /\ (∀ b ∈ fp, H' b = none) /\ W i n σ' H') ?_ m0 ⟨0, σ, H2, I2, st2, fun b hb => (f2 b hb).1, w0⟩
 rintro n s3 ⟨i, σ3, H3, I3, st3, fr3, w3⟩
 rcases turn i n σ3 H3 w3 with ⟨stop, qn⟩ | ⟨go, N, hN, step⟩
 ·refine wpAny_passesOwn hp (thn (T.done X rfl rfl rfl hc i pins s3 σ3 H3 X.xe I3 (stat fr3) st3 stop) fun r s4 ⟨hr, I4⟩ => ?_)
  subst hr
  exact wpAny_execs_nil ⟨σ3, H3, I4, qn⟩
 ·refine wpAny_passesOwn hp (thn (T.item X rfl rfl rfl hc i pins s3 σ3 H3 X.xe I3 (stat fr3) st3 go) fun r s4 ⟨u, hr, h4⟩ => ?_)
  subst hr
  refine wpAny_passesOwn hp (thn h4 fun _ s5 ⟨x, H5, I5, r5, y5, st5, fr5⟩ => ?_)
  have I5' := I5.pinned (stat fr5) (T.obj _ _ st5)
  refine wpAny_passesOwn hp (thn (hg _ s5 σ3 H5 x u _ I5' r5 (step x H5 y5)) fun _ s6 ⟨σ6, H6, I6, q6⟩ => ?_)
  refine wpAny_passesOwn hp (thn (hb _ s6 σ6 H6 _ I6 q6) fun f s7 q7 => ?_)
  have again : ∀ {σ7 : St} {H7 : Hp}, Inv X (pins ++ pinsAt fp s5.heap) σ7 H7 s7 -> N σ7 H7 -> ∃ m, m < n /\ ∃ i σ' H', Inv X pins σ' H' s7 /\ tn i s7.heap /\ (∀ b ∈ fp, H' b = none) /\ W i m σ' H' := fun {σ7 H7} I7 n7 => by
   obtain ⟨m', hm, w7⟩ := hN σ7 H7 n7
   refine ⟨m', hm, i + 1, σ7, H7, I7.unpinned, T.keep _ _ _ st5 fun b hb o e => (I7.pin (b, o) (List.mem_append_right _ (List.mem_append_right _ (mem_pinsAt hb e)))).1, fun b hb => ?_, w7⟩
   obtain ⟨o, e, d⟩ := T.obj _ _ st5 b hb
   exact (I7.pin (b, o) (List.mem_append_right _ (List.mem_append_right _ (mem_pinsAt hb e)))).2.1
  cases f with
  | next => obtain ⟨σ7, H7, I7, n7⟩ := q7; exact again I7 n7
  | cont => obtain ⟨σ7, H7, I7, n7⟩ := q7; exact again I7 n7
  | brk => obtain ⟨σ7, H7, I7, q7⟩ := q7; exact ⟨σ7, H7, I7.unpinned, q7⟩
  | ret v => obtain ⟨x7, σ7, H7, I7, r7, q7⟩ := q7; exact ⟨x7, σ7, H7, I7.unpinned, r7, q7⟩
end
theorem for_list {K : PySem.W.Frag} {a : Addr} {xs : List V} {g : TG} {tb : TS} {D : Ends} {σ : St} {H : Hp} (Pv : Nat -> St -> Hp -> Prop) (h0 : Pv 0 σ H) (hl : ∀ i σ H, i ≤ xs.length -> Pv i σ H -> SqL K H a xs)
  (hs : ∀ i x σ H, xs[i]? = some x -> Pv i σ H -> g x σ H fun σ2 H2 => tb { D with nx := Pv (i + 1), ct := Pv (i + 1), bk := D.nx } σ2 H2) (hd : ∀ σ H, Pv xs.length σ H -> D.nx σ H) :
  ∃ W : Nat -> Nat -> St -> Hp -> Prop, (∃ m, W 0 m σ H) /\ ∀ i m σ H, W i m σ H →
   ((Itl K a).stop i H /\ D.nx σ H) ∨ ((Itl K a).go i H /\ ∃ N : St -> Hp -> Prop, (∀ σ' H', N σ' H' -> ∃ m', m' < m /\ W (i + 1) m' σ' H') /\ ∀ x H', (Itl K a).yld i H x H' -> g x σ H' fun σ2 H2 => tb { D with nx := N, ct := N, bk := D.nx } σ2 H2) := by
 refine ⟨fun i m σ H => m = xs.length - i /\ i ≤ xs.length /\ Pv i σ H, ⟨xs.length, by simp, Nat.zero_le _, h0⟩, ?_⟩
 rintro i m σ H ⟨rfl, hi, p⟩
 have q := hl i σ H hi p
 by_cases hlt : i < xs.length
 ·refine .inr ⟨⟨xs, xs[i], q, by simp [hlt]⟩, Pv (i + 1), fun σ' H' p' => ⟨xs.length - (i + 1), by omega, rfl, hlt, p'⟩, fun x H' y => ?_⟩
  obtain ⟨e, y⟩ := y
  subst e
  exact hs i x σ _ (y xs q) p
 ·have e : i = xs.length := by omega
  subst e
  exact .inl ⟨⟨xs, q, Nat.le_refl _⟩, hd σ H p⟩
theorem for_tup {K : PySem.W.Frag} {a : Addr} {xs : List V} {g : TG} {tb : TS} {D : Ends} {σ : St} {H : Hp} (Pv : Nat -> St -> Hp -> Prop) (h0 : Pv 0 σ H) (hl : ∀ i σ H, i ≤ xs.length -> Pv i σ H -> SqT K H a xs)
  (hs : ∀ i x σ H, xs[i]? = some x -> Pv i σ H -> g x σ H fun σ2 H2 => tb { D with nx := Pv (i + 1), ct := Pv (i + 1), bk := D.nx } σ2 H2) (hd : ∀ σ H, Pv xs.length σ H -> D.nx σ H) :
  ∃ W : Nat -> Nat -> St -> Hp -> Prop, (∃ m, W 0 m σ H) /\ ∀ i m σ H, W i m σ H →
   ((Itt K a).stop i H /\ D.nx σ H) ∨ ((Itt K a).go i H /\ ∃ N : St -> Hp -> Prop, (∀ σ' H', N σ' H' -> ∃ m', m' < m /\ W (i + 1) m' σ' H') /\ ∀ x H', (Itt K a).yld i H x H' -> g x σ H' fun σ2 H2 => tb { D with nx := N, ct := N, bk := D.nx } σ2 H2) := by
 refine ⟨fun i m σ H => m = xs.length - i /\ i ≤ xs.length /\ Pv i σ H, ⟨xs.length, by simp, Nat.zero_le _, h0⟩, ?_⟩
 rintro i m σ H ⟨rfl, hi, p⟩
 have q := hl i σ H hi p
 by_cases hlt : i < xs.length
 ·refine .inr ⟨⟨xs, xs[i], q, by simp [hlt]⟩, Pv (i + 1), fun σ' H' p' => ⟨xs.length - (i + 1), by omega, rfl, hlt, p'⟩, fun x H' y => ?_⟩
  obtain ⟨e, y⟩ := y
  subst e
  exact hs i x σ _ (y xs q) p
 ·have e : i = xs.length := by omega
  subst e
  exact .inl ⟨⟨xs, q, Nat.le_refl _⟩, hd σ H p⟩
theorem for_range {lo : Int} {n : Nat} {g : TG} {tb : TS} {D : Ends} {σ : St} {H : Hp} (Pv : Nat -> St -> Hp -> Prop) (h0 : Pv 0 σ H)
  (hs : ∀ i σ H, i < n -> Pv i σ H -> g (.int (lo + i)) σ H fun σ2 H2 => tb { D with nx := Pv (i + 1), ct := Pv (i + 1), bk := D.nx } σ2 H2) (hd : ∀ σ H, Pv n σ H -> D.nx σ H) :
  ∃ W : Nat -> Nat -> St -> Hp -> Prop, (∃ m, W 0 m σ H) /\ ∀ i m σ H, W i m σ H →
   ((Itr lo n).stop i H /\ D.nx σ H) ∨ ((Itr lo n).go i H /\ ∃ N : St -> Hp -> Prop, (∀ σ' H', N σ' H' -> ∃ m', m' < m /\ W (i + 1) m' σ' H') /\ ∀ x H', (Itr lo n).yld i H x H' -> g x σ H' fun σ2 H2 => tb { D with nx := N, ct := N, bk := D.nx } σ2 H2) := by
 refine ⟨fun i m σ H => m = n - i /\ i ≤ n /\ Pv i σ H, ⟨n, by simp, Nat.zero_le _, h0⟩, ?_⟩
 rintro i m σ H ⟨rfl, hi, p⟩
 by_cases hlt : i < n
 ·refine .inr ⟨hlt, Pv (i + 1), fun σ' H' p' => ⟨n - (i + 1), by omega, rfl, hlt, p'⟩, fun x H' y => ?_⟩
  obtain ⟨e, y⟩ := y
  subst e y
  exact hs i σ _ hlt p
 ·have e : i = n := by omega
  subst e
  exact .inl ⟨Nat.le_refl _, hd σ H p⟩
end L2
namespace L2
open PySem PySem.Spec PyProof.Rows
abbrev R2 := V -> V -> Hp -> VK -> Prop
def OpR (X : Cx) (f : Value -> Value -> Sem Value) (r : R2) : Prop :=
 ∀ (pins : List (Addr × Obj)) (s : Shared) (σ : St) (H : Hp) (x y : V) (v u : Value) (Q : VK), Inv X pins σ H s -> RelV x v -> RelV y u -> r x y H Q →
  wpAny (model X.prog X.w) X.A (f v u) (EP X pins σ Q) X.xe s
def UnR (X : Cx) (f : Value -> Sem Value) (r : V -> Hp -> VK -> Prop) : Prop :=
 ∀ (pins : List (Addr × Obj)) (s : Shared) (σ : St) (H : Hp) (x : V) (v : Value) (Q : VK), Inv X pins σ H s -> RelV x v -> r x H Q →
  wpAny (model X.prog X.w) X.A (f v) (EP X pins σ Q) X.xe s
def CallR (X : Cx) (f : Value) (r : List V -> Hp -> VK -> Prop) : Prop :=
 ∀ (pins : List (Addr × Obj)) (s : Shared) (σ : St) (H : Hp) (xs : List V) (us : List Value) (Q : VK), Inv X pins σ H s -> Vals xs us -> r xs H Q →
  wpAny (model X.prog X.w) X.A (call f us) (EP X pins σ Q) X.xe s
def TruR (X : Cx) (r : V -> Hp -> (Bool -> Hp -> Prop) -> Prop) : Prop :=
 ∀ (pins : List (Addr × Obj)) (s : Shared) (σ : St) (H : Hp) (x : V) (v : Value) (Q : Bool -> Hp -> Prop), Inv X pins σ H s -> RelV x v -> r x H Q →
  wpAny (model X.prog X.w) X.A (truthy v) (TP X pins σ Q) X.xe s
def tOp (r : R2) (ta tb : TE) : TE := fun σ H Q => ta σ H fun x H1 => tb σ H1 fun y H2 => r x y H2 Q
def tUn (r : V -> Hp -> VK -> Prop) (ta : TE) : TE := fun σ H Q => ta σ H fun x H1 => r x H1 Q
def rI (C : Int -> Int -> Prop) (g : Int -> Int -> V) : R2 := fun x y H Q => ∃ i j, x = .int i /\ y = .int j /\ C i j /\ Q (g i j) H
def rI0 (g : Int -> Int -> V) : R2 := fun x y H Q => ∃ i j, x = .int i /\ y = .int j /\ Q (g i j) H
def rU (g : Int -> V) : V -> Hp -> VK -> Prop := fun x H Q => ∃ i, x = .int i /\ Q (g i) H
section
variable {X : Cx} {a b c : Expr} {ta tb tc : TE} {pos : Pos}
theorem binT (ha : PE X a ta) (hb : PE X b tb) {pins : List (Addr × Obj)} {s : Shared} {σ : St} {H : Hp} {R : V -> V -> Hp -> Prop} (I : Inv X pins σ H s)
  (h : ta σ H fun x H1 => tb σ H1 fun y H2 => R x y H2) {Q : Value -> Shared -> Prop} {f : Value -> Value -> Sem Value}
  (hf : ∀ v u s2 x y H2, Inv X pins σ H2 s2 -> RelV x v -> RelV y u -> R x y H2 -> wpAny (model X.prog X.w) X.A (f v u) Q X.xe s2) :
  wpAny (model X.prog X.w) X.A (eval a X.env) (fun v s₁ => wpAny (model X.prog X.w) X.A (eval b X.env) (fun u s₂ => wpAny (model X.prog X.w) X.A (f v u) Q X.xe s₂) X.xe s₁) X.xe s := by
 refine thn (ha pins s σ H _ I h) fun v s1 ⟨x, H1, I1, r1, q1⟩ => ?_
 refine thn (hb pins s1 σ H1 _ I1 q1) fun u s2 ⟨y, H2, I2, r2, q2⟩ => ?_
 exact hf v u s2 x y H2 I2 r1 r2 q2
theorem pe_op {op : Operator} {r : R2} (ho : OpR X (binaryOp op) r) (ha : PE X a ta) (hb : PE X b tb) : PE X (.BinOp a op b pos) (tOp r ta tb) := by
 intro pins s σ H Q I h
 exact wpAny_BinOp (binT ha hb I h fun v u s2 x y H2 I2 rx ry q => ho pins s2 σ H2 x y v u Q I2 rx ry q)
theorem pe_un {op : UnaryOp} {r : V -> Hp -> VK -> Prop} (ho : UnR X (unaryOp op) r) (ha : PE X a ta) : PE X (.UnaryOp op a pos) (tUn r ta) := by
 intro pins s σ H Q I h
 exact UnaryOp_ (thn (ha pins s σ H _ I h) fun v s1 ⟨x, H1, I1, r1, q1⟩ => ho pins s1 σ H1 x v Q I1 r1 q1)
theorem opI {f : Value -> Value -> Sem Value} {C : Int -> Int -> Prop} {g : Int -> Int -> Int}
  (rule : ∀ (i j : Int) (t u : Tok) (s : Shared) (Q : Value -> Shared -> Prop) (E : Value -> Shared -> Prop), C i j -> Q (.int (g i j) s.toks) { s with toks := s.toks + 1 } -> wpAny (model X.prog X.w) X.A (f (.int i t) (.int j u)) Q E s) :
  OpR X f (rI C fun i j => .int (g i j)) := by
 intro pins s σ H x y v u Q I rx ry h
 obtain ⟨i, j, rfl, rfl, hc, q⟩ := h
 obtain ⟨t, rfl⟩ := rx
 obtain ⟨t', rfl⟩ := ry
 exact rule i j t t' s _ _ hc ⟨.int (g i j), H, I.tok _, ⟨_, rfl⟩, q⟩
theorem opI0 {f : Value -> Value -> Sem Value} {g : Int -> Int -> Int}
  (rule : ∀ (i j : Int) (t u : Tok) (s : Shared) (Q : Value -> Shared -> Prop) (E : Value -> Shared -> Prop), Q (.int (g i j) s.toks) { s with toks := s.toks + 1 } -> wpAny (model X.prog X.w) X.A (f (.int i t) (.int j u)) Q E s) :
  OpR X f (rI0 fun i j => .int (g i j)) := by
 intro pins s σ H x y v u Q I rx ry h
 obtain ⟨i, j, rfl, rfl, q⟩ := h
 obtain ⟨t, rfl⟩ := rx
 obtain ⟨t', rfl⟩ := ry
 exact rule i j t t' s _ _ ⟨.int (g i j), H, I.tok _, ⟨_, rfl⟩, q⟩
theorem opB0 {f : Value -> Value -> Sem Value} {g : Int -> Int -> Bool}
  (rule : ∀ (i j : Int) (t u : Tok) (s : Shared) (Q : Value -> Shared -> Prop) (E : Value -> Shared -> Prop), Q (.bool (g i j)) s -> wpAny (model X.prog X.w) X.A (f (.int i t) (.int j u)) Q E s) :
  OpR X f (rI0 fun i j => .bl (g i j)) := by
 intro pins s σ H x y v u Q I rx ry h
 obtain ⟨i, j, rfl, rfl, q⟩ := h
 obtain ⟨t, rfl⟩ := rx
 obtain ⟨t', rfl⟩ := ry
 exact rule i j t t' s _ _ ⟨.bl (g i j), H, I, rfl, q⟩
def CDiv (i j : Int) : Prop := 0 < j /\ j < 1073741824
def CDivN (i j : Int) : Prop := j ≠ 0 /\ j.natAbs < 1073741824
def CPow (i j : Int) : Prop := 0 ≤ j /\ j ≤ 1000000 /\ i.natAbs < 2 ^ 64
def CMul (i j : Int) : Prop := (-(2 ^ 64) < i /\ i < 2 ^ 64) ∨ (-(2 ^ 64) < j /\ j < 2 ^ 64)
theorem CMul.ok {i j : Int} (h : CMul i j) : IntMulOk i j := by
 rcases h with ⟨h1, h2⟩ | ⟨h1, h2⟩
 ·exact .of_left (intBits_le_64 h1 h2)
 ·exact .of_right (intBits_le_64 h1 h2)
theorem op_add : OpR X (binaryOp .Add) (rI0 fun i j => .int (i + j)) := opI0 fun _ _ _ _ _ _ _ q => add_int q
theorem op_sub : OpR X (binaryOp .Sub) (rI0 fun i j => .int (i - j)) := opI0 fun _ _ _ _ _ _ _ q => sub_int q
theorem op_mul : OpR X (binaryOp .Mult) (rI CMul fun i j => .int (i * j)) := opI fun _ _ _ _ _ _ _ hc q => mul_int q hc.ok
theorem op_fdiv : OpR X (binaryOp .FloorDiv) (rI CDiv fun i j => .int (i / j)) := opI fun i j _ _ _ _ _ hc q => by
 have h1 : (0 : Int) < j := hc.1
 have h2 : j < 1073741824 := hc.2
 exact floordiv_int (by omega) (by rw [Int.fdiv_eq_ediv_of_nonneg i (by omega)]; exact q) (.inl (PyProof.noPylong_small (by omega)))
theorem op_mod : OpR X (binaryOp .Mod) (rI (fun _ j => 0 < j) fun i j => .int (i % j)) := opI fun i j _ _ _ _ _ hc q => by
 have h1 : (0 : Int) < j := hc
 exact mod_int' (by omega) (by rw [Int.fmod_eq_emod_of_nonneg i (by omega)]; exact q)
theorem op_pow : OpR X (binaryOp .Pow) (rI CPow fun i j => .int (i ^ j.toNat)) := opI fun _ _ _ _ _ _ _ hc q => pow_int_small hc.1 hc.2.1 hc.2.2 q
theorem unI {f : Value -> Sem Value} {g : Int -> Int}
  (rule : ∀ (i : Int) (t : Tok) (s : Shared) (Q : Value -> Shared -> Prop) (E : Value -> Shared -> Prop), Q (.int (g i) s.toks) { s with toks := s.toks + 1 } -> wpAny (model X.prog X.w) X.A (f (.int i t)) Q E s) :
  UnR X f (rU fun i => .int (g i)) := by
 intro pins s σ H x v Q I rx h
 obtain ⟨i, rfl, q⟩ := h
 obtain ⟨t, rfl⟩ := rx
 exact rule i t s _ _ ⟨.int (g i), H, I.tok _, ⟨_, rfl⟩, q⟩
theorem un_neg : UnR X (unaryOp .USub) (rU fun i => .int (-i)) := unI fun _ _ _ _ _ q => neg_int q
end
def scal : V -> V -> Bool
 | .non, .non => true | .non, .int _ => true | .int _, .non => true | .non, .bl _ => true | .bl _, .non => true | .non, .str _ => true | .str _, .non => true
 | .int _, .int _ => true | .bl _, .bl _ => true | .str _, .str _ => true | .byt _, .byt _ => true
 | .int _, .str _ => true | .str _, .int _ => true | .bl _, .str _ => true | .str _, .bl _ => true
 | _, _ => false
def rEq : R2 := fun x y H Q => scal x y = true /\ Q (.bl (decide (x = y))) H
def rNe : R2 := fun x y H Q => scal x y = true /\ Q (.bl (!decide (x = y))) H
theorem dec_int {i j : Int} : decide (V.int i = V.int j) = (i == j) := by
 rw [Bool.eq_iff_iff]
 simp
theorem dec_bl {i j : Bool} : decide (V.bl i = V.bl j) = (i == j) := by
 rw [Bool.eq_iff_iff]
 simp
theorem dec_str {i j : Str} : decide (V.str i = V.str j) = (i == j) := by
 rw [Bool.eq_iff_iff]
 simp
theorem dec_byt {i j : Array UInt8} : decide (V.byt i = V.byt j) = (i.toList == j.toList) := by
 rw [Bool.eq_iff_iff]
 cases i
 cases j
 simp
section
variable {X : Cx} {a b c : Expr} {ta tb tc : TE} {pos : Pos}
theorem fin_bl {pins : List (Addr × Obj)} {σ : St} {H : Hp} {s : Shared} {Q : VK} {k k' : Bool} (I : Inv X pins σ H s) (q : Q (.bl k) H) (e : k = k') : EP X pins σ Q (.bool k') s := by
 subst e
 exact ⟨.bl k, H, I, rfl, q⟩
theorem op_eq : OpR X (compareOp .Eq) rEq := by
 intro pins s σ H x y v u Q I rx ry h
 obtain ⟨hs, q⟩ := h
 cases x with
 | non =>
  cases rx
  cases y with
  | non => cases ry; exact PySem.EqNone.eq_none_none (fin_bl I q (by simp))
  | bl j => cases ry; exact PySem.EqNone.eq_none_bool (fin_bl I q (by simp))
  | int j => obtain ⟨t', rfl⟩ := ry; exact PySem.EqNone.eq_none_int (fin_bl I q (by simp))
  | str j => obtain ⟨t', rfl⟩ := ry; exact PySem.EqNone.eq_none_str (fin_bl I q (by simp))
  | _ => exact absurd (show false = true from hs) Bool.false_ne_true
 | bl i =>
  cases rx
  cases y with
  | non => cases ry; exact PySem.EqNone.eq_bool_none (fin_bl I q (by simp))
  | bl j => cases ry; exact eq_bool (fin_bl I q dec_bl)
  | str j => obtain ⟨t', rfl⟩ := ry; exact PySem.EqMixed.eq_bool_str (fin_bl I q (by simp))
  | _ => exact absurd (show false = true from hs) Bool.false_ne_true
 | int i =>
  obtain ⟨t, rfl⟩ := rx
  cases y with
  | non => cases ry; exact PySem.EqNone.eq_int_none (fin_bl I q (by simp))
  | int j => obtain ⟨t', rfl⟩ := ry; exact eq_int (fin_bl I q dec_int)
  | str j => obtain ⟨t', rfl⟩ := ry; exact PySem.EqMixed.eq_int_str (fin_bl I q (by simp))
  | _ => exact absurd (show false = true from hs) Bool.false_ne_true
 | str i =>
  obtain ⟨t, rfl⟩ := rx
  cases y with
  | non => cases ry; exact PySem.EqNone.eq_str_none (fin_bl I q (by simp))
  | bl j => cases ry; exact PySem.EqMixed.eq_str_bool (fin_bl I q (by simp))
  | int j => obtain ⟨t', rfl⟩ := ry; exact PySem.EqMixed.eq_str_int (fin_bl I q (by simp))
  | str j => obtain ⟨t', rfl⟩ := ry; exact eq_str (fin_bl I q dec_str)
  | _ => exact absurd (show false = true from hs) Bool.false_ne_true
 | byt i =>
  obtain ⟨t, rfl⟩ := rx
  cases y with
  | byt j => obtain ⟨t', rfl⟩ := ry; exact PySem.W.eq_bytes (fin_bl I q dec_byt)
  | _ => exact absurd (show false = true from hs) Bool.false_ne_true
 | _ => cases y <;> exact absurd (show false = true from hs) Bool.false_ne_true
theorem op_ne : OpR X (compareOp .NotEq) rNe := by
 intro pins s σ H x y v u Q I rx ry h
 obtain ⟨hs, q⟩ := h
 cases x with
 | non =>
  cases rx
  cases y with
  | non => cases ry; exact PySem.EqNone.ne_none_none (fin_bl I q (by simp))
  | bl j => cases ry; exact PySem.EqNone.ne_none_bool (fin_bl I q (by simp))
  | int j => obtain ⟨t', rfl⟩ := ry; exact PySem.EqNone.ne_none_int (fin_bl I q (by simp))
  | str j => obtain ⟨t', rfl⟩ := ry; exact PySem.EqNone.ne_none_str (fin_bl I q (by simp))
  | _ => exact absurd (show false = true from hs) Bool.false_ne_true
 | bl i =>
  cases rx
  cases y with
  | non => cases ry; exact PySem.EqNone.ne_bool_none (fin_bl I q (by simp))
  | bl j => cases ry; exact ne_bool (fin_bl I q (congrArg not dec_bl))
  | str j => obtain ⟨t', rfl⟩ := ry; exact PySem.EqMixed.ne_bool_str (fin_bl I q (by simp))
  | _ => exact absurd (show false = true from hs) Bool.false_ne_true
 | int i =>
  obtain ⟨t, rfl⟩ := rx
  cases y with
  | non => cases ry; exact PySem.EqNone.ne_int_none (fin_bl I q (by simp))
  | int j => obtain ⟨t', rfl⟩ := ry; exact ne_int (fin_bl I q (congrArg not dec_int))
  | str j => obtain ⟨t', rfl⟩ := ry; exact PySem.EqMixed.ne_int_str (fin_bl I q (by simp))
  | _ => exact absurd (show false = true from hs) Bool.false_ne_true
 | str i =>
  obtain ⟨t, rfl⟩ := rx
  cases y with
  | non => cases ry; exact PySem.EqNone.ne_str_none (fin_bl I q (by simp))
  | bl j => cases ry; exact PySem.EqMixed.ne_str_bool (fin_bl I q (by simp))
  | int j => obtain ⟨t', rfl⟩ := ry; exact PySem.EqMixed.ne_str_int (fin_bl I q (by simp))
  | str j => obtain ⟨t', rfl⟩ := ry; exact ne_str (fin_bl I q (congrArg not dec_str))
  | _ => exact absurd (show false = true from hs) Bool.false_ne_true
 | byt i =>
  obtain ⟨t, rfl⟩ := rx
  cases y with
  | byt j => obtain ⟨t', rfl⟩ := ry; exact PySem.W.ne_bytes (fin_bl I q (congrArg not dec_byt))
  | _ => exact absurd (show false = true from hs) Bool.false_ne_true
 | _ => cases y <;> exact absurd (show false = true from hs) Bool.false_ne_true
theorem op_lt : OpR X (compareOp .Lt) (rI0 fun i j => .bl (decide (i < j))) := opB0 fun _ _ _ _ _ _ _ q => lt_int q
theorem op_le : OpR X (compareOp .LtE) (rI0 fun i j => .bl (decide (i ≤ j))) := opB0 fun _ _ _ _ _ _ _ q => le_int q
theorem op_gt : OpR X (compareOp .Gt) (rI0 fun i j => .bl (decide (j < i))) := opB0 fun _ _ _ _ _ _ _ q => gt_int q
theorem op_ge : OpR X (compareOp .GtE) (rI0 fun i j => .bl (decide (j ≤ i))) := opB0 fun _ _ _ _ _ _ _ q => ge_int q
theorem op_isN : OpR X (compareOp .Is) (fun x y H Q => y = .non /\ Q (.bl (decide (x = .non))) H) := by
 intro pins s σ H x y v u Q I rx ry h
 obtain ⟨rfl, q⟩ := h
 cases ry
 refine is_none_gen (fin_bl I q ?_)
 cases x <;> first
  | (cases rx; rfl)
  | (obtain ⟨t, rfl⟩ := rx; rfl)
def isObj : HO -> Bool
 | .lst _ => true
 | .ins _ _ _ => true
 | _ => false
theorem nomark (b : Expr) {op : CmpOp} (h : op ≠ .In := by decide) (h2 : op ≠ .NotIn := by decide) : behindInMarks op b = false := by
 have e1 : (op == CmpOp.In) = false := by cases op <;> first | rfl | exact absurd rfl h
 have e2 : (op == CmpOp.NotIn) = false := by cases op <;> first | rfl | exact absurd rfl h2
 cases b <;> simp [behindInMarks, e1, e2]
theorem pe_cmpR {op : CmpOp} {r : R2} (ho : OpR X (compareOp op) r) (ha : PE X a ta) (hb : PE X b tb) (hm : behindInMarks op b = false) : PE X (.Compare a [op] [b] pos) (tOp r ta tb) := by
 intro pins s σ H Q I h
 exact wpAny_Compare1 (binT ha hb I h fun v u s2 x y H2 I2 rx ry q => ho pins s2 σ H2 x y v u Q I2 rx ry q) hm
def tTest (t : TE) : TT := fun σ H Q => t σ H fun x H' => ∃ k, x = .bl k /\ Q k H'
theorem pt_cmpR {op : CmpOp} {r : R2} (ho : OpR X (compareOp op) r) (ha : PE X a ta) (hb : PE X b tb) (hm : behindInMarks op b = false) : PT X (.Compare a [op] [b] pos) (tTest (tOp r ta tb)) := by
 intro pins s σ H Q I h
 refine wpAny_isTrue_Compare1 (thn (ha pins s σ H _ I h) fun v s1 ⟨x, H1, I1, r1, q1⟩ => thn (hb pins s1 σ H1 _ I1 q1) fun u s2 ⟨y, H2, I2, r2, q2⟩ =>
  thn (ho pins s2 σ H2 x y v u _ I2 r1 r2 q2) fun c s3 ⟨z, H3, I3, r3, k, e, q3⟩ => ?_) hm
 subst e
 cases r3
 exact wpAny_truthy_bool ⟨H3, I3, q3⟩
def tChain (r r' : R2) (ta tb tc : TE) : TE := fun σ H Q => ta σ H fun x H1 => tb σ H1 fun y H2 => r x y H2 fun z H3 => ∃ k, z = .bl k ∧
 (if k = true then tc σ H3 fun w' H4 => r' y w' H4 Q else Q (.bl false) H3)
theorem pt_chain {op op' : CmpOp} {r r' : R2} (ho : OpR X (compareOp op) r) (ho' : OpR X (compareOp op') r') (ha : PE X a ta) (hb : PE X b tb) (hc : PE X c tc)
  (hm : lastMarks [op, op'] [b, c] = false := by with_unfolding_all rfl) : PT X (.Compare a [op, op'] [b, c] pos) (tTest (tChain r r' ta tb tc)) := by
 intro pins s σ H Q I h
 refine isTrue_chain (thn (ha pins s σ H _ I h) fun v s1 ⟨x, H1, I1, r1, q1⟩ => test_link (thn (hb pins s1 σ H1 _ I1 q1) fun u s2 ⟨y, H2, I2, r2, q2⟩ =>
  thn (ho pins s2 σ H2 x y v u _ I2 r1 r2 q2) fun d s3 ⟨z, H3, I3, r3, k, e, q3⟩ => ?_)) hm
 subst e
 cases r3
 refine wpAny_truthy_bool ?_
 cases k with
 | false =>
  obtain ⟨k', e', q'⟩ := q3
  cases e'
  exact ite_ff ⟨H3, I3, q'⟩
 | true =>
  refine ite_tt (test_last (thn (hc pins s3 σ H3 _ I3 q3) fun w' s4 ⟨z', H4, I4, r4, q4⟩ => thn (ho' pins s4 σ H4 y z' u w' _ I4 r2 r4 q4) fun d' s5 ⟨z2, H5, I5, r5, k2, e2, q5⟩ => ?_))
  subst e2
  cases r5
  exact wpAny_truthy_bool ⟨H5, I5, q5⟩
def TruV (K : PySem.W.Frag) (x : V) (H : Hp) (k : Bool) : Prop :=
 match x with
 | .non => k = false
 | .bl b => k = b
 | .int i => k = (i != 0)
 | .str y => y.length ≤ sizeLine /\ k = ((y.length : Int) != 0)
 | .byt y => y.size ≤ sizeLine /\ k = ((y.size : Int) != 0)
 | .ref p => (∃ xs, SqL K H p xs /\ k = !xs.isEmpty) ∨ (∃ xs, SqT K H p xs /\ k = !xs.isEmpty) ∨ ∃ kvs, H p = some (.dK kvs) /\ k = !kvs.isEmpty
 | _ => False
theorem line63 : (sizeLine : Nat) < 2 ^ 63 := by rw [sizeLine_eq]; decide
def PlainIxT (b : Expr) : Prop := ∀ o i, subscripted b false o i = operate [o, i] (getItem o i)
theorem vals1 {x : V} {us : List Value} (r : Vals [x] us) : ∃ u, us = [u] /\ RelV x u := by
 cases r with
 | cons r1 r2 => cases r2; exact ⟨_, rfl, r1⟩
theorem vals2 {x y : V} {us : List Value} (r : Vals [x, y] us) : ∃ u w', us = [u, w'] /\ RelV x u /\ RelV y w' := by
 cases r with
 | cons r1 r2 =>
  cases r2 with
  | cons r3 r4 => cases r4; exact ⟨_, _, rfl, r1, r3⟩
theorem call_abs : CallR X (.builtin "abs") (fun xs H Q => ∃ i, xs = [.int i] /\ Q (.int (if i < 0 then -i else i)) H) := by
 intro pins s σ H xs us Q I r h
 obtain ⟨i, rfl, q⟩ := h
 obtain ⟨u, rfl, t, rfl⟩ := vals1 r
 exact call_abs_int fun u tk => ⟨.int (if i < 0 then -i else i), H, I.tok _, ⟨_, rfl⟩, q⟩
def LenV (K : PySem.W.Frag) (x : V) (H : Hp) (n : Nat) : Prop :=
 match x with
 | .str y => y.length ≤ sizeLine /\ n = y.length
 | .byt y => y.size ≤ sizeLine /\ n = y.size
 | .ref p => (∃ xs, SqL K H p xs /\ n = xs.length) ∨ ∃ xs, SqT K H p xs /\ n = xs.length
 | _ => False
end
end L2
namespace L2
open PySem PySem.Spec PyProof.Rows
structure ObjM (h : Heap) (x dx C : Addr) (mA : Str -> Option Value) : Prop where
 obj : h.get? x = some (PySem.W.instObj C dx)
 ns : h.Ns1 dx mA
 ne : dx ≠ x
theorem lookIn_ns {h : Heap} {dx : Addr} {mA : Str -> Option Value} (n : h.Ns1 dx mA) : ∃ od, h.get? dx = some od /\ ∀ name, PySem.W.lookIn name od = some (mA name) := by
 obtain ⟨o, es, ep, ho, hd, hk, _, hm⟩ := n
 refine ⟨o, ho, fun name => ?_⟩
 have e := hm name
 unfold nsFind findBy at e
 rw [← Array.find?_toList] at e
 unfold PySem.W.lookIn
 rw [hd]
 dsimp only
 split
 ·rename_i y q
  rw [q] at e
  exact congrArg some e
 ·rename_i q
  rw [q] at e
  have a : es.toList.any (·.refKey) = false := by
   rw [List.any_eq_false]
   intro y hy
   obtain ⟨z, t, hkey⟩ := hk y (Array.mem_toList_iff.mp hy)
   simp [DictEntry.refKey, hkey]
  have a' : ¬ es.toList.any (·.refKey) = true := by rw [a]; exact Bool.false_ne_true
  rw [if_neg a']
  exact congrArg some e
theorem ObjM.look {h : Heap} {x dx C : Addr} {mA : Str -> Option Value} (I : ObjM h x dx C mA) : ∃ od, PySem.W.InstAt h x (PySem.W.instObj C dx) C (some od) /\ ∀ name, PySem.W.lookIn name od = some (mA name) :=
 let ⟨od, ho, hl⟩ := lookIn_ns I.ns
 ⟨od, ⟨I.obj, rfl, rfl, ho⟩, hl⟩
section
variable {prog : Program} {w : World} {A : Around} {E : Value -> Shared -> Prop} {s : Shared} {K : PySem.W.Frag} {x dx C f : Addr} {mA : Str -> Option Value} {name : Str} {v : Value}
end
def putF (f : Str) (v : V) : List (Str × V) -> List (Str × V)
 | [] => [(f, v)]
 | (g, x) :: r => if g = f then (g, v) :: r else (g, x) :: putF f v r
section
variable {P : Program} {w : World} {H H' : Hp} {h h' : Heap} {a C dx : Addr} {fs fs' : List (Str × V)}
theorem ins_get (hok : HOk P w H h) (e : H a = some (.ins C dx fs)) : ∃ mA, ObjM h a dx C mA /\ (∀ f, RelO (fs.lookup f) (mA f)) /\ PySem.Within mA (fs.map (·.1)) /\ fs.length ≤ 1000 /\ H dx = some (.own a) := by
 obtain ⟨d, z, ne, ob, mA, n, r, q⟩ := (show ObjOk P w H h a (.ins C dx fs) from hok a _ e)
 exact ⟨mA, ⟨ob, n, ne⟩, r, q, z, d⟩
end
structure Cls (K : PySem.W.Frag) (C : Addr) : Prop where
 pg : PySem.W.plainGet K C Str.empty = true
 hd : PySem.W.hasDictIn K C = true
 po : PySem.W.plainOver K C = true
 sa : PySem.W.findIn K (.ref C) "__setattr__" = some (some (.builtin "object.__setattr__"))
theorem Cls.get {K : PySem.W.Frag} {C : Addr} (c : Cls K C) (f : Str) : PySem.W.plainGet K C f = true := c.pg
def NoAttr (K : PySem.W.Frag) (C : Addr) (f : Str) : Prop := PySem.W.findIn K (.ref C) f = some none
structure Con (K : PySem.W.Frag) (C : Addr) (f : Str) (v : V) (u : Value) : Prop where
 at_ : PySem.W.findIn K (.ref C) f = some (some u)
 rel : RelV v u
 get : PySem.W.specialIn K u "__get__" = some none
 cp : PySem.W.copiedNames.contains f = false
structure Meth (K : PySem.W.Frag) (C : Addr) (m : Str) (f : Addr) : Prop where
 at_ : PySem.W.findIn K (.ref C) m = some (some (.ref f))
 fn : PySem.W.isFn K (.ref f) = true
 kp : PySem.W.keepIn K (.ref f) = true
section
variable {X : Cx} {pins : List (Addr × Obj)} {σ : St} {H : Hp} {s : Shared} {a C dx : Addr} {fs : List (Str × V)} {f : Str} {v : V} {A : Around} {E : Value -> Shared -> Prop}
end
def tFld (K : PySem.W.Frag) (ta : TE) (f : Str) : TE := fun σ H Q => ta σ H fun x H1 => ∃ a C dx fs v, x = .ref a /\ H1 a = some (.ins C dx fs) /\ Cls K C /\ NoAttr K C f /\ fs.lookup f = some v /\ Q v H1
def tCon (K : PySem.W.Frag) (ta : TE) (f : Str) : TE := fun σ H Q => ta σ H fun x H1 => ∃ a C dx fs v u, x = .ref a /\ H1 a = some (.ins C dx fs) /\ Cls K C /\ Con K C f v u /\ fs.lookup f = none /\ Q v H1
def sFld (K : PySem.W.Frag) (ta tv : TE) (f : Str) : TS := fun D σ H => tv σ H fun y H1 => ta σ H1 fun x H2 => ∃ a C dx fs, x = .ref a /\ H2 a = some (.ins C dx fs) /\ Cls K C /\ NoAttr K C f /\ fs.length < 1000 ∧
 D.nx σ (upd H2 a (.ins C dx (putF f y fs)))
def InOp (X : Cx) (op : Operator) (rd : V -> V -> Hp -> VK -> Prop) : Prop :=
 ∀ (pins : List (Addr × Obj)) (s : Shared) (σ : St) (H : Hp) (x y : V) (u v : Value) (Q : VK), Inv X pins σ H s -> RelV x u -> RelV y v -> rd x y H Q -> wpAny (model X.prog X.w) X.A (inplaceOp op u v) (EP X pins σ Q) X.xe s
def sFldAug (K : PySem.W.Frag) (ta tv : TE) (rd : V -> V -> Hp -> VK -> Prop) (f : Str) : TS := fun D σ H => ta σ H fun x H1 => ∃ a C dx fs v, x = .ref a /\ H1 a = some (.ins C dx fs) /\ Cls K C /\ NoAttr K C f /\ fs.lookup f = some v ∧
 tv σ H1 fun y H2 => rd v y H2 fun z H3 => ∃ dx' fs', H3 a = some (.ins C dx' fs') /\ fs'.length < 1000 /\ D.nx σ (upd H3 a (.ins C dx' (putF f z fs')))
section
variable {X : Cx} {o e value : Expr} {f : Str} {pos pos' tpos : Pos} {ta tv : TE}
def rAdd : V -> V -> Hp -> VK -> Prop := fun x y H Q => ∃ i j, x = .int i /\ y = .int j /\ Q (.int (i + j)) H
def rSub : V -> V -> Hp -> VK -> Prop := fun x y H Q => ∃ i j, x = .int i /\ y = .int j /\ Q (.int (i - j)) H
end
section
variable {X : Cx} {pins : List (Addr × Obj)} {σ : St} {H : Hp} {s : Shared} {A : Around} {E : Value -> Shared -> Prop} {Q : Value -> Shared -> Prop} {c : Value} {b : Bool}
inductive TyOf (K : PySem.W.Frag) (H : Hp) : V -> Value -> Prop where
 | non : TyOf K H .non (.type "NoneType")
 | bl (x : Bool) : TyOf K H (.bl x) (.type "bool")
 | int (i : Int) : TyOf K H (.int i) (.type "int")
 | str (x : Str) : TyOf K H (.str x) (.type "str")
 | flt (x : UInt64) : TyOf K H (.flt x) (.type "float")
 | lst {a : Addr} {xs : List V} (e : H a = some (.lst xs)) : TyOf K H (.ref a) (.type "list")
 | frz {a : Addr} {o : Obj} {xs : List V} (e : H a = some (.frz o (.lst xs))) : TyOf K H (.ref a) (.type "list")
 | tup {a : Addr} {xs : List V} (e : H a = some (.tup xs)) : TyOf K H (.ref a) (.type "tuple")
 | dK {a : Addr} {kvs : List (Key × V)} (e : H a = some (.dK kvs)) : TyOf K H (.ref a) (.type "dict")
 | dT {a : Addr} {kvs : List (List Key × V)} (e : H a = some (.dT kvs)) : TyOf K H (.ref a) (.type "dict")
 | ins {a C dx : Addr} {fs : List (Str × V)} (e : H a = some (.ins C dx fs)) (cl : Cls K C) (ha : PySem.W.findIn K (.ref C) "__class__" = some (some (.builtin "object.__class__")))
   (hn : PySem.W.specialIn K (.builtin "object.__class__") "__get__" = some (some (.builtin "getset_descriptor.__get__"))) (htk : PySem.W.takesIn K (.builtin "object.__class__") = some true)
   (hm : PySem.W.mroIn K C (.type "object") = some true) : TyOf K H (.ref a) (.ref C)
theorem isinst_ok {x : V} {u t : Value} (I : Inv X pins σ H s) (rx : RelV x u) (ty : TyOf X.K H x t) (e : PySem.W.kitOne X.K t c = some b) (h : ∀ tk, Q (.bool b) { s with toks := tk }) :
  wpAny (model X.prog X.w) A (call (.builtin "isinstance") [u, c]) Q E s := by
 cases ty with
 | non => cases (show u = Value.none from rx); exact PySem.W.kia_one PySem.W.kitx_none I.kIn True.intro e (fun z => nomatch z) h
 | bl y => cases (show u = Value.bool y from rx); exact PySem.W.kia_one PySem.W.kitx_bool I.kIn True.intro e (fun z => nomatch z) h
 | int i => obtain ⟨t, q⟩ := (show ∃ t, u = Value.int i t from rx); cases q; exact PySem.W.kia_one PySem.W.kitx_int I.kIn True.intro e (fun z => nomatch z) h
 | str y => obtain ⟨t, q⟩ := (show ∃ t, u = Value.str y t from rx); cases q; exact PySem.W.kia_one PySem.W.kitx_str I.kIn True.intro e (fun z => nomatch z) h
 | flt y => obtain ⟨t, q⟩ := (show ∃ t, u = Value.float y t from rx); cases q; exact PySem.W.kia_one PySem.W.kitx_float I.kIn True.intro e (fun z => nomatch z) h
 | @lst a xs ea =>
  cases (show u = Value.ref a from rx)
  obtain ⟨_, _, n, _, h1⟩ := (show ObjOk X.prog X.w H s.heap a (.lst xs) from I.hok a _ ea)
  exact PySem.W.kia_one PySem.W.kitx_list I.kIn ⟨_, h1, rfl⟩ e (fun z => nomatch z) h
 | @frz a ob xs ea =>
  cases (show u = Value.ref a from rx)
  obtain ⟨_, _, _, n, _, h1⟩ := (show ObjOk X.prog X.w H s.heap a (.frz ob (.lst xs)) from I.hok a _ ea)
  exact PySem.W.kia_one PySem.W.kitx_list I.kIn ⟨_, h1, rfl⟩ e (fun z => nomatch z) h
 | @tup a xs ea =>
  cases (show u = Value.ref a from rx)
  obtain ⟨_, _, _, p⟩ := (show ObjOk X.prog X.w H s.heap a (.tup xs) from I.hok a _ ea)
  obtain ⟨o, h1, h2, _⟩ := p
  exact PySem.W.kia_one PySem.W.kitx_tuple I.kIn ⟨o, h1, h2⟩ e (fun z => nomatch z) h
 | @dK a kvs ea =>
  cases (show u = Value.ref a from rx)
  obtain ⟨_, _, vs, _, p⟩ := (show ObjOk X.prog X.w H s.heap a (.dK kvs) from I.hok a _ ea)
  obtain ⟨o, es, ep, h1, h2, _⟩ := p
  exact PySem.W.kia_one PySem.W.kitx_dict I.kIn ⟨o, h1, h2.1⟩ e (fun z => nomatch z) h
 | @dT a kvs ea =>
  cases (show u = Value.ref a from rx)
  obtain ⟨_, _, xs, _, o, es, ep, h1, h2, _⟩ := (show ObjOk X.prog X.w H s.heap a (.dT kvs) from I.hok a _ ea)
  exact PySem.W.kia_one PySem.W.kitx_dict I.kIn ⟨o, h1, h2.1⟩ e (fun z => nomatch z) h
 | @ins a C dx fs ea cl ha hn htk hm =>
  cases (show u = Value.ref a from rx)
  obtain ⟨mA, O, _⟩ := ins_get I.hok ea
  obtain ⟨od, J, _⟩ := O.look
  exact PySem.W.kia_one (PySem.W.kitx_own (cl.get _) cl.hd ha hn htk hm) I.kIn J e (fun z => nomatch z) h
end
end L2
namespace L2
open PySem PySem.Spec PyProof.Rows
structure Room (k : Nat) (A : Around) : Prop where
 hd : A.handled = none
 dp : A.depth + 3 * k + 5 < recursionLimit
 un : A.units + 16 * k + 200 < cLine
 gd : A.guards = some []
theorem Room.mono {j k : Nat} {A : Around} (r : Room k A) (h : j ≤ k) : Room j A := ⟨r.hd, by have := r.dp; omega, by have := r.un; omega, r.gd⟩
theorem Room.deeper {k : Nat} {A : Around} (r : Room (k + 1) A) (env : Env) : Room k (A.deeper env) :=
 ⟨r.hd, by have := r.dp; show A.depth + 1 + 3 * k + 5 < _; omega, by have := r.un; show A.units + 3 + 16 * k + 200 < _; omega, r.gd⟩
theorem Room.depth {k : Nat} {A : Around} (r : Room k A) : A.depth < recursionLimit := by have := r.dp; omega
theorem Room.units {k : Nat} {A : Around} (r : Room k A) : A.units + 64 < cLine := by have := r.un; omega
def tNil : TA := fun _ H Q => Q [] H
def tCons (ta : TE) (tr : TA) : TA := fun σ H Q => ta σ H fun x H1 => tr σ H1 fun xs H2 => Q (x :: xs) H2
section
variable {X : Cx} {e : Expr} {es : List Expr} {te : TE} {t : TA} {pos : Pos}
theorem pa_nil : PA X [] tNil := fun _ _ _ _ H Q I h => Calls.spliced_nil ⟨[], H, I, .nil, h⟩
theorem pa_cons (ha : PE X e te) (hr : PA X es t) (hs : starEach (e :: es) X.env = (false, eval e X.env) :: starEach es X.env := by rfl) : PA X (e :: es) (tCons te t) := by
 intro pos pins s σ H Q I h
 rw [hs]
 show wpAny _ _ (spliced ((false, eval e X.env) :: backTo pos (starEach es X.env))) _ _ s
 refine Calls.spliced_cons (thn (ha pins s σ H _ I h) fun u s1 ⟨x, H1, I1, r1, q1⟩ => ?_)
 exact thn (hr pos pins s1 σ H1 _ I1 q1) fun us s2 ⟨xs, H2, I2, r2, q2⟩ => ⟨x :: xs, H2, I2, .cons r1 r2, q2⟩
def tTup (t : TA) : TE := fun σ H Q => t σ H fun xs H1 => xs.length ≤ sizeLine /\ ∀ p, H1 p = none -> Q (.ref p) (upd H1 p (.tup xs))
def tLst (t : TA) : TE := fun σ H Q => t σ H fun xs H1 => xs.length ≤ sizeLine /\ ∀ p, H1 p = none -> Q (.ref p) (upd H1 p (.lst xs))
theorem pe_tup {x1} (h : PA X es t) : PE X (.Tuple es x1 pos) (tTup t) := by
 intro pins s σ H Q I hq
 refine wpAny_Tuple_spliced (thn (h pos pins s σ H _ I hq) fun us s1 ⟨xs, H1, I1, r, z, q⟩ => ⟨by rw [← r.length]; exact z, ?_⟩)
 have hf : H1 s1.heap.objs.size = none := I1.hok.fresh (Nat.le_refl _)
 refine ⟨.ref s1.heap.objs.size, upd H1 s1.heap.objs.size (.tup xs), I1.laid (t' := s1.toks) (fun b u e => Heap.get?_push_of_some _ e) (Nat.le_refl _) ?_, rfl, q _ hf⟩
 exact ⟨z, us, r, ⟨_, Heap.get?_push_size _ rfl, rfl, _, rfl⟩⟩
theorem pe_lst (h : PA X es t) : PE X (.List es pos) (tLst t) := by
 intro pins s σ H Q I hq
 refine wpAny_List_spliced (thn (h pos pins s σ H _ I hq) fun us s1 ⟨xs, H1, I1, r, z, q⟩ => ⟨by rw [← r.length]; exact z, ?_⟩)
 have hf : H1 s1.heap.objs.size = none := I1.hok.fresh (Nat.le_refl _)
 refine ⟨.ref s1.heap.objs.size, upd H1 s1.heap.objs.size (.lst xs), I1.laid (t' := s1.toks) (fun b u e => Heap.get?_push_of_some _ e) (Nat.le_refl _) ?_, rfl, q _ hf⟩
 exact ⟨z, us, 0, r, Heap.get?_push_size _ rfl⟩
end
abbrev Sp := List V -> Hp -> VK -> XK -> Prop
abbrev CXT := List Env -> Hp -> Shared -> XK -> Value -> Shared -> Prop
structure Env0 (P : Program) (w : World) (K : PySem.W.Frag) (mg : Str -> Option Value) (base : Heap) (A : Around) (outer : List Env) (s : Shared) (H : Hp) : Prop where
 frames : A.frames = some outer
 mod : Mod K mg base
 bs : ∀ b o, base.get? b = some o -> s.heap.get? b = some o /\ H b = none
 bsz : base.objs.size ≤ s.heap.objs.size
 funs : s.heap.FunFrames base outer
 frf : ∀ b ∈ frs outer, H b = none
 hok : HOk P w H s.heap
 bare : AllBare s.gens
def CE (outer : List Env) (P : Program) (w : World) (H : Hp) (s : Shared) (Q : VK) (u : Value) (s' : Shared) : Prop :=
 ∃ v H', s'.os = s.os /\ AllBare s'.gens /\ Un (frs outer) [] H H' s.heap s'.heap /\ HOk P w H' s'.heap /\ RelV v u /\ Q v H'
def CR (CX : CXT) (outer : List Env) (P : Program) (w : World) (H : Hp) (s : Shared) (Q : VK) (E : XK) (r : Result) (s' : Shared) : Prop :=
 match r with
 | .ok (.ret u) => CE outer P w H s Q u s'
 | .ok _ => False
 | .error e => CX outer H s E e s'
structure FnOk (P : Program) (w : World) (K : PySem.W.Frag) (mg : Str -> Option Value) (base : Heap) (CX : CXT) (k : Nat) (f : Addr) (fd : FuncData) (ps : List Str) (sp : Sp) : Prop where
 len : ∀ vs H Q E, sp vs H Q E -> vs.length = ps.length
 run : ∀ (A : Around) (outer : List Env) (s : Shared) (H : Hp) (args : Args) (us : List Value) (vs : List V) (Q : VK) (E : XK), Room k A -> Env0 P w K mg base A outer s H -> BindsTo s fd args (ps.zip us) -> Vals vs us -> sp vs H Q E →
  codeAny (model P w) A (.call (.ref f) args) (CR CX outer P w H s Q E) s
section
variable {X : Cx} {pins : List (Addr × Obj)} {σ : St} {H : Hp} {s s' : Shared}
theorem Inv.env0 (I : Inv X pins σ H s) : Env0 X.prog X.w X.K X.mg X.base X.A X.stack s H :=
 ⟨I.ok.frames, I.ok.mod, I.bs, Nat.le_trans I.ok.bsz I.sz, I.stack, I.stkFree, I.hok, I.bare⟩
theorem Inv.after {Q : VK} {u : Value} (I : Inv X pins σ H s) (h : CE X.stack X.prog X.w H s Q u s') : EP X pins σ Q u s' := by
 obtain ⟨v, H', os, bare, un, hok, r, q⟩ := h
 obtain ⟨hh, g, d, t, os'⟩ := s'
 obtain rfl : os' = s.os := os
 exact ⟨v, H', I.call (h' := hh) (g' := g) (d' := d) (t' := t) (ch := []) un hok bare (fun b z => absurd z (by simp)), r, q⟩
end
def tCall (sp : Sp) (dvs : List V) (E : XK) (t : TA) : TE := fun σ H Q => t σ H fun vs H1 => sp (vs ++ dvs) H1 Q E
def tMeth (C : Addr) (m : Str) (sp : Sp) (dvs : List V) (E : XK) (ta : TE) (t : TA) : TE := fun σ H Q => ta σ H fun x H1 => ∃ a dx fs, x = .ref a /\ H1 a = some (.ins C dx fs) /\ fs.lookup m = none ∧
 t σ H1 fun vs H2 => sp (x :: (vs ++ dvs)) H2 Q E
def tMake (C : Addr) (sp : Sp) (dvs : List V) (E : XK) (t : TA) : TE := fun σ H Q => t σ H fun vs H1 => ∀ x dx, H1 x = none -> H1 dx = none -> dx ≠ x →
 sp (.ref x :: (vs ++ dvs)) (upd (upd H1 dx (.own x)) x (.ins C dx [])) (fun v H2 => v = .non /\ Q (.ref x) H2) E
def Binds (K : PySem.W.Frag) (fd : FuncData) (ps : List Str) (ds : List Value) : Prop :=
 ∀ (s : Shared) (us : List Value), K.In s.heap -> (us ++ ds).length = ps.length -> BindsTo s fd ⟨us, []⟩ (ps.zip (us ++ ds))
theorem Binds.all {K : PySem.W.Frag} {fd : FuncData} {ps : List Str} (h : ∀ us : List Value, us.length = ps.length -> bindArgs fd ⟨us, []⟩ = pure (ps.zip us)) : Binds K fd ps [] := fun s us _ hl => by
 rw [List.append_nil] at hl ⊢
 exact .of_eq (h us hl)
def Passes (CX : CXT) (X : Cx) (E : XK) : Prop := ∀ (pins : List (Addr × Obj)) (σ : St) (H : Hp) (s : Shared) (e : Value) (s' : Shared), Inv X pins σ H s -> CX X.stack H s E e s' -> X.xe e s'
section
variable {X : Cx} {CX : CXT} {k : Nat} {f C : Addr} {fd : FuncData} {ps : List Str} {sp : Sp} {dvs : List V} {ds : List Value} {E : XK} {x m : Str} {p pos apos : Pos} {e o : Expr} {es : List Expr} {ta : TE} {t : TA}
theorem run_fn {pins : List (Addr × Obj)} {σ : St} {H : Hp} {s : Shared} {Q : VK} {us : List Value} {vs : List V} (F : FnOk X.prog X.w X.K X.mg X.base CX k f fd ps sp) (hr : Room k X.A) (hb : Binds X.K fd ps ds) (hd : Vals dvs ds) (hx : Passes CX X E)
  (I : Inv X pins σ H s) (r : Vals vs us) (h : sp (vs ++ dvs) H Q E) : wpAny (model X.prog X.w) X.A (call (.ref f) us) (EP X pins σ Q) X.xe s := by
 have r2 : Vals (vs ++ dvs) (us ++ ds) := r.append hd
 have hl : (us ++ ds).length = ps.length := by rw [← r2.length]; exact F.len _ _ _ _ h
 refine wpAny_call (codeAny_mono (F.run X.A X.stack s H ⟨us, []⟩ (us ++ ds) (vs ++ dvs) Q E hr I.env0 (hb s us I.kIn hl) r2 h) fun r s' hq => ?_)
 cases r with
 | error e => exact hx pins σ H s e s' I hq
 | ok fl =>
  cases fl with
  | ret u => exact I.after hq
  | next => exact False.elim hq
  | brk => exact False.elim hq
  | cont => exact False.elim hq
theorem pe_call (F : FnOk X.prog X.w X.K X.mg X.base CX k f fd ps sp) (hr : Room k X.A) (hg : Gl X x) (hm : X.mg x = some (.ref f)) (hk : PySem.W.keepIn X.K (.ref f) = true) (hb : Binds X.K fd ps ds) (hd : Vals dvs ds) (hx : Passes CX X E)
  (ha : PA X (e :: es) t) (hdb : (x == ("__debug__" : Str)) = false := by decide) (he : starEach (e :: es) X.env = (false, eval e X.env) :: starEach es X.env := by rfl) (hpl : (backTo pos (starEach es X.env)).any (·.1) = false := by rfl) :
  PE X (.Call (.Name x p) (e :: es) [] pos) (tCall sp dvs E t) := by
 intro pins s σ H Q I h
 refine wpAny_Call_Name_kw (ld_glob I hg hm ?_ hdb)
 refine PySem.W.callWith_K (h₀ := X.base) I.ok.mod.kin hk (thn (ha pos pins s σ H _ I h) fun us s1 ⟨vs, H1, I1, r, q⟩ => ⟨I1.kIn, ?_⟩) he hpl
 exact run_fn F hr hb hd hx I1 r q
structure Mk (K : PySem.W.Frag) (C f : Addr) : Prop where
 makes : PySem.W.makesIn K C = true
 init : PySem.W.findIn K (.ref C) "__init__" = some (some (.ref f))
 fn : PySem.W.isFn K (.ref f) = true
 kp : PySem.W.keepIn K (.ref C) = true
end
def PK (X : Cx) (kws : List Keyword) (t : TA) : Prop :=
 ∀ (pos : Pos) (pins : List (Addr × Obj)) (s : Shared) (σ : St) (H : Hp) (Q : List V -> Hp -> Prop), Inv X pins σ H s -> t σ H Q -> wpAny (model X.prog X.w) X.A (evalAll ((backToKw pos (keywordEach kws X.env)).map (·.2))) (AP X pins σ Q) X.xe s
section
variable {X : Cx} {CX : CXT} {k : Nat} {f C : Addr} {fd : FuncData} {ps ks : List Str} {sp : Sp} {E : XK} {x m : Str} {p pos apos kpos : Pos} {e o : Expr} {es : List Expr} {kws : List Keyword} {te ta : TE} {t tk : TA} {nm : Option Str}
structure KBinds (K : PySem.W.Frag) (fd : FuncData) (ps ks : List Str) (g : List Value -> List Value -> List Value) (gV : List V -> List V -> List V) : Prop where
 to : ∀ (s : Shared) (us ws : List Value), K.In s.heap -> (g us ws).length = ps.length -> BindsTo s fd ⟨us, ks.zip ws⟩ (ps.zip (g us ws))
 rel : ∀ {vs : List V} {us : List Value} {zs : List V} {ws : List Value}, Vals vs us -> Vals zs ws -> Vals (gV vs zs) (g us ws)
def tCallK (sp : Sp) (gV : List V -> List V -> List V) (E : XK) (t tk : TA) : TE := fun σ H Q => t σ H fun vs H1 => tk σ H1 fun zs H2 => sp (gV vs zs) H2 Q E
variable {g : List Value -> List Value -> List Value} {gV : List V -> List V -> List V}
end
structure FnScope (N P : List Str) (sc : Scope) : Prop where
 kind : sc.kind = .function
 co : sc.isCoroutine = false
 gen : sc.isGenerator = false
 nd : N.Nodup
 pre : N.take P.length = P
 par : ∀ x ∈ P, sc.names.lookup x = some .local ∨ sc.names.lookup x = some .cell
 nofree : ∀ y ∈ sc.names, y.2 ≠ .free
theorem bindL_out {kindOf : Str -> Option NameKind} {x : Str} : ∀ {binds : List (Str × Value)} {m : Str -> Option Value}, (∀ v, (x, v) ∉ binds) -> bindL kindOf binds m x = m x
 | [], _, _ => rfl
 | (n, v) :: r, m, h => by
  unfold bindL
  rw [bindL_out fun w hw => h w (List.mem_cons_of_mem _ hw)]
  split
  ·have : x ≠ n := by rintro rfl; exact h v List.mem_cons_self
   simp [this]
  ·rfl
theorem bindC_out {kindOf : Str -> Option NameKind} {x : Str} : ∀ {binds : List (Str × Value)} {m : Str -> Option Value}, (∀ v, (x, v) ∉ binds) -> bindC kindOf binds m x = m x
 | [], _, _ => rfl
 | (n, v) :: r, m, h => by
  unfold bindC
  rw [bindC_out fun w hw => h w (List.mem_cons_of_mem _ hw)]
  split
  ·rfl
  ·have : x ≠ n := by rintro rfl; exact h v List.mem_cons_self
   simp [this]
theorem bindL_get {kindOf : Str -> Option NameKind} {x : Str} {v : Value} : ∀ {P : List Str} {vs : List Value} {i : Nat} {m : Str -> Option Value}, P.Nodup -> P[i]? = some x -> vs[i]? = some v -> kindOf x = some .local →
  bindL kindOf (P.zip vs) m x = some v
 | [], _, _, _, _, h, _, _ => by simp at h
 | _ :: _, [], _, _, _, _, h, _ => by simp at h
 | p :: P, w :: vs, 0, m, nd, h1, h2, hk => by
  simp at h1 h2; subst h1; subst h2
  show bindL kindOf ((p, w) :: P.zip vs) m p = _
  unfold bindL
  rw [bindL_out fun v hv => (List.nodup_cons.mp nd).1 (List.of_mem_zip hv).1, if_pos hk]
  simp
 | p :: P, w :: vs, i + 1, m, nd, h1, h2, hk => by
  show bindL kindOf ((p, w) :: P.zip vs) m x = _
  unfold bindL
  exact bindL_get (i := i) (List.nodup_cons.mp nd).2 (by simpa using h1) (by simpa using h2) hk
theorem bindC_get {kindOf : Str -> Option NameKind} {x : Str} {v : Value} : ∀ {P : List Str} {vs : List Value} {i : Nat} {m : Str -> Option Value}, P.Nodup -> P[i]? = some x -> vs[i]? = some v -> kindOf x ≠ some .local →
  bindC kindOf (P.zip vs) m x = some v
 | [], _, _, _, _, h, _, _ => by simp at h
 | _ :: _, [], _, _, _, _, h, _ => by simp at h
 | p :: P, w :: vs, 0, m, nd, h1, h2, hk => by
  simp at h1 h2; subst h1; subst h2
  show bindC kindOf ((p, w) :: P.zip vs) m p = _
  unfold bindC
  rw [bindC_out fun v hv => (List.nodup_cons.mp nd).1 (List.of_mem_zip hv).1, if_neg hk]
  simp
 | p :: P, w :: vs, i + 1, m, nd, h1, h2, hk => by
  show bindC kindOf ((p, w) :: P.zip vs) m x = _
  unfold bindC
  exact bindC_get (i := i) (List.nodup_cons.mp nd).2 (by simpa using h1) (by simpa using h2) hk
def start (N : List Str) (vs : List V) : St := vs.map some ++ List.replicate (N.length - vs.length) none
def cxOf (CX : CXT) (P : Program) (w : World) (K : PySem.W.Frag) (mg : Str -> Option Value) (base : Heap) (N : List Str) (qual : Str) (scope : Scope) (f : Addr) (cd : Value) (A : Around) (outer : List Env) (s : Shared) (H : Hp) (E : XK) : Cx where
 prog := P
 w := w
 K := K
 mg := mg
 base := base
 A := A.deeper (envOfC qual scope s.heap.objs.size f cd)
 N := N
 s₀ := s
 H₀ := H
 env := envOfC qual scope s.heap.objs.size f cd
 outer := outer
 stack := envOfC qual scope s.heap.objs.size f cd :: outer
 ex := []
 calm := true
 fn := fun _ => true
 pn := []
 xe := fun e s' => wpAny (model P w) (A.deeper (envOfC qual scope s.heap.objs.size f cd)) (leaving (envOfC qual scope s.heap.objs.size f cd) e) (fun _ s'' => CX outer H s E e s'') (fun e' s'' => CX outer H s E e' s'') s'
theorem cell_has {sc : Scope} {n : Nat} {x : Str} (h : sc.names.lookup x = some .cell) : ∃ c, (cellsFrom n sc.names []).lookup x = some c := by
 have q := PySem.W.cellsFrom_some sc.names n [] (.inl h)
 exact Option.isSome_iff_exists.mp q
theorem inv_start {CX : CXT} {P : Program} {w : World} {K : PySem.W.Frag} {mg : Str -> Option Value} {base : Heap} {N ps : List Str} {qual : Str} {scope : Scope} {f : Addr} {cd : Value} {A : Around} {outer : List Env} {s s1 : Shared} {H : Hp} {E : XK} {us : List Value} {vs : List V}
  (S : FnScope N ps scope) (hd : A.handled = none) (e0 : Env0 P w K mg base A outer s H) (hl : vs.length = ps.length) (r : Vals vs us)
  (x : InCallC s s.heap.objs.size (bindL (envOfC qual scope s.heap.objs.size f cd).kindOf (ps.zip us) fun _ => none) (cellsFrom (s.heap.objs.size + 1) scope.names []) (bindC (envOfC qual scope s.heap.objs.size f cd).kindOf (ps.zip us) fun _ => none) s1) :
  Inv (cxOf CX P w K mg base N qual scope f cd A outer s H E) [] (start N vs) H s1 := by
 have hpl : ps.length ≤ N.length := by have := congrArg List.length S.pre; rw [List.length_take] at this; omega
 obtain ⟨h1, tk, rfl, hk⟩ := x.done
 have noA : ∀ b : Addr, b ∉ (cxOf CX P w K mg base N qual scope f cd A outer s H E).ex := fun b z => absurd (show b ∈ ([] : List Addr) from z) (by simp)
 refine ⟨⟨e0.mod, S.kind, rfl, rfl, Nat.le_refl _, fun y z c h1 h2 => ?_, fun y hy => ?_, fun y c _ h => ?_, fun _ => hd, Around.frames_deeper e0.frames, .inr ⟨rfl, rfl⟩, fun b z => absurd z (noA b), e0.bs, e0.bsz, fun b _ _ => noA b, fun b z => absurd z (noA b), e0.funs, e0.frf⟩,
  rfl, e0.bare, Un.kept hk, ⟨_, x.toInCall.ns, fun i y v h1 h2 h3 => ?_⟩, fun y c h => ⟨_, x.cell y c h⟩, e0.hok.fresh (Nat.le_refl _), fun y c h => ?_, fun p hp => absurd (show p ∈ ([] : List (Addr × Obj)) from hp) (by simp), e0.hok.kept hk, ?_⟩
 ·exact name_of_addr x.apart (PySem.mem_of_lookup h1) (PySem.mem_of_lookup h2)
 ·have hy : scope.names.lookup y = some .cell ∨ scope.names.lookup y = some .free := hy
  rcases hy with hy | hy
  ·exact cell_has hy
  ·exact absurd rfl (S.nofree _ (PySem.mem_of_lookup hy))
 ·exact Nat.le_of_lt (x.above y c (PySem.mem_of_lookup h))
 ·have hi : i < vs.length := by
   unfold start at h2
   by_cases hi : i < vs.length
   ·exact hi
   ·rw [List.getElem?_append_right (by simpa using hi)] at h2
    rw [List.getElem?_replicate] at h2
    split at h2 <;> cases h2
  have ha : vs[i]? = some v := by
   unfold start at h2
   rw [List.getElem?_append_left (by simpa using hi), List.getElem?_map] at h2
   cases e : vs[i]? with
   | none => rw [e] at h2; cases h2
   | some a => rw [e] at h2; cases h2; rfl
  obtain ⟨u, hu, rv⟩ := r.get ha
  have hp : ps[i]? = some y := by
   rw [← S.pre, List.getElem?_take_of_lt (by omega)]; exact h1
  have ndP : ps.Nodup := by rw [← S.pre]; exact S.nd.sublist (List.take_sublist _ _)
  refine ⟨u, rv, ?_⟩
  rcases S.par y (List.mem_of_getElem? hp) with k | k
  ·exact .inl ⟨k, bindL_get ndP hp hu k⟩
  ·obtain ⟨c, e⟩ := cell_has (n := s.heap.objs.size + 1) k
   refine .inr ⟨.inl k, c, e, ?_⟩
   have q := x.cell y c e
   rw [bindC_get ndP hp hu (by show scope.names.lookup y ≠ _; rw [k]; decide)] at q
   exact q
 ·exact e0.hok.fresh (Nat.le_of_lt (x.above y c (PySem.mem_of_lookup h)))
 ·unfold start
  show _ = N.length
  rw [List.length_append, List.length_map, List.length_replicate]
  omega
theorem fn_of {CX : CXT} {P : Program} {w : World} {K : PySem.W.Frag} {mg : Str -> Option Value} {base : Heap} {k : Nat} {f : Addr} {name qual : Str} {params : Arguments} {body : List Stmt} {scope : Scope} {dV kV doc pm cdv ct oc : Value} {an od : Option Addr}
  {osl : Array (Option Value)} {N ps : List Str} {sp : Sp} (lk : K.lookup f = some ⟨oc, od, .func (PySem.W.fnOf name qual params body scope dV kV doc pm an cdv ct), osl⟩) (hcd : PySem.W.codeIn K cdv qual = true) (S : FnScope N ps scope)
  (len : ∀ vs H Q E, sp vs H Q E -> vs.length = ps.length)
  (hbody : ∀ (A : Around) (outer : List Env) (s : Shared) (H : Hp) (vs : List V) (Q : VK) (E : XK), Room k (A.deeper (envOfC qual scope s.heap.objs.size f cdv)) -> sp vs H Q E →
   ∃ t, PSs (cxOf CX P w K mg base N qual scope f cdv A outer s H E) body t /\ t { nx := fun _ H' => Q .non H', rt := Q } (start N vs) H) :
  FnOk P w K mg base CX (k + 1) f (PySem.W.fnOf name qual params body scope dV kV doc pm an cdv ct) ps sp := by
 refine ⟨len, fun A outer s H args us vs Q E hr e0 hb r hsp => ?_⟩
 have hl := len _ _ _ _ hsp
 have KX : K.In s.heap := e0.mod.kin.keeps fun b o e => (e0.bs b o e).1
 have lim : s.heap.NoLimit := e0.mod.nolimit.keeps fun b o e => (e0.bs b o e).1
 have hkind : ∀ y ∈ ps.zip us, scope.names.lookup y.1 = some .local ∨ (scope.names.lookup y.1 = some .cell /\ ((cellsFrom (s.heap.objs.size + 1) scope.names []).lookup y.1).isSome = true) := fun ⟨n, v⟩ hy => by
  rcases S.par n (List.of_mem_zip hy).1 with q | q
  ·exact .inl q
  ·exact .inr ⟨q, PySem.W.cellsFrom_some _ _ _ (.inl q)⟩
 refine codeAny_call_function hr.depth (KX _ _ lk) rfl S.co S.gen rfl (PySem.W.codeRec_of KX hcd) (hb _ _ _ _ ?_)
 refine wpAny_newFunctionEnv_cells S.kind hkind fun env he s1 x => ?_
 subst he
 refine ⟨lim.keeps x.toInCall.keep, codeAny_func ?_⟩
 obtain ⟨t, ht, hq⟩ := hbody A outer s H vs Q E (hr.deeper _) hsp
 have I : Inv (cxOf CX P w K mg base N qual scope f cdv A outer s H E) [] (start N vs) H s1 := inv_start S hr.hd e0 hl r x
 refine wpAny_mono (ht [] s1 (start N vs) H _ I hq) (fun fl s' hs => ?_) fun e s' hs => hs
 have fin : ∀ {σ' : St} {H' : Hp} {v : V} {u : Value}, Inv (cxOf CX P w K mg base N qual scope f cdv A outer s H E) [] σ' H' s' -> RelV v u -> Q v H' -> CE outer P w H s Q u s' :=
  fun {σ' H' v u} J rv q => ⟨v, H', J.os, J.bare, J.base, J.hok, rv, q⟩
 cases fl with
 | ret u =>
  obtain ⟨v, σ', H', J, rv, q⟩ := hs
  exact fin J rv q
 | next =>
  obtain ⟨σ', H', J, q⟩ := hs
  exact fin (v := V.non) (u := Value.none) J rfl q
 | brk =>
  obtain ⟨_, _, _, q⟩ := hs
  exact False.elim q
 | cont =>
  obtain ⟨_, _, _, q⟩ := hs
  exact False.elim q
end L2
namespace L2
open PySem PySem.Spec PyProof.Rows
section
variable {X : Cx} {x : Str} {p pos : Pos} {e : Expr} {es : List Expr} {t : TA} {id T : String} {r : List V -> Hp -> VK -> Prop}
def tCB (r : List V -> Hp -> VK -> Prop) (t : TA) : TE := fun σ H Q => t σ H fun vs H1 => r vs H1 Q
theorem pe_callB (hc : CallR X (.builtin id) r) (hg : Gl X x) (hm : X.mg x = none) (hv : bootBuiltins x = some (.builtin id)) (ha : PA X (e :: es) t) (hn : x ≠ "__name__" := by decide) (hdb : (x == ("__debug__" : Str)) = false := by decide)
  (he : starEach (e :: es) X.env = (false, eval e X.env) :: starEach es X.env := by rfl) (hpl : (backTo pos (starEach es X.env)).any (·.1) = false := by rfl) : PE X (.Call (.Name x p) (e :: es) [] pos) (tCB r t) := by
 intro pins s σ H Q I h
 refine wpAny_Call_Name_kw (ld_blt I hg hm hv ?_ hn hdb)
 exact PyProof.Rows.callWith_builtin1 (thn (ha pos pins s σ H _ I h) fun us s1 ⟨vs, H1, I1, r1, q1⟩ => hc pins s1 σ H1 vs us Q I1 r1 q1) he hpl
theorem pe_callTy (hc : CallR X (.type T) r) (hg : Gl X x) (hm : X.mg x = none) (hv : bootBuiltins x = some (.type T)) (ha : PA X (e :: es) t) (hn : x ≠ "__name__" := by decide) (hdb : (x == ("__debug__" : Str)) = false := by decide)
  (he : starEach (e :: es) X.env = (false, eval e X.env) :: starEach es X.env := by rfl) (hpl : (backTo pos (starEach es X.env)).any (·.1) = false := by rfl) : PE X (.Call (.Name x p) (e :: es) [] pos) (tCB r t) := by
 intro pins s σ H Q I h
 refine wpAny_Call_Name_kw (ld_blt I hg hm hv ?_ hn hdb)
 exact PyProof.Rows.callWith_type1 (thn (ha pos pins s σ H _ I h) fun us s1 ⟨vs, H1, I1, r1, q1⟩ => hc pins s1 σ H1 vs us Q I1 r1 q1) he hpl
end
end L2
namespace HT
open PySem PyProof.Rows
def lexLt : List Int -> List Int -> Bool
 | [], [] => false
 | [], _ :: _ => true
 | _ :: _, [] => false
 | x :: xs, y :: ys => if x = y then lexLt xs ys else decide (x < y)
section
open PySem.SeqAt
open PySem.AutoSeq1 (wpAny_loadPart')
open PySem.MeetsSeq PySem.MeetsSeq2 PySem.MeetsSeq3
end
section
variable {prog : Program} {w : World} {A : Around} {E : Value -> Shared -> Prop} {s : Shared}
def sIx (n d : Nat) : Option Int -> Nat
 | none => d
 | some v => if v < 0 then (v + (n : Int)).toNat else min v.toNat n
theorem sIx_none (n d : Nat) : sIx n d none = d := rfl
theorem sIx_nat (n d k : Nat) : sIx n d (some (k : Int)) = min k n := by
 show (if (k : Int) < 0 then ((k : Int) + (n : Int)).toNat else min (k : Int).toNat n) = min k n
 rw [if_neg (by omega), Int.toNat_natCast]
theorem sIx_le (n d : Nat) (hd : d ≤ n) (o : Option Int) : sIx n d o ≤ n := by
 cases o with
 | none => exact hd
 | some v =>
  show (if v < 0 then (v + (n : Int)).toNat else min v.toNat n) ≤ n
  by_cases hv : v < 0
  ·rw [if_pos hv]; omega
  ·rw [if_neg hv]; exact Nat.min_le_right _ _
theorem clip_eq (v : Int) (n d : Nat) : (if v < 0 then max (v + (n : Int)) 0 else min v (n : Int)) = ((sIx n d (some v) : Nat) : Int) := by
 show (if v < 0 then max (v + (n : Int)) 0 else min v (n : Int)) = (((if v < 0 then (v + (n : Int)).toNat else min v.toNat n) : Nat) : Int)
 by_cases hv : v < 0
 ·simp only [if_pos hv]; omega
 ·simp only [if_neg hv]; omega
theorem adjust_gen (lo hi : Option Int) (n : Nat) : Builtin.Slice.sliceAdjust lo hi 1 (n : Int) = (((sIx n 0 lo : Nat) : Int), ((sIx n n hi : Nat) : Int)) := by
 have h1 : ¬ ((1 : Int) < 0) := by omega
 unfold Builtin.Slice.sliceAdjust
 simp only [h1, if_false]
 refine Prod.ext ?_ ?_
 ·cases lo with
  | none => rfl
  | some v => exact clip_eq v n 0
 ·cases hi with
  | none => rfl
  | some v => exact clip_eq v n n
theorem places_gen (i j : Nat) : Builtin.Slice.slicePlaces (i : Int) (j : Int) 1 = j - i := by
 unfold Builtin.Slice.slicePlaces
 have h1 : (1 : Int) > 0 := by omega
 simp only [h1, if_true, Int.ediv_one]
 split <;> omega
theorem slicePart_ {v : Value} {o : Option Int} {Q : Option Int -> Shared -> Prop} (p : IsPart v o) (h : Q o s) : wpAny (model prog w) A (Builtin.Slice.slicePartIndex v) Q E s := by
 cases p with
 | none => exact slicePart_none h
 | int i t => exact slicePart_int h
theorem sliceApplied_gen {sl : Addr} {vl vu : Value} {lo hi : Option Int} {n : Nat} {Q : Int × Int × Nat -> Shared -> Prop} (hs : s.heap.IsSliceOf sl vl vu .none) (pl : IsPart vl lo) (pu : IsPart vu hi)
  (h : Q (((sIx n 0 lo : Nat) : Int), 1, sIx n n hi - sIx n 0 lo) s) : wpAny (model prog w) A (Builtin.Slice.sliceApplied (.ref sl) (pure (n : Int))) Q E s := by
 obtain ⟨os, hos, hcs, hds⟩ := id hs
 unfold Builtin.Slice.sliceApplied Builtin.Slice.sliceFields
 refine wpAny_bind (wpAny_bind (wpAny_field hos hds (x := vl) rfl (wpAny_bind (wpAny_field hos hds (x := vu) rfl (wpAny_bind (wpAny_field hos hds (x := .none) rfl (wpAny_pure ?_)))))))
 refine wpAny_bind (slicePart_none ?_)
 show wpAny _ _ (if ((1 : Int) == 0) = true then _ else _) _ _ s
 rw [if_neg (by decide)]
 refine wpAny_bind (slicePart_ pl (wpAny_bind (slicePart_ pu (wpAny_bind (wpAny_pure ?_)))))
 show wpAny _ _ (match Builtin.Slice.sliceAdjust lo hi 1 (n : Int) with | (lo, hi) => pure (lo, (1 : Int), Builtin.Slice.slicePlaces lo hi 1)) _ _ s
 rw [adjust_gen lo hi n]
 show wpAny _ _ (pure (((sIx n 0 lo : Nat) : Int), (1 : Int), Builtin.Slice.slicePlaces ((sIx n 0 lo : Nat) : Int) ((sIx n n hi : Nat) : Int) 1)) _ _ s
 rw [places_gen]
 exact wpAny_pure h
theorem pick_gen (xs : Array Value) (i k : Nat) : ((List.range k).filterMap fun (m : Nat) => xs[((i : Int) + (m : Int) * 1).toNat]?).toArray = ((xs.toList.drop i).take k).toArray := by
 have e : (fun (m : Nat) => xs[((i : Int) + (m : Int) * 1).toNat]?) = fun m => xs[i + m]? := by
  funext m
  have : ((i : Int) + (m : Int) * 1).toNat = i + m := by omega
  rw [this]
 rw [e]
 have := pick_run xs i k
 rw [List.filterMap_map] at this
 have e2 : ((fun x => xs[x]?) ∘ fun x => i + x) = fun m => xs[i + m]? := rfl
 rw [e2] at this
 rw [this]
theorem getItem_tuple_cut {t sl : Addr} {items : Array Value} {vl vu : Value} {lo hi : Option Int} {Q : Value -> Shared -> Prop} (ht : IsTup s.heap t items) (hs : s.heap.IsSliceOf sl vl vu .none) (pl : IsPart vl lo) (pu : IsPart vu hi)
  (hw : ¬ (sIx items.size 0 lo = 0 /\ sIx items.size items.size hi = items.size))
  (h : Q (.ref s.heap.objs.size) { s with heap := s.heap.push { cls := .type "tuple", data := .seq ((items.toList.drop (sIx items.size 0 lo)).take (sIx items.size items.size hi - sIx items.size 0 lo)).toArray } })
  (hsz : items.size ≤ sizeLine) : wpAny (model prog w) A (getItem (.ref t) (.ref sl)) Q E s := by
 have htake : sizeOk (.seq ((items.toList.drop (sIx items.size 0 lo)).take (sIx items.size items.size hi - sIx items.size 0 lo)).toArray) := by
  show ((items.toList.drop (sIx items.size 0 lo)).take (sIx items.size items.size hi - sIx items.size 0 lo)).toArray.size ≤ sizeLine
  rw [List.size_toArray, List.length_take, List.length_drop, Array.length_toList]
  omega
 have hj : sIx items.size items.size hi ≤ items.size := sIx_le _ _ (Nat.le_refl _) hi
 obtain ⟨os, hos, hcs, hds⟩ := id hs
 have hTs : s.TypeIs (.ref sl) "slice" := ⟨os, hos, hcs⟩
 unfold getItem
 try with_reducible refine wpAny_holding ?_
 first | refine wpAny_bind (wpAny_pure ?_) | skip
 refine wpAny_bind (wpAny_sequenceKey ht.typeIs (by decide) ?_)
 refine wpAny_bind (wpAny_callSpecial?_slot (name := Str.ofString "__getitem__") ht.typeIs PyProof.Rows.slot_tuple_getitem
  (wpAny_call_entry PyProof.Rows.slot_tuple_getitem ht.typeIs entry_tuple_getitem ?_ (args_tuple_getitem _ _)))
 show wpAny _ _ (Builtin.Tuple.tupleItemsOf (.ref t) >>= _) _ _ s
 refine wpAny_bind (tupleItemsOf_ ht ?_)
 refine wpAny_bind (wpAny_typeOf hTs ?_)
 rw [if_pos (by decide)]
 refine wpAny_bind (sliceApplied_gen hs pl pu ?_)
 have hno : ¬ ((((sIx items.size 0 lo : Nat) : Int) == 0 && (1 : Int) == 1 && (sIx items.size items.size hi - sIx items.size 0 lo) == items.size) = true) := by
  intro q
  rw [Bool.and_eq_true, Bool.and_eq_true] at q
  have q1 : ((sIx items.size 0 lo : Nat) : Int) = 0 := eq_of_beq q.1.1
  have q2 : sIx items.size items.size hi - sIx items.size 0 lo = items.size := eq_of_beq q.2
  exact hw ⟨by omega, by omega⟩
 show wpAny _ _ (if (((sIx items.size 0 lo : Nat) : Int) == 0 && (1 : Int) == 1 && (sIx items.size items.size hi - sIx items.size 0 lo) == items.size) = true then _ else _) _ _ s
 rw [if_neg hno, pick_gen]
 first
  | exact wpAny_bind (m := Builtin.Tuple.tupleExact _) (wpAny_newObj_type (wpAny_pure ⟨_, rfl, wpAny_pure h⟩) htake)
  | exact wpAny_bind (m := Builtin.Tuple.tupleExact _) (wpAny_newObj_type (wpAny_bind (wpAny_pure (wpAny_pure ⟨_, rfl, wpAny_pure h⟩))) htake)
  | exact wpAny_bind (wpAny_bind (m := Builtin.Tuple.tupleExact _) (wpAny_newObj_type (wpAny_pure (wpAny_pure ⟨_, rfl, wpAny_pure h⟩)) htake))
  | exact wpAny_bind (wpAny_bind (m := Builtin.Tuple.tupleExact _) (wpAny_newObj_type (wpAny_pure ⟨_, rfl, wpAny_pure h⟩) htake))
end
end HT
namespace L2
open PySem PySem.Spec PyProof.Rows
abbrev TO := St -> Hp -> (Option Int -> Hp -> Prop) -> Prop
def PO (X : Cx) (e : Option Expr) (t : TO) : Prop :=
 ∀ (pins : List (Addr × Obj)) (s : Shared) (σ : St) (H : Hp) (Q : Option Int -> Hp -> Prop), Inv X pins σ H s -> t σ H Q →
  wpAny (model X.prog X.w) X.A (evalPart e X.env) (fun u s' => ∃ o H', Inv X pins σ H' s' /\ IsPart u o /\ Q o H') X.xe s
def tNoPart : TO := fun _ H Q => Q none H
def tPart (t : TE) : TO := fun σ H Q => t σ H fun x H1 => ∃ i, x = .int i /\ Q (some i) H1
section
variable {X : Cx} {e : Expr} {te : TE} {lo hi : Option Expr} {tl th : TO} {pos p2 : Pos}
theorem po_none : PO X none tNoPart := by
 intro pins s σ H Q I h
 rw [evalPart_none]
 exact wpAny_pure ⟨none, H, I, .none, h⟩
theorem po_some (h : PE X e te) : PO X (some e) (tPart te) := by
 intro pins s σ H Q I hw
 rw [evalPart_some]
 refine thn (h pins s σ H _ I hw) fun u s1 ⟨x, H1, I1, r1, q1⟩ => ?_
 obtain ⟨i, rfl, q⟩ := q1
 obtain ⟨t, rfl⟩ := r1
 exact ⟨some i, H1, I1, .int i t, q⟩
def SlR (X : Cx) (r : V -> Option Int -> Option Int -> Hp -> VK -> Prop) : Prop :=
 ∀ (pins : List (Addr × Obj)) (s : Shared) (σ : St) (H : Hp) (x : V) (v vl vu : Value) (lo hi : Option Int) (sl : Addr) (Q : VK), Inv X pins σ H s -> RelV x v -> s.heap.IsSliceOf sl vl vu .none -> IsPart vl lo -> IsPart vu hi -> r x lo hi H Q →
  ∃ T id, typeLookup (.type T) "__getitem__" = pure (some (.builtin id)) /\ s.TypeIs v T /\ wpAny (model X.prog X.w) X.A (getItem v (.ref sl)) (EP X pins σ Q) X.xe s
theorem SlR.or {r r' : V -> Option Int -> Option Int -> Hp -> VK -> Prop} (h : SlR X r) (h' : SlR X r') : SlR X (fun x lo hi H Q => r x lo hi H Q ∨ r' x lo hi H Q) := by
 intro pins s σ H x v vl vu lo hi sl Q I rx hs pl pu q
 rcases q with q | q
 ·exact h pins s σ H x v vl vu lo hi sl Q I rx hs pl pu q
 ·exact h' pins s σ H x v vl vu lo hi sl Q I rx hs pl pu q
def tSl (r : V -> Option Int -> Option Int -> Hp -> VK -> Prop) (te : TE) (tl th : TO) : TE := fun σ H Q => te σ H fun x H1 => tl σ H1 fun l H2 => th σ H2 fun u H3 => r x l u H3 Q
theorem pe_slice {r : V -> Option Int -> Option Int -> Hp -> VK -> Prop} (hr : SlR X r) (he : PE X e te) (hl : PO X lo tl) (hu : PO X hi th) : PE X (.Subscript e (.Slice lo hi none p2) pos) (tSl r te tl th) := by
 intro pins s σ H Q I h
 refine Subscript_ (thn (he pins s σ H _ I h) fun v s1 ⟨x, H1, I1, r1, q1⟩ => ?_)
 refine wpAny_Slice (thn (hl pins s1 σ H1 _ I1 q1) fun vl s2 ⟨l, H2, I2, pl, q2⟩ => thn (hu pins s2 σ H2 _ I2 q2) fun vu s3 ⟨u, H3, I3, pu, q3⟩ => ?_)
 rw [evalPart_none]
 refine wpAny_pure ?_
 have I4 : Inv X pins σ H3 { s3 with heap := s3.heap.push { cls := .type "slice", data := .fields #[vl, vu, .none] } } := I3.kept (t' := s3.toks) fun b ob q => Heap.get?_push_of_some _ q
 obtain ⟨T, id, hT, ht, hg⟩ := hr pins { s3 with heap := s3.heap.push { cls := .type "slice", data := .fields #[vl, vu, .none] } } σ H3 x v vl vu l u s3.heap.objs.size Q I4 r1 (Heap.IsSliceOf.new ..) pl pu q3
 show wpAny (model X.prog X.w) X.A (subscriptTail e (.Slice lo hi none p2) v (.ref s3.heap.objs.size)) (EP X pins σ Q) X.xe { s3 with heap := s3.heap.push { cls := .type "slice", data := .fields #[vl, vu, .none] } }
 exact tail_any (ops := [.ref s3.heap.objs.size, v]) ht hT hg (by with_unfolding_all rfl)
def cutV (xs : List V) (lo hi : Option Int) : List V := (xs.drop (HT.sIx xs.length 0 lo)).take (HT.sIx xs.length xs.length hi - HT.sIx xs.length 0 lo)
theorem cutV_length (xs : List V) (lo hi : Option Int) : (cutV xs lo hi).length ≤ xs.length := by
 unfold cutV
 rw [List.length_take, List.length_drop]
 omega
def rSlT (K : PySem.W.Frag) : V -> Option Int -> Option Int -> Hp -> VK -> Prop := fun x lo hi H Q => ∃ a xs, x = .ref a /\ SqT K H a xs ∧
 ¬ (HT.sIx xs.length 0 lo = 0 /\ HT.sIx xs.length xs.length hi = xs.length) /\ ∀ p, H p = none -> Q (.ref p) (upd H p (.tup (cutV xs lo hi)))
theorem sl_tup : SlR X (rSlT X.K) := by
 intro pins s σ H x v vl vu lo hi sl Q I rx hs pl pu h
 obtain ⟨a, xs, rfl, hx, hw, q⟩ := h
 cases rx
 obtain ⟨its, r, ht, hz⟩ := I.tuple hx
 have hlen : its.toArray.size = xs.length := by rw [List.size_toArray]; exact r.length.symm
 refine ⟨"tuple", _, PyProof.Rows.slot_tuple_getitem.lookup, ht.typeIs, ?_⟩
 refine HT.getItem_tuple_cut ht hs pl pu (by rw [hlen]; exact hw) ?_ (by rw [hlen]; exact hz)
 rw [hlen]
 refine ⟨.ref s.heap.objs.size, _, I.laid (t' := s.toks) (o := .tup (cutV xs lo hi)) (fun b ob q => Heap.get?_push_of_some _ q) (Nat.le_refl _) ?_, rfl, q _ (I.hok.fresh (Nat.le_refl _))⟩
 exact ⟨Nat.le_trans (cutV_length xs lo hi) hz, _, (r.drop (HT.sIx xs.length 0 lo)).take (HT.sIx xs.length xs.length hi - HT.sIx xs.length 0 lo), IsTup.new _ _⟩
def rLtT (K : PySem.W.Frag) : R2 := fun x y H Q => ∃ a b ns ms, x = .ref a /\ y = .ref b /\ SqT K H a (ns.map V.int) /\ SqT K H b (ms.map V.int) /\ Q (.bl (HT.lexLt ns ms)) H
def rCatT (K : PySem.W.Frag) : R2 := fun x y H Q => ∃ a b xs ys, x = .ref a /\ y = .ref b /\ SqT K H a xs /\ SqT K H b ys /\ xs ≠ [] /\ xs.length + ys.length ≤ sizeLine ∧
 (ys = [] -> Q (.ref a) H) /\ (ys ≠ [] -> ∀ p, H p = none -> Q (.ref p) (upd H p (.tup (xs ++ ys))))
end
end L2
namespace L2
open PySem PySem.Spec PyProof.Rows
def ixN (n : Nat) (i : Int) : Option Nat := if 0 ≤ i then (if i < n then some i.toNat else none) else if -(n : Int) ≤ i then some (i + n).toNat else none
def atI {α : Type} (xs : List α) (i : Int) : Option α := (ixN xs.length i).bind fun j => xs[j]?
theorem ixN_seq {n : Nat} {i : Int} {j : Nat} (h : ixN n i = some j) : seqIndex? i n = some j /\ j < n /\ -(n : Int) ≤ i /\ i < n := by
 unfold ixN at h
 by_cases h0 : 0 ≤ i
 ·rw [if_pos h0] at h
  by_cases h1 : i < n
  ·rw [if_pos h1] at h
   have e : i.toNat = j := Option.some.inj h
   exact ⟨by rw [seqIndex_of h0 h1, e], by omega, by omega, h1⟩
  ·rw [if_neg h1] at h; cases h
 ·rw [if_neg h0] at h
  by_cases h1 : -(n : Int) ≤ i
  ·rw [if_pos h1] at h
   have e : (i + n).toNat = j := Option.some.inj h
   exact ⟨by rw [seqIndex_neg (by omega) h1, e], by omega, h1, by omega⟩
  ·rw [if_neg h1] at h; cases h
theorem atI_get {α : Type} {xs : List α} {i : Int} {v : α} (h : atI xs i = some v) : ∃ j, seqIndex? i xs.length = some j /\ xs[j]? = some v /\ j < xs.length /\ -(xs.length : Int) ≤ i /\ i < xs.length := by
 unfold atI at h
 cases e : ixN xs.length i with
 | none => rw [e] at h; cases h
 | some j =>
  rw [e] at h
  obtain ⟨h1, h2, h3, h4⟩ := ixN_seq e
  exact ⟨j, h1, h, h2, h3, h4⟩
theorem atI_nat {α : Type} {xs : List α} {j : Nat} {v : α} (h : xs[j]? = some v) : atI xs (j : Int) = some v := by
 have hj : j < xs.length := (List.getElem?_eq_some_iff.mp h).1
 have e : ixN xs.length (j : Int) = some j := by
  unfold ixN
  rw [if_pos (by omega), if_pos (by omega)]; simp
 unfold atI; rw [e]; exact h
def PlainIx (b : Expr) : Prop := ∀ o i, subscripted b false o i = operate [o, i] (getItem o i)
def IxR (X : Cx) (r : R2) : Prop :=
 ∀ (value slice : Expr) (pins : List (Addr × Obj)) (s : Shared) (σ : St) (H : Hp) (x y : V) (v u : Value) (Q : VK), Inv X pins σ H s -> RelV x v -> RelV y u -> r x y H Q →
  subscripted slice false v u = operate [v, u] (getItem v u) -> wpAny (model X.prog X.w) X.A (subscriptTail value slice v u) (EP X pins σ Q) X.xe s
def MtR (X : Cx) (id : String) (r : V -> List V -> Hp -> VK -> Prop) : Prop :=
 ∀ (pins : List (Addr × Obj)) (s : Shared) (σ : St) (H : Hp) (x : V) (xs : List V) (v : Value) (us : List Value) (Q : VK), Inv X pins σ H s -> RelV x v -> Vals xs us -> r x xs H Q →
  wpAny (model X.prog X.w) X.A (call (.builtin id) (v :: us)) (EP X pins σ Q) X.xe s
section
variable {X : Cx} {a b : Expr} {ta tb : TE} {pos : Pos}
theorem pe_ix {r : R2} (hr : IxR X r) (ha : PE X a ta) (hb : PE X b tb) (hs : PlainIx b) : PE X (.Subscript a b pos) (tOp r ta tb) := by
 intro pins s σ H Q I h
 exact Subscript_ (binT ha hb I h fun v u s2 x y H2 I2 rx ry q => hr a b pins s2 σ H2 x y v u Q I2 rx ry q (hs _ _))
def rIxL (K : PySem.W.Frag) : R2 := fun x y H Q => ∃ p xs i v, x = .ref p /\ y = .int i /\ SqL K H p xs /\ atI xs i = some v /\ Q v H
def rIxT (K : PySem.W.Frag) : R2 := fun x y H Q => ∃ p xs i v, x = .ref p /\ y = .int i /\ SqT K H p xs /\ atI xs i = some v /\ Q v H
def rIxS : R2 := fun x y H Q => ∃ z i c, x = .str z /\ y = .int i /\ z.length ≤ sizeLine /\ atI z.cps.toList i = some c /\ Q (.str ⟨#[c]⟩) H
theorem ix_list : IxR X (rIxL X.K) := by
 intro value slice pins s σ H x y v u Q I rx ry h hs
 obtain ⟨p, xs, i, z, rfl, rfl, hq, he, q⟩ := h
 cases rx
 obtain ⟨t, rfl⟩ := ry
 obtain ⟨its, r, pl, hz⟩ := I.list hq
 obtain ⟨j, h1, h2, h3, h4, h5⟩ := atI_get he
 obtain ⟨w, ew, rw'⟩ := r.get h2
 have hl := r.length
 have hn := line63
 have fin : EP X pins σ Q w s := ⟨z, H, I, rw', q⟩
 by_cases h0 : 0 ≤ i
 ·have hj : i.toNat = j := by
   rw [seqIndex_of h0 h5] at h1
   exact Option.some.inj h1
  exact item_listR pl.isList h0 (by omega) (by rw [hj]; simpa using ew) fin hs
 ·have hj : (i + (its.toArray.size : Int)).toNat = j := by
   rw [seqIndex_neg (by omega) h4] at h1
   rw [List.size_toArray, ← hl]
   exact Option.some.inj h1
  exact subscriptTail_builtinR (x := w) pl.isList.typeIs slot_list_getitem.lookup
   (wpAny_getItem_list_neg (Q := fun r s' => r = w /\ EP X pins σ Q r s') pl.isList (by omega) (by rw [List.size_toArray] <;> omega) (by omega) (by rw [hj]; simpa using ew) ⟨rfl, fin⟩) hs
theorem ix_tup : IxR X (rIxT X.K) := by
 intro value slice pins s σ H x y v u Q I rx ry h hs
 obtain ⟨p, xs, i, z, rfl, rfl, hq, he, q⟩ := h
 cases rx
 obtain ⟨t, rfl⟩ := ry
 obtain ⟨its, r, pl, hz⟩ := I.tuple hq
 obtain ⟨j, h1, h2, h3, h4, h5⟩ := atI_get he
 obtain ⟨w, ew, rw'⟩ := r.get h2
 have hl := r.length
 have hn := line63
 have fin : EP X pins σ Q w s := ⟨z, H, I, rw', q⟩
 exact subscriptTail_builtinR (x := w) pl.typeIs slot_tuple_getitem.lookup
  (getItem_tuple (j := j) (Q := fun r s' => r = w /\ EP X pins σ Q r s') pl (by omega) (by omega) (by rw [List.size_toArray, ← hl]; exact h1) (by simpa using ew) ⟨rfl, fin⟩) hs
def rIx (K : PySem.W.Frag) : R2 := fun x y H Q => rIxL K x y H Q ∨ rIxT K x y H Q ∨ rIxS x y H Q
theorem mapSeq_set (its : List Value) (n j : Nat) (u : Value) : Obj.mapSeq (·.setIfInBounds j u) { cls := .type "list", data := .seq its.toArray n } = { cls := .type "list", data := .seq (its.set j u).toArray n } := by
 simp [Obj.mapSeq]
theorem Inv.lst {pins : List (Addr × Obj)} {σ : St} {H : Hp} {s : Shared} {p : Addr} {xs : List V} (I : Inv X pins σ H s) (h : H p = some (.lst xs)) :
  ∃ (its : List Value) (n : Nat), Vals xs its /\ s.heap.get? p = some { cls := .type "list", data := .seq its.toArray n } /\ xs.length ≤ sizeLine := by
 obtain ⟨z, its, n, r, e⟩ := I.hok p _ h
 exact ⟨its, n, r, e, z⟩
theorem Inv.lstUpd {pins : List (Addr × Obj)} {σ : St} {H : Hp} {s : Shared} {p : Addr} {xs ys : List V} {its its' : List Value} {n n' : Nat} {f : Obj -> Obj} (I : Inv X pins σ H s) (h : H p = some (.lst xs))
  (ho : s.heap.get? p = some { cls := .type "list", data := .seq its.toArray n }) (hf : f { cls := .type "list", data := .seq its.toArray n } = { cls := .type "list", data := .seq its'.toArray n' }) (r : Vals ys its') (hz : ys.length ≤ sizeLine) (t : Nat) :
  Inv X pins σ (upd H p (.lst ys)) { s with heap := s.heap.update p f, toks := t } := by
 have e : (s.heap.update p f).get? p = some { cls := .type "list", data := .seq its'.toArray n' } := by
  rw [Heap.get?_update_self f ho (by rw [hf] <;> rfl), hf]
 refine I.write (x := p) (e := p) (by rw [h]; trivial) (.inl rfl) (fun b u hb q => (Heap.get?_update_other _ _ (Ne.symm hb)).trans q) ⟨_, e⟩ ?_
 exact ⟨hz, its', n', r, e⟩
def rSetL : V -> V -> V -> Hp -> (Hp -> Prop) -> Prop := fun o i v H Q => ∃ p xs k j, o = .ref p /\ i = .int k /\ H p = some (.lst xs) /\ ixN xs.length k = some j /\ Q (upd H p (.lst (xs.set j v)))
theorem set_list : PSet X rSetL := by
 intro pins s σ H o i v ov iv u Q I ro ri rv h
 obtain ⟨p, xs, k, j, rfl, rfl, hp, hj, q⟩ := h
 cases ro
 obtain ⟨t, rfl⟩ := ri
 obtain ⟨its, n, r, ho, hz⟩ := I.lst hp
 obtain ⟨h1, h2, h3, h4⟩ := ixN_seq hj
 have hl := r.length
 have hn := line63
 have I' : Inv X pins σ (upd H p (.lst (xs.set j v))) { s with heap := s.heap.update p (Obj.mapSeq (·.setIfInBounds j u)) } :=
  I.lstUpd hp ho (mapSeq_set its n j u) (r.set rv j) (by rw [List.length_set]; exact hz) s.toks
 by_cases h0 : 0 ≤ k
 ·have hk : k.toNat = j := by
   rw [seqIndex_of h0 h4] at h1
   exact Option.some.inj h1
  exact PySem.W.ki_setAt ho h0 (by omega) (by rw [List.size_toArray, ← hl]; exact h4) (by rw [hk]; exact ⟨_, I', q⟩)
 ·have hk : (k + (its.toArray.size : Int)).toNat = j := by
   rw [seqIndex_neg (by omega) h3] at h1
   rw [List.size_toArray, ← hl]
   exact Option.some.inj h1
  exact PySem.W.ki_setBack ho (by omega) (by rw [List.size_toArray, ← hl]; exact h3) (by omega) (by rw [hk]; exact ⟨_, I', q⟩)
def rSlL (K : PySem.W.Frag) : V -> Option Int -> Option Int -> Hp -> VK -> Prop := fun x lo hi H Q => ∃ a xs, x = .ref a /\ SqL K H a xs /\ ∀ p, H p = none -> Q (.ref p) (upd H p (.lst (cutV xs lo hi)))
def flatV : V -> Bool
 | .non => true
 | .bl _ => true
 | .int _ => true
 | .str _ => true
 | _ => false
def eqV : V -> V -> Bool
 | .non, .non => true
 | .bl a, .bl b => a == b
 | .bl a, .int b => (if a then 1 else 0) == b
 | .int a, .bl b => a == (if b then 1 else 0)
 | .int a, .int b => a == b
 | .str a, .str b => a == b
 | _, _ => false
theorem eqAt_V {A : Around} {s : Shared} {y x : V} {u v : Value} (ry : RelV y u) (rx : RelV x v) (fy : flatV y = true) (fx : flatV x = true) : SeqAt.EqAt A s u v (eqV y x) := by
 cases y with
 | non =>
  cases ry
  cases x with
  | non => cases rx; exact SeqAt.EqAt.same _
  | bl b => cases rx; exact SeqAt.EqAt.none_bool b
  | int b => obtain ⟨t, rfl⟩ := rx; exact SeqAt.EqAt.none_int b t
  | str b => obtain ⟨t, rfl⟩ := rx; exact SeqAt.EqAt.none_str b t
  | _ => exact absurd (show false = true from fx) Bool.false_ne_true
 | bl a =>
  cases ry
  cases x with
  | non => cases rx; exact SeqAt.EqAt.bool_none a
  | bl b => cases rx; exact SeqAt.EqAt.bool_bool a b
  | int b => obtain ⟨t, rfl⟩ := rx; exact SeqAt.EqAt.bool_int a b t
  | str b => obtain ⟨t, rfl⟩ := rx; exact SeqAt.EqAt.bool_str a b t
  | _ => exact absurd (show false = true from fx) Bool.false_ne_true
 | int a =>
  obtain ⟨t', rfl⟩ := ry
  cases x with
  | non => cases rx; exact SeqAt.EqAt.int_none a t'
  | bl b => cases rx; exact SeqAt.EqAt.int_bool a t' b
  | int b => obtain ⟨t, rfl⟩ := rx; exact SeqAt.EqAt.int_int a t' b t
  | str b => obtain ⟨t, rfl⟩ := rx; exact SeqAt.EqAt.int_str a t' b t
  | _ => exact absurd (show false = true from fx) Bool.false_ne_true
 | str a =>
  obtain ⟨t', rfl⟩ := ry
  cases x with
  | non => cases rx; exact SeqAt.EqAt.str_none a t'
  | bl b => cases rx; exact SeqAt.EqAt.str_bool a t' b
  | int b => obtain ⟨t, rfl⟩ := rx; exact SeqAt.EqAt.str_int a t' b t
  | str b => obtain ⟨t, rfl⟩ := rx; exact SeqAt.EqAt.str_str a t' b t
  | _ => exact absurd (show false = true from fx) Bool.false_ne_true
 | _ => exact absurd (show false = true from fy) Bool.false_ne_true
def eqU (x : V) (u : Value) : Bool := match u with
 | .none => eqV .non x
 | .bool b => eqV (.bl b) x
 | .int i _ => eqV (.int i) x
 | .str z _ => eqV (.str z) x
 | _ => false
theorem eqU_of {x y : V} {u : Value} (r : RelV y u) (f : flatV y = true) : eqU x u = eqV y x := by
 cases y with
 | non => cases r; rfl
 | bl b => cases r; rfl
 | int i => obtain ⟨t, rfl⟩ := r; rfl
 | str z => obtain ⟨t, rfl⟩ := r; rfl
 | _ => exact absurd (show false = true from f) Bool.false_ne_true
theorem any_eqU {x : V} : ∀ {xs : List V} {us : List Value}, Vals xs us -> xs.all flatV = true -> us.any (eqU x) = xs.any fun y => eqV y x
 | _, _, .nil, _ => rfl
 | y :: xs, u :: us, .cons r t, f => by
  rw [List.all_cons, Bool.and_eq_true] at f
  rw [List.any_cons, List.any_cons, eqU_of r f.1, any_eqU t f.2]
theorem mem_eqAt {A : Around} {s : Shared} {x : V} {v : Value} (rx : RelV x v) (fx : flatV x = true) : ∀ {xs : List V} {us : List Value}, Vals xs us -> xs.all flatV = true -> ∀ u ∈ us, SeqAt.EqAt A s u v (eqU x u)
 | _, _, .nil, _ => fun u hu => by cases hu
 | y :: xs, u :: us, .cons r t, f => fun u' hu => by
  rw [List.all_cons, Bool.and_eq_true] at f
  rcases List.mem_cons.mp hu with rfl | hu
  ·rw [eqU_of r f.1]; exact eqAt_V r rx f.1 fx
  ·exact mem_eqAt rx fx t f.2 u' hu
def inV (x : V) (xs : List V) : Bool := xs.any fun y => eqV y x
def rIn (K : PySem.W.Frag) (neg : Bool) : R2 := fun x y H Q => ∃ p xs, y = .ref p /\ (SqL K H p xs ∨ SqT K H p xs) /\ flatV x = true /\ xs.all flatV = true /\ Q (.bl (if neg then !inV x xs else inV x xs)) H
theorem op_in_seq : OpR X (compareOp .In) (rIn X.K false) := by
 intro pins s σ H x y v u Q I rx ry h
 obtain ⟨p, xs, rfl, hq, fx, fs, q⟩ := h
 cases ry
 rcases hq with hq | hq
 ·obtain ⟨its, r, pl, hz⟩ := I.list hq
  refine SeqAt.in_listAt (eqU x) pl.isList (fun w hw => mem_eqAt rx fx r fs w (by simpa using hw)) ⟨.bl _, H, I, rfl, ?_⟩
  rw [show its.toArray.any (eqU x) = its.any (eqU x) by simp, any_eqU r fs]
  exact q
 ·obtain ⟨its, r, pl, hz⟩ := I.tuple hq
  refine SeqAt.in_tupleAt (eqU x) pl (fun w hw => mem_eqAt rx fx r fs w (by simpa using hw)) ⟨.bl _, H, I, rfl, ?_⟩
  rw [show its.toArray.any (eqU x) = its.any (eqU x) by simp, any_eqU r fs]
  exact q
theorem call_len_seq : CallR X (.builtin "len") (fun xs H Q => ∃ p ys, xs = [.ref p] /\ (SqL X.K H p ys ∨ SqT X.K H p ys) /\ Q (.int ys.length) H) := by
 intro pins s σ H xs us Q I r h
 obtain ⟨p, ys, rfl, hq, q⟩ := h
 obtain ⟨u, rfl, rx⟩ := vals1 r
 cases rx
 have hn := line63
 rcases hq with hq | hq
 ·obtain ⟨its, r', pl, hz⟩ := I.list hq
  have hlen := r'.length
  exact Calls.call_len_list pl.isList (by simp only [List.size_toArray] <;> omega) ⟨.int ys.length, H, I.tok _, ⟨s.toks + 1, by rw [List.size_toArray, hlen]⟩, q⟩
 ·obtain ⟨its, r', pl, hz⟩ := I.tuple hq
  have hlen := r'.length
  exact len_tuple pl (by simp only [List.size_toArray] <;> omega) ⟨.int ys.length, H, I.tok _, ⟨s.toks + 1, by rw [List.size_toArray, hlen]⟩, q⟩
theorem call_tuple_of : CallR X (.type "tuple") (fun xs H Q => ∃ p ys, xs = [.ref p] /\ ((SqL X.K H p ys /\ ∀ l, H l = none -> Q (.ref l) (upd H l (.tup ys))) ∨ (SqT X.K H p ys /\ Q (.ref p) H))) := by
 intro pins s σ H xs us Q I r h
 obtain ⟨p, ys, rfl, h⟩ := h
 obtain ⟨u, rfl, rx⟩ := vals1 r
 cases rx
 rcases h with ⟨hq, q⟩ | ⟨hq, q⟩
 ·obtain ⟨its, r', pl, hz⟩ := I.list hq
  have hlen := r'.length
  refine call_tuple_list pl.isList (fun h' kp => ?_) (by simp only [List.size_toArray] <;> omega)
  have I1 : Inv X pins σ H { s with heap := h' } := I.kept (t' := s.toks) kp
  have I2 : Inv X pins σ (upd H h'.objs.size (.tup ys)) { s with heap := h'.push { cls := .type "tuple", data := .seq its.toArray } } :=
   I1.laid (t' := s.toks) (fun b o e => Heap.get?_push_of_some _ e) (Nat.le_refl _) (show ObjOk X.prog X.w _ _ _ (.tup ys) from ⟨hz, its, r', IsTup.new _ _⟩)
  exact ⟨.ref h'.objs.size, _, I2, rfl, q _ (I1.hok.fresh (Nat.le_refl _))⟩
 ·obtain ⟨its, r', pl, hz⟩ := I.tuple hq
  exact call_tuple_same pl ⟨.ref p, H, I, rfl, q⟩
def tyV (K : PySem.W.Frag) (T : String) (x : V) (H : Hp) : Prop := match x with
 | .str _ => T = "str"
 | .int _ => T = "int"
 | .ref p => (T = "list" /\ ∃ xs, SqL K H p xs) ∨ (T = "tuple" /\ ∃ o, K.lookup p = some o /\ o.cls = .type "tuple" /\ o.dict = none) ∨
   (T = "dict" /\ ((∃ kvs, H p = some (.dK kvs)) ∨ ∃ kvs, H p = some (.dT kvs))) ∨ (T = "set" /\ ∃ S n, H p = some (.set S n))
 | _ => False
theorem tyV_is {pins : List (Addr × Obj)} {σ : St} {H : Hp} {s : Shared} {T : String} {x : V} {v : Value} (I : Inv X pins σ H s) (r : RelV x v) (ty : tyV X.K T x H) :
  s.TypeIs v T /\ ∀ a, v = .ref a -> ∃ ob, s.heap.get? a = some ob /\ ob.dict = none := by
 cases x with
 | str z =>
  obtain ⟨t, rfl⟩ := r
  cases (show T = "str" from ty)
  exact ⟨typeIs_str s z t, fun _ e => nomatch e⟩
 | int i =>
  obtain ⟨t, rfl⟩ := r
  cases (show T = "int" from ty)
  exact ⟨typeIs_int s i t, fun _ e => nomatch e⟩
 | ref p =>
  cases r
  rcases ty with ⟨rfl, xs, hq⟩ | ⟨rfl, o, hk, hc, hd⟩ | ⟨rfl, hk⟩ | ⟨rfl, S, n, hk⟩
  ·obtain ⟨its, _, pl, _⟩ := I.list hq
   refine ⟨pl.isList.typeIs, fun a e => ?_⟩
   cases e
   obtain ⟨o, n, e, c, hd, _⟩ := pl
   exact ⟨o, e, hd⟩
  ·refine ⟨⟨o, I.kIn p o hk, hc⟩, fun a e => ?_⟩
   cases e
   exact ⟨o, I.kIn _ o hk, hd⟩
  ·have z : ∃ o, s.heap.get? p = some o /\ o.ExactDict := by
    rcases hk with ⟨kvs, hk⟩ | ⟨kvs, hk⟩
    ·obtain ⟨_, _, _, _, o, _, _, e, ex, _⟩ := I.hok p _ hk
     exact ⟨o, e, ex⟩
    ·obtain ⟨_, _, _, _, o, _, _, e, ex, _⟩ := I.hok p _ hk
     exact ⟨o, e, ex⟩
   obtain ⟨o, e, ex⟩ := z
   refine ⟨⟨o, e, ex.1⟩, fun a e2 => ?_⟩
   cases e2
   exact ⟨o, e, ex.2.1⟩
  ·obtain ⟨o, _, _, _, e, ex, _⟩ := I.hok p _ hk
   refine ⟨⟨o, e, ex.1⟩, fun a e2 => ?_⟩
   cases e2
   exact ⟨o, e, ex.2.1⟩
 | _ => exact False.elim ty
def tBM0 (K : PySem.W.Frag) (T : String) (r : V -> List V -> Hp -> VK -> Prop) (to : TE) : TE := fun σ H Q => to σ H fun x H1 => tyV K T x H1 /\ r x [] H1 Q
def tBM (K : PySem.W.Frag) (T : String) (r : V -> List V -> Hp -> VK -> Prop) (to : TE) (t : TA) : TE := fun σ H Q => to σ H fun x H1 => tyV K T x H1 /\ t σ H1 fun xs H2 => r x xs H2 Q
variable {o e : Expr} {es : List Expr} {to : TE} {t : TA} {name : Str} {apos cpos : Pos} {T id : String} {r : V -> List V -> Hp -> VK -> Prop}
theorem pe_bm (pa : PlainAttrs T) (slot : Slot T name id) (hty : typeOf (.builtin id) = pure (.type "method_descriptor")) (hm : MtR X id r) (ho : PE X o to) (ha : PA X (e :: es) t)
  (hbase : attributeBase o name X.env (eval o X.env) = eval o X.env := by rfl)
  (hfew : ((backTo cpos (starEach (e :: es) X.env)).all (fun x => !x.1) && (backToKw cpos (keywordEach [] X.env)).all (fun x => x.1.isSome)
   && decide ((e :: es).length + ([] : List Keyword).length + (if ([] : List Keyword).isEmpty then 0 else 1) < 30)) = true := by rfl)
  (hline : (apos.endLine == cpos.line) = true := by rfl) (hs : starEach (e :: es) X.env = (false, eval e X.env) :: starEach es X.env := by rfl) (hplain : (backTo cpos (starEach es X.env)).any (·.1) = false := by rfl) :
  PE X (.Call (.Attribute o name apos) (e :: es) [] cpos) (tBM X.K T r to t) := by
 intro pins s σ H Q I h
 refine wpAny_Call_method_late hbase hfew hline rfl (thn (ho pins s σ H _ I h) fun v s1 ⟨x, H1, I1, r1, ty, q1⟩ => ?_)
 obtain ⟨h1, h2⟩ := tyV_is I1 r1 ty
 refine ⟨T, id, pa, slot, hty, h1, h2, ?_⟩
 have hA := ha cpos pins s1 σ H1 _ I1 q1
 rw [hs] at hA ⊢
 refine Calls.callWith_builtin (by show (false || (backTo cpos (starEach es X.env)).any (·.1)) = false; rw [hplain] <;> rfl) (Calls.evalArgs_plain ?_)
 exact thn hA fun us s2 ⟨vs, H2, I2, r2, q2⟩ => hm pins s2 σ H2 x vs v us Q I2 r1 r2 q2
end
end L2
namespace L2
open PySem PySem.Spec PyProof.Rows
def MtM (X : Cx) (id : String) (r : V -> List V -> Hp -> VK -> Prop) : Prop :=
 ∀ (pins : List (Addr × Obj)) (s : Shared) (σ : St) (H : Hp) (x : V) (xs : List V) (v : Value) (us : List Value) (Q : VK), Inv X pins σ H s -> RelV x v -> Vals xs us -> r x xs H Q →
  wpAny (model X.prog X.w) X.A (call (.builtin id) (v :: us)) (EP X pins σ Q) X.xe s
theorem Vals.one : ∀ {x : V} {us : List Value}, Vals [x] us -> ∃ u, us = [u] /\ RelV x u
 | _, _, .cons r .nil => ⟨_, rfl, r⟩
section
variable {X : Cx} {pins : List (Addr × Obj)} {σ : St} {H : Hp} {s : Shared} {l b : Addr} {xs ys zs : List V}
theorem Inv.lset {its its' : List Value} {n : Nat} {f : Array Value -> Array Value} {t' : Nat} (I : Inv X pins σ H s) (hH : H l = some (.lst xs))
  (e : s.heap.get? l = some { cls := .type "list", data := .seq its.toArray n }) (hf : f its.toArray = its'.toArray) (hv : Vals ys its') (hz : ys.length ≤ sizeLine) :
  Inv X pins σ (upd H l (.lst ys)) { s with heap := s.heap.update l (Obj.mapSeq f), toks := t' } := by
 have q := PySem.IsL.update e f
 rw [hf] at q
 refine I.write (x := l) (e := l) (by rw [hH]; exact trivial) (.inl rfl) (fun b' u hb hu => (Heap.get?_update_other s.heap (Obj.mapSeq f) (Ne.symm hb)).trans hu) ⟨_, q⟩ ?_
 exact ⟨hz, its', _, hv, q⟩
theorem Inv.lnew {its : List Value} {t' : Nat} (I : Inv X pins σ H s) (hv : Vals ys its) (hz : ys.length ≤ sizeLine) :
  Inv X pins σ (upd H s.heap.objs.size (.lst ys)) { s with heap := s.heap.push { cls := .type "list", data := .seq its.toArray }, toks := t' } :=
 I.laid (fun _ _ q => Heap.get?_push_of_some _ q) (Nat.le_refl _) ⟨hz, its, 0, hv, Heap.get?_push_size _ rfl⟩
theorem Inv.fresh (I : Inv X pins σ H s) : H s.heap.objs.size = none := I.hok.fresh (Nat.le_refl _)
theorem Inv.lstM (I : Inv X pins σ H s) (hH : H l = some (.lst xs)) : xs.length ≤ sizeLine /\ ∃ (its : List Value) (n : Nat), Vals xs its /\ xs.length = its.length /\ s.heap.get? l = some { cls := .type "list", data := .seq its.toArray n } := by
 obtain ⟨z, its, n, r, e⟩ := I.hok l _ hH
 exact ⟨z, its, n, r, r.length, e⟩
end
section
variable {X : Cx}
def rAppend : V -> List V -> Hp -> VK -> Prop := fun x vs H Q => ∃ l xs y, x = .ref l /\ vs = [y] /\ H l = some (.lst xs) /\ xs.length < sizeLine /\ Q .non (upd H l (.lst (xs ++ [y])))
theorem mt_append : MtM X "list.append" rAppend := by
 intro pins s σ H x vs v us Q I rx rv h
 obtain ⟨l, xs, y, rfl, rfl, hH, hz, q⟩ := h
 cases rx
 obtain ⟨u, rfl, ru⟩ := rv.one
 obtain ⟨z, its, n, r, hl, e⟩ := I.lstM hH
 refine call_meets F.slot_list_append ⟨_, e, rfl⟩ F.entry_list_append (F.args_list_append_2 _ _) (PySem.list_append l its.toArray n u (by rw [List.size_toArray]; omega)) ⟨e, ?_⟩
 refine ⟨.non, _, I.lset (its' := its ++ [u]) hH e (by simp) (r.append (.cons ru .nil)) ?_, rfl, q⟩
 rw [List.length_append, List.length_singleton]
 omega
def rExtend : V -> List V -> Hp -> VK -> Prop := fun x vs H Q => ∃ l b xs zs, x = .ref l /\ vs = [.ref b] /\ H l = some (.lst xs) /\ H b = some (.lst zs) /\ xs.length + zs.length ≤ sizeLine /\ Q .non (upd H l (.lst (xs ++ zs)))
def rPop : V -> List V -> Hp -> VK -> Prop := fun x vs H Q => ∃ l xs y, x = .ref l /\ vs = [] /\ H l = some (.lst xs) /\ xs[xs.length - 1]? = some y /\ Q y (upd H l (.lst xs.dropLast))
def rPopAt : V -> List V -> Hp -> VK -> Prop := fun x vs H Q => ∃ l xs i k y, x = .ref l /\ vs = [.int i] /\ H l = some (.lst xs) /\ -(2 ^ 63) ≤ i /\ i < 2 ^ 63 /\ seqIndex? i xs.length = some k /\ xs[k]? = some y /\ Q y (upd H l (.lst (xs.eraseIdx k)))
def rReverse : V -> List V -> Hp -> VK -> Prop := fun x vs H Q => ∃ l xs, x = .ref l /\ vs = [] /\ H l = some (.lst xs) /\ Q .non (upd H l (.lst xs.reverse))
def rClear : V -> List V -> Hp -> VK -> Prop := fun x vs H Q => ∃ l xs, x = .ref l /\ vs = [] /\ H l = some (.lst xs) /\ Q .non (upd H l (.lst []))
def rCat : R2 := fun x y H Q => ∃ l b xs zs, x = .ref l /\ y = .ref b /\ H l = some (.lst xs) /\ H b = some (.lst zs) /\ xs.length + zs.length ≤ sizeLine /\ ∀ p, H p = none -> Q (.ref p) (upd H p (.lst (xs ++ zs)))
theorem op_cat : OpR X (binaryOp .Add) rCat := by
 intro pins s σ H x y v u Q I rx ry h
 obtain ⟨l, b, xs, zs, rfl, rfl, hH, hB, hz, q⟩ := h
 cases rx
 cases ry
 obtain ⟨z, its, n, r, hl, e⟩ := I.lstM hH
 obtain ⟨z2, its2, n2, r2, hl2, e2⟩ := I.lstM hB
 refine PySem.P.add_list e e2 ?_ (by rw [List.size_toArray, List.size_toArray]; omega)
 have ea : its.toArray ++ its2.toArray = (its ++ its2).toArray := by simp
 rw [ea]
 exact ⟨.ref _, _, I.lnew (t' := s.toks) (r.append r2) (by rw [List.length_append]; omega), rfl, q _ I.fresh⟩
def rRep : R2 := fun x y H Q => ∃ l k xs, x = .ref l /\ y = .int k /\ H l = some (.lst xs) /\ -(2 ^ 63) ≤ k /\ k < 2 ^ 63 /\ xs.length * k.toNat ≤ sizeLine ∧
 ∀ p, H p = none -> Q (.ref p) (upd H p (.lst (List.replicate k.toNat xs).flatten))
end
section
variable {prog : Program} {w : World} {A : Around} {E : Value -> Shared -> Prop} {s : Shared}
end
section
variable {X : Cx}
end
end L2
namespace Att
open PySem PySem.W PySem.Calls PyProof.Rows
theorem ints_of_wellAll {P : Params} {h : Heap} : ∀ (ns : List Int) (vs : List Value), WellAll P h vs (ns.map WData.int) -> IntsAre vs ns := by
 intro ns
 induction ns with
 | nil =>
  intro vs w
  rw [List.map_nil] at w
  cases w
  exact .nil
 | cons n ns ih =>
  intro vs w
  rw [List.map_cons] at w
  cases w with
  | cons a b =>
   cases a
   exact .cons _ _ (ih _ b)
theorem script_of {l : OpenLaw} {n : Nat} (hn : l.most = some n) {P : Params} {h : Heap} {args : List WData} {vals : List Value}
  (hpre : l.row.toRowW.claim.pre args = true) (hwl : WellAll P h vals args) :
  ∃ a vs ns, vals = [Value.ref a] /\ args = [WData.list (ns.map WData.int)] /\ h.get? a = some { cls := .type "list", data := .seq vs.toArray } /\ IntsAre vs ns /\ ns.length ≤ n := by
 have hsh : WShape.hasAll [] args [.list .int] = true := (pre_splitW hpre).1
 have hc : l.pre.holds [] { args := args } = true := (pre_splitW hpre).2
 obtain ⟨d, r, rfl, h1, h2⟩ := hasAllW_cons hsh
 obtain rfl := hasAllW_nil h2
 obtain ⟨xs, rfl, h3⟩ := hasW_list h1
 obtain ⟨ns, rfl⟩ := items_int h3
 have hlen : ns.length ≤ n := by
  unfold OpenLaw.pre at hc
  have h4 : (WTm.not (.lt (.lit (.int (n : Int))) (.len (.arg 0)))).holds [] { args := [.list (ns.map .int)] } = true := by
   have h4 := (holds_andW hc).1
   rw [hn] at h4
   exact h4
  have h5 := condW_of h4 (w_not (w_lt w_lit (w_len_list (w_arg rfl))))
  rw [List.length_map] at h5
  refine Nat.le_of_not_lt fun q => ?_
  have q' : (n : Int) < ((ns.length : Nat) : Int) := by omega
  first
   | (rw [decide_eq_true q'] at h5; exact absurd h5 (by decide))
   | (simp at h5; omega)
 cases hwl with
 | cons w1 w2 =>
  cases w2
  cases w1 with
  | list ho hall => exact ⟨_, _, ns, rfl, rfl, ho, ints_of_wellAll ns _ hall, hlen⟩
theorem post_true (l : OpenLaw) (args : List WData) : l.row.toRowW.claim.post args (.bool true) args = true :=
 postW_of (r := l.row.toRowW) (X := (true == true))
  (show WShape.has [] (.bool true) .bool = true by first | rfl | decide | simp [WShape.has, WShape.arms, WShape.armsAll])
  (show (WTm.eq .res (.lit (.bool true))).value [] { args := args, res := some (.bool true), after := args } = some (.bool (true == true)) from w_eq_bool (w_res rfl) w_lit) rfl
theorem attach_call {l : OpenLaw} {n : Nat} {q : Program} {loose : List Str} {XP : (Str -> Option Value) -> Heap -> Prop} {YP : World -> Heap -> Prop} {d : DefRec}
  (hn : l.most = some n) (hdf : d.params.defaults = [])
  (call : ∀ (w : World) (s₀ s₁ : Shared) (mg mb : Str -> Option Value) (fa : Addr) (o : Obj) (pm cd doc : Value) (a : Addr) (vs : List Value) (ns : List Int),
   Ground q loose [] XP w s₀ mg mb s₁.heap -> YP w s₁.heap →
   s₁.heap.get? fa = some o -> o.data = .func (docDef d.name d.params d.body d.scope pm cd doc) -> s₁.heap.CodeRec cd d.name -> mg d.name = some (.ref fa) →
   s₁.heap.get? a = some { cls := .type "list", data := .seq vs.toArray } -> IntsAre vs ns -> ns.length ≤ n -> s₁.gens = #[] →
   codeAny (model l.prog w) callerA (.call (.ref fa) ⟨[.ref a], []⟩) (fun r s' => r = .ok (.ret (.bool true)) /\ OldK s₁.heap s'.heap /\ s'.os = s₁.os /\ AllBare s'.gens) s₁) :
  WalkO q loose XP YP l.row.toRowW d [] (fun f vs => PySem.call f vs) := by
 intro w s₀ s₁ mg mb G Y fa o pm cd doc dV kV ho hd hcd hD hmg hg args vals as hpre hlay hrd hwl hlo
 obtain rfl : dV = .none := Dflts.none hD hdf
 obtain rfl : kV = .none := Dflts.noKw hD
 obtain ⟨a, vs, ns, rfl, rfl, hobj, hints, hlen⟩ := script_of hn hpre hwl
 refine enter_call (codeAny_mono (call w s₀ s₁ mg mb fa o pm cd doc a vs ns G Y ho (fd_plain hd) hcd hmg hobj hints hlen hg) fun r s' hq => ?_)
 obtain ⟨rfl, h2, h3, h4⟩ := hq
 exact ⟨.inl ⟨.bool true, .bool true, [], rfl, fun _ => rfl, .bool true, post_true l _, fun _ => ⟨List.Pairwise.nil, fun _ hm => (nomatch hm)⟩⟩, h2, h3, h4⟩
section
variable {prog : Program} {w : World} {A : Around} {E : Value -> Shared -> Prop} {s : Shared} {K : Frag}
def noObjs (h : Heap) : Heap := { h with objs := #[] }
def ledger (h : Heap) (L d : Addr) : List (Addr × Obj) := (List.range h.objs.size).filterMap fun a => if a = L ∨ a = d then none else (h.get? a).map fun o => (a, o)
end
end Att
namespace L2
open PySem PySem.Spec PyProof.Rows
theorem vals_ints : ∀ {vs : List Value} {ns : List Int}, IntsAre vs ns -> Vals (ns.map V.int) vs
 | _, _, .nil => .nil
 | _, _, .cons n t h => .cons ⟨t, rfl⟩ (vals_ints h)
def Only (H : Hp) : Prop := ∀ b, H b = none ∨ ∃ o xs, H b = some (.frz o (.lst xs))
theorem law_call {P : Program} {w : World} {K : PySem.W.Frag} {mg mb : Str -> Option Value} {CX : CXT} {k : Nat} {fa a : Addr} {fd : FuncData} {x : Str} {sp : Sp} {s₁ : Shared} {vs : List Value} {ns : List Int}
  (KX : K.In s₁.heap) (hns : s₁.heap.Ns mainGlobals mg) (hb : s₁.heap.Ns builtinsNs mb) (hbb : ∀ x : Str, x ≠ "__name__" -> mb x = bootBuiltins x) (hlim : s₁.heap.NoLimit) (hg : s₁.gens = #[])
  (ha : s₁.heap.get? a = some { cls := .type "list", data := .seq vs.toArray }) (hi : IntsAre vs ns) (hl : ns.length ≤ sizeLine) (hr : Room k callerA)
  (F : ∀ base : Heap, K.In base -> base.Ns mainGlobals mg -> FnOk P w K mg base CX k fa fd [x] sp) (hbind : ∀ (s : Shared) (u : Value), BindsTo s fd ⟨[u], []⟩ [(x, u)])
  (hsp : ∀ H : Hp, Only H -> SqL K H a (ns.map V.int) -> sp [.ref a] H (fun v _ => v = .bl true) fun _ _ _ => False)
  (hCX : ∀ H e s', CX [] H s₁ (fun _ _ _ => False) e s' -> False) :
  codeAny (model P w) callerA (.call (.ref fa) ⟨[.ref a], []⟩) (fun r s' => r = .ok (.ret (.bool true)) /\ OldK s₁.heap s'.heap /\ s'.os = s₁.os /\ AllBare s'.gens) s₁ := by
 have rv := vals_ints hi
 have lenV := hi.length
 have core : ∀ H : Hp, Only H -> SqL K H a (ns.map V.int) -> HOk P w H s₁.heap -> (∀ b, H b ≠ none -> b = a) -> (H a ≠ none -> K.lookup a = none) →
   codeAny (model P w) callerA (.call (.ref fa) ⟨[.ref a], []⟩) (fun r s' => r = .ok (.ret (.bool true)) /\ OldK s₁.heap s'.heap /\ s'.os = s₁.os /\ AllBare s'.gens) s₁ := by
  intro H hO hS hok hA hK
  have base_of : ∀ {b : Addr} {o : Obj}, s₁.heap.get? b = some o -> H b = none -> (hidT s₁.heap H).get? b = some o := fun e n => hidT_get e n
  have noA : ∀ {b : Addr} {o : Obj} {es : Array DictEntry} {ep : Nat}, s₁.heap.get? b = some o -> o.data = .dict es ep -> H b = none := fun {b o es ep} e d => by
   cases q : H b with
   | none => rfl
   | some u =>
    have e' : b = a := hA b (by rw [q]; simp)
    subst e'
    rw [ha] at e; cases e
    have d' : Data.seq vs.toArray _ = Data.dict es ep := d
    cases d'
  have nsK : ∀ {b : Addr} {m : Str -> Option Value}, s₁.heap.Ns b m -> (hidT s₁.heap H).Ns b m := fun {b m} ⟨o, es, ep, e, d, r⟩ => ⟨o, es, ep, base_of e (noA e d), d, r⟩
  have hKb : K.In (hidT s₁.heap H) := fun b o e => base_of (KX b o e) (by
   cases q : H b with
   | none => rfl
   | some u =>
    have e' : b = a := hA b (by rw [q]; simp)
    subst e'
    rw [hK (by rw [q]; simp)] at e; cases e)
  have hM : Mod K mg (hidT s₁.heap H) := ⟨hKb, nsK hns, ⟨mb, nsK hb, hbb⟩, let ⟨mc, h1, h2⟩ := hlim; ⟨mc, nsK h1, h2⟩⟩
  have e0 : Env0 P w K mg (hidT s₁.heap H) callerA [] s₁ H := ⟨rfl, hM, fun b o e => of_hidT e, Nat.le_of_eq (hidT_size _ _), trivial, fun b hb => absurd (show b ∈ ([] : List Addr) from hb) (by simp), hok, .of_eq hg⟩
  refine codeAny_mono ((F _ hKb (nsK hns)).run callerA [] s₁ H ⟨[.ref a], []⟩ [.ref a] [.ref a] _ _ hr e0 (hbind s₁ (.ref a)) (.cons rfl .nil) (hsp H hO hS)) fun r s' h => ?_
  cases r with
  | error e => exact (hCX H e s' h).elim
  | ok fl =>
   cases fl with
   | next => exact False.elim h
   | brk => exact False.elim h
   | cont => exact False.elim h
   | ret u =>
    obtain ⟨v, H', os, bare, un, hok', r', q⟩ := h
    have q' : v = .bl true := q
    subst q'
    obtain rfl : u = Value.bool true := r'
    refine ⟨rfl, OldK.of_keep fun b o e => ?_, os, bare⟩
    cases q : H b with
    | none => exact un.keep b o e q (by intro z; exact absurd (show b ∈ ([] : List Addr) from z) (by simp)) (by simp)
    | some u =>
     rcases hO b with z | ⟨ob, xs, z⟩
     ·rw [q] at z; cases z
     ·have z2 := un.frzs b ob _ z
      obtain ⟨e1, _⟩ := hok b _ z
      obtain ⟨e2, _⟩ := hok' b _ z2
      rw [e] at e1; cases e1
      exact e2
 cases hk : K.lookup a with
 | some o =>
  have e := KX a o hk
  rw [ha] at e
  cases e
  refine core (fun _ => none) (fun _ => .inl rfl) (.inr ⟨_, vs.toArray, _, hk, rfl, rfl, rfl, by rw [List.size_toArray, lenV]; exact hl, by simpa using rv⟩) (fun b u z => by have z' : (none : Option HO) = some u := z; cases z') (fun b z => absurd rfl z) fun z => absurd rfl z
 | none =>
  refine core (fun b => if b = a then some (.frz { cls := .type "list", data := .seq vs.toArray } (.lst (ns.map V.int))) else none) (fun b => ?_) (.inl (.inr ⟨{ cls := .type "list", data := .seq vs.toArray }, if_pos rfl⟩)) (fun b u z => ?_) (fun b z => ?_) fun _ => hk
  ·by_cases hb : b = a
   ·exact .inr ⟨_, _, if_pos hb⟩
   ·exact .inl (if_neg hb)
  ·by_cases hb : b = a
   ·have z' := (if_pos hb).symm.trans z
    cases z'
    subst hb
    exact ⟨ha, by rw [List.length_map]; exact hl, vs, _, rv, ha⟩
   ·have z' := (if_neg hb).symm.trans z
    cases z'
  ·by_cases hb : b = a
   ·exact hb
   ·exact absurd (if_neg hb) z
end L2
namespace L2
open PySem PySem.Spec PyProof.Rows
abbrev KOf {K : PySem.W.Frag} {h : Heap} (_ : K.In h) : PySem.W.Frag := K
theorem walk_of {l : PySem.W.OpenLaw} {n k : Nat} {q : Program} {loose : List Str} {XP : (Str -> Option Value) -> Heap -> Prop} {YP : World -> Heap -> Prop} {d : DefRec} {K : Params -> PySem.W.Frag} {CX : World -> CXT} {sp : World -> Sp} {x : Str}
  (hn : l.most = some n) (hn2 : n ≤ sizeLine) (hdf : d.params.defaults = []) (hr : Room k callerA)
  (hY : ∀ (w : World) (h : Heap), YP w h -> (K w.params).In h)
  (F : ∀ (w : World) (mg : Str -> Option Value) (fa : Addr) (h : Heap), (K w.params).In h -> h.Ns mainGlobals mg -> mg d.name = some (.ref fa) →
   ∃ fd : FuncData, (∀ (s : Shared) (u : Value), BindsTo s fd ⟨[u], []⟩ [(x, u)]) ∧
    ∀ base : Heap, (K w.params).In base -> base.Ns mainGlobals mg -> FnOk l.prog w (K w.params) mg base (CX w) k fa fd [x] (sp w))
  (hsp : ∀ (w : World) (H : Hp) (a : Addr) (ns : List Int), ns.length ≤ n -> Only H -> SqL (K w.params) H a (ns.map V.int) -> sp w [.ref a] H (fun v _ => v = .bl true) fun _ _ _ => False)
  (hCX : ∀ (w : World) (H : Hp) (s : Shared) (e : Value) (s' : Shared), CX w [] H s (fun _ _ _ => False) e s' -> False) :
  PySem.W.WalkO q loose XP YP l.row.toRowW d [] (fun f vs => PySem.call f vs) := by
 refine Att.attach_call hn hdf fun w s₀ s₁ mg mb fa o pm cd doc a vs ns G Y ho hd hcd hmg hobj hints hlen hg => ?_
 have KX := hY w _ Y
 obtain ⟨fd, hb, hF⟩ := F w mg fa _ KX G.T.g hmg
 exact law_call KX G.T.g G.T.b G.T.builtins G.T.nolimit hg hobj hints (Nat.le_trans hlen hn2) hr hF hb (fun H hO hS => hsp w H a ns hlen hO hS) fun H e s' => hCX w H s₁ e s'
end L2
namespace L2
open PySem PySem.Spec PyProof.Rows
def inClass (s : Stmt) (j : Nat) : Stmt := match s with
 | .ClassDef _ _ _ body _ _ _ _ _ _ _ => body.getD j (.Pass ⟨0, 0, 0, 0⟩)
 | _ => .Pass ⟨0, 0, 0, 0⟩
def defArgs (s : Stmt) : Arguments := match s with
 | .FunctionDef _ a _ _ _ _ _ _ _ _ => a
 | _ => { posonlyargs := [], args := [], vararg := none, kwonlyargs := [], kw_defaults := [], kwarg := none, defaults := [] }
def defBody (s : Stmt) : List Stmt := match s with
 | .FunctionDef _ _ b _ _ _ _ _ _ _ => b
 | _ => []
def defScope (s : Stmt) : Scope := match s with
 | .FunctionDef _ _ _ _ _ _ sc _ _ _ => sc
 | _ => { kind := .function, names := [], isGenerator := false, isCoroutine := false }
abbrev CX0 : CXT := fun _ _ _ _ _ _ => False
abbrev E0 : XK := fun _ _ _ => False
theorem pass0 {X : Cx} : Passes CX0 X E0 := fun _ _ _ _ _ _ _ h => h.elim
structure Fun (K : PySem.W.Frag) (x qual : Str) (st : Stmt) (f : Addr) (fd : FuncData) : Prop where
 ex : ∃ (oc : Value) (od : Option Addr) (kV doc pm : Value) (an : Option Addr) (cdv ct : Value) (osl : Array (Option Value)),
  fd = PySem.W.fnOf x qual (defArgs st) (defBody st) (defScope st) .none kV doc pm an cdv ct /\ K.lookup f = some ⟨oc, od, .func fd, osl⟩ /\ PySem.W.codeIn K cdv qual = true
 kp : PySem.W.keepIn K (.ref f) = true
section
variable {P : Program} {w : World} {K : PySem.W.Frag} {mg : Str -> Option Value} {base : Heap}
theorem Fun.ok {x qual : Str} {st : Stmt} {f : Addr} {fd : FuncData} {N ps : List Str} {k : Nat} {sp : Sp} (F : Fun K x qual st f fd) (S : FnScope N ps (defScope st)) (len : ∀ vs H Q E, sp vs H Q E -> vs.length = ps.length)
  (hbody : ∀ (cdv : Value) (A : Around) (outer : List Env) (s : Shared) (H : Hp) (vs : List V) (Q : VK) (E : XK), Room k (A.deeper (envOfC qual (defScope st) s.heap.objs.size f cdv)) -> sp vs H Q E →
   ∃ t, PSs (cxOf CX0 P w K mg base N qual (defScope st) f cdv A outer s H E).nox (defBody st) t /\ t { nx := fun _ H' => Q .non H', rt := Q } (start N vs) H) : FnOk P w K mg base CX0 (k + 1) f fd ps sp := by
 obtain ⟨oc, od, kV, doc, pm, an, cdv, ct, osl, rfl, lk, hcd⟩ := F.ex
 refine fn_of lk hcd S len fun A outer s H vs Q E hr hsp => ?_
 obtain ⟨t, h, q⟩ := hbody cdv A outer s H vs Q E hr hsp
 exact ⟨t, h.nox, q⟩
theorem Fun.binds {x qual : Str} {st : Stmt} {f : Addr} {fd : FuncData} {ps : List Str} (F : Fun K x qual st f fd)
  (h : ∀ (kV doc pm : Value) (an : Option Addr) (cdv ct : Value) (us : List Value), us.length = ps.length -> bindArgs (PySem.W.fnOf x qual (defArgs st) (defBody st) (defScope st) .none kV doc pm an cdv ct) ⟨us, []⟩ = pure (ps.zip us)) : Binds K fd ps [] := by
 obtain ⟨oc, od, kV, doc, pm, an, cdv, ct, osl, rfl, lk, hcd⟩ := F.ex
 exact .all (h kV doc pm an cdv ct)
theorem fun_mk {x qual : Str} {st : Stmt} {f : Addr} {oc : Value} {od an : Option Addr} {osl : Array (Option Value)} {kV doc pm cdv ct : Value} (l : K.lookup f = some ⟨oc, od, .func (PySem.W.fnOf x qual (defArgs st) (defBody st) (defScope st) .none kV doc pm an cdv ct), osl⟩)
  (c : PySem.W.codeIn K cdv qual = true) (k : PySem.W.keepIn K (.ref f) = true) : Fun K x qual st f (PySem.W.fnOf x qual (defArgs st) (defBody st) (defScope st) .none kV doc pm an cdv ct) := ⟨⟨oc, od, kV, doc, pm, an, cdv, ct, osl, rfl, l, c⟩, k⟩
end
theorem hu_of {A : Around} {k : Nat} (hr : Room k A) : A.units + 1 < cLine := Nat.lt_of_le_of_lt (Nat.add_le_add_left (by decide : 1 ≤ 64) _) hr.units
theorem small1000 {n : Nat} (h : n ≤ 1000) : n < sizeLine := Nat.lt_of_le_of_lt h (by decide)
section
variable {X : Cx}
theorem pv (i : Nat) {x : Str} {pos : Pos} (hN : X.N[i]? = some x := by rfl) (hv : Vis X.env.scope x := by first | exact Or.inl rfl | exact Or.inr (Or.inl rfl) | exact Or.inr (Or.inr rfl)) (hd : (x == ("__debug__" : Str)) = false := by decide)
  (hcd : (x == ("__classdict__" : Str)) = false := by decide) : PE X (.Name x pos) (tVar i) := pe_var hN hv hd hcd
end
theorem iteF {A B : Prop} (h : B) : if false = true then A else B := by
 rw [if_neg Bool.false_ne_true]
 exact h
theorem iteT {A B : Prop} (h : A) : if true = true then A else B := by
 rw [if_pos rfl]
 exact h
theorem ite2 {c A B : Prop} [Decidable c] (h1 : c -> A) (h2 : ¬ c -> B) : if c then A else B := by
 by_cases h : c
 ·rw [if_pos h]
  exact h1 h
 ·rw [if_neg h]
  exact h2 h
theorem iteNS {c A B : Prop} [Decidable c] (hc : c) (h : B) : if (!decide c) = true then A else B := by
 rw [decide_eq_true hc]
 exact iteF h
def Same (H H' : Hp) : Prop := ∀ b o, H b = some o -> H' b = some o
theorem Same.refl (H : Hp) : Same H H := fun _ _ h => h
theorem Same.trans {H H1 H2 : Hp} (a : Same H H1) (b : Same H1 H2) : Same H H2 := fun c o h => b c o (a c o h)
theorem Same.seq {K : PySem.W.Frag} {H H' : Hp} {a : Addr} {xs : List V} (e : Same H H') (h : SqL K H a xs) : SqL K H' a xs := by
 rcases h with (h | ⟨o, h⟩) | h
 ·exact .inl (.inl (e _ _ h))
 ·exact .inl (.inr ⟨o, e _ _ h⟩)
 ·exact .inr h
end L2
set_option maxHeartbeats 4000000
namespace B
open PySem L2 PyProof.Rows
theorem iteN1 {c A B : Prop} [Decidable c] (hc : ¬ c) (h : A) : if (!decide c) = true then A else B := by
 have e : (!decide c) = true := by rw [decide_eq_false hc]; rfl
 rw [if_pos e]; exact h
theorem iteD1 {c A B : Prop} [Decidable c] (hc : c) (h : A) : if decide c = true then A else B := by
 rw [if_pos (decide_eq_true hc)]; exact h
theorem iteD0 {c A B : Prop} [Decidable c] (hc : ¬ c) (h : B) : if decide c = true then A else B := by
 have e : ¬ decide c = true := by rw [decide_eq_false hc]; intro z; cases z
 rw [if_neg e]; exact h
def kitTT (A B : String) : Option Bool := if (Value.type A == Value.type B) = true then some true else if PySem.W.kitMeta B = true then (fastBuiltinMro A).map (·.contains (.type B)) else none
theorem kit_of {K : PySem.W.Frag} {A B : String} {b : Bool} (h : kitTT A B = some b) : PySem.W.kitOne K (.type A) (.type B) = some b := h
inductive Ty (H : Hp) : V -> String -> Prop where
 | non : Ty H .non "NoneType"
 | bl (b : Bool) : Ty H (.bl b) "bool"
 | int (i : Int) : Ty H (.int i) "int"
 | str (x : Str) : Ty H (.str x) "str"
 | lst {a : Addr} {xs : List V} (e : H a = some (.lst xs)) : Ty H (.ref a) "list"
 | tup {a : Addr} {xs : List V} (e : H a = some (.tup xs)) : Ty H (.ref a) "tuple"
theorem Ty.of {H : Hp} {v : V} {n : String} (K : PySem.W.Frag) (h : Ty H v n) : TyOf K H v (.type n) := by
 cases h with
 | non => exact .non
 | bl b => exact .bl b
 | int i => exact .int i
 | str x => exact .str x
 | lst e => exact .lst e
 | tup e => exact .tup e
def rIsi : List V -> Hp -> VK -> Prop := fun xs H Q => ∃ x n m b, xs = [x, .ty n] /\ Ty H x m /\ kitTT m n = some b /\ Q (.bl b) H
theorem call_isi {X : Cx} : CallR X (.builtin "isinstance") rIsi := by
 intro pins s σ H xs us Q I r h
 obtain ⟨x, n, m, b, rfl, ty, e, q⟩ := h
 obtain ⟨u, u2, rfl, rx, ry⟩ := vals2 r
 obtain rfl : u2 = Value.type n := ry
 exact isinst_ok I rx (ty.of X.K) (kit_of e) fun tk => ⟨.bl b, H, I.tok tk, rfl, q⟩
def wholeV : V -> Bool
 | .int _ => true
 | _ => false
def tupV (n : String) : Bool := n == "tuple"
structure Step (t : Addr) (H H' : Hp) : Prop where
 keep : ∀ b o, b ≠ t -> H b = some o -> H' b = some o
 tp : ∃ xs, H t = some (.lst xs)
 tp' : ∃ xs, H' t = some (.lst xs)
theorem Step.trans {t : Addr} {H H1 H2 : Hp} (a : Step t H H1) (b : Step t H1 H2) : Step t H H2 := ⟨fun c o n e => b.keep c o n (a.keep c o n e), a.tp, b.tp'⟩
theorem Step.up {t : Addr} {H : Hp} {xs ys : List V} (h : H t = some (.lst xs)) : Step t H (upd H t (.lst ys)) := ⟨fun c o n e => by rw [upd_ne n]; exact e, ⟨_, h⟩, ⟨_, upd_same⟩⟩
theorem same_new {H : Hp} {p : Addr} (h : H p = none) (o : HO) : Same H (upd H p o) := fun b u q => by rw [upd_ne (ne_of_none q h)]; exact q
theorem Step.same {t : Addr} {H H' : Hp} (s : Same H H') (h : ∃ xs, H t = some (.lst xs)) : Step t H H' := ⟨fun c o _ e => s c o e, h, let ⟨xs, e⟩ := h; ⟨xs, s _ _ e⟩⟩
theorem Step.new {t p : Addr} {H : Hp} (h : ∃ xs, H t = some (.lst xs)) (n : H p = none) (o : HO) : Step t H (upd H p o) := Step.same (same_new n o) h
def Th (H : Hp) (v : V) : Prop := ∃ n, Ty H v n /\ ∀ a xs, v = .ref a -> H a = some (.tup xs) -> ∀ x ∈ xs, ∃ m, Ty H x m
theorem pick {xs : List V} {r : Int} (h0 : 0 ≤ r) (h1 : r < (xs.length : Int)) : ∃ v, atI xs r = some v /\ v ∈ xs := by
 have hk : r.toNat < xs.length := by omega
 have ek : r = ((r.toNat : Nat) : Int) := by omega
 have q : atI xs ((r.toNat : Nat) : Int) = some xs[r.toNat] := atI_nat (List.getElem?_eq_getElem hk)
 rw [← ek] at q
 exact ⟨_, q, List.getElem_mem hk⟩
theorem pickI {ns : List Int} {r : Int} (h0 : 0 ≤ r) (h1 : r < (ns.length : Int)) : ∃ z : Int, atI (ns.map V.int) r = some (.int z) := by
 obtain ⟨v, h, hv⟩ := pick (xs := ns.map V.int) h0 (by rw [List.length_map]; exact h1)
 obtain ⟨z, _, rfl⟩ := List.mem_map.mp hv
 exact ⟨z, h⟩
structure Tape (H : Hp) (t s : Addr) : Prop where
 ex : ∃ (ns : List Int) (p q r : Int), H t = some (.lst [.ref s, .int p, .int q, .int r]) /\ H s = some (.lst (ns.map V.int)) /\ s ≠ t /\ ns.length ≤ 63 /\ 0 ≤ p /\ 0 ≤ q /\ 0 ≤ r
def sp_tape (K : PySem.W.Frag) : Sp := fun vs H Q _ => ∃ (a : Addr) (ns : List Int), vs = [.ref a] /\ SqL K H a (ns.map V.int) /\ ∀ (t s : Addr) (H' : Hp), Same H H' -> H t = none -> H s = none -> Tape H' t s -> Q (.ref t) H'
def sp_draw : Sp := fun vs H Q _ => ∃ (t s : Addr) (m : Int), vs = [.ref t, .int m] /\ Tape H t s /\ 0 < m /\ m < 1073741824 /\ ∀ (r : Int) (xs : List V), 0 ≤ r -> r < m -> Tape (upd H t (.lst xs)) t s -> Q (.int r) (upd H t (.lst xs))
def sp_lawT (K : PySem.W.Frag) : Sp := fun vs H Q _ => ∃ (a : Addr) (ns : List Int), vs = [.ref a] /\ SqL K H a (ns.map V.int) /\ ns.length ≤ 63 /\ ∀ H', Q (.bl true) H'
theorem gcd_turn {a b : Int} (ha : 0 ≤ a) (hb : 0 < b) : Int.gcd b (a % b) = Int.gcd a b := by
 obtain ⟨n, rfl⟩ := Int.eq_ofNat_of_zero_le ha
 obtain ⟨m, rfl⟩ := Int.eq_ofNat_of_zero_le (Int.le_of_lt hb)
 rw [← Int.natCast_emod]
 show Nat.gcd m (n % m) = Nat.gcd n m
 rw [Nat.gcd_comm m, ← Nat.gcd_rec, Nat.gcd_comm]
theorem abs_if (i : Int) : (if i < 0 then -i else i) = (i.natAbs : Int) := by split <;> omega
end B
namespace B
open PySem PySem.Spec L2 PyProof.Rows
mutual
inductive Deep (K : PySem.W.Frag) (H : Hp) : V -> PyData -> Prop where
 | non : Deep K H .non .none
 | bl (b : Bool) : Deep K H (.bl b) (.bool b)
 | int (i : Int) : Deep K H (.int i) (.int i)
 | str (x : Str) : Deep K H (.str x) (.str x)
 | lst {a : Addr} {xs : List V} {ds : List PyData} (e : SqL K H a xs) (h : DeepAll K H xs ds) : Deep K H (.ref a) (.list ds)
 | tup {a : Addr} {xs : List V} {ds : List PyData} (e : SqT K H a xs) (h : DeepAll K H xs ds) : Deep K H (.ref a) (.tuple ds)
inductive DeepAll (K : PySem.W.Frag) (H : Hp) : List V -> List PyData -> Prop where
 | nil : DeepAll K H [] []
 | cons {x : V} {d : PyData} {xs : List V} {ds : List PyData} (h : Deep K H x d) (t : DeepAll K H xs ds) : DeepAll K H (x :: xs) (d :: ds)
end
mutual
theorem Deep.reads {X : Cx} {pins : List (Addr × Obj)} {σ : L2.St} {H : Hp} {s : Shared} (I : Inv X pins σ H s) : ∀ {v : V} {d : PyData} {u : Value}, Deep X.K H v d -> RelV v u -> ∃ as, Reads s.heap u d as
 | _, _, u, .non, r => by cases (show u = Value.none from r); exact ⟨_, .none⟩
 | _, _, u, .bl b, r => by cases (show u = Value.bool b from r); exact ⟨_, .bool b⟩
 | _, _, u, .int i, r => by obtain ⟨t, q⟩ := (show ∃ t, u = Value.int i t from r); cases q; exact ⟨_, .int i t⟩
 | _, _, u, .str x, r => by obtain ⟨t, q⟩ := (show ∃ t, u = Value.str x t from r); cases q; exact ⟨_, .str x t⟩
 | _, _, u, .lst (a := a) e h, r => by
  cases (show u = Value.ref a from r)
  obtain ⟨its, rv, ⟨o, n, ho, hc, _, hd⟩, _⟩ := I.list e
  obtain ⟨as, q⟩ := DeepAll.reads I h rv
  exact ⟨_, .list ho hc hd (by simpa using q)⟩
 | _, _, u, .tup (a := a) e h, r => by
  cases (show u = Value.ref a from r)
  obtain ⟨its, rv, ⟨o, ho, hc, n, hd⟩, _⟩ := I.tuple e
  obtain ⟨as, q⟩ := DeepAll.reads I h rv
  exact ⟨_, .tuple ho hc hd (by simpa using q)⟩
theorem DeepAll.reads {X : Cx} {pins : List (Addr × Obj)} {σ : L2.St} {H : Hp} {s : Shared} (I : Inv X pins σ H s) : ∀ {vs : List V} {ds : List PyData} {us : List Value}, DeepAll X.K H vs ds -> Vals vs us -> ∃ as, ReadsAll s.heap us ds as
 | _, _, _, .nil, .nil => ⟨_, .nil⟩
 | _, _, _, .cons h t, .cons r q =>
  let ⟨_, a⟩ := Deep.reads I h r
  let ⟨_, b⟩ := DeepAll.reads I t q
  ⟨_, .cons a b⟩
end
structure Shows (d : PyData) : Prop where
 sh : d.showable = true
 nd : d.hasDict = false
 sz : d.shown.length ≤ sizeLine
 dp : d.depth ≤ 16
def rRepr (K : PySem.W.Frag) : List V -> Hp -> VK -> Prop := fun xs H Q => ∃ v d, xs = [v] /\ Deep K H v d /\ Shows d /\ Q (.str d.shown) H
theorem call_repr {X : Cx} {k : Nat} (hr : Room k X.A) : CallR X (.builtin "repr") (rRepr X.K) := by
 intro pins s σ H xs us Q I r h
 obtain ⟨v, d, rfl, dp, sh, q⟩ := h
 obtain ⟨u, rfl, ru⟩ := vals1 r
 cases dp with
 | non => cases (show u = Value.none from ru); exact PySem.P.repr_of_none ⟨.str "None", H, I.tok _, ⟨_, rfl⟩, q⟩
 | bl b => cases (show u = Value.bool b from ru); exact PySem.P.repr_of_bool ⟨.str _, H, I.tok _, ⟨_, rfl⟩, q⟩
 | int i =>
  obtain ⟨t, e⟩ := (show ∃ t, u = Value.int i t from ru)
  cases e
  exact PySem.P.repr_of_int (of_decide_eq_true sh.sh) ⟨.str _, H, I.tok _, ⟨_, rfl⟩, q⟩
 | str x =>
  obtain ⟨t, e⟩ := (show ∃ t, u = Value.str x t from ru)
  cases e
  exact PySem.P.repr_of_str ⟨.str _, H, I.tok _, ⟨_, rfl⟩, q⟩ sh.sz
 | @lst a ys ds e h =>
  cases (show u = Value.ref a from ru)
  obtain ⟨as, rd⟩ := Deep.reads I (.lst e h) (show RelV (.ref a) (.ref a) from rfl)
  exact repr_of_reads' rd sh.sh (fun z => by rw [sh.nd] at z; cases z) hr.gd (by have := hr.units; have := sh.dp; omega) (fun _ _ z => z) (fun h' u tk hk => ⟨.str _, H, I.kept hk, ⟨_, rfl⟩, q⟩) sh.sz
 | @tup a ys ds e h =>
  cases (show u = Value.ref a from ru)
  obtain ⟨as, rd⟩ := Deep.reads I (.tup e h) (show RelV (.ref a) (.ref a) from rfl)
  exact repr_of_reads' rd sh.sh (fun z => by rw [sh.nd] at z; cases z) hr.gd (by have := hr.units; have := sh.dp; omega) (fun _ _ z => z) (fun h' u tk hk => ⟨.str _, H, I.kept hk, ⟨_, rfl⟩, q⟩) sh.sz
end B
namespace B
open PySem PySem.Spec L2 PyProof.Rows
def cxC (X : Cx) (N' : List Str) (scope : Scope) (cl : List (Str × Addr)) (C : Addr) (fp : List Addr) (pins : List (Addr × Obj)) (s : Shared) (H : Hp) : Cx :=
 { X with N := N', s₀ := s, H₀ := H, env := compEnvC scope cl C X.env, outer := X.stack, stack := X.stack, ex := fp, fn := fun _ => false, pn := X.pn ++ pins, xe := fun _ _ => False }
def FreeOk (X : Cx) (scope : Scope) (cl : List (Str × Addr)) : List Str -> List (Option Nat) -> Prop
 | [], [] => True
 | _ :: N, none :: r => FreeOk X scope cl N r
 | x :: N, some j :: r => X.N[j]? = some x /\ X.env.kindOf x = some .cell /\ (compEnvC scope cl 0 X.env).kindOf x = some .cell /\ cl.lookup x = X.env.cells.lookup x /\ FreeOk X scope cl N r
 | _, _ => False
def frees (src : List (Option Nat)) (σ : L2.St) : L2.St := src.map fun o => o.bind fun j => (σ[j]?).getD none
theorem FreeOk.len {X : Cx} {scope : Scope} {cl : List (Str × Addr)} : ∀ {N : List Str} {src : List (Option Nat)}, FreeOk X scope cl N src -> N.length = src.length
 | [], [], _ => rfl
 | _ :: _, none :: _, h => congrArg (· + 1) (FreeOk.len (X := X) (scope := scope) (cl := cl) h)
 | _ :: _, some _ :: _, h => congrArg (· + 1) (FreeOk.len (X := X) (scope := scope) (cl := cl) h.2.2.2.2)
theorem FreeOk.at {X : Cx} {scope : Scope} {cl : List (Str × Addr)} {σ : L2.St} : ∀ {N : List Str} {src : List (Option Nat)} {i : Nat} {x : Str} {v : V}, FreeOk X scope cl N src -> N[i]? = some x -> (frees src σ)[i]? = some (some v) →
  ∃ j : Nat, X.N[j]? = some x /\ σ[j]? = some (some v) /\ X.env.kindOf x = some .cell /\ (compEnvC scope cl 0 X.env).kindOf x = some .cell /\ cl.lookup x = X.env.cells.lookup x
 | y :: N, none :: r, 0, x, v, h, e, q => by cases q
 | y :: N, none :: r, i + 1, x, v, h, e, q => FreeOk.at (N := N) (src := r) (i := i) h e q
 | y :: N, some j :: r, 0, x, v, h, e, q => by
  cases e
  refine ⟨j, h.1, ?_, h.2.1, h.2.2.1, h.2.2.2.1⟩
  have q' : some ((σ[j]?).getD none) = some (some v) := q
  injection q' with q'
  cases z : σ[j]? with
  | none => rw [z] at q'; cases q'
  | some o => rw [z] at q'; exact congrArg some q'
 | y :: N, some j :: r, i + 1, x, v, h, e, q => FreeOk.at (N := N) (src := r) (i := i) h.2.2.2.2 e q
def CellsOk (X : Cx) (scope : Scope) (cl : List (Str × Addr)) : Prop :=
 (∀ x, ((compEnvC scope cl 0 X.env).kindOf x = some .cell ∨ (compEnvC scope cl 0 X.env).kindOf x = some .free) -> ∃ c, cl.lookup x = some c) /\ ∀ x c, cl.lookup x = some c -> X.env.cells.lookup x = some c
def CellsIn (X : Cx) : List (Str × Addr) -> Prop
 | [] => True
 | y :: r => X.env.cells.lookup y.1 = some y.2 /\ CellsIn X r
theorem CellsIn.mem {X : Cx} : ∀ {cl : List (Str × Addr)}, CellsIn X cl -> ∀ y ∈ cl, X.env.cells.lookup y.1 = some y.2
 | [], _, y, h => by cases h
 | z :: r, k, y, h => by
  rcases List.mem_cons.mp h with e | h
  ·rw [e]; exact k.1
  ·exact CellsIn.mem k.2 y h
theorem mem_of_lookup {α : Type} {x : Str} {v : α} : ∀ {l : List (Str × α)}, l.lookup x = some v -> (x, v) ∈ l
 | [], h => by cases h
 | (y, w) :: r, h => by
  rw [List.lookup_cons] at h
  cases e : x == y with
  | true =>
   rw [e] at h
   have e' : x = y := eq_of_beq e
   cases h
   rw [e']; exact List.mem_cons_self
  | false =>
   rw [e] at h
   exact List.mem_cons_of_mem _ (mem_of_lookup h)
theorem cells_of {X : Cx} {scope : Scope} {cl : List (Str × Addr)} (h1 : ((relabel scope X.env).names.all fun y => !(y.2 == .cell || y.2 == .free) || (cl.lookup y.1).isSome) = true) (h2 : CellsIn X cl) : CellsOk X scope cl := by
 refine ⟨fun x h => ?_, fun x c e => h2.mem _ (mem_of_lookup e)⟩
 have h3 := List.all_eq_true.mp h1
 have key : ∀ k : NameKind, (k = .cell ∨ k = .free) -> (relabel scope X.env).names.lookup x = some k -> ∃ c, cl.lookup x = some c := fun k hk e => by
  have q := h3 _ (mem_of_lookup e)
  have z : (k == NameKind.cell || k == NameKind.free) = true := by rcases hk with rfl | rfl <;> rfl
  simp only [z, Bool.not_true, Bool.false_or] at q
  exact Option.isSome_iff_exists.mp q
 rcases h with h | h
 ·exact key _ (.inl rfl) h
 ·exact key _ (.inr rfl) h
def Ext (σ σ' : L2.St) : Prop := σ'.length = σ.length /\ ∀ (i : Nat) (v : V), σ[i]? = some (some v) -> σ'[i]? = some (some v)
theorem Ext.set {σ : L2.St} {i : Nat} {v : V} (h : σ[i]? = some none) : Ext σ (σ.set i (some v)) := by
 refine ⟨List.length_set, fun j u e => ?_⟩
 have ne : i ≠ j := fun z => by subst z; rw [h] at e; cases e
 rw [List.getElem?_set_ne ne]; exact e
section
variable {X : Cx} {N' : List Str} {scope : Scope} {cl : List (Str × Addr)} {src : List (Option Nat)} {pins : List (Addr × Obj)} {σ : L2.St} {H : Hp} {s : Shared} {fp : List Addr}
theorem Cx.comp_ok {C : Addr} (I : Inv X pins σ H s) (hC : s.heap.objs.size ≤ C) (hk : scope.kind = .function) (hf : ∀ b ∈ fp, FpOk X pins H b) (hfs : ∀ b ∈ fp, b < s.heap.objs.size) (hc : CellsOk X scope cl) :
  (cxC X N' scope cl C fp pins s H).Ok where
 mod := I.ok.mod
 kind := hk
 glob := I.ok.glob
 blt := I.ok.blt
 above := hC
 inj := fun x y c e1 e2 => I.ok.inj x y c (hc.2 x c e1) (hc.2 y c e2)
 has := fun x h => hc.1 x h
 cab := fun x c z => nomatch z
 hd := I.ok.hd
 frames := I.ok.frames
 stk := .inl rfl
 exf := fun b hb => ⟨fun z => by have := hfs b hb; rw [show b = C from z] at this; exact absurd (Nat.lt_of_lt_of_le this hC) (Nat.lt_irrefl _), fun x c e => (hf b hb).2.2.2.2.1 x c (hc.2 x c e)⟩
 bs := I.bs
 bsz := Nat.le_trans I.ok.bsz I.sz
 noex := fun b o e hb => by
  rcases (hf b hb).2.2.2.1 with z | z
  ·exact I.ok.noex b o e z
  ·rw [(I.ok.bs b o e).1] at z; cases z
 exfs := fun b hb z => by
  rcases List.mem_cons.mp (I.stkSub b z) with q | q
  ·exact (hf b hb).2.1 q
  ·exact (hf b hb).2.2.1 q
 funs := I.stack
 frf := I.stkFree
theorem Inv.comp {C : Addr} {h₁ : Heap} {m : Str -> Option Value} {tk : Nat} (I : Inv X pins σ H s) (hC : C = s.heap.objs.size) (hns : h₁.Ns C m) (keep : ∀ b o, s.heap.get? b = some o -> h₁.get? b = some o)
  (hk : scope.kind = .function) (hf : ∀ b ∈ fp, FpOk X pins H b) (hfs : ∀ b ∈ fp, b < s.heap.objs.size) (hc : CellsOk X scope cl) (hfree : FreeOk X scope cl N' src) :
  Inv (cxC X N' scope cl C fp pins s H) [] (frees src σ) H { s with heap := h₁, toks := tk } where
 ok := Cx.comp_ok I (Nat.le_of_eq hC.symm) hk hf hfs hc
 os := rfl
 bare := I.bare
 base := Un.kept keep
 loc := ⟨m, hns, fun i x v e1 e2 _ => by
  obtain ⟨j, hj, hσ, kc, kc', hl⟩ := hfree.at e1 e2
  obtain ⟨m0, hn0, hl0⟩ := I.loc
  obtain ⟨u, r, l⟩ := hl0 j x v hj hσ (Or.inr (Or.inl kc))
  rcases l with ⟨k, _⟩ | ⟨k, c, e, o, ho, hd⟩
  ·rw [kc] at k; cases k
  ·exact ⟨u, r, .inr ⟨.inl kc', c, hl.trans e, o, keep c o ho, hd⟩⟩⟩
 cell := fun x c e => let ⟨v, o, ho, hd⟩ := I.cell x c (hc.2 x c e); ⟨v, o, keep _ _ ho, hd⟩
 free := I.hok.fresh (Nat.le_of_eq hC.symm)
 freeC := fun x c e => I.freeC x c (hc.2 x c e)
 pin := fun p hp => by
  have hp' : p ∈ X.pn ++ pins := by
   have z : p ∈ (X.pn ++ pins) ++ [] := hp
   rw [List.append_nil] at z; exact z
  obtain ⟨e, n, ne, nf, d⟩ := I.pin p hp'
  refine ⟨keep _ _ e, n, fun z => ?_, fun z => ?_, d⟩
  ·have := Heap.lt_size e; rw [show p.1 = C from z, hC] at this; exact Nat.lt_irrefl _ this
  ·rcases List.mem_cons.mp (I.stkSub _ z) with q | q
   ·exact ne q
   ·exact nf q
 hok := I.hok.kept keep
 len := by show (frees src σ).length = N'.length; unfold frees; rw [List.length_map, hfree.len]
end
def PTs (X : Cx) (ifs : List Expr) (t : TT) : Prop :=
 ∀ (pins : List (Addr × Obj)) (s : Shared) (σ : L2.St) (H : Hp) (Q : Bool -> Hp -> Prop), Inv X pins σ H s -> t σ H Q →
  wpAny (model X.prog X.w) X.A (forIn ifs true fun c r => if r = true then do let ok ← isTrue c X.env (eval c X.env); pure (ForInStep.yield ok) else pure (ForInStep.yield r)) (TP X pins σ Q) X.xe s
def tYes : TT := fun _ H Q => Q true H
theorem pts_nil {X : Cx} : PTs X [] tYes := fun _ _ _ H _ I h => wpAny_tests_nil ⟨H, I, h⟩
theorem pts_one {X : Cx} {c : Expr} {t : TT} (h : PT X c t) : PTs X [c] t := fun pins s σ H Q I q => wpAny_tests_one (h pins s σ H Q I q)
section
variable {prog : Program} {w : World} {A : Around} {R : Result -> Shared -> Prop} {s : Shared}
theorem comp_loop {elt target iter : Expr} {ifs : List Expr} {scope : Scope} {pos : Pos} {it acc : Value} {env : Env} (I : Nat -> Shared -> Prop)
  (turn : ∀ n s, I n s -> wpAny (model prog w) A (pyNext it) (fun r s₁ => match r with
   | none => R (.ok .next) s₁
   | some v => wpAny (model prog w) A (letOwnedTupleGo target it v) (fun _ s₁' => wpAny (model prog w) A (assign target env v) (fun _ s₂ =>
     wpAny (model prog w) A (forIn ifs true fun c r => if r = true then do let ok ← isTrue c env (eval c env); pure (ForInStep.yield ok) else pure (ForInStep.yield r)) (fun ok s₃ =>
      if ok = true then wpAny (model prog w) A (eval elt env) (fun x s₄ =>
       wpAny (model prog w) A (call (.builtin "list.append") [acc, x]) (fun _ s₅ => ∃ m, m < n /\ I m s₅) (fun _ _ => False) s₄) (fun _ _ => False) s₃
      else ∃ m, m < n /\ I m s₃) (fun _ _ => False) s₂) (fun _ _ => False) s₁') (fun _ _ => False) s₁) (fun _ _ => False) s)
  (n : Nat) (h : I n s) : codeAny (model prog w) A (.compLoop (.ListComp elt [⟨target, iter, ifs, 0⟩] scope pos) 0 it acc env) R s := by
 refine codeAny_loop rfl I (fun n s hI => ?_) n h
 show wpAny _ A ((compTurn (.ListComp elt [⟨target, iter, ifs, 0⟩] scope pos) 0 it acc env).onRaise (fun x => do noteFrame x env; theTreesLotGoes x)) _ _ s
 refine wpAny_noted ?_
 rw [compTurn_list]
 refine wpAny_bind (wpAny_standAt (wpAny_bind (wpAny_mono (turn n s hI) (fun r s₁ h₁ => ?_) fun _ _ h' => h'.elim)))
 cases r with
 | none => exact wpAny_pure h₁
 | some v =>
  refine wpAny_bind (wpAny_mono h₁ (fun _ s₁' h₁' => ?_) fun _ _ h' => h'.elim)
  refine wpAny_bind (wpAny_mono h₁' (fun _ s₂ h₂ => wpAny_bind (wpAny_mono h₂ (fun ok s₃ h₃ => ?_) fun _ _ h' => h'.elim)) fun _ _ h' => h'.elim)
  cases ok with
  | false => exact wpAny_pure ⟨rfl, h₃⟩
  | true =>
   exact wpAny_bind (wpAny_bind (wpAny_mono h₃ (fun x s₄ h₄ => wpAny_bind (wpAny_mono h₄ (fun _ s₅ h₅ => wpAny_pure (wpAny_pure ⟨rfl, h₅⟩)) fun _ _ h' => h'.elim)) fun _ _ h' => h'.elim))
end
structure OffC (X : Cx) (pins : List (Addr × Obj)) (H : Hp) (C : Addr) : Prop where
 no : H C = none
 lo : C ≠ X.env.locals
 fs : C ∉ X.fs
 old : X.s₀.heap.get? C = none
 ce : ∀ x c, X.env.cells.lookup x = some c -> c ≠ C
 pn : ∀ p ∈ X.pn ++ pins, p.1 ≠ C
theorem OffC.turned {X : Cx} {pins : List (Addr × Obj)} {σ : L2.St} {H : Hp} {C : Addr} {s : Shared} (o : OffC X pins H C) (I : Inv X pins σ H s) {h' : Heap} (sb : Heap.SameBut C s.heap h') : Inv X pins σ H { s with heap := h' } :=
 I.turned (it := C) (t' := s.toks) (fun b u hb e => sb.extBut b u hb e) o.no o.lo (.inr o.old) o.ce o.pn
def tComp (wi : TI) (src : List (Option Nat)) (g : TG) (tt : TT) (te : TE) : TE := fun σ H Q => wi σ H fun J H1 => ∀ D, H1 D = none -> ∃ W : Nat -> Nat -> List V -> Hp -> Prop,
 (∃ m, W 0 m [] (upd H1 D (.lst []))) /\ ∀ i m ys H, W i m ys H -> (J.stop i H /\ Q (.ref D) H) ∨ (J.go i H /\ ∀ x H', J.yld i H x H' -> g x (frees src σ) H' fun σ2 H2 => Ext (frees src σ) σ2 /\ tt σ2 H2 fun ok H3 =>
  if ok = true then te σ2 H3 fun y H4 => H4 D = some (.lst ys) /\ ys.length < sizeLine /\ ∃ m', m' < m /\ W (i + 1) m' (ys ++ [y]) (upd H4 D (.lst (ys ++ [y]))) else ∃ m', m' < m /\ W (i + 1) m' ys H3)
section
variable {X : Cx} {N' : List Str} {scope : Scope} {cl : List (Str × Addr)} {src : List (Option Nat)} {tg iter elt : Expr} {ifs : List Expr} {wi : TI} {g : TG} {tt : TT} {te : TE} {pos : Pos}
theorem comp_run (hc : X.calm = true) (hi : PI X tg iter wi) (hg : ∀ C fp pins s H, PG (cxC X N' scope cl C fp pins s H) tg g) (ht : ∀ C fp pins s H, PTs (cxC X N' scope cl C fp pins s H) ifs tt)
  (he : ∀ C fp pins s H, PE (cxC X N' scope cl C fp pins s H) elt te) (hfree : FreeOk X scope cl N' src) (hcell : ∀ x ∈ scope.names, x.2 ≠ .cell) (hkind : scope.kind = .function) (hcl : CellsOk X scope cl)
  {RR : Value -> Addr -> Result -> Shared -> Prop} {pins : List (Addr × Obj)} {s : Shared} {σ : L2.St} {H : Hp} {Q : VK} (I : Inv X pins σ H s) (h : tComp wi src g tt te σ H Q)
  (hRR : ∀ D C H' s', Q (.ref D) H' -> (∃ m, s'.heap.Ns C m) -> Inv X pins σ H' s' -> OffC X pins H' C -> RR (.ref D) C (.ok .next) s') :
  wpAny (model X.prog X.w) X.A (eval iter X.env) (fun x s₁ => wpAny (model X.prog X.w) X.A (pyIter x) (fun itv s₂ => wpAny (model X.prog X.w) X.A (newList []) (fun acc s₃ =>
   wpAny (model X.prog X.w) X.A (newFunctionEnv scope X.env.globals cl [] X.env.qual none .none (some X.env)) (fun cenv s₄ =>
    codeAny (model X.prog X.w) X.A (.compStart (.ListComp elt [⟨tg, iter, ifs, 0⟩] scope pos) 0 itv acc { cenv with scope := relabel scope X.env }) (RR acc cenv.locals) s₄) X.xe s₃) X.xe s₂) X.xe s₁) X.xe s := by
 refine thn (hi pins s σ H _ I h) fun v s1 h1 => thn h1 fun itv s2 h2 => ?_
 obtain ⟨it, fp, tn, J, H2, e, I2, T, st2, f2, h2⟩ := h2
 subst e
 refine wpAny_newObj_type ?_ (by show 0 ≤ sizeLine; exact Nat.zero_le _)
 have hD : H2 s2.heap.objs.size = none := I2.fresh
 have I3 : Inv X pins σ (upd H2 s2.heap.objs.size (.lst [])) { s2 with heap := s2.heap.push { cls := .type "list", data := .seq ([] : List Value).toArray } } := I2.lnew (t' := s2.toks) (its := []) .nil (Nat.zero_le _)
 obtain ⟨W, ⟨m0, w0⟩, turn⟩ := h2 s2.heap.objs.size hD
 generalize hDe : s2.heap.objs.size = D at I3 turn w0 hD ⊢
 have st3 : tn 0 (s2.heap.push { cls := .type "list", data := .seq ([] : List Value).toArray }) := T.keep _ _ _ st2 fun b _ o e => Heap.get?_push_of_some _ e
 have f3 : ∀ b ∈ fp, FpOk X pins (upd H2 D (.lst [])) b /\ b < (s2.heap.push { cls := .type "list", data := .seq ([] : List Value).toArray }).objs.size := fun b hb => by
  obtain ⟨o, e, _⟩ := T.obj _ _ st2 b hb
  have l := Heap.lt_size e
  rw [hDe] at l
  refine ⟨⟨?_, (f2 b hb).2⟩, by rw [Heap.size_push, hDe]; exact Nat.lt_succ_of_lt l⟩
  rw [upd_ne (Nat.ne_of_lt l)]; exact (f2 b hb).1
 generalize (s2.heap.push { cls := .type "list", data := .seq ([] : List Value).toArray }) = h3 at I3 st3 f3 ⊢
 refine wpAny_newFunctionEnv hcell (by intro y hy; simp at hy) (fun h₄ hns₄ hsb₄ => ?_) hkind
 have keep : ∀ b o, h3.get? b = some o -> h₄.get? b = some o := fun b o e => hsb₄.extBut b o (Nat.ne_of_lt (Heap.lt_size e)) (Heap.get?_push_of_some _ e)
 have I4 := Inv.comp (C := h3.objs.size) (fp := fp) (tk := s2.toks + ([] : List (Str × Value)).length) I3 rfl hns₄ keep hkind (fun b hb => (f3 b hb).1) (fun b hb => (f3 b hb).2) hcl hfree
 have st4 : tn 0 h₄ := T.keep _ _ _ st3 fun b _ o e => keep b o e
 have fpn : ∀ b ∈ fp, (upd H2 D (.lst [])) b = none := fun b hb => (f3 b hb).1.1
 have hn3 : ∀ b ∈ fp, b ≠ h3.objs.size := fun b hb => Nat.ne_of_lt (f3 b hb).2
 have stat : ∀ {H' : Hp}, (∀ b ∈ fp, H' b = none) -> ∀ b ∈ fp, FpOk (cxC X N' scope cl h3.objs.size fp pins { s2 with heap := h3 } (upd H2 D (.lst []))) [] H' b := fun hn b hb =>
  ⟨hn b hb, hn3 b hb, I4.ok.exfs b hb, .inl hb, fun x c e => (f3 b hb).1.2.2.2.2.1 x c (hcl.2 x c e), fun p hp => (f3 b hb).1.2.2.2.2.2 p (by
   have z : p ∈ (X.pn ++ pins) ++ [] := hp
   rw [List.append_nil] at z; exact z)⟩
 have back : ∀ {H' : Hp} {s' : Shared}, Inv (cxC X N' scope cl h3.objs.size fp pins { s2 with heap := h3 } (upd H2 D (.lst []))) [] (frees src σ) H' s' -> (∃ m, s'.heap.Ns h3.objs.size m) /\ Inv X pins σ H' s' /\ OffC X pins H' h3.objs.size := fun {H' s'} I' => by
  have Ib : Inv X pins σ H' s' := I3.call' I'.os I'.base I'.hok I'.bare fun b hb => ⟨(f3 b hb).1.2.2.2.1, (f3 b hb).1.2.1, (f3 b hb).1.2.2.2.2.1, (f3 b hb).1.2.2.2.2.2⟩
  refine ⟨let ⟨m, hm, _⟩ := I'.loc; ⟨m, hm⟩, Ib, ⟨I'.free, fun z => ?_, I3.nofs (Nat.le_refl _), Heap.get?_none_of_le I3.sz, fun x c e z => ?_, fun p hp z => ?_⟩⟩
  ·have := I3.lt; rw [← z] at this; exact Nat.lt_irrefl _ this
  ·obtain ⟨v, o, ho, _⟩ := I3.cell x c e
   have := Heap.lt_size ho; rw [z] at this; exact Nat.lt_irrefl _ this
  ·obtain ⟨e, _⟩ := I3.pin p hp
   have := Heap.lt_size e; rw [z] at this; exact Nat.lt_irrefl _ this
 have loop : codeAny (model X.prog X.w) X.A (.compLoop (.ListComp elt [⟨tg, iter, ifs, 0⟩] scope pos) 0 (.ref it) (.ref D) (compEnvC scope cl h3.objs.size X.env)) (RR (.ref D) h3.objs.size) { s2 with heap := h₄, toks := s2.toks + ([] : List (Str × Value)).length } := by
  refine comp_loop (fun n s' => ∃ i ys H', Inv (cxC X N' scope cl h3.objs.size fp pins { s2 with heap := h3 } (upd H2 D (.lst []))) [] (frees src σ) H' s' /\ tn i s'.heap /\ (∀ b ∈ fp, H' b = none) /\ W i n ys H') ?_ m0 ⟨0, [], _, I4, st4, fpn, w0⟩
  rintro n s5 ⟨i, ys, H5, I5, st5, fr5, w5⟩
  rcases turn i n ys H5 w5 with ⟨stop, qn⟩ | ⟨go, step⟩
  ·refine thn (T.done (cxC X N' scope cl h3.objs.size fp pins { s2 with heap := h3 } (upd H2 D (.lst []))) rfl rfl rfl hc i [] s5 _ H5 _ I5 (stat fr5) st5 stop) fun r s6 ⟨hr, I6⟩ => ?_
   subst hr
   obtain ⟨b1, b2, b3⟩ := back I6
   exact hRR D _ H5 s6 qn b1 b2 b3
  ·refine thn (T.item (cxC X N' scope cl h3.objs.size fp pins { s2 with heap := h3 } (upd H2 D (.lst []))) rfl rfl rfl hc i [] s5 _ H5 _ I5 (stat fr5) st5 go) fun r s6 ⟨u, hr, h6⟩ => ?_
   subst hr
   refine thn h6 fun _ s7 ⟨x, H7, I7, r7, y7, st7, fr7⟩ => ?_
   have I7' := I7.pinned (stat fr7) (T.obj _ _ st7)
   refine thn (hg _ _ _ _ _ _ s7 _ H7 x u _ I7' r7 (step x H7 y7)) fun _ s8 ⟨σ8, H8, I8, ex8, q8⟩ => ?_
   refine thn (ht _ _ _ _ _ _ s8 σ8 H8 _ I8 q8) fun ok s9 ⟨H9, I9, q9⟩ => ?_
   have again : ∀ {ys' : List V} {Ha : Hp} {sa : Shared}, Inv (cxC X N' scope cl h3.objs.size fp pins { s2 with heap := h3 } (upd H2 D (.lst []))) ([] ++ pinsAt fp s7.heap) σ8 Ha sa -> (∃ m', m' < n /\ W (i + 1) m' ys' Ha) →
     ∃ m, m < n /\ ∃ i ys H', Inv (cxC X N' scope cl h3.objs.size fp pins { s2 with heap := h3 } (upd H2 D (.lst []))) [] (frees src σ) H' sa /\ tn i sa.heap /\ (∀ b ∈ fp, H' b = none) /\ W i m ys H' := fun {ys' Ha sa} Ia ⟨m', hm, wa⟩ => by
    refine ⟨m', hm, i + 1, ys', Ha, (Ia.unpinned).weak ex8.1.symm ex8.2, T.keep _ _ _ st7 fun b hb o e => (Ia.pin (b, o) (List.mem_append_right _ (List.mem_append_right _ (mem_pinsAt hb e)))).1, fun b hb => ?_, wa⟩
    obtain ⟨o, e, _⟩ := T.obj _ _ st7 b hb
    exact (Ia.pin (b, o) (List.mem_append_right _ (List.mem_append_right _ (mem_pinsAt hb e)))).2.1
   cases ok with
   | false => exact again I9 q9
   | true =>
    refine thn (he _ _ _ _ _ _ s9 σ8 H9 _ I9 q9) fun y s10 ⟨yv, H10, I10, r10, q10, hz, wn⟩ => ?_
    refine thn (mt_append _ s10 σ8 H10 (.ref D) [yv] (.ref D) [y] (fun _ Hz => ∃ m', m' < n /\ W (i + 1) m' (ys ++ [yv]) Hz) I10 rfl (.cons r10 .nil) ⟨D, ys, yv, rfl, rfl, q10, hz, wn⟩) fun _ s11 ⟨_, H11, I11, _, q11⟩ => ?_
    exact again I11 q11
 exact codeAny_compStart_list loop (T.self _ 0 _ _ _ st4 loop)
theorem pe_lcomp (hc : X.calm = true) (hi : PI X tg iter wi) (hg : ∀ C fp pins s H, PG (cxC X N' scope cl C fp pins s H) tg g) (ht : ∀ C fp pins s H, PTs (cxC X N' scope cl C fp pins s H) ifs tt)
  (he : ∀ C fp pins s H, PE (cxC X N' scope cl C fp pins s H) elt te) (hfree : FreeOk X scope cl N' src) (hclos : closureFor scope X.env = pure cl) (hcell : ∀ x ∈ scope.names, x.2 ≠ .cell) (hkind : scope.kind = .function)
  (hnames : ∀ x ∈ scope.names, x.2 = .local -> scope.names.lookup x.1 = some .local) (hcl : CellsOk X scope cl) (hs : ∀ x, foldedSetIterable iter X.env x = pure x := by intro _; rfl) :
  PE X (.ListComp elt [⟨tg, iter, ifs, 0⟩] scope pos) (tComp wi src g tt te) := by
 intro pins s σ H Q I h
 rw [eval_ListComp]
 refine wpAny_comprehension_free (use := none) rfl hs hclos hkind hnames (comp_run hc hi hg ht he hfree hcell hkind hcl (RR := fun acc C => compPost (model X.prog X.w) X.A X.xe none (EP X pins σ Q) acc C) I h fun D C H' s' q hm hI hb => ?_)
 obtain ⟨m, hm⟩ := hm
 exact ⟨m, hm, fun h' sb => ⟨.ref D, H', hb.turned hI sb, rfl, q⟩⟩
theorem ps_setC {i : Nat} {x : Str} {pos' pos2 : Pos} (hN : X.N.Nodup) (hi' : X.N[i]? = some x) (hx : Loc X.env.scope x) (hc : X.calm = true) (hi : PI X tg iter wi) (hg : ∀ C fp pins s H, PG (cxC X N' scope cl C fp pins s H) tg g) (ht : ∀ C fp pins s H, PTs (cxC X N' scope cl C fp pins s H) ifs tt)
  (he : ∀ C fp pins s H, PE (cxC X N' scope cl C fp pins s H) elt te) (hfree : FreeOk X scope cl N' src) (hclos : closureFor scope X.env = pure cl) (hcell : ∀ x ∈ scope.names, x.2 ≠ .cell) (hkind : scope.kind = .function)
  (hnames : ∀ x ∈ scope.names, x.2 = .local -> scope.names.lookup x.1 = some .local) (hcl : CellsOk X scope cl) (hs : ∀ x, foldedSetIterable iter X.env x = pure x := by intro _; rfl)
  (hsw : swapsWith (.ListComp elt [⟨tg, iter, ifs, 0⟩] scope pos) (some (.Name x pos')) pos2.line X.env = pure true := by rfl) (hf : X.fn x = true ∨ X.env.scope.names.lookup x = some .local := by first | exact .inl rfl | exact .inr rfl | assumption) :
  PS X (.Assign [.Name x pos'] (.ListComp elt [⟨tg, iter, ifs, 0⟩] scope pos) pos2) (tAsg (tComp wi src g tt te) (gName i)) := by
 intro pins s σ H D I h
 rw [exec_Assign_Name_used _ _ _ _ hsw]
 refine wpAny_bind (wpAny_standAt ?_)
 show wpAny _ _ ((comprehension (.ListComp elt [⟨tg, iter, ifs, 0⟩] scope pos) scope X.env _ (newList []) false (eval iter X.env) (some (assign (.Name x pos') X.env)) >>= fun _ => pure ()) >>= fun _ => pure Flow.next) _ _ s
 refine wpAny_bind (wpAny_bind (wpAny_mono (wpAny_comprehension_free (use := some (assign (.Name x pos') X.env)) (Q := fun _ s'' => SP X pins D .next s'') rfl hs hclos hkind hnames (comp_run hc hi hg ht he hfree hcell hkind hcl (RR := fun acc C => compPost (model X.prog X.w) X.A X.xe (some (assign (.Name x pos') X.env)) (fun _ s'' => SP X pins D .next s'') acc C) I h fun E C H' s' q hm hI hb => ?_)) (fun _ s'' h'' => wpAny_pure (wpAny_pure h'')) fun _ _ e => e))
 obtain ⟨m, o, es, ep, ho, hd, r1, r2⟩ := hm
 have I' : Inv X (pins ++ [(C, o)]) σ H' s' := hI.pins_of fun p hp => by
  rcases List.mem_append.mp hp with h | h
  ·exact hI.pin p (List.mem_append_right _ h)
  ·rw [List.mem_singleton] at h
   rw [h]
   exact ⟨ho, hb.no, hb.lo, hb.fs, fun v z => by rw [hd] at z; cases z⟩
 refine wpAny_assign_Name (store_ok I' hN hi' hx (show RelV (.ref E) (.ref E) from rfl) (fun s'' I'' => ?_) hf)
 have hC := (I''.pin (C, o) (List.mem_append_right _ (List.mem_append_right _ List.mem_cons_self))).1
 have I3 : Inv X pins (σ.set i (some (.ref E))) H' s'' := I''.pins_of fun p hp => I''.pin p (List.mem_append_right _ (List.mem_append_left _ hp))
 exact ⟨m, ⟨o, es, ep, hC, hd, r1, r2⟩, fun h' sb => ⟨_, H', hb.turned I3 sb, q⟩⟩
end
def rNeD (K : PySem.W.Frag) : R2 := fun x y H Q => ∃ d d', Deep K H x d /\ Deep K H y d' /\ d.canLay0 = true /\ d'.canLay0 = true /\ d.depth ≤ 32 /\ Q (.bl (!PyData.eqv d d')) H
noncomputable def hitAt (h : Heap) (x : Value) (d : PyData) (y : Value) : Bool :=
 open Classical in if y = x then true else if z : ∃ d', d'.canLay0 = true /\ d'.depth ≤ 32 /\ ∃ as, Reads h y d' as then PyData.eqv z.choose d else false
def Known (K : PySem.W.Frag) (H : Hp) (xs : List V) : Prop := ∀ x ∈ xs, ∃ d, Deep K H x d /\ d.canLay0 = true /\ d.depth ≤ 32
def rNotInS (K : PySem.W.Frag) : R2 := fun x y H Q => ∃ a p xs, x = .ref a /\ y = .ref p /\ SqL K H p xs /\ V.ref a ∈ xs /\ Known K H xs /\ Q (.bl false) H
def rIndexS (K : PySem.W.Frag) : V -> List V -> Hp -> VK -> Prop := fun x vs H Q => ∃ p xs a d, x = .ref p /\ vs = [.ref a] /\ SqL K H p xs /\ V.ref a ∈ xs /\ Known K H xs /\ Deep K H (.ref a) d /\ d.canLay0 = true /\ d.depth ≤ 32 ∧
 ∀ (j : Nat) (v' : V), xs[j]? = some v' -> (v' = .ref a ∨ ∀ d', Deep K H v' d' -> d'.canLay0 = true -> PyData.eqv d' d = true) -> Q (.int j) H
end B
namespace B
abbrev R := Int × Int
def mkR (a b : Int) : R := (a / (Int.gcd a b : Int), b / (Int.gcd a b : Int))
structure Wf (n : Nat) (r : R) : Prop where
 pos : 0 < r.2
 top : r.1.natAbs < 2 ^ n
 bot : r.2.natAbs < 2 ^ n
 cop : Int.gcd r.1 r.2 = 1
theorem Wf.mono {n m : Nat} {r : R} (h : Wf n r) (l : n ≤ m) : Wf m r := ⟨h.pos, Nat.lt_of_lt_of_le h.top (Nat.pow_le_pow_right (by decide) l), Nat.lt_of_lt_of_le h.bot (Nat.pow_le_pow_right (by decide) l), h.cop⟩
theorem gcd_posR {a b : Int} (hb : 0 < b) : 0 < (Int.gcd a b : Int) := by
 have h : Int.gcd a b ≠ 0 := fun z => by
  have := (Int.gcd_eq_zero_iff.mp z).2
  omega
 omega
theorem natAbs_div_le (a : Int) {g : Int} (hg : 0 < g) : (a / g).natAbs ≤ a.natAbs := by
 have h1 := Int.ediv_mul_le a (show g ≠ 0 by omega)
 have h2 := Int.lt_ediv_add_one_mul_self a hg
 rcases Int.le_total 0 a with h | h
 ·have h3 := Int.ediv_nonneg h (show 0 ≤ g by omega)
  have h4 : a / g ≤ a / g * g := by
   have : a / g * 1 ≤ a / g * g := Int.mul_le_mul_of_nonneg_left (by omega) h3
   omega
  omega
 ·have h3 : a / g ≤ 0 := by
   have := Int.ediv_le_ediv hg h
   rw [Int.zero_ediv] at this; exact this
  have h5 : a ≤ a / g := by
   have : a / 1 ≤ a / g := by
    have q : (a / g + 1) * g ≤ (a / g + 1) * 1 ∨ 0 < a / g + 1 := by
     rcases Int.le_total (a / g + 1) 0 with z | z
     ·left
      have := Int.mul_le_mul_of_nonneg_left (a := 1) (b := g) (c := -(a / g + 1)) (by omega) (by omega)
      have e1 : -(a / g + 1) * 1 = -((a / g + 1) * 1) := Int.neg_mul _ _
      have e2 : -(a / g + 1) * g = -((a / g + 1) * g) := Int.neg_mul _ _
      omega
     ·rcases Int.lt_or_eq_of_le z with z | z
      ·right; exact z
      ·left; rw [← z]; simp
    rw [Int.ediv_one]
    rcases q with q | q
    ·omega
    ·omega
   rw [Int.ediv_one] at this; exact this
  omega
theorem mkR_wf {n : Nat} {a b : Int} (hb : 0 < b) (h1 : a.natAbs < 2 ^ n) (h2 : b.natAbs < 2 ^ n) : Wf n (mkR a b) :=
 ⟨Int.ediv_pos_of_pos_of_dvd hb (Int.le_of_lt (gcd_posR hb)) (Int.gcd_dvd_right a b), Nat.lt_of_le_of_lt (natAbs_div_le _ (gcd_posR hb)) h1, Nat.lt_of_le_of_lt (natAbs_div_le _ (gcd_posR hb)) h2, Int.gcd_ediv_gcd_ediv_gcd (by have := gcd_posR (a := a) hb; omega)⟩
def plusR (r q : R) : R := mkR (r.1 * q.2 + q.1 * r.2) (r.2 * q.2)
def timesR (r q : R) : R := mkR (r.1 * q.1) (r.2 * q.2)
def lessR (r q : R) : Bool := decide (r.1 * q.2 < q.1 * r.2)
theorem mul_lt {x y : Int} {n m : Nat} (h1 : x.natAbs < 2 ^ n) (h2 : y.natAbs < 2 ^ m) : (x * y).natAbs < 2 ^ (n + m) := by
 rw [Int.natAbs_mul, Nat.pow_add]
 exact Nat.mul_lt_mul'' h1 h2
theorem plus_top {n m : Nat} {r q : R} (h : Wf n r) (k : Wf m q) : (r.1 * q.2 + q.1 * r.2).natAbs < 2 ^ (n + m + 1) := by
 have a := mul_lt h.top k.bot
 have b := mul_lt k.top h.bot
 rw [Nat.add_comm m n] at b
 have e : 2 ^ (n + m + 1) = 2 * 2 ^ (n + m) := by rw [Nat.pow_succ, Nat.mul_comm]
 have := Int.natAbs_add_le (r.1 * q.2) (q.1 * r.2)
 omega
theorem plus_wf {n m : Nat} {r q : R} (h : Wf n r) (k : Wf m q) : Wf (n + m + 1) (plusR r q) :=
 mkR_wf (Int.mul_pos h.pos k.pos) (plus_top h k) (Nat.lt_of_lt_of_le (mul_lt h.bot k.bot) (Nat.pow_le_pow_right (by decide) (Nat.le_succ _)))
end B
namespace B
open PySem L2 PyProof.Rows
def CBig (i j : Int) : Prop := i.natAbs < 2 ^ 4000 /\ j.natAbs < 2 ^ 4000
def CQuo (_ j : Int) : Prop := 0 < j /\ j.natAbs < 2 ^ 4000
theorem bits_of {i : Int} (h : i.natAbs < 2 ^ 4000) : Builtin.Int.intBits i ≤ 2 ^ 20 := by
 unfold Builtin.Int.intBits
 split
 ·exact Nat.zero_le _
 ·rename_i z
  have hz : i.natAbs ≠ 0 := fun q => z (by have : i = 0 := by omega
                                           rw [this]; rfl)
  have := (Nat.log2_lt hz).mpr h
  have e : (2 : Nat) ^ 20 = 1048576 := by decide
  omega
section
variable {X : Cx}
theorem op_mulB : OpR X (binaryOp .Mult) (rI CBig fun i j => .int (i * j)) := opI fun _ _ _ _ _ _ _ hc q => mul_int q (IntMulOk.of_bits (bits_of hc.1) (bits_of hc.2))
theorem op_quo : OpR X (binaryOp .FloorDiv) (rI CQuo fun i j => .int (i / j)) := opI fun i j _ _ _ _ _ hc q => by
 have h1 : (0 : Int) < j := hc.1
 have h2 : j.natAbs < 2 ^ 4000 := hc.2
 refine floordiv_int (by omega) (by rw [Int.fdiv_eq_ediv_of_nonneg i (by omega)]; exact q) (.inl (PyProof.noPylong_of_log2 ?_))
 exact Nat.lt_trans ((Nat.log2_lt (show j.natAbs ≠ 0 by omega)).mpr h2) (by decide)
end
def Tst (K : PySem.W.Frag) (H H' : Hp) : Prop := ∀ p xs, SqT K H p xs -> SqT K H' p xs
theorem Tst.trans {K : PySem.W.Frag} {H H1 H2 : Hp} (a : Tst K H H1) (b : Tst K H1 H2) : Tst K H H2 := fun p xs h => b p xs (a p xs h)
theorem Tst.same {K : PySem.W.Frag} {H H' : Hp} (s : Same H H') : Tst K H H' := fun p xs h => by
 rcases h with (h | ⟨o, h⟩) | h
 ·exact .inl (.inl (s _ _ h))
 ·exact .inl (.inr ⟨o, s _ _ h⟩)
 ·exact .inr h
theorem Tst.step {K : PySem.W.Frag} {t : Addr} {H H' : Hp} (S : Step t H H') : Tst K H H' := fun p xs h => by
 obtain ⟨ys, ht⟩ := S.tp
 rcases h with (h | ⟨o, h⟩) | h
 ·exact .inl (.inl (S.keep _ _ (fun z => by subst z; rw [h] at ht; cases ht) h))
 ·exact .inl (.inr ⟨o, S.keep _ _ (fun z => by subst z; rw [h] at ht; cases ht) h⟩)
 ·exact .inr h
theorem Tst.up {K : PySem.W.Frag} {H : Hp} {l : Addr} {xs : List V} (h : H l = some (.lst xs)) (ys : List V) : Tst K H (upd H l (.lst ys)) := Tst.step (Step.up h)
def RV (K : PySem.W.Frag) (H : Hp) (v : V) (r : R) : Prop := ∃ p, v = .ref p /\ SqT K H p [.int r.1, .int r.2]
theorem RV.mono {K : PySem.W.Frag} {H H' : Hp} {v : V} {r : R} (h : RV K H v r) (t : Tst K H H') : RV K H' v r := let ⟨p, e, q⟩ := h; ⟨p, e, t _ _ q⟩
theorem RV.of {K : PySem.W.Frag} {H : Hp} {p : Addr} {a b : Int} (h : H p = some (.tup [.int a, .int b])) : RV K H (.ref p) (a, b) := ⟨p, rfl, SqT.of h⟩
def RVs (K : PySem.W.Frag) (H : Hp) (xs : List V) (rs : List R) : Prop := xs.length = rs.length /\ ∀ (i : Nat) (x : V) (r : R), xs[i]? = some x -> rs[i]? = some r -> RV K H x r
theorem RVs.at {K : PySem.W.Frag} {H : Hp} {xs : List V} {rs : List R} {i : Nat} {x : V} (h : RVs K H xs rs) (e : xs[i]? = some x) : ∃ r, rs[i]? = some r /\ RV K H x r := by
 have hi := (List.getElem?_eq_some_iff.mp e).1
 have hj : i < rs.length := by rw [← h.1]; exact hi
 exact ⟨rs[i], List.getElem?_eq_getElem hj, h.2 i x _ e (List.getElem?_eq_getElem hj)⟩
def powR (r : R) : Nat -> R
 | 0 => (1, 1)
 | k + 1 => timesR (powR r k) r
theorem zero_wf : Wf 1 (0, 1) := ⟨by decide, by decide, by decide, by decide⟩
def sumR (rs : List R) : R := rs.foldl plusR (0, 1)
theorem sum_snoc (rs : List R) (r : R) : sumR (rs ++ [r]) = plusR (sumR rs) r := by unfold sumR; rw [List.foldl_append]; rfl
def dR (r : R) : PyData := .tuple [.int r.1, .int r.2]
theorem RV.deep {K : PySem.W.Frag} {H : Hp} {v : V} {r : R} (h : RV K H v r) : Deep K H v (dR r) := by
 obtain ⟨p, rfl, q⟩ := h
 exact .tup q (.cons (.int _) (.cons (.int _) .nil))
theorem log_of {i : Int} {n : Nat} (h : i.natAbs < 2 ^ n) (hn : n ≤ 1900) : i.natAbs.log2 < 1920 := by
 by_cases z : i.natAbs = 0
 ·rw [z]; decide
 ·have := (Nat.log2_lt z).mpr (Nat.lt_of_lt_of_le h (Nat.pow_le_pow_right (by decide) hn))
  omega
theorem len_of {i : Int} {n : Nat} (h : i.natAbs < 2 ^ n) (hn : n ≤ 1900) : (PyData.int i).shown.length ≤ 1921 := by
 have q := int_text_length_le (a := i) (k := 1920) (by decide) (log_of h hn)
 have e : (PyData.int i).shown.length = (toString i).length := by
  show (Str.ofString (toString i)).length = _
  exact PySem.ofString_length _
 omega
end B
namespace B
open PySem L2 PyProof.Rows
def dL (rs : List R) : PyData := .list (rs.map dR)
def iSeq (K : PySem.W.Frag) (tl : TE) : TI := fun σ H R => tl σ H fun x H1 => (∃ a, x = .ref a /\ (∃ xs, SqL K H1 a xs) /\ R (Itl K a) H1) ∨ (∃ a, x = .ref a /\ (∃ xs, SqT K H1 a xs) /\ R (Itt K a) H1)
theorem pi_seq {X : Cx} {tg l : Expr} {tl : TE} (hl : PE X l tl) : PI X tg l (iSeq X.K tl) := by
 intro pins s σ H R I h
 refine thn (hl pins s σ H _ I h) fun v s1 ⟨x, H1, I1, r1, q1⟩ => ?_
 rcases q1 with ⟨a, e, ⟨xs, hq⟩, q⟩ | ⟨a, e, ⟨xs, hq⟩, q⟩
 ·subst e; cases r1
  obtain ⟨its, rv, p, hz⟩ := I1.list hq
  refine wpAny_pyIter_list p.isList ?_
  refine ⟨s1.heap.objs.size, [s1.heap.objs.size], _, _, H1, rfl, I1.kept (t' := s1.toks) fun b o e => Heap.get?_push_of_some _ e, turn_list a _, ⟨_, Heap.get?_push_size _ rfl, rfl, rfl⟩, fun b hb => ?_, q⟩
  have e : b = s1.heap.objs.size := by simpa using hb
  subst e
  exact I1.fpOk (Nat.le_refl _) (I1.hok.fresh (Nat.le_refl _))
 ·subst e; cases r1
  obtain ⟨its, rv, p, hz⟩ := I1.tuple hq
  refine wpAny_pyIter_tuple (show s1.heap.IsTuple a its.toArray from p) ?_
  refine ⟨s1.heap.objs.size, [s1.heap.objs.size], _, _, H1, rfl, I1.kept (t' := s1.toks) fun b o e => Heap.get?_push_of_some _ e, turn_tuple a _, ⟨_, Heap.get?_push_size _ rfl, rfl, rfl⟩, fun b hb => ?_, q⟩
  have e : b = s1.heap.objs.size := by simpa using hb
  subst e
  exact I1.fpOk (Nat.le_refl _) (I1.hok.fresh (Nat.le_refl _))
end B
namespace B
structure Red (r : R) : Prop where
 pos : 0 < r.2
 cop : Int.gcd r.1 r.2 = 1
theorem mkR_red {a b : Int} (hb : 0 < b) : Red (mkR a b) :=
 ⟨Int.ediv_pos_of_pos_of_dvd hb (Int.le_of_lt (gcd_posR hb)) (Int.gcd_dvd_right a b), Int.gcd_ediv_gcd_ediv_gcd (by have := gcd_posR (a := a) hb; omega)⟩
theorem mkR_uniq {a b x y : Int} (hb : 0 < b) (hy : 0 < y) (g : Int.gcd x y = 1) (e : x * b = a * y) : mkR a b = (x, y) := by
 have h1 : Int.gcd (a * y) (b * y) = Int.gcd a b * y.natAbs := Int.gcd_mul_right a y b
 have h2 : Int.gcd (x * b) (y * b) = Int.gcd x y * b.natAbs := Int.gcd_mul_right x b y
 rw [e, Int.mul_comm y b, h1, g, Nat.one_mul] at h2
 have h3 : (Int.gcd a b : Int) * y = b := by
  have z : ((Int.gcd a b * y.natAbs : Nat) : Int) = (b.natAbs : Int) := congrArg _ h2
  rw [Int.natCast_mul, Int.natAbs_of_nonneg (by omega), Int.natAbs_of_nonneg (by omega)] at z
  exact z
 have gp := gcd_posR (a := a) hb
 have h4 : a = x * (Int.gcd a b : Int) := by
  have z : x * (Int.gcd a b : Int) * y = a * y := by rw [Int.mul_assoc, h3]; exact e
  exact (Int.eq_of_mul_eq_mul_right (by omega) z).symm
 unfold mkR
 generalize (Int.gcd a b : Int) = G at h3 h4 gp
 subst h4
 subst h3
 rw [Int.mul_ediv_cancel _ (by omega), Int.mul_ediv_cancel_left _ (by omega)]
theorem cop_left {a b c : Int} (h : Int.gcd a b = 1) (d : c ∣ a) : Int.gcd c b = 1 :=
 Int.gcd_eq_one_iff.mpr fun z h1 h2 => Int.gcd_eq_one_iff.mp h z (Int.dvd_trans h1 d) h2
theorem cop_right {a b c : Int} (h : Int.gcd a b = 1) (d : c ∣ b) : Int.gcd a c = 1 := by
 rw [Int.gcd_comm]
 exact cop_left (by rw [Int.gcd_comm]; exact h) d
theorem cop_mul {a b c : Int} (h : Int.gcd a b = 1) (k : Int.gcd a c = 1) : Int.gcd a (b * c) = 1 := by
 rw [Int.gcd_mul_right_right_of_gcd_eq_one h]; exact k
theorem cop_mulL {a b c : Int} (h : Int.gcd a c = 1) (k : Int.gcd b c = 1) : Int.gcd (a * b) c = 1 := by
 rw [Int.gcd_comm]
 exact cop_mul (by rw [Int.gcd_comm]; exact h) (by rw [Int.gcd_comm]; exact k)
theorem gcd_parts {a b : Int} (hb : 0 < b) : ∃ g x y : Int, (Int.gcd a b : Int) = g /\ 0 < g /\ a = g * x /\ b = g * y /\ Int.gcd x y = 1 := by
 have gp := gcd_posR (a := a) hb
 obtain ⟨x, hx⟩ := Int.gcd_dvd_left a b
 obtain ⟨y, hy⟩ := Int.gcd_dvd_right a b
 refine ⟨_, x, y, rfl, gp, hx, hy, ?_⟩
 have z := Int.gcd_ediv_gcd_ediv_gcd (i := a) (j := b) (by omega)
 have e1 : a / (Int.gcd a b : Int) = x := by
  conv => lhs; lhs; rw [hx]
  exact Int.mul_ediv_cancel_left _ (by omega)
 have e2 : b / (Int.gcd a b : Int) = y := by
  conv => lhs; lhs; rw [hy]
  exact Int.mul_ediv_cancel_left _ (by omega)
 rw [e1, e2] at z
 exact z
theorem pos_of {g y b : Int} (hb : 0 < b) (hg : 0 < g) (e : b = g * y) : 0 < y := by
 rcases Int.lt_or_le 0 y with h | h
 ·exact h
 ·have := Int.mul_le_mul_of_nonneg_left h (Int.le_of_lt hg)
  rw [Int.mul_zero] at this
  omega
def plusG (r q : R) : R :=
 let d : Int := (Int.gcd r.2 q.2 : Nat)
 let t := r.1 * (q.2 / d) + q.1 * (r.2 / d)
 let e : Int := (Int.gcd t d : Nat)
 (t / e, r.2 / d * (q.2 / e))
theorem plusG_eq {r q : R} (hr : Red r) (hq : Red q) : plusG r q = plusR r q := by
 obtain ⟨d, u, v, e0, dp, e1, e2, cuv⟩ := gcd_parts (a := r.2) hq.pos
 have up := pos_of hr.pos dp e1
 have vp := pos_of hq.pos dp e2
 obtain ⟨e, x, w, f0, ep, f1, f2, cxw⟩ := gcd_parts (a := r.1 * v + q.1 * u) dp
 have wp := pos_of dp ep f2
 have du : r.2 / d = u := by rw [e1]; exact Int.mul_ediv_cancel_left _ (by omega)
 have dv : q.2 / d = v := by rw [e2]; exact Int.mul_ediv_cancel_left _ (by omega)
 have te : (r.1 * v + q.1 * u) / e = x := by rw [f1]; exact Int.mul_ediv_cancel_left _ (by omega)
 have qe : q.2 / e = w * v := by rw [e2, f2, Int.mul_assoc]; exact Int.mul_ediv_cancel_left _ (by omega)
 have c1 : Int.gcd r.1 u = 1 := cop_right hr.cop ⟨d, by rw [e1, Int.mul_comm]⟩
 have c2 : Int.gcd q.1 v = 1 := cop_right hq.cop ⟨d, by rw [e2, Int.mul_comm]⟩
 have xd : x ∣ (r.1 * v + q.1 * u) := ⟨e, by rw [f1, Int.mul_comm]⟩
 have t1 : Int.gcd (r.1 * v + q.1 * u) u = 1 := by
  rw [Int.gcd_comm, Int.gcd_add_mul_right_right, Int.gcd_comm]
  exact cop_mulL c1 (by rw [Int.gcd_comm]; exact cuv)
 have t2 : Int.gcd (r.1 * v + q.1 * u) v = 1 := by
  rw [Int.add_comm, Int.gcd_comm, Int.gcd_add_mul_right_right, Int.gcd_comm]
  exact cop_mulL c2 cuv
 have cx : Int.gcd x (u * (w * v)) = 1 := cop_mul (cop_left t1 xd) (cop_mul cxw (cop_left t2 xd))
 have z : plusG r q = (x, u * (w * v)) := by
  unfold plusG
  simp only [e0, du, dv, f0, te, qe]
 rw [z]
 unfold plusR
 refine (mkR_uniq (Int.mul_pos hr.pos hq.pos) (Int.mul_pos up (Int.mul_pos wp vp)) cx ?_).symm
 have k : r.1 * q.2 + q.1 * r.2 = d * (e * x) := by
  rw [e1, e2, ← f1, Int.mul_add]
  rw [Int.mul_left_comm r.1 d v, Int.mul_left_comm q.1 d u]
 rw [k, e1, e2]
 have k2 : d * u * (d * v) = d * u * (e * w * v) := by rw [← f2]
 rw [k2]
 ac_rfl
def timesG (r q : R) : R :=
 let l : Int := (Int.gcd r.1 q.2 : Nat)
 let m : Int := (Int.gcd q.1 r.2 : Nat)
 (r.1 / l * (q.1 / m), r.2 / m * (q.2 / l))
theorem timesG_eq {r q : R} (hr : Red r) (hq : Red q) : timesG r q = timesR r q := by
 obtain ⟨l, a, b, e0, lp, e1, e2, cab⟩ := gcd_parts (a := r.1) hq.pos
 obtain ⟨m, c, d, f0, mp, f1, f2, ccd⟩ := gcd_parts (a := q.1) hr.pos
 have bp := pos_of hq.pos lp e2
 have dp := pos_of hr.pos mp f2
 have z : timesG r q = (a * c, d * b) := by
  unfold timesG
  simp only [e0, f0]
  rw [show r.1 / l = a by rw [e1]; exact Int.mul_ediv_cancel_left _ (by omega), show q.2 / l = b by rw [e2]; exact Int.mul_ediv_cancel_left _ (by omega),
   show q.1 / m = c by rw [f1]; exact Int.mul_ediv_cancel_left _ (by omega), show r.2 / m = d by rw [f2]; exact Int.mul_ediv_cancel_left _ (by omega)]
 have cad : Int.gcd a d = 1 := cop_left (cop_right hr.cop ⟨m, by rw [f2, Int.mul_comm]⟩) ⟨l, by rw [e1, Int.mul_comm]⟩
 have ccb : Int.gcd c b = 1 := cop_left (cop_right hq.cop ⟨l, by rw [e2, Int.mul_comm]⟩) ⟨m, by rw [f1, Int.mul_comm]⟩
 rw [z]
 unfold timesR
 refine (mkR_uniq (Int.mul_pos hr.pos hq.pos) (Int.mul_pos dp bp) (cop_mul (cop_mulL cad ccd) (cop_mulL cab ccb)) ?_).symm
 rw [e1, e2, f1, f2]
 ac_rfl
theorem plus_red {r q : R} (hr : Red r) (hq : Red q) : Red (plusR r q) := mkR_red (Int.mul_pos hr.pos hq.pos)
end B
namespace B
open PySem L2 PyProof.Rows
def CQuoN (_ j : Int) : Prop := j ≠ 0 /\ j.natAbs < 2 ^ 4000
def mkS (a b : Int) : R := if b < 0 then mkR (-a) (-b) else mkR a b
def minusR (r q : R) : R := mkR (r.1 * q.2 - q.1 * r.2) (r.2 * q.2)
def overR (r q : R) : R := mkS (r.1 * q.2) (r.2 * q.1)
structure Small (d : PyData) : Prop where
 sh : d.showable = true
 nd : d.hasDict = false
 sz : d.shown.length ≤ 5000
 dp : d.depth ≤ 8
end B
namespace B
theorem mkR_cross {a b : Int} (hb : 0 < b) : (mkR a b).1 * b = a * (mkR a b).2 := by
 obtain ⟨g, x, y, _, gp, e1, e2, c⟩ := gcd_parts (a := a) hb
 have yp := pos_of hb gp e2
 have e : x * b = a * y := by rw [e1, e2]; ac_rfl
 rw [mkR_uniq hb yp c e]
 exact e
end B
namespace B
open PySem PySem.Spec L2 PyProof.Rows
section
variable {prog : Program} {w : World} {A : Around} {E : Value -> Shared -> Prop} {h : Heap} {g : Array GenState} {d : Drawn} {t : Nat} {os : OsState} {K : PySem.W.Frag}
variable {nm q : Str} {C N : Addr} {bs bm bmB : List Value} {hdct : Bool} {sn : List Str} {sub : List Value} {ab : Bool} {col : Option Bool} {dd : Option Addr} {k0 k1 k2 k3 k5 : Option Value} {bN newId initId : String}
end
def vMro : List Value := [.type "ValueError", .type "Exception", .type "BaseException", .type "object"]
structure ClsX (K : PySem.W.Frag) (C : Addr) (bm : List Value) : Prop where
 ob : ∃ nm q N bs hdct sn sub ab col dd k0 k1 k2 k3 k5, K.lookup C = some (excClassObj nm q C N bs bm hdct sn sub ab col dd k0 k1 k2 k3 k5 "ValueError.__new__")
 tl : ∀ h : Heap, K.In h -> OwnTail h vMro bm
 hd : PySem.W.hasDictIn K C = true
 sa : PySem.W.findIn K (.ref C) "__setattr__" = some (some (.builtin "object.__setattr__"))
section
variable {prog : Program} {w : World} {A : Around} {s : Shared} {K : PySem.W.Frag} {x C : Addr} {R : Result -> Shared -> Prop}
end
def ExcO (a C : Addr) (dx : Option Addr) : Heap -> Prop := fun h => ∃ t : Addr, h.get? a = some { cls := .ref C, dict := dx, data := .fields #[.ref t, .none, .none, .none, .bool false, .none] }
def exO (a C : Addr) (dx : Option Addr) : HO := .ext (ExcO a C dx)
def del (H : Hp) (a : Addr) : Hp := fun b => if b = a then none else H b
section
variable {X : Cx} {pins : List (Addr × Obj)} {σ : L2.St} {H : Hp} {s : Shared} {a C : Addr} {dx : Option Addr}
end
def Trc (h : Heap) (H : Hp) (x C T : Addr) (a0 : Value) : Prop :=
 ∃ oe vs oT ts, h.get? x = some oe /\ oe.cls = .ref C /\ vs[0]? = some a0 /\ oe.data = .fields vs /\ vs[1]? = some (.ref T) /\ H T = none /\ T ≠ x /\ h.get? T = some oT /\ oT.data = .fields ts /\ ts[3]? = some .none
def CXR (P : Program) (w : World) : CXT := fun outer H s E e s' => ∃ (x C T : Addr) (a0 : Value) (H' : Hp), e = .ref x /\ s'.os = s.os /\ AllBare s'.gens /\ Un (frs outer) [] H H' s.heap s'.heap /\ HOk P w H' s'.heap /\ s.heap.get? x = none /\ s.heap.get? T = none /\ H' x = none ∧
 Trc s'.heap H' x C T a0 /\ E (.ref C) none H'
structure NewAt (X : Cx) (pins : List (Addr × Obj)) (a : Addr) : Prop where
 st : X.s₀.heap.get? a = none
 lo : a ≠ X.env.locals
 ce : ∀ x c, X.env.cells.lookup x = some c -> c ≠ a
 pi : ∀ p ∈ X.pn ++ pins, p.1 ≠ a
 fr : a ∉ frs X.stack
section
variable {X : Cx} {pins : List (Addr × Obj)} {σ : L2.St} {H H' : Hp} {s : Shared} {a : Addr}
end
section
variable {X : Cx} {pins : List (Addr × Obj)} {σ : L2.St} {H : Hp} {s : Shared} {a : Addr} {o : HO}
end
structure XC (K : PySem.W.Frag) (C f : Addr) (bm : List Value) : Prop where
 ob : ∃ nm q N bs hdct sn sub ab col dd k0 k1 k2 k3 k5, K.lookup C = some (excClassObj nm q C N bs bm hdct sn sub ab col dd k0 k1 k2 k3 k5 "ValueError.__new__")
 tl : ∀ h : Heap, K.In h -> OwnTail h vMro bm
 init : PySem.W.findIn K (.ref C) "__init__" = some (some (.ref f))
 fn : PySem.W.typeIn K (.ref f) = some (.type "function")
 kp : PySem.W.keepIn K (.ref C) = true
 cl : ClsX K C bm
section
variable {X : Cx} {k : Nat} {f C : Addr} {fd : FuncData} {ps : List Str} {sp : Sp} {bm : List Value}
def Takes (X : Cx) (E : XK) : Prop := ∀ (pins : List (Addr × Obj)) (σ : L2.St) (H : Hp) (s : Shared) (a C : Addr) (oe : Obj) (vs : Array Value) (a0 : Value), L2.Inv X pins σ H s -> H a = none -> NewAt X pins a -> s.heap.get? a = some oe -> oe.data = .fields vs →
 vs[0]? = some a0 -> vs[1]? = some .none -> oe.cls = .ref C -> E (.ref C) none H -> X.xe (.ref a) s
def tRaise (C : Addr) (sp : Sp) (E : XK) (t : TA) : TS := fun _ σ H => t σ H fun vs H1 => vs.length ≤ sizeLine /\ ∀ a, H1 a = none -> sp (.ref a :: vs) (upd H1 a (exO a C none)) (fun v H2 => v = .non /\ (∃ dx, H2 a = some (exO a C dx)) /\ E (.ref C) none (del H2 a)) E0
end
section
variable {X : Cx} {pins : List (Addr × Obj)} {σ : L2.St} {H : Hp} {s : Shared} {a C T : Addr} {a0 : Value}
end
def hid (N : List Str) : L2.St := List.replicate N.length none
def Fly (X : Cx) (pins : List (Addr × Obj)) (R : Addr -> Hp -> Prop) : Value -> Shared -> Prop := fun e s => ∃ (x C T : Addr) (a0 : Value) (H : Hp), e = .ref x /\ L2.Inv X pins (hid X.N) H s /\ H x = none /\ NewAt X pins x /\ NewAt X pins T /\ Trc s.heap H x C T a0 /\ R C H
def inTry (X : Cx) (pins : List (Addr × Obj)) (R : Addr -> Hp -> Prop) : Cx := { X with pn := X.pn ++ pins, xe := Fly X pins R }
def inExc (X : Cx) (e : Addr) : Cx := { X with A := X.A.mark (some (.ref e)), calm := false, xe := fun _ _ => False }
section
variable {X : Cx} {pins pins' : List (Addr × Obj)} {σ : L2.St} {H : Hp} {s : Shared} {R : Addr -> Hp -> Prop} {e : Addr}
end
def tTry (N : List Str) (R : Addr -> Hp -> Prop) (Ok : Addr -> Prop) (tb : TS) (th : TS) : TS := fun D σ H => tb D σ H /\ ∀ C H', R C H' -> Ok C /\ th D (hid N) H'
section
variable {X : Cx} {R : Addr -> Hp -> Prop} {body : List Stmt} {b₀ : Stmt} {suite : List Stmt} {x : Str} {p hpos pos : Pos} {u : Value} {tb th : TS}
end
section
variable {X : Cx} {o value : Expr} {f : Str} {ta tv : TE} {pos' pos : Pos}
def sFldX (K : PySem.W.Frag) (ta tv : TE) (f : Str) : TS := fun D σ H => tv σ H fun _ H1 => ta σ H1 fun x H2 => ∃ a C bm, x = .ref a /\ H2 a = some (exO a C none) /\ ClsX K C bm /\ NoAttr K C f /\ ∀ d, D.nx σ (upd H2 a (exO a C (some d)))
end
def EofR (R : Addr -> Hp -> Prop) : XK := fun v _ H => ∃ C, v = .ref C /\ R C H
def strKeysB (es : Array DictEntry) : Bool := es.toList.all fun e => match e.key with
 | .str _ _ => true
 | _ => false
structure GetX (K : PySem.W.Frag) (C : Addr) : Prop where
 ga : PySem.W.findIn K (.ref C) "__getattribute__" = some (some (.builtin "BaseException.__getattribute__"))
 gn : PySem.W.findIn K (.ref C) "__getattr__" = some none
 cl : PySem.W.findIn K (.ref C) "__class__" = some (some (.builtin "object.__class__"))
 cg : PySem.W.specialIn K (.builtin "object.__class__") "__get__" = some (some (.builtin "getset_descriptor.__get__"))
 ct : PySem.W.takesIn K (.builtin "object.__class__") = some true
section
variable {prog : Program} {w : World} {A : Around} {E : Value -> Shared -> Prop} {s : Shared} {K : PySem.W.Frag} {x C : Addr} {ox : Obj} {odo : Option Obj} {bm : List Value} {name : Str} {tk : Tok} {R : Result -> Shared -> Prop}
end
section
variable {K : PySem.W.Frag} {x C : Addr} {ox od : Obj} {bm : List Value}
end
structure Kept (S ch : List Addr) (h h' : Heap) : Prop where
 same : ∀ b o, b ∉ S -> b ∉ ch -> h.get? b = some o -> h'.get? b = some o
 slot : ∀ b o, b ∉ ch -> h.get? b = some o -> ∃ sl, h'.get? b = some { o with slots := sl }
def TrcD (h : Heap) (x C T : Addr) (dx : Option Addr) (fl : Value) : Prop :=
 ∃ oe vs oT ts, h.get? x = some oe /\ oe.cls = .ref C /\ oe.dict = dx /\ oe.data = .fields vs /\ vs[1]? = some (.ref T) /\ T ≠ x /\ h.get? T = some oT /\ oT.data = .fields ts /\ ts[3]? = some fl
section
variable {M : Model} {A : Around} {E : Value -> Shared -> Prop} {s : Shared} {base : Heap} {env : Env} {outer : List Env} {L e C T : Addr} {oe : Obj} {vs : Array Value} {dx : Option Addr} {fl : Value}
end
def DicO (d : Addr) (fs : List (Str × V)) : Heap -> Prop := fun h => ∃ mA, h.Ns1 d mA /\ ∀ f, RelO (fs.lookup f) (mA f)
def dO (d : Addr) (fs : List (Str × V)) : HO := .ext (DicO d fs)
section
variable {X : Cx} {pins : List (Addr × Obj)} {σ : L2.St} {H : Hp} {s : Shared} {a C : Addr}
end
section
variable {X : Cx} {o value : Expr} {f : Str} {ta tv : TE} {pos' pos : Pos}
def sFldE (K : PySem.W.Frag) (ta tv : TE) (f : Str) : TS := fun D σ H => tv σ H fun y H1 => ta σ H1 fun x H2 => ∃ a C bm, x = .ref a /\ ClsX K C bm /\ NoAttr K C f ∧
 ((H2 a = some (exO a C none) /\ ∀ d, H2 d = none -> d ≠ a -> D.nx σ (upd (upd H2 a (exO a C (some d))) d (dO d [(f, y)]))) ∨
  ∃ d fs, H2 a = some (exO a C (some d)) /\ H2 d = some (dO d fs) /\ fs.length ≤ 100 /\ D.nx σ (upd H2 d (dO d ((f, y) :: fs))))
end
section
variable {X : Cx} {pins : List (Addr × Obj)} {σ : L2.St} {H : Hp} {s : Shared} {a C T : Addr} {dx : Option Addr} {fl : Value}
end
def CXD (P : Program) (w : World) : CXT := fun outer H s E e s' => ∃ (x C T : Addr) (dx : Option Addr) (H' : Hp), e = .ref x /\ s'.os = s.os /\ AllBare s'.gens /\ Un (frs outer) [] H H' s.heap s'.heap /\ HOk P w H' s'.heap /\ s.heap.get? x = none /\ s.heap.get? T = none /\ H' x = none /\ H' T = none ∧
 TrcD s'.heap x C T dx .none /\ E (.ref C) dx H'
section
variable {P : Program} {w : World} {K : PySem.W.Frag} {mg : Str -> Option Value} {base : Heap} {N : List Str} {qual : Str} {scope : Scope} {f : Addr} {cd : Value} {A : Around} {outer : List Env} {s : Shared} {H : Hp} {E : XK}
def TakesD (X : Cx) (E : XK) : Prop := ∀ (pins : List (Addr × Obj)) (σ : L2.St) (H : Hp) (s : Shared) (a C : Addr) (dx : Option Addr) (oe : Obj) (vs : Array Value), L2.Inv X pins σ H s -> H a = none -> NewAt X pins a -> s.heap.get? a = some oe -> oe.data = .fields vs →
 vs[1]? = some .none -> oe.cls = .ref C -> oe.dict = dx -> E (.ref C) dx H -> X.xe (.ref a) s
end
section
variable {X : Cx} {k : Nat} {f C : Addr} {fd : FuncData} {ps : List Str} {sp : Sp} {bm : List Value}
def tRaiseD (C : Addr) (sp : Sp) (E : XK) (t : TA) : TS := fun _ σ H => t σ H fun vs H1 => vs.length ≤ sizeLine /\ ∀ a, H1 a = none -> sp (.ref a :: vs) (upd H1 a (exO a C none)) (fun v H2 => v = .non /\ ∃ dx, H2 a = some (exO a C dx) /\ E (.ref C) dx (del H2 a)) E0
end
abbrev RX := Addr -> Option Addr -> Hp -> Prop
def FlyD (X : Cx) (pins : List (Addr × Obj)) (R : RX) : Value -> Shared -> Prop := fun e s => ∃ (x C T : Addr) (dx : Option Addr) (H : Hp), e = .ref x /\ L2.Inv X pins (hid X.N) H s /\ H x = none /\ NewAt X pins x /\ H T = none /\ NewAt X pins T /\ TrcD s.heap x C T dx .none /\ R C dx H
def inTryD (X : Cx) (pins : List (Addr × Obj)) (R : RX) : Cx := { X with pn := X.pn ++ pins, xe := FlyD X pins R }
section
variable {X : Cx} {pins pins' : List (Addr × Obj)} {σ : L2.St} {H : Hp} {s : Shared} {R : RX} {e : Addr}
def EofD (R : RX) : XK := fun v dx H => ∃ C, v = .ref C /\ R C dx H
end
def ErO (a C d : Addr) : Heap -> Prop := fun h => ∃ oe, h.get? a = some oe /\ oe.cls = .ref C /\ oe.dict = some d /\ PySem.W.notCls oe = true
def erO (a C d : Addr) : HO := .ext (ErO a C d)
def gone (i : Nat) (D : Ends) : Ends := { nx := fun σ H => D.nx (σ.set i none) H, rt := D.rt, bk := fun σ H => D.bk (σ.set i none) H, ct := fun σ H => D.ct (σ.set i none) H }
def tTryD (N : List Str) (R : RX) (Ok : Addr -> Prop) (tb th : TS) : TS := fun D σ H => tb D σ H /\ ∀ C dx H', R C dx H' -> Ok C /\ th D (hid N) H'
def tTryAs (N : List Str) (i : Nat) (R : RX) (Ok : Addr -> Prop) (tb th : TS) : TS := fun D σ H => tb D σ H /\ ∀ C dx H', R C dx H' -> Ok C /\ ∃ d, dx = some d /\ ∀ a, H' a = none -> th (gone i D) ((hid N).set i (some (.ref a))) (upd H' a (erO a C d))
section
variable {X : Cx} {R : RX} {body : List Stmt} {b₀ : Stmt} {suite : List Stmt} {x : Str} {p hpos pos : Pos} {u : Value} {tb th : TS}
end
def rIsE (K : PySem.W.Frag) : List V -> Hp -> VK -> Prop := fun xs H Q => ∃ (a C d : Addr) (fs : List (Str × V)) (bm : List Value) (c : V) (b : Bool), xs = [.ref a, c] /\ H a = some (erO a C d) /\ H d = some (dO d fs) /\ ClsX K C bm /\ GetX K C ∧
 ((∃ n, c = .ty n /\ PySem.W.kitOne K (.ref C) (.type n) = some b) ∨ (∃ D, c = .ref D /\ PySem.W.kitOne K (.ref C) (.ref D) = some b) ∨
  ∃ (p : Addr) (cs : List Addr), c = .ref p /\ H p = some (.tup (cs.map V.ref)) /\ PySem.W.kitAny K (.ref C) (cs.map Value.ref) = some b) /\ Q (.bl b) H
def IsErr (H : Hp) (a C d : Addr) : Prop := H a = some (erO a C d) ∨ H a = some (exO a C (some d))
section
variable {X : Cx} {pins : List (Addr × Obj)} {σ : L2.St} {H : Hp} {s : Shared} {a C d : Addr} {fs : List (Str × V)}
end
def tFldE (K : PySem.W.Frag) (ta : TE) (f : Str) : TE := fun σ H Q => ta σ H fun x H1 => ∃ a C d fs bm v, x = .ref a /\ IsErr H1 a C d /\ H1 d = some (dO d fs) /\ ClsX K C bm /\ GetX K C /\ NoAttr K C f /\ fs.lookup f = some v /\ Q v H1
def rIsX (K : PySem.W.Frag) : List V -> Hp -> VK -> Prop := fun xs H Q => ∃ (a C d : Addr) (fs : List (Str × V)) (bm : List Value) (c : V) (b : Bool), xs = [.ref a, c] /\ IsErr H a C d /\ H d = some (dO d fs) /\ ClsX K C bm /\ GetX K C ∧
 ((∃ n, c = .ty n /\ PySem.W.kitOne K (.ref C) (.type n) = some b) ∨ (∃ D, c = .ref D /\ PySem.W.kitOne K (.ref C) (.ref D) = some b) ∨
  ∃ (p : Addr) (cs : List Addr), c = .ref p /\ H p = some (.tup (cs.map V.ref)) /\ PySem.W.kitAny K (.ref C) (cs.map Value.ref) = some b) /\ Q (.bl b) H
def tMakeE (C : Addr) (sp : Sp) (t : TA) : TE := fun σ H Q => t σ H fun vs H1 => vs.length ≤ sizeLine /\ ∀ a, H1 a = none -> sp (.ref a :: vs) (upd H1 a (exO a C none)) (fun v H2 => v = .non /\ Q (.ref a) H2) E0
theorem turnedL {X : Cx} {pins : List (Addr × Obj)} {σ : L2.St} {H : Hp} {s : Shared} {h' : Heap} {t' : Nat} {fp : List Addr} (I : Inv X pins σ H s)
  (k : ∀ b o, b ∉ fp -> s.heap.get? b = some o -> h'.get? b = some o) (hf : ∀ b ∈ fp, FpOk X pins H b) : Inv X pins σ H { s with heap := h', toks := t' } := by
 have off : ∀ b u, H b = some u -> b ∉ fp := fun b u e z => by rw [(hf b z).1] at e; cases e
 refine I.step (g' := s.gens) (d' := s.drawn) (ch := fp) (fun b hb => ?_) (fun b o _ _ hc e _ => k b o hc e) (fun b o _ _ hc e _ => ⟨o.slots, k b o hc e⟩) (fun _ _ _ _ n => n)
  (fun b o hc e => ⟨o, k b o hc e⟩) (fun _ _ e => e) (fun _ _ _ e => e) (fun b ps e => ⟨#[], by rw [e]; simp⟩) (fun m hm => ?_) (fun b u e => ?_) I.bare
 ·obtain ⟨_, f1, _, f3, f4, f5⟩ := hf b hb
  exact ⟨f3, f1, f4, f5⟩
 ·obtain ⟨o, es, ep, ho, r⟩ := hm
  exact ⟨o, es, ep, k _ o (fun z => (hf _ z).2.1 rfl) ho, r⟩
 ·refine (I.hok b u e).stay (fun c v hc q => k c v ?_ q) (fun _ q => q) fun _ _ q => q
  rcases hc with z | z
  ·rw [z]; exact off b u e
  ·exact off c _ z
section
variable {prog : Program} {w : World} {A : Around} {E : Value -> Shared -> Prop} {s : Shared}
structure Five (z TI TO i1 i2 : Addr) : Prop where
 a1 : TI ≠ z
 a2 : TO ≠ z
 a3 : i1 ≠ z
 a4 : i2 ≠ z
 a5 : TI ≠ TO
 a6 : TI ≠ i1
 a7 : TI ≠ i2
 a8 : TO ≠ i1
 a9 : TO ≠ i2
 b1 : i1 ≠ i2
end
theorem turnedN {X : Cx} {pins : List (Addr × Obj)} {σ : L2.St} {H : Hp} {s : Shared} {h' : Heap} {t' : Nat} {fp : List Addr} {p : Addr} {v : HO} (I : Inv X pins σ H s)
  (k : ∀ b o, b ∉ fp -> s.heap.get? b = some o -> h'.get? b = some o) (hf : ∀ b ∈ fp, FpOk X pins H b) (hp : s.heap.objs.size ≤ p) (new : ObjOk X.prog X.w (upd H p v) h' p v) :
  Inv X pins σ (upd H p v) { s with heap := h', toks := t' } := by
 have off : ∀ b u, H b = some u -> b ∉ fp := fun b u e z => by rw [(hf b z).1] at e; cases e
 have hn : H p = none := I.hok.fresh hp
 have old : ∀ b u, H b = some u -> upd H p v b = some u := fun b u e => by rw [upd_ne (ne_of_none e hn)]; exact e
 refine I.step (g' := s.gens) (d' := s.drawn) (ch := fp) (fun b hb => ?_) (fun b o _ _ hc e _ => k b o hc e) (fun b o _ _ hc e _ => ⟨o.slots, k b o hc e⟩) (fun b o _ e n => ?_)
  (fun b o hc e => ⟨o, k b o hc e⟩) (fun b xs e => old b _ e) (fun b o u e => old b _ e) (fun b ps e => ⟨#[], by rw [old b _ e]; simp⟩) (fun m hm => ?_) (fun b u e => ?_) I.bare
 ·obtain ⟨_, f1, _, f3, f4, f5⟩ := hf b hb
  exact ⟨f3, f1, f4, f5⟩
 ·rw [upd_ne (Nat.ne_of_lt (Nat.lt_of_lt_of_le (Heap.lt_size e) hp))]; exact n
 ·obtain ⟨o, es, ep, ho, r⟩ := hm
  exact ⟨o, es, ep, k _ o (fun z => (hf _ z).2.1 rfl) ho, r⟩
 ·by_cases hb : b = p
  ·subst hb; rw [upd_same] at e; cases e; exact new
  ·rw [upd_ne hb] at e
   refine (I.hok b u e).stay (fun c v hc q => k c v ?_ q) (fun c q => old c _ q) fun c xs q => old c _ q
   rcases hc with z | z
   ·rw [z]; exact off b u e
   ·exact off c _ z
def Itz (K : PySem.W.Frag) (a b : Addr) : It :=
 ⟨fun i H => ∃ xs ys x y, SqT K H a xs /\ SqT K H b ys /\ xs[i]? = some x /\ ys[i]? = some y,
  fun i H v H' => ∃ p x y, H p = none /\ v = .ref p /\ H' = upd H p (.tup [x, y]) /\ (∀ xs, SqT K H a xs -> xs[i]? = some x) /\ ∀ ys, SqT K H b ys -> ys[i]? = some y,
  fun i H => ∃ xs ys, SqT K H a xs /\ SqT K H b ys /\ (xs.length ≤ i ∨ ys.length ≤ i)⟩
def ZSt (z TI TO i1 i2 a b : Addr) (i : Nat) (h : Heap) : Prop := IsZip h z TI TO .none /\ IsPair h TI (.ref i1) (.ref i2) /\ (∃ u v, IsPair h TO u v) /\ h.IsTupleIter i1 a i /\ h.IsTupleIter i2 b i
abbrev zA (h : Heap) (a : Addr) : Heap := h.push { cls := .type "tuple_iterator", data := .fields #[.ref a, .int 0 0] }
abbrev zB (h : Heap) (a b : Addr) : Heap := zA (zA h a) b
abbrev zC (h : Heap) (a b : Addr) : Heap := (zB h a b).push { cls := .type "tuple", data := .seq #[.ref h.objs.size, .ref (zA h a).objs.size] }
abbrev zD (h : Heap) (a b : Addr) : Heap := (zC h a b).push { cls := .type "tuple", data := .seq #[.none, .none] }
abbrev zE (h : Heap) (a b : Addr) : Heap := (zD h a b).push { cls := .type "zip", data := .fields #[.none, .bool false, .bool false, .ref (zB h a b).objs.size, .ref (zC h a b).objs.size] }
def iZip (K : PySem.W.Frag) (ta : TA) : TI := fun σ H R => ta σ H fun vs H1 => ∃ a b, vs = [.ref a, .ref b] /\ (∃ xs, SqT K H1 a xs) /\ (∃ ys, SqT K H1 b ys) /\ R (Itz K a b) H1
def IteT (K : PySem.W.Frag) (a : Addr) : It :=
 ⟨fun i H => ∃ xs x, SqT K H a xs /\ xs[i]? = some x,
  fun i H v H' => ∃ p x, H p = none /\ v = .ref p /\ H' = upd H p (.tup [.int i, x]) /\ ∀ xs, SqT K H a xs -> xs[i]? = some x,
  fun i H => ∃ xs, SqT K H a xs /\ xs.length ≤ i⟩
def iEnT (K : PySem.W.Frag) (ta : TA) : TI := fun σ H R => ta σ H fun vs H1 => ∃ a, vs = [.ref a] /\ (∃ xs, SqT K H1 a xs) /\ R (IteT K a) H1
def IteL (K : PySem.W.Frag) (a : Addr) : It :=
 ⟨fun i H => ∃ xs x, SqL K H a xs /\ xs[i]? = some x,
  fun i H v H' => ∃ p x, H p = none /\ v = .ref p /\ H' = upd H p (.tup [.int i, x]) /\ ∀ xs, SqL K H a xs -> xs[i]? = some x,
  fun i H => ∃ xs, SqL K H a xs /\ xs.length ≤ i⟩
def iEnL (K : PySem.W.Frag) (ta : TA) : TI := fun σ H R => ta σ H fun vs H1 => ∃ a, vs = [.ref a] /\ (∃ xs, SqL K H1 a xs) /\ R (IteL K a) H1
section
variable {prog : Program} {w : World} {A : Around} {E : Value -> Shared -> Prop}
end
def gLst (K : PySem.W.Frag) (n : Nat) (t : TGs) : TG := fun v σ H Q => ∃ a xs, v = .ref a /\ SqL K H a xs /\ xs.length = n /\ t xs σ H Q
section
variable {prog : Program} {w : World} {A : Around} {E : Value -> Shared -> Prop} {s : Shared}
open HT in
theorem tuple_whole {t sl : Addr} {items : Array Value} {vl vu : Value} {lo hi : Option Int} {Q : Value -> Shared -> Prop} (ht : IsTup s.heap t items) (hs : s.heap.IsSliceOf sl vl vu .none) (pl : IsPart vl lo) (pu : IsPart vu hi)
  (h1 : sIx items.size 0 lo = 0) (h2 : sIx items.size items.size hi = items.size) (h : Q (.ref t) s) : wpAny (model prog w) A (getItem (.ref t) (.ref sl)) Q E s := by
 obtain ⟨os, hos, hcs, hds⟩ := id hs
 have hTs : s.TypeIs (.ref sl) "slice" := ⟨os, hos, hcs⟩
 unfold getItem
 try with_reducible refine wpAny_holding ?_
 first | refine wpAny_bind (wpAny_pure ?_) | skip
 refine wpAny_bind (wpAny_sequenceKey ht.typeIs (by decide) ?_)
 refine wpAny_bind (wpAny_callSpecial?_slot (name := Str.ofString "__getitem__") ht.typeIs PyProof.Rows.slot_tuple_getitem
  (wpAny_call_entry PyProof.Rows.slot_tuple_getitem ht.typeIs entry_tuple_getitem ?_ (args_tuple_getitem _ _)))
 show wpAny _ _ (Builtin.Tuple.tupleItemsOf (.ref t) >>= _) _ _ s
 refine wpAny_bind (tupleItemsOf_ ht ?_)
 refine wpAny_bind (wpAny_typeOf hTs ?_)
 rw [if_pos (by decide)]
 refine wpAny_bind (sliceApplied_gen hs pl pu ?_)
 have hyes : ((((sIx items.size 0 lo : Nat) : Int) == 0 && (1 : Int) == 1 && (sIx items.size items.size hi - sIx items.size 0 lo) == items.size) = true) := by
  rw [h1, h2]; simp
 show wpAny _ _ (if (((sIx items.size 0 lo : Nat) : Int) == 0 && (1 : Int) == 1 && (sIx items.size items.size hi - sIx items.size 0 lo) == items.size) = true then _ else _) _ _ s
 rw [if_pos hyes]
 refine wpAny_bind ?_
 unfold Builtin.Tuple.tupleIsExact
 refine wpAny_bind (wpAny_typeOf ht.typeIs ?_)
 refine wpAny_pure ?_
 rw [if_pos (by decide)]
 exact wpAny_bind (wpAny_rule (wpAny_pure ⟨_, rfl, wpAny_pure h⟩))
end
def rSlW (K : PySem.W.Frag) : V -> Option Int -> Option Int -> Hp -> VK -> Prop := fun x lo hi H Q => ∃ a xs, x = .ref a /\ SqT K H a xs /\ HT.sIx xs.length 0 lo = 0 /\ HT.sIx xs.length xs.length hi = xs.length /\ Q (.ref a) H
theorem sl_tupW {X : Cx} : SlR X (rSlW X.K) := by
 intro pins s σ H x v vl vu lo hi sl Q I rx hs pl pu h
 obtain ⟨a, xs, rfl, hx, h1, h2, q⟩ := h
 cases rx
 obtain ⟨its, r, ht, hz⟩ := I.tuple hx
 have hlen : its.toArray.size = xs.length := by rw [List.size_toArray]; exact r.length.symm
 refine ⟨"tuple", _, PyProof.Rows.slot_tuple_getitem.lookup, ht.typeIs, ?_⟩
 exact tuple_whole ht hs pl pu (by rw [hlen]; exact h1) (by rw [hlen]; exact h2) ⟨.ref a, H, I, rfl, q⟩
theorem sl_tupA {X : Cx} : SlR X (fun x lo hi H Q => rSlW X.K x lo hi H Q ∨ rSlT X.K x lo hi H Q) := SlR.or sl_tupW sl_tup
end B
namespace B
structure Bq (D N : Nat) (r : R) : Prop where
 pos : 0 < r.2
 cop : Int.gcd r.1 r.2 = 1
 dvd : r.2 ∣ (D : Int)
 le : r.1.natAbs ≤ N * r.2.natAbs
end B
namespace B
open PySem PySem.Spec L2 PyProof.Rows
inductive Rl where
 | pow (k : Int)
 | tab (rows : List (R × R))
def rowD : R × R := ((0, 1), (0, 1))
def slopeR (lo hi : R × R) : R := overR (minusR hi.2 lo.2) (minusR hi.1 lo.1)
def slp (rows : List (R × R)) (k : Nat) : R := slopeR (rows.getD k rowD) (rows.getD (k + 1) rowD)
def pOf (rows : List (R × R)) (s : R) : Nat := rows.countP fun r => lessR r.1 s
def qOf (rows : List (R × R)) (s : R) : Nat := rows.countP fun r => !lessR s r.1
def leftT (rows : List (R × R)) (s : R) : R := if pOf rows s = 0 then (0, 1) else slp rows (pOf rows s - 1)
def rightT (rows : List (R × R)) (s : R) : Option R := if qOf rows s < rows.length then some (slp rows (qOf rows s - 1)) else none
def powS (k : Int) (s : R) : R := timesR (k, 1) (powR s (k - 1).toNat)
def sidesOf : Rl -> R -> R × Option R
 | .pow k, s => (powS k s, some (powS k s))
 | .tab rows, s => (leftT rows s, rightT rows s)
def Inc (rows : List (R × R)) : Prop := rows.Pairwise fun a b => lessR a.1 b.1 = true
def AllP (rows : List (R × R)) : Prop := ∀ r ∈ rows, 0 < r.1.2
abbrev D0 : Nat := 5822723907000000000
abbrev N0 : Nat := 1000000007
abbrev N1 : Nat := 17179869184
abbrev NR : Nat := 11000000077
abbrev N2 : Nat := 1180591620717411303424
structure RowsOk (rows : List (R × R)) : Prop where
 n2 : 2 ≤ rows.length
 n12 : rows.length ≤ 12
 inc : Inc rows
 zero : ∃ y, rows[0]? = some ((0, 1), y)
 sp : ∀ r ∈ rows, Bq D0 NR r.1
 pw : ∀ r ∈ rows, Bq (D0 * D0) N2 r.2
def RlOk : Rl -> Prop
 | .pow k => 2 ≤ k /\ k ≤ 4
 | .tab rows => RowsOk rows
structure SpOk (s : R) : Prop where
 bq : Bq (D0 * 2) N1 s
 nn : 0 ≤ s.1
def Below : Rl -> R -> Prop
 | .pow _, _ => True
 | .tab rows, s => ∃ r, rows[rows.length - 1]? = some r /\ lessR r.1 s = false
def lAt (rows : List (R × R)) (s : R) (i : Nat) : R := if 0 < pOf rows s /\ pOf rows s - 1 < i then slp rows (pOf rows s - 1) else (0, 1)
def rAt (rows : List (R × R)) (s : R) (i : Nat) : Option R := if 0 < qOf rows s /\ qOf rows s - 1 < i then some (slp rows (qOf rows s - 1)) else none
def powAt (k : Int) (s : R) (j : Nat) : R := mkR (k * s.1 ^ j) (s.2 ^ j)
def bearM (l : R) (r : Option R) (g : R) : Bool := !lessR g l && (match r with | none => true | some x => !lessR x g)
end B
namespace B
def val (r : R) : Rat := (r.1 : Rat) / (r.2 : Rat)
theorem ne_cast {b : Int} (h : 0 < b) : (b : Rat) ≠ 0 := fun z => by
 have : b = 0 := Rat.intCast_inj.mp (by rw [z]; rfl)
 omega
theorem val_of {r : R} {a b : Int} (hr : 0 < r.2) (hb : (b : Rat) ≠ 0) (h : r.1 * b = a * r.2) : val r = (a : Rat) / (b : Rat) := by
 have h2 : (r.1 : Rat) * (b : Rat) = (a : Rat) * (r.2 : Rat) := by rw [← Rat.intCast_mul, ← Rat.intCast_mul, h]
 have h1 := ne_cast hr
 unfold val
 generalize (r.1 : Rat) = x at *
 generalize (r.2 : Rat) = y at *
 generalize (a : Rat) = u at *
 generalize (b : Rat) = v at *
 grind
theorem val_mk {a b : Int} (hb : 0 < b) : val (mkR a b) = (a : Rat) / (b : Rat) := val_of (mkR_red hb).pos (ne_cast hb) (mkR_cross hb)
theorem val_plus {r q : R} (hr : 0 < r.2) (hq : 0 < q.2) : val (plusR r q) = val r + val q := by
 unfold plusR
 rw [val_mk (Int.mul_pos hr hq)]
 have h1 := ne_cast hr
 have h2 := ne_cast hq
 unfold val
 rw [Rat.intCast_add, Rat.intCast_mul, Rat.intCast_mul, Rat.intCast_mul]
 generalize (r.1 : Rat) = x at *
 generalize (r.2 : Rat) = y at *
 generalize (q.1 : Rat) = u at *
 generalize (q.2 : Rat) = v at *
 grind
theorem val_inj {r q : R} (hr : Red r) (hq : Red q) (h : val r = val q) : r = q := by
 have h1 := ne_cast hr.pos
 have h2 := ne_cast hq.pos
 have e : r.1 * q.2 = q.1 * r.2 := by
  refine Rat.intCast_inj.mp ?_
  rw [Rat.intCast_mul, Rat.intCast_mul]
  unfold val at h
  generalize (r.1 : Rat) = x at *
  generalize (r.2 : Rat) = y at *
  generalize (q.1 : Rat) = u at *
  generalize (q.2 : Rat) = v at *
  grind
 have e1 : mkR r.1 r.2 = (r.1, r.2) := mkR_uniq hr.pos hr.pos hr.cop rfl
 have e2 : mkR r.1 r.2 = (q.1, q.2) := mkR_uniq hr.pos hq.pos hq.cop e.symm
 exact e1.symm.trans e2
end B
namespace B
def slV (rows : List (R × R)) (i : Nat) : Rat := (val (rows.getD (i + 1) rowD).2 - val (rows.getD i rowD).2) / (val (rows.getD (i + 1) rowD).1 - val (rows.getD i rowD).1)
section
variable {s p : Nat -> Rat} {n : Nat}
def sl (s p : Nat -> Rat) (i : Nat) : Rat := (p (i + 1) - p i) / (s (i + 1) - s i)
end
end B
namespace B
open PySem PySem.Spec L2 PyProof.Rows
structure QE (X : Cx) (e : Expr) (t : TE) : Prop where
 p : PE X e t
structure QT (X : Cx) (e : Expr) (t : TT) : Prop where
 p : PT X e t
structure QW (X : Cx) (e : Expr) (t : TT) : Prop where
 p : PW X e t
structure QA (X : Cx) (es : List Expr) (t : TA) : Prop where
 p : PA X es t
structure QS (X : Cx) (st : Stmt) (t : TS) : Prop where
 p : PS X st t
structure QSs (X : Cx) (st : List Stmt) (t : TS) : Prop where
 p : PSs X st t
structure QI (X : Cx) (tg iter : Expr) (wi : TI) : Prop where
 p : PI X tg iter wi
structure QG (X : Cx) (target : Expr) (t : TG) : Prop where
 p : PG X target t
structure QGs (X : Cx) (ts : List Expr) (t : TGs) : Prop where
 p : PGs X ts t
theorem QSs.ok {X : Cx} {b : List Stmt} {t : TS} {D : Ends} {σ : L2.St} {H : Hp} (h : QSs X b t) (r : t D σ H) : ∃ t : TS, PSs X b t /\ t D σ H := ⟨t, h.p, r⟩
structure QO (X : Cx) (o : Option Expr) (t : L2.TO) : Prop where
 p : PO X o t
section
set_option autoImplicit true
set_option relaxedAutoImplicit true
theorem qv  (i : Nat) {x : Str} {pos : Pos} (hN : X.N[i]? = some x := by rfl) (hv : Vis X.env.scope x := by first | exact Or.inl rfl | exact Or.inr (Or.inl rfl) | exact Or.inr (Or.inr rfl)) (hd : (x == ("__debug__" : Str)) = false := by decide) (hcd : (x == ("__classdict__" : Str)) = false := by decide) : QE X (.Name x pos) (tVar i) := ⟨pv i hN hv hd hcd⟩
theorem qe_int  {i j pos} : QE X (.Constant (.int i) j pos) (tC (.int i)) := ⟨pe_int ⟩
theorem qe_bl  {b j pos} : QE X (.Constant (.bool b) j pos) (tC (.bl b)) := ⟨pe_bl ⟩
theorem qe_non  {j pos} : QE X (.Constant .none j pos) (tC .non) := ⟨pe_non ⟩
theorem qe_glob  {x : Str} {v : V} {u : Value} {pos : Pos} (hg : Gl X x) (hm : X.mg x = some u) (r : RelV v u) (hd : (x == ("__debug__" : Str)) = false := by decide) : QE X (.Name x pos) (tC v) := ⟨pe_glob hg hm r hd⟩
theorem qe_bltn  {x : Str} {v : V} {u : Value} {pos : Pos} (hg : Gl X x) (hm : X.mg x = none) (hv : bootBuiltins x = some u) (r : RelV v u) (hn : x ≠ "__name__" := by decide) (hd : (x == ("__debug__" : Str)) = false := by decide) : QE X (.Name x pos) (tC v) := ⟨pe_bltn hg hm hv r hn hd⟩
theorem qe_un  {op : UnaryOp} {r : V -> Hp -> VK -> Prop} (ho : UnR X (unaryOp op) r) (ha : QE X a ta) : QE X (.UnaryOp op a pos) (tUn r ta) := ⟨pe_un ho ha.p⟩
theorem qe_not  (ha : QE X a ta) : QE X (.UnaryOp .Not a pos) (tNotV ta) := ⟨pe_not ha.p⟩
theorem qe_op  {op : Operator} {r : R2} (ho : OpR X (binaryOp op) r) (ha : QE X a ta) (hb : QE X b tb) : QE X (.BinOp a op b pos) (tOp r ta tb) := ⟨pe_op ho ha.p hb.p⟩
theorem qe_one  {op} {t : TE} (h : QE X a t) : QE X (.BoolOp op [a] pos) t := ⟨pe_one h.p⟩
theorem qe_and {rest : List Expr} (ha : QE X a ta) (hb : QE X (.BoolOp .And (b :: rest) pos) tb) : QE X (.BoolOp .And (a :: b :: rest) pos) (tAndV ta tb) := ⟨pe_and ha.p hb.p⟩
theorem qe_cmpR  {op : CmpOp} {r : R2} (ho : OpR X (compareOp op) r) (ha : QE X a ta) (hb : QE X b tb) (hm : behindInMarks op b = false) : QE X (.Compare a [op] [b] pos) (tOp r ta tb) := ⟨pe_cmpR ho ha.p hb.p hm⟩
theorem qe_lst  (h : QA X es t) : QE X (.List es pos) (tLst t) := ⟨pe_lst h.p⟩
theorem qe_tup  {x1} (h : QA X es t) : QE X (.Tuple es x1 pos) (tTup t) := ⟨pe_tup h.p⟩
theorem qe_slice {lo hi : Option Expr} {r : V -> Option Int -> Option Int -> Hp -> VK -> Prop} (hr : SlR X r) (he : QE X e te) (hl : QO X lo tl) (hu : QO X hi th) : QE X (.Subscript e (.Slice lo hi none p2) pos) (tSl r te tl th) := ⟨pe_slice hr he.p hl.p hu.p⟩
theorem qo_none   : QO X none tNoPart := ⟨po_none ⟩
theorem qo_some  (h : QE X e te) : QO X (some e) (tPart te) := ⟨po_some h.p⟩
theorem qe_ix  {r : R2} (hr : IxR X r) (ha : QE X a ta) (hb : QE X b tb) (hs : PlainIx b) : QE X (.Subscript a b pos) (tOp r ta tb) := ⟨pe_ix hr ha.p hb.p hs⟩
theorem qe_call  (F : FnOk X.prog X.w X.K X.mg X.base CX k f fd ps sp) (hr : Room k X.A) (hg : Gl X x) (hm : X.mg x = some (.ref f)) (hk : PySem.W.keepIn X.K (.ref f) = true) (hb : Binds X.K fd ps ds) (hd : Vals dvs ds) (hx : Passes CX X E) (ha : QA X (e :: es) t) (hdb : (x == ("__debug__" : Str)) = false := by decide) (he : starEach (e :: es) X.env = (false, eval e X.env) :: starEach es X.env := by rfl) (hpl : (backTo pos (starEach es X.env)).any (·.1) = false := by rfl) : QE X (.Call (.Name x p) (e :: es) [] pos) (tCall sp dvs E t) := ⟨pe_call F hr hg hm hk hb hd hx ha.p hdb he hpl⟩
theorem qe_callB {id : String} (hc : CallR X (.builtin id) r) (hg : Gl X x) (hm : X.mg x = none) (hv : bootBuiltins x = some (.builtin id)) (ha : QA X (e :: es) t) (hn : x ≠ "__name__" := by decide) (hdb : (x == ("__debug__" : Str)) = false := by decide) (he : starEach (e :: es) X.env = (false, eval e X.env) :: starEach es X.env := by rfl) (hpl : (backTo pos (starEach es X.env)).any (·.1) = false := by rfl) : QE X (.Call (.Name x p) (e :: es) [] pos) (tCB r t) := ⟨pe_callB hc hg hm hv ha.p hn hdb he hpl⟩
theorem qe_callTy  (hc : CallR X (.type T) r) (hg : Gl X x) (hm : X.mg x = none) (hv : bootBuiltins x = some (.type T)) (ha : QA X (e :: es) t) (hn : x ≠ "__name__" := by decide) (hdb : (x == ("__debug__" : Str)) = false := by decide) (he : starEach (e :: es) X.env = (false, eval e X.env) :: starEach es X.env := by rfl) (hpl : (backTo pos (starEach es X.env)).any (·.1) = false := by rfl) : QE X (.Call (.Name x p) (e :: es) [] pos) (tCB r t) := ⟨pe_callTy hc hg hm hv ha.p hn hdb he hpl⟩
theorem qe_bm {id : String} (pa : PlainAttrs T) (slot : Slot T name id) (hty : typeOf (.builtin id) = pure (.type "method_descriptor")) (hm : MtR X id r) (ho : QE X o to) (ha : QA X (e :: es) t) (hbase : attributeBase o name X.env (eval o X.env) = eval o X.env := by rfl) (hfew : ((backTo cpos (starEach (e :: es) X.env)).all (fun x => !x.1) && (backToKw cpos (keywordEach [] X.env)).all (fun x => x.1.isSome)
   && decide ((e :: es).length + ([] : List Keyword).length + (if ([] : List Keyword).isEmpty then 0 else 1) < 30)) = true := by rfl) (hline : (apos.endLine == cpos.line) = true := by rfl) (hs : starEach (e :: es) X.env = (false, eval e X.env) :: starEach es X.env := by rfl) (hplain : (backTo cpos (starEach es X.env)).any (·.1) = false := by rfl) : QE X (.Call (.Attribute o name apos) (e :: es) [] cpos) (tBM X.K T r to t) := ⟨pe_bm pa slot hty hm ho.p ha.p hbase hfew hline hs hplain⟩
theorem qa_nil   : QA X [] tNil := ⟨pa_nil ⟩
theorem qa_cons  (ha : QE X e te) (hr : QA X es t) (hs : starEach (e :: es) X.env = (false, eval e X.env) :: starEach es X.env := by rfl) : QA X (e :: es) (tCons te t) := ⟨pa_cons ha.p hr.p hs⟩
theorem qt_cmpR  {op : CmpOp} {r : R2} (ho : OpR X (compareOp op) r) (ha : QE X a ta) (hb : QE X b tb) (hm : behindInMarks op b = false) : QT X (.Compare a [op] [b] pos) (tTest (tOp r ta tb)) := ⟨pt_cmpR ho ha.p hb.p hm⟩
theorem qt_chain  {op op' : CmpOp} {r r' : R2} (ho : OpR X (compareOp op) r) (ho' : OpR X (compareOp op') r') (ha : QE X a ta) (hb : QE X b tb) (hc : QE X c tc) (hm : lastMarks [op, op'] [b, c] = false := by with_unfolding_all rfl) : QT X (.Compare a [op, op'] [b, c] pos) (tTest (tChain r r' ta tb tc)) := ⟨pt_chain ho ho' ha.p hb.p hc.p hm⟩
theorem qt_val  {e : Expr} {t : TE} (h : QE X e t) (he : ∀ whole, isTrue e X.env whole = (do let v ← whole; standAt e.pos; holding [v] (truthy v)) := by intro _; rfl) : QT X e (tB t) := ⟨pt_val h.p he⟩
theorem qt_not  (ha : QT X a tA) : QT X (.UnaryOp .Not a pos) (tNot tA) := ⟨pt_not ha.p⟩
theorem qw_and {rest : List Expr} (ha : QT X a tA) (hb : QW X (.BoolOp .And (b :: rest) pos) tB') : QW X (.BoolOp .And (a :: b :: rest) pos) (tAnd tA tB') := ⟨pw_and ha.p hb.p⟩
theorem qw_and1  (ha : QT X a tA) : QW X (.BoolOp .And [a] pos) tA := ⟨pw_and1 ha.p⟩
theorem qw_or {rest : List Expr} (ha : QT X a tA) (hb : QW X (.BoolOp .Or (b :: rest) pos) tB') : QW X (.BoolOp .Or (a :: b :: rest) pos) (tOr tA tB') := ⟨pw_or ha.p hb.p⟩
theorem qw_or1  (ha : QT X a tA) : QW X (.BoolOp .Or [a] pos) tA := ⟨pw_or1 ha.p⟩
theorem qw_pt  {X : Cx} {e : Expr} {t : TT} (h : QW X e t) : QT X e t := ⟨PW.pt h.p⟩
theorem qs_set  {i : Nat} {x : Str} {e : Expr} {te : TE} {pos' : Pos} (hN : X.N.Nodup) (hi : X.N[i]? = some x) (hx : Loc X.env.scope x) (he : QE X e te) (hs : swapsWith e (some (.Name x pos')) pos.line X.env = pure false := by rfl) (hf : X.fn x = true ∨ X.env.scope.names.lookup x = some .local := by first | exact .inl rfl | exact .inr rfl | assumption) : QS X (.Assign [.Name x pos'] e pos) (tAsg te (gName i)) := ⟨ps_set hN hi hx he.p hs hf⟩
theorem qs_par  {i j : Nat} {x y : Str} {a b : Expr} {ta : TA} {px py pt : Pos} {kt k2 pt2} (hc : X.calm = true) (hN : X.N.Nodup) (hi : X.N[i]? = some x) (hj : X.N[j]? = some y) (hij : i ≠ j) (hx : X.env.scope.names.lookup x = some .local) (hy : X.env.scope.names.lookup y = some .local) (ha : QA X [a, b] ta) (hw : swappedStores [.Tuple [.Name x px, .Name y py] kt pt] (.Tuple [a, b] k2 pt2) X.env = pure (some [x, y])) (hs : swapsWithSole [.Tuple [.Name x px, .Name y py] kt pt] (.Tuple [a, b] k2 pt2) pos.line X.env = pure false := by rfl) : QS X (.Assign [.Tuple [.Name x px, .Name y py] kt pt] (.Tuple [a, b] k2 pt2) pos) (tPar i j ta) := ⟨ps_par hc hN hi hj hij hx hy ha.p hw hs⟩
theorem qs_asg  {tg e : Expr} {te : TE} {g : TG} (he : QE X e te) (hg : QG X tg g) (hs : swapsWithSole [tg] e pos.line X.env = pure false := by rfl) (hw : swappedStores [tg] e X.env = pure none := by rfl) (h1 : (assignEach [tg] X.env).map (·.2) = [assign tg X.env] := by rfl) : QS X (.Assign [tg] e pos) (tAsg te g) := ⟨ps_asg he.p hg.p hs hw h1⟩
theorem qs_if  {c : Expr} {a b : List Stmt} {tc : TT} (hc : QT X c tc) (ha : QSs X a t) (hb : QSs X b u) : QS X (.If c a b pos) (tIfS tc t u) := ⟨ps_if hc.p ha.p hb.p⟩
theorem qs_while  {c : Expr} {body : List Stmt} {tc : TT} {tb : TS} (hp : PassesOwn (model X.prog X.w) X.A X.env X.xe) (hc : QT X c tc) (hb : QSs X body tb) : QS X (.While c body [] pos) (tWhile tc tb) := ⟨ps_while hp hc.p hb.p⟩
theorem qs_for  {iter : Expr} {body : List Stmt} {wi : TI} {g : TG} {tb : TS} {pos : Pos} (hp : PassesOwn (model X.prog X.w) X.A X.env X.xe) (hc : X.calm = true) (hi : QI X tg iter wi) (hg : QG X tg g) (hb : QSs X body tb) (hs : ∀ x, foldedSetIterable iter X.env x = pure x := by intro _; rfl) : QS X (.For tg iter body [] pos) (tFor wi g tb) := ⟨ps_for hp hc hi.p hg.p hb.p hs⟩
theorem qs_ret  (he : QE X e te) : QS X (.Return (some e) pos) (tRet te) := ⟨ps_ret he.p⟩
theorem qs_expr  (he : QE X e te) (hs : swapsWith e none pos.line X.env = pure false := by rfl) : QS X (.Expr e pos) (tDrop te) := ⟨ps_expr he.p hs⟩
theorem qs_never {st : Stmt}  : QS X st tNever := ⟨ps_never ⟩
theorem qss_nil   : QSs X [] tNext := ⟨pss_nil ⟩
theorem qss_one {st : Stmt} (h1 : QS X st t) : QSs X [st] t := ⟨pss_one h1.p⟩
theorem qss_cons {st : Stmt} {rest : List Stmt} (h1 : QS X st t) (h2 : QSs X rest u) : QSs X (st :: rest) (tSeq t u) := ⟨pss_cons h1.p h2.p⟩
theorem qi_range1  {a : Expr} {ta : TA} {p pos : Pos} (hg : Gl X "range") (hm : X.mg "range" = none) (ha : QA X [a] ta) (hs : starEach [a] X.env = [(false, eval a X.env)] := by rfl) : QI X tg (.Call (.Name "range" p) [a] [] pos) (iRng1 ta) := ⟨pi_range1 hg hm ha.p hs⟩
theorem qi_range2  {a b : Expr} {ta : TA} {p pos : Pos} (hg : Gl X "range") (hm : X.mg "range" = none) (ha : QA X [a, b] ta) (hs : starEach [a, b] X.env = [(false, eval a X.env), (false, eval b X.env)] := by rfl) (hs2 : starEach [b] X.env = [(false, eval b X.env)] := by rfl) : QI X tg (.Call (.Name "range" p) [a, b] [] pos) (iRng2 ta) := ⟨pi_range2 hg hm ha.p hs hs2⟩
theorem qi_list {tg : Expr} {l : Expr} {tl : TE} (hl : QE X l tl) : QI X tg l (iList X.K tl) := ⟨pi_list hl.p⟩
theorem qi_tup  {l : Expr} {tl : TE} (hl : QE X l tl) : QI X tg l (iTup X.K tl) := ⟨pi_tup hl.p⟩
theorem qg_name  {i : Nat} {x : Str} (hN : X.N.Nodup) (hi : X.N[i]? = some x) (hx : Loc X.env.scope x) (hf : X.fn x = true ∨ X.env.scope.names.lookup x = some .local := by first | exact .inl rfl | exact .inr rfl | assumption) : QG X (.Name x pos) (gName i) := ⟨pg_name hN hi hx hf⟩
theorem qg_tup  {es : List Expr} {k : Nat} {t : TGs} {n : Nat} (hc : X.calm = true) (h : QGs X es t) (hn : (assignEach es X.env).length = n := by rfl) (hst : (assignEach es X.env).findIdx? (·.1) = none := by rfl) : QG X (.Tuple es k pos) (gTup X.K n t) := ⟨pg_tup hc h.p hn hst⟩
theorem qg_sub  {o i : Expr} {to ti : TE} {t : TSet} (ho : QE X o to) (hi : QE X i ti) (hs : PSet X t) (ha : ∀ v, assign (.Subscript o i pos) X.env v = (do
   let ov ← holding [v] (eval o X.env)
   let iv ← holding [v, ov] (eval i X.env)
   standAt pos
   holding [v, ov, iv] (setItem ov iv v)
   release [v, ov, iv] []) := by intro _; rfl) : QG X (.Subscript o i pos) (gSub to ti t) := ⟨pg_sub ho.p hi.p hs ha⟩
theorem qgs_nil   : QGs X [] gNil := ⟨pgs_nil ⟩
theorem qgs_cons  {e : Expr} {es : List Expr} {t : TG} {u : TGs} (h1 : QG X e t) (h2 : QGs X es u) (hs : (assignEach (e :: es) X.env).map (·.2) = assign e X.env :: (assignEach es X.env).map (·.2) := by rfl) : QGs X (e :: es) (gCons t u) := ⟨pgs_cons h1.p h2.p hs⟩
end
structure QTs (X : Cx) (ifs : List Expr) (t : TT) : Prop where
 p : PTs X ifs t
section
set_option autoImplicit true
set_option relaxedAutoImplicit true
theorem qts_nil  {X : Cx} : QTs X [] tYes := ⟨pts_nil ⟩
theorem qts_one  {X : Cx} {c : Expr} {t : TT} (h : QT X c t) : QTs X [c] t := ⟨pts_one h.p⟩
theorem qe_lcomp  (hc : X.calm = true) (hi : QI X tg iter wi) (hg : ∀ C fp pins s H, QG (cxC X N' scope cl C fp pins s H) tg g) (ht : ∀ C fp pins s H, QTs (cxC X N' scope cl C fp pins s H) ifs tt) (he : ∀ C fp pins s H, QE (cxC X N' scope cl C fp pins s H) elt te) (hfree : FreeOk X scope cl N' src) (hclos : closureFor scope X.env = pure cl) (hcell : ∀ x ∈ scope.names, x.2 ≠ .cell) (hkind : scope.kind = .function) (hnames : ∀ x ∈ scope.names, x.2 = .local -> scope.names.lookup x.1 = some .local) (hcl : CellsOk X scope cl) (hs : ∀ x, foldedSetIterable iter X.env x = pure x := by intro _; rfl) : QE X (.ListComp elt [⟨tg, iter, ifs, 0⟩] scope pos) (tComp wi src g tt te) := ⟨pe_lcomp hc hi.p (fun z0 z1 z2 z3 z4 => (hg z0 z1 z2 z3 z4).p) (fun z0 z1 z2 z3 z4 => (ht z0 z1 z2 z3 z4).p) (fun z0 z1 z2 z3 z4 => (he z0 z1 z2 z3 z4).p) hfree hclos hcell hkind hnames hcl hs⟩
theorem qs_setC  {i : Nat} {x : Str} {pos' pos2 : Pos} (hN : X.N.Nodup) (hi' : X.N[i]? = some x) (hx : Loc X.env.scope x) (hc : X.calm = true) (hi : QI X tg iter wi) (hg : ∀ C fp pins s H, QG (cxC X N' scope cl C fp pins s H) tg g) (ht : ∀ C fp pins s H, QTs (cxC X N' scope cl C fp pins s H) ifs tt) (he : ∀ C fp pins s H, QE (cxC X N' scope cl C fp pins s H) elt te) (hfree : FreeOk X scope cl N' src) (hclos : closureFor scope X.env = pure cl) (hcell : ∀ x ∈ scope.names, x.2 ≠ .cell) (hkind : scope.kind = .function) (hnames : ∀ x ∈ scope.names, x.2 = .local -> scope.names.lookup x.1 = some .local) (hcl : CellsOk X scope cl) (hs : ∀ x, foldedSetIterable iter X.env x = pure x := by intro _; rfl) (hsw : swapsWith (.ListComp elt [⟨tg, iter, ifs, 0⟩] scope pos) (some (.Name x pos')) pos2.line X.env = pure true := by rfl) (hf : X.fn x = true ∨ X.env.scope.names.lookup x = some .local := by first | exact .inl rfl | exact .inr rfl | assumption) : QS X (.Assign [.Name x pos'] (.ListComp elt [⟨tg, iter, ifs, 0⟩] scope pos) pos2) (tAsg (tComp wi src g tt te) (gName i)) := ⟨ps_setC hN hi' hx hc hi.p (fun z0 z1 z2 z3 z4 => (hg z0 z1 z2 z3 z4).p) (fun z0 z1 z2 z3 z4 => (ht z0 z1 z2 z3 z4).p) (fun z0 z1 z2 z3 z4 => (he z0 z1 z2 z3 z4).p) hfree hclos hcell hkind hnames hcl hs hsw hf⟩
end
section
variable {X : Cx} {K : PySem.W.Frag}
theorem ix_tupK (hK : X.K = K) : IxR X (rIxT K) := hK ▸ ix_tup
def rLen (K : PySem.W.Frag) : List V -> Hp -> VK -> Prop := fun xs H Q => ∃ p ys, xs = [.ref p] /\ (SqL K H p ys ∨ SqT K H p ys) /\ Q (.int ys.length) H
end
theorem star_bin {a b : Expr} {op : Operator} {pos : Pos} {es : List Expr} {env : Env} : starEach (.BinOp a op b pos :: es) env = (false, eval (.BinOp a op b pos) env) :: starEach es env := rfl
end B
namespace B
open PySem
section
variable {es : List Expr} {env : Env}
theorem star_tup {a b c} : starEach (.Tuple a b c :: es) env = (false, eval (.Tuple a b c) env) :: starEach es env := rfl
theorem star_sub {a b c} : starEach (.Subscript a b c :: es) env = (false, eval (.Subscript a b c) env) :: starEach es env := rfl
theorem star_call {a b c d} : starEach (.Call a b c d :: es) env = (false, eval (.Call a b c d) env) :: starEach es env := rfl
theorem star_name {a b} : starEach (.Name a b :: es) env = (false, eval (.Name a b) env) :: starEach es env := rfl
theorem star_con {a b c} : starEach (.Constant a b c :: es) env = (false, eval (.Constant a b c) env) :: starEach es env := rfl
theorem star_lc {a b c d} : starEach (.ListComp a b c d :: es) env = (false, eval (.ListComp a b c d) env) :: starEach es env := rfl
end
end B
namespace B
open PySem L2 PyProof.Rows
inductive Als {α : Type} (P : V -> α -> Prop) : List V -> List α -> Prop where
 | nil : Als P [] []
 | cons {x : V} {d : α} {xs : List V} {ds : List α} (h : P x d) (t : Als P xs ds) : Als P (x :: xs) (d :: ds)
theorem Als.len {α : Type} {P : V -> α -> Prop} : ∀ {xs : List V} {ds : List α}, Als P xs ds -> xs.length = ds.length
 | _, _, .nil => rfl
 | _, _, .cons _ t => congrArg (· + 1) t.len
theorem Als.mono {α : Type} {P P' : V -> α -> Prop} (m : ∀ v d, P v d -> P' v d) : ∀ {xs : List V} {ds : List α}, Als P xs ds -> Als P' xs ds
 | _, _, .nil => .nil
 | _, _, .cons h t => .cons (m _ _ h) (t.mono m)
theorem Als.snoc {α : Type} {P : V -> α -> Prop} {x : V} {d : α} (k : P x d) : ∀ {xs : List V} {ds : List α}, Als P xs ds -> Als P (xs ++ [x]) (ds ++ [d])
 | _, _, .nil => .cons k .nil
 | _, _, .cons h t => .cons h (t.snoc k)
theorem Als.at {α : Type} {P : V -> α -> Prop} : ∀ {xs : List V} {ds : List α}, Als P xs ds -> ∀ {i : Nat} {x : V}, xs[i]? = some x -> ∃ d, ds[i]? = some d /\ P x d
 | _, _, .cons h _, 0, x, e => by
  rw [List.getElem?_cons_zero] at e
  cases e
  exact ⟨_, rfl, h⟩
 | _, _, .cons _ t, i + 1, x, e => t.at (i := i) (by rw [List.getElem?_cons_succ] at e; exact e)
 | _, _, .nil, _, _, e => by cases e
theorem Als.deep {α : Type} {K : PySem.W.Frag} {H : Hp} {P : V -> α -> Prop} {f : α -> PyData} (m : ∀ v d, P v d -> Deep K H v (f d)) : ∀ {xs : List V} {ds : List α}, Als P xs ds -> DeepAll K H xs (ds.map f)
 | _, _, .nil => .nil
 | _, _, .cons h t => .cons (m _ _ h) (t.deep m)
end B
namespace B
open PySem PySem.Spec L2 PyProof.Rows
section
set_option autoImplicit true
set_option relaxedAutoImplicit true
theorem qi_seq  {X : Cx} {tg l : Expr} {tl : TE} (hl : QE X l tl) : QI X tg l (iSeq X.K tl) := ⟨pi_seq hl.p⟩
end
def rEqD (K : PySem.W.Frag) : R2 := fun x y H Q => ∃ d d', Deep K H x d /\ Deep K H y d' /\ d.canLay0 = true /\ d'.canLay0 = true /\ d.depth ≤ 32 /\ Q (.bl (PyData.eqv d d')) H
theorem op_eqD {X : Cx} {k : Nat} (hr : Room k X.A) : OpR X (compareOp .Eq) (rEqD X.K) := by
 intro pins s σ H x y v u Q I rx ry h
 obtain ⟨d, d', hd, hd', c, c', dp, q⟩ := h
 obtain ⟨as, ra⟩ := Deep.reads I hd rx
 obtain ⟨bs, rb⟩ := Deep.reads I hd' ry
 exact SeqAt.compareEq_reads ra rb c c' (by have := hr.units; omega) ⟨.bl _, H, I, rfl, q⟩
def rIsiT (K : PySem.W.Frag) : List V -> Hp -> VK -> Prop := fun xs H Q => ∃ a ys n b, xs = [.ref a, .ty n] /\ SqT K H a ys /\ kitTT "tuple" n = some b /\ Q (.bl b) H
theorem call_isiT {X : Cx} : CallR X (.builtin "isinstance") (rIsiT X.K) := by
 intro pins s σ H xs us Q I r h
 obtain ⟨a, ys, n, b, rfl, hS, e, q⟩ := h
 obtain ⟨u, u2, rfl, rx, ry⟩ := vals2 r
 obtain rfl : u2 = Value.type n := ry
 cases (show u = Value.ref a from rx)
 obtain ⟨its, _, ⟨o, h1, h2, _⟩, _⟩ := I.tuple hS
 exact PySem.W.kia_one PySem.W.kitx_tuple I.kIn ⟨o, h1, h2⟩ (kit_of e) (fun z => nomatch z) fun tk => ⟨.bl b, H, I.tok tk, rfl, q⟩
section
set_option autoImplicit true
set_option relaxedAutoImplicit true
end
end B
namespace L2
open PySem PySem.Spec PyProof.Rows
section
variable {κ : Type} [DecidableEq κ]
def valV (kvs : List (κ × V)) (k : κ) : Option V := (kvs.find? fun kv => decide (kv.1 = k)).map (·.2)
def putK (kvs : List (κ × V)) (k : κ) (v : V) : List (κ × V) :=
 if (kvs.any fun kv => decide (kv.1 = k)) = true then kvs.map (fun kv => if kv.1 = k then (kv.1, v) else kv) else kvs ++ [(k, v)]
def dropK (kvs : List (κ × V)) (k : κ) : List (κ × V) := kvs.filter fun kv => decide (kv.1 ≠ k)
theorem valV_pos {p : κ × V} {r : List (κ × V)} {k : κ} (e : p.1 = k) : valV (p :: r) k = some p.2 := by simp [valV, List.find?_cons, e]
theorem valV_neg {p : κ × V} {r : List (κ × V)} {k : κ} (e : ¬ p.1 = k) : valV (p :: r) k = valV r k := by simp [valV, List.find?_cons, e]
theorem valV_any (k : κ) : ∀ kvs : List (κ × V), (kvs.any fun kv => decide (kv.1 = k)) = (valV kvs k).isSome
 | [] => rfl
 | p :: r => by
  rw [List.any_cons]
  by_cases e : p.1 = k
  ·simp only [valV_pos e, decide_eq_true e, Bool.true_or, Option.isSome_some]
  ·rw [valV_neg e, decide_eq_false e, Bool.false_or]; exact valV_any k r
theorem length_putK (kvs : List (κ × V)) (k : κ) (v : V) : (putK kvs k v).length ≤ kvs.length + 1 := by
 unfold putK
 split
 ·rw [List.length_map]; omega
 ·rw [List.length_append, List.length_cons, List.length_nil]; omega
theorem RelO.isSome_eq {o : Option V} {u : Option Value} (r : RelO o u) : o.isSome = u.isSome := by
 cases o with
 | none => cases u with
  | none => rfl
  | some _ => exact (show False from r).elim
 | some _ => cases u with
  | none => exact (show False from r).elim
  | some _ => rfl
theorem RelO.getD {o : Option V} {u : Option Value} {d : V} {d' : Value} (r : RelO o u) (rd : RelV d d') : RelV (o.getD d) (u.getD d') := by
 cases o with
 | none => cases u with
  | none => exact rd
  | some _ => exact (show False from r).elim
 | some _ => cases u with
  | none => exact (show False from r).elim
  | some _ => exact r
theorem KV.val {kvs : List (κ × V)} {vs : List (κ × Value)} (r : KV kvs vs) (k : κ) : RelO (valV kvs k) (valueAt vs k) := by
 unfold KV at r
 induction r with
 | nil => exact True.intro
 | @cons p q ps qs h t ih =>
  obtain ⟨h1, h2⟩ := h
  by_cases e : p.1 = k
  ·have e' : q.1 = k := h1.symm.trans e
   have b : valueAt (q :: qs) k = some q.2 := by simp [valueAt, List.find?_cons, e']
   rw [valV_pos e, b]; exact h2
  ·have e' : ¬ q.1 = k := fun z => e (h1.trans z)
   have b : valueAt (q :: qs) k = valueAt qs k := by simp [valueAt, List.find?_cons, e']
   rw [valV_neg e, b]; exact ih
theorem KV.any {kvs : List (κ × V)} {vs : List (κ × Value)} (r : KV kvs vs) (k : κ) : (kvs.any fun kv => decide (kv.1 = k)) = vs.any fun kv => decide (kv.1 = k) := by
 unfold KV at r
 induction r with
 | nil => rfl
 | cons h t ih => rw [List.any_cons, List.any_cons, ih, h.1]
theorem KV.repl {kvs : List (κ × V)} {vs : List (κ × Value)} (r : KV kvs vs) (k : κ) {y : V} {u : Value} (ry : RelV y u) :
  KV (kvs.map fun kv => if kv.1 = k then (kv.1, y) else kv) (vs.map fun kv => if kv.1 = k then (kv.1, u) else kv) := by
 unfold KV at r ⊢
 induction r with
 | nil => exact .nil
 | @cons p q ps qs h t ih =>
  rw [List.map_cons, List.map_cons]
  refine .cons ?_ ih
  obtain ⟨h1, h2⟩ := h
  by_cases e : p.1 = k
  ·rw [if_pos e, if_pos (h1.symm.trans e)]; exact ⟨h1, ry⟩
  ·rw [if_neg e, if_neg (fun z => e (h1.trans z))]; exact ⟨h1, h2⟩
theorem KV.put {kvs : List (κ × V)} {vs : List (κ × Value)} (r : KV kvs vs) (k : κ) {y : V} {u : Value} (ry : RelV y u) : KV (putK kvs k y) (stored vs k u) := by
 unfold putK stored
 rw [r.any k]
 by_cases e : (vs.any fun kv => decide (kv.1 = k)) = true
 ·rw [if_pos e, if_pos e]; exact r.repl k ry
 ·rw [if_neg e, if_neg e]; exact Paired.snoc r ⟨rfl, ry⟩
theorem KV.length {kvs : List (κ × V)} {vs : List (κ × Value)} (r : KV kvs vs) : kvs.length = vs.length := Paired.length r
end
theorem kV_is {P : Program} {w : World} {k : Key} {u : Value} (r : RelV (kV k) u) : (mixKind P w).is k u = true := by
 cases k with
 | inl i => obtain ⟨t, e⟩ := (show ∃ t, u = Value.int i t from r); subst e; exact mixKind_int P w i t
 | inr x => obtain ⟨t, e⟩ := (show ∃ t, u = Value.str x t from r); subst e; exact mixKind_str P w x t
theorem items_are {P : Program} {w : World} : ∀ {ks : List Key} {us : List Value}, Vals (ks.map kV) us -> ItemsAre (mixKind P w) ks us
 | [], _, r => by rw [List.map_nil] at r; cases r; exact .nil
 | k :: ks, _, r => by
  rw [List.map_cons] at r
  cases r with
  | cons h t => exact .cons (kV_is h) (items_are t)
abbrev KT (H : Hp) : List (List Key × V) -> List (List Key × Addr × Value) -> Prop := Paired fun p q => p.1 = q.1 /\ H q.2.1 = some (.tup (p.1.map kV)) /\ RelV p.2 q.2.2
theorem KT.val {H : Hp} {kvs : List (List Key × V)} {xs : List (List Key × Addr × Value)} (r : KT H kvs xs) (k : List Key) : RelO (valV kvs k) ((atKey xs k).map (·.2)) := by
 induction r with
 | nil => exact True.intro
 | @cons p q ps qs h t ih =>
  obtain ⟨h1, _, h2⟩ := h
  by_cases e : p.1 = k
  ·have e' : q.1 = k := h1.symm.trans e
   have b : atKey (q :: qs) k = some q.2 := by simp [atKey, List.find?_cons, e']
   rw [valV_pos e, b]; exact h2
  ·have e' : ¬ q.1 = k := fun z => e (h1.trans z)
   have b : atKey (q :: qs) k = atKey qs k := by simp [atKey, List.find?_cons, e']
   rw [valV_neg e, b]; exact ih
theorem KT.repl {H : Hp} {kvs : List (List Key × V)} {xs : List (List Key × Addr × Value)} (r : KT H kvs xs) (k : List Key) {y : V} {u : Value} (ry : RelV y u) :
  KT H (kvs.map fun kv => if kv.1 = k then (kv.1, y) else kv) (xs.map (putAt k u)) := by
 induction r with
 | nil => exact .nil
 | @cons p q ps qs h t ih =>
  rw [List.map_cons, List.map_cons]
  refine .cons ?_ ih
  obtain ⟨h1, h2, h3⟩ := h
  unfold putAt
  by_cases e : p.1 = k
  ·rw [if_pos e, if_pos (h1.symm.trans e)]; exact ⟨h1, h2, ry⟩
  ·rw [if_neg e, if_neg (fun z => e (h1.trans z))]; exact ⟨h1, h2, h3⟩
theorem KT.put {H : Hp} {kvs : List (List Key × V)} {xs : List (List Key × Addr × Value)} (r : KT H kvs xs) (k : List Key) {b : Addr} {y : V} {u : Value} (hb : H b = some (.tup (k.map kV))) (ry : RelV y u) :
  KT H (putK kvs k y) (storedH xs k b u) := by
 have e : (kvs.any fun kv => decide (kv.1 = k)) = (atKey xs k).isSome := by
  rw [valV_any, (r.val k).isSome_eq, Option.isSome_map]
 unfold putK storedH
 rw [e]
 by_cases q : (atKey xs k).isSome = true
 ·rw [if_pos q, if_pos q]; exact r.repl k ry
 ·rw [if_neg q, if_neg q]; exact Paired.snoc r ⟨rfl, hb, ry⟩
theorem KT.keeps {H H' : Hp} {kvs : List (List Key × V)} {xs : List (List Key × Addr × Value)} (r : KT H kvs xs) (ht : ∀ b ys, H b = some (.tup ys) -> H' b = some (.tup ys)) : KT H' kvs xs :=
 Paired.mapP r fun _ _ z => ⟨z.1, ht _ _ z.2.1, z.2.2⟩
section
variable {P : Program} {w : World} {H : Hp} {h : Heap} {a : Addr}
theorem rd_of {u : HO} (ok : HOk P w H h) (e : Rd H a u) : ObjOk P w H h a u := e.ok ok
theorem dk_rd {kvs : List (Key × V)} (ok : HOk P w H h) (e : Rd H a (.dK kvs)) : kvs.length ≤ sizeLine /\ (a == sysModules) = false /\ ∃ vs, KV kvs vs /\ h.DictOf (mixKind P w) a vs :=
 show ObjOk P w H h a (.dK kvs) from rd_of ok e
theorem dk_of {kvs : List (Key × V)} (ok : HOk P w H h) (e : H a = some (.dK kvs)) : kvs.length ≤ sizeLine /\ (a == sysModules) = false /\ ∃ vs, KV kvs vs /\ h.DictOf (mixKind P w) a vs := dk_rd ok (.inl e)
theorem key_of {ks : List Key} (ok : HOk P w H h) (e : H a = some (.tup (ks.map kV))) : (tupleKind (mixKind P w)).is h ks a := by
 obtain ⟨_, its, r, o, h1, h2, n, h3⟩ := (show ObjOk P w H h a (.tup (ks.map kV)) from ok a _ e)
 exact ⟨o, its.toArray, n, h1, h2, h3, by simpa using items_are r⟩
theorem dt_rd {kvs : List (List Key × V)} (ok : HOk P w H h) (e : Rd H a (.dT kvs)) : kvs.length ≤ sizeLine /\ (a == sysModules) = false ∧
  ∃ xs, KT H kvs xs /\ h.DictOfH (tupleKind (mixKind P w)) a xs := by
 obtain ⟨z, y, xs, r, o, es, ep, h1, h2, h3, h4, h5⟩ := (show ObjOk P w H h a (.dT kvs) from rd_of ok e)
 refine ⟨z, y, xs, r, o, es, ep, h1, h2, h3, h4, fun x hx => ?_, h5⟩
 have all : ∀ {l : List (List Key × V)} {m : List (List Key × Addr × Value)}, KT H l m -> ∀ x ∈ m, (tupleKind (mixKind P w)).is h x.1 x.2.1 := by
  intro l m q
  induction q with
  | nil => intro x hx; exact nomatch hx
  | @cons p q ps qs hq t ih =>
   intro x hx
   rcases List.mem_cons.mp hx with e | hx
   ·subst e
    exact key_of ok (by rw [← hq.1]; exact hq.2.1)
   ·exact ih x hx
 exact all r x hx
theorem dt_of {kvs : List (List Key × V)} (ok : HOk P w H h) (e : H a = some (.dT kvs)) : kvs.length ≤ sizeLine /\ (a == sysModules) = false ∧
  ∃ xs, KT H kvs xs /\ h.DictOfH (tupleKind (mixKind P w)) a xs := dt_rd ok (.inl e)
end
def DGet (H : Hp) (a : Addr) (y : V) (r : Option V) : Prop :=
 (∃ kvs k, Rd H a (.dK kvs) /\ y = kV k /\ r = valV kvs k) ∨ ∃ kvs k b, Rd H a (.dT kvs) /\ y = .ref b /\ H b = some (.tup (k.map kV)) /\ r = valV kvs k
def DPut (H : Hp) (a : Addr) (y v : V) (H' : Hp) : Prop :=
 (∃ kvs k, H a = some (.dK kvs) /\ y = kV k /\ kvs.length < sizeLine /\ H' = upd H a (.dK (putK kvs k v))) ∨
 ∃ kvs k b, H a = some (.dT kvs) /\ y = .ref b /\ H b = some (.tup (k.map kV)) /\ kvs.length < sizeLine /\ H' = upd H a (.dT (putK kvs k v))
theorem DGet.k {H : Hp} {a : Addr} {kvs : List (Key × V)} {k : Key} (e : H a = some (.dK kvs)) : DGet H a (kV k) (valV kvs k) := .inl ⟨kvs, k, .inl e, rfl, rfl⟩
theorem DPut.k {H : Hp} {a : Addr} {kvs : List (Key × V)} {k : Key} {v : V} (e : H a = some (.dK kvs)) (hl : kvs.length < sizeLine) : DPut H a (kV k) v (upd H a (.dK (putK kvs k v))) := .inl ⟨kvs, k, e, rfl, hl, rfl⟩
section
variable {X : Cx} {pins : List (Addr × Obj)} {σ : St} {H : Hp} {s : Shared} {a : Addr} {y v : V} {u r : Value} {o : Option V} {A : Around} {E : Value -> Shared -> Prop}
theorem Inv.big (I : Inv X pins σ H s) : sysModules < s.heap.objs.size := by
 have h : mainGlobals < s.heap.objs.size := (I.mod.glob.keeps I.bk).lt
 exact Nat.lt_trans (by decide) h
theorem d_write {h' : Heap} {t' : Nat} {ob : HO} (I : Inv X pins σ H s) (mu : Mut (H a)) (hs : Heap.SameBut a s.heap h') (he : ∃ q, h'.get? a = some q) (new : ObjOk X.prog X.w (upd H a ob) h' a ob) :
  Inv X pins σ (upd H a ob) { s with heap := h', toks := t' } :=
 I.write (x := a) (e := a) mu (.inl rfl) (fun b q hb z => (hs.2 b hb).trans z) he new
theorem dk_new {P : Program} {w : World} {H' : Hp} {h' : Heap} {kvs : List (Key × V)} {vs : List (Key × Value)} (z : kvs.length ≤ sizeLine) (hd : (a == sysModules) = false) (rel : KV kvs vs) (dd : h'.DictOf (mixKind P w) a vs) :
  ObjOk P w H' h' a (.dK kvs) := ⟨z, hd, vs, rel, dd⟩
theorem d_setItem {H' : Hp} {Q : Unit -> Shared -> Prop} (hu : A.units + 1 < cLine) (I : Inv X pins σ H s) (g : DPut H a y v H') (ry : RelV y u) (rv : RelV v r) (h : ∀ s', Inv X pins σ H' s' -> Q () s') :
  wpAny (model X.prog X.w) A (setItem (.ref a) u r) Q E s := by
 rcases g with ⟨kvs, k, e, ey, l, eH⟩ | ⟨kvs, k, b, e, ey, eb, l, eH⟩
 ·subst ey eH
  obtain ⟨z, hd, vs, rel, dd⟩ := dk_of I.hok e
  have hz : vs.length ≤ sizeLine := by rw [← rel.length]; exact z
  have hl : (putK kvs k v).length ≤ sizeLine := by have := length_putK kvs k v; omega
  refine wpAny_setItem_pairs (hsz := hz) (kV_is ry) dd fun h' dd' hs => h _ ?_
  have he : ∃ q, h'.get? a = some q := let ⟨q, _, _, hq, _⟩ := dd'; ⟨q, hq⟩
  exact d_write I (by rw [e]; exact True.intro) hs he (dk_new hl hd (rel.put k rv) dd')
 ·subst ey eH
  cases (show u = Value.ref b from ry)
  obtain ⟨z, hd, xs, rel, dd⟩ := dt_of I.hok e
  have hz : xs.length ≤ sizeLine := by rw [← Paired.length rel]; exact z
  have hl : (putK kvs k v).length ≤ sizeLine := by have := length_putK kvs k v; omega
  refine wpAny_setItem_heap (hsz := hz) (tupleKind_room_in1 hu) (key_of I.hok eb) dd fun h' dd' hs => h _ ?_
  obtain ⟨q, es, ep, hq, h2, h3, h4, _, h5⟩ := dd'
  refine d_write I (by rw [e]; exact True.intro) hs ⟨q, hq⟩ ⟨hl, hd, _, (rel.put k eb rv).keeps fun c ys ec => ?_, q, es, ep, hq, h2, h3, h4, h5⟩
  rw [upd_ne (ne_of ec e (fun z => nomatch z))]
  exact ec
end
section
variable {X : Cx} {pins : List (Addr × Obj)} {σ : St} {H : Hp} {s : Shared} {a : Addr} {kvs : List (Key × V)} {k : Key} {u : Value} {A : Around} {E : Value -> Shared -> Prop}
end
def NoSl (i : Expr) : Prop := ∀ ov iv, subscripted i false ov iv = operate [ov, iv] (getItem ov iv)
def tDGet (td ty : TE) : TE := fun σ H Q => td σ H fun x H1 => ty σ H1 fun y H2 => ∃ a v, x = .ref a /\ DGet H2 a y (some v) /\ Q v H2
def tDIn (ty td : TE) : TE := fun σ H Q => ty σ H fun y H1 => td σ H1 fun x H2 => ∃ a o, x = .ref a /\ DGet H2 a y o /\ Q (.bl o.isSome) H2
def tDNotIn (ty td : TE) : TE := fun σ H Q => ty σ H fun y H1 => td σ H1 fun x H2 => ∃ a o, x = .ref a /\ DGet H2 a y o /\ Q (.bl (!o.isSome)) H2
def sDPut (td ty tv : TE) : TS := fun D σ H => tv σ H fun v H1 => td σ H1 fun x H2 => ty σ H2 fun y H3 => ∃ a H4, x = .ref a /\ DPut H3 a y v H4 /\ D.nx σ H4
def sDAug (td ty tv : TE) (rd : V -> V -> Hp -> VK -> Prop) : TS := fun D σ H => td σ H fun x H1 => ty σ H1 fun y H2 => ∃ a v, x = .ref a /\ DGet H2 a y (some v) ∧
 tv σ H2 fun y2 H3 => rd v y2 H3 fun z H4 => ∃ H5, DPut H4 a y z H5 /\ D.nx σ H5
section
variable {X : Cx} {o i e value : Expr} {pos pos' tpos : Pos} {td ty tv : TE}
theorem ps_dput (hu : X.A.units + 1 < cLine) (ho : PE X o td) (hi : PE X i ty) (hv : PE X value tv) (hs : swapsWith value (some (.Subscript o i pos')) pos.line X.env = pure false) :
  PS X (.Assign [.Subscript o i pos'] value pos) (sDPut td ty tv) := by
 intro pins s σ H D I h
 refine wpAny_Assign_Subscript (thn (hv pins s σ H _ I h) fun r s1 ⟨v, H1, I1, rv, q1⟩ => thn (ho pins s1 σ H1 _ I1 q1) fun u s2 ⟨x, H2, I2, rx, q2⟩ => thn (hi pins s2 σ H2 _ I2 q2) fun iv s3 ⟨y, H3, I3, ry, a, H4, ex, g, q3⟩ => ?_) hs
 subst ex
 obtain rfl : u = Value.ref a := rx
 exact d_setItem hu I3 g ry rv fun s4 I4 => ⟨σ, H4, I4, q3⟩
end
theorem dk_empty {P : Program} {w : World} {H : Hp} (h : Heap) (hb : sysModules < h.objs.size) : ObjOk P w H (h.push { cls := .type "dict", data := .dict #[] }) h.objs.size (.dK []) :=
 ⟨Nat.zero_le _, beq_eq_false_iff_ne.mpr (Ne.symm (Nat.ne_of_lt hb)), [], .nil, Heap.DictOf.new h⟩
def tDNewK : TE := fun _ H Q => ∀ p, H p = none -> Q (.ref p) (upd H p (.dK []))
section
variable {X : Cx} {pos : Pos}
theorem pe_dnewK : PE X (.Dict [] [] pos) tDNewK := fun pins s σ H Q I h =>
 wpAny_Dict_empty ⟨.ref s.heap.objs.size, _, I.laid (a := s.heap.objs.size) (o := .dK []) (t' := s.toks) (fun _ _ q => Heap.get?_push_of_some _ q) (Nat.le_refl _) (dk_empty s.heap I.big), rfl, h _ (I.hok.fresh (Nat.le_refl _))⟩
end
def tPairs : List (TE × TE) -> St -> Hp -> (List (V × V) -> Hp -> Prop) -> Prop
 | [], _, H, Q => Q [] H
 | (tk, tv) :: r, σ, H, Q => tk σ H fun x H1 => tv σ H1 fun y H2 => tPairs r σ H2 fun ps H3 => Q ((x, y) :: ps) H3
abbrev VV : List (V × V) -> List (Value × Value) -> Prop := Paired fun p q => RelV p.1 q.1 /\ RelV p.2 q.2
def PPs (X : Cx) (pos : Pos) (keys : List (Option Expr)) (values : List Expr) (trs : List (TE × TE)) : Prop :=
 ∀ (pins : List (Addr × Obj)) (s : Shared) (σ : St) (H : Hp) (Q : List (V × V) -> Hp -> Prop), Inv X pins σ H s -> tPairs trs σ H Q →
  wpAny (model X.prog X.w) X.A (evalPairs (pairTrees keys values X.env pos)) (fun vs s' => ∃ ps H', Inv X pins σ H' s' /\ VV ps vs /\ Q ps H') X.xe s
def mergeK (kvs more : List (Key × V)) : List (Key × V) := more.foldl (fun acc kv => putK acc kv.1 kv.2) kvs
def tDisp (trs : List (TE × TE)) : TE := fun σ H Q => ∀ p, H p = none -> tPairs trs σ (upd H p (.dK [])) fun ps H2 => H2 p = some (.dK []) /\ ∃ kvs : List (Key × V), ps = kvs.map (fun kv => (kV kv.1, kv.2)) /\ kvs.length ≤ 15 /\ Q (.ref p) (upd H2 p (.dK (mergeK [] kvs)))
structure M1 (X : Cx) (o : Expr) (m : Str) (apos : Pos) (e : Expr) (cpos : Pos) : Prop where
 base : attributeBase o m X.env (eval o X.env) = eval o X.env
 few : ((backTo cpos (starEach [e] X.env)).all (fun x => !x.1) && (backToKw cpos (keywordEach [] X.env)).all (fun x => x.1.isSome)
  && decide (([e] : List Expr).length + ([] : List Keyword).length + (if ([] : List Keyword).isEmpty then 0 else 1) < 30)) = true
 line : (apos.endLine == cpos.line) = true
 trees : backTo cpos (starEach [e] X.env) = [(false, eval e X.env)]
structure M2 (X : Cx) (o : Expr) (m : Str) (apos : Pos) (e f : Expr) (cpos : Pos) : Prop where
 base : attributeBase o m X.env (eval o X.env) = eval o X.env
 few : ((backTo cpos (starEach [e, f] X.env)).all (fun x => !x.1) && (backToKw cpos (keywordEach [] X.env)).all (fun x => x.1.isSome)
  && decide (([e, f] : List Expr).length + ([] : List Keyword).length + (if ([] : List Keyword).isEmpty then 0 else 1) < 30)) = true
 line : (apos.endLine == cpos.line) = true
 trees : backTo cpos (starEach [e, f] X.env) = [(false, eval e X.env), (false, eval f X.env)]
def IsD (H : Hp) (a : Addr) : Prop := (∃ kvs, Rd H a (.dK kvs)) ∨ ∃ kvs, Rd H a (.dT kvs)
theorem isD_at {X : Cx} {pins : List (Addr × Obj)} {σ : St} {H : Hp} {s : Shared} {a : Addr} (I : Inv X pins σ H s) (d : IsD H a) :
  s.TypeIs (.ref a) "dict" /\ (∀ b, Value.ref a = .ref b -> ∃ ob, s.heap.get? b = some ob /\ ob.dict = none) /\ (a == sysModules) = false := by
 rcases d with ⟨kvs, e⟩ | ⟨kvs, e⟩
 ·obtain ⟨_, hd, vs, _, dd⟩ := dk_rd I.hok e
  refine ⟨dd.typeIs, fun b q => ?_, hd⟩
  cases q
  obtain ⟨ob, _, _, h1, h2, _⟩ := dd
  exact ⟨ob, h1, h2.2.1⟩
 ·obtain ⟨_, hd, xs, _, dd⟩ := dt_rd I.hok e
  refine ⟨dd.typeIs, fun b q => ?_, hd⟩
  cases q
  obtain ⟨ob, _, _, h1, h2, _⟩ := dd
  exact ⟨ob, h1, h2.2.1⟩
section
variable {X : Cx} {pins : List (Addr × Obj)} {σ : St} {H : Hp} {s : Shared} {a : Addr} {y d : V} {u r : Value} {o : Option V} {A : Around} {E : Value -> Shared -> Prop}
theorem d_get2 {Q : Value -> Shared -> Prop} (hu : A.units + 1 < cLine) (I : Inv X pins σ H s) (g : DGet H a y o) (ry : RelV y u) (rd : RelV d r) (h : ∀ w' s', Inv X pins σ H s' -> RelV (o.getD d) w' -> Q w' s') :
  wpAny (model X.prog X.w) A (call (.builtin "dict.get") [.ref a, u, r]) Q E s := by
 rcases g with ⟨kvs, k, e, ey, l⟩ | ⟨kvs, k, b, e, ey, eb, l⟩
 ·subst ey
  obtain ⟨z, hd, vs, rel, dd⟩ := dk_rd I.hok e
  refine call_meetsIn PySem.F.slot_dict_get dd.typeIs PySem.F.entry_dict_get (PySem.F.args_dict_get_3 _ _ _) (meets_dict_get_default (mixKind X.prog X.w) a (kV_is ry) hd r) ⟨_, dd.mapOf, h _ _ (I.tok _) ?_⟩
  rw [l]
  exact (rel.val k).getD rd
 ·subst ey
  cases (show u = Value.ref b from ry)
  obtain ⟨z, hd, xs, rel, dd⟩ := dt_rd I.hok e
  refine call_meetsIn PySem.F.slot_dict_get dd.typeIs PySem.F.entry_dict_get (PySem.F.args_dict_get_3 _ _ _) (meetsH_dict_get_default (tupleKind (mixKind X.prog X.w)) a b hd r) ⟨tupleKind_room_in1 hu, k, xs, key_of I.hok eb, dd, h _ _ (I.tok _) ?_⟩
  rw [l]
  exact (rel.val k).getD rd
end
def tDGet1 (td ty : TE) : TE := fun σ H Q => td σ H fun x H1 => ∃ a, x = .ref a /\ IsD H1 a /\ ty σ H1 fun y H2 => ∃ o, DGet H2 a y o /\ Q (o.getD .non) H2
def tDGet2 (td ty tx : TE) : TE := fun σ H Q => td σ H fun x H1 => ∃ a, x = .ref a /\ IsD H1 a /\ ty σ H1 fun y H2 => tx σ H2 fun z H3 => ∃ o, DGet H3 a y o /\ Q (o.getD z) H3
section
variable {X : Cx} {o e f : Expr} {apos cpos : Pos} {td ty tx : TE}
theorem pe_dget2 (hu : X.A.units + 1 < cLine) (ho : PE X o td) (he : PE X e ty) (hf : PE X f tx) (m : M2 X o "get" apos e f cpos) : PE X (.Call (.Attribute o "get" apos) [e, f] [] cpos) (tDGet2 td ty tx) := by
 intro pins s σ H Q I h
 refine wpAny_Call_method m.base m.few m.line PySem.F.plainAttrs_dict PySem.F.slot_dict_get PySem.F.type_dict_get (thn (ho pins s σ H _ I h) fun u s1 ⟨x, H1, I1, rx, a, ex, d, q1⟩ => ?_)
 subst ex
 obtain rfl : u = Value.ref a := rx
 obtain ⟨t1, t2, _⟩ := isD_at I1 d
 refine ⟨t1, t2, ?_⟩
 rw [m.trees]
 refine Calls.callWith_builtin rfl (Calls.evalArgs_plain (Calls.spliced_cons (thn (he pins s1 σ H1 _ I1 q1) fun iv s2 ⟨y, H2, I2, ry, q2⟩ =>
  Calls.spliced_cons (thn (hf pins s2 σ H2 _ I2 q2) fun fv s3 ⟨z, H3, I3, rz, ov, g, q3⟩ => Calls.spliced_nil ?_))))
 exact d_get2 hu I3 g ry rz fun w' s4 I4 rw' => ⟨_, H3, I4, rw', q3⟩
end
end L2
namespace B
open PySem PySem.Spec L2 PyProof.Rows
def tyD : PyData -> String
 | .none => "NoneType"
 | .bool _ => "bool"
 | .int _ => "int"
 | .str _ => "str"
 | .list _ => "list"
 | .tuple _ => "tuple"
 | .dict _ => "dict"
def rIsiD (K : PySem.W.Frag) : List V -> Hp -> VK -> Prop := fun xs H Q => ∃ v d n b, xs = [v, .ty n] /\ Deep K H v d /\ kitTT (tyD d) n = some b /\ Q (.bl b) H
theorem call_isiD {X : Cx} : CallR X (.builtin "isinstance") (rIsiD X.K) := by
 intro pins s σ H xs us Q I r h
 obtain ⟨v, d, n, b, rfl, hD, e, q⟩ := h
 cases hD with
 | non => exact call_isi pins s σ H _ us Q I r ⟨_, n, _, b, rfl, .non, e, q⟩
 | bl c => exact call_isi pins s σ H _ us Q I r ⟨_, n, _, b, rfl, .bl c, e, q⟩
 | int i => exact call_isi pins s σ H _ us Q I r ⟨_, n, _, b, rfl, .int i, e, q⟩
 | str x => exact call_isi pins s σ H _ us Q I r ⟨_, n, _, b, rfl, .str x, e, q⟩
 | @tup a ys ds hS hA => exact call_isiT pins s σ H _ us Q I r ⟨a, ys, n, b, rfl, hS, e, q⟩
 | @lst a ys ds hS hA =>
  obtain ⟨u, u2, rfl, rx, ry⟩ := vals2 r
  obtain rfl : u2 = Value.type n := ry
  cases (show u = Value.ref a from rx)
  obtain ⟨its, _, ⟨o, k, h1, h2, _⟩, _⟩ := I.list hS
  exact PySem.W.kia_one PySem.W.kitx_list I.kIn ⟨o, h1, h2⟩ (kit_of e) (fun z => nomatch z) fun tk => ⟨.bl b, H, I.tok tk, rfl, q⟩
def wholeD : PyData -> Bool
 | .int _ => true
 | _ => false
def tupD (n : Nat) : PyData -> Bool
 | .tuple xs => decide (xs.length = n)
 | _ => false
def ratD : PyData -> Bool
 | .tuple [.int a, .int b] => decide (1 ≤ b) && decide (Int.gcd a b = 1)
 | _ => false
def pairD : PyData -> Bool
 | .tuple [x, y] => ratD x && ratD y
 | _ => false
structure Sh (k n : Nat) (d : PyData) : Prop where
 sh : d.showable = true
 nd : d.hasDict = false
 dp : d.depth ≤ k
 sz : d.shown.length ≤ n
theorem Sh.mono {k n k' n' : Nat} {d : PyData} (h : Sh k n d) (hk : k ≤ k') (hn : n ≤ n') : Sh k' n' d := ⟨h.sh, h.nd, Nat.le_trans h.dp hk, Nat.le_trans h.sz hn⟩
theorem Sh.all {k n : Nat} : ∀ {ds : List PyData}, (∀ d ∈ ds, Sh k n d) -> PyData.showableAll ds = true /\ PyData.hasDictAll ds = false /\ PyData.depthAll ds ≤ k /\ ((PyData.shownAll ds).map (·.length)).sum ≤ n * ds.length /\ (PyData.shownAll ds).length = ds.length
 | [], _ => ⟨rfl, rfl, Nat.zero_le _, Nat.zero_le _, rfl⟩
 | d :: ds, h => by
  obtain ⟨a, b, c, e, f⟩ := Sh.all (ds := ds) fun x hx => h x (List.mem_cons_of_mem _ hx)
  have z := h d List.mem_cons_self
  refine ⟨?_, ?_, ?_, ?_, ?_⟩
  ·show (d.showable && PyData.showableAll ds) = true
   rw [z.sh, a]; rfl
  ·show (d.hasDict || PyData.hasDictAll ds) = false
   rw [z.nd, b]; rfl
  ·show max d.depth (PyData.depthAll ds) ≤ k
   exact Nat.max_le.mpr ⟨z.dp, c⟩
  ·show d.shown.length + ((PyData.shownAll ds).map (·.length)).sum ≤ n * (ds.length + 1)
   have := z.sz
   rw [Nat.mul_succ]; omega
  ·show (PyData.shownAll ds).length + 1 = ds.length + 1
   rw [f]
theorem Sh.tup {k n m N : Nat} {ds : List PyData} (h : ∀ d ∈ ds, Sh k n d) (hm : ds.length ≤ m) (hN : (n + 3) * m + 8 ≤ N) : Sh (k + 1) N (.tuple ds) := by
 obtain ⟨a, b, c, e, f⟩ := Sh.all h
 refine ⟨a, b, Nat.succ_le_succ c, ?_⟩
 show (tupleText (PyData.shownAll ds)).length ≤ N
 have q := tupleText_len_le (PyData.shownAll ds)
 have l : n * ds.length + 3 * ds.length ≤ (n + 3) * m := by
  rw [← Nat.add_mul]
  exact Nat.mul_le_mul_left _ hm
 omega
theorem Sh.shows {k n : Nat} {d : PyData} (h : Sh k n d) (hk : k ≤ 16) (hn : n ≤ 16777216) : Shows d := ⟨h.sh, h.nd, Nat.le_trans h.sz (Nat.le_trans hn (by decide)), Nat.le_trans h.dp hk⟩
mutual
theorem Deep.same {K : PySem.W.Frag} {H H' : Hp} (s : Same H H') : ∀ {v : V} {d : PyData}, Deep K H v d -> Deep K H' v d
 | _, _, .non => .non
 | _, _, .bl b => .bl b
 | _, _, .int i => .int i
 | _, _, .str x => .str x
 | _, _, .lst e t => .lst (s.seq e) (DeepAll.same s t)
 | _, _, .tup e t => .tup (Tst.same s _ _ e) (DeepAll.same s t)
theorem DeepAll.same {K : PySem.W.Frag} {H H' : Hp} (s : Same H H') : ∀ {vs : List V} {ds : List PyData}, DeepAll K H vs ds -> DeepAll K H' vs ds
 | _, _, .nil => .nil
 | _, _, .cons h t => .cons (Deep.same s h) (DeepAll.same s t)
end
end B
namespace B
open PySem PySem.Spec L2 PyProof.Rows
def rCatU (K : PySem.W.Frag) : R2 := fun x y H Q => ∃ a b xs ys, x = .ref a /\ y = .ref b /\ SqT K H a xs /\ SqT K H b ys /\ xs.length + ys.length ≤ sizeLine /\ ∀ p H', Same H H' -> SqT K H' p (xs ++ ys) -> Q (.ref p) H'
def rSlU (K : PySem.W.Frag) : V -> Option Int -> Option Int -> Hp -> VK -> Prop := fun x lo hi H Q => ∃ a xs, x = .ref a /\ SqT K H a xs /\ ∀ p H', Same H H' -> SqT K H' p (cutV xs lo hi) -> Q (.ref p) H'
theorem sl_tupU {X : Cx} : SlR X (rSlU X.K) := by
 intro pins s σ H x v vl vu lo hi sl Q I rx hs pl pu h
 obtain ⟨a, xs, rfl, hx, q⟩ := h
 refine sl_tupA pins s σ H _ v vl vu lo hi sl Q I rx hs pl pu ?_
 by_cases c : HT.sIx xs.length 0 lo = 0 /\ HT.sIx xs.length xs.length hi = xs.length
 ·refine .inl ⟨a, xs, rfl, hx, c.1, c.2, q a H (Same.refl H) ?_⟩
  have e : cutV xs lo hi = xs := by
   unfold cutV
   rw [c.1, c.2, List.drop_zero, Nat.sub_zero, List.take_length]
  rw [e]
  exact hx
 ·exact .inr ⟨a, xs, rfl, hx, c, fun p hp => q p _ (same_new hp _) (SqT.of upd_same)⟩
theorem cut_to {xs : List V} {n : Nat} (h : n ≤ xs.length) : cutV xs none (some (n : Int)) = xs.take n := by
 unfold cutV
 rw [HT.sIx_nat, HT.sIx_none, Nat.min_eq_left h, Nat.sub_zero, List.drop_zero]
def Stat (K : PySem.W.Frag) (s : Addr) : Prop := ∃ ns : List Int, ns.length ≤ 63 /\ ∀ H : Hp, SqL K H s (ns.map V.int)
structure Tape3 (K : PySem.W.Frag) (H : Hp) (t s : Addr) : Prop where
 ex : ∃ (ns : List Int) (p q : Int), H t = some (.lst [.ref s, .int p, .int q]) /\ ((Rd H s (.lst (ns.map V.int)) /\ s ≠ t) ∨ ∀ H', SqL K H' s (ns.map V.int)) /\ ns.length ≤ 63 /\ 0 ≤ p /\ 0 ≤ q
theorem rd_same {H H' : Hp} {a : Addr} {u : HO} (h : Rd H a u) (z : Same H H') : Rd H' a u := by
 rcases h with h | ⟨o, h⟩
 ·exact .inl (z _ _ h)
 ·exact .inr ⟨o, z _ _ h⟩
theorem rd_upl {H : Hp} {a l : Addr} {u o : HO} (h : Rd H a u) (n : l ≠ a) : Rd (upd H l o) a u := by
 unfold Rd
 rw [upd_ne n.symm]
 exact h
theorem rd_ne {H : Hp} {a l : Addr} {u : HO} (h : Rd H a u) (n : H l = none) : l ≠ a := fun e => by
 subst e
 rcases h with h | ⟨o, h⟩
 ·rw [n] at h; cases h
 ·rw [n] at h; cases h
theorem Tape3.lst {K : PySem.W.Frag} {H : Hp} {t s : Addr} (h : Tape3 K H t s) : ∃ xs, H t = some (.lst xs) := let ⟨_, _, _, e, _⟩ := h.ex; ⟨_, e⟩
theorem Tape3.same {K : PySem.W.Frag} {H H' : Hp} {t s : Addr} (h : Tape3 K H t s) (z : Same H H') : Tape3 K H' t s := by
 obtain ⟨ns, p, q, h1, h2, h3⟩ := h.ex
 refine ⟨ns, p, q, z _ _ h1, ?_, h3⟩
 rcases h2 with ⟨a, b⟩ | a
 ·exact .inl ⟨rd_same a z, b⟩
 ·exact .inr a
theorem Tape3.new {K : PySem.W.Frag} {H : Hp} {t s p : Addr} (h : Tape3 K H t s) (n : H p = none) (o : HO) : Tape3 K (upd H p o) t s := h.same (same_new n o)
theorem Tape3.off {K : PySem.W.Frag} {H : Hp} {t s D : Addr} (h : Tape3 K H t s) (n : H D = none) : D ≠ s ∨ Stat K s := by
 obtain ⟨ns, p, q, _, h2, h3, _⟩ := h.ex
 rcases h2 with ⟨a, _⟩ | a
 ·exact .inl (rd_ne a n)
 ·exact .inr ⟨ns, h3, a⟩
theorem Tape3.upl {K : PySem.W.Frag} {H : Hp} {t s l : Addr} (h : Tape3 K H t s) (a : l ≠ t) (b : l ≠ s ∨ Stat K s) (o : HO) : Tape3 K (upd H l o) t s := by
 obtain ⟨ns, p, q, h1, h2, h3⟩ := h.ex
 rcases b with b | ⟨ms, m3, m⟩
 ·refine ⟨ns, p, q, by rw [upd_ne a.symm]; exact h1, ?_, h3⟩
  rcases h2 with ⟨c, d⟩ | c
  ·exact .inl ⟨rd_upl c b, d⟩
  ·exact .inr c
 ·exact ⟨ms, p, q, by rw [upd_ne a.symm]; exact h1, .inr m, m3, h3.2⟩
def sp_tape3 (K : PySem.W.Frag) : Sp := fun vs H Q _ => ∃ (a : Addr) (ns : List Int), vs = [.ref a] /\ SqL K H a (ns.map V.int) /\ ns.length ≤ 63 /\ ∀ (t : Addr) (H' : Hp), Same H H' -> H t = none -> Tape3 K H' t a -> Q (.ref t) H'
def sp_draw3 (K : PySem.W.Frag) : Sp := fun vs H Q _ => ∃ (t s : Addr) (m : Int), vs = [.ref t, .int m] /\ Tape3 K H t s /\ 0 < m /\ m < 1073741824 /\ ∀ (r : Int) (xs : List V), 0 ≤ r -> r < m -> Tape3 K (upd H t (.lst xs)) t s -> Q (.int r) (upd H t (.lst xs))
theorem Tape3.mk3 {K : PySem.W.Frag} {H : Hp} {t a : Addr} {ns : List Int} (hS : SqL K H a (ns.map V.int)) (hl : ns.length ≤ 63) (ht : H t = none) : Tape3 K (upd H t (.lst [.ref a, .int 0, .int 0])) t a := by
 refine ⟨ns, 0, 0, upd_same, ?_, hl, Int.le_refl _, Int.le_refl _⟩
 rcases hS with h | h
 ·exact .inl ⟨rd_upl h (rd_ne h ht), (rd_ne h ht).symm⟩
 ·exact .inr fun _ => .inr h
theorem comp_rng3 {α : Type} {K : PySem.W.Frag} {H : Hp} {D t s : Addr} {n : Nat} {P : Hp -> V -> α -> Prop} {Ok : α -> Prop} {src : List (Option Nat)} {σ : L2.St} {g : TG} {tt : TT} {te : TE} {Q : Hp -> Prop}
  (mono : ∀ H H' v d, Tst K H H' -> P H v d -> P H' v d) (hD : H D = none) (T : Tape3 K H t s) (hn : n ≤ 1000)
  (turn : ∀ (i : Nat) (H' : Hp), i < n -> Tst K H H' -> Tape3 K H' t s -> ∀ (R : VK) (E : Hp -> Prop), (∀ v d H'', Step t H' H'' -> Tape3 K H'' t s -> P H'' v d -> Ok d -> R v H'') →
   g (.int (0 + (i : Int))) (frees src σ) H' fun σ2 H2 => Ext (frees src σ) σ2 /\ tt σ2 H2 fun ok H3 => if ok = true then te σ2 H3 R else E H3)
  (fin : ∀ H' ys ds, Step t H H' -> Tape3 K H' t s -> H' D = some (.lst ys) -> Als (P H') ys ds -> ds.length = n -> (∀ d ∈ ds, Ok d) -> Q H') :
  ∃ W : Nat -> Nat -> List V -> Hp -> Prop, (∃ m, W 0 m [] (upd H D (.lst []))) /\ ∀ i m ys H, W i m ys H -> ((Itr 0 n).stop i H /\ Q H) ∨ ((Itr 0 n).go i H /\ ∀ x H', (Itr 0 n).yld i H x H' →
   g x (frees src σ) H' fun σ2 H2 => Ext (frees src σ) σ2 /\ tt σ2 H2 fun ok H3 =>
    if ok = true then te σ2 H3 fun y H4 => H4 D = some (.lst ys) /\ ys.length < sizeLine /\ ∃ m', m' < m /\ W (i + 1) m' (ys ++ [y]) (upd H4 D (.lst (ys ++ [y]))) else ∃ m', m' < m /\ W (i + 1) m' ys H3) := by
 have nt : D ≠ t := fun z => by subst z; obtain ⟨_, e⟩ := T.lst; rw [hD] at e; cases e
 have ns := T.off hD
 refine ⟨fun i m ys H' => i ≤ n /\ m = n - i /\ H' D = some (.lst ys) /\ Tape3 K H' t s /\ (∀ b o, b ≠ t -> H b = some o -> H' b = some o) /\ ∃ ds, Als (P H') ys ds /\ ds.length = i /\ ∀ d ∈ ds, Ok d, ⟨_, Nat.zero_le _, rfl, upd_same, T.new hD _, fun b o _ q => same_new hD _ _ _ q, [], .nil, rfl, fun d hd => by cases hd⟩, ?_⟩
 rintro i m ys H1 ⟨hi, rfl, d1, T1, kp, ds, als, hlen, ok⟩
 by_cases hix : i < n
 ·refine .inr ⟨hix, ?_⟩
  rintro x H2 ⟨rfl, rfl⟩
  refine turn i _ hix (Tst.step (K := K) ⟨kp, T.lst, T1.lst⟩) T1 _ _ fun v d H3 S3 T3 p3 o3 => ?_
  have d3 : H3 D = some (.lst ys) := S3.keep _ _ nt d1
  have tm : Tst K H2 (upd H3 D (.lst (ys ++ [v]))) := (Tst.step S3).trans (Tst.up d3 _)
  refine ⟨d3, small1000 (by rw [als.len]; omega), n - (i + 1), by omega, hix, rfl, upd_same, T3.upl nt ns _, fun b o nb q => ?_, ds ++ [d], (als.mono fun v d p => mono _ _ _ _ tm p).snoc (mono _ _ _ _ (Tst.up d3 _) p3), by rw [List.length_append, hlen]; rfl, fun z hz => ?_⟩
  ·rw [upd_ne (ne_of_none q hD)]
   exact S3.keep _ _ nb (kp b o nb q)
  ·rcases List.mem_append.mp hz with h | h
   ·exact ok z h
   ·rw [List.mem_singleton] at h; rw [h]; exact o3
 ·have e : i = n := by omega
  subst e
  exact .inl ⟨Nat.le_refl _, fin H1 ys ds ⟨kp, T.lst, T1.lst⟩ T1 d1 als hlen ok⟩
section
set_option autoImplicit true
set_option relaxedAutoImplicit true
end
theorem bools_at : ∀ {bs : List Bool} {us : List Value}, Vals (bs.map V.bl) us -> ∀ {i : Nat} {v : Value}, us[i]? = some v -> v = .bool (bs.getD i true)
 | [], _, .nil, i, v, e => by cases e
 | b :: bs, _, .cons r t, 0, v, e => by
  rw [List.getElem?_cons_zero] at e
  cases e
  exact (show _ = Value.bool b from r)
 | b :: bs, _, .cons r t, i + 1, v, e => by
  rw [List.getElem?_cons_succ] at e
  exact bools_at t e
theorem all_range : ∀ (bs : List Bool), (List.range bs.length).all (fun i => bs.getD i true) = bs.all id
 | [] => rfl
 | b :: bs => by
  rw [List.length_cons, List.range_succ_eq_map, List.all_cons, List.all_map, List.all_cons]
  have := all_range bs
  show (b && (List.range bs.length).all (fun i => bs.getD i true)) = (id b && bs.all id)
  rw [this]; rfl
theorem call_allL {X : Cx} (hc : X.calm = true) : CallR X (.builtin "all") (fun xs H Q => ∃ (p : Addr) (bs : List Bool), xs = [.ref p] /\ SqL X.K H p (bs.map V.bl) /\ Q (.bl (bs.all id)) H) := by
 intro pins s σ H xs us Q I r h
 obtain ⟨p, bs, rfl, hq, q⟩ := h
 obtain ⟨u, rfl, rx⟩ := vals1 r
 cases rx
 obtain ⟨its, rv, pl, hz⟩ := I.list hq
 have ne : p ≠ s.heap.objs.size := by
  obtain ⟨o, ho, _⟩ := pl.isList
  exact Nat.ne_of_lt (Heap.lt_size ho)
 have hlen : its.toArray.size = bs.length := by rw [List.size_toArray, ← rv.length, List.length_map]
 refine call_all_walk (wpAny_pyIter_list pl.isList ?_)
 refine ⟨_, _, _, _, _, _, fun i => bs.getD i true, rfl, Walks.list (A := X.A.in1) (I.ok.hd hc) _ p ne its.toArray, ⟨⟨_, Heap.get?_push_size _ rfl, rfl, rfl⟩, pl.isList.push _⟩, fun i v s' Q' E' hv hQ => ?_, fun h' tk hk => ?_⟩
 ·have e := bools_at rv (i := i) (v := v) (by simpa using hv)
  subst e
  exact wpAny_truthy_bool hQ
 ·rw [hlen, all_range]
  refine ⟨.bl _, H, I.kept (t' := tk) fun b o e => hk b o (fun z => ?_) (Heap.get?_push_of_some _ e), rfl, q⟩
  rw [List.mem_singleton.mp z] at e
  exact absurd (Heap.lt_size e) (Nat.lt_irrefl _)
section
variable {prog : Program} {w : World} {A : Around} {E : Value -> Shared -> Prop} {s : Shared}
end
def upTo (n : Nat) : List Int := (List.range n).map fun i : Nat => (i : Int)
theorem vals_range {acc : Array Value} {n : Nat} (h : ItemsOf (fun i v => ∃ t, v = .int ((0 : Int) + i * 1) t) acc n) : Vals ((upTo n).map V.int) acc.toList := by
 obtain ⟨hl, ha⟩ := h
 have key : ∀ m, m ≤ n -> Vals ((upTo m).map V.int) (acc.toList.take m) := by
  intro m
  induction m with
  | zero => intro _; rw [List.take_zero]; exact .nil
  | succ m ih =>
   intro hm
   have hlt : m < acc.size := by omega
   have e1 : acc.toList.take (m + 1) = acc.toList.take m ++ [acc[m]] := by
    rw [List.take_add_one]; simp [hlt]
   have e2 : (upTo (m + 1)).map V.int = (upTo m).map V.int ++ [V.int m] := by
    unfold upTo; rw [List.range_succ]; simp
   rw [e1, e2]
   refine (ih (by omega)).append (.cons ?_ .nil)
   obtain ⟨t, e⟩ := ha m acc[m] (by simp [hlt])
   exact ⟨t, by rw [e]; simp⟩
 have := key n (Nat.le_refl _)
 rwa [List.take_of_length_le (by simp [hl])] at this
def tRng1 (ta : TA) : TE := fun σ H Q => ta σ H fun vs H1 => ∃ j : Int, vs = [.int j] /\ ∀ p, H1 p = none -> Q (.ref p) (upd H1 p (.rng 0 j))
theorem pe_rng1 {X : Cx} {a : Expr} {ta : TA} {p pos : Pos} (hg : Gl X "range") (hm : X.mg "range" = none) (ha : PA X [a] ta) (hs : starEach [a] X.env = [(false, eval a X.env)] := by rfl) :
  PE X (.Call (.Name "range" p) [a] [] pos) (tRng1 ta) := by
 intro pins s σ H Q I h
 refine Call_ (ld_blt I hg hm boot_range (PyProof.Rows.callWith_type1 (thn (ha pos pins s σ H _ I h) fun us s1 ⟨vs, H1, I1, r1, q1⟩ => ?_) hs rfl))
 obtain ⟨j, e, q⟩ := q1
 subst e
 obtain ⟨u, rfl, t, rfl⟩ := vals1 r1
 refine call_range_1 ?_
 exact ⟨.ref s1.heap.objs.size, _, I1.laid (o := .rng 0 j) (fun b o e => Heap.get?_push_of_some _ e) (Nat.le_refl _) ⟨_, t, _, Heap.get?_push_size _ rfl⟩, rfl, q _ (I1.hok.fresh (Nat.le_refl _))⟩
theorem size_up (n : Nat) : Builtin.Range.rangeSize 0 n 1 = n := by rw [rangeSize_one]; split <;> omega
def Itd (hi : Int) (n : Nat) : It := ⟨fun i _ => i < n, fun i H x H' => H' = H /\ x = .int (hi - i), fun i _ => n ≤ i⟩
def iRngD (ta : TA) : TI := fun σ H R => ta σ H fun vs H1 => ∃ i j : Int, vs = [.int i, .int j, .int (-1)] /\ (-1000 ≤ i /\ i ≤ 1000 /\ -1000 ≤ j /\ j ≤ 1000) /\ R (Itd i (i - j).toNat) H1
section
set_option autoImplicit true
set_option relaxedAutoImplicit true
theorem qe_rng1  {X : Cx} {a : Expr} {ta : TA} {p pos : Pos} (hg : Gl X "range") (hm : X.mg "range" = none) (ha : QA X [a] ta) (hs : starEach [a] X.env = [(false, eval a X.env)] := by rfl) : QE X (.Call (.Name "range" p) [a] [] pos) (tRng1 ta) := ⟨pe_rng1 hg hm ha.p hs⟩
end
structure Wlk (J : It) (H : Hp) (n : Nat) (P : Nat -> V -> Hp -> Prop) : Prop where
 go : ∀ i H', i < n -> Same H H' -> J.go i H'
 stop : ∀ H', Same H H' -> J.stop n H'
 yld : ∀ i H' x H'', i < n -> Same H H' -> J.yld i H' x H'' -> Same H' H'' /\ P i x H''
theorem wlk_lst {K : PySem.W.Frag} {H : Hp} {a : Addr} {xs : List V} (h : SqL K H a xs) : Wlk (Itl K a) H xs.length (fun i x _ => xs[i]? = some x) where
 go := fun i H' hi s => ⟨xs, _, s.seq h, List.getElem?_eq_getElem hi⟩
 stop := fun H' s => ⟨xs, s.seq h, Nat.le_refl _⟩
 yld := fun i H' x H'' hi s y => by obtain ⟨rfl, hy⟩ := y; exact ⟨Same.refl _, hy xs (s.seq h)⟩
theorem wlk_tup {K : PySem.W.Frag} {H : Hp} {a : Addr} {xs : List V} (h : SqT K H a xs) : Wlk (Itt K a) H xs.length (fun i x _ => xs[i]? = some x) where
 go := fun i H' hi s => ⟨xs, _, Tst.same s _ _ h, List.getElem?_eq_getElem hi⟩
 stop := fun H' s => ⟨xs, Tst.same s _ _ h, Nat.le_refl _⟩
 yld := fun i H' x H'' hi s y => by obtain ⟨rfl, hy⟩ := y; exact ⟨Same.refl _, hy xs (Tst.same s _ _ h)⟩
theorem wlk_rng {H : Hp} {lo : Int} {n : Nat} : Wlk (Itr lo n) H n (fun i x _ => x = .int (lo + i)) where
 go := fun i H' hi s => hi
 stop := fun H' s => Nat.le_refl _
 yld := fun i H' x H'' hi s y => by obtain ⟨rfl, rfl⟩ := y; exact ⟨Same.refl _, rfl⟩
theorem comp_ix {J : It} {H : Hp} {D : Addr} {n : Nat} {P : Nat -> V -> Hp -> Prop} (w : Wlk J H n P) (c : Nat -> Bool) (f : Nat -> V) {src : List (Option Nat)} {σ : L2.St} {g : TG} {tt : TT} {te : TE} {Q : Hp -> Prop} (hD : H D = none) (hn : n ≤ 1000)
  (turn : ∀ (i : Nat) (x : V) (H' : Hp), i < n -> Same H H' -> P i x H' -> ∀ (R : VK) (E : Hp -> Prop), (c i = true -> ∀ H'', Same H' H'' -> R (f i) H'') -> (c i = false -> ∀ H'', Same H' H'' -> E H'') →
   g x (frees src σ) H' fun σ2 H2 => Ext (frees src σ) σ2 /\ tt σ2 H2 fun ok H3 => if ok = true then te σ2 H3 R else E H3)
  (fin : ∀ H', Same H H' -> H' D = some (.lst (((List.range n).filter c).map f)) -> Q H') :
  ∃ W : Nat -> Nat -> List V -> Hp -> Prop, (∃ m, W 0 m [] (upd H D (.lst []))) /\ ∀ i m ys H, W i m ys H -> (J.stop i H /\ Q H) ∨ (J.go i H /\ ∀ x H', J.yld i H x H' →
   g x (frees src σ) H' fun σ2 H2 => Ext (frees src σ) σ2 /\ tt σ2 H2 fun ok H3 =>
    if ok = true then te σ2 H3 fun y H4 => H4 D = some (.lst ys) /\ ys.length < sizeLine /\ ∃ m', m' < m /\ W (i + 1) m' (ys ++ [y]) (upd H4 D (.lst (ys ++ [y]))) else ∃ m', m' < m /\ W (i + 1) m' ys H3) := by
 refine ⟨fun i m ys H' => i ≤ n /\ m = n - i /\ ys = ((List.range i).filter c).map f /\ Same H H' /\ H' D = some (.lst ys), ⟨_, Nat.zero_le _, rfl, rfl, same_new hD _, upd_same⟩, ?_⟩
 rintro i m ys H1 ⟨hi, rfl, rfl, s1, d1⟩
 by_cases hix : i < n
 ·refine .inr ⟨w.go i H1 hix s1, fun x H2 y => ?_⟩
  obtain ⟨s2, p⟩ := w.yld i H1 x H2 hix s1 y
  have d2 := s2 _ _ d1
  have len : (((List.range i).filter c).map f).length ≤ i := by
   rw [List.length_map]
   exact Nat.le_trans (List.length_filter_le _ _) (by rw [List.length_range]; exact Nat.le_refl _)
  refine turn i x H2 hix (s1.trans s2) p _ _ (fun hc H3 s3 => ?_) fun hc H3 s3 => ?_
  ·have d3 := s3 _ _ d2
   refine ⟨d3, small1000 (by omega), n - (i + 1), by omega, hix, rfl, ?_, fun b o q => ?_, upd_same⟩
   ·rw [List.range_succ, List.filter_append, List.map_append]
    simp [hc]
   ·rw [upd_ne (ne_of_none q hD)]
    exact s3 _ _ (s2 _ _ (s1 _ _ q))
  ·refine ⟨n - (i + 1), by omega, hix, rfl, ?_, (s1.trans s2).trans s3, s3 _ _ d2⟩
   rw [List.range_succ, List.filter_append, List.map_append]
   simp [hc]
 ·have e : i = n := by omega
  subst e
  exact .inl ⟨w.stop H1 s1, fin H1 s1 d1⟩
theorem by_place {α β : Type} (d : α) (p : α -> Bool) (f : α -> β) : ∀ l : List α, ((List.range l.length).filter fun i => p (l.getD i d)).map (fun i => f (l.getD i d)) = (l.filter p).map f
 | [] => rfl
 | x :: l => by
  have ih := by_place d p f l
  rw [List.length_cons, List.range_succ_eq_map, List.filter_cons, List.filter_cons]
  have e : (((List.range l.length).map Nat.succ).filter fun i => p ((x :: l).getD i d)).map (fun i => f ((x :: l).getD i d)) = (l.filter p).map f := by
   rw [List.filter_map, List.map_map]
   exact ih
  show (if p x = true then _ else _ : List Nat).map _ = _
  cases hp : p x with
  | true =>
   simp only [if_true, List.map_cons]
   rw [e]; rfl
  | false =>
   simp only [Bool.false_eq_true, if_false]
   exact e
theorem getD_of {α : Type} {l : List α} {i : Nat} {x : α} (d : α) (h : l[i]? = some x) : l.getD i d = x := by rw [List.getD_eq_getElem?_getD, h]; rfl
section
variable {prog : Program} {w : World} {A : Around} {E : Value -> Shared -> Prop} {s : Shared}
end
theorem call_listR {X : Cx} (hc : X.calm = true) : CallR X (.type "list") (fun xs H Q => ∃ p, ∃ n : Nat, xs = [.ref p] /\ H p = some (.rng 0 n) /\ n ≤ 1000 /\ ∀ l, H l = none -> Q (.ref l) (upd H l (.lst ((upTo n).map V.int)))) := by
 intro pins s σ H xs us Q I r h
 obtain ⟨p, n, rfl, hp, hn, q⟩ := h
 obtain ⟨u, rfl, rx⟩ := vals1 r
 cases rx
 obtain ⟨t, u, w, e⟩ := (show ObjOk X.prog X.w H s.heap p (.rng 0 n) from I.hok p _ hp)
 refine call_list_range (I.ok.hd hc) (show IsRange s.heap p 0 n 1 t u w from e) (small_one (by omega) (by omega) (by omega) (by omega)) (size_up n) (by omega) fun h' tk acc c' hk hS hi => ?_
 have rv := vals_range hi
 have hl : (upTo n).length = n := by unfold upTo; simp
 have I2 : Inv X pins σ (upd H s.heap.objs.size (.lst ((upTo n).map V.int))) { s with heap := h', toks := tk } :=
  I.laid (t' := tk) hk (Nat.le_refl _) (show ObjOk X.prog X.w _ _ _ (.lst ((upTo n).map V.int)) from ⟨by rw [List.length_map, hl, sizeLine_eq]; omega, acc.toList, c', rv, by simpa using hS⟩)
 exact ⟨.ref s.heap.objs.size, _, I2, rfl, q _ (I.hok.fresh (Nat.le_refl _))⟩
theorem op_in_seqK {X : Cx} {K : PySem.W.Frag} (hK : X.K = K) : OpR X (compareOp .In) (rIn K false) := hK ▸ op_in_seq
theorem inV_int (t : Nat) (ls : List Nat) : inV (.int t) (ls.map fun n : Nat => V.int n) = ls.contains t := by
 unfold inV
 rw [List.any_map]
 induction ls with
 | nil => rfl
 | cons a r ih =>
  rw [List.any_cons, List.contains_cons, ih]
  congr 1
  show decide (((a : Nat) : Int) = (t : Nat)) = (t == a)
  by_cases h : t = a
  ·subst h; simp
  ·rw [beq_eq_false_iff_ne.mpr h]
   exact decide_eq_false (by omega)
def Lays (ds : List PyData) : Prop := ∀ e ∈ ds, e.canLay0 = true /\ e.depth ≤ 32
def rInD (K : PySem.W.Frag) : R2 := fun x y H Q => ∃ p xs ds d, y = .ref p /\ SqL K H p xs /\ DeepAll K H xs ds /\ Lays ds /\ Deep K H x d /\ d.canLay0 = true /\ PyData.eqv d d = true /\ Q (.bl (ds.any fun e => PyData.eqv e d)) H
def rNotInD (K : PySem.W.Frag) : R2 := fun x y H Q => ∃ p xs ds d, y = .ref p /\ SqL K H p xs /\ DeepAll K H xs ds /\ Lays ds /\ Deep K H x d /\ d.canLay0 = true /\ PyData.eqv d d = true /\ Q (.bl (!ds.any fun e => PyData.eqv e d)) H
def rInDT (K : PySem.W.Frag) : R2 := fun x y H Q => ∃ p xs ds d, y = .ref p /\ SqT K H p xs /\ DeepAll K H xs ds /\ Lays ds /\ Deep K H x d /\ d.canLay0 = true /\ PyData.eqv d d = true /\ Q (.bl (ds.any fun e => PyData.eqv e d)) H
def rIndexD (K : PySem.W.Frag) : V -> List V -> Hp -> VK -> Prop := fun x vs H Q => ∃ p xs ds w d, x = .ref p /\ vs = [w] /\ SqL K H p xs /\ DeepAll K H xs ds /\ Lays ds /\ Deep K H w d /\ d.canLay0 = true /\ PyData.eqv d d = true /\ (∃ e ∈ ds, PyData.eqv e d = true) ∧
 ∀ (j : Nat) (e : PyData), ds[j]? = some e -> PyData.eqv e d = true -> (∀ m f, m < j -> ds[m]? = some f -> PyData.eqv f d = false) -> Q (.int j) H
def rInsert : V -> List V -> Hp -> VK -> Prop := fun x vs H Q => ∃ (l : Addr) (xs : List V) (j : Nat) (y : V), x = .ref l /\ vs = [.int j, y] /\ H l = some (.lst xs) /\ j ≤ xs.length /\ xs.length < sizeLine /\ Q .non (upd H l (.lst (xs.take j ++ y :: xs.drop j)))
mutual
def ibd : PyData -> Bool
 | .int i => decide (i.natAbs < 2 ^ 230)
 | .tuple ds => ibdAll ds
 | .list ds => ibdAll ds
 | .dict _ => false
 | _ => true
def ibdAll : List PyData -> Bool
 | [] => true
 | d :: ds => ibd d && ibdAll ds
end
structure Gd (k n : Nat) (d : PyData) : Prop where
 sh : Sh k n d
 lay : d.canLay0 = true
 bd : ibd d = true
def decR : PyData -> R
 | .tuple [.int a, .int b] => (a, b)
 | _ => (0, 1)
def decRow : PyData -> R × R
 | .tuple [x, y] => (decR x, decR y)
 | _ => rowD
end B
namespace B
open PySem PySem.Spec L2 PyProof.Rows
def tCut (t : TS) : TS := fun D σ H => ∃ M : L2.St -> Hp -> Prop, t { D with nx := M } σ H /\ ∀ σ' H', M σ' H' -> D.nx σ' H'
def tChain3 (r r' r'' : R2) (ta tb tc td : TE) : TE := fun σ H Q => ta σ H fun x H1 => tb σ H1 fun y H2 => r x y H2 fun z H3 => ∃ k, z = .bl k ∧
 (if k = true then tc σ H3 fun w' H4 => r' y w' H4 fun z' H5 => ∃ k', z' = .bl k' /\ (if k' = true then td σ H5 fun u' H6 => r'' w' u' H6 Q else Q (.bl false) H5) else Q (.bl false) H3)
section
variable {prog : Program} {w : World} {A : Around} {E : Value -> Shared -> Prop} {s : Shared}
end
def tRev (K : PySem.W.Frag) (te : TE) : TE := fun σ H Q => te σ H fun x H1 => ∃ a xs, x = .ref a /\ SqT K H1 a xs /\ ∀ p, H1 p = none -> Q (.ref p) (upd H1 p (.tup xs.reverse))
end B
namespace B
end B
namespace B
open PySem PySem.Spec L2 PyProof.Rows
def Ris (zs : List R) : Prop := zs.Pairwise fun a b => lessR a b = true
end B
namespace L2
open PySem PySem.Spec PyProof.Rows
structure RoomM (k : Nat) (A : Around) : Prop where
 dp : A.depth + 3 * k + 5 < recursionLimit
 un : A.units + 16 * k + 200 < cLine
 gd : A.guards = some []
structure FnOkM (P : Program) (w : World) (K : PySem.W.Frag) (mg : Str -> Option Value) (base : Heap) (CX : CXT) (k : Nat) (f : Addr) (fd : FuncData) (ps : List Str) (sp : Sp) : Prop where
 len : ∀ vs H Q E, sp vs H Q E -> vs.length = ps.length
 run : ∀ (A : Around) (outer : List Env) (s : Shared) (H : Hp) (args : Args) (us : List Value) (vs : List V) (Q : VK) (E : XK), RoomM k A -> Env0 P w K mg base A outer s H -> BindsTo s fd args (ps.zip us) -> Vals vs us -> sp vs H Q E →
  codeAny (model P w) A (.call (.ref f) args) (CR CX outer P w H s Q E) s
def cxM (CX : CXT) (P : Program) (w : World) (K : PySem.W.Frag) (mg : Str -> Option Value) (base : Heap) (N : List Str) (qual : Str) (scope : Scope) (f : Addr) (cd : Value) (A : Around) (outer : List Env) (s : Shared) (H : Hp) (E : XK) : Cx := { cxOf CX P w K mg base N qual scope f cd A outer s H E with calm := false }
section
variable {X : Cx} {CX : CXT} {k : Nat} {f C : Addr} {fd : FuncData} {ps : List Str} {sp : Sp} {dvs : List V} {ds : List Value} {E : XK} {x m : Str} {p pos apos : Pos} {e o : Expr} {es : List Expr} {ta : TE} {t : TA}
end
section
variable {P : Program} {w : World} {K : PySem.W.Frag} {mg : Str -> Option Value} {base : Heap}
end
end L2
namespace B
open PySem PySem.Spec L2 PyProof.Rows
section
set_option autoImplicit true
set_option relaxedAutoImplicit true
end
def Iti (d : Addr) (ob : Obj) (kvs : List (Key × V)) : It :=
 ⟨fun i H => H d = some (.frz ob (.dK kvs)) /\ i < kvs.length,
  fun i H x H' => ∃ p k v, H p = none /\ x = .ref p /\ kvs[i]? = some (k, v) /\ H' = upd H p (.tup [kV k, v]),
  fun i H => H d = some (.frz ob (.dK kvs)) /\ kvs.length ≤ i⟩
theorem KV.get : ∀ {kvs : List (Key × V)} {vs : List (Key × Value)}, KV kvs vs -> ∀ {i : Nat} {k : Key} {v : V}, kvs[i]? = some (k, v) -> ∃ u, vs[i]? = some (k, u) /\ RelV v u
 | _, _, .nil, i, k, v, h => by simp at h
 | (a, b) :: r, (c, d) :: t, .cons h z, 0, k, v, e => by
  have e' : (a, b) = (k, v) := by simpa using e
  cases e'
  obtain ⟨h1, h2⟩ := h
  have h1' : a = c := h1
  subst h1'
  exact ⟨d, rfl, h2⟩
 | _ :: r, _ :: t, .cons h z, i + 1, k, v, e => by
  obtain ⟨u, q, w⟩ := KV.get z (i := i) (by simpa using e)
  exact ⟨u, by simpa using q, w⟩
theorem kV_of {k : Key} {u : Value} (h : keyIs k u = true) : RelV (kV k) u := by
 rcases keyIs_shape h with ⟨i, t, rfl, rfl⟩ | ⟨x, t, rfl, rfl⟩
 ·exact ⟨t, rfl⟩
 ·exact ⟨t, rfl⟩
theorem en_iit : entryFor table "dict_itemiterator.__iter__" = some Builtin.«dict_keyiterator.__iter__» :=
 entryFor_alias (by kernel_rfl) (by first | rfl | decide +kernel | (unfold String.splitOn; simp +decide [String.splitOnAux])) (by decide +kernel) (by kernel_rfl) (id' := "dict_keyiterator.__iter__")
theorem turn_items {P : Program} {w : World} {K : PySem.W.Frag} {elts : List Expr} {x1} {pos : Pos} {it d : Addr} {ob : Obj} {kvs : List (Key × V)} {es : Array DictEntry} {ep : Nat} (hob : ob.data = .dict es ep) :
  Turn P w K (.Tuple elts x1 pos) (Iti d ob kvs) [it] it (fun i h => ∃ ok ov, IsItemIter h it d i kvs.length ep ok ov) where
 mem := by simp
 obj := fun i h st c hc => by
  obtain ⟨ok, ov, e⟩ := st
  rw [List.mem_singleton] at hc
  subst hc
  exact ⟨_, e, fun v q => by cases (show Data.fields _ = Data.cell v from q)⟩
 keep := fun i h h' ⟨ok, ov, e⟩ k => ⟨ok, ov, k it (by simp) _ e⟩
 item := by
  intro X hP hw hK hc i pins s σ H E I hf st hg
  subst hP hw hK
  obtain ⟨hd, hi⟩ := hg
  obtain ⟨ok, ov, e⟩ := st
  obtain ⟨q0, z, hds, vs, rel, o, es', ep', d1, d2, d3, d4⟩ := (show ObjOk X.prog X.w H s.heap d (.frz ob (.dK kvs)) from I.hok d _ hd)
  have eo : o = ob := Option.some.inj (d1.symm.trans q0)
  subst eo
  rw [hob] at d3
  cases d3
  have dat : s.heap.DictAt (mixKind X.prog X.w) d vs ep := ⟨o, es, d1, d2, hob, d4⟩
  obtain ⟨k, v, hkv'⟩ : ∃ k v, kvs[i]? = some (k, v) := ⟨(kvs[i]'hi).1, (kvs[i]'hi).2, List.getElem?_eq_getElem hi⟩
  obtain ⟨u, hu, ru⟩ := KV.get rel hkv'
  have ndi : it ≠ d := fun q => by rw [q] at hf; have := (hf d (by simp)).1; rw [hd] at this; cases this
  have itl : it < s.heap.objs.size := Heap.lt_size e
  rw [rel.length] at e
  refine wpAny_pyNext_items_item e dat hu fun key h1 hkey eo tup hz hk => ⟨_, rfl, wpAny_letOwnedTupleGo_items eo fun h2 e2 sb => ?_⟩
  have nt : s.heap.objs.size ≠ it := Nat.ne_of_gt itl
  have P : ObjOk X.prog X.w (upd H s.heap.objs.size (.tup [kV k, v])) h2 s.heap.objs.size (.tup [kV k, v]) :=
   ⟨by show 2 ≤ sizeLine; decide, [key, u], .cons (kV_of hkey) (.cons ru .nil), ⟨_, sb.extBut _ _ nt tup, rfl, _, rfl⟩⟩
  have I2 : Inv X pins σ (upd H s.heap.objs.size (.tup [kV k, v])) { s with heap := h2, toks := s.toks } := turnedN I (fun c o' n q => by
   have n' : c ≠ it := fun r => n (by simp [r])
   exact sb.extBut _ _ n' (hk c o' n' q)) hf (Nat.le_refl _) P
  refine ⟨.ref s.heap.objs.size, _, I2, rfl, ⟨_, k, v, I.fresh, rfl, hkv', rfl⟩, ⟨key, u, by rw [rel.length]; exact e2⟩, fun c hc => ?_⟩
  have hc' : c = it := by simpa using hc
  rw [hc', upd_ne (Ne.symm nt)]
  exact (hf it (by simp)).1
 done := by
  intro X hP hw hK hc i pins s σ H E I hf st hg
  subst hP hw hK
  obtain ⟨hd, hi⟩ := hg
  obtain ⟨ok, ov, e⟩ := st
  obtain ⟨q0, z, hds, vs, rel, o, es', ep', d1, d2, d3, d4⟩ := (show ObjOk X.prog X.w H s.heap d (.frz ob (.dK kvs)) from I.hok d _ hd)
  have eo : o = ob := Option.some.inj (d1.symm.trans q0)
  subst eo
  rw [hob] at d3
  cases d3
  have dat : s.heap.DictAt (mixKind X.prog X.w) d vs ep := ⟨o, es, d1, d2, hob, d4⟩
  have hh : X.A.in1.handled = none := I.ok.hd hc
  rw [rel.length] at e hi
  refine wpAny_pyNext_items_end hh e dat (List.getElem?_eq_none hi) fun h1 ex => ⟨rfl, ?_⟩
  exact turnedL (t' := s.toks) I (fun c o' n q => ex c o' (fun r => n (by simp [r])) q) hf
 self := fun A i s Q E st h => by
  obtain ⟨ok, ov, e⟩ := st
  have hT : s.TypeIs (.ref it) "dict_itemiterator" := ⟨_, e, rfl⟩
  refine wpAny_pyIter_slot hT PySem.F.slot_dict_itemiterator_iter (wpAny_call_entry PySem.F.slot_dict_itemiterator_iter hT en_iit ?_ (PySem.F.args_dict_itemiterator_iter_1 _))
  show wpAny _ _ (ret (.ref it)) _ _ s
  exact wpAny_pure ⟨_, rfl, "dict_itemiterator", _, hT, PySem.F.slot_dict_itemiterator_next.lookup, h⟩
def iItems (td : TE) : TI := fun σ H R => td σ H fun x H1 => ∃ d kvs, x = .ref d /\ H1 d = some (.dK kvs) /\ ∀ ob, R (Iti d ob kvs) (upd H1 d (.frz ob (.dK kvs)))
theorem pi_items {X : Cx} {elts : List Expr} {x1} {tp apos pos : Pos} {o : Expr} {td : TE} (ho : PE X o td) (hb : attributeBase o "items" X.env (eval o X.env) = eval o X.env := by rfl) (hl : (apos.endLine == pos.line) = true := by rfl) :
  PI X (.Tuple elts x1 tp) (.Call (.Attribute o "items" apos) [] [] pos) (iItems td) := by
 intro pins s σ H R I h
 refine wpAny_Call_method (T := "dict") (id := "dict.items") hb rfl hl PySem.F.plainAttrs_dict PySem.F.slot_dict_items PySem.F.type_dict_items (thn (ho pins s σ H _ I h) fun u s1 ⟨x, H1, I1, rx, d, kvs, ex, e, q⟩ => ?_)
 subst ex
 obtain rfl : u = Value.ref d := rx
 obtain ⟨z, hds, vs, rel, dd⟩ := dk_of I1.hok e
 obtain ⟨t1, t2, _⟩ := isD_at I1 (.inl ⟨kvs, .inl e⟩)
 refine ⟨t1, t2, ?_⟩
 show wpAny _ _ (callWith pos (.builtin "dict.items") [.ref d] [] []) _ _ _
 refine method_meetsIn PySem.F.slot_dict_items PySem.F.entry_dict_items rfl (PySem.evalArgs_none ⟨rfl, t1, PySem.F.args_dict_items_1 _, _, meets_dict_items (mixKind X.prog X.w) d hds, ⟨vs, dd⟩, ?_⟩)
 obtain ⟨o', es, ep, d1, d2, d3, d4⟩ := id dd
 have dat : s1.heap.DictAt (mixKind X.prog X.w) d vs ep := ⟨o', es, d1, d2, d3, d4⟩
 refine wpAny_pyIter_items (d := d) (kvs := vs) (ep := ep) ⟨_, Heap.get?_push_size _ rfl, rfl, rfl⟩ (dat.push _) ?_
 have sz : (s1.heap.push { cls := .type "dict_items", data := .fields #[.ref d] }).objs.size = s1.heap.objs.size + 1 := Heap.size_push ..
 have I2 := I1.kept (t' := s1.toks) (h' := (s1.heap.push { cls := .type "dict_items", data := .fields #[.ref d] }).push { cls := .type "dict_itemiterator", data := .fields #[.none, .bool false, .ref d, .int 0 0, .int vs.length 0, .int ep 0, .none, .none] }) fun b o q => Heap.get?_push_of_some _ (Heap.get?_push_of_some _ q)
 have hit := Heap.get?_push_size (s1.heap.push { cls := .type "dict_items", data := .fields #[.ref d] }) (o := { cls := .type "dict_itemiterator", data := .fields #[.none, .bool false, .ref d, .int 0 0, .int vs.length 0, .int ep 0, .none, .none] }) rfl
 have dl : d < s1.heap.objs.size := Heap.lt_size d1
 have k2 : ∀ b o, s1.heap.get? b = some o -> ((s1.heap.push { cls := .type "dict_items", data := .fields #[.ref d] }).push { cls := .type "dict_itemiterator", data := .fields #[.none, .bool false, .ref d, .int 0 0, .int vs.length 0, .int ep 0, .none, .none] }).get? b = some o := fun b o q => Heap.get?_push_of_some _ (Heap.get?_push_of_some _ q)
 generalize (s1.heap.push { cls := .type "dict_items", data := .fields #[.ref d] }).push { cls := .type "dict_itemiterator", data := .fields #[.none, .bool false, .ref d, .int 0 0, .int vs.length 0, .int ep 0, .none, .none] } = hE at I2 hit k2 ⊢
 rw [sz] at hit ⊢
 have I3 := d_write (h' := hE) (t' := s1.toks) (ob := .frz o' (.dK kvs)) I2 (by rw [e]; exact True.intro) ⟨rfl, fun _ _ => rfl⟩ ⟨_, k2 _ _ d1⟩ ⟨k2 _ _ d1, z, hds, vs, rel, o', es, ep, k2 _ _ d1, d2, d3, d4⟩
 have nd : s1.heap.objs.size + 1 ≠ d := Nat.ne_of_gt (Nat.lt_succ_of_lt dl)
 refine ⟨_, [s1.heap.objs.size + 1], _, _, _, rfl, I3, turn_items d3, ⟨.none, .none, by rw [rel.length]; exact hit⟩, fun c hc => ?_, q o'⟩
 have hc' : c = s1.heap.objs.size + 1 := by simpa using hc
 subst hc'
 exact I1.fpOk (Nat.le_succ _) (by rw [upd_ne nd]; exact I1.hok.fresh (Nat.le_succ _))
theorem for_items {d : Addr} {ob : Obj} {kvs : List (Key × V)} {g : TG} {tb : TS} {D : Ends} {σ : L2.St} {H : Hp} (Pv : Nat -> L2.St -> Hp -> Prop) (h0 : Pv 0 σ H)
  (hl : ∀ i σ H, Pv i σ H -> H d = some (.frz ob (.dK kvs)))
  (hs : ∀ i k v p σ H, kvs[i]? = some (k, v) -> Pv i σ H -> H p = none -> g (.ref p) σ (upd H p (.tup [kV k, v])) fun σ2 H2 => tb { D with nx := Pv (i + 1), ct := Pv (i + 1), bk := D.nx } σ2 H2) (hd : ∀ σ H, Pv kvs.length σ H -> D.nx σ H) :
  ∃ W : Nat -> Nat -> L2.St -> Hp -> Prop, (∃ m, W 0 m σ H) /\ ∀ i m σ H, W i m σ H →
   ((Iti d ob kvs).stop i H /\ D.nx σ H) ∨ ((Iti d ob kvs).go i H /\ ∃ N : L2.St -> Hp -> Prop, (∀ σ' H', N σ' H' -> ∃ m', m' < m /\ W (i + 1) m' σ' H') /\ ∀ x H', (Iti d ob kvs).yld i H x H' -> g x σ H' fun σ2 H2 => tb { D with nx := N, ct := N, bk := D.nx } σ2 H2) := by
 refine ⟨fun i m σ H => m = kvs.length - i /\ i ≤ kvs.length /\ Pv i σ H, ⟨_, rfl, Nat.zero_le _, h0⟩, ?_⟩
 rintro i m σ H ⟨rfl, hi, p⟩
 have q := hl i σ H p
 by_cases hlt : i < kvs.length
 ·refine .inr ⟨⟨q, hlt⟩, Pv (i + 1), fun σ' H' p' => ⟨kvs.length - (i + 1), by omega, rfl, hlt, p'⟩, fun x H' y => ?_⟩
  obtain ⟨pp, k, v, hp, rfl, hkv, rfl⟩ := y
  exact hs i k v pp σ _ hkv p hp
 ·have e : i = kvs.length := by omega
  subst e
  exact .inl ⟨⟨q, Nat.le_refl _⟩, hd σ H p⟩
def enc (ps : List (Int × Int)) : List (Key × V) := ps.map fun p => (Sum.inl p.1, V.int p.2)
def topP : List (Int × Int) -> Int -> Int
 | [], _ => 0
 | (c, u) :: r, b => if c = b then u else topP r b
def addP : List (Int × Int) -> Int -> Int -> List (Int × Int)
 | [], b, t => [(b, 0 + t)]
 | (c, u) :: r, b, t => if c = b then (c, u + t) :: r else (c, u) :: addP r b t
theorem put_here {p : Key × V} {r : List (Key × V)} {k : Key} {v : V} (e : p.1 = k) (n : ∀ q ∈ r, q.1 ≠ k) : putK (p :: r) k v = (k, v) :: r := by
 unfold putK
 rw [if_pos (by simp [e]), List.map_cons, if_pos e, e]
 congr 1
 exact (List.map_congr_left (g := id) (fun q hq => by rw [if_neg (n q hq)]; rfl)).trans (List.map_id r)
theorem put_there {p : Key × V} {r : List (Key × V)} {k : Key} {v : V} (e : ¬ p.1 = k) : putK (p :: r) k v = p :: putK r k v := by
 unfold putK
 rw [List.any_cons, decide_eq_false e, Bool.false_or]
 split
 ·rw [List.map_cons, if_neg e]
 ·rfl
theorem get_enc : ∀ (ps : List (Int × Int)) (b : Int), (valV (enc ps) (Sum.inl b)).getD (V.int 0) = V.int (topP ps b)
 | [], b => rfl
 | (c, u) :: r, b => by
  show (valV ((Sum.inl c, V.int u) :: enc r) (Sum.inl b)).getD (V.int 0) = V.int (if c = b then u else topP r b)
  by_cases e : c = b
  ·rw [if_pos e, valV_pos (by rw [e])]; rfl
  ·rw [if_neg e, valV_neg (fun z => e (by injection z)), get_enc r b]
theorem put_enc : ∀ (ps : List (Int × Int)) (b t : Int), (ps.map (·.1)).Nodup -> putK (enc ps) (Sum.inl b) (V.int (topP ps b + t)) = enc (addP ps b t)
 | [], b, t, _ => rfl
 | (c, u) :: r, b, t, nd => by
  have nd' := List.nodup_cons.mp nd
  show putK ((Sum.inl c, V.int u) :: enc r) (Sum.inl b) (V.int ((if c = b then u else topP r b) + t)) = enc (if c = b then (c, u + t) :: r else (c, u) :: addP r b t)
  by_cases e : c = b
  ·rw [if_pos e, if_pos e, put_here (by rw [e]) (fun q hq z => ?_)]
   ·show _ = (Sum.inl c, V.int (u + t)) :: enc r
    rw [e]
   ·obtain ⟨p, hp, rfl⟩ := List.mem_map.mp hq
    have z' : p.1 = b := by injection z
    exact nd'.1 (List.mem_map.mpr ⟨p, hp, z'.trans e.symm⟩)
  ·rw [if_neg e, if_neg e, put_there (fun z => e (by injection z)), put_enc r b t nd'.2]
   rfl
def sumv : List (Int × Int) -> Rat
 | [] => 0
 | p :: r => (p.2 : Rat) / (p.1 : Rat) + sumv r
theorem add_div {a b c : Rat} : (a + b) / c = a / c + b / c := by rw [Rat.div_def, Rat.div_def, Rat.div_def, Rat.add_mul]
theorem sumv_add : ∀ (ps : List (Int × Int)) (b t : Int), sumv (addP ps b t) = sumv ps + (t : Rat) / (b : Rat)
 | [], b, t => by
  show ((0 + t : Int) : Rat) / (b : Rat) + 0 = 0 + (t : Rat) / (b : Rat)
  rw [Int.zero_add]; grind
 | (c, u) :: r, b, t => by
  show sumv (if c = b then (c, u + t) :: r else (c, u) :: addP r b t) = (u : Rat) / (c : Rat) + sumv r + (t : Rat) / (b : Rat)
  by_cases e : c = b
  ·rw [if_pos e]
   show ((u + t : Int) : Rat) / (c : Rat) + sumv r = _
   rw [Rat.intCast_add, add_div, e]
   grind
  ·rw [if_neg e]
   show (u : Rat) / (c : Rat) + sumv (addP r b t) = _
   rw [sumv_add r b t]
   grind
theorem sumv_snoc : ∀ (ps : List (Int × Int)) (p : Int × Int), sumv (ps ++ [p]) = sumv ps + (p.2 : Rat) / (p.1 : Rat)
 | [], p => by show (p.2 : Rat) / (p.1 : Rat) + 0 = 0 + _; grind
 | q :: r, p => by
  show (q.2 : Rat) / (q.1 : Rat) + sumv (r ++ [p]) = (q.2 : Rat) / (q.1 : Rat) + sumv r + _
  rw [sumv_snoc r p]; grind
structure PsOk (n i : Nat) (ps : List (Int × Int)) : Prop where
 nd : (ps.map (·.1)).Nodup
 len : ps.length ≤ i
 bot : ∀ p ∈ ps, 0 < p.1 /\ p.1.natAbs < 2 ^ n
 top : ∀ p ∈ ps, p.2.natAbs ≤ i * 2 ^ n
theorem add_keys : ∀ (ps : List (Int × Int)) (b t : Int) (c : Int), c ∈ (addP ps b t).map (·.1) ↔ c ∈ ps.map (·.1) ∨ c = b
 | [], b, t, c => by simp [addP]
 | (d, u) :: r, b, t, c => by
  show c ∈ (if d = b then (d, u + t) :: r else (d, u) :: addP r b t).map (·.1) ↔ _
  by_cases e : d = b
  ·rw [if_pos e]
   constructor
   ·intro h; exact .inl h
   ·rintro (h | h)
    ·exact h
    ·exact List.mem_cons.mpr (.inl (h.trans e.symm))
  ·rw [if_neg e, List.map_cons, List.map_cons, List.mem_cons, List.mem_cons, add_keys r b t c]
   exact or_assoc.symm
theorem add_nd : ∀ (ps : List (Int × Int)) (b t : Int), (ps.map (·.1)).Nodup -> ((addP ps b t).map (·.1)).Nodup
 | [], b, t, _ => by simp [addP]
 | (d, u) :: r, b, t, nd => by
  have nd' := List.nodup_cons.mp nd
  show ((if d = b then (d, u + t) :: r else (d, u) :: addP r b t).map (·.1)).Nodup
  by_cases e : d = b
  ·rw [if_pos e]; exact nd
  ·rw [if_neg e, List.map_cons, List.nodup_cons]
   refine ⟨fun z => ?_, add_nd r b t nd'.2⟩
   rcases (add_keys r b t d).mp z with h | h
   ·exact nd'.1 h
   ·exact e h
theorem add_len : ∀ (ps : List (Int × Int)) (b t : Int), (addP ps b t).length ≤ ps.length + 1
 | [], b, t => Nat.le_refl 1
 | (d, u) :: r, b, t => by
  show (if d = b then (d, u + t) :: r else (d, u) :: addP r b t).length ≤ _
  split
  ·exact Nat.le_succ _
  ·exact Nat.succ_le_succ (add_len r b t)
theorem add_top : ∀ (ps : List (Int × Int)) (b t : Int) (M N : Nat), (∀ p ∈ ps, p.2.natAbs ≤ M) -> t.natAbs ≤ N -> ∀ p ∈ addP ps b t, p.2.natAbs ≤ M + N
 | [], b, t, M, N, _, ht, p, hp => by
  have e : p = (b, 0 + t) := by simpa [addP] using hp
  rw [e]
  show (0 + t).natAbs ≤ M + N
  omega
 | (d, u) :: r, b, t, M, N, h, ht, p, hp => by
  have hu : u.natAbs ≤ M := h (d, u) List.mem_cons_self
  have hr : ∀ q ∈ r, q.2.natAbs ≤ M := fun q hq => h q (List.mem_cons_of_mem _ hq)
  have hp' : p ∈ (if d = b then (d, u + t) :: r else (d, u) :: addP r b t) := hp
  split at hp'
  ·rcases List.mem_cons.mp hp' with e | e
   ·rw [e]
    show (u + t).natAbs ≤ M + N
    omega
   ·have := hr p e
    omega
  ·rcases List.mem_cons.mp hp' with e | e
   ·rw [e]
    show u.natAbs ≤ M + N
    omega
   ·exact add_top r b t M N hr ht p e
theorem PsOk.add {n i : Nat} {ps : List (Int × Int)} (h : PsOk n i ps) {r : R} (w : Wf n r) : PsOk n (i + 1) (addP ps r.2 r.1) where
 nd := add_nd ps r.2 r.1 h.nd
 len := Nat.le_trans (add_len ps r.2 r.1) (Nat.succ_le_succ h.len)
 bot := fun p hp => by
  rcases (add_keys ps r.2 r.1 p.1).mp (List.mem_map.mpr ⟨p, hp, rfl⟩) with z | z
  ·obtain ⟨q, hq, e⟩ := List.mem_map.mp z
   rw [← e]
   exact h.bot q hq
  ·rw [z]; exact ⟨w.pos, w.bot⟩
 top := fun p hp => by
  have := add_top ps r.2 r.1 (i * 2 ^ n) (2 ^ n) h.top (Nat.le_of_lt w.top) p hp
  rw [Nat.add_mul, Nat.one_mul]
  exact this
theorem PsOk.nil (n : Nat) : PsOk n 0 [] := ⟨List.nodup_nil, Nat.le_refl _, (fun _ h => nomatch h), (fun _ h => nomatch h)⟩
theorem PsOk.wf {n i : Nat} {ps : List (Int × Int)} (h : PsOk n i ps) (hi : i ≤ 255) {p : Int × Int} (hp : p ∈ ps) : Wf (n + 8) (mkR p.2 p.1) := by
 refine mkR_wf (h.bot p hp).1 ?_ (Nat.lt_of_lt_of_le (h.bot p hp).2 (Nat.pow_le_pow_right (by decide) (by omega)))
 have a := h.top p hp
 have b : i * 2 ^ n ≤ 255 * 2 ^ n := Nat.mul_le_mul_right _ hi
 have c : 0 < 2 ^ n := Nat.pow_pos (by decide)
 rw [Nat.pow_add]
 omega
def vsum : List R -> Rat
 | [] => 0
 | r :: t => val r + vsum t
theorem vsum_snoc : ∀ (rs : List R) (r : R), vsum (rs ++ [r]) = vsum rs + val r
 | [], r => by show val r + 0 = 0 + val r; grind
 | q :: t, r => by show val q + vsum (t ++ [r]) = val q + vsum t + val r; rw [vsum_snoc t r]; grind
theorem val_fold : ∀ (rs : List R) (acc : R), Red acc -> (∀ r ∈ rs, Red r) -> Red (rs.foldl plusR acc) /\ val (rs.foldl plusR acc) = val acc + vsum rs
 | [], acc, ha, _ => ⟨ha, by show val acc = val acc + 0; grind⟩
 | r :: t, acc, ha, h => by
  have hr := h r List.mem_cons_self
  obtain ⟨a, b⟩ := val_fold t (plusR acc r) (plus_red ha hr) fun q hq => h q (List.mem_cons_of_mem _ hq)
  refine ⟨a, ?_⟩
  rw [List.foldl_cons, b, val_plus ha.pos hr.pos]
  show val acc + val r + vsum t = val acc + (val r + vsum t)
  grind
theorem val_nought : val (0, 1) = 0 := by decide +kernel
theorem red_nought : Red (0, 1) := ⟨by decide, by decide⟩
theorem val_sum {rs : List R} (h : ∀ r ∈ rs, Red r) : Red (sumR rs) /\ val (sumR rs) = vsum rs := by
 obtain ⟨a, b⟩ := val_fold rs (0, 1) red_nought h
 refine ⟨a, b.trans ?_⟩
 rw [val_nought]; grind
theorem sum_is {rs : List R} {x : R} (h : ∀ r ∈ rs, Red r) (hx : Red x) (e : val x = vsum rs) : x = sumR rs :=
 val_inj hx (val_sum h).1 (e.trans (val_sum h).2.symm)
theorem Wf.red {n : Nat} {r : R} (h : Wf n r) : Red r := ⟨h.pos, h.cop⟩
theorem sum_wf' (n : Nat) : ∀ (rs : List R) (m : Nat) (acc : R), Wf m acc -> (∀ r ∈ rs, Wf n r) -> Wf (m + (n + 1) * rs.length) (rs.foldl plusR acc)
 | [], m, acc, ha, _ => ha
 | r :: t, m, acc, ha, h => by
  refine (sum_wf' n t (m + n + 1) (plusR acc r) (plus_wf ha (h r List.mem_cons_self)) fun q hq => h q (List.mem_cons_of_mem _ hq)).mono ?_
  rw [List.length_cons, Nat.mul_succ]
  omega
theorem sum_wfN {n : Nat} {rs : List R} (h : ∀ r ∈ rs, Wf n r) : Wf (1 + (n + 1) * rs.length) (sumR rs) := sum_wf' n rs 1 (0, 1) zero_wf h
section
set_option autoImplicit true
set_option relaxedAutoImplicit true
theorem qe_dnewK   : QE X (.Dict [] [] pos) tDNewK := ⟨pe_dnewK ⟩
theorem qe_dget2  (hu : X.A.units + 1 < cLine) (ho : QE X o td) (he : QE X e ty) (hf : QE X f tx) (m : M2 X o "get" apos e f cpos) : QE X (.Call (.Attribute o "get" apos) [e, f] [] cpos) (tDGet2 td ty tx) := ⟨pe_dget2 hu ho.p he.p hf.p m⟩
theorem qs_dput  (hu : X.A.units + 1 < cLine) (ho : QE X o td) (hi : QE X i ty) (hv : QE X value tv) (hs : swapsWith value (some (.Subscript o i pos')) pos.line X.env = pure false) : QS X (.Assign [.Subscript o i pos'] value pos) (sDPut td ty tv) := ⟨ps_dput hu ho.p hi.p hv.p hs⟩
theorem qi_items  {X : Cx} {elts : List Expr} {x1} {tp apos pos : Pos} {o : Expr} {td : TE} (ho : QE X o td) (hb : attributeBase o "items" X.env (eval o X.env) = eval o X.env := by rfl) (hl : (apos.endLine == pos.line) = true := by rfl) : QI X (.Tuple elts x1 tp) (.Call (.Attribute o "items" apos) [] [] pos) (iItems td) := ⟨pi_items ho.p hb hl⟩
end
end B
namespace B
abbrev Pl := Nat × Nat
def lenP (p : Pl) : Int := (p.2 : Int) - p.1 + 1
def AheadP (p q : Pl) : Prop := p.1 < q.1 ∨ (p.1 = q.1 /\ q.2 ≤ p.2)
structure Bst (S : Pl -> Prop) (L : Pl -> Int) (p : Pl) : Prop where
 inn : S p
 all : ∀ q, S q -> L q * lenP p < L p * lenP q ∨ (L q * lenP p = L p * lenP q /\ AheadP p q)
def Sec (n : Nat) (p : Pl) : Prop := p.1 ≤ p.2 /\ p.2 < n
def SeenD (n b e : Nat) (p : Pl) : Prop := Sec n p /\ (p.1 < b ∨ (p.1 = b /\ e ≤ p.2))
def SeenU (n b e : Nat) (p : Pl) : Prop := Sec n p /\ (p.1 < b ∨ (p.1 = b /\ p.2 < e))
abbrev Wn := Option (Nat × Nat)
def holdB (b e : Nat) : Wn -> Bool
 | none => false
 | some (x, y) => decide (b ≤ x) && decide (y ≤ e)
def heldM (ws : List Wn) (p : Pl) : List Nat := (List.range ws.length).filter fun i => holdB p.1 p.2 (ws.getD i none)
def loadM (ws : List Wn) (A : Nat -> Int) (p : Pl) : Int := ((heldM ws p).map A).sum
end B
namespace B
open PySem PySem.Spec L2 PyProof.Rows
def oneEach (ns : List Int) : List Int := ns.foldl step_dedup []
theorem range_getD (ns : List Int) : (List.range ns.length).map (fun i => ns.getD i 0) = ns := by
 apply List.ext_getElem
 ·simp
 ·intro i h1 h2
  rw [List.getElem_map, List.getElem_range, List.getD_eq_getElem?_getD, List.getElem?_eq_getElem h2]
  rfl
theorem firstMet_eq (ns : List Int) : firstMet (fun i => ns.getD i 0) ns.length = oneEach ns := by
 unfold firstMet oneEach
 rw [range_getD]
theorem dedup_facts : ∀ (ns σ : List Int), σ.Nodup -> (ns.foldl step_dedup σ).Nodup /\ (∀ k, k ∈ ns.foldl step_dedup σ ↔ k ∈ σ ∨ k ∈ ns) /\ (ns.foldl step_dedup σ).length ≤ σ.length + ns.length ∧
  ((ns.foldl step_dedup σ).length = σ.length + ns.length ↔ (σ ++ ns).Nodup)
 | [], σ, h => ⟨h, fun k => by simp, by simp, by simp [h]⟩
 | n :: ns, σ, h => by
  rw [List.foldl_cons]
  by_cases c : σ.any (· == n) = true
  ·have e : step_dedup σ n = σ := by unfold step_dedup; rw [if_pos c]
   rw [e]
   obtain ⟨a1, a2, a3, a4⟩ := dedup_facts ns σ h
   have hm : n ∈ σ := by
    obtain ⟨x, hx, q⟩ := List.any_eq_true.mp c
    rw [← show x = n from by simpa using q]; exact hx
   refine ⟨a1, fun k => ?_, by rw [List.length_cons]; omega, ?_⟩
   ·rw [a2, List.mem_cons]
    constructor
    ·rintro (h | h)
     ·exact .inl h
     ·exact .inr (.inr h)
    ·rintro (h | h | h)
     ·exact .inl h
     ·rw [h]; exact .inl hm
     ·exact .inr h
   ·constructor
    ·intro q; rw [List.length_cons] at q; omega
    ·intro q
     exact absurd rfl ((List.nodup_append.mp q).2.2 n hm n List.mem_cons_self)
  ·have e : step_dedup σ n = σ ++ [n] := by unfold step_dedup; rw [if_neg c]
   rw [e]
   have hm : n ∉ σ := fun hx => c (List.any_eq_true.mpr ⟨n, hx, by simp⟩)
   have h' : (σ ++ [n]).Nodup := List.nodup_append.mpr ⟨h, by simp, fun a ha b hb => by
    rw [List.mem_singleton] at hb
    intro z; rw [z, hb] at ha; exact hm ha⟩
   obtain ⟨a1, a2, a3, a4⟩ := dedup_facts ns (σ ++ [n]) h'
   refine ⟨a1, fun k => ?_, ?_, ?_⟩
   ·rw [a2, List.mem_append, List.mem_singleton, List.mem_cons, or_assoc]
   ·rw [List.length_append, List.length_singleton] at a3; rw [List.length_cons]; omega
   ·rw [List.length_append, List.length_singleton, List.append_assoc] at a4
    rw [← show [n] ++ ns = n :: ns from rfl, ← a4, List.length_append, List.length_singleton]
    omega
theorem oneEach_nodup (ns : List Int) : (oneEach ns).Nodup := (dedup_facts ns [] (by simp)).1
theorem mem_oneEach (ns : List Int) (k : Int) : k ∈ oneEach ns ↔ k ∈ ns := by
 have := (dedup_facts ns [] (by simp)).2.1 k
 unfold oneEach
 simpa using this
theorem oneEach_le (ns : List Int) : (oneEach ns).length ≤ ns.length := by
 have := (dedup_facts ns [] (by simp)).2.2.1
 unfold oneEach
 simpa using this
def rSet1 (K : PySem.W.Frag) : List V -> Hp -> VK -> Prop := fun xs H Q => ∃ p ns, xs = [.ref p] /\ SqL K H p (ns.map V.int) /\ ns.length ≤ 1000 /\ ∀ l, H l = none -> Q (.ref l) (upd H l (.set (fun k => (oneEach ns).any (· == k)) (oneEach ns).length))
def rLenS : List V -> Hp -> VK -> Prop := fun xs H Q => ∃ p S n, xs = [.ref p] /\ H p = some (.set S n) /\ Q (.int n) H
def Rise (xs : Array Nat) : Prop := ∀ i j (_ : i < j) (hj : j < xs.size), xs[i]'(by omega) < xs[j]
theorem below_go {xs : Array Nat} {j : Nat} : ∀ (fuel lo hi : Nat), lo ≤ hi -> hi ≤ xs.size -> hi - lo ≤ fuel -> Rise xs -> (∀ i (h : i < xs.size), i < lo -> xs[i] < j) -> (∀ i (h : i < xs.size), hi ≤ i -> j ≤ xs[i]) →
  lo ≤ SetTable.below.go xs j fuel lo hi /\ SetTable.below.go xs j fuel lo hi ≤ hi /\ (∀ i (h : i < xs.size), i < SetTable.below.go xs j fuel lo hi -> xs[i] < j) /\ (∀ i (h : i < xs.size), SetTable.below.go xs j fuel lo hi ≤ i -> j ≤ xs[i])
 | 0, lo, hi, h1, h2, h3, _, a, b => by
  unfold SetTable.below.go
  exact ⟨Nat.le_refl _, h1, a, fun i h q => b i h (by omega)⟩
 | fuel + 1, lo, hi, h1, h2, h3, R, a, b => by
  unfold SetTable.below.go
  by_cases c : lo < hi
  ·rw [if_pos c]
   have hm : (lo + hi) / 2 < xs.size := by omega
   have e : xs.getD ((lo + hi) / 2) j = xs[(lo + hi) / 2] := by simp [Array.getD, hm]
   dsimp only
   rw [e]
   by_cases d : xs[(lo + hi) / 2] < j
   ·rw [if_pos d]
    obtain ⟨c1, c2, c3, c4⟩ := below_go fuel ((lo + hi) / 2 + 1) hi (by omega) h2 (by omega) R (fun i h q => by
     by_cases z : i = (lo + hi) / 2
     ·subst z; exact d
     ·exact Nat.lt_trans (R i ((lo + hi) / 2) (by omega) hm) d) b
    exact ⟨by omega, c2, c3, c4⟩
   ·rw [if_neg d]
    obtain ⟨c1, c2, c3, c4⟩ := below_go fuel lo ((lo + hi) / 2) (by omega) (by omega) (by omega) R a (fun i h q => by
     by_cases z : i = (lo + hi) / 2
     ·subst z; omega
     ·have := R ((lo + hi) / 2) i (by omega) h
      omega)
    exact ⟨c1, by omega, c3, c4⟩
  ·rw [if_neg c]
   exact ⟨Nat.le_refl _, h1, a, fun i h q => b i h (by omega)⟩
theorem below_spec {xs : Array Nat} (R : Rise xs) (j : Nat) : SetTable.below xs j ≤ xs.size /\ (∀ i (h : i < xs.size), i < SetTable.below xs j -> xs[i] < j) /\ (∀ i (h : i < xs.size), SetTable.below xs j ≤ i -> j ≤ xs[i]) := by
 have := below_go (xs := xs) (j := j) xs.size 0 xs.size (Nat.zero_le _) (Nat.le_refl _) (by omega) R (fun i h q => by omega) (fun i h q => by omega)
 exact this.2
theorem below_at {xs : Array Nat} (R : Rise xs) {i j : Nat} (hi : i ≤ xs.size) (lo : ∀ k (h : k < xs.size), k < i -> xs[k] < j) (hi' : ∀ k (h : k < xs.size), i ≤ k -> j ≤ xs[k]) : SetTable.below xs j = i := by
 obtain ⟨a, b, c⟩ := below_spec R j
 rcases Nat.lt_trichotomy (SetTable.below xs j) i with h | h | h
 ·have h1 := c (SetTable.below xs j) (by omega) (Nat.le_refl _)
  have h2 := lo (SetTable.below xs j) (by omega) h
  omega
 ·exact h
 ·have h1 := b i (by omega) h
  have h2 := hi' i (by omega) (Nat.le_refl _)
  omega
theorem below_zero {xs : Array Nat} (R : Rise xs) : SetTable.below xs 0 = 0 := below_at R (Nat.zero_le _) (fun _ _ h => by omega) (fun _ _ _ => Nat.zero_le _)
theorem below_next {xs : Array Nat} (R : Rise xs) {i : Nat} (h : i < xs.size) : SetTable.below xs (xs[i] + 1) = i + 1 :=
 below_at R h (fun k hk q => by
  by_cases z : k = i
  ·subst z; omega
  ·exact Nat.lt_succ_of_lt (R k i (by omega) h)) (fun k hk q => R i k (by omega) hk)
theorem below_mem {xs : Array Nat} (R : Rise xs) {i : Nat} (h : i < xs.size) : SetTable.below xs xs[i] = i :=
 below_at R (Nat.le_of_lt h) (fun k hk q => R k i q h) (fun k hk q => by
  by_cases z : k = i
  ·subst z; omega
  ·exact Nat.le_of_lt (R i k (by omega) hk))
theorem not_in_of_empty {t : SetTable} {j : Nat} (R : Rise t.place) (h : t.slot j = .empty) : ∀ i (q : i < t.place.size), t.place[i] ≠ j := by
 intro i q e
 unfold SetTable.slot at h
 dsimp only at h
 rw [← e, below_mem R q] at h
 simp [q] at h
theorem rise_insert {xs : Array Nat} (R : Rise xs) {j : Nat} (n : ∀ i (q : i < xs.size), xs[i] ≠ j) : Rise (SetTable.insertAt xs (SetTable.below xs j) j) := by
 obtain ⟨a, b, c⟩ := below_spec R j
 have el := SetTable.toList_insertAt xs (SetTable.below xs j) j
 have P : xs.toList.Pairwise (· < ·) := by
  rw [List.pairwise_iff_getElem]
  intro i k hi hk q
  exact R i k q (by simpa using hk)
 suffices S : (SetTable.insertAt xs (SetTable.below xs j) j).toList.Pairwise (· < ·) by
  rw [List.pairwise_iff_getElem] at S
  intro i k q hk
  exact S i k (by simpa using Nat.lt_trans q hk) (by simpa using hk) q
 rw [el]
 have s1 : ∀ x ∈ xs.toList.take (SetTable.below xs j), x < j := by
  intro x hx
  obtain ⟨i, hi, rfl⟩ := List.mem_iff_getElem.mp hx
  rw [List.getElem_take]
  have hi2 : i < SetTable.below xs j := by rw [List.length_take] at hi; omega
  exact b i (by omega) hi2
 have s2 : ∀ x ∈ xs.toList.drop (SetTable.below xs j), j < x := by
  intro x hx
  obtain ⟨i, hi, rfl⟩ := List.mem_iff_getElem.mp hx
  rw [List.getElem_drop]
  rw [List.length_drop, Array.length_toList] at hi
  have h1 := c (SetTable.below xs j + i) (by omega) (by omega)
  have h2 := n (SetTable.below xs j + i) (by omega)
  show j < xs[SetTable.below xs j + i]
  omega
 rw [List.pairwise_append]
 refine ⟨P.sublist (List.take_sublist _ _), List.pairwise_cons.mpr ⟨s2, P.sublist (List.drop_sublist _ _)⟩, fun x hx y hy => ?_⟩
 rcases List.mem_cons.mp hy with rfl | hy
 ·exact s1 x hx
 ·exact Nat.lt_trans (s1 x hx) (s2 y hy)
theorem has_empty (j : Nat) : SetTable.has #[] j = false := by
 unfold SetTable.has
 simp
theorem probe_free {t : SetTable} (hd : t.dummies = #[]) (h : Int) : ∀ (fuel : Nat) (p : SetTable.Probe) (m : SetTable.Met), p.dummy = none -> SetTable.probe.go t (fun _ => h + 1) h fuel p = some m -> ∃ j, m = .empty j none /\ t.slot j = .empty
 | 0, p, m, _, e => by unfold SetTable.probe.go at e; cases e
 | fuel + 1, p, m, z, e => by
  unfold SetTable.probe.go at e
  split at e
  ·rename_i hs
   cases e
   exact ⟨p.j, by rw [z], hs⟩
  ·rename_i hs
   unfold SetTable.slot at hs
   dsimp only at hs
   rw [hd, has_empty] at hs
   split at hs <;> simp at hs
  ·rw [if_neg (by simp; omega)] at e
   refine probe_free hd h fuel _ m ?_ e
   unfold SetTable.advance
   split <;> exact z
theorem freeSlot_spec {t : SetTable} (hd : t.dummies = #[]) {h : Int} {j : Nat} {b : Bool} (e : t.freeSlot h = some (j, b)) : t.slot j = .empty := by
 unfold SetTable.freeSlot at e
 cases q : t.probe (fun _ => h + 1) h (t.probeStart h) with
 | none => rw [q] at e; cases e
 | some m =>
  obtain ⟨j', rfl, hs⟩ := probe_free hd h _ _ m rfl q
  rw [q] at e
  simp only [Option.getD_none, Option.isSome_none, Option.some.injEq, Prod.mk.injEq] at e
  rw [← e.1]; exact hs
def Tidy (t : SetTable) : Prop := t.plain = true -> t.dummies = #[] /\ Rise t.place
theorem tidy_fresh (a b : Nat) (led : Bool) : Tidy (.fresh a b led) := fun _ => ⟨rfl, fun i j h hj => absurd hj (by simp [SetTable.fresh])⟩
theorem tidy_layNew {t : SetTable} (T : Tidy t) (es : Array (Int × Value)) (h : Int) (x : Value) : Tidy (layNew t es h x).2.1 /\ (layNew t es h x).2.1.led = t.led := by
 unfold layNew
 split
 ·rename_i j b e
  dsimp only
  unfold SetTable.orStandIn
  split
  ·refine ⟨fun hp => ?_, rfl⟩
   have hp' : t.plain = true := hp
   obtain ⟨d, R⟩ := T hp'
   refine ⟨?_, rise_insert R (not_in_of_empty R (freeSlot_spec d e))⟩
   show (if SetTable.has t.dummies j then _ else t.dummies) = #[]
   rw [d, has_empty]; rfl
  ·exact ⟨fun hp => absurd hp (by simp [SetTable.standIn]), rfl⟩
 ·exact ⟨fun hp => absurd hp (by simp [SetTable.standIn]), rfl⟩
theorem rise_live (n : Nat) (f : Nat -> Option Nat) : Rise ((((List.range n).filterMap fun j => (f j).map (j, ·)).map (·.1)).toArray) := by
 have S : (((List.range n).filterMap fun j => (f j).map (j, ·)).map (·.1)).Pairwise (· < ·) := by
  rw [List.map_filterMap]
  refine List.Pairwise.filterMap _ (R := (· < ·)) (fun a b h x hx y hy => ?_) List.pairwise_lt_range
  simp only [Option.map_map, Option.map_eq_some_iff] at hx hy
  obtain ⟨_, _, rfl⟩ := hx
  obtain ⟨_, _, rfl⟩ := hy
  exact h
 intro i k q hk
 rw [List.pairwise_iff_getElem] at S
 simp only [List.getElem_toArray]
 exact S i k (by simpa using Nat.lt_trans q hk) (by simpa using hk) q
theorem tidy_relayAll {t : SetTable} (es : Array (Int × Value)) (n : Nat) : Tidy (relayAll t es n).2.1 /\ (relayAll t es n).2.1.led = t.led := by
 unfold relayAll
 split
 ·rename_i t' order e
  dsimp only
  split
  ·unfold SetTable.relaid SetTable.laid at e
   cases q : SetTable.layClean (SetTable.sizeAbove n - 1) (es.map (·.1)) with
   | none => rw [q] at e; cases e
   | some owner =>
    rw [q] at e
    simp only [Option.bind_eq_bind, Option.bind_some, Option.pure_def, Option.some.injEq, Prod.mk.injEq] at e
    obtain ⟨rfl, _⟩ := e
    exact ⟨fun _ => ⟨rfl, rise_live _ _⟩, rfl⟩
  ·exact ⟨fun hp => absurd hp (by simp [SetTable.standIn]), rfl⟩
 ·exact ⟨fun hp => absurd hp (by simp [SetTable.standIn]), rfl⟩
theorem erase_perm {α : Type} {l : List α} {i : Nat} (h : i < l.length) : List.Perm (l[i] :: l.eraseIdx i) l := by
 rw [List.eraseIdx_eq_take_drop_succ]
 have e : l = l.take i ++ l[i] :: l.drop (i + 1) := by rw [List.getElem_cons_drop, List.take_append_drop]
 exact (List.perm_middle.symm).trans (.of_eq e.symm)
theorem pickGo_perm {α : Type} (next : Nat -> Nat) : ∀ (fuel k : Nat) (left : List α) (out : Array α), left.length = fuel -> List.Perm (pickOrder.go next fuel k left out).toList (out.toList ++ left)
 | 0, k, left, out, h => by
  unfold pickOrder.go
  rw [List.length_eq_zero_iff.mp h, List.append_nil]
 | fuel + 1, k, left, out, h => by
  unfold pickOrder.go
  have hm : next k % left.length < left.length := Nat.mod_lt _ (by omega)
  rw [List.getElem?_eq_getElem hm]
  dsimp only
  refine (pickGo_perm next fuel (k + 1) (left.eraseIdx (next k % left.length)) (out.push left[next k % left.length]) (by rw [List.length_eraseIdx_of_lt hm]; omega)).trans ?_
  rw [Array.toList_push, List.append_assoc]
  refine List.Perm.append_left _ ?_
  exact erase_perm hm
theorem pick_perm {α : Type} (next : Nat -> Nat) (xs : Array α) : List.Perm (pickOrder next xs).toList xs.toList := by
 unfold pickOrder
 have := pickGo_perm next xs.size 0 xs.toList #[] (by simp)
 simpa using this
section
variable {prog : Program} {w : World} {A : Around} {E : Value -> Shared -> Prop} {s : Shared}
def vInt : Value -> Int
 | .int n _ => n
 | _ => 0
def IntSet (w : World) (h : Heap) (a : Addr) (ks : List Int) : Prop := ∃ o es ep t, h.get? a = some o /\ o.ExactSet /\ o.data = .set es ep t /\ (∀ e ∈ es.toList, ∃ n u, e = (hashInt n, Value.int n u)) ∧
 (es.toList.map fun e => vInt e.2).Perm ks /\ t.fits es.size = true /\ Tidy t /\ t.led = !w.params.followText "set-order"
theorem IntSet.at {h h' : Heap} {a : Addr} {ks : List Int} (I : IntSet w h a ks) (k : ∀ o, h.get? a = some o -> h'.get? a = some o) : IntSet w h' a ks := by
 obtain ⟨o, es, ep, t, ho, r⟩ := I
 exact ⟨o, es, ep, t, k o ho, r⟩
theorem elems_of {es : List (Int × Value)} (h : ∀ e ∈ es, ∃ n u, e = (hashInt n, Value.int n u)) : ElemsOf (intKind prog w) es := by
 intro e he
 obtain ⟨n, u, rfl⟩ := h e he
 exact ⟨⟨n, intKind_is _ _ _ _, rfl⟩, rfl⟩
theorem is_int {k n : Int} {u : Tok} : (intKind prog w).is k (.int n u) = decide (k = n) := by
 show Value.isInt k (.int n u) = _
 unfold Value.isInt
 by_cases e : k = n
 ·subst e; simp
 ·rw [decide_eq_false e]
  simpa using fun z : n = k => e z.symm
theorem ia_store {a : Addr} {o : Obj} {es es' : Array (Int × Value)} {ep : Nat} {t t' : SetTable} {ks : List Int} (ho : s.heap.get? a = some o) (hx : o.ExactSet) (hd : o.data = .set es ep t)
  (h1 : ∀ e ∈ es'.toList, ∃ n u, e = (hashInt n, Value.int n u)) (h2 : (es'.toList.map fun e => vInt e.2).Perm ks) (h3 : t'.fits es'.size = true) (h4 : Tidy t') (h5 : t'.led = !w.params.followText "set-order") :
  (s.heap.update a (Obj.putSet es' t')).get? a = some { o with data := .set es' (ep + 1) t' } /\ IntSet w (s.heap.update a (Obj.putSet es' t')) a ks := by
 have hg : (s.heap.update a (Obj.putSet es' t')).get? a = some { o with data := .set es' (ep + 1) t' } := by
  have := Heap.get?_update_self (Obj.putSet es' t') ho (by rw [putSet_of es' t' hd]; rfl)
  rw [putSet_of es' t' hd] at this; exact this
 exact ⟨hg, _, es', ep + 1, t', hg, hx, rfl, h1, h2, h3, h4, h5⟩
theorem ia_add {a : Addr} {ks : List Int} {k : Int} {u : Tok} {Q : Bool -> Shared -> Prop} (I : IntSet w s.heap a ks) (hb : ks.length + 1 < scanBound)
  (h : ∀ b h', Heap.SameBut a s.heap h' -> IntSet w h' a (step_dedup ks k) -> Q b { s with heap := h' }) : wpAny (model prog w) A (setAddHashed a (.int k u) (hashInt k)) Q E s := by
 obtain ⟨o, es, ep, t, ho, hx, hd, hs, hp, hf, T, hl⟩ := I
 have hn : es.size = ks.length := by rw [← hp.length_eq, List.length_map, Array.length_toList]
 have hel : ElemsOf (intKind prog w) es.toList := elems_of hs
 have hb0 : es.size < scanBound := by omega
 unfold setAddHashed setAddHashedIn
 refine wpAny_holding (wpAny_bind (wpAny_setState_of ho hd hf ?_))
 dsimp only
 rw [byScan_of (knd := intKind prog w) (x := .int k u) rfl hb0 hel]
 simp only [↓reduceIte]
 unfold setAddByScan
 refine wpAny_bind (wpAny_bind (wpAny_rule (wpAny_bind (wpAny_setScan_of (knd := intKind prog w) (k := k) (intKind_is _ _ _ _) ho hd hf hel ?_))))
 cases hr : List.findIdx? (fun e => (intKind prog w).is k e.2) es.toList with
 | some j =>
  dsimp only
  obtain ⟨hj, hpj, _⟩ := List.findIdx?_eq_some_iff_getElem.mp hr
  obtain ⟨n, v, e⟩ := hs _ (List.getElem_mem hj)
  have hk : k ∈ ks := by
   refine hp.mem_iff.mp (List.mem_map.mpr ⟨_, List.getElem_mem hj, ?_⟩)
   rw [e] at hpj ⊢
   rw [is_int] at hpj
   exact (of_decide_eq_true hpj).symm
  have hd' : step_dedup ks k = ks := by unfold step_dedup; rw [if_pos (List.any_eq_true.mpr ⟨k, hk, by simp⟩)]
  refine wpAny_pure (wpAny_pure ?_)
  have := h false s.heap (Heap.SameBut.refl a s.heap) (by rw [hd']; exact ⟨o, es, ep, t, ho, hx, hd, hs, hp, hf, T, hl⟩)
  have e : s = { s with heap := s.heap } := by cases s; rfl
  rw [e]; exact this
 | none =>
  dsimp only
  have hk : k ∉ ks := fun z => by
   obtain ⟨e, he, q⟩ := List.mem_map.mp (hp.mem_iff.mpr z)
   have := List.findIdx?_eq_none_iff.mp hr e he
   obtain ⟨n, v, rfl⟩ := hs e he
   rw [is_int] at this
   exact (of_decide_eq_false this) q.symm
  have hd' : step_dedup ks k = ks ++ [k] := by
   unfold step_dedup
   rw [if_neg (fun z => by obtain ⟨x, m, q⟩ := List.any_eq_true.mp z; exact hk (by rw [← show x = k from by simpa using q]; exact m))]
  rw [hd'] at h
  have hperm := layNew_perm t es (hashInt k) (.int k u)
  have hfits := layNew_fits t es (hashInt k) (.int k u)
  have htidy := tidy_layNew T es (hashInt k) (.int k u)
  show wpAny _ _ (match layNew t es (hashInt k) (.int k u) with | (es, t, wasDummy, gave) => _) _ _ _
  generalize layNew t es (hashInt k) (.int k u) = L at hperm hfits htidy ⊢
  obtain ⟨es1, t1, dm, gave⟩ := L
  dsimp only at hperm hfits htidy ⊢
  rw [Array.toList_push] at hperm
  have s1 : ∀ e ∈ es1.toList, ∃ n u, e = (hashInt n, Value.int n u) := fun e he => by
   rcases List.mem_append.mp (hperm.mem_iff.mp he) with q | q
   ·exact hs e q
   ·exact ⟨k, u, List.mem_singleton.mp q⟩
  have p1 : (es1.toList.map fun e => vInt e.2).Perm (ks ++ [k]) := by
   refine (hperm.map _).trans ?_
   rw [List.map_append]
   exact hp.append (.refl _)
  have n1 : es1.size = ks.length + 1 := by rw [← Array.length_toList, hperm.length_eq, List.length_append, Array.length_toList, hn]; rfl
  have z1 : es1.size ≤ sizeLine := fits_of_scanBound (by omega)
  have gw : ∀ (b : Bool) {s₁ : Shared} {Q' : Unit -> Shared -> Prop}, Q' () s₁ -> wpAny (model prog w) A (match b with | true => rule "set.scan.the-table-gave-way" | false => pure ()) Q' E s₁ :=
   fun b s₁ Q' hq => by cases b <;> first | exact wpAny_pure hq | exact wpAny_rule hq
  have tail : ∀ (t2 : SetTable) (R : Option Bool -> Shared -> Prop), t2.fits es1.size = true -> Tidy t2 -> t2.led = t.led -> (∀ h', Heap.SameBut a s.heap h' -> IntSet w h' a (ks ++ [k]) -> R (some true) { s with heap := h' }) →
    wpAny (model prog w) A (do
     storeSet a es1 t2
     if (!dm && t2.tooFull) = true then do
       (match (relayAll t2 es1 (SetTable.grown es1.size)).2.2 with | true => rule "set.scan.the-table-gave-way" | false => pure ())
       storeSet a (relayAll t2 es1 (SetTable.grown es1.size)).1 (relayAll t2 es1 (SetTable.grown es1.size)).2.1
       pure (some true)
      else pure (some true)) R E s := by
   intro t2 R f2 T2 l2 hR
   refine wpAny_bind (wpAny_storeSet_of ho hd ?_ z1)
   obtain ⟨g1, I1⟩ := ia_store (w := w) (ks := ks ++ [k]) ho hx hd s1 p1 f2 T2 (l2.trans hl)
   have b1 := Heap.SameBut.update s.heap a (Obj.putSet es1 t2)
   split
   ·have hp2 := relayAll_perm t2 es1 (SetTable.grown es1.size)
    have hf2 := relayAll_fits t2 es1 (SetTable.grown es1.size)
    have ht2 := tidy_relayAll (t := t2) es1 (SetTable.grown es1.size)
    generalize relayAll t2 es1 (SetTable.grown es1.size) = Rl at hp2 hf2 ht2 ⊢
    obtain ⟨es2, t3, gv⟩ := Rl
    dsimp only at hp2 hf2 ht2 ⊢
    have n2 : es2.size = es1.size := by rw [← Array.length_toList, hp2.length_eq, Array.length_toList]
    refine wpAny_bind (gw _ (wpAny_bind (wpAny_storeSet_of g1 rfl (wpAny_pure (hR _ (b1.trans (Heap.SameBut.update _ a _)) ?_)) (by rw [n2]; exact z1))))
    exact (ia_store (s := { s with heap := s.heap.update a (Obj.putSet es1 t2) }) (w := w) (ks := ks ++ [k]) g1 hx rfl (fun e he => s1 e (hp2.mem_iff.mp he)) ((hp2.map _).trans p1) hf2 ht2.1 (ht2.2.trans (l2.trans hl))).2
   ·exact wpAny_pure (hR _ b1 I1)
  refine wpAny_bind (gw _ ?_)
  split
  ·refine wpAny_bind ?_
   rw [hashByValue_scannable 8 (x := .int k u) rfl]
   refine wpAny_pure ?_
   exact tail _ _ hfits htidy.1 htidy.2 fun h' b i => wpAny_pure (h true h' b i)
  ·refine wpAny_bind (wpAny_pure ?_)
   simp only [↓reduceIte]
   exact tail _ _ hfits htidy.1 htidy.2 fun h' b i => wpAny_pure (h true h' b i)
end
section
variable {prog : Program} {w : World} {A : Around} {E : Value -> Shared -> Prop} {s : Shared}
def newSetObj (w : World) : Obj := { cls := .type "set", dict := none, data := .set #[] 0 (.fresh 0 0 (!w.params.followText "set-order")) }
theorem ia_fresh {h : Heap} {a : Addr} (e : h.get? a = some (newSetObj w)) : IntSet w h a [] :=
 ⟨_, #[], 0, _, e, ⟨rfl, rfl, rfl⟩, rfl, fun e h => by simp at h, .refl _, rfl, tidy_fresh _ _ _, rfl⟩
theorem ia_new (v : Value) {Q₁ : Value -> Shared -> Prop} (h : Q₁ (.ref s.heap.objs.size) { s with heap := s.heap.push (newSetObj w) }) :
  codeAny (model prog w) A (.call (.builtin "set.__new__") ⟨[.type "set", v], []⟩) (wants Q₁ E) s := by
 refine codeAny_of_tree ?_
 show wpAny _ A.in1 (do checkBuiltinCall "set.__new__" ⟨[.type "set", v], []⟩; again (.builtin "set.__new__" ⟨[.type "set", v], []⟩)) _ _ s
 refine wpAny_bind (wpAny_of_eq (PySem.F.newCall_set_1 v) (wpAny_pure ⟨plainId_quiet PySem.F.plain_set_new _, codeAny_builtin PySem.F.entry_set_new ?_⟩))
 rw [Around.under_plainId PySem.F.plain_set_new _]
 unfold Builtin.«set.__new__» Builtin.Frozenset.newClass
 have hsub := sub_set_self
 obtain ⟨hp, g, d, tk, os⟩ := s
 dsimp only
 wp_walk
 refine wpAny_askSetting (wpAny_pure ?_)
 dsimp only
 simp only [newObj]
 exact wpAny_bind (wpAny_alloc (wpAny_pure (wpAny_pure h)))
variable {R : Result -> Shared -> Prop} {I : Addr} {fp wr : List Addr} {G : Array GenState -> Array GenState -> Prop} {n : Nat} {P : Nat -> Value -> Prop} {St : Nat -> Shared -> Prop}
theorem ia_loop (W : WalksS prog w A.in1 I fp wr G n P St) (S : Addr) (hSf : S ∉ fp) (val : Nat -> Int) (hval : ∀ i v, P i v -> ∃ t, v = .int (val i) t) (hb : n + 1 < scanBound) :
  ∀ (k i : Nat) (s : Shared), n - i = k -> i ≤ n -> St i s -> IntSet w s.heap S (firstMet val i) →
   (∀ s', Moved (S :: wr) G s s' -> IntSet w s'.heap S (firstMet val n) -> R (.ok (.ret .none)) s') -> codeAny (model prog w) A (.builtin "set.update.loop" ⟨[.ref S, .ref I], []⟩) R s := by
 have hSw : S ∉ wr := fun h => hSf (W.sub _ h)
 have hsub : ∀ b ∈ wr, b ∈ S :: wr := fun b hb => List.mem_cons_of_mem _ hb
 intro k
 induction k with
 | zero =>
  intro i s hk hi hst hS hR
  obtain rfl : i = n := by omega
  refine codeAny_builtin PyProof.Rows.F.entry_set_update_loop ?_
  rw [Around.under_plainId PyProof.Rows.F.plain_set_update_loop _]
  show wpAny _ A.in1 (pyNext (.ref I) >>= _) _ _ s
  refine wpAny_bind (W.done s _ _ hst fun s' hm => ?_)
  exact wpAny_pure (hR s' (hm.mono hsub) (hS.at fun o e => hm.heap S _ hSw e))
 | succ k ih =>
  intro i s hk hi hst hS hR
  refine codeAny_builtin PyProof.Rows.F.entry_set_update_loop ?_
  rw [Around.under_plainId PyProof.Rows.F.plain_set_update_loop _]
  show wpAny _ A.in1 (pyNext (.ref I) >>= _) _ _ s
  refine wpAny_bind (W.item i s _ _ (by omega) hst fun v s' hP hst' hm => ?_)
  obtain ⟨t, rfl⟩ := hval i v hP
  show wpAny _ A.in1 (holding [Value.int (val i) t] (setAdd S (.int (val i) t)) >>= _) _ _ s'
  refine wpAny_bind (wpAny_holding ?_)
  unfold setAdd
  refine wpAny_holding (wpAny_bind ((intKind prog w).pyHash (k := val i) (intKind_is _ _ _ _) ?_))
  refine ia_add (s := { s' with toks := s'.toks + 1 }) (hS.at fun o e => hm.heap S _ hSw e) (by have := firstMet_length_le val i; omega) fun b h' hsb hS2 => ?_
  rw [← firstMet_succ] at hS2
  refine wpAny_pure ⟨plainId_quiet PyProof.Rows.F.plain_set_update_loop _, ih (i + 1) _ (by omega) (by omega) (W.frame _ s' _ _ hst' (Nat.le_succ _) fun b hb o e => ?_) hS2 fun s'' hm'' hS'' => ?_⟩
  ·rw [hsb.2 b (fun h : b = S => hSf (by rw [← h]; exact hb))]; exact e
  ·refine hR s'' (Moved.trans W.gtrans ((hm.mono hsub).then_heap (Nat.le_succ _) fun b o hb e => ?_) hm'') hS''
   rw [hsb.2 b (fun h : b = S => hb (by rw [h]; exact List.mem_cons_self))]; exact e
end
section
variable {prog : Program} {w : World} {A : Around} {E : Value -> Shared -> Prop} {s : Shared}
set_option maxRecDepth 100000 in
set_option maxHeartbeats 3200000 in
theorem ia_call {T : String} {l : Addr} {ol : Obj} {items : Array Value} {nl : Nat} {ns : List Int} {Q : Value -> Shared -> Prop} (hT0 : T = "list" ∨ T = "tuple")
  (hh : A.handled = none) (hol : s.heap.get? l = some ol) (hcl : ol.cls = .type T) (hdl : ol.data = .seq items nl) (hi : IntsAre items.toList ns) (hb : items.size + 1 < scanBound)
  (h : ∀ (h' : Heap) (tk : Nat), IntSet w h' s.heap.objs.size (oneEach ns) -> (∀ b o, b < s.heap.objs.size -> s.heap.get? b = some o -> h'.get? b = some o) -> Q (.ref s.heap.objs.size) { s with heap := h', toks := tk }) :
  wpAny (model prog w) A (call (.type "set") [.ref l]) Q E s := by
 have hlen : items.size = ns.length := by rw [← Array.length_toList]; exact IntsAre.length hi
 obtain ⟨c, tl, hmro⟩ := PySem.F.called_set.mro
 have hmade := PySem.F.called_set.made
 have hsub := PySem.F.called_set.sub
 refine wpAny_call (codeAny_of_tree ?_)
 show wpAny _ _ (callAny (.type "set") _) _ _ _
 refine wpAny_pure ⟨Code.quiet_builtin _ (by decide +kernel), codeAny_builtin PySem.F.entry_type_call ?_⟩
 rw [Around.under_plain (weight_type_call_type "set" [.ref l] []) rfl]
 have h1 := PySem.F.called_set.notType
 have h2 := PySem.F.called_set.canCreate
 have hct := PySem.F.typeCall_set_1 (.ref l)
 repeat (any_goals (first | assumption | wp_step))
 refine codeAny_mono (ia_new (.ref l) (E := E) (Q₁ := fun obj s₁ => obj = .ref s.heap.objs.size /\ s₁ = { s with heap := s.heap.push (newSetObj w) }) ⟨rfl, rfl⟩) fun r s₁ hr => ?_
 cases r with
 | error e => exact hr
 | ok fl =>
  cases fl with
  | ret obj =>
   obtain ⟨rfl, rfl⟩ := hr
   have hS : (s.heap.push (newSetObj w)).get? s.heap.objs.size = some (newSetObj w) := Heap.get?_push_size _ rfl
   have hT : Shared.TypeIs { s with heap := s.heap.push (newSetObj w) } (.ref s.heap.objs.size) "set" := ⟨_, hS, rfl⟩
   have hli := PySem.F.called_set.init.lookup
   have hbi := PySem.F.called_set.init.bind (.ref s.heap.objs.size)
   repeat (any_goals (first | assumption | wp_step))
   refine codeAny_mono (codeAny_call_builtin (R := wants (fun r s₂ => r = .none /\ ∃ h' tk, s₂ = { s with heap := h', toks := tk } /\ IntSet w h' s.heap.objs.size (oneEach ns) ∧
     (∀ b o, b < s.heap.objs.size -> s.heap.get? b = some o -> h'.get? b = some o)) E) PySem.F.called_set.init.plain PySem.F.entry_set_init (check_set_init_1 hT ?_)) fun r₂ s₂ hr₂ => ?_
   ·have hlS : l < s.heap.objs.size := Heap.lt_size hol
    have hh3 : A.in1.in1.in1.handled = none := by simp [hh]
    have hol' : (s.heap.push (newSetObj w)).get? l = some ol := Heap.get?_push_of_some _ hol
    have sz : (s.heap.push (newSetObj w)).objs.size = s.heap.objs.size + 1 := Heap.size_push ..
    have hneI : l ≠ (s.heap.push (newSetObj w)).objs.size := Nat.ne_of_lt (by rw [sz]; exact Nat.lt_succ_of_lt hlS)
    have hSf : s.heap.objs.size ∉ [(s.heap.push (newSetObj w)).objs.size, l] := by
     simp only [List.mem_cons, List.not_mem_nil, or_false, not_or]
     exact ⟨Nat.ne_of_lt (by rw [sz]; exact Nat.lt_succ_self _), Nat.ne_of_gt hlS⟩
    have hval : ∀ (i : Nat) (v : Value), items[i]? = some v -> ∃ t, v = .int ((fun i => ns.getD i 0) i) t := fun i v hv => IntsAre.int_at hi i v (by rw [Array.getElem?_toList]; exact hv)
    have fin : ∀ (it : Obj) (s' : Shared), Moved [s.heap.objs.size, (s.heap.push (newSetObj w)).objs.size] (fun a b => b = a) { s with heap := (s.heap.push (newSetObj w)).push it } s' →
      IntSet w s'.heap s.heap.objs.size (firstMet (fun i => ns.getD i 0) items.size) →
      ∃ h' tk, s' = { s with heap := h', toks := tk } /\ IntSet w h' s.heap.objs.size (oneEach ns) /\ (∀ b o, b < s.heap.objs.size -> s.heap.get? b = some o -> h'.get? b = some o) := by
     intro it s' hm hS'
     rw [hlen, firstMet_eq] at hS'
     obtain ⟨h', g', d', tk', os'⟩ := s'
     obtain rfl : g' = s.gens := hm.gens
     obtain rfl : d' = s.drawn := hm.drawn
     obtain rfl : os' = s.os := hm.os
     refine ⟨h', tk', rfl, hS', fun b o hb e => hm.heap b o ?_ (Heap.get?_push_of_some _ (Heap.get?_push_of_some _ e))⟩
     simp only [List.mem_cons, List.not_mem_nil, or_false, not_or]
     exact ⟨Nat.ne_of_lt hb, Nat.ne_of_lt (by rw [sz]; exact Nat.lt_succ_of_lt hb)⟩
    obtain ⟨ocls, odict, odata, oslots⟩ := ol
    simp only at hcl hdl
    subst hcl; subst hdl
    have n1 := PySem.F.sub_list_set
    have n2 := PySem.F.sub_list_frozenset
    have n3 := PySem.F.sub_tuple_set
    have n4 := PySem.F.sub_tuple_frozenset
    have n5 : (Value.type "list" == Value.type "dict") = false := by decide
    have n6 : (Value.type "tuple" == Value.type "dict") = false := by decide
    unfold Builtin.«set.__init__» noKeywords Builtin.Frozenset.updateFrom
    generalize hPI : pyIter = PI
    rcases hT0 with rfl | rfl
    ·have hl1 : (s.heap.push (newSetObj w)).IsList l items := ⟨_, hol', rfl, nl, rfl⟩
     wp_walk
     subst hPI
     refine wpAny_pyIter_list hl1 (wpAny_bind (wpAny_runValue ?_))
     refine ia_loop ((Walks.list hh3 _ l hneI items).toS) s.heap.objs.size hSf (fun i => ns.getD i 0) hval hb (items.size - 0) 0 _ (by omega) (Nat.zero_le _)
      ⟨⟨_, Heap.get?_push_size _ rfl, rfl, rfl⟩, (hl1.push _)⟩ (ia_fresh (Heap.get?_push_of_some _ hS)) fun s' hm hS' => ?_
     obtain ⟨h', tk, rfl, c1, c2⟩ := fin _ s' hm hS'
     exact wpAny_pure (wpAny_pure ⟨rfl, h', tk, rfl, c1, c2⟩)
    ·have hl1 : (s.heap.push (newSetObj w)).IsTuple l items := ⟨_, hol', rfl, nl, rfl⟩
     wp_walk
     subst hPI
     refine wpAny_pyIter_tuple hl1 (wpAny_bind (wpAny_runValue ?_))
     refine ia_loop ((Walks.tuple hh3 _ l hneI items).toS) s.heap.objs.size hSf (fun i => ns.getD i 0) hval hb (items.size - 0) 0 _ (by omega) (Nat.zero_le _)
      ⟨⟨_, Heap.get?_push_size _ rfl, rfl, rfl⟩, (hl1.push _)⟩ (ia_fresh (Heap.get?_push_of_some _ hS)) fun s' hm hS' => ?_
     obtain ⟨h', tk, rfl, c1, c2⟩ := fin _ s' hm hS'
     exact wpAny_pure (wpAny_pure ⟨rfl, h', tk, rfl, c1, c2⟩)
   ·cases r₂ with
    | error e => exact hr₂
    | ok fl₂ =>
     cases fl₂ with
     | ret r =>
      obtain ⟨rfl, h', tk, rfl, hS', hk'⟩ := hr₂
      repeat (any_goals (first | assumption | wp_step))
      exact h _ _ hS' hk'
     | _ => exact hr₂.elim
  | _ => exact hr.elim
end
namespace FS
theorem owner : Manifest.owners.lookup (String.ofList ['r', 'o', 't', 'a', 'r', 'e', 't', 'i', '_', 't', 'e', 's'].reverse) = some Manifest.sig_set_iterator := by kernel_rfl
theorem slot_next : Slot "set_iterator" "__next__" "set_iterator.__next__" :=
 .of (owner := "set_iterator") (n := "__next__") (by rw [typeLookup_type, builtinLookup_eq_fast]; kernel_rfl) (by decide +kernel) (by decide +kernel) (by decide +kernel)
  (by first | exact .inl (by decide +kernel) | exact .inr (by decide +kernel)) (by rw [isSubtype_type]; kernel_rfl)
theorem entry_next : entryFor table "set_iterator.__next__" = some Builtin.«set_iterator.__next__» := entryFor_of_tree (by kernel_rfl)
theorem args_next (a : Value) : argsOk "set_iterator.__next__" ⟨[a], []⟩ := by
 unfold argsOk; rw [signature?_of (id := "set_iterator.__next__") (n := ['_', '_', 't', 'x', 'e', 'n', '_', '_']) (o := ['r', 'o', 't', 'a', 'r', 'e', 't', 'i', '_', 't', 'e', 's']) (by kernel_rfl) owner]; kernel_rfl
theorem entry_iter : entryFor table "set.__iter__" = some Builtin.«frozenset.__iter__» := entryFor_alias (id' := "frozenset.__iter__") (by kernel_rfl) rfl (by decide +kernel) (by kernel_rfl)
theorem slot_iter2 : Slot "set_iterator" "__iter__" "set_iterator.__iter__" :=
 .of (owner := "set_iterator") (n := "__iter__") (by rw [typeLookup_type, builtinLookup_eq_fast]; kernel_rfl) (by decide +kernel) (by decide +kernel) (by decide +kernel)
  (by first | exact .inl (by decide +kernel) | exact .inr (by decide +kernel)) (by rw [isSubtype_type]; kernel_rfl)
theorem entry_iter2 : entryFor table "set_iterator.__iter__" = some Builtin.«dict_keyiterator.__iter__» := entryFor_alias (id' := "dict_keyiterator.__iter__") (by kernel_rfl) rfl (by decide +kernel) (by kernel_rfl)
theorem args_iter2 (a : Value) : argsOk "set_iterator.__iter__" ⟨[a], []⟩ := by
 unfold argsOk; rw [signature?_of (id := "set_iterator.__iter__") (n := ['_', '_', 'r', 'e', 't', 'i', '_', '_']) (o := ['r', 'o', 't', 'a', 'r', 'e', 't', 'i', '_', 't', 'e', 's']) (by kernel_rfl) owner]; kernel_rfl
end FS
section
variable {prog : Program} {w : World} {A : Around} {E : Value -> Shared -> Prop} {s : Shared}
def sItO (first : Value) (i : Nat) (a : Addr) (n ep : Nat) : Obj := { cls := .type "set_iterator", data := .fields #[first, .int i 0, .ref a, .int n 0, .int ep 0] }
theorem sn_item {I a : Addr} {o : Obj} {es : Array (Int × Value)} {ep i slot next : Nat} {t : SetTable} {x : Value} {Q : Option Value -> Shared -> Prop} (hI : s.heap.get? I = some (sItO (.int slot 0) i a es.size ep))
  (ho : s.heap.get? a = some o) (hd : o.data = .set es ep t) (hf : t.fits es.size = true) (hx : ∀ (A : Around) (E : Value -> Shared -> Prop) (Q : Option (Value × Nat) -> Shared -> Prop), Q (some (x, next)) s -> wpAny (model prog w) A (setNext a slot i ep) Q E s)
  (hQ : ∀ h', h'.get? I = some (sItO (.int next 0) (i + 1) a es.size ep) -> Heap.SameBut I s.heap h' -> Q (some x) { s with heap := h' }) : wpAny (model prog w) A (pyNext (.ref I)) Q E s := by
 have hT : s.TypeIs (.ref I) "set_iterator" := ⟨_, hI, rfl⟩
 unfold pyNext
 refine wpAny_bind (wpAny_attempt (wpAny_callSpecial?_slot (name := Str.ofString "__next__") hT FS.slot_next (wpAny_call_entry FS.slot_next hT FS.entry_next ?_ (FS.args_next _))))
 unfold Builtin.«set_iterator.__next__» slotArgs
 simp only [List.isEmpty_nil, Bool.not_true, Bool.false_eq_true, ↓reduceIte, bind_assoc, List.length_nil, bne_self_eq_false]
 refine wpAny_bind (wpAny_pure ?_)
 refine wpAny_bind (wpAny_fieldsOf hI rfl ?_)
 dsimp only
 refine wpAny_bind (wpAny_setEntries_of ho hd hf ?_)
 rw [if_neg (by simp)]
 refine wpAny_bind (hx _ _ _ ?_)
 dsimp only
 refine wpAny_bind (wpAny_setField hI rfl (by simp) ?_)
 have e1 : (s.heap.update I (Obj.mapFields (·.setIfInBounds 0 (rawInt next)))).get? I = some (sItO (.int next 0) i a es.size ep) := Heap.get?_update_self _ hI rfl
 refine wpAny_bind (wpAny_setField e1 rfl (by simp) (wpAny_pure ⟨x, rfl, wpAny_pure (hQ _ (Heap.get?_update_self _ e1 rfl) ((Heap.SameBut.update ..).trans (Heap.SameBut.update ..)))⟩))
theorem sn_end {I a : Addr} {o : Obj} {es : Array (Int × Value)} {ep i slot : Nat} {t : SetTable} {Q : Option Value -> Shared -> Prop} (hh : A.handled = none) (hI : s.heap.get? I = some (sItO (.int slot 0) i a es.size ep))
  (ho : s.heap.get? a = some o) (hd : o.data = .set es ep t) (hf : t.fits es.size = true) (hx : ∀ (A : Around) (E : Value -> Shared -> Prop) (Q : Option (Value × Nat) -> Shared -> Prop), Q none s -> wpAny (model prog w) A (setNext a slot i ep) Q E s)
  (hQ : ∀ h', Heap.ExtBut I s.heap h' -> Q none { s with heap := h' }) : wpAny (model prog w) A (pyNext (.ref I)) Q E s := by
 have hT : s.TypeIs (.ref I) "set_iterator" := ⟨_, hI, rfl⟩
 unfold pyNext
 refine wpAny_bind (wpAny_attempt (wpAny_callSpecial?_slot (name := Str.ofString "__next__") hT FS.slot_next (wpAny_call_entry FS.slot_next hT FS.entry_next ?_ (FS.args_next _))))
 unfold Builtin.«set_iterator.__next__» slotArgs
 simp only [List.isEmpty_nil, Bool.not_true, Bool.false_eq_true, ↓reduceIte, bind_assoc, List.length_nil, bne_self_eq_false]
 refine wpAny_bind (wpAny_pure ?_)
 refine wpAny_bind (wpAny_fieldsOf hI rfl ?_)
 dsimp only
 refine wpAny_bind (wpAny_setEntries_of ho hd hf ?_)
 rw [if_neg (by simp)]
 refine wpAny_bind (hx _ _ _ ?_)
 try dsimp only
 refine wpAny_bind (wpAny_setField hI rfl (by simp) ?_)
 refine wpAny_bind ?_
 simp only [newExc, newTuple]
 refine wpAny_bind (wpAny_newObj_type ?_ (by size_fits))
 refine wpAny_bind (m := firstArgMember _ _) (wpAny_of_eq (a := Value.none) (by first | rfl | (simp only [firstArgMember]; rfl)) ?_)
 refine wpAny_newObj_type ?_ (by size_fits)
 simp only [raiseNew]
 refine wpAny_bind (wpAny_handled ?_)
 rw [show A.in1.handled = none from hh]
 refine wpAny_bind (wpAny_pure (wpAny_throw ?_))
 refine wpAny_bind (wpAny_isInstance (T := "StopIteration") (b := true) ⟨_, Heap.get?_push_size _ rfl, rfl⟩ isSubtype_stop ?_)
 exact wpAny_pure (hQ _ (((Heap.SameBut.update ..).extBut.push _).push _))
theorem sd_item {I a p : Addr} {o op : Obj} {es : Array (Int × Value)} {ps : Array Value} {ep i np pl : Nat} {u : Tok} {t : SetTable} {hs : Int} {x : Value} {Q : Option Value -> Shared -> Prop} (hI : s.heap.get? I = some (sItO (.ref p) i a es.size ep))
  (ho : s.heap.get? a = some o) (hd : o.data = .set es ep t) (hf : t.fits es.size = true) (hp : s.heap.get? p = some op) (hpd : op.data = .seq ps np) (hpi : ps[i]? = some (.int pl u)) (hx : es[pl]? = some (hs, x))
  (hQ : ∀ h', h'.get? I = some (sItO (.ref p) (i + 1) a es.size ep) -> Heap.SameBut I s.heap h' -> Q (some x) { s with heap := h' }) : wpAny (model prog w) A (pyNext (.ref I)) Q E s := by
 have hT : s.TypeIs (.ref I) "set_iterator" := ⟨_, hI, rfl⟩
 unfold pyNext
 refine wpAny_bind (wpAny_attempt (wpAny_callSpecial?_slot (name := Str.ofString "__next__") hT FS.slot_next (wpAny_call_entry FS.slot_next hT FS.entry_next ?_ (FS.args_next _))))
 unfold Builtin.«set_iterator.__next__» slotArgs
 simp only [List.isEmpty_nil, Bool.not_true, Bool.false_eq_true, ↓reduceIte, bind_assoc, List.length_nil, bne_self_eq_false]
 refine wpAny_bind (wpAny_pure ?_)
 refine wpAny_bind (wpAny_fieldsOf hI rfl ?_)
 dsimp only
 refine wpAny_bind (wpAny_setEntries_of ho hd hf ?_)
 rw [if_neg (by simp)]
 try dsimp only
 refine wpAny_bind (wpAny_seqItems hp hpd ?_)
 try dsimp only
 simp only [Int.toNat_natCast, hpi]
 unfold setNextDrawn
 refine wpAny_bind (wpAny_bind (wpAny_setState_of ho hd hf ?_))
 try dsimp only
 rw [if_neg (by simp)]
 simp only [hx]
 refine wpAny_pure (wpAny_bind (wpAny_setField hI rfl (by simp) (wpAny_pure ⟨x, rfl, wpAny_pure (hQ _ (Heap.get?_update_self _ hI rfl) (Heap.SameBut.update ..))⟩)))
theorem sd_end {I a p : Addr} {o op : Obj} {es : Array (Int × Value)} {ps : Array Value} {ep i np : Nat} {t : SetTable} {Q : Option Value -> Shared -> Prop} (hh : A.handled = none) (hI : s.heap.get? I = some (sItO (.ref p) i a es.size ep))
  (ho : s.heap.get? a = some o) (hd : o.data = .set es ep t) (hf : t.fits es.size = true) (hp : s.heap.get? p = some op) (hpd : op.data = .seq ps np) (hpi : ps[i]? = none)
  (hQ : ∀ h', Heap.ExtBut I s.heap h' -> Q none { s with heap := h' }) : wpAny (model prog w) A (pyNext (.ref I)) Q E s := by
 have hT : s.TypeIs (.ref I) "set_iterator" := ⟨_, hI, rfl⟩
 unfold pyNext
 refine wpAny_bind (wpAny_attempt (wpAny_callSpecial?_slot (name := Str.ofString "__next__") hT FS.slot_next (wpAny_call_entry FS.slot_next hT FS.entry_next ?_ (FS.args_next _))))
 unfold Builtin.«set_iterator.__next__» slotArgs
 simp only [List.isEmpty_nil, Bool.not_true, Bool.false_eq_true, ↓reduceIte, bind_assoc, List.length_nil, bne_self_eq_false]
 refine wpAny_bind (wpAny_pure ?_)
 refine wpAny_bind (wpAny_fieldsOf hI rfl ?_)
 dsimp only
 refine wpAny_bind (wpAny_setEntries_of ho hd hf ?_)
 rw [if_neg (by simp)]
 try dsimp only
 refine wpAny_bind (wpAny_seqItems hp hpd ?_)
 try dsimp only
 simp only [Int.toNat_natCast, hpi]
 have e1 : (s.heap.update I (Obj.mapFields (·.setIfInBounds 0 (rawInt 0)))).get? I = some (sItO (.int 0 0) i a es.size ep) := Heap.get?_update_self _ hI rfl
 refine wpAny_bind (wpAny_setField hI rfl (by simp) (wpAny_bind (wpAny_setField e1 rfl (by simp) ?_)))
 refine wpAny_bind ?_
 simp only [newExc, newTuple]
 refine wpAny_bind (wpAny_newObj_type ?_ (by size_fits))
 refine wpAny_bind (m := firstArgMember _ _) (wpAny_of_eq (a := Value.none) (by first | rfl | (simp only [firstArgMember]; rfl)) ?_)
 refine wpAny_newObj_type ?_ (by size_fits)
 simp only [raiseNew]
 refine wpAny_bind (wpAny_handled ?_)
 rw [show A.in1.handled = none from hh]
 refine wpAny_bind (wpAny_pure (wpAny_throw ?_))
 refine wpAny_bind (wpAny_isInstance (T := "StopIteration") (b := true) ⟨_, Heap.get?_push_size _ rfl, rfl⟩ isSubtype_stop ?_)
 exact wpAny_pure (hQ _ ((((Heap.SameBut.update ..).trans (Heap.SameBut.update ..)).extBut.push _).push _))
end
end B
namespace B
open PySem PySem.Spec L2 PyProof.Rows
section
variable {prog : Program} {w : World} {A : Around} {E : Value -> Shared -> Prop} {s : Shared}
theorem byText_eq {Q : Bool -> Shared -> Prop} (h : Q (w.params.followText "set-order") s) : wpAny (model prog w) A setsByText Q E s := by
 unfold setsByText
 exact wpAny_bind (wpAny_askSetting (wpAny_pure h))
theorem nx_text {a : Addr} {o : Obj} {es : Array (Int × Value)} {ep i slot : Nat} {t : SetTable} {Q : Option (Value × Nat) -> Shared -> Prop} (hb : w.params.followText "set-order" = true) (ho : s.heap.get? a = some o) (hd : o.data = .set es ep t) (hf : t.fits es.size = true)
  (h : Q (((pickOrder (w.params.setOrder a ep) es)[i]?).map fun e => (e.2, slot)) s) : wpAny (model prog w) A (setNext a slot i ep) Q E s := by
 unfold setNext
 refine wpAny_bind (wpAny_setState_of ho hd hf ?_)
 dsimp only
 refine wpAny_bind (byText_eq ?_)
 rw [hb]
 simp only [↓reduceIte, bne_self_eq_false, Bool.false_eq_true]
 unfold setWalk
 refine wpAny_bind (wpAny_bind (wpAny_setState_of ho hd hf ?_))
 dsimp only
 refine wpAny_bind (byText_eq ?_)
 rw [hb]
 simp only [↓reduceIte]
 exact wpAny_bind (wpAny_askSetting (wpAny_pure (wpAny_pure h)))
theorem nx_led {a : Addr} {o : Obj} {es : Array (Int × Value)} {ep i slot : Nat} {t : SetTable} {Q : Option (Value × Nat) -> Shared -> Prop} (hb : w.params.followText "set-order" = false) (hl : t.led = true) (hp : (!t.plain && decide (es.size > 1)) = false)
  (ho : s.heap.get? a = some o) (hd : o.data = .set es ep t) (hf : t.fits es.size = true)
  (h : Q (match es[SetTable.below t.place slot]?, t.place[SetTable.below t.place slot]? with | some (_, x), some j => some (x, j + 1) | _, _ => none) s) : wpAny (model prog w) A (setNext a slot i ep) Q E s := by
 unfold setNext
 refine wpAny_bind (wpAny_setState_of ho hd hf ?_)
 dsimp only
 refine wpAny_bind (byText_eq ?_)
 rw [hb]
 simp only [Bool.false_eq_true, ↓reduceIte]
 show wpAny _ _ (if (!t.plain && decide (es.size > 1)) = true then _ else _) _ _ _
 rw [hp]
 simp only [Bool.false_eq_true, ↓reduceIte]
 show wpAny _ _ ((if (!t.led && !es.isEmpty) = true then _ else pure PUnit.unit) >>= _) _ _ _
 rw [hl]
 simp only [Bool.not_true, Bool.false_and, Bool.false_eq_true, ↓reduceIte]
 refine wpAny_bind (wpAny_pure (wpAny_pure h))
theorem wp_chosen {src : Source} {n : Nat} {Q : Nat -> Shared -> Prop} (hn : n ≠ 0) (h : ∀ i d, i < n -> Q i { s with drawn := d }) : wpAny (model prog w) A (choose src n) Q E s := by
 intro Γ p hΓ
 unfold choose
 rw [Sem.wp_choose]
 exact ⟨hn, by rw [Sem.wp_pure]; exact h _ _ (Nat.mod_lt _ (Nat.pos_of_ne_zero hn))⟩
theorem draw_order {α : Type} : ∀ (n : Nat) (xs : List α) (s : Shared) (Q : List α -> Shared -> Prop), xs.length = n -> (∀ ys d, List.Perm ys xs -> Q ys { s with drawn := d }) -> wpAny (model prog w) A (drawOrder n xs) Q E s
 | 0, xs, s, Q, e, h => by
  unfold drawOrder
  have := h [] s.drawn (by rw [List.length_eq_zero_iff.mp e])
  exact wpAny_pure this
 | n + 1, [], s, Q, e, h => by simp at e
 | n + 1, x :: xs, s, Q, e, h => by
  unfold drawOrder
  refine wpAny_bind (wp_chosen (by simp) fun i d hi => ?_)
  rw [List.getElem?_eq_getElem hi]
  dsimp only
  refine wpAny_bind (draw_order n _ _ _ (by rw [List.length_eraseIdx_of_lt hi]; omega) fun ys d' hy => wpAny_pure ?_)
  exact h _ d' ((hy.cons _).trans (erase_perm hi))
theorem walk_self {I : Addr} {first : Value} {i : Nat} {a : Addr} {n ep : Nat} {Q : Value -> Shared -> Prop} (hI : s.heap.get? I = some (sItO first i a n ep)) (h : Q (.ref I) s) : wpAny (model prog w) A (pyIter (.ref I)) Q E s := by
 have hT : s.TypeIs (.ref I) "set_iterator" := ⟨_, hI, rfl⟩
 refine wpAny_pyIter_slot hT FS.slot_iter2 (wpAny_call_entry FS.slot_iter2 hT FS.entry_iter2 ?_ (FS.args_iter2 _))
 show wpAny _ _ (ret (.ref I)) _ _ s
 exact wpAny_pure ⟨_, rfl, "set_iterator", _, hT, FS.slot_next.lookup, h⟩
theorem walk_int (hh : A.handled = none) {I a : Addr} (hne : a ≠ I) {o : Obj} {es : Array (Int × Value)} {ep : Nat} {t : SetTable} (hd : o.data = .set es ep t) (hf : t.fits es.size = true) (items : Array Value) (slotf : Nat -> Nat)
  (hnx : ∀ (A : Around) (E : Value -> Shared -> Prop) (s : Shared) (Q : Option (Value × Nat) -> Shared -> Prop) (i : Nat), s.heap.get? a = some o -> i ≤ items.size -> Q (items[i]?.map fun x => (x, slotf (i + 1))) s -> wpAny (model prog w) A (setNext a (slotf i) i ep) Q E s) :
  WalksS prog w A I [I, a] [I] (fun a b => b = a) items.size (fun i v => items[i]? = some v) (fun i s => s.heap.get? I = some (sItO (.int (slotf i) 0) i a es.size ep) /\ s.heap.get? a = some o) where
 sub := fun b hb => by simp at hb; simp [hb]
 grefl := fun _ => rfl
 gtrans := fun _ _ _ h1 h2 => h2.trans h1
 frame := fun _ _ _ _ st _ hk => ⟨hk I (by simp) _ st.1, hk a (by simp) _ st.2⟩
 item := fun i s Q E hi st hQ => by
  refine sn_item (next := slotf (i + 1)) (x := items[i]) st.1 st.2 hd hf (fun A E Q q => hnx A E s Q i st.2 (Nat.le_of_lt hi) (by rw [Array.getElem?_eq_getElem hi]; exact q)) fun h' hI hs => ?_
  refine hQ _ _ (by simp [hi]) ⟨hI, ?_⟩ ⟨fun b o hb e => hs.extBut b o (fun z => hb (by simp [z])) e, rfl, rfl, rfl, Nat.le_refl _⟩
  exact hs.extBut a o hne st.2
 done := fun s Q E st hQ => by
  refine sn_end hh st.1 st.2 hd hf (fun A E Q q => hnx A E s Q items.size st.2 (Nat.le_refl _) (by rw [Array.getElem?_eq_none (Nat.le_refl _)]; exact q)) fun h' hx => ?_
  exact hQ _ ⟨fun b o hb e => hx b o (fun z => hb (by simp [z])) e, rfl, rfl, rfl, Nat.le_refl _⟩
 self := fun _ _ _ _ st hQ => walk_self st.1 hQ
end
section
variable {prog : Program} {w : World} {A : Around} {E : Value -> Shared -> Prop} {s : Shared}
theorem walk_drawn (hh : A.handled = none) {I a p : Addr} (hne : a ≠ I) (hpe : p ≠ I) {o op : Obj} {es : Array (Int × Value)} {ep np : Nat} {t : SetTable} (hd : o.data = .set es ep t) (hf : t.fits es.size = true) {ps : Array Value} (hpd : op.data = .seq ps np) (items : Array Value)
  (hz : items.size = ps.size) (hps : ∀ (i : Nat) (h : i < items.size), ∃ (pl : Nat) (u : Tok) (hs : Int), ps[i]? = some (.int pl u) /\ es[pl]? = some (hs, items[i])) :
  WalksS prog w A I [I, a, p] [I] (fun a b => b = a) items.size (fun i v => items[i]? = some v) (fun i s => s.heap.get? I = some (sItO (.ref p) i a es.size ep) /\ s.heap.get? a = some o /\ s.heap.get? p = some op) where
 sub := fun b hb => by simp at hb; simp [hb]
 grefl := fun _ => rfl
 gtrans := fun _ _ _ h1 h2 => h2.trans h1
 frame := fun _ _ _ _ st _ hk => ⟨hk I (by simp) _ st.1, hk a (by simp) _ st.2.1, hk p (by simp) _ st.2.2⟩
 item := fun i s Q E hi st hQ => by
  obtain ⟨pl, u, hs, e1, e2⟩ := hps i hi
  refine sd_item st.1 st.2.1 hd hf st.2.2 hpd e1 e2 fun h' hI hs => ?_
  exact hQ _ _ (by simp [hi]) ⟨hI, hs.extBut a o hne st.2.1, hs.extBut p op hpe st.2.2⟩ ⟨fun b o hb e => hs.extBut b o (fun z => hb (by simp [z])) e, rfl, rfl, rfl, Nat.le_refl _⟩
 done := fun s Q E st hQ => by
  refine sd_end hh st.1 st.2.1 hd hf st.2.2 hpd (by rw [hz]; exact Array.getElem?_eq_none (Nat.le_refl _)) fun h' hx => ?_
  exact hQ _ ⟨fun b o hb e => hx b o (fun z => hb (by simp [z])) e, rfl, rfl, rfl, Nat.le_refl _⟩
 self := fun _ _ _ _ st hQ => walk_self st.1 hQ
def WalkOf (prog : Program) (w : World) (a : Addr) (ks : List Int) (s : Shared) (It : Addr) (s1 : Shared) : Prop :=
 ∃ (fp : List Addr) (items : Array Value) (St : Nat -> Shared -> Prop), (∀ A' : Around, A'.handled = none -> WalksS prog w A' It fp [It] (fun a b => b = a) items.size (fun i v => items[i]? = some v) St) /\ St 0 s1 /\ It ∈ fp /\ (∀ b ∈ fp, b < s1.heap.objs.size /\ (b = a ∨ s.heap.objs.size ≤ b)) ∧
  s.heap.objs.size ≤ It /\ ∃ ms, IntsAre items.toList ms /\ ms.Perm ks
theorem ints_of_es : ∀ {es : List (Int × Value)}, (∀ e ∈ es, ∃ n u, e = (hashInt n, Value.int n u)) -> IntsAre (es.map (·.2)) (es.map fun e => vInt e.2)
 | [], _ => .nil
 | e :: es, h => by
  obtain ⟨n, u, rfl⟩ := h e List.mem_cons_self
  exact .cons n u (ints_of_es fun x hx => h x (List.mem_cons_of_mem _ hx))
def slotM (t : SetTable) : Nat -> Nat
 | 0 => 0
 | k + 1 => t.place.getD k 0 + 1
theorem below_slot {t : SetTable} (R : Rise t.place) {i : Nat} (h : i ≤ t.place.size) : SetTable.below t.place (slotM t i) = i := by
 cases i with
 | zero => exact below_zero R
 | succ k =>
  have hk : k < t.place.size := by omega
  show SetTable.below t.place (t.place.getD k 0 + 1) = k + 1
  rw [show t.place.getD k 0 = t.place[k] from by simp [Array.getD, hk]]
  exact below_next R hk
theorem iter_set {a : Addr} {ks : List Int} {Q : Value -> Shared -> Prop} (I : IntSet w s.heap a ks) (hb : ks.length ≤ 1000)
  (h : ∀ (It : Addr) (h' : Heap) d, (∀ b o, s.heap.get? b = some o -> h'.get? b = some o) -> WalkOf prog w a ks s It { s with heap := h', drawn := d } -> Q (.ref It) { s with heap := h', drawn := d }) : wpAny (model prog w) A (pyIter (.ref a)) Q E s := by
 obtain ⟨o, es, ep, t, ho, hx, hd, hs, hp, hf, T, hl⟩ := I
 have hT : s.TypeIs (.ref a) "set" := ⟨o, ho, hx.1⟩
 have hlt : a < s.heap.objs.size := Heap.lt_size ho
 refine wpAny_pyIter_slot hT PySem.F.slot_set_iter (wpAny_call_entry PySem.F.slot_set_iter hT FS.entry_iter ?_ (PySem.F.args_set_iter_1 _))
 unfold Builtin.«frozenset.__iter__» Builtin.Frozenset.slot0 slotArgs
 simp only [List.isEmpty_nil, Bool.not_true, Bool.false_eq_true, ↓reduceIte, bind_assoc, List.length_nil, bne_self_eq_false]
 unfold Builtin.Frozenset.addrOf Builtin.Frozenset.sizeOf
 refine wpAny_bind (wpAny_pure ?_)
 try dsimp only
 refine wpAny_bind (wpAny_pure ?_)
 refine wpAny_bind (wpAny_bind (wpAny_setEntries_of ho hd hf (wpAny_pure ?_)))
 unfold setDrawn
 refine wpAny_bind (wpAny_bind (wpAny_setState_of ho hd hf ?_))
 dsimp only
 refine wpAny_bind (byText_eq (wpAny_pure ?_))
 show wpAny _ _ (if (!w.params.followText "set-order" && (!t.plain && decide (es.size > 1))) = true then _ else _) _ _ _
 have hn : es.size = ks.length := by rw [← hp.length_eq, List.length_map, Array.length_toList]
 by_cases c : (!w.params.followText "set-order" && (!t.plain && decide (es.size > 1))) = true
 ·rw [if_pos c]
  refine wpAny_bind (draw_order es.size (List.range es.size) _ _ (by simp) fun ys d hy => ?_)
  refine wpAny_bind (wpAny_newTuple ?_ ?_)
  ·have ho1 : (s.heap.push { cls := .type "tuple", data := .seq (ys.map fun i : Nat => rawInt i).toArray }).get? a = some o := Heap.get?_push_of_some _ ho
   refine wpAny_bind (wpAny_setEpoch_of ho1 hd hf ?_)
   refine wpAny_bind (wpAny_newObj_type ?_ (by size_fits))
   have sz : (s.heap.push { cls := .type "tuple", data := .seq (ys.map fun i : Nat => rawInt i).toArray }).objs.size = s.heap.objs.size + 1 := Heap.size_push ..
   refine wpAny_pure ⟨_, rfl, "set_iterator", _, ⟨_, Heap.get?_push_size _ rfl, rfl⟩, FS.slot_next.lookup, h _ _ d (fun b o e => Heap.get?_push_of_some _ (Heap.get?_push_of_some _ e)) ?_⟩
   have hmem : ∀ i ∈ ys, i < es.size := fun i hi => List.mem_range.mp (hy.mem_iff.mp hi)
   have yl : ys.length = es.size := by rw [hy.length_eq, List.length_range]
   have hpe : s.heap.objs.size ≠ (s.heap.push { cls := .type "tuple", data := .seq (ys.map fun i : Nat => rawInt i).toArray }).objs.size := by rw [sz]; exact Nat.ne_of_lt (Nat.lt_succ_self _)
   have hne : a ≠ (s.heap.push { cls := .type "tuple", data := .seq (ys.map fun i : Nat => rawInt i).toArray }).objs.size := by rw [sz]; exact Nat.ne_of_lt (Nat.lt_succ_of_lt hlt)
   refine ⟨_, (ys.map fun i => (es.getD i (0, .none)).2).toArray, _, fun A' hh => walk_drawn (p := s.heap.objs.size) hh hne hpe hd hf (ps := (ys.map fun i : Nat => rawInt i).toArray) rfl _ (by simp) fun i hi => ?_,
    ⟨Heap.get?_push_size _ rfl, Heap.get?_push_of_some _ ho1, Heap.get?_push_of_some _ (Heap.get?_push_size _ rfl)⟩, by simp, fun b hb => ?_, by rw [sz]; exact Nat.le_succ _, ?_⟩
   ·have hi' : i < ys.length := by simpa using hi
    have hm := hmem _ (List.getElem_mem hi')
    refine ⟨ys[i], 0, (es[ys[i]]).1, ?_, ?_⟩
    ·simp [hi', rawInt]
    ·rw [Array.getElem?_eq_getElem hm]
     simp [Array.getD, hm]
   ·rw [Heap.size_push, sz]
    simp only [List.mem_cons, List.not_mem_nil, or_false] at hb
    rcases hb with rfl | rfl | rfl
    ·rw [sz]; exact ⟨Nat.lt_succ_self _, .inr (Nat.le_succ _)⟩
    ·exact ⟨Nat.lt_succ_of_lt (Nat.lt_succ_of_lt hlt), .inl rfl⟩
    ·exact ⟨Nat.lt_succ_of_lt (Nat.lt_succ_self _), .inr (Nat.le_refl _)⟩
   ·refine ⟨ys.map fun i => vInt (es.getD i (0, .none)).2, ?_, ?_⟩
    ·have all : ∀ {zs : List Nat}, (∀ i ∈ zs, i < es.size) -> IntsAre (zs.map fun i => (es.getD i (0, .none)).2) (zs.map fun i => vInt (es.getD i (0, .none)).2) := by
      intro zs hz
      have := ints_of_es (es := zs.map fun i => es.getD i (0, .none)) fun e he => by
       obtain ⟨i, hi, rfl⟩ := List.mem_map.mp he
       have hm := hz i hi
       rw [show es.getD i (0, .none) = es[i] from by simp [Array.getD, hm]]
       exact hs _ (by simp)
      rw [List.map_map, List.map_map] at this
      exact this
     simpa using all hmem
    ·refine (hy.map _).trans ?_
     have e : (List.range es.size).map (fun i => vInt (es.getD i (0, .none)).2) = es.toList.map fun e => vInt e.2 := by
      apply List.ext_getElem
      ·simp
      ·intro i h1 h2
       have hm : i < es.size := by simpa using h2
       simp [Array.getD, hm]
     rw [e]
     exact hp
  ·rw [List.length_map, hy.length_eq, List.length_range, hn]
   exact Nat.le_trans hb (by decide)
 ·rw [if_neg c]
  refine wpAny_bind (wpAny_pure (wpAny_bind (wpAny_setEpoch_of ho hd hf (wpAny_bind (wpAny_newObj_type ?_ (by size_fits))))))
  have keep : ∀ b o, s.heap.get? b = some o -> (s.heap.push (sItO (.int 0 0) 0 a es.size ep)).get? b = some o := fun b o e => Heap.get?_push_of_some _ e
  refine wpAny_pure ⟨_, rfl, "set_iterator", _, ⟨_, Heap.get?_push_size _ rfl, rfl⟩, FS.slot_next.lookup, h s.heap.objs.size _ s.drawn keep ?_⟩
  have hne : a ≠ s.heap.objs.size := Nat.ne_of_lt hlt
  have sz : (s.heap.push (sItO (.int 0 0) 0 a es.size ep)).objs.size = s.heap.objs.size + 1 := Heap.size_push ..
  have hfp : ∀ b ∈ [s.heap.objs.size, a], b < (s.heap.push (sItO (.int 0 0) 0 a es.size ep)).objs.size /\ (b = a ∨ s.heap.objs.size ≤ b) := fun b hb => by
   rw [sz]
   simp only [List.mem_cons, List.not_mem_nil, or_false] at hb
   rcases hb with rfl | rfl
   ·exact ⟨Nat.lt_succ_self _, .inr (Nat.le_refl _)⟩
   ·exact ⟨Nat.lt_succ_of_lt hlt, .inl rfl⟩
  cases bt : w.params.followText "set-order" with
  | true =>
   refine ⟨_, (pickOrder (w.params.setOrder a ep) es).map (·.2), _, fun A' hh => walk_int hh hne hd hf _ (fun _ => 0) fun A E s Q i hs' hi q => ?_, ⟨Heap.get?_push_size _ rfl, keep _ _ ho⟩, by simp, hfp, Nat.le_refl _, ?_⟩
   ·refine nx_text bt hs' hd hf ?_
    rw [Array.getElem?_map, Option.map_map] at q
    exact q
   ·have pp := pick_perm (w.params.setOrder a ep) es
    refine ⟨_, ?_, (pp.map fun e => vInt e.2).trans hp⟩
    rw [Array.toList_map]
    exact ints_of_es fun e he => hs e (pp.mem_iff.mp he)
  | false =>
   rw [bt] at c hl
   have c' : (!t.plain && decide (es.size > 1)) = false := by simpa using c
   have R : Rise t.place := by
    cases pl : t.plain with
    | true => exact (T pl).2
    | false =>
     rw [pl] at c'
     have h1 : ¬ es.size > 1 := by simpa using c'
     intro i j q hj
     have : t.place.size = es.size := by
      unfold SetTable.fits at hf
      simp only [Bool.and_eq_true, beq_iff_eq, decide_eq_true_eq] at hf
      exact hf.1
     omega
   have hps : t.place.size = es.size := by
    unfold SetTable.fits at hf
    simp only [Bool.and_eq_true, beq_iff_eq, decide_eq_true_eq] at hf
    exact hf.1
   refine ⟨_, es.map (·.2), _, fun A' hh => walk_int hh hne hd hf _ (slotM t) fun A E s Q i hs' hi q => ?_, ⟨Heap.get?_push_size _ rfl, keep _ _ ho⟩, by simp, hfp, Nat.le_refl _, ?_⟩
   ·rw [Array.size_map] at hi
    refine nx_led bt hl c' hs' hd hf ?_
    rw [below_slot R (by omega)]
    rw [Array.getElem?_map, Option.map_map] at q
    by_cases z : i < es.size
    ·rw [Array.getElem?_eq_getElem z] at q ⊢
     rw [Array.getElem?_eq_getElem (show i < t.place.size by omega)]
     have : slotM t (i + 1) = t.place[i]'(by omega) + 1 := by
      show t.place.getD i 0 + 1 = _
      simp [Array.getD, show i < t.place.size by omega]
     simp only [Option.map_some, Function.comp_apply] at q
     rw [this] at q
     exact q
    ·rw [Array.getElem?_eq_none (by omega)] at q ⊢
     exact q
   ·refine ⟨_, ?_, hp⟩
    rw [Array.toList_map]
    exact ints_of_es hs
end
def rExtT (K : PySem.W.Frag) : V -> List V -> Hp -> VK -> Prop := fun x vs H Q => ∃ l b xs zs, x = .ref l /\ vs = [.ref b] /\ H l = some (.lst xs) /\ SqT K H b zs /\ xs.length + zs.length ≤ 1000 /\ Q .non (upd H l (.lst (xs ++ zs)))
theorem intsAre_of : ∀ {ns : List Int} {us : List Value}, Vals (ns.map V.int) us -> IntsAre us ns
 | [], [], _ => .nil
 | i :: ns, u :: us, h => by
  cases h with
  | cons a t =>
   obtain ⟨k, rfl⟩ := (show ∃ k, u = Value.int i k from a)
   exact .cons i k (intsAre_of t)
theorem of_ints : ∀ {ns : List Int} {us : List Value}, IntsAre us ns -> Vals (ns.map V.int) us
 | _, _, .nil => .nil
 | _, _, .cons n t h => .cons ⟨t, rfl⟩ (of_ints h)
def rSort (K : PySem.W.Frag) : List V -> Hp -> VK -> Prop := fun xs H Q => ∃ p ns, xs = [.ref p] /\ (SqL K H p (ns.map V.int) ∨ SqT K H p (ns.map V.int)) /\ ns.length < 64 /\ ∀ (l : Addr) (ms : List Int), ms.Perm ns -> ms.Pairwise (· ≤ ·) -> H l = none -> Q (.ref l) (upd H l (.lst (ms.map V.int)))
section
variable {prog : Program} {w : World} {A : Around} {E : Value -> Shared -> Prop} {s : Shared}
theorem ints_at {acc items : Array Value} {ms : List Int} (h : IntsAre items.toList ms) (hi : ItemsOf (fun i v => items[i]? = some v) acc items.size) : IntsAre acc.toList ms := by
 have e : acc = items := by
  apply Array.ext_getElem?
  intro i
  by_cases c : i < acc.size
  ·have := hi.2 i acc[i] (Array.getElem?_eq_getElem c)
   rw [this, Array.getElem?_eq_getElem c]
  ·rw [Array.getElem?_eq_none (by omega), Array.getElem?_eq_none (by have := hi.1; omega)]
 rw [e]; exact h
theorem collect_set {a : Addr} {ks : List Int} {Q : List Value -> Shared -> Prop} (hh : A.handled = none) (I : IntSet w s.heap a ks) (hb : ks.length ≤ 1000)
  (h : ∀ (items : List Value) (ms : List Int) h' d tk, IntsAre items ms -> ms.Perm ks -> (∀ b o, s.heap.get? b = some o -> h'.get? b = some o) -> Q items { s with heap := h', drawn := d, toks := tk }) : wpAny (model prog w) A (collect (.ref a)) Q E s := by
 have hlt : a < s.heap.objs.size := by obtain ⟨o, _, _, _, ho, _⟩ := I; exact Heap.lt_size ho
 have hSa : s.heap.objs.size ≠ a := Nat.ne_of_gt hlt
 unfold collect
 refine wpAny_bind (wpAny_runValue (codeAny_builtin PySem.F.entry_proto_collect ?_))
 rw [Around.under_plainId PySem.F.plain_proto_collect _]
 show wpAny _ A.in1 (newList [] >>= fun l => again (.builtin "list.__iadd__" ⟨[l, .ref a], []⟩)) _ _ s
 refine wpAny_bind (wpAny_newObj_type ?_)
 refine wpAny_pure ⟨plainId_quiet PySem.F.plain_list_iadd _, codeAny_builtin PySem.F.entry_list_iadd ?_⟩
 rw [Around.under_plainId PySem.F.plain_list_iadd _]
 have I1 : IntSet w (s.heap.push { cls := .type "list", data := .seq ([] : List Value).toArray }) a ks := I.at fun o e => Heap.get?_push_of_some _ e
 have hS₁ : (s.heap.push { cls := .type "list", data := .seq ([] : List Value).toArray }).get? s.heap.objs.size = some { cls := .type "list", data := .seq ([] : List Value).toArray } := Heap.get?_push_size _ rfl
 show wpAny _ A.in1 (Builtin.List.listExtendWith (.ref s.heap.objs.size) (.ref a) (.ref s.heap.objs.size)) _ _ _
 unfold Builtin.List.listExtendWith
 have tys : ∀ (h : Heap) (s1 : Shared), IntSet w h a ks -> s1.heap = h -> s1.TypeIs (.ref a) "set" := fun h s1 J e => by
  obtain ⟨o, _, _, _, ho, hx, _⟩ := J
  exact ⟨o, by rw [e]; exact ho, hx.1⟩
 refine wpAny_bind (wpAny_typeOf (tys _ _ I1 rfl) ?_)
 have h1 : Builtin.List.listSameRef (.ref s.heap.objs.size) (.ref a) = false := by simp [Builtin.List.listSameRef, hSa]
 have h2 : (Value.type "set" == Value.type "list") = false := by decide
 have h3 : (Value.type "set" == Value.type "tuple") = false := by decide
 simp only [h1, h2, h3, Bool.or_false, Bool.false_eq_true, if_false]
 refine wpAny_bind (iter_set (prog := prog) I1 hb fun It h' d keep W => ?_)
 obtain ⟨fp, items, St, W, st, hI, hfp, hge, ms, hms, hpm⟩ := W
 have sz : (s.heap.push { cls := .type "list", data := .seq ([] : List Value).toArray }).objs.size = s.heap.objs.size + 1 := Heap.size_push ..
 refine wpAny_bind (wpAny_holding ?_)
 unfold Builtin.List.listLengthHint
 have I2 : IntSet w h' a ks := I1.at fun o e => keep a o e
 have t2 := tys h' { s with heap := h', drawn := d } I2 rfl
 refine wpAny_bind (wpAny_specialOf t2 PySem.F.slot_set_len.lookup ?_)
 (generalize hid : ("set.__len__" : String) = id0; (fail_if_success (clear hid id0)); wp_delta; rw [show splitId id0 = some ("set", "__len__") from by subst hid; decide +kernel]; subst hid)
 refine wpAny_bind (wpAny_isInstance (b := true) t2 sub_set_self ?_)
 show wpAny _ A.in1 (typeOf (Value.ref a) >>= _) _ _ _
 refine wpAny_bind (wpAny_typeOf t2 (wpAny_pure ?_))
 have hS2 : h'.get? s.heap.objs.size = some { cls := .type "list", data := .seq ([] : List Value).toArray } := keep _ _ hS₁
 have hSf : s.heap.objs.size ∉ fp := fun hm => by
  rcases (hfp _ hm).2 with e | e
  ·exact hSa e
  ·rw [sz] at e; exact Nat.not_succ_le_self _ e
 show wpAny _ A.in1 (rule "list.extend.makes-room" >>= fun _ => Builtin.List.listTouch (.ref s.heap.objs.size) >>= fun _ =>
  again (.builtin "list.extend.loop" ⟨[.ref s.heap.objs.size, .ref It, .ref s.heap.objs.size], []⟩)) _ _ _
 refine wpAny_bind (wpAny_rule (wpAny_bind ?_))
 show wpAny _ A.in1 (updateSeq s.heap.objs.size (·.push .none) >>= fun _ => updateSeq s.heap.objs.size (·.pop)) _ _ _
 refine wpAny_bind (wpAny_updateSeq hS2 rfl ?_)
 have hS3 := Heap.get?_update_self (Obj.mapSeq (·.push Value.none)) hS2 rfl
 refine wpAny_updateSeq hS3 rfl ?_
 have hS4 := Heap.get?_update_self (Obj.mapSeq (·.pop)) hS3 rfl
 have oth : ∀ b o, b ≠ s.heap.objs.size -> h'.get? b = some o -> ((h'.update s.heap.objs.size (Obj.mapSeq (·.push Value.none))).update s.heap.objs.size (Obj.mapSeq (·.pop))).get? b = some o :=
  fun b o hb e => (Heap.get?_update_other _ _ (Ne.symm hb)).trans ((Heap.get?_update_other _ _ (Ne.symm hb)).trans e)
 have hn : items.size ≤ sizeLine := by
  rw [← Array.length_toList, IntsAre.length hms, hpm.length_eq]
  exact Nat.le_trans hb (by decide)
 have W1 := W A.in1 (by simp [hh])
 refine wpAny_pure ⟨plainId_quiet PySem.F.plain_extend_loop _, codeAny_extend_loopS W1 hn _ hSf _ items.size 0 _ _ _ rfl (Nat.zero_le _)
  (W1.frame 0 ({ s with heap := h', drawn := d } : Shared) _ s.toks st (Nat.le_refl _) fun b hb o e => oth b o (fun h => hSf (h ▸ hb)) e) hS4 (ItemsOf.nil _) fun s' acc' c' hm hS' hacc => ?_⟩
 show wpAny _ A (load s.heap.objs.size >>= _) _ _ s'
 refine wpAny_bind (wpAny_load hS' (wpAny_pure ?_))
 obtain ⟨h3, g3, d3, t3, o3⟩ := s'
 obtain rfl : g3 = s.gens := hm.gens
 obtain rfl : d3 = d := hm.drawn
 obtain rfl : o3 = s.os := hm.os
 refine h acc'.toList ms h3 d3 t3 (ints_at hms hacc) hpm fun b o e => ?_
 have hb1 : b < s.heap.objs.size := Heap.lt_size e
 refine hm.heap b o ?_ (oth b o (Nat.ne_of_lt hb1) (keep b o (Heap.get?_push_of_some _ e)))
 simp only [List.mem_cons, List.not_mem_nil, or_false, not_or]
 exact ⟨Nat.ne_of_lt hb1, Nat.ne_of_lt (Nat.lt_of_lt_of_le hb1 (Nat.le_trans (Nat.le_succ _) (show s.heap.objs.size + 1 ≤ It from by rw [← sz]; exact hge)))⟩
end
theorem Inv.drew {X : Cx} {pins : List (Addr × Obj)} {σ : L2.St} {H : Hp} {s : Shared} (d : Drawn) (I : L2.Inv X pins σ H s) : L2.Inv X pins σ H { s with drawn := d } :=
 ⟨I.ok, I.os, I.bare, I.base, I.loc, I.cell, I.free, I.freeC, I.pin, I.hok, I.len⟩
def setO (w : World) (a : Addr) (ks : List Int) : HO := .ext fun h => IntSet w h a ks
theorem setO_ok {P : Program} {w : World} {H : Hp} {h : Heap} {a : Addr} {ks : List Int} (e : IntSet w h a ks) : ObjOk P w H h a (setO w a ks) :=
 ⟨e, let ⟨o, _, _, _, q, _⟩ := e; ⟨o, q⟩, fun _ _ q k => q.at k⟩
def rSetO (w : World) (K : PySem.W.Frag) : List V -> Hp -> VK -> Prop := fun xs H Q => ∃ p ns, xs = [.ref p] /\ (SqL K H p (ns.map V.int) ∨ SqT K H p (ns.map V.int)) /\ ns.length ≤ 1000 /\ ∀ l, H l = none -> Q (.ref l) (upd H l (setO w l (oneEach ns)))
theorem call_setO {X : Cx} (hc : X.calm = true) : CallR X (.type "set") (rSetO X.w X.K) := by
 intro pins s σ H xs us Q I r h
 obtain ⟨p, ns, rfl, hq, hz, q⟩ := h
 obtain ⟨u, rfl, rx⟩ := vals1 r
 cases rx
 have go : ∀ (its : List Value) (T : String) (o : Obj) (n : Nat), Vals (ns.map V.int) its -> (T = "list" ∨ T = "tuple") -> s.heap.get? p = some o -> o.cls = .type T -> o.data = .seq its.toArray n →
   wpAny (model X.prog X.w) X.A (call (.type "set") [.ref p]) (EP X pins σ Q) X.xe s := fun its T o n rv hT ho hc' hd => by
  have hl := rv.length
  rw [List.length_map] at hl
  refine ia_call (ns := ns) hT (I.ok.hd hc) ho hc' hd (by simpa using intsAre_of rv) (by rw [List.size_toArray, ← hl]; unfold scanBound; omega) fun h' tk hS hk => ?_
  exact ⟨.ref s.heap.objs.size, _, I.laid (a := s.heap.objs.size) (o := setO X.w s.heap.objs.size (oneEach ns)) (t' := tk) (fun b o e => hk b o (Heap.lt_size e) e) (Nat.le_refl _) (setO_ok hS), rfl, q _ (I.hok.fresh (Nat.le_refl _))⟩
 rcases hq with hq | hq
 ·obtain ⟨its, r', pl, _⟩ := I.list hq
  obtain ⟨o, ho, hc', n, hd⟩ := pl.isList
  exact go its "list" o n r' (.inl rfl) ho hc' hd
 ·obtain ⟨its, r', ⟨o, ho, hc', n, hd⟩, _⟩ := I.tuple hq
  exact go its "tuple" o n r' (.inr rfl) ho hc' hd
def rSortS (w : World) : List V -> Hp -> VK -> Prop := fun xs H Q => ∃ p ks, xs = [.ref p] /\ H p = some (setO w p ks) /\ ks.length < 64 /\ ∀ (l : Addr) (ms : List Int), ms.Perm ks -> ms.Pairwise (· ≤ ·) -> H l = none -> Q (.ref l) (upd H l (.lst (ms.map V.int)))
theorem call_sortedS {X : Cx} (hc : X.calm = true) : CallR X (.builtin "sorted") (rSortS X.w) := by
 intro pins s σ H xs us Q I r h
 obtain ⟨p, ks, rfl, hp, h64, q⟩ := h
 obtain ⟨u, rfl, rx⟩ := vals1 r
 cases rx
 have S : IntSet X.w s.heap p ks := (show ObjOk X.prog X.w H s.heap p (setO X.w p ks) from I.hok p _ hp).1
 refine Calls.call_function_entry kind_sorted plain_sorted entry_sorted (args_sorted1 (.ref p)) ?_
 unfold Builtin.«sorted»
 refine wpAny_bind (m := checkCount "sorted" 1 1 _) (wpAny_pure (wpAny_bind (collect_set (by simp [I.ok.hd hc]) S (by omega) fun its ns h1 d tk hi hpm kp => ?_)))
 have hln : its.length < 64 := by rw [IntsAre.length hi, hpm.length_eq]; exact h64
 have sz : its.length ≤ sizeLine := Nat.le_trans (Nat.le_of_lt hln) (by decide)
 refine wpAny_bind (wpAny_newList ?_ sz)
 have hoL : (h1.push (seqObj "list" its.toArray 0)).get? h1.objs.size = some (seqObj "list" its.toArray 0) := Heap.get?_push_size _ rfl
 show wpAny _ _ _ _ _ { s with heap := h1.push (seqObj "list" its.toArray 0), drawn := d, toks := tk }
 refine wpAny_bind (wpAny_holding (wpAny_call_entry slot_list_sort ⟨_, hoL, rfl⟩ entry_list_sort (list_sort_tree hoL (by simpa using hi) hln fun out ms a1 a2 a3 => ⟨_, rfl, wpAny_pure ⟨_, rfl, ?_⟩⟩) (args_list_sort _)))
 have I1 : L2.Inv X pins σ H { s with heap := h1, drawn := d, toks := tk } := Inv.drew d (I.kept (t' := tk) kp)
 obtain ⟨ep, he⟩ := sortedHeap_at (out := out) hoL
 have lm : (ms.map V.int).length ≤ sizeLine := by rw [List.length_map, a2.length_eq, hpm.length_eq]; exact Nat.le_trans (Nat.le_of_lt h64) (by decide)
 refine ⟨.ref h1.objs.size, _, I1.laid (a := h1.objs.size) (o := .lst (ms.map V.int)) (t' := tk) (fun b u hb => ?_) (Nat.le_refl _) ⟨lm, out.toList, ep, of_ints a1, by simpa using he⟩, rfl, q _ ms (a2.trans hpm) a3 (I1.hok.fresh (Nat.le_refl _))⟩
 have hlt : b < h1.objs.size := Heap.lt_size hb
 rw [sortedHeap_old (Nat.ne_of_lt hlt) (by rw [size_push']; exact Nat.lt_succ_of_lt hlt)]
 exact Heap.get?_push_of_some _ hb
def tRng2 (ta : TA) : TE := fun σ H Q => ta σ H fun vs H1 => ∃ i j : Int, vs = [.int i, .int j] /\ ∀ p, H1 p = none -> Q (.ref p) (upd H1 p (.rng i j))
theorem pe_rng2 {X : Cx} {a b : Expr} {ta : TA} {p pos : Pos} (hg : Gl X "range") (hm : X.mg "range" = none) (ha : PA X [a, b] ta) (hs : starEach [a, b] X.env = [(false, eval a X.env), (false, eval b X.env)] := by rfl) (hs2 : starEach [b] X.env = [(false, eval b X.env)] := by rfl) :
  PE X (.Call (.Name "range" p) [a, b] [] pos) (tRng2 ta) := by
 intro pins s σ H Q I h
 refine Call_ (ld_blt I hg hm boot_range (PyProof.Rows.callWith_type1 (thn (ha pos pins s σ H _ I h) fun us s1 ⟨vs, H1, I1, r1, q1⟩ => ?_) (by rw [hs, hs2]) (by rw [hs2]; rfl)))
 obtain ⟨i, j, e, q⟩ := q1
 subst e
 obtain ⟨u, v, rfl, ⟨t, rfl⟩, ⟨t', rfl⟩⟩ := vals2 r1
 refine call_range_2 ?_
 exact ⟨.ref s1.heap.objs.size, _, I1.laid (t' := s1.toks + 1) (o := .rng i j) (fun b o e => Heap.get?_push_of_some _ e) (Nat.le_refl _) ⟨t, t', s1.toks, Heap.get?_push_size _ rfl⟩, rfl, q _ (I1.hok.fresh (Nat.le_refl _))⟩
def rNotInR : R2 := fun x y H Q => ∃ (i : Int) (p : Addr) (lo hi : Int), x = .int i /\ y = .ref p /\ H p = some (.rng lo hi) /\ Q (.bl (!(decide (lo ≤ i) && decide (i < hi)))) H
section
set_option autoImplicit true
set_option relaxedAutoImplicit true
theorem qe_rng2  {X : Cx} {a b : Expr} {ta : TA} {p pos : Pos} (hg : Gl X "range") (hm : X.mg "range" = none) (ha : QA X [a, b] ta) (hs : starEach [a, b] X.env = [(false, eval a X.env), (false, eval b X.env)] := by rfl) (hs2 : starEach [b] X.env = [(false, eval b X.env)] := by rfl) : QE X (.Call (.Name "range" p) [a, b] [] pos) (tRng2 ta) := ⟨pe_rng2 hg hm ha.p hs hs2⟩
end
theorem comp_fmT {α β : Type} {K : PySem.W.Frag} {H : Hp} {D a : Addr} {xs : List V} {ds : List α} {P : Hp -> V -> β -> Prop} {f : α -> β} {p : α -> Bool} {src : List (Option Nat)} {σ : L2.St} {g : TG} {tt : TT} {te : TE} {Q : Hp -> Prop}
  (mono : ∀ H H' v d, Tst K H H' -> P H v d -> P H' v d) (hD : H D = none) (hS : SqT K H a xs) (hl : xs.length = ds.length) (hn : ds.length ≤ 1000)
  (turn : ∀ (i : Nat) (x : V) (d : α) (H' : Hp), xs[i]? = some x -> ds[i]? = some d -> Same H H' -> ∀ (R : VK) (E : Hp -> Prop), (p d = true -> ∀ v H'', Same H' H'' -> P H'' v (f d) -> R v H'') -> (p d = false -> ∀ H'', Same H' H'' -> E H'') →
   g x (frees src σ) H' fun σ2 H2 => Ext (frees src σ) σ2 /\ tt σ2 H2 fun ok H3 => if ok = true then te σ2 H3 R else E H3)
  (fin : ∀ H' ys, Same H H' -> H' D = some (.lst ys) -> Als (P H') ys ((ds.filter p).map f) -> Q H') :
  ∃ W : Nat -> Nat -> List V -> Hp -> Prop, (∃ m, W 0 m [] (upd H D (.lst []))) /\ ∀ i m ys H, W i m ys H -> ((Itt K a).stop i H /\ Q H) ∨ ((Itt K a).go i H /\ ∀ x H', (Itt K a).yld i H x H' →
   g x (frees src σ) H' fun σ2 H2 => Ext (frees src σ) σ2 /\ tt σ2 H2 fun ok H3 =>
    if ok = true then te σ2 H3 fun y H4 => H4 D = some (.lst ys) /\ ys.length < sizeLine /\ ∃ m', m' < m /\ W (i + 1) m' (ys ++ [y]) (upd H4 D (.lst (ys ++ [y]))) else ∃ m', m' < m /\ W (i + 1) m' ys H3) := by
 refine ⟨fun i m ys H' => i ≤ ds.length /\ m = ds.length - i /\ H' D = some (.lst ys) /\ Same H H' /\ Als (P H') ys (((ds.take i).filter p).map f), ⟨_, Nat.zero_le _, rfl, upd_same, same_new hD _, .nil⟩, ?_⟩
 rintro i m ys H1 ⟨hi, rfl, d1, s1, al1⟩
 have hS1 : SqT K H1 a xs := Tst.same s1 _ _ hS
 by_cases hix : i < ds.length
 ·have hx0 : xs[i]? = some (xs[i]'(by omega)) := List.getElem?_eq_getElem _
  refine .inr ⟨⟨xs, _, hS1, hx0⟩, ?_⟩
  rintro x H2 ⟨rfl, hy⟩
  have hx := hy xs hS1
  obtain ⟨d, hd⟩ : ∃ d, ds[i]? = some d := ⟨_, List.getElem?_eq_getElem hix⟩
  have tk : ds.take (i + 1) = ds.take i ++ [d] := by rw [List.take_add_one, hd]; rfl
  refine turn i x d _ hx hd s1 _ _ (fun o3 v H3 s3 p3 => ?_) fun n3 H3 s3 => ?_
  ·have d3 : H3 D = some (.lst ys) := s3 _ _ d1
   have tm : Tst K H2 (upd H3 D (.lst (ys ++ [v]))) := (Tst.same s3).trans (Tst.up d3 _)
   have ly : ys.length ≤ 1000 := by
    rw [al1.len, List.length_map]
    exact Nat.le_trans (List.length_filter_le _ _) (by rw [List.length_take]; omega)
   refine ⟨d3, small1000 ly, ds.length - (i + 1), by omega, hix, rfl, upd_same, fun b o q => ?_, ?_⟩
   ·rw [upd_ne (ne_of_none q hD)]
    exact s3 _ _ (s1 _ _ q)
   ·rw [tk, List.filter_append, List.filter_cons_of_pos o3, List.filter_nil, List.map_append]
    exact (al1.mono fun v d p => mono _ _ _ _ tm p).snoc (mono _ _ _ _ (Tst.up d3 _) p3)
  ·refine ⟨ds.length - (i + 1), by omega, hix, rfl, s3 _ _ d1, s1.trans s3, ?_⟩
   rw [tk, List.filter_append, List.filter_cons_of_neg (by rw [n3]; decide), List.filter_nil, List.append_nil]
   exact al1.mono fun v d p => mono _ _ _ _ (Tst.same s3) p
 ·have e : i = ds.length := by omega
  subst e
  rw [List.take_length] at al1
  exact .inl ⟨⟨xs, hS1, by omega⟩, fin H1 ys s1 d1 al1⟩
def frmTo (lo n : Nat) : List Nat := (List.range n).map fun i => lo + i
theorem vals_from {lo : Nat} {acc : Array Value} {n : Nat} (h : ItemsOf (fun i v => ∃ t, v = .int ((lo : Int) + i * 1) t) acc n) : Vals ((frmTo lo n).map fun i : Nat => V.int i) acc.toList := by
 obtain ⟨hl, ha⟩ := h
 have key : ∀ m, m ≤ n -> Vals ((frmTo lo m).map fun i : Nat => V.int i) (acc.toList.take m) := by
  intro m
  induction m with
  | zero => intro _; rw [List.take_zero]; exact .nil
  | succ m ih =>
   intro hm
   have hlt : m < acc.size := by omega
   have e1 : acc.toList.take (m + 1) = acc.toList.take m ++ [acc[m]] := by rw [List.take_add_one]; simp [hlt]
   have e2 : ((frmTo lo (m + 1)).map fun i : Nat => V.int i) = ((frmTo lo m).map fun i : Nat => V.int i) ++ [V.int ((lo + m : Nat) : Int)] := by unfold frmTo; rw [List.range_succ]; simp
   rw [e1, e2]
   refine (ih (by omega)).append (.cons ?_ .nil)
   obtain ⟨t, e⟩ := ha m acc[m] (by simp [hlt])
   exact ⟨t, by rw [e]; simp⟩
 have := key n (Nat.le_refl _)
 rwa [List.take_of_length_le (by simp [hl])] at this
def rLsR : List V -> Hp -> VK -> Prop := fun xs H Q => ∃ p, ∃ lo n : Nat, xs = [.ref p] /\ H p = some (.rng (lo : Int) ((lo + n : Nat) : Int)) /\ lo + n ≤ 1000 /\ ∀ l, H l = none -> Q (.ref l) (upd H l (.lst ((frmTo lo n).map fun i : Nat => V.int i)))
theorem call_listR2 {X : Cx} (hc : X.calm = true) : CallR X (.type "list") rLsR := by
 intro pins s σ H xs us Q I r h
 obtain ⟨p, lo, n, rfl, hp, hn, q⟩ := h
 obtain ⟨u, rfl, rx⟩ := vals1 r
 cases rx
 obtain ⟨t, u, w, e⟩ := (show ObjOk X.prog X.w H s.heap p (.rng (lo : Int) ((lo + n : Nat) : Int)) from I.hok p _ hp)
 refine call_list_range (n := n) (I.ok.hd hc) (show IsRange s.heap p (lo : Int) ((lo + n : Nat) : Int) 1 t u w from e) (small_one (by omega) (by omega) (by omega) (by omega)) (by rw [rangeSize_one]; split <;> omega) (by omega) fun h' tk acc c' hk hS hi => ?_
 have rv := vals_from hi
 have hl : ((frmTo lo n).map fun i : Nat => V.int i).length = n := by unfold frmTo; simp
 have I2 : Inv X pins σ (upd H s.heap.objs.size (.lst ((frmTo lo n).map fun i : Nat => V.int i))) { s with heap := h', toks := tk } :=
  I.laid (t' := tk) hk (Nat.le_refl _) (show ObjOk X.prog X.w _ _ _ (.lst ((frmTo lo n).map fun i : Nat => V.int i)) from ⟨by rw [hl, sizeLine_eq]; omega, acc.toList, c', rv, by simpa using hS⟩)
 exact ⟨.ref s.heap.objs.size, _, I2, rfl, q _ (I.hok.fresh (Nat.le_refl _))⟩
theorem boot_setT : bootBuiltins "set" = some (.type "set") := by kernel_rfl
end B
namespace My
open PySem L2 B PyProof.Rows
theorem qsA {X : Cx} {pos : Pos} (i : Nat) {x : Str} {e : Expr} {te : TE} {pos' : Pos} (hN : X.N.Nodup) (he : QE X e te) (hi : X.N[i]? = some x := by rfl) (hx : Loc X.env.scope x := by first | exact Or.inl rfl | exact Or.inr rfl) (hs : swapsWith e (some (.Name x pos')) pos.line X.env = pure false := by rfl) (hf : X.fn x = true ∨ X.env.scope.names.lookup x = some .local := by first | exact .inl rfl | exact .inr rfl | assumption) : QS X (.Assign [.Name x pos'] e pos) (tAsg te (gName i)) := qs_set hN hi hx he hs hf
theorem scA {N P : List Str} {sc : Scope} (a : sc.kind = .function := by rfl) (b : sc.isCoroutine = false := by rfl) (c : sc.isGenerator = false := by rfl) (d : N.Nodup := by decide +kernel) (e : N.take P.length = P := by rfl) (f : ∀ x ∈ P, sc.names.lookup x = some .local ∨ sc.names.lookup x = some .cell := by decide +kernel) (g : ∀ y ∈ sc.names, y.2 ≠ .free := by decide +kernel) : FnScope N P sc := ⟨a, b, c, d, e, f, g⟩
theorem qcA {X : Cx} {k j : Nat} {f : Addr} {fd : FuncData} {ps : List Str} {sp : Sp} {x : Str} {p pos : Pos} {e : Expr} {es : List Expr} {t : TA} (F : FnOk X.prog X.w X.K X.mg X.base CX0 k f fd ps sp) (hr : Room j X.A) (hm : X.mg x = some (.ref f)) (hk : PySem.W.keepIn X.K (.ref f) = true) (hb : Binds X.K fd ps []) (ha : QA X (e :: es) t) (hl : k ≤ j := by decide) (hg : Gl X x := by rfl) (hdb : (x == ("__debug__" : Str)) = false := by decide) (he : starEach (e :: es) X.env = (false, eval e X.env) :: starEach es X.env := by rfl) (hpl : (backTo pos (starEach es X.env)).any (·.1) = false := by rfl) : QE X (.Call (.Name x p) (e :: es) [] pos) (tCall sp [] E0 t) := qe_call F (hr.mono hl) hg hm hk hb .nil pass0 ha hdb he hpl
theorem qxA {X : Cx} {a b : Expr} {ta tb : TE} {pos : Pos} {r : R2} (hr : IxR X r) (ha : QE X a ta) (hb : QE X b tb) (hs : PlainIx b := by exact fun _ _ => rfl) : QE X (.Subscript a b pos) (tOp r ta tb) := qe_ix hr ha hb hs
theorem bdA {K : PySem.W.Frag} {x qual : Str} {st : Stmt} {f : Addr} {fd : FuncData} {ps : List Str} (F : Fun K x qual st f fd) (h : ∀ (kV doc pm : Value) (an : Option Addr) (cdv ct : Value) (us : List Value), us.length = ps.length -> bindArgs (PySem.W.fnOf x qual (defArgs st) (defBody st) (defScope st) .none kV doc pm an cdv ct) ⟨us, []⟩ = pure (ps.zip us) := by
 intro _ _ _ _ _ _ us hl
 match us, hl with
 | [], h2 => first | rfl | (simp at h2)
 | [_], h2 => first | rfl | (simp at h2)
 | [_, _], h2 => first | rfl | (simp at h2)
 | [_, _, _], h2 => first | rfl | (simp at h2)
 | [_, _, _, _], h2 => first | rfl | (simp at h2)
 | _ :: _ :: _ :: _ :: _ :: _, h2 => simp at h2) : Binds K fd ps [] := F.binds h
def top (i : Nat) : Stmt := PySem.Challenge.pw_paceplan_k30_weights_and_densities.main.body.getD i (.Pass ⟨0, 0, 0, 0⟩)
abbrev s_Q0 : Stmt := top 5
abbrev s_Q12 : Stmt := top 6
abbrev s_Q15 : Stmt := top 7
abbrev s_Q13 : Stmt := top 8
abbrev s_Q16 : Stmt := top 9
abbrev s_Q14 : Stmt := top 10
abbrev s_Q7 : Stmt := top 12
abbrev s_Q11 : Stmt := top 13
abbrev s_Q8 : Stmt := top 14
abbrev s_Q4 : Stmt := top 16
abbrev s_Q5 : Stmt := top 17
abbrev s_Q1 : Stmt := top 18
abbrev s_Q6 : Stmt := top 19
abbrev s_Q9 : Stmt := top 20
abbrev s_Q10 : Stmt := top 21
abbrev s_Q2 : Stmt := top 22
abbrev s_Q3 : Stmt := top 23
abbrev s_Q17 : Stmt := top 24
structure Ad where
 a_Q0 : Addr
 d_Q0 : FuncData
 a_Q12 : Addr
 d_Q12 : FuncData
 a_Q15 : Addr
 d_Q15 : FuncData
 a_Q13 : Addr
 d_Q13 : FuncData
 a_Q16 : Addr
 d_Q16 : FuncData
 a_Q14 : Addr
 d_Q14 : FuncData
 a_Q7 : Addr
 d_Q7 : FuncData
 a_Q11 : Addr
 d_Q11 : FuncData
 a_Q8 : Addr
 d_Q8 : FuncData
 a_Q4 : Addr
 d_Q4 : FuncData
 a_Q5 : Addr
 d_Q5 : FuncData
 a_Q1 : Addr
 d_Q1 : FuncData
 a_Q6 : Addr
 d_Q6 : FuncData
 a_Q9 : Addr
 d_Q9 : FuncData
 a_Q10 : Addr
 d_Q10 : FuncData
 a_Q2 : Addr
 d_Q2 : FuncData
 a_Q3 : Addr
 d_Q3 : FuncData
 a_Q17 : Addr
 d_Q17 : FuncData
 c_NOUGHT : Addr
structure Txt (K : PySem.W.Frag) (mg : Str -> Option Value) (t : Ad) : Prop where
 F_Q0 : Fun K "greatest_divisor" "greatest_divisor" s_Q0 t.a_Q0 t.d_Q0
 b_Q0 : Binds K t.d_Q0 ["one", "other"] []
 m_Q0 : mg "greatest_divisor" = some (.ref t.a_Q0)
 F_Q12 : Fun K "ratio" "ratio" s_Q12 t.a_Q12 t.d_Q12
 b_Q12 : Binds K t.d_Q12 ["top", "bottom"] []
 m_Q12 : mg "ratio" = some (.ref t.a_Q12)
 F_Q15 : Fun K "plus" "plus" s_Q15 t.a_Q15 t.d_Q15
 b_Q15 : Binds K t.d_Q15 ["one", "other"] []
 m_Q15 : mg "plus" = some (.ref t.a_Q15)
 F_Q13 : Fun K "times" "times" s_Q13 t.a_Q13 t.d_Q13
 b_Q13 : Binds K t.d_Q13 ["one", "other"] []
 m_Q13 : mg "times" = some (.ref t.a_Q13)
 F_Q16 : Fun K "over" "over" s_Q16 t.a_Q16 t.d_Q16
 b_Q16 : Binds K t.d_Q16 ["one", "other"] []
 m_Q16 : mg "over" = some (.ref t.a_Q16)
 F_Q14 : Fun K "total" "total" s_Q14 t.a_Q14 t.d_Q14
 b_Q14 : Binds K t.d_Q14 ["some"] []
 m_Q14 : mg "total" = some (.ref t.a_Q14)
 F_Q7 : Fun K "lies_in" "lies_in" s_Q7 t.a_Q7 t.d_Q7
 b_Q7 : Binds K t.d_Q7 ["work", "turns"] []
 m_Q7 : mg "lies_in" = some (.ref t.a_Q7)
 F_Q11 : Fun K "weight" "weight" s_Q11 t.a_Q11 t.d_Q11
 b_Q11 : Binds K t.d_Q11 ["works", "turns"] []
 m_Q11 : mg "weight" = some (.ref t.a_Q11)
 F_Q8 : Fun K "density" "density" s_Q8 t.a_Q8 t.d_Q8
 b_Q8 : Binds K t.d_Q8 ["works", "turns"] []
 m_Q8 : mg "density" = some (.ref t.a_Q8)
 F_Q4 : Fun K "_law_tape" "_law_tape" s_Q4 t.a_Q4 t.d_Q4
 b_Q4 : Binds K t.d_Q4 ["_law_script"] []
 m_Q4 : mg "_law_tape" = some (.ref t.a_Q4)
 F_Q5 : Fun K "_law_draw" "_law_draw" s_Q5 t.a_Q5 t.d_Q5
 b_Q5 : Binds K t.d_Q5 ["_law_tape_here", "_law_many"] []
 m_Q5 : mg "_law_draw" = some (.ref t.a_Q5)
 F_Q1 : Fun K "_law_alike" "_law_alike" s_Q1 t.a_Q1 t.d_Q1
 b_Q1 : Binds K t.d_Q1 ["_law_due", "_law_found"] []
 m_Q1 : mg "_law_alike" = some (.ref t.a_Q1)
 F_Q6 : Fun K "_law_frac" "_law_frac" s_Q6 t.a_Q6 t.d_Q6
 b_Q6 : Binds K t.d_Q6 ["_law_top", "_law_bottom"] []
 m_Q6 : mg "_law_frac" = some (.ref t.a_Q6)
 F_Q9 : Fun K "_law_add" "_law_add" s_Q9 t.a_Q9 t.d_Q9
 b_Q9 : Binds K t.d_Q9 ["_law_one", "_law_other"] []
 m_Q9 : mg "_law_add" = some (.ref t.a_Q9)
 F_Q10 : Fun K "_law_mul" "_law_mul" s_Q10 t.a_Q10 t.d_Q10
 b_Q10 : Binds K t.d_Q10 ["_law_one", "_law_other"] []
 m_Q10 : mg "_law_mul" = some (.ref t.a_Q10)
 F_Q2 : Fun K "_law_works" "_law_works" s_Q2 t.a_Q2 t.d_Q2
 b_Q2 : Binds K t.d_Q2 ["_law_tape_here", "_law_many"] []
 m_Q2 : mg "_law_works" = some (.ref t.a_Q2)
 F_Q3 : Fun K "_law_turns" "_law_turns" s_Q3 t.a_Q3 t.d_Q3
 b_Q3 : Binds K t.d_Q3 ["_law_tape_here", "_law_works_here"] []
 m_Q3 : mg "_law_turns" = some (.ref t.a_Q3)
 F_Q17 : Fun K "law" "law" s_Q17 t.a_Q17 t.d_Q17
 b_Q17 : Binds K t.d_Q17 ["_law_script"] []
 m_Q17 : mg "law" = some (.ref t.a_Q17)
 m_NOUGHT : mg "NOUGHT" = some (.ref t.c_NOUGHT)
 q_NOUGHT : ∀ H, SqT K H t.c_NOUGHT [.int (0), .int (1)]
 z_abs : mg "abs" = none
 z_all : mg "all" = none
 z_bool : mg "bool" = none
 z_int : mg "int" = none
 z_isinstance : mg "isinstance" = none
 z_len : mg "len" = none
 z_list : mg "list" = none
 z_range : mg "range" = none
 z_repr : mg "repr" = none
 z_set : mg "set" = none
 z_sorted : mg "sorted" = none
 z_str : mg "str" = none
 z_tuple : mg "tuple" = none
abbrev sp_law_tape := sp_tape3
abbrev sp_law_draw := sp_draw3
def sp_greatest_divisor (_ : PySem.W.Frag) : Sp := fun vs H Q _ => ∃ a b : Int, vs = [.int a, .int b] /\ Q (.int (Int.gcd a b : Nat)) H
def newR (H : Hp) (Q : VK) (r : R) : Prop := ∀ p, H p = none -> Q (.ref p) (upd H p (.tup [.int r.1, .int r.2]))
def toR (K : PySem.W.Frag) (H : Hp) (Q : VK) (r : R) : Prop := ∀ (v : V) (H' : Hp), Same H H' -> RV K H' v r -> Q v H'
def sp_ratio (_ : PySem.W.Frag) : Sp := fun vs H Q _ => ∃ a b : Int, vs = [.int a, .int b] /\ 0 < b /\ b.natAbs < 2 ^ 4000 /\ newR H Q (mkR a b)
def sp_plus (K : PySem.W.Frag) : Sp := fun vs H Q _ => ∃ (v w : V) (r q : R) (n m : Nat), vs = [v, w] /\ RV K H v r /\ RV K H w q /\ Wf n r /\ Wf m q /\ n + m + 1 ≤ 3000 /\ newR H Q (plusR r q)
def sp_times (K : PySem.W.Frag) : Sp := fun vs H Q _ => ∃ (v w : V) (r q : R) (n m : Nat), vs = [v, w] /\ RV K H v r /\ RV K H w q /\ Wf n r /\ Wf m q /\ n + m + 1 ≤ 3000 /\ newR H Q (timesR r q)
def Seq (K : PySem.W.Frag) (H : Hp) (a : Addr) (xs : List V) : Prop := SqL K H a xs ∨ SqT K H a xs
def sp_total (K : PySem.W.Frag) : Sp := fun vs H Q _ => ∃ (a : Addr) (xs : List V) (rs : List R) (n : Nat), vs = [.ref a] /\ Seq K H a xs /\ RVs K H xs rs /\ (∀ r ∈ rs, Wf n r) /\ rs.length ≤ 255 /\ (n + 9) * (rs.length + 1) ≤ 2990 /\ ∀ (v' : V) (H' : Hp), Same H H' -> RV K H' v' (sumR rs) -> Q v' H'
theorem div_lt {a g : Int} (hg : 0 < g) (h : a.natAbs < 2 ^ 4000) : (a / g).natAbs < 2 ^ 4000 := Nat.lt_of_le_of_lt (natAbs_div_le a hg) h
theorem gcd_lt {a b : Int} (hb : 0 < b) (h : b.natAbs < 2 ^ 4000) : ((Int.gcd a b : Nat) : Int).natAbs < 2 ^ 4000 := by
 have z : Int.gcd a b ≤ b.natAbs := Nat.le_of_dvd (by omega) (by have := Int.gcd_dvd_right a b; exact Int.natAbs_dvd_natAbs.mpr this)
 have e : ((Int.gcd a b : Nat) : Int).natAbs = Int.gcd a b := Int.natAbs_natCast _
 omega
theorem big_of {i : Int} {n : Nat} (h : i.natAbs < 2 ^ n) (hn : n ≤ 4000) : i.natAbs < 2 ^ 4000 := Nat.lt_of_lt_of_le h (Nat.pow_le_pow_right (by decide) hn)
abbrev sp_law_frac := sp_ratio
abbrev sp_law_add := sp_plus
abbrev sp_law_mul := sp_times
def sp_over (K : PySem.W.Frag) : Sp := fun vs H Q _ => ∃ (v w : V) (r : R) (n m : Nat), vs = [v, w] /\ RV K H v r /\ RV K H w ((m : Int), 1) /\ Wf n r /\ 0 < m /\ m ≤ 24 /\ n ≤ 2000 /\ toR K H Q (timesR r (1, (m : Int)))
def sp_law_sum (K : PySem.W.Frag) : Sp := fun vs H Q _ => ∃ (a : Addr) (xs : List V) (rs : List R), vs = [.ref a] /\ SqL K H a xs /\ Als (RV K H) xs rs /\ (∀ r ∈ rs, Wf 4 r) /\ rs.length ≤ 64 /\ ∀ (v' : V) (H' : Hp), Same H H' -> RV K H' v' (sumR rs) -> Q v' H'
theorem mk_one {m : Nat} (h : 0 < m) : mkR 1 (m : Int) = (1, (m : Int)) := mkR_uniq (by omega) (by omega) (by simp) (by omega)
theorem one_wf {m : Nat} (h : 0 < m) (h' : m ≤ 24) : Wf 5 ((1, (m : Int)) : R) := ⟨by show (0 : Int) < m; omega, by show (1 : Int).natAbs < 2 ^ 5; decide, by show ((m : Int)).natAbs < 32; omega, by simp⟩
theorem als_rvs {K : PySem.W.Frag} {H : Hp} {xs : List V} {rs : List R} (h : Als (RV K H) xs rs) : RVs K H xs rs := ⟨h.len, fun i x r hx hr => by obtain ⟨d, hd, p⟩ := h.at hx; rw [hr] at hd; cases hd; exact p⟩
abbrev Wk := Nat × Nat × R
def WkV (K : PySem.W.Frag) (H : Hp) (v : V) (w : Wk) : Prop := ∃ p x, v = .ref p /\ SqT K H p [.int w.1, .int w.2.1, x] /\ RV K H x w.2.2
theorem WkV.mono {K : PySem.W.Frag} {H H' : Hp} {v : V} {w : Wk} (h : WkV K H v w) (t : Tst K H H') : WkV K H' v w := let ⟨p, x, e, s, r⟩ := h; ⟨p, x, e, t _ _ s, r.mono t⟩
structure AmOk (r : R) : Prop where
 top : 1 ≤ r.1
 top' : r.1 ≤ 12
 bot : 1 ≤ r.2
 bot' : r.2 ≤ 7
 dvd : r.2 ∣ 84
 wf : Wf 4 r
structure WkOk (w : Wk) : Prop where
 le : w.1 ≤ w.2.1
 lt : w.2.1 < 24
 am : AmOk w.2.2
def WksV (K : PySem.W.Frag) (H : Hp) (v : V) (ws : List Wk) : Prop := ∃ p xs, v = .ref p /\ SqT K H p xs /\ Als (WkV K H) xs ws
theorem WksV.mono {K : PySem.W.Frag} {H H' : Hp} {v : V} {ws : List Wk} (h : WksV K H v ws) (t : Tst K H H') : WksV K H' v ws := let ⟨p, xs, e, s, a⟩ := h; ⟨p, xs, e, t _ _ s, a.mono fun _ _ q => q.mono t⟩
def natV (ls : List Nat) : List V := ls.map fun n : Nat => V.int n
theorem amOk_mk {a b : Int} (h1 : 1 ≤ a) (h2 : a ≤ 12) (h3 : 1 ≤ b) (h4 : b ≤ 7) (h5 : b ∣ 84) : AmOk (mkR a b) := by
 have g0 : 0 < (Int.gcd a b : Int) := gcd_posR (by omega)
 have da : (Int.gcd a b : Int) ∣ a := Int.gcd_dvd_left a b
 have db : (Int.gcd a b : Int) ∣ b := Int.gcd_dvd_right a b
 have p1 : 0 < a / (Int.gcd a b : Int) := Int.ediv_pos_of_pos_of_dvd (by omega) (Int.le_of_lt g0) da
 have p2 : 0 < b / (Int.gcd a b : Int) := Int.ediv_pos_of_pos_of_dvd (by omega) (Int.le_of_lt g0) db
 have q1 : a / (Int.gcd a b : Int) ≤ a := Int.ediv_le_self _ (by omega)
 have q2 : b / (Int.gcd a b : Int) ≤ b := Int.ediv_le_self _ (by omega)
 refine ⟨p1, by show a / (Int.gcd a b : Int) ≤ 12; omega, p2, by show b / (Int.gcd a b : Int) ≤ 7; omega, Int.dvd_trans ?_ h5, mkR_wf (by omega) (by show a.natAbs < 16; omega) (by show b.natAbs < 16; omega)⟩
 exact ⟨(Int.gcd a b : Int), (Int.ediv_mul_cancel db).symm⟩
def sp_law_works (K : PySem.W.Frag) : Sp := fun vs H Q _ => ∃ (t s : Addr) (m : Nat), vs = [.ref t, .int m] /\ Tape3 K H t s /\ m ≤ 64 /\ ∀ (v : V) (ws : List Wk) (H' : Hp), Step t H H' -> Tape3 K H' t s -> WksV K H' v ws -> ws.length = m -> (∀ w ∈ ws, WkOk w) -> Q v H'
def unitsM (ws : List Wk) : List Int := ws.map fun w => w.2.2.1 * 84 / w.2.2.2
def partsM (B : Int) (ws : List Wk) : List Int := ws.map fun w => w.2.2.1 * (B / w.2.2.2)
def sp_law_units (K : PySem.W.Frag) : Sp := fun vs H Q _ => ∃ (v : V) (ws : List Wk), vs = [v] /\ WksV K H v ws /\ ws.length ≤ 64 /\ (∀ w ∈ ws, WkOk w) /\ ∀ (l : Addr) (H' : Hp), Same H H' -> H l = none -> H' l = some (.lst ((unitsM ws).map V.int)) -> Q (.ref l) H'
def sp_whole_parts (K : PySem.W.Frag) : Sp := fun vs H Q _ => ∃ (a : Addr) (xs : List V) (ws : List Wk), vs = [.ref a] /\ SqL K H a xs /\ Als (RV K H) xs (ws.map fun w => w.2.2) /\ ws.length ≤ 64 /\ (∀ w ∈ ws, WkOk w) /\ ∀ (l : Addr) (B : Int) (H' : Hp), Same H H' -> H l = none -> 0 < B -> B ∣ 84 -> (∀ w ∈ ws, w.2.2.2 ∣ B) -> H' l = some (.lst ((partsM B ws).map V.int)) -> Q (.ref l) H'
def inW (w : Wk) (t : Nat) : Bool := decide (w.1 ≤ t) && decide (t ≤ w.2.1)
def sp_in_window (K : PySem.W.Frag) : Sp := fun vs H Q _ => ∃ (v : V) (w : Wk) (t : Nat), vs = [v, .int t] /\ WkV K H v w /\ Q (.bl (inW w t)) H
def plsM (ls : List Nat) (w : Wk) : List Nat := (List.range ls.length).filter fun i => inW w (ls.getD i 0)
def winM (ls : List Nat) (w : Wk) : Wn := match plsM ls w with
 | [] => none
 | x :: r => some (x, (x :: r).getLast (by simp))
def OptW (K : PySem.W.Frag) (H : Hp) (v : V) : Wn -> Prop
 | none => v = .non
 | some q => ∃ p, v = .ref p /\ SqT K H p [.int q.1, .int q.2]
def sp_kept_windows (K : PySem.W.Frag) : Sp := fun vs H Q _ => ∃ (v : V) (q : Addr) (ws : List Wk) (ls : List Nat), vs = [v, .ref q] /\ WksV K H v ws /\ ws.length ≤ 64 /\ SqT K H q (natV ls) /\ ls.length ≤ 24 /\ ∀ (l : Addr) (xs : List V) (H' : Hp), Same H H' -> H l = none -> H' l = some (.lst xs) -> Als (OptW K H') xs (ws.map (winM ls)) -> Q (.ref l) H'
def sp_held (K : PySem.W.Frag) : Sp := fun vs H Q _ => ∃ (l : Addr) (xs : List V) (os : List Wn) (p : Pl), vs = [.ref l, .int p.1, .int p.2] /\ SqL K H l xs /\ Als (OptW K H) xs os /\ os.length ≤ 64 /\ ∀ (D : Addr) (H' : Hp), Same H H' -> H D = none -> H' D = some (.lst (natV (heldM os p))) -> Q (.ref D) H'
def amF (as : List Int) (i : Nat) : Int := as.getD i 0
def BestAt (K : PySem.W.Frag) (H : Hp) (S : Pl -> Prop) (L : Pl -> Int) (vb : Addr) (ld ln : Int) : Prop := (ld = -1 /\ ln = 1 /\ ∀ r, ¬ S r) ∨ ∃ q : Pl, SqT K H vb [.int q.1, .int q.2] /\ ld = L q /\ ln = lenP q /\ Bst S L q
def sp_tightest_places (K : PySem.W.Frag) : Sp := fun vs H Q _ => ∃ (l a : Addr) (xs : List V) (os : List Wn) (as : List Int) (n : Nat), vs = [.ref l, .ref a, .int n] /\ SqL K H l xs /\ Als (OptW K H) xs os /\ os.length ≤ 64 /\ SqL K H a (as.map V.int) /\ as.length = os.length /\ (∀ x ∈ as, 0 ≤ x /\ x ≤ 1008) /\ 1 ≤ n /\ n ≤ 24 /\ ∀ (p : Addr) (q : Pl) (H' : Hp), Same H H' -> SqT K H' p [.int q.1, .int q.2] -> Bst (Sec n) (loadM os (amF as)) q -> Q (.ref p) H'
def natD (ls : List Nat) : PyData := .tuple (ls.map fun n : Nat => PyData.int n)
def dTight (ls : List Nat) (os : List Wn) (q : Pl) : PyData := .tuple [natD ((ls.drop q.1).take (q.2 + 1 - q.1)), natD (heldM os q)]
theorem deep_nat {K : PySem.W.Frag} {H : Hp} {p : Addr} {ls : List Nat} (h : SqT K H p (natV ls)) : Deep K H (.ref p) (natD ls) := by
 refine .tup h ?_
 clear h
 unfold natV
 induction ls with
 | nil => exact .nil
 | cons x r ih => exact .cons (.int _) ih
def LyV (K : PySem.W.Frag) (H : Hp) (v : V) (y : List Nat × List Nat) : Prop := ∃ p a b, v = .ref p /\ SqT K H p [.ref a, .ref b] /\ SqT K H a (natV y.1) /\ SqT K H b (natV y.2)
def cutM (ls : List Nat) (q : Pl) : List Nat := (ls.drop q.1).take (q.2 + 1 - q.1)
def restM (ls : List Nat) (q : Pl) : List Nat := ls.filter fun t => !(cutM ls q).contains t
def nvM (ws : List Wk) (ls : List Nat) : Nat := ws.countP fun w => (winM ls w).isSome
def IsT (ws : List Wk) (ls : List Nat) (p : Pl) : Prop := Bst (Sec ls.length) (loadM (ws.map (winM ls)) (amF (unitsM ws))) p /\ 0 < loadM (ws.map (winM ls)) (amF (unitsM ws)) p
abbrev Ly := List Nat × List Nat
def lyM (ws : List Wk) (ls : List Nat) (p : Pl) : Ly := (cutM ls p, heldM (ws.map (winM ls)) p)
inductive Lys (ws : List Wk) : List Nat -> List Ly -> Prop where
 | nil {ls : List Nat} (h : nvM ws ls = 0) : Lys ws ls []
 | cons {ls : List Nat} {p : Pl} {r : List Ly} (h : IsT ws ls p) (t : Lys ws (restM ls p) r) : Lys ws ls (lyM ws ls p :: r)
structure LyOk (n : Nat) (y : Ly) : Prop where
 pos : 0 < y.1.length
 few : y.1.length ≤ 24
 lt : ∀ t ∈ y.1, t < 24
 num : ∀ i ∈ y.2, i < n
 len : y.2.length ≤ n
def sp_tightest (K : PySem.W.Frag) : Sp := fun vs H Q _ => ∃ (v : V) (q : Addr) (ws : List Wk) (ls : List Nat), vs = [v, .ref q] /\ WksV K H v ws /\ ws.length ≤ 64 /\ (∀ w ∈ ws, WkOk w) /\ SqT K H q (natV ls) /\ 1 ≤ ls.length /\ ls.length ≤ 24 /\ ∀ (x : V) (B : Int) (p : Pl) (H' : Hp), Same H H' -> 0 < B -> B ∣ 84 -> (∀ w ∈ ws, w.2.2.2 ∣ B) -> Bst (Sec ls.length) (loadM (ws.map (winM ls)) (amF (partsM B ws))) p -> LyV K H' x (lyM ws ls p) -> Q x H'
def SpV (K : PySem.W.Frag) (H : Hp) (v : V) (s : Nat × Nat × Nat) : Prop := ∃ p, v = .ref p /\ SqT K H p [.int s.1, .int s.2.1, .int s.2.2]
def spM (os : List Wn) (i : Nat) : List (Nat × Nat × Nat) := (List.range i).filterMap fun j => (os.getD j none).map fun q => (q.1, q.2, j)
def holdS (p : Pl) (s : Nat × Nat × Nat) : Bool := decide (p.1 ≤ s.1) && decide (s.2.1 ≤ p.2)
def BestU (K : PySem.W.Frag) (H : Hp) (os : List Wn) (S : Pl -> Prop) (L : Pl -> Int) (pb : Addr) : Prop := ∃ (mn ln bg : Int) (lb : Addr), SqT K H pb [.int mn, .int ln, .int bg, .ref lb] /\ ((mn = 0 /\ ln = 1 /\ bg = 0 /\ ∀ r, S r -> L r = 0) ∨ ∃ q : Pl, 0 < L q /\ mn = L q /\ ln = lenP q /\ bg = (q.1 : Int) /\ SqL K H lb (natV (heldM os q)) /\ Bst S L q)
def sp_law_tightest (K : PySem.W.Frag) : Sp := fun vs H Q _ => ∃ (v : V) (q : Addr) (ws : List Wk) (ls : List Nat), vs = [v, .ref q] /\ WksV K H v ws /\ ws.length ≤ 64 /\ (∀ w ∈ ws, WkOk w) /\ SqL K H q (natV ls) /\ ls.length ≤ 24 /\ (∀ H', Same H H' -> nvM ws ls = 0 -> Q .non H') /\ ∀ (x : V) (p : Pl) (H' : Hp), x ≠ .non -> Same H H' -> IsT ws ls p -> LyV K H' x (lyM ws ls p) -> Q x H'
mutual
def smD : PyData -> Bool
 | .int _ => true
 | .str _ => true
 | .bool _ => true
 | .none => true
 | .tuple ds => decide (ds.length ≤ 1000) && smAll ds
 | _ => false
def smAll : List PyData -> Bool
 | [] => true
 | d :: ds => smD d && smAll ds
end
theorem smAll_at : ∀ {ds : List PyData} {i : Nat} {d : PyData}, smAll ds = true -> ds[i]? = some d -> smD d = true
 | e :: ds, 0, d, h, q => by
  rw [List.getElem?_cons_zero] at q
  cases q
  have h' : (smD e && smAll ds) = true := h
  rw [Bool.and_eq_true] at h'
  exact h'.1
 | e :: ds, i + 1, d, h, q => by
  rw [List.getElem?_cons_succ] at q
  have h' : (smD e && smAll ds) = true := h
  rw [Bool.and_eq_true] at h'
  exact smAll_at h'.2 q
theorem depthAll_at : ∀ {ds : List PyData} {i : Nat} {d : PyData}, ds[i]? = some d -> d.depth ≤ PyData.depthAll ds
 | e :: ds, 0, d, q => by
  rw [List.getElem?_cons_zero] at q
  cases q
  exact Nat.le_max_left _ _
 | e :: ds, i + 1, d, q => by
  rw [List.getElem?_cons_succ] at q
  exact Nat.le_trans (depthAll_at q) (Nat.le_max_right _ _)
theorem deepAll_at {K : PySem.W.Frag} {H : Hp} : ∀ {xs : List V} {ds : List PyData}, DeepAll K H xs ds -> ∀ {i : Nat} {d : PyData}, ds[i]? = some d -> ∃ x, xs[i]? = some x /\ Deep K H x d
 | _, _, .cons h _, 0, d, e => by
  rw [List.getElem?_cons_zero] at e
  cases e
  exact ⟨_, rfl, h⟩
 | _, _, .cons _ t, i + 1, d, e => deepAll_at t (i := i) (by rw [List.getElem?_cons_succ] at e; exact e)
 | _, _, .nil, _, _, e => by cases e
theorem deepAll_len {K : PySem.W.Frag} {H : Hp} : ∀ {xs : List V} {ds : List PyData}, DeepAll K H xs ds -> xs.length = ds.length
 | _, _, .nil => rfl
 | _, _, .cons _ t => congrArg (· + 1) (deepAll_len t)
theorem kq_NoneType_tuple : kitTT "NoneType" "tuple" = some false := by decide +kernel
theorem kq_NoneType_list : kitTT "NoneType" "list" = some false := by decide +kernel
theorem kq_bool_tuple : kitTT "bool" "tuple" = some false := by decide +kernel
theorem kq_bool_list : kitTT "bool" "list" = some false := by decide +kernel
theorem kq_bool_str : kitTT "bool" "str" = some false := by decide +kernel
theorem kq_bool_bool : kitTT "bool" "bool" = some true := by decide +kernel
theorem kq_int_tuple : kitTT "int" "tuple" = some false := by decide +kernel
theorem kq_int_list : kitTT "int" "list" = some false := by decide +kernel
theorem kq_int_str : kitTT "int" "str" = some false := by decide +kernel
theorem kq_int_bool : kitTT "int" "bool" = some false := by decide +kernel
theorem kq_int_int : kitTT "int" "int" = some true := by decide +kernel
theorem kq_str_tuple : kitTT "str" "tuple" = some false := by decide +kernel
theorem kq_str_list : kitTT "str" "list" = some false := by decide +kernel
theorem kq_str_str : kitTT "str" "str" = some true := by decide +kernel
theorem kq_tuple_tuple : kitTT "tuple" "tuple" = some true := by decide +kernel
theorem kq_tuple_list : kitTT "tuple" "list" = some false := by decide +kernel
def sp_al (k : Nat) (K : PySem.W.Frag) : Sp := fun vs H Q _ => ∃ (v w : V) (d : PyData), vs = [v, w] /\ Deep K H v d /\ Deep K H w d /\ d.depth ≤ k /\ smD d = true /\ ∀ H', Same H H' -> Q (.bl true) H'
abbrev sp_alike0 := sp_al 0
abbrev sp_law_alike := sp_al 1
theorem sh_int {i : Int} (h : i.natAbs < 2 ^ 100) : Sh 0 2000 (.int i) := by
 refine ⟨?_, rfl, Nat.le_refl _, Nat.le_trans (len_of h (by decide)) (by decide)⟩
 show decide (i.natAbs.log2 < 1920) = true
 refine decide_eq_true ?_
 by_cases z : i.natAbs = 0
 ·rw [z]; decide
 ·exact Nat.lt_of_lt_of_le ((Nat.log2_lt z).mpr h) (by decide)
def dWk (w : Wk) : PyData := .tuple [.int w.1, .int w.2.1, dR w.2.2]
def dWks (ws : List Wk) : PyData := .tuple (ws.map dWk)
theorem WkV.deep {K : PySem.W.Frag} {H : Hp} {v : V} {w : Wk} (h : WkV K H v w) : Deep K H v (dWk w) := by
 obtain ⟨p, x, rfl, hS, rx⟩ := h
 exact .tup hS (.cons (.int _) (.cons (.int _) (.cons rx.deep .nil)))
theorem WksV.deep {K : PySem.W.Frag} {H : Hp} {v : V} {ws : List Wk} (h : WksV K H v ws) : Deep K H v (dWks ws) := by
 obtain ⟨p, xs, rfl, hS, al⟩ := h
 exact .tup hS (al.deep fun _ _ q => q.deep)
theorem nat_small {n : Nat} (h : n < 24) : ((n : Int)).natAbs < 2 ^ 100 := by
 have : (2 : Nat) ^ 100 = 1267650600228229401496703205376 := by decide
 omega
theorem sh_dWk {w : Wk} (h : WkOk w) : Sh 2 20000 (dWk w) := by
 have o := h.am
 have big : (2 : Nat) ^ 100 = 1267650600228229401496703205376 := by decide
 have l1 := h.le
 have l2 := h.lt
 have t1 := o.top
 have t2 := o.top'
 have b1 := o.bot
 have b2 := o.bot'
 refine Sh.tup (k := 1) (n := 6100) (m := 3) (fun d hd => ?_) (Nat.le_refl _) (by decide)
 simp only [List.mem_cons, List.not_mem_nil, or_false] at hd
 rcases hd with rfl | rfl | rfl
 ·exact (sh_int (nat_small (by omega))).mono (by decide) (by decide)
 ·exact (sh_int (nat_small (by omega))).mono (by decide) (by decide)
 ·refine Sh.tup (k := 0) (n := 2000) (m := 2) (fun d hd => ?_) (Nat.le_refl _) (by decide)
  simp only [List.mem_cons, List.not_mem_nil, or_false] at hd
  rcases hd with rfl | rfl
  ·exact sh_int (by omega)
  ·exact sh_int (by omega)
theorem sh_works {ws : List Wk} (h : ∀ w ∈ ws, WkOk w) (hw : ws.length ≤ 64) : Shows (dWks ws) := by
 refine Sh.shows (k := 3) (n := 1290000) (Sh.tup (k := 2) (n := 20000) (m := 64) (fun d hd => ?_) (by rw [List.length_map]; exact hw) (by decide)) (by decide) (by decide)
 obtain ⟨w, hw', rfl⟩ := List.mem_map.mp hd
 exact sh_dWk (h w hw')
def dLy (y : List Nat × List Nat) : PyData := .tuple [natD y.1, natD y.2]
def wk0 : Wk := (0, 0, (0, 1))
def amsM (ws : List Wk) (y : List Nat × List Nat) : List R := y.2.map fun i => (ws.getD i wk0).2.2
def spdM (ws : List Wk) (y : List Nat × List Nat) : R := timesR (sumR (amsM ws y)) (1, (y.1.length : Int))
def setM (r : R) (ss : List R) (ts : List Nat) : List R := ts.foldl (fun s t => s.set t r) ss
def spsM (ws : List Wk) (lys : List (List Nat × List Nat)) : List R := lys.foldl (fun ss y => setM (spdM ws y) ss y.1) (List.replicate 24 (0, 1))
def LysV (K : PySem.W.Frag) (H : Hp) (v : V) (lys : List (List Nat × List Nat)) : Prop := ∃ p xs, v = .ref p /\ SqT K H p xs /\ Als (LyV K H) xs lys
def sp_layers (K : PySem.W.Frag) : Sp := fun vs H Q _ => ∃ (v : V) (ws : List Wk), vs = [v] /\ WksV K H v ws /\ ws.length ≤ 64 /\ (∀ w ∈ ws, WkOk w) /\ ∀ (x : V) (lys : List (List Nat × List Nat)) (H' : Hp), Same H H' -> LysV K H' x lys -> Lys ws (List.range 24) lys -> (∀ y ∈ lys, LyOk ws.length y) -> lys.length ≤ 64 -> Q x H'
def sp_law_layers (K : PySem.W.Frag) : Sp := fun vs H Q _ => ∃ (v : V) (ws : List Wk), vs = [v] /\ WksV K H v ws /\ ws.length ≤ 64 /\ (∀ w ∈ ws, WkOk w) /\ ∀ (l : Addr) (xs : List V) (lys : List (List Nat × List Nat)) (H' : Hp), Same H H' -> H l = none -> H' l = some (.lst xs) -> Als (LyV K H') xs lys -> Lys ws (List.range 24) lys -> (∀ y ∈ lys, LyOk ws.length y) -> lys.length ≤ 64 -> Q (.ref l) H'
def sp_layer_density (K : PySem.W.Frag) : Sp := fun vs H Q _ => ∃ (v x : V) (ws : List Wk) (y : List Nat × List Nat), vs = [v, x] /\ WksV K H v ws /\ ws.length ≤ 64 /\ (∀ w ∈ ws, WkOk w) /\ LyV K H x y /\ LyOk ws.length y /\ toR K H Q (spdM ws y)
abbrev sp_law_pace := sp_layer_density
def sp_layer_speeds (K : PySem.W.Frag) : Sp := fun vs H Q _ => ∃ (v : V) (ws : List Wk), vs = [v] /\ WksV K H v ws /\ ws.length ≤ 64 /\ (∀ w ∈ ws, WkOk w) /\ ∀ (p : Addr) (xs : List V) (lys : List (List Nat × List Nat)) (H' : Hp), Same H H' -> SqT K H' p xs -> Als (RV K H') xs (spsM ws lys) -> Lys ws (List.range 24) lys -> Q (.ref p) H'
def sp_law_speeds (K : PySem.W.Frag) : Sp := fun vs H Q _ => ∃ (v : V) (ws : List Wk), vs = [v] /\ WksV K H v ws /\ ws.length ≤ 64 /\ (∀ w ∈ ws, WkOk w) /\ ∀ (l : Addr) (xs : List V) (lys : List (List Nat × List Nat)) (H' : Hp), Same H H' -> H' l = some (.lst xs) -> Als (RV K H') xs (spsM ws lys) -> Lys ws (List.range 24) lys -> Q (.ref l) H'
def sp_law (K : PySem.W.Frag) : Sp := fun vs H Q _ => ∃ (a : Addr) (ns : List Int), vs = [.ref a] /\ SqL K H a (ns.map V.int) /\ ns.length ≤ 63 /\ ∀ H', Q (.bl true) H'
theorem sh_ahead {ws : List Wk} {ls : List Nat} (h : ∀ w ∈ ws, WkOk w) (hw : ws.length ≤ 64) (hl : ls.length ≤ 24) (hb : ∀ n ∈ ls, n < 24) : Shows (.tuple [dWks ws, natD ls]) := by
 refine Sh.shows (k := 4) (n := 3000000) (Sh.tup (k := 3) (n := 1290000) (m := 2) (fun d hd => ?_) (Nat.le_refl _) (by decide)) (by decide) (by decide)
 simp only [List.mem_cons, List.not_mem_nil, or_false] at hd
 rcases hd with rfl | rfl
 ·refine (Sh.tup (k := 2) (n := 20000) (m := 64) (N := 1290000) (fun d hd => ?_) (by rw [List.length_map]; exact hw) (by decide)).mono (by decide) (by decide)
  obtain ⟨w, hw', rfl⟩ := List.mem_map.mp hd
  exact sh_dWk (h w hw')
 ·refine (Sh.tup (k := 0) (n := 2000) (m := 24) (N := 60000) (fun d hd => ?_) (by rw [List.length_map]; exact hl) (by decide)).mono (by decide) (by decide)
  obtain ⟨n, hn, rfl⟩ := List.mem_map.mp hd
  exact sh_int (nat_small (hb n hn))
def liesM (ls : List Nat) (w : Wk) : Bool := (List.range (w.2.1 + 1 - w.1)).all fun i => ls.contains (w.1 + i)
def sp_lies_in (K : PySem.W.Frag) : Sp := fun vs H Q _ => ∃ (v : V) (q : Addr) (w : Wk) (ls : List Nat), vs = [v, .ref q] /\ WkV K H v w /\ w.1 ≤ w.2.1 /\ w.2.1 < 24 /\ SqT K H q (natV ls) /\ ∀ H', Same H H' -> Q (.bl (liesM ls w)) H'
def wtM (ws : List Wk) (ls : List Nat) : List R := (ws.filter (liesM ls)).map fun w => w.2.2
def sp_weight (K : PySem.W.Frag) : Sp := fun vs H Q _ => ∃ (v : V) (q : Addr) (ws : List Wk) (ls : List Nat), vs = [v, .ref q] /\ WksV K H v ws /\ ws.length ≤ 64 /\ (∀ w ∈ ws, WkOk w) /\ SqT K H q (natV ls) /\ toR K H Q (sumR (wtM ws ls))
def sp_density (K : PySem.W.Frag) : Sp := fun vs H Q _ => ∃ (v : V) (q : Addr) (ws : List Wk) (ls : List Nat), vs = [v, .ref q] /\ WksV K H v ws /\ ws.length ≤ 64 /\ (∀ w ∈ ws, WkOk w) /\ SqT K H q (natV ls) /\ 0 < ls.length /\ ls.length ≤ 24 /\ toR K H Q (timesR (sumR (wtM ws ls)) (1, (ls.length : Int)))
theorem wt_wf {ws : List Wk} {ls : List Nat} (ok : ∀ w ∈ ws, WkOk w) : ∀ r ∈ wtM ws ls, Wf 4 r := by
 intro r hr
 obtain ⟨w, hw, rfl⟩ := List.mem_map.mp hr
 exact (ok w (List.mem_filter.mp hw).1).am.wf
theorem wt_le (ws : List Wk) (ls : List Nat) : (wtM ws ls).length ≤ ws.length := by
 unfold wtM
 rw [List.length_map]
 exact List.length_filter_le _ _
theorem from_srt (a n : Nat) : (frmTo a n).Pairwise (· < ·) := by
 unfold frmTo
 rw [List.pairwise_map]
 exact List.pairwise_lt_range.imp fun h => by omega
theorem from_mem {a n m : Nat} (h : m ∈ frmTo a n) : a ≤ m /\ m < a + n := by
 unfold frmTo at h
 obtain ⟨i, hi, rfl⟩ := List.mem_map.mp h
 have := List.mem_range.mp hi
 omega
theorem ones_ok {ls ds : List Nat} {ms : List Int} (h1 : ∀ n ∈ ls, n < 24) (h2 : ∀ n ∈ ds, n < 24) (hp : ms.Perm (oneEach ((ls ++ ds).map fun n : Nat => (n : Int)))) (hs : ms.Pairwise (· ≤ ·)) :
  ∃ zs : List Nat, ms.map V.int = natV zs /\ zs.Pairwise (· < ·) /\ ∀ n ∈ zs, n < 24 := by
 have mem : ∀ m ∈ ms, 0 ≤ m /\ m < 24 := fun m hm => by
  have := (mem_oneEach _ _).mp (hp.mem_iff.mp hm)
  obtain ⟨n, hn, rfl⟩ := List.mem_map.mp this
  rcases List.mem_append.mp hn with h | h
  ·have := h1 n h; omega
  ·have := h2 n h; omega
 have nd : ms.Nodup := hp.nodup_iff.mpr (oneEach_nodup _)
 refine ⟨ms.map Int.toNat, ?_, ?_, fun n hn => ?_⟩
 ·unfold natV
  rw [List.map_map]
  refine List.map_congr_left fun m hm => ?_
  show V.int m = V.int (m.toNat : Int)
  rw [Int.toNat_of_nonneg (mem m hm).1]
 ·rw [List.pairwise_map]
  refine (hs.and nd).imp_of_mem fun ha hb h => ?_
  have := mem _ ha
  have := mem _ hb
  obtain ⟨h1, h2⟩ := h
  omega
 ·obtain ⟨m, hm, rfl⟩ := List.mem_map.mp hn
  have := mem m hm
  omega
theorem rise_uniq : ∀ {a b : List Nat}, a.Pairwise (· < ·) -> b.Pairwise (· < ·) -> (∀ n, n ∈ a ↔ n ∈ b) -> a = b
 | [], [], _, _, _ => rfl
 | [], y :: b, _, _, h => by have := (h y).mpr List.mem_cons_self; cases this
 | x :: a, [], _, _, h => by have := (h x).mp List.mem_cons_self; cases this
 | x :: a, y :: b, ha, hb, h => by
  obtain ⟨ax, ha'⟩ := List.pairwise_cons.mp ha
  obtain ⟨bx, hb'⟩ := List.pairwise_cons.mp hb
  have e : x = y := by
   rcases List.mem_cons.mp ((h x).mp List.mem_cons_self) with q | q
   ·exact q
   ·rcases List.mem_cons.mp ((h y).mpr List.mem_cons_self) with r | r
    ·exact r.symm
    ·have h1 := bx x q
     have h2 := ax y r
     omega
  subst e
  rw [rise_uniq ha' hb' fun n => ?_]
  constructor
  ·intro q
   rcases List.mem_cons.mp ((h n).mp (List.mem_cons_of_mem _ q)) with r | r
   ·have := ax n q; omega
   ·exact r
  ·intro q
   rcases List.mem_cons.mp ((h n).mpr (List.mem_cons_of_mem _ q)) with r | r
   ·have := bx n q; omega
   ·exact r
theorem lies_iff {ls : List Nat} {w : Wk} (srt : ls.Pairwise (· < ·)) : (ls.filter (inW w) = frmTo w.1 (w.2.1 + 1 - w.1)) ↔ liesM ls w = true := by
 unfold liesM
 rw [List.all_eq_true]
 constructor
 ·intro e i hi
  have m : w.1 + i ∈ frmTo w.1 (w.2.1 + 1 - w.1) := List.mem_map.mpr ⟨i, hi, rfl⟩
  rw [← e] at m
  simpa using (List.mem_filter.mp m).1
 ·intro h
  refine rise_uniq (srt.filter _) (from_srt _ _) fun n => ?_
  constructor
  ·intro m
   obtain ⟨_, q⟩ := List.mem_filter.mp m
   unfold inW at q
   simp only [Bool.and_eq_true, decide_eq_true_eq] at q
   exact List.mem_map.mpr ⟨n - w.1, List.mem_range.mpr (by omega), by omega⟩
  ·intro m
   have b := from_mem m
   refine List.mem_filter.mpr ⟨?_, ?_⟩
   ·have := h (n - w.1) (List.mem_range.mpr (by omega))
    rw [show w.1 + (n - w.1) = n by omega] at this
    simpa using this
   ·unfold inW
    simp only [Bool.and_eq_true, decide_eq_true_eq]
    omega
def natL (ls : List Nat) : PyData := .list (ls.map fun n : Nat => PyData.int n)
theorem eqv_natL : ∀ {a b : List Nat}, PyData.eqv (natL a) (natL b) = decide (a = b)
 | [], [] => rfl
 | [], _ :: _ => rfl
 | _ :: _, [] => rfl
 | x :: a, y :: b => by
  have ih : PyData.eqvAll (a.map fun n : Nat => PyData.int n) (b.map fun n : Nat => PyData.int n) = decide (a = b) := eqv_natL (a := a) (b := b)
  show (((x : Nat) : Int) == ((y : Nat) : Int) && PyData.eqvAll (a.map fun n : Nat => PyData.int n) (b.map fun n : Nat => PyData.int n)) = _
  rw [ih]
  by_cases e : x = y
  ·subst e; simp
  ·have e' : ¬ ((x : Nat) : Int) = ((y : Nat) : Int) := by omega
   simp [e, e']
theorem deep_natL {K : PySem.W.Frag} {H : Hp} {p : Addr} {ls : List Nat} (h : SqL K H p (natV ls)) : Deep K H (.ref p) (natL ls) := by
 refine .lst h ?_
 clear h
 unfold natV
 induction ls with
 | nil => exact .nil
 | cons x r ih => exact .cons (.int _) ih
theorem wt_take {ws : List Wk} {ls : List Nat} {i : Nat} {w : Wk} (h : ws[i]? = some w) : wtM (ws.take (i + 1)) ls = if liesM ls w = true then wtM (ws.take i) ls ++ [w.2.2] else wtM (ws.take i) ls := by
 unfold wtM
 rw [List.take_add_one, h, List.filter_append]
 by_cases c : liesM ls w = true
 ·rw [if_pos c, List.map_append]; simp [c]
 ·rw [if_neg c]; simp [c]
theorem rise_len : ∀ {ls : List Nat} {a b : Nat}, ls.Pairwise (· < ·) -> (∀ n ∈ ls, a ≤ n /\ n < b) -> ls.length ≤ b - a
 | [], _, _, _, _ => Nat.zero_le _
 | x :: r, a, b, h, m => by
  obtain ⟨hx, hr⟩ := List.pairwise_cons.mp h
  have ih := rise_len (a := x + 1) (b := b) hr fun n hn => ⟨hx n hn, (m n (List.mem_cons_of_mem _ hn)).2⟩
  have := m x List.mem_cons_self
  rw [List.length_cons]
  omega
theorem natL_lay (ls : List Nat) : (natL ls).canLay0 = true /\ (natL ls).depth ≤ 32 := by
 unfold natL
 constructor
 ·induction ls with
  | nil => rfl
  | cons x r ih => exact ih
 ·refine Nat.le_trans (m := 1) ?_ (by decide)
  induction ls with
  | nil => decide
  | cons x r ih => simpa [PyData.depth, PyData.depthAll] using ih
def sp_law_turns (K : PySem.W.Frag) : Sp := fun vs H Q _ => ∃ (t s : Addr) (v : V) (ws : List Wk), vs = [.ref t, v] /\ Tape3 K H t s /\ WksV K H v ws /\ ws.length ≤ 64 /\ (∀ w ∈ ws, WkOk w) /\ ∀ (q : Addr) (ls : List Nat) (H' : Hp), Step t H H' -> Tape3 K H' t s -> SqT K H' q (natV ls) -> ls.Pairwise (· < ·) -> (∀ n ∈ ls, n < 24) -> Q (.ref q) H'
theorem sc_Q0 : FnScope ["one", "other", "high", "low", "rest"] ["one", "other"] (defScope s_Q0) := scA
theorem sc_Q12 : FnScope ["top", "bottom", "shared"] ["top", "bottom"] (defScope s_Q12) := scA
theorem sc_Q15 : FnScope ["one", "other", "shared", "top", "rest"] ["one", "other"] (defScope s_Q15) := scA
theorem sc_Q13 : FnScope ["one", "other", "left", "right"] ["one", "other"] (defScope s_Q13) := scA
theorem sc_Q16 : FnScope ["one", "other"] ["one", "other"] (defScope s_Q16) := scA
theorem sc_Q14 : FnScope ["some", "tops", "one", "so_far", "bottom", "top"] ["some"] (defScope s_Q14) := scA
theorem sc_Q7 : FnScope ["work", "turns"] ["work", "turns"] (defScope s_Q7) := scA
theorem sc_Q11 : FnScope ["works", "turns"] ["works", "turns"] (defScope s_Q11) := scA
theorem sc_Q8 : FnScope ["works", "turns"] ["works", "turns"] (defScope s_Q8) := scA
theorem sc_Q4 : FnScope ["_law_script"] ["_law_script"] (defScope s_Q4) := scA
theorem sc_Q5 : FnScope ["_law_tape_here", "_law_many", "_law_spot", "_law_cell", "_law_mixed", "_law_found"] ["_law_tape_here", "_law_many"] (defScope s_Q5) := scA
theorem sc_Q1 : FnScope ["_law_due", "_law_found"] ["_law_due", "_law_found"] (defScope s_Q1) := scA
theorem sc_Q6 : FnScope ["_law_top", "_law_bottom", "_law_one", "_law_other"] ["_law_top", "_law_bottom"] (defScope s_Q6) := scA
theorem sc_Q9 : FnScope ["_law_one", "_law_other"] ["_law_one", "_law_other"] (defScope s_Q9) := scA
theorem sc_Q10 : FnScope ["_law_one", "_law_other"] ["_law_one", "_law_other"] (defScope s_Q10) := scA
theorem sc_Q2 : FnScope ["_law_tape_here", "_law_many", "_law_end", "_law_works_here", "_law_k", "_law_first", "_law_last", "_law_way"] ["_law_tape_here", "_law_many"] (defScope s_Q2) := scA
theorem sc_Q3 : FnScope ["_law_tape_here", "_law_works_here", "_law_first", "_law_last", "_law_way", "_law_some", "_law_at", "_law_by"] ["_law_tape_here", "_law_works_here"] (defScope s_Q3) := scA
theorem sc_Q17 : FnScope ["_law_script", "_law_tape_here", "_law_k", "_law_works_here", "_law_j", "_law_turns_here", "_law_due", "_law_first", "_law_last", "_law_amount", "_law_ahead"] ["_law_script"] (defScope s_Q17) := scA
end My
namespace My
open PySem L2 B PyProof.Rows
section
variable {P : Program} {w : World} {K : PySem.W.Frag} {mg : Str -> Option Value} {base : Heap} {t : Ad}
theorem ok_alike0 (T : Txt K mg t) : FnOk P w K mg base CX0 1 t.a_Q1 t.d_Q1 ["_law_due", "_law_found"] (sp_alike0 K) := by
 refine T.F_Q1.ok sc_Q1 (fun vs H Q E h => ?_) (fun cdv A outer s H vs Q E hr h => ?_)
 ·obtain ⟨_, _, _, rfl, _⟩ := h; rfl
 obtain ⟨v, w, d, rfl, hv, hw, dp, sm, k⟩ := h
 refine QSs.ok (qss_cons (qs_if (qw_pt (qw_or (qt_val (qe_callB call_isiD (by rfl) T.z_isinstance boot_isinstance (qa_cons (qv 0) (qa_cons (qe_bltn (v := V.ty "tuple") rfl T.z_tuple boot_tuple rfl) qa_nil star_name) star_name))) (qw_or1 (qt_val (qe_callB call_isiD (by rfl) T.z_isinstance boot_isinstance (qa_cons (qv 0) (qa_cons (qe_bltn (v := V.ty "list") rfl T.z_list boot_list rfl) qa_nil star_name) star_name)))))) (qss_cons (qs_if (qt_cmpR op_ne (qe_callB call_isiD (by rfl) T.z_isinstance boot_isinstance (qa_cons (qv 0) (qa_cons (qe_bltn (v := V.ty "tuple") rfl T.z_tuple boot_tuple rfl) qa_nil star_name) star_name)) (qe_callB call_isiD (by rfl) T.z_isinstance boot_isinstance (qa_cons (qv 1) (qa_cons (qe_bltn (v := V.ty "tuple") rfl T.z_tuple boot_tuple rfl) qa_nil star_name) star_name)) (nomark _)) (qss_one (qs_ret qe_bl)) qss_nil)
   (qss_cons (qs_if (qt_cmpR op_ne (qe_callB call_isiD (by rfl) T.z_isinstance boot_isinstance (qa_cons (qv 0) (qa_cons (qe_bltn (v := V.ty "list") rfl T.z_list boot_list rfl) qa_nil star_name) star_name)) (qe_callB call_isiD (by rfl) T.z_isinstance boot_isinstance (qa_cons (qv 1) (qa_cons (qe_bltn (v := V.ty "list") rfl T.z_list boot_list rfl) qa_nil star_name) star_name)) (nomark _)) (qss_one (qs_ret qe_bl)) qss_nil)
   (qss_cons (qs_if (qt_cmpR op_ne (qe_callB call_len_seq (by rfl) T.z_len boot_len (qa_cons (qv 0) qa_nil star_name)) (qe_callB call_len_seq (by rfl) T.z_len boot_len (qa_cons (qv 1) qa_nil star_name)) (nomark _)) (qss_one (qs_ret qe_bl)) qss_nil)
   (qss_one qs_never)))) qss_nil)
   (qss_cons (qs_if (qt_cmpR op_isN (qv 0) qe_non (nomark _)) (qss_one (qs_ret (qe_cmpR op_isN (qv 1) qe_non (nomark _)))) qss_nil)
   (qss_cons (qs_if (qt_val (qe_callB call_isiD (by rfl) T.z_isinstance boot_isinstance (qa_cons (qv 0) (qa_cons (qe_bltn (v := V.ty "str") rfl T.z_str boot_str rfl) qa_nil star_name) star_name))) (qss_one (qs_ret (qe_and (qe_callB call_isiD (by rfl) T.z_isinstance boot_isinstance (qa_cons (qv 1) (qa_cons (qe_bltn (v := V.ty "str") rfl T.z_str boot_str rfl) qa_nil star_name) star_name)) (qe_one (qe_cmpR op_eq (qv 1) (qv 0) (nomark _)))))) qss_nil)
   (qss_cons (qs_if (qt_val (qe_callB call_isiD (by rfl) T.z_isinstance boot_isinstance (qa_cons (qv 0) (qa_cons (qe_bltn (v := V.ty "bool") rfl T.z_bool boot_bool rfl) qa_nil star_name) star_name))) (qss_one (qs_ret (qe_and (qe_callB call_isiD (by rfl) T.z_isinstance boot_isinstance (qa_cons (qv 1) (qa_cons (qe_bltn (v := V.ty "bool") rfl T.z_bool boot_bool rfl) qa_nil star_name) star_name)) (qe_one (qe_cmpR op_eq (qv 1) (qv 0) (nomark _)))))) qss_nil)
   (qss_one (qs_ret (qe_and (qe_callB call_isiD (by rfl) T.z_isinstance boot_isinstance (qa_cons (qv 1) (qa_cons (qe_bltn (v := V.ty "int") rfl T.z_int boot_int rfl) qa_nil star_name) star_name)) (qe_and (qe_not (qe_callB call_isiD (by rfl) T.z_isinstance boot_isinstance (qa_cons (qv 1) (qa_cons (qe_bltn (v := V.ty "bool") rfl T.z_bool boot_bool rfl) qa_nil star_name) star_name))) (qe_one (qe_cmpR op_eq (qv 1) (qv 0) (nomark _))))))))))) ?_
 cases hv with
 | non =>
  cases hw
  refine ⟨_, rfl, _, _, _, _, rfl, .non, kq_NoneType_tuple, _, rfl, iteF ?_⟩
  refine ⟨_, rfl, _, _, _, _, rfl, .non, kq_NoneType_list, _, rfl, iteF ?_⟩
  refine ⟨_, rfl, rfl, _, rfl, iteT ?_⟩
  exact ⟨_, rfl, rfl, k H (Same.refl H)⟩
 | bl b =>
  cases hw
  refine ⟨_, rfl, _, _, _, _, rfl, .bl b, kq_bool_tuple, _, rfl, iteF ?_⟩
  refine ⟨_, rfl, _, _, _, _, rfl, .bl b, kq_bool_list, _, rfl, iteF ?_⟩
  refine ⟨_, rfl, rfl, _, rfl, iteD0 (by intro z; cases z) ?_⟩
  refine ⟨_, rfl, _, _, _, _, rfl, .bl b, kq_bool_str, _, rfl, iteF ?_⟩
  refine ⟨_, rfl, _, _, _, _, rfl, .bl b, kq_bool_bool, _, rfl, iteT ?_⟩
  refine ⟨_, rfl, _, _, _, _, rfl, .bl b, kq_bool_bool, _, rfl, iteT ?_⟩
  have := k H (Same.refl H)
  exact ⟨_, rfl, _, rfl, rfl, by rw [decide_eq_true rfl]; exact this⟩
 | int i =>
  cases hw
  refine ⟨_, rfl, _, _, _, _, rfl, .int i, kq_int_tuple, _, rfl, iteF ?_⟩
  refine ⟨_, rfl, _, _, _, _, rfl, .int i, kq_int_list, _, rfl, iteF ?_⟩
  refine ⟨_, rfl, rfl, _, rfl, iteD0 (by intro z; cases z) ?_⟩
  refine ⟨_, rfl, _, _, _, _, rfl, .int i, kq_int_str, _, rfl, iteF ?_⟩
  refine ⟨_, rfl, _, _, _, _, rfl, .int i, kq_int_bool, _, rfl, iteF ?_⟩
  refine ⟨_, rfl, _, _, _, _, rfl, .int i, kq_int_int, _, rfl, iteT ?_⟩
  refine ⟨_, rfl, _, _, _, _, rfl, .int i, kq_int_bool, _, rfl, _, rfl, iteT ?_⟩
  have := k H (Same.refl H)
  exact ⟨_, rfl, _, rfl, rfl, by rw [decide_eq_true rfl]; exact this⟩
 | str x =>
  cases hw
  refine ⟨_, rfl, _, _, _, _, rfl, .str x, kq_str_tuple, _, rfl, iteF ?_⟩
  refine ⟨_, rfl, _, _, _, _, rfl, .str x, kq_str_list, _, rfl, iteF ?_⟩
  refine ⟨_, rfl, rfl, _, rfl, iteD0 (by intro z; cases z) ?_⟩
  refine ⟨_, rfl, _, _, _, _, rfl, .str x, kq_str_str, _, rfl, iteT ?_⟩
  refine ⟨_, rfl, _, _, _, _, rfl, .str x, kq_str_str, _, rfl, iteT ?_⟩
  have := k H (Same.refl H)
  exact ⟨_, rfl, _, rfl, rfl, by rw [decide_eq_true rfl]; exact this⟩
 | lst e h => exact absurd dp (Nat.not_succ_le_zero _)
 | tup e h => exact absurd dp (Nat.not_succ_le_zero _)
theorem ok_Q0 (T : Txt K mg t) : FnOk P w K mg base CX0 1 t.a_Q0 t.d_Q0 ["one", "other"] (sp_greatest_divisor K) := by
 refine T.F_Q0.ok sc_Q0 (fun vs H Q E h => ?_) (fun cdv A outer s H vs Q E hr h => ?_)
 ·obtain ⟨_, _, rfl, _⟩ := h; rfl
 obtain ⟨a, b, rfl, k⟩ := h
 refine QSs.ok (qss_cons (qsA 2 sc_Q0.nd (qe_callB call_abs (by rfl) T.z_abs boot_abs (qa_cons (qv 0) qa_nil star_name)))
   (qss_cons (qsA 3 sc_Q0.nd (qe_callB call_abs (by rfl) T.z_abs boot_abs (qa_cons (qv 1) qa_nil star_name)))
   (qss_cons (qs_while PassesOwn.never (qt_cmpR op_ne (qv 3) qe_int (nomark _))
   (qss_cons (qsA 4 sc_Q0.nd (qe_op op_mod (qv 2) (qv 3)))
   (qss_cons (qsA 2 sc_Q0.nd (qv 3))
   (qss_one (qsA 3 sc_Q0.nd (qv 4))))))
   (qss_one (qs_ret (qv 2)))))) ?_
 refine ⟨_, rfl, _, rfl, _, rfl, _, rfl, ?_⟩
 rw [abs_if, abs_if]
 refine ⟨fun m σ H' => ∃ (x y : Int) (v : Option V), σ = [some (.int a), some (.int b), some (.int x), some (.int y), v] /\ H' = H /\ 0 ≤ x /\ 0 ≤ y /\ Int.gcd x y = Int.gcd a b /\ m = y.toNat, ⟨_, _, _, _, rfl, rfl, by omega, by omega, (by simp [Int.gcd]), rfl⟩, ?_⟩
 rintro m σ H' ⟨x, y, v, rfl, rfl, hx, hy, hg, rfl⟩
 refine ⟨_, rfl, rfl, _, rfl, ?_⟩
 by_cases c : y = 0
 ·subst c
  refine iteNS rfl ?_
  rw [← hg] at k
  refine ⟨_, rfl, ?_⟩
  have e : (x : Int) = (Int.gcd x 0 : Nat) := by simp [Int.gcd]; omega
  rw [← e] at k
  exact k
 ·refine iteN1 (fun z => c (by injection z)) ?_
  refine ⟨_, fun _ _ z => z, ?_⟩
  refine ⟨_, rfl, _, rfl, _, _, rfl, rfl, (by omega), _, rfl, _, rfl, ?_⟩
  refine ⟨_, ?_, y, x % y, _, rfl, rfl, hy, Int.emod_nonneg _ c, ?_, rfl⟩
  ·have := Int.emod_lt_of_pos x (show 0 < y by omega)
   have := Int.emod_nonneg x c
   omega
  ·rw [gcd_turn hx (by omega), hg]
theorem ok_Q12 (T : Txt K mg t) : FnOk P w K mg base CX0 2 t.a_Q12 t.d_Q12 ["top", "bottom"] (sp_ratio K) := by
 refine T.F_Q12.ok sc_Q12 (fun vs H Q E h => ?_) (fun cdv A outer s H vs Q E hr h => ?_)
 ·obtain ⟨_, _, rfl, _⟩ := h; rfl
 obtain ⟨a, b, rfl, hb, hz, k⟩ := h
 refine QSs.ok (qss_cons (qs_if (qt_cmpR op_eq (qv 1) qe_int (nomark _)) (qss_one qs_never) qss_nil)
   (qss_cons (qsA 2 sc_Q12.nd (qcA (ok_Q0 T) hr T.m_Q0 T.F_Q0.kp T.b_Q0 (qa_cons (qv 0) (qa_cons (qv 1) qa_nil star_name) star_name)))
   (qss_cons (qs_if (qt_cmpR op_lt (qv 1) qe_int (nomark _)) (qss_one (qsA 2 sc_Q12.nd (qe_un un_neg (qv 2)))) qss_nil)
   (qss_one (qs_ret (qe_tup (qa_cons (qe_op op_quo (qv 0) (qv 2)) (qa_cons (qe_op op_quo (qv 1) (qv 2)) qa_nil star_bin) star_bin))))))) ?_
 have gp := gcd_posR (a := a) hb
 have gb : ((Int.gcd a b : Nat) : Int).natAbs < 2 ^ 4000 := by
  have z : Int.gcd a b ≤ b.natAbs := Nat.le_of_dvd (by omega) (by have := Int.gcd_dvd_right a b; exact Int.natAbs_dvd_natAbs.mpr this)
  have e : ((Int.gcd a b : Nat) : Int).natAbs = Int.gcd a b := Int.natAbs_natCast _
  omega
 refine ⟨_, rfl, rfl, _, rfl, ?_⟩
 refine iteD0 (fun z => by injection z with z; omega) ?_
 refine ⟨_, rfl, _, rfl, a, b, rfl, ?_⟩
 refine ⟨_, rfl, _, _, rfl, rfl, _, rfl, ?_⟩
 refine iteD0 (by omega) ?_
 refine ⟨_, rfl, _, rfl, _, _, rfl, rfl, ⟨gp, gb⟩, _, rfl, _, rfl, _, _, rfl, rfl, ⟨gp, gb⟩, zl2, fun p hp => ?_⟩
 exact k p hp
theorem ok_Q15 (T : Txt K mg t) : FnOk P w K mg base CX0 2 t.a_Q15 t.d_Q15 ["one", "other"] (sp_plus K) := by
 refine T.F_Q15.ok sc_Q15 (fun vs H Q E h => ?_) (fun cdv A outer s H vs Q E hr h => ?_)
 ·obtain ⟨_, _, _, _, _, _, rfl, _⟩ := h; rfl
 obtain ⟨v, w, r, q, n, m, rfl, hv, hw, wr, wq, hz, k⟩ := h
 refine QSs.ok (qss_cons (qsA 2 sc_Q15.nd (qcA (ok_Q0 T) hr T.m_Q0 T.F_Q0.kp T.b_Q0 (qa_cons (qxA ix_tup (qv 0) qe_int) (qa_cons (qxA ix_tup (qv 1) qe_int) qa_nil star_sub) star_sub)))
   (qss_cons (qsA 3 sc_Q15.nd (qe_op op_add (qe_op op_mulB (qxA ix_tup (qv 0) qe_int) (qe_op op_quo (qxA ix_tup (qv 1) qe_int) (qv 2))) (qe_op op_mulB (qxA ix_tup (qv 1) qe_int) (qe_op op_quo (qxA ix_tup (qv 0) qe_int) (qv 2)))))
   (qss_cons (qsA 4 sc_Q15.nd (qcA (ok_Q0 T) hr T.m_Q0 T.F_Q0.kp T.b_Q0 (qa_cons (qv 3) (qa_cons (qv 2) qa_nil star_name) star_name)))
   (qss_one (qs_ret (qe_tup (qa_cons (qe_op op_quo (qv 3) (qv 4)) (qa_cons (qe_op op_mulB (qe_op op_quo (qxA ix_tup (qv 0) qe_int) (qv 2)) (qe_op op_quo (qxA ix_tup (qv 1) qe_int) (qv 4))) qa_nil star_bin) star_bin))))))) ?_
 obtain ⟨p, rfl, hv⟩ := hv
 obtain ⟨p', rfl, hw⟩ := hw
 have c1 := big_of wr.top (show n ≤ 4000 by omega)
 have c2 := big_of wr.bot (show n ≤ 4000 by omega)
 have c3 := big_of wq.top (show m ≤ 4000 by omega)
 have c4 := big_of wq.bot (show m ≤ 4000 by omega)
 have gp : (0 : Int) < (Int.gcd r.2 q.2 : Nat) := gcd_posR wq.pos
 have gb := gcd_lt (a := r.2) wq.pos c4
 refine ⟨_, rfl, p, _, _, _, rfl, rfl, hv, rfl, _, rfl, p', _, _, _, rfl, rfl, hw, rfl, r.2, q.2, rfl, ?_⟩
 have z := plusG_eq ⟨wr.pos, wr.cop⟩ ⟨wq.pos, wq.cop⟩
 have kk : newR H Q (plusG r q) := by rw [z]; exact k
 unfold plusG at kk
 simp only at kk
 generalize ((Int.gcd r.2 q.2 : Nat) : Int) = d at gp gb kk ⊢
 refine ⟨_, rfl, p, _, _, _, rfl, rfl, hv, rfl, _, rfl, p', _, _, _, rfl, rfl, hw, rfl, _, rfl, _, _, rfl, rfl, ⟨gp, gb⟩, _, _, rfl, rfl, ⟨c1, div_lt gp c4⟩, _, rfl, p', _, _, _, rfl, rfl, hw, rfl, _, rfl, p, _, _, _, rfl, rfl, hv, rfl, _, rfl, _, _, rfl, rfl, ⟨gp, gb⟩, _, _, rfl, rfl, ⟨c3, div_lt gp c2⟩, _, _, rfl, rfl, ?_⟩
 refine ⟨_, rfl, _, rfl, _, _, rfl, ?_⟩
 have ep : (0 : Int) < (Int.gcd (r.1 * (q.2 / d) + q.1 * (r.2 / d)) d : Nat) := gcd_posR gp
 have eb := gcd_lt (a := r.1 * (q.2 / d) + q.1 * (r.2 / d)) gp gb
 generalize ((Int.gcd (r.1 * (q.2 / d) + q.1 * (r.2 / d)) d : Nat) : Int) = e at ep eb kk ⊢
 refine ⟨_, rfl, _, rfl, _, _, rfl, rfl, ⟨ep, eb⟩, _, rfl, p, _, _, _, rfl, rfl, hv, rfl, _, rfl, _, _, rfl, rfl, ⟨gp, gb⟩, _, rfl, p', _, _, _, rfl, rfl, hw, rfl, _, rfl, _, _, rfl, rfl, ⟨ep, eb⟩, _, _, rfl, rfl, ⟨div_lt gp c2, div_lt ep c4⟩, zl2, kk⟩
theorem ok_Q13 (T : Txt K mg t) : FnOk P w K mg base CX0 2 t.a_Q13 t.d_Q13 ["one", "other"] (sp_times K) := by
 refine T.F_Q13.ok sc_Q13 (fun vs H Q E h => ?_) (fun cdv A outer s H vs Q E hr h => ?_)
 ·obtain ⟨_, _, _, _, _, _, rfl, _⟩ := h; rfl
 obtain ⟨v, w, r, q, n, m, rfl, hv, hw, wr, wq, hz, k⟩ := h
 refine QSs.ok (qss_cons (qsA 2 sc_Q13.nd (qcA (ok_Q0 T) hr T.m_Q0 T.F_Q0.kp T.b_Q0 (qa_cons (qxA ix_tup (qv 0) qe_int) (qa_cons (qxA ix_tup (qv 1) qe_int) qa_nil star_sub) star_sub)))
   (qss_cons (qsA 3 sc_Q13.nd (qcA (ok_Q0 T) hr T.m_Q0 T.F_Q0.kp T.b_Q0 (qa_cons (qxA ix_tup (qv 1) qe_int) (qa_cons (qxA ix_tup (qv 0) qe_int) qa_nil star_sub) star_sub)))
   (qss_one (qs_ret (qe_tup (qa_cons (qe_op op_mulB (qe_op op_quo (qxA ix_tup (qv 0) qe_int) (qv 2)) (qe_op op_quo (qxA ix_tup (qv 1) qe_int) (qv 3))) (qa_cons (qe_op op_mulB (qe_op op_quo (qxA ix_tup (qv 0) qe_int) (qv 3)) (qe_op op_quo (qxA ix_tup (qv 1) qe_int) (qv 2))) qa_nil star_bin) star_bin)))))) ?_
 obtain ⟨p, rfl, hv⟩ := hv
 obtain ⟨p', rfl, hw⟩ := hw
 have c1 := big_of wr.top (show n ≤ 4000 by omega)
 have c2 := big_of wr.bot (show n ≤ 4000 by omega)
 have c3 := big_of wq.top (show m ≤ 4000 by omega)
 have c4 := big_of wq.bot (show m ≤ 4000 by omega)
 have lp : (0 : Int) < (Int.gcd r.1 q.2 : Nat) := gcd_posR wq.pos
 have lb := gcd_lt (a := r.1) wq.pos c4
 have mp : (0 : Int) < (Int.gcd q.1 r.2 : Nat) := gcd_posR wr.pos
 have mb := gcd_lt (a := q.1) wr.pos c2
 have z := timesG_eq ⟨wr.pos, wr.cop⟩ ⟨wq.pos, wq.cop⟩
 have kk : newR H Q (timesG r q) := by rw [z]; exact k
 unfold timesG at kk
 simp only at kk
 refine ⟨_, rfl, p, _, _, _, rfl, rfl, hv, rfl, _, rfl, p', _, _, _, rfl, rfl, hw, rfl, r.1, q.2, rfl, _, rfl, p', _, _, _, rfl, rfl, hw, rfl, _, rfl, p, _, _, _, rfl, rfl, hv, rfl, q.1, r.2, rfl, ?_⟩
 generalize ((Int.gcd r.1 q.2 : Nat) : Int) = l at lp lb kk ⊢
 generalize ((Int.gcd q.1 r.2 : Nat) : Int) = m' at mp mb kk ⊢
 refine ⟨_, rfl, p, _, _, _, rfl, rfl, hv, rfl, _, rfl, _, _, rfl, rfl, ⟨lp, lb⟩, _, rfl, p', _, _, _, rfl, rfl, hw, rfl, _, rfl, _, _, rfl, rfl, ⟨mp, mb⟩, _, _, rfl, rfl, ⟨div_lt lp c1, div_lt mp c3⟩, _, rfl, p, _, _, _, rfl, rfl, hv, rfl, _, rfl, _, _, rfl, rfl, ⟨mp, mb⟩, _, rfl, p', _, _, _, rfl, rfl, hw, rfl, _, rfl, _, _, rfl, rfl, ⟨lp, lb⟩, _, _, rfl, rfl, ⟨div_lt mp c2, div_lt lp c4⟩, zl2, kk⟩
theorem ok_Q16 (T : Txt K mg t) : FnOk P w K mg base CX0 3 t.a_Q16 t.d_Q16 ["one", "other"] (sp_over K) := by
 refine T.F_Q16.ok sc_Q16 (fun vs H Q E h => ?_) (fun cdv A outer s H vs Q E hr h => ?_)
 ·obtain ⟨_, _, _, _, _, rfl, _⟩ := h; rfl
 obtain ⟨v, w, r, n, m, rfl, hv, ⟨pw, rfl, hw⟩, wr, m0, m24, hn, k⟩ := h
 refine QSs.ok (qss_cons (qs_if (qt_cmpR op_eq (qxA ix_tup (qv 1) qe_int) qe_int (nomark _)) (qss_one qs_never) qss_nil)
   (qss_one (qs_ret (qcA (ok_Q13 T) hr T.m_Q13 T.F_Q13.kp T.b_Q13 (qa_cons (qv 0) (qa_cons (qcA (ok_Q12 T) hr T.m_Q12 T.F_Q12.kp T.b_Q12 (qa_cons (qxA ix_tup (qv 1) qe_int) (qa_cons (qxA ix_tup (qv 1) qe_int) qa_nil star_sub) star_sub)) qa_nil star_call) star_name))))) ?_
 refine ⟨_, rfl, pw, _, _, _, rfl, rfl, hw, rfl, rfl, _, rfl, iteD0 (fun z => by injection z with z; omega) ?_⟩
 refine ⟨_, rfl, _, rfl, pw, _, _, _, rfl, rfl, hw, rfl, _, rfl, pw, _, _, _, rfl, rfl, hw, rfl, 1, m, rfl, by omega, big_of (n := 5) (by show ((m : Int)).natAbs < 32; omega) (by decide), fun pr hpr => ?_⟩
 have s1 := same_new hpr (.tup [.int (mkR 1 m).1, .int (mkR 1 m).2])
 have rr : RV K _ (.ref pr) (mkR 1 m) := RV.of (upd_same (H := H) (a := pr) (o := .tup [.int (mkR 1 m).1, .int (mkR 1 m).2]))
 rw [mk_one m0] at rr s1 ⊢
 refine ⟨v, .ref pr, r, (1, (m : Int)), n, 5, rfl, hv.mono (Tst.same s1), rr, wr, one_wf m0 m24, by omega, fun pt hpt => ?_⟩
 exact k _ _ (s1.trans (same_new hpt _)) (RV.of upd_same)
theorem ok_Q14 (T : Txt K mg t) : FnOk P w K mg base CX0 3 t.a_Q14 t.d_Q14 ["some"] (sp_total K) := by
 refine T.F_Q14.ok sc_Q14 (fun vs H Q E h => ?_) (fun cdv A outer s H vs Q E hr h => ?_)
 ·obtain ⟨_, _, _, _, rfl, _⟩ := h; rfl
 obtain ⟨a, xs, rs, n, rfl, hS, hR, hW, hlen, hbd, k⟩ := h
 refine QSs.ok (qss_cons (qsA 1 sc_Q14.nd qe_dnewK)
   (qss_cons (qs_for PassesOwn.never rfl (qi_seq (qv 0)) (qg_name (i := 2) sc_Q14.nd rfl (by first | exact Or.inl rfl | exact Or.inr rfl))
   (qss_one (qs_dput (hu_of hr) (qv 1) (qxA ix_tup (qv 2) qe_int) (qe_op op_add (qe_dget2 (hu_of hr) (qv 1) (qxA ix_tup (qv 2) qe_int) qe_int ⟨rfl, rfl, rfl, rfl⟩) (qxA ix_tup (qv 2) qe_int)) rfl)))
   (qss_cons (qsA 3 sc_Q14.nd (qe_glob (v := .ref t.c_NOUGHT) rfl T.m_NOUGHT rfl))
   (qss_cons (qs_for PassesOwn.never rfl (qi_items (qv 1)) (qg_tup rfl (qgs_cons (qg_name (i := 4) sc_Q14.nd rfl (by first | exact Or.inl rfl | exact Or.inr rfl)) (qgs_cons (qg_name (i := 5) sc_Q14.nd rfl (by first | exact Or.inl rfl | exact Or.inr rfl)) qgs_nil)))
   (qss_one (qsA 3 sc_Q14.nd (qcA (ok_Q15 T) hr T.m_Q15 T.F_Q15.kp T.b_Q15 (qa_cons (qv 3) (qa_cons (qcA (ok_Q12 T) hr T.m_Q12 T.F_Q12.kp T.b_Q12 (qa_cons (qv 5) (qa_cons (qv 4) qa_nil star_name) star_name)) qa_nil star_call) star_name)))))
   (qss_one (qs_ret (qv 3))))))) ?_
 refine fun D hDn => ⟨_, rfl, ?_⟩
 have sD := same_new hDn (.dK [])
 rcases hS with hS | hS
 ·refine .inl ⟨a, rfl, ⟨_, sD.seq hS⟩, for_list (K := K) (a := a) (xs := xs) (fun i σ H' => ∃ (x : Option V) (ps : List (Int × Int)), σ = [some (.ref a), some (.ref D), x, none, none, none] /\ Same H H' /\ H' D = some (.dK (enc ps)) /\ PsOk n i ps /\ sumv ps = vsum (rs.take i)) ⟨none, [], rfl, sD, upd_same, PsOk.nil n, rfl⟩ (fun i σ H1 _ ⟨_, _, _, s1, _⟩ => s1.seq hS) ?_ ?_⟩
  ·rintro i y σ H1 hi ⟨x, ps, rfl, s1, hD1, ok, ev⟩
   obtain ⟨ry, hry, hyv⟩ := hR.at hi
   have my : ry ∈ rs := List.mem_of_getElem? hry
   have hil := (List.getElem?_eq_some_iff.mp hry).1
   obtain ⟨py, rfl, hSy⟩ := hyv.mono (Tst.same s1)
   have el : (enc ps).length = ps.length := List.length_map _
   have hlp : (enc ps).length < sizeLine := by rw [el]; exact small1000 (by have := ok.len; omega)
   refine ⟨_, rfl, D, rfl, .inl ⟨_, .inl hD1⟩, _, rfl, py, _, _, _, rfl, rfl, hSy, rfl, _, DGet.k (k := Sum.inl ry.2) hD1, _, rfl, py, _, _, _, rfl, rfl, hSy, rfl, topP ps ry.2, ry.1, get_enc ps ry.2, rfl, _, rfl, _, rfl, py, _, _, _, rfl, rfl, hSy, rfl, D, _, rfl, DPut.k (k := Sum.inl ry.2) hD1 hlp, ?_⟩
   refine ⟨_, addP ps ry.2 ry.1, rfl, fun b o q => ?_, ?_, ok.add (hW ry my), ?_⟩
   ·rw [upd_ne (ne_of_none q hDn)]
    exact s1 b o q
   ·rw [put_enc ps _ _ ok.nd]
    exact upd_same
   ·rw [sumv_add, ev, List.take_add_one, hry]
    exact (vsum_snoc _ _).symm
  ·rintro σ H1 ⟨x, ps, rfl, s1, hD1, ok, ev⟩
   rw [hR.1, List.take_length] at ev
   rw [hR.1] at ok
   refine ⟨_, rfl, D, enc ps, rfl, hD1, fun ob => for_items (d := D) (ob := ob) (kvs := enc ps) (fun j σ H' => ∃ (u : V) (acc : R) (y4 y5 : Option V), σ = [some (.ref a), some (.ref D), x, some u, y4, y5] /\ Same H H' /\ H' D = some (.frz ob (.dK (enc ps))) /\ RV K H' u acc /\ Wf (1 + (n + 9) * j) acc /\ val acc = sumv (ps.take j)) ⟨_, (0, 1), none, none, rfl, ?_, upd_same, ⟨_, rfl, T.q_NOUGHT _⟩, zero_wf, val_nought⟩ (fun i σ H1 ⟨_, _, _, _, _, _, z, _⟩ => z) ?_ ?_⟩
   ·intro b o q
    rw [upd_ne (ne_of_none q hDn)]
    exact s1 b o q
   ·rintro j kk v p σ H2 hkv ⟨u, acc, y4, y5, rfl, s2, hD2, r2, w2, ev2⟩ hp
    have hkv' : (ps.map fun p => ((Sum.inl p.1 : Key), V.int p.2))[j]? = some (kk, v) := hkv
    rw [List.getElem?_map] at hkv'
    obtain ⟨q, hq, e⟩ := Option.map_eq_some_iff.mp hkv'
    cases e
    have mq := List.mem_of_getElem? hq
    have hjl := (List.getElem?_eq_some_iff.mp hq).1
    have wq := ok.wf hlen mq
    have bq := ok.bot q mq
    have e1 := same_new hp (.tup [kV (Sum.inl q.1), V.int q.2])
    refine ⟨p, _, rfl, SqT.of upd_same, rfl, _, _, rfl, _, _, rfl, rfl, ?_⟩
    have lj : (n + 9) * (j + 1) ≤ (n + 9) * rs.length := Nat.mul_le_mul_left _ (by have := ok.len; omega)
    rw [Nat.mul_succ] at lj hbd
    refine ⟨_, rfl, _, rfl, _, rfl, q.2, q.1, rfl, bq.1, big_of bq.2 (by omega), fun p1 g1 => ?_⟩
    have e2 := same_new g1 (.tup [.int (mkR q.2 q.1).1, .int (mkR q.2 q.1).2])
    refine ⟨u, .ref p1, acc, mkR q.2 q.1, 1 + (n + 9) * j, n + 8, rfl, (r2.mono (Tst.same e1)).mono (Tst.same e2), RV.of upd_same, w2, wq, by omega, fun p2 g2 => ?_⟩
    have e3 := same_new g2 (.tup [.int (plusR acc (mkR q.2 q.1)).1, .int (plusR acc (mkR q.2 q.1)).2])
    have s3 := ((e1.trans e2).trans e3)
    refine ⟨_, plusR acc (mkR q.2 q.1), _, _, rfl, s2.trans s3, s3 _ _ hD2, RV.of upd_same, (plus_wf w2 wq).mono (by rw [Nat.mul_succ]; omega), ?_⟩
    rw [val_plus w2.pos wq.pos, val_mk bq.1, ev2, List.take_add_one, hq]
    exact (sumv_snoc _ _).symm
   ·rintro σ H2 ⟨u, acc, y4, y5, rfl, s2, hD2, r2, w2, ev2⟩
    have el : (enc ps).length = ps.length := List.length_map _
    rw [el, List.take_length] at ev2
    have es := sum_is (fun r hr => (hW r hr).red) w2.red (ev2.trans ev)
    rw [es] at r2
    exact ⟨_, rfl, k u H2 s2 r2⟩
 ·refine .inr ⟨a, rfl, ⟨_, Tst.same sD _ _ hS⟩, for_tup (K := K) (a := a) (xs := xs) (fun i σ H' => ∃ (x : Option V) (ps : List (Int × Int)), σ = [some (.ref a), some (.ref D), x, none, none, none] /\ Same H H' /\ H' D = some (.dK (enc ps)) /\ PsOk n i ps /\ sumv ps = vsum (rs.take i)) ⟨none, [], rfl, sD, upd_same, PsOk.nil n, rfl⟩ (fun i σ H1 _ ⟨_, _, _, s1, _⟩ => Tst.same s1 _ _ hS) ?_ ?_⟩
  ·rintro i y σ H1 hi ⟨x, ps, rfl, s1, hD1, ok, ev⟩
   obtain ⟨ry, hry, hyv⟩ := hR.at hi
   have my : ry ∈ rs := List.mem_of_getElem? hry
   have hil := (List.getElem?_eq_some_iff.mp hry).1
   obtain ⟨py, rfl, hSy⟩ := hyv.mono (Tst.same s1)
   have el : (enc ps).length = ps.length := List.length_map _
   have hlp : (enc ps).length < sizeLine := by rw [el]; exact small1000 (by have := ok.len; omega)
   refine ⟨_, rfl, D, rfl, .inl ⟨_, .inl hD1⟩, _, rfl, py, _, _, _, rfl, rfl, hSy, rfl, _, DGet.k (k := Sum.inl ry.2) hD1, _, rfl, py, _, _, _, rfl, rfl, hSy, rfl, topP ps ry.2, ry.1, get_enc ps ry.2, rfl, _, rfl, _, rfl, py, _, _, _, rfl, rfl, hSy, rfl, D, _, rfl, DPut.k (k := Sum.inl ry.2) hD1 hlp, ?_⟩
   refine ⟨_, addP ps ry.2 ry.1, rfl, fun b o q => ?_, ?_, ok.add (hW ry my), ?_⟩
   ·rw [upd_ne (ne_of_none q hDn)]
    exact s1 b o q
   ·rw [put_enc ps _ _ ok.nd]
    exact upd_same
   ·rw [sumv_add, ev, List.take_add_one, hry]
    exact (vsum_snoc _ _).symm
  ·rintro σ H1 ⟨x, ps, rfl, s1, hD1, ok, ev⟩
   rw [hR.1, List.take_length] at ev
   rw [hR.1] at ok
   refine ⟨_, rfl, D, enc ps, rfl, hD1, fun ob => for_items (d := D) (ob := ob) (kvs := enc ps) (fun j σ H' => ∃ (u : V) (acc : R) (y4 y5 : Option V), σ = [some (.ref a), some (.ref D), x, some u, y4, y5] /\ Same H H' /\ H' D = some (.frz ob (.dK (enc ps))) /\ RV K H' u acc /\ Wf (1 + (n + 9) * j) acc /\ val acc = sumv (ps.take j)) ⟨_, (0, 1), none, none, rfl, ?_, upd_same, ⟨_, rfl, T.q_NOUGHT _⟩, zero_wf, val_nought⟩ (fun i σ H1 ⟨_, _, _, _, _, _, z, _⟩ => z) ?_ ?_⟩
   ·intro b o q
    rw [upd_ne (ne_of_none q hDn)]
    exact s1 b o q
   ·rintro j kk v p σ H2 hkv ⟨u, acc, y4, y5, rfl, s2, hD2, r2, w2, ev2⟩ hp
    have hkv' : (ps.map fun p => ((Sum.inl p.1 : Key), V.int p.2))[j]? = some (kk, v) := hkv
    rw [List.getElem?_map] at hkv'
    obtain ⟨q, hq, e⟩ := Option.map_eq_some_iff.mp hkv'
    cases e
    have mq := List.mem_of_getElem? hq
    have hjl := (List.getElem?_eq_some_iff.mp hq).1
    have wq := ok.wf hlen mq
    have bq := ok.bot q mq
    have e1 := same_new hp (.tup [kV (Sum.inl q.1), V.int q.2])
    refine ⟨p, _, rfl, SqT.of upd_same, rfl, _, _, rfl, _, _, rfl, rfl, ?_⟩
    have lj : (n + 9) * (j + 1) ≤ (n + 9) * rs.length := Nat.mul_le_mul_left _ (by have := ok.len; omega)
    rw [Nat.mul_succ] at lj hbd
    refine ⟨_, rfl, _, rfl, _, rfl, q.2, q.1, rfl, bq.1, big_of bq.2 (by omega), fun p1 g1 => ?_⟩
    have e2 := same_new g1 (.tup [.int (mkR q.2 q.1).1, .int (mkR q.2 q.1).2])
    refine ⟨u, .ref p1, acc, mkR q.2 q.1, 1 + (n + 9) * j, n + 8, rfl, (r2.mono (Tst.same e1)).mono (Tst.same e2), RV.of upd_same, w2, wq, by omega, fun p2 g2 => ?_⟩
    have e3 := same_new g2 (.tup [.int (plusR acc (mkR q.2 q.1)).1, .int (plusR acc (mkR q.2 q.1)).2])
    have s3 := ((e1.trans e2).trans e3)
    refine ⟨_, plusR acc (mkR q.2 q.1), _, _, rfl, s2.trans s3, s3 _ _ hD2, RV.of upd_same, (plus_wf w2 wq).mono (by rw [Nat.mul_succ]; omega), ?_⟩
    rw [val_plus w2.pos wq.pos, val_mk bq.1, ev2, List.take_add_one, hq]
    exact (sumv_snoc _ _).symm
   ·rintro σ H2 ⟨u, acc, y4, y5, rfl, s2, hD2, r2, w2, ev2⟩
    have el : (enc ps).length = ps.length := List.length_map _
    rw [el, List.take_length] at ev2
    have es := sum_is (fun r hr => (hW r hr).red) w2.red (ev2.trans ev)
    rw [es] at r2
    exact ⟨_, rfl, k u H2 s2 r2⟩
theorem ok_Q7 (T : Txt K mg t) : FnOk P w K mg base CX0 1 t.a_Q7 t.d_Q7 ["work", "turns"] (sp_lies_in K) := by
 refine T.F_Q7.ok sc_Q7 (fun vs H Q E h => ?_) (fun cdv A outer s H vs Q E hr h => ?_)
 ·obtain ⟨_, _, _, _, rfl, _⟩ := h; rfl
 obtain ⟨v, q, w, ls, rfl, ⟨p, x, rfl, hS, rx⟩, hle, hl, hq, k⟩ := h
 refine QSs.ok (qss_one (qs_ret (qe_callB (call_allL rfl) (by rfl) T.z_all boot_all (qa_cons (qe_lcomp (N' := ["turn", "turns"]) (src := [none, some 1]) rfl (by exact (qi_range2 rfl T.z_range (qa_cons (qxA ix_tup (qv 0) qe_int) (qa_cons (qe_op op_add (qxA ix_tup (qv 0) qe_int) qe_int) qa_nil star_bin) star_sub))) (fun _ _ _ _ _ => (by exact (by exact qg_name (i := 0) (by show List.Nodup (["turn", "turns"] : List Str); decide +kernel) (by exact rfl) (by first | exact Or.inl rfl | exact Or.inr rfl)))) (fun _ _ _ _ _ => qts_nil) (fun _ _ _ _ _ => (by exact (by exact (qe_cmpR (op_in_seqK (K := K) (by exact rfl)) (by exact (qv 0)) (by exact (qv 1)) (by with_unfolding_all rfl))))) (by exact ⟨rfl, rfl, rfl, rfl, trivial⟩) rfl (by decide +kernel) rfl (by decide +kernel) (by exact cells_of rfl ⟨rfl, trivial⟩)) qa_nil star_lc)))) ?_
 have e1 : (((w.2.1 : Nat) : Int) + 1 - ((w.1 : Nat) : Int)).toNat = w.2.1 + 1 - w.1 := by omega
 refine ⟨_, rfl, p, _, _, _, rfl, rfl, hS, rfl, _, rfl, p, _, _, _, rfl, rfl, hS, rfl, _, _, rfl, rfl, _, _, rfl, ?_, fun D hD => ?_⟩
 ·refine ⟨by omega, by omega, by omega, by omega⟩
 rw [e1]
 refine comp_ix (wlk_rng (lo := ((w.1 : Nat) : Int))) (fun _ => true) (fun i => V.bl (ls.contains (w.1 + i))) hD (by omega) (fun i x H' hi s' hx R E kR kE => ?_) fun H4 s4 h4 => ?_
 ·subst hx
  refine ⟨Ext.set rfl, _, rfl, _, rfl, q, _, rfl, .inr (Tst.same (K := K) s' _ _ hq), rfl, ?_, ?_⟩
  ·unfold natV; rw [List.all_map]; exact List.all_eq_true.mpr fun _ _ => rfl
  ·have := kR rfl H' (Same.refl _)
   rw [← inV_int] at this
   exact this
 rw [List.filter_eq_self.mpr (fun _ _ => rfl)] at h4
 refine ⟨D, (List.range (w.2.1 + 1 - w.1)).map fun i => ls.contains (w.1 + i), rfl, SqL.of (by rw [List.map_map]; exact h4), ?_⟩
 rw [show ((List.range (w.2.1 + 1 - w.1)).map fun i => ls.contains (w.1 + i)).all id = liesM ls w from by unfold liesM; rw [List.all_map]; rfl]
 exact k H4 s4
theorem ok_Q11 (T : Txt K mg t) : FnOk P w K mg base CX0 4 t.a_Q11 t.d_Q11 ["works", "turns"] (sp_weight K) := by
 refine T.F_Q11.ok sc_Q11 (fun vs H Q E h => ?_) (fun cdv A outer s H vs Q E hr h => ?_)
 ·obtain ⟨_, _, _, _, rfl, _⟩ := h; rfl
 obtain ⟨v, q, ws, ls, rfl, ⟨p, xs, rfl, hS, al⟩, hw, ok, hq, k⟩ := h
 refine QSs.ok (qss_one (qs_ret (qcA (ok_Q14 T) hr T.m_Q14 T.F_Q14.kp T.b_Q14 (qa_cons (qe_lcomp (N' := ["work", "turns"]) (src := [none, some 1]) rfl (by exact (qi_tup (qv 0))) (fun _ _ _ _ _ => (by exact (by exact qg_name (i := 0) (by show List.Nodup (["work", "turns"] : List Str); decide +kernel) (by exact rfl) (by first | exact Or.inl rfl | exact Or.inr rfl)))) (fun _ _ _ _ _ => (qts_one (qt_val (by exact (qe_call (ok_Q7 T) (by exact hr.mono (by decide)) (by exact rfl) T.m_Q7 T.F_Q7.kp T.b_Q7 (by exact .nil) (by exact pass0) (qa_cons (by exact (qv 0)) (qa_cons (by exact (qv 1)) qa_nil star_name) star_name)))))) (fun _ _ _ _ _ => (by exact (by exact (qe_ix (ix_tupK (K := K) (by exact rfl)) (by exact (qv 0)) qe_int (by exact fun _ _ => rfl))))) (by exact ⟨rfl, rfl, rfl, rfl, trivial⟩) rfl (by decide +kernel) rfl (by decide +kernel) (by exact cells_of rfl ⟨rfl, trivial⟩)) qa_nil star_lc)))) ?_
 have hSl := al.len
 refine ⟨_, rfl, p, rfl, ⟨_, hS⟩, fun D hD => comp_fmT (K := K) (P := RV K) (ds := ws) (p := liesM ls) (f := fun w => w.2.2) (fun _ _ _ _ t p => p.mono t) hD hS hSl (by omega) (fun i x w H' hx hd s' R E kR kE => ?_) fun H2 ys2 s2 hD2 al2 => ?_⟩
 ·have t' := Tst.same (K := K) s'
  obtain ⟨w', hw', wv⟩ := al.at hx
  rw [hd] at hw'
  cases hw'
  have o := ok w (List.mem_of_getElem? hd)
  refine ⟨Ext.set rfl, _, rfl, _, rfl, x, q, w, ls, rfl, wv.mono t', o.le, o.lt, t' _ _ hq, fun H3 s3 => ?_⟩
  cases c : liesM ls w with
  | false => exact ⟨_, rfl, iteF (kE c _ s3)⟩
  | true =>
   obtain ⟨pw, xa, rfl, hSw, rx⟩ := wv
   have t3 := Tst.same (K := K) (s'.trans s3)
   exact ⟨_, rfl, iteT ⟨_, rfl, pw, _, _, _, rfl, rfl, t3 _ _ hSw, rfl, kR c _ _ s3 (rx.mono t3)⟩⟩
 have la := wt_le ws ls
 refine ⟨D, ys2, wtM ws ls, 4, rfl, .inl (SqL.of hD2), als_rvs al2, wt_wf ok, by omega, (by
  have : (4 + 9) * ((wtM ws ls).length + 1) ≤ 13 * 65 := Nat.mul_le_mul_left 13 (by omega)
  omega), fun v' H3 s3 rv3 => ?_⟩
 exact k v' H3 (s2.trans s3) rv3
theorem ok_Q8 (T : Txt K mg t) : FnOk P w K mg base CX0 5 t.a_Q8 t.d_Q8 ["works", "turns"] (sp_density K) := by
 refine T.F_Q8.ok sc_Q8 (fun vs H Q E h => ?_) (fun cdv A outer s H vs Q E hr h => ?_)
 ·obtain ⟨_, _, _, _, rfl, _⟩ := h; rfl
 obtain ⟨v, q, ws, ls, rfl, hv, hw, ok, hq, pos, few, k⟩ := h
 refine QSs.ok (qss_one (qs_ret (qcA (ok_Q16 T) hr T.m_Q16 T.F_Q16.kp T.b_Q16 (qa_cons (qcA (ok_Q11 T) hr T.m_Q11 T.F_Q11.kp T.b_Q11 (qa_cons (qv 0) (qa_cons (qv 1) qa_nil star_name) star_name)) (qa_cons (qe_tup (qa_cons (qe_callB call_len_seq (by rfl) T.z_len boot_len (qa_cons (qv 1) qa_nil star_name)) (qa_cons qe_int qa_nil star_con) star_call)) qa_nil star_tup) star_call)))) ?_
 have nl : (natV ls).length = ls.length := List.length_map _
 refine ⟨_, rfl, _, rfl, v, q, ws, ls, rfl, hv, hw, ok, hq, fun v' H3 s3 rv3 => ?_⟩
 have t3 := Tst.same (K := K) s3
 refine ⟨_, rfl, q, _, rfl, .inr (t3 _ _ hq), zl2, fun pt hpt => ?_⟩
 rw [nl]
 have s4 := same_new hpt (.tup [.int (ls.length : Int), .int 1])
 have la := wt_le ws ls
 refine ⟨v', .ref pt, sumR (wtM ws ls), 1 + (4 + 1) * (wtM ws ls).length, ls.length, rfl, rv3.mono (Tst.same s4), RV.of upd_same, sum_wfN (wt_wf ok), pos, few, by omega, fun u H5 s5 r5 => ?_⟩
 exact k u H5 ((s3.trans s4).trans s5) r5
theorem ok_Q4 (T : Txt K mg t) : FnOk P w K mg base CX0 1 t.a_Q4 t.d_Q4 ["_law_script"] (sp_law_tape K) := by
 refine T.F_Q4.ok sc_Q4 (fun vs H Q E h => ?_) (fun cdv A outer s H vs Q E hr h => ?_)
 ·obtain ⟨_, _, rfl, _⟩ := h; rfl
 obtain ⟨a, ns, rfl, hS, hl, k⟩ := h
 refine QSs.ok (qss_one (qs_ret (qe_lst (qa_cons (qv 0) (qa_cons qe_int (qa_cons qe_int qa_nil star_con) star_con) star_name)))) ?_
 refine ⟨_, rfl, zl3, fun t ht => ?_⟩
 exact k t _ (same_new ht _) ht (Tape3.mk3 hS hl ht)
theorem ok_Q5 (T : Txt K mg t) : FnOk P w K mg base CX0 1 t.a_Q5 t.d_Q5 ["_law_tape_here", "_law_many"] (sp_law_draw K) := by
 refine T.F_Q5.ok sc_Q5 (fun vs H Q E h => ?_) (fun cdv A outer s H vs Q E hr h => ?_)
 ·obtain ⟨_, _, _, rfl, _⟩ := h; rfl
 obtain ⟨t₁, s₁, m, rfl, tp, hm0, hm1, k⟩ := h
 refine QSs.ok (qss_cons (qs_if (qt_cmpR op_eq (qxA ix_list (qv 0) qe_int) qe_int (nomark _)) (qss_cons (qsA 2 sc_Q5.nd (qxA ix_list (qv 0) qe_int))
   (qss_cons (qs_asg (qe_op op_add (qv 2) qe_int) (qg_sub (qv 0) qe_int set_list))
   (qss_cons (qsA 3 sc_Q5.nd (qv 2))
   (qss_cons (qs_if (qt_cmpR op_gt (qe_callB call_len_seq (by rfl) T.z_len boot_len (qa_cons (qxA ix_list (qv 0) qe_int) qa_nil star_sub)) qe_int (nomark _)) (qss_one (qsA 3 sc_Q5.nd (qxA ix_list (qxA ix_list (qv 0) qe_int) (qe_op op_mod (qv 2) (qe_callB call_len_seq (by rfl) T.z_len boot_len (qa_cons (qxA ix_list (qv 0) qe_int) qa_nil star_sub)))))) qss_nil)
   (qss_cons (qs_if (qw_pt (qw_or (qt_cmpR op_lt (qv 3) (qe_op op_pow qe_int qe_int) (nomark _)) (qw_or1 (qt_cmpR op_ge (qv 2) (qe_callB call_len_seq (by rfl) T.z_len boot_len (qa_cons (qxA ix_list (qv 0) qe_int) qa_nil star_sub)) (nomark _))))) (qss_cons (qsA 4 sc_Q5.nd (qe_op op_mod (qe_op op_mul (qe_op op_add (qe_op op_mod (qv 3) qe_int) qe_int) (qe_op op_add qe_int (qe_op op_mul qe_int (qe_op op_mod (qv 2) qe_int)))) qe_int))
   (qss_one (qs_ret (qe_op op_mod (qe_op op_fdiv (qe_op op_mod (qe_op op_mul (qe_op op_add (qv 4) (qe_op op_mul qe_int (qv 2))) qe_int) qe_int) qe_int) (qv 1))))) qss_nil)
   (qss_one (qs_asg (qv 3) (qg_sub (qv 0) qe_int set_list)))))))) qss_nil)
   (qss_cons (qsA 5 sc_Q5.nd (qe_op op_mod (qxA ix_list (qv 0) qe_int) (qv 1)))
   (qss_cons (qs_asg (qe_op op_fdiv (qxA ix_list (qv 0) qe_int) (qv 1)) (qg_sub (qv 0) qe_int set_list))
   (qss_one (qs_ret (qv 5)))))) ?_
 obtain ⟨ns, p, q, ht, hs, hlen, hp0, hq0⟩ := tp.ex
 have hs' : ∀ o, SqL K (upd H t₁ o) s₁ (ns.map V.int) := fun o => hs.elim (fun z => .inl (rd_upl z.1 z.2.symm)) fun z => z _
 have tap : ∀ (p' q' : Int), 0 ≤ p' -> 0 ≤ q' -> Tape3 K (upd H t₁ (.lst [.ref s₁, .int p', .int q'])) t₁ s₁ := fun p' q' a b => ⟨ns, p', q', upd_same, hs.elim (fun z => .inl ⟨rd_upl z.1 z.2.symm, z.2⟩) fun z => .inr z, hlen, a, b⟩
 have hl : ((ns.map V.int).length : Int) = (ns.length : Int) := by rw [List.length_map]
 refine ⟨_, rfl, t₁, _, _, _, rfl, rfl, SqL.of ht, rfl, rfl, _, rfl, ?_⟩
 by_cases c0 : q = 0
 ·refine iteD1 (by rw [c0]) ?_
  refine ⟨_, rfl, t₁, _, _, _, rfl, rfl, SqL.of ht, rfl, ?_⟩
  refine ⟨_, rfl, _, _, rfl, rfl, _, rfl, t₁, _, _, _, rfl, rfl, ht, rfl, ?_⟩
  refine ⟨_, rfl, ?_⟩
  refine ⟨_, rfl, t₁, _, _, _, rfl, rfl, SqL.of upd_same, rfl, s₁, _, rfl, .inl (hs' _), _, _, rfl, rfl, _, rfl, ?_⟩
  refine ite2 (fun c9 => ?_) (fun _ => ?_)
  ·have c8 : (0 : Int) < (ns.length : Int) := by
    have c7 : (0 : Int) < ((ns.map V.int).length : Int) := of_decide_eq_true c9
    rw [hl] at c7; exact c7
   obtain ⟨z, hz⟩ := pickI (ns := ns) (r := p % (ns.length : Int)) (Int.emod_nonneg _ (by omega)) (Int.emod_lt_of_pos _ c8)
   rw [← hl] at hz c8
   refine ⟨_, rfl, t₁, _, _, _, rfl, rfl, SqL.of upd_same, rfl, _, rfl, _, rfl, t₁, _, _, _, rfl, rfl, SqL.of upd_same, rfl, s₁, _, rfl, .inl (hs' _), _, _, rfl, rfl, c8, s₁, _, _, _, rfl, rfl, hs' _, hz, ?_⟩
   refine ⟨_, rfl, _, _, rfl, rfl, ⟨by decide, by decide, by decide⟩, _, _, rfl, rfl, _, rfl, ?_⟩
   refine ite2 (fun _ => ?_) (fun d1 => ?_)
   ·refine iteT ?_
    refine ⟨_, rfl, _, _, rfl, rfl, (by show (0 : Int) < _; decide), _, _, rfl, rfl, _, rfl, _, _, rfl, rfl, (by show (0 : Int) < _; decide), _, _, rfl, rfl, .inl ⟨by omega, by omega⟩, _, _, rfl, rfl, _, _, rfl, rfl, .inl ⟨by omega, by omega⟩, _, _, rfl, rfl, (by show (0 : Int) < _; decide), ?_⟩
    refine ⟨_, rfl, _, rfl, _, _, rfl, rfl, .inl ⟨by omega, by omega⟩, _, _, rfl, rfl, _, _, rfl, rfl, .inr ⟨by decide, by decide⟩, _, _, rfl, rfl, (by show (0 : Int) < _; decide), _, _, rfl, rfl, ⟨by decide, by decide⟩, _, rfl, _, _, rfl, rfl, hm0, ?_⟩
    exact k _ _ (Int.emod_nonneg _ (by omega)) (Int.emod_lt_of_pos _ hm0) (tap (p + 1) q (by omega) hq0)
   ·refine ⟨_, rfl, _, rfl, t₁, _, _, _, rfl, rfl, SqL.of upd_same, rfl, s₁, _, rfl, .inl (hs' _), _, _, rfl, rfl, _, rfl, ?_⟩
    refine ite2 (fun _ => ?_) (fun _ => ?_)
    ·refine ⟨_, rfl, _, _, rfl, rfl, (by show (0 : Int) < _; decide), _, _, rfl, rfl, _, rfl, _, _, rfl, rfl, (by show (0 : Int) < _; decide), _, _, rfl, rfl, .inl ⟨by omega, by omega⟩, _, _, rfl, rfl, _, _, rfl, rfl, .inl ⟨by omega, by omega⟩, _, _, rfl, rfl, (by show (0 : Int) < _; decide), ?_⟩
     refine ⟨_, rfl, _, rfl, _, _, rfl, rfl, .inl ⟨by omega, by omega⟩, _, _, rfl, rfl, _, _, rfl, rfl, .inr ⟨by decide, by decide⟩, _, _, rfl, rfl, (by show (0 : Int) < _; decide), _, _, rfl, rfl, ⟨by decide, by decide⟩, _, rfl, _, _, rfl, rfl, hm0, ?_⟩
     exact k _ _ (Int.emod_nonneg _ (by omega)) (Int.emod_lt_of_pos _ hm0) (tap (p + 1) q (by omega) hq0)
    ·have d2 : (0 : Int) ≤ z := by
      have d3 : 1000000000000000000 ≤ z := by simpa using d1
      omega
     refine ⟨_, rfl, _, rfl, t₁, _, _, _, rfl, rfl, upd_same, rfl, ?_⟩
     rw [upd_upd]
     refine ⟨_, rfl, t₁, _, _, _, rfl, rfl, SqL.of upd_same, rfl, _, rfl, _, _, rfl, rfl, hm0, ?_⟩
     refine ⟨_, rfl, t₁, _, _, _, rfl, rfl, SqL.of upd_same, rfl, _, rfl, _, _, rfl, rfl, ⟨hm0, hm1⟩, _, rfl, t₁, _, _, _, rfl, rfl, upd_same, rfl, ?_⟩
     refine ⟨_, rfl, ?_⟩
     rw [upd_upd]
     exact k _ _ (Int.emod_nonneg _ (by omega)) (Int.emod_lt_of_pos _ hm0) (tap (p + 1) (z / m) (by omega) (Int.ediv_nonneg d2 (by omega)))
  ·obtain ⟨z, hz⟩ : ∃ z, z = p := ⟨_, rfl⟩
   refine ⟨_, rfl, _, _, rfl, rfl, ⟨by decide, by decide, by decide⟩, _, _, rfl, rfl, _, rfl, ?_⟩
   refine ite2 (fun _ => ?_) (fun d1 => ?_)
   ·refine iteT ?_
    refine ⟨_, rfl, _, _, rfl, rfl, (by show (0 : Int) < _; decide), _, _, rfl, rfl, _, rfl, _, _, rfl, rfl, (by show (0 : Int) < _; decide), _, _, rfl, rfl, .inl ⟨by omega, by omega⟩, _, _, rfl, rfl, _, _, rfl, rfl, .inl ⟨by omega, by omega⟩, _, _, rfl, rfl, (by show (0 : Int) < _; decide), ?_⟩
    refine ⟨_, rfl, _, rfl, _, _, rfl, rfl, .inl ⟨by omega, by omega⟩, _, _, rfl, rfl, _, _, rfl, rfl, .inr ⟨by decide, by decide⟩, _, _, rfl, rfl, (by show (0 : Int) < _; decide), _, _, rfl, rfl, ⟨by decide, by decide⟩, _, rfl, _, _, rfl, rfl, hm0, ?_⟩
    exact k _ _ (Int.emod_nonneg _ (by omega)) (Int.emod_lt_of_pos _ hm0) (tap (p + 1) q (by omega) hq0)
   ·refine ⟨_, rfl, _, rfl, t₁, _, _, _, rfl, rfl, SqL.of upd_same, rfl, s₁, _, rfl, .inl (hs' _), _, _, rfl, rfl, _, rfl, ?_⟩
    refine ite2 (fun _ => ?_) (fun _ => ?_)
    ·refine ⟨_, rfl, _, _, rfl, rfl, (by show (0 : Int) < _; decide), _, _, rfl, rfl, _, rfl, _, _, rfl, rfl, (by show (0 : Int) < _; decide), _, _, rfl, rfl, .inl ⟨by omega, by omega⟩, _, _, rfl, rfl, _, _, rfl, rfl, .inl ⟨by omega, by omega⟩, _, _, rfl, rfl, (by show (0 : Int) < _; decide), ?_⟩
     refine ⟨_, rfl, _, rfl, _, _, rfl, rfl, .inl ⟨by omega, by omega⟩, _, _, rfl, rfl, _, _, rfl, rfl, .inr ⟨by decide, by decide⟩, _, _, rfl, rfl, (by show (0 : Int) < _; decide), _, _, rfl, rfl, ⟨by decide, by decide⟩, _, rfl, _, _, rfl, rfl, hm0, ?_⟩
     exact k _ _ (Int.emod_nonneg _ (by omega)) (Int.emod_lt_of_pos _ hm0) (tap (p + 1) q (by omega) hq0)
    ·have d2 : (0 : Int) ≤ p := by
      have d3 : 1000000000000000000 ≤ p := by simpa using d1
      omega
     refine ⟨_, rfl, _, rfl, t₁, _, _, _, rfl, rfl, upd_same, rfl, ?_⟩
     rw [upd_upd]
     refine ⟨_, rfl, t₁, _, _, _, rfl, rfl, SqL.of upd_same, rfl, _, rfl, _, _, rfl, rfl, hm0, ?_⟩
     refine ⟨_, rfl, t₁, _, _, _, rfl, rfl, SqL.of upd_same, rfl, _, rfl, _, _, rfl, rfl, ⟨hm0, hm1⟩, _, rfl, t₁, _, _, _, rfl, rfl, upd_same, rfl, ?_⟩
     refine ⟨_, rfl, ?_⟩
     rw [upd_upd]
     exact k _ _ (Int.emod_nonneg _ (by omega)) (Int.emod_lt_of_pos _ hm0) (tap (p + 1) (p / m) (by omega) (Int.ediv_nonneg d2 (by omega)))
 refine iteD0 (fun z => c0 (by injection z)) ?_
 refine ⟨_, rfl, t₁, _, _, _, rfl, rfl, SqL.of ht, rfl, _, rfl, _, _, rfl, rfl, hm0, ?_⟩
 refine ⟨_, rfl, t₁, _, _, _, rfl, rfl, SqL.of ht, rfl, _, rfl, _, _, rfl, rfl, ⟨hm0, hm1⟩, _, rfl, t₁, _, _, _, rfl, rfl, ht, rfl, ?_⟩
 refine ⟨_, rfl, ?_⟩
 exact k _ _ (Int.emod_nonneg _ (by omega)) (Int.emod_lt_of_pos _ hm0) (tap p (q / m) hp0 (Int.ediv_nonneg hq0 (by omega)))
theorem ok_Q1 (T : Txt K mg t) : FnOk P w K mg base CX0 2 t.a_Q1 t.d_Q1 ["_law_due", "_law_found"] (sp_law_alike K) := by
 refine T.F_Q1.ok sc_Q1 (fun vs H Q E h => ?_) (fun cdv A outer s H vs Q E hr h => ?_)
 ·obtain ⟨_, _, _, rfl, _⟩ := h; rfl
 obtain ⟨v, w, d, rfl, hv, hw, dp, sm, k⟩ := h
 refine QSs.ok (qss_cons (qs_if (qw_pt (qw_or (qt_val (qe_callB call_isiD (by rfl) T.z_isinstance boot_isinstance (qa_cons (qv 0) (qa_cons (qe_bltn (v := V.ty "tuple") rfl T.z_tuple boot_tuple rfl) qa_nil star_name) star_name))) (qw_or1 (qt_val (qe_callB call_isiD (by rfl) T.z_isinstance boot_isinstance (qa_cons (qv 0) (qa_cons (qe_bltn (v := V.ty "list") rfl T.z_list boot_list rfl) qa_nil star_name) star_name)))))) (qss_cons (qs_if (qt_cmpR op_ne (qe_callB call_isiD (by rfl) T.z_isinstance boot_isinstance (qa_cons (qv 0) (qa_cons (qe_bltn (v := V.ty "tuple") rfl T.z_tuple boot_tuple rfl) qa_nil star_name) star_name)) (qe_callB call_isiD (by rfl) T.z_isinstance boot_isinstance (qa_cons (qv 1) (qa_cons (qe_bltn (v := V.ty "tuple") rfl T.z_tuple boot_tuple rfl) qa_nil star_name) star_name)) (nomark _)) (qss_one (qs_ret qe_bl)) qss_nil)
   (qss_cons (qs_if (qt_cmpR op_ne (qe_callB call_isiD (by rfl) T.z_isinstance boot_isinstance (qa_cons (qv 0) (qa_cons (qe_bltn (v := V.ty "list") rfl T.z_list boot_list rfl) qa_nil star_name) star_name)) (qe_callB call_isiD (by rfl) T.z_isinstance boot_isinstance (qa_cons (qv 1) (qa_cons (qe_bltn (v := V.ty "list") rfl T.z_list boot_list rfl) qa_nil star_name) star_name)) (nomark _)) (qss_one (qs_ret qe_bl)) qss_nil)
   (qss_cons (qs_if (qt_cmpR op_ne (qe_callB call_len_seq (by rfl) T.z_len boot_len (qa_cons (qv 0) qa_nil star_name)) (qe_callB call_len_seq (by rfl) T.z_len boot_len (qa_cons (qv 1) qa_nil star_name)) (nomark _)) (qss_one (qs_ret qe_bl)) qss_nil)
   (qss_one (qs_ret (qe_callB (call_allL rfl) (by rfl) T.z_all boot_all (qa_cons (qe_lcomp (N' := ["_law_k", "_law_due", "_law_found"]) (src := [none, some 0, some 1]) rfl (by exact (qi_range1 rfl T.z_range (qa_cons (qe_callB call_len_seq (by rfl) T.z_len boot_len (qa_cons (qv 0) qa_nil star_name)) qa_nil star_call))) (fun _ _ _ _ _ => (by exact (by exact qg_name (i := 0) (by show List.Nodup (["_law_k", "_law_due", "_law_found"] : List Str); decide +kernel) (by exact rfl) (by first | exact Or.inl rfl | exact Or.inr rfl)))) (fun _ _ _ _ _ => qts_nil) (fun _ _ _ _ _ => (by exact (by exact (qe_call (ok_alike0 T) (by exact hr.mono (by decide)) (by exact rfl) T.m_Q1 T.F_Q1.kp T.b_Q1 (by exact .nil) (by exact pass0) (qa_cons (by exact (qe_ix (ix_tupK (K := K) (by exact rfl)) (by exact (qv 1)) (by exact (qv 0)) (by exact fun _ _ => rfl))) (qa_cons (by exact (qe_ix (ix_tupK (K := K) (by exact rfl)) (by exact (qv 2)) (by exact (qv 0)) (by exact fun _ _ => rfl))) qa_nil star_sub) star_sub))))) (by exact ⟨rfl, rfl, rfl, rfl, ⟨rfl, rfl, rfl, rfl, trivial⟩⟩) rfl (by decide +kernel) rfl (by decide +kernel) (by exact cells_of rfl ⟨rfl, ⟨rfl, trivial⟩⟩)) qa_nil star_lc))))))) qss_nil)
   (qss_cons (qs_if (qt_cmpR op_isN (qv 0) qe_non (nomark _)) (qss_one (qs_ret (qe_cmpR op_isN (qv 1) qe_non (nomark _)))) qss_nil)
   (qss_cons (qs_if (qt_val (qe_callB call_isiD (by rfl) T.z_isinstance boot_isinstance (qa_cons (qv 0) (qa_cons (qe_bltn (v := V.ty "str") rfl T.z_str boot_str rfl) qa_nil star_name) star_name))) (qss_one (qs_ret (qe_and (qe_callB call_isiD (by rfl) T.z_isinstance boot_isinstance (qa_cons (qv 1) (qa_cons (qe_bltn (v := V.ty "str") rfl T.z_str boot_str rfl) qa_nil star_name) star_name)) (qe_one (qe_cmpR op_eq (qv 1) (qv 0) (nomark _)))))) qss_nil)
   (qss_cons (qs_if (qt_val (qe_callB call_isiD (by rfl) T.z_isinstance boot_isinstance (qa_cons (qv 0) (qa_cons (qe_bltn (v := V.ty "bool") rfl T.z_bool boot_bool rfl) qa_nil star_name) star_name))) (qss_one (qs_ret (qe_and (qe_callB call_isiD (by rfl) T.z_isinstance boot_isinstance (qa_cons (qv 1) (qa_cons (qe_bltn (v := V.ty "bool") rfl T.z_bool boot_bool rfl) qa_nil star_name) star_name)) (qe_one (qe_cmpR op_eq (qv 1) (qv 0) (nomark _)))))) qss_nil)
   (qss_one (qs_ret (qe_and (qe_callB call_isiD (by rfl) T.z_isinstance boot_isinstance (qa_cons (qv 1) (qa_cons (qe_bltn (v := V.ty "int") rfl T.z_int boot_int rfl) qa_nil star_name) star_name)) (qe_and (qe_not (qe_callB call_isiD (by rfl) T.z_isinstance boot_isinstance (qa_cons (qv 1) (qa_cons (qe_bltn (v := V.ty "bool") rfl T.z_bool boot_bool rfl) qa_nil star_name) star_name))) (qe_one (qe_cmpR op_eq (qv 1) (qv 0) (nomark _))))))))))) ?_
 cases hv with
 | non =>
  cases hw
  refine ⟨_, rfl, _, _, _, _, rfl, .non, kq_NoneType_tuple, _, rfl, iteF ?_⟩
  refine ⟨_, rfl, _, _, _, _, rfl, .non, kq_NoneType_list, _, rfl, iteF ?_⟩
  refine ⟨_, rfl, rfl, _, rfl, iteT ?_⟩
  exact ⟨_, rfl, rfl, k H (Same.refl H)⟩
 | bl b =>
  cases hw
  refine ⟨_, rfl, _, _, _, _, rfl, .bl b, kq_bool_tuple, _, rfl, iteF ?_⟩
  refine ⟨_, rfl, _, _, _, _, rfl, .bl b, kq_bool_list, _, rfl, iteF ?_⟩
  refine ⟨_, rfl, rfl, _, rfl, iteD0 (by intro z; cases z) ?_⟩
  refine ⟨_, rfl, _, _, _, _, rfl, .bl b, kq_bool_str, _, rfl, iteF ?_⟩
  refine ⟨_, rfl, _, _, _, _, rfl, .bl b, kq_bool_bool, _, rfl, iteT ?_⟩
  refine ⟨_, rfl, _, _, _, _, rfl, .bl b, kq_bool_bool, _, rfl, iteT ?_⟩
  have := k H (Same.refl H)
  exact ⟨_, rfl, _, rfl, rfl, by rw [decide_eq_true rfl]; exact this⟩
 | int i =>
  cases hw
  refine ⟨_, rfl, _, _, _, _, rfl, .int i, kq_int_tuple, _, rfl, iteF ?_⟩
  refine ⟨_, rfl, _, _, _, _, rfl, .int i, kq_int_list, _, rfl, iteF ?_⟩
  refine ⟨_, rfl, rfl, _, rfl, iteD0 (by intro z; cases z) ?_⟩
  refine ⟨_, rfl, _, _, _, _, rfl, .int i, kq_int_str, _, rfl, iteF ?_⟩
  refine ⟨_, rfl, _, _, _, _, rfl, .int i, kq_int_bool, _, rfl, iteF ?_⟩
  refine ⟨_, rfl, _, _, _, _, rfl, .int i, kq_int_int, _, rfl, iteT ?_⟩
  refine ⟨_, rfl, _, _, _, _, rfl, .int i, kq_int_bool, _, rfl, _, rfl, iteT ?_⟩
  have := k H (Same.refl H)
  exact ⟨_, rfl, _, rfl, rfl, by rw [decide_eq_true rfl]; exact this⟩
 | str x =>
  cases hw
  refine ⟨_, rfl, _, _, _, _, rfl, .str x, kq_str_tuple, _, rfl, iteF ?_⟩
  refine ⟨_, rfl, _, _, _, _, rfl, .str x, kq_str_list, _, rfl, iteF ?_⟩
  refine ⟨_, rfl, rfl, _, rfl, iteD0 (by intro z; cases z) ?_⟩
  refine ⟨_, rfl, _, _, _, _, rfl, .str x, kq_str_str, _, rfl, iteT ?_⟩
  refine ⟨_, rfl, _, _, _, _, rfl, .str x, kq_str_str, _, rfl, iteT ?_⟩
  have := k H (Same.refl H)
  exact ⟨_, rfl, _, rfl, rfl, by rw [decide_eq_true rfl]; exact this⟩
 | lst e h => cases sm
 | @tup a xs ds e h =>
  cases hw with
  | @tup a' xs' _ e' h' =>
  have lx := deepAll_len h
  have lx' := deepAll_len h'
  have sm' : (decide (ds.length ≤ 1000) && smAll ds) = true := sm
  rw [Bool.and_eq_true] at sm'
  obtain ⟨sm1, sm2⟩ := sm'
  have ln : ds.length ≤ 1000 := of_decide_eq_true sm1
  have dv : Deep K H (.ref a) (.tuple ds) := .tup e h
  have dw : Deep K H (.ref a') (.tuple ds) := .tup e' h'
  refine ⟨_, rfl, _, _, _, _, rfl, dv, kq_tuple_tuple, _, rfl, iteT ?_⟩
  refine ⟨_, rfl, _, _, _, _, rfl, dv, kq_tuple_tuple, _, rfl, _, _, _, _, rfl, dw, kq_tuple_tuple, rfl, _, rfl, iteNS rfl ?_⟩
  refine ⟨_, rfl, _, _, _, _, rfl, dv, kq_tuple_list, _, rfl, _, _, _, _, rfl, dw, kq_tuple_list, rfl, _, rfl, iteNS rfl ?_⟩
  refine ⟨_, rfl, a, _, rfl, .inr e, _, rfl, a', _, rfl, .inr e', rfl, _, rfl, iteNS (congrArg (fun n : Nat => V.int n) (lx.trans lx'.symm)) ?_⟩
  refine ⟨_, rfl, a, _, rfl, .inr e, _, rfl, by omega, by omega, fun D hD => comp_ix wlk_rng (fun _ => true) (fun _ => V.bl true) hD (by omega) (fun i x H' hi s' hx R E kR kE => ?_) fun H4 s4 h4 => ?_⟩
  ·subst hx
   rw [Int.zero_add]
   obtain ⟨d, hd⟩ : ∃ d, ds[i]? = some d := ⟨_, List.getElem?_eq_getElem (by omega)⟩
   obtain ⟨x, hx, dx⟩ := deepAll_at h hd
   obtain ⟨y, hy, dy⟩ := deepAll_at h' hd
   have t' := Tst.same (K := K) s'
   refine ⟨Ext.set rfl, _, rfl, _, rfl, a, _, _, _, rfl, rfl, t' _ _ e, atI_nat hx, _, rfl, _, rfl, a', _, _, _, rfl, rfl, t' _ _ e', atI_nat hy, x, y, d, rfl, dx.same s', dy.same s', ?_, smAll_at sm2 hd, fun H'' s'' => kR rfl H'' s''⟩
   have : PyData.depthAll ds + 1 ≤ 0 + 1 := dp
   exact Nat.le_trans (depthAll_at hd) (Nat.le_of_succ_le_succ this)
  ·have e4 : (((List.range (xs.length : Int).toNat).filter fun _ => true).map fun _ => V.bl true) = (((List.range (xs.length : Int).toNat).filter fun _ => true).map fun _ => true).map V.bl := by rw [List.map_map]; rfl
   rw [e4] at h4
   have q := k H4 s4
   refine ⟨D, _, rfl, SqL.of h4, ?_⟩
   rw [show ((((List.range (xs.length : Int).toNat).filter fun _ => true).map fun _ => true).all id) = true by simp]
   exact q
theorem ok_Q6 (T : Txt K mg t) : FnOk P w K mg base CX0 1 t.a_Q6 t.d_Q6 ["_law_top", "_law_bottom"] (sp_law_frac K) := by
 refine T.F_Q6.ok sc_Q6 (fun vs H Q E h => ?_) (fun cdv A outer s H vs Q E hr h => ?_)
 ·obtain ⟨_, _, rfl, _⟩ := h; rfl
 obtain ⟨a, b, rfl, hb, hz, k⟩ := h
 refine QSs.ok (qss_cons (qs_par (i := 2) (j := 3) rfl sc_Q6.nd rfl rfl (by decide) rfl rfl (qa_cons (qe_callB call_abs (by rfl) T.z_abs boot_abs (qa_cons (qv 0) qa_nil star_name)) (qa_cons (qv 1) qa_nil star_name) star_call) rfl)
   (qss_cons (qs_while PassesOwn.never (qt_cmpR op_ne (qv 3) qe_int (nomark _))
   (qss_one (qs_par (i := 2) (j := 3) rfl sc_Q6.nd rfl rfl (by decide) rfl rfl (qa_cons (qv 3) (qa_cons (qe_op op_mod (qv 2) (qv 3)) qa_nil star_bin) star_name) rfl)))
   (qss_one (qs_ret (qe_tup (qa_cons (qe_op op_quo (qv 0) (qv 2)) (qa_cons (qe_op op_quo (qv 1) (qv 2)) qa_nil star_bin) star_bin)))))) ?_
 have gp := gcd_posR (a := a) hb
 have gb := gcd_lt (a := a) hb hz
 refine ⟨_, rfl, _, rfl, _, rfl, _, _, rfl, ?_⟩
 rw [abs_if]
 refine ⟨fun m σ H' => ∃ (x y : Int), σ = [some (.int a), some (.int b), some (.int x), some (.int y)] /\ H' = H /\ 0 ≤ x /\ 0 ≤ y /\ Int.gcd x y = Int.gcd a b /\ m = y.toNat, ⟨_, _, _, rfl, rfl, by omega, by omega, (by simp [Int.gcd]), rfl⟩, ?_⟩
 rintro m σ H' ⟨x, y, rfl, rfl, hx, hy, hg, rfl⟩
 refine ⟨_, rfl, rfl, _, rfl, ?_⟩
 by_cases c : y = 0
 ·subst c
  refine iteNS rfl ?_
  have e : (x : Int) = (Int.gcd x 0 : Nat) := by simp [Int.gcd]; omega
  rw [hg] at e
  subst e
  exact ⟨_, rfl, _, rfl, _, _, rfl, rfl, ⟨gp, gb⟩, _, rfl, _, rfl, _, _, rfl, rfl, ⟨gp, gb⟩, zl2, fun p hp => k p hp⟩
 ·refine iteN1 (fun z => c (by injection z)) ?_
  refine ⟨_, fun _ _ z => z, ?_⟩
  refine ⟨_, rfl, _, rfl, _, rfl, _, _, rfl, rfl, (by omega), _, _, rfl, ?_⟩
  refine ⟨_, ?_, y, x % y, rfl, rfl, hy, Int.emod_nonneg _ c, ?_, rfl⟩
  ·have := Int.emod_lt_of_pos x (show 0 < y by omega)
   have := Int.emod_nonneg x c
   omega
  ·rw [gcd_turn hx (by omega), hg]
theorem ok_Q9 (T : Txt K mg t) : FnOk P w K mg base CX0 2 t.a_Q9 t.d_Q9 ["_law_one", "_law_other"] (sp_law_add K) := by
 refine T.F_Q9.ok sc_Q9 (fun vs H Q E h => ?_) (fun cdv A outer s H vs Q E hr h => ?_)
 ·obtain ⟨_, _, _, _, _, _, rfl, _⟩ := h; rfl
 obtain ⟨v, w, r, q, n, m, rfl, hv, hw, wr, wq, hz, k⟩ := h
 refine QSs.ok (qss_one (qs_ret (qcA (ok_Q6 T) hr T.m_Q6 T.F_Q6.kp T.b_Q6 (qa_cons (qe_op op_add (qe_op op_mulB (qxA ix_tup (qv 0) qe_int) (qxA ix_tup (qv 1) qe_int)) (qe_op op_mulB (qxA ix_tup (qv 1) qe_int) (qxA ix_tup (qv 0) qe_int))) (qa_cons (qe_op op_mulB (qxA ix_tup (qv 0) qe_int) (qxA ix_tup (qv 1) qe_int)) qa_nil star_bin) star_bin)))) ?_
 obtain ⟨p, rfl, hv⟩ := hv
 obtain ⟨p', rfl, hw⟩ := hw
 have c1 := big_of wr.top (show n ≤ 4000 by omega)
 have c2 := big_of wr.bot (show n ≤ 4000 by omega)
 have c3 := big_of wq.top (show m ≤ 4000 by omega)
 have c4 := big_of wq.bot (show m ≤ 4000 by omega)
 refine ⟨_, rfl, p, _, _, _, rfl, rfl, hv, rfl, _, rfl, p', _, _, _, rfl, rfl, hw, rfl, _, _, rfl, rfl, ⟨c1, c4⟩, _, rfl, p', _, _, _, rfl, rfl, hw, rfl, _, rfl, p, _, _, _, rfl, rfl, hv, rfl, _, _, rfl, rfl, ⟨c3, c2⟩, _, _, rfl, rfl, _, rfl, p, _, _, _, rfl, rfl, hv, rfl, _, rfl, p', _, _, _, rfl, rfl, hw, rfl, _, _, rfl, rfl, ⟨c2, c4⟩, _, _, rfl, Int.mul_pos wr.pos wq.pos, big_of (mul_lt wr.bot wq.bot) (by omega), k⟩
theorem ok_Q10 (T : Txt K mg t) : FnOk P w K mg base CX0 2 t.a_Q10 t.d_Q10 ["_law_one", "_law_other"] (sp_law_mul K) := by
 refine T.F_Q10.ok sc_Q10 (fun vs H Q E h => ?_) (fun cdv A outer s H vs Q E hr h => ?_)
 ·obtain ⟨_, _, _, _, _, _, rfl, _⟩ := h; rfl
 obtain ⟨v, w, r, q, n, m, rfl, hv, hw, wr, wq, hz, k⟩ := h
 refine QSs.ok (qss_one (qs_ret (qcA (ok_Q6 T) hr T.m_Q6 T.F_Q6.kp T.b_Q6 (qa_cons (qe_op op_mulB (qxA ix_tup (qv 0) qe_int) (qxA ix_tup (qv 1) qe_int)) (qa_cons (qe_op op_mulB (qxA ix_tup (qv 0) qe_int) (qxA ix_tup (qv 1) qe_int)) qa_nil star_bin) star_bin)))) ?_
 obtain ⟨p, rfl, hv⟩ := hv
 obtain ⟨p', rfl, hw⟩ := hw
 have c1 := big_of wr.top (show n ≤ 4000 by omega)
 have c2 := big_of wr.bot (show n ≤ 4000 by omega)
 have c3 := big_of wq.top (show m ≤ 4000 by omega)
 have c4 := big_of wq.bot (show m ≤ 4000 by omega)
 refine ⟨_, rfl, p, _, _, _, rfl, rfl, hv, rfl, _, rfl, p', _, _, _, rfl, rfl, hw, rfl, _, _, rfl, rfl, ⟨c1, c3⟩, _, rfl, p, _, _, _, rfl, rfl, hv, rfl, _, rfl, p', _, _, _, rfl, rfl, hw, rfl, _, _, rfl, rfl, ⟨c2, c4⟩, _, _, rfl, Int.mul_pos wr.pos wq.pos, big_of (mul_lt wr.bot wq.bot) (by omega), k⟩
theorem ok_Q2 (T : Txt K mg t) : FnOk P w K mg base CX0 2 t.a_Q2 t.d_Q2 ["_law_tape_here", "_law_many"] (sp_law_works K) := by
 refine T.F_Q2.ok sc_Q2 (fun vs H Q E h => ?_) (fun cdv A outer s H vs Q E hr h => ?_)
 ·obtain ⟨_, _, _, rfl, _⟩ := h; rfl
 obtain ⟨t₁, s₁, m, rfl, tp, hm, k⟩ := h
 refine QSs.ok (qss_cons (qsA 2 sc_Q2.nd (qxA ix_list (qe_lst (qa_cons qe_int (qa_cons qe_int (qa_cons qe_int (qa_cons qe_int qa_nil star_con) star_con) star_con) star_con)) (qcA (ok_Q5 T) hr T.m_Q5 T.F_Q5.kp T.b_Q5 (qa_cons (qv 0) (qa_cons qe_int qa_nil star_con) star_name))))
   (qss_cons (qsA 3 sc_Q2.nd (qe_lst qa_nil))
   (qss_cons (qs_for PassesOwn.never rfl (qi_range1 rfl T.z_range (qa_cons (qv 1) qa_nil star_name)) (qg_name (i := 4) sc_Q2.nd rfl (by first | exact Or.inl rfl | exact Or.inr rfl))
   (qss_cons (qsA 5 sc_Q2.nd (qcA (ok_Q5 T) hr T.m_Q5 T.F_Q5.kp T.b_Q5 (qa_cons (qv 0) (qa_cons (qv 2) qa_nil star_name) star_name)))
   (qss_cons (qsA 6 sc_Q2.nd (qe_op op_add (qv 5) (qcA (ok_Q5 T) hr T.m_Q5 T.F_Q5.kp T.b_Q5 (qa_cons (qv 0) (qa_cons (qe_op op_sub (qv 2) (qv 5)) qa_nil star_bin) star_name))))
   (qss_cons (qsA 7 sc_Q2.nd (qcA (ok_Q5 T) hr T.m_Q5 T.F_Q5.kp T.b_Q5 (qa_cons (qv 0) (qa_cons qe_int qa_nil star_con) star_name)))
   (qss_cons (qs_if (qt_cmpR op_eq (qv 7) qe_int (nomark _)) (qss_one (qsA 6 sc_Q2.nd (qv 5))) qss_nil)
   (qss_cons (qs_if (qt_cmpR op_eq (qv 7) qe_int (nomark _)) (qss_one (qs_par (i := 5) (j := 6) rfl sc_Q2.nd rfl rfl (by decide) rfl rfl (qa_cons qe_int (qa_cons (qe_op op_sub (qv 2) qe_int) qa_nil star_bin) star_con) rfl)) qss_nil)
   (qss_cons (qs_if (qw_pt (qw_and (qt_cmpR op_eq (qv 7) qe_int (nomark _)) (qw_and1 (qt_cmpR op_gt (qv 4) qe_int (nomark _))))) (qss_one (qs_asg (qe_slice sl_tupU (qxA ix_list (qv 3) (qcA (ok_Q5 T) hr T.m_Q5 T.F_Q5.kp T.b_Q5 (qa_cons (qv 0) (qa_cons (qv 4) qa_nil star_name) star_name))) qo_none (qo_some qe_int)) (qg_tup rfl (qgs_cons (qg_name (i := 5) sc_Q2.nd rfl (by first | exact Or.inl rfl | exact Or.inr rfl)) (qgs_cons (qg_name (i := 6) sc_Q2.nd rfl (by first | exact Or.inl rfl | exact Or.inr rfl)) qgs_nil))))) qss_nil)
   (qss_one (qs_expr (qe_bm PySem.F.plainAttrs_list PySem.F.slot_list_append PySem.F.type_list_append mt_append (qv 3) (qa_cons (qe_tup (qa_cons (qv 5) (qa_cons (qv 6) (qa_cons (qcA (ok_Q6 T) hr T.m_Q6 T.F_Q6.kp T.b_Q6 (qa_cons (qe_op op_add qe_int (qcA (ok_Q5 T) hr T.m_Q5 T.F_Q5.kp T.b_Q5 (qa_cons (qv 0) (qa_cons qe_int qa_nil star_con) star_name))) (qa_cons (qxA ix_list (qe_lst (qa_cons qe_int (qa_cons qe_int (qa_cons qe_int (qa_cons qe_int (qa_cons qe_int (qa_cons qe_int qa_nil star_con) star_con) star_con) star_con) star_con) star_con)) (qcA (ok_Q5 T) hr T.m_Q5 T.F_Q5.kp T.b_Q5 (qa_cons (qv 0) (qa_cons qe_int qa_nil star_con) star_name))) qa_nil star_sub) star_bin)) qa_nil star_call) star_name) star_name)) qa_nil star_tup)))))))))))
   (qss_one (qs_ret (qe_callTy call_tuple_of (by rfl) T.z_tuple boot_tuple (qa_cons (qv 3) qa_nil star_name))))))) ?_
 obtain ⟨y0, e0⟩ := tp.lst
 refine ⟨zl4, fun le hle => ?_⟩
 have nle : le ≠ t₁ := fun z => by subst z; rw [e0] at hle; cases hle
 have s0 := same_new hle (.lst [.int 3, .int 7, .int 12, .int 24])
 have T0 := tp.new hle (.lst [.int 3, .int 7, .int 12, .int 24])
 have h00 : upd H le (.lst [.int 3, .int 7, .int 12, .int 24]) le = some (.lst [.int 3, .int 7, .int 12, .int 24]) := upd_same
 generalize upd H le (.lst [.int 3, .int 7, .int 12, .int 24]) = H0 at T0 s0 h00 ⊢
 obtain ⟨y00, e00⟩ := T0.lst
 refine ⟨_, rfl, t₁, s₁, 4, rfl, T0, by omega, by omega, fun r0 x0_ a0 b0 T0 => ?_⟩
 have S0 : Step t₁ H (upd H0 t₁ (.lst x0_)) := (Step.same s0 tp.lst).trans (Step.up e00)
 have h01 : upd H0 t₁ (.lst x0_) le = some (.lst [.int 3, .int 7, .int 12, .int 24]) := by rw [upd_ne nle]; exact h00
 generalize upd H0 t₁ (.lst x0_) = HA at T0 S0 h01 ⊢
 rename_i T0'
 obtain ⟨en, hen, en1, en2⟩ : ∃ e : Nat, atI [V.int 3, .int 7, .int 12, .int 24] r0 = some (.int e) /\ 3 ≤ e /\ e ≤ 24 := by
  rcases (show r0 = 0 ∨ r0 = 1 ∨ r0 = 2 ∨ r0 = 3 by omega) with rfl | rfl | rfl | rfl
  ·exact ⟨3, rfl, by decide, by decide⟩
  ·exact ⟨7, rfl, by decide, by decide⟩
  ·exact ⟨12, rfl, by decide, by decide⟩
  ·exact ⟨24, rfl, by decide, by decide⟩
 refine ⟨le, _, _, _, rfl, rfl, SqL.of h01, hen, ?_⟩
 refine ⟨(by show 0 ≤ sizeLine; exact Nat.zero_le _), fun lw hlw0 => ?_⟩
 obtain ⟨yA, eA⟩ := T0.lst
 have nl : lw ≠ t₁ := fun z => by subst z; rw [eA] at hlw0; cases hlw0
 have nls := T0.off hlw0
 refine ⟨_, rfl, m, rfl, by omega, by omega, for_range (lo := 0) (n := (m : Int).toNat) (fun i σ H' => ∃ (xs : List V) (ws : List Wk) (x5 x6 x7 x8 : Option V), σ = [some (.ref t₁), some (.int m), some (.int en), some (.ref lw), x5, x6, x7, x8] /\ Tape3 K H' t₁ s₁ /\ (∀ b o, b ≠ t₁ -> HA b = some o -> H' b = some o) /\ H' lw = some (.lst xs) /\ Als (WkV K H') xs ws /\ ws.length = i /\ ∀ w ∈ ws, WkOk w) ⟨[], [], none, none, none, none, rfl, T0.new hlw0 _, (fun b o _ q => same_new hlw0 _ _ _ q), upd_same, .nil, rfl, fun w hw => by cases hw⟩ ?_ ?_⟩
 ·rintro i σ H1 hi ⟨xs, ws, x5, x6, x7, x8, rfl, T1, kp, hlw, alw, hlen, okw⟩
  rw [Int.zero_add]
  obtain ⟨y1, e1⟩ := T1.lst
  refine ⟨_, rfl, _, rfl, t₁, s₁, en, rfl, T1, by omega, by omega, fun r2 x2_ a2 b2 T2 => ?_⟩
  obtain ⟨ff, rfl⟩ := Int.eq_ofNat_of_zero_le a2
  have S2 : Step t₁ H1 _ := Step.up (ys := x2_) e1
  generalize upd H1 t₁ (.lst x2_) = H2 at T2 S2 ⊢
  obtain ⟨y2, e2⟩ := T2.lst
  refine ⟨_, rfl, _, rfl, _, rfl, _, rfl, _, _, rfl, rfl, t₁, s₁, (en : Int) - ff, rfl, T2, by omega, by omega, fun r3 x3_ a3 b3 T3 => ?_⟩
  have S3 := S2.trans (Step.up (ys := x3_) e2)
  generalize upd H2 t₁ (.lst x3_) = H3 at T3 S3 ⊢
  obtain ⟨y3, e3⟩ := T3.lst
  refine ⟨_, _, rfl, rfl, ?_⟩
  obtain ⟨la, hla⟩ : ∃ la : Nat, (ff : Int) + r3 = (la : Nat) := ⟨((ff : Int) + r3).toNat, by omega⟩
  dsimp only
  rw [hla]
  refine ⟨_, rfl, t₁, s₁, 7, rfl, T3, by omega, by omega, fun r4 x4_ a4 b4 T4 => ?_⟩
  have S4 := S3.trans (Step.up (ys := x4_) e3)
  generalize hHH : upd H3 t₁ (.lst x4_) = HH at T4 S4 ⊢
  have kp4 := S4.keep
  have tst4 : Tst K H1 HH := Tst.step S4
  refine ⟨_, rfl, rfl, _, rfl, ?_⟩
  by_cases c0 : r4 = 0
  ·subst c0
   refine iteD1 rfl ?_
   refine ⟨_, rfl, ?_⟩
   refine ⟨_, rfl, rfl, _, rfl, iteD0 (by intro z; cases z) ?_⟩
   refine ⟨_, rfl, rfl, _, rfl, iteF (iteF ?_)⟩
   obtain ⟨y4, e4⟩ := T4.lst
   have hlw4 : HH lw = some (.lst xs) := kp4 _ _ nl hlw
   refine ⟨_, rfl, .inl ⟨rfl, _, SqL.of hlw4⟩, ?_⟩
   refine ⟨_, rfl, _, rfl, _, rfl, t₁, s₁, 12, rfl, T4, by omega, by omega, fun r5 x5_ a5 b5 T5 => ?_⟩
   have S5 : Step t₁ HH _ := Step.up (ys := x5_) e4
   generalize upd HH t₁ (.lst x5_) = H5 at T5 S5 ⊢
   obtain ⟨y5, e5⟩ := T5.lst
   refine ⟨_, _, rfl, rfl, zl6, fun l6 h6 => ?_⟩
   have S6 := S5.trans (Step.new T5.lst h6 (.lst [.int 1, .int 1, .int 2, .int 3, .int 4, .int 7]))
   have n6 : l6 ≠ t₁ := fun z => by subst z; rw [e5] at h6; cases h6
   have T6' := T5.new h6 (.lst [.int 1, .int 1, .int 2, .int 3, .int 4, .int 7])
   obtain ⟨y6, e6⟩ := T6'.lst
   have h6' : upd H5 l6 (.lst [.int 1, .int 1, .int 2, .int 3, .int 4, .int 7]) l6 = some (.lst [.int 1, .int 1, .int 2, .int 3, .int 4, .int 7]) := upd_same
   generalize upd H5 l6 (.lst [.int 1, .int 1, .int 2, .int 3, .int 4, .int 7]) = H6 at T6' S6 e6 h6' ⊢
   refine ⟨_, rfl, t₁, s₁, 6, rfl, T6', by omega, by omega, fun r7 x7_ a7 b7 T7 => ?_⟩
   have S7 := S6.trans (Step.up (ys := x7_) e6)
   have h67 : upd H6 t₁ (.lst x7_) l6 = some (.lst [.int 1, .int 1, .int 2, .int 3, .int 4, .int 7]) := by rw [upd_ne n6]; exact h6'
   generalize upd H6 t₁ (.lst x7_) = H7 at T7 S7 h67 ⊢
   obtain ⟨bb, hbb, bo1, bo2, bo3⟩ : ∃ b : Int, atI [V.int 1, .int 1, .int 2, .int 3, .int 4, .int 7] r7 = some (.int b) /\ 1 ≤ b /\ b ≤ 7 /\ b ∣ 84 := by
    rcases (show r7 = 0 ∨ r7 = 1 ∨ r7 = 2 ∨ r7 = 3 ∨ r7 = 4 ∨ r7 = 5 by omega) with rfl | rfl | rfl | rfl | rfl | rfl
    ·exact ⟨1, rfl, by decide, by decide, by decide⟩
    ·exact ⟨1, rfl, by decide, by decide, by decide⟩
    ·exact ⟨2, rfl, by decide, by decide, by decide⟩
    ·exact ⟨3, rfl, by decide, by decide, by decide⟩
    ·exact ⟨4, rfl, by decide, by decide, by decide⟩
    ·exact ⟨7, rfl, by decide, by decide, by decide⟩
   refine ⟨l6, _, _, _, rfl, rfl, SqL.of h67, hbb, ?_⟩
   refine ⟨1 + r5, bb, rfl, by omega, big_of (n := 3) (by show bb.natAbs < 8; omega) (by decide), fun pf hpf => ?_⟩
   have am := amOk_mk (a := 1 + r5) (by omega) (by omega) bo1 bo2 bo3
   have s8 := same_new hpf (.tup [.int (mkR (1 + r5) bb).1, .int (mkR (1 + r5) bb).2])
   have rf : RV K _ (.ref pf) (mkR (1 + r5) bb) := ⟨pf, rfl, SqT.of (upd_same (H := H7) (a := pf) (o := .tup [.int (mkR (1 + r5) bb).1, .int (mkR (1 + r5) bb).2]))⟩
   have T8 := T7.same s8
   generalize upd H7 pf (.tup [.int (mkR (1 + r5) bb).1, .int (mkR (1 + r5) bb).2]) = H8 at T8 s8 rf ⊢
   refine ⟨zl3, fun pw hpw => ?_⟩
   have s9 := same_new hpw (.tup [.int (ff : Nat), .int (ff : Nat), .ref pf])
   have hpw9 : SqT K _ pw [.int (ff : Nat), .int (ff : Nat), .ref pf] := SqT.of (upd_same (H := H8) (a := pw) (o := .tup [.int (ff : Nat), .int (ff : Nat), .ref pf]))
   have T9 := T8.same s9
   have rf9 := rf.mono (Tst.same s9)
   generalize upd H8 pw (.tup [.int (ff : Nat), .int (ff : Nat), .ref pf]) = H9 at T9 s9 rf9 hpw9 ⊢
   have S9 := S7.trans (Step.same (s8.trans s9) T7.lst)
   have hlw9 := S9.keep _ _ nl hlw4
   refine ⟨lw, xs, _, rfl, rfl, hlw9, small1000 (by rw [alw.len]; omega), ?_⟩
   have t9 : Tst K H1 (upd H9 lw (.lst (xs ++ [.ref pw]))) := (tst4.trans (Tst.step S9)).trans (Tst.up hlw9 _)
   refine ⟨_, ws ++ [(ff, ff, mkR (1 + r5) bb)], _, _, _, _, rfl, T9.upl nl nls _, fun b o nb q => ?_, upd_same, (alw.mono fun v d m => m.mono t9).snoc ⟨pw, .ref pf, rfl, Tst.up (K := K) hlw9 _ _ _ hpw9, rf9.mono (Tst.up hlw9 _)⟩, by rw [List.length_append, hlen]; rfl, fun z hz => ?_⟩
   ·rw [upd_ne (ne_of_none q hlw0)]
    exact S9.keep _ _ nb (kp4 _ _ nb (kp b o nb q))
   ·rcases List.mem_append.mp hz with h | h
    ·exact okw z h
    ·rw [List.mem_singleton] at h
     subst h
     exact ⟨by show ff ≤ ff; omega, by show ff < 24; omega, am⟩
  refine iteD0 (fun z => c0 (by injection z)) ?_
  refine ⟨_, rfl, rfl, _, rfl, ?_⟩
  by_cases c1 : r4 = 1
  ·subst c1
   refine iteD1 rfl ?_
   refine ⟨_, rfl, _, _, rfl, rfl, _, _, rfl, ?_⟩
   refine ⟨_, rfl, rfl, _, rfl, iteF (iteF ?_)⟩
   dsimp only
   rw [show (en : Int) - 1 = ((en - 1 : Nat) : Int) by omega]
   obtain ⟨y4, e4⟩ := T4.lst
   have hlw4 : HH lw = some (.lst xs) := kp4 _ _ nl hlw
   refine ⟨_, rfl, .inl ⟨rfl, _, SqL.of hlw4⟩, ?_⟩
   refine ⟨_, rfl, _, rfl, _, rfl, t₁, s₁, 12, rfl, T4, by omega, by omega, fun r5 x5_ a5 b5 T5 => ?_⟩
   have S5 : Step t₁ HH _ := Step.up (ys := x5_) e4
   generalize upd HH t₁ (.lst x5_) = H5 at T5 S5 ⊢
   obtain ⟨y5, e5⟩ := T5.lst
   refine ⟨_, _, rfl, rfl, zl6, fun l6 h6 => ?_⟩
   have S6 := S5.trans (Step.new T5.lst h6 (.lst [.int 1, .int 1, .int 2, .int 3, .int 4, .int 7]))
   have n6 : l6 ≠ t₁ := fun z => by subst z; rw [e5] at h6; cases h6
   have T6' := T5.new h6 (.lst [.int 1, .int 1, .int 2, .int 3, .int 4, .int 7])
   obtain ⟨y6, e6⟩ := T6'.lst
   have h6' : upd H5 l6 (.lst [.int 1, .int 1, .int 2, .int 3, .int 4, .int 7]) l6 = some (.lst [.int 1, .int 1, .int 2, .int 3, .int 4, .int 7]) := upd_same
   generalize upd H5 l6 (.lst [.int 1, .int 1, .int 2, .int 3, .int 4, .int 7]) = H6 at T6' S6 e6 h6' ⊢
   refine ⟨_, rfl, t₁, s₁, 6, rfl, T6', by omega, by omega, fun r7 x7_ a7 b7 T7 => ?_⟩
   have S7 := S6.trans (Step.up (ys := x7_) e6)
   have h67 : upd H6 t₁ (.lst x7_) l6 = some (.lst [.int 1, .int 1, .int 2, .int 3, .int 4, .int 7]) := by rw [upd_ne n6]; exact h6'
   generalize upd H6 t₁ (.lst x7_) = H7 at T7 S7 h67 ⊢
   obtain ⟨bb, hbb, bo1, bo2, bo3⟩ : ∃ b : Int, atI [V.int 1, .int 1, .int 2, .int 3, .int 4, .int 7] r7 = some (.int b) /\ 1 ≤ b /\ b ≤ 7 /\ b ∣ 84 := by
    rcases (show r7 = 0 ∨ r7 = 1 ∨ r7 = 2 ∨ r7 = 3 ∨ r7 = 4 ∨ r7 = 5 by omega) with rfl | rfl | rfl | rfl | rfl | rfl
    ·exact ⟨1, rfl, by decide, by decide, by decide⟩
    ·exact ⟨1, rfl, by decide, by decide, by decide⟩
    ·exact ⟨2, rfl, by decide, by decide, by decide⟩
    ·exact ⟨3, rfl, by decide, by decide, by decide⟩
    ·exact ⟨4, rfl, by decide, by decide, by decide⟩
    ·exact ⟨7, rfl, by decide, by decide, by decide⟩
   refine ⟨l6, _, _, _, rfl, rfl, SqL.of h67, hbb, ?_⟩
   refine ⟨1 + r5, bb, rfl, by omega, big_of (n := 3) (by show bb.natAbs < 8; omega) (by decide), fun pf hpf => ?_⟩
   have am := amOk_mk (a := 1 + r5) (by omega) (by omega) bo1 bo2 bo3
   have s8 := same_new hpf (.tup [.int (mkR (1 + r5) bb).1, .int (mkR (1 + r5) bb).2])
   have rf : RV K _ (.ref pf) (mkR (1 + r5) bb) := ⟨pf, rfl, SqT.of (upd_same (H := H7) (a := pf) (o := .tup [.int (mkR (1 + r5) bb).1, .int (mkR (1 + r5) bb).2]))⟩
   have T8 := T7.same s8
   generalize upd H7 pf (.tup [.int (mkR (1 + r5) bb).1, .int (mkR (1 + r5) bb).2]) = H8 at T8 s8 rf ⊢
   refine ⟨zl3, fun pw hpw => ?_⟩
   have s9 := same_new hpw (.tup [.int (0 : Nat), .int ((en - 1) : Nat), .ref pf])
   have hpw9 : SqT K _ pw [.int (0 : Nat), .int ((en - 1) : Nat), .ref pf] := SqT.of (upd_same (H := H8) (a := pw) (o := .tup [.int (0 : Nat), .int ((en - 1) : Nat), .ref pf]))
   have T9 := T8.same s9
   have rf9 := rf.mono (Tst.same s9)
   generalize upd H8 pw (.tup [.int (0 : Nat), .int ((en - 1) : Nat), .ref pf]) = H9 at T9 s9 rf9 hpw9 ⊢
   have S9 := S7.trans (Step.same (s8.trans s9) T7.lst)
   have hlw9 := S9.keep _ _ nl hlw4
   refine ⟨lw, xs, _, rfl, rfl, hlw9, small1000 (by rw [alw.len]; omega), ?_⟩
   have t9 : Tst K H1 (upd H9 lw (.lst (xs ++ [.ref pw]))) := (tst4.trans (Tst.step S9)).trans (Tst.up hlw9 _)
   refine ⟨_, ws ++ [(0, (en - 1), mkR (1 + r5) bb)], _, _, _, _, rfl, T9.upl nl nls _, fun b o nb q => ?_, upd_same, (alw.mono fun v d m => m.mono t9).snoc ⟨pw, .ref pf, rfl, Tst.up (K := K) hlw9 _ _ _ hpw9, rf9.mono (Tst.up hlw9 _)⟩, by rw [List.length_append, hlen]; rfl, fun z hz => ?_⟩
   ·rw [upd_ne (ne_of_none q hlw0)]
    exact S9.keep _ _ nb (kp4 _ _ nb (kp b o nb q))
   ·rcases List.mem_append.mp hz with h | h
    ·exact okw z h
    ·rw [List.mem_singleton] at h
     subst h
     exact ⟨by show 0 ≤ (en - 1); omega, by show (en - 1) < 24; omega, am⟩
  refine iteD0 (fun z => c1 (by injection z)) ?_
  refine ⟨_, rfl, rfl, _, rfl, ?_⟩
  by_cases c2 : r4 = 2
  ·subst c2
   refine iteT ?_
   refine ⟨_, rfl, _, _, rfl, rfl, _, rfl, ?_⟩
   by_cases ci : 0 < i
   ·refine iteD1 (by omega) ?_
    obtain ⟨y4, e4⟩ := T4.lst
    have hlw4 : HH lw = some (.lst xs) := kp4 _ _ nl hlw
    refine ⟨_, rfl, _, rfl, _, rfl, t₁, s₁, i, rfl, T4, by omega, by omega, fun r9 x9_ a9 b9 T9 => ?_⟩
    have S9' := S4.trans (Step.up (ys := x9_) e4)
    have hlwN : upd HH t₁ (.lst x9_) lw = some (.lst xs) := by rw [upd_ne nl]; exact hlw4
    clear hHH kp4 tst4 T4
    generalize upd HH t₁ (.lst x9_) = HN at T9 S9' hlwN ⊢
    obtain ⟨j, rfl⟩ := Int.eq_ofNat_of_zero_le a9
    obtain ⟨xw, hxw⟩ : ∃ xw, xs[j]? = some xw := ⟨_, List.getElem?_eq_getElem (by rw [alw.len]; omega)⟩
    obtain ⟨w, hw, pw0, xa, rfl, hSw, ra⟩ := alw.at hxw
    have okw0 := okw w (List.mem_of_getElem? hw)
    have hSwN := Tst.step (K := K) S9' _ _ hSw
    refine ⟨lw, _, _, _, rfl, rfl, SqL.of hlwN, atI_nat hxw, ?_⟩
    refine ⟨_, rfl, pw0, _, rfl, hSwN, fun pc HQ sQ hpc => ?_⟩
    rw [show cutV [V.int (w.1 : Nat), V.int (w.2.1 : Nat), xa] none (some 2) = [V.int (w.1 : Nat), V.int (w.2.1 : Nat)] from cut_to (n := 2) (by show 2 ≤ 3; decide)] at hpc
    refine ⟨pc, _, rfl, hpc, rfl, _, _, rfl, _, _, rfl, rfl, ?_⟩
    have S4 := S9'.trans (Step.same sQ T9.lst)
    have T4 := T9.same sQ
    have kp4 := S4.keep
    have tst4 : Tst K H1 HQ := Tst.step S4
    have lew := okw0.le
    have ltw := okw0.lt
    obtain ⟨wf, wl, wr⟩ := w
    replace lew : wf ≤ wl := lew
    replace ltw : wl < 24 := ltw
    clear e4 y4 hlw4
    obtain ⟨y4, e4⟩ := T4.lst
    have hlw4 : HQ lw = some (.lst xs) := kp4 _ _ nl hlw
    refine ⟨_, rfl, .inl ⟨rfl, _, SqL.of hlw4⟩, ?_⟩
    refine ⟨_, rfl, _, rfl, _, rfl, t₁, s₁, 12, rfl, T4, by omega, by omega, fun r5 x5_ a5 b5 T5 => ?_⟩
    have S5 : Step t₁ HQ _ := Step.up (ys := x5_) e4
    generalize upd HQ t₁ (.lst x5_) = H5 at T5 S5 ⊢
    obtain ⟨y5, e5⟩ := T5.lst
    refine ⟨_, _, rfl, rfl, zl6, fun l6 h6 => ?_⟩
    have S6 := S5.trans (Step.new T5.lst h6 (.lst [.int 1, .int 1, .int 2, .int 3, .int 4, .int 7]))
    have n6 : l6 ≠ t₁ := fun z => by subst z; rw [e5] at h6; cases h6
    have T6' := T5.new h6 (.lst [.int 1, .int 1, .int 2, .int 3, .int 4, .int 7])
    obtain ⟨y6, e6⟩ := T6'.lst
    have h6' : upd H5 l6 (.lst [.int 1, .int 1, .int 2, .int 3, .int 4, .int 7]) l6 = some (.lst [.int 1, .int 1, .int 2, .int 3, .int 4, .int 7]) := upd_same
    generalize upd H5 l6 (.lst [.int 1, .int 1, .int 2, .int 3, .int 4, .int 7]) = H6 at T6' S6 e6 h6' ⊢
    refine ⟨_, rfl, t₁, s₁, 6, rfl, T6', by omega, by omega, fun r7 x7_ a7 b7 T7 => ?_⟩
    have S7 := S6.trans (Step.up (ys := x7_) e6)
    have h67 : upd H6 t₁ (.lst x7_) l6 = some (.lst [.int 1, .int 1, .int 2, .int 3, .int 4, .int 7]) := by rw [upd_ne n6]; exact h6'
    generalize upd H6 t₁ (.lst x7_) = H7 at T7 S7 h67 ⊢
    obtain ⟨bb, hbb, bo1, bo2, bo3⟩ : ∃ b : Int, atI [V.int 1, .int 1, .int 2, .int 3, .int 4, .int 7] r7 = some (.int b) /\ 1 ≤ b /\ b ≤ 7 /\ b ∣ 84 := by
     rcases (show r7 = 0 ∨ r7 = 1 ∨ r7 = 2 ∨ r7 = 3 ∨ r7 = 4 ∨ r7 = 5 by omega) with rfl | rfl | rfl | rfl | rfl | rfl
     ·exact ⟨1, rfl, by decide, by decide, by decide⟩
     ·exact ⟨1, rfl, by decide, by decide, by decide⟩
     ·exact ⟨2, rfl, by decide, by decide, by decide⟩
     ·exact ⟨3, rfl, by decide, by decide, by decide⟩
     ·exact ⟨4, rfl, by decide, by decide, by decide⟩
     ·exact ⟨7, rfl, by decide, by decide, by decide⟩
    refine ⟨l6, _, _, _, rfl, rfl, SqL.of h67, hbb, ?_⟩
    refine ⟨1 + r5, bb, rfl, by omega, big_of (n := 3) (by show bb.natAbs < 8; omega) (by decide), fun pf hpf => ?_⟩
    have am := amOk_mk (a := 1 + r5) (by omega) (by omega) bo1 bo2 bo3
    have s8 := same_new hpf (.tup [.int (mkR (1 + r5) bb).1, .int (mkR (1 + r5) bb).2])
    have rf : RV K _ (.ref pf) (mkR (1 + r5) bb) := ⟨pf, rfl, SqT.of (upd_same (H := H7) (a := pf) (o := .tup [.int (mkR (1 + r5) bb).1, .int (mkR (1 + r5) bb).2]))⟩
    have T8 := T7.same s8
    generalize upd H7 pf (.tup [.int (mkR (1 + r5) bb).1, .int (mkR (1 + r5) bb).2]) = H8 at T8 s8 rf ⊢
    refine ⟨zl3, fun pw hpw => ?_⟩
    have s9 := same_new hpw (.tup [.int (wf : Nat), .int (wl : Nat), .ref pf])
    have hpw9 : SqT K _ pw [.int (wf : Nat), .int (wl : Nat), .ref pf] := SqT.of (upd_same (H := H8) (a := pw) (o := .tup [.int (wf : Nat), .int (wl : Nat), .ref pf]))
    have T9 := T8.same s9
    have rf9 := rf.mono (Tst.same s9)
    generalize upd H8 pw (.tup [.int (wf : Nat), .int (wl : Nat), .ref pf]) = H9 at T9 s9 rf9 hpw9 ⊢
    have S9 := S7.trans (Step.same (s8.trans s9) T7.lst)
    have hlw9 := S9.keep _ _ nl hlw4
    refine ⟨lw, xs, _, rfl, rfl, hlw9, small1000 (by rw [alw.len]; omega), ?_⟩
    have t9 : Tst K H1 (upd H9 lw (.lst (xs ++ [.ref pw]))) := (tst4.trans (Tst.step S9)).trans (Tst.up hlw9 _)
    refine ⟨_, ws ++ [(wf, wl, mkR (1 + r5) bb)], _, _, _, _, rfl, T9.upl nl nls _, fun b o nb q => ?_, upd_same, (alw.mono fun v d m => m.mono t9).snoc ⟨pw, .ref pf, rfl, Tst.up (K := K) hlw9 _ _ _ hpw9, rf9.mono (Tst.up hlw9 _)⟩, by rw [List.length_append, hlen]; rfl, fun z hz => ?_⟩
    ·rw [upd_ne (ne_of_none q hlw0)]
     exact S9.keep _ _ nb (kp4 _ _ nb (kp b o nb q))
    ·rcases List.mem_append.mp hz with h | h
     ·exact okw z h
     ·rw [List.mem_singleton] at h
      subst h
      exact ⟨by show wf ≤ wl; omega, by show wl < 24; omega, am⟩
   ·refine iteD0 (by omega) ?_
    obtain ⟨y4, e4⟩ := T4.lst
    have hlw4 : HH lw = some (.lst xs) := kp4 _ _ nl hlw
    refine ⟨_, rfl, .inl ⟨rfl, _, SqL.of hlw4⟩, ?_⟩
    refine ⟨_, rfl, _, rfl, _, rfl, t₁, s₁, 12, rfl, T4, by omega, by omega, fun r5 x5_ a5 b5 T5 => ?_⟩
    have S5 : Step t₁ HH _ := Step.up (ys := x5_) e4
    generalize upd HH t₁ (.lst x5_) = H5 at T5 S5 ⊢
    obtain ⟨y5, e5⟩ := T5.lst
    refine ⟨_, _, rfl, rfl, zl6, fun l6 h6 => ?_⟩
    have S6 := S5.trans (Step.new T5.lst h6 (.lst [.int 1, .int 1, .int 2, .int 3, .int 4, .int 7]))
    have n6 : l6 ≠ t₁ := fun z => by subst z; rw [e5] at h6; cases h6
    have T6' := T5.new h6 (.lst [.int 1, .int 1, .int 2, .int 3, .int 4, .int 7])
    obtain ⟨y6, e6⟩ := T6'.lst
    have h6' : upd H5 l6 (.lst [.int 1, .int 1, .int 2, .int 3, .int 4, .int 7]) l6 = some (.lst [.int 1, .int 1, .int 2, .int 3, .int 4, .int 7]) := upd_same
    generalize upd H5 l6 (.lst [.int 1, .int 1, .int 2, .int 3, .int 4, .int 7]) = H6 at T6' S6 e6 h6' ⊢
    refine ⟨_, rfl, t₁, s₁, 6, rfl, T6', by omega, by omega, fun r7 x7_ a7 b7 T7 => ?_⟩
    have S7 := S6.trans (Step.up (ys := x7_) e6)
    have h67 : upd H6 t₁ (.lst x7_) l6 = some (.lst [.int 1, .int 1, .int 2, .int 3, .int 4, .int 7]) := by rw [upd_ne n6]; exact h6'
    generalize upd H6 t₁ (.lst x7_) = H7 at T7 S7 h67 ⊢
    obtain ⟨bb, hbb, bo1, bo2, bo3⟩ : ∃ b : Int, atI [V.int 1, .int 1, .int 2, .int 3, .int 4, .int 7] r7 = some (.int b) /\ 1 ≤ b /\ b ≤ 7 /\ b ∣ 84 := by
     rcases (show r7 = 0 ∨ r7 = 1 ∨ r7 = 2 ∨ r7 = 3 ∨ r7 = 4 ∨ r7 = 5 by omega) with rfl | rfl | rfl | rfl | rfl | rfl
     ·exact ⟨1, rfl, by decide, by decide, by decide⟩
     ·exact ⟨1, rfl, by decide, by decide, by decide⟩
     ·exact ⟨2, rfl, by decide, by decide, by decide⟩
     ·exact ⟨3, rfl, by decide, by decide, by decide⟩
     ·exact ⟨4, rfl, by decide, by decide, by decide⟩
     ·exact ⟨7, rfl, by decide, by decide, by decide⟩
    refine ⟨l6, _, _, _, rfl, rfl, SqL.of h67, hbb, ?_⟩
    refine ⟨1 + r5, bb, rfl, by omega, big_of (n := 3) (by show bb.natAbs < 8; omega) (by decide), fun pf hpf => ?_⟩
    have am := amOk_mk (a := 1 + r5) (by omega) (by omega) bo1 bo2 bo3
    have s8 := same_new hpf (.tup [.int (mkR (1 + r5) bb).1, .int (mkR (1 + r5) bb).2])
    have rf : RV K _ (.ref pf) (mkR (1 + r5) bb) := ⟨pf, rfl, SqT.of (upd_same (H := H7) (a := pf) (o := .tup [.int (mkR (1 + r5) bb).1, .int (mkR (1 + r5) bb).2]))⟩
    have T8 := T7.same s8
    generalize upd H7 pf (.tup [.int (mkR (1 + r5) bb).1, .int (mkR (1 + r5) bb).2]) = H8 at T8 s8 rf ⊢
    refine ⟨zl3, fun pw hpw => ?_⟩
    have s9 := same_new hpw (.tup [.int (ff : Nat), .int (la : Nat), .ref pf])
    have hpw9 : SqT K _ pw [.int (ff : Nat), .int (la : Nat), .ref pf] := SqT.of (upd_same (H := H8) (a := pw) (o := .tup [.int (ff : Nat), .int (la : Nat), .ref pf]))
    have T9 := T8.same s9
    have rf9 := rf.mono (Tst.same s9)
    generalize upd H8 pw (.tup [.int (ff : Nat), .int (la : Nat), .ref pf]) = H9 at T9 s9 rf9 hpw9 ⊢
    have S9 := S7.trans (Step.same (s8.trans s9) T7.lst)
    have hlw9 := S9.keep _ _ nl hlw4
    refine ⟨lw, xs, _, rfl, rfl, hlw9, small1000 (by rw [alw.len]; omega), ?_⟩
    have t9 : Tst K H1 (upd H9 lw (.lst (xs ++ [.ref pw]))) := (tst4.trans (Tst.step S9)).trans (Tst.up hlw9 _)
    refine ⟨_, ws ++ [(ff, la, mkR (1 + r5) bb)], _, _, _, _, rfl, T9.upl nl nls _, fun b o nb q => ?_, upd_same, (alw.mono fun v d m => m.mono t9).snoc ⟨pw, .ref pf, rfl, Tst.up (K := K) hlw9 _ _ _ hpw9, rf9.mono (Tst.up hlw9 _)⟩, by rw [List.length_append, hlen]; rfl, fun z hz => ?_⟩
    ·rw [upd_ne (ne_of_none q hlw0)]
     exact S9.keep _ _ nb (kp4 _ _ nb (kp b o nb q))
    ·rcases List.mem_append.mp hz with h | h
     ·exact okw z h
     ·rw [List.mem_singleton] at h
      subst h
      exact ⟨by show ff ≤ la; omega, by show la < 24; omega, am⟩
  refine iteD0 (fun z => c2 (by injection z)) (iteF ?_)
  obtain ⟨y4, e4⟩ := T4.lst
  have hlw4 : HH lw = some (.lst xs) := kp4 _ _ nl hlw
  refine ⟨_, rfl, .inl ⟨rfl, _, SqL.of hlw4⟩, ?_⟩
  refine ⟨_, rfl, _, rfl, _, rfl, t₁, s₁, 12, rfl, T4, by omega, by omega, fun r5 x5_ a5 b5 T5 => ?_⟩
  have S5 : Step t₁ HH _ := Step.up (ys := x5_) e4
  generalize upd HH t₁ (.lst x5_) = H5 at T5 S5 ⊢
  obtain ⟨y5, e5⟩ := T5.lst
  refine ⟨_, _, rfl, rfl, zl6, fun l6 h6 => ?_⟩
  have S6 := S5.trans (Step.new T5.lst h6 (.lst [.int 1, .int 1, .int 2, .int 3, .int 4, .int 7]))
  have n6 : l6 ≠ t₁ := fun z => by subst z; rw [e5] at h6; cases h6
  have T6' := T5.new h6 (.lst [.int 1, .int 1, .int 2, .int 3, .int 4, .int 7])
  obtain ⟨y6, e6⟩ := T6'.lst
  have h6' : upd H5 l6 (.lst [.int 1, .int 1, .int 2, .int 3, .int 4, .int 7]) l6 = some (.lst [.int 1, .int 1, .int 2, .int 3, .int 4, .int 7]) := upd_same
  generalize upd H5 l6 (.lst [.int 1, .int 1, .int 2, .int 3, .int 4, .int 7]) = H6 at T6' S6 e6 h6' ⊢
  refine ⟨_, rfl, t₁, s₁, 6, rfl, T6', by omega, by omega, fun r7 x7_ a7 b7 T7 => ?_⟩
  have S7 := S6.trans (Step.up (ys := x7_) e6)
  have h67 : upd H6 t₁ (.lst x7_) l6 = some (.lst [.int 1, .int 1, .int 2, .int 3, .int 4, .int 7]) := by rw [upd_ne n6]; exact h6'
  generalize upd H6 t₁ (.lst x7_) = H7 at T7 S7 h67 ⊢
  obtain ⟨bb, hbb, bo1, bo2, bo3⟩ : ∃ b : Int, atI [V.int 1, .int 1, .int 2, .int 3, .int 4, .int 7] r7 = some (.int b) /\ 1 ≤ b /\ b ≤ 7 /\ b ∣ 84 := by
   rcases (show r7 = 0 ∨ r7 = 1 ∨ r7 = 2 ∨ r7 = 3 ∨ r7 = 4 ∨ r7 = 5 by omega) with rfl | rfl | rfl | rfl | rfl | rfl
   ·exact ⟨1, rfl, by decide, by decide, by decide⟩
   ·exact ⟨1, rfl, by decide, by decide, by decide⟩
   ·exact ⟨2, rfl, by decide, by decide, by decide⟩
   ·exact ⟨3, rfl, by decide, by decide, by decide⟩
   ·exact ⟨4, rfl, by decide, by decide, by decide⟩
   ·exact ⟨7, rfl, by decide, by decide, by decide⟩
  refine ⟨l6, _, _, _, rfl, rfl, SqL.of h67, hbb, ?_⟩
  refine ⟨1 + r5, bb, rfl, by omega, big_of (n := 3) (by show bb.natAbs < 8; omega) (by decide), fun pf hpf => ?_⟩
  have am := amOk_mk (a := 1 + r5) (by omega) (by omega) bo1 bo2 bo3
  have s8 := same_new hpf (.tup [.int (mkR (1 + r5) bb).1, .int (mkR (1 + r5) bb).2])
  have rf : RV K _ (.ref pf) (mkR (1 + r5) bb) := ⟨pf, rfl, SqT.of (upd_same (H := H7) (a := pf) (o := .tup [.int (mkR (1 + r5) bb).1, .int (mkR (1 + r5) bb).2]))⟩
  have T8 := T7.same s8
  generalize upd H7 pf (.tup [.int (mkR (1 + r5) bb).1, .int (mkR (1 + r5) bb).2]) = H8 at T8 s8 rf ⊢
  refine ⟨zl3, fun pw hpw => ?_⟩
  have s9 := same_new hpw (.tup [.int (ff : Nat), .int (la : Nat), .ref pf])
  have hpw9 : SqT K _ pw [.int (ff : Nat), .int (la : Nat), .ref pf] := SqT.of (upd_same (H := H8) (a := pw) (o := .tup [.int (ff : Nat), .int (la : Nat), .ref pf]))
  have T9 := T8.same s9
  have rf9 := rf.mono (Tst.same s9)
  generalize upd H8 pw (.tup [.int (ff : Nat), .int (la : Nat), .ref pf]) = H9 at T9 s9 rf9 hpw9 ⊢
  have S9 := S7.trans (Step.same (s8.trans s9) T7.lst)
  have hlw9 := S9.keep _ _ nl hlw4
  refine ⟨lw, xs, _, rfl, rfl, hlw9, small1000 (by rw [alw.len]; omega), ?_⟩
  have t9 : Tst K H1 (upd H9 lw (.lst (xs ++ [.ref pw]))) := (tst4.trans (Tst.step S9)).trans (Tst.up hlw9 _)
  refine ⟨_, ws ++ [(ff, la, mkR (1 + r5) bb)], _, _, _, _, rfl, T9.upl nl nls _, fun b o nb q => ?_, upd_same, (alw.mono fun v d m => m.mono t9).snoc ⟨pw, .ref pf, rfl, Tst.up (K := K) hlw9 _ _ _ hpw9, rf9.mono (Tst.up hlw9 _)⟩, by rw [List.length_append, hlen]; rfl, fun z hz => ?_⟩
  ·rw [upd_ne (ne_of_none q hlw0)]
   exact S9.keep _ _ nb (kp4 _ _ nb (kp b o nb q))
  ·rcases List.mem_append.mp hz with h | h
   ·exact okw z h
   ·rw [List.mem_singleton] at h
    subst h
    exact ⟨by show ff ≤ la; omega, by show la < 24; omega, am⟩
 ·rintro σ H1 ⟨xs, ws, x5, x6, x7, x8, rfl, T1, kp, hlw, alw, hlen, okw⟩
  refine ⟨_, rfl, lw, _, rfl, .inl ⟨SqL.of hlw, fun p hp => ?_⟩⟩
  have s5 := same_new hp (.tup xs)
  exact k (.ref p) ws _ ((S0.trans ⟨kp, T0.lst, T1.lst⟩).trans (Step.same s5 T1.lst)) (T1.same s5) ⟨p, xs, rfl, SqT.of upd_same, alw.mono fun _ _ q => q.mono (Tst.same s5)⟩ (by rw [hlen]; omega) okw
theorem ok_Q3 (T : Txt K mg t) : FnOk P w K mg base CX0 2 t.a_Q3 t.d_Q3 ["_law_tape_here", "_law_works_here"] (sp_law_turns K) := by
 refine T.F_Q3.ok sc_Q3 (fun vs H Q E h => ?_) (fun cdv A outer s H vs Q E hr h => ?_)
 ·obtain ⟨_, _, _, _, rfl, _⟩ := h; rfl
 obtain ⟨t₁, s₁, v, ws, rfl, tp, ⟨pw, xs, rfl, hS, al⟩, hw, ok, k⟩ := h
 refine QSs.ok (qss_cons (qsA 2 sc_Q3.nd (qcA (ok_Q5 T) hr T.m_Q5 T.F_Q5.kp T.b_Q5 (qa_cons (qv 0) (qa_cons qe_int qa_nil star_con) star_name)))
   (qss_cons (qsA 3 sc_Q3.nd (qe_op op_add (qv 2) (qcA (ok_Q5 T) hr T.m_Q5 T.F_Q5.kp T.b_Q5 (qa_cons (qv 0) (qa_cons (qe_op op_sub qe_int (qv 2)) qa_nil star_bin) star_name))))
   (qss_cons (qsA 4 sc_Q3.nd (qcA (ok_Q5 T) hr T.m_Q5 T.F_Q5.kp T.b_Q5 (qa_cons (qv 0) (qa_cons qe_int qa_nil star_con) star_name)))
   (qss_cons (qs_if (qw_pt (qw_and (qt_cmpR op_gt (qv 4) qe_int (nomark _)) (qw_and1 (qt_cmpR op_gt (qe_callB call_len_seq (by rfl) T.z_len boot_len (qa_cons (qv 1) qa_nil star_name)) qe_int (nomark _))))) (qss_one (qs_asg (qe_slice sl_tupU (qxA ix_tup (qv 1) (qcA (ok_Q5 T) hr T.m_Q5 T.F_Q5.kp T.b_Q5 (qa_cons (qv 0) (qa_cons (qe_callB call_len_seq (by rfl) T.z_len boot_len (qa_cons (qv 1) qa_nil star_name)) qa_nil star_call) star_name))) qo_none (qo_some qe_int)) (qg_tup rfl (qgs_cons (qg_name (i := 2) sc_Q3.nd rfl (by first | exact Or.inl rfl | exact Or.inr rfl)) (qgs_cons (qg_name (i := 3) sc_Q3.nd rfl (by first | exact Or.inl rfl | exact Or.inr rfl)) qgs_nil))))) qss_nil)
   (qss_cons (qsA 5 sc_Q3.nd (qe_callTy (call_listR2 rfl) (by rfl) T.z_list boot_list (qa_cons (qe_rng2 rfl T.z_range (qa_cons (qv 2) (qa_cons (qe_op op_add (qv 3) qe_int) qa_nil star_bin) star_name)) qa_nil star_call)))
   (qss_cons (qs_if (qt_cmpR op_eq (qv 4) qe_int (nomark _)) (qss_one (qsA 5 sc_Q3.nd (qe_lst qa_nil))) qss_nil)
   (qss_cons (qs_if (qt_cmpR op_eq (qv 4) qe_int (nomark _)) (qss_one (qsA 5 sc_Q3.nd (qe_callTy (call_listR rfl) (by rfl) T.z_list boot_list (qa_cons (qe_rng1 rfl T.z_range (qa_cons qe_int qa_nil star_con)) qa_nil star_call)))) qss_nil)
   (qss_cons (qs_if (qw_pt (qw_or (qt_cmpR op_eq (qv 4) qe_int (nomark _)) (qw_or1 (qt_cmpR op_eq (qv 4) qe_int (nomark _))))) (qss_cons (qsA 6 sc_Q3.nd (qcA (ok_Q5 T) hr T.m_Q5 T.F_Q5.kp T.b_Q5 (qa_cons (qv 0) (qa_cons qe_int qa_nil star_con) star_name)))
   (qss_cons (qsA 7 sc_Q3.nd (qe_op op_add qe_int (qcA (ok_Q5 T) hr T.m_Q5 T.F_Q5.kp T.b_Q5 (qa_cons (qv 0) (qa_cons qe_int qa_nil star_con) star_name))))
   (qss_one (qs_setC (i := 5) (N' := ["_law_turn", "_law_at", "_law_by"]) (src := [none, some 6, some 7]) sc_Q3.nd rfl (by first | exact Or.inl rfl | exact Or.inr rfl) rfl (by exact (qi_list (qv 5))) (fun _ _ _ _ _ => (by exact (by exact qg_name (i := 0) (by show List.Nodup (["_law_turn", "_law_at", "_law_by"] : List Str); decide +kernel) (by exact rfl) (by first | exact Or.inl rfl | exact Or.inr rfl)))) (fun _ _ _ _ _ => (qts_one (qw_pt (qw_and (qt_cmpR op_ne (by exact (qv 0)) (by exact (qv 1)) (nomark _)) (qw_and1 (qt_cmpR op_ne (by exact (qe_op op_mod (by exact (qv 0)) (by exact (qv 2)))) qe_int (nomark _))))))) (fun _ _ _ _ _ => (by exact (by exact (qv 0)))) (by exact ⟨rfl, rfl, rfl, rfl, ⟨rfl, rfl, rfl, rfl, trivial⟩⟩) rfl (by decide +kernel) rfl (by decide +kernel) (by exact cells_of rfl ⟨rfl, ⟨rfl, trivial⟩⟩))))) qss_nil)
   (qss_cons (qs_if (qt_cmpR op_eq (qv 4) qe_int (nomark _)) (qss_one (qsA 5 sc_Q3.nd (qe_callB (call_sortedS rfl) (by rfl) T.z_sorted boot_sorted (qa_cons (qe_callTy (call_setO rfl) (by rfl) T.z_set boot_setT (qa_cons (qe_op op_cat (qv 5) (qe_lcomp (N' := ["_law_k", "_law_tape_here"]) (src := [none, some 0]) rfl (by exact (qi_range1 rfl T.z_range (qa_cons (qcA (ok_Q5 T) hr T.m_Q5 T.F_Q5.kp T.b_Q5 (qa_cons (qv 0) (qa_cons qe_int qa_nil star_con) star_name)) qa_nil star_call))) (fun _ _ _ _ _ => (by exact (by exact qg_name (i := 0) (by show List.Nodup (["_law_k", "_law_tape_here"] : List Str); decide +kernel) (by exact rfl) (by first | exact Or.inl rfl | exact Or.inr rfl)))) (fun _ _ _ _ _ => qts_nil) (fun _ _ _ _ _ => (by exact (by exact (qe_call (ok_Q5 T) (by exact hr.mono (by decide)) (by exact rfl) T.m_Q5 T.F_Q5.kp T.b_Q5 (by exact .nil) (by exact pass0) (qa_cons (by exact (qv 1)) (qa_cons qe_int qa_nil star_con) star_name))))) (by exact ⟨rfl, rfl, rfl, rfl, trivial⟩) rfl (by decide +kernel) rfl (by decide +kernel) (by exact cells_of rfl ⟨rfl, trivial⟩))) qa_nil star_bin)) qa_nil star_call)))) qss_nil)
   (qss_one (qs_ret (qe_callTy call_tuple_of (by rfl) T.z_tuple boot_tuple (qa_cons (qv 5) qa_nil star_name))))))))))))) ?_
 have hSl := al.len
 obtain ⟨y0, e0⟩ := tp.lst
 refine ⟨_, rfl, t₁, s₁, 24, rfl, tp, by omega, by omega, fun r1 x1_ a1 b1 T1 => ?_⟩
 have S1 : Step t₁ H (upd H t₁ (.lst x1_)) := Step.up e0
 generalize upd H t₁ (.lst x1_) = H1 at T1 S1 ⊢
 obtain ⟨ff, rfl⟩ := Int.eq_ofNat_of_zero_le a1
 obtain ⟨y1, e1⟩ := T1.lst
 refine ⟨_, rfl, _, rfl, _, rfl, _, _, rfl, rfl, t₁, s₁, 24 - (ff : Int), rfl, T1, by omega, by omega, fun r2 x2_ a2 b2 T2 => ?_⟩
 have S2 := S1.trans (Step.up (ys := x2_) e1)
 generalize upd H1 t₁ (.lst x2_) = H2 at T2 S2 ⊢
 obtain ⟨y2, e2⟩ := T2.lst
 refine ⟨_, _, rfl, rfl, ?_⟩
 obtain ⟨la, hla⟩ : ∃ la : Nat, (ff : Int) + r2 = (la : Nat) := ⟨((ff : Int) + r2).toNat, by omega⟩
 dsimp only
 rw [hla]
 refine ⟨_, rfl, t₁, s₁, 6, rfl, T2, by omega, by omega, fun r3 x3_ a3 b3 T3 => ?_⟩
 have S4 := S2.trans (Step.up (ys := x3_) e2)
 generalize upd H2 t₁ (.lst x3_) = HH at T3 S4 ⊢
 have T4 := T3
 have lew : ff ≤ la := by omega
 have ltw : la < 24 := by omega
 have hS4 := Tst.step (K := K) S4 _ _ hS
 clear S1 S2 T1 T2 T3 e0 e1 e2 hla a2 b2 b1
 refine ⟨_, rfl, _, _, rfl, rfl, _, rfl, ?_⟩
 by_cases c0 : 3 < r3
 ·refine iteD1 c0 ?_
  refine ⟨_, rfl, pw, _, rfl, .inr hS4, _, _, rfl, rfl, _, rfl, ?_⟩
  by_cases c1 : 0 < ws.length
  ·refine iteD1 (by omega) ?_
   obtain ⟨y4, e4⟩ := T4.lst
   refine ⟨_, rfl, _, rfl, _, rfl, pw, _, rfl, .inr hS4, t₁, s₁, xs.length, rfl, T4, by omega, by omega, fun r9 x9_ a9 b9 T9 => ?_⟩
   have S9 := S4.trans (Step.up (ys := x9_) e4)
   clear hS4 T4 S4
   generalize upd HH t₁ (.lst x9_) = HN at T9 S9 ⊢
   have hS9 := Tst.step (K := K) S9 _ _ hS
   obtain ⟨j, rfl⟩ := Int.eq_ofNat_of_zero_le a9
   obtain ⟨xw, hxw⟩ : ∃ xw, xs[j]? = some xw := ⟨_, List.getElem?_eq_getElem (by omega)⟩
   obtain ⟨w, hw', pw0, xa, rfl, hSw, ra⟩ := al.at hxw
   have okw0 := ok w (List.mem_of_getElem? hw')
   have hSwN := Tst.step (K := K) S9 _ _ hSw
   refine ⟨pw, _, _, _, rfl, rfl, hS9, atI_nat hxw, ?_⟩
   refine ⟨_, rfl, pw0, _, rfl, hSwN, fun pc HH sQ hpc => ?_⟩
   rw [show cutV [V.int (w.1 : Nat), V.int (w.2.1 : Nat), xa] none (some 2) = [V.int (w.1 : Nat), V.int (w.2.1 : Nat)] from cut_to (n := 2) (by show 2 ≤ 3; decide)] at hpc
   refine ⟨pc, _, rfl, hpc, rfl, _, _, rfl, _, _, rfl, rfl, ?_⟩
   have S4 := S9.trans (Step.same sQ T9.lst)
   have T4 := T9.same sQ
   clear lew ltw
   have lew := okw0.le
   have ltw := okw0.lt
   clear hSwN hS9 T9 S9 sQ hpc hSw ra okw0 hw' hxw a9 b9 e4
   obtain ⟨ff, la, wr⟩ := w
   replace lew : ff ≤ la := lew
   replace ltw : la < 24 := ltw
   dsimp only
   have eh : ((la : Nat) : Int) + 1 = ((ff + (la + 1 - ff) : Nat) : Int) := by omega
   refine ⟨_, rfl, _, rfl, _, _, rfl, rfl, _, _, rfl, fun pr hpr => ?_⟩
   refine ⟨pr, ff, la + 1 - ff, rfl, (by rw [← eh]; exact upd_same), by omega, fun l hl => ?_⟩
   have s56 := (same_new hpr _).trans (same_new hl (.lst ((frmTo ff (la + 1 - ff)).map fun i : Nat => V.int i)))
   have S6 := S4.trans (Step.same s56 T4.lst)
   have T6 := T4.same s56
   have hl6 := upd_same (H := upd HH pr (.rng (ff : Int) ((la : Int) + 1))) (a := l) (o := .lst ((frmTo ff (la + 1 - ff)).map fun i : Nat => V.int i))
   obtain ⟨y5, e5⟩ := T4.lst
   have nlt : l ≠ t₁ := fun z => by
    have q := same_new hpr (HO.rng (ff : Int) ((la : Int) + 1)) _ _ e5
    rw [← z, hl] at q
    cases q
   generalize upd (upd HH pr (.rng (ff : Int) ((la : Int) + 1))) l (.lst ((frmTo ff (la + 1 - ff)).map fun i : Nat => V.int i)) = H6 at S6 T6 hl6 ⊢
   have srt := from_srt ff (la + 1 - ff)
   have ltt : ∀ n ∈ frmTo ff (la + 1 - ff), n < 24 := fun n hn => by have := from_mem hn; omega
   refine ⟨_, rfl, rfl, _, rfl, ?_⟩
   have cs : r3 = 0 ∨ r3 = 1 ∨ (r3 = 2 ∨ r3 = 5) ∨ r3 = 3 ∨ r3 = 4 := by omega
   rcases cs with rfl | rfl | c25 | rfl | rfl
   ·refine iteD1 rfl ?_
    refine ⟨(by show 0 ≤ sizeLine; exact Nat.zero_le _), fun l0 h0 => ?_⟩
    have S7 := S6.trans (Step.new T6.lst h0 (.lst []))
    have T7 := T6.new h0 (.lst [])
    refine ⟨_, rfl, rfl, _, rfl, ?_⟩
    refine iteD0 (by intro z; cases z) ?_
    refine ⟨_, rfl, rfl, _, rfl, ?_⟩
    refine iteD0 (by intro z; cases z) ?_
    refine ⟨_, rfl, rfl, _, rfl, ?_⟩
    refine iteD0 (by intro z; cases z) ?_
    refine ⟨_, rfl, rfl, _, rfl, ?_⟩
    refine iteD0 (by intro z; cases z) ?_
    refine ⟨_, rfl, l0, _, rfl, .inl ⟨SqL.of (upd_same (H := H6) (a := l0) (o := .lst (natV []))), fun p hp => ?_⟩⟩
    exact k p [] _ (S7.trans (Step.new T7.lst hp _)) (T7.new hp _) (SqT.of upd_same) .nil (fun n hn => by cases hn)
   ·refine iteD0 (by intro z; cases z) ?_
    refine ⟨_, rfl, rfl, _, rfl, ?_⟩
    refine iteD1 rfl ?_
    refine ⟨_, rfl, fun pr2 hpr2 => ?_⟩
    refine ⟨pr2, 24, rfl, upd_same, by decide, fun l2 hl2 => ?_⟩
    have s7 := (same_new hpr2 _).trans (same_new hl2 (.lst ((B.upTo 24).map V.int)))
    have S7 := S6.trans (Step.same s7 T6.lst)
    have T7 := T6.same s7
    refine ⟨_, rfl, rfl, _, rfl, ?_⟩
    refine iteD0 (by intro z; cases z) ?_
    refine ⟨_, rfl, rfl, _, rfl, ?_⟩
    refine iteD0 (by intro z; cases z) ?_
    refine ⟨_, rfl, rfl, _, rfl, ?_⟩
    refine iteD0 (by intro z; cases z) ?_
    have e24 : natV (List.range 24) = (B.upTo 24).map V.int := by unfold natV B.upTo; rw [List.map_map]; rfl
    refine ⟨_, rfl, l2, _, rfl, .inl ⟨SqL.of (upd_same (H := upd H6 pr2 (.rng 0 24)) (a := l2) (o := .lst (natV (List.range 24)))), fun p hp => ?_⟩⟩
    exact k p (List.range 24) _ (S7.trans (Step.new T7.lst hp _)) (T7.new hp _) (SqT.of upd_same) (List.pairwise_lt_range) (fun n hn => List.mem_range.mp hn)
   ·rcases c25 with rfl | rfl
    ·refine iteD0 (by intro z; cases z) ?_
     refine ⟨_, rfl, rfl, _, rfl, ?_⟩
     refine iteD0 (by intro z; cases z) ?_
     refine ⟨_, rfl, rfl, _, rfl, ?_⟩
     refine iteD1 rfl (iteT ?_)
     obtain ⟨y6, e6⟩ := T6.lst
     refine ⟨_, rfl, t₁, s₁, 24, rfl, T6, by omega, by omega, fun r7 x7_ a7 b7 T7 => ?_⟩
     have S7 := S6.trans (Step.up (ys := x7_) e6)
     have hl7 : upd H6 t₁ (.lst x7_) l = some (.lst (natV (frmTo ff (la + 1 - ff)))) := by rw [upd_ne nlt]; exact hl6
     generalize upd H6 t₁ (.lst x7_) = H7 at T7 S7 hl7 ⊢
     obtain ⟨y7, e7⟩ := T7.lst
     refine ⟨_, rfl, t₁, s₁, 6, rfl, T7, by omega, by omega, fun r8 x8_ a8 b8 T8 => ?_⟩
     have S8 := S7.trans (Step.up (ys := x8_) e7)
     have hl8 : upd H7 t₁ (.lst x8_) l = some (.lst (natV (frmTo ff (la + 1 - ff)))) := by rw [upd_ne nlt]; exact hl7
     generalize upd H7 t₁ (.lst x8_) = H8 at T8 S8 hl8 ⊢
     refine ⟨_, _, rfl, rfl, ?_⟩
     have nL : (natV (frmTo ff (la + 1 - ff))).length = (frmTo ff (la + 1 - ff)).length := List.length_map _
     have nF : (frmTo ff (la + 1 - ff)).length = la + 1 - ff := by unfold frmTo; simp
     refine ⟨_, rfl, l, rfl, ⟨_, SqL.of hl8⟩, fun D hD => comp_ix (wlk_lst (SqL.of (K := K) hl8)) (fun i => decide (¬ ((frmTo ff (la + 1 - ff)).getD i 0 : Int) = r7) && decide (¬ ((frmTo ff (la + 1 - ff)).getD i 0 : Int) % (2 + r8) = 1)) (fun i => V.int ((frmTo ff (la + 1 - ff)).getD i 0 : Nat)) hD (by rw [nL, nF]; omega) (fun j y H' hj s' hy R E kR kE => ?_) fun H9 s9 h9 => ?_⟩
     ·obtain ⟨z', hz', rfl⟩ : ∃ z', (frmTo ff (la + 1 - ff))[j]? = some z' /\ V.int (z' : Nat) = y := by
       unfold natV at hy
       rw [List.getElem?_map] at hy
       exact Option.map_eq_some_iff.mp hy
      simp only [getD_of 0 hz'] at kR kE
      refine ⟨Ext.set rfl, _, rfl, _, rfl, rfl, _, rfl, ite2 (fun h1 => ?_) fun h1 => iteF (kE ?_ _ (Same.refl _))⟩
      ·have q1 : ¬ ((z' : Nat) : Int) = r7 := fun e => by rw [e] at h1; simp at h1
       refine ⟨_, rfl, _, rfl, _, _, rfl, rfl, by omega, rfl, _, rfl, ite2 (fun h2 => ⟨_, rfl, kR ?_ _ (Same.refl _)⟩) fun h2 => kE ?_ _ (Same.refl _)⟩
       ·have q2 : ¬ ((z' : Nat) : Int) % (2 + r8) = 1 := fun e => by simp [e] at h2
        rw [decide_eq_true q1, decide_eq_true q2]; rfl
       ·have q2 : ((z' : Nat) : Int) % (2 + r8) = 1 := by
         rcases Decidable.em (((z' : Nat) : Int) % (2 + r8) = 1) with e | e
         ·exact e
         ·exact absurd (by dsimp only; simpa using e) h2
        rw [q2]; simp
      ·have q1 : ((z' : Nat) : Int) = r7 := by
        rcases Decidable.em (((z' : Nat) : Int) = r7) with e | e
        ·exact e
        ·exact absurd (by simpa using e) h1
       rw [q1]; simp
     ·rw [nL, by_place 0 (fun n : Nat => decide (¬ (n : Int) = r7) && decide (¬ (n : Int) % (2 + r8) = 1)) (fun n : Nat => V.int n)] at h9
      have S9 := S8.trans (Step.same s9 T8.lst)
      have T9 := T8.same s9
      refine ⟨_, rfl, rfl, _, rfl, ?_⟩
      refine iteD0 (by intro z; cases z) ?_
      refine ⟨_, rfl, D, _, rfl, .inl ⟨SqL.of h9, fun p hp => ?_⟩⟩
      exact k p ((frmTo ff (la + 1 - ff)).filter _) _ (S9.trans (Step.new T9.lst hp _)) (T9.new hp _) (SqT.of upd_same) (srt.filter _) (fun n hn => ltt n (List.mem_filter.mp hn).1)
    ·refine iteD0 (by intro z; cases z) ?_
     refine ⟨_, rfl, rfl, _, rfl, ?_⟩
     refine iteD0 (by intro z; cases z) ?_
     refine ⟨_, rfl, rfl, _, rfl, ?_⟩
     refine iteD0 (by intro z; cases z) ?_
     refine ⟨_, rfl, rfl, _, rfl, ?_⟩
     refine iteD1 rfl ?_
     obtain ⟨y6, e6⟩ := T6.lst
     refine ⟨_, rfl, t₁, s₁, 24, rfl, T6, by omega, by omega, fun r7 x7_ a7 b7 T7 => ?_⟩
     have S7 := S6.trans (Step.up (ys := x7_) e6)
     have hl7 : upd H6 t₁ (.lst x7_) l = some (.lst (natV (frmTo ff (la + 1 - ff)))) := by rw [upd_ne nlt]; exact hl6
     generalize upd H6 t₁ (.lst x7_) = H7 at T7 S7 hl7 ⊢
     obtain ⟨y7, e7⟩ := T7.lst
     refine ⟨_, rfl, t₁, s₁, 6, rfl, T7, by omega, by omega, fun r8 x8_ a8 b8 T8 => ?_⟩
     have S8 := S7.trans (Step.up (ys := x8_) e7)
     have hl8 : upd H7 t₁ (.lst x8_) l = some (.lst (natV (frmTo ff (la + 1 - ff)))) := by rw [upd_ne nlt]; exact hl7
     generalize upd H7 t₁ (.lst x8_) = H8 at T8 S8 hl8 ⊢
     refine ⟨_, _, rfl, rfl, ?_⟩
     have nL : (natV (frmTo ff (la + 1 - ff))).length = (frmTo ff (la + 1 - ff)).length := List.length_map _
     have nF : (frmTo ff (la + 1 - ff)).length = la + 1 - ff := by unfold frmTo; simp
     refine ⟨_, rfl, l, rfl, ⟨_, SqL.of hl8⟩, fun D hD => comp_ix (wlk_lst (SqL.of (K := K) hl8)) (fun i => decide (¬ ((frmTo ff (la + 1 - ff)).getD i 0 : Int) = r7) && decide (¬ ((frmTo ff (la + 1 - ff)).getD i 0 : Int) % (2 + r8) = 1)) (fun i => V.int ((frmTo ff (la + 1 - ff)).getD i 0 : Nat)) hD (by rw [nL, nF]; omega) (fun j y H' hj s' hy R E kR kE => ?_) fun H9 s9 h9 => ?_⟩
     ·obtain ⟨z', hz', rfl⟩ : ∃ z', (frmTo ff (la + 1 - ff))[j]? = some z' /\ V.int (z' : Nat) = y := by
       unfold natV at hy
       rw [List.getElem?_map] at hy
       exact Option.map_eq_some_iff.mp hy
      simp only [getD_of 0 hz'] at kR kE
      refine ⟨Ext.set rfl, _, rfl, _, rfl, rfl, _, rfl, ite2 (fun h1 => ?_) fun h1 => iteF (kE ?_ _ (Same.refl _))⟩
      ·have q1 : ¬ ((z' : Nat) : Int) = r7 := fun e => by rw [e] at h1; simp at h1
       refine ⟨_, rfl, _, rfl, _, _, rfl, rfl, by omega, rfl, _, rfl, ite2 (fun h2 => ⟨_, rfl, kR ?_ _ (Same.refl _)⟩) fun h2 => kE ?_ _ (Same.refl _)⟩
       ·have q2 : ¬ ((z' : Nat) : Int) % (2 + r8) = 1 := fun e => by simp [e] at h2
        rw [decide_eq_true q1, decide_eq_true q2]; rfl
       ·have q2 : ((z' : Nat) : Int) % (2 + r8) = 1 := by
         rcases Decidable.em (((z' : Nat) : Int) % (2 + r8) = 1) with e | e
         ·exact e
         ·exact absurd (by dsimp only; simpa using e) h2
        rw [q2]; simp
      ·have q1 : ((z' : Nat) : Int) = r7 := by
        rcases Decidable.em (((z' : Nat) : Int) = r7) with e | e
        ·exact e
        ·exact absurd (by simpa using e) h1
       rw [q1]; simp
     ·rw [nL, by_place 0 (fun n : Nat => decide (¬ (n : Int) = r7) && decide (¬ (n : Int) % (2 + r8) = 1)) (fun n : Nat => V.int n)] at h9
      have S9 := S8.trans (Step.same s9 T8.lst)
      have T9 := T8.same s9
      refine ⟨_, rfl, rfl, _, rfl, ?_⟩
      refine iteD0 (by intro z; cases z) ?_
      refine ⟨_, rfl, D, _, rfl, .inl ⟨SqL.of h9, fun p hp => ?_⟩⟩
      exact k p ((frmTo ff (la + 1 - ff)).filter _) _ (S9.trans (Step.new T9.lst hp _)) (T9.new hp _) (SqT.of upd_same) (srt.filter _) (fun n hn => ltt n (List.mem_filter.mp hn).1)
   ·refine iteD0 (by intro z; cases z) ?_
    refine ⟨_, rfl, rfl, _, rfl, ?_⟩
    refine iteD0 (by intro z; cases z) ?_
    refine ⟨_, rfl, rfl, _, rfl, ?_⟩
    refine iteD0 (by intro z; cases z) ?_
    refine ⟨_, rfl, rfl, _, rfl, ?_⟩
    refine iteD0 (by intro z; cases z) ?_
    refine ⟨_, rfl, rfl, _, rfl, ?_⟩
    refine iteD1 rfl ?_
    obtain ⟨y6, e6⟩ := T6.lst
    refine ⟨_, rfl, _, rfl, t₁, s₁, 9, rfl, T6, by omega, by omega, fun r7 x7_ a7 b7 T7 => ?_⟩
    have S7 := S6.trans (Step.up (ys := x7_) e6)
    have hl7 : upd H6 t₁ (.lst x7_) l = some (.lst (natV (frmTo ff (la + 1 - ff)))) := by rw [upd_ne nlt]; exact hl6
    generalize upd H6 t₁ (.lst x7_) = H7 at T7 S7 hl7 ⊢
    refine ⟨r7, rfl, by omega, by omega, fun D hD => comp_rng3 (K := K) (P := fun _ v (d : Nat) => v = V.int d) (Ok := fun d => d < 24) (n := r7.toNat) (fun _ _ _ _ _ p => p) hD T7 (by omega) (fun i H' hi tst T' R E kR => ?_) fun H9 ys ds S9 T9 h9 al9 hlen ok9 => ?_⟩
    ·obtain ⟨y', e'⟩ := T'.lst
     refine ⟨Ext.set rfl, _, rfl, t₁, s₁, 24, rfl, T', by omega, by omega, fun r8 x8_ a8 b8 T8 => ?_⟩
     exact kR _ r8.toNat _ (Step.up (ys := x8_) e') T8 (by rw [Int.toNat_of_nonneg a8]) (by omega)
    have eys : ys = natV ds := by
     unfold natV
     clear h9 hlen ok9
     induction al9 with
     | nil => rfl
     | cons h _ ih => rw [h, ih]; rfl
    subst eys
    have nlD : l ≠ D := fun z => by rw [← z, hl7] at hD; cases hD
    have hl9 : H9 l = some (.lst (natV (frmTo ff (la + 1 - ff)))) := S9.keep _ _ nlt hl7
    have nF : (frmTo ff (la + 1 - ff)).length = la + 1 - ff := by unfold frmTo; simp
    refine ⟨l, D, _, _, rfl, rfl, hl9, h9, (by unfold natV; rw [List.length_map, List.length_map, nF, hlen]; exact Nat.le_trans (m := 1000) (by omega) (by decide)), fun p1 hp1 => ?_⟩
    have s10 := same_new hp1 (.lst (natV (frmTo ff (la + 1 - ff)) ++ natV ds))
    have en : natV (frmTo ff (la + 1 - ff)) ++ natV ds = ((frmTo ff (la + 1 - ff) ++ ds).map fun n : Nat => (n : Int)).map V.int := by unfold natV; rw [← List.map_append, List.map_map]; rfl
    have nn : ((frmTo ff (la + 1 - ff) ++ ds).map fun n : Nat => (n : Int)).length < 64 := by rw [List.length_map, List.length_append, nF, hlen]; omega
    have le1 := oneEach_le ((frmTo ff (la + 1 - ff) ++ ds).map fun n : Nat => (n : Int))
    refine ⟨p1, _, rfl, .inl (SqL.of (by rw [← en]; exact upd_same)), by omega, fun p2 hp2 => ?_⟩
    refine ⟨p2, _, rfl, upd_same, by omega, fun p3 ms hpm hpw hp3 => ?_⟩
    have s12 := (s10.trans (same_new hp2 _)).trans (same_new hp3 (.lst (ms.map V.int)))
    have S12 := (S7.trans S9).trans (Step.same s12 T9.lst)
    have T12 := T9.same s12
    obtain ⟨zs, ez, zsrt, zlt⟩ := ones_ok ltt ok9 hpm hpw
    refine ⟨_, rfl, p3, _, rfl, .inl ⟨SqL.of (upd_same (a := p3) (o := .lst (ms.map V.int))), fun p hp => ?_⟩⟩
    exact k p zs _ (S12.trans (Step.new T12.lst hp _)) (T12.new hp _) (SqT.of (by rw [← ez]; exact upd_same)) zsrt zlt
   ·refine iteD0 (by intro z; cases z) ?_
    refine ⟨_, rfl, rfl, _, rfl, ?_⟩
    refine iteD0 (by intro z; cases z) ?_
    refine ⟨_, rfl, rfl, _, rfl, ?_⟩
    refine iteD0 (by intro z; cases z) ?_
    refine ⟨_, rfl, rfl, _, rfl, ?_⟩
    refine iteD0 (by intro z; cases z) ?_
    refine ⟨_, rfl, rfl, _, rfl, ?_⟩
    refine iteD0 (by intro z; cases z) ?_
    refine ⟨_, rfl, l, _, rfl, .inl ⟨SqL.of (show H6 l = some (.lst (natV (frmTo ff (la + 1 - ff)))) from hl6), fun p hp => ?_⟩⟩
    exact k p (frmTo ff (la + 1 - ff)) _ (S6.trans (Step.new T6.lst hp _)) (T6.new hp _) (SqT.of upd_same) srt ltt
  ·refine iteD0 (by omega) ?_
   have eh : ((la : Nat) : Int) + 1 = ((ff + (la + 1 - ff) : Nat) : Int) := by omega
   refine ⟨_, rfl, _, rfl, _, _, rfl, rfl, _, _, rfl, fun pr hpr => ?_⟩
   refine ⟨pr, ff, la + 1 - ff, rfl, (by rw [← eh]; exact upd_same), by omega, fun l hl => ?_⟩
   have s56 := (same_new hpr _).trans (same_new hl (.lst ((frmTo ff (la + 1 - ff)).map fun i : Nat => V.int i)))
   have S6 := S4.trans (Step.same s56 T4.lst)
   have T6 := T4.same s56
   have hl6 := upd_same (H := upd HH pr (.rng (ff : Int) ((la : Int) + 1))) (a := l) (o := .lst ((frmTo ff (la + 1 - ff)).map fun i : Nat => V.int i))
   obtain ⟨y5, e5⟩ := T4.lst
   have nlt : l ≠ t₁ := fun z => by
    have q := same_new hpr (HO.rng (ff : Int) ((la : Int) + 1)) _ _ e5
    rw [← z, hl] at q
    cases q
   generalize upd (upd HH pr (.rng (ff : Int) ((la : Int) + 1))) l (.lst ((frmTo ff (la + 1 - ff)).map fun i : Nat => V.int i)) = H6 at S6 T6 hl6 ⊢
   have srt := from_srt ff (la + 1 - ff)
   have ltt : ∀ n ∈ frmTo ff (la + 1 - ff), n < 24 := fun n hn => by have := from_mem hn; omega
   refine ⟨_, rfl, rfl, _, rfl, ?_⟩
   have cs : r3 = 0 ∨ r3 = 1 ∨ (r3 = 2 ∨ r3 = 5) ∨ r3 = 3 ∨ r3 = 4 := by omega
   rcases cs with rfl | rfl | c25 | rfl | rfl
   ·refine iteD1 rfl ?_
    refine ⟨(by show 0 ≤ sizeLine; exact Nat.zero_le _), fun l0 h0 => ?_⟩
    have S7 := S6.trans (Step.new T6.lst h0 (.lst []))
    have T7 := T6.new h0 (.lst [])
    refine ⟨_, rfl, rfl, _, rfl, ?_⟩
    refine iteD0 (by intro z; cases z) ?_
    refine ⟨_, rfl, rfl, _, rfl, ?_⟩
    refine iteD0 (by intro z; cases z) ?_
    refine ⟨_, rfl, rfl, _, rfl, ?_⟩
    refine iteD0 (by intro z; cases z) ?_
    refine ⟨_, rfl, rfl, _, rfl, ?_⟩
    refine iteD0 (by intro z; cases z) ?_
    refine ⟨_, rfl, l0, _, rfl, .inl ⟨SqL.of (upd_same (H := H6) (a := l0) (o := .lst (natV []))), fun p hp => ?_⟩⟩
    exact k p [] _ (S7.trans (Step.new T7.lst hp _)) (T7.new hp _) (SqT.of upd_same) .nil (fun n hn => by cases hn)
   ·refine iteD0 (by intro z; cases z) ?_
    refine ⟨_, rfl, rfl, _, rfl, ?_⟩
    refine iteD1 rfl ?_
    refine ⟨_, rfl, fun pr2 hpr2 => ?_⟩
    refine ⟨pr2, 24, rfl, upd_same, by decide, fun l2 hl2 => ?_⟩
    have s7 := (same_new hpr2 _).trans (same_new hl2 (.lst ((B.upTo 24).map V.int)))
    have S7 := S6.trans (Step.same s7 T6.lst)
    have T7 := T6.same s7
    refine ⟨_, rfl, rfl, _, rfl, ?_⟩
    refine iteD0 (by intro z; cases z) ?_
    refine ⟨_, rfl, rfl, _, rfl, ?_⟩
    refine iteD0 (by intro z; cases z) ?_
    refine ⟨_, rfl, rfl, _, rfl, ?_⟩
    refine iteD0 (by intro z; cases z) ?_
    have e24 : natV (List.range 24) = (B.upTo 24).map V.int := by unfold natV B.upTo; rw [List.map_map]; rfl
    refine ⟨_, rfl, l2, _, rfl, .inl ⟨SqL.of (upd_same (H := upd H6 pr2 (.rng 0 24)) (a := l2) (o := .lst (natV (List.range 24)))), fun p hp => ?_⟩⟩
    exact k p (List.range 24) _ (S7.trans (Step.new T7.lst hp _)) (T7.new hp _) (SqT.of upd_same) (List.pairwise_lt_range) (fun n hn => List.mem_range.mp hn)
   ·rcases c25 with rfl | rfl
    ·refine iteD0 (by intro z; cases z) ?_
     refine ⟨_, rfl, rfl, _, rfl, ?_⟩
     refine iteD0 (by intro z; cases z) ?_
     refine ⟨_, rfl, rfl, _, rfl, ?_⟩
     refine iteD1 rfl (iteT ?_)
     obtain ⟨y6, e6⟩ := T6.lst
     refine ⟨_, rfl, t₁, s₁, 24, rfl, T6, by omega, by omega, fun r7 x7_ a7 b7 T7 => ?_⟩
     have S7 := S6.trans (Step.up (ys := x7_) e6)
     have hl7 : upd H6 t₁ (.lst x7_) l = some (.lst (natV (frmTo ff (la + 1 - ff)))) := by rw [upd_ne nlt]; exact hl6
     generalize upd H6 t₁ (.lst x7_) = H7 at T7 S7 hl7 ⊢
     obtain ⟨y7, e7⟩ := T7.lst
     refine ⟨_, rfl, t₁, s₁, 6, rfl, T7, by omega, by omega, fun r8 x8_ a8 b8 T8 => ?_⟩
     have S8 := S7.trans (Step.up (ys := x8_) e7)
     have hl8 : upd H7 t₁ (.lst x8_) l = some (.lst (natV (frmTo ff (la + 1 - ff)))) := by rw [upd_ne nlt]; exact hl7
     generalize upd H7 t₁ (.lst x8_) = H8 at T8 S8 hl8 ⊢
     refine ⟨_, _, rfl, rfl, ?_⟩
     have nL : (natV (frmTo ff (la + 1 - ff))).length = (frmTo ff (la + 1 - ff)).length := List.length_map _
     have nF : (frmTo ff (la + 1 - ff)).length = la + 1 - ff := by unfold frmTo; simp
     refine ⟨_, rfl, l, rfl, ⟨_, SqL.of hl8⟩, fun D hD => comp_ix (wlk_lst (SqL.of (K := K) hl8)) (fun i => decide (¬ ((frmTo ff (la + 1 - ff)).getD i 0 : Int) = r7) && decide (¬ ((frmTo ff (la + 1 - ff)).getD i 0 : Int) % (2 + r8) = 1)) (fun i => V.int ((frmTo ff (la + 1 - ff)).getD i 0 : Nat)) hD (by rw [nL, nF]; omega) (fun j y H' hj s' hy R E kR kE => ?_) fun H9 s9 h9 => ?_⟩
     ·obtain ⟨z', hz', rfl⟩ : ∃ z', (frmTo ff (la + 1 - ff))[j]? = some z' /\ V.int (z' : Nat) = y := by
       unfold natV at hy
       rw [List.getElem?_map] at hy
       exact Option.map_eq_some_iff.mp hy
      simp only [getD_of 0 hz'] at kR kE
      refine ⟨Ext.set rfl, _, rfl, _, rfl, rfl, _, rfl, ite2 (fun h1 => ?_) fun h1 => iteF (kE ?_ _ (Same.refl _))⟩
      ·have q1 : ¬ ((z' : Nat) : Int) = r7 := fun e => by rw [e] at h1; simp at h1
       refine ⟨_, rfl, _, rfl, _, _, rfl, rfl, by omega, rfl, _, rfl, ite2 (fun h2 => ⟨_, rfl, kR ?_ _ (Same.refl _)⟩) fun h2 => kE ?_ _ (Same.refl _)⟩
       ·have q2 : ¬ ((z' : Nat) : Int) % (2 + r8) = 1 := fun e => by simp [e] at h2
        rw [decide_eq_true q1, decide_eq_true q2]; rfl
       ·have q2 : ((z' : Nat) : Int) % (2 + r8) = 1 := by
         rcases Decidable.em (((z' : Nat) : Int) % (2 + r8) = 1) with e | e
         ·exact e
         ·exact absurd (by dsimp only; simpa using e) h2
        rw [q2]; simp
      ·have q1 : ((z' : Nat) : Int) = r7 := by
        rcases Decidable.em (((z' : Nat) : Int) = r7) with e | e
        ·exact e
        ·exact absurd (by simpa using e) h1
       rw [q1]; simp
     ·rw [nL, by_place 0 (fun n : Nat => decide (¬ (n : Int) = r7) && decide (¬ (n : Int) % (2 + r8) = 1)) (fun n : Nat => V.int n)] at h9
      have S9 := S8.trans (Step.same s9 T8.lst)
      have T9 := T8.same s9
      refine ⟨_, rfl, rfl, _, rfl, ?_⟩
      refine iteD0 (by intro z; cases z) ?_
      refine ⟨_, rfl, D, _, rfl, .inl ⟨SqL.of h9, fun p hp => ?_⟩⟩
      exact k p ((frmTo ff (la + 1 - ff)).filter _) _ (S9.trans (Step.new T9.lst hp _)) (T9.new hp _) (SqT.of upd_same) (srt.filter _) (fun n hn => ltt n (List.mem_filter.mp hn).1)
    ·refine iteD0 (by intro z; cases z) ?_
     refine ⟨_, rfl, rfl, _, rfl, ?_⟩
     refine iteD0 (by intro z; cases z) ?_
     refine ⟨_, rfl, rfl, _, rfl, ?_⟩
     refine iteD0 (by intro z; cases z) ?_
     refine ⟨_, rfl, rfl, _, rfl, ?_⟩
     refine iteD1 rfl ?_
     obtain ⟨y6, e6⟩ := T6.lst
     refine ⟨_, rfl, t₁, s₁, 24, rfl, T6, by omega, by omega, fun r7 x7_ a7 b7 T7 => ?_⟩
     have S7 := S6.trans (Step.up (ys := x7_) e6)
     have hl7 : upd H6 t₁ (.lst x7_) l = some (.lst (natV (frmTo ff (la + 1 - ff)))) := by rw [upd_ne nlt]; exact hl6
     generalize upd H6 t₁ (.lst x7_) = H7 at T7 S7 hl7 ⊢
     obtain ⟨y7, e7⟩ := T7.lst
     refine ⟨_, rfl, t₁, s₁, 6, rfl, T7, by omega, by omega, fun r8 x8_ a8 b8 T8 => ?_⟩
     have S8 := S7.trans (Step.up (ys := x8_) e7)
     have hl8 : upd H7 t₁ (.lst x8_) l = some (.lst (natV (frmTo ff (la + 1 - ff)))) := by rw [upd_ne nlt]; exact hl7
     generalize upd H7 t₁ (.lst x8_) = H8 at T8 S8 hl8 ⊢
     refine ⟨_, _, rfl, rfl, ?_⟩
     have nL : (natV (frmTo ff (la + 1 - ff))).length = (frmTo ff (la + 1 - ff)).length := List.length_map _
     have nF : (frmTo ff (la + 1 - ff)).length = la + 1 - ff := by unfold frmTo; simp
     refine ⟨_, rfl, l, rfl, ⟨_, SqL.of hl8⟩, fun D hD => comp_ix (wlk_lst (SqL.of (K := K) hl8)) (fun i => decide (¬ ((frmTo ff (la + 1 - ff)).getD i 0 : Int) = r7) && decide (¬ ((frmTo ff (la + 1 - ff)).getD i 0 : Int) % (2 + r8) = 1)) (fun i => V.int ((frmTo ff (la + 1 - ff)).getD i 0 : Nat)) hD (by rw [nL, nF]; omega) (fun j y H' hj s' hy R E kR kE => ?_) fun H9 s9 h9 => ?_⟩
     ·obtain ⟨z', hz', rfl⟩ : ∃ z', (frmTo ff (la + 1 - ff))[j]? = some z' /\ V.int (z' : Nat) = y := by
       unfold natV at hy
       rw [List.getElem?_map] at hy
       exact Option.map_eq_some_iff.mp hy
      simp only [getD_of 0 hz'] at kR kE
      refine ⟨Ext.set rfl, _, rfl, _, rfl, rfl, _, rfl, ite2 (fun h1 => ?_) fun h1 => iteF (kE ?_ _ (Same.refl _))⟩
      ·have q1 : ¬ ((z' : Nat) : Int) = r7 := fun e => by rw [e] at h1; simp at h1
       refine ⟨_, rfl, _, rfl, _, _, rfl, rfl, by omega, rfl, _, rfl, ite2 (fun h2 => ⟨_, rfl, kR ?_ _ (Same.refl _)⟩) fun h2 => kE ?_ _ (Same.refl _)⟩
       ·have q2 : ¬ ((z' : Nat) : Int) % (2 + r8) = 1 := fun e => by simp [e] at h2
        rw [decide_eq_true q1, decide_eq_true q2]; rfl
       ·have q2 : ((z' : Nat) : Int) % (2 + r8) = 1 := by
         rcases Decidable.em (((z' : Nat) : Int) % (2 + r8) = 1) with e | e
         ·exact e
         ·exact absurd (by dsimp only; simpa using e) h2
        rw [q2]; simp
      ·have q1 : ((z' : Nat) : Int) = r7 := by
        rcases Decidable.em (((z' : Nat) : Int) = r7) with e | e
        ·exact e
        ·exact absurd (by simpa using e) h1
       rw [q1]; simp
     ·rw [nL, by_place 0 (fun n : Nat => decide (¬ (n : Int) = r7) && decide (¬ (n : Int) % (2 + r8) = 1)) (fun n : Nat => V.int n)] at h9
      have S9 := S8.trans (Step.same s9 T8.lst)
      have T9 := T8.same s9
      refine ⟨_, rfl, rfl, _, rfl, ?_⟩
      refine iteD0 (by intro z; cases z) ?_
      refine ⟨_, rfl, D, _, rfl, .inl ⟨SqL.of h9, fun p hp => ?_⟩⟩
      exact k p ((frmTo ff (la + 1 - ff)).filter _) _ (S9.trans (Step.new T9.lst hp _)) (T9.new hp _) (SqT.of upd_same) (srt.filter _) (fun n hn => ltt n (List.mem_filter.mp hn).1)
   ·refine iteD0 (by intro z; cases z) ?_
    refine ⟨_, rfl, rfl, _, rfl, ?_⟩
    refine iteD0 (by intro z; cases z) ?_
    refine ⟨_, rfl, rfl, _, rfl, ?_⟩
    refine iteD0 (by intro z; cases z) ?_
    refine ⟨_, rfl, rfl, _, rfl, ?_⟩
    refine iteD0 (by intro z; cases z) ?_
    refine ⟨_, rfl, rfl, _, rfl, ?_⟩
    refine iteD1 rfl ?_
    obtain ⟨y6, e6⟩ := T6.lst
    refine ⟨_, rfl, _, rfl, t₁, s₁, 9, rfl, T6, by omega, by omega, fun r7 x7_ a7 b7 T7 => ?_⟩
    have S7 := S6.trans (Step.up (ys := x7_) e6)
    have hl7 : upd H6 t₁ (.lst x7_) l = some (.lst (natV (frmTo ff (la + 1 - ff)))) := by rw [upd_ne nlt]; exact hl6
    generalize upd H6 t₁ (.lst x7_) = H7 at T7 S7 hl7 ⊢
    refine ⟨r7, rfl, by omega, by omega, fun D hD => comp_rng3 (K := K) (P := fun _ v (d : Nat) => v = V.int d) (Ok := fun d => d < 24) (n := r7.toNat) (fun _ _ _ _ _ p => p) hD T7 (by omega) (fun i H' hi tst T' R E kR => ?_) fun H9 ys ds S9 T9 h9 al9 hlen ok9 => ?_⟩
    ·obtain ⟨y', e'⟩ := T'.lst
     refine ⟨Ext.set rfl, _, rfl, t₁, s₁, 24, rfl, T', by omega, by omega, fun r8 x8_ a8 b8 T8 => ?_⟩
     exact kR _ r8.toNat _ (Step.up (ys := x8_) e') T8 (by rw [Int.toNat_of_nonneg a8]) (by omega)
    have eys : ys = natV ds := by
     unfold natV
     clear h9 hlen ok9
     induction al9 with
     | nil => rfl
     | cons h _ ih => rw [h, ih]; rfl
    subst eys
    have nlD : l ≠ D := fun z => by rw [← z, hl7] at hD; cases hD
    have hl9 : H9 l = some (.lst (natV (frmTo ff (la + 1 - ff)))) := S9.keep _ _ nlt hl7
    have nF : (frmTo ff (la + 1 - ff)).length = la + 1 - ff := by unfold frmTo; simp
    refine ⟨l, D, _, _, rfl, rfl, hl9, h9, (by unfold natV; rw [List.length_map, List.length_map, nF, hlen]; exact Nat.le_trans (m := 1000) (by omega) (by decide)), fun p1 hp1 => ?_⟩
    have s10 := same_new hp1 (.lst (natV (frmTo ff (la + 1 - ff)) ++ natV ds))
    have en : natV (frmTo ff (la + 1 - ff)) ++ natV ds = ((frmTo ff (la + 1 - ff) ++ ds).map fun n : Nat => (n : Int)).map V.int := by unfold natV; rw [← List.map_append, List.map_map]; rfl
    have nn : ((frmTo ff (la + 1 - ff) ++ ds).map fun n : Nat => (n : Int)).length < 64 := by rw [List.length_map, List.length_append, nF, hlen]; omega
    have le1 := oneEach_le ((frmTo ff (la + 1 - ff) ++ ds).map fun n : Nat => (n : Int))
    refine ⟨p1, _, rfl, .inl (SqL.of (by rw [← en]; exact upd_same)), by omega, fun p2 hp2 => ?_⟩
    refine ⟨p2, _, rfl, upd_same, by omega, fun p3 ms hpm hpw hp3 => ?_⟩
    have s12 := (s10.trans (same_new hp2 _)).trans (same_new hp3 (.lst (ms.map V.int)))
    have S12 := (S7.trans S9).trans (Step.same s12 T9.lst)
    have T12 := T9.same s12
    obtain ⟨zs, ez, zsrt, zlt⟩ := ones_ok ltt ok9 hpm hpw
    refine ⟨_, rfl, p3, _, rfl, .inl ⟨SqL.of (upd_same (a := p3) (o := .lst (ms.map V.int))), fun p hp => ?_⟩⟩
    exact k p zs _ (S12.trans (Step.new T12.lst hp _)) (T12.new hp _) (SqT.of (by rw [← ez]; exact upd_same)) zsrt zlt
   ·refine iteD0 (by intro z; cases z) ?_
    refine ⟨_, rfl, rfl, _, rfl, ?_⟩
    refine iteD0 (by intro z; cases z) ?_
    refine ⟨_, rfl, rfl, _, rfl, ?_⟩
    refine iteD0 (by intro z; cases z) ?_
    refine ⟨_, rfl, rfl, _, rfl, ?_⟩
    refine iteD0 (by intro z; cases z) ?_
    refine ⟨_, rfl, rfl, _, rfl, ?_⟩
    refine iteD0 (by intro z; cases z) ?_
    refine ⟨_, rfl, l, _, rfl, .inl ⟨SqL.of (show H6 l = some (.lst (natV (frmTo ff (la + 1 - ff)))) from hl6), fun p hp => ?_⟩⟩
    exact k p (frmTo ff (la + 1 - ff)) _ (S6.trans (Step.new T6.lst hp _)) (T6.new hp _) (SqT.of upd_same) srt ltt
 ·refine iteD0 c0 (iteF ?_)
  have eh : ((la : Nat) : Int) + 1 = ((ff + (la + 1 - ff) : Nat) : Int) := by omega
  refine ⟨_, rfl, _, rfl, _, _, rfl, rfl, _, _, rfl, fun pr hpr => ?_⟩
  refine ⟨pr, ff, la + 1 - ff, rfl, (by rw [← eh]; exact upd_same), by omega, fun l hl => ?_⟩
  have s56 := (same_new hpr _).trans (same_new hl (.lst ((frmTo ff (la + 1 - ff)).map fun i : Nat => V.int i)))
  have S6 := S4.trans (Step.same s56 T4.lst)
  have T6 := T4.same s56
  have hl6 := upd_same (H := upd HH pr (.rng (ff : Int) ((la : Int) + 1))) (a := l) (o := .lst ((frmTo ff (la + 1 - ff)).map fun i : Nat => V.int i))
  obtain ⟨y5, e5⟩ := T4.lst
  have nlt : l ≠ t₁ := fun z => by
   have q := same_new hpr (HO.rng (ff : Int) ((la : Int) + 1)) _ _ e5
   rw [← z, hl] at q
   cases q
  generalize upd (upd HH pr (.rng (ff : Int) ((la : Int) + 1))) l (.lst ((frmTo ff (la + 1 - ff)).map fun i : Nat => V.int i)) = H6 at S6 T6 hl6 ⊢
  have srt := from_srt ff (la + 1 - ff)
  have ltt : ∀ n ∈ frmTo ff (la + 1 - ff), n < 24 := fun n hn => by have := from_mem hn; omega
  refine ⟨_, rfl, rfl, _, rfl, ?_⟩
  have cs : r3 = 0 ∨ r3 = 1 ∨ (r3 = 2 ∨ r3 = 5) ∨ r3 = 3 ∨ r3 = 4 := by omega
  rcases cs with rfl | rfl | c25 | rfl | rfl
  ·refine iteD1 rfl ?_
   refine ⟨(by show 0 ≤ sizeLine; exact Nat.zero_le _), fun l0 h0 => ?_⟩
   have S7 := S6.trans (Step.new T6.lst h0 (.lst []))
   have T7 := T6.new h0 (.lst [])
   refine ⟨_, rfl, rfl, _, rfl, ?_⟩
   refine iteD0 (by intro z; cases z) ?_
   refine ⟨_, rfl, rfl, _, rfl, ?_⟩
   refine iteD0 (by intro z; cases z) ?_
   refine ⟨_, rfl, rfl, _, rfl, ?_⟩
   refine iteD0 (by intro z; cases z) ?_
   refine ⟨_, rfl, rfl, _, rfl, ?_⟩
   refine iteD0 (by intro z; cases z) ?_
   refine ⟨_, rfl, l0, _, rfl, .inl ⟨SqL.of (upd_same (H := H6) (a := l0) (o := .lst (natV []))), fun p hp => ?_⟩⟩
   exact k p [] _ (S7.trans (Step.new T7.lst hp _)) (T7.new hp _) (SqT.of upd_same) .nil (fun n hn => by cases hn)
  ·refine iteD0 (by intro z; cases z) ?_
   refine ⟨_, rfl, rfl, _, rfl, ?_⟩
   refine iteD1 rfl ?_
   refine ⟨_, rfl, fun pr2 hpr2 => ?_⟩
   refine ⟨pr2, 24, rfl, upd_same, by decide, fun l2 hl2 => ?_⟩
   have s7 := (same_new hpr2 _).trans (same_new hl2 (.lst ((B.upTo 24).map V.int)))
   have S7 := S6.trans (Step.same s7 T6.lst)
   have T7 := T6.same s7
   refine ⟨_, rfl, rfl, _, rfl, ?_⟩
   refine iteD0 (by intro z; cases z) ?_
   refine ⟨_, rfl, rfl, _, rfl, ?_⟩
   refine iteD0 (by intro z; cases z) ?_
   refine ⟨_, rfl, rfl, _, rfl, ?_⟩
   refine iteD0 (by intro z; cases z) ?_
   have e24 : natV (List.range 24) = (B.upTo 24).map V.int := by unfold natV B.upTo; rw [List.map_map]; rfl
   refine ⟨_, rfl, l2, _, rfl, .inl ⟨SqL.of (upd_same (H := upd H6 pr2 (.rng 0 24)) (a := l2) (o := .lst (natV (List.range 24)))), fun p hp => ?_⟩⟩
   exact k p (List.range 24) _ (S7.trans (Step.new T7.lst hp _)) (T7.new hp _) (SqT.of upd_same) (List.pairwise_lt_range) (fun n hn => List.mem_range.mp hn)
  ·rcases c25 with rfl | rfl
   ·refine iteD0 (by intro z; cases z) ?_
    refine ⟨_, rfl, rfl, _, rfl, ?_⟩
    refine iteD0 (by intro z; cases z) ?_
    refine ⟨_, rfl, rfl, _, rfl, ?_⟩
    refine iteD1 rfl (iteT ?_)
    obtain ⟨y6, e6⟩ := T6.lst
    refine ⟨_, rfl, t₁, s₁, 24, rfl, T6, by omega, by omega, fun r7 x7_ a7 b7 T7 => ?_⟩
    have S7 := S6.trans (Step.up (ys := x7_) e6)
    have hl7 : upd H6 t₁ (.lst x7_) l = some (.lst (natV (frmTo ff (la + 1 - ff)))) := by rw [upd_ne nlt]; exact hl6
    generalize upd H6 t₁ (.lst x7_) = H7 at T7 S7 hl7 ⊢
    obtain ⟨y7, e7⟩ := T7.lst
    refine ⟨_, rfl, t₁, s₁, 6, rfl, T7, by omega, by omega, fun r8 x8_ a8 b8 T8 => ?_⟩
    have S8 := S7.trans (Step.up (ys := x8_) e7)
    have hl8 : upd H7 t₁ (.lst x8_) l = some (.lst (natV (frmTo ff (la + 1 - ff)))) := by rw [upd_ne nlt]; exact hl7
    generalize upd H7 t₁ (.lst x8_) = H8 at T8 S8 hl8 ⊢
    refine ⟨_, _, rfl, rfl, ?_⟩
    have nL : (natV (frmTo ff (la + 1 - ff))).length = (frmTo ff (la + 1 - ff)).length := List.length_map _
    have nF : (frmTo ff (la + 1 - ff)).length = la + 1 - ff := by unfold frmTo; simp
    refine ⟨_, rfl, l, rfl, ⟨_, SqL.of hl8⟩, fun D hD => comp_ix (wlk_lst (SqL.of (K := K) hl8)) (fun i => decide (¬ ((frmTo ff (la + 1 - ff)).getD i 0 : Int) = r7) && decide (¬ ((frmTo ff (la + 1 - ff)).getD i 0 : Int) % (2 + r8) = 1)) (fun i => V.int ((frmTo ff (la + 1 - ff)).getD i 0 : Nat)) hD (by rw [nL, nF]; omega) (fun j y H' hj s' hy R E kR kE => ?_) fun H9 s9 h9 => ?_⟩
    ·obtain ⟨z', hz', rfl⟩ : ∃ z', (frmTo ff (la + 1 - ff))[j]? = some z' /\ V.int (z' : Nat) = y := by
      unfold natV at hy
      rw [List.getElem?_map] at hy
      exact Option.map_eq_some_iff.mp hy
     simp only [getD_of 0 hz'] at kR kE
     refine ⟨Ext.set rfl, _, rfl, _, rfl, rfl, _, rfl, ite2 (fun h1 => ?_) fun h1 => iteF (kE ?_ _ (Same.refl _))⟩
     ·have q1 : ¬ ((z' : Nat) : Int) = r7 := fun e => by rw [e] at h1; simp at h1
      refine ⟨_, rfl, _, rfl, _, _, rfl, rfl, by omega, rfl, _, rfl, ite2 (fun h2 => ⟨_, rfl, kR ?_ _ (Same.refl _)⟩) fun h2 => kE ?_ _ (Same.refl _)⟩
      ·have q2 : ¬ ((z' : Nat) : Int) % (2 + r8) = 1 := fun e => by simp [e] at h2
       rw [decide_eq_true q1, decide_eq_true q2]; rfl
      ·have q2 : ((z' : Nat) : Int) % (2 + r8) = 1 := by
        rcases Decidable.em (((z' : Nat) : Int) % (2 + r8) = 1) with e | e
        ·exact e
        ·exact absurd (by dsimp only; simpa using e) h2
       rw [q2]; simp
     ·have q1 : ((z' : Nat) : Int) = r7 := by
       rcases Decidable.em (((z' : Nat) : Int) = r7) with e | e
       ·exact e
       ·exact absurd (by simpa using e) h1
      rw [q1]; simp
    ·rw [nL, by_place 0 (fun n : Nat => decide (¬ (n : Int) = r7) && decide (¬ (n : Int) % (2 + r8) = 1)) (fun n : Nat => V.int n)] at h9
     have S9 := S8.trans (Step.same s9 T8.lst)
     have T9 := T8.same s9
     refine ⟨_, rfl, rfl, _, rfl, ?_⟩
     refine iteD0 (by intro z; cases z) ?_
     refine ⟨_, rfl, D, _, rfl, .inl ⟨SqL.of h9, fun p hp => ?_⟩⟩
     exact k p ((frmTo ff (la + 1 - ff)).filter _) _ (S9.trans (Step.new T9.lst hp _)) (T9.new hp _) (SqT.of upd_same) (srt.filter _) (fun n hn => ltt n (List.mem_filter.mp hn).1)
   ·refine iteD0 (by intro z; cases z) ?_
    refine ⟨_, rfl, rfl, _, rfl, ?_⟩
    refine iteD0 (by intro z; cases z) ?_
    refine ⟨_, rfl, rfl, _, rfl, ?_⟩
    refine iteD0 (by intro z; cases z) ?_
    refine ⟨_, rfl, rfl, _, rfl, ?_⟩
    refine iteD1 rfl ?_
    obtain ⟨y6, e6⟩ := T6.lst
    refine ⟨_, rfl, t₁, s₁, 24, rfl, T6, by omega, by omega, fun r7 x7_ a7 b7 T7 => ?_⟩
    have S7 := S6.trans (Step.up (ys := x7_) e6)
    have hl7 : upd H6 t₁ (.lst x7_) l = some (.lst (natV (frmTo ff (la + 1 - ff)))) := by rw [upd_ne nlt]; exact hl6
    generalize upd H6 t₁ (.lst x7_) = H7 at T7 S7 hl7 ⊢
    obtain ⟨y7, e7⟩ := T7.lst
    refine ⟨_, rfl, t₁, s₁, 6, rfl, T7, by omega, by omega, fun r8 x8_ a8 b8 T8 => ?_⟩
    have S8 := S7.trans (Step.up (ys := x8_) e7)
    have hl8 : upd H7 t₁ (.lst x8_) l = some (.lst (natV (frmTo ff (la + 1 - ff)))) := by rw [upd_ne nlt]; exact hl7
    generalize upd H7 t₁ (.lst x8_) = H8 at T8 S8 hl8 ⊢
    refine ⟨_, _, rfl, rfl, ?_⟩
    have nL : (natV (frmTo ff (la + 1 - ff))).length = (frmTo ff (la + 1 - ff)).length := List.length_map _
    have nF : (frmTo ff (la + 1 - ff)).length = la + 1 - ff := by unfold frmTo; simp
    refine ⟨_, rfl, l, rfl, ⟨_, SqL.of hl8⟩, fun D hD => comp_ix (wlk_lst (SqL.of (K := K) hl8)) (fun i => decide (¬ ((frmTo ff (la + 1 - ff)).getD i 0 : Int) = r7) && decide (¬ ((frmTo ff (la + 1 - ff)).getD i 0 : Int) % (2 + r8) = 1)) (fun i => V.int ((frmTo ff (la + 1 - ff)).getD i 0 : Nat)) hD (by rw [nL, nF]; omega) (fun j y H' hj s' hy R E kR kE => ?_) fun H9 s9 h9 => ?_⟩
    ·obtain ⟨z', hz', rfl⟩ : ∃ z', (frmTo ff (la + 1 - ff))[j]? = some z' /\ V.int (z' : Nat) = y := by
      unfold natV at hy
      rw [List.getElem?_map] at hy
      exact Option.map_eq_some_iff.mp hy
     simp only [getD_of 0 hz'] at kR kE
     refine ⟨Ext.set rfl, _, rfl, _, rfl, rfl, _, rfl, ite2 (fun h1 => ?_) fun h1 => iteF (kE ?_ _ (Same.refl _))⟩
     ·have q1 : ¬ ((z' : Nat) : Int) = r7 := fun e => by rw [e] at h1; simp at h1
      refine ⟨_, rfl, _, rfl, _, _, rfl, rfl, by omega, rfl, _, rfl, ite2 (fun h2 => ⟨_, rfl, kR ?_ _ (Same.refl _)⟩) fun h2 => kE ?_ _ (Same.refl _)⟩
      ·have q2 : ¬ ((z' : Nat) : Int) % (2 + r8) = 1 := fun e => by simp [e] at h2
       rw [decide_eq_true q1, decide_eq_true q2]; rfl
      ·have q2 : ((z' : Nat) : Int) % (2 + r8) = 1 := by
        rcases Decidable.em (((z' : Nat) : Int) % (2 + r8) = 1) with e | e
        ·exact e
        ·exact absurd (by dsimp only; simpa using e) h2
       rw [q2]; simp
     ·have q1 : ((z' : Nat) : Int) = r7 := by
       rcases Decidable.em (((z' : Nat) : Int) = r7) with e | e
       ·exact e
       ·exact absurd (by simpa using e) h1
      rw [q1]; simp
    ·rw [nL, by_place 0 (fun n : Nat => decide (¬ (n : Int) = r7) && decide (¬ (n : Int) % (2 + r8) = 1)) (fun n : Nat => V.int n)] at h9
     have S9 := S8.trans (Step.same s9 T8.lst)
     have T9 := T8.same s9
     refine ⟨_, rfl, rfl, _, rfl, ?_⟩
     refine iteD0 (by intro z; cases z) ?_
     refine ⟨_, rfl, D, _, rfl, .inl ⟨SqL.of h9, fun p hp => ?_⟩⟩
     exact k p ((frmTo ff (la + 1 - ff)).filter _) _ (S9.trans (Step.new T9.lst hp _)) (T9.new hp _) (SqT.of upd_same) (srt.filter _) (fun n hn => ltt n (List.mem_filter.mp hn).1)
  ·refine iteD0 (by intro z; cases z) ?_
   refine ⟨_, rfl, rfl, _, rfl, ?_⟩
   refine iteD0 (by intro z; cases z) ?_
   refine ⟨_, rfl, rfl, _, rfl, ?_⟩
   refine iteD0 (by intro z; cases z) ?_
   refine ⟨_, rfl, rfl, _, rfl, ?_⟩
   refine iteD0 (by intro z; cases z) ?_
   refine ⟨_, rfl, rfl, _, rfl, ?_⟩
   refine iteD1 rfl ?_
   obtain ⟨y6, e6⟩ := T6.lst
   refine ⟨_, rfl, _, rfl, t₁, s₁, 9, rfl, T6, by omega, by omega, fun r7 x7_ a7 b7 T7 => ?_⟩
   have S7 := S6.trans (Step.up (ys := x7_) e6)
   have hl7 : upd H6 t₁ (.lst x7_) l = some (.lst (natV (frmTo ff (la + 1 - ff)))) := by rw [upd_ne nlt]; exact hl6
   generalize upd H6 t₁ (.lst x7_) = H7 at T7 S7 hl7 ⊢
   refine ⟨r7, rfl, by omega, by omega, fun D hD => comp_rng3 (K := K) (P := fun _ v (d : Nat) => v = V.int d) (Ok := fun d => d < 24) (n := r7.toNat) (fun _ _ _ _ _ p => p) hD T7 (by omega) (fun i H' hi tst T' R E kR => ?_) fun H9 ys ds S9 T9 h9 al9 hlen ok9 => ?_⟩
   ·obtain ⟨y', e'⟩ := T'.lst
    refine ⟨Ext.set rfl, _, rfl, t₁, s₁, 24, rfl, T', by omega, by omega, fun r8 x8_ a8 b8 T8 => ?_⟩
    exact kR _ r8.toNat _ (Step.up (ys := x8_) e') T8 (by rw [Int.toNat_of_nonneg a8]) (by omega)
   have eys : ys = natV ds := by
    unfold natV
    clear h9 hlen ok9
    induction al9 with
    | nil => rfl
    | cons h _ ih => rw [h, ih]; rfl
   subst eys
   have nlD : l ≠ D := fun z => by rw [← z, hl7] at hD; cases hD
   have hl9 : H9 l = some (.lst (natV (frmTo ff (la + 1 - ff)))) := S9.keep _ _ nlt hl7
   have nF : (frmTo ff (la + 1 - ff)).length = la + 1 - ff := by unfold frmTo; simp
   refine ⟨l, D, _, _, rfl, rfl, hl9, h9, (by unfold natV; rw [List.length_map, List.length_map, nF, hlen]; exact Nat.le_trans (m := 1000) (by omega) (by decide)), fun p1 hp1 => ?_⟩
   have s10 := same_new hp1 (.lst (natV (frmTo ff (la + 1 - ff)) ++ natV ds))
   have en : natV (frmTo ff (la + 1 - ff)) ++ natV ds = ((frmTo ff (la + 1 - ff) ++ ds).map fun n : Nat => (n : Int)).map V.int := by unfold natV; rw [← List.map_append, List.map_map]; rfl
   have nn : ((frmTo ff (la + 1 - ff) ++ ds).map fun n : Nat => (n : Int)).length < 64 := by rw [List.length_map, List.length_append, nF, hlen]; omega
   have le1 := oneEach_le ((frmTo ff (la + 1 - ff) ++ ds).map fun n : Nat => (n : Int))
   refine ⟨p1, _, rfl, .inl (SqL.of (by rw [← en]; exact upd_same)), by omega, fun p2 hp2 => ?_⟩
   refine ⟨p2, _, rfl, upd_same, by omega, fun p3 ms hpm hpw hp3 => ?_⟩
   have s12 := (s10.trans (same_new hp2 _)).trans (same_new hp3 (.lst (ms.map V.int)))
   have S12 := (S7.trans S9).trans (Step.same s12 T9.lst)
   have T12 := T9.same s12
   obtain ⟨zs, ez, zsrt, zlt⟩ := ones_ok ltt ok9 hpm hpw
   refine ⟨_, rfl, p3, _, rfl, .inl ⟨SqL.of (upd_same (a := p3) (o := .lst (ms.map V.int))), fun p hp => ?_⟩⟩
   exact k p zs _ (S12.trans (Step.new T12.lst hp _)) (T12.new hp _) (SqT.of (by rw [← ez]; exact upd_same)) zsrt zlt
  ·refine iteD0 (by intro z; cases z) ?_
   refine ⟨_, rfl, rfl, _, rfl, ?_⟩
   refine iteD0 (by intro z; cases z) ?_
   refine ⟨_, rfl, rfl, _, rfl, ?_⟩
   refine iteD0 (by intro z; cases z) ?_
   refine ⟨_, rfl, rfl, _, rfl, ?_⟩
   refine iteD0 (by intro z; cases z) ?_
   refine ⟨_, rfl, rfl, _, rfl, ?_⟩
   refine iteD0 (by intro z; cases z) ?_
   refine ⟨_, rfl, l, _, rfl, .inl ⟨SqL.of (show H6 l = some (.lst (natV (frmTo ff (la + 1 - ff)))) from hl6), fun p hp => ?_⟩⟩
   exact k p (frmTo ff (la + 1 - ff)) _ (S6.trans (Step.new T6.lst hp _)) (T6.new hp _) (SqT.of upd_same) srt ltt
theorem ok_Q17 (T : Txt K mg t) : FnOk P w K mg base CX0 6 t.a_Q17 t.d_Q17 ["_law_script"] (sp_law K) := by
 refine T.F_Q17.ok sc_Q17 (fun vs H Q E h => ?_) (fun cdv A outer s H vs Q E hr h => ?_)
 ·obtain ⟨_, _, rfl, _⟩ := h; rfl
 obtain ⟨a, ns, rfl, hS, hl, k⟩ := h
 refine QSs.ok (qss_cons (qsA 1 sc_Q17.nd (qcA (ok_Q4 T) hr T.m_Q4 T.F_Q4.kp T.b_Q4 (qa_cons (qv 0) qa_nil star_name)))
   (qss_cons (qs_for PassesOwn.never rfl (qi_range1 rfl T.z_range (qa_cons qe_int qa_nil star_con)) (qg_name (i := 2) sc_Q17.nd rfl (by first | exact Or.inl rfl | exact Or.inr rfl))
   (qss_cons (qsA 3 sc_Q17.nd (qcA (ok_Q2 T) hr T.m_Q2 T.F_Q2.kp T.b_Q2 (qa_cons (qv 1) (qa_cons (qcA (ok_Q5 T) hr T.m_Q5 T.F_Q5.kp T.b_Q5 (qa_cons (qv 1) (qa_cons qe_int qa_nil star_con) star_name)) qa_nil star_call) star_name)))
   (qss_one (qs_for PassesOwn.never rfl (qi_range1 rfl T.z_range (qa_cons qe_int qa_nil star_con)) (qg_name (i := 4) sc_Q17.nd rfl (by first | exact Or.inl rfl | exact Or.inr rfl))
   (qss_cons (qsA 5 sc_Q17.nd (qcA (ok_Q3 T) hr T.m_Q3 T.F_Q3.kp T.b_Q3 (qa_cons (qv 1) (qa_cons (qv 3) qa_nil star_name) star_name)))
   (qss_cons (qsA 6 sc_Q17.nd (qe_tup (qa_cons qe_int (qa_cons qe_int qa_nil star_con) star_con)))
   (qss_cons (qs_for PassesOwn.never rfl (qi_tup (qv 3)) (qg_tup rfl (qgs_cons (qg_name (i := 7) sc_Q17.nd rfl (by first | exact Or.inl rfl | exact Or.inr rfl)) (qgs_cons (qg_name (i := 8) sc_Q17.nd rfl (by first | exact Or.inl rfl | exact Or.inr rfl)) (qgs_cons (qg_name (i := 9) sc_Q17.nd rfl (by first | exact Or.inl rfl | exact Or.inr rfl)) qgs_nil))))
   (qss_one (qs_if (qt_cmpR (op_eqD hr) (qe_lcomp (N' := ["_law_turn", "_law_first", "_law_last"]) (src := [none, some 7, some 8]) rfl (by exact (qi_tup (qv 5))) (fun _ _ _ _ _ => (by exact (by exact qg_name (i := 0) (by show List.Nodup (["_law_turn", "_law_first", "_law_last"] : List Str); decide +kernel) (by exact rfl) (by first | exact Or.inl rfl | exact Or.inr rfl)))) (fun _ _ _ _ _ => (qts_one (qt_chain op_le op_le (by exact (qv 1)) (by exact (qv 0)) (by exact (qv 2))))) (fun _ _ _ _ _ => (by exact (by exact (qv 0)))) (by exact ⟨rfl, rfl, rfl, rfl, ⟨rfl, rfl, rfl, rfl, trivial⟩⟩) rfl (by decide +kernel) rfl (by decide +kernel) (by exact cells_of rfl ⟨rfl, ⟨rfl, trivial⟩⟩)) (qe_callTy (call_listR2 rfl) (by rfl) T.z_list boot_list (qa_cons (qe_rng2 rfl T.z_range (qa_cons (qv 7) (qa_cons (qe_op op_add (qv 8) qe_int) qa_nil star_bin) star_name)) qa_nil star_call)) (nomark _)) (qss_one (qsA 6 sc_Q17.nd (qcA (ok_Q9 T) hr T.m_Q9 T.F_Q9.kp T.b_Q9 (qa_cons (qv 6) (qa_cons (qv 9) qa_nil star_name) star_name)))) qss_nil)))
   (qss_cons (qsA 10 sc_Q17.nd (qe_callB (call_repr hr) (by rfl) T.z_repr boot_repr (qa_cons (qe_tup (qa_cons (qv 3) (qa_cons (qv 5) qa_nil star_name) star_name)) qa_nil star_tup)))
   (qss_cons (qs_if (qt_not (qt_val (qcA (ok_Q1 T) hr T.m_Q1 T.F_Q1.kp T.b_Q1 (qa_cons (qv 6) (qa_cons (qcA (ok_Q11 T) hr T.m_Q11 T.F_Q11.kp T.b_Q11 (qa_cons (qv 3) (qa_cons (qv 5) qa_nil star_name) star_name)) qa_nil star_call) star_name)))) (qss_one (qs_ret qe_bl)) qss_nil)
   (qss_cons (qs_if (qt_cmpR op_gt (qe_callB call_len_seq (by rfl) T.z_len boot_len (qa_cons (qv 5) qa_nil star_name)) qe_int (nomark _)) (qss_cons (qsA 6 sc_Q17.nd (qcA (ok_Q10 T) hr T.m_Q10 T.F_Q10.kp T.b_Q10 (qa_cons (qv 6) (qa_cons (qe_tup (qa_cons qe_int (qa_cons (qe_callB call_len_seq (by rfl) T.z_len boot_len (qa_cons (qv 5) qa_nil star_name)) qa_nil star_call) star_con)) qa_nil star_tup) star_name)))
   (qss_one (qs_if (qt_not (qt_val (qcA (ok_Q1 T) hr T.m_Q1 T.F_Q1.kp T.b_Q1 (qa_cons (qv 6) (qa_cons (qcA (ok_Q8 T) hr T.m_Q8 T.F_Q8.kp T.b_Q8 (qa_cons (qv 3) (qa_cons (qv 5) qa_nil star_name) star_name)) qa_nil star_call) star_name)))) (qss_one (qs_ret qe_bl)) qss_nil))) qss_nil)
   (qss_one (qs_if (qt_cmpR op_ne (qe_callB (call_repr hr) (by rfl) T.z_repr boot_repr (qa_cons (qe_tup (qa_cons (qv 3) (qa_cons (qv 5) qa_nil star_name) star_name)) qa_nil star_tup)) (qv 10) (nomark _)) (qss_one (qs_ret qe_bl)) qss_nil))))))))))))
   (qss_one (qs_ret qe_bl)))) ?_
 refine ⟨_, rfl, a, ns, rfl, hS, hl, fun t₁ H1 s1 ht T1 => ?_⟩
 refine ⟨8, rfl, by decide, by decide, for_range (lo := 0) (n := 8) (fun i σ H' => ∃ (x2 x3 x4 x5 x6 x7 x8 x9 xA : Option V), σ = [some (.ref a), some (.ref t₁), x2, x3, x4, x5, x6, x7, x8, x9, xA] /\ Tape3 K H' t₁ a) ⟨none, none, none, none, none, none, none, none, none, rfl, T1⟩ ?_ ?_⟩
 ·rintro i σ H2 hi ⟨x2, x3, x4, x5, x6, x7, x8, x9, xA, rfl, T2⟩
  refine ⟨_, rfl, _, rfl, t₁, a, 9, rfl, T2, by decide, by decide, fun r1 xx a1 b1 T3 => ?_⟩
  generalize upd H2 t₁ (.lst xx) = H3 at T3 ⊢
  obtain ⟨d, rfl⟩ := Int.eq_ofNat_of_zero_le a1
  refine ⟨t₁, a, d, rfl, T3, by omega, fun v ws H4 S4 T4 wv hw ok => ?_⟩
  have w64 : ws.length ≤ 64 := by omega
  have shw := sh_works ok w64
  refine ⟨3, rfl, by decide, by decide, for_range (lo := 0) (n := 3) (fun j σ H' => ∃ (x4 x5 x6 x7 x8 x9 xA : Option V), σ = [some (.ref a), some (.ref t₁), some (.int (0 + (i : Int))), some v, x4, x5, x6, x7, x8, x9, xA] /\ Tape3 K H' t₁ a /\ WksV K H' v ws) ⟨_, _, _, _, _, _, _, rfl, T4, wv⟩ ?_ ?_⟩
  ·rintro j σ H5 hj ⟨x4, x5, x6, x7, x8, x9, xA, rfl, T5, wv5⟩
   refine ⟨_, rfl, _, rfl, t₁, a, v, ws, rfl, T5, wv5, w64, ok, fun q ls H6 S6 T6 hq srt lt => ?_⟩
   have wv6 := wv5.mono (Tst.step (K := K) S6)
   have l24 : ls.length ≤ 24 := rise_len srt fun n hn => ⟨Nat.zero_le _, lt n hn⟩
   refine ⟨zl2, fun pd hpd => ?_⟩
   obtain ⟨pW, xW, rfl, hSW, alW⟩ := wv6
   have s7 := same_new hpd (.tup [.int 0, .int 1])
   have hSW7 := Tst.same (K := K) s7 _ _ hSW
   refine ⟨_, rfl, pW, rfl, ⟨_, hSW7⟩, for_tup (K := K) (a := pW) (xs := xW) (fun m σ H' => ∃ (dv : V) (x7 x8 x9 : Option V), σ = [some (.ref a), some (.ref t₁), some (.int (0 + (i : Int))), some (.ref pW), some (.int (0 + (j : Int))), some (.ref q), some dv, x7, x8, x9, xA] /\ Same H6 H' /\ RV K H' dv (sumR (wtM (ws.take m) ls))) ⟨.ref pd, _, _, _, rfl, s7, RV.of upd_same⟩ (fun m σ H' _ ⟨_, _, _, _, _, s', _⟩ => Tst.same (K := K) s' _ _ hSW) ?_ ?_⟩
   ·rintro m x σ H8 hx ⟨dv, x7', x8', x9', rfl, s8, rd⟩
    obtain ⟨w, hwd, pw, xa, rfl, hSw, rx⟩ := alW.at hx
    have t8 := Tst.same (K := K) s8
    have o := ok w (List.mem_of_getElem? hwd)
    have ole := o.le
    have olt := o.lt
    refine ⟨pw, _, rfl, t8 _ _ hSw, rfl, _, _, rfl, _, _, rfl, _, _, rfl, rfl, ?_⟩
    have nL : (natV ls).length = ls.length := List.length_map _
    refine ⟨_, rfl, q, rfl, ⟨_, t8 _ _ hq⟩, fun D hD => comp_ix (wlk_tup (t8 _ _ hq)) (fun i => inW w (ls.getD i 0)) (fun i => V.int (ls.getD i 0 : Nat)) hD (by rw [nL]; omega) (fun j y H' hj s' hy R E kR kE => ?_) fun H9 s9 h9 => ?_⟩
    ·obtain ⟨z', hz', rfl⟩ : ∃ z', ls[j]? = some z' /\ V.int (z' : Nat) = y := by
      unfold natV at hy
      rw [List.getElem?_map] at hy
      exact Option.map_eq_some_iff.mp hy
     simp only [getD_of 0 hz'] at kR kE
     refine ⟨Ext.set rfl, _, rfl, _, rfl, _, _, rfl, rfl, _, rfl, ?_⟩
     by_cases c1 : w.1 ≤ z'
     ·refine iteD1 (by omega) ?_
      refine ⟨_, rfl, _, _, rfl, rfl, _, rfl, ?_⟩
      by_cases c2 : z' ≤ w.2.1
      ·refine iteD1 (by omega) ⟨_, rfl, kR ?_ _ (Same.refl _)⟩
       unfold inW
       rw [decide_eq_true c1, decide_eq_true c2]; rfl
      ·refine iteD0 (by omega) (kE ?_ _ (Same.refl _))
       unfold inW
       rw [decide_eq_false c2, Bool.and_false]
     ·refine iteD0 (by omega) ?_
      refine ⟨_, rfl, iteF (kE ?_ _ (Same.refl _))⟩
      unfold inW
      rw [decide_eq_false c1, Bool.false_and]
    ·rw [nL, by_place 0 (inW w) (fun n : Nat => V.int n)] at h9
     replace h9 : H9 D = some (.lst (natV (ls.filter (inW w)))) := h9
     have eh : ((w.2.1 : Nat) : Int) + 1 = ((w.1 + (w.2.1 + 1 - w.1) : Nat) : Int) := by omega
     refine ⟨_, rfl, _, rfl, _, _, rfl, rfl, _, _, rfl, fun pr hpr => ?_⟩
     refine ⟨pr, w.1, w.2.1 + 1 - w.1, rfl, (by rw [← eh]; exact upd_same), by omega, fun l hl => ?_⟩
     have s10 := (same_new hpr _).trans (same_new hl (.lst ((frmTo w.1 (w.2.1 + 1 - w.1)).map fun i : Nat => V.int i)))
     refine ⟨natL (ls.filter (inW w)), natL (frmTo w.1 (w.2.1 + 1 - w.1)), deep_natL (SqL.of (s10 _ _ h9)), deep_natL (SqL.of upd_same), (natL_lay _).1, (natL_lay _).1, (natL_lay _).2, _, rfl, ?_⟩
     rw [eqv_natL]
     have s8T := (s8.trans s9).trans s10
     by_cases c : liesM ls w = true
     ·refine iteD1 ((lies_iff srt).mpr c) ?_
      have okt : ∀ w ∈ ws.take m, WkOk w := fun w h => ok w (List.mem_of_mem_take h)
      have lt1 := wt_le (ws.take m) ls
      have lt2 : (ws.take m).length ≤ 64 := by rw [List.length_take]; omega
      have tT := Tst.same (K := K) (s9.trans s10)
      refine ⟨_, rfl, _, rfl, dv, xa, sumR (wtM (ws.take m) ls), w.2.2, 1 + (4 + 1) * (wtM (ws.take m) ls).length, 4, rfl, rd.mono tT, rx.mono (Tst.same s8T), sum_wfN (wt_wf okt), o.am.wf, by omega, fun u h5 => ?_⟩
      refine ⟨.ref u, _, _, _, rfl, s8T.trans (same_new h5 _), ?_⟩
      rw [wt_take hwd, if_pos c, sum_snoc]
      exact RV.of upd_same
     ·refine iteD0 (fun e => c ((lies_iff srt).mp e)) ?_
      refine ⟨dv, _, _, _, rfl, s8T, ?_⟩
      rw [wt_take hwd, if_neg c]
      exact rd.mono (Tst.same (s9.trans s10))
   ·rintro σ H8 ⟨dv, x7', x8', x9', rfl, s8, rd⟩
    rw [alW.len, List.take_length] at rd
    have wvH : ∀ {H' : Hp}, Same H6 H' -> WksV K H' (.ref pW) ws := fun s => ⟨pW, xW, rfl, Tst.same (K := K) s _ _ hSW, alW.mono fun _ _ q => q.mono (Tst.same s)⟩
    have hqH : ∀ {H' : Hp}, Same H6 H' -> SqT K H' q (natV ls) := fun s => Tst.same (K := K) s _ _ hq
    have nL : (natV ls).length = ls.length := List.length_map _
    have shA := sh_ahead ok (by omega) l24 lt
    refine ⟨_, rfl, _, rfl, zl2, fun pt hpt => ?_⟩
    have s9 := s8.trans (same_new hpt (.tup [.ref pW, .ref q]))
    have dt : Deep K _ (.ref pt) (.tuple [dWks ws, natD ls]) := .tup (SqT.of (upd_same (H := H8) (a := pt) (o := .tup [.ref pW, .ref q]))) (.cons (wvH s9).deep (.cons (deep_nat (hqH s9)) .nil))
    replace rd := rd.mono (Tst.same (same_new hpt (.tup [.ref pW, .ref q])))
    generalize upd H8 pt (.tup [.ref pW, .ref q]) = H9 at dt s9 rd ⊢
    refine ⟨.ref pt, _, rfl, dt, shA, ?_⟩
    refine ⟨_, rfl, _, rfl, _, rfl, .ref pW, q, ws, ls, rfl, wvH s9, w64, ok, hqH s9, fun v' HA sA rA => ?_⟩
    refine ⟨dv, v', dR (sumR (wtM ws ls)), rfl, (rd.mono (Tst.same sA)).deep, rA.deep, (by show max 0 (max 0 0) + 1 ≤ 1; decide), rfl, fun HB sB => ⟨_, rfl, iteF ?_⟩⟩
    have sAB := sA.trans sB
    have s9B := s9.trans sAB
    refine ⟨_, rfl, q, _, rfl, .inr (hqH s9B), _, _, rfl, rfl, _, rfl, ?_⟩
    by_cases c : 0 < ls.length
    ·refine iteD1 (by rw [nL]; omega) ?_
     refine ⟨_, rfl, _, rfl, q, _, rfl, .inr (hqH s9B), zl2, fun pm hpm => ?_⟩
     rw [nL]
     have s10 := same_new hpm (.tup [.int 1, .int (ls.length : Int)])
     have la := wt_le ws ls
     refine ⟨dv, .ref pm, sumR (wtM ws ls), (1, (ls.length : Int)), 1 + (4 + 1) * (wtM ws ls).length, 5, rfl, rd.mono (Tst.same (sAB.trans s10)), RV.of upd_same, sum_wfN (wt_wf ok), one_wf c l24, by omega, fun u h5 => ?_⟩
     have s11 := same_new h5 (.tup [.int (timesR (sumR (wtM ws ls)) (1, (ls.length : Int))).1, .int (timesR (sumR (wtM ws ls)) (1, (ls.length : Int))).2])
     have ru : RV K _ (.ref u) (timesR (sumR (wtM ws ls)) (1, (ls.length : Int))) := RV.of (upd_same (H := upd HB pm (.tup [.int 1, .int (ls.length : Int)])) (a := u) (o := .tup [.int (timesR (sumR (wtM ws ls)) (1, (ls.length : Int))).1, .int (timesR (sumR (wtM ws ls)) (1, (ls.length : Int))).2]))
     have sM := s9B.trans (s10.trans s11)
     refine ⟨_, rfl, _, rfl, _, rfl, .ref pW, q, ws, ls, rfl, wvH sM, w64, ok, hqH sM, c, l24, fun v2 HC sC rC => ?_⟩
     refine ⟨.ref u, v2, dR (timesR (sumR (wtM ws ls)) (1, (ls.length : Int))), rfl, (ru.mono (Tst.same sC)).deep, rC.deep, (by show max 0 (max 0 0) + 1 ≤ 1; decide), rfl, fun HD sD => ⟨_, rfl, iteF ?_⟩⟩
     have sMD := sM.trans (sC.trans sD)
     refine ⟨_, rfl, _, rfl, zl2, fun pu hpu => ?_⟩
     have sU := sMD.trans (same_new hpu (.tup [.ref pW, .ref q]))
     have du : Deep K _ (.ref pu) (.tuple [dWks ws, natD ls]) := .tup (SqT.of (upd_same (H := HD) (a := pu) (o := .tup [.ref pW, .ref q]))) (.cons (wvH sU).deep (.cons (deep_nat (hqH sU)) .nil))
     refine ⟨.ref pu, _, rfl, du, shA, _, rfl, rfl, _, rfl, iteNS rfl ?_⟩
     exact ⟨_, _, _, _, _, _, _, rfl, T6.same sU, wvH sU⟩
    ·refine iteD0 (by rw [nL]; omega) ?_
     refine ⟨_, rfl, _, rfl, zl2, fun pu hpu => ?_⟩
     have sU := s9B.trans (same_new hpu (.tup [.ref pW, .ref q]))
     have du : Deep K _ (.ref pu) (.tuple [dWks ws, natD ls]) := .tup (SqT.of (upd_same (H := HB) (a := pu) (o := .tup [.ref pW, .ref q]))) (.cons (wvH sU).deep (.cons (deep_nat (hqH sU)) .nil))
     refine ⟨.ref pu, _, rfl, du, shA, _, rfl, rfl, _, rfl, iteNS rfl ?_⟩
     exact ⟨_, _, _, _, _, _, _, rfl, T6.same sU, wvH sU⟩
  ·rintro σ H5 ⟨x4, x5, x6, x7, x8, x9, xA, rfl, T5, wv5⟩
   exact ⟨_, _, _, _, _, _, _, _, _, rfl, T5⟩
 ·rintro σ H2 ⟨x2, x3, x4, x5, x6, x7, x8, x9, xA, rfl, T2⟩
  exact k H2
end
set_option autoImplicit true in
set_option relaxedAutoImplicit true in
open PySem.W in
theorem all_mk {l : OpenLaw} {w : World} {K : Frag} {h : Heap} {mg : Str -> Option Value} {fa : Addr} (X : K.In h) (G : h.Ns mainGlobals mg) (hfa : mg "law" = some (.ref fa))
  (p_Q0 : nsIn K mainGlobals "greatest_divisor" = some (some (.ref f_Q0))) (l_Q0 : K.lookup f_Q0 = some ⟨oc_Q0, od_Q0, .func (fnOf "greatest_divisor" "greatest_divisor" (defArgs s_Q0) (defBody s_Q0) (defScope s_Q0) .none kV_Q0 dc_Q0 pm_Q0 an_Q0 cd_Q0 ct_Q0), sl_Q0⟩) (c_Q0 : codeIn K cd_Q0 "greatest_divisor" = true) (k_Q0 : keepIn K (.ref f_Q0) = true)
  (p_Q12 : nsIn K mainGlobals "ratio" = some (some (.ref f_Q12))) (l_Q12 : K.lookup f_Q12 = some ⟨oc_Q12, od_Q12, .func (fnOf "ratio" "ratio" (defArgs s_Q12) (defBody s_Q12) (defScope s_Q12) .none kV_Q12 dc_Q12 pm_Q12 an_Q12 cd_Q12 ct_Q12), sl_Q12⟩) (c_Q12 : codeIn K cd_Q12 "ratio" = true) (k_Q12 : keepIn K (.ref f_Q12) = true)
  (p_Q15 : nsIn K mainGlobals "plus" = some (some (.ref f_Q15))) (l_Q15 : K.lookup f_Q15 = some ⟨oc_Q15, od_Q15, .func (fnOf "plus" "plus" (defArgs s_Q15) (defBody s_Q15) (defScope s_Q15) .none kV_Q15 dc_Q15 pm_Q15 an_Q15 cd_Q15 ct_Q15), sl_Q15⟩) (c_Q15 : codeIn K cd_Q15 "plus" = true) (k_Q15 : keepIn K (.ref f_Q15) = true)
  (p_Q13 : nsIn K mainGlobals "times" = some (some (.ref f_Q13))) (l_Q13 : K.lookup f_Q13 = some ⟨oc_Q13, od_Q13, .func (fnOf "times" "times" (defArgs s_Q13) (defBody s_Q13) (defScope s_Q13) .none kV_Q13 dc_Q13 pm_Q13 an_Q13 cd_Q13 ct_Q13), sl_Q13⟩) (c_Q13 : codeIn K cd_Q13 "times" = true) (k_Q13 : keepIn K (.ref f_Q13) = true)
  (p_Q16 : nsIn K mainGlobals "over" = some (some (.ref f_Q16))) (l_Q16 : K.lookup f_Q16 = some ⟨oc_Q16, od_Q16, .func (fnOf "over" "over" (defArgs s_Q16) (defBody s_Q16) (defScope s_Q16) .none kV_Q16 dc_Q16 pm_Q16 an_Q16 cd_Q16 ct_Q16), sl_Q16⟩) (c_Q16 : codeIn K cd_Q16 "over" = true) (k_Q16 : keepIn K (.ref f_Q16) = true)
  (p_Q14 : nsIn K mainGlobals "total" = some (some (.ref f_Q14))) (l_Q14 : K.lookup f_Q14 = some ⟨oc_Q14, od_Q14, .func (fnOf "total" "total" (defArgs s_Q14) (defBody s_Q14) (defScope s_Q14) .none kV_Q14 dc_Q14 pm_Q14 an_Q14 cd_Q14 ct_Q14), sl_Q14⟩) (c_Q14 : codeIn K cd_Q14 "total" = true) (k_Q14 : keepIn K (.ref f_Q14) = true)
  (p_Q7 : nsIn K mainGlobals "lies_in" = some (some (.ref f_Q7))) (l_Q7 : K.lookup f_Q7 = some ⟨oc_Q7, od_Q7, .func (fnOf "lies_in" "lies_in" (defArgs s_Q7) (defBody s_Q7) (defScope s_Q7) .none kV_Q7 dc_Q7 pm_Q7 an_Q7 cd_Q7 ct_Q7), sl_Q7⟩) (c_Q7 : codeIn K cd_Q7 "lies_in" = true) (k_Q7 : keepIn K (.ref f_Q7) = true)
  (p_Q11 : nsIn K mainGlobals "weight" = some (some (.ref f_Q11))) (l_Q11 : K.lookup f_Q11 = some ⟨oc_Q11, od_Q11, .func (fnOf "weight" "weight" (defArgs s_Q11) (defBody s_Q11) (defScope s_Q11) .none kV_Q11 dc_Q11 pm_Q11 an_Q11 cd_Q11 ct_Q11), sl_Q11⟩) (c_Q11 : codeIn K cd_Q11 "weight" = true) (k_Q11 : keepIn K (.ref f_Q11) = true)
  (p_Q8 : nsIn K mainGlobals "density" = some (some (.ref f_Q8))) (l_Q8 : K.lookup f_Q8 = some ⟨oc_Q8, od_Q8, .func (fnOf "density" "density" (defArgs s_Q8) (defBody s_Q8) (defScope s_Q8) .none kV_Q8 dc_Q8 pm_Q8 an_Q8 cd_Q8 ct_Q8), sl_Q8⟩) (c_Q8 : codeIn K cd_Q8 "density" = true) (k_Q8 : keepIn K (.ref f_Q8) = true)
  (p_Q4 : nsIn K mainGlobals "_law_tape" = some (some (.ref f_Q4))) (l_Q4 : K.lookup f_Q4 = some ⟨oc_Q4, od_Q4, .func (fnOf "_law_tape" "_law_tape" (defArgs s_Q4) (defBody s_Q4) (defScope s_Q4) .none kV_Q4 dc_Q4 pm_Q4 an_Q4 cd_Q4 ct_Q4), sl_Q4⟩) (c_Q4 : codeIn K cd_Q4 "_law_tape" = true) (k_Q4 : keepIn K (.ref f_Q4) = true)
  (p_Q5 : nsIn K mainGlobals "_law_draw" = some (some (.ref f_Q5))) (l_Q5 : K.lookup f_Q5 = some ⟨oc_Q5, od_Q5, .func (fnOf "_law_draw" "_law_draw" (defArgs s_Q5) (defBody s_Q5) (defScope s_Q5) .none kV_Q5 dc_Q5 pm_Q5 an_Q5 cd_Q5 ct_Q5), sl_Q5⟩) (c_Q5 : codeIn K cd_Q5 "_law_draw" = true) (k_Q5 : keepIn K (.ref f_Q5) = true)
  (p_Q1 : nsIn K mainGlobals "_law_alike" = some (some (.ref f_Q1))) (l_Q1 : K.lookup f_Q1 = some ⟨oc_Q1, od_Q1, .func (fnOf "_law_alike" "_law_alike" (defArgs s_Q1) (defBody s_Q1) (defScope s_Q1) .none kV_Q1 dc_Q1 pm_Q1 an_Q1 cd_Q1 ct_Q1), sl_Q1⟩) (c_Q1 : codeIn K cd_Q1 "_law_alike" = true) (k_Q1 : keepIn K (.ref f_Q1) = true)
  (p_Q6 : nsIn K mainGlobals "_law_frac" = some (some (.ref f_Q6))) (l_Q6 : K.lookup f_Q6 = some ⟨oc_Q6, od_Q6, .func (fnOf "_law_frac" "_law_frac" (defArgs s_Q6) (defBody s_Q6) (defScope s_Q6) .none kV_Q6 dc_Q6 pm_Q6 an_Q6 cd_Q6 ct_Q6), sl_Q6⟩) (c_Q6 : codeIn K cd_Q6 "_law_frac" = true) (k_Q6 : keepIn K (.ref f_Q6) = true)
  (p_Q9 : nsIn K mainGlobals "_law_add" = some (some (.ref f_Q9))) (l_Q9 : K.lookup f_Q9 = some ⟨oc_Q9, od_Q9, .func (fnOf "_law_add" "_law_add" (defArgs s_Q9) (defBody s_Q9) (defScope s_Q9) .none kV_Q9 dc_Q9 pm_Q9 an_Q9 cd_Q9 ct_Q9), sl_Q9⟩) (c_Q9 : codeIn K cd_Q9 "_law_add" = true) (k_Q9 : keepIn K (.ref f_Q9) = true)
  (p_Q10 : nsIn K mainGlobals "_law_mul" = some (some (.ref f_Q10))) (l_Q10 : K.lookup f_Q10 = some ⟨oc_Q10, od_Q10, .func (fnOf "_law_mul" "_law_mul" (defArgs s_Q10) (defBody s_Q10) (defScope s_Q10) .none kV_Q10 dc_Q10 pm_Q10 an_Q10 cd_Q10 ct_Q10), sl_Q10⟩) (c_Q10 : codeIn K cd_Q10 "_law_mul" = true) (k_Q10 : keepIn K (.ref f_Q10) = true)
  (p_Q2 : nsIn K mainGlobals "_law_works" = some (some (.ref f_Q2))) (l_Q2 : K.lookup f_Q2 = some ⟨oc_Q2, od_Q2, .func (fnOf "_law_works" "_law_works" (defArgs s_Q2) (defBody s_Q2) (defScope s_Q2) .none kV_Q2 dc_Q2 pm_Q2 an_Q2 cd_Q2 ct_Q2), sl_Q2⟩) (c_Q2 : codeIn K cd_Q2 "_law_works" = true) (k_Q2 : keepIn K (.ref f_Q2) = true)
  (p_Q3 : nsIn K mainGlobals "_law_turns" = some (some (.ref f_Q3))) (l_Q3 : K.lookup f_Q3 = some ⟨oc_Q3, od_Q3, .func (fnOf "_law_turns" "_law_turns" (defArgs s_Q3) (defBody s_Q3) (defScope s_Q3) .none kV_Q3 dc_Q3 pm_Q3 an_Q3 cd_Q3 ct_Q3), sl_Q3⟩) (c_Q3 : codeIn K cd_Q3 "_law_turns" = true) (k_Q3 : keepIn K (.ref f_Q3) = true)
  {f_Q17 : Addr} {od_Q17 an_Q17 : Option Addr} {sl_Q17 : Array (Option Value)} {oc_Q17 kV_Q17 dc_Q17 pm_Q17 cd_Q17 ct_Q17 : Value}
  (p_Q17 : nsIn K mainGlobals "law" = some (some (.ref f_Q17))) (l_Q17 : K.lookup f_Q17 = some ⟨oc_Q17, od_Q17, .func (fnOf "law" "law" (defArgs s_Q17) (defBody s_Q17) (defScope s_Q17) .none kV_Q17 dc_Q17 pm_Q17 an_Q17 cd_Q17 ct_Q17), sl_Q17⟩) (c_Q17 : codeIn K cd_Q17 "law" = true) (k_Q17 : keepIn K (.ref f_Q17) = true)
  {f_NOUGHT : Addr} {od_NOUGHT : Option Addr} {sl_NOUGHT : Array (Option Value)} {tkNOUGHT0 tkNOUGHT1 : Tok} {n_NOUGHT : Nat} (p_NOUGHT : nsIn K mainGlobals "NOUGHT" = some (some (.ref f_NOUGHT))) (l_NOUGHT : K.lookup f_NOUGHT = some ⟨.type "tuple", od_NOUGHT, .seq #[.int (0) tkNOUGHT0, .int (1) tkNOUGHT1] n_NOUGHT, sl_NOUGHT⟩)
  (z_abs : nsIn K mainGlobals "abs" = some none)
  (z_all : nsIn K mainGlobals "all" = some none)
  (z_bool : nsIn K mainGlobals "bool" = some none)
  (z_int : nsIn K mainGlobals "int" = some none)
  (z_isinstance : nsIn K mainGlobals "isinstance" = some none)
  (z_len : nsIn K mainGlobals "len" = some none)
  (z_list : nsIn K mainGlobals "list" = some none)
  (z_range : nsIn K mainGlobals "range" = some none)
  (z_repr : nsIn K mainGlobals "repr" = some none)
  (z_set : nsIn K mainGlobals "set" = some none)
  (z_sorted : nsIn K mainGlobals "sorted" = some none)
  (z_str : nsIn K mainGlobals "str" = some none)
  (z_tuple : nsIn K mainGlobals "tuple" = some none)
  : ∃ fd : FuncData, (∀ (s : Shared) (v : Value), BindsTo s fd ⟨[v], []⟩ [("_law_script", v)]) /\ ∀ base : Heap, K.In base -> base.Ns mainGlobals mg -> FnOk l.prog w K mg base CX0 6 fa fd ["_law_script"] (sp_law K) := by
 have e := hfa.symm.trans (mg_of X G p_Q17)
 cases e
 obtain ⟨d_Q0, F_Q0⟩ : ∃ d, Fun K "greatest_divisor" "greatest_divisor" s_Q0 f_Q0 d := ⟨_, fun_mk l_Q0 c_Q0 k_Q0⟩
 obtain ⟨d_Q12, F_Q12⟩ : ∃ d, Fun K "ratio" "ratio" s_Q12 f_Q12 d := ⟨_, fun_mk l_Q12 c_Q12 k_Q12⟩
 obtain ⟨d_Q15, F_Q15⟩ : ∃ d, Fun K "plus" "plus" s_Q15 f_Q15 d := ⟨_, fun_mk l_Q15 c_Q15 k_Q15⟩
 obtain ⟨d_Q13, F_Q13⟩ : ∃ d, Fun K "times" "times" s_Q13 f_Q13 d := ⟨_, fun_mk l_Q13 c_Q13 k_Q13⟩
 obtain ⟨d_Q16, F_Q16⟩ : ∃ d, Fun K "over" "over" s_Q16 f_Q16 d := ⟨_, fun_mk l_Q16 c_Q16 k_Q16⟩
 obtain ⟨d_Q14, F_Q14⟩ : ∃ d, Fun K "total" "total" s_Q14 f_Q14 d := ⟨_, fun_mk l_Q14 c_Q14 k_Q14⟩
 obtain ⟨d_Q7, F_Q7⟩ : ∃ d, Fun K "lies_in" "lies_in" s_Q7 f_Q7 d := ⟨_, fun_mk l_Q7 c_Q7 k_Q7⟩
 obtain ⟨d_Q11, F_Q11⟩ : ∃ d, Fun K "weight" "weight" s_Q11 f_Q11 d := ⟨_, fun_mk l_Q11 c_Q11 k_Q11⟩
 obtain ⟨d_Q8, F_Q8⟩ : ∃ d, Fun K "density" "density" s_Q8 f_Q8 d := ⟨_, fun_mk l_Q8 c_Q8 k_Q8⟩
 obtain ⟨d_Q4, F_Q4⟩ : ∃ d, Fun K "_law_tape" "_law_tape" s_Q4 f_Q4 d := ⟨_, fun_mk l_Q4 c_Q4 k_Q4⟩
 obtain ⟨d_Q5, F_Q5⟩ : ∃ d, Fun K "_law_draw" "_law_draw" s_Q5 f_Q5 d := ⟨_, fun_mk l_Q5 c_Q5 k_Q5⟩
 obtain ⟨d_Q1, F_Q1⟩ : ∃ d, Fun K "_law_alike" "_law_alike" s_Q1 f_Q1 d := ⟨_, fun_mk l_Q1 c_Q1 k_Q1⟩
 obtain ⟨d_Q6, F_Q6⟩ : ∃ d, Fun K "_law_frac" "_law_frac" s_Q6 f_Q6 d := ⟨_, fun_mk l_Q6 c_Q6 k_Q6⟩
 obtain ⟨d_Q9, F_Q9⟩ : ∃ d, Fun K "_law_add" "_law_add" s_Q9 f_Q9 d := ⟨_, fun_mk l_Q9 c_Q9 k_Q9⟩
 obtain ⟨d_Q10, F_Q10⟩ : ∃ d, Fun K "_law_mul" "_law_mul" s_Q10 f_Q10 d := ⟨_, fun_mk l_Q10 c_Q10 k_Q10⟩
 obtain ⟨d_Q2, F_Q2⟩ : ∃ d, Fun K "_law_works" "_law_works" s_Q2 f_Q2 d := ⟨_, fun_mk l_Q2 c_Q2 k_Q2⟩
 obtain ⟨d_Q3, F_Q3⟩ : ∃ d, Fun K "_law_turns" "_law_turns" s_Q3 f_Q3 d := ⟨_, fun_mk l_Q3 c_Q3 k_Q3⟩
 have F_Q17 := fun_mk (st := s_Q17) l_Q17 c_Q17 k_Q17
 have T : Txt K mg ⟨f_Q0, d_Q0, f_Q12, d_Q12, f_Q15, d_Q15, f_Q13, d_Q13, f_Q16, d_Q16, f_Q14, d_Q14, f_Q7, d_Q7, f_Q11, d_Q11, f_Q8, d_Q8, f_Q4, d_Q4, f_Q5, d_Q5, f_Q1, d_Q1, f_Q6, d_Q6, f_Q9, d_Q9, f_Q10, d_Q10, f_Q2, d_Q2, f_Q3, d_Q3, fa, fnOf "law" "law" (defArgs s_Q17) (defBody s_Q17) (defScope s_Q17) .none kV_Q17 dc_Q17 pm_Q17 an_Q17 cd_Q17 ct_Q17, f_NOUGHT⟩ := {
  F_Q0 := F_Q0, b_Q0 := bdA F_Q0, m_Q0 := mg_of X G p_Q0,
  F_Q12 := F_Q12, b_Q12 := bdA F_Q12, m_Q12 := mg_of X G p_Q12,
  F_Q15 := F_Q15, b_Q15 := bdA F_Q15, m_Q15 := mg_of X G p_Q15,
  F_Q13 := F_Q13, b_Q13 := bdA F_Q13, m_Q13 := mg_of X G p_Q13,
  F_Q16 := F_Q16, b_Q16 := bdA F_Q16, m_Q16 := mg_of X G p_Q16,
  F_Q14 := F_Q14, b_Q14 := bdA F_Q14, m_Q14 := mg_of X G p_Q14,
  F_Q7 := F_Q7, b_Q7 := bdA F_Q7, m_Q7 := mg_of X G p_Q7,
  F_Q11 := F_Q11, b_Q11 := bdA F_Q11, m_Q11 := mg_of X G p_Q11,
  F_Q8 := F_Q8, b_Q8 := bdA F_Q8, m_Q8 := mg_of X G p_Q8,
  F_Q4 := F_Q4, b_Q4 := bdA F_Q4, m_Q4 := mg_of X G p_Q4,
  F_Q5 := F_Q5, b_Q5 := bdA F_Q5, m_Q5 := mg_of X G p_Q5,
  F_Q1 := F_Q1, b_Q1 := bdA F_Q1, m_Q1 := mg_of X G p_Q1,
  F_Q6 := F_Q6, b_Q6 := bdA F_Q6, m_Q6 := mg_of X G p_Q6,
  F_Q9 := F_Q9, b_Q9 := bdA F_Q9, m_Q9 := mg_of X G p_Q9,
  F_Q10 := F_Q10, b_Q10 := bdA F_Q10, m_Q10 := mg_of X G p_Q10,
  F_Q2 := F_Q2, b_Q2 := bdA F_Q2, m_Q2 := mg_of X G p_Q2,
  F_Q3 := F_Q3, b_Q3 := bdA F_Q3, m_Q3 := mg_of X G p_Q3,
  F_Q17 := F_Q17, b_Q17 := bdA F_Q17, m_Q17 := mg_of X G p_Q17,
  m_NOUGHT := mg_of X G p_NOUGHT, q_NOUGHT := fun H => .inr ⟨_, _, _, l_NOUGHT, rfl, rfl, zl2, (.cons ⟨_, rfl⟩ (.cons ⟨_, rfl⟩ .nil))⟩,
  z_abs := mg_none_of X G z_abs, z_all := mg_none_of X G z_all, z_bool := mg_none_of X G z_bool, z_int := mg_none_of X G z_int, z_isinstance := mg_none_of X G z_isinstance, z_len := mg_none_of X G z_len, z_list := mg_none_of X G z_list, z_range := mg_none_of X G z_range, z_repr := mg_none_of X G z_repr, z_set := mg_none_of X G z_set, z_sorted := mg_none_of X G z_sorted, z_str := mg_none_of X G z_str, z_tuple := mg_none_of X G z_tuple }
 exact ⟨_, fun s v => .of_eq rfl, fun base _ _ => ok_Q17 T⟩
theorem walk {l : PySem.W.OpenLaw} {q : Program} {loose : List Str} {XP : (Str -> Option Value) -> Heap -> Prop} {YP : World -> Heap -> Prop} {d : DefRec} {K : Params -> PySem.W.Frag} (hn : l.most = some 63) (hdf : d.params.defaults = [])
  (hY : ∀ (w : World) (h : Heap), YP w h -> (K w.params).In h)
  (F : ∀ (w : World) (mg : Str -> Option Value) (fa : Addr) (h : Heap), (K w.params).In h -> h.Ns mainGlobals mg -> mg d.name = some (.ref fa) →
   ∃ fd : FuncData, (∀ (s : Shared) (u : Value), BindsTo s fd ⟨[u], []⟩ [("_law_script", u)]) /\ ∀ base : Heap, (K w.params).In base -> base.Ns mainGlobals mg -> FnOk l.prog w (K w.params) mg base CX0 6 fa fd ["_law_script"] (sp_law (K w.params))) :
  PySem.W.WalkO q loose XP YP l.row.toRowW d [] (fun f vs => PySem.call f vs) :=
 L2.walk_of (n := 63) (k := 6) (x := "_law_script") (CX := fun _ => CX0) (sp := fun w => sp_law (K w.params)) hn (by decide) hdf ⟨rfl, by decide, by decide, rfl⟩ hY F (fun _ _ a ns hl _ hS => ⟨a, ns, rfl, hS, hl, fun _ => rfl⟩) fun _ _ _ _ _ z => z
end My
open PySem PySem.W PyProof.Rows
set_option maxRecDepth 100000 in
set_option maxHeartbeats 0 in
theorem PySem.Challenge.cw_paceplan_k30_weights_and_densities_holds : PySem.Challenge.rw_paceplan_k30_weights_and_densities.Holds := by
 w_on; refine HWtop ?_
 k_fill
 refine My.walk (l := PySem.Challenge.rw_paceplan_k30_weights_and_densities) rfl rfl (fun w h Y => PySem.W.kIn_of Y) ?F
 case F =>
  intro w mg fa h KX G hmg
  refine' My.all_mk KX G hmg ?p_Q0 ?l_Q0 ?c_Q0 ?k_Q0 ?p_Q12 ?l_Q12 ?c_Q12 ?k_Q12 ?p_Q15 ?l_Q15 ?c_Q15 ?k_Q15 ?p_Q13 ?l_Q13 ?c_Q13 ?k_Q13 ?p_Q16 ?l_Q16 ?c_Q16 ?k_Q16 ?p_Q14 ?l_Q14 ?c_Q14 ?k_Q14 ?p_Q7 ?l_Q7 ?c_Q7 ?k_Q7 ?p_Q11 ?l_Q11 ?c_Q11 ?k_Q11 ?p_Q8 ?l_Q8 ?c_Q8 ?k_Q8 ?p_Q4 ?l_Q4 ?c_Q4 ?k_Q4 ?p_Q5 ?l_Q5 ?c_Q5 ?k_Q5 ?p_Q1 ?l_Q1 ?c_Q1 ?k_Q1 ?p_Q6 ?l_Q6 ?c_Q6 ?k_Q6 ?p_Q9 ?l_Q9 ?c_Q9 ?k_Q9 ?p_Q10 ?l_Q10 ?c_Q10 ?k_Q10 ?p_Q2 ?l_Q2 ?c_Q2 ?k_Q2 ?p_Q3 ?l_Q3 ?c_Q3 ?k_Q3 ?p_Q17 ?l_Q17 ?c_Q17 ?k_Q17 ?p_NOUGHT ?l_NOUGHT ?z_abs ?z_all ?z_bool ?z_int ?z_isinstance ?z_len ?z_list ?z_range ?z_repr ?z_set ?z_sorted ?z_str ?z_tuple
  (case p_Q0 => k_is)
  (case l_Q0 => k_is)
  (case c_Q0 => k_is)
  (case k_Q0 => k_is)
  (case p_Q12 => k_is)
  (case l_Q12 => k_is)
  (case c_Q12 => k_is)
  (case k_Q12 => k_is)
  (case p_Q15 => k_is)
  (case l_Q15 => k_is)
  (case c_Q15 => k_is)
  (case k_Q15 => k_is)
  (case p_Q13 => k_is)
  (case l_Q13 => k_is)
  (case c_Q13 => k_is)
  (case k_Q13 => k_is)
  (case p_Q16 => k_is)
  (case l_Q16 => k_is)
  (case c_Q16 => k_is)
  (case k_Q16 => k_is)
  (case p_Q14 => k_is)
  (case l_Q14 => k_is)
  (case c_Q14 => k_is)
  (case k_Q14 => k_is)
  (case p_Q7 => k_is)
  (case l_Q7 => k_is)
  (case c_Q7 => k_is)
  (case k_Q7 => k_is)
  (case p_Q11 => k_is)
  (case l_Q11 => k_is)
  (case c_Q11 => k_is)
  (case k_Q11 => k_is)
  (case p_Q8 => k_is)
  (case l_Q8 => k_is)
  (case c_Q8 => k_is)
  (case k_Q8 => k_is)
  (case p_Q4 => k_is)
  (case l_Q4 => k_is)
  (case c_Q4 => k_is)
  (case k_Q4 => k_is)
  (case p_Q5 => k_is)
  (case l_Q5 => k_is)
  (case c_Q5 => k_is)
  (case k_Q5 => k_is)
  (case p_Q1 => k_is)
  (case l_Q1 => k_is)
  (case c_Q1 => k_is)
  (case k_Q1 => k_is)
  (case p_Q6 => k_is)
  (case l_Q6 => k_is)
  (case c_Q6 => k_is)
  (case k_Q6 => k_is)
  (case p_Q9 => k_is)
  (case l_Q9 => k_is)
  (case c_Q9 => k_is)
  (case k_Q9 => k_is)
  (case p_Q10 => k_is)
  (case l_Q10 => k_is)
  (case c_Q10 => k_is)
  (case k_Q10 => k_is)
  (case p_Q2 => k_is)
  (case l_Q2 => k_is)
  (case c_Q2 => k_is)
  (case k_Q2 => k_is)
  (case p_Q3 => k_is)
  (case l_Q3 => k_is)
  (case c_Q3 => k_is)
  (case k_Q3 => k_is)
  (case p_Q17 => k_is)
  (case l_Q17 => k_is)
  (case c_Q17 => k_is)
  (case k_Q17 => k_is)
  (case p_NOUGHT => k_is)
  (case l_NOUGHT => k_is)
  (case z_abs => k_is)
  (case z_all => k_is)
  (case z_bool => k_is)
  (case z_int => k_is)
  (case z_isinstance => k_is)
  (case z_len => k_is)
  (case z_list => k_is)
  (case z_range => k_is)
  (case z_repr => k_is)
  (case z_set => k_is)
  (case z_sorted => k_is)
  (case z_str => k_is)
  (case z_tuple => k_is)
