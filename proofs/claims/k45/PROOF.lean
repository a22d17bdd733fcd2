import PyProof.Rows.All
import KE.RegKIsAll
import KE.RegKTryMore
import KE.KItem
import PySem.Challenge.RW_paceplan_k45_too_much_asked
set_option Elab.async false
set_option linter.all false
set_option maxRecDepth 100000
theorem opt_two {α β γ : Type} {o : Option α} {f : α -> β} {g : α -> γ} {a : β} {b : γ} (h1 : o.map f = some a) (h2 : o.map g = some b) : o.map (fun s => (f s, g s)) = some (a, b) := by
 cases o with
 | none => cases h1
 | some x => cases h1; cases h2; rfl
namespace HW
open PySem
def keep : List Nat := [1, 2, 3, 4, 6, 7, 8, 9, 10, 11, 12, 13, 14, 15, 17, 18, 19, 20, 21, 22, 23, 24, 25, 27, 28, 30, 31, 32, 33, 34, 35, 36, 37, 38, 39, 40, 41, 42, 43, 44, 45, 46, 47]
def V : Program := PySem.W.view PySem.Challenge.pw_paceplan_k45_too_much_asked keep
end HW
section HWs
open PySem PySem.W PyProof.Rows
set_option maxHeartbeats 0 in
theorem HWa : ∀ w : World, (openEnds treeTable PySem.Challenge.rw_paceplan_k45_too_much_asked.row.prog w 6892).map (fun s => openSeen HW.V [] (importedModules PySem.Challenge.rw_paceplan_k45_too_much_asked.row.prog.main.body) (fun s => xlAt HW.V [] s && recOk PySem.Challenge.rw_paceplan_k45_too_much_asked.row.records s) true s) = some (openGood HW.V []) := by
 intro w
 delta openEnds fencedOpening topFrom
 rw [PySem.W.Fast.te14364793385576792824, PySem.W.Fast.te14082659384304107361, PySem.W.Fast.te10274390034422433532, PySem.W.Fast.te1435165496053646825, PySem.W.Fast.te14289696077712309145, PySem.W.Fast.te4187177175401517315]
 kernel_rfl
local macro_rules
 | `(tactic| o_head $H:term) => `(tactic| (
   refine holds_open (q := HW.V) (loose := []) (N := 6892)
    (Xt := fun s => xlAt HW.V [] s && recOk (RowW.records (OpenRow.toRowW (OpenLaw.row PySem.Challenge.rw_paceplan_k45_too_much_asked))) s)
    (XP := XL HW.V []) (Yf := Hook.obs $H) (Ya := Hook.val $H) (YP := Hook.says $H)
    ?hl (Hook.of $H) (Hook.keeps $H)
    (fun s e => xl_of s (Bool.and_eq_true_iff.mp e).1) XL.keeps
    (by rfl) (by rfl) (by rfl)
    (fun s e => recFacts_of (Bool.and_eq_true_iff.mp e).2) (by rfl) (by assumption) (by decide +kernel)
    ⟨rfl, rfl, rfl, rfl, rfl, by decide +kernel⟩ ?hw ?hc
   (case hl =>
    intro w
    refine opt_two (HWa w) ?_
    delta openEnds fencedOpening topFrom
    rw [PySem.W.Fast.te14364793385576792824, PySem.W.Fast.te14082659384304107361, PySem.W.Fast.te10274390034422433532, PySem.W.Fast.te1435165496053646825, PySem.W.Fast.te14289696077712309145]
    kernel_rfl)))
set_option maxHeartbeats 0 in
open_top HWtop for PySem.Challenge.rw_paceplan_k45_too_much_asked
end HWs
abbrev Fg := PySem.W.Frag
abbrev PLs := List (PySem.Addr × PySem.Obj)
abbrev VSP := PySem.Value -> PySem.Shared -> Prop
theorem zl0 : 0 ≤ PySem.sizeLine := by decide
theorem zl1 : 1 ≤ PySem.sizeLine := by decide
theorem zl2 : 2 ≤ PySem.sizeLine := by decide
theorem zl3 : 3 ≤ PySem.sizeLine := by decide
theorem zl4 : 4 ≤ PySem.sizeLine := by decide
theorem zl6 : 6 ≤ PySem.sizeLine := by decide
theorem zl7 : 7 ≤ PySem.sizeLine := by decide
theorem zl11 : 11 ≤ PySem.sizeLine := by decide
theorem zl1000 : 1000 ≤ PySem.sizeLine := by decide
namespace L2
open PySem PySem.Spec PyProof.Rows
abbrev Key := Sum Int Str
def keyIs : Key -> Value -> Bool
 | .inl k, v => Value.isInt k v
 | .inr x, v => Value.isStrOf x v
def keyH (w : World) : Key -> Int
 | .inl k => hashInt k
 | .inr x => hashStr w x
theorem keyIs_shape : ∀ {k : Key} {v : Value}, keyIs k v = true -> (∃ i t, k = Sum.inl i /\ v = Value.int i t) ∨ (∃ x t, k = Sum.inr x /\ v = Value.str x t)
 | .inl i, v, h => by
  obtain ⟨t, e⟩ := Value.isInt_shape (k := i) (v := v) h
  exact .inl ⟨i, t, rfl, e⟩
 | .inr x, v, h => by
  obtain ⟨t, e⟩ := Value.isStrOf_shape (x := x) (v := v) h
  exact .inr ⟨x, t, rfl, e⟩
theorem keyIs_int (i : Int) (t : Tok) : keyIs (.inl i) (.int i t) = true := by simp [keyIs, Value.isInt]
theorem keyIs_str (x : Str) (t : Tok) : keyIs (.inr x) (.str x t) = true := by simp [keyIs, Value.isStrOf]
theorem key_ll (a b : Int) : decide ((Sum.inl a : Key) = Sum.inl b) = (a == b) := by
 by_cases e : a = b
 ·subst e; simp
 ·have h : ¬ (Sum.inl a : Key) = Sum.inl b := fun q => e (Sum.inl.inj q)
  rw [decide_eq_false h]
  exact (beq_eq_false_iff_ne.mpr e).symm
theorem key_rr (a b : Str) : decide ((Sum.inr a : Key) = Sum.inr b) = decide (a = b) := by
 by_cases e : a = b
 ·subst e; simp
 ·have h : ¬ (Sum.inr a : Key) = Sum.inr b := fun q => e (Sum.inr.inj q)
  rw [decide_eq_false h, decide_eq_false e]
theorem key_lr (a : Int) (b : Str) : decide ((Sum.inl a : Key) = Sum.inr b) = false := decide_eq_false (fun q => nomatch q)
theorem key_rl (a : Str) (b : Int) : decide ((Sum.inr a : Key) = Sum.inl b) = false := decide_eq_false (fun q => nomatch q)
def mixKind (prog : Program) (w : World) : PySem.KeyKind prog w Key where
 is := keyIs
 hash := keyH w
 inj := fun v a b ha hb => by
  rcases keyIs_shape ha with ⟨i, t, rfl, rfl⟩ | ⟨x, t, rfl, rfl⟩
  ·rcases keyIs_shape hb with ⟨j, u, rfl, e⟩ | ⟨y, u, rfl, e⟩
   ·injection e with e1 _; rw [e1]
   ·exact nomatch e
  ·rcases keyIs_shape hb with ⟨j, u, rfl, e⟩ | ⟨y, u, rfl, e⟩
   ·exact nomatch e
   ·injection e with e1 _; rw [e1]
 byValue := fun k v h => by
  rcases keyIs_shape h with ⟨i, t, rfl, rfl⟩ | ⟨x, t, rfl, rfl⟩ <;> rfl
 pyHash := fun hv h => by
  rcases keyIs_shape hv with ⟨i, t, rfl, rfl⟩ | ⟨x, t, rfl, rfl⟩
  ·exact wpAny_pyHash_int h
  ·exact wpAny_pyHash_str h
 eqBool := fun hu hv h => by
  rcases keyIs_shape hu with ⟨i, t, rfl, rfl⟩ | ⟨x, t, rfl, rfl⟩
  ·rcases keyIs_shape hv with ⟨j, u, rfl, rfl⟩ | ⟨y, u, rfl, rfl⟩
   ·rw [key_ll] at h; exact wpAny_eqBool_int h
   ·rw [key_lr] at h; exact SeqAt.EqAt.int_str i t y u _ _ _ _ h
  ·rcases keyIs_shape hv with ⟨j, u, rfl, rfl⟩ | ⟨y, u, rfl, rfl⟩
   ·rw [key_rl] at h; exact SeqAt.EqAt.str_int x t j u _ _ _ _ h
   ·rw [key_rr] at h; exact wpAny_eqBool_str h
 «strs» := fun k x t v h => by
  rcases keyIs_shape h with ⟨i, u, rfl, e⟩ | ⟨y, u, rfl, e⟩
  ·exact nomatch e
  ·injection e with e1 _
   subst e1
   cases v <;> rfl
theorem mixKind_int (prog : Program) (w : World) (i : Int) (t : Tok) : (mixKind prog w).is (.inl i) (.int i t) = true := keyIs_int i t
theorem mixKind_str (prog : Program) (w : World) (x : Str) (t : Tok) : (mixKind prog w).is (.inr x) (.str x t) = true := keyIs_str x t
end L2
namespace L2
open PySem PySem.Spec PyProof.Rows
inductive V where
 | non | bl (b : Bool) | int (i : Int) | str (x : Str) | byt (b : Array UInt8) | flt (b : UInt64) | ref (a : Addr) | ty (n : String)
 deriving DecidableEq
def RelV : V -> Value -> Prop
 | .non, u => u = Value.none
 | .bl b, u => u = Value.bool b
 | .int i, u => ∃ t, u = Value.int i t
 | .str x, u => ∃ t, u = Value.str x t
 | .byt b, u => ∃ t, u = Value.bytes b t
 | .flt b, u => ∃ t, u = Value.float b t
 | .ref a, u => u = Value.ref a
 | .ty n, u => u = Value.type n
abbrev Vals : List V -> List Value -> Prop := Paired RelV
theorem Vals.length {xs : List V} {us : List Value} (r : Vals xs us) : xs.length = us.length := Paired.length r
theorem Vals.get : ∀ {xs : List V} {us : List Value} {i : Nat} {x : V}, Vals xs us -> xs[i]? = some x -> ∃ u, us[i]? = some u /\ RelV x u
 | _, _, _, _, .nil, e => by simp at e
 | _, _, 0, _, .cons r _, e => by simp at e; subst e; exact ⟨_, rfl, r⟩
 | _, _, i + 1, x, .cons _ t, e => by
  obtain ⟨u, h1, h2⟩ := Vals.get (i := i) (x := x) t (by simpa using e)
  exact ⟨u, by simpa using h1, h2⟩
theorem Vals.set {x : V} {u : Value} (r : RelV x u) : ∀ {xs : List V} {us : List Value} (i : Nat), Vals xs us -> Vals (xs.set i x) (us.set i u)
 | _, _, _, .nil => .nil
 | _, _, 0, .cons _ t => .cons r t
 | _, _, i + 1, .cons q t => .cons q (Vals.set r i t)
theorem Vals.append : ∀ {xs ys : List V} {us ws : List Value}, Vals xs us -> Vals ys ws -> Vals (xs ++ ys) (us ++ ws)
 | _, _, _, _, .nil, s => s
 | _, _, _, _, .cons r t, s => .cons r (Vals.append t s)
theorem Vals.take : ∀ {xs : List V} {us : List Value} (n : Nat), Vals xs us -> Vals (xs.take n) (us.take n)
 | _, _, 0, _ => .nil
 | _, _, _ + 1, .nil => .nil
 | _, _, n + 1, .cons r t => .cons r (Vals.take n t)
theorem Vals.drop : ∀ {xs : List V} {us : List Value} (n : Nat), Vals xs us -> Vals (xs.drop n) (us.drop n)
 | _, _, 0, r => r
 | _, _, _ + 1, .nil => .nil
 | _, _, n + 1, .cons _ t => Vals.drop n t
def RelO : Option V -> Option Value -> Prop
 | some v, some u => RelV v u
 | none, none => True
 | _, _ => False
def KV {κ : Type} : List (κ × V) -> List (κ × Value) -> Prop := Paired fun (p : κ × V) (q : κ × Value) => p.1 = q.1 /\ RelV p.2 q.2
def kV : Key -> V
 | .inl i => .int i
 | .inr x => .str x
inductive HO where
 | lst (xs : List V)
 | tup (xs : List V)
 | dK (kvs : List (Key × V)) | dT (kvs : List (List Key × V))
 | set (S : Int -> Bool) (n : Nat)
 | ins (C dx : Addr) (fs : List (Str × V))
 | own (x : Addr)
 | xd (fs : List (Str × V))
 | met (f x : Addr)
 | rng (lo hi : Int)
 | frz (o : Obj) (u : HO)
 | tbl (ps : Array Value)
 | ext (φ : Heap -> Prop)
abbrev Hp := Addr -> Option HO
def upd (H : Hp) (a : Addr) (o : HO) : Hp := fun b => if b = a then some o else H b
theorem upd_same {H : Hp} {a : Addr} {o : HO} : upd H a o a = some o := by unfold upd; rw [if_pos rfl]
theorem upd_ne {H : Hp} {a b : Addr} {o : HO} (h : b ≠ a) : upd H a o b = H b := by unfold upd; rw [if_neg h]
theorem upd_upd {H : Hp} {a : Addr} {o u : HO} : upd (upd H a o) a u = upd H a u := by
 funext b; unfold upd; split <;> rfl
theorem ne_of {H : Hp} {a b : Addr} {o u : HO} (h : H a = some o) (h' : H b = some u) (d : o ≠ u) : a ≠ b := by
 intro e; subst e; rw [h] at h'; exact d (Option.some.inj h')
theorem ne_of_none {H : Hp} {a b : Addr} {o : HO} (h : H a = some o) (h' : H b = none) : a ≠ b := by
 intro e; subst e; rw [h] at h'; cases h'
section
variable (P : Program) (w : World)
def ObjOk (H : Hp) (h : Heap) (a : Addr) : HO -> Prop
 | .lst xs => xs.length ≤ sizeLine /\ ∃ (its : List Value) (n : Nat), Vals xs its /\ h.get? a = some { cls := .type "list", data := .seq its.toArray n }
 | .tup xs => xs.length ≤ sizeLine /\ ∃ its : List Value, Vals xs its /\ IsTup h a its.toArray
 | .dK kvs => kvs.length ≤ sizeLine /\ (a == sysModules) = false /\ ∃ vs, KV kvs vs /\ h.DictOf (mixKind P w) a vs
 | .dT kvs => kvs.length ≤ sizeLine /\ (a == sysModules) = false /\ ∃ xs : List (List Key × Addr × Value),
   Paired (fun (p : List Key × V) (q : List Key × Addr × Value) => p.1 = q.1 /\ H q.2.1 = some (.tup (p.1.map kV)) /\ RelV p.2 q.2.2) kvs xs ∧
   ∃ o es ep, h.get? a = some o /\ o.ExactDict /\ o.data = .dict es ep /\ es.toList = xs.map (entryOfKey (tupleKind (mixKind P w))) /\ (xs.map (·.1)).Nodup
 | .set S n => h.SetOf (intKind P w) a S n
 | .ins C dx fs => H dx = some (.own a) /\ fs.length ≤ 1000 /\ dx ≠ a /\ h.get? a = some (PySem.W.instObj C dx) ∧
   ∃ mA, h.Ns1 dx mA /\ (∀ f, RelO (fs.lookup f) (mA f)) /\ PySem.Within mA (fs.map (·.1))
 | .own _ => ∃ o, h.get? a = some o
 | .xd fs => ∃ mA, h.Ns1 a mA /\ ∀ f, RelO (fs.lookup f) (mA f)
 | .rng lo hi => ∃ t u v, h.get? a = some { cls := .type "range", data := .fields #[.int lo t, .int hi u, .int 1 v] }
 | .frz o u => h.get? a = some o /\ ObjOk H h a u
 | .tbl ps => h.get? a = some { cls := .none, data := .fields ps }
 | .met f x => h.get? a = some (PySem.W.methodObj (.ref f) (.ref x))
 | .ext φ => φ h /\ (∃ o, h.get? a = some o) /\ ∀ h1 h2 : Heap, φ h1 -> (∀ o, h1.get? a = some o -> h2.get? a = some o) -> φ h2
def HOk (H : Hp) (h : Heap) : Prop := ∀ a o, H a = some o -> ObjOk P w H h a o
end
section
variable {P : Program} {w : World} {H H' : Hp} {h h' : Heap} {a : Addr} {o : HO}
theorem ObjOk.lt (x : ObjOk P w H h a o) : a < h.objs.size := by
 cases o with
 | lst xs => obtain ⟨_, _, _, _, e⟩ := x; exact Heap.lt_size e
 | tup xs => obtain ⟨_, _, _, p⟩ := x; exact p.lt
 | dK kvs => obtain ⟨_, _, _, _, o, _, _, e, _⟩ := x; exact Heap.lt_size e
 | dT kvs => obtain ⟨_, _, _, _, o, _, _, e, _⟩ := x; exact Heap.lt_size e
 | set S n => obtain ⟨o, _, _, _, e, _⟩ := x; exact Heap.lt_size e
 | ins C dx fs => obtain ⟨_, _, _, e, _⟩ := x; exact Heap.lt_size e
 | own y => obtain ⟨_, e⟩ := x; exact Heap.lt_size e
 | xd fs => obtain ⟨_, ⟨_, _, _, e, _⟩, _⟩ := x; exact Heap.lt_size e
 | rng lo hi => obtain ⟨_, _, _, e⟩ := x; exact Heap.lt_size e
 | frz ob u => obtain ⟨e, _⟩ := x; exact Heap.lt_size e
 | tbl ps => exact Heap.lt_size (show h.get? a = some _ from x)
 | met f y => exact Heap.lt_size (show h.get? a = some _ from x)
 | ext φ => obtain ⟨_, ⟨_, e⟩, _⟩ := x; exact Heap.lt_size e
theorem Paired.mapP {α β : Type} {F G : α -> β -> Prop} : ∀ {l₁ : List α} {l₂ : List β}, Paired F l₁ l₂ -> (∀ a b, F a b -> G a b) -> Paired G l₁ l₂
 | _, _, .nil, _ => .nil
 | _, _, .cons r t, f => .cons (f _ _ r) (Paired.mapP t f)
theorem ObjOk.stay (x : ObjOk P w H h a o) (k : ∀ b u, (b = a ∨ H b = some (.own a)) -> h.get? b = some u -> h'.get? b = some u)
  (ho : ∀ b, H b = some (.own a) -> H' b = some (.own a)) (ht : ∀ b xs, H b = some (.tup xs) -> H' b = some (.tup xs)) : ObjOk P w H' h' a o := by
 induction o with
 | lst xs => obtain ⟨z, its, n, r, e⟩ := x; exact ⟨z, its, n, r, k _ _ (.inl rfl) e⟩
 | tup xs => obtain ⟨z, its, r, ob, e, c⟩ := x; exact ⟨z, its, r, ob, k _ _ (.inl rfl) e, c⟩
 | dK kvs => obtain ⟨z, y, vs, r, ob, es, ep, e, c⟩ := x; exact ⟨z, y, vs, r, ob, es, ep, k _ _ (.inl rfl) e, c⟩
 | dT kvs =>
  obtain ⟨z, y, xs, r, ob, es, ep, e, c⟩ := x
  exact ⟨z, y, xs, Paired.mapP r fun p q z => ⟨z.1, ht _ _ z.2.1, z.2.2⟩, ob, es, ep, k _ _ (.inl rfl) e, c⟩
 | set S n => obtain ⟨ob, es, ep, t, e, c⟩ := x; exact ⟨ob, es, ep, t, k _ _ (.inl rfl) e, c⟩
 | ins C dx fs =>
  obtain ⟨d, z, ne, e, mA, ⟨od, es, ep, e2, c⟩, r⟩ := x
  exact ⟨ho _ d, z, ne, k _ _ (.inl rfl) e, mA, ⟨od, es, ep, k _ _ (.inr d) e2, c⟩, r⟩
 | own y => obtain ⟨ob, e⟩ := x; exact ⟨ob, k _ _ (.inl rfl) e⟩
 | xd fs => obtain ⟨mA, ⟨od, es, ep, e, c⟩, r⟩ := x; exact ⟨mA, ⟨od, es, ep, k _ _ (.inl rfl) e, c⟩, r⟩
 | rng lo hi => obtain ⟨t, u, v, e⟩ := x; exact ⟨t, u, v, k _ _ (.inl rfl) e⟩
 | frz ob u ih => obtain ⟨e, q⟩ := x; exact ⟨k _ _ (.inl rfl) e, ih q⟩
 | tbl ps =>
  have e : h.get? a = some { cls := .none, data := .fields ps } := x
  show h'.get? a = some { cls := .none, data := .fields ps }
  exact k a _ (.inl rfl) e
 | met f y =>
  have e : h.get? a = some (PySem.W.methodObj (.ref f) (.ref y)) := x
  show h'.get? a = some (PySem.W.methodObj (.ref f) (.ref y))
  exact k a _ (.inl rfl) e
 | ext φ => obtain ⟨p, ⟨o, e⟩, st⟩ := x; exact ⟨st _ _ p fun o q => k _ _ (.inl rfl) q, ⟨o, k _ _ (.inl rfl) e⟩, st⟩
theorem HOk.lt (x : HOk P w H h) (e : H a = some o) : a < h.objs.size := (x a o e).lt
theorem HOk.fresh (x : HOk P w H h) (e : h.objs.size ≤ a) : H a = none := by
 cases q : H a with
 | none => rfl
 | some u => exact absurd (Nat.lt_of_lt_of_le (x.lt q) e) (Nat.lt_irrefl _)
theorem HOk.kept (x : HOk P w H h) (k : ∀ b u, h.get? b = some u -> h'.get? b = some u) : HOk P w H h' := fun a o e =>
 (x a o e).stay (fun b u _ q => k b u q) (fun _ q => q) fun _ _ q => q
theorem HOk.laid (x : HOk P w H h) (k : ∀ b u, h.get? b = some u -> h'.get? b = some u) (hp : h.objs.size ≤ a) (new : ObjOk P w (upd H a o) h' a o) : HOk P w (upd H a o) h' := fun b u e => by
 have hn := x.fresh hp
 by_cases hb : b = a
 ·subst hb; rw [upd_same] at e; cases e; exact new
 ·rw [upd_ne hb] at e
  exact (x b u e).stay (fun c v _ q => k c v q) (fun c q => by rw [upd_ne (ne_of_none q hn)]; exact q) fun c xs q => by rw [upd_ne (ne_of_none q hn)]; exact q
end
def Rd (H : Hp) (a : Addr) (u : HO) : Prop := H a = some u ∨ ∃ o, H a = some (.frz o u)
theorem Rd.ok {P : Program} {w : World} {H : Hp} {h : Heap} {a : Addr} {u : HO} (r : Rd H a u) (x : HOk P w H h) : ObjOk P w H h a u := by
 rcases r with r | ⟨o, r⟩
 ·exact x a u r
 ·obtain ⟨_, q⟩ := x a _ r
  exact q
def Mut : Option HO -> Prop
 | some (.lst _) => True
 | some (.dK _) => True
 | some (.dT _) => True
 | some (.set _ _) => True
 | some (.ins _ _ _) => True
 | some (.ext _) => True
 | _ => False
section
variable {P : Program} {w : World} {H : Hp} {h h' : Heap} {x e : Addr} {o' : HO}
theorem HOk.write (ok : HOk P w H h) (mu : Mut (H x)) (he : e = x ∨ H e = some (.own x)) (k : ∀ b u, b ≠ e -> h.get? b = some u -> h'.get? b = some u) (heo : ∃ u, h'.get? e = some u)
  (new : ObjOk P w (upd H x o') h' x o') : HOk P w (upd H x o') h' := fun b u q => by
 have nown : ∀ c y, H c = some (.own y) -> c ≠ x := fun c y r z => by subst z; rw [r] at mu; exact mu
 have ntup : ∀ c xs, H c = some (.tup xs) -> c ≠ x := fun c xs r z => by subst z; rw [r] at mu; exact mu
 by_cases hb : b = x
 ·subst hb; rw [upd_same] at q; cases q; exact new
 ·rw [upd_ne hb] at q
  by_cases hbe : b = e
  ·have q' : H b = some (.own x) := by
    rcases he with z | z
    ·exact absurd (hbe.trans z) hb
    ·rw [hbe]; exact z
   rw [q] at q'; cases q'
   obtain ⟨v, hv⟩ := heo
   exact ⟨v, by rw [hbe]; exact hv⟩
  ·refine (ok b u q).stay (fun c v hc r => k c v ?_ r) (fun c r => by rw [upd_ne (nown c b r)]; exact r) fun c xs r => by rw [upd_ne (ntup c xs r)]; exact r
   rcases hc with rfl | hc
   ·exact hbe
   ·rintro rfl
    rcases he with z | z
    ·exact nown c b hc z
    ·rw [hc] at z; cases z; exact hb rfl
end
structure Un (fs ex : List Addr) (H H' : Hp) (h h' : Heap) : Prop where
 keep : ∀ b o, h.get? b = some o -> H b = none -> b ∉ fs -> b ∉ ex -> h'.get? b = some o
 slot : ∀ b o, h.get? b = some o -> H b = none -> b ∈ fs -> b ∉ ex -> ∃ sl, h'.get? b = some { o with slots := sl }
 free : ∀ b o, h.get? b = some o -> H b = none -> b ∉ ex -> H' b = none
 there : ∀ b o, h.get? b = some o -> b ∉ ex -> ∃ o', h'.get? b = some o'
 tups : ∀ b xs, H b = some (.tup xs) -> H' b = some (.tup xs)
 frzs : ∀ b o u, H b = some (.frz o u) -> H' b = some (.frz o u)
 tbls : ∀ b ps, H b = some (.tbl ps) -> ∃ more, H' b = some (.tbl (ps ++ more))
section
variable {fs fs' ex ex' : List Addr} {H H1 H2 : Hp} {h h1 h2 h' : Heap} {a x e : Addr} {o : HO}
theorem Un.any (u : Un fs ex H H1 h h1) {b : Addr} {ob : Obj} (q : h.get? b = some ob) (n : H b = none) (hx : b ∉ ex) : ∃ sl, h1.get? b = some { ob with slots := sl } := by
 by_cases hb : b ∈ fs
 ·exact u.slot b ob q n hb hx
 ·exact ⟨ob.slots, u.keep b ob q n hb hx⟩
theorem Un.kept (k : ∀ b u, h.get? b = some u -> h'.get? b = some u) : Un fs ex H H h h' :=
 ⟨fun b ob q _ _ _ => k b ob q, fun b ob q _ _ _ => ⟨ob.slots, k b ob q⟩, fun _ _ _ n _ => n, fun b ob q _ => ⟨ob, k b ob q⟩, fun _ _ q => q, fun _ _ _ q => q, fun _ ps q => ⟨#[], by rw [q]; simp⟩⟩
theorem Un.refl : Un fs ex H H h h := Un.kept fun _ _ q => q
theorem Un.laid (k : ∀ b u, h.get? b = some u -> h'.get? b = some u) (hp : h.objs.size ≤ a) (hn : H a = none) : Un fs ex H (upd H a o) h h' where
 keep := fun b u q _ _ _ => k b u q
 slot := fun b u q _ _ _ => ⟨u.slots, k b u q⟩
 free := fun b u q n _ => by rw [upd_ne (Nat.ne_of_lt (Nat.lt_of_lt_of_le (Heap.lt_size q) hp))]; exact n
 there := fun b u q _ => ⟨u, k b u q⟩
 tups := fun b xs q => by rw [upd_ne (ne_of_none q hn)]; exact q
 frzs := fun b u xs q => by rw [upd_ne (ne_of_none q hn)]; exact q
 tbls := fun b ps q => ⟨#[], by rw [upd_ne (ne_of_none q hn), q]; simp⟩
theorem Un.write (mu : Mut (H x)) (he : e = x ∨ H e = some (.own x)) (k : ∀ b u, b ≠ e -> h.get? b = some u -> h'.get? b = some u) (heo : ∃ u, h'.get? e = some u) : Un fs ex H (upd H x o) h h' := by
 have hx : ∀ b, H b = none -> b ≠ x := fun b n z => by subst z; rw [n] at mu; exact mu
 have hb : ∀ b, H b = none -> b ≠ e := fun b n z => by
  subst z
  rcases he with r | r
  ·exact hx b n r
  ·rw [n] at r; cases r
 have hm : ∀ b u, H b = some u -> ¬ Mut (some u) -> b ≠ x := fun b u q nm z => by subst z; rw [q] at mu; exact nm mu
 refine ⟨fun b u q n _ _ => k b u (hb b n) q, fun b u q n _ _ => ⟨u.slots, k b u (hb b n) q⟩, fun b u q n _ => by rw [upd_ne (hx b n)]; exact n, fun b u q _ => ?_,
  fun b xs q => by rw [upd_ne (hm b _ q fun z => z)]; exact q, fun b u xs q => by rw [upd_ne (hm b _ q fun z => z)]; exact q, fun b ps q => ⟨#[], by rw [upd_ne (hm b _ q fun z => z), q]; simp⟩⟩
 by_cases hbe : b = e
 ·subst hbe; exact heo
 ·exact ⟨u, k b u hbe q⟩
end
def trk (h : Heap) (H : Hp) : List Addr := (List.range h.objs.size).filter fun a => (H a).isSome
def hidT (h : Heap) (H : Hp) : Heap := PySem.W.hideAll h (trk h H)
theorem hidT_size (h : Heap) (H : Hp) : (hidT h H).objs.size = h.objs.size := PySem.W.hideAll_size _ _
theorem hidT_get {h : Heap} {H : Hp} {b : Addr} {o : Obj} (e : h.get? b = some o) (n : H b = none) : (hidT h H).get? b = some o :=
 PySem.W.hideAll_get _ e fun hm => by
  have q : (H b).isSome = true := (List.mem_filter.mp hm).2
  rw [n] at q; simp at q
theorem of_hidT {h : Heap} {H : Hp} {b : Addr} {o : Obj} (e : (hidT h H).get? b = some o) : h.get? b = some o /\ H b = none := by
 have e' : h.get? b = some o := PySem.W.of_hideAll (trk h H) e
 refine ⟨e', ?_⟩
 cases q : H b with
 | none => rfl
 | some x =>
  have hm : b ∈ trk h H := List.mem_filter.mpr ⟨List.mem_range.mpr (Heap.lt_size e'), by simp [q]⟩
  have z : (hidT h H).get? b = none := PySem.W.hideAll_none (trk h H) hm
  rw [z] at e; cases e
def allNews (g h : Heap) (L : Addr) : PLs := (List.range h.objs.size).filterMap fun a => if a = L ∨ (g.get? a).isSome = true then none else (h.get? a).map fun o => (a, o)
def rest (g h : Heap) (L d : Addr) : PLs := (allNews g h L).filter fun p => decide (p.1 ≠ d)
end L2
namespace L2
open PySem PySem.Spec PyProof.Rows
structure Mod (K : Fg) (mg : Str -> Option Value) (base : Heap) : Prop where
 kin : K.In base
 glob : base.Ns mainGlobals mg
 blt : ∃ mb, base.Ns builtinsNs mb /\ ∀ x : Str, x ≠ "__name__" -> mb x = bootBuiltins x
 nolimit : base.NoLimit
structure Cx where
 prog : Program
 w : World
 K : Fg
 mg : Str -> Option Value
 base : Heap
 A : Around
 N : List Str
 s₀ : Shared
 H₀ : Hp
 env : Env
 outer : List Env
 stack : List Env
 ex : List Addr
 fn : Str -> Bool
 calm : Bool
 pn : PLs
 xe : VSP
def frs (l : List Env) : List Addr := l.filterMap (·.frame)
abbrev Cx.fs (X : Cx) : List Addr := frs X.outer
def Vis (sc : Scope) (x : Str) : Prop := sc.names.lookup x = some .local ∨ sc.names.lookup x = some .cell ∨ sc.names.lookup x = some .free
def Loc (sc : Scope) (x : Str) : Prop := sc.names.lookup x = some .local ∨ sc.names.lookup x = some .cell
def Look (env : Env) (h : Heap) (m : Str -> Option Value) (x : Str) (u : Value) : Prop :=
 (env.kindOf x = some .local /\ m x = some u) ∨ ((env.kindOf x = some .cell ∨ env.kindOf x = some .free) /\ ∃ c, env.cells.lookup x = some c /\ h.IsCell c (some u))
structure Cx.Ok (X : Cx) : Prop where
 mod : Mod X.K X.mg X.base
 kind : X.env.scope.kind = .function
 glob : X.env.globals = mainGlobals
 blt : X.env.builtins = builtinsNs
 above : X.s₀.heap.objs.size ≤ X.env.locals
 inj : ∀ x y c, X.env.cells.lookup x = some c -> X.env.cells.lookup y = some c -> x = y
 has : ∀ x, (X.env.kindOf x = some .cell ∨ X.env.kindOf x = some .free) -> ∃ c, X.env.cells.lookup x = some c
 cab : ∀ x c, X.fn x = true -> X.env.cells.lookup x = some c -> X.s₀.heap.objs.size ≤ c
 hd : X.calm = true -> X.A.handled = none
 frames : X.A.frames = some X.stack
 stk : X.stack = X.outer ∨ (X.stack = X.env :: X.outer /\ X.env.frame = some X.env.locals)
 exf : ∀ b ∈ X.ex, b ≠ X.env.locals /\ ∀ x c, X.env.cells.lookup x = some c -> c ≠ b
 bs : ∀ b o, X.base.get? b = some o -> X.s₀.heap.get? b = some o /\ X.H₀ b = none
 bsz : X.base.objs.size ≤ X.s₀.heap.objs.size
 noex : ∀ b o, X.base.get? b = some o -> b ∉ X.ex
 exfs : ∀ b ∈ X.ex, b ∉ X.fs
 funs : X.s₀.heap.FunFrames X.base X.outer
 frf : ∀ b ∈ X.fs, X.H₀ b = none
structure Inv (X : Cx) (pins : PLs) (σ : List (Option V)) (H : Hp) (s : Shared) : Prop where
 ok : X.Ok
 os : s.os = X.s₀.os
 bare : AllBare s.gens
 base : Un X.fs X.ex X.H₀ H X.s₀.heap s.heap
 loc : ∃ m, s.heap.Ns X.env.locals m /\ ∀ (i : Nat) (x : Str) (v : V), X.N[i]? = some x -> σ[i]? = some (some v) -> Vis X.env.scope x -> ∃ u, RelV v u /\ Look X.env s.heap m x u
 cell : ∀ x c, X.env.cells.lookup x = some c -> ∃ v, s.heap.IsCell c v
 free : H X.env.locals = none
 freeC : ∀ x c, X.env.cells.lookup x = some c -> H c = none
 pin : ∀ p ∈ X.pn ++ pins, s.heap.get? p.1 = some p.2 /\ H p.1 = none /\ p.1 ≠ X.env.locals /\ p.1 ∉ X.fs /\ ∀ v, p.2.data ≠ .cell v
 hok : HOk X.prog X.w H s.heap
 len : σ.length = X.N.length
section
variable {X : Cx} {pins : PLs} {σ : List (Option V)} {H H' : Hp} {s : Shared} {h' : Heap}
theorem Cx.Ok.nofr (ok : X.Ok) {b : Addr} {o : Obj} (e : X.base.get? b = some o) : b ∉ X.fs := fun hb => by
 have := (ok.funs.mem hb).1
 rw [e] at this; cases this
theorem Inv.bs (I : Inv X pins σ H s) : ∀ b o, X.base.get? b = some o -> s.heap.get? b = some o /\ H b = none := fun b o e =>
 ⟨I.base.keep b o (I.ok.bs b o e).1 (I.ok.bs b o e).2 (I.ok.nofr e) (I.ok.noex b o e), I.base.free b o (I.ok.bs b o e).1 (I.ok.bs b o e).2 (I.ok.noex b o e)⟩
theorem Inv.bk (I : Inv X pins σ H s) : ∀ b o, X.base.get? b = some o -> s.heap.get? b = some o := fun b o e => (I.bs b o e).1
theorem Inv.mod (I : Inv X pins σ H s) : Mod X.K X.mg X.base := I.ok.mod
theorem Inv.kIn (I : Inv X pins σ H s) : X.K.In s.heap := I.ok.mod.kin.keeps I.bk
theorem Inv.lt (I : Inv X pins σ H s) : X.env.locals < s.heap.objs.size := let ⟨_, hn, _⟩ := I.loc; hn.lt
theorem Inv.sz (I : Inv X pins σ H s) : X.s₀.heap.objs.size ≤ s.heap.objs.size := Nat.le_trans I.ok.above (Nat.le_of_lt I.lt)
theorem Inv.nofs (I : Inv X pins σ H s) {a : Addr} (h : s.heap.objs.size ≤ a) : a ∉ X.fs := fun hb => by
 obtain ⟨_, o, ho, _⟩ := I.ok.funs.mem hb
 exact absurd (Nat.lt_of_lt_of_le (Heap.lt_size ho) (Nat.le_trans I.sz h)) (Nat.lt_irrefl _)
theorem Inv.cne (I : Inv X pins σ H s) : ∀ x c, X.env.cells.lookup x = some c -> c ≠ X.env.locals := fun x c e z => by
 obtain ⟨v, o, ho, hd⟩ := I.cell x c e
 obtain ⟨m, ⟨o', es, ep, ho', hd', _⟩, _⟩ := I.loc
 rw [z, ho'] at ho; cases ho; rw [hd'] at hd; cases hd
theorem Inv.funs (I : Inv X pins σ H s) : s.heap.FunFrames X.base X.outer := by
 have all : ∀ (l : List Env), (∀ b ∈ frs l, b ∈ X.fs) -> X.s₀.heap.FunFrames X.base l -> s.heap.FunFrames X.base l := by
  intro l
  induction l with
  | nil => intro _ _; trivial
  | cons env r ih =>
   intro hs hl
   obtain ⟨hk, ⟨L, o, hf, hn, ho, hd⟩, hr⟩ := hl
   have hL : L ∈ X.fs := hs L (by unfold frs; rw [List.filterMap_cons, hf]; exact List.mem_cons_self)
   obtain ⟨sl, e⟩ := I.base.slot L o ho (I.ok.frf L hL) hL fun z => I.ok.exfs L z hL
   exact ⟨hk, ⟨L, _, hf, hn, e, hd⟩, ih (fun b hb => hs b (by unfold frs; rw [List.filterMap_cons, hf]; exact List.mem_cons_of_mem _ hb)) hr⟩
 exact all X.outer (fun _ hb => hb) I.ok.funs
theorem Inv.stack (I : Inv X pins σ H s) : s.heap.FunFrames X.base X.stack := by
 rcases I.ok.stk with e | ⟨e, hf⟩
 ·rw [e]; exact I.funs
 ·rw [e]
  obtain ⟨m, hn, _⟩ := I.loc
  refine .cons (by rw [I.ok.kind]; decide) hf hn ?_ I.funs
  exact Heap.get?_none_of_le (Nat.le_trans I.ok.bsz I.ok.above)
theorem Inv.stkSub (I : Inv X pins σ H s) : ∀ b ∈ frs X.stack, b ∈ X.env.locals :: X.fs := fun b hb => by
 rcases I.ok.stk with e | ⟨e, hf⟩
 ·rw [e] at hb; exact List.mem_cons_of_mem _ hb
 ·rw [e] at hb
  unfold frs at hb
  rw [List.filterMap_cons, hf] at hb
  exact hb
theorem Inv.stkFree (I : Inv X pins σ H s) : ∀ b ∈ frs X.stack, H b = none := fun b hb => by
 rcases List.mem_cons.mp (I.stkSub b hb) with e | hb
 ·rw [e]; exact I.free
 ·obtain ⟨_, o, ho, _⟩ := I.ok.funs.mem hb
  exact I.base.free b o ho (I.ok.frf b hb) fun z => I.ok.exfs b z hb
theorem Inv.step {g' : Array GenState} {t' : Nat} {d' : Drawn} {ch : List Addr} (I : Inv X pins σ H s)
  (hch : ∀ b ∈ ch, (b ∈ X.ex ∨ X.s₀.heap.get? b = none) /\ b ≠ X.env.locals /\ (∀ x c, X.env.cells.lookup x = some c -> c ≠ b) /\ ∀ p ∈ X.pn ++ pins, p.1 ≠ b)
  (keep : ∀ b o, b ≠ X.env.locals -> b ∉ X.fs -> b ∉ ch -> s.heap.get? b = some o -> H b = none -> h'.get? b = some o)
  (slot : ∀ b o, b ≠ X.env.locals -> b ∈ X.fs -> b ∉ ch -> s.heap.get? b = some o -> H b = none -> ∃ sl, h'.get? b = some { o with slots := sl }) (free : ∀ b o, b ∉ ch -> s.heap.get? b = some o -> H b = none -> H' b = none)
  (there : ∀ b o, b ∉ ch -> s.heap.get? b = some o -> ∃ o', h'.get? b = some o')
  (tups : ∀ b xs, H b = some (.tup xs) -> H' b = some (.tup xs)) (frzs : ∀ b o u, H b = some (.frz o u) -> H' b = some (.frz o u)) (tbls : ∀ b ps, H b = some (.tbl ps) -> ∃ more, H' b = some (.tbl (ps ++ more)))
  (ns : ∀ m, s.heap.Ns X.env.locals m -> h'.Ns X.env.locals m) (hok : HOk X.prog X.w H' h') (hg : AllBare g') :
  Inv X pins σ H' { s with heap := h', gens := g', drawn := d', toks := t' } := by
 have neL : ∀ b o, X.s₀.heap.get? b = some o -> b ≠ X.env.locals := fun b o e => Nat.ne_of_lt (Nat.lt_of_lt_of_le (Heap.lt_size e) I.ok.above)
 have neC : ∀ b o, X.s₀.heap.get? b = some o -> b ∉ X.ex -> b ∉ ch := fun b o e hx hb => by
  rcases (hch b hb).1 with z | z
  ·exact hx z
  ·rw [e] at z; cases z
 have cellK : ∀ x c, X.env.cells.lookup x = some c -> ∀ v, s.heap.IsCell c v -> h'.IsCell c v := fun x c e v ⟨o, ho, hd⟩ => by
  have nch : c ∉ ch := fun z => (hch c z).2.2.1 x c e rfl
  by_cases hc : c ∈ X.fs
  ·obtain ⟨sl, q⟩ := slot c o (I.cne x c e) hc nch ho (I.freeC x c e)
   exact ⟨_, q, hd⟩
  ·exact ⟨o, keep c o (I.cne x c e) hc nch ho (I.freeC x c e), hd⟩
 refine ⟨I.ok, I.os, hg, ⟨fun b o e n hb hx => ?_, fun b o e n hb hx => ?_, fun b o e n hx => ?_, fun b o e hx => ?_, fun b xs e => tups b xs (I.base.tups b xs e), fun b o xs e => frzs b o xs (I.base.frzs b o xs e), fun b ps e => ?_⟩, ?_, fun x c e => ?_, ?_, fun x c e => ?_, fun p hp => ?_, hok, I.len⟩
 ·exact keep b o (neL b o e) hb (neC b o e hx) (I.base.keep b o e n hb hx) (I.base.free b o e n hx)
 ·obtain ⟨sl, e1⟩ := I.base.slot b o e n hb hx
  obtain ⟨sl', e2⟩ := slot b _ (neL b o e) hb (neC b o e hx) e1 (I.base.free b o e n hx)
  exact ⟨sl', e2⟩
 ·obtain ⟨o', e1⟩ := I.base.there b o e hx
  exact free b o' (neC b o e hx) e1 (I.base.free b o e n hx)
 ·obtain ⟨o', e1⟩ := I.base.there b o e hx
  exact there b o' (neC b o e hx) e1
 ·obtain ⟨m1, e1⟩ := I.base.tbls b ps e
  obtain ⟨m2, e2⟩ := tbls b _ e1
  exact ⟨m1 ++ m2, by rw [e2, Array.append_assoc]⟩
 ·obtain ⟨m, hn, hl⟩ := I.loc
  refine ⟨m, ns m hn, fun i x v e1 e2 e3 => ?_⟩
  obtain ⟨u, r, l⟩ := hl i x v e1 e2 e3
  refine ⟨u, r, ?_⟩
  rcases l with l | ⟨k, c, e, z⟩
  ·exact .inl l
  ·exact .inr ⟨k, c, e, cellK x c e _ z⟩
 ·obtain ⟨v, z⟩ := I.cell x c e
  exact ⟨v, cellK x c e v z⟩
 ·obtain ⟨m, ⟨o, _, _, ho, _⟩, _⟩ := I.loc
  exact free _ o (fun z => (hch _ z).2.1 rfl) ho I.free
 ·obtain ⟨v, o, ho, hd⟩ := I.cell x c e
  exact free c o (fun z => (hch c z).2.2.1 x c e rfl) ho (I.freeC x c e)
 ·obtain ⟨e, n, ne, nf, d⟩ := I.pin p hp
  have nch : p.1 ∉ ch := fun z => (hch p.1 z).2.2.2 p hp rfl
  exact ⟨keep p.1 p.2 ne nf nch e n, free p.1 p.2 nch e n, ne, nf, d⟩
theorem Inv.un {t' : Nat} (I : Inv X pins σ H s) (u : Un X.fs [] H H' s.heap h') (hok : HOk X.prog X.w H' h') : Inv X pins σ H' { s with heap := h', toks := t' } := by
 obtain ⟨m, ⟨o, es, ep, ho, r⟩, _⟩ := id I.loc
 obtain ⟨sl, hL⟩ := u.any ho I.free (by simp)
 exact I.step (g' := s.gens) (d' := s.drawn) (ch := []) (fun _ z => nomatch z) (fun b o _ hb _ e n => u.keep b o e n hb (by simp)) (fun b o _ hb _ e n => u.slot b o e n hb (by simp)) (fun b o _ e n => u.free b o e n (by simp)) (fun b o _ e => u.there b o e (by simp)) u.tups u.frzs u.tbls (fun m' hm => by
  obtain ⟨o', es', ep', ho', r'⟩ := hm
  rw [ho] at ho'; cases ho'
  exact ⟨_, es', ep', hL, r'⟩) hok I.bare
theorem Inv.call {g' : Array GenState} {t' : Nat} {d' : Drawn} {ch : List Addr} (I : Inv X pins σ H s) (u : Un (frs X.stack) ch H H' s.heap h') (hok : HOk X.prog X.w H' h') (hg : AllBare g')
  (hch : ∀ b ∈ ch, (b ∈ X.ex ∨ X.s₀.heap.get? b = none) /\ b ≠ X.env.locals /\ (∀ x c, X.env.cells.lookup x = some c -> c ≠ b) /\ ∀ p ∈ X.pn ++ pins, p.1 ≠ b) :
  Inv X pins σ H' { s with heap := h', gens := g', drawn := d', toks := t' } := by
 obtain ⟨m, ⟨o, es, ep, ho, r⟩, _⟩ := id I.loc
 obtain ⟨sl, hL⟩ := u.any ho I.free fun z => (hch _ z).2.1 rfl
 exact I.step (ch := ch) hch (fun b o hL hb hc e n => u.keep b o e n (fun z => (List.mem_cons.mp (I.stkSub b z)).elim hL hb) hc) (fun b o _ _ hc e n => u.any e n hc) (fun b o hc e n => u.free b o e n hc) (fun b o hc e => u.there b o e hc) u.tups u.frzs u.tbls (fun m' hm => by
  obtain ⟨o', es', ep', ho', r'⟩ := hm
  rw [ho] at ho'; cases ho'
  exact ⟨_, es', ep', hL, r'⟩) hok hg
theorem Inv.turned {t' : Nat} {it : Addr} (I : Inv X pins σ H s) (k : ∀ b o, b ≠ it -> s.heap.get? b = some o -> h'.get? b = some o) (hn : H it = none) (hL : it ≠ X.env.locals)
  (h1 : it ∈ X.ex ∨ X.s₀.heap.get? it = none) (h2 : ∀ x c, X.env.cells.lookup x = some c -> c ≠ it) (h3 : ∀ p ∈ X.pn ++ pins, p.1 ≠ it) : Inv X pins σ H { s with heap := h', toks := t' } := by
 have nit : ∀ b u, H b = some u -> b ≠ it := fun b u e z => by rw [z, hn] at e; cases e
 refine I.step (g' := s.gens) (d' := s.drawn) (ch := [it]) (fun b hb => ?_) (fun b o _ _ hc e _ => k b o (fun z => hc (by simp [z])) e) (fun b o _ _ hc e _ => ⟨o.slots, k b o (fun z => hc (by simp [z])) e⟩) (fun _ _ _ _ n => n)
  (fun b o hc e => ⟨o, k b o (fun z => hc (by simp [z])) e⟩) (fun _ _ e => e) (fun _ _ _ e => e) (fun b ps e => ⟨#[], by rw [e]; simp⟩) (fun m hm => ?_) (fun b u e => ?_) I.bare
 ·have e : b = it := by simpa using hb
  subst e
  exact ⟨h1, hL, h2, h3⟩
 ·obtain ⟨o, es, ep, ho, r⟩ := hm
  exact ⟨o, es, ep, k _ o (Ne.symm hL) ho, r⟩
 ·refine (I.hok b u e).stay (fun c v hc q => k c v ?_ q) (fun _ q => q) fun _ _ q => q
  rcases hc with z | z
  ·rw [z]; exact nit b u e
  ·exact nit c _ z
theorem Inv.tok (I : Inv X pins σ H s) (t : Nat) : Inv X pins σ H { s with toks := t } := I.un (h' := s.heap) (t' := t) Un.refl I.hok
theorem Inv.kept {t' : Nat} (I : Inv X pins σ H s) (k : ∀ b u, s.heap.get? b = some u -> h'.get? b = some u) : Inv X pins σ H { s with heap := h', toks := t' } := I.un (Un.kept k) (I.hok.kept k)
theorem Inv.laid {a : Addr} {o : HO} {t' : Nat} (I : Inv X pins σ H s) (k : ∀ b u, s.heap.get? b = some u -> h'.get? b = some u) (hp : s.heap.objs.size ≤ a) (new : ObjOk X.prog X.w (upd H a o) h' a o) :
  Inv X pins σ (upd H a o) { s with heap := h', toks := t' } := I.un (Un.laid k hp (I.hok.fresh hp)) (I.hok.laid k hp new)
theorem Inv.write {x e : Addr} {o : HO} {t' : Nat} (I : Inv X pins σ H s) (mu : Mut (H x)) (he : e = x ∨ H e = some (.own x)) (k : ∀ b u, b ≠ e -> s.heap.get? b = some u -> h'.get? b = some u) (heo : ∃ u, h'.get? e = some u)
  (new : ObjOk X.prog X.w (upd H x o) h' x o) : Inv X pins σ (upd H x o) { s with heap := h', toks := t' } := I.un (Un.write mu he k heo) (I.hok.write mu he k heo new)
theorem Inv.weak {σ' : List (Option V)} (I : Inv X pins σ H s) (hl : σ'.length = σ.length) (w : ∀ (i : Nat) v, σ'[i]? = some (some v) -> σ[i]? = some (some v)) : Inv X pins σ' H s :=
 ⟨I.ok, I.os, I.bare, I.base, let ⟨m, hn, hl'⟩ := I.loc; ⟨m, hn, fun i x v e1 e2 e3 => hl' i x v e1 (w i v e2) e3⟩, I.cell, I.free, I.freeC, I.pin, I.hok, hl.trans I.len⟩
theorem Inv.pins_of {pins' : PLs} (I : Inv X pins σ H s) (h : ∀ p ∈ pins', s.heap.get? p.1 = some p.2 /\ H p.1 = none /\ p.1 ≠ X.env.locals /\ p.1 ∉ X.fs /\ ∀ v, p.2.data ≠ .cell v) : Inv X pins' σ H s :=
 ⟨I.ok, I.os, I.bare, I.base, I.loc, I.cell, I.free, I.freeC, fun p hp => (List.mem_append.mp hp).elim (fun z => I.pin p (List.mem_append_left _ z)) (h p), I.hok, I.len⟩
theorem nodup_ix {N : List Str} (hN : N.Nodup) {i j : Nat} {x : Str} (a : N[i]? = some x) (b : N[j]? = some x) : i = j := by
 obtain ⟨h1, e1⟩ := List.getElem?_eq_some_iff.mp a
 obtain ⟨h2, e2⟩ := List.getElem?_eq_some_iff.mp b
 exact (List.getElem_inj hN).mp (e1.trans e2.symm)
theorem store_ok2 {M : Model} {A : Around} {E : VSP} {i : Nat} {x : Str} {v : V} {u : Value} {Q : Unit -> Shared -> Prop} (I : Inv X pins σ H s) (hN : X.N.Nodup) (hi : X.N[i]? = some x) (hx : Loc X.env.scope x) (r : RelV v u)
  (h : ∀ s', Inv X pins (σ.set i (some v)) H s' -> (∃ a, Heap.SameBut a s.heap s'.heap /\ (a = X.env.locals ∨ X.env.cells.lookup x = some a)) -> Q () s') (hf : X.fn x = true ∨ X.env.scope.names.lookup x = some .local := by first | exact .inl rfl | exact .inr rfl | assumption) : wpAny M A (storeName X.env x u) Q E s := by
 obtain ⟨m, hn, hl⟩ := id I.loc
 have hcls : (X.env.scope.kind == .class || (X.env.scope.kind == .module && X.env.locals != X.env.globals)) = false := by rw [I.ok.kind]; rfl
 have hiσ : i < σ.length := by rw [I.len]; exact (List.getElem?_eq_some_iff.mp hi).1
 have cne := I.cne
 have tracked : ∀ {a : Addr} {h' : Heap}, (∃ o, s.heap.get? a = some o /\ H a = none) -> Heap.SameBut a s.heap h' -> HOk X.prog X.w H h' := fun {a h'} ha hs b ob e => by
  obtain ⟨_, _, hfree⟩ := ha
  refine (I.hok b ob e).stay (fun c w' hc q => (hs.2 c ?_).trans q) (fun _ q => q) fun _ _ q => q
  rintro rfl
  rcases hc with rfl | hc
  ·rw [hfree] at e; cases e
  ·rw [hfree] at hc; cases hc
 rcases hx with hk | hk
 ·refine wpAny_storeName_local hk hn (fun h' hn' hs => ?_) hcls
  obtain ⟨oL, _, _, hoL, _⟩ := id hn
  refine h _ ⟨I.ok, I.os, I.bare, ⟨fun b o e n hb hx => ?_, fun b o e n hb hx => ?_, I.base.free, fun b o e hx => ?_, I.base.tups, I.base.frzs, I.base.tbls⟩, ⟨_, hn', fun j y v' e1 e2 e3 => ?_⟩, fun y c e => ?_, I.free, I.freeC, fun p hp => ?_, tracked ⟨oL, hoL, I.free⟩ hs, by simpa using I.len⟩ ⟨_, hs, .inl rfl⟩
  ·exact (hs.2 b (Nat.ne_of_lt (Nat.lt_of_lt_of_le (Heap.lt_size e) I.ok.above))).trans (I.base.keep b o e n hb hx)
  ·obtain ⟨sl, e1⟩ := I.base.slot b o e n hb hx
   exact ⟨sl, (hs.2 b (Nat.ne_of_lt (Nat.lt_of_lt_of_le (Heap.lt_size e) I.ok.above))).trans e1⟩
  ·obtain ⟨o', e1⟩ := I.base.there b o e hx
   exact ⟨o', (hs.2 b (Nat.ne_of_lt (Nat.lt_of_lt_of_le (Heap.lt_size e) I.ok.above))).trans e1⟩
  ·by_cases hj : j = i
   ·subst hj
    rw [hi] at e1; cases e1
    rw [List.getElem?_set_self hiσ] at e2
    cases e2
    exact ⟨u, r, .inl ⟨hk, by simp⟩⟩
   ·rw [List.getElem?_set_ne (Ne.symm hj)] at e2
    obtain ⟨u', r', q⟩ := hl j y v' e1 e2 e3
    refine ⟨u', r', ?_⟩
    rcases q with ⟨k, e⟩ | ⟨k, c, e, z⟩
    ·refine .inl ⟨k, ?_⟩
     have : y ≠ x := fun e => hj (nodup_ix hN e1 (e ▸ hi))
     simp [this, e]
    ·exact .inr ⟨k, c, e, z.sameBut hs (cne y c e)⟩
  ·obtain ⟨w', z⟩ := I.cell y c e
   exact ⟨w', z.sameBut hs (cne y c e)⟩
  ·obtain ⟨e, n, ne, nf, d⟩ := I.pin p hp
   exact ⟨(hs.2 p.1 ne).trans e, n, ne, nf, d⟩
 ·have hfn : X.fn x = true := by
   rcases hf with z | z
   ·exact z
   ·rw [z] at hk; cases hk
  obtain ⟨c, hc⟩ := I.ok.has x (.inl hk)
  obtain ⟨w', z⟩ := I.cell x c hc
  refine wpAny_storeName_cell I.ok.kind hk hc z (fun h' hc' hs => ?_)
  obtain ⟨oc, hoc, hocd⟩ := id z
  refine h { s with heap := h' } ⟨I.ok, I.os, I.bare, ⟨fun b o e n hb hx => ?_, fun b o e n hb hx => ?_, I.base.free, fun b o e hx => ?_, I.base.tups, I.base.frzs, I.base.tbls⟩, ⟨m, hn.sameBut hs (Ne.symm (cne x c hc)), fun j y v' e1 e2 e3 => ?_⟩, fun y c' e => ?_, I.free, I.freeC, fun p hp => ?_, tracked ⟨oc, hoc, I.freeC x c hc⟩ hs, by simpa using I.len⟩ ⟨c, hs, .inr hc⟩
  ·exact (hs.2 b (Nat.ne_of_lt (Nat.lt_of_lt_of_le (Heap.lt_size e) (I.ok.cab x c hfn hc)))).trans (I.base.keep b o e n hb hx)
  ·obtain ⟨sl, e1⟩ := I.base.slot b o e n hb hx
   exact ⟨sl, (hs.2 b (Nat.ne_of_lt (Nat.lt_of_lt_of_le (Heap.lt_size e) (I.ok.cab x c hfn hc)))).trans e1⟩
  ·obtain ⟨o', e1⟩ := I.base.there b o e hx
   exact ⟨o', (hs.2 b (Nat.ne_of_lt (Nat.lt_of_lt_of_le (Heap.lt_size e) (I.ok.cab x c hfn hc)))).trans e1⟩
  ·by_cases hj : j = i
   ·subst hj
    rw [hi] at e1; cases e1
    rw [List.getElem?_set_self hiσ] at e2
    cases e2
    exact ⟨u, r, .inr ⟨.inl hk, c, hc, hc'⟩⟩
   ·rw [List.getElem?_set_ne (Ne.symm hj)] at e2
    obtain ⟨u', r', q⟩ := hl j y v' e1 e2 e3
    refine ⟨u', r', ?_⟩
    rcases q with q | ⟨k, c', e, z'⟩
    ·exact .inl q
    ·refine .inr ⟨k, c', e, z'.sameBut hs ?_⟩
     rintro rfl
     exact hj (nodup_ix hN e1 (I.ok.inj _ _ _ e hc ▸ hi))
  ·by_cases hcc : c' = c
   ·subst hcc; exact ⟨_, hc'⟩
   ·obtain ⟨w2, z2⟩ := I.cell y c' e
    exact ⟨w2, z2.sameBut hs hcc⟩
  ·obtain ⟨e, n, ne, nf, d⟩ := I.pin p hp
   refine ⟨(hs.2 p.1 ?_).trans e, n, ne, nf, d⟩
   intro q
   rw [q, hoc] at e
   have q' : oc = p.2 := Option.some.inj e
   exact d w' (by rw [← q']; exact hocd)
theorem store_ok {M : Model} {A : Around} {E : VSP} {i : Nat} {x : Str} {v : V} {u : Value} {Q : Unit -> Shared -> Prop} (I : Inv X pins σ H s) (hN : X.N.Nodup) (hi : X.N[i]? = some x) (hx : Loc X.env.scope x) (r : RelV v u)
  (h : ∀ s', Inv X pins (σ.set i (some v)) H s' -> Q () s') (hf : X.fn x = true ∨ X.env.scope.names.lookup x = some .local := by first | exact .inl rfl | exact .inr rfl | assumption) : wpAny M A (storeName X.env x u) Q E s :=
 store_ok2 I hN hi hx r (fun s' I' _ => h s' I') hf
theorem Inv.call' {s' : Shared} {ch : List Addr} (I : Inv X pins σ H s) (ho : s'.os = s.os) (u : Un (frs X.stack) ch H H' s.heap s'.heap) (hok : HOk X.prog X.w H' s'.heap) (hg : AllBare s'.gens)
  (hch : ∀ b ∈ ch, (b ∈ X.ex ∨ X.s₀.heap.get? b = none) /\ b ≠ X.env.locals /\ (∀ x c, X.env.cells.lookup x = some c -> c ≠ b) /\ ∀ p ∈ X.pn ++ pins, p.1 ≠ b) : Inv X pins σ H' s' := by
 obtain ⟨h', g', d', t', o'⟩ := s'
 have e : o' = s.os := ho
 subst e
 exact I.call (g' := g') (t' := t') (d' := d') u hok hg hch
end
abbrev XK := Value -> Option Addr -> Hp -> Prop
abbrev St := List (Option V)
abbrev VK := V -> Hp -> Prop
abbrev TE := St -> Hp -> VK -> Prop
abbrev TT := St -> Hp -> (Bool -> Hp -> Prop) -> Prop
abbrev TA := St -> Hp -> (List V -> Hp -> Prop) -> Prop
structure Ends where
 nx : St -> Hp -> Prop
 rt : VK
 bk : St -> Hp -> Prop := fun _ _ => False
 ct : St -> Hp -> Prop := fun _ _ => False
abbrev TS := Ends -> St -> Hp -> Prop
def EP (X : Cx) (pins : PLs) (σ : St) (Q : VK) (u : Value) (s' : Shared) : Prop := ∃ v H', Inv X pins σ H' s' /\ RelV v u /\ Q v H'
def TP (X : Cx) (pins : PLs) (σ : St) (Q : Bool -> Hp -> Prop) (b : Bool) (s' : Shared) : Prop := ∃ H', Inv X pins σ H' s' /\ Q b H'
def AP (X : Cx) (pins : PLs) (σ : St) (Q : List V -> Hp -> Prop) (us : List Value) (s' : Shared) : Prop := ∃ vs H', Inv X pins σ H' s' /\ Vals vs us /\ Q vs H'
def SP (X : Cx) (pins : PLs) (D : Ends) (f : Flow) (s' : Shared) : Prop :=
 match f with
 | .next => ∃ σ' H', Inv X pins σ' H' s' /\ D.nx σ' H'
 | .brk => ∃ σ' H', Inv X pins σ' H' s' /\ D.bk σ' H'
 | .cont => ∃ σ' H', Inv X pins σ' H' s' /\ D.ct σ' H'
 | .ret u => ∃ v σ' H', Inv X pins σ' H' s' /\ RelV v u /\ D.rt v H'
def PE (X : Cx) (e : Expr) (t : TE) : Prop :=
 ∀ (pins : PLs) (s : Shared) (σ : St) (H : Hp) (Q : VK), Inv X pins σ H s -> t σ H Q -> wpAny (model X.prog X.w) X.A (eval e X.env) (EP X pins σ Q) X.xe s
def PT (X : Cx) (e : Expr) (t : TT) : Prop :=
 ∀ (pins : PLs) (s : Shared) (σ : St) (H : Hp) (Q : Bool -> Hp -> Prop), Inv X pins σ H s -> t σ H Q -> wpAny (model X.prog X.w) X.A (isTrue e X.env (eval e X.env)) (TP X pins σ Q) X.xe s
def PW (X : Cx) (e : Expr) (t : TT) : Prop :=
 ∀ (whole : Sem Value) (pins : PLs) (s : Shared) (σ : St) (H : Hp) (Q : Bool -> Hp -> Prop), Inv X pins σ H s -> t σ H Q -> wpAny (model X.prog X.w) X.A (isTrue e X.env whole) (TP X pins σ Q) X.xe s
theorem PW.pt {X : Cx} {e : Expr} {t : TT} (h : PW X e t) : PT X e t := h _
def PA (X : Cx) (es : List Expr) (t : TA) : Prop :=
 ∀ (pos : Pos) (pins : PLs) (s : Shared) (σ : St) (H : Hp) (Q : List V -> Hp -> Prop), Inv X pins σ H s -> t σ H Q -> wpAny (model X.prog X.w) X.A (spliced (backTo pos (starEach es X.env))) (AP X pins σ Q) X.xe s
def PS (X : Cx) (st : Stmt) (t : TS) : Prop :=
 ∀ (pins : PLs) (s : Shared) (σ : St) (H : Hp) (D : Ends), Inv X pins σ H s -> t D σ H -> wpAny (model X.prog X.w) X.A (exec st X.env) (SP X pins D) X.xe s
def PSs (X : Cx) (st : List Stmt) (t : TS) : Prop :=
 ∀ (pins : PLs) (s : Shared) (σ : St) (H : Hp) (D : Ends), Inv X pins σ H s -> t D σ H -> wpAny (model X.prog X.w) X.A (execs st X.env) (SP X pins D) X.xe s
theorem thn {α : Type} {t : Sem α} {Q Q' : α -> Shared -> Prop} {M : Model} {A : Around} {E : VSP} {s : Shared} (h : wpAny M A t Q E s) (hQ : ∀ a s, Q a s -> Q' a s) : wpAny M A t Q' E s := wpAny_mono h hQ fun _ _ x => x
end L2
namespace L2
open PySem PySem.Spec PyProof.Rows
section
variable {X : Cx}
def tVar (i : Nat) : TE := fun σ H Q => ∃ v, σ[i]? = some (some v) /\ Q v H
def tC (v : V) : TE := fun _ H Q => Q v H
theorem pe_var {i : Nat} {x : Str} {pos : Pos} (hN : X.N[i]? = some x) (hv : Vis X.env.scope x) (hd : (x == ("__debug__" : Str)) = false := by decide) (hcd : (x == ("__classdict__" : Str)) = false := by decide) : PE X (.Name x pos) (tVar i) := by
 intro pins s σ H Q I h
 obtain ⟨v, e, h⟩ := h
 obtain ⟨m, hn, hl⟩ := I.loc
 obtain ⟨u, r, l⟩ := hl i x v hN e hv
 have fin : EP X pins σ Q u s := ⟨v, H, I, r, h⟩
 rcases l with ⟨hk, hm⟩ | ⟨hk, c, hc, hcell⟩
 ·exact wpAny_Name (wpAny_loadName_local I.ok.kind hk hn hm fin) hd
 ·rcases hk with hk | hk
  ·exact wpAny_Name (wpAny_loadName_cell I.ok.kind hk hc hcell fin) hd
  ·exact wpAny_Name (wpAny_loadName_free I.ok.kind hk hc hcell fin hcd) hd
theorem pe_int {i j pos} : PE X (.Constant (.int i) j pos) (tC (.int i)) := fun _ _ _ H _ I h => wpAny_Constant_int ⟨.int i, H, I.tok _, ⟨_, rfl⟩, h⟩
theorem pe_bl {b j pos} : PE X (.Constant (.bool b) j pos) (tC (.bl b)) := fun _ _ _ H _ I h => Constant_bool ⟨.bl b, H, I, rfl, h⟩
theorem pe_non {j pos} : PE X (.Constant .none j pos) (tC .non) := fun _ _ _ H _ I h => Constant_none ⟨.non, H, I, rfl, h⟩
theorem pe_str {x j pos} : PE X (.Constant (.str x) j pos) (tC (.str x)) := fun _ _ _ H _ I h => Calls.Constant_str ⟨.str x, H, I.tok _, ⟨_, rfl⟩, h⟩
def Gl (X : Cx) (x : Str) : Prop := X.env.kindOf x = some .globalImplicit
theorem ld_glob {E : VSP} {pins : PLs} {s : Shared} {σ : St} {H : Hp} {x : Str} {u : Value} {pos : Pos} {Q : VSP} (I : Inv X pins σ H s) (hg : Gl X x) (hm : X.mg x = some u) (h : Q u s)
  (hd : (x == ("__debug__" : Str)) = false := by decide) : wpAny (model X.prog X.w) X.A (eval (.Name x pos) X.env) Q E s :=
 Calls.Name_function_global I.ok.kind hg (Calls.loadGlobal_global (by rw [I.ok.glob]; exact I.mod.glob.keeps I.bk) hm h) hd
theorem ld_blt {E : VSP} {pins : PLs} {s : Shared} {σ : St} {H : Hp} {x : Str} {u : Value} {pos : Pos} {Q : VSP} (I : Inv X pins σ H s) (hg : Gl X x) (hm : X.mg x = none) (hv : bootBuiltins x = some u) (h : Q u s)
  (hn : x ≠ "__name__" := by decide) (hd : (x == ("__debug__" : Str)) = false := by decide) : wpAny (model X.prog X.w) X.A (eval (.Name x pos) X.env) Q E s := by
 obtain ⟨mb, h1, h2⟩ := I.mod.blt
 exact Calls.Name_function_global I.ok.kind hg (Calls.loadGlobal_builtin (by rw [I.ok.glob]; exact I.mod.glob.keeps I.bk) hm (by rw [I.ok.blt]; exact h1.keeps I.bk) ((h2 x hn).trans hv) h) hd
theorem pe_glob {x : Str} {v : V} {u : Value} {pos : Pos} (hg : Gl X x) (hm : X.mg x = some u) (r : RelV v u) (hd : (x == ("__debug__" : Str)) = false := by decide) : PE X (.Name x pos) (tC v) :=
 fun _ _ _ H _ I h => ld_glob I hg hm ⟨v, H, I, r, h⟩ hd
theorem pe_bltn {x : Str} {v : V} {u : Value} {pos : Pos} (hg : Gl X x) (hm : X.mg x = none) (hv : bootBuiltins x = some u) (r : RelV v u) (hn : x ≠ "__name__" := by decide) (hd : (x == ("__debug__" : Str)) = false := by decide) : PE X (.Name x pos) (tC v) :=
 fun _ _ _ H _ I h => ld_blt I hg hm hv ⟨v, H, I, r, h⟩ hn hd
def t2I (ta tb : TE) (k : Int -> Int -> Hp -> Prop) : St -> Hp -> Prop := fun σ H => ta σ H fun x H1 => tb σ H1 fun y H2 => ∃ i j, x = .int i /\ y = .int j /\ k i j H2
def tAdd (ta tb : TE) : TE := fun σ H Q => t2I ta tb (fun i j H2 => Q (.int (i + j)) H2) σ H
def tSub (ta tb : TE) : TE := fun σ H Q => t2I ta tb (fun i j H2 => Q (.int (i - j)) H2) σ H
def tMul (ta tb : TE) : TE := fun σ H Q => t2I ta tb (fun i j H2 => (-(2 ^ 64) < i /\ i < 2 ^ 64) /\ Q (.int (i * j)) H2) σ H
variable {a b : Expr} {ta tb : TE} {pos : Pos}
def PC (X : Cx) (op : CmpOp) (a b : Expr) (t : TE) : Prop :=
 ∀ (pins : PLs) (s : Shared) (σ : St) (H : Hp) (Q : VK), Inv X pins σ H s -> t σ H Q →
  wpAny (model X.prog X.w) X.A (eval a X.env) (fun v s₁ => wpAny (model X.prog X.w) X.A (eval b X.env) (fun u s₂ => wpAny (model X.prog X.w) X.A (compareOp op v u) (EP X pins σ Q) X.xe s₂) X.xe s₁) X.xe s
def tCmp (p : Int -> Int -> Bool) (ta tb : TE) : TE := fun σ H Q => t2I ta tb (fun i j H2 => Q (.bl (p i j)) H2) σ H
abbrev tLt : TE -> TE -> TE := tCmp fun i j => decide (i < j)
abbrev tLe : TE -> TE -> TE := tCmp fun i j => decide (i ≤ j)
abbrev tGt : TE -> TE -> TE := tCmp fun i j => decide (j < i)
abbrev tGe : TE -> TE -> TE := tCmp fun i j => decide (j ≤ i)
abbrev tEqI : TE -> TE -> TE := tCmp fun i j => decide (i = j)
abbrev tNeI : TE -> TE -> TE := tCmp fun i j => !decide (i = j)
def tIsN (ta : TE) : TE := fun σ H Q => ta σ H fun x H1 => Q (.bl (decide (x = .non))) H1
def tNotN (ta : TE) : TE := fun σ H Q => ta σ H fun x H1 => Q (.bl (!decide (x = .non))) H1
def tB (t : TE) : TT := fun σ H Q => t σ H fun x H1 => ∃ c, x = .bl c /\ Q c H1
theorem pt_val {e : Expr} {t : TE} (h : PE X e t) (he : ∀ whole, isTrue e X.env whole = (do let v ← whole; standAt e.pos; holding [v] (truthy v)) := by intro _; rfl) : PT X e (tB t) := by
 intro pins s σ H Q I hw
 refine isTrue_plain (thn (h pins s σ H _ I hw) fun v s1 ⟨x, H1, I1, r1, q1⟩ => ?_) (he _)
 obtain ⟨d, rfl, q⟩ := q1
 cases r1
 exact wpAny_truthy_bool ⟨H1, I1, q⟩
variable {tA tB' : TT} {rest : List Expr}
def tAnd (t u : TT) : TT := fun σ H Q => t σ H fun c H1 => if c = true then u σ H1 Q else Q false H1
def tOr (t u : TT) : TT := fun σ H Q => t σ H fun c H1 => if c = true then Q true H1 else u σ H1 Q
def tNot (t : TT) : TT := fun σ H Q => t σ H fun c H1 => Q (!c) H1
theorem pw_and1 (ha : PT X a tA) : PW X (.BoolOp .And [a] pos) tA := by
 intro wh pins s σ H Q I h
 refine isTrue_and (thn (ha pins s σ H Q I h) fun c s1 e => ?_)
 cases c with
 | true => exact isTrue_and_nil e
 | false => exact e
theorem pw_or1 (ha : PT X a tA) : PW X (.BoolOp .Or [a] pos) tA := by
 intro wh pins s σ H Q I h
 refine isTrue_or (thn (ha pins s σ H Q I h) fun c s1 e => ?_)
 cases c with
 | false => exact isTrue_or_nil e
 | true => exact e
theorem pw_and (ha : PT X a tA) (hb : PW X (.BoolOp .And (b :: rest) pos) tB') : PW X (.BoolOp .And (a :: b :: rest) pos) (tAnd tA tB') := by
 intro wh pins s σ H Q I h
 refine isTrue_and (thn (ha pins s σ H _ I h) fun c s1 ⟨H1, I1, q1⟩ => ?_)
 cases c with
 | true => exact hb wh pins s1 σ H1 Q I1 q1
 | false => exact ⟨H1, I1, q1⟩
theorem pw_or (ha : PT X a tA) (hb : PW X (.BoolOp .Or (b :: rest) pos) tB') : PW X (.BoolOp .Or (a :: b :: rest) pos) (tOr tA tB') := by
 intro wh pins s σ H Q I h
 refine isTrue_or (thn (ha pins s σ H _ I h) fun c s1 ⟨H1, I1, q1⟩ => ?_)
 cases c with
 | true => exact ⟨H1, I1, q1⟩
 | false => exact hb wh pins s1 σ H1 Q I1 q1
theorem pt_not (ha : PT X a tA) : PT X (.UnaryOp .Not a pos) (tNot tA) := by
 intro pins s σ H Q I h
 exact isTrue_not (ha pins s σ H (fun c H1 => Q (!c) H1) I h)
def tAndV (ta tb : TE) : TE := fun σ H Q => ta σ H fun x H1 => ∃ c, x = .bl c /\ if c = true then tb σ H1 Q else Q (.bl false) H1
def tOrV (ta tb : TE) : TE := fun σ H Q => ta σ H fun x H1 => ∃ c, x = .bl c /\ if c = true then Q (.bl true) H1 else tb σ H1 Q
def tNotV (ta : TE) : TE := fun σ H Q => ta σ H fun x H1 => ∃ c, x = .bl c /\ Q (.bl (!c)) H1
theorem pe_one {op} {t : TE} (h : PE X a t) : PE X (.BoolOp op [a] pos) t := fun pins s σ H Q I hw => BoolOp_one (h pins s σ H Q I hw)
theorem pe_and (ha : PE X a ta) (hb : PE X (.BoolOp .And (b :: rest) pos) tb) : PE X (.BoolOp .And (a :: b :: rest) pos) (tAndV ta tb) := by
 intro pins s σ H Q I h
 refine BoolOp_and (thn (ha pins s σ H _ I h) fun v s1 ⟨x, H1, I1, r1, q1⟩ => ?_)
 obtain ⟨c, rfl, q1⟩ := q1
 cases r1
 refine wpAny_truthy_bool ?_
 cases c with
 | true => exact hb pins s1 σ H1 Q I1 q1
 | false => exact ⟨.bl false, H1, I1, rfl, q1⟩
theorem pe_not (ha : PE X a ta) : PE X (.UnaryOp .Not a pos) (tNotV ta) := by
 intro pins s σ H Q I h
 refine UnaryOp_ (thn (ha pins s σ H _ I h) fun v s1 ⟨x, H1, I1, r1, q1⟩ => ?_)
 obtain ⟨c, rfl, q1⟩ := q1
 cases r1
 exact not_of (wpAny_truthy_bool ⟨.bl (!c), H1, I1, rfl, q1⟩)
def tIf (t : TT) (ta tb : TE) : TE := fun σ H Q => t σ H fun c H1 => if c = true then ta σ H1 Q else tb σ H1 Q
theorem pe_ifExp {c : Expr} (hc : PT X c tA) (ha : PE X a ta) (hb : PE X b tb) : PE X (.IfExp c a b pos) (tIf tA ta tb) := by
 intro pins s σ H Q I h
 refine wpAny_IfExp (thn (hc pins s σ H _ I h) fun d s1 ⟨H1, I1, q1⟩ => ?_)
 cases d with
 | true => exact ha pins s1 σ H1 Q I1 q1
 | false => exact hb pins s1 σ H1 Q I1 q1
end
end L2
namespace L2
open PySem PySem.Spec PyProof.Rows
def SqL (K : Fg) (H : Hp) (a : Addr) (xs : List V) : Prop :=
 Rd H a (.lst xs) ∨
  ∃ (o : Obj) (its : Array Value) (n : Nat), K.lookup a = some o /\ o.cls = .type "list" /\ o.dict = none /\ o.data = .seq its n /\ its.size ≤ sizeLine /\ Vals xs its.toList
def SqT (K : Fg) (H : Hp) (a : Addr) (xs : List V) : Prop :=
 Rd H a (.tup xs) ∨
  ∃ (o : Obj) (its : Array Value) (n : Nat), K.lookup a = some o /\ o.cls = .type "tuple" /\ o.data = .seq its n /\ its.size ≤ sizeLine /\ Vals xs its.toList
def absV : Value -> Option V
 | .none => some .non
 | .bool b => some (.bl b)
 | .int i _ => some (.int i)
 | .str x _ => some (.str x)
 | .bytes b _ => some (.byt b)
 | .float b _ => some (.flt b)
 | .ref a => some (.ref a)
 | .type n => some (.ty n)
 | _ => none
theorem RelV.abs {x : V} {u : Value} (r : RelV x u) : absV u = some x := by
 cases x with
 | non => cases r; rfl
 | bl _ => cases r; rfl
 | int _ => obtain ⟨t, rfl⟩ := r; rfl
 | str _ => obtain ⟨t, rfl⟩ := r; rfl
 | byt _ => obtain ⟨t, rfl⟩ := r; rfl
 | flt _ => obtain ⟨t, rfl⟩ := r; rfl
 | ref _ => cases r; rfl
 | ty _ => cases r; rfl
theorem RelV.inj {x y : V} {u : Value} (r : RelV x u) (q : RelV y u) : x = y := Option.some.inj (r.abs.symm.trans q.abs)
theorem Vals.inj : ∀ {xs ys : List V} {us : List Value}, Vals xs us -> Vals ys us -> xs = ys
 | _, _, _, .nil, .nil => rfl
 | _, _, _, .cons r t, .cons r' t' => by rw [r.inj r', Vals.inj t t']
section
variable {X : Cx} {pins : PLs} {σ : St} {H : Hp} {s : Shared} {a : Addr} {xs ys : List V}
theorem SqL.of {K : Fg} (h : H a = some (.lst xs)) : SqL K H a xs := .inl (.inl h)
theorem SqT.of {K : Fg} (h : H a = some (.tup xs)) : SqT K H a xs := .inl (.inl h)
theorem Inv.list (I : Inv X pins σ H s) (h : SqL X.K H a xs) : ∃ its : List Value, Vals xs its /\ PlainL s.heap a its.toArray /\ xs.length ≤ sizeLine := by
 rcases h with h | ⟨o, its, n, hk, hc, hd, hs, hz, r⟩
 ·obtain ⟨z, its, n, r, e⟩ := h.ok I.hok
  exact ⟨its, r, ⟨_, n, e, rfl, rfl, rfl⟩, z⟩
 ·refine ⟨its.toList, r, ⟨o, n, I.kIn a o hk, hc, hd, by simpa using hs⟩, ?_⟩
  have e := r.length
  simp only [Array.length_toList] at e
  omega
theorem Inv.tuple (I : Inv X pins σ H s) (h : SqT X.K H a xs) : ∃ its : List Value, Vals xs its /\ IsTup s.heap a its.toArray /\ xs.length ≤ sizeLine := by
 rcases h with h | ⟨o, its, n, hk, hc, hs, hz, r⟩
 ·obtain ⟨z, its, r, p⟩ := h.ok I.hok
  exact ⟨its, r, p, z⟩
 ·refine ⟨its.toList, r, ⟨o, I.kIn a o hk, hc, n, by simpa using hs⟩, ?_⟩
  have e := r.length
  simp only [Array.length_toList] at e
  omega
theorem Inv.list_inj (I : Inv X pins σ H s) (h : SqL X.K H a xs) (h' : SqL X.K H a ys) : xs = ys := by
 obtain ⟨its, r, ⟨o, n, e, _, _, d⟩, _⟩ := I.list h
 obtain ⟨its', r', ⟨o', n', e', _, _, d'⟩, _⟩ := I.list h'
 rw [e] at e'; cases e'
 rw [d] at d'
 injection d' with d1 _
 have : its = its' := by simpa using congrArg Array.toList d1
 subst this
 exact r.inj r'
theorem Inv.tuple_inj (I : Inv X pins σ H s) (h : SqT X.K H a xs) (h' : SqT X.K H a ys) : xs = ys := by
 obtain ⟨its, r, ⟨o, e, _, n, d⟩, _⟩ := I.tuple h
 obtain ⟨its', r', ⟨o', e', _, n', d'⟩, _⟩ := I.tuple h'
 rw [e] at e'; cases e'
 rw [d] at d'
 injection d' with d1 _
 have : its = its' := by simpa using congrArg Array.toList d1
 subst this
 exact r.inj r'
end
abbrev Cx.wish (X : Cx) (E : VSP) : Cx := { X with xe := E }
abbrev Cx.nox (X : Cx) : Cx := X.wish fun _ _ => False
theorem Cx.Ok.wish {X : Cx} (ok : X.Ok) (E : VSP) : (X.wish E).Ok :=
 ⟨ok.mod, ok.kind, ok.glob, ok.blt, ok.above, ok.inj, ok.has, ok.cab, ok.hd, ok.frames, ok.stk, ok.exf, ok.bs, ok.bsz, ok.noex, ok.exfs, ok.funs, ok.frf⟩
theorem Cx.Ok.unwish {X : Cx} {E : VSP} (ok : (X.wish E).Ok) : X.Ok :=
 ⟨ok.mod, ok.kind, ok.glob, ok.blt, ok.above, ok.inj, ok.has, ok.cab, ok.hd, ok.frames, ok.stk, ok.exf, ok.bs, ok.bsz, ok.noex, ok.exfs, ok.funs, ok.frf⟩
section
variable {X : Cx} {pins : PLs} {σ : St} {H : Hp} {s : Shared} {E : VSP}
theorem Inv.wish (I : Inv X pins σ H s) (E : VSP) : Inv (X.wish E) pins σ H s := ⟨I.ok.wish E, I.os, I.bare, I.base, I.loc, I.cell, I.free, I.freeC, I.pin, I.hok, I.len⟩
theorem Inv.unwish (I : Inv (X.wish E) pins σ H s) : Inv X pins σ H s := ⟨I.ok.unwish, I.os, I.bare, I.base, I.loc, I.cell, I.free, I.freeC, I.pin, I.hok, I.len⟩
theorem SP.unwish {D : Ends} {f : Flow} {s' : Shared} (h : SP (X.wish E) pins D f s') : SP X pins D f s' := by
 cases f with
 | next => obtain ⟨σ', H', I, q⟩ := h; exact ⟨σ', H', I.unwish, q⟩
 | brk => obtain ⟨σ', H', I, q⟩ := h; exact ⟨σ', H', I.unwish, q⟩
 | cont => obtain ⟨σ', H', I, q⟩ := h; exact ⟨σ', H', I.unwish, q⟩
 | ret u => obtain ⟨v, σ', H', I, r, q⟩ := h; exact ⟨v, σ', H', I.unwish, r, q⟩
theorem PSs.nox {st : List Stmt} {t : TS} (h : PSs X.nox st t) : PSs X st t := fun pins s σ H D I hw =>
 wpAny_mono (h pins s σ H D (I.wish _) hw) (fun _ _ q => q.unwish) fun _ _ z => False.elim z
end
section
variable {X : Cx} {st : Stmt} {rest : List Stmt} {t u : TS} {e : Expr} {te : TE} {pos : Pos}
def tNext : TS := fun D σ H => D.nx σ H
def tSeq (t u : TS) : TS := fun D σ H => t { D with nx := u D } σ H
theorem pss_nil : PSs X [] tNext := fun _ _ σ H _ I h => wpAny_execs_nil ⟨σ, H, I, h⟩
theorem pss_cons (h1 : PS X st t) (h2 : PSs X rest u) : PSs X (st :: rest) (tSeq t u) := by
 intro pins s σ H D I h
 refine wpAny_execs_cons (thn (h1 pins s σ H { D with nx := u D } I h) fun f s1 q => ?_)
 cases f with
 | next =>
  obtain ⟨σ', H', I', q⟩ := q
  exact h2 pins s1 σ' H' D I' q
 | ret v => exact q
 | brk => exact q
 | cont => exact q
theorem pss_one (h1 : PS X st t) : PSs X [st] t := by
 intro pins s σ H D I h
 refine wpAny_execs_cons (thn (h1 pins s σ H D I h) fun f s1 q => ?_)
 cases f with
 | next => exact wpAny_execs_nil q
 | ret v => exact q
 | brk => exact q
 | cont => exact q
def tBreak : TS := fun D σ H => D.bk σ H
def tCont : TS := fun D σ H => D.ct σ H
theorem Inv.quiet {pins : PLs} {σ : St} {H : Hp} {s : Shared} (I : Inv X pins σ H s) : interactive X.env = false := by simp [interactive, I.ok.kind]
def tDrop (te : TE) : TS := fun D σ H => te σ H fun _ H1 => D.nx σ H1
theorem ps_expr (he : PE X e te) (hs : swapsWith e none pos.line X.env = pure false := by rfl) : PS X (.Expr e pos) (tDrop te) := by
 intro pins s σ H D I h
 exact wpAny_Expr_any (thn (he pins s σ H _ I h) fun v s1 ⟨x, H1, I1, r1, q1⟩ => ⟨σ, H1, I1, q1⟩) I.quiet hs
def tRet (te : TE) : TS := fun D σ H => te σ H D.rt
theorem ps_ret (he : PE X e te) : PS X (.Return (some e) pos) (tRet te) := by
 intro pins s σ H D I h
 exact wpAny_Return_some (thn (he pins s σ H _ I h) fun v s1 ⟨x, H1, I1, r1, q1⟩ => ⟨x, σ, H1, I1, r1, q1⟩)
def tRetN : TS := fun D _ H => D.rt .non H
def tIfS (c : TT) (t u : TS) : TS := fun D σ H => c σ H fun b H1 => if b = true then t D σ H1 else u D σ H1
theorem ps_if {c : Expr} {a b : List Stmt} {tc : TT} (hc : PT X c tc) (ha : PSs X a t) (hb : PSs X b u) : PS X (.If c a b pos) (tIfS tc t u) := by
 intro pins s σ H D I h
 refine wpAny_If (thn (hc pins s σ H _ I h) fun d s1 ⟨H1, I1, q1⟩ => ?_)
 cases d with
 | true => exact ha pins s1 σ H1 D I1 q1
 | false => exact hb pins s1 σ H1 D I1 q1
def tNever : TS := fun _ _ _ => False
theorem ps_never : PS X st tNever := fun _ _ _ _ _ _ h => h.elim
end
abbrev TG := V -> St -> Hp -> (St -> Hp -> Prop) -> Prop
abbrev TGs := List V -> St -> Hp -> (St -> Hp -> Prop) -> Prop
def PG (X : Cx) (target : Expr) (t : TG) : Prop :=
 ∀ (pins : PLs) (s : Shared) (σ : St) (H : Hp) (v : V) (u : Value) (Q : St -> Hp -> Prop), Inv X pins σ H s -> RelV v u -> t v σ H Q →
  wpAny (model X.prog X.w) X.A (assign target X.env u) (fun _ s' => ∃ σ' H', Inv X pins σ' H' s' /\ Q σ' H') X.xe s
def PGs (X : Cx) (ts : List Expr) (t : TGs) : Prop :=
 ∀ (pins : PLs) (s : Shared) (σ : St) (H : Hp) (vs : List V) (us : List Value) (Q : St -> Hp -> Prop), Inv X pins σ H s -> Vals vs us -> t vs σ H Q →
  wpAny (model X.prog X.w) X.A (assignInOrder ((assignEach ts X.env).map (·.2)) us) (fun _ s' => ∃ σ' H', Inv X pins σ' H' s' /\ Q σ' H') X.xe s
abbrev TSet := V -> V -> V -> Hp -> (Hp -> Prop) -> Prop
def PSet (X : Cx) (t : TSet) : Prop :=
 ∀ (pins : PLs) (s : Shared) (σ : St) (H : Hp) (o i v : V) (ov iv u : Value) (Q : Hp -> Prop), Inv X pins σ H s -> RelV o ov -> RelV i iv -> RelV v u -> t o i v H Q →
  wpAny (model X.prog X.w) X.A (setItem ov iv u) (fun _ s' => ∃ H', Inv X pins σ H' s' /\ Q H') X.xe s
abbrev TIp := V -> V -> Hp -> VK -> Prop
def PIp (X : Cx) (op : Operator) (t : TIp) : Prop :=
 ∀ (pins : PLs) (s : Shared) (σ : St) (H : Hp) (x y : V) (v u : Value) (Q : VK), Inv X pins σ H s -> RelV x v -> RelV y u -> t x y H Q →
  wpAny (model X.prog X.w) X.A (inplaceOp op v u) (EP X pins σ Q) X.xe s
section
variable {X : Cx} {pos : Pos}
def gName (i : Nat) : TG := fun v σ H Q => Q (σ.set i (some v)) H
theorem pg_name {i : Nat} {x : Str} (hN : X.N.Nodup) (hi : X.N[i]? = some x) (hx : Loc X.env.scope x) (hf : X.fn x = true ∨ X.env.scope.names.lookup x = some .local := by first | exact .inl rfl | exact .inr rfl | assumption) : PG X (.Name x pos) (gName i) := by
 intro pins s σ H v u Q I r h
 exact wpAny_assign_Name (store_ok I hN hi hx r (fun s' I' => ⟨_, H, I', h⟩) hf)
def gNil : TGs := fun vs σ H Q => vs = [] /\ Q σ H
def gCons (t : TG) (u : TGs) : TGs := fun vs σ H Q => ∃ v r, vs = v :: r /\ t v σ H fun σ' H' => u r σ' H' Q
theorem pgs_nil : PGs X [] gNil := by
 intro pins s σ H vs us Q I r h
 obtain ⟨e, h⟩ := h
 subst e
 cases r
 exact assignInOrder_nil ⟨σ, H, I, h⟩
theorem pgs_cons {e : Expr} {es : List Expr} {t : TG} {u : TGs} (h1 : PG X e t) (h2 : PGs X es u)
  (hs : (assignEach (e :: es) X.env).map (·.2) = assign e X.env :: (assignEach es X.env).map (·.2) := by rfl) : PGs X (e :: es) (gCons t u) := by
 intro pins s σ H vs us Q I r h
 obtain ⟨v, vr, e1, h⟩ := h
 subst e1
 cases r with
 | cons r rr =>
  rw [hs]
  refine assignInOrder_cons (thn (h1 pins s σ H _ _ _ I r h) fun _ s1 ⟨σ1, H1, I1, q1⟩ => ?_)
  exact h2 pins s1 σ1 H1 _ _ Q I1 rr q1
def gTup (K : Fg) (n : Nat) (t : TGs) : TG := fun v σ H Q => ∃ a xs, v = .ref a /\ SqT K H a xs /\ xs.length = n /\ t xs σ H Q
theorem pg_tup {es : List Expr} {k : Nat} {t : TGs} {n : Nat} (hc : X.calm = true) (h : PGs X es t)
  (hn : (assignEach es X.env).length = n := by rfl) (hst : (assignEach es X.env).findIdx? (·.1) = none := by rfl) : PG X (.Tuple es k pos) (gTup X.K n t) := by
 intro pins s σ H v u Q I r hw
 obtain ⟨a, xs, e1, hq, hl, hw⟩ := hw
 subst e1
 cases r
 obtain ⟨its, rv, ht, hz⟩ := I.tuple hq
 refine assign_Tuple_tuple (I.ok.hd hc) ht (by simp [hn, ← hl, rv.length]) hst fun h' hx => ?_
 have I1 : Inv X pins σ H { s with heap := h' } := I.kept (t' := s.toks) fun b o e => hx b o (Nat.ne_of_lt (Heap.lt_size e)) e
 exact h pins _ σ H xs _ Q I1 (by simpa using rv) hw
def gSub (to ti : TE) (t : TSet) : TG := fun v σ H Q => to σ H fun o H1 => ti σ H1 fun i H2 => t o i v H2 fun H3 => Q σ H3
theorem pg_sub {o i : Expr} {to ti : TE} {t : TSet} (ho : PE X o to) (hi : PE X i ti) (hs : PSet X t)
  (ha : ∀ v, assign (.Subscript o i pos) X.env v = (do
   let ov ← holding [v] (eval o X.env)
   let iv ← holding [v, ov] (eval i X.env)
   standAt pos
   holding [v, ov, iv] (setItem ov iv v)
   release [v, ov, iv] []) := by intro _; rfl) : PG X (.Subscript o i pos) (gSub to ti t) := by
 intro pins s σ H v u Q I r h
 rw [ha]
 refine wpAny_bind (wpAny_holding (thn (ho pins s σ H _ I h) fun ov s1 ⟨x, H1, I1, r1, q1⟩ => ?_))
 refine wpAny_bind (wpAny_holding (thn (hi pins s1 σ H1 _ I1 q1) fun iv s2 ⟨y, H2, I2, r2, q2⟩ => ?_))
 refine wpAny_bind (wpAny_standAt (wpAny_bind (wpAny_holding (thn (hs pins s2 σ H2 x y v ov iv u _ I2 r1 r2 r q2) fun _ s3 ⟨H3, I3, q3⟩ => ?_))))
 exact wpAny_release ⟨σ, H3, I3, q3⟩
def tAsg (te : TE) (g : TG) : TS := fun D σ H => te σ H fun x H1 => g x σ H1 D.nx
theorem ps_asg {tg e : Expr} {te : TE} {g : TG} (he : PE X e te) (hg : PG X tg g) (hs : swapsWithSole [tg] e pos.line X.env = pure false := by rfl) (hw : swappedStores [tg] e X.env = pure none := by rfl)
  (h1 : (assignEach [tg] X.env).map (·.2) = [assign tg X.env] := by rfl) : PS X (.Assign [tg] e pos) (tAsg te g) := by
 intro pins s σ H D I h
 refine wpAny_Assign_stores (thn (he pins s σ H _ I h) fun v s1 ⟨x, H1, I1, r1, q1⟩ => ?_) hs hw
 rw [h1]
 exact thn (hg pins s1 σ H1 x v _ I1 r1 q1) fun _ s2 q => q
theorem ps_set {i : Nat} {x : Str} {e : Expr} {te : TE} {pos' : Pos} (hN : X.N.Nodup) (hi : X.N[i]? = some x) (hx : Loc X.env.scope x) (he : PE X e te) (hs : swapsWith e (some (.Name x pos')) pos.line X.env = pure false := by rfl) (hf : X.fn x = true ∨ X.env.scope.names.lookup x = some .local := by first | exact .inl rfl | exact .inr rfl | assumption) :
  PS X (.Assign [.Name x pos'] e pos) (tAsg te (gName i)) := by
 intro pins s σ H D I h
 refine wpAny_Assign_Name (thn (he pins s σ H _ I h) fun v s1 ⟨y, H1, I1, r1, q1⟩ => ?_) hs
 exact store_ok I1 hN hi hx r1 (fun s2 I2 => ⟨_, H1, I2, q1⟩) hf
def tPar (i j : Nat) (ta : TA) : TS := fun D σ H => ta σ H fun vs H1 => ∃ v w, vs = [v, w] /\ D.nx ((σ.set i (some v)).set j (some w)) H1
theorem ps_par {i j : Nat} {x y : Str} {a b : Expr} {ta : TA} {px py pt : Pos} {kt k2 pt2} (hc : X.calm = true) (hN : X.N.Nodup) (hi : X.N[i]? = some x) (hj : X.N[j]? = some y) (hij : i ≠ j)
  (hx : X.env.scope.names.lookup x = some .local) (hy : X.env.scope.names.lookup y = some .local) (ha : PA X [a, b] ta)
  (hw : swappedStores [.Tuple [.Name x px, .Name y py] kt pt] (.Tuple [a, b] k2 pt2) X.env = pure (some [x, y]))
  (hs : swapsWithSole [.Tuple [.Name x px, .Name y py] kt pt] (.Tuple [a, b] k2 pt2) pos.line X.env = pure false := by rfl) :
  PS X (.Assign [.Tuple [.Name x px, .Name y py] kt pt] (.Tuple [a, b] k2 pt2) pos) (tPar i j ta) := by
 intro pins s σ H D I h
 rw [exec_Assign_arm]
 refine wpAny_bind (wpAny_standAt ?_)
 rw [hs]
 refine wpAny_bind (wpAny_pure ?_)
 rw [if_neg (by decide)]
 refine wpAny_bind (Tuple_ (thn (ha _ pins s σ H _ I h) fun us s1 ⟨vs, H1, I1, r1, q1⟩ => ?_))
 obtain ⟨v, w, e1, q1⟩ := q1
 subst e1
 obtain ⟨u1, u2, rfl, rv, rw'⟩ : ∃ u1 u2, us = [u1, u2] /\ RelV v u1 /\ RelV w u2 := by
  cases r1 with
  | cons p q =>
   cases q with
   | cons p' q' =>
    cases q'
    exact ⟨_, _, rfl, p, p'⟩
 refine wpAny_newObj_type ?_ zl2
 have I2 : Inv X pins σ H1 { s1 with heap := s1.heap.push { cls := .type "tuple", data := .seq [u1, u2].toArray } } := I1.kept (t' := s1.toks) fun b o e => Heap.get?_push_of_some _ e
 rw [hw]
 refine wpAny_bind (wpAny_pure ?_)
 show wpAny (model X.prog X.w) X.A (do rule "assign.swapped-stores"; let items ← unpackItems (.ref s1.heap.objs.size) 2 none; assignInOrder [fun v => bindName X.env y v, fun v => bindName X.env x v] items.reverse; pure Flow.next) _ _ _
 refine wpAny_bind (wpAny_rule (wpAny_bind (unpackItems_tuple (items := #[u1, u2]) (I.ok.hd hc) (IsTup.new s1.heap _) fun h' hx' => ?_)))
 have I3 := I2.kept (h' := h') (t' := s1.toks) fun b o e => hx' b o (Nat.ne_of_lt (Heap.lt_size e)) e
 show wpAny _ _ (assignInOrder [fun v => bindName X.env y v, fun v => bindName X.env x v] [u2, u1] >>= fun _ => pure Flow.next) _ _ _
 refine wpAny_bind (assignInOrder_cons (wpAny_bindName (store_ok I3 hN hj (.inl hy) rw' (fun s2 I4 => ?_) (.inr hy))))
 refine assignInOrder_cons (wpAny_bindName (store_ok I4 hN hi (.inl hx) rv (fun s3 I5 => assignInOrder_nil (wpAny_pure ?_)) (.inr hx)))
 rw [List.set_comm _ _ (Ne.symm hij)] at I5
 exact ⟨_, H1, I5, q1⟩
def tAug (i : Nat) (te : TE) (ti : TIp) : TS := fun D σ H => ∃ x, σ[i]? = some (some x) /\ te σ H fun y H1 => ti x y H1 fun z H2 => D.nx (σ.set i (some z)) H2
def tAugS (to ti te : TE) (tget : V -> V -> Hp -> VK -> Prop) (tip : TIp) (tset : TSet) : TS := fun D σ H => to σ H fun o H1 => ti σ H1 fun i H2 => tget o i H2 fun x H3 => te σ H3 fun y H4 => tip x y H4 fun z H5 => tset o i z H5 fun H6 => D.nx σ H6
def PGet (X : Cx) (t : V -> V -> Hp -> VK -> Prop) : Prop :=
 ∀ (pins : PLs) (s : Shared) (σ : St) (H : Hp) (o i : V) (ov iv : Value) (Q : VK), Inv X pins σ H s -> RelV o ov -> RelV i iv -> t o i H Q →
  wpAny (model X.prog X.w) X.A (getItem ov iv) (EP X pins σ Q) X.xe s
def ipI (f : Int -> Int -> Int) : TIp := fun x y H Q => ∃ i j, x = .int i /\ y = .int j /\ Q (.int (f i j)) H
end
section
variable {X : Cx} {pos : Pos}
def tWhile (c : TT) (tb : TS) : TS := fun D σ H => ∃ W : Nat -> St -> Hp -> Prop, (∃ m, W m σ H) /\ ∀ m σ H, W m σ H →
 c σ H fun b H1 => if b = true then ∃ N : St -> Hp -> Prop, (∀ σ' H', N σ' H' -> ∃ m', m' < m /\ W m' σ' H') /\ tb { D with nx := N, ct := N, bk := D.nx } σ H1 else D.nx σ H1
theorem ps_while {c : Expr} {body : List Stmt} {tc : TT} {tb : TS} (hp : PassesOwn (model X.prog X.w) X.A X.env X.xe) (hc : PT X c tc) (hb : PSs X body tb) : PS X (.While c body [] pos) (tWhile tc tb) := by
 intro pins s σ H D I h
 obtain ⟨W, ⟨m0, w0⟩, turn⟩ := h
 refine wpAny_While (codeAny_whileLoop (fun n s' => ∃ σ' H', Inv X pins σ' H' s' /\ W n σ' H') ?_ m0 ⟨σ, H, I, w0⟩)
 rintro n s1 ⟨σ1, H1, I1, w1⟩
 refine wpAny_passesOwn hp (thn (hc pins s1 σ1 H1 _ I1 (turn n σ1 H1 w1)) fun b s2 ⟨H2, I2, q2⟩ => ?_)
 cases b with
 | true =>
  obtain ⟨N, hN, q2⟩ := q2
  rw [if_pos rfl]
  refine wpAny_passesOwn hp (thn (hb pins s2 σ1 H2 _ I2 q2) fun f s3 q3 => ?_)
  cases f with
  | next =>
   obtain ⟨σ3, H3, I3, n3⟩ := q3
   obtain ⟨m', hm, w3⟩ := hN σ3 H3 n3
   exact ⟨m', hm, σ3, H3, I3, w3⟩
  | cont =>
   obtain ⟨σ3, H3, I3, n3⟩ := q3
   obtain ⟨m', hm, w3⟩ := hN σ3 H3 n3
   exact ⟨m', hm, σ3, H3, I3, w3⟩
  | brk => exact q3
  | ret v => exact q3
 | false =>
  rw [if_neg Bool.false_ne_true]
  exact wpAny_execs_nil ⟨σ1, H2, I2, q2⟩
end
structure It where
 go : Nat -> Hp -> Prop
 yld : Nat -> Hp -> V -> Hp -> Prop
 stop : Nat -> Hp -> Prop
def FpOk (X : Cx) (pins : PLs) (H : Hp) (b : Addr) : Prop :=
 H b = none /\ b ≠ X.env.locals /\ b ∉ X.fs /\ (b ∈ X.ex ∨ X.s₀.heap.get? b = none) /\ (∀ x c, X.env.cells.lookup x = some c -> c ≠ b) /\ ∀ p ∈ X.pn ++ pins, p.1 ≠ b
theorem Inv.fpOk {X : Cx} {pins : PLs} {σ : St} {H H' : Hp} {s : Shared} {b : Addr} (I : Inv X pins σ H s) (hb : s.heap.objs.size ≤ b) (hn : H' b = none) : FpOk X pins H' b := by
 refine ⟨hn, Nat.ne_of_gt (Nat.lt_of_lt_of_le I.lt hb), I.nofs hb, .inr (Heap.get?_none_of_le (Nat.le_trans I.sz hb)), fun x c e z => ?_, fun p hp z => ?_⟩
 ·obtain ⟨v, q⟩ := I.cell x c e
  exact absurd (Nat.lt_of_lt_of_le q.lt (by rw [z]; exact hb)) (Nat.lt_irrefl _)
 ·exact absurd (Nat.lt_of_lt_of_le (Heap.lt_size (I.pin p hp).1) (by rw [z]; exact hb)) (Nat.lt_irrefl _)
structure Turn (P : Program) (w : World) (K : Fg) (tg : Expr) (J : It) (fp : List Addr) (it : Addr) (tn : Nat -> Heap -> Prop) : Prop where
 mem : it ∈ fp
 obj : ∀ i h, tn i h -> ∀ b ∈ fp, ∃ o, h.get? b = some o /\ ∀ v, o.data ≠ .cell v
 keep : ∀ i h h', tn i h -> (∀ b ∈ fp, ∀ o, h.get? b = some o -> h'.get? b = some o) -> tn i h'
 item : ∀ (X : Cx), X.prog = P -> X.w = w -> X.K = K -> X.calm = true -> ∀ (i : Nat) (pins : PLs) (s : Shared) (σ : St) (H : Hp) (E : VSP), Inv X pins σ H s -> (∀ b ∈ fp, FpOk X pins H b) -> tn i s.heap -> J.go i H →
  wpAny (model P w) X.A (pyNext (.ref it)) (fun r s1 => ∃ u, r = some u ∧
   wpAny (model P w) X.A (letOwnedTupleGo tg (.ref it) u) (fun _ s2 => ∃ x H', Inv X pins σ H' s2 /\ RelV x u /\ J.yld i H x H' /\ tn (i + 1) s2.heap /\ ∀ b ∈ fp, H' b = none) E s1) E s
 done : ∀ (X : Cx), X.prog = P -> X.w = w -> X.K = K -> X.calm = true -> ∀ (i : Nat) (pins : PLs) (s : Shared) (σ : St) (H : Hp) (E : VSP), Inv X pins σ H s -> (∀ b ∈ fp, FpOk X pins H b) -> tn i s.heap -> J.stop i H →
  wpAny (model P w) X.A (pyNext (.ref it)) (fun r s1 => r = none /\ Inv X pins σ H s1) E s
 self : ∀ (A : Around) (i : Nat) (s : Shared) (Q : VSP) (E : VSP), tn i s.heap -> Q (.ref it) s -> wpAny (model P w) A (pyIter (.ref it)) Q E s
abbrev TI := St -> Hp -> (It -> Hp -> Prop) -> Prop
def PIE (X : Cx) (pins : PLs) (σ : St) (tg : Expr) (R : It -> Hp -> Prop) (itv : Value) (s2 : Shared) : Prop :=
 ∃ (it : Addr) (fp : List Addr) (tn : Nat -> Heap -> Prop) (J : It) (H' : Hp), itv = .ref it /\ Inv X pins σ H' s2 /\ Turn X.prog X.w X.K tg J fp it tn /\ tn 0 s2.heap /\ (∀ b ∈ fp, FpOk X pins H' b) /\ R J H'
def PI (X : Cx) (tg iter : Expr) (wi : TI) : Prop :=
 ∀ (pins : PLs) (s : Shared) (σ : St) (H : Hp) (R : It -> Hp -> Prop), Inv X pins σ H s -> wi σ H R →
  wpAny (model X.prog X.w) X.A (eval iter X.env) (fun v s1 => wpAny (model X.prog X.w) X.A (pyIter v) (PIE X pins σ tg R) X.xe s1) X.xe s
theorem go_of {M : Model} {A : Around} {E : VSP} {s : Shared} {tg : Expr} {it : Addr} {u : Value} {o : Obj} {n : String} {vs : Array Value} {Q : Unit -> Shared -> Prop} (ho : s.heap.get? it = some o) (hc : o.cls = .type n) (hd : o.data = .fields vs)
  (hn : ["enumerate", "zip", "dict_itemiterator", "dict_reverseitemiterator", "odict_iterator", "itertools.zip_longest", "itertools.pairwise"].contains n = false) (hQ : Q () s) : wpAny M A (letOwnedTupleGo tg (.ref it) u) Q E s := by
 unfold letOwnedTupleGo
 cases tg <;> first
  | exact wpAny_pure hQ
  | (cases u <;> first
    | exact wpAny_pure hQ
    | (refine wpAny_bind (wpAny_load ho ?_)
       rw [hc, hd]
       show wpAny M A (if (["enumerate", "zip", "dict_itemiterator", "dict_reverseitemiterator", "odict_iterator", "itertools.zip_longest", "itertools.pairwise"].contains n && vs[0]? == some (rawInt _)) = true then _ else _) Q E s
       rw [if_neg (by intro h; rw [hn, Bool.false_and] at h; cases h)]
       exact wpAny_pure hQ))
def Itl (K : Fg) (a : Addr) : It :=
 ⟨fun i H => ∃ xs x, SqL K H a xs /\ xs[i]? = some x, fun i H x H' => H' = H /\ ∀ xs, SqL K H a xs -> xs[i]? = some x, fun i H => ∃ xs, SqL K H a xs /\ xs.length ≤ i⟩
def Itt (K : Fg) (a : Addr) : It :=
 ⟨fun i H => ∃ xs x, SqT K H a xs /\ xs[i]? = some x, fun i H x H' => H' = H /\ ∀ xs, SqT K H a xs -> xs[i]? = some x, fun i H => ∃ xs, SqT K H a xs /\ xs.length ≤ i⟩
def Itr (lo : Int) (n : Nat) : It := ⟨fun i _ => i < n, fun i H x H' => H' = H /\ x = .int (lo + i), fun i _ => n ≤ i⟩
theorem turn_list {P : Program} {w : World} {K : Fg} {tg : Expr} (a it : Addr) : Turn P w K tg (Itl K a) [it] it (fun i h => h.IsListIter it a i) where
 mem := by simp
 obj := fun i h st b hb => by
  have e : b = it := by simpa using hb
  subst e
  obtain ⟨o, e, c, d⟩ := st
  exact ⟨o, e, fun v z => by rw [d] at z; cases z⟩
 keep := fun i h h' st k => st.at fun o e => k it (by simp) o e
 item := by
  intro X hP hw hK hc i pins s σ H E I hf st hg
  subst hP hw hK
  obtain ⟨xs, x, hq, hx⟩ := hg
  obtain ⟨its, rv, p, hz⟩ := I.list hq
  obtain ⟨u, hu, ru⟩ := rv.get hx
  obtain ⟨f0, f1, f2, f3, f4, f5⟩ := hf it (by simp)
  refine wpAny_pyNext_list_item st p.isList (x := u) (by simpa using hu) fun h' st' sb => ?_
  have I1 : Inv X pins σ H { s with heap := h' } := I.turned (t' := s.toks) (fun b o hb e => (sb.2 b hb).trans e) f0 f1 f3 f4 f5
  obtain ⟨o, e, c, d⟩ := id st'
  exact ⟨u, rfl, go_of (s := { s with heap := h' }) e c d (by decide) ⟨x, H, I1, ru, ⟨rfl, fun ys hy => by rw [I.list_inj hy hq]; exact hx⟩, st', fun b hb => (hf b hb).1⟩⟩
 done := by
  intro X hP hw hK hc i pins s σ H E I hf st hg
  subst hP hw hK
  obtain ⟨xs, hq, hx⟩ := hg
  obtain ⟨its, rv, p, hz⟩ := I.list hq
  obtain ⟨f0, f1, f2, f3, f4, f5⟩ := hf it (by simp)
  have hl := rv.length
  exact wpAny_pyNext_list_end (I.ok.hd hc) st p.isList (by simp; omega) fun h' eb => ⟨rfl, I.turned (t' := s.toks) (fun b o hb e => eb b o hb e) f0 f1 f3 f4 f5⟩
 self := fun _ _ _ _ _ st h => wpAny_pyIter_listiter st h
theorem turn_tuple {P : Program} {w : World} {K : Fg} {tg : Expr} (a it : Addr) : Turn P w K tg (Itt K a) [it] it (fun i h => h.IsTupleIter it a i) where
 mem := by simp
 obj := fun i h st b hb => by
  have e : b = it := by simpa using hb
  subst e
  obtain ⟨o, e, c, d⟩ := st
  exact ⟨o, e, fun v z => by rw [d] at z; cases z⟩
 keep := fun i h h' st k => st.at fun o e => k it (by simp) o e
 item := by
  intro X hP hw hK hc i pins s σ H E I hf st hg
  subst hP hw hK
  obtain ⟨xs, x, hq, hx⟩ := hg
  obtain ⟨its, rv, p, hz⟩ := I.tuple hq
  obtain ⟨u, hu, ru⟩ := rv.get hx
  obtain ⟨f0, f1, f2, f3, f4, f5⟩ := hf it (by simp)
  refine wpAny_pyNext_tuple_item st (show s.heap.IsTuple a its.toArray from p) (x := u) (by simpa using hu) fun h' st' sb => ?_
  have I1 : Inv X pins σ H { s with heap := h' } := I.turned (t' := s.toks) (fun b o hb e => (sb.2 b hb).trans e) f0 f1 f3 f4 f5
  obtain ⟨o, e, c, d⟩ := id st'
  exact ⟨u, rfl, go_of (s := { s with heap := h' }) e c d (by decide) ⟨x, H, I1, ru, ⟨rfl, fun ys hy => by rw [I.tuple_inj hy hq]; exact hx⟩, st', fun b hb => (hf b hb).1⟩⟩
 done := by
  intro X hP hw hK hc i pins s σ H E I hf st hg
  subst hP hw hK
  obtain ⟨xs, hq, hx⟩ := hg
  obtain ⟨its, rv, p, hz⟩ := I.tuple hq
  obtain ⟨f0, f1, f2, f3, f4, f5⟩ := hf it (by simp)
  have hl := rv.length
  exact wpAny_pyNext_tuple_end (I.ok.hd hc) st (show s.heap.IsTuple a its.toArray from p) (by simp; omega) fun h' eb => ⟨rfl, I.turned (t' := s.toks) (fun b o hb e => eb b o hb e) f0 f1 f3 f4 f5⟩
 self := fun _ _ _ _ _ st h => wpAny_pyIter_tupleiter st h
theorem turn_range {P : Program} {w : World} {K : Fg} {tg : Expr} (it : Addr) (lo : Int) (n : Nat) : Turn P w K tg (Itr lo n) [it] it (fun i h => IsRangeIter h it (lo + (i : Nat) * 1) ((n : Int) - (i : Nat)) 1) where
 mem := by simp
 obj := fun i h st b hb => by
  have e : b = it := by simpa using hb
  subst e
  exact ⟨_, st, fun v z => by
   have z' : Data.fields _ = Data.cell v := z
   cases z'⟩
 keep := fun i h h' st k => k it (by simp) _ st
 item := by
  intro X hP hw hK hc i pins s σ H E I hf st hg
  subst hP hw hK
  obtain ⟨f0, f1, f2, f3, f4, f5⟩ := hf it (by simp)
  have W := Walks.range (prog := X.prog) (w := X.w) (I.ok.hd hc) it lo 1 n
  refine W.item i s _ _ hg st fun v h' tk hv st' kk => ?_
  obtain ⟨t, rfl⟩ := hv
  have I1 : Inv X pins σ H { s with heap := h', toks := tk } := I.turned (fun b o hb e => kk b o (by simpa using hb) e) f0 f1 f3 f4 f5
  refine ⟨_, rfl, go_of (s := { s with heap := h', toks := tk }) (n := "range_iterator") st' rfl rfl (by decide) ⟨.int (lo + i), H, I1, ⟨t, ?_⟩, ⟨rfl, rfl⟩, st', fun b hb => (hf b hb).1⟩⟩
  rw [Int.mul_one]
 done := by
  intro X hP hw hK hc i pins s σ H E I hf st hg
  subst hP hw hK
  obtain ⟨f0, f1, f2, f3, f4, f5⟩ := hf it (by simp)
  exact wpAny_pyNext_range_end (I.ok.hd hc) st (by have : n ≤ i := hg; omega) fun h' eb => ⟨rfl, I.turned (t' := s.toks) (fun b o hb e => eb b o hb e) f0 f1 f3 f4 f5⟩
 self := fun _ _ _ _ _ st h => wpAny_pyIter_rangeiter st h
end L2
namespace L2
open PySem PySem.Spec PyProof.Rows
section
variable {X : Cx} {tg : Expr}
def iList (K : Fg) (tl : TE) : TI := fun σ H R => tl σ H fun x H1 => ∃ a, x = .ref a /\ (∃ xs, SqL K H1 a xs) /\ R (Itl K a) H1
def iTup (K : Fg) (tl : TE) : TI := fun σ H R => tl σ H fun x H1 => ∃ a, x = .ref a /\ (∃ xs, SqT K H1 a xs) /\ R (Itt K a) H1
theorem pi_list {l : Expr} {tl : TE} (hl : PE X l tl) : PI X tg l (iList X.K tl) := by
 intro pins s σ H R I h
 refine thn (hl pins s σ H _ I h) fun v s1 ⟨x, H1, I1, r1, q1⟩ => ?_
 obtain ⟨a, e, ⟨xs, hq⟩, q⟩ := q1
 subst e
 cases r1
 obtain ⟨its, rv, p, hz⟩ := I1.list hq
 refine wpAny_pyIter_list p.isList ?_
 refine ⟨s1.heap.objs.size, [s1.heap.objs.size], _, _, H1, rfl, I1.kept (t' := s1.toks) fun b o e => Heap.get?_push_of_some _ e, turn_list a _, ⟨_, Heap.get?_push_size _ rfl, rfl, rfl⟩, fun b hb => ?_, q⟩
 have e : b = s1.heap.objs.size := by simpa using hb
 subst e
 exact I1.fpOk (Nat.le_refl _) (I1.hok.fresh (Nat.le_refl _))
theorem pi_tup {l : Expr} {tl : TE} (hl : PE X l tl) : PI X tg l (iTup X.K tl) := by
 intro pins s σ H R I h
 refine thn (hl pins s σ H _ I h) fun v s1 ⟨x, H1, I1, r1, q1⟩ => ?_
 obtain ⟨a, e, ⟨xs, hq⟩, q⟩ := q1
 subst e
 cases r1
 obtain ⟨its, rv, p, hz⟩ := I1.tuple hq
 refine wpAny_pyIter_tuple (show s1.heap.IsTuple a its.toArray from p) ?_
 refine ⟨s1.heap.objs.size, [s1.heap.objs.size], _, _, H1, rfl, I1.kept (t' := s1.toks) fun b o e => Heap.get?_push_of_some _ e, turn_tuple a _, ⟨_, Heap.get?_push_size _ rfl, rfl, rfl⟩, fun b hb => ?_, q⟩
 have e : b = s1.heap.objs.size := by simpa using hb
 subst e
 exact I1.fpOk (Nat.le_refl _) (I1.hok.fresh (Nat.le_refl _))
theorem range_it {pins : PLs} {σ : St} {H : Hp} {s : Shared} {R : It -> Hp -> Prop} {E : VSP} {lo hi : Int} {t u v : Tok} {tk : Nat} (I : Inv X pins σ H s) (h1 : -(2 ^ 62) ≤ lo) (h2 : lo < 2 ^ 62) (h3 : -(2 ^ 62) ≤ hi) (h4 : hi < 2 ^ 62)
  (q : R (Itr lo (hi - lo).toNat) H) : wpAny (model X.prog X.w) X.A (pyIter (.ref s.heap.objs.size)) (PIE X pins σ tg R) E { s with heap := s.heap.push { cls := .type "range", data := .fields #[.int lo t, .int hi u, .int 1 v] }, toks := tk } := by
 refine wpAny_pyIter_range (IsRange.new ..) (small_one h1 h2 h3 h4) ?_
 have I1 : Inv X pins σ H { s with heap := s.heap.push { cls := .type "range", data := .fields #[.int lo t, .int hi u, .int 1 v] }, toks := tk } := I.kept fun b o e => Heap.get?_push_of_some _ e
 refine ⟨(s.heap.push { cls := .type "range", data := .fields #[.int lo t, .int hi u, .int 1 v] }).objs.size, [(s.heap.push { cls := .type "range", data := .fields #[.int lo t, .int hi u, .int 1 v] }).objs.size], _, _, H, rfl,
  I1.kept (t' := tk) fun b o e => Heap.get?_push_of_some _ e, turn_range _ lo (hi - lo).toNat, ?_, fun b hb => ?_, q⟩
 ·have e1 : lo + ((0 : Nat) : Int) * 1 = lo := by simp
  have e2 : (((hi - lo).toNat : Nat) : Int) - ((0 : Nat) : Int) = Builtin.Range.rangeSize lo hi 1 := by rw [rangeSize_one]; split <;> omega
  show IsRangeIter _ _ (lo + ((0 : Nat) : Int) * 1) ((((hi - lo).toNat : Nat) : Int) - ((0 : Nat) : Int)) 1
  rw [e1, e2]
  exact Heap.get?_push_size _ rfl
 ·have e : b = (s.heap.push { cls := .type "range", data := .fields #[.int lo t, .int hi u, .int 1 v] }).objs.size := by simpa using hb
  subst e
  exact I1.fpOk (Nat.le_refl _) (I1.hok.fresh (Nat.le_refl _))
def iRng1 (ta : TA) : TI := fun σ H R => ta σ H fun vs H1 => ∃ j : Int, vs = [.int j] /\ -(2 ^ 62) ≤ j /\ j < 2 ^ 62 /\ R (Itr 0 j.toNat) H1
def iRng2 (ta : TA) : TI := fun σ H R => ta σ H fun vs H1 => ∃ i j : Int, vs = [.int i, .int j] /\ (-(2 ^ 62) ≤ i /\ i < 2 ^ 62 /\ -(2 ^ 62) ≤ j /\ j < 2 ^ 62) /\ R (Itr i (j - i).toNat) H1
theorem pi_range1 {a : Expr} {ta : TA} {p pos : Pos} (hg : Gl X "range") (hm : X.mg "range" = none) (ha : PA X [a] ta) (hs : starEach [a] X.env = [(false, eval a X.env)] := by rfl) : PI X tg (.Call (.Name "range" p) [a] [] pos) (iRng1 ta) := by
 intro pins s σ H R I h
 refine Call_ (ld_blt I hg hm boot_range (PyProof.Rows.callWith_type1 (thn (ha pos pins s σ H _ I h) fun us s1 ⟨vs, H1, I1, r1, q1⟩ => ?_) hs rfl))
 obtain ⟨j, e, q1, q2, q⟩ := q1
 subst e
 cases r1 with
 | cons r rr =>
  cases rr
  obtain ⟨t, rfl⟩ := r
  exact call_range_1 (range_it I1 (by omega) (by omega) q1 q2 (by simpa using q))
theorem pi_range2 {a b : Expr} {ta : TA} {p pos : Pos} (hg : Gl X "range") (hm : X.mg "range" = none) (ha : PA X [a, b] ta) (hs : starEach [a, b] X.env = [(false, eval a X.env), (false, eval b X.env)] := by rfl) (hs2 : starEach [b] X.env = [(false, eval b X.env)] := by rfl) :
  PI X tg (.Call (.Name "range" p) [a, b] [] pos) (iRng2 ta) := by
 intro pins s σ H R I h
 refine Call_ (ld_blt I hg hm boot_range (PyProof.Rows.callWith_type1 (thn (ha pos pins s σ H _ I h) fun us s1 ⟨vs, H1, I1, r1, q1⟩ => ?_) (by rw [hs, hs2]) (by rw [hs2]; rfl)))
 obtain ⟨i, j, e, ⟨q1, q2, q3, q4⟩, q⟩ := q1
 subst e
 cases r1 with
 | cons r rr =>
  cases rr with
  | cons r' rr =>
   cases rr
   obtain ⟨t, rfl⟩ := r
   obtain ⟨t', rfl⟩ := r'
   exact call_range_2 (range_it I1 q1 q2 q3 q4 q)
def tFor (wi : TI) (g : TG) (tb : TS) : TS := fun D σ H => wi σ H fun J H1 => ∃ W : Nat -> Nat -> St -> Hp -> Prop, (∃ m, W 0 m σ H1) /\ ∀ i m σ H, W i m σ H →
 (J.stop i H /\ D.nx σ H) ∨ (J.go i H /\ ∃ N : St -> Hp -> Prop, (∀ σ' H', N σ' H' -> ∃ m', m' < m /\ W (i + 1) m' σ' H') /\ ∀ x H', J.yld i H x H' -> g x σ H' fun σ2 H2 => tb { D with nx := N, ct := N, bk := D.nx } σ2 H2)
def pinsAt (fp : List Addr) (h : Heap) : PLs := fp.filterMap fun b => (h.get? b).map fun o => (b, o)
theorem mem_pinsAt {fp : List Addr} {h : Heap} {b : Addr} {o : Obj} (hb : b ∈ fp) (e : h.get? b = some o) : (b, o) ∈ pinsAt fp h := List.mem_filterMap.mpr ⟨b, hb, by rw [e]; rfl⟩
theorem of_pinsAt {fp : List Addr} {h : Heap} {p : Addr × Obj} (hp : p ∈ pinsAt fp h) : p.1 ∈ fp /\ h.get? p.1 = some p.2 := by
 obtain ⟨b, hb, e⟩ := List.mem_filterMap.mp hp
 cases q : h.get? b with
 | none => rw [q] at e; cases e
 | some o =>
  rw [q] at e
  have e' : (b, o) = p := Option.some.inj e
  subst e'
  exact ⟨hb, q⟩
theorem Inv.pinned {pins : PLs} {σ : St} {H : Hp} {s : Shared} {fp : List Addr} (I : Inv X pins σ H s) (hf : ∀ b ∈ fp, FpOk X pins H b) (ho : ∀ b ∈ fp, ∃ o, s.heap.get? b = some o /\ ∀ v, o.data ≠ .cell v) : Inv X (pins ++ pinsAt fp s.heap) σ H s :=
 I.pins_of fun p hp => (List.mem_append.mp hp).elim (fun z => I.pin p (List.mem_append_right _ z)) fun z => by
  obtain ⟨hb, e⟩ := of_pinsAt z
  obtain ⟨f0, f1, f2, _⟩ := hf p.1 hb
  obtain ⟨o, e', d⟩ := ho p.1 hb
  rw [e] at e'; cases e'
  exact ⟨e, f0, f1, f2, d⟩
theorem Inv.unpinned {pins pl : PLs} {σ : St} {H : Hp} {s : Shared} (I : Inv X (pins ++ pl) σ H s) : Inv X pins σ H s := I.pins_of fun p hp => I.pin p (List.mem_append_right _ (List.mem_append_left _ hp))
theorem ps_for {iter : Expr} {body : List Stmt} {wi : TI} {g : TG} {tb : TS} {pos : Pos} (hp : PassesOwn (model X.prog X.w) X.A X.env X.xe) (hc : X.calm = true) (hi : PI X tg iter wi) (hg : PG X tg g) (hb : PSs X body tb)
  (hs : ∀ x, foldedSetIterable iter X.env x = pure x := by intro _; rfl) : PS X (.For tg iter body [] pos) (tFor wi g tb) := by
 intro pins s σ H D I h
 refine wpAny_For (thn (hi pins s σ H _ I h) fun v s1 h1 => thn h1 fun itv s2 h2 => ?_) hs
 obtain ⟨it, fp, tn, J, H2, e, I2, T, st2, f2, W, ⟨m0, w0⟩, turn⟩ := h2
 subst e
 have stat : ∀ {H' : Hp}, (∀ b ∈ fp, H' b = none) -> ∀ b ∈ fp, FpOk X pins H' b := fun hn b hb => ⟨hn b hb, (f2 b hb).2⟩
 refine codeAny_forLoop_any (fun n s' => ∃ i σ' H', Inv X pins σ' H' s' /\ tn i s'.heap /\ (∀ b ∈ fp, H' b = none) /\ W i n σ' H') ?_ m0 ⟨0, σ, H2, I2, st2, fun b hb => (f2 b hb).1, w0⟩
 rintro n s3 ⟨i, σ3, H3, I3, st3, fr3, w3⟩
 rcases turn i n σ3 H3 w3 with ⟨stop, qn⟩ | ⟨go, N, hN, step⟩
 ·refine wpAny_passesOwn hp (thn (T.done X rfl rfl rfl hc i pins s3 σ3 H3 X.xe I3 (stat fr3) st3 stop) fun r s4 ⟨hr, I4⟩ => ?_)
  subst hr
  exact wpAny_execs_nil ⟨σ3, H3, I4, qn⟩
 ·refine wpAny_passesOwn hp (thn (T.item X rfl rfl rfl hc i pins s3 σ3 H3 X.xe I3 (stat fr3) st3 go) fun r s4 ⟨u, hr, h4⟩ => ?_)
  subst hr
  refine wpAny_passesOwn hp (thn h4 fun _ s5 ⟨x, H5, I5, r5, y5, st5, fr5⟩ => ?_)
  have I5' := I5.pinned (stat fr5) (T.obj _ _ st5)
  refine wpAny_passesOwn hp (thn (hg _ s5 σ3 H5 x u _ I5' r5 (step x H5 y5)) fun _ s6 ⟨σ6, H6, I6, q6⟩ => ?_)
  refine wpAny_passesOwn hp (thn (hb _ s6 σ6 H6 _ I6 q6) fun f s7 q7 => ?_)
  have again : ∀ {σ7 : St} {H7 : Hp}, Inv X (pins ++ pinsAt fp s5.heap) σ7 H7 s7 -> N σ7 H7 -> ∃ m, m < n /\ ∃ i σ' H', Inv X pins σ' H' s7 /\ tn i s7.heap /\ (∀ b ∈ fp, H' b = none) /\ W i m σ' H' := fun {σ7 H7} I7 n7 => by
   obtain ⟨m', hm, w7⟩ := hN σ7 H7 n7
   refine ⟨m', hm, i + 1, σ7, H7, I7.unpinned, T.keep _ _ _ st5 fun b hb o e => (I7.pin (b, o) (List.mem_append_right _ (List.mem_append_right _ (mem_pinsAt hb e)))).1, fun b hb => ?_, w7⟩
   obtain ⟨o, e, d⟩ := T.obj _ _ st5 b hb
   exact (I7.pin (b, o) (List.mem_append_right _ (List.mem_append_right _ (mem_pinsAt hb e)))).2.1
  cases f with
  | next => obtain ⟨σ7, H7, I7, n7⟩ := q7; exact again I7 n7
  | cont => obtain ⟨σ7, H7, I7, n7⟩ := q7; exact again I7 n7
  | brk => obtain ⟨σ7, H7, I7, q7⟩ := q7; exact ⟨σ7, H7, I7.unpinned, q7⟩
  | ret v => obtain ⟨x7, σ7, H7, I7, r7, q7⟩ := q7; exact ⟨x7, σ7, H7, I7.unpinned, r7, q7⟩
end
theorem for_list {K : Fg} {a : Addr} {xs : List V} {g : TG} {tb : TS} {D : Ends} {σ : St} {H : Hp} (Pv : Nat -> St -> Hp -> Prop) (h0 : Pv 0 σ H) (hl : ∀ i σ H, i ≤ xs.length -> Pv i σ H -> SqL K H a xs)
  (hs : ∀ i x σ H, xs[i]? = some x -> Pv i σ H -> g x σ H fun σ2 H2 => tb { D with nx := Pv (i + 1), ct := Pv (i + 1), bk := D.nx } σ2 H2) (hd : ∀ σ H, Pv xs.length σ H -> D.nx σ H) :
  ∃ W : Nat -> Nat -> St -> Hp -> Prop, (∃ m, W 0 m σ H) /\ ∀ i m σ H, W i m σ H →
   ((Itl K a).stop i H /\ D.nx σ H) ∨ ((Itl K a).go i H /\ ∃ N : St -> Hp -> Prop, (∀ σ' H', N σ' H' -> ∃ m', m' < m /\ W (i + 1) m' σ' H') /\ ∀ x H', (Itl K a).yld i H x H' -> g x σ H' fun σ2 H2 => tb { D with nx := N, ct := N, bk := D.nx } σ2 H2) := by
 refine ⟨fun i m σ H => m = xs.length - i /\ i ≤ xs.length /\ Pv i σ H, ⟨xs.length, by simp, Nat.zero_le _, h0⟩, ?_⟩
 rintro i m σ H ⟨rfl, hi, p⟩
 have q := hl i σ H hi p
 by_cases hlt : i < xs.length
 ·refine .inr ⟨⟨xs, xs[i], q, by simp [hlt]⟩, Pv (i + 1), fun σ' H' p' => ⟨xs.length - (i + 1), by omega, rfl, hlt, p'⟩, fun x H' y => ?_⟩
  obtain ⟨e, y⟩ := y
  subst e
  exact hs i x σ _ (y xs q) p
 ·have e : i = xs.length := by omega
  subst e
  exact .inl ⟨⟨xs, q, Nat.le_refl _⟩, hd σ H p⟩
theorem for_tup {K : Fg} {a : Addr} {xs : List V} {g : TG} {tb : TS} {D : Ends} {σ : St} {H : Hp} (Pv : Nat -> St -> Hp -> Prop) (h0 : Pv 0 σ H) (hl : ∀ i σ H, i ≤ xs.length -> Pv i σ H -> SqT K H a xs)
  (hs : ∀ i x σ H, xs[i]? = some x -> Pv i σ H -> g x σ H fun σ2 H2 => tb { D with nx := Pv (i + 1), ct := Pv (i + 1), bk := D.nx } σ2 H2) (hd : ∀ σ H, Pv xs.length σ H -> D.nx σ H) :
  ∃ W : Nat -> Nat -> St -> Hp -> Prop, (∃ m, W 0 m σ H) /\ ∀ i m σ H, W i m σ H →
   ((Itt K a).stop i H /\ D.nx σ H) ∨ ((Itt K a).go i H /\ ∃ N : St -> Hp -> Prop, (∀ σ' H', N σ' H' -> ∃ m', m' < m /\ W (i + 1) m' σ' H') /\ ∀ x H', (Itt K a).yld i H x H' -> g x σ H' fun σ2 H2 => tb { D with nx := N, ct := N, bk := D.nx } σ2 H2) := by
 refine ⟨fun i m σ H => m = xs.length - i /\ i ≤ xs.length /\ Pv i σ H, ⟨xs.length, by simp, Nat.zero_le _, h0⟩, ?_⟩
 rintro i m σ H ⟨rfl, hi, p⟩
 have q := hl i σ H hi p
 by_cases hlt : i < xs.length
 ·refine .inr ⟨⟨xs, xs[i], q, by simp [hlt]⟩, Pv (i + 1), fun σ' H' p' => ⟨xs.length - (i + 1), by omega, rfl, hlt, p'⟩, fun x H' y => ?_⟩
  obtain ⟨e, y⟩ := y
  subst e
  exact hs i x σ _ (y xs q) p
 ·have e : i = xs.length := by omega
  subst e
  exact .inl ⟨⟨xs, q, Nat.le_refl _⟩, hd σ H p⟩
theorem for_range {lo : Int} {n : Nat} {g : TG} {tb : TS} {D : Ends} {σ : St} {H : Hp} (Pv : Nat -> St -> Hp -> Prop) (h0 : Pv 0 σ H)
  (hs : ∀ i σ H, i < n -> Pv i σ H -> g (.int (lo + i)) σ H fun σ2 H2 => tb { D with nx := Pv (i + 1), ct := Pv (i + 1), bk := D.nx } σ2 H2) (hd : ∀ σ H, Pv n σ H -> D.nx σ H) :
  ∃ W : Nat -> Nat -> St -> Hp -> Prop, (∃ m, W 0 m σ H) /\ ∀ i m σ H, W i m σ H →
   ((Itr lo n).stop i H /\ D.nx σ H) ∨ ((Itr lo n).go i H /\ ∃ N : St -> Hp -> Prop, (∀ σ' H', N σ' H' -> ∃ m', m' < m /\ W (i + 1) m' σ' H') /\ ∀ x H', (Itr lo n).yld i H x H' -> g x σ H' fun σ2 H2 => tb { D with nx := N, ct := N, bk := D.nx } σ2 H2) := by
 refine ⟨fun i m σ H => m = n - i /\ i ≤ n /\ Pv i σ H, ⟨n, by simp, Nat.zero_le _, h0⟩, ?_⟩
 rintro i m σ H ⟨rfl, hi, p⟩
 by_cases hlt : i < n
 ·refine .inr ⟨hlt, Pv (i + 1), fun σ' H' p' => ⟨n - (i + 1), by omega, rfl, hlt, p'⟩, fun x H' y => ?_⟩
  obtain ⟨e, y⟩ := y
  subst e y
  exact hs i σ _ hlt p
 ·have e : i = n := by omega
  subst e
  exact .inl ⟨Nat.le_refl _, hd σ H p⟩
end L2
namespace L2
open PySem PySem.Spec PyProof.Rows
abbrev R2 := V -> V -> Hp -> VK -> Prop
def OpR (X : Cx) (f : Value -> Value -> Sem Value) (r : R2) : Prop :=
 ∀ (pins : PLs) (s : Shared) (σ : St) (H : Hp) (x y : V) (v u : Value) (Q : VK), Inv X pins σ H s -> RelV x v -> RelV y u -> r x y H Q →
  wpAny (model X.prog X.w) X.A (f v u) (EP X pins σ Q) X.xe s
def UnR (X : Cx) (f : Value -> Sem Value) (r : V -> Hp -> VK -> Prop) : Prop :=
 ∀ (pins : PLs) (s : Shared) (σ : St) (H : Hp) (x : V) (v : Value) (Q : VK), Inv X pins σ H s -> RelV x v -> r x H Q →
  wpAny (model X.prog X.w) X.A (f v) (EP X pins σ Q) X.xe s
def CallR (X : Cx) (f : Value) (r : List V -> Hp -> VK -> Prop) : Prop :=
 ∀ (pins : PLs) (s : Shared) (σ : St) (H : Hp) (xs : List V) (us : List Value) (Q : VK), Inv X pins σ H s -> Vals xs us -> r xs H Q →
  wpAny (model X.prog X.w) X.A (call f us) (EP X pins σ Q) X.xe s
def TruR (X : Cx) (r : V -> Hp -> (Bool -> Hp -> Prop) -> Prop) : Prop :=
 ∀ (pins : PLs) (s : Shared) (σ : St) (H : Hp) (x : V) (v : Value) (Q : Bool -> Hp -> Prop), Inv X pins σ H s -> RelV x v -> r x H Q →
  wpAny (model X.prog X.w) X.A (truthy v) (TP X pins σ Q) X.xe s
def tOp (r : R2) (ta tb : TE) : TE := fun σ H Q => ta σ H fun x H1 => tb σ H1 fun y H2 => r x y H2 Q
def tUn (r : V -> Hp -> VK -> Prop) (ta : TE) : TE := fun σ H Q => ta σ H fun x H1 => r x H1 Q
def rI (C : Int -> Int -> Prop) (g : Int -> Int -> V) : R2 := fun x y H Q => ∃ i j, x = .int i /\ y = .int j /\ C i j /\ Q (g i j) H
def rI0 (g : Int -> Int -> V) : R2 := fun x y H Q => ∃ i j, x = .int i /\ y = .int j /\ Q (g i j) H
def rU (g : Int -> V) : V -> Hp -> VK -> Prop := fun x H Q => ∃ i, x = .int i /\ Q (g i) H
section
variable {X : Cx} {a b c : Expr} {ta tb tc : TE} {pos : Pos}
theorem binT (ha : PE X a ta) (hb : PE X b tb) {pins : PLs} {s : Shared} {σ : St} {H : Hp} {R : V -> V -> Hp -> Prop} (I : Inv X pins σ H s)
  (h : ta σ H fun x H1 => tb σ H1 fun y H2 => R x y H2) {Q : VSP} {f : Value -> Value -> Sem Value}
  (hf : ∀ v u s2 x y H2, Inv X pins σ H2 s2 -> RelV x v -> RelV y u -> R x y H2 -> wpAny (model X.prog X.w) X.A (f v u) Q X.xe s2) :
  wpAny (model X.prog X.w) X.A (eval a X.env) (fun v s₁ => wpAny (model X.prog X.w) X.A (eval b X.env) (fun u s₂ => wpAny (model X.prog X.w) X.A (f v u) Q X.xe s₂) X.xe s₁) X.xe s := by
 refine thn (ha pins s σ H _ I h) fun v s1 ⟨x, H1, I1, r1, q1⟩ => ?_
 refine thn (hb pins s1 σ H1 _ I1 q1) fun u s2 ⟨y, H2, I2, r2, q2⟩ => ?_
 exact hf v u s2 x y H2 I2 r1 r2 q2
theorem pe_op {op : Operator} {r : R2} (ho : OpR X (binaryOp op) r) (ha : PE X a ta) (hb : PE X b tb) : PE X (.BinOp a op b pos) (tOp r ta tb) := by
 intro pins s σ H Q I h
 exact wpAny_BinOp (binT ha hb I h fun v u s2 x y H2 I2 rx ry q => ho pins s2 σ H2 x y v u Q I2 rx ry q)
theorem pe_un {op : UnaryOp} {r : V -> Hp -> VK -> Prop} (ho : UnR X (unaryOp op) r) (ha : PE X a ta) : PE X (.UnaryOp op a pos) (tUn r ta) := by
 intro pins s σ H Q I h
 exact UnaryOp_ (thn (ha pins s σ H _ I h) fun v s1 ⟨x, H1, I1, r1, q1⟩ => ho pins s1 σ H1 x v Q I1 r1 q1)
theorem opI {f : Value -> Value -> Sem Value} {C : Int -> Int -> Prop} {g : Int -> Int -> Int}
  (rule : ∀ (i j : Int) (t u : Tok) (s : Shared) (Q : VSP) (E : VSP), C i j -> Q (.int (g i j) s.toks) { s with toks := s.toks + 1 } -> wpAny (model X.prog X.w) X.A (f (.int i t) (.int j u)) Q E s) :
  OpR X f (rI C fun i j => .int (g i j)) := by
 intro pins s σ H x y v u Q I rx ry h
 obtain ⟨i, j, rfl, rfl, hc, q⟩ := h
 obtain ⟨t, rfl⟩ := rx
 obtain ⟨t', rfl⟩ := ry
 exact rule i j t t' s _ _ hc ⟨.int (g i j), H, I.tok _, ⟨_, rfl⟩, q⟩
theorem opI0 {f : Value -> Value -> Sem Value} {g : Int -> Int -> Int}
  (rule : ∀ (i j : Int) (t u : Tok) (s : Shared) (Q : VSP) (E : VSP), Q (.int (g i j) s.toks) { s with toks := s.toks + 1 } -> wpAny (model X.prog X.w) X.A (f (.int i t) (.int j u)) Q E s) :
  OpR X f (rI0 fun i j => .int (g i j)) := by
 intro pins s σ H x y v u Q I rx ry h
 obtain ⟨i, j, rfl, rfl, q⟩ := h
 obtain ⟨t, rfl⟩ := rx
 obtain ⟨t', rfl⟩ := ry
 exact rule i j t t' s _ _ ⟨.int (g i j), H, I.tok _, ⟨_, rfl⟩, q⟩
theorem opB0 {f : Value -> Value -> Sem Value} {g : Int -> Int -> Bool}
  (rule : ∀ (i j : Int) (t u : Tok) (s : Shared) (Q : VSP) (E : VSP), Q (.bool (g i j)) s -> wpAny (model X.prog X.w) X.A (f (.int i t) (.int j u)) Q E s) :
  OpR X f (rI0 fun i j => .bl (g i j)) := by
 intro pins s σ H x y v u Q I rx ry h
 obtain ⟨i, j, rfl, rfl, q⟩ := h
 obtain ⟨t, rfl⟩ := rx
 obtain ⟨t', rfl⟩ := ry
 exact rule i j t t' s _ _ ⟨.bl (g i j), H, I, rfl, q⟩
def CDiv (i j : Int) : Prop := 0 < j /\ j < 1073741824
def CDivN (i j : Int) : Prop := j ≠ 0 /\ j.natAbs < 1073741824
def CPow (i j : Int) : Prop := 0 ≤ j /\ j ≤ 1000000 /\ i.natAbs < 2 ^ 64
def CMul (i j : Int) : Prop := (-(2 ^ 64) < i /\ i < 2 ^ 64) ∨ (-(2 ^ 64) < j /\ j < 2 ^ 64)
theorem CMul.ok {i j : Int} (h : CMul i j) : IntMulOk i j := by
 rcases h with ⟨h1, h2⟩ | ⟨h1, h2⟩
 ·exact .of_left (intBits_le_64 h1 h2)
 ·exact .of_right (intBits_le_64 h1 h2)
theorem op_add : OpR X (binaryOp .Add) (rI0 fun i j => .int (i + j)) := opI0 fun _ _ _ _ _ _ _ q => add_int q
theorem op_sub : OpR X (binaryOp .Sub) (rI0 fun i j => .int (i - j)) := opI0 fun _ _ _ _ _ _ _ q => sub_int q
theorem op_mul : OpR X (binaryOp .Mult) (rI CMul fun i j => .int (i * j)) := opI fun _ _ _ _ _ _ _ hc q => mul_int q hc.ok
theorem op_fdiv : OpR X (binaryOp .FloorDiv) (rI CDiv fun i j => .int (i / j)) := opI fun i j _ _ _ _ _ hc q => by
 have h1 : (0 : Int) < j := hc.1
 have h2 : j < 1073741824 := hc.2
 exact floordiv_int (by omega) (by rw [Int.fdiv_eq_ediv_of_nonneg i (by omega)]; exact q) (.inl (PyProof.noPylong_small (by omega)))
theorem op_mod : OpR X (binaryOp .Mod) (rI (fun _ j => 0 < j) fun i j => .int (i % j)) := opI fun i j _ _ _ _ _ hc q => by
 have h1 : (0 : Int) < j := hc
 exact mod_int' (by omega) (by rw [Int.fmod_eq_emod_of_nonneg i (by omega)]; exact q)
theorem op_pow : OpR X (binaryOp .Pow) (rI CPow fun i j => .int (i ^ j.toNat)) := opI fun _ _ _ _ _ _ _ hc q => pow_int_small hc.1 hc.2.1 hc.2.2 q
theorem unI {f : Value -> Sem Value} {g : Int -> Int}
  (rule : ∀ (i : Int) (t : Tok) (s : Shared) (Q : VSP) (E : VSP), Q (.int (g i) s.toks) { s with toks := s.toks + 1 } -> wpAny (model X.prog X.w) X.A (f (.int i t)) Q E s) :
  UnR X f (rU fun i => .int (g i)) := by
 intro pins s σ H x v Q I rx h
 obtain ⟨i, rfl, q⟩ := h
 obtain ⟨t, rfl⟩ := rx
 exact rule i t s _ _ ⟨.int (g i), H, I.tok _, ⟨_, rfl⟩, q⟩
theorem un_neg : UnR X (unaryOp .USub) (rU fun i => .int (-i)) := unI fun _ _ _ _ _ q => neg_int q
end
def scal : V -> V -> Bool
 | .non, .non => true | .non, .int _ => true | .int _, .non => true | .non, .bl _ => true | .bl _, .non => true | .non, .str _ => true | .str _, .non => true
 | .int _, .int _ => true | .bl _, .bl _ => true | .str _, .str _ => true | .byt _, .byt _ => true
 | .int _, .str _ => true | .str _, .int _ => true | .bl _, .str _ => true | .str _, .bl _ => true
 | _, _ => false
def rEq : R2 := fun x y H Q => scal x y = true /\ Q (.bl (decide (x = y))) H
def rNe : R2 := fun x y H Q => scal x y = true /\ Q (.bl (!decide (x = y))) H
theorem dec_int {i j : Int} : decide (V.int i = V.int j) = (i == j) := by
 rw [Bool.eq_iff_iff]
 simp
theorem dec_bl {i j : Bool} : decide (V.bl i = V.bl j) = (i == j) := by
 rw [Bool.eq_iff_iff]
 simp
theorem dec_str {i j : Str} : decide (V.str i = V.str j) = (i == j) := by
 rw [Bool.eq_iff_iff]
 simp
theorem dec_byt {i j : Array UInt8} : decide (V.byt i = V.byt j) = (i.toList == j.toList) := by
 rw [Bool.eq_iff_iff]
 cases i
 cases j
 simp
section
variable {X : Cx} {a b c : Expr} {ta tb tc : TE} {pos : Pos}
theorem fin_bl {pins : PLs} {σ : St} {H : Hp} {s : Shared} {Q : VK} {k k' : Bool} (I : Inv X pins σ H s) (q : Q (.bl k) H) (e : k = k') : EP X pins σ Q (.bool k') s := by
 subst e
 exact ⟨.bl k, H, I, rfl, q⟩
theorem op_eq : OpR X (compareOp .Eq) rEq := by
 intro pins s σ H x y v u Q I rx ry h
 obtain ⟨hs, q⟩ := h
 cases x with
 | non =>
  cases rx
  cases y with
  | non => cases ry; exact PySem.EqNone.eq_none_none (fin_bl I q (by simp))
  | bl j => cases ry; exact PySem.EqNone.eq_none_bool (fin_bl I q (by simp))
  | int j => obtain ⟨t', rfl⟩ := ry; exact PySem.EqNone.eq_none_int (fin_bl I q (by simp))
  | str j => obtain ⟨t', rfl⟩ := ry; exact PySem.EqNone.eq_none_str (fin_bl I q (by simp))
  | _ => exact absurd (show false = true from hs) Bool.false_ne_true
 | bl i =>
  cases rx
  cases y with
  | non => cases ry; exact PySem.EqNone.eq_bool_none (fin_bl I q (by simp))
  | bl j => cases ry; exact eq_bool (fin_bl I q dec_bl)
  | str j => obtain ⟨t', rfl⟩ := ry; exact PySem.EqMixed.eq_bool_str (fin_bl I q (by simp))
  | _ => exact absurd (show false = true from hs) Bool.false_ne_true
 | int i =>
  obtain ⟨t, rfl⟩ := rx
  cases y with
  | non => cases ry; exact PySem.EqNone.eq_int_none (fin_bl I q (by simp))
  | int j => obtain ⟨t', rfl⟩ := ry; exact eq_int (fin_bl I q dec_int)
  | str j => obtain ⟨t', rfl⟩ := ry; exact PySem.EqMixed.eq_int_str (fin_bl I q (by simp))
  | _ => exact absurd (show false = true from hs) Bool.false_ne_true
 | str i =>
  obtain ⟨t, rfl⟩ := rx
  cases y with
  | non => cases ry; exact PySem.EqNone.eq_str_none (fin_bl I q (by simp))
  | bl j => cases ry; exact PySem.EqMixed.eq_str_bool (fin_bl I q (by simp))
  | int j => obtain ⟨t', rfl⟩ := ry; exact PySem.EqMixed.eq_str_int (fin_bl I q (by simp))
  | str j => obtain ⟨t', rfl⟩ := ry; exact eq_str (fin_bl I q dec_str)
  | _ => exact absurd (show false = true from hs) Bool.false_ne_true
 | byt i =>
  obtain ⟨t, rfl⟩ := rx
  cases y with
  | byt j => obtain ⟨t', rfl⟩ := ry; exact PySem.W.eq_bytes (fin_bl I q dec_byt)
  | _ => exact absurd (show false = true from hs) Bool.false_ne_true
 | _ => cases y <;> exact absurd (show false = true from hs) Bool.false_ne_true
theorem op_ne : OpR X (compareOp .NotEq) rNe := by
 intro pins s σ H x y v u Q I rx ry h
 obtain ⟨hs, q⟩ := h
 cases x with
 | non =>
  cases rx
  cases y with
  | non => cases ry; exact PySem.EqNone.ne_none_none (fin_bl I q (by simp))
  | bl j => cases ry; exact PySem.EqNone.ne_none_bool (fin_bl I q (by simp))
  | int j => obtain ⟨t', rfl⟩ := ry; exact PySem.EqNone.ne_none_int (fin_bl I q (by simp))
  | str j => obtain ⟨t', rfl⟩ := ry; exact PySem.EqNone.ne_none_str (fin_bl I q (by simp))
  | _ => exact absurd (show false = true from hs) Bool.false_ne_true
 | bl i =>
  cases rx
  cases y with
  | non => cases ry; exact PySem.EqNone.ne_bool_none (fin_bl I q (by simp))
  | bl j => cases ry; exact ne_bool (fin_bl I q (congrArg not dec_bl))
  | str j => obtain ⟨t', rfl⟩ := ry; exact PySem.EqMixed.ne_bool_str (fin_bl I q (by simp))
  | _ => exact absurd (show false = true from hs) Bool.false_ne_true
 | int i =>
  obtain ⟨t, rfl⟩ := rx
  cases y with
  | non => cases ry; exact PySem.EqNone.ne_int_none (fin_bl I q (by simp))
  | int j => obtain ⟨t', rfl⟩ := ry; exact ne_int (fin_bl I q (congrArg not dec_int))
  | str j => obtain ⟨t', rfl⟩ := ry; exact PySem.EqMixed.ne_int_str (fin_bl I q (by simp))
  | _ => exact absurd (show false = true from hs) Bool.false_ne_true
 | str i =>
  obtain ⟨t, rfl⟩ := rx
  cases y with
  | non => cases ry; exact PySem.EqNone.ne_str_none (fin_bl I q (by simp))
  | bl j => cases ry; exact PySem.EqMixed.ne_str_bool (fin_bl I q (by simp))
  | int j => obtain ⟨t', rfl⟩ := ry; exact PySem.EqMixed.ne_str_int (fin_bl I q (by simp))
  | str j => obtain ⟨t', rfl⟩ := ry; exact ne_str (fin_bl I q (congrArg not dec_str))
  | _ => exact absurd (show false = true from hs) Bool.false_ne_true
 | byt i =>
  obtain ⟨t, rfl⟩ := rx
  cases y with
  | byt j => obtain ⟨t', rfl⟩ := ry; exact PySem.W.ne_bytes (fin_bl I q (congrArg not dec_byt))
  | _ => exact absurd (show false = true from hs) Bool.false_ne_true
 | _ => cases y <;> exact absurd (show false = true from hs) Bool.false_ne_true
theorem op_lt : OpR X (compareOp .Lt) (rI0 fun i j => .bl (decide (i < j))) := opB0 fun _ _ _ _ _ _ _ q => lt_int q
theorem op_le : OpR X (compareOp .LtE) (rI0 fun i j => .bl (decide (i ≤ j))) := opB0 fun _ _ _ _ _ _ _ q => le_int q
theorem op_gt : OpR X (compareOp .Gt) (rI0 fun i j => .bl (decide (j < i))) := opB0 fun _ _ _ _ _ _ _ q => gt_int q
theorem op_ge : OpR X (compareOp .GtE) (rI0 fun i j => .bl (decide (j ≤ i))) := opB0 fun _ _ _ _ _ _ _ q => ge_int q
theorem op_isN : OpR X (compareOp .Is) (fun x y H Q => y = .non /\ Q (.bl (decide (x = .non))) H) := by
 intro pins s σ H x y v u Q I rx ry h
 obtain ⟨rfl, q⟩ := h
 cases ry
 refine is_none_gen (fin_bl I q ?_)
 cases x <;> first
  | (cases rx; rfl)
  | (obtain ⟨t, rfl⟩ := rx; rfl)
theorem op_notN : OpR X (compareOp .IsNot) (fun x y H Q => y = .non /\ Q (.bl (!decide (x = .non))) H) := by
 intro pins s σ H x y v u Q I rx ry h
 obtain ⟨rfl, q⟩ := h
 cases ry
 refine isnot_none_gen (fin_bl I q ?_)
 cases x <;> first
  | (cases rx; rfl)
  | (obtain ⟨t, rfl⟩ := rx; rfl)
def isObj : HO -> Bool
 | .lst _ => true
 | .ins _ _ _ => true
 | _ => false
theorem nomark (b : Expr) {op : CmpOp} (h : op ≠ .In := by decide) (h2 : op ≠ .NotIn := by decide) : behindInMarks op b = false := by
 have e1 : (op == CmpOp.In) = false := by cases op <;> first | rfl | exact absurd rfl h
 have e2 : (op == CmpOp.NotIn) = false := by cases op <;> first | rfl | exact absurd rfl h2
 cases b <;> simp [behindInMarks, e1, e2]
theorem pe_cmpR {op : CmpOp} {r : R2} (ho : OpR X (compareOp op) r) (ha : PE X a ta) (hb : PE X b tb) (hm : behindInMarks op b = false) : PE X (.Compare a [op] [b] pos) (tOp r ta tb) := by
 intro pins s σ H Q I h
 exact wpAny_Compare1 (binT ha hb I h fun v u s2 x y H2 I2 rx ry q => ho pins s2 σ H2 x y v u Q I2 rx ry q) hm
def tTest (t : TE) : TT := fun σ H Q => t σ H fun x H' => ∃ k, x = .bl k /\ Q k H'
theorem pt_cmpR {op : CmpOp} {r : R2} (ho : OpR X (compareOp op) r) (ha : PE X a ta) (hb : PE X b tb) (hm : behindInMarks op b = false) : PT X (.Compare a [op] [b] pos) (tTest (tOp r ta tb)) := by
 intro pins s σ H Q I h
 refine wpAny_isTrue_Compare1 (thn (ha pins s σ H _ I h) fun v s1 ⟨x, H1, I1, r1, q1⟩ => thn (hb pins s1 σ H1 _ I1 q1) fun u s2 ⟨y, H2, I2, r2, q2⟩ =>
  thn (ho pins s2 σ H2 x y v u _ I2 r1 r2 q2) fun c s3 ⟨z, H3, I3, r3, k, e, q3⟩ => ?_) hm
 subst e
 cases r3
 exact wpAny_truthy_bool ⟨H3, I3, q3⟩
def tChain (r r' : R2) (ta tb tc : TE) : TE := fun σ H Q => ta σ H fun x H1 => tb σ H1 fun y H2 => r x y H2 fun z H3 => ∃ k, z = .bl k ∧
 (if k = true then tc σ H3 fun w' H4 => r' y w' H4 Q else Q (.bl false) H3)
theorem pe_chain {op op' : CmpOp} {r r' : R2} (ho : OpR X (compareOp op) r) (ho' : OpR X (compareOp op') r') (ha : PE X a ta) (hb : PE X b tb) (hc : PE X c tc)
  (hm : lastMarks [op, op'] [b, c] = false := by with_unfolding_all rfl) : PE X (.Compare a [op, op'] [b, c] pos) (tChain r r' ta tb tc) := by
 intro pins s σ H Q I h
 refine Compare_chain (thn (ha pins s σ H _ I h) fun v s1 ⟨x, H1, I1, r1, q1⟩ => chain_link (thn (hb pins s1 σ H1 _ I1 q1) fun u s2 ⟨y, H2, I2, r2, q2⟩ =>
  thn (ho pins s2 σ H2 x y v u _ I2 r1 r2 q2) fun d s3 ⟨z, H3, I3, r3, k, e, q3⟩ => ?_)) hm
 subst e
 cases r3
 refine wpAny_truthy_bool ?_
 cases k with
 | false => exact ite_ff ⟨.bl false, H3, I3, rfl, q3⟩
 | true => exact ite_tt (chain_last (thn (hc pins s3 σ H3 _ I3 q3) fun w' s4 ⟨z', H4, I4, r4, q4⟩ => ho' pins s4 σ H4 y z' u w' Q I4 r2 r4 q4))
theorem pt_chain {op op' : CmpOp} {r r' : R2} (ho : OpR X (compareOp op) r) (ho' : OpR X (compareOp op') r') (ha : PE X a ta) (hb : PE X b tb) (hc : PE X c tc)
  (hm : lastMarks [op, op'] [b, c] = false := by with_unfolding_all rfl) : PT X (.Compare a [op, op'] [b, c] pos) (tTest (tChain r r' ta tb tc)) := by
 intro pins s σ H Q I h
 refine isTrue_chain (thn (ha pins s σ H _ I h) fun v s1 ⟨x, H1, I1, r1, q1⟩ => test_link (thn (hb pins s1 σ H1 _ I1 q1) fun u s2 ⟨y, H2, I2, r2, q2⟩ =>
  thn (ho pins s2 σ H2 x y v u _ I2 r1 r2 q2) fun d s3 ⟨z, H3, I3, r3, k, e, q3⟩ => ?_)) hm
 subst e
 cases r3
 refine wpAny_truthy_bool ?_
 cases k with
 | false =>
  obtain ⟨k', e', q'⟩ := q3
  cases e'
  exact ite_ff ⟨H3, I3, q'⟩
 | true =>
  refine ite_tt (test_last (thn (hc pins s3 σ H3 _ I3 q3) fun w' s4 ⟨z', H4, I4, r4, q4⟩ => thn (ho' pins s4 σ H4 y z' u w' _ I4 r2 r4 q4) fun d' s5 ⟨z2, H5, I5, r5, k2, e2, q5⟩ => ?_))
  subst e2
  cases r5
  exact wpAny_truthy_bool ⟨H5, I5, q5⟩
def TruV (K : Fg) (x : V) (H : Hp) (k : Bool) : Prop :=
 match x with
 | .non => k = false
 | .bl b => k = b
 | .int i => k = (i != 0)
 | .str y => y.length ≤ sizeLine /\ k = ((y.length : Int) != 0)
 | .byt y => y.size ≤ sizeLine /\ k = ((y.size : Int) != 0)
 | .ref p => (∃ xs, SqL K H p xs /\ k = !xs.isEmpty) ∨ (∃ xs, SqT K H p xs /\ k = !xs.isEmpty) ∨ ∃ kvs, H p = some (.dK kvs) /\ k = !kvs.isEmpty
 | _ => False
theorem line63 : (sizeLine : Nat) < 2 ^ 63 := by rw [sizeLine_eq]; decide
def PlainIxT (b : Expr) : Prop := ∀ o i, subscripted b false o i = operate [o, i] (getItem o i)
theorem vals1 {x : V} {us : List Value} (r : Vals [x] us) : ∃ u, us = [u] /\ RelV x u := by
 cases r with
 | cons r1 r2 => cases r2; exact ⟨_, rfl, r1⟩
theorem vals2 {x y : V} {us : List Value} (r : Vals [x, y] us) : ∃ u w', us = [u, w'] /\ RelV x u /\ RelV y w' := by
 cases r with
 | cons r1 r2 =>
  cases r2 with
  | cons r3 r4 => cases r4; exact ⟨_, _, rfl, r1, r3⟩
theorem call_abs : CallR X (.builtin "abs") (fun xs H Q => ∃ i, xs = [.int i] /\ Q (.int (if i < 0 then -i else i)) H) := by
 intro pins s σ H xs us Q I r h
 obtain ⟨i, rfl, q⟩ := h
 obtain ⟨u, rfl, t, rfl⟩ := vals1 r
 exact call_abs_int fun u tk => ⟨.int (if i < 0 then -i else i), H, I.tok _, ⟨_, rfl⟩, q⟩
def LenV (K : Fg) (x : V) (H : Hp) (n : Nat) : Prop :=
 match x with
 | .str y => y.length ≤ sizeLine /\ n = y.length
 | .byt y => y.size ≤ sizeLine /\ n = y.size
 | .ref p => (∃ xs, SqL K H p xs /\ n = xs.length) ∨ ∃ xs, SqT K H p xs /\ n = xs.length
 | _ => False
end
end L2
namespace L2
open PySem PySem.Spec PyProof.Rows
structure ObjM (h : Heap) (x dx C : Addr) (mA : Str -> Option Value) : Prop where
 obj : h.get? x = some (PySem.W.instObj C dx)
 ns : h.Ns1 dx mA
 ne : dx ≠ x
theorem lookIn_ns {h : Heap} {dx : Addr} {mA : Str -> Option Value} (n : h.Ns1 dx mA) : ∃ od, h.get? dx = some od /\ ∀ name, PySem.W.lookIn name od = some (mA name) := by
 obtain ⟨o, es, ep, ho, hd, hk, _, hm⟩ := n
 refine ⟨o, ho, fun name => ?_⟩
 have e := hm name
 unfold nsFind findBy at e
 rw [← Array.find?_toList] at e
 unfold PySem.W.lookIn
 rw [hd]
 dsimp only
 split
 ·rename_i y q
  rw [q] at e
  exact congrArg some e
 ·rename_i q
  rw [q] at e
  have a : es.toList.any (·.refKey) = false := by
   rw [List.any_eq_false]
   intro y hy
   obtain ⟨z, t, hkey⟩ := hk y (Array.mem_toList_iff.mp hy)
   simp [DictEntry.refKey, hkey]
  have a' : ¬ es.toList.any (·.refKey) = true := by rw [a]; exact Bool.false_ne_true
  rw [if_neg a']
  exact congrArg some e
theorem ObjM.look {h : Heap} {x dx C : Addr} {mA : Str -> Option Value} (I : ObjM h x dx C mA) : ∃ od, PySem.W.InstAt h x (PySem.W.instObj C dx) C (some od) /\ ∀ name, PySem.W.lookIn name od = some (mA name) :=
 let ⟨od, ho, hl⟩ := lookIn_ns I.ns
 ⟨od, ⟨I.obj, rfl, rfl, ho⟩, hl⟩
section
variable {prog : Program} {w : World} {A : Around} {E : VSP} {s : Shared} {K : Fg} {x dx C f : Addr} {mA : Str -> Option Value} {name : Str} {v : Value}
end
def putF (f : Str) (v : V) : List (Str × V) -> List (Str × V)
 | [] => [(f, v)]
 | (g, x) :: r => if g = f then (g, v) :: r else (g, x) :: putF f v r
theorem RelO.some_of {v : V} {o : Option Value} (r : RelO (some v) o) : ∃ u, o = some u /\ RelV v u := by
 cases o with
 | none => exact (show False from r).elim
 | some u => exact ⟨u, rfl, r⟩
theorem handed_of {v : V} {u : Value} (r : RelV v u) : PySem.W.handedIn u = true := by
 cases v with
 | non => cases (show u = Value.none from r); rfl
 | bl b => cases (show u = Value.bool b from r); rfl
 | int i => obtain ⟨t, e⟩ := (show ∃ t, u = Value.int i t from r); cases e; rfl
 | str x => obtain ⟨t, e⟩ := (show ∃ t, u = Value.str x t from r); cases e; rfl
 | byt b => obtain ⟨t, e⟩ := (show ∃ t, u = Value.bytes b t from r); cases e; rfl
 | flt b => obtain ⟨t, e⟩ := (show ∃ t, u = Value.float b t from r); cases e; rfl
 | ref a => cases (show u = Value.ref a from r); rfl
 | ty n => cases (show u = Value.type n from r); rfl
section
variable {P : Program} {w : World} {H H' : Hp} {h h' : Heap} {a C dx : Addr} {fs fs' : List (Str × V)}
theorem ins_get (hok : HOk P w H h) (e : H a = some (.ins C dx fs)) : ∃ mA, ObjM h a dx C mA /\ (∀ f, RelO (fs.lookup f) (mA f)) /\ PySem.Within mA (fs.map (·.1)) /\ fs.length ≤ 1000 /\ H dx = some (.own a) := by
 obtain ⟨d, z, ne, ob, mA, n, r, q⟩ := (show ObjOk P w H h a (.ins C dx fs) from hok a _ e)
 exact ⟨mA, ⟨ob, n, ne⟩, r, q, z, d⟩
end
structure Cls (K : Fg) (C : Addr) : Prop where
 pg : PySem.W.plainGet K C Str.empty = true
 hd : PySem.W.hasDictIn K C = true
 po : PySem.W.plainOver K C = true
 sa : PySem.W.findIn K (.ref C) "__setattr__" = some (some (.builtin "object.__setattr__"))
theorem Cls.get {K : Fg} {C : Addr} (c : Cls K C) (f : Str) : PySem.W.plainGet K C f = true := c.pg
def NoAttr (K : Fg) (C : Addr) (f : Str) : Prop := PySem.W.findIn K (.ref C) f = some none
structure Con (K : Fg) (C : Addr) (f : Str) (v : V) (u : Value) : Prop where
 at_ : PySem.W.findIn K (.ref C) f = some (some u)
 rel : RelV v u
 get : PySem.W.specialIn K u "__get__" = some none
 cp : PySem.W.copiedNames.contains f = false
structure Meth (K : Fg) (C : Addr) (m : Str) (f : Addr) : Prop where
 at_ : PySem.W.findIn K (.ref C) m = some (some (.ref f))
 fn : PySem.W.isFn K (.ref f) = true
 kp : PySem.W.keepIn K (.ref f) = true
section
variable {X : Cx} {pins : PLs} {σ : St} {H : Hp} {s : Shared} {a C dx : Addr} {fs : List (Str × V)} {f : Str} {v : V} {A : Around} {E : VSP}
theorem attr_of {prog : Program} {w : World} {env : Env} {e : Expr} {f : Str} {pos : Pos} {s : Shared} {Q : VSP} (hb : attributeBase e f env (eval e env) = eval e env)
  (h : wpAny (model prog w) A (eval e env) (fun o s₁ => wpAny (model prog w) A (getAttr o f true) Q E s₁) E s) : wpAny (model prog w) A (eval (.Attribute e f pos) env) Q E s :=
 Attribute_any_ h (by rw [arm_eval_Attribute, hb])
end
def tFld (K : Fg) (ta : TE) (f : Str) : TE := fun σ H Q => ta σ H fun x H1 => ∃ a C dx fs v, x = .ref a /\ H1 a = some (.ins C dx fs) /\ Cls K C /\ NoAttr K C f /\ fs.lookup f = some v /\ Q v H1
def tCon (K : Fg) (ta : TE) (f : Str) : TE := fun σ H Q => ta σ H fun x H1 => ∃ a C dx fs v u, x = .ref a /\ H1 a = some (.ins C dx fs) /\ Cls K C /\ Con K C f v u /\ fs.lookup f = none /\ Q v H1
def sFld (K : Fg) (ta tv : TE) (f : Str) : TS := fun D σ H => tv σ H fun y H1 => ta σ H1 fun x H2 => ∃ a C dx fs, x = .ref a /\ H2 a = some (.ins C dx fs) /\ Cls K C /\ NoAttr K C f /\ fs.length < 1000 ∧
 D.nx σ (upd H2 a (.ins C dx (putF f y fs)))
def InOp (X : Cx) (op : Operator) (rd : V -> V -> Hp -> VK -> Prop) : Prop :=
 ∀ (pins : PLs) (s : Shared) (σ : St) (H : Hp) (x y : V) (u v : Value) (Q : VK), Inv X pins σ H s -> RelV x u -> RelV y v -> rd x y H Q -> wpAny (model X.prog X.w) X.A (inplaceOp op u v) (EP X pins σ Q) X.xe s
def sFldAug (K : Fg) (ta tv : TE) (rd : V -> V -> Hp -> VK -> Prop) (f : Str) : TS := fun D σ H => ta σ H fun x H1 => ∃ a C dx fs v, x = .ref a /\ H1 a = some (.ins C dx fs) /\ Cls K C /\ NoAttr K C f /\ fs.lookup f = some v ∧
 tv σ H1 fun y H2 => rd v y H2 fun z H3 => ∃ dx' fs', H3 a = some (.ins C dx' fs') /\ fs'.length < 1000 /\ D.nx σ (upd H3 a (.ins C dx' (putF f z fs')))
section
variable {X : Cx} {o e value : Expr} {f : Str} {pos pos' tpos : Pos} {ta tv : TE}
def rAdd : V -> V -> Hp -> VK -> Prop := fun x y H Q => ∃ i j, x = .int i /\ y = .int j /\ Q (.int (i + j)) H
def rSub : V -> V -> Hp -> VK -> Prop := fun x y H Q => ∃ i j, x = .int i /\ y = .int j /\ Q (.int (i - j)) H
end
section
variable {X : Cx} {pins : PLs} {σ : St} {H : Hp} {s : Shared} {A : Around} {E : VSP} {Q : VSP} {c : Value} {b : Bool}
inductive TyOf (K : Fg) (H : Hp) : V -> Value -> Prop where
 | non : TyOf K H .non (.type "NoneType")
 | bl (x : Bool) : TyOf K H (.bl x) (.type "bool")
 | int (i : Int) : TyOf K H (.int i) (.type "int")
 | str (x : Str) : TyOf K H (.str x) (.type "str")
 | flt (x : UInt64) : TyOf K H (.flt x) (.type "float")
 | lst {a : Addr} {xs : List V} (e : H a = some (.lst xs)) : TyOf K H (.ref a) (.type "list")
 | frz {a : Addr} {o : Obj} {xs : List V} (e : H a = some (.frz o (.lst xs))) : TyOf K H (.ref a) (.type "list")
 | tup {a : Addr} {xs : List V} (e : H a = some (.tup xs)) : TyOf K H (.ref a) (.type "tuple")
 | dK {a : Addr} {kvs : List (Key × V)} (e : H a = some (.dK kvs)) : TyOf K H (.ref a) (.type "dict")
 | dT {a : Addr} {kvs : List (List Key × V)} (e : H a = some (.dT kvs)) : TyOf K H (.ref a) (.type "dict")
 | ins {a C dx : Addr} {fs : List (Str × V)} (e : H a = some (.ins C dx fs)) (cl : Cls K C) (ha : PySem.W.findIn K (.ref C) "__class__" = some (some (.builtin "object.__class__")))
   (hn : PySem.W.specialIn K (.builtin "object.__class__") "__get__" = some (some (.builtin "getset_descriptor.__get__"))) (htk : PySem.W.takesIn K (.builtin "object.__class__") = some true)
   (hm : PySem.W.mroIn K C (.type "object") = some true) : TyOf K H (.ref a) (.ref C)
theorem isinst_ok {x : V} {u t : Value} (I : Inv X pins σ H s) (rx : RelV x u) (ty : TyOf X.K H x t) (e : PySem.W.kitOne X.K t c = some b) (h : ∀ tk, Q (.bool b) { s with toks := tk }) :
  wpAny (model X.prog X.w) A (call (.builtin "isinstance") [u, c]) Q E s := by
 cases ty with
 | non => cases (show u = Value.none from rx); exact PySem.W.kia_one PySem.W.kitx_none I.kIn True.intro e (fun z => nomatch z) h
 | bl y => cases (show u = Value.bool y from rx); exact PySem.W.kia_one PySem.W.kitx_bool I.kIn True.intro e (fun z => nomatch z) h
 | int i => obtain ⟨t, q⟩ := (show ∃ t, u = Value.int i t from rx); cases q; exact PySem.W.kia_one PySem.W.kitx_int I.kIn True.intro e (fun z => nomatch z) h
 | str y => obtain ⟨t, q⟩ := (show ∃ t, u = Value.str y t from rx); cases q; exact PySem.W.kia_one PySem.W.kitx_str I.kIn True.intro e (fun z => nomatch z) h
 | flt y => obtain ⟨t, q⟩ := (show ∃ t, u = Value.float y t from rx); cases q; exact PySem.W.kia_one PySem.W.kitx_float I.kIn True.intro e (fun z => nomatch z) h
 | @lst a xs ea =>
  cases (show u = Value.ref a from rx)
  obtain ⟨_, _, n, _, h1⟩ := (show ObjOk X.prog X.w H s.heap a (.lst xs) from I.hok a _ ea)
  exact PySem.W.kia_one PySem.W.kitx_list I.kIn ⟨_, h1, rfl⟩ e (fun z => nomatch z) h
 | @frz a ob xs ea =>
  cases (show u = Value.ref a from rx)
  obtain ⟨_, _, _, n, _, h1⟩ := (show ObjOk X.prog X.w H s.heap a (.frz ob (.lst xs)) from I.hok a _ ea)
  exact PySem.W.kia_one PySem.W.kitx_list I.kIn ⟨_, h1, rfl⟩ e (fun z => nomatch z) h
 | @tup a xs ea =>
  cases (show u = Value.ref a from rx)
  obtain ⟨_, _, _, p⟩ := (show ObjOk X.prog X.w H s.heap a (.tup xs) from I.hok a _ ea)
  obtain ⟨o, h1, h2, _⟩ := p
  exact PySem.W.kia_one PySem.W.kitx_tuple I.kIn ⟨o, h1, h2⟩ e (fun z => nomatch z) h
 | @dK a kvs ea =>
  cases (show u = Value.ref a from rx)
  obtain ⟨_, _, vs, _, p⟩ := (show ObjOk X.prog X.w H s.heap a (.dK kvs) from I.hok a _ ea)
  obtain ⟨o, es, ep, h1, h2, _⟩ := p
  exact PySem.W.kia_one PySem.W.kitx_dict I.kIn ⟨o, h1, h2.1⟩ e (fun z => nomatch z) h
 | @dT a kvs ea =>
  cases (show u = Value.ref a from rx)
  obtain ⟨_, _, xs, _, o, es, ep, h1, h2, _⟩ := (show ObjOk X.prog X.w H s.heap a (.dT kvs) from I.hok a _ ea)
  exact PySem.W.kia_one PySem.W.kitx_dict I.kIn ⟨o, h1, h2.1⟩ e (fun z => nomatch z) h
 | @ins a C dx fs ea cl ha hn htk hm =>
  cases (show u = Value.ref a from rx)
  obtain ⟨mA, O, _⟩ := ins_get I.hok ea
  obtain ⟨od, J, _⟩ := O.look
  exact PySem.W.kia_one (PySem.W.kitx_own (cl.get _) cl.hd ha hn htk hm) I.kIn J e (fun z => nomatch z) h
end
end L2
namespace L2
open PySem PySem.Spec PyProof.Rows
structure Room (k : Nat) (A : Around) : Prop where
 hd : A.handled = none
 dp : A.depth + 3 * k + 5 < recursionLimit
 un : A.units + 16 * k + 200 < cLine
 gd : A.guards = some []
theorem Room.mono {j k : Nat} {A : Around} (r : Room k A) (h : j ≤ k) : Room j A := ⟨r.hd, by have := r.dp; omega, by have := r.un; omega, r.gd⟩
theorem Room.deeper {k : Nat} {A : Around} (r : Room (k + 1) A) (env : Env) : Room k (A.deeper env) :=
 ⟨r.hd, by have := r.dp; show A.depth + 1 + 3 * k + 5 < _; omega, by have := r.un; show A.units + 3 + 16 * k + 200 < _; omega, r.gd⟩
theorem make_depth {A : Around} {C : Addr} {us : List Value} {kw : List (Str × Value)} : (A.under (.builtin "type.__call__" ⟨.ref C :: us, kw⟩)).depth = A.depth + 1 := by
 first | rfl | simp [Around.under, Code.weight, Code.isCreation, Code.isGuard, Code.isCaller, Code.frames, Code.isFrame, guardIds]
theorem make_units {A : Around} {C : Addr} {us : List Value} {kw : List (Str × Value)} : (A.under (.builtin "type.__call__" ⟨.ref C :: us, kw⟩)).units = A.units + 1 := by
 first | rfl | simp [Around.under, Code.cUnits, Code.frames, Code.isFrame]
theorem make_guards {A : Around} {C : Addr} {us : List Value} {kw : List (Str × Value)} : (A.under (.builtin "type.__call__" ⟨.ref C :: us, kw⟩)).guards = A.guards := by
 first | rfl | simp [Around.under, Code.guards, Code.isGuard, guardIds, pushGuards]
theorem Room.make {k : Nat} {A : Around} (r : Room (k + 1) A) (C : Addr) (us : List Value) (kw : List (Str × Value)) : Room k (A.under (.builtin "type.__call__" ⟨.ref C :: us, kw⟩)) :=
 ⟨r.hd, by have := r.dp; rw [make_depth]; omega, by have := r.un; rw [make_units]; omega, by rw [make_guards]; exact r.gd⟩
theorem Room.depth {k : Nat} {A : Around} (r : Room k A) : A.depth < recursionLimit := by have := r.dp; omega
theorem Room.units {k : Nat} {A : Around} (r : Room k A) : A.units + 64 < cLine := by have := r.un; omega
def tNil : TA := fun _ H Q => Q [] H
def tCons (ta : TE) (tr : TA) : TA := fun σ H Q => ta σ H fun x H1 => tr σ H1 fun xs H2 => Q (x :: xs) H2
section
variable {X : Cx} {e : Expr} {es : List Expr} {te : TE} {t : TA} {pos : Pos}
theorem pa_nil : PA X [] tNil := fun _ _ _ _ H Q I h => Calls.spliced_nil ⟨[], H, I, .nil, h⟩
theorem pa_cons (ha : PE X e te) (hr : PA X es t) (hs : starEach (e :: es) X.env = (false, eval e X.env) :: starEach es X.env := by rfl) : PA X (e :: es) (tCons te t) := by
 intro pos pins s σ H Q I h
 rw [hs]
 show wpAny _ _ (spliced ((false, eval e X.env) :: backTo pos (starEach es X.env))) _ _ s
 refine Calls.spliced_cons (thn (ha pins s σ H _ I h) fun u s1 ⟨x, H1, I1, r1, q1⟩ => ?_)
 exact thn (hr pos pins s1 σ H1 _ I1 q1) fun us s2 ⟨xs, H2, I2, r2, q2⟩ => ⟨x :: xs, H2, I2, .cons r1 r2, q2⟩
def tTup (t : TA) : TE := fun σ H Q => t σ H fun xs H1 => xs.length ≤ sizeLine /\ ∀ p, H1 p = none -> Q (.ref p) (upd H1 p (.tup xs))
def tLst (t : TA) : TE := fun σ H Q => t σ H fun xs H1 => xs.length ≤ sizeLine /\ ∀ p, H1 p = none -> Q (.ref p) (upd H1 p (.lst xs))
theorem pe_tup {x1} (h : PA X es t) : PE X (.Tuple es x1 pos) (tTup t) := by
 intro pins s σ H Q I hq
 refine wpAny_Tuple_spliced (thn (h pos pins s σ H _ I hq) fun us s1 ⟨xs, H1, I1, r, z, q⟩ => ⟨by rw [← r.length]; exact z, ?_⟩)
 have hf : H1 s1.heap.objs.size = none := I1.hok.fresh (Nat.le_refl _)
 refine ⟨.ref s1.heap.objs.size, upd H1 s1.heap.objs.size (.tup xs), I1.laid (t' := s1.toks) (fun b u e => Heap.get?_push_of_some _ e) (Nat.le_refl _) ?_, rfl, q _ hf⟩
 exact ⟨z, us, r, ⟨_, Heap.get?_push_size _ rfl, rfl, _, rfl⟩⟩
theorem pe_lst (h : PA X es t) : PE X (.List es pos) (tLst t) := by
 intro pins s σ H Q I hq
 refine wpAny_List_spliced (thn (h pos pins s σ H _ I hq) fun us s1 ⟨xs, H1, I1, r, z, q⟩ => ⟨by rw [← r.length]; exact z, ?_⟩)
 have hf : H1 s1.heap.objs.size = none := I1.hok.fresh (Nat.le_refl _)
 refine ⟨.ref s1.heap.objs.size, upd H1 s1.heap.objs.size (.lst xs), I1.laid (t' := s1.toks) (fun b u e => Heap.get?_push_of_some _ e) (Nat.le_refl _) ?_, rfl, q _ hf⟩
 exact ⟨z, us, 0, r, Heap.get?_push_size _ rfl⟩
end
abbrev Sp := List V -> Hp -> VK -> XK -> Prop
abbrev CXT := List Env -> Hp -> Shared -> XK -> Value -> Shared -> Prop
structure Env0 (P : Program) (w : World) (K : Fg) (mg : Str -> Option Value) (base : Heap) (A : Around) (outer : List Env) (s : Shared) (H : Hp) : Prop where
 frames : A.frames = some outer
 mod : Mod K mg base
 bs : ∀ b o, base.get? b = some o -> s.heap.get? b = some o /\ H b = none
 bsz : base.objs.size ≤ s.heap.objs.size
 funs : s.heap.FunFrames base outer
 frf : ∀ b ∈ frs outer, H b = none
 hok : HOk P w H s.heap
 bare : AllBare s.gens
def CE (outer : List Env) (P : Program) (w : World) (H : Hp) (s : Shared) (Q : VK) (u : Value) (s' : Shared) : Prop :=
 ∃ v H', s'.os = s.os /\ AllBare s'.gens /\ Un (frs outer) [] H H' s.heap s'.heap /\ HOk P w H' s'.heap /\ RelV v u /\ Q v H'
def CR (CX : CXT) (outer : List Env) (P : Program) (w : World) (H : Hp) (s : Shared) (Q : VK) (E : XK) (r : Result) (s' : Shared) : Prop :=
 match r with
 | .ok (.ret u) => CE outer P w H s Q u s'
 | .ok _ => False
 | .error e => CX outer H s E e s'
structure FnOk (P : Program) (w : World) (K : Fg) (mg : Str -> Option Value) (base : Heap) (CX : CXT) (k : Nat) (f : Addr) (fd : FuncData) (ps : List Str) (sp : Sp) : Prop where
 len : ∀ vs H Q E, sp vs H Q E -> vs.length = ps.length
 run : ∀ (A : Around) (outer : List Env) (s : Shared) (H : Hp) (args : Args) (us : List Value) (vs : List V) (Q : VK) (E : XK), Room k A -> Env0 P w K mg base A outer s H -> BindsTo s fd args (ps.zip us) -> Vals vs us -> sp vs H Q E →
  codeAny (model P w) A (.call (.ref f) args) (CR CX outer P w H s Q E) s
theorem Env0.make {P : Program} {w : World} {K : Fg} {mg : Str -> Option Value} {base : Heap} {A : Around} {outer : List Env} {s : Shared} {H : Hp} (e : Env0 P w K mg base A outer s H) (C : Addr) (us : List Value) (kw : List (Str × Value)) :
  Env0 P w K mg base (A.under (.builtin "type.__call__" ⟨.ref C :: us, kw⟩)) outer s H := ⟨by first | exact e.frames | (simpa [Around.under, Code.envs, Code.isFrame, pushEnvs] using e.frames), e.mod, e.bs, e.bsz, e.funs, e.frf, e.hok, e.bare⟩
section
variable {X : Cx} {pins : PLs} {σ : St} {H : Hp} {s s' : Shared}
theorem Inv.env0 (I : Inv X pins σ H s) : Env0 X.prog X.w X.K X.mg X.base X.A X.stack s H :=
 ⟨I.ok.frames, I.ok.mod, I.bs, Nat.le_trans I.ok.bsz I.sz, I.stack, I.stkFree, I.hok, I.bare⟩
theorem Inv.after {Q : VK} {u : Value} (I : Inv X pins σ H s) (h : CE X.stack X.prog X.w H s Q u s') : EP X pins σ Q u s' := by
 obtain ⟨v, H', os, bare, un, hok, r, q⟩ := h
 obtain ⟨hh, g, d, t, os'⟩ := s'
 obtain rfl : os' = s.os := os
 exact ⟨v, H', I.call (h' := hh) (g' := g) (d' := d) (t' := t) (ch := []) un hok bare (fun b z => absurd z (by simp)), r, q⟩
end
def tCall (sp : Sp) (dvs : List V) (E : XK) (t : TA) : TE := fun σ H Q => t σ H fun vs H1 => sp (vs ++ dvs) H1 Q E
def tMeth (C : Addr) (m : Str) (sp : Sp) (dvs : List V) (E : XK) (ta : TE) (t : TA) : TE := fun σ H Q => ta σ H fun x H1 => ∃ a dx fs, x = .ref a /\ H1 a = some (.ins C dx fs) /\ fs.lookup m = none ∧
 t σ H1 fun vs H2 => sp (x :: (vs ++ dvs)) H2 Q E
def tMake (C : Addr) (sp : Sp) (dvs : List V) (E : XK) (t : TA) : TE := fun σ H Q => t σ H fun vs H1 => ∀ x dx, H1 x = none -> H1 dx = none -> dx ≠ x →
 sp (.ref x :: (vs ++ dvs)) (upd (upd H1 dx (.own x)) x (.ins C dx [])) (fun v H2 => v = .non /\ Q (.ref x) H2) E
def Binds (K : Fg) (fd : FuncData) (ps : List Str) (ds : List Value) : Prop :=
 ∀ (s : Shared) (us : List Value), K.In s.heap -> (us ++ ds).length = ps.length -> BindsTo s fd ⟨us, []⟩ (ps.zip (us ++ ds))
theorem Binds.all {K : Fg} {fd : FuncData} {ps : List Str} (h : ∀ us : List Value, us.length = ps.length -> bindArgs fd ⟨us, []⟩ = pure (ps.zip us)) : Binds K fd ps [] := fun s us _ hl => by
 rw [List.append_nil] at hl ⊢
 exact .of_eq (h us hl)
def Passes (CX : CXT) (X : Cx) (E : XK) : Prop := ∀ (pins : PLs) (σ : St) (H : Hp) (s : Shared) (e : Value) (s' : Shared), Inv X pins σ H s -> CX X.stack H s E e s' -> X.xe e s'
section
variable {X : Cx} {CX : CXT} {k : Nat} {f C : Addr} {fd : FuncData} {ps : List Str} {sp : Sp} {dvs : List V} {ds : List Value} {E : XK} {x m : Str} {p pos apos : Pos} {e o : Expr} {es : List Expr} {ta : TE} {t : TA}
theorem run_fn {pins : PLs} {σ : St} {H : Hp} {s : Shared} {Q : VK} {us : List Value} {vs : List V} (F : FnOk X.prog X.w X.K X.mg X.base CX k f fd ps sp) (hr : Room k X.A) (hb : Binds X.K fd ps ds) (hd : Vals dvs ds) (hx : Passes CX X E)
  (I : Inv X pins σ H s) (r : Vals vs us) (h : sp (vs ++ dvs) H Q E) : wpAny (model X.prog X.w) X.A (call (.ref f) us) (EP X pins σ Q) X.xe s := by
 have r2 : Vals (vs ++ dvs) (us ++ ds) := r.append hd
 have hl : (us ++ ds).length = ps.length := by rw [← r2.length]; exact F.len _ _ _ _ h
 refine wpAny_call (codeAny_mono (F.run X.A X.stack s H ⟨us, []⟩ (us ++ ds) (vs ++ dvs) Q E hr I.env0 (hb s us I.kIn hl) r2 h) fun r s' hq => ?_)
 cases r with
 | error e => exact hx pins σ H s e s' I hq
 | ok fl =>
  cases fl with
  | ret u => exact I.after hq
  | next => exact False.elim hq
  | brk => exact False.elim hq
  | cont => exact False.elim hq
theorem pe_call (F : FnOk X.prog X.w X.K X.mg X.base CX k f fd ps sp) (hr : Room k X.A) (hg : Gl X x) (hm : X.mg x = some (.ref f)) (hk : PySem.W.keepIn X.K (.ref f) = true) (hb : Binds X.K fd ps ds) (hd : Vals dvs ds) (hx : Passes CX X E)
  (ha : PA X (e :: es) t) (hdb : (x == ("__debug__" : Str)) = false := by decide) (he : starEach (e :: es) X.env = (false, eval e X.env) :: starEach es X.env := by rfl) (hpl : (backTo pos (starEach es X.env)).any (·.1) = false := by rfl) :
  PE X (.Call (.Name x p) (e :: es) [] pos) (tCall sp dvs E t) := by
 intro pins s σ H Q I h
 refine wpAny_Call_Name_kw (ld_glob I hg hm ?_ hdb)
 refine PySem.W.callWith_K (h₀ := X.base) I.ok.mod.kin hk (thn (ha pos pins s σ H _ I h) fun us s1 ⟨vs, H1, I1, r, q⟩ => ⟨I1.kIn, ?_⟩) he hpl
 exact run_fn F hr hb hd hx I1 r q
structure Mk (K : Fg) (C f : Addr) : Prop where
 makes : PySem.W.makesIn K C = true
 init : PySem.W.findIn K (.ref C) "__init__" = some (some (.ref f))
 fn : PySem.W.isFn K (.ref f) = true
 kp : PySem.W.keepIn K (.ref C) = true
end
def PK (X : Cx) (kws : List Keyword) (t : TA) : Prop :=
 ∀ (pos : Pos) (pins : PLs) (s : Shared) (σ : St) (H : Hp) (Q : List V -> Hp -> Prop), Inv X pins σ H s -> t σ H Q -> wpAny (model X.prog X.w) X.A (evalAll ((backToKw pos (keywordEach kws X.env)).map (·.2))) (AP X pins σ Q) X.xe s
section
variable {X : Cx} {CX : CXT} {k : Nat} {f C : Addr} {fd : FuncData} {ps ks : List Str} {sp : Sp} {E : XK} {x m : Str} {p pos apos kpos : Pos} {e o : Expr} {es : List Expr} {kws : List Keyword} {te ta : TE} {t tk : TA} {nm : Option Str}
structure KBinds (K : Fg) (fd : FuncData) (ps ks : List Str) (g : List Value -> List Value -> List Value) (gV : List V -> List V -> List V) : Prop where
 to : ∀ (s : Shared) (us ws : List Value), K.In s.heap -> (g us ws).length = ps.length -> BindsTo s fd ⟨us, ks.zip ws⟩ (ps.zip (g us ws))
 rel : ∀ {vs : List V} {us : List Value} {zs : List V} {ws : List Value}, Vals vs us -> Vals zs ws -> Vals (gV vs zs) (g us ws)
def tCallK (sp : Sp) (gV : List V -> List V -> List V) (E : XK) (t tk : TA) : TE := fun σ H Q => t σ H fun vs H1 => tk σ H1 fun zs H2 => sp (gV vs zs) H2 Q E
variable {g : List Value -> List Value -> List Value} {gV : List V -> List V -> List V}
end
structure FnScope (N P : List Str) (sc : Scope) : Prop where
 kind : sc.kind = .function
 co : sc.isCoroutine = false
 gen : sc.isGenerator = false
 nd : N.Nodup
 pre : N.take P.length = P
 par : ∀ x ∈ P, sc.names.lookup x = some .local ∨ sc.names.lookup x = some .cell
 nofree : ∀ y ∈ sc.names, y.2 ≠ .free
theorem bindL_out {kindOf : Str -> Option NameKind} {x : Str} : ∀ {binds : List (Str × Value)} {m : Str -> Option Value}, (∀ v, (x, v) ∉ binds) -> bindL kindOf binds m x = m x
 | [], _, _ => rfl
 | (n, v) :: r, m, h => by
  unfold bindL
  rw [bindL_out fun w hw => h w (List.mem_cons_of_mem _ hw)]
  split
  ·have : x ≠ n := by rintro rfl; exact h v List.mem_cons_self
   simp [this]
  ·rfl
theorem bindC_out {kindOf : Str -> Option NameKind} {x : Str} : ∀ {binds : List (Str × Value)} {m : Str -> Option Value}, (∀ v, (x, v) ∉ binds) -> bindC kindOf binds m x = m x
 | [], _, _ => rfl
 | (n, v) :: r, m, h => by
  unfold bindC
  rw [bindC_out fun w hw => h w (List.mem_cons_of_mem _ hw)]
  split
  ·rfl
  ·have : x ≠ n := by rintro rfl; exact h v List.mem_cons_self
   simp [this]
theorem bindL_get {kindOf : Str -> Option NameKind} {x : Str} {v : Value} : ∀ {P : List Str} {vs : List Value} {i : Nat} {m : Str -> Option Value}, P.Nodup -> P[i]? = some x -> vs[i]? = some v -> kindOf x = some .local →
  bindL kindOf (P.zip vs) m x = some v
 | [], _, _, _, _, h, _, _ => by simp at h
 | _ :: _, [], _, _, _, _, h, _ => by simp at h
 | p :: P, w :: vs, 0, m, nd, h1, h2, hk => by
  simp at h1 h2; subst h1; subst h2
  show bindL kindOf ((p, w) :: P.zip vs) m p = _
  unfold bindL
  rw [bindL_out fun v hv => (List.nodup_cons.mp nd).1 (List.of_mem_zip hv).1, if_pos hk]
  simp
 | p :: P, w :: vs, i + 1, m, nd, h1, h2, hk => by
  show bindL kindOf ((p, w) :: P.zip vs) m x = _
  unfold bindL
  exact bindL_get (i := i) (List.nodup_cons.mp nd).2 (by simpa using h1) (by simpa using h2) hk
theorem bindC_get {kindOf : Str -> Option NameKind} {x : Str} {v : Value} : ∀ {P : List Str} {vs : List Value} {i : Nat} {m : Str -> Option Value}, P.Nodup -> P[i]? = some x -> vs[i]? = some v -> kindOf x ≠ some .local →
  bindC kindOf (P.zip vs) m x = some v
 | [], _, _, _, _, h, _, _ => by simp at h
 | _ :: _, [], _, _, _, _, h, _ => by simp at h
 | p :: P, w :: vs, 0, m, nd, h1, h2, hk => by
  simp at h1 h2; subst h1; subst h2
  show bindC kindOf ((p, w) :: P.zip vs) m p = _
  unfold bindC
  rw [bindC_out fun v hv => (List.nodup_cons.mp nd).1 (List.of_mem_zip hv).1, if_neg hk]
  simp
 | p :: P, w :: vs, i + 1, m, nd, h1, h2, hk => by
  show bindC kindOf ((p, w) :: P.zip vs) m x = _
  unfold bindC
  exact bindC_get (i := i) (List.nodup_cons.mp nd).2 (by simpa using h1) (by simpa using h2) hk
def start (N : List Str) (vs : List V) : St := vs.map some ++ List.replicate (N.length - vs.length) none
def cxOf (CX : CXT) (P : Program) (w : World) (K : Fg) (mg : Str -> Option Value) (base : Heap) (N : List Str) (qual : Str) (scope : Scope) (f : Addr) (cd : Value) (A : Around) (outer : List Env) (s : Shared) (H : Hp) (E : XK) : Cx where
 prog := P
 w := w
 K := K
 mg := mg
 base := base
 A := A.deeper (envOfC qual scope s.heap.objs.size f cd)
 N := N
 s₀ := s
 H₀ := H
 env := envOfC qual scope s.heap.objs.size f cd
 outer := outer
 stack := envOfC qual scope s.heap.objs.size f cd :: outer
 ex := []
 calm := true
 fn := fun _ => true
 pn := []
 xe := fun e s' => wpAny (model P w) (A.deeper (envOfC qual scope s.heap.objs.size f cd)) (leaving (envOfC qual scope s.heap.objs.size f cd) e) (fun _ s'' => CX outer H s E e s'') (fun e' s'' => CX outer H s E e' s'') s'
theorem cell_has {sc : Scope} {n : Nat} {x : Str} (h : sc.names.lookup x = some .cell) : ∃ c, (cellsFrom n sc.names []).lookup x = some c := by
 have q := PySem.W.cellsFrom_some sc.names n [] (.inl h)
 exact Option.isSome_iff_exists.mp q
theorem inv_start {CX : CXT} {P : Program} {w : World} {K : Fg} {mg : Str -> Option Value} {base : Heap} {N ps : List Str} {qual : Str} {scope : Scope} {f : Addr} {cd : Value} {A : Around} {outer : List Env} {s s1 : Shared} {H : Hp} {E : XK} {us : List Value} {vs : List V}
  (S : FnScope N ps scope) (hd : A.handled = none) (e0 : Env0 P w K mg base A outer s H) (hl : vs.length = ps.length) (r : Vals vs us)
  (x : InCallC s s.heap.objs.size (bindL (envOfC qual scope s.heap.objs.size f cd).kindOf (ps.zip us) fun _ => none) (cellsFrom (s.heap.objs.size + 1) scope.names []) (bindC (envOfC qual scope s.heap.objs.size f cd).kindOf (ps.zip us) fun _ => none) s1) :
  Inv (cxOf CX P w K mg base N qual scope f cd A outer s H E) [] (start N vs) H s1 := by
 have hpl : ps.length ≤ N.length := by have := congrArg List.length S.pre; rw [List.length_take] at this; omega
 obtain ⟨h1, tk, rfl, hk⟩ := x.done
 have noA : ∀ b : Addr, b ∉ (cxOf CX P w K mg base N qual scope f cd A outer s H E).ex := fun b z => absurd (show b ∈ ([] : List Addr) from z) (by simp)
 refine ⟨⟨e0.mod, S.kind, rfl, rfl, Nat.le_refl _, fun y z c h1 h2 => ?_, fun y hy => ?_, fun y c _ h => ?_, fun _ => hd, Around.frames_deeper e0.frames, .inr ⟨rfl, rfl⟩, fun b z => absurd z (noA b), e0.bs, e0.bsz, fun b _ _ => noA b, fun b z => absurd z (noA b), e0.funs, e0.frf⟩,
  rfl, e0.bare, Un.kept hk, ⟨_, x.toInCall.ns, fun i y v h1 h2 h3 => ?_⟩, fun y c h => ⟨_, x.cell y c h⟩, e0.hok.fresh (Nat.le_refl _), fun y c h => ?_, fun p hp => absurd (show p ∈ ([] : PLs) from hp) (by simp), e0.hok.kept hk, ?_⟩
 ·exact name_of_addr x.apart (PySem.mem_of_lookup h1) (PySem.mem_of_lookup h2)
 ·have hy : scope.names.lookup y = some .cell ∨ scope.names.lookup y = some .free := hy
  rcases hy with hy | hy
  ·exact cell_has hy
  ·exact absurd rfl (S.nofree _ (PySem.mem_of_lookup hy))
 ·exact Nat.le_of_lt (x.above y c (PySem.mem_of_lookup h))
 ·have hi : i < vs.length := by
   unfold start at h2
   by_cases hi : i < vs.length
   ·exact hi
   ·rw [List.getElem?_append_right (by simpa using hi)] at h2
    rw [List.getElem?_replicate] at h2
    split at h2 <;> cases h2
  have ha : vs[i]? = some v := by
   unfold start at h2
   rw [List.getElem?_append_left (by simpa using hi), List.getElem?_map] at h2
   cases e : vs[i]? with
   | none => rw [e] at h2; cases h2
   | some a => rw [e] at h2; cases h2; rfl
  obtain ⟨u, hu, rv⟩ := r.get ha
  have hp : ps[i]? = some y := by
   rw [← S.pre, List.getElem?_take_of_lt (by omega)]; exact h1
  have ndP : ps.Nodup := by rw [← S.pre]; exact S.nd.sublist (List.take_sublist _ _)
  refine ⟨u, rv, ?_⟩
  rcases S.par y (List.mem_of_getElem? hp) with k | k
  ·exact .inl ⟨k, bindL_get ndP hp hu k⟩
  ·obtain ⟨c, e⟩ := cell_has (n := s.heap.objs.size + 1) k
   refine .inr ⟨.inl k, c, e, ?_⟩
   have q := x.cell y c e
   rw [bindC_get ndP hp hu (by show scope.names.lookup y ≠ _; rw [k]; decide)] at q
   exact q
 ·exact e0.hok.fresh (Nat.le_of_lt (x.above y c (PySem.mem_of_lookup h)))
 ·unfold start
  show _ = N.length
  rw [List.length_append, List.length_map, List.length_replicate]
  omega
theorem fn_of {CX : CXT} {P : Program} {w : World} {K : Fg} {mg : Str -> Option Value} {base : Heap} {k : Nat} {f : Addr} {name qual : Str} {params : Arguments} {body : List Stmt} {scope : Scope} {dV kV doc pm cdv ct oc : Value} {an od : Option Addr}
  {osl : Array (Option Value)} {N ps : List Str} {sp : Sp} (lk : K.lookup f = some ⟨oc, od, .func (PySem.W.fnOf name qual params body scope dV kV doc pm an cdv ct), osl⟩) (hcd : PySem.W.codeIn K cdv qual = true) (S : FnScope N ps scope)
  (len : ∀ vs H Q E, sp vs H Q E -> vs.length = ps.length)
  (hbody : ∀ (A : Around) (outer : List Env) (s : Shared) (H : Hp) (vs : List V) (Q : VK) (E : XK), Room k (A.deeper (envOfC qual scope s.heap.objs.size f cdv)) -> sp vs H Q E →
   ∃ t, PSs (cxOf CX P w K mg base N qual scope f cdv A outer s H E) body t /\ t { nx := fun _ H' => Q .non H', rt := Q } (start N vs) H) :
  FnOk P w K mg base CX (k + 1) f (PySem.W.fnOf name qual params body scope dV kV doc pm an cdv ct) ps sp := by
 refine ⟨len, fun A outer s H args us vs Q E hr e0 hb r hsp => ?_⟩
 have hl := len _ _ _ _ hsp
 have KX : K.In s.heap := e0.mod.kin.keeps fun b o e => (e0.bs b o e).1
 have lim : s.heap.NoLimit := e0.mod.nolimit.keeps fun b o e => (e0.bs b o e).1
 have hkind : ∀ y ∈ ps.zip us, scope.names.lookup y.1 = some .local ∨ (scope.names.lookup y.1 = some .cell /\ ((cellsFrom (s.heap.objs.size + 1) scope.names []).lookup y.1).isSome = true) := fun ⟨n, v⟩ hy => by
  rcases S.par n (List.of_mem_zip hy).1 with q | q
  ·exact .inl q
  ·exact .inr ⟨q, PySem.W.cellsFrom_some _ _ _ (.inl q)⟩
 refine codeAny_call_function hr.depth (KX _ _ lk) rfl S.co S.gen rfl (PySem.W.codeRec_of KX hcd) (hb _ _ _ _ ?_)
 refine wpAny_newFunctionEnv_cells S.kind hkind fun env he s1 x => ?_
 subst he
 refine ⟨lim.keeps x.toInCall.keep, codeAny_func ?_⟩
 obtain ⟨t, ht, hq⟩ := hbody A outer s H vs Q E (hr.deeper _) hsp
 have I : Inv (cxOf CX P w K mg base N qual scope f cdv A outer s H E) [] (start N vs) H s1 := inv_start S hr.hd e0 hl r x
 refine wpAny_mono (ht [] s1 (start N vs) H _ I hq) (fun fl s' hs => ?_) fun e s' hs => hs
 have fin : ∀ {σ' : St} {H' : Hp} {v : V} {u : Value}, Inv (cxOf CX P w K mg base N qual scope f cdv A outer s H E) [] σ' H' s' -> RelV v u -> Q v H' -> CE outer P w H s Q u s' :=
  fun {σ' H' v u} J rv q => ⟨v, H', J.os, J.bare, J.base, J.hok, rv, q⟩
 cases fl with
 | ret u =>
  obtain ⟨v, σ', H', J, rv, q⟩ := hs
  exact fin J rv q
 | next =>
  obtain ⟨σ', H', J, q⟩ := hs
  exact fin (v := V.non) (u := Value.none) J rfl q
 | brk =>
  obtain ⟨_, _, _, q⟩ := hs
  exact False.elim q
 | cont =>
  obtain ⟨_, _, _, q⟩ := hs
  exact False.elim q
end L2
namespace L2
open PySem PySem.Spec PyProof.Rows
section
variable {X : Cx} {x : Str} {p pos : Pos} {e : Expr} {es : List Expr} {t : TA} {id T : String} {r : List V -> Hp -> VK -> Prop}
def tCB (r : List V -> Hp -> VK -> Prop) (t : TA) : TE := fun σ H Q => t σ H fun vs H1 => r vs H1 Q
theorem pe_callB (hc : CallR X (.builtin id) r) (hg : Gl X x) (hm : X.mg x = none) (hv : bootBuiltins x = some (.builtin id)) (ha : PA X (e :: es) t) (hn : x ≠ "__name__" := by decide) (hdb : (x == ("__debug__" : Str)) = false := by decide)
  (he : starEach (e :: es) X.env = (false, eval e X.env) :: starEach es X.env := by rfl) (hpl : (backTo pos (starEach es X.env)).any (·.1) = false := by rfl) : PE X (.Call (.Name x p) (e :: es) [] pos) (tCB r t) := by
 intro pins s σ H Q I h
 refine wpAny_Call_Name_kw (ld_blt I hg hm hv ?_ hn hdb)
 exact PyProof.Rows.callWith_builtin1 (thn (ha pos pins s σ H _ I h) fun us s1 ⟨vs, H1, I1, r1, q1⟩ => hc pins s1 σ H1 vs us Q I1 r1 q1) he hpl
theorem pe_callTy (hc : CallR X (.type T) r) (hg : Gl X x) (hm : X.mg x = none) (hv : bootBuiltins x = some (.type T)) (ha : PA X (e :: es) t) (hn : x ≠ "__name__" := by decide) (hdb : (x == ("__debug__" : Str)) = false := by decide)
  (he : starEach (e :: es) X.env = (false, eval e X.env) :: starEach es X.env := by rfl) (hpl : (backTo pos (starEach es X.env)).any (·.1) = false := by rfl) : PE X (.Call (.Name x p) (e :: es) [] pos) (tCB r t) := by
 intro pins s σ H Q I h
 refine wpAny_Call_Name_kw (ld_blt I hg hm hv ?_ hn hdb)
 exact PyProof.Rows.callWith_type1 (thn (ha pos pins s σ H _ I h) fun us s1 ⟨vs, H1, I1, r1, q1⟩ => hc pins s1 σ H1 vs us Q I1 r1 q1) he hpl
end
end L2
namespace HT
open PySem PyProof.Rows
def lexLt : List Int -> List Int -> Bool
 | [], [] => false
 | [], _ :: _ => true
 | _ :: _, [] => false
 | x :: xs, y :: ys => if x = y then lexLt xs ys else decide (x < y)
section
open PySem.SeqAt
open PySem.AutoSeq1 (wpAny_loadPart')
open PySem.MeetsSeq PySem.MeetsSeq2 PySem.MeetsSeq3
end
section
variable {prog : Program} {w : World} {A : Around} {E : VSP} {s : Shared}
def sIx (n d : Nat) : Option Int -> Nat
 | none => d
 | some v => if v < 0 then (v + (n : Int)).toNat else min v.toNat n
theorem sIx_none (n d : Nat) : sIx n d none = d := rfl
theorem sIx_nat (n d k : Nat) : sIx n d (some (k : Int)) = min k n := by
 show (if (k : Int) < 0 then ((k : Int) + (n : Int)).toNat else min (k : Int).toNat n) = min k n
 rw [if_neg (by omega), Int.toNat_natCast]
theorem sIx_le (n d : Nat) (hd : d ≤ n) (o : Option Int) : sIx n d o ≤ n := by
 cases o with
 | none => exact hd
 | some v =>
  show (if v < 0 then (v + (n : Int)).toNat else min v.toNat n) ≤ n
  by_cases hv : v < 0
  ·rw [if_pos hv]; omega
  ·rw [if_neg hv]; exact Nat.min_le_right _ _
theorem clip_eq (v : Int) (n d : Nat) : (if v < 0 then max (v + (n : Int)) 0 else min v (n : Int)) = ((sIx n d (some v) : Nat) : Int) := by
 show (if v < 0 then max (v + (n : Int)) 0 else min v (n : Int)) = (((if v < 0 then (v + (n : Int)).toNat else min v.toNat n) : Nat) : Int)
 by_cases hv : v < 0
 ·simp only [if_pos hv]; omega
 ·simp only [if_neg hv]; omega
theorem adjust_gen (lo hi : Option Int) (n : Nat) : Builtin.Slice.sliceAdjust lo hi 1 (n : Int) = (((sIx n 0 lo : Nat) : Int), ((sIx n n hi : Nat) : Int)) := by
 have h1 : ¬ ((1 : Int) < 0) := by omega
 unfold Builtin.Slice.sliceAdjust
 simp only [h1, if_false]
 refine Prod.ext ?_ ?_
 ·cases lo with
  | none => rfl
  | some v => exact clip_eq v n 0
 ·cases hi with
  | none => rfl
  | some v => exact clip_eq v n n
theorem places_gen (i j : Nat) : Builtin.Slice.slicePlaces (i : Int) (j : Int) 1 = j - i := by
 unfold Builtin.Slice.slicePlaces
 have h1 : (1 : Int) > 0 := by omega
 simp only [h1, if_true, Int.ediv_one]
 split <;> omega
theorem slicePart_ {v : Value} {o : Option Int} {Q : Option Int -> Shared -> Prop} (p : IsPart v o) (h : Q o s) : wpAny (model prog w) A (Builtin.Slice.slicePartIndex v) Q E s := by
 cases p with
 | none => exact slicePart_none h
 | int i t => exact slicePart_int h
theorem sliceApplied_gen {sl : Addr} {vl vu : Value} {lo hi : Option Int} {n : Nat} {Q : Int × Int × Nat -> Shared -> Prop} (hs : s.heap.IsSliceOf sl vl vu .none) (pl : IsPart vl lo) (pu : IsPart vu hi)
  (h : Q (((sIx n 0 lo : Nat) : Int), 1, sIx n n hi - sIx n 0 lo) s) : wpAny (model prog w) A (Builtin.Slice.sliceApplied (.ref sl) (pure (n : Int))) Q E s := by
 obtain ⟨os, hos, hcs, hds⟩ := id hs
 unfold Builtin.Slice.sliceApplied Builtin.Slice.sliceFields
 refine wpAny_bind (wpAny_bind (wpAny_field hos hds (x := vl) rfl (wpAny_bind (wpAny_field hos hds (x := vu) rfl (wpAny_bind (wpAny_field hos hds (x := .none) rfl (wpAny_pure ?_)))))))
 refine wpAny_bind (slicePart_none ?_)
 show wpAny _ _ (if ((1 : Int) == 0) = true then _ else _) _ _ s
 rw [if_neg (by decide)]
 refine wpAny_bind (slicePart_ pl (wpAny_bind (slicePart_ pu (wpAny_bind (wpAny_pure ?_)))))
 show wpAny _ _ (match Builtin.Slice.sliceAdjust lo hi 1 (n : Int) with | (lo, hi) => pure (lo, (1 : Int), Builtin.Slice.slicePlaces lo hi 1)) _ _ s
 rw [adjust_gen lo hi n]
 show wpAny _ _ (pure (((sIx n 0 lo : Nat) : Int), (1 : Int), Builtin.Slice.slicePlaces ((sIx n 0 lo : Nat) : Int) ((sIx n n hi : Nat) : Int) 1)) _ _ s
 rw [places_gen]
 exact wpAny_pure h
theorem pick_gen (xs : Array Value) (i k : Nat) : ((List.range k).filterMap fun (m : Nat) => xs[((i : Int) + (m : Int) * 1).toNat]?).toArray = ((xs.toList.drop i).take k).toArray := by
 have e : (fun (m : Nat) => xs[((i : Int) + (m : Int) * 1).toNat]?) = fun m => xs[i + m]? := by
  funext m
  have : ((i : Int) + (m : Int) * 1).toNat = i + m := by omega
  rw [this]
 rw [e]
 have := pick_run xs i k
 rw [List.filterMap_map] at this
 have e2 : ((fun x => xs[x]?) ∘ fun x => i + x) = fun m => xs[i + m]? := rfl
 rw [e2] at this
 rw [this]
theorem getItem_tuple_cut {t sl : Addr} {items : Array Value} {vl vu : Value} {lo hi : Option Int} {Q : VSP} (ht : IsTup s.heap t items) (hs : s.heap.IsSliceOf sl vl vu .none) (pl : IsPart vl lo) (pu : IsPart vu hi)
  (hw : ¬ (sIx items.size 0 lo = 0 /\ sIx items.size items.size hi = items.size))
  (h : Q (.ref s.heap.objs.size) { s with heap := s.heap.push { cls := .type "tuple", data := .seq ((items.toList.drop (sIx items.size 0 lo)).take (sIx items.size items.size hi - sIx items.size 0 lo)).toArray } })
  (hsz : items.size ≤ sizeLine) : wpAny (model prog w) A (getItem (.ref t) (.ref sl)) Q E s := by
 have htake : sizeOk (.seq ((items.toList.drop (sIx items.size 0 lo)).take (sIx items.size items.size hi - sIx items.size 0 lo)).toArray) := by
  show ((items.toList.drop (sIx items.size 0 lo)).take (sIx items.size items.size hi - sIx items.size 0 lo)).toArray.size ≤ sizeLine
  rw [List.size_toArray, List.length_take, List.length_drop, Array.length_toList]
  omega
 have hj : sIx items.size items.size hi ≤ items.size := sIx_le _ _ (Nat.le_refl _) hi
 obtain ⟨os, hos, hcs, hds⟩ := id hs
 have hTs : s.TypeIs (.ref sl) "slice" := ⟨os, hos, hcs⟩
 unfold getItem
 try with_reducible refine wpAny_holding ?_
 first | refine wpAny_bind (wpAny_pure ?_) | skip
 refine wpAny_bind (wpAny_sequenceKey ht.typeIs (by decide) ?_)
 refine wpAny_bind (wpAny_callSpecial?_slot (name := Str.ofString "__getitem__") ht.typeIs PyProof.Rows.slot_tuple_getitem
  (wpAny_call_entry PyProof.Rows.slot_tuple_getitem ht.typeIs entry_tuple_getitem ?_ (args_tuple_getitem _ _)))
 show wpAny _ _ (Builtin.Tuple.tupleItemsOf (.ref t) >>= _) _ _ s
 refine wpAny_bind (tupleItemsOf_ ht ?_)
 refine wpAny_bind (wpAny_typeOf hTs ?_)
 rw [if_pos (by decide)]
 refine wpAny_bind (sliceApplied_gen hs pl pu ?_)
 have hno : ¬ ((((sIx items.size 0 lo : Nat) : Int) == 0 && (1 : Int) == 1 && (sIx items.size items.size hi - sIx items.size 0 lo) == items.size) = true) := by
  intro q
  rw [Bool.and_eq_true, Bool.and_eq_true] at q
  have q1 : ((sIx items.size 0 lo : Nat) : Int) = 0 := eq_of_beq q.1.1
  have q2 : sIx items.size items.size hi - sIx items.size 0 lo = items.size := eq_of_beq q.2
  exact hw ⟨by omega, by omega⟩
 show wpAny _ _ (if (((sIx items.size 0 lo : Nat) : Int) == 0 && (1 : Int) == 1 && (sIx items.size items.size hi - sIx items.size 0 lo) == items.size) = true then _ else _) _ _ s
 rw [if_neg hno, pick_gen]
 first
  | exact wpAny_bind (m := Builtin.Tuple.tupleExact _) (wpAny_newObj_type (wpAny_pure ⟨_, rfl, wpAny_pure h⟩) htake)
  | exact wpAny_bind (m := Builtin.Tuple.tupleExact _) (wpAny_newObj_type (wpAny_bind (wpAny_pure (wpAny_pure ⟨_, rfl, wpAny_pure h⟩))) htake)
  | exact wpAny_bind (wpAny_bind (m := Builtin.Tuple.tupleExact _) (wpAny_newObj_type (wpAny_pure (wpAny_pure ⟨_, rfl, wpAny_pure h⟩)) htake))
  | exact wpAny_bind (wpAny_bind (m := Builtin.Tuple.tupleExact _) (wpAny_newObj_type (wpAny_pure ⟨_, rfl, wpAny_pure h⟩) htake))
end
end HT
namespace L2
open PySem PySem.Spec PyProof.Rows
abbrev TO := St -> Hp -> (Option Int -> Hp -> Prop) -> Prop
def PO (X : Cx) (e : Option Expr) (t : TO) : Prop :=
 ∀ (pins : PLs) (s : Shared) (σ : St) (H : Hp) (Q : Option Int -> Hp -> Prop), Inv X pins σ H s -> t σ H Q →
  wpAny (model X.prog X.w) X.A (evalPart e X.env) (fun u s' => ∃ o H', Inv X pins σ H' s' /\ IsPart u o /\ Q o H') X.xe s
def tNoPart : TO := fun _ H Q => Q none H
def tPart (t : TE) : TO := fun σ H Q => t σ H fun x H1 => ∃ i, x = .int i /\ Q (some i) H1
section
variable {X : Cx} {e : Expr} {te : TE} {lo hi : Option Expr} {tl th : TO} {pos p2 : Pos}
theorem po_none : PO X none tNoPart := by
 intro pins s σ H Q I h
 rw [evalPart_none]
 exact wpAny_pure ⟨none, H, I, .none, h⟩
theorem po_some (h : PE X e te) : PO X (some e) (tPart te) := by
 intro pins s σ H Q I hw
 rw [evalPart_some]
 refine thn (h pins s σ H _ I hw) fun u s1 ⟨x, H1, I1, r1, q1⟩ => ?_
 obtain ⟨i, rfl, q⟩ := q1
 obtain ⟨t, rfl⟩ := r1
 exact ⟨some i, H1, I1, .int i t, q⟩
def SlR (X : Cx) (r : V -> Option Int -> Option Int -> Hp -> VK -> Prop) : Prop :=
 ∀ (pins : PLs) (s : Shared) (σ : St) (H : Hp) (x : V) (v vl vu : Value) (lo hi : Option Int) (sl : Addr) (Q : VK), Inv X pins σ H s -> RelV x v -> s.heap.IsSliceOf sl vl vu .none -> IsPart vl lo -> IsPart vu hi -> r x lo hi H Q →
  ∃ T id, typeLookup (.type T) "__getitem__" = pure (some (.builtin id)) /\ s.TypeIs v T /\ wpAny (model X.prog X.w) X.A (getItem v (.ref sl)) (EP X pins σ Q) X.xe s
theorem SlR.or {r r' : V -> Option Int -> Option Int -> Hp -> VK -> Prop} (h : SlR X r) (h' : SlR X r') : SlR X (fun x lo hi H Q => r x lo hi H Q ∨ r' x lo hi H Q) := by
 intro pins s σ H x v vl vu lo hi sl Q I rx hs pl pu q
 rcases q with q | q
 ·exact h pins s σ H x v vl vu lo hi sl Q I rx hs pl pu q
 ·exact h' pins s σ H x v vl vu lo hi sl Q I rx hs pl pu q
def tSl (r : V -> Option Int -> Option Int -> Hp -> VK -> Prop) (te : TE) (tl th : TO) : TE := fun σ H Q => te σ H fun x H1 => tl σ H1 fun l H2 => th σ H2 fun u H3 => r x l u H3 Q
theorem pe_slice {r : V -> Option Int -> Option Int -> Hp -> VK -> Prop} (hr : SlR X r) (he : PE X e te) (hl : PO X lo tl) (hu : PO X hi th) : PE X (.Subscript e (.Slice lo hi none p2) pos) (tSl r te tl th) := by
 intro pins s σ H Q I h
 refine Subscript_ (thn (he pins s σ H _ I h) fun v s1 ⟨x, H1, I1, r1, q1⟩ => ?_)
 refine wpAny_Slice (thn (hl pins s1 σ H1 _ I1 q1) fun vl s2 ⟨l, H2, I2, pl, q2⟩ => thn (hu pins s2 σ H2 _ I2 q2) fun vu s3 ⟨u, H3, I3, pu, q3⟩ => ?_)
 rw [evalPart_none]
 refine wpAny_pure ?_
 have I4 : Inv X pins σ H3 { s3 with heap := s3.heap.push { cls := .type "slice", data := .fields #[vl, vu, .none] } } := I3.kept (t' := s3.toks) fun b ob q => Heap.get?_push_of_some _ q
 obtain ⟨T, id, hT, ht, hg⟩ := hr pins { s3 with heap := s3.heap.push { cls := .type "slice", data := .fields #[vl, vu, .none] } } σ H3 x v vl vu l u s3.heap.objs.size Q I4 r1 (Heap.IsSliceOf.new ..) pl pu q3
 show wpAny (model X.prog X.w) X.A (subscriptTail e (.Slice lo hi none p2) v (.ref s3.heap.objs.size)) (EP X pins σ Q) X.xe { s3 with heap := s3.heap.push { cls := .type "slice", data := .fields #[vl, vu, .none] } }
 exact tail_any (ops := [.ref s3.heap.objs.size, v]) ht hT hg (by with_unfolding_all rfl)
def cutV (xs : List V) (lo hi : Option Int) : List V := (xs.drop (HT.sIx xs.length 0 lo)).take (HT.sIx xs.length xs.length hi - HT.sIx xs.length 0 lo)
theorem cutV_length (xs : List V) (lo hi : Option Int) : (cutV xs lo hi).length ≤ xs.length := by
 unfold cutV
 rw [List.length_take, List.length_drop]
 omega
def rSlT (K : Fg) : V -> Option Int -> Option Int -> Hp -> VK -> Prop := fun x lo hi H Q => ∃ a xs, x = .ref a /\ SqT K H a xs ∧
 ¬ (HT.sIx xs.length 0 lo = 0 /\ HT.sIx xs.length xs.length hi = xs.length) /\ ∀ p, H p = none -> Q (.ref p) (upd H p (.tup (cutV xs lo hi)))
theorem sl_tup : SlR X (rSlT X.K) := by
 intro pins s σ H x v vl vu lo hi sl Q I rx hs pl pu h
 obtain ⟨a, xs, rfl, hx, hw, q⟩ := h
 cases rx
 obtain ⟨its, r, ht, hz⟩ := I.tuple hx
 have hlen : its.toArray.size = xs.length := by rw [List.size_toArray]; exact r.length.symm
 refine ⟨"tuple", _, PyProof.Rows.slot_tuple_getitem.lookup, ht.typeIs, ?_⟩
 refine HT.getItem_tuple_cut ht hs pl pu (by rw [hlen]; exact hw) ?_ (by rw [hlen]; exact hz)
 rw [hlen]
 refine ⟨.ref s.heap.objs.size, _, I.laid (t' := s.toks) (o := .tup (cutV xs lo hi)) (fun b ob q => Heap.get?_push_of_some _ q) (Nat.le_refl _) ?_, rfl, q _ (I.hok.fresh (Nat.le_refl _))⟩
 exact ⟨Nat.le_trans (cutV_length xs lo hi) hz, _, (r.drop (HT.sIx xs.length 0 lo)).take (HT.sIx xs.length xs.length hi - HT.sIx xs.length 0 lo), IsTup.new _ _⟩
def rLtT (K : Fg) : R2 := fun x y H Q => ∃ a b ns ms, x = .ref a /\ y = .ref b /\ SqT K H a (ns.map V.int) /\ SqT K H b (ms.map V.int) /\ Q (.bl (HT.lexLt ns ms)) H
def rCatT (K : Fg) : R2 := fun x y H Q => ∃ a b xs ys, x = .ref a /\ y = .ref b /\ SqT K H a xs /\ SqT K H b ys /\ xs ≠ [] /\ xs.length + ys.length ≤ sizeLine ∧
 (ys = [] -> Q (.ref a) H) /\ (ys ≠ [] -> ∀ p, H p = none -> Q (.ref p) (upd H p (.tup (xs ++ ys))))
end
end L2
namespace L2
open PySem PySem.Spec PyProof.Rows
def ixN (n : Nat) (i : Int) : Option Nat := if 0 ≤ i then (if i < n then some i.toNat else none) else if -(n : Int) ≤ i then some (i + n).toNat else none
def atI {α : Type} (xs : List α) (i : Int) : Option α := (ixN xs.length i).bind fun j => xs[j]?
theorem ixN_seq {n : Nat} {i : Int} {j : Nat} (h : ixN n i = some j) : seqIndex? i n = some j /\ j < n /\ -(n : Int) ≤ i /\ i < n := by
 unfold ixN at h
 by_cases h0 : 0 ≤ i
 ·rw [if_pos h0] at h
  by_cases h1 : i < n
  ·rw [if_pos h1] at h
   have e : i.toNat = j := Option.some.inj h
   exact ⟨by rw [seqIndex_of h0 h1, e], by omega, by omega, h1⟩
  ·rw [if_neg h1] at h; cases h
 ·rw [if_neg h0] at h
  by_cases h1 : -(n : Int) ≤ i
  ·rw [if_pos h1] at h
   have e : (i + n).toNat = j := Option.some.inj h
   exact ⟨by rw [seqIndex_neg (by omega) h1, e], by omega, h1, by omega⟩
  ·rw [if_neg h1] at h; cases h
theorem atI_get {α : Type} {xs : List α} {i : Int} {v : α} (h : atI xs i = some v) : ∃ j, seqIndex? i xs.length = some j /\ xs[j]? = some v /\ j < xs.length /\ -(xs.length : Int) ≤ i /\ i < xs.length := by
 unfold atI at h
 cases e : ixN xs.length i with
 | none => rw [e] at h; cases h
 | some j =>
  rw [e] at h
  obtain ⟨h1, h2, h3, h4⟩ := ixN_seq e
  exact ⟨j, h1, h, h2, h3, h4⟩
theorem atI_nat {α : Type} {xs : List α} {j : Nat} {v : α} (h : xs[j]? = some v) : atI xs (j : Int) = some v := by
 have hj : j < xs.length := (List.getElem?_eq_some_iff.mp h).1
 have e : ixN xs.length (j : Int) = some j := by
  unfold ixN
  rw [if_pos (by omega), if_pos (by omega)]; simp
 unfold atI; rw [e]; exact h
theorem atI_last {α : Type} (xs : List α) (v : α) : atI (xs ++ [v]) (-1) = some v := by
 have hl : (xs ++ [v]).length = xs.length + 1 := by simp
 have e : ixN (xs ++ [v]).length (-1) = some xs.length := by
  unfold ixN
  rw [hl, if_neg (by decide), if_pos (by omega)]
  congr 1
  omega
 unfold atI
 rw [e]
 show (xs ++ [v])[xs.length]? = some v
 simp
def PlainIx (b : Expr) : Prop := ∀ o i, subscripted b false o i = operate [o, i] (getItem o i)
def IxR (X : Cx) (r : R2) : Prop :=
 ∀ (value slice : Expr) (pins : PLs) (s : Shared) (σ : St) (H : Hp) (x y : V) (v u : Value) (Q : VK), Inv X pins σ H s -> RelV x v -> RelV y u -> r x y H Q →
  subscripted slice false v u = operate [v, u] (getItem v u) -> wpAny (model X.prog X.w) X.A (subscriptTail value slice v u) (EP X pins σ Q) X.xe s
def MtR (X : Cx) (id : String) (r : V -> List V -> Hp -> VK -> Prop) : Prop :=
 ∀ (pins : PLs) (s : Shared) (σ : St) (H : Hp) (x : V) (xs : List V) (v : Value) (us : List Value) (Q : VK), Inv X pins σ H s -> RelV x v -> Vals xs us -> r x xs H Q →
  wpAny (model X.prog X.w) X.A (call (.builtin id) (v :: us)) (EP X pins σ Q) X.xe s
section
variable {X : Cx} {a b : Expr} {ta tb : TE} {pos : Pos}
theorem pe_ix {r : R2} (hr : IxR X r) (ha : PE X a ta) (hb : PE X b tb) (hs : PlainIx b) : PE X (.Subscript a b pos) (tOp r ta tb) := by
 intro pins s σ H Q I h
 exact Subscript_ (binT ha hb I h fun v u s2 x y H2 I2 rx ry q => hr a b pins s2 σ H2 x y v u Q I2 rx ry q (hs _ _))
def rIxL (K : Fg) : R2 := fun x y H Q => ∃ p xs i v, x = .ref p /\ y = .int i /\ SqL K H p xs /\ atI xs i = some v /\ Q v H
def rIxT (K : Fg) : R2 := fun x y H Q => ∃ p xs i v, x = .ref p /\ y = .int i /\ SqT K H p xs /\ atI xs i = some v /\ Q v H
def rIxS : R2 := fun x y H Q => ∃ z i c, x = .str z /\ y = .int i /\ z.length ≤ sizeLine /\ atI z.cps.toList i = some c /\ Q (.str ⟨#[c]⟩) H
theorem ix_list : IxR X (rIxL X.K) := by
 intro value slice pins s σ H x y v u Q I rx ry h hs
 obtain ⟨p, xs, i, z, rfl, rfl, hq, he, q⟩ := h
 cases rx
 obtain ⟨t, rfl⟩ := ry
 obtain ⟨its, r, pl, hz⟩ := I.list hq
 obtain ⟨j, h1, h2, h3, h4, h5⟩ := atI_get he
 obtain ⟨w, ew, rw'⟩ := r.get h2
 have hl := r.length
 have hn := line63
 have fin : EP X pins σ Q w s := ⟨z, H, I, rw', q⟩
 by_cases h0 : 0 ≤ i
 ·have hj : i.toNat = j := by
   rw [seqIndex_of h0 h5] at h1
   exact Option.some.inj h1
  exact item_listR pl.isList h0 (by omega) (by rw [hj]; simpa using ew) fin hs
 ·have hj : (i + (its.toArray.size : Int)).toNat = j := by
   rw [seqIndex_neg (by omega) h4] at h1
   rw [List.size_toArray, ← hl]
   exact Option.some.inj h1
  exact subscriptTail_builtinR (x := w) pl.isList.typeIs slot_list_getitem.lookup
   (wpAny_getItem_list_neg (Q := fun r s' => r = w /\ EP X pins σ Q r s') pl.isList (by omega) (by rw [List.size_toArray] <;> omega) (by omega) (by rw [hj]; simpa using ew) ⟨rfl, fin⟩) hs
theorem ix_tup : IxR X (rIxT X.K) := by
 intro value slice pins s σ H x y v u Q I rx ry h hs
 obtain ⟨p, xs, i, z, rfl, rfl, hq, he, q⟩ := h
 cases rx
 obtain ⟨t, rfl⟩ := ry
 obtain ⟨its, r, pl, hz⟩ := I.tuple hq
 obtain ⟨j, h1, h2, h3, h4, h5⟩ := atI_get he
 obtain ⟨w, ew, rw'⟩ := r.get h2
 have hl := r.length
 have hn := line63
 have fin : EP X pins σ Q w s := ⟨z, H, I, rw', q⟩
 exact subscriptTail_builtinR (x := w) pl.typeIs slot_tuple_getitem.lookup
  (getItem_tuple (j := j) (Q := fun r s' => r = w /\ EP X pins σ Q r s') pl (by omega) (by omega) (by rw [List.size_toArray, ← hl]; exact h1) (by simpa using ew) ⟨rfl, fin⟩) hs
def rIx (K : Fg) : R2 := fun x y H Q => rIxL K x y H Q ∨ rIxT K x y H Q ∨ rIxS x y H Q
theorem mapSeq_set (its : List Value) (n j : Nat) (u : Value) : Obj.mapSeq (·.setIfInBounds j u) { cls := .type "list", data := .seq its.toArray n } = { cls := .type "list", data := .seq (its.set j u).toArray n } := by
 simp [Obj.mapSeq]
theorem Inv.lst {pins : PLs} {σ : St} {H : Hp} {s : Shared} {p : Addr} {xs : List V} (I : Inv X pins σ H s) (h : H p = some (.lst xs)) :
  ∃ (its : List Value) (n : Nat), Vals xs its /\ s.heap.get? p = some { cls := .type "list", data := .seq its.toArray n } /\ xs.length ≤ sizeLine := by
 obtain ⟨z, its, n, r, e⟩ := I.hok p _ h
 exact ⟨its, n, r, e, z⟩
theorem Inv.lstUpd {pins : PLs} {σ : St} {H : Hp} {s : Shared} {p : Addr} {xs ys : List V} {its its' : List Value} {n n' : Nat} {f : Obj -> Obj} (I : Inv X pins σ H s) (h : H p = some (.lst xs))
  (ho : s.heap.get? p = some { cls := .type "list", data := .seq its.toArray n }) (hf : f { cls := .type "list", data := .seq its.toArray n } = { cls := .type "list", data := .seq its'.toArray n' }) (r : Vals ys its') (hz : ys.length ≤ sizeLine) (t : Nat) :
  Inv X pins σ (upd H p (.lst ys)) { s with heap := s.heap.update p f, toks := t } := by
 have e : (s.heap.update p f).get? p = some { cls := .type "list", data := .seq its'.toArray n' } := by
  rw [Heap.get?_update_self f ho (by rw [hf] <;> rfl), hf]
 refine I.write (x := p) (e := p) (by rw [h]; trivial) (.inl rfl) (fun b u hb q => (Heap.get?_update_other _ _ (Ne.symm hb)).trans q) ⟨_, e⟩ ?_
 exact ⟨hz, its', n', r, e⟩
def rSetL : V -> V -> V -> Hp -> (Hp -> Prop) -> Prop := fun o i v H Q => ∃ p xs k j, o = .ref p /\ i = .int k /\ H p = some (.lst xs) /\ ixN xs.length k = some j /\ Q (upd H p (.lst (xs.set j v)))
theorem set_list : PSet X rSetL := by
 intro pins s σ H o i v ov iv u Q I ro ri rv h
 obtain ⟨p, xs, k, j, rfl, rfl, hp, hj, q⟩ := h
 cases ro
 obtain ⟨t, rfl⟩ := ri
 obtain ⟨its, n, r, ho, hz⟩ := I.lst hp
 obtain ⟨h1, h2, h3, h4⟩ := ixN_seq hj
 have hl := r.length
 have hn := line63
 have I' : Inv X pins σ (upd H p (.lst (xs.set j v))) { s with heap := s.heap.update p (Obj.mapSeq (·.setIfInBounds j u)) } :=
  I.lstUpd hp ho (mapSeq_set its n j u) (r.set rv j) (by rw [List.length_set]; exact hz) s.toks
 by_cases h0 : 0 ≤ k
 ·have hk : k.toNat = j := by
   rw [seqIndex_of h0 h4] at h1
   exact Option.some.inj h1
  exact PySem.W.ki_setAt ho h0 (by omega) (by rw [List.size_toArray, ← hl]; exact h4) (by rw [hk]; exact ⟨_, I', q⟩)
 ·have hk : (k + (its.toArray.size : Int)).toNat = j := by
   rw [seqIndex_neg (by omega) h3] at h1
   rw [List.size_toArray, ← hl]
   exact Option.some.inj h1
  exact PySem.W.ki_setBack ho (by omega) (by rw [List.size_toArray, ← hl]; exact h3) (by omega) (by rw [hk]; exact ⟨_, I', q⟩)
theorem slice_bounds (lo hi : Option Int) (n : Nat) : (sliceBounds lo hi none n).1 = ((HT.sIx n 0 lo : Nat) : Int) /\ (sliceBounds lo hi none n).2.1 = ((HT.sIx n n hi : Nat) : Int) /\ (sliceBounds lo hi none n).2.2 = 1 := by
 refine ⟨?_, ?_, rfl⟩
 ·cases lo with
  | none => simp [sliceBounds, HT.sIx]
  | some i =>
   simp only [sliceBounds, HT.sIx, Option.getD_none, show (1 : Int) > 0 by decide, if_true]
   by_cases h : i < 0
   ·simp only [h, if_true] <;> omega
   ·simp only [h, if_false] <;> omega
 ·cases hi with
  | none => simp [sliceBounds, HT.sIx]
  | some i =>
   simp only [sliceBounds, HT.sIx, Option.getD_none, show (1 : Int) > 0 by decide, if_true]
   by_cases h : i < 0
   ·simp only [h, if_true] <;> omega
   ·simp only [h, if_false] <;> omega
theorem slicePick_cut (its : List Value) (lo hi : Option Int) : slicePick its.toArray lo hi none = ((its.drop (HT.sIx its.length 0 lo)).take (HT.sIx its.length its.length hi - HT.sIx its.length 0 lo)).toArray := by
 obtain ⟨h1, h2, h3⟩ := slice_bounds lo hi its.toArray.size
 unfold slicePick
 rw [h1, h2, h3]
 simp only [sliceRange_one, pick_run, List.size_toArray] <;> rfl
def rSlL (K : Fg) : V -> Option Int -> Option Int -> Hp -> VK -> Prop := fun x lo hi H Q => ∃ a xs, x = .ref a /\ SqL K H a xs /\ ∀ p, H p = none -> Q (.ref p) (upd H p (.lst (cutV xs lo hi)))
theorem sl_list : SlR X (rSlL X.K) := by
 intro pins s σ H x v vl vu lo hi sl Q I rx hs pl pu h
 obtain ⟨a, xs, rfl, hx, q⟩ := h
 cases rx
 obtain ⟨its, r, ht, hz⟩ := I.list hx
 have hlen := r.length
 refine ⟨"list", _, slot_list_getitem.lookup, ht.isList.typeIs, ?_⟩
 refine wpAny_getItem_list_slice ht.isList hs pl pu .none (by simp) ?_ (by rw [List.size_toArray] <;> omega)
 rw [slicePick_cut, ← hlen]
 refine ⟨.ref s.heap.objs.size, _, I.laid (t' := s.toks) (o := .lst (cutV xs lo hi)) (fun b ob q => Heap.get?_push_of_some _ q) (Nat.le_refl _) ?_, rfl, q _ (I.hok.fresh (Nat.le_refl _))⟩
 exact ⟨Nat.le_trans (cutV_length xs lo hi) hz, _, 0, (r.drop (HT.sIx xs.length 0 lo)).take (HT.sIx xs.length xs.length hi - HT.sIx xs.length 0 lo), Heap.get?_push_size _ rfl⟩
def flatV : V -> Bool
 | .non => true
 | .bl _ => true
 | .int _ => true
 | .str _ => true
 | _ => false
def eqV : V -> V -> Bool
 | .non, .non => true
 | .bl a, .bl b => a == b
 | .bl a, .int b => (if a then 1 else 0) == b
 | .int a, .bl b => a == (if b then 1 else 0)
 | .int a, .int b => a == b
 | .str a, .str b => a == b
 | _, _ => false
theorem eqAt_V {A : Around} {s : Shared} {y x : V} {u v : Value} (ry : RelV y u) (rx : RelV x v) (fy : flatV y = true) (fx : flatV x = true) : SeqAt.EqAt A s u v (eqV y x) := by
 cases y with
 | non =>
  cases ry
  cases x with
  | non => cases rx; exact SeqAt.EqAt.same _
  | bl b => cases rx; exact SeqAt.EqAt.none_bool b
  | int b => obtain ⟨t, rfl⟩ := rx; exact SeqAt.EqAt.none_int b t
  | str b => obtain ⟨t, rfl⟩ := rx; exact SeqAt.EqAt.none_str b t
  | _ => exact absurd (show false = true from fx) Bool.false_ne_true
 | bl a =>
  cases ry
  cases x with
  | non => cases rx; exact SeqAt.EqAt.bool_none a
  | bl b => cases rx; exact SeqAt.EqAt.bool_bool a b
  | int b => obtain ⟨t, rfl⟩ := rx; exact SeqAt.EqAt.bool_int a b t
  | str b => obtain ⟨t, rfl⟩ := rx; exact SeqAt.EqAt.bool_str a b t
  | _ => exact absurd (show false = true from fx) Bool.false_ne_true
 | int a =>
  obtain ⟨t', rfl⟩ := ry
  cases x with
  | non => cases rx; exact SeqAt.EqAt.int_none a t'
  | bl b => cases rx; exact SeqAt.EqAt.int_bool a t' b
  | int b => obtain ⟨t, rfl⟩ := rx; exact SeqAt.EqAt.int_int a t' b t
  | str b => obtain ⟨t, rfl⟩ := rx; exact SeqAt.EqAt.int_str a t' b t
  | _ => exact absurd (show false = true from fx) Bool.false_ne_true
 | str a =>
  obtain ⟨t', rfl⟩ := ry
  cases x with
  | non => cases rx; exact SeqAt.EqAt.str_none a t'
  | bl b => cases rx; exact SeqAt.EqAt.str_bool a t' b
  | int b => obtain ⟨t, rfl⟩ := rx; exact SeqAt.EqAt.str_int a t' b t
  | str b => obtain ⟨t, rfl⟩ := rx; exact SeqAt.EqAt.str_str a t' b t
  | _ => exact absurd (show false = true from fx) Bool.false_ne_true
 | _ => exact absurd (show false = true from fy) Bool.false_ne_true
def eqU (x : V) (u : Value) : Bool := match u with
 | .none => eqV .non x
 | .bool b => eqV (.bl b) x
 | .int i _ => eqV (.int i) x
 | .str z _ => eqV (.str z) x
 | _ => false
theorem eqU_of {x y : V} {u : Value} (r : RelV y u) (f : flatV y = true) : eqU x u = eqV y x := by
 cases y with
 | non => cases r; rfl
 | bl b => cases r; rfl
 | int i => obtain ⟨t, rfl⟩ := r; rfl
 | str z => obtain ⟨t, rfl⟩ := r; rfl
 | _ => exact absurd (show false = true from f) Bool.false_ne_true
theorem any_eqU {x : V} : ∀ {xs : List V} {us : List Value}, Vals xs us -> xs.all flatV = true -> us.any (eqU x) = xs.any fun y => eqV y x
 | _, _, .nil, _ => rfl
 | y :: xs, u :: us, .cons r t, f => by
  rw [List.all_cons, Bool.and_eq_true] at f
  rw [List.any_cons, List.any_cons, eqU_of r f.1, any_eqU t f.2]
theorem mem_eqAt {A : Around} {s : Shared} {x : V} {v : Value} (rx : RelV x v) (fx : flatV x = true) : ∀ {xs : List V} {us : List Value}, Vals xs us -> xs.all flatV = true -> ∀ u ∈ us, SeqAt.EqAt A s u v (eqU x u)
 | _, _, .nil, _ => fun u hu => by cases hu
 | y :: xs, u :: us, .cons r t, f => fun u' hu => by
  rw [List.all_cons, Bool.and_eq_true] at f
  rcases List.mem_cons.mp hu with rfl | hu
  ·rw [eqU_of r f.1]; exact eqAt_V r rx f.1 fx
  ·exact mem_eqAt rx fx t f.2 u' hu
def inV (x : V) (xs : List V) : Bool := xs.any fun y => eqV y x
def rIn (K : Fg) (neg : Bool) : R2 := fun x y H Q => ∃ p xs, y = .ref p /\ (SqL K H p xs ∨ SqT K H p xs) /\ flatV x = true /\ xs.all flatV = true /\ Q (.bl (if neg then !inV x xs else inV x xs)) H
theorem op_notIn_seq : OpR X (compareOp .NotIn) (rIn X.K true) := by
 intro pins s σ H x y v u Q I rx ry h
 obtain ⟨p, xs, rfl, hq, fx, fs, q⟩ := h
 cases ry
 rcases hq with hq | hq
 ·obtain ⟨its, r, pl, hz⟩ := I.list hq
  refine SeqAt.notIn_listAt (eqU x) pl.isList (fun w hw => mem_eqAt rx fx r fs w (by simpa using hw)) ⟨.bl _, H, I, rfl, ?_⟩
  rw [show its.toArray.any (eqU x) = its.any (eqU x) by simp, any_eqU r fs]
  exact q
 ·obtain ⟨its, r, pl, hz⟩ := I.tuple hq
  refine SeqAt.notIn_tupleAt (eqU x) pl (fun w hw => mem_eqAt rx fx r fs w (by simpa using hw)) ⟨.bl _, H, I, rfl, ?_⟩
  rw [show its.toArray.any (eqU x) = its.any (eqU x) by simp, any_eqU r fs]
  exact q
theorem call_len_seq : CallR X (.builtin "len") (fun xs H Q => ∃ p ys, xs = [.ref p] /\ (SqL X.K H p ys ∨ SqT X.K H p ys) /\ Q (.int ys.length) H) := by
 intro pins s σ H xs us Q I r h
 obtain ⟨p, ys, rfl, hq, q⟩ := h
 obtain ⟨u, rfl, rx⟩ := vals1 r
 cases rx
 have hn := line63
 rcases hq with hq | hq
 ·obtain ⟨its, r', pl, hz⟩ := I.list hq
  have hlen := r'.length
  exact Calls.call_len_list pl.isList (by simp only [List.size_toArray] <;> omega) ⟨.int ys.length, H, I.tok _, ⟨s.toks + 1, by rw [List.size_toArray, hlen]⟩, q⟩
 ·obtain ⟨its, r', pl, hz⟩ := I.tuple hq
  have hlen := r'.length
  exact len_tuple pl (by simp only [List.size_toArray] <;> omega) ⟨.int ys.length, H, I.tok _, ⟨s.toks + 1, by rw [List.size_toArray, hlen]⟩, q⟩
theorem call_list_of : CallR X (.type "list") (fun xs H Q => ∃ p ys, xs = [.ref p] /\ (SqL X.K H p ys ∨ SqT X.K H p ys) /\ ∀ l, H l = none -> Q (.ref l) (upd H l (.lst ys))) := by
 intro pins s σ H xs us Q I r h
 obtain ⟨p, ys, rfl, hq, q⟩ := h
 obtain ⟨u, rfl, rx⟩ := vals1 r
 cases rx
 have fin : ∀ (its : List Value), Vals ys its -> ys.length ≤ sizeLine -> ∀ (h' : Heap) (c' : Nat), (∀ b o', s.heap.get? b = some o' -> h'.get? b = some o') →
   h'.get? s.heap.objs.size = some { cls := .type "list", dict := none, data := .seq its.toArray c', slots := #[] } -> EP X pins σ Q (.ref s.heap.objs.size) { s with heap := h' } := fun its r' hz h' c' kp e =>
  ⟨.ref s.heap.objs.size, _, I.laid (t' := s.toks) kp (Nat.le_refl _) (show ObjOk X.prog X.w _ h' _ (.lst ys) from ⟨hz, its, c', r', e⟩), rfl, q _ (I.hok.fresh (Nat.le_refl _))⟩
 rcases hq with hq | hq
 ·obtain ⟨its, r', pl, hz⟩ := I.list hq
  have hlen := r'.length
  obtain ⟨o, ho, hc, n, hd⟩ := pl.isList
  exact call_list_seq p (.inl rfl) ho hc hd (fun h' c' kp e => fin its r' hz h' c' kp e) (by simp only [List.size_toArray] <;> omega)
 ·obtain ⟨its, r', pl, hz⟩ := I.tuple hq
  have hlen := r'.length
  obtain ⟨o, ho, hc, n, hd⟩ := pl
  exact call_list_seq p (.inr rfl) ho hc hd (fun h' c' kp e => fin its r' hz h' c' kp e) (by simp only [List.size_toArray] <;> omega)
theorem call_tuple_of : CallR X (.type "tuple") (fun xs H Q => ∃ p ys, xs = [.ref p] /\ ((SqL X.K H p ys /\ ∀ l, H l = none -> Q (.ref l) (upd H l (.tup ys))) ∨ (SqT X.K H p ys /\ Q (.ref p) H))) := by
 intro pins s σ H xs us Q I r h
 obtain ⟨p, ys, rfl, h⟩ := h
 obtain ⟨u, rfl, rx⟩ := vals1 r
 cases rx
 rcases h with ⟨hq, q⟩ | ⟨hq, q⟩
 ·obtain ⟨its, r', pl, hz⟩ := I.list hq
  have hlen := r'.length
  refine call_tuple_list pl.isList (fun h' kp => ?_) (by simp only [List.size_toArray] <;> omega)
  have I1 : Inv X pins σ H { s with heap := h' } := I.kept (t' := s.toks) kp
  have I2 : Inv X pins σ (upd H h'.objs.size (.tup ys)) { s with heap := h'.push { cls := .type "tuple", data := .seq its.toArray } } :=
   I1.laid (t' := s.toks) (fun b o e => Heap.get?_push_of_some _ e) (Nat.le_refl _) (show ObjOk X.prog X.w _ _ _ (.tup ys) from ⟨hz, its, r', IsTup.new _ _⟩)
  exact ⟨.ref h'.objs.size, _, I2, rfl, q _ (I1.hok.fresh (Nat.le_refl _))⟩
 ·obtain ⟨its, r', pl, hz⟩ := I.tuple hq
  exact call_tuple_same pl ⟨.ref p, H, I, rfl, q⟩
def tyV (K : Fg) (T : String) (x : V) (H : Hp) : Prop := match x with
 | .str _ => T = "str"
 | .int _ => T = "int"
 | .ref p => (T = "list" /\ ∃ xs, SqL K H p xs) ∨ (T = "tuple" /\ ∃ o, K.lookup p = some o /\ o.cls = .type "tuple" /\ o.dict = none) ∨
   (T = "dict" /\ ((∃ kvs, H p = some (.dK kvs)) ∨ ∃ kvs, H p = some (.dT kvs))) ∨ (T = "set" /\ ∃ S n, H p = some (.set S n))
 | _ => False
theorem tyV_is {pins : PLs} {σ : St} {H : Hp} {s : Shared} {T : String} {x : V} {v : Value} (I : Inv X pins σ H s) (r : RelV x v) (ty : tyV X.K T x H) :
  s.TypeIs v T /\ ∀ a, v = .ref a -> ∃ ob, s.heap.get? a = some ob /\ ob.dict = none := by
 cases x with
 | str z =>
  obtain ⟨t, rfl⟩ := r
  cases (show T = "str" from ty)
  exact ⟨typeIs_str s z t, fun _ e => nomatch e⟩
 | int i =>
  obtain ⟨t, rfl⟩ := r
  cases (show T = "int" from ty)
  exact ⟨typeIs_int s i t, fun _ e => nomatch e⟩
 | ref p =>
  cases r
  rcases ty with ⟨rfl, xs, hq⟩ | ⟨rfl, o, hk, hc, hd⟩ | ⟨rfl, hk⟩ | ⟨rfl, S, n, hk⟩
  ·obtain ⟨its, _, pl, _⟩ := I.list hq
   refine ⟨pl.isList.typeIs, fun a e => ?_⟩
   cases e
   obtain ⟨o, n, e, c, hd, _⟩ := pl
   exact ⟨o, e, hd⟩
  ·refine ⟨⟨o, I.kIn p o hk, hc⟩, fun a e => ?_⟩
   cases e
   exact ⟨o, I.kIn _ o hk, hd⟩
  ·have z : ∃ o, s.heap.get? p = some o /\ o.ExactDict := by
    rcases hk with ⟨kvs, hk⟩ | ⟨kvs, hk⟩
    ·obtain ⟨_, _, _, _, o, _, _, e, ex, _⟩ := I.hok p _ hk
     exact ⟨o, e, ex⟩
    ·obtain ⟨_, _, _, _, o, _, _, e, ex, _⟩ := I.hok p _ hk
     exact ⟨o, e, ex⟩
   obtain ⟨o, e, ex⟩ := z
   refine ⟨⟨o, e, ex.1⟩, fun a e2 => ?_⟩
   cases e2
   exact ⟨o, e, ex.2.1⟩
  ·obtain ⟨o, _, _, _, e, ex, _⟩ := I.hok p _ hk
   refine ⟨⟨o, e, ex.1⟩, fun a e2 => ?_⟩
   cases e2
   exact ⟨o, e, ex.2.1⟩
 | _ => exact False.elim ty
def tBM0 (K : Fg) (T : String) (r : V -> List V -> Hp -> VK -> Prop) (to : TE) : TE := fun σ H Q => to σ H fun x H1 => tyV K T x H1 /\ r x [] H1 Q
def tBM (K : Fg) (T : String) (r : V -> List V -> Hp -> VK -> Prop) (to : TE) (t : TA) : TE := fun σ H Q => to σ H fun x H1 => tyV K T x H1 /\ t σ H1 fun xs H2 => r x xs H2 Q
variable {o e : Expr} {es : List Expr} {to : TE} {t : TA} {name : Str} {apos cpos : Pos} {T id : String} {r : V -> List V -> Hp -> VK -> Prop}
theorem pe_bm (pa : PlainAttrs T) (slot : Slot T name id) (hty : typeOf (.builtin id) = pure (.type "method_descriptor")) (hm : MtR X id r) (ho : PE X o to) (ha : PA X (e :: es) t)
  (hbase : attributeBase o name X.env (eval o X.env) = eval o X.env := by rfl)
  (hfew : ((backTo cpos (starEach (e :: es) X.env)).all (fun x => !x.1) && (backToKw cpos (keywordEach [] X.env)).all (fun x => x.1.isSome)
   && decide ((e :: es).length + ([] : List Keyword).length + (if ([] : List Keyword).isEmpty then 0 else 1) < 30)) = true := by rfl)
  (hline : (apos.endLine == cpos.line) = true := by rfl) (hs : starEach (e :: es) X.env = (false, eval e X.env) :: starEach es X.env := by rfl) (hplain : (backTo cpos (starEach es X.env)).any (·.1) = false := by rfl) :
  PE X (.Call (.Attribute o name apos) (e :: es) [] cpos) (tBM X.K T r to t) := by
 intro pins s σ H Q I h
 refine wpAny_Call_method_late hbase hfew hline rfl (thn (ho pins s σ H _ I h) fun v s1 ⟨x, H1, I1, r1, ty, q1⟩ => ?_)
 obtain ⟨h1, h2⟩ := tyV_is I1 r1 ty
 refine ⟨T, id, pa, slot, hty, h1, h2, ?_⟩
 have hA := ha cpos pins s1 σ H1 _ I1 q1
 rw [hs] at hA ⊢
 refine Calls.callWith_builtin (by show (false || (backTo cpos (starEach es X.env)).any (·.1)) = false; rw [hplain] <;> rfl) (Calls.evalArgs_plain ?_)
 exact thn hA fun us s2 ⟨vs, H2, I2, r2, q2⟩ => hm pins s2 σ H2 x vs v us Q I2 r1 r2 q2
end
end L2
namespace L2
open PySem PySem.Spec PyProof.Rows
def MtM (X : Cx) (id : String) (r : V -> List V -> Hp -> VK -> Prop) : Prop :=
 ∀ (pins : PLs) (s : Shared) (σ : St) (H : Hp) (x : V) (xs : List V) (v : Value) (us : List Value) (Q : VK), Inv X pins σ H s -> RelV x v -> Vals xs us -> r x xs H Q →
  wpAny (model X.prog X.w) X.A (call (.builtin id) (v :: us)) (EP X pins σ Q) X.xe s
theorem Vals.one : ∀ {x : V} {us : List Value}, Vals [x] us -> ∃ u, us = [u] /\ RelV x u
 | _, _, .cons r .nil => ⟨_, rfl, r⟩
section
variable {X : Cx} {pins : PLs} {σ : St} {H : Hp} {s : Shared} {l b : Addr} {xs ys zs : List V}
theorem Inv.lset {its its' : List Value} {n : Nat} {f : Array Value -> Array Value} {t' : Nat} (I : Inv X pins σ H s) (hH : H l = some (.lst xs))
  (e : s.heap.get? l = some { cls := .type "list", data := .seq its.toArray n }) (hf : f its.toArray = its'.toArray) (hv : Vals ys its') (hz : ys.length ≤ sizeLine) :
  Inv X pins σ (upd H l (.lst ys)) { s with heap := s.heap.update l (Obj.mapSeq f), toks := t' } := by
 have q := PySem.IsL.update e f
 rw [hf] at q
 refine I.write (x := l) (e := l) (by rw [hH]; exact trivial) (.inl rfl) (fun b' u hb hu => (Heap.get?_update_other s.heap (Obj.mapSeq f) (Ne.symm hb)).trans hu) ⟨_, q⟩ ?_
 exact ⟨hz, its', _, hv, q⟩
theorem Inv.lnew {its : List Value} {t' : Nat} (I : Inv X pins σ H s) (hv : Vals ys its) (hz : ys.length ≤ sizeLine) :
  Inv X pins σ (upd H s.heap.objs.size (.lst ys)) { s with heap := s.heap.push { cls := .type "list", data := .seq its.toArray }, toks := t' } :=
 I.laid (fun _ _ q => Heap.get?_push_of_some _ q) (Nat.le_refl _) ⟨hz, its, 0, hv, Heap.get?_push_size _ rfl⟩
theorem Inv.fresh (I : Inv X pins σ H s) : H s.heap.objs.size = none := I.hok.fresh (Nat.le_refl _)
theorem Inv.lstM (I : Inv X pins σ H s) (hH : H l = some (.lst xs)) : xs.length ≤ sizeLine /\ ∃ (its : List Value) (n : Nat), Vals xs its /\ xs.length = its.length /\ s.heap.get? l = some { cls := .type "list", data := .seq its.toArray n } := by
 obtain ⟨z, its, n, r, e⟩ := I.hok l _ hH
 exact ⟨z, its, n, r, r.length, e⟩
end
section
variable {X : Cx}
def rAppend : V -> List V -> Hp -> VK -> Prop := fun x vs H Q => ∃ l xs y, x = .ref l /\ vs = [y] /\ H l = some (.lst xs) /\ xs.length < sizeLine /\ Q .non (upd H l (.lst (xs ++ [y])))
theorem mt_append : MtM X "list.append" rAppend := by
 intro pins s σ H x vs v us Q I rx rv h
 obtain ⟨l, xs, y, rfl, rfl, hH, hz, q⟩ := h
 cases rx
 obtain ⟨u, rfl, ru⟩ := rv.one
 obtain ⟨z, its, n, r, hl, e⟩ := I.lstM hH
 refine call_meets F.slot_list_append ⟨_, e, rfl⟩ F.entry_list_append (F.args_list_append_2 _ _) (PySem.list_append l its.toArray n u (by rw [List.size_toArray]; omega)) ⟨e, ?_⟩
 refine ⟨.non, _, I.lset (its' := its ++ [u]) hH e (by simp) (r.append (.cons ru .nil)) ?_, rfl, q⟩
 rw [List.length_append, List.length_singleton]
 omega
def rExtend : V -> List V -> Hp -> VK -> Prop := fun x vs H Q => ∃ l b xs zs, x = .ref l /\ vs = [.ref b] /\ H l = some (.lst xs) /\ H b = some (.lst zs) /\ xs.length + zs.length ≤ sizeLine /\ Q .non (upd H l (.lst (xs ++ zs)))
def rPop : V -> List V -> Hp -> VK -> Prop := fun x vs H Q => ∃ l xs y, x = .ref l /\ vs = [] /\ H l = some (.lst xs) /\ xs[xs.length - 1]? = some y /\ Q y (upd H l (.lst xs.dropLast))
def rPopAt : V -> List V -> Hp -> VK -> Prop := fun x vs H Q => ∃ l xs i k y, x = .ref l /\ vs = [.int i] /\ H l = some (.lst xs) /\ -(2 ^ 63) ≤ i /\ i < 2 ^ 63 /\ seqIndex? i xs.length = some k /\ xs[k]? = some y /\ Q y (upd H l (.lst (xs.eraseIdx k)))
def rReverse : V -> List V -> Hp -> VK -> Prop := fun x vs H Q => ∃ l xs, x = .ref l /\ vs = [] /\ H l = some (.lst xs) /\ Q .non (upd H l (.lst xs.reverse))
def rClear : V -> List V -> Hp -> VK -> Prop := fun x vs H Q => ∃ l xs, x = .ref l /\ vs = [] /\ H l = some (.lst xs) /\ Q .non (upd H l (.lst []))
def rCat : R2 := fun x y H Q => ∃ l b xs zs, x = .ref l /\ y = .ref b /\ H l = some (.lst xs) /\ H b = some (.lst zs) /\ xs.length + zs.length ≤ sizeLine /\ ∀ p, H p = none -> Q (.ref p) (upd H p (.lst (xs ++ zs)))
theorem op_cat : OpR X (binaryOp .Add) rCat := by
 intro pins s σ H x y v u Q I rx ry h
 obtain ⟨l, b, xs, zs, rfl, rfl, hH, hB, hz, q⟩ := h
 cases rx
 cases ry
 obtain ⟨z, its, n, r, hl, e⟩ := I.lstM hH
 obtain ⟨z2, its2, n2, r2, hl2, e2⟩ := I.lstM hB
 refine PySem.P.add_list e e2 ?_ (by rw [List.size_toArray, List.size_toArray]; omega)
 have ea : its.toArray ++ its2.toArray = (its ++ its2).toArray := by simp
 rw [ea]
 exact ⟨.ref _, _, I.lnew (t' := s.toks) (r.append r2) (by rw [List.length_append]; omega), rfl, q _ I.fresh⟩
def rRep : R2 := fun x y H Q => ∃ l k xs, x = .ref l /\ y = .int k /\ H l = some (.lst xs) /\ -(2 ^ 63) ≤ k /\ k < 2 ^ 63 /\ xs.length * k.toNat ≤ sizeLine ∧
 ∀ p, H p = none -> Q (.ref p) (upd H p (.lst (List.replicate k.toNat xs).flatten))
end
section
variable {prog : Program} {w : World} {A : Around} {E : VSP} {s : Shared}
end
section
variable {X : Cx}
end
end L2
namespace Att
open PySem PySem.W PySem.Calls PyProof.Rows
theorem ints_of_wellAll {P : Params} {h : Heap} : ∀ (ns : List Int) (vs : List Value), WellAll P h vs (ns.map WData.int) -> IntsAre vs ns := by
 intro ns
 induction ns with
 | nil =>
  intro vs w
  rw [List.map_nil] at w
  cases w
  exact .nil
 | cons n ns ih =>
  intro vs w
  rw [List.map_cons] at w
  cases w with
  | cons a b =>
   cases a
   exact .cons _ _ (ih _ b)
theorem script_of {l : OpenLaw} {n : Nat} (hn : l.most = some n) {P : Params} {h : Heap} {args : List WData} {vals : List Value}
  (hpre : l.row.toRowW.claim.pre args = true) (hwl : WellAll P h vals args) :
  ∃ a vs ns, vals = [Value.ref a] /\ args = [WData.list (ns.map WData.int)] /\ h.get? a = some { cls := .type "list", data := .seq vs.toArray } /\ IntsAre vs ns /\ ns.length ≤ n := by
 have hsh : WShape.hasAll [] args [.list .int] = true := (pre_splitW hpre).1
 have hc : l.pre.holds [] { args := args } = true := (pre_splitW hpre).2
 obtain ⟨d, r, rfl, h1, h2⟩ := hasAllW_cons hsh
 obtain rfl := hasAllW_nil h2
 obtain ⟨xs, rfl, h3⟩ := hasW_list h1
 obtain ⟨ns, rfl⟩ := items_int h3
 have hlen : ns.length ≤ n := by
  unfold OpenLaw.pre at hc
  have h4 : (WTm.not (.lt (.lit (.int (n : Int))) (.len (.arg 0)))).holds [] { args := [.list (ns.map .int)] } = true := by
   have h4 := (holds_andW hc).1
   rw [hn] at h4
   exact h4
  have h5 := condW_of h4 (w_not (w_lt w_lit (w_len_list (w_arg rfl))))
  rw [List.length_map] at h5
  refine Nat.le_of_not_lt fun q => ?_
  have q' : (n : Int) < ((ns.length : Nat) : Int) := by omega
  first
   | (rw [decide_eq_true q'] at h5; exact absurd h5 (by decide))
   | (simp at h5; omega)
 cases hwl with
 | cons w1 w2 =>
  cases w2
  cases w1 with
  | list ho hall => exact ⟨_, _, ns, rfl, rfl, ho, ints_of_wellAll ns _ hall, hlen⟩
theorem post_true (l : OpenLaw) (args : List WData) : l.row.toRowW.claim.post args (.bool true) args = true :=
 postW_of (r := l.row.toRowW) (X := (true == true))
  (show WShape.has [] (.bool true) .bool = true by first | rfl | decide | simp [WShape.has, WShape.arms, WShape.armsAll])
  (show (WTm.eq .res (.lit (.bool true))).value [] { args := args, res := some (.bool true), after := args } = some (.bool (true == true)) from w_eq_bool (w_res rfl) w_lit) rfl
theorem attach_call {l : OpenLaw} {n : Nat} {q : Program} {loose : List Str} {XP : (Str -> Option Value) -> Heap -> Prop} {YP : World -> Heap -> Prop} {d : DefRec}
  (hn : l.most = some n) (hdf : d.params.defaults = [])
  (call : ∀ (w : World) (s₀ s₁ : Shared) (mg mb : Str -> Option Value) (fa : Addr) (o : Obj) (pm cd doc : Value) (a : Addr) (vs : List Value) (ns : List Int),
   Ground q loose [] XP w s₀ mg mb s₁.heap -> YP w s₁.heap →
   s₁.heap.get? fa = some o -> o.data = .func (docDef d.name d.params d.body d.scope pm cd doc) -> s₁.heap.CodeRec cd d.name -> mg d.name = some (.ref fa) →
   s₁.heap.get? a = some { cls := .type "list", data := .seq vs.toArray } -> IntsAre vs ns -> ns.length ≤ n -> s₁.gens = #[] →
   codeAny (model l.prog w) callerA (.call (.ref fa) ⟨[.ref a], []⟩) (fun r s' => r = .ok (.ret (.bool true)) /\ OldK s₁.heap s'.heap /\ s'.os = s₁.os /\ AllBare s'.gens) s₁) :
  WalkO q loose XP YP l.row.toRowW d [] (fun f vs => PySem.call f vs) := by
 intro w s₀ s₁ mg mb G Y fa o pm cd doc dV kV ho hd hcd hD hmg hg args vals as hpre hlay hrd hwl hlo
 obtain rfl : dV = .none := Dflts.none hD hdf
 obtain rfl : kV = .none := Dflts.noKw hD
 obtain ⟨a, vs, ns, rfl, rfl, hobj, hints, hlen⟩ := script_of hn hpre hwl
 refine enter_call (codeAny_mono (call w s₀ s₁ mg mb fa o pm cd doc a vs ns G Y ho (fd_plain hd) hcd hmg hobj hints hlen hg) fun r s' hq => ?_)
 obtain ⟨rfl, h2, h3, h4⟩ := hq
 exact ⟨.inl ⟨.bool true, .bool true, [], rfl, fun _ => rfl, .bool true, post_true l _, fun _ => ⟨List.Pairwise.nil, fun _ hm => (nomatch hm)⟩⟩, h2, h3, h4⟩
section
variable {prog : Program} {w : World} {A : Around} {E : VSP} {s : Shared} {K : Frag}
def noObjs (h : Heap) : Heap := { h with objs := #[] }
def ledger (h : Heap) (L d : Addr) : PLs := (List.range h.objs.size).filterMap fun a => if a = L ∨ a = d then none else (h.get? a).map fun o => (a, o)
end
end Att
namespace L2
open PySem PySem.Spec PyProof.Rows
theorem vals_ints : ∀ {vs : List Value} {ns : List Int}, IntsAre vs ns -> Vals (ns.map V.int) vs
 | _, _, .nil => .nil
 | _, _, .cons n t h => .cons ⟨t, rfl⟩ (vals_ints h)
def Only (H : Hp) : Prop := ∀ b, H b = none ∨ ∃ o xs, H b = some (.frz o (.lst xs))
theorem law_call {P : Program} {w : World} {K : Fg} {mg mb : Str -> Option Value} {CX : CXT} {k : Nat} {fa a : Addr} {fd : FuncData} {x : Str} {sp : Sp} {s₁ : Shared} {vs : List Value} {ns : List Int}
  (KX : K.In s₁.heap) (hns : s₁.heap.Ns mainGlobals mg) (hb : s₁.heap.Ns builtinsNs mb) (hbb : ∀ x : Str, x ≠ "__name__" -> mb x = bootBuiltins x) (hlim : s₁.heap.NoLimit) (hg : s₁.gens = #[])
  (ha : s₁.heap.get? a = some { cls := .type "list", data := .seq vs.toArray }) (hi : IntsAre vs ns) (hl : ns.length ≤ sizeLine) (hr : Room k callerA)
  (F : ∀ base : Heap, K.In base -> base.Ns mainGlobals mg -> FnOk P w K mg base CX k fa fd [x] sp) (hbind : ∀ (s : Shared) (u : Value), BindsTo s fd ⟨[u], []⟩ [(x, u)])
  (hsp : ∀ H : Hp, Only H -> SqL K H a (ns.map V.int) -> sp [.ref a] H (fun v _ => v = .bl true) fun _ _ _ => False)
  (hCX : ∀ H e s', CX [] H s₁ (fun _ _ _ => False) e s' -> False) :
  codeAny (model P w) callerA (.call (.ref fa) ⟨[.ref a], []⟩) (fun r s' => r = .ok (.ret (.bool true)) /\ OldK s₁.heap s'.heap /\ s'.os = s₁.os /\ AllBare s'.gens) s₁ := by
 have rv := vals_ints hi
 have lenV := hi.length
 have core : ∀ H : Hp, Only H -> SqL K H a (ns.map V.int) -> HOk P w H s₁.heap -> (∀ b, H b ≠ none -> b = a) -> (H a ≠ none -> K.lookup a = none) →
   codeAny (model P w) callerA (.call (.ref fa) ⟨[.ref a], []⟩) (fun r s' => r = .ok (.ret (.bool true)) /\ OldK s₁.heap s'.heap /\ s'.os = s₁.os /\ AllBare s'.gens) s₁ := by
  intro H hO hS hok hA hK
  have base_of : ∀ {b : Addr} {o : Obj}, s₁.heap.get? b = some o -> H b = none -> (hidT s₁.heap H).get? b = some o := fun e n => hidT_get e n
  have noA : ∀ {b : Addr} {o : Obj} {es : Array DictEntry} {ep : Nat}, s₁.heap.get? b = some o -> o.data = .dict es ep -> H b = none := fun {b o es ep} e d => by
   cases q : H b with
   | none => rfl
   | some u =>
    have e' : b = a := hA b (by rw [q]; simp)
    subst e'
    rw [ha] at e; cases e
    have d' : Data.seq vs.toArray _ = Data.dict es ep := d
    cases d'
  have nsK : ∀ {b : Addr} {m : Str -> Option Value}, s₁.heap.Ns b m -> (hidT s₁.heap H).Ns b m := fun {b m} ⟨o, es, ep, e, d, r⟩ => ⟨o, es, ep, base_of e (noA e d), d, r⟩
  have hKb : K.In (hidT s₁.heap H) := fun b o e => base_of (KX b o e) (by
   cases q : H b with
   | none => rfl
   | some u =>
    have e' : b = a := hA b (by rw [q]; simp)
    subst e'
    rw [hK (by rw [q]; simp)] at e; cases e)
  have hM : Mod K mg (hidT s₁.heap H) := ⟨hKb, nsK hns, ⟨mb, nsK hb, hbb⟩, let ⟨mc, h1, h2⟩ := hlim; ⟨mc, nsK h1, h2⟩⟩
  have e0 : Env0 P w K mg (hidT s₁.heap H) callerA [] s₁ H := ⟨rfl, hM, fun b o e => of_hidT e, Nat.le_of_eq (hidT_size _ _), trivial, fun b hb => absurd (show b ∈ ([] : List Addr) from hb) (by simp), hok, .of_eq hg⟩
  refine codeAny_mono ((F _ hKb (nsK hns)).run callerA [] s₁ H ⟨[.ref a], []⟩ [.ref a] [.ref a] _ _ hr e0 (hbind s₁ (.ref a)) (.cons rfl .nil) (hsp H hO hS)) fun r s' h => ?_
  cases r with
  | error e => exact (hCX H e s' h).elim
  | ok fl =>
   cases fl with
   | next => exact False.elim h
   | brk => exact False.elim h
   | cont => exact False.elim h
   | ret u =>
    obtain ⟨v, H', os, bare, un, hok', r', q⟩ := h
    have q' : v = .bl true := q
    subst q'
    obtain rfl : u = Value.bool true := r'
    refine ⟨rfl, OldK.of_keep fun b o e => ?_, os, bare⟩
    cases q : H b with
    | none => exact un.keep b o e q (by intro z; exact absurd (show b ∈ ([] : List Addr) from z) (by simp)) (by simp)
    | some u =>
     rcases hO b with z | ⟨ob, xs, z⟩
     ·rw [q] at z; cases z
     ·have z2 := un.frzs b ob _ z
      obtain ⟨e1, _⟩ := hok b _ z
      obtain ⟨e2, _⟩ := hok' b _ z2
      rw [e] at e1; cases e1
      exact e2
 cases hk : K.lookup a with
 | some o =>
  have e := KX a o hk
  rw [ha] at e
  cases e
  refine core (fun _ => none) (fun _ => .inl rfl) (.inr ⟨_, vs.toArray, _, hk, rfl, rfl, rfl, by rw [List.size_toArray, lenV]; exact hl, by simpa using rv⟩) (fun b u z => by have z' : (none : Option HO) = some u := z; cases z') (fun b z => absurd rfl z) fun z => absurd rfl z
 | none =>
  refine core (fun b => if b = a then some (.frz { cls := .type "list", data := .seq vs.toArray } (.lst (ns.map V.int))) else none) (fun b => ?_) (.inl (.inr ⟨{ cls := .type "list", data := .seq vs.toArray }, if_pos rfl⟩)) (fun b u z => ?_) (fun b z => ?_) fun _ => hk
  ·by_cases hb : b = a
   ·exact .inr ⟨_, _, if_pos hb⟩
   ·exact .inl (if_neg hb)
  ·by_cases hb : b = a
   ·have z' := (if_pos hb).symm.trans z
    cases z'
    subst hb
    exact ⟨ha, by rw [List.length_map]; exact hl, vs, _, rv, ha⟩
   ·have z' := (if_neg hb).symm.trans z
    cases z'
  ·by_cases hb : b = a
   ·exact hb
   ·exact absurd (if_neg hb) z
end L2
namespace L2
open PySem PySem.Spec PyProof.Rows
abbrev KOf {K : Fg} {h : Heap} (_ : K.In h) : Fg := K
theorem walk_of {l : PySem.W.OpenLaw} {n k : Nat} {q : Program} {loose : List Str} {XP : (Str -> Option Value) -> Heap -> Prop} {YP : World -> Heap -> Prop} {d : DefRec} {K : Params -> Fg} {CX : World -> CXT} {sp : World -> Sp} {x : Str}
  (hn : l.most = some n) (hn2 : n ≤ sizeLine) (hdf : d.params.defaults = []) (hr : Room k callerA)
  (hY : ∀ (w : World) (h : Heap), YP w h -> (K w.params).In h)
  (F : ∀ (w : World) (mg : Str -> Option Value) (fa : Addr) (h : Heap), (K w.params).In h -> h.Ns mainGlobals mg -> mg d.name = some (.ref fa) →
   ∃ fd : FuncData, (∀ (s : Shared) (u : Value), BindsTo s fd ⟨[u], []⟩ [(x, u)]) ∧
    ∀ base : Heap, (K w.params).In base -> base.Ns mainGlobals mg -> FnOk l.prog w (K w.params) mg base (CX w) k fa fd [x] (sp w))
  (hsp : ∀ (w : World) (H : Hp) (a : Addr) (ns : List Int), ns.length ≤ n -> Only H -> SqL (K w.params) H a (ns.map V.int) -> sp w [.ref a] H (fun v _ => v = .bl true) fun _ _ _ => False)
  (hCX : ∀ (w : World) (H : Hp) (s : Shared) (e : Value) (s' : Shared), CX w [] H s (fun _ _ _ => False) e s' -> False) :
  PySem.W.WalkO q loose XP YP l.row.toRowW d [] (fun f vs => PySem.call f vs) := by
 refine Att.attach_call hn hdf fun w s₀ s₁ mg mb fa o pm cd doc a vs ns G Y ho hd hcd hmg hobj hints hlen hg => ?_
 have KX := hY w _ Y
 obtain ⟨fd, hb, hF⟩ := F w mg fa _ KX G.T.g hmg
 exact law_call KX G.T.g G.T.b G.T.builtins G.T.nolimit hg hobj hints (Nat.le_trans hlen hn2) hr hF hb (fun H hO hS => hsp w H a ns hlen hO hS) fun H e s' => hCX w H s₁ e s'
end L2
namespace L2
open PySem PySem.Spec PyProof.Rows
def inClass (s : Stmt) (j : Nat) : Stmt := match s with
 | .ClassDef _ _ _ body _ _ _ _ _ _ _ => body.getD j (.Pass ⟨0, 0, 0, 0⟩)
 | _ => .Pass ⟨0, 0, 0, 0⟩
def defArgs (s : Stmt) : Arguments := match s with
 | .FunctionDef _ a _ _ _ _ _ _ _ _ => a
 | _ => { posonlyargs := [], args := [], vararg := none, kwonlyargs := [], kw_defaults := [], kwarg := none, defaults := [] }
def defBody (s : Stmt) : List Stmt := match s with
 | .FunctionDef _ _ b _ _ _ _ _ _ _ => b
 | _ => []
def defScope (s : Stmt) : Scope := match s with
 | .FunctionDef _ _ _ _ _ _ sc _ _ _ => sc
 | _ => { kind := .function, names := [], isGenerator := false, isCoroutine := false }
abbrev CX0 : CXT := fun _ _ _ _ _ _ => False
abbrev E0 : XK := fun _ _ _ => False
theorem pass0 {X : Cx} : Passes CX0 X E0 := fun _ _ _ _ _ _ _ h => h.elim
structure Fun (K : Fg) (x qual : Str) (st : Stmt) (f : Addr) (fd : FuncData) : Prop where
 ex : ∃ (oc : Value) (od : Option Addr) (kV doc pm : Value) (an : Option Addr) (cdv ct : Value) (osl : Array (Option Value)),
  fd = PySem.W.fnOf x qual (defArgs st) (defBody st) (defScope st) .none kV doc pm an cdv ct /\ K.lookup f = some ⟨oc, od, .func fd, osl⟩ /\ PySem.W.codeIn K cdv qual = true
 kp : PySem.W.keepIn K (.ref f) = true
section
variable {P : Program} {w : World} {K : Fg} {mg : Str -> Option Value} {base : Heap}
theorem Fun.ok {x qual : Str} {st : Stmt} {f : Addr} {fd : FuncData} {N ps : List Str} {k : Nat} {sp : Sp} (F : Fun K x qual st f fd) (S : FnScope N ps (defScope st)) (len : ∀ vs H Q E, sp vs H Q E -> vs.length = ps.length)
  (hbody : ∀ (cdv : Value) (A : Around) (outer : List Env) (s : Shared) (H : Hp) (vs : List V) (Q : VK) (E : XK), Room k (A.deeper (envOfC qual (defScope st) s.heap.objs.size f cdv)) -> sp vs H Q E →
   ∃ t, PSs (cxOf CX0 P w K mg base N qual (defScope st) f cdv A outer s H E).nox (defBody st) t /\ t { nx := fun _ H' => Q .non H', rt := Q } (start N vs) H) : FnOk P w K mg base CX0 (k + 1) f fd ps sp := by
 obtain ⟨oc, od, kV, doc, pm, an, cdv, ct, osl, rfl, lk, hcd⟩ := F.ex
 refine fn_of lk hcd S len fun A outer s H vs Q E hr hsp => ?_
 obtain ⟨t, h, q⟩ := hbody cdv A outer s H vs Q E hr hsp
 exact ⟨t, h.nox, q⟩
theorem Fun.binds {x qual : Str} {st : Stmt} {f : Addr} {fd : FuncData} {ps : List Str} (F : Fun K x qual st f fd)
  (h : ∀ (kV doc pm : Value) (an : Option Addr) (cdv ct : Value) (us : List Value), us.length = ps.length -> bindArgs (PySem.W.fnOf x qual (defArgs st) (defBody st) (defScope st) .none kV doc pm an cdv ct) ⟨us, []⟩ = pure (ps.zip us)) : Binds K fd ps [] := by
 obtain ⟨oc, od, kV, doc, pm, an, cdv, ct, osl, rfl, lk, hcd⟩ := F.ex
 exact .all (h kV doc pm an cdv ct)
theorem fun_mk {x qual : Str} {st : Stmt} {f : Addr} {oc : Value} {od an : Option Addr} {osl : Array (Option Value)} {kV doc pm cdv ct : Value} (l : K.lookup f = some ⟨oc, od, .func (PySem.W.fnOf x qual (defArgs st) (defBody st) (defScope st) .none kV doc pm an cdv ct), osl⟩)
  (c : PySem.W.codeIn K cdv qual = true) (k : PySem.W.keepIn K (.ref f) = true) : Fun K x qual st f (PySem.W.fnOf x qual (defArgs st) (defBody st) (defScope st) .none kV doc pm an cdv ct) := ⟨⟨oc, od, kV, doc, pm, an, cdv, ct, osl, rfl, l, c⟩, k⟩
end
theorem hu_of {A : Around} {k : Nat} (hr : Room k A) : A.units + 1 < cLine := Nat.lt_of_le_of_lt (Nat.add_le_add_left (by decide : 1 ≤ 64) _) hr.units
theorem small1000 {n : Nat} (h : n ≤ 1000) : n < sizeLine := Nat.lt_of_le_of_lt h (by decide)
section
variable {X : Cx}
theorem pv (i : Nat) {x : Str} {pos : Pos} (hN : X.N[i]? = some x := by rfl) (hv : Vis X.env.scope x := by first | exact Or.inl rfl | exact Or.inr (Or.inl rfl) | exact Or.inr (Or.inr rfl)) (hd : (x == ("__debug__" : Str)) = false := by decide)
  (hcd : (x == ("__classdict__" : Str)) = false := by decide) : PE X (.Name x pos) (tVar i) := pe_var hN hv hd hcd
end
theorem iteF {A B : Prop} (h : B) : if false = true then A else B := by
 rw [if_neg Bool.false_ne_true]
 exact h
theorem iteT {A B : Prop} (h : A) : if true = true then A else B := by
 rw [if_pos rfl]
 exact h
theorem ite2 {c A B : Prop} [Decidable c] (h1 : c -> A) (h2 : ¬ c -> B) : if c then A else B := by
 by_cases h : c
 ·rw [if_pos h]
  exact h1 h
 ·rw [if_neg h]
  exact h2 h
theorem iteNS {c A B : Prop} [Decidable c] (hc : c) (h : B) : if (!decide c) = true then A else B := by
 rw [decide_eq_true hc]
 exact iteF h
def Same (H H' : Hp) : Prop := ∀ b o, H b = some o -> H' b = some o
theorem Same.refl (H : Hp) : Same H H := fun _ _ h => h
theorem Same.trans {H H1 H2 : Hp} (a : Same H H1) (b : Same H1 H2) : Same H H2 := fun c o h => b c o (a c o h)
theorem Same.seq {K : Fg} {H H' : Hp} {a : Addr} {xs : List V} (e : Same H H') (h : SqL K H a xs) : SqL K H' a xs := by
 rcases h with (h | ⟨o, h⟩) | h
 ·exact .inl (.inl (e _ _ h))
 ·exact .inl (.inr ⟨o, e _ _ h⟩)
 ·exact .inr h
end L2
set_option maxHeartbeats 4000000
namespace B
open PySem L2 PyProof.Rows
theorem iteN1 {c A B : Prop} [Decidable c] (hc : ¬ c) (h : A) : if (!decide c) = true then A else B := by
 have e : (!decide c) = true := by rw [decide_eq_false hc]; rfl
 rw [if_pos e]; exact h
theorem iteD1 {c A B : Prop} [Decidable c] (hc : c) (h : A) : if decide c = true then A else B := by
 rw [if_pos (decide_eq_true hc)]; exact h
theorem iteD0 {c A B : Prop} [Decidable c] (hc : ¬ c) (h : B) : if decide c = true then A else B := by
 have e : ¬ decide c = true := by rw [decide_eq_false hc]; intro z; cases z
 rw [if_neg e]; exact h
theorem iteB1 {b : Bool} {A B : Prop} (hb : b = true) (h : A) : if b = true then A else B := by rw [if_pos hb]; exact h
theorem iteB0 {b : Bool} {A B : Prop} (hb : b = false) (h : B) : if b = true then A else B := by
 rw [if_neg (by rw [hb]; intro z; cases z)]; exact h
def kitTT (A B : String) : Option Bool := if (Value.type A == Value.type B) = true then some true else if PySem.W.kitMeta B = true then (fastBuiltinMro A).map (·.contains (.type B)) else none
theorem kit_of {K : Fg} {A B : String} {b : Bool} (h : kitTT A B = some b) : PySem.W.kitOne K (.type A) (.type B) = some b := h
inductive Ty (H : Hp) : V -> String -> Prop where
 | non : Ty H .non "NoneType"
 | bl (b : Bool) : Ty H (.bl b) "bool"
 | int (i : Int) : Ty H (.int i) "int"
 | str (x : Str) : Ty H (.str x) "str"
 | lst {a : Addr} {xs : List V} (e : H a = some (.lst xs)) : Ty H (.ref a) "list"
 | tup {a : Addr} {xs : List V} (e : H a = some (.tup xs)) : Ty H (.ref a) "tuple"
theorem Ty.of {H : Hp} {v : V} {n : String} (K : Fg) (h : Ty H v n) : TyOf K H v (.type n) := by
 cases h with
 | non => exact .non
 | bl b => exact .bl b
 | int i => exact .int i
 | str x => exact .str x
 | lst e => exact .lst e
 | tup e => exact .tup e
def rIsi : List V -> Hp -> VK -> Prop := fun xs H Q => ∃ x n m b, xs = [x, .ty n] /\ Ty H x m /\ kitTT m n = some b /\ Q (.bl b) H
theorem call_isi {X : Cx} : CallR X (.builtin "isinstance") rIsi := by
 intro pins s σ H xs us Q I r h
 obtain ⟨x, n, m, b, rfl, ty, e, q⟩ := h
 obtain ⟨u, u2, rfl, rx, ry⟩ := vals2 r
 obtain rfl : u2 = Value.type n := ry
 exact isinst_ok I rx (ty.of X.K) (kit_of e) fun tk => ⟨.bl b, H, I.tok tk, rfl, q⟩
def wholeV : V -> Bool
 | .int _ => true
 | _ => false
def tupV (n : String) : Bool := n == "tuple"
structure Step (t : Addr) (H H' : Hp) : Prop where
 keep : ∀ b o, b ≠ t -> H b = some o -> H' b = some o
 tp : ∃ xs, H t = some (.lst xs)
 tp' : ∃ xs, H' t = some (.lst xs)
theorem Step.trans {t : Addr} {H H1 H2 : Hp} (a : Step t H H1) (b : Step t H1 H2) : Step t H H2 := ⟨fun c o n e => b.keep c o n (a.keep c o n e), a.tp, b.tp'⟩
theorem Step.up {t : Addr} {H : Hp} {xs ys : List V} (h : H t = some (.lst xs)) : Step t H (upd H t (.lst ys)) := ⟨fun c o n e => by rw [upd_ne n]; exact e, ⟨_, h⟩, ⟨_, upd_same⟩⟩
theorem same_new {H : Hp} {p : Addr} (h : H p = none) (o : HO) : Same H (upd H p o) := fun b u q => by rw [upd_ne (ne_of_none q h)]; exact q
theorem Step.same {t : Addr} {H H' : Hp} (s : Same H H') (h : ∃ xs, H t = some (.lst xs)) : Step t H H' := ⟨fun c o _ e => s c o e, h, let ⟨xs, e⟩ := h; ⟨xs, s _ _ e⟩⟩
theorem Step.new {t p : Addr} {H : Hp} (h : ∃ xs, H t = some (.lst xs)) (n : H p = none) (o : HO) : Step t H (upd H p o) := Step.same (same_new n o) h
theorem Step.refl {t : Addr} {H : Hp} (h : ∃ xs, H t = some (.lst xs)) : Step t H H := ⟨fun _ _ _ e => e, h, h⟩
def Th (H : Hp) (v : V) : Prop := ∃ n, Ty H v n /\ ∀ a xs, v = .ref a -> H a = some (.tup xs) -> ∀ x ∈ xs, ∃ m, Ty H x m
theorem pick {xs : List V} {r : Int} (h0 : 0 ≤ r) (h1 : r < (xs.length : Int)) : ∃ v, atI xs r = some v /\ v ∈ xs := by
 have hk : r.toNat < xs.length := by omega
 have ek : r = ((r.toNat : Nat) : Int) := by omega
 have q : atI xs ((r.toNat : Nat) : Int) = some xs[r.toNat] := atI_nat (List.getElem?_eq_getElem hk)
 rw [← ek] at q
 exact ⟨_, q, List.getElem_mem hk⟩
theorem pickI {ns : List Int} {r : Int} (h0 : 0 ≤ r) (h1 : r < (ns.length : Int)) : ∃ z : Int, atI (ns.map V.int) r = some (.int z) := by
 obtain ⟨v, h, hv⟩ := pick (xs := ns.map V.int) h0 (by rw [List.length_map]; exact h1)
 obtain ⟨z, _, rfl⟩ := List.mem_map.mp hv
 exact ⟨z, h⟩
structure Tape (H : Hp) (t s : Addr) : Prop where
 ex : ∃ (ns : List Int) (p q r : Int), H t = some (.lst [.ref s, .int p, .int q, .int r]) /\ H s = some (.lst (ns.map V.int)) /\ s ≠ t /\ ns.length ≤ 63 /\ 0 ≤ p /\ 0 ≤ q /\ 0 ≤ r
def sp_tape (K : Fg) : Sp := fun vs H Q _ => ∃ (a : Addr) (ns : List Int), vs = [.ref a] /\ SqL K H a (ns.map V.int) /\ ∀ (t s : Addr) (H' : Hp), Same H H' -> H t = none -> H s = none -> Tape H' t s -> Q (.ref t) H'
def sp_draw : Sp := fun vs H Q _ => ∃ (t s : Addr) (m : Int), vs = [.ref t, .int m] /\ Tape H t s /\ 0 < m /\ m < 1073741824 /\ ∀ (r : Int) (xs : List V), 0 ≤ r -> r < m -> Tape (upd H t (.lst xs)) t s -> Q (.int r) (upd H t (.lst xs))
def sp_lawT (K : Fg) : Sp := fun vs H Q _ => ∃ (a : Addr) (ns : List Int), vs = [.ref a] /\ SqL K H a (ns.map V.int) /\ ns.length ≤ 63 /\ ∀ H', Q (.bl true) H'
theorem gcd_turn {a b : Int} (ha : 0 ≤ a) (hb : 0 < b) : Int.gcd b (a % b) = Int.gcd a b := by
 obtain ⟨n, rfl⟩ := Int.eq_ofNat_of_zero_le ha
 obtain ⟨m, rfl⟩ := Int.eq_ofNat_of_zero_le (Int.le_of_lt hb)
 rw [← Int.natCast_emod]
 show Nat.gcd m (n % m) = Nat.gcd n m
 rw [Nat.gcd_comm m, ← Nat.gcd_rec, Nat.gcd_comm]
theorem abs_if (i : Int) : (if i < 0 then -i else i) = (i.natAbs : Int) := by split <;> omega
end B
namespace B
open PySem PySem.Spec L2 PyProof.Rows
mutual
inductive Deep (K : Fg) (H : Hp) : V -> PyData -> Prop where
 | non : Deep K H .non .none
 | bl (b : Bool) : Deep K H (.bl b) (.bool b)
 | int (i : Int) : Deep K H (.int i) (.int i)
 | str (x : Str) : Deep K H (.str x) (.str x)
 | lst {a : Addr} {xs : List V} {ds : List PyData} (e : SqL K H a xs) (h : DeepAll K H xs ds) : Deep K H (.ref a) (.list ds)
 | tup {a : Addr} {xs : List V} {ds : List PyData} (e : SqT K H a xs) (h : DeepAll K H xs ds) : Deep K H (.ref a) (.tuple ds)
inductive DeepAll (K : Fg) (H : Hp) : List V -> List PyData -> Prop where
 | nil : DeepAll K H [] []
 | cons {x : V} {d : PyData} {xs : List V} {ds : List PyData} (h : Deep K H x d) (t : DeepAll K H xs ds) : DeepAll K H (x :: xs) (d :: ds)
end
mutual
theorem Deep.reads {X : Cx} {pins : PLs} {σ : L2.St} {H : Hp} {s : Shared} (I : Inv X pins σ H s) : ∀ {v : V} {d : PyData} {u : Value}, Deep X.K H v d -> RelV v u -> ∃ as, Reads s.heap u d as
 | _, _, u, .non, r => by cases (show u = Value.none from r); exact ⟨_, .none⟩
 | _, _, u, .bl b, r => by cases (show u = Value.bool b from r); exact ⟨_, .bool b⟩
 | _, _, u, .int i, r => by obtain ⟨t, q⟩ := (show ∃ t, u = Value.int i t from r); cases q; exact ⟨_, .int i t⟩
 | _, _, u, .str x, r => by obtain ⟨t, q⟩ := (show ∃ t, u = Value.str x t from r); cases q; exact ⟨_, .str x t⟩
 | _, _, u, .lst (a := a) e h, r => by
  cases (show u = Value.ref a from r)
  obtain ⟨its, rv, ⟨o, n, ho, hc, _, hd⟩, _⟩ := I.list e
  obtain ⟨as, q⟩ := DeepAll.reads I h rv
  exact ⟨_, .list ho hc hd (by simpa using q)⟩
 | _, _, u, .tup (a := a) e h, r => by
  cases (show u = Value.ref a from r)
  obtain ⟨its, rv, ⟨o, ho, hc, n, hd⟩, _⟩ := I.tuple e
  obtain ⟨as, q⟩ := DeepAll.reads I h rv
  exact ⟨_, .tuple ho hc hd (by simpa using q)⟩
theorem DeepAll.reads {X : Cx} {pins : PLs} {σ : L2.St} {H : Hp} {s : Shared} (I : Inv X pins σ H s) : ∀ {vs : List V} {ds : List PyData} {us : List Value}, DeepAll X.K H vs ds -> Vals vs us -> ∃ as, ReadsAll s.heap us ds as
 | _, _, _, .nil, .nil => ⟨_, .nil⟩
 | _, _, _, .cons h t, .cons r q =>
  let ⟨_, a⟩ := Deep.reads I h r
  let ⟨_, b⟩ := DeepAll.reads I t q
  ⟨_, .cons a b⟩
end
structure Shows (d : PyData) : Prop where
 sh : d.showable = true
 nd : d.hasDict = false
 sz : d.shown.length ≤ sizeLine
 dp : d.depth ≤ 16
def rRepr (K : Fg) : List V -> Hp -> VK -> Prop := fun xs H Q => ∃ v d, xs = [v] /\ Deep K H v d /\ Shows d /\ Q (.str d.shown) H
theorem call_repr {X : Cx} {k : Nat} (hr : Room k X.A) : CallR X (.builtin "repr") (rRepr X.K) := by
 intro pins s σ H xs us Q I r h
 obtain ⟨v, d, rfl, dp, sh, q⟩ := h
 obtain ⟨u, rfl, ru⟩ := vals1 r
 cases dp with
 | non => cases (show u = Value.none from ru); exact PySem.P.repr_of_none ⟨.str "None", H, I.tok _, ⟨_, rfl⟩, q⟩
 | bl b => cases (show u = Value.bool b from ru); exact PySem.P.repr_of_bool ⟨.str _, H, I.tok _, ⟨_, rfl⟩, q⟩
 | int i =>
  obtain ⟨t, e⟩ := (show ∃ t, u = Value.int i t from ru)
  cases e
  exact PySem.P.repr_of_int (of_decide_eq_true sh.sh) ⟨.str _, H, I.tok _, ⟨_, rfl⟩, q⟩
 | str x =>
  obtain ⟨t, e⟩ := (show ∃ t, u = Value.str x t from ru)
  cases e
  exact PySem.P.repr_of_str ⟨.str _, H, I.tok _, ⟨_, rfl⟩, q⟩ sh.sz
 | @lst a ys ds e h =>
  cases (show u = Value.ref a from ru)
  obtain ⟨as, rd⟩ := Deep.reads I (.lst e h) (show RelV (.ref a) (.ref a) from rfl)
  exact repr_of_reads' rd sh.sh (fun z => by rw [sh.nd] at z; cases z) hr.gd (by have := hr.units; have := sh.dp; omega) (fun _ _ z => z) (fun h' u tk hk => ⟨.str _, H, I.kept hk, ⟨_, rfl⟩, q⟩) sh.sz
 | @tup a ys ds e h =>
  cases (show u = Value.ref a from ru)
  obtain ⟨as, rd⟩ := Deep.reads I (.tup e h) (show RelV (.ref a) (.ref a) from rfl)
  exact repr_of_reads' rd sh.sh (fun z => by rw [sh.nd] at z; cases z) hr.gd (by have := hr.units; have := sh.dp; omega) (fun _ _ z => z) (fun h' u tk hk => ⟨.str _, H, I.kept hk, ⟨_, rfl⟩, q⟩) sh.sz
end B
namespace B
open PySem PySem.Spec L2 PyProof.Rows
def cxC (X : Cx) (N' : List Str) (scope : Scope) (cl : List (Str × Addr)) (C : Addr) (fp : List Addr) (pins : PLs) (s : Shared) (H : Hp) : Cx :=
 { X with N := N', s₀ := s, H₀ := H, env := compEnvC scope cl C X.env, outer := X.stack, stack := X.stack, ex := fp, fn := fun _ => false, pn := X.pn ++ pins, xe := fun _ _ => False }
def FreeOk (X : Cx) (scope : Scope) (cl : List (Str × Addr)) : List Str -> List (Option Nat) -> Prop
 | [], [] => True
 | _ :: N, none :: r => FreeOk X scope cl N r
 | x :: N, some j :: r => X.N[j]? = some x /\ X.env.kindOf x = some .cell /\ (compEnvC scope cl 0 X.env).kindOf x = some .cell /\ cl.lookup x = X.env.cells.lookup x /\ FreeOk X scope cl N r
 | _, _ => False
def frees (src : List (Option Nat)) (σ : L2.St) : L2.St := src.map fun o => o.bind fun j => (σ[j]?).getD none
theorem FreeOk.len {X : Cx} {scope : Scope} {cl : List (Str × Addr)} : ∀ {N : List Str} {src : List (Option Nat)}, FreeOk X scope cl N src -> N.length = src.length
 | [], [], _ => rfl
 | _ :: _, none :: _, h => congrArg (· + 1) (FreeOk.len (X := X) (scope := scope) (cl := cl) h)
 | _ :: _, some _ :: _, h => congrArg (· + 1) (FreeOk.len (X := X) (scope := scope) (cl := cl) h.2.2.2.2)
theorem FreeOk.at {X : Cx} {scope : Scope} {cl : List (Str × Addr)} {σ : L2.St} : ∀ {N : List Str} {src : List (Option Nat)} {i : Nat} {x : Str} {v : V}, FreeOk X scope cl N src -> N[i]? = some x -> (frees src σ)[i]? = some (some v) →
  ∃ j : Nat, X.N[j]? = some x /\ σ[j]? = some (some v) /\ X.env.kindOf x = some .cell /\ (compEnvC scope cl 0 X.env).kindOf x = some .cell /\ cl.lookup x = X.env.cells.lookup x
 | y :: N, none :: r, 0, x, v, h, e, q => by cases q
 | y :: N, none :: r, i + 1, x, v, h, e, q => FreeOk.at (N := N) (src := r) (i := i) h e q
 | y :: N, some j :: r, 0, x, v, h, e, q => by
  cases e
  refine ⟨j, h.1, ?_, h.2.1, h.2.2.1, h.2.2.2.1⟩
  have q' : some ((σ[j]?).getD none) = some (some v) := q
  injection q' with q'
  cases z : σ[j]? with
  | none => rw [z] at q'; cases q'
  | some o => rw [z] at q'; exact congrArg some q'
 | y :: N, some j :: r, i + 1, x, v, h, e, q => FreeOk.at (N := N) (src := r) (i := i) h.2.2.2.2 e q
def CellsOk (X : Cx) (scope : Scope) (cl : List (Str × Addr)) : Prop :=
 (∀ x, ((compEnvC scope cl 0 X.env).kindOf x = some .cell ∨ (compEnvC scope cl 0 X.env).kindOf x = some .free) -> ∃ c, cl.lookup x = some c) /\ ∀ x c, cl.lookup x = some c -> X.env.cells.lookup x = some c
def CellsIn (X : Cx) : List (Str × Addr) -> Prop
 | [] => True
 | y :: r => X.env.cells.lookup y.1 = some y.2 /\ CellsIn X r
theorem CellsIn.mem {X : Cx} : ∀ {cl : List (Str × Addr)}, CellsIn X cl -> ∀ y ∈ cl, X.env.cells.lookup y.1 = some y.2
 | [], _, y, h => by cases h
 | z :: r, k, y, h => by
  rcases List.mem_cons.mp h with e | h
  ·rw [e]; exact k.1
  ·exact CellsIn.mem k.2 y h
theorem mem_of_lookup {α : Type} {x : Str} {v : α} : ∀ {l : List (Str × α)}, l.lookup x = some v -> (x, v) ∈ l
 | [], h => by cases h
 | (y, w) :: r, h => by
  rw [List.lookup_cons] at h
  cases e : x == y with
  | true =>
   rw [e] at h
   have e' : x = y := eq_of_beq e
   cases h
   rw [e']; exact List.mem_cons_self
  | false =>
   rw [e] at h
   exact List.mem_cons_of_mem _ (mem_of_lookup h)
theorem cells_of {X : Cx} {scope : Scope} {cl : List (Str × Addr)} (h1 : ((relabel scope X.env).names.all fun y => !(y.2 == .cell || y.2 == .free) || (cl.lookup y.1).isSome) = true) (h2 : CellsIn X cl) : CellsOk X scope cl := by
 refine ⟨fun x h => ?_, fun x c e => h2.mem _ (mem_of_lookup e)⟩
 have h3 := List.all_eq_true.mp h1
 have key : ∀ k : NameKind, (k = .cell ∨ k = .free) -> (relabel scope X.env).names.lookup x = some k -> ∃ c, cl.lookup x = some c := fun k hk e => by
  have q := h3 _ (mem_of_lookup e)
  have z : (k == NameKind.cell || k == NameKind.free) = true := by rcases hk with rfl | rfl <;> rfl
  simp only [z, Bool.not_true, Bool.false_or] at q
  exact Option.isSome_iff_exists.mp q
 rcases h with h | h
 ·exact key _ (.inl rfl) h
 ·exact key _ (.inr rfl) h
def Ext (σ σ' : L2.St) : Prop := σ'.length = σ.length /\ ∀ (i : Nat) (v : V), σ[i]? = some (some v) -> σ'[i]? = some (some v)
theorem Ext.set {σ : L2.St} {i : Nat} {v : V} (h : σ[i]? = some none) : Ext σ (σ.set i (some v)) := by
 refine ⟨List.length_set, fun j u e => ?_⟩
 have ne : i ≠ j := fun z => by subst z; rw [h] at e; cases e
 rw [List.getElem?_set_ne ne]; exact e
section
variable {X : Cx} {N' : List Str} {scope : Scope} {cl : List (Str × Addr)} {src : List (Option Nat)} {pins : PLs} {σ : L2.St} {H : Hp} {s : Shared} {fp : List Addr}
theorem Cx.comp_ok {C : Addr} (I : Inv X pins σ H s) (hC : s.heap.objs.size ≤ C) (hk : scope.kind = .function) (hf : ∀ b ∈ fp, FpOk X pins H b) (hfs : ∀ b ∈ fp, b < s.heap.objs.size) (hc : CellsOk X scope cl) :
  (cxC X N' scope cl C fp pins s H).Ok where
 mod := I.ok.mod
 kind := hk
 glob := I.ok.glob
 blt := I.ok.blt
 above := hC
 inj := fun x y c e1 e2 => I.ok.inj x y c (hc.2 x c e1) (hc.2 y c e2)
 has := fun x h => hc.1 x h
 cab := fun x c z => nomatch z
 hd := I.ok.hd
 frames := I.ok.frames
 stk := .inl rfl
 exf := fun b hb => ⟨fun z => by have := hfs b hb; rw [show b = C from z] at this; exact absurd (Nat.lt_of_lt_of_le this hC) (Nat.lt_irrefl _), fun x c e => (hf b hb).2.2.2.2.1 x c (hc.2 x c e)⟩
 bs := I.bs
 bsz := Nat.le_trans I.ok.bsz I.sz
 noex := fun b o e hb => by
  rcases (hf b hb).2.2.2.1 with z | z
  ·exact I.ok.noex b o e z
  ·rw [(I.ok.bs b o e).1] at z; cases z
 exfs := fun b hb z => by
  rcases List.mem_cons.mp (I.stkSub b z) with q | q
  ·exact (hf b hb).2.1 q
  ·exact (hf b hb).2.2.1 q
 funs := I.stack
 frf := I.stkFree
theorem Inv.comp {C : Addr} {h₁ : Heap} {m : Str -> Option Value} {tk : Nat} (I : Inv X pins σ H s) (hC : C = s.heap.objs.size) (hns : h₁.Ns C m) (keep : ∀ b o, s.heap.get? b = some o -> h₁.get? b = some o)
  (hk : scope.kind = .function) (hf : ∀ b ∈ fp, FpOk X pins H b) (hfs : ∀ b ∈ fp, b < s.heap.objs.size) (hc : CellsOk X scope cl) (hfree : FreeOk X scope cl N' src) :
  Inv (cxC X N' scope cl C fp pins s H) [] (frees src σ) H { s with heap := h₁, toks := tk } where
 ok := Cx.comp_ok I (Nat.le_of_eq hC.symm) hk hf hfs hc
 os := rfl
 bare := I.bare
 base := Un.kept keep
 loc := ⟨m, hns, fun i x v e1 e2 _ => by
  obtain ⟨j, hj, hσ, kc, kc', hl⟩ := hfree.at e1 e2
  obtain ⟨m0, hn0, hl0⟩ := I.loc
  obtain ⟨u, r, l⟩ := hl0 j x v hj hσ (Or.inr (Or.inl kc))
  rcases l with ⟨k, _⟩ | ⟨k, c, e, o, ho, hd⟩
  ·rw [kc] at k; cases k
  ·exact ⟨u, r, .inr ⟨.inl kc', c, hl.trans e, o, keep c o ho, hd⟩⟩⟩
 cell := fun x c e => let ⟨v, o, ho, hd⟩ := I.cell x c (hc.2 x c e); ⟨v, o, keep _ _ ho, hd⟩
 free := I.hok.fresh (Nat.le_of_eq hC.symm)
 freeC := fun x c e => I.freeC x c (hc.2 x c e)
 pin := fun p hp => by
  have hp' : p ∈ X.pn ++ pins := by
   have z : p ∈ (X.pn ++ pins) ++ [] := hp
   rw [List.append_nil] at z; exact z
  obtain ⟨e, n, ne, nf, d⟩ := I.pin p hp'
  refine ⟨keep _ _ e, n, fun z => ?_, fun z => ?_, d⟩
  ·have := Heap.lt_size e; rw [show p.1 = C from z, hC] at this; exact Nat.lt_irrefl _ this
  ·rcases List.mem_cons.mp (I.stkSub _ z) with q | q
   ·exact ne q
   ·exact nf q
 hok := I.hok.kept keep
 len := by show (frees src σ).length = N'.length; unfold frees; rw [List.length_map, hfree.len]
end
def PTs (X : Cx) (ifs : List Expr) (t : TT) : Prop :=
 ∀ (pins : PLs) (s : Shared) (σ : L2.St) (H : Hp) (Q : Bool -> Hp -> Prop), Inv X pins σ H s -> t σ H Q →
  wpAny (model X.prog X.w) X.A (forIn ifs true fun c r => if r = true then do let ok ← isTrue c X.env (eval c X.env); pure (ForInStep.yield ok) else pure (ForInStep.yield r)) (TP X pins σ Q) X.xe s
def tYes : TT := fun _ H Q => Q true H
theorem pts_nil {X : Cx} : PTs X [] tYes := fun _ _ _ H _ I h => wpAny_tests_nil ⟨H, I, h⟩
theorem pts_one {X : Cx} {c : Expr} {t : TT} (h : PT X c t) : PTs X [c] t := fun pins s σ H Q I q => wpAny_tests_one (h pins s σ H Q I q)
section
variable {prog : Program} {w : World} {A : Around} {R : Result -> Shared -> Prop} {s : Shared}
theorem comp_loop {elt target iter : Expr} {ifs : List Expr} {scope : Scope} {pos : Pos} {it acc : Value} {env : Env} (I : Nat -> Shared -> Prop)
  (turn : ∀ n s, I n s -> wpAny (model prog w) A (pyNext it) (fun r s₁ => match r with
   | none => R (.ok .next) s₁
   | some v => wpAny (model prog w) A (letOwnedTupleGo target it v) (fun _ s₁' => wpAny (model prog w) A (assign target env v) (fun _ s₂ =>
     wpAny (model prog w) A (forIn ifs true fun c r => if r = true then do let ok ← isTrue c env (eval c env); pure (ForInStep.yield ok) else pure (ForInStep.yield r)) (fun ok s₃ =>
      if ok = true then wpAny (model prog w) A (eval elt env) (fun x s₄ =>
       wpAny (model prog w) A (call (.builtin "list.append") [acc, x]) (fun _ s₅ => ∃ m, m < n /\ I m s₅) (fun _ _ => False) s₄) (fun _ _ => False) s₃
      else ∃ m, m < n /\ I m s₃) (fun _ _ => False) s₂) (fun _ _ => False) s₁') (fun _ _ => False) s₁) (fun _ _ => False) s)
  (n : Nat) (h : I n s) : codeAny (model prog w) A (.compLoop (.ListComp elt [⟨target, iter, ifs, 0⟩] scope pos) 0 it acc env) R s := by
 refine codeAny_loop rfl I (fun n s hI => ?_) n h
 show wpAny _ A ((compTurn (.ListComp elt [⟨target, iter, ifs, 0⟩] scope pos) 0 it acc env).onRaise (fun x => do noteFrame x env; theTreesLotGoes x)) _ _ s
 refine wpAny_noted ?_
 rw [compTurn_list]
 refine wpAny_bind (wpAny_standAt (wpAny_bind (wpAny_mono (turn n s hI) (fun r s₁ h₁ => ?_) fun _ _ h' => h'.elim)))
 cases r with
 | none => exact wpAny_pure h₁
 | some v =>
  refine wpAny_bind (wpAny_mono h₁ (fun _ s₁' h₁' => ?_) fun _ _ h' => h'.elim)
  refine wpAny_bind (wpAny_mono h₁' (fun _ s₂ h₂ => wpAny_bind (wpAny_mono h₂ (fun ok s₃ h₃ => ?_) fun _ _ h' => h'.elim)) fun _ _ h' => h'.elim)
  cases ok with
  | false => exact wpAny_pure ⟨rfl, h₃⟩
  | true =>
   exact wpAny_bind (wpAny_bind (wpAny_mono h₃ (fun x s₄ h₄ => wpAny_bind (wpAny_mono h₄ (fun _ s₅ h₅ => wpAny_pure (wpAny_pure ⟨rfl, h₅⟩)) fun _ _ h' => h'.elim)) fun _ _ h' => h'.elim))
end
structure OffC (X : Cx) (pins : PLs) (H : Hp) (C : Addr) : Prop where
 no : H C = none
 lo : C ≠ X.env.locals
 fs : C ∉ X.fs
 old : X.s₀.heap.get? C = none
 ce : ∀ x c, X.env.cells.lookup x = some c -> c ≠ C
 pn : ∀ p ∈ X.pn ++ pins, p.1 ≠ C
theorem OffC.turned {X : Cx} {pins : PLs} {σ : L2.St} {H : Hp} {C : Addr} {s : Shared} (o : OffC X pins H C) (I : Inv X pins σ H s) {h' : Heap} (sb : Heap.SameBut C s.heap h') : Inv X pins σ H { s with heap := h' } :=
 I.turned (it := C) (t' := s.toks) (fun b u hb e => sb.extBut b u hb e) o.no o.lo (.inr o.old) o.ce o.pn
def tComp (wi : TI) (src : List (Option Nat)) (g : TG) (tt : TT) (te : TE) : TE := fun σ H Q => wi σ H fun J H1 => ∀ D, H1 D = none -> ∃ W : Nat -> Nat -> List V -> Hp -> Prop,
 (∃ m, W 0 m [] (upd H1 D (.lst []))) /\ ∀ i m ys H, W i m ys H -> (J.stop i H /\ Q (.ref D) H) ∨ (J.go i H /\ ∀ x H', J.yld i H x H' -> g x (frees src σ) H' fun σ2 H2 => Ext (frees src σ) σ2 /\ tt σ2 H2 fun ok H3 =>
  if ok = true then te σ2 H3 fun y H4 => H4 D = some (.lst ys) /\ ys.length < sizeLine /\ ∃ m', m' < m /\ W (i + 1) m' (ys ++ [y]) (upd H4 D (.lst (ys ++ [y]))) else ∃ m', m' < m /\ W (i + 1) m' ys H3)
section
variable {X : Cx} {N' : List Str} {scope : Scope} {cl : List (Str × Addr)} {src : List (Option Nat)} {tg iter elt : Expr} {ifs : List Expr} {wi : TI} {g : TG} {tt : TT} {te : TE} {pos : Pos}
theorem comp_run (hc : X.calm = true) (hi : PI X tg iter wi) (hg : ∀ C fp pins s H, PG (cxC X N' scope cl C fp pins s H) tg g) (ht : ∀ C fp pins s H, PTs (cxC X N' scope cl C fp pins s H) ifs tt)
  (he : ∀ C fp pins s H, PE (cxC X N' scope cl C fp pins s H) elt te) (hfree : FreeOk X scope cl N' src) (hcell : ∀ x ∈ scope.names, x.2 ≠ .cell) (hkind : scope.kind = .function) (hcl : CellsOk X scope cl)
  {RR : Value -> Addr -> Result -> Shared -> Prop} {pins : PLs} {s : Shared} {σ : L2.St} {H : Hp} {Q : VK} (I : Inv X pins σ H s) (h : tComp wi src g tt te σ H Q)
  (hRR : ∀ D C H' s', Q (.ref D) H' -> (∃ m, s'.heap.Ns C m) -> Inv X pins σ H' s' -> OffC X pins H' C -> RR (.ref D) C (.ok .next) s') :
  wpAny (model X.prog X.w) X.A (eval iter X.env) (fun x s₁ => wpAny (model X.prog X.w) X.A (pyIter x) (fun itv s₂ => wpAny (model X.prog X.w) X.A (newList []) (fun acc s₃ =>
   wpAny (model X.prog X.w) X.A (newFunctionEnv scope X.env.globals cl [] X.env.qual none .none (some X.env)) (fun cenv s₄ =>
    codeAny (model X.prog X.w) X.A (.compStart (.ListComp elt [⟨tg, iter, ifs, 0⟩] scope pos) 0 itv acc { cenv with scope := relabel scope X.env }) (RR acc cenv.locals) s₄) X.xe s₃) X.xe s₂) X.xe s₁) X.xe s := by
 refine thn (hi pins s σ H _ I h) fun v s1 h1 => thn h1 fun itv s2 h2 => ?_
 obtain ⟨it, fp, tn, J, H2, e, I2, T, st2, f2, h2⟩ := h2
 subst e
 refine wpAny_newObj_type ?_ (by show 0 ≤ sizeLine; exact Nat.zero_le _)
 have hD : H2 s2.heap.objs.size = none := I2.fresh
 have I3 : Inv X pins σ (upd H2 s2.heap.objs.size (.lst [])) { s2 with heap := s2.heap.push { cls := .type "list", data := .seq ([] : List Value).toArray } } := I2.lnew (t' := s2.toks) (its := []) .nil (Nat.zero_le _)
 obtain ⟨W, ⟨m0, w0⟩, turn⟩ := h2 s2.heap.objs.size hD
 generalize hDe : s2.heap.objs.size = D at I3 turn w0 hD ⊢
 have st3 : tn 0 (s2.heap.push { cls := .type "list", data := .seq ([] : List Value).toArray }) := T.keep _ _ _ st2 fun b _ o e => Heap.get?_push_of_some _ e
 have f3 : ∀ b ∈ fp, FpOk X pins (upd H2 D (.lst [])) b /\ b < (s2.heap.push { cls := .type "list", data := .seq ([] : List Value).toArray }).objs.size := fun b hb => by
  obtain ⟨o, e, _⟩ := T.obj _ _ st2 b hb
  have l := Heap.lt_size e
  rw [hDe] at l
  refine ⟨⟨?_, (f2 b hb).2⟩, by rw [Heap.size_push, hDe]; exact Nat.lt_succ_of_lt l⟩
  rw [upd_ne (Nat.ne_of_lt l)]; exact (f2 b hb).1
 generalize (s2.heap.push { cls := .type "list", data := .seq ([] : List Value).toArray }) = h3 at I3 st3 f3 ⊢
 refine wpAny_newFunctionEnv hcell (by intro y hy; simp at hy) (fun h₄ hns₄ hsb₄ => ?_) hkind
 have keep : ∀ b o, h3.get? b = some o -> h₄.get? b = some o := fun b o e => hsb₄.extBut b o (Nat.ne_of_lt (Heap.lt_size e)) (Heap.get?_push_of_some _ e)
 have I4 := Inv.comp (C := h3.objs.size) (fp := fp) (tk := s2.toks + ([] : List (Str × Value)).length) I3 rfl hns₄ keep hkind (fun b hb => (f3 b hb).1) (fun b hb => (f3 b hb).2) hcl hfree
 have st4 : tn 0 h₄ := T.keep _ _ _ st3 fun b _ o e => keep b o e
 have fpn : ∀ b ∈ fp, (upd H2 D (.lst [])) b = none := fun b hb => (f3 b hb).1.1
 have hn3 : ∀ b ∈ fp, b ≠ h3.objs.size := fun b hb => Nat.ne_of_lt (f3 b hb).2
 have stat : ∀ {H' : Hp}, (∀ b ∈ fp, H' b = none) -> ∀ b ∈ fp, FpOk (cxC X N' scope cl h3.objs.size fp pins { s2 with heap := h3 } (upd H2 D (.lst []))) [] H' b := fun hn b hb =>
  ⟨hn b hb, hn3 b hb, I4.ok.exfs b hb, .inl hb, fun x c e => (f3 b hb).1.2.2.2.2.1 x c (hcl.2 x c e), fun p hp => (f3 b hb).1.2.2.2.2.2 p (by
   have z : p ∈ (X.pn ++ pins) ++ [] := hp
   rw [List.append_nil] at z; exact z)⟩
 have back : ∀ {H' : Hp} {s' : Shared}, Inv (cxC X N' scope cl h3.objs.size fp pins { s2 with heap := h3 } (upd H2 D (.lst []))) [] (frees src σ) H' s' -> (∃ m, s'.heap.Ns h3.objs.size m) /\ Inv X pins σ H' s' /\ OffC X pins H' h3.objs.size := fun {H' s'} I' => by
  have Ib : Inv X pins σ H' s' := I3.call' I'.os I'.base I'.hok I'.bare fun b hb => ⟨(f3 b hb).1.2.2.2.1, (f3 b hb).1.2.1, (f3 b hb).1.2.2.2.2.1, (f3 b hb).1.2.2.2.2.2⟩
  refine ⟨let ⟨m, hm, _⟩ := I'.loc; ⟨m, hm⟩, Ib, ⟨I'.free, fun z => ?_, I3.nofs (Nat.le_refl _), Heap.get?_none_of_le I3.sz, fun x c e z => ?_, fun p hp z => ?_⟩⟩
  ·have := I3.lt; rw [← z] at this; exact Nat.lt_irrefl _ this
  ·obtain ⟨v, o, ho, _⟩ := I3.cell x c e
   have := Heap.lt_size ho; rw [z] at this; exact Nat.lt_irrefl _ this
  ·obtain ⟨e, _⟩ := I3.pin p hp
   have := Heap.lt_size e; rw [z] at this; exact Nat.lt_irrefl _ this
 have loop : codeAny (model X.prog X.w) X.A (.compLoop (.ListComp elt [⟨tg, iter, ifs, 0⟩] scope pos) 0 (.ref it) (.ref D) (compEnvC scope cl h3.objs.size X.env)) (RR (.ref D) h3.objs.size) { s2 with heap := h₄, toks := s2.toks + ([] : List (Str × Value)).length } := by
  refine comp_loop (fun n s' => ∃ i ys H', Inv (cxC X N' scope cl h3.objs.size fp pins { s2 with heap := h3 } (upd H2 D (.lst []))) [] (frees src σ) H' s' /\ tn i s'.heap /\ (∀ b ∈ fp, H' b = none) /\ W i n ys H') ?_ m0 ⟨0, [], _, I4, st4, fpn, w0⟩
  rintro n s5 ⟨i, ys, H5, I5, st5, fr5, w5⟩
  rcases turn i n ys H5 w5 with ⟨stop, qn⟩ | ⟨go, step⟩
  ·refine thn (T.done (cxC X N' scope cl h3.objs.size fp pins { s2 with heap := h3 } (upd H2 D (.lst []))) rfl rfl rfl hc i [] s5 _ H5 _ I5 (stat fr5) st5 stop) fun r s6 ⟨hr, I6⟩ => ?_
   subst hr
   obtain ⟨b1, b2, b3⟩ := back I6
   exact hRR D _ H5 s6 qn b1 b2 b3
  ·refine thn (T.item (cxC X N' scope cl h3.objs.size fp pins { s2 with heap := h3 } (upd H2 D (.lst []))) rfl rfl rfl hc i [] s5 _ H5 _ I5 (stat fr5) st5 go) fun r s6 ⟨u, hr, h6⟩ => ?_
   subst hr
   refine thn h6 fun _ s7 ⟨x, H7, I7, r7, y7, st7, fr7⟩ => ?_
   have I7' := I7.pinned (stat fr7) (T.obj _ _ st7)
   refine thn (hg _ _ _ _ _ _ s7 _ H7 x u _ I7' r7 (step x H7 y7)) fun _ s8 ⟨σ8, H8, I8, ex8, q8⟩ => ?_
   refine thn (ht _ _ _ _ _ _ s8 σ8 H8 _ I8 q8) fun ok s9 ⟨H9, I9, q9⟩ => ?_
   have again : ∀ {ys' : List V} {Ha : Hp} {sa : Shared}, Inv (cxC X N' scope cl h3.objs.size fp pins { s2 with heap := h3 } (upd H2 D (.lst []))) ([] ++ pinsAt fp s7.heap) σ8 Ha sa -> (∃ m', m' < n /\ W (i + 1) m' ys' Ha) →
     ∃ m, m < n /\ ∃ i ys H', Inv (cxC X N' scope cl h3.objs.size fp pins { s2 with heap := h3 } (upd H2 D (.lst []))) [] (frees src σ) H' sa /\ tn i sa.heap /\ (∀ b ∈ fp, H' b = none) /\ W i m ys H' := fun {ys' Ha sa} Ia ⟨m', hm, wa⟩ => by
    refine ⟨m', hm, i + 1, ys', Ha, (Ia.unpinned).weak ex8.1.symm ex8.2, T.keep _ _ _ st7 fun b hb o e => (Ia.pin (b, o) (List.mem_append_right _ (List.mem_append_right _ (mem_pinsAt hb e)))).1, fun b hb => ?_, wa⟩
    obtain ⟨o, e, _⟩ := T.obj _ _ st7 b hb
    exact (Ia.pin (b, o) (List.mem_append_right _ (List.mem_append_right _ (mem_pinsAt hb e)))).2.1
   cases ok with
   | false => exact again I9 q9
   | true =>
    refine thn (he _ _ _ _ _ _ s9 σ8 H9 _ I9 q9) fun y s10 ⟨yv, H10, I10, r10, q10, hz, wn⟩ => ?_
    refine thn (mt_append _ s10 σ8 H10 (.ref D) [yv] (.ref D) [y] (fun _ Hz => ∃ m', m' < n /\ W (i + 1) m' (ys ++ [yv]) Hz) I10 rfl (.cons r10 .nil) ⟨D, ys, yv, rfl, rfl, q10, hz, wn⟩) fun _ s11 ⟨_, H11, I11, _, q11⟩ => ?_
    exact again I11 q11
 exact codeAny_compStart_list loop (T.self _ 0 _ _ _ st4 loop)
theorem pe_lcomp (hc : X.calm = true) (hi : PI X tg iter wi) (hg : ∀ C fp pins s H, PG (cxC X N' scope cl C fp pins s H) tg g) (ht : ∀ C fp pins s H, PTs (cxC X N' scope cl C fp pins s H) ifs tt)
  (he : ∀ C fp pins s H, PE (cxC X N' scope cl C fp pins s H) elt te) (hfree : FreeOk X scope cl N' src) (hclos : closureFor scope X.env = pure cl) (hcell : ∀ x ∈ scope.names, x.2 ≠ .cell) (hkind : scope.kind = .function)
  (hnames : ∀ x ∈ scope.names, x.2 = .local -> scope.names.lookup x.1 = some .local) (hcl : CellsOk X scope cl) (hs : ∀ x, foldedSetIterable iter X.env x = pure x := by intro _; rfl) :
  PE X (.ListComp elt [⟨tg, iter, ifs, 0⟩] scope pos) (tComp wi src g tt te) := by
 intro pins s σ H Q I h
 rw [eval_ListComp]
 refine wpAny_comprehension_free (use := none) rfl hs hclos hkind hnames (comp_run hc hi hg ht he hfree hcell hkind hcl (RR := fun acc C => compPost (model X.prog X.w) X.A X.xe none (EP X pins σ Q) acc C) I h fun D C H' s' q hm hI hb => ?_)
 obtain ⟨m, hm⟩ := hm
 exact ⟨m, hm, fun h' sb => ⟨.ref D, H', hb.turned hI sb, rfl, q⟩⟩
theorem ps_setC {i : Nat} {x : Str} {pos' pos2 : Pos} (hN : X.N.Nodup) (hi' : X.N[i]? = some x) (hx : Loc X.env.scope x) (hc : X.calm = true) (hi : PI X tg iter wi) (hg : ∀ C fp pins s H, PG (cxC X N' scope cl C fp pins s H) tg g) (ht : ∀ C fp pins s H, PTs (cxC X N' scope cl C fp pins s H) ifs tt)
  (he : ∀ C fp pins s H, PE (cxC X N' scope cl C fp pins s H) elt te) (hfree : FreeOk X scope cl N' src) (hclos : closureFor scope X.env = pure cl) (hcell : ∀ x ∈ scope.names, x.2 ≠ .cell) (hkind : scope.kind = .function)
  (hnames : ∀ x ∈ scope.names, x.2 = .local -> scope.names.lookup x.1 = some .local) (hcl : CellsOk X scope cl) (hs : ∀ x, foldedSetIterable iter X.env x = pure x := by intro _; rfl)
  (hsw : swapsWith (.ListComp elt [⟨tg, iter, ifs, 0⟩] scope pos) (some (.Name x pos')) pos2.line X.env = pure true := by rfl) (hf : X.fn x = true ∨ X.env.scope.names.lookup x = some .local := by first | exact .inl rfl | exact .inr rfl | assumption) :
  PS X (.Assign [.Name x pos'] (.ListComp elt [⟨tg, iter, ifs, 0⟩] scope pos) pos2) (tAsg (tComp wi src g tt te) (gName i)) := by
 intro pins s σ H D I h
 rw [exec_Assign_Name_used _ _ _ _ hsw]
 refine wpAny_bind (wpAny_standAt ?_)
 show wpAny _ _ ((comprehension (.ListComp elt [⟨tg, iter, ifs, 0⟩] scope pos) scope X.env _ (newList []) false (eval iter X.env) (some (assign (.Name x pos') X.env)) >>= fun _ => pure ()) >>= fun _ => pure Flow.next) _ _ s
 refine wpAny_bind (wpAny_bind (wpAny_mono (wpAny_comprehension_free (use := some (assign (.Name x pos') X.env)) (Q := fun _ s'' => SP X pins D .next s'') rfl hs hclos hkind hnames (comp_run hc hi hg ht he hfree hcell hkind hcl (RR := fun acc C => compPost (model X.prog X.w) X.A X.xe (some (assign (.Name x pos') X.env)) (fun _ s'' => SP X pins D .next s'') acc C) I h fun E C H' s' q hm hI hb => ?_)) (fun _ s'' h'' => wpAny_pure (wpAny_pure h'')) fun _ _ e => e))
 obtain ⟨m, o, es, ep, ho, hd, r1, r2⟩ := hm
 have I' : Inv X (pins ++ [(C, o)]) σ H' s' := hI.pins_of fun p hp => by
  rcases List.mem_append.mp hp with h | h
  ·exact hI.pin p (List.mem_append_right _ h)
  ·rw [List.mem_singleton] at h
   rw [h]
   exact ⟨ho, hb.no, hb.lo, hb.fs, fun v z => by rw [hd] at z; cases z⟩
 refine wpAny_assign_Name (store_ok I' hN hi' hx (show RelV (.ref E) (.ref E) from rfl) (fun s'' I'' => ?_) hf)
 have hC := (I''.pin (C, o) (List.mem_append_right _ (List.mem_append_right _ List.mem_cons_self))).1
 have I3 : Inv X pins (σ.set i (some (.ref E))) H' s'' := I''.pins_of fun p hp => I''.pin p (List.mem_append_right _ (List.mem_append_left _ hp))
 exact ⟨m, ⟨o, es, ep, hC, hd, r1, r2⟩, fun h' sb => ⟨_, H', hb.turned I3 sb, q⟩⟩
end
def rNeD (K : Fg) : R2 := fun x y H Q => ∃ d d', Deep K H x d /\ Deep K H y d' /\ d.canLay0 = true /\ d'.canLay0 = true /\ d.depth ≤ 32 /\ Q (.bl (!PyData.eqv d d')) H
theorem op_neD {X : Cx} {k : Nat} (hr : Room k X.A) : OpR X (compareOp .NotEq) (rNeD X.K) := by
 intro pins s σ H x y v u Q I rx ry h
 obtain ⟨d, d', hd, hd', c, c', dp, q⟩ := h
 obtain ⟨as, ra⟩ := Deep.reads I hd rx
 obtain ⟨bs, rb⟩ := Deep.reads I hd' ry
 exact SeqAt.compareNe_reads ra rb c c' (by have := hr.units; omega) ⟨.bl _, H, I, rfl, q⟩
noncomputable def hitAt (h : Heap) (x : Value) (d : PyData) (y : Value) : Bool :=
 open Classical in if y = x then true else if z : ∃ d', d'.canLay0 = true /\ d'.depth ≤ 32 /\ ∃ as, Reads h y d' as then PyData.eqv z.choose d else false
def Known (K : Fg) (H : Hp) (xs : List V) : Prop := ∀ x ∈ xs, ∃ d, Deep K H x d /\ d.canLay0 = true /\ d.depth ≤ 32
def rNotInS (K : Fg) : R2 := fun x y H Q => ∃ a p xs, x = .ref a /\ y = .ref p /\ SqL K H p xs /\ V.ref a ∈ xs /\ Known K H xs /\ Q (.bl false) H
def rIndexS (K : Fg) : V -> List V -> Hp -> VK -> Prop := fun x vs H Q => ∃ p xs a d, x = .ref p /\ vs = [.ref a] /\ SqL K H p xs /\ V.ref a ∈ xs /\ Known K H xs /\ Deep K H (.ref a) d /\ d.canLay0 = true /\ d.depth ≤ 32 ∧
 ∀ (j : Nat) (v' : V), xs[j]? = some v' -> (v' = .ref a ∨ ∀ d', Deep K H v' d' -> d'.canLay0 = true -> PyData.eqv d' d = true) -> Q (.int j) H
end B
namespace B
abbrev R := Int × Int
def mkR (a b : Int) : R := (a / (Int.gcd a b : Int), b / (Int.gcd a b : Int))
structure Wf (n : Nat) (r : R) : Prop where
 pos : 0 < r.2
 top : r.1.natAbs < 2 ^ n
 bot : r.2.natAbs < 2 ^ n
 cop : Int.gcd r.1 r.2 = 1
theorem Wf.mono {n m : Nat} {r : R} (h : Wf n r) (l : n ≤ m) : Wf m r := ⟨h.pos, Nat.lt_of_lt_of_le h.top (Nat.pow_le_pow_right (by decide) l), Nat.lt_of_lt_of_le h.bot (Nat.pow_le_pow_right (by decide) l), h.cop⟩
theorem gcd_posR {a b : Int} (hb : 0 < b) : 0 < (Int.gcd a b : Int) := by
 have h : Int.gcd a b ≠ 0 := fun z => by
  have := (Int.gcd_eq_zero_iff.mp z).2
  omega
 omega
theorem natAbs_div_le (a : Int) {g : Int} (hg : 0 < g) : (a / g).natAbs ≤ a.natAbs := by
 have h1 := Int.ediv_mul_le a (show g ≠ 0 by omega)
 have h2 := Int.lt_ediv_add_one_mul_self a hg
 rcases Int.le_total 0 a with h | h
 ·have h3 := Int.ediv_nonneg h (show 0 ≤ g by omega)
  have h4 : a / g ≤ a / g * g := by
   have : a / g * 1 ≤ a / g * g := Int.mul_le_mul_of_nonneg_left (by omega) h3
   omega
  omega
 ·have h3 : a / g ≤ 0 := by
   have := Int.ediv_le_ediv hg h
   rw [Int.zero_ediv] at this; exact this
  have h5 : a ≤ a / g := by
   have : a / 1 ≤ a / g := by
    have q : (a / g + 1) * g ≤ (a / g + 1) * 1 ∨ 0 < a / g + 1 := by
     rcases Int.le_total (a / g + 1) 0 with z | z
     ·left
      have := Int.mul_le_mul_of_nonneg_left (a := 1) (b := g) (c := -(a / g + 1)) (by omega) (by omega)
      have e1 : -(a / g + 1) * 1 = -((a / g + 1) * 1) := Int.neg_mul _ _
      have e2 : -(a / g + 1) * g = -((a / g + 1) * g) := Int.neg_mul _ _
      omega
     ·rcases Int.lt_or_eq_of_le z with z | z
      ·right; exact z
      ·left; rw [← z]; simp
    rw [Int.ediv_one]
    rcases q with q | q
    ·omega
    ·omega
   rw [Int.ediv_one] at this; exact this
  omega
theorem mkR_wf {n : Nat} {a b : Int} (hb : 0 < b) (h1 : a.natAbs < 2 ^ n) (h2 : b.natAbs < 2 ^ n) : Wf n (mkR a b) :=
 ⟨Int.ediv_pos_of_pos_of_dvd hb (Int.le_of_lt (gcd_posR hb)) (Int.gcd_dvd_right a b), Nat.lt_of_le_of_lt (natAbs_div_le _ (gcd_posR hb)) h1, Nat.lt_of_le_of_lt (natAbs_div_le _ (gcd_posR hb)) h2, Int.gcd_ediv_gcd_ediv_gcd (by have := gcd_posR (a := a) hb; omega)⟩
def plusR (r q : R) : R := mkR (r.1 * q.2 + q.1 * r.2) (r.2 * q.2)
def timesR (r q : R) : R := mkR (r.1 * q.1) (r.2 * q.2)
def lessR (r q : R) : Bool := decide (r.1 * q.2 < q.1 * r.2)
theorem mul_lt {x y : Int} {n m : Nat} (h1 : x.natAbs < 2 ^ n) (h2 : y.natAbs < 2 ^ m) : (x * y).natAbs < 2 ^ (n + m) := by
 rw [Int.natAbs_mul, Nat.pow_add]
 exact Nat.mul_lt_mul'' h1 h2
theorem plus_top {n m : Nat} {r q : R} (h : Wf n r) (k : Wf m q) : (r.1 * q.2 + q.1 * r.2).natAbs < 2 ^ (n + m + 1) := by
 have a := mul_lt h.top k.bot
 have b := mul_lt k.top h.bot
 rw [Nat.add_comm m n] at b
 have e : 2 ^ (n + m + 1) = 2 * 2 ^ (n + m) := by rw [Nat.pow_succ, Nat.mul_comm]
 have := Int.natAbs_add_le (r.1 * q.2) (q.1 * r.2)
 omega
theorem plus_wf {n m : Nat} {r q : R} (h : Wf n r) (k : Wf m q) : Wf (n + m + 1) (plusR r q) :=
 mkR_wf (Int.mul_pos h.pos k.pos) (plus_top h k) (Nat.lt_of_lt_of_le (mul_lt h.bot k.bot) (Nat.pow_le_pow_right (by decide) (Nat.le_succ _)))
end B
namespace B
open PySem L2 PyProof.Rows
def CBig (i j : Int) : Prop := i.natAbs < 2 ^ 4000 /\ j.natAbs < 2 ^ 4000
def CQuo (_ j : Int) : Prop := 0 < j /\ j.natAbs < 2 ^ 4000
theorem bits_of {i : Int} (h : i.natAbs < 2 ^ 4000) : Builtin.Int.intBits i ≤ 2 ^ 20 := by
 unfold Builtin.Int.intBits
 split
 ·exact Nat.zero_le _
 ·rename_i z
  have hz : i.natAbs ≠ 0 := fun q => z (by have : i = 0 := by omega
                                           rw [this]; rfl)
  have := (Nat.log2_lt hz).mpr h
  have e : (2 : Nat) ^ 20 = 1048576 := by decide
  omega
section
variable {X : Cx}
theorem op_mulB : OpR X (binaryOp .Mult) (rI CBig fun i j => .int (i * j)) := opI fun _ _ _ _ _ _ _ hc q => mul_int q (IntMulOk.of_bits (bits_of hc.1) (bits_of hc.2))
theorem op_quo : OpR X (binaryOp .FloorDiv) (rI CQuo fun i j => .int (i / j)) := opI fun i j _ _ _ _ _ hc q => by
 have h1 : (0 : Int) < j := hc.1
 have h2 : j.natAbs < 2 ^ 4000 := hc.2
 refine floordiv_int (by omega) (by rw [Int.fdiv_eq_ediv_of_nonneg i (by omega)]; exact q) (.inl (PyProof.noPylong_of_log2 ?_))
 exact Nat.lt_trans ((Nat.log2_lt (show j.natAbs ≠ 0 by omega)).mpr h2) (by decide)
end
def Tst (K : Fg) (H H' : Hp) : Prop := ∀ p xs, SqT K H p xs -> SqT K H' p xs
theorem Tst.trans {K : Fg} {H H1 H2 : Hp} (a : Tst K H H1) (b : Tst K H1 H2) : Tst K H H2 := fun p xs h => b p xs (a p xs h)
theorem Tst.same {K : Fg} {H H' : Hp} (s : Same H H') : Tst K H H' := fun p xs h => by
 rcases h with (h | ⟨o, h⟩) | h
 ·exact .inl (.inl (s _ _ h))
 ·exact .inl (.inr ⟨o, s _ _ h⟩)
 ·exact .inr h
theorem Tst.step {K : Fg} {t : Addr} {H H' : Hp} (S : Step t H H') : Tst K H H' := fun p xs h => by
 obtain ⟨ys, ht⟩ := S.tp
 rcases h with (h | ⟨o, h⟩) | h
 ·exact .inl (.inl (S.keep _ _ (fun z => by subst z; rw [h] at ht; cases ht) h))
 ·exact .inl (.inr ⟨o, S.keep _ _ (fun z => by subst z; rw [h] at ht; cases ht) h⟩)
 ·exact .inr h
theorem Tst.up {K : Fg} {H : Hp} {l : Addr} {xs : List V} (h : H l = some (.lst xs)) (ys : List V) : Tst K H (upd H l (.lst ys)) := Tst.step (Step.up h)
def RV (K : Fg) (H : Hp) (v : V) (r : R) : Prop := ∃ p, v = .ref p /\ SqT K H p [.int r.1, .int r.2]
theorem RV.mono {K : Fg} {H H' : Hp} {v : V} {r : R} (h : RV K H v r) (t : Tst K H H') : RV K H' v r := let ⟨p, e, q⟩ := h; ⟨p, e, t _ _ q⟩
theorem RV.of {K : Fg} {H : Hp} {p : Addr} {a b : Int} (h : H p = some (.tup [.int a, .int b])) : RV K H (.ref p) (a, b) := ⟨p, rfl, SqT.of h⟩
def RVs (K : Fg) (H : Hp) (xs : List V) (rs : List R) : Prop := xs.length = rs.length /\ ∀ (i : Nat) (x : V) (r : R), xs[i]? = some x -> rs[i]? = some r -> RV K H x r
theorem RVs.at {K : Fg} {H : Hp} {xs : List V} {rs : List R} {i : Nat} {x : V} (h : RVs K H xs rs) (e : xs[i]? = some x) : ∃ r, rs[i]? = some r /\ RV K H x r := by
 have hi := (List.getElem?_eq_some_iff.mp e).1
 have hj : i < rs.length := by rw [← h.1]; exact hi
 exact ⟨rs[i], List.getElem?_eq_getElem hj, h.2 i x _ e (List.getElem?_eq_getElem hj)⟩
def powR (r : R) : Nat -> R
 | 0 => (1, 1)
 | k + 1 => timesR (powR r k) r
theorem zero_wf : Wf 1 (0, 1) := ⟨by decide, by decide, by decide, by decide⟩
def sumR (rs : List R) : R := rs.foldl plusR (0, 1)
def dR (r : R) : PyData := .tuple [.int r.1, .int r.2]
theorem RV.deep {K : Fg} {H : Hp} {v : V} {r : R} (h : RV K H v r) : Deep K H v (dR r) := by
 obtain ⟨p, rfl, q⟩ := h
 exact .tup q (.cons (.int _) (.cons (.int _) .nil))
theorem dR_lay (r : R) : (dR r).canLay0 = true := rfl
theorem log_of {i : Int} {n : Nat} (h : i.natAbs < 2 ^ n) (hn : n ≤ 1900) : i.natAbs.log2 < 1920 := by
 by_cases z : i.natAbs = 0
 ·rw [z]; decide
 ·have := (Nat.log2_lt z).mpr (Nat.lt_of_lt_of_le h (Nat.pow_le_pow_right (by decide) hn))
  omega
theorem len_of {i : Int} {n : Nat} (h : i.natAbs < 2 ^ n) (hn : n ≤ 1900) : (PyData.int i).shown.length ≤ 1921 := by
 have q := int_text_length_le (a := i) (k := 1920) (by decide) (log_of h hn)
 have e : (PyData.int i).shown.length = (toString i).length := by
  show (Str.ofString (toString i)).length = _
  exact PySem.ofString_length _
 omega
theorem dR_shows {r : R} {n : Nat} (h : Wf n r) (hn : n ≤ 1900) : Shows (dR r) where
 sh := by
  show (decide (r.1.natAbs.log2 < 1920) && (decide (r.2.natAbs.log2 < 1920) && true)) = true
  rw [decide_eq_true (log_of h.top hn), decide_eq_true (log_of h.bot hn)]; rfl
 nd := rfl
 sz := by
  have a := len_of h.top hn
  have b := len_of h.bot hn
  have q := tupleText_len_le [(PyData.int r.1).shown, (PyData.int r.2).shown]
  have e : (dR r).shown = tupleText [(PyData.int r.1).shown, (PyData.int r.2).shown] := rfl
  rw [e]
  simp only [List.map_cons, List.map_nil, List.sum_cons, List.sum_nil, List.length_cons, List.length_nil] at q
  have : sizeLine = 16777216 := by decide
  omega
 dp := by show max 0 (max 0 0) + 1 ≤ 16; decide
end B
namespace B
open PySem L2 PyProof.Rows
def dL (rs : List R) : PyData := .list (rs.map dR)
def iSeq (K : Fg) (tl : TE) : TI := fun σ H R => tl σ H fun x H1 => (∃ a, x = .ref a /\ (∃ xs, SqL K H1 a xs) /\ R (Itl K a) H1) ∨ (∃ a, x = .ref a /\ (∃ xs, SqT K H1 a xs) /\ R (Itt K a) H1)
theorem pi_seq {X : Cx} {tg l : Expr} {tl : TE} (hl : PE X l tl) : PI X tg l (iSeq X.K tl) := by
 intro pins s σ H R I h
 refine thn (hl pins s σ H _ I h) fun v s1 ⟨x, H1, I1, r1, q1⟩ => ?_
 rcases q1 with ⟨a, e, ⟨xs, hq⟩, q⟩ | ⟨a, e, ⟨xs, hq⟩, q⟩
 ·subst e; cases r1
  obtain ⟨its, rv, p, hz⟩ := I1.list hq
  refine wpAny_pyIter_list p.isList ?_
  refine ⟨s1.heap.objs.size, [s1.heap.objs.size], _, _, H1, rfl, I1.kept (t' := s1.toks) fun b o e => Heap.get?_push_of_some _ e, turn_list a _, ⟨_, Heap.get?_push_size _ rfl, rfl, rfl⟩, fun b hb => ?_, q⟩
  have e : b = s1.heap.objs.size := by simpa using hb
  subst e
  exact I1.fpOk (Nat.le_refl _) (I1.hok.fresh (Nat.le_refl _))
 ·subst e; cases r1
  obtain ⟨its, rv, p, hz⟩ := I1.tuple hq
  refine wpAny_pyIter_tuple (show s1.heap.IsTuple a its.toArray from p) ?_
  refine ⟨s1.heap.objs.size, [s1.heap.objs.size], _, _, H1, rfl, I1.kept (t' := s1.toks) fun b o e => Heap.get?_push_of_some _ e, turn_tuple a _, ⟨_, Heap.get?_push_size _ rfl, rfl, rfl⟩, fun b hb => ?_, q⟩
  have e : b = s1.heap.objs.size := by simpa using hb
  subst e
  exact I1.fpOk (Nat.le_refl _) (I1.hok.fresh (Nat.le_refl _))
end B
namespace B
structure Red (r : R) : Prop where
 pos : 0 < r.2
 cop : Int.gcd r.1 r.2 = 1
theorem mkR_red {a b : Int} (hb : 0 < b) : Red (mkR a b) :=
 ⟨Int.ediv_pos_of_pos_of_dvd hb (Int.le_of_lt (gcd_posR hb)) (Int.gcd_dvd_right a b), Int.gcd_ediv_gcd_ediv_gcd (by have := gcd_posR (a := a) hb; omega)⟩
theorem mkR_uniq {a b x y : Int} (hb : 0 < b) (hy : 0 < y) (g : Int.gcd x y = 1) (e : x * b = a * y) : mkR a b = (x, y) := by
 have h1 : Int.gcd (a * y) (b * y) = Int.gcd a b * y.natAbs := Int.gcd_mul_right a y b
 have h2 : Int.gcd (x * b) (y * b) = Int.gcd x y * b.natAbs := Int.gcd_mul_right x b y
 rw [e, Int.mul_comm y b, h1, g, Nat.one_mul] at h2
 have h3 : (Int.gcd a b : Int) * y = b := by
  have z : ((Int.gcd a b * y.natAbs : Nat) : Int) = (b.natAbs : Int) := congrArg _ h2
  rw [Int.natCast_mul, Int.natAbs_of_nonneg (by omega), Int.natAbs_of_nonneg (by omega)] at z
  exact z
 have gp := gcd_posR (a := a) hb
 have h4 : a = x * (Int.gcd a b : Int) := by
  have z : x * (Int.gcd a b : Int) * y = a * y := by rw [Int.mul_assoc, h3]; exact e
  exact (Int.eq_of_mul_eq_mul_right (by omega) z).symm
 unfold mkR
 generalize (Int.gcd a b : Int) = G at h3 h4 gp
 subst h4
 subst h3
 rw [Int.mul_ediv_cancel _ (by omega), Int.mul_ediv_cancel_left _ (by omega)]
theorem cop_left {a b c : Int} (h : Int.gcd a b = 1) (d : c ∣ a) : Int.gcd c b = 1 :=
 Int.gcd_eq_one_iff.mpr fun z h1 h2 => Int.gcd_eq_one_iff.mp h z (Int.dvd_trans h1 d) h2
theorem cop_right {a b c : Int} (h : Int.gcd a b = 1) (d : c ∣ b) : Int.gcd a c = 1 := by
 rw [Int.gcd_comm]
 exact cop_left (by rw [Int.gcd_comm]; exact h) d
theorem cop_mul {a b c : Int} (h : Int.gcd a b = 1) (k : Int.gcd a c = 1) : Int.gcd a (b * c) = 1 := by
 rw [Int.gcd_mul_right_right_of_gcd_eq_one h]; exact k
theorem cop_mulL {a b c : Int} (h : Int.gcd a c = 1) (k : Int.gcd b c = 1) : Int.gcd (a * b) c = 1 := by
 rw [Int.gcd_comm]
 exact cop_mul (by rw [Int.gcd_comm]; exact h) (by rw [Int.gcd_comm]; exact k)
theorem gcd_parts {a b : Int} (hb : 0 < b) : ∃ g x y : Int, (Int.gcd a b : Int) = g /\ 0 < g /\ a = g * x /\ b = g * y /\ Int.gcd x y = 1 := by
 have gp := gcd_posR (a := a) hb
 obtain ⟨x, hx⟩ := Int.gcd_dvd_left a b
 obtain ⟨y, hy⟩ := Int.gcd_dvd_right a b
 refine ⟨_, x, y, rfl, gp, hx, hy, ?_⟩
 have z := Int.gcd_ediv_gcd_ediv_gcd (i := a) (j := b) (by omega)
 have e1 : a / (Int.gcd a b : Int) = x := by
  conv => lhs; lhs; rw [hx]
  exact Int.mul_ediv_cancel_left _ (by omega)
 have e2 : b / (Int.gcd a b : Int) = y := by
  conv => lhs; lhs; rw [hy]
  exact Int.mul_ediv_cancel_left _ (by omega)
 rw [e1, e2] at z
 exact z
theorem pos_of {g y b : Int} (hb : 0 < b) (hg : 0 < g) (e : b = g * y) : 0 < y := by
 rcases Int.lt_or_le 0 y with h | h
 ·exact h
 ·have := Int.mul_le_mul_of_nonneg_left h (Int.le_of_lt hg)
  rw [Int.mul_zero] at this
  omega
def plusG (r q : R) : R :=
 let d : Int := (Int.gcd r.2 q.2 : Nat)
 let t := r.1 * (q.2 / d) + q.1 * (r.2 / d)
 let e : Int := (Int.gcd t d : Nat)
 (t / e, r.2 / d * (q.2 / e))
theorem plusG_eq {r q : R} (hr : Red r) (hq : Red q) : plusG r q = plusR r q := by
 obtain ⟨d, u, v, e0, dp, e1, e2, cuv⟩ := gcd_parts (a := r.2) hq.pos
 have up := pos_of hr.pos dp e1
 have vp := pos_of hq.pos dp e2
 obtain ⟨e, x, w, f0, ep, f1, f2, cxw⟩ := gcd_parts (a := r.1 * v + q.1 * u) dp
 have wp := pos_of dp ep f2
 have du : r.2 / d = u := by rw [e1]; exact Int.mul_ediv_cancel_left _ (by omega)
 have dv : q.2 / d = v := by rw [e2]; exact Int.mul_ediv_cancel_left _ (by omega)
 have te : (r.1 * v + q.1 * u) / e = x := by rw [f1]; exact Int.mul_ediv_cancel_left _ (by omega)
 have qe : q.2 / e = w * v := by rw [e2, f2, Int.mul_assoc]; exact Int.mul_ediv_cancel_left _ (by omega)
 have c1 : Int.gcd r.1 u = 1 := cop_right hr.cop ⟨d, by rw [e1, Int.mul_comm]⟩
 have c2 : Int.gcd q.1 v = 1 := cop_right hq.cop ⟨d, by rw [e2, Int.mul_comm]⟩
 have xd : x ∣ (r.1 * v + q.1 * u) := ⟨e, by rw [f1, Int.mul_comm]⟩
 have t1 : Int.gcd (r.1 * v + q.1 * u) u = 1 := by
  rw [Int.gcd_comm, Int.gcd_add_mul_right_right, Int.gcd_comm]
  exact cop_mulL c1 (by rw [Int.gcd_comm]; exact cuv)
 have t2 : Int.gcd (r.1 * v + q.1 * u) v = 1 := by
  rw [Int.add_comm, Int.gcd_comm, Int.gcd_add_mul_right_right, Int.gcd_comm]
  exact cop_mulL c2 cuv
 have cx : Int.gcd x (u * (w * v)) = 1 := cop_mul (cop_left t1 xd) (cop_mul cxw (cop_left t2 xd))
 have z : plusG r q = (x, u * (w * v)) := by
  unfold plusG
  simp only [e0, du, dv, f0, te, qe]
 rw [z]
 unfold plusR
 refine (mkR_uniq (Int.mul_pos hr.pos hq.pos) (Int.mul_pos up (Int.mul_pos wp vp)) cx ?_).symm
 have k : r.1 * q.2 + q.1 * r.2 = d * (e * x) := by
  rw [e1, e2, ← f1, Int.mul_add]
  rw [Int.mul_left_comm r.1 d v, Int.mul_left_comm q.1 d u]
 rw [k, e1, e2]
 have k2 : d * u * (d * v) = d * u * (e * w * v) := by rw [← f2]
 rw [k2]
 ac_rfl
def timesG (r q : R) : R :=
 let l : Int := (Int.gcd r.1 q.2 : Nat)
 let m : Int := (Int.gcd q.1 r.2 : Nat)
 (r.1 / l * (q.1 / m), r.2 / m * (q.2 / l))
theorem timesG_eq {r q : R} (hr : Red r) (hq : Red q) : timesG r q = timesR r q := by
 obtain ⟨l, a, b, e0, lp, e1, e2, cab⟩ := gcd_parts (a := r.1) hq.pos
 obtain ⟨m, c, d, f0, mp, f1, f2, ccd⟩ := gcd_parts (a := q.1) hr.pos
 have bp := pos_of hq.pos lp e2
 have dp := pos_of hr.pos mp f2
 have z : timesG r q = (a * c, d * b) := by
  unfold timesG
  simp only [e0, f0]
  rw [show r.1 / l = a by rw [e1]; exact Int.mul_ediv_cancel_left _ (by omega), show q.2 / l = b by rw [e2]; exact Int.mul_ediv_cancel_left _ (by omega),
   show q.1 / m = c by rw [f1]; exact Int.mul_ediv_cancel_left _ (by omega), show r.2 / m = d by rw [f2]; exact Int.mul_ediv_cancel_left _ (by omega)]
 have cad : Int.gcd a d = 1 := cop_left (cop_right hr.cop ⟨m, by rw [f2, Int.mul_comm]⟩) ⟨l, by rw [e1, Int.mul_comm]⟩
 have ccb : Int.gcd c b = 1 := cop_left (cop_right hq.cop ⟨l, by rw [e2, Int.mul_comm]⟩) ⟨m, by rw [f1, Int.mul_comm]⟩
 rw [z]
 unfold timesR
 refine (mkR_uniq (Int.mul_pos hr.pos hq.pos) (Int.mul_pos dp bp) (cop_mul (cop_mulL cad ccd) (cop_mulL cab ccb)) ?_).symm
 rw [e1, e2, f1, f2]
 ac_rfl
theorem plus_red {r q : R} (hr : Red r) (hq : Red q) : Red (plusR r q) := mkR_red (Int.mul_pos hr.pos hq.pos)
end B
namespace B
open PySem L2 PyProof.Rows
def CQuoN (_ j : Int) : Prop := j ≠ 0 /\ j.natAbs < 2 ^ 4000
theorem op_quoN {X : Cx} : OpR X (binaryOp .FloorDiv) (rI CQuoN fun i j => .int (i.fdiv j)) := opI fun i j _ _ _ _ _ hc q => by
 have h1 : j ≠ 0 := hc.1
 have h2 : j.natAbs < 2 ^ 4000 := hc.2
 refine floordiv_int h1 q (.inl (PyProof.noPylong_of_log2 ?_))
 exact Nat.lt_trans ((Nat.log2_lt (show j.natAbs ≠ 0 by omega)).mpr h2) (by decide)
def mkS (a b : Int) : R := if b < 0 then mkR (-a) (-b) else mkR a b
theorem mkS_pos {a b : Int} (h : 0 < b) : mkS a b = mkR a b := by unfold mkS; rw [if_neg (by omega)]
theorem fdiv_pos {a g : Int} (h : 0 < g) : a.fdiv g = a / g := Int.fdiv_eq_ediv_of_nonneg a (by omega)
theorem fdiv_negg {a g : Int} (h : 0 < g) : a.fdiv (-g) = -a / g := by
 have e : a.fdiv (-g) = (-a).fdiv g := by
  have := Int.neg_fdiv_neg (-a) g
  rw [Int.neg_neg] at this
  exact this
 rw [e, fdiv_pos h]
theorem gcd_neg2 (a b : Int) : Int.gcd (-a) (-b) = Int.gcd a b := by simp [Int.gcd]
theorem gcd_posN {a b : Int} (hb : b ≠ 0) : 0 < (Int.gcd a b : Int) := by
 have h : Int.gcd a b ≠ 0 := fun z => hb (Int.gcd_eq_zero_iff.mp z).2
 omega
theorem gcd_big {a b : Int} (hb : b ≠ 0) (hz : b.natAbs < 2 ^ 4000) : ((Int.gcd a b : Nat) : Int).natAbs < 2 ^ 4000 := by
 have z : Int.gcd a b ≤ b.natAbs := Nat.le_of_dvd (by omega) (by have := Int.gcd_dvd_right a b; exact Int.natAbs_dvd_natAbs.mpr this)
 have e : ((Int.gcd a b : Nat) : Int).natAbs = Int.gcd a b := Int.natAbs_natCast _
 omega
theorem mkS_pos1 {a b : Int} (hb : 0 < b) : (a.fdiv (Int.gcd a b : Int), b.fdiv (Int.gcd a b : Int)) = mkS a b := by
 rw [mkS_pos hb, fdiv_pos (gcd_posR hb), fdiv_pos (gcd_posR hb)]; rfl
theorem mkS_neg1 {a b : Int} (hb : b < 0) : (a.fdiv (-(Int.gcd a b : Int)), b.fdiv (-(Int.gcd a b : Int))) = mkS a b := by
 have g := gcd_posN (a := a) (b := b) (by omega)
 unfold mkS
 rw [if_pos hb, fdiv_negg g, fdiv_negg g]
 unfold mkR
 rw [gcd_neg2]
def minusR (r q : R) : R := mkR (r.1 * q.2 - q.1 * r.2) (r.2 * q.2)
def overR (r q : R) : R := mkS (r.1 * q.2) (r.2 * q.1)
structure Small (d : PyData) : Prop where
 sh : d.showable = true
 nd : d.hasDict = false
 sz : d.shown.length ≤ 5000
 dp : d.depth ≤ 8
theorem small_dR {r : R} {n : Nat} (h : Wf n r) (hn : n ≤ 1900) : Small (dR r) where
 sh := (dR_shows h hn).sh
 nd := rfl
 sz := by
  have a := len_of h.top hn
  have b := len_of h.bot hn
  have q := tupleText_len_le [(PyData.int r.1).shown, (PyData.int r.2).shown]
  have e : (dR r).shown = tupleText [(PyData.int r.1).shown, (PyData.int r.2).shown] := rfl
  rw [e]
  simp only [List.map_cons, List.map_nil, List.sum_cons, List.sum_nil, List.length_cons, List.length_nil] at q
  omega
 dp := by show max 0 (max 0 0) + 1 ≤ 8; decide
end B
namespace B
theorem mkR_cross {a b : Int} (hb : 0 < b) : (mkR a b).1 * b = a * (mkR a b).2 := by
 obtain ⟨g, x, y, _, gp, e1, e2, c⟩ := gcd_parts (a := a) hb
 have yp := pos_of hb gp e2
 have e : x * b = a * y := by rw [e1, e2]; ac_rfl
 rw [mkR_uniq hb yp c e]
 exact e
theorem minus_eq (r q : R) : plusR r (-q.1, q.2) = minusR r q := by
 unfold plusR minusR
 rw [Int.neg_mul, ← Int.sub_eq_add_neg]
end B
namespace B
open PySem PySem.Spec L2 PyProof.Rows
section
variable {prog : Program} {w : World} {A : Around} {E : VSP} {h : Heap} {g : Array GenState} {d : Drawn} {t : Nat} {os : OsState} {K : Fg}
variable {nm q : Str} {C N : Addr} {bs bm bmB : List Value} {hdct : Bool} {sn : List Str} {sub : List Value} {ab : Bool} {col : Option Bool} {dd : Option Addr} {k0 k1 k2 k3 k5 : Option Value} {bN newId initId : String}
theorem exc_typecall (F : ExcBaseFacts bN newId initId bmB) (T : OwnTail h bmB bm) {rest : List Value} {fI : Addr} {Q : Fin -> Shared -> Prop} (X : K.In h)
  (hC : h.get? C = some (excClassObj nm q C N bs bm hdct sn sub ab col dd k0 k1 k2 k3 k5 newId)) (hi : PySem.W.findIn K (.ref C) "__init__" = some (some (.ref fI))) (hf : PySem.W.typeIn K (.ref fI) = some (.type "function"))
  (hq : ∀ h' e, Heap.MadeExcOf h h' e (.ref C) rest -> wpAny (model prog w) A (call (.ref fI) (.ref e :: rest)) (fun r s' => r = .none /\ Q (.done (.ret (.ref e))) s') E ⟨h', g, d, t, os⟩) (hz : rest.length ≤ sizeLine) :
  wpAny (model prog w) A (Builtin.«type.__call__» ⟨.ref C :: rest, []⟩) Q E ⟨h, g, d, t, os⟩ := by
 repeat (first
  | with_reducible refine wpAny_loadPart_at hC ?_
  | with_reducible refine wpAny_madeBy_exc hC ?_
  | wp_step)
 refine codeAny_call_builtin_code (Code.quiet_builtin _ F.quiet)
  (wpAny_check_new_subT F T hC ?_)
 refine codeAny_exc_new_subT F T hC ?_ hz
 show wpAny _ _ _ _ _ _
 have up : ∀ b o, h.get? b = some o -> ((h.push { cls := .type "tuple", data := .seq rest.toArray }).push
   { cls := .ref C, data := .fields #[.ref h.objs.size, .none, .none, .none, .bool false, .none] }).get? b = some o := fun b o e =>
  Heap.get?_push_of_some _ (Heap.get?_push_of_some _ e)
 have hC₁ := up _ _ hC
 have X₁ := X.keeps up
 have hx : ((h.push { cls := .type "tuple", data := .seq rest.toArray }).push
   { cls := .ref C, data := .fields #[.ref h.objs.size, .none, .none, .none, .bool false, .none] }).get? (h.objs.size + 1) =
   some { cls := .ref C, data := .fields #[.ref h.objs.size, .none, .none, .none, .bool false, .none] } := by heap_get
 have hcC : (Value.ref C :: bm).contains (.ref C) = true := by simp
 unfold isInstance
 repeat (first
  | with_reducible refine wpAny_loadPart_at hx ?_
  | (with_reducible refine wpAny_isSubtype_exc hC₁ ?_
     rw [hcC])
  | wp_step)
 show wpAny _ _ (typeLookup (.ref C) _) _ _ _
 refine (PySem.W.looks_findIn X₁ hi) _ _ _ _ (fun _ _ e => e) ?_
 refine wpAny_holding (wpAny_bind ?_)
 refine (PySem.W.bind_fn X₁ _ hf) _ _ _ _ (fun _ _ e => e) ?_
 refine wpAny_bind (wpAny_mono (hq _ (h.objs.size + 1)
  ⟨up, Heap.get?_none_of_le (Nat.le_succ _), h.objs.size, hx, Heap.get?_none_of_le (Nat.le_refl _), ?_⟩) (fun r s' hr => ?_) fun _ _ y => y)
 ·exact Heap.get?_push_of_some _ (Heap.get?_push_at rfl rfl)
 ·obtain ⟨rfl, hQ⟩ := hr
  wp_walk
  exact hQ
theorem exc_call (F : ExcBaseFacts bN newId initId bmB) (T : OwnTail h bmB bm) {rest : List Value} {fI : Addr} {Q : VSP} (X : K.In h)
  (hC : h.get? C = some (excClassObj nm q C N bs bm hdct sn sub ab col dd k0 k1 k2 k3 k5 newId)) (hi : PySem.W.findIn K (.ref C) "__init__" = some (some (.ref fI))) (hf : PySem.W.typeIn K (.ref fI) = some (.type "function"))
  (hq : ∀ h' e, Heap.MadeExcOf h h' e (.ref C) rest -> wpAny (model prog w) (A.under (.builtin "type.__call__" ⟨.ref C :: rest, []⟩)) (call (.ref fI) (.ref e :: rest)) (fun r s' => r = .none /\ Q (.ref e) s') E ⟨h', g, d, t, os⟩) (hz : rest.length ≤ sizeLine) :
  wpAny (model prog w) A (call (.ref C) rest) Q E ⟨h, g, d, t, os⟩ := by
 have f1 := tc_lookup
 have f2 := tc_bind (.ref C)
 have hT : (⟨h, g, d, t, os⟩ : Shared).TypeIs (.ref C) "type" := ⟨_, hC, rfl⟩
 refine wpAny_call (codeAny_of_tree ?_)
 show wpAny _ _ (callAny (.ref C) _) _ _ _
 repeat (any_goals (first
  | assumption
  | with_reducible refine wpAny_loadPart_at hC ?_
  | wp_step))
 refine ⟨rfl, ?_⟩
 refine codeAny_call_builtin_at (Code.quiet_builtin _ (by decide +kernel)) entry_typeCall
  (wpAny_check_type_call_sub hC (exc_typecall F T X hC hi hf (fun h' e hm => ?_) hz))
 exact hq h' e hm
end
def vMro : List Value := [.type "ValueError", .type "Exception", .type "BaseException", .type "object"]
structure ClsX (K : Fg) (C : Addr) (bm : List Value) : Prop where
 ob : ∃ nm q N bs hdct sn sub ab col dd k0 k1 k2 k3 k5, K.lookup C = some (excClassObj nm q C N bs bm hdct sn sub ab col dd k0 k1 k2 k3 k5 "ValueError.__new__")
 tl : ∀ h : Heap, K.In h -> OwnTail h vMro bm
 hd : PySem.W.hasDictIn K C = true
 sa : PySem.W.findIn K (.ref C) "__setattr__" = some (some (.builtin "object.__setattr__"))
theorem lets_by {h : Heap} {tl : List Value} (T : OwnTail h vMro tl) (self : Value) : refuseLoop self "__setattr__" tl = pure () := by
 induction T with
 | base => exact PySem.F.store_ValueError.passes self
 | own _ _ _ _ ih => rw [refuseLoop_ref]; exact ih
theorem clsX_cls {K : Fg} {C : Addr} {bm : List Value} (c : ClsX K C bm) : ∃ cd, PySem.W.clsIn K C = some cd /\ cd.mro = .ref C :: bm := by
 obtain ⟨nm, q, N, bs, hdct, sn, sub, ab, col, dd, k0, k1, k2, k3, k5, lk⟩ := c.ob
 unfold PySem.W.clsIn
 rw [lk]
 exact ⟨_, rfl, rfl⟩
section
variable {prog : Program} {w : World} {A : Around} {s : Shared} {K : Fg} {x C : Addr} {R : Result -> Shared -> Prop}
theorem store_err {ox : Obj} {od : Option Obj} {name : Str} {tk : Tok} {v : Value} {bm : List Value} (X : K.In s.heap) (I : PySem.W.InstAt s.heap x ox C od) (c : ClsX K C bm) (n : NoAttr K C name)
  (h : ∀ b, wpAny (model prog w) A.in1 (Builtin.ObjectAttr.storeInOwnDict (.ref x) (.ref C) (.str name tk) name v b) (fun fin s' => match fin with
   | .done f => R (.ok f) s'
   | .again c' => c'.quiet = true /\ codeAny (model prog w) A c' R s') (fun e s' => R (.error e) s') s) :
  codeAny (model prog w) A (.call (.builtin "object.__setattr__") ⟨[.ref x, .str name tk, v], []⟩) R s := by
 have sf := PySem.F.store_object
 obtain ⟨cd, hc, hm⟩ := clsX_cls c
 have T := c.tl _ X
 have hob : (Value.ref C :: bm).contains (.type "object") = true := by
  rw [List.contains_cons, T.hasType (X := "object") (b := true) (by decide +kernel), Bool.or_true]
 have isO : PySem.W.Looks (model prog w) s.heap (isInstance (.ref x) (.type "object")) true := by
  refine I.type.andThen (PySem.W.looks_mroIn X ?_)
  unfold PySem.W.mroIn
  rw [hc]
  show (if cd.mro.isEmpty = true then none else some (cd.mro.contains (.type "object"))) = some true
  rw [hm, hob]; rfl
 have ms : PySem.W.Looks (model prog w) s.heap (mroOf (.ref C)) (.ref C :: bm) := by
  rw [← hm]; exact (PySem.W.looks_clsIn X hc).andThen .now
 refine codeAny_call_builtin sf.slot.plain sf.entry (PySem.W.check_slot (i := "object.__setattr__") (owner := "object") (n := "__setattr__") sf.kind sf.split isO (sf.args _ _ _) ?_)
 rw [PySem.W.osa_eq, refuse_eq]
 refine wpAny_bind (wpAny_bind (I.type.here (wpAny_bind (ms.here ?_))))
 rw [refuseLoop_ref, lets_by T]
 refine wpAny_pure (wpAny_bind (I.type.here (wpAny_bind ((PySem.W.looks_findIn X n).here (wpAny_bind ?_)))))
 exact PySem.W.Looks.here (r := none) .now (h _)
end
def ExcO (a C : Addr) (dx : Option Addr) : Heap -> Prop := fun h => ∃ t : Addr, h.get? a = some { cls := .ref C, dict := dx, data := .fields #[.ref t, .none, .none, .none, .bool false, .none] }
def exO (a C : Addr) (dx : Option Addr) : HO := .ext (ExcO a C dx)
theorem exO_ok {P : Program} {w : World} {H : Hp} {h : Heap} {a C : Addr} {dx : Option Addr} (e : ExcO a C dx h) : ObjOk P w H h a (exO a C dx) :=
 ⟨e, let ⟨_, q⟩ := e; ⟨_, q⟩, fun _ _ ⟨t, q⟩ k => ⟨t, k _ q⟩⟩
def del (H : Hp) (a : Addr) : Hp := fun b => if b = a then none else H b
theorem del_same {H : Hp} {a : Addr} : del H a a = none := by unfold del; rw [if_pos rfl]
theorem del_ne {H : Hp} {a b : Addr} (h : b ≠ a) : del H a b = H b := by unfold del; rw [if_neg h]
section
variable {X : Cx} {pins : PLs} {σ : L2.St} {H : Hp} {s : Shared} {a C : Addr} {dx : Option Addr}
theorem Inv.forget {φ : Heap -> Prop} (I : L2.Inv X pins σ H s) (e : H a = some (.ext φ)) (new : X.s₀.heap.get? a = none) : L2.Inv X pins σ (del H a) s := by
 have none_of : ∀ b, H b = none -> del H a b = none := fun b h => by
  by_cases z : b = a
  ·rw [z]; exact del_same
  ·rw [del_ne z]; exact h
 refine ⟨I.ok, I.os, I.bare, ⟨I.base.keep, I.base.slot, fun b o q n hx => none_of b (I.base.free b o q n hx), I.base.there, fun b xs q => ?_, fun b o u q => ?_, fun b ps q => ?_⟩, I.loc, I.cell, none_of _ I.free, fun x c q => none_of _ (I.freeC x c q), fun p hp => ?_, fun b o q => ?_, I.len⟩
 ·have z := I.base.tups b xs q
  rw [del_ne (fun k => by rw [k, e] at z; cases z)]; exact z
 ·have z := I.base.frzs b o u q
  rw [del_ne (fun k => by rw [k, e] at z; cases z)]; exact z
 ·obtain ⟨m, z⟩ := I.base.tbls b ps q
  exact ⟨m, by rw [del_ne (fun k => by rw [k, e] at z; cases z)]; exact z⟩
 ·obtain ⟨p1, p2, p3⟩ := I.pin p hp
  exact ⟨p1, none_of _ p2, p3⟩
 ·have nb : b ≠ a := fun z => by rw [z, del_same] at q; cases q
  rw [del_ne nb] at q
  refine (I.hok b o q).stay (fun c u _ z => z) (fun c z => ?_) (fun c xs z => ?_)
  ·rw [del_ne (fun k => by rw [k, e] at z; cases z)]; exact z
  ·rw [del_ne (fun k => by rw [k, e] at z; cases z)]; exact z
end
theorem ObjOk.get {P : Program} {w : World} {H : Hp} {h : Heap} {a : Addr} {o : HO} (x : L2.ObjOk P w H h a o) : ∃ u, h.get? a = some u := by
 cases o with
 | lst xs => obtain ⟨_, _, _, _, e⟩ := x; exact ⟨_, e⟩
 | tup xs => obtain ⟨_, _, _, o, e, _⟩ := x; exact ⟨_, e⟩
 | dK kvs => obtain ⟨_, _, _, _, o, _, _, e, _⟩ := x; exact ⟨_, e⟩
 | dT kvs => obtain ⟨_, _, _, _, o, _, _, e, _⟩ := x; exact ⟨_, e⟩
 | set S n => obtain ⟨o, _, _, _, e, _⟩ := x; exact ⟨_, e⟩
 | ins C dx fs => obtain ⟨_, _, _, e, _⟩ := x; exact ⟨_, e⟩
 | own y => exact x
 | xd fs => obtain ⟨_, ⟨_, _, _, e, _⟩, _⟩ := x; exact ⟨_, e⟩
 | rng lo hi => obtain ⟨_, _, _, e⟩ := x; exact ⟨_, e⟩
 | frz ob u => obtain ⟨e, _⟩ := x; exact ⟨_, e⟩
 | tbl ps => exact ⟨_, show h.get? a = some _ from x⟩
 | met f y => exact ⟨_, show h.get? a = some _ from x⟩
 | ext φ => exact x.2.1
def Trc (h : Heap) (H : Hp) (x C T : Addr) (a0 : Value) : Prop :=
 ∃ oe vs oT ts, h.get? x = some oe /\ oe.cls = .ref C /\ vs[0]? = some a0 /\ oe.data = .fields vs /\ vs[1]? = some (.ref T) /\ H T = none /\ T ≠ x /\ h.get? T = some oT /\ oT.data = .fields ts /\ ts[3]? = some .none
def CXR (P : Program) (w : World) : CXT := fun outer H s E e s' => ∃ (x C T : Addr) (a0 : Value) (H' : Hp), e = .ref x /\ s'.os = s.os /\ AllBare s'.gens /\ Un (frs outer) [] H H' s.heap s'.heap /\ HOk P w H' s'.heap /\ s.heap.get? x = none /\ s.heap.get? T = none /\ H' x = none ∧
 Trc s'.heap H' x C T a0 /\ E (.ref C) none H'
structure NewAt (X : Cx) (pins : PLs) (a : Addr) : Prop where
 st : X.s₀.heap.get? a = none
 lo : a ≠ X.env.locals
 ce : ∀ x c, X.env.cells.lookup x = some c -> c ≠ a
 pi : ∀ p ∈ X.pn ++ pins, p.1 ≠ a
 fr : a ∉ frs X.stack
section
variable {X : Cx} {pins : PLs} {σ : L2.St} {H H' : Hp} {s : Shared} {a : Addr}
theorem Inv.newAt (I : L2.Inv X pins σ H s) (hex : X.ex = []) (h : s.heap.get? a = none) : NewAt X pins a where
 st := by
  cases e : X.s₀.heap.get? a with
  | none => rfl
  | some o =>
   obtain ⟨o', q⟩ := I.base.there a o e (by rw [hex]; simp)
   rw [h] at q; cases q
 lo := fun z => by
  obtain ⟨m, ⟨o, _, _, q, _⟩, _⟩ := I.loc
  rw [← z, h] at q; cases q
 ce := fun x c e z => by
  obtain ⟨v, o, q, _⟩ := I.cell x c e
  rw [z, h] at q; cases q
 pi := fun p hp z => by
  obtain ⟨q, _⟩ := I.pin p hp
  rw [z, h] at q; cases q
 fr := fun z => by
  obtain ⟨_, o, q, _⟩ := I.stack.mem z
  rw [h] at q; cases q
end
section
variable {X : Cx} {pins : PLs} {σ : L2.St} {H : Hp} {s : Shared} {a : Addr} {o : HO}
theorem Inv.adopt (I : L2.Inv X pins σ H s) (na : NewAt X pins a) (ha : H a = none) (hex : X.ex = []) (new : L2.ObjOk X.prog X.w (upd H a o) s.heap a o) : L2.Inv X pins σ (upd H a o) s := by
 have keep : ∀ b u, H b = some u -> upd H a o b = some u := fun b u q => by rw [upd_ne (ne_of_none q ha)]; exact q
 have nn : ∀ b, b ≠ a -> H b = none -> upd H a o b = none := fun b nb q => by rw [upd_ne nb]; exact q
 refine ⟨I.ok, I.os, I.bare, ⟨I.base.keep, I.base.slot, fun b u q n hx => nn b (fun z => by rw [z, na.st] at q; cases q) (I.base.free b u q n hx), I.base.there, fun b xs q => keep _ _ (I.base.tups b xs q), fun b u v q => keep _ _ (I.base.frzs b u v q), fun b ps q => ?_⟩, I.loc, I.cell, nn _ na.lo.symm I.free, fun x c q => nn _ (na.ce x c q) (I.freeC x c q), fun p hp => ?_, fun b u q => ?_, I.len⟩
 ·obtain ⟨m, z⟩ := I.base.tbls b ps q
  exact ⟨m, keep _ _ z⟩
 ·obtain ⟨p1, p2, p3⟩ := I.pin p hp
  exact ⟨p1, nn _ (na.pi p hp) p2, p3⟩
 ·by_cases z : b = a
  ·subst z
   rw [upd_same] at q; cases q
   exact new
  ·rw [upd_ne z] at q
   exact (I.hok b u q).stay (fun c v _ w => w) (fun c w => keep _ _ w) (fun c xs w => keep _ _ w)
theorem Inv.none_of (I : L2.Inv X pins σ H s) (h : s.heap.get? a = none) : H a = none := by
 cases q : H a with
 | none => rfl
 | some o => obtain ⟨u, z⟩ := ObjOk.get (I.hok a o q); rw [h] at z; cases z
end
structure XC (K : Fg) (C f : Addr) (bm : List Value) : Prop where
 ob : ∃ nm q N bs hdct sn sub ab col dd k0 k1 k2 k3 k5, K.lookup C = some (excClassObj nm q C N bs bm hdct sn sub ab col dd k0 k1 k2 k3 k5 "ValueError.__new__")
 tl : ∀ h : Heap, K.In h -> OwnTail h vMro bm
 init : PySem.W.findIn K (.ref C) "__init__" = some (some (.ref f))
 fn : PySem.W.typeIn K (.ref f) = some (.type "function")
 kp : PySem.W.keepIn K (.ref C) = true
 cl : ClsX K C bm
section
variable {X : Cx} {k : Nat} {f C : Addr} {fd : FuncData} {ps : List Str} {sp : Sp} {bm : List Value}
theorem run_exc {pins : PLs} {σ : L2.St} {H : Hp} {s : Shared} {Q : Addr -> Hp -> Prop} {us : List Value} {vs : List V} {E' : VSP} (M : XC X.K C f bm) (hex : X.ex = []) (F : FnOk X.prog X.w X.K X.mg X.base CX0 k f fd ps sp) (hr : Room (k + 1) X.A) (hb : Binds X.K fd ps [])
  (I : L2.Inv X pins σ H s) (r : Vals vs us) (hz : us.length ≤ sizeLine) (h : ∀ a, H a = none -> sp (.ref a :: vs) (upd H a (exO a C none)) (fun v H2 => v = .non /\ Q a H2) E0) :
  wpAny (model X.prog X.w) X.A (call (.ref C) us) (fun v s' => ∃ a H', v = .ref a /\ NewAt X pins a /\ L2.Inv X pins σ H' s' /\ Q a H') E' s := by
 obtain ⟨nm, q, N, bs, hdct, sn, sub, ab, col, dd, k0, k1, k2, k3, k5, lk⟩ := M.ob
 obtain ⟨hp, g, d, t, os⟩ := s
 refine exc_call PySem.F.excBase_ValueError (M.tl hp I.kIn) I.kIn (I.kIn _ _ lk) M.init M.fn (fun h' e hm => ?_) hz
 have na := B.Inv.newAt I hex hm.new
 have he := B.Inv.none_of I hm.new
 obtain ⟨tt, ho, _⟩ := hm.there
 have I1 : L2.Inv X pins σ H ⟨h', g, d, t, os⟩ := I.kept (t' := t) hm.keeps
 have I2 : L2.Inv X pins σ (upd H e (exO e C none)) ⟨h', g, d, t, os⟩ := B.Inv.adopt I1 na he hex (exO_ok ⟨tt, ho⟩)
 have hq := h e he
 have r2 : Vals (V.ref e :: vs) (Value.ref e :: us) := .cons rfl r
 have hl : (Value.ref e :: us).length = ps.length := by
  have z := r2.length
  rw [F.len _ _ _ _ hq] at z
  exact z.symm
 have hbd := hb ⟨h', g, d, t, os⟩ (Value.ref e :: us) I2.kIn (by rw [List.append_nil]; exact hl)
 rw [List.append_nil] at hbd
 refine wpAny_call (codeAny_mono (F.run _ X.stack _ _ ⟨Value.ref e :: us, []⟩ (Value.ref e :: us) _ _ E0 (hr.make C us []) (I2.env0.make C us []) hbd r2 hq) fun r s' hq' => ?_)
 cases r with
 | error e => exact False.elim hq'
 | ok fl =>
  cases fl with
  | ret u =>
   obtain ⟨v, H', I3, rv, ev, q3⟩ := I2.after hq'
   subst ev
   exact ⟨rv, e, H', rfl, na, I3, q3⟩
  | next => exact False.elim hq'
  | brk => exact False.elim hq'
  | cont => exact False.elim hq'
def Takes (X : Cx) (E : XK) : Prop := ∀ (pins : PLs) (σ : L2.St) (H : Hp) (s : Shared) (a C : Addr) (oe : Obj) (vs : Array Value) (a0 : Value), L2.Inv X pins σ H s -> H a = none -> NewAt X pins a -> s.heap.get? a = some oe -> oe.data = .fields vs →
 vs[0]? = some a0 -> vs[1]? = some .none -> oe.cls = .ref C -> E (.ref C) none H -> X.xe (.ref a) s
theorem raise_own {M : Model} {A : Around} {E : VSP} {env : Env} {nm q : Str} {N : Addr} {bs : List Value} {hdct : Bool} {sn : List Str} {sub : List Value} {ab : Bool} {col : Option Bool} {dd : Option Addr} {k0 k1 k2 k3 k5 : Option Value} {newId : String}
  {s : Shared} {x : Sem Value} {Q : Flow -> Shared -> Prop} (hbase : bm.contains (.type "BaseException") = true) (hh : A.handled = none)
  (h : wpAny M A x (fun v s₁ => ∃ e t dx, v = .ref e /\ s₁.heap.get? C = some (excClassObj nm q C N bs bm hdct sn sub ab col dd k0 k1 k2 k3 k5 newId) ∧
   s₁.heap.get? e = some { cls := .ref C, dict := dx, data := .fields #[.ref t, .none, .none, .none, .bool false, .none] } /\ E (.ref e) s₁) E s) :
  wpAny M A (raiseStmt env (some x) none) Q E s := by
 have hcB : (Value.ref C :: bm).contains (.type "BaseException") = true := by rw [List.contains_cons, hbase, Bool.or_true]
 unfold raiseStmt
 refine wpAny_bind (wpAny_mono h (fun v s₁ h₁ => ?_) fun _ _ y => y)
 obtain ⟨e, t, dx, rfl, hC, he, hE⟩ := h₁
 obtain ⟨hp, g, d, tk, os⟩ := s₁
 repeat (first
  | with_reducible refine wpAny_loadPart_at he ?_
  | with_reducible refine wpAny_loadPart_at hC ?_
  | (with_reducible refine wpAny_isSubtype_exc hC ?_
     rw [hcB])
  | wp_step)
 exact wpAny_raiseNew_none hh hE
def tRaise (C : Addr) (sp : Sp) (E : XK) (t : TA) : TS := fun _ σ H => t σ H fun vs H1 => vs.length ≤ sizeLine /\ ∀ a, H1 a = none -> sp (.ref a :: vs) (upd H1 a (exO a C none)) (fun v H2 => v = .non /\ (∃ dx, H2 a = some (exO a C dx)) /\ E (.ref C) none (del H2 a)) E0
end
section
variable {X : Cx} {pins : PLs} {σ : L2.St} {H : Hp} {s : Shared} {a C T : Addr} {a0 : Value}
end
def hid (N : List Str) : L2.St := List.replicate N.length none
theorem hid_weak {X : Cx} {pins : PLs} {σ : L2.St} {H : Hp} {s : Shared} (I : L2.Inv X pins σ H s) : L2.Inv X pins (hid X.N) H s :=
 I.weak (by rw [I.len]; exact List.length_replicate) fun i v q => by
  unfold hid at q
  rw [List.getElem?_replicate] at q
  split at q <;> cases q
def Fly (X : Cx) (pins : PLs) (R : Addr -> Hp -> Prop) : VSP := fun e s => ∃ (x C T : Addr) (a0 : Value) (H : Hp), e = .ref x /\ L2.Inv X pins (hid X.N) H s /\ H x = none /\ NewAt X pins x /\ NewAt X pins T /\ Trc s.heap H x C T a0 /\ R C H
def inTry (X : Cx) (pins : PLs) (R : Addr -> Hp -> Prop) : Cx := { X with pn := X.pn ++ pins, xe := Fly X pins R }
def inExc (X : Cx) (e : Addr) : Cx := { X with A := X.A.mark (some (.ref e)), calm := false, xe := fun _ _ => False }
section
variable {X : Cx} {pins pins' : PLs} {σ : L2.St} {H : Hp} {s : Shared} {R : Addr -> Hp -> Prop} {e : Addr}
theorem toExc (I : L2.Inv X pins σ H s) : L2.Inv (inExc X e) pins σ H s :=
 ⟨⟨I.ok.mod, I.ok.kind, I.ok.glob, I.ok.blt, I.ok.above, I.ok.inj, I.ok.has, I.ok.cab, (fun z => nomatch z), I.ok.frames, I.ok.stk, I.ok.exf, I.ok.bs, I.ok.bsz, I.ok.noex, I.ok.exfs, I.ok.funs, I.ok.frf⟩, I.os, I.bare, I.base, I.loc, I.cell, I.free, I.freeC, I.pin, I.hok, I.len⟩
theorem ofExc (ok : X.Ok) (I : L2.Inv (inExc X e) pins σ H s) : L2.Inv X pins σ H s :=
 ⟨ok, I.os, I.bare, I.base, I.loc, I.cell, I.free, I.freeC, I.pin, I.hok, I.len⟩
end
def tTry (N : List Str) (R : Addr -> Hp -> Prop) (Ok : Addr -> Prop) (tb : TS) (th : TS) : TS := fun D σ H => tb D σ H /\ ∀ C H', R C H' -> Ok C /\ th D (hid N) H'
section
variable {X : Cx} {R : Addr -> Hp -> Prop} {body : List Stmt} {b₀ : Stmt} {suite : List Stmt} {x : Str} {p hpos pos : Pos} {u : Value} {tb th : TS}
end
section
variable {X : Cx} {o value : Expr} {f : Str} {ta tv : TE} {pos' pos : Pos}
def sFldX (K : Fg) (ta tv : TE) (f : Str) : TS := fun D σ H => tv σ H fun _ H1 => ta σ H1 fun x H2 => ∃ a C bm, x = .ref a /\ H2 a = some (exO a C none) /\ ClsX K C bm /\ NoAttr K C f /\ ∀ d, D.nx σ (upd H2 a (exO a C (some d)))
end
def EofR (R : Addr -> Hp -> Prop) : XK := fun v _ H => ∃ C, v = .ref C /\ R C H
theorem vm_has (a : Addr) : (Value.ref a :: vMro).contains (.type "BaseException") = true := by rw [List.contains_cons, (by decide +kernel : vMro.contains (.type "BaseException") = true), Bool.or_true]
def strKeysB (es : Array DictEntry) : Bool := es.toList.all fun e => match e.key with
 | .str _ _ => true
 | _ => false
theorem strKeys_of {es : Array DictEntry} (h : strKeysB es = true) : StrKeys es := fun e he => by
 have z := List.all_eq_true.mp h e (Array.mem_toList_iff.mpr he)
 revert z
 cases e.key <;> intro z <;> first | exact ⟨_, _, rfl⟩ | (cases z)
theorem xc_mk {K : Fg} {C f B0 NB : Addr} {nm q nmB qB : Str} {N : Addr} {bs bsB : List Value} {hdct hdctB : Bool} {sn snB : List Str} {sub subB : List Value} {ab abB : Bool} {col colB : Option Bool} {dd ddB : Option Addr} {k0 k1 k2 k3 k5 j0 j1 j2 j3 j5 : Option Value}
  {oc : Value} {od : Option Addr} {es : Array DictEntry} {n : Nat} {sl : Array (Option Value)}
  (lc : K.lookup C = some (excClassObj nm q C N bs (.ref B0 :: [.type "ValueError", .type "Exception", .type "BaseException", .type "object"]) hdct sn sub ab col dd k0 k1 k2 k3 k5 "ValueError.__new__"))
  (lb : K.lookup B0 = some (excClassObj nmB qB B0 NB bsB [.type "ValueError", .type "Exception", .type "BaseException", .type "object"] hdctB snB subB abB colB ddB j0 j1 j2 j3 j5 "ValueError.__new__"))
  (ln : K.lookup NB = some ⟨oc, od, .dict es n, sl⟩) (hs : strKeysB es = true) (hn : (nsFind es "__init__").isNone = true)
  (fi : PySem.W.findIn K (.ref C) "__init__" = some (some (.ref f))) (ti : PySem.W.typeIn K (.ref f) = some (.type "function")) (kc : PySem.W.keepIn K (.ref C) = true) (hh : PySem.W.hasDictIn K C = true) (sa : PySem.W.findIn K (.ref C) "__setattr__" = some (some (.builtin "object.__setattr__"))) : XC K C f (.ref B0 :: vMro) :=
 have ob : ∃ nm q N bs hdct sn sub ab col dd k0 k1 k2 k3 k5, K.lookup C = some (excClassObj nm q C N bs (.ref B0 :: vMro) hdct sn sub ab col dd k0 k1 k2 k3 k5 "ValueError.__new__") := ⟨_, _, _, _, _, _, _, _, _, _, _, _, _, _, _, lc⟩
 have tl : ∀ h : Heap, K.In h -> OwnTail h vMro (.ref B0 :: vMro) := fun h X => .own (X _ _ lb) ⟨_, es, n, X _ _ ln, rfl, strKeys_of hs, fun _ => rfl⟩ (Option.isNone_iff_eq_none.mp hn) .base
 ⟨ob, tl, fi, ti, kc, ob, tl, hh, sa⟩
structure GetX (K : Fg) (C : Addr) : Prop where
 ga : PySem.W.findIn K (.ref C) "__getattribute__" = some (some (.builtin "BaseException.__getattribute__"))
 gn : PySem.W.findIn K (.ref C) "__getattr__" = some none
 cl : PySem.W.findIn K (.ref C) "__class__" = some (some (.builtin "object.__class__"))
 cg : PySem.W.specialIn K (.builtin "object.__class__") "__get__" = some (some (.builtin "getset_descriptor.__get__"))
 ct : PySem.W.takesIn K (.builtin "object.__class__") = some true
section
variable {prog : Program} {w : World} {A : Around} {E : VSP} {s : Shared} {K : Fg} {x C : Addr} {ox : Obj} {odo : Option Obj} {bm : List Value} {name : Str} {tk : Tok} {R : Result -> Shared -> Prop}
theorem err_open {fill ex : Bool} {Q : VSP} (X : K.In s.heap) (I : PySem.W.InstAt s.heap x ox C odo) (g : GetX K C)
  (h : codeAny (model prog w) A (.call (.builtin "BaseException.__getattribute__") ⟨[.ref x, .str name tk], []⟩) (fun r s' => ∃ v, r = .ok (.ret v) /\ PySem.W.handedIn v = true /\ Q v s') s) :
  wpAny (model prog w) A (getAttrBy (.ref x) (.str name tk) fill ex) Q E s := by
 have FB := PySem.F.attrBase_ValueError
 unfold getAttrBy
 refine wpAny_holding (wpAny_bind (I.type.here (wpAny_bind ((PySem.W.looks_findIn X g.ga).here ?_))))
 have e2 : (Value.builtin "BaseException.__getattribute__" == Value.builtin "object.__getattribute__") = false := by decide +kernel
 dsimp only
 rw [e2, Bool.and_false, if_neg Bool.false_ne_true]
 unfold getAttrByItsOwn hookBefore
 rw [if_pos (show onTheHeap (Value.ref C) = true from rfl)]
 refine wpAny_bind ((PySem.W.looks_findIn X g.gn).here (wpAny_bind (wpAny_attempt (wpAny_holding ?_))))
 unfold callGetattribute
 rw [if_neg (by cases ex <;> decide)]
 unfold boundAndCalled
 rw [FB.ga.bind (.ref x)]
 refine wpAny_bind (wpAny_pure (wpAny_call (codeAny_mono h fun r s' hq => ?_)))
 obtain ⟨v, rfl, hh, q⟩ := hq
 exact PySem.W.handed_on hh q
theorem isB {X : K.In s.heap} (I : PySem.W.InstAt s.heap x ox C odo) (c : ClsX K C bm) (T : String) (hT : vMro.contains (.type T) = true) : PySem.W.Looks (model prog w) s.heap (isInstance (.ref x) (.type T)) true := by
 obtain ⟨cd, hc, hm⟩ := clsX_cls c
 have hob : (Value.ref C :: bm).contains (.type T) = true := by
  rw [List.contains_cons, (c.tl _ X).hasType (X := T) (b := true) hT, Bool.or_true]
 refine I.type.andThen (PySem.W.looks_mroIn X ?_)
 unfold PySem.W.mroIn
 rw [hc]
 show (if cd.mro.isEmpty = true then none else some (cd.mro.contains (.type T))) = some true
 rw [hm, hob]; rfl
theorem err_body (X : K.In s.heap) (I : PySem.W.InstAt s.heap x ox C odo) (c : ClsX K C bm)
  (h : wpAny (model prog w) A.in1 (Builtin.«object.__getattribute__» ⟨[.ref x, .str name tk], []⟩) (fun fin s' => match fin with
   | .done f => R (.ok f) s'
   | .again c' => c'.quiet = true /\ codeAny (model prog w) A c' R s') (fun e s' => R (.error e) s') s) :
  codeAny (model prog w) A (.call (.builtin "BaseException.__getattribute__") ⟨[.ref x, .str name tk], []⟩) R s := by
 have FB := PySem.F.attrBase_ValueError
 exact codeAny_call_builtin FB.ga.plain PySem.F.entry_bexc_ga (PySem.W.check_slot (i := "BaseException.__getattribute__") (owner := "BaseException") (n := "__getattribute__") (by decide +kernel) (by decide +kernel) (isB (X := X) I c "BaseException" (by decide +kernel)) (PySem.F.args_bexc_ga _ _) h)
theorem err_val {v : Value} (X : K.In s.heap) (I : PySem.W.InstAt s.heap x ox C odo) (c : ClsX K C bm) (hf : PySem.W.findObj K C odo name = some (.value v)) (h : R (.ok (.ret v)) s) :
  codeAny (model prog w) A (.call (.builtin "BaseException.__getattribute__") ⟨[.ref x, .str name tk], []⟩) R s := by
 refine err_body X I c ?_
 unfold Builtin.«object.__getattribute__»
 have L := PySem.W.looks_find (M := model prog w) X I hf
 refine wpAny_bind (wpAny_pure (wpAny_bind (wpAny_pure (wpAny_bind (I.type.here (wpAny_bind (L.here ?_)))))))
 exact wpAny_pure h
theorem err_class {od : Obj} (X : K.In s.heap) (I : PySem.W.InstAt s.heap x ox C (some od)) (c : ClsX K C bm) (g : GetX K C) (h : R (.ok (.ret (.ref C))) s) :
  codeAny (model prog w) A (.call (.builtin "BaseException.__getattribute__") ⟨[.ref x, .str "__class__" tk], []⟩) R s := by
 refine err_body X I c ?_
 unfold Builtin.«object.__getattribute__»
 obtain ⟨cd, hc, hm⟩ := clsX_cls c
 have hf := PySem.W.findObj_data (K := K) (C := C) (od := od) (name := "__class__") (by rw [hc]; rfl) g.cl g.cg g.ct
 have L := PySem.W.looks_find (M := model prog w) X I hf
 have mo : PySem.W.mroIn K C (.type "object") = some true := by
  unfold PySem.W.mroIn
  rw [hc]
  show (if cd.mro.isEmpty = true then none else some (cd.mro.contains (.type "object"))) = some true
  rw [hm, List.contains_cons, (c.tl _ X).hasType (X := "object") (b := true) (by decide +kernel), Bool.or_true]; rfl
 refine wpAny_bind (wpAny_pure (wpAny_bind (wpAny_pure (wpAny_bind (I.type.here (wpAny_bind (L.here ?_)))))))
 show wpAny _ _ (holding [Value.builtin "object.__class__"] (call (.builtin "getset_descriptor.__get__") [.builtin "object.__class__", .ref x, .ref C]) >>= ret) _ _ _
 exact wpAny_bind (wpAny_holding (wpAny_call (PySem.W.class_get X I mo (wpAny_pure h))))
end
section
variable {K : Fg} {x C : Addr} {ox od : Obj} {bm : List Value}
theorem kitx_err (c : ClsX K C bm) (g : GetX K C) : PySem.W.KitX K (.ref x) (.ref C) (fun h => PySem.W.InstAt h x ox C (some od)) where
 ty := fun _ _ _ I => I.type
 it := fun _ _ X _ => by
  obtain ⟨nm, q, N, bs, hdct, sn, sub, ab, col, dd, k0, k1, k2, k3, k5, lk⟩ := c.ob
  intro A' Q' E' s' k q
  unfold isType loadHead
  exact wpAny_bind (wpAny_loadPart (k _ _ (X _ _ lk)) (wpAny_pure q))
 ne := fun h tp dd its n sl X htp => by
  obtain ⟨nm, q, N, bs, hdct, sn, sub, ab, col, dd', k0, k1, k2, k3, k5, lk⟩ := c.ob
  refine Bool.eq_false_iff.mpr fun z => ?_
  have e : C = tp := Value.ref.inj (beq_iff_eq.mp z)
  subst e
  have z2 := congrArg Obj.cls (Option.some.inj ((X _ _ lk).symm.trans htp))
  exact absurd (show Value.type "type" = Value.type "tuple" from z2) (by decide +kernel)
 ca := fun {prog w A E Q s} X I k => by
  unfold getAttr? getAttrBy?
  refine wpAny_bind (wpAny_mkText (wpAny_bind (wpAny_attempt ?_)))
  exact err_open (s := { s with toks := s.toks + 1 }) X I g (err_class (s := { s with toks := s.toks + 1 }) X I c g ⟨_, rfl, rfl, wpAny_pure k⟩)
end
structure Kept (S ch : List Addr) (h h' : Heap) : Prop where
 same : ∀ b o, b ∉ S -> b ∉ ch -> h.get? b = some o -> h'.get? b = some o
 slot : ∀ b o, b ∉ ch -> h.get? b = some o -> ∃ sl, h'.get? b = some { o with slots := sl }
theorem Kept.trans {S c1 c2 : List Addr} {h h1 h2 : Heap} (a : Kept S c1 h h1) (b : Kept S c2 h1 h2) : Kept S (c1 ++ c2) h h2 where
 same := fun x o n1 n2 q => b.same x o n1 (fun z => n2 (List.mem_append_right _ z)) (a.same x o n1 (fun z => n2 (List.mem_append_left _ z)) q)
 slot := fun x o n2 q => by
  obtain ⟨sl, z⟩ := a.slot x o (fun z => n2 (List.mem_append_left _ z)) q
  obtain ⟨sl', z'⟩ := b.slot x _ (fun z => n2 (List.mem_append_right _ z)) z
  exact ⟨sl', z'⟩
theorem Kept.upd {S : List Addr} {h : Heap} {T : Addr} {f : Obj -> Obj} : Kept S [T] h (h.update T f) where
 same := fun b o _ n q => by rw [Heap.get?_update_other _ _ (fun z => n (by rw [z]; exact List.mem_singleton.mpr rfl))]; exact q
 slot := fun b o n q => ⟨o.slots, by rw [Heap.get?_update_other _ _ (fun z => n (by rw [z]; exact List.mem_singleton.mpr rfl))]; exact q⟩
def TrcD (h : Heap) (x C T : Addr) (dx : Option Addr) (fl : Value) : Prop :=
 ∃ oe vs oT ts, h.get? x = some oe /\ oe.cls = .ref C /\ oe.dict = dx /\ oe.data = .fields vs /\ vs[1]? = some (.ref T) /\ T ≠ x /\ h.get? T = some oT /\ oT.data = .fields ts /\ ts[3]? = some fl
section
variable {M : Model} {A : Around} {E : VSP} {s : Shared} {base : Heap} {env : Env} {outer : List Env} {L e C T : Addr} {oe : Obj} {vs : Array Value} {dx : Option Addr} {fl : Value}
theorem dict_mapF (f : Array Value -> Array Value) (o : Obj) : (Obj.mapFields f o).dict = o.dict := by
 unfold Obj.mapFields; split <;> rfl
theorem entryD {hadNext : Bool} {head : Value} {Q : Unit -> Shared -> Prop} (hfr : A.frames = some (env :: outer)) (hl : s.heap.FunFrames base (env :: outer)) (hf : env.frame = some L)
  (he : s.heap.get? e = some oe) (hd : oe.data = .fields vs) (hsz : 1 < vs.size) (hc : oe.cls = .ref C) (hx : oe.dict = dx)
  (h : ∀ h' T, Kept (frs (env :: outer)) [e] s.heap h' -> s.heap.get? T = none -> TrcD h' e C T dx (rawInt L) -> Q () { s with heap := h' }) :
  wpAny M A (do let a ← frameOf env; let pl ← entryPlaceOf L hadNext; let b ← EntryCells.newEntry head a .none (rawInt L) .none pl; setField (.ref e) 1 b) Q E s := by
 have hene : e ∉ frs (env :: outer) := fun hm => by
  obtain ⟨_, o, ho, hnf⟩ := hl.mem hm
  rw [he] at ho; cases ho; exact hnf vs hd
 refine wpAny_bind (wpAny_frameOf_fun hfr hl hf fun h1 s1 => wpAny_bind (wpAny_entryPlaceOf fun pl hpl => ?_))
 unfold EntryCells.newEntry newFields
 refine wpAny_bind (wpAny_newObj_type ?_ (hpl.sizeOk5 _ _ _ _ _))
 have he1 : h1.get? e = some oe := (s1.2.1 e hene).trans he
 generalize hob : ({ cls := .type "traceback", dict := none, data := .fields ([head, .ref L, .none, rawInt L, .none] ++ (if pl.isEmpty then List.replicate 6 Value.none else pl)).toArray } : Obj) = ob
 have he2 := Heap.get?_push_of_some (h := h1) ob he1
 refine wpAny_setField he2 hd hsz (h _ h1.objs.size ⟨fun b o n1 n2 q => ?_, fun b o n2 q => ?_⟩ ?_ ?_)
 ·rw [Heap.get?_update_other _ _ (fun z => n2 (by rw [z]; exact List.mem_singleton.mpr rfl))]
  exact Heap.get?_push_of_some _ ((s1.2.1 b n1).trans q)
 ·obtain ⟨sl, z⟩ := s1.2.2 b o q
  refine ⟨sl, ?_⟩
  rw [Heap.get?_update_other _ _ (fun z => n2 (by rw [z]; exact List.mem_singleton.mpr rfl))]
  exact Heap.get?_push_of_some _ z
 ·exact Heap.get?_none_of_le (Nat.le_of_eq s1.1.symm)
 ·have nT : h1.objs.size ≠ e := Nat.ne_of_gt (Heap.lt_size he1)
  have d3 := Obj.data_mapFields hd (·.setIfInBounds 1 (Value.ref h1.objs.size))
  refine ⟨_, _, ob, _, Heap.get?_update_self _ he2 (Obj.isFreed_of_fields d3), (Obj.cls_mapFields _ _).trans hc, (dict_mapF _ _).trans hx, d3, by simp [hsz], nT, ?_, by rw [← hob], ?_⟩
  ·rw [Heap.get?_update_other _ _ (Ne.symm nT)]
   exact Heap.get?_push_size h1 (by rw [← hob]; rfl)
  ·first | (simp; done) | (rcases hpl with rfl | ⟨_, _, _, _, _, _, _, rfl⟩ <;> simp)
theorem flightD {Q : Unit -> Shared -> Prop} (t : TrcD s.heap e C T dx fl) (h : ∀ h', Kept [] [T] s.heap h' -> TrcD h' e C T dx .none -> Q () { s with heap := h' }) : wpAny M A (setFlight (.ref e) none) Q E s := by
 obtain ⟨oe, vs, oT, ts, q1, q2, q3, q4, q5, q6, q7, q8, q9⟩ := t
 have z3 : 3 < ts.size := (Array.getElem?_eq_some_iff.mp q9).1
 unfold setFlight
 refine wpAny_bind (wpAny_field q1 q4 q5 ?_)
 rw [if_pos (by simp)]
 refine wpAny_setField q7 q8 z3 (h _ Kept.upd ?_)
 have d3 := Obj.data_mapFields q8 (·.setIfInBounds 3 ((none : Option Addr).elim Value.none fun f => rawInt f))
 exact ⟨oe, vs, _, _, (Heap.get?_update_other _ _ q6).trans q1, q2, q3, q4, q5, q6, Heap.get?_update_self _ q7 (Obj.isFreed_of_fields d3), d3, by simp [z3]⟩
theorem note1 {Q : Unit -> Shared -> Prop} (hfr : A.frames = some (env :: outer)) (hl : s.heap.FunFrames base (env :: outer)) (hf : env.frame = some L) (he : s.heap.get? e = some oe) (hd : oe.data = .fields vs) (h1 : vs[1]? = some .none) (hc : oe.cls = .ref C) (hx : oe.dict = dx)
  (h : ∀ h' T, Kept (frs (env :: outer)) [e] s.heap h' -> s.heap.get? T = none -> TrcD h' e C T dx (rawInt L) -> Q () { s with heap := h' }) : wpAny M A (noteFrame (.ref e) env) Q E s := by
 unfold noteFrame
 simp only [hf]
 refine wpAny_bind (wpAny_field he hd h1 ?_)
 rw [if_neg (by decide)]
 exact entryD hfr hl hf he hd (Array.getElem?_eq_some_iff.mp h1).1 hc hx h
theorem noteN {Q : Unit -> Shared -> Prop} (hfr : A.frames = some (env :: outer)) (hl : s.heap.FunFrames base (env :: outer)) (hf : env.frame = some L) (t : TrcD s.heap e C T dx .none)
  (h : ∀ h' T', Kept (frs (env :: outer)) [T, e] s.heap h' -> s.heap.get? T' = none -> TrcD h' e C T' dx (rawInt L) -> Q () { s with heap := h' }) : wpAny M A (noteFrame (.ref e) env) Q E s := by
 obtain ⟨oe, vs, oT, ts, q1, q2, q3, q4, q5, q6, q7, q8, q9⟩ := t
 unfold noteFrame
 simp only [hf]
 refine wpAny_bind (wpAny_field q1 q4 q5 ?_)
 rw [if_pos (by simp)]
 refine wpAny_bind (wpAny_field q7 q8 q9 ?_)
 rw [if_neg (by simp [rawInt])]
 refine wpAny_bind (wpAny_setField q7 q8 (Array.getElem?_eq_some_iff.mp q9).1 ?_)
 have k1 : Kept (frs (env :: outer)) [T] s.heap (s.heap.update T (Obj.mapFields (·.setIfInBounds 3 Value.none))) := Kept.upd
 have nf : ∀ b o, s.heap.get? b = some o -> (∀ us, o.data ≠ .fields us) -> b ∉ [T] := fun b o hb hn z => by
  rw [List.mem_singleton.mp z, q7] at hb; cases hb; exact hn ts q8
 refine entryD (base := base) hfr (hl.of_keeps fun b o hb hn => ?_) hf ((Heap.get?_update_other _ _ q6).trans q1) q4 (Array.getElem?_eq_some_iff.mp q5).1 q2 q3 fun h' T' k nT t' => h h' T' (k1.trans k) ?_ t'
 ·obtain ⟨sl, z⟩ := k1.slot b o (nf b o hb hn) hb
  exact ⟨_, z, rfl⟩
 ·cases q : s.heap.get? T' with
  | none => rfl
  | some o =>
   exfalso
   by_cases z : T' = T
   ·have d3 := Obj.data_mapFields q8 (·.setIfInBounds 3 Value.none)
    rw [z, Heap.get?_update_self _ q7 (Obj.isFreed_of_fields d3)] at nT; cases nT
   ·rw [Heap.get?_update_other _ _ (Ne.symm z)] at nT; rw [q] at nT; cases nT
end
def DicO (d : Addr) (fs : List (Str × V)) : Heap -> Prop := fun h => ∃ mA, h.Ns1 d mA /\ ∀ f, RelO (fs.lookup f) (mA f)
def dO (d : Addr) (fs : List (Str × V)) : HO := .ext (DicO d fs)
theorem dO_ok {P : Program} {w : World} {H : Hp} {h : Heap} {d : Addr} {fs : List (Str × V)} (e : DicO d fs h) : ObjOk P w H h d (dO d fs) :=
 ⟨e, let ⟨_, ⟨_, _, _, q, _⟩, _⟩ := e; ⟨_, q⟩, fun _ _ ⟨mA, n, r⟩ k => ⟨mA, n.at k, r⟩⟩
theorem relO_none {a : Option V} {b : Option Value} (r : RelO a b) (h : b ≠ none) : a ≠ none := fun z => by
 subst z
 cases b with
 | none => exact h rfl
 | some _ => exact r.elim
theorem relO_cons {fs : List (Str × V)} {mA : Str -> Option Value} {f : Str} {y : V} {u : Value} (r : ∀ g, RelO (fs.lookup g) (mA g)) (q : RelV y u) : ∀ g, RelO (((f, y) :: fs).lookup g) (if g = f then some u else mA g) := fun g => by
 by_cases z : g = f
 ·subst z
  rw [if_pos rfl, List.lookup_cons_self]; exact q
 ·rw [if_neg z, List.lookup_cons, beq_eq_false_iff_ne.mpr z]; exact r g
theorem within_of {fs : List (Str × V)} {mA : Str -> Option Value} (r : ∀ g, RelO (fs.lookup g) (mA g)) : PySem.Within mA (fs.map (·.1)) := fun g hg => by
 have z := relO_none (r g) hg
 cases q : fs.lookup g with
 | none => exact absurd q z
 | some v =>
  obtain ⟨l1, l2, e, _⟩ := List.lookup_eq_some_iff.mp q
  rw [e]; simp
section
variable {X : Cx} {pins : PLs} {σ : L2.St} {H : Hp} {s : Shared} {a C : Addr}
theorem setX1 {A : Around} {E : VSP} {f : Str} {y : V} {u : Value} {bm : List Value} {Q : Unit -> Shared -> Prop} (hex : X.ex = []) (I : L2.Inv X pins σ H s) (e : H a = some (exO a C none)) (c : ClsX X.K C bm) (n : NoAttr X.K C f) (ry : RelV y u)
  (h : ∀ d s', H d = none -> d ≠ a -> L2.Inv X pins σ (upd (upd H a (exO a C (some d))) d (dO d [(f, y)])) s' -> Q () s') : wpAny (model X.prog X.w) A (setAttr (.ref a) f u) Q E s := by
 obtain ⟨t, hx⟩ := (show ObjOk X.prog X.w H s.heap a (exO a C none) from I.hok a _ e).1
 have J : PySem.W.InstAt s.heap a _ C none := ⟨hx, rfl, rfl, trivial⟩
 refine PySem.W.set_plain I.kIn J c.sa (store_err (s := { s with toks := s.toks + 1 }) I.kIn J c n fun b => ?_)
 obtain ⟨cd, hc, hd'⟩ := PySem.W.any_some c.hd
 refine wpAny_bind (wpAny_pure (wpAny_bind (wpAny_bind (wpAny_loadPart hx (wpAny_bind (PySem.W.Looks.here (s := { s with toks := s.toks + 1 }) (PySem.W.looks_clsIn I.kIn hc) ?_))))))
 rw [hd']
 show wpAny _ _ (alloc { cls := .type "dict", data := .dict #[] } >>= fun d => update a (fun o => { o with dict := some d }) >>= fun _ => dictMade (.ref C) a d) _ _ _
 have la : a < s.heap.objs.size := Heap.lt_size hx
 have nad : s.heap.objs.size ≠ a := Nat.ne_of_gt la
 have g1 := Heap.get?_push_of_some (h := s.heap) { cls := .type "dict", data := .dict #[] } hx
 refine wpAny_bind (wpAny_alloc (wpAny_bind (wpAny_update g1 ?_)))
 have g2 := Heap.get?_update_self (fun o => { o with dict := some s.heap.objs.size }) g1 rfl
 have e1 : ((s.heap.push { cls := .type "dict", data := .dict #[] }).update a fun o => { o with dict := some s.heap.objs.size }).get? s.heap.objs.size = some { cls := .type "dict", data := .dict #[] } := by
  rw [Heap.get?_update_other _ _ nad.symm]; exact Heap.get?_push_size s.heap rfl
 have e3 : ((s.heap.push { cls := .type "dict", data := .dict #[] }).update a fun o => { o with dict := some s.heap.objs.size }).Ns s.heap.objs.size (fun _ => none) :=
  ⟨_, #[], _, e1, rfl, (fun e he => absurd he (by simp)), fun _ => rfl⟩
 have keep : ∀ b o, b ≠ a -> s.heap.get? b = some o -> ((s.heap.push { cls := .type "dict", data := .dict #[] }).update a fun o => { o with dict := some s.heap.objs.size }).get? b = some o := fun b o nb q => by
  rw [Heap.get?_update_other _ _ (Ne.symm nb)]; exact Heap.get?_push_of_some _ q
 refine wpAny_pure (a := some s.heap.objs.size) (wpAny_bind (wpAny_pure (wpAny_bind ?_)))
 refine wpAny_nsSet1 (Heap.Ns1.of_empty e3) fun h' hn2 hs2 => ?_
 have rel : ∀ g, RelO ([(f, y)].lookup g) (if g = f then some u else none) := relO_cons (fs := []) (mA := fun _ => none) (fun _ => trivial) ry
 obtain ⟨oD, esD, epD, hoD, hdD, hcD⟩ := hn2.count (within_of rel)
 refine wpAny_bind (wpAny_lookBehind hoD (by rw [hdD]; exact pastItsLine_dict (Nat.le_trans hcD (Nat.le_add_left _ _))) ?_)
 have hno : s.heap.get? s.heap.objs.size = none := Heap.get?_none_of_le (Nat.le_refl _)
 have hH : H s.heap.objs.size = none := B.Inv.none_of I hno
 refine wpAny_pure (h s.heap.objs.size _ hH nad ?_)
 have ga : h'.get? a = some { cls := .ref C, dict := some s.heap.objs.size, data := .fields #[.ref t, .none, .none, .none, .bool false, .none] } := (hs2.2 a nad.symm).trans g2
 have I2 : L2.Inv X pins σ (upd H a (exO a C (some s.heap.objs.size))) { s with heap := h', toks := s.toks + 1 + 1 } := I.write (x := a) (e := a) (o := exO a C (some s.heap.objs.size)) (h' := h') (by rw [e]; trivial) (.inl rfl) (fun b o nb q => by
  have nb2 : b ≠ s.heap.objs.size := Nat.ne_of_lt (Heap.lt_size q)
  exact (hs2.2 b nb2).trans (keep b o nb q)) ⟨_, ga⟩ (exO_ok ⟨t, ga⟩)
 exact B.Inv.adopt I2 (B.Inv.newAt I hex hno) (by rw [upd_ne nad]; exact hH) hex (dO_ok ⟨_, hn2, rel⟩)
theorem setX2 {A : Around} {E : VSP} {f : Str} {y : V} {u : Value} {bm : List Value} {d : Addr} {fs : List (Str × V)} {Q : Unit -> Shared -> Prop} (I : L2.Inv X pins σ H s) (e : H a = some (exO a C (some d))) (ed : H d = some (dO d fs)) (hl : fs.length ≤ 100) (c : ClsX X.K C bm) (n : NoAttr X.K C f) (ry : RelV y u)
  (h : ∀ s', L2.Inv X pins σ (upd H d (dO d ((f, y) :: fs))) s' -> Q () s') : wpAny (model X.prog X.w) A (setAttr (.ref a) f u) Q E s := by
 obtain ⟨t, hx⟩ := (show ObjOk X.prog X.w H s.heap a (exO a C (some d)) from I.hok a _ e).1
 obtain ⟨mA, hn, rel0⟩ := (show ObjOk X.prog X.w H s.heap d (dO d fs) from I.hok d _ ed).1
 obtain ⟨od, _, _, hod, _⟩ := id hn
 have J : PySem.W.InstAt s.heap a _ C (some od) := ⟨hx, rfl, rfl, hod⟩
 refine PySem.W.set_plain I.kIn J c.sa (store_err (s := { s with toks := s.toks + 1 }) I.kIn J c n fun b => ?_)
 obtain ⟨cd, hc, hd'⟩ := PySem.W.any_some c.hd
 refine wpAny_bind (wpAny_pure (wpAny_bind (wpAny_bind (wpAny_loadPart hx (wpAny_bind (PySem.W.Looks.here (s := { s with toks := s.toks + 1 }) (PySem.W.looks_clsIn I.kIn hc) ?_))))))
 rw [hd']
 refine wpAny_pure (a := some d) (wpAny_bind (wpAny_pure (wpAny_bind ?_)))
 refine wpAny_nsSet1 (s := { s with toks := s.toks + 1 }) hn fun h' hn2 hs2 => ?_
 have rel := relO_cons (f := f) rel0 ry
 obtain ⟨oD, esD, epD, hoD, hdD, hcD⟩ := hn2.count (within_of rel)
 have hz : esD.size ≤ 101 := by rw [List.length_map, List.length_cons] at hcD; omega
 refine wpAny_bind (wpAny_lookBehind hoD (by rw [hdD]; exact pastItsLine_dict (Nat.le_trans hz (by decide))) ?_)
 refine wpAny_pure (h _ ?_)
 exact I.write (x := d) (e := d) (o := dO d ((f, y) :: fs)) (h' := h') (by rw [ed]; trivial) (.inl rfl) (fun b o nb q => (hs2.2 b nb).trans q) ⟨_, hoD⟩ (dO_ok ⟨_, hn2, rel⟩)
end
section
variable {X : Cx} {o value : Expr} {f : Str} {ta tv : TE} {pos' pos : Pos}
def sFldE (K : Fg) (ta tv : TE) (f : Str) : TS := fun D σ H => tv σ H fun y H1 => ta σ H1 fun x H2 => ∃ a C bm, x = .ref a /\ ClsX K C bm /\ NoAttr K C f ∧
 ((H2 a = some (exO a C none) /\ ∀ d, H2 d = none -> d ≠ a -> D.nx σ (upd (upd H2 a (exO a C (some d))) d (dO d [(f, y)]))) ∨
  ∃ d fs, H2 a = some (exO a C (some d)) /\ H2 d = some (dO d fs) /\ fs.length ≤ 100 /\ D.nx σ (upd H2 d (dO d ((f, y) :: fs))))
theorem ps_fldE (hex : X.ex = []) (ha : PE X o ta) (hv : PE X value tv) (hs : swapsWith value (some (.Attribute o f pos')) pos.line X.env = pure false) : PS X (.Assign [.Attribute o f pos'] value pos) (sFldE X.K ta tv f) := by
 intro pins s σ H D I h
 refine plainObj_wpAny_Assign_Attribute (thn (hv pins s σ H _ I h) fun u s1 ⟨y, H1, I1, ry, q⟩ => thn (ha pins s1 σ H1 _ I1 q) fun ov s2 ⟨x, H2, I2, rx, a, C, bm, ex, c, n, q2⟩ => ?_) hs
 subst ex
 obtain rfl : ov = Value.ref a := rx
 rcases q2 with ⟨ea, k⟩ | ⟨d, fs, ea, ed, hl, k⟩
 ·exact B.setX1 hex I2 ea c n ry fun d s' hd nd I' => ⟨σ, _, I', k d hd nd⟩
 ·exact B.setX2 I2 ea ed hl c n ry fun s' I' => ⟨σ, _, I', k⟩
end
theorem Kept.any {S ch : List Addr} {h h' : Heap} (k : Kept [] ch h h') : Kept S ch h h' := ⟨fun b o _ n q => k.same b o (fun z => by cases z) n q, k.slot⟩
section
variable {X : Cx} {pins : PLs} {σ : L2.St} {H : Hp} {s : Shared} {a C T : Addr} {dx : Option Addr} {fl : Value}
theorem Inv.leftK {ch : List Addr} {h' : Heap} {tk : Nat} (I : L2.Inv X pins σ H s) (hch : ∀ b ∈ ch, H b = none /\ NewAt X pins b) (k : Kept (frs X.stack) ch s.heap h') : L2.Inv X pins σ H { s with heap := h', toks := tk } := by
 have trk : ∀ b o, H b = some o -> b ∉ frs X.stack /\ b ∉ ch := fun b o q =>
  ⟨(fun z => by rw [I.stkFree b z] at q; cases q), (fun z => by rw [(hch b z).1] at q; cases q)⟩
 refine I.call' (s' := { s with heap := h', toks := tk }) (ch := ch) rfl ⟨fun b o q _ n1 n2 => k.same b o n1 n2 q, fun b o q _ n1 n2 => k.slot b o n2 q, fun b o _ n _ => n, fun b o q n2 => ?_, fun b xs q => q, fun b o u q => q, fun b ps q => ⟨#[], by rw [Array.append_empty]; exact q⟩⟩ (fun b o q => ?_) I.bare
  (fun b hb => ⟨.inr (hch b hb).2.st, (hch b hb).2.lo, (hch b hb).2.ce, (hch b hb).2.pi⟩)
 ·obtain ⟨sl, z⟩ := k.slot b o n2 q
  exact ⟨_, z⟩
 ·refine (I.hok b o q).stay (fun c u hc z => ?_) (fun c z => z) (fun c xs z => z)
  rcases hc with rfl | hc
  ·obtain ⟨n1, n2⟩ := trk _ _ q; exact k.same _ _ n1 n2 z
  ·obtain ⟨n1, n2⟩ := trk _ _ hc; exact k.same _ _ n1 n2 z
theorem noted1 {A : Around} {E' : VSP} {Q : Shared -> Prop} {oe : Obj} {vs : Array Value} (hA : A.frames = X.A.frames) (I : L2.Inv X pins σ H s) (hex : X.ex = []) (hst : X.stack = X.env :: X.outer) (hfr : X.env.frame = some X.env.locals)
  (ha : H a = none) (na : NewAt X pins a) (hx : s.heap.get? a = some oe) (hd : oe.data = .fields vs) (h1 : vs[1]? = some .none) (hc : oe.cls = .ref C) (hdx : oe.dict = dx)
  (h : ∀ (s' : Shared) (T : Addr), L2.Inv X pins σ H s' -> NewAt X pins T -> H T = none -> TrcD s'.heap a C T dx .none -> Q s') :
  wpAny (model X.prog X.w) A (noteFrame (.ref a) X.env) (fun _ s2 => wpAny (model X.prog X.w) A (setFlight (.ref a) none) (fun _ s3 => Q s3) E' s2) E' s := by
 have hfrm : A.frames = some (X.env :: X.outer) := by rw [hA, I.ok.frames, hst]
 refine note1 (base := X.base) hfrm (by rw [← hst]; exact I.stack) hfr hx hd h1 hc hdx fun h1 T k1 nT t1 => ?_
 refine flightD (s := { s with heap := h1 }) t1 fun h2 k2 t2 => ?_
 have nt := B.Inv.newAt I hex nT
 have hT := B.Inv.none_of I nT
 rw [← hst] at k1
 refine h { s with heap := h2 } T (B.Inv.leftK (tk := s.toks) I (fun b hb => ?_) (k1.trans k2.any)) nt hT t2
 simp only [List.cons_append, List.nil_append, List.mem_cons, List.not_mem_nil, or_false] at hb
 rcases hb with rfl | rfl
 ·exact ⟨ha, na⟩
 ·exact ⟨hT, nt⟩
theorem notedN {A : Around} {E' : VSP} {Q : Shared -> Prop} (hA : A.frames = X.A.frames) (I : L2.Inv X pins σ H s) (hex : X.ex = []) (hst : X.stack = X.env :: X.outer) (hfr : X.env.frame = some X.env.locals)
  (ha : H a = none) (na : NewAt X pins a) (hT : H T = none) (nT : NewAt X pins T) (t : TrcD s.heap a C T dx .none)
  (h : ∀ (s' : Shared) (T' : Addr), L2.Inv X pins σ H s' -> NewAt X pins T' -> H T' = none -> TrcD s'.heap a C T' dx .none -> Q s') :
  wpAny (model X.prog X.w) A (noteFrame (.ref a) X.env) (fun _ s2 => wpAny (model X.prog X.w) A (setFlight (.ref a) none) (fun _ s3 => Q s3) E' s2) E' s := by
 have hfrm : A.frames = some (X.env :: X.outer) := by rw [hA, I.ok.frames, hst]
 refine noteN (base := X.base) hfrm (by rw [← hst]; exact I.stack) hfr t fun h1 T' k1 nT' t1 => ?_
 refine flightD (s := { s with heap := h1 }) t1 fun h2 k2 t2 => ?_
 have nt := B.Inv.newAt I hex nT'
 have hT' := B.Inv.none_of I nT'
 rw [← hst] at k1
 refine h { s with heap := h2 } T' (B.Inv.leftK (tk := s.toks) I (fun b hb => ?_) (k1.trans k2.any)) nt hT' t2
 simp only [List.cons_append, List.nil_append, List.mem_cons, List.not_mem_nil, or_false] at hb
 rcases hb with rfl | rfl | rfl
 ·exact ⟨hT, nT⟩
 ·exact ⟨ha, na⟩
 ·exact ⟨hT', nt⟩
theorem flownN {A : Around} {E' : VSP} {Q : Shared -> Prop} (I : L2.Inv X pins σ H s) (hT : H T = none) (nT : NewAt X pins T) (t : TrcD s.heap a C T dx .none)
  (h : ∀ (s' : Shared), L2.Inv X pins σ H s' -> TrcD s'.heap a C T dx .none -> Q s') : wpAny (model X.prog X.w) A (setFlight (.ref a) none) (fun _ s3 => Q s3) E' s := by
 refine flightD t fun h2 k2 t2 => h _ (B.Inv.leftK (tk := s.toks) I (fun b hb => ?_) k2.any) t2
 rw [List.mem_singleton.mp hb]; exact ⟨hT, nT⟩
end
def CXD (P : Program) (w : World) : CXT := fun outer H s E e s' => ∃ (x C T : Addr) (dx : Option Addr) (H' : Hp), e = .ref x /\ s'.os = s.os /\ AllBare s'.gens /\ Un (frs outer) [] H H' s.heap s'.heap /\ HOk P w H' s'.heap /\ s.heap.get? x = none /\ s.heap.get? T = none /\ H' x = none /\ H' T = none ∧
 TrcD s'.heap x C T dx .none /\ E (.ref C) dx H'
section
variable {P : Program} {w : World} {K : Fg} {mg : Str -> Option Value} {base : Heap} {N : List Str} {qual : Str} {scope : Scope} {f : Addr} {cd : Value} {A : Around} {outer : List Env} {s : Shared} {H : Hp} {E : XK}
def TakesD (X : Cx) (E : XK) : Prop := ∀ (pins : PLs) (σ : L2.St) (H : Hp) (s : Shared) (a C : Addr) (dx : Option Addr) (oe : Obj) (vs : Array Value), L2.Inv X pins σ H s -> H a = none -> NewAt X pins a -> s.heap.get? a = some oe -> oe.data = .fields vs →
 vs[1]? = some .none -> oe.cls = .ref C -> oe.dict = dx -> E (.ref C) dx H -> X.xe (.ref a) s
theorem takesD : TakesD (cxOf (CXD P w) P w K mg base N qual scope f cd A outer s H E) E := by
 intro pins σ H1 s1 a C dx oe vs I ha na hx hd h1 hc hdx hE
 show wpAny (model P w) _ (leaving _ _) _ _ s1
 unfold leaving
 refine wpAny_bind (noted1 rfl I rfl rfl rfl ha na hx hd h1 hc hdx fun s3 T' I3 nT' hT' tr' => ?_)
 exact ⟨a, C, T', dx, H1, rfl, I3.os, I3.bare, I3.base, I3.hok, na.st, nT'.st, ha, hT', tr', hE⟩
theorem Fun.okD {x : Str} {st : Stmt} {fd : FuncData} {ps : List Str} {k : Nat} {sp : Sp} (F : Fun K x qual st f fd) (S : FnScope N ps (defScope st)) (len : ∀ vs H Q E, sp vs H Q E -> vs.length = ps.length)
  (hbody : ∀ (cdv : Value) (A : Around) (outer : List Env) (s : Shared) (H : Hp) (vs : List V) (Q : VK) (E : XK), Room k (A.deeper (envOfC qual (defScope st) s.heap.objs.size f cdv)) -> sp vs H Q E →
   ∃ t, PSs (cxOf (CXD P w) P w K mg base N qual (defScope st) f cdv A outer s H E) (defBody st) t /\ t { nx := fun _ H' => Q .non H', rt := Q } (start N vs) H) : FnOk P w K mg base (CXD P w) (k + 1) f fd ps sp := by
 obtain ⟨oc, od, kV, doc, pm, an, cdv, ct, osl, rfl, lk, hcd⟩ := F.ex
 exact fn_of lk hcd S len fun A outer s H vs Q E hr hsp => hbody cdv A outer s H vs Q E hr hsp
end
section
variable {X : Cx} {k : Nat} {f C : Addr} {fd : FuncData} {ps : List Str} {sp : Sp} {bm : List Value}
def tRaiseD (C : Addr) (sp : Sp) (E : XK) (t : TA) : TS := fun _ σ H => t σ H fun vs H1 => vs.length ≤ sizeLine /\ ∀ a, H1 a = none -> sp (.ref a :: vs) (upd H1 a (exO a C none)) (fun v H2 => v = .non /\ ∃ dx, H2 a = some (exO a C dx) /\ E (.ref C) dx (del H2 a)) E0
theorem ps_raiseD {x : Str} {p cpos pos : Pos} {e : Expr} {es : List Expr} {t : TA} {E : XK} (M : XC X.K C f bm) (hbase : bm.contains (.type "BaseException") = true) (hex : X.ex = []) (tk : TakesD X E) (F : FnOk X.prog X.w X.K X.mg X.base CX0 k f fd ps sp) (hr : Room (k + 1) X.A) (hb : Binds X.K fd ps [])
  (hg : Gl X x) (hm : X.mg x = some (.ref C)) (ha : PA X (e :: es) t) (hdb : (x == ("__debug__" : Str)) = false := by decide) (he : starEach (e :: es) X.env = (false, eval e X.env) :: starEach es X.env := by rfl) (hpl : (backTo cpos (starEach es X.env)).any (·.1) = false := by rfl) :
  PS X (.Raise (some (.Call (.Name x p) (e :: es) [] cpos)) none pos) (tRaiseD C sp E t) := by
 intro pins s σ H D I h
 obtain ⟨nm, q, N, bs, hdct, sn, sub, ab, col, dd, k0, k1, k2, k3, k5, lk⟩ := M.ob
 rw [arm_exec_Raise]
 refine wpAny_bind (wpAny_standAt (raise_own (C := C) (bm := bm) (nm := nm) (q := q) (N := N) (bs := bs) (hdct := hdct) (sn := sn) (sub := sub) (ab := ab) (col := col) (dd := dd) (k0 := k0) (k1 := k1) (k2 := k2) (k3 := k3) (k5 := k5) (newId := "ValueError.__new__") hbase hr.hd ?_))
 refine wpAny_bind (wpAny_mono (Q := fun v s' => ∃ a H', v = .ref a /\ NewAt X pins a /\ L2.Inv X pins σ H' s' /\ ∃ dx, H' a = some (exO a C dx) /\ E (.ref C) dx (del H' a)) ?_ (fun v s1 h1 => wpAny_bind (wpAny_standAt (wpAny_pure ?_))) fun _ _ y => y)
 ·refine wpAny_Call_Name_kw (ld_glob I hg hm ?_ hdb)
  refine PySem.W.callWith_K (h₀ := X.base) I.ok.mod.kin M.kp (thn (ha cpos pins s σ H _ I h) fun us s1 ⟨vs, H1, I1, r, hz, q⟩ => ⟨I1.kIn, ?_⟩) he hpl
  exact run_exc M hex F hr hb I1 (us := [] ++ us) r (by rw [List.nil_append, ← r.length]; exact hz) q
 ·obtain ⟨a, H', rfl, na, I1, dx, hx, hE⟩ := h1
  obtain ⟨tt, ho⟩ := (show L2.ObjOk X.prog X.w H' s1.heap a (exO a C dx) from I1.hok a _ hx).1
  exact ⟨a, tt, dx, rfl, I1.kIn _ _ lk, ho, tk pins σ (del H' a) s1 a C dx _ _ (B.Inv.forget I1 hx na.st) del_same na ho rfl rfl rfl rfl hE⟩
end
abbrev RX := Addr -> Option Addr -> Hp -> Prop
def FlyD (X : Cx) (pins : PLs) (R : RX) : VSP := fun e s => ∃ (x C T : Addr) (dx : Option Addr) (H : Hp), e = .ref x /\ L2.Inv X pins (hid X.N) H s /\ H x = none /\ NewAt X pins x /\ H T = none /\ NewAt X pins T /\ TrcD s.heap x C T dx .none /\ R C dx H
def inTryD (X : Cx) (pins : PLs) (R : RX) : Cx := { X with pn := X.pn ++ pins, xe := FlyD X pins R }
section
variable {X : Cx} {pins pins' : PLs} {σ : L2.St} {H : Hp} {s : Shared} {R : RX} {e : Addr}
theorem toTryD (I : L2.Inv X pins σ H s) : L2.Inv (inTryD X pins R) [] σ H s :=
 ⟨⟨I.ok.mod, I.ok.kind, I.ok.glob, I.ok.blt, I.ok.above, I.ok.inj, I.ok.has, I.ok.cab, I.ok.hd, I.ok.frames, I.ok.stk, I.ok.exf, I.ok.bs, I.ok.bsz, I.ok.noex, I.ok.exfs, I.ok.funs, I.ok.frf⟩, I.os, I.bare, I.base, I.loc, I.cell, I.free, I.freeC,
  fun p hp => I.pin p (by rw [List.append_nil] at hp; exact hp), I.hok, I.len⟩
theorem ofTryD (I : L2.Inv (inTryD X pins R) pins' σ H s) : L2.Inv X pins σ H s :=
 ⟨⟨I.ok.mod, I.ok.kind, I.ok.glob, I.ok.blt, I.ok.above, I.ok.inj, I.ok.has, I.ok.cab, I.ok.hd, I.ok.frames, I.ok.stk, I.ok.exf, I.ok.bs, I.ok.bsz, I.ok.noex, I.ok.exfs, I.ok.funs, I.ok.frf⟩, I.os, I.bare, I.base, I.loc, I.cell, I.free, I.freeC,
  fun p hp => I.pin p (List.mem_append_left _ hp), I.hok, I.len⟩
def EofD (R : RX) : XK := fun v dx H => ∃ C, v = .ref C /\ R C dx H
theorem passTD (hex : X.ex = []) : Passes (CXD X.prog X.w) (inTryD X pins R) (EofD R) := by
 intro pins' σ H1 s1 e s2 I hx
 obtain ⟨x, C, T, dx, H2, rfl, ho, hb, un, hok, nx, nT, hx2, hT2, tr, C', e', hr⟩ := hx
 cases e'
 have na := B.Inv.newAt I hex nx
 have nt := B.Inv.newAt I hex nT
 have I2 : L2.Inv (inTryD X pins R) pins' σ H2 s2 := I.call' ho un hok hb (fun b hb => by cases hb)
 exact ⟨x, C, T, dx, H2, rfl, hid_weak (ofTryD I2), hx2, ⟨na.st, na.lo, na.ce, fun p hp => na.pi p (List.mem_append_left _ hp), na.fr⟩, hT2, ⟨nt.st, nt.lo, nt.ce, fun p hp => nt.pi p (List.mem_append_left _ hp), nt.fr⟩, tr, hr⟩
theorem SP.ofTryD {D : Ends} {f : Flow} (h : SP (inTryD X pins R) [] D f s) : SP X pins D f s := by
 cases f with
 | next => obtain ⟨σ', H', I, q⟩ := h; exact ⟨σ', H', B.ofTryD I, q⟩
 | brk => obtain ⟨σ', H', I, q⟩ := h; exact ⟨σ', H', B.ofTryD I, q⟩
 | cont => obtain ⟨σ', H', I, q⟩ := h; exact ⟨σ', H', B.ofTryD I, q⟩
 | ret u => obtain ⟨v, σ', H', I, r, q⟩ := h; exact ⟨v, σ', H', B.ofTryD I, r, q⟩
end
theorem name_gone {X : Cx} {pins : PLs} {σ : L2.St} {H : Hp} {s : Shared} {M : Model} {A : Around} {E : VSP} {i : Nat} {x : Str} {pos : Pos} {Q : Unit -> Shared -> Prop} (I : L2.Inv X pins σ H s) (hN : X.N.Nodup) (hi : X.N[i]? = some x) (hk : X.env.scope.names.lookup x = some .local)
  (h : ∀ s', L2.Inv X pins (σ.set i none) H s' -> Q () s') : wpAny M A (do bindName X.env x .none; unbindBehindTheSuite X.env x pos) Q E s := by
 obtain ⟨m, hn, hl⟩ := id I.loc
 have hiσ : i < σ.length := by rw [I.len]; exact (List.getElem?_eq_some_iff.mp hi).1
 have lt : ∀ b o, X.s₀.heap.get? b = some o -> b ≠ X.env.locals := fun b o e => Nat.ne_of_lt (Nat.lt_of_lt_of_le (Heap.lt_size e) I.ok.above)
 refine wpAny_nameGoes_keeps hk hn (by rw [I.ok.kind]; rfl) fun h' v hn' hs => h _ ?_
 refine ⟨I.ok, I.os, I.bare, ⟨fun b o e n hb hx => (hs.2 b (lt b o e)).trans (I.base.keep b o e n hb hx), fun b o e n hb hx => ?_, I.base.free, fun b o e hx => ?_, I.base.tups, I.base.frzs, I.base.tbls⟩, ⟨_, hn', fun j y v' e1 e2 e3 => ?_⟩, fun y c e => ?_, I.free, I.freeC, fun p hp => ?_, fun b ob e => ?_, by simpa using I.len⟩
 ·obtain ⟨sl, e1⟩ := I.base.slot b o e n hb hx
  exact ⟨sl, (hs.2 b (lt b o e)).trans e1⟩
 ·obtain ⟨o', e1⟩ := I.base.there b o e hx
  exact ⟨o', (hs.2 b (lt b o e)).trans e1⟩
 ·have hj : j ≠ i := fun z => by subst z; rw [List.getElem?_set_self hiσ] at e2; cases e2
  rw [List.getElem?_set_ne (Ne.symm hj)] at e2
  obtain ⟨u', r', q⟩ := hl j y v' e1 e2 e3
  refine ⟨u', r', ?_⟩
  rcases q with ⟨k, e⟩ | ⟨k, c, e, z⟩
  ·refine .inl ⟨k, ?_⟩
   have ny : y ≠ x := fun e => hj (nodup_ix hN e1 (e ▸ hi))
   show (if y = x then v else m y) = some u'
   rw [if_neg ny]; exact e
  ·exact .inr ⟨k, c, e, z.sameBut hs (I.cne y c e)⟩
 ·obtain ⟨w', z⟩ := I.cell y c e
  exact ⟨w', z.sameBut hs (I.cne y c e)⟩
 ·obtain ⟨e, n, ne, nf, d⟩ := I.pin p hp
  exact ⟨(hs.2 p.1 ne).trans e, n, ne, nf, d⟩
 ·refine (I.hok b ob e).stay (fun c w' hc q => (hs.2 c ?_).trans q) (fun _ q => q) fun _ _ q => q
  rintro rfl
  rcases hc with rfl | hc
  ·rw [I.free] at e; cases e
  ·rw [I.free] at hc; cases hc
def ErO (a C d : Addr) : Heap -> Prop := fun h => ∃ oe, h.get? a = some oe /\ oe.cls = .ref C /\ oe.dict = some d /\ PySem.W.notCls oe = true
def erO (a C d : Addr) : HO := .ext (ErO a C d)
theorem erO_ok {P : Program} {w : World} {H : Hp} {h : Heap} {a C d : Addr} (e : ErO a C d h) : ObjOk P w H h a (erO a C d) :=
 ⟨e, let ⟨_, q, _⟩ := e; ⟨_, q⟩, fun _ _ ⟨o, q, r⟩ k => ⟨o, k _ q, r⟩⟩
theorem TrcD.er {h : Heap} {x C T d : Addr} {fl : Value} (t : TrcD h x C T (some d) fl) : ErO x C d h := by
 obtain ⟨oe, vs, oT, ts, q1, q2, q3, q4, _⟩ := t
 exact ⟨oe, q1, q2, q3, by unfold PySem.W.notCls; rw [q4]⟩
def gone (i : Nat) (D : Ends) : Ends := { nx := fun σ H => D.nx (σ.set i none) H, rt := D.rt, bk := fun σ H => D.bk (σ.set i none) H, ct := fun σ H => D.ct (σ.set i none) H }
def tTryD (N : List Str) (R : RX) (Ok : Addr -> Prop) (tb th : TS) : TS := fun D σ H => tb D σ H /\ ∀ C dx H', R C dx H' -> Ok C /\ th D (hid N) H'
def tTryAs (N : List Str) (i : Nat) (R : RX) (Ok : Addr -> Prop) (tb th : TS) : TS := fun D σ H => tb D σ H /\ ∀ C dx H', R C dx H' -> Ok C /\ ∃ d, dx = some d /\ ∀ a, H' a = none -> th (gone i D) ((hid N).set i (some (.ref a))) (upd H' a (erO a C d))
section
variable {X : Cx} {R : RX} {body : List Stmt} {b₀ : Stmt} {suite : List Stmt} {x : Str} {p hpos pos : Pos} {u : Value} {tb th : TS}
theorem typ_of {M : Model} {h : Heap} {a C T : Addr} {dx : Option Addr} {fl : Value} (t : TrcD h a C T dx fl) : PySem.W.Looks M h (typeOf (.ref a)) (.ref C) := by
 obtain ⟨oe, _, _, _, q1, q2, _⟩ := t
 rw [← q2]
 exact (PySem.W.Looks.ld q1).andThen .now
theorem ps_tryAs {i : Nat} {n : Str} (hex : X.ex = []) (hst : X.stack = X.env :: X.outer) (hfr : X.env.frame = some X.env.locals) (hg : Gl X x) (hm : X.mg x = some u) (hN : X.N.Nodup) (hi : X.N[i]? = some n) (hn : X.env.scope.names.lookup n = some .local)
  (hb : ∀ pins, PSs (inTryD X pins R) body tb) (hs : ∀ e, PSs (inExc X e) (b₀ :: suite) th) (hd : (x == ("__debug__" : Str)) = false := by decide) :
  PS X (.Try body [.ExceptHandler (some (.Name x p)) (some n) (b₀ :: suite) hpos] [] [] pos) (tTryAs X.N i R (fun C => PySem.W.exmOne X.K (.ref C) u = some true) tb th) := by
 intro pins s σ H D I ⟨h1, h2⟩
 refine wpAny_Try_except (wpAny_mono (hb pins [] s σ H D (toTryD I) h1) (fun f s1 q => ?_) fun e s1 q => ?_)
 ·have q' := SP.ofTryD q
  cases f with
  | next => exact wpAny_execs_nil q'
  | brk => exact q'
  | cont => exact q'
  | ret u => exact q'
 ·obtain ⟨a, C, T, dx, H1, rfl, I1, ha, na, hT, nT, tr, hR⟩ := q
  obtain ⟨hk, d, rfl, hth⟩ := h2 C dx H1 hR
  refine notedN rfl I1 hex hst hfr ha na hT nT tr fun s2 T2 I2 nT2 hT2 tr2 => ?_
  refine wpAny_handleBy_cons (codeAny_handlers_test ?_) (by intro z; cases z)
  refine ld_glob (X := inExc X a) (toExc I2) hg hm ?_ hd
  refine PySem.W.Looks.here (s := s2) (PySem.W.exm_one (M := model X.prog X.w) I2.kIn (typ_of tr2) hk) ?_
  refine codeAny_handlers_suite_as ?_
  refine flownN I2 hT2 nT2 tr2 fun s3 I3 tr3 => ?_
  have I4 : L2.Inv X pins (hid X.N) (upd H1 a (erO a C d)) s3 := B.Inv.adopt I3 na ha hex (erO_ok tr3.er)
  refine store_ok (X := inExc X a) (toExc I4) hN hi (.inl hn) (v := .ref a) (u := .ref a) rfl (fun s5 I5 => ?_) (.inr hn)
  refine wpAny_mono (hs a pins s5 _ _ (gone i D) I5 (hth a ha)) (fun f s6 q6 => ?_) fun _ _ z => z.elim
  cases f with
  | next => obtain ⟨σ', H', J, q⟩ := q6; exact name_gone (ofExc I.ok J) hN hi hn fun s' J' => ⟨_, _, J', q⟩
  | brk => obtain ⟨σ', H', J, q⟩ := q6; exact name_gone (ofExc I.ok J) hN hi hn fun s' J' => ⟨_, _, J', q⟩
  | cont => obtain ⟨σ', H', J, q⟩ := q6; exact name_gone (ofExc I.ok J) hN hi hn fun s' J' => ⟨_, _, J', q⟩
  | ret u => obtain ⟨v, σ', H', J, r, q⟩ := q6; exact name_gone (ofExc I.ok J) hN hi hn fun s' J' => ⟨v, _, _, J', r, q⟩
end
def rIsE (K : Fg) : List V -> Hp -> VK -> Prop := fun xs H Q => ∃ (a C d : Addr) (fs : List (Str × V)) (bm : List Value) (c : V) (b : Bool), xs = [.ref a, c] /\ H a = some (erO a C d) /\ H d = some (dO d fs) /\ ClsX K C bm /\ GetX K C ∧
 ((∃ n, c = .ty n /\ PySem.W.kitOne K (.ref C) (.type n) = some b) ∨ (∃ D, c = .ref D /\ PySem.W.kitOne K (.ref C) (.ref D) = some b) ∨
  ∃ (p : Addr) (cs : List Addr), c = .ref p /\ H p = some (.tup (cs.map V.ref)) /\ PySem.W.kitAny K (.ref C) (cs.map Value.ref) = some b) /\ Q (.bl b) H
theorem vals_refs : ∀ {cs : List Addr} {us : List Value}, Vals (cs.map V.ref) us -> us = cs.map Value.ref
 | [], _, .nil => rfl
 | c :: cs, _, .cons r q => by
  rw [List.map_cons, vals_refs q, (show _ = Value.ref c from r)]
theorem call_isE {X : Cx} : CallR X (.builtin "isinstance") (rIsE X.K) := by
 intro pins s σ H xs us Q I r h
 obtain ⟨a, C, d, fs, bm, c, b, rfl, ea, ed, cl, gx, k, q⟩ := h
 obtain ⟨u, u2, rfl, rx, ry⟩ := vals2 r
 obtain rfl : u = Value.ref a := rx
 obtain ⟨oe, h1, h2, h3, h4⟩ := (show ObjOk X.prog X.w H s.heap a (erO a C d) from I.hok a _ ea).1
 obtain ⟨mA, ⟨od, es, ep, h5, _⟩, _⟩ := (show ObjOk X.prog X.w H s.heap d (dO d fs) from I.hok d _ ed).1
 have J : PySem.W.InstAt s.heap a oe C (some od) := ⟨h1, h2, h4, by rw [h3]; exact h5⟩
 rcases k with ⟨n, rfl, e⟩ | ⟨D, rfl, e⟩ | ⟨p, cs, rfl, hp, e⟩
 ·obtain rfl : u2 = Value.type n := ry
  exact PySem.W.kia_one (kitx_err cl gx) I.kIn J e (fun z => nomatch z) fun tk => ⟨.bl b, H, I.tok tk, rfl, q⟩
 ·obtain rfl : u2 = Value.ref D := ry
  exact PySem.W.kia_one (kitx_err cl gx) I.kIn J e (fun z => nomatch z) fun tk => ⟨.bl b, H, I.tok tk, rfl, q⟩
 ·obtain rfl : u2 = Value.ref p := ry
  obtain ⟨_, its, rv, o, ho, hc, n, hd⟩ := (show ObjOk X.prog X.w H s.heap p (.tup (cs.map V.ref)) from I.hok p _ hp)
  rw [vals_refs rv] at hd
  obtain ⟨oc, odd, oda, osl⟩ := o
  dsimp only at hc hd
  subst hc; subst hd
  exact PySem.W.kia_tup (kitx_err cl gx) I.kIn J ho e (fun z => nomatch z) fun tk => ⟨.bl b, H, I.tok tk, rfl, q⟩
theorem call_isK {X : Cx} {K : Fg} (h : X.K = K) : CallR X (.builtin "isinstance") (rIsE K) := by
 subst h; exact call_isE
def IsErr (H : Hp) (a C d : Addr) : Prop := H a = some (erO a C d) ∨ H a = some (exO a C (some d))
section
variable {X : Cx} {pins : PLs} {σ : L2.St} {H : Hp} {s : Shared} {a C d : Addr} {fs : List (Str × V)}
theorem IsErr.inst (I : L2.Inv X pins σ H s) (h : IsErr H a C d) (ed : H d = some (dO d fs)) : ∃ (oe od : Obj) (mA : Str -> Option Value), PySem.W.InstAt s.heap a oe C (some od) /\ (∀ name, PySem.W.lookIn name od = some (mA name)) /\ ∀ f, RelO (fs.lookup f) (mA f) := by
 obtain ⟨mA, hn, r⟩ := (show ObjOk X.prog X.w H s.heap d (dO d fs) from I.hok d _ ed).1
 obtain ⟨od, ho, hl⟩ := lookIn_ns hn
 rcases h with h | h
 ·obtain ⟨oe, h1, h2, h3, h4⟩ := (show ObjOk X.prog X.w H s.heap a (erO a C d) from I.hok a _ h).1
  exact ⟨oe, od, mA, ⟨h1, h2, h4, by rw [h3]; exact ho⟩, hl, r⟩
 ·obtain ⟨t, h1⟩ := (show ObjOk X.prog X.w H s.heap a (exO a C (some d)) from I.hok a _ h).1
  exact ⟨_, od, mA, ⟨h1, rfl, rfl, ho⟩, hl, r⟩
end
def tFldE (K : Fg) (ta : TE) (f : Str) : TE := fun σ H Q => ta σ H fun x H1 => ∃ a C d fs bm v, x = .ref a /\ IsErr H1 a C d /\ H1 d = some (dO d fs) /\ ClsX K C bm /\ GetX K C /\ NoAttr K C f /\ fs.lookup f = some v /\ Q v H1
theorem pe_fldE {X : Cx} {e : Expr} {f : Str} {pos : Pos} {ta : TE} {K : Fg} (hK : X.K = K) (he : PE X e ta) (hb : attributeBase e f X.env (eval e X.env) = eval e X.env) : PE X (.Attribute e f pos) (tFldE K ta f) := by
 subst hK
 intro pins s σ H Q I h
 refine attr_of hb (thn (he pins s σ H _ I h) fun u s1 ⟨x, H1, I1, rx, a, C, d, fs, bm, v, ex, ea, ed, c, g, n, l, q⟩ => ?_)
 subst ex
 obtain rfl : u = Value.ref a := rx
 obtain ⟨oe, od, mA, J, hl, r⟩ := IsErr.inst I1 ea ed
 obtain ⟨u', hu, ru⟩ := RelO.some_of (v := v) (o := mA f) (by rw [← l]; exact r f)
 unfold getAttr
 refine wpAny_bind (wpAny_mkText ?_)
 refine err_open (s := { s1 with toks := s1.toks + 1 }) I1.kIn J g ?_
 refine err_val (s := { s1 with toks := s1.toks + 1 }) I1.kIn J c (PySem.W.findObj_own c.hd n rfl (by rw [hl, hu])) ?_
 exact ⟨u', rfl, handed_of ru, v, H1, I1.tok _, ru, q⟩
def rIsX (K : Fg) : List V -> Hp -> VK -> Prop := fun xs H Q => ∃ (a C d : Addr) (fs : List (Str × V)) (bm : List Value) (c : V) (b : Bool), xs = [.ref a, c] /\ IsErr H a C d /\ H d = some (dO d fs) /\ ClsX K C bm /\ GetX K C ∧
 ((∃ n, c = .ty n /\ PySem.W.kitOne K (.ref C) (.type n) = some b) ∨ (∃ D, c = .ref D /\ PySem.W.kitOne K (.ref C) (.ref D) = some b) ∨
  ∃ (p : Addr) (cs : List Addr), c = .ref p /\ H p = some (.tup (cs.map V.ref)) /\ PySem.W.kitAny K (.ref C) (cs.map Value.ref) = some b) /\ Q (.bl b) H
def tMakeE (C : Addr) (sp : Sp) (t : TA) : TE := fun σ H Q => t σ H fun vs H1 => vs.length ≤ sizeLine /\ ∀ a, H1 a = none -> sp (.ref a :: vs) (upd H1 a (exO a C none)) (fun v H2 => v = .non /\ Q (.ref a) H2) E0
theorem turnedL {X : Cx} {pins : PLs} {σ : L2.St} {H : Hp} {s : Shared} {h' : Heap} {t' : Nat} {fp : List Addr} (I : Inv X pins σ H s)
  (k : ∀ b o, b ∉ fp -> s.heap.get? b = some o -> h'.get? b = some o) (hf : ∀ b ∈ fp, FpOk X pins H b) : Inv X pins σ H { s with heap := h', toks := t' } := by
 have off : ∀ b u, H b = some u -> b ∉ fp := fun b u e z => by rw [(hf b z).1] at e; cases e
 refine I.step (g' := s.gens) (d' := s.drawn) (ch := fp) (fun b hb => ?_) (fun b o _ _ hc e _ => k b o hc e) (fun b o _ _ hc e _ => ⟨o.slots, k b o hc e⟩) (fun _ _ _ _ n => n)
  (fun b o hc e => ⟨o, k b o hc e⟩) (fun _ _ e => e) (fun _ _ _ e => e) (fun b ps e => ⟨#[], by rw [e]; simp⟩) (fun m hm => ?_) (fun b u e => ?_) I.bare
 ·obtain ⟨_, f1, _, f3, f4, f5⟩ := hf b hb
  exact ⟨f3, f1, f4, f5⟩
 ·obtain ⟨o, es, ep, ho, r⟩ := hm
  exact ⟨o, es, ep, k _ o (fun z => (hf _ z).2.1 rfl) ho, r⟩
 ·refine (I.hok b u e).stay (fun c v hc q => k c v ?_ q) (fun _ q => q) fun _ _ q => q
  rcases hc with z | z
  ·rw [z]; exact off b u e
  ·exact off c _ z
section
variable {prog : Program} {w : World} {A : Around} {E : VSP} {s : Shared}
structure Five (z TI TO i1 i2 : Addr) : Prop where
 a1 : TI ≠ z
 a2 : TO ≠ z
 a3 : i1 ≠ z
 a4 : i2 ≠ z
 a5 : TI ≠ TO
 a6 : TI ≠ i1
 a7 : TI ≠ i2
 a8 : TO ≠ i1
 a9 : TO ≠ i2
 b1 : i1 ≠ i2
end
theorem turnedN {X : Cx} {pins : PLs} {σ : L2.St} {H : Hp} {s : Shared} {h' : Heap} {t' : Nat} {fp : List Addr} {p : Addr} {v : HO} (I : Inv X pins σ H s)
  (k : ∀ b o, b ∉ fp -> s.heap.get? b = some o -> h'.get? b = some o) (hf : ∀ b ∈ fp, FpOk X pins H b) (hp : s.heap.objs.size ≤ p) (new : ObjOk X.prog X.w (upd H p v) h' p v) :
  Inv X pins σ (upd H p v) { s with heap := h', toks := t' } := by
 have off : ∀ b u, H b = some u -> b ∉ fp := fun b u e z => by rw [(hf b z).1] at e; cases e
 have hn : H p = none := I.hok.fresh hp
 have old : ∀ b u, H b = some u -> upd H p v b = some u := fun b u e => by rw [upd_ne (ne_of_none e hn)]; exact e
 refine I.step (g' := s.gens) (d' := s.drawn) (ch := fp) (fun b hb => ?_) (fun b o _ _ hc e _ => k b o hc e) (fun b o _ _ hc e _ => ⟨o.slots, k b o hc e⟩) (fun b o _ e n => ?_)
  (fun b o hc e => ⟨o, k b o hc e⟩) (fun b xs e => old b _ e) (fun b o u e => old b _ e) (fun b ps e => ⟨#[], by rw [old b _ e]; simp⟩) (fun m hm => ?_) (fun b u e => ?_) I.bare
 ·obtain ⟨_, f1, _, f3, f4, f5⟩ := hf b hb
  exact ⟨f3, f1, f4, f5⟩
 ·rw [upd_ne (Nat.ne_of_lt (Nat.lt_of_lt_of_le (Heap.lt_size e) hp))]; exact n
 ·obtain ⟨o, es, ep, ho, r⟩ := hm
  exact ⟨o, es, ep, k _ o (fun z => (hf _ z).2.1 rfl) ho, r⟩
 ·by_cases hb : b = p
  ·subst hb; rw [upd_same] at e; cases e; exact new
  ·rw [upd_ne hb] at e
   refine (I.hok b u e).stay (fun c v hc q => k c v ?_ q) (fun c q => old c _ q) fun c xs q => old c _ q
   rcases hc with z | z
   ·rw [z]; exact off b u e
   ·exact off c _ z
def Itz (K : Fg) (a b : Addr) : It :=
 ⟨fun i H => ∃ xs ys x y, SqT K H a xs /\ SqT K H b ys /\ xs[i]? = some x /\ ys[i]? = some y,
  fun i H v H' => ∃ p x y, H p = none /\ v = .ref p /\ H' = upd H p (.tup [x, y]) /\ (∀ xs, SqT K H a xs -> xs[i]? = some x) /\ ∀ ys, SqT K H b ys -> ys[i]? = some y,
  fun i H => ∃ xs ys, SqT K H a xs /\ SqT K H b ys /\ (xs.length ≤ i ∨ ys.length ≤ i)⟩
def ZSt (z TI TO i1 i2 a b : Addr) (i : Nat) (h : Heap) : Prop := IsZip h z TI TO .none /\ IsPair h TI (.ref i1) (.ref i2) /\ (∃ u v, IsPair h TO u v) /\ h.IsTupleIter i1 a i /\ h.IsTupleIter i2 b i
abbrev zA (h : Heap) (a : Addr) : Heap := h.push { cls := .type "tuple_iterator", data := .fields #[.ref a, .int 0 0] }
abbrev zB (h : Heap) (a b : Addr) : Heap := zA (zA h a) b
abbrev zC (h : Heap) (a b : Addr) : Heap := (zB h a b).push { cls := .type "tuple", data := .seq #[.ref h.objs.size, .ref (zA h a).objs.size] }
abbrev zD (h : Heap) (a b : Addr) : Heap := (zC h a b).push { cls := .type "tuple", data := .seq #[.none, .none] }
abbrev zE (h : Heap) (a b : Addr) : Heap := (zD h a b).push { cls := .type "zip", data := .fields #[.none, .bool false, .bool false, .ref (zB h a b).objs.size, .ref (zC h a b).objs.size] }
def iZip (K : Fg) (ta : TA) : TI := fun σ H R => ta σ H fun vs H1 => ∃ a b, vs = [.ref a, .ref b] /\ (∃ xs, SqT K H1 a xs) /\ (∃ ys, SqT K H1 b ys) /\ R (Itz K a b) H1
def IteT (K : Fg) (a : Addr) : It :=
 ⟨fun i H => ∃ xs x, SqT K H a xs /\ xs[i]? = some x,
  fun i H v H' => ∃ p x, H p = none /\ v = .ref p /\ H' = upd H p (.tup [.int i, x]) /\ ∀ xs, SqT K H a xs -> xs[i]? = some x,
  fun i H => ∃ xs, SqT K H a xs /\ xs.length ≤ i⟩
def iEnT (K : Fg) (ta : TA) : TI := fun σ H R => ta σ H fun vs H1 => ∃ a, vs = [.ref a] /\ (∃ xs, SqT K H1 a xs) /\ R (IteT K a) H1
def IteL (K : Fg) (a : Addr) : It :=
 ⟨fun i H => ∃ xs x, SqL K H a xs /\ xs[i]? = some x,
  fun i H v H' => ∃ p x, H p = none /\ v = .ref p /\ H' = upd H p (.tup [.int i, x]) /\ ∀ xs, SqL K H a xs -> xs[i]? = some x,
  fun i H => ∃ xs, SqL K H a xs /\ xs.length ≤ i⟩
def iEnL (K : Fg) (ta : TA) : TI := fun σ H R => ta σ H fun vs H1 => ∃ a, vs = [.ref a] /\ (∃ xs, SqL K H1 a xs) /\ R (IteL K a) H1
section
variable {prog : Program} {w : World} {A : Around} {E : VSP}
end
def gLst (K : Fg) (n : Nat) (t : TGs) : TG := fun v σ H Q => ∃ a xs, v = .ref a /\ SqL K H a xs /\ xs.length = n /\ t xs σ H Q
section
variable {prog : Program} {w : World} {A : Around} {E : VSP} {s : Shared}
open HT in
theorem tuple_whole {t sl : Addr} {items : Array Value} {vl vu : Value} {lo hi : Option Int} {Q : VSP} (ht : IsTup s.heap t items) (hs : s.heap.IsSliceOf sl vl vu .none) (pl : IsPart vl lo) (pu : IsPart vu hi)
  (h1 : sIx items.size 0 lo = 0) (h2 : sIx items.size items.size hi = items.size) (h : Q (.ref t) s) : wpAny (model prog w) A (getItem (.ref t) (.ref sl)) Q E s := by
 obtain ⟨os, hos, hcs, hds⟩ := id hs
 have hTs : s.TypeIs (.ref sl) "slice" := ⟨os, hos, hcs⟩
 unfold getItem
 try with_reducible refine wpAny_holding ?_
 first | refine wpAny_bind (wpAny_pure ?_) | skip
 refine wpAny_bind (wpAny_sequenceKey ht.typeIs (by decide) ?_)
 refine wpAny_bind (wpAny_callSpecial?_slot (name := Str.ofString "__getitem__") ht.typeIs PyProof.Rows.slot_tuple_getitem
  (wpAny_call_entry PyProof.Rows.slot_tuple_getitem ht.typeIs entry_tuple_getitem ?_ (args_tuple_getitem _ _)))
 show wpAny _ _ (Builtin.Tuple.tupleItemsOf (.ref t) >>= _) _ _ s
 refine wpAny_bind (tupleItemsOf_ ht ?_)
 refine wpAny_bind (wpAny_typeOf hTs ?_)
 rw [if_pos (by decide)]
 refine wpAny_bind (sliceApplied_gen hs pl pu ?_)
 have hyes : ((((sIx items.size 0 lo : Nat) : Int) == 0 && (1 : Int) == 1 && (sIx items.size items.size hi - sIx items.size 0 lo) == items.size) = true) := by
  rw [h1, h2]; simp
 show wpAny _ _ (if (((sIx items.size 0 lo : Nat) : Int) == 0 && (1 : Int) == 1 && (sIx items.size items.size hi - sIx items.size 0 lo) == items.size) = true then _ else _) _ _ s
 rw [if_pos hyes]
 refine wpAny_bind ?_
 unfold Builtin.Tuple.tupleIsExact
 refine wpAny_bind (wpAny_typeOf ht.typeIs ?_)
 refine wpAny_pure ?_
 rw [if_pos (by decide)]
 exact wpAny_bind (wpAny_rule (wpAny_pure ⟨_, rfl, wpAny_pure h⟩))
end
def rSlW (K : Fg) : V -> Option Int -> Option Int -> Hp -> VK -> Prop := fun x lo hi H Q => ∃ a xs, x = .ref a /\ SqT K H a xs /\ HT.sIx xs.length 0 lo = 0 /\ HT.sIx xs.length xs.length hi = xs.length /\ Q (.ref a) H
theorem sl_tupW {X : Cx} : SlR X (rSlW X.K) := by
 intro pins s σ H x v vl vu lo hi sl Q I rx hs pl pu h
 obtain ⟨a, xs, rfl, hx, h1, h2, q⟩ := h
 cases rx
 obtain ⟨its, r, ht, hz⟩ := I.tuple hx
 have hlen : its.toArray.size = xs.length := by rw [List.size_toArray]; exact r.length.symm
 refine ⟨"tuple", _, PyProof.Rows.slot_tuple_getitem.lookup, ht.typeIs, ?_⟩
 exact tuple_whole ht hs pl pu (by rw [hlen]; exact h1) (by rw [hlen]; exact h2) ⟨.ref a, H, I, rfl, q⟩
theorem sl_tupA {X : Cx} : SlR X (fun x lo hi H Q => rSlW X.K x lo hi H Q ∨ rSlT X.K x lo hi H Q) := SlR.or sl_tupW sl_tup
end B
namespace B
theorem mkR_eq {a b c d : Int} (hb : 0 < b) (hd : 0 < d) (e : a * d = c * b) : mkR a b = mkR c d := by
 have hr := mkR_red (a := c) hd
 have hc := mkR_cross (a := c) hd
 generalize mkR c d = m at hr hc ⊢
 refine mkR_uniq hb hr.pos hr.cop ?_
 refine Int.eq_of_mul_eq_mul_right (show d ≠ 0 by omega) ?_
 have e1 : m.1 * b * d = m.1 * d * b := by ac_rfl
 have e2 : a * m.2 * d = a * d * m.2 := by ac_rfl
 rw [e1, hc, e2, e]
 ac_rfl
structure Bq (D N : Nat) (r : R) : Prop where
 pos : 0 < r.2
 cop : Int.gcd r.1 r.2 = 1
 dvd : r.2 ∣ (D : Int)
 le : r.1.natAbs ≤ N * r.2.natAbs
theorem Bq.red {D N : Nat} {r : R} (h : Bq D N r) : Red r := ⟨h.pos, h.cop⟩
theorem bq_mk {D N : Nat} {a b : Int} (hb : 0 < b) (hd : b ∣ (D : Int)) (hl : a.natAbs ≤ N * b.natAbs) : Bq D N (mkR a b) := by
 obtain ⟨g, x, y, e0, gp, e1, e2, c⟩ := gcd_parts (a := a) hb
 have yp := pos_of hb gp e2
 have e : mkR a b = (x, y) := by
  unfold mkR
  rw [e0, show a / g = x by rw [e1]; exact Int.mul_ediv_cancel_left _ (by omega), show b / g = y by rw [e2]; exact Int.mul_ediv_cancel_left _ (by omega)]
 rw [e]
 refine ⟨yp, c, Int.dvd_trans ⟨g, by rw [e2, Int.mul_comm]⟩ hd, ?_⟩
 rw [e1, e2, Int.natAbs_mul, Int.natAbs_mul] at hl
 have gn : 0 < g.natAbs := by omega
 refine Nat.le_of_mul_le_mul_left (c := g.natAbs) ?_ gn
 show g.natAbs * x.natAbs ≤ g.natAbs * (N * y.natAbs)
 rw [Nat.mul_left_comm]
 exact hl
theorem Bq.mono {D N D' N' : Nat} {r : R} (h : Bq D N r) (hd : D ∣ D') (hn : N ≤ N') : Bq D' N' r :=
 ⟨h.pos, h.cop, Int.dvd_trans h.dvd (Int.ofNat_dvd.mpr hd), Nat.le_trans h.le (Nat.mul_le_mul_right _ hn)⟩
theorem Bq.plus {D N M : Nat} {r q : R} (hD : 0 < D) (h : Bq D N r) (k : Bq D M q) : Bq D (N + M) (plusR r q) := by
 obtain ⟨y, ey⟩ := h.dvd
 obtain ⟨v, ev⟩ := k.dvd
 have dp : (0 : Int) < (D : Int) := by omega
 have e : plusR r q = mkR (r.1 * y + q.1 * v) (D : Int) := by
  unfold plusR
  refine mkR_eq (Int.mul_pos h.pos k.pos) dp ?_
  rw [Int.add_mul, Int.add_mul]
  have a1 : r.1 * q.2 * (D : Int) = r.1 * y * (r.2 * q.2) := by rw [ey]; ac_rfl
  have a2 : q.1 * r.2 * (D : Int) = q.1 * v * (r.2 * q.2) := by rw [ev]; ac_rfl
  rw [a1, a2]
 rw [e]
 refine bq_mk dp (Int.dvd_refl _) ?_
 have b1 : (r.1 * y).natAbs ≤ N * D := by
  have : (D : Int).natAbs = r.2.natAbs * y.natAbs := by rw [ey, Int.natAbs_mul]
  rw [Int.natAbs_mul]
  have z := Nat.mul_le_mul_right y.natAbs h.le
  rw [Nat.mul_assoc, ← this] at z
  simpa using z
 have b2 : (q.1 * v).natAbs ≤ M * D := by
  have : (D : Int).natAbs = q.2.natAbs * v.natAbs := by rw [ev, Int.natAbs_mul]
  rw [Int.natAbs_mul]
  have z := Nat.mul_le_mul_right v.natAbs k.le
  rw [Nat.mul_assoc, ← this] at z
  simpa using z
 have b3 := Int.natAbs_add_le (r.1 * y) (q.1 * v)
 have b4 : (D : Int).natAbs = D := Int.natAbs_natCast D
 rw [b4, Nat.add_mul]
 omega
theorem Bq.neg {D N : Nat} {r : R} (h : Bq D N r) : Bq D N (-r.1, r.2) := ⟨h.pos, by show Int.gcd (-r.1) r.2 = 1; rw [Int.neg_gcd]; exact h.cop, h.dvd, by show (-r.1).natAbs ≤ _; rw [Int.natAbs_neg]; exact h.le⟩
theorem Bq.minus {D N M : Nat} {r q : R} (hD : 0 < D) (h : Bq D N r) (k : Bq D M q) : Bq D (N + M) (minusR r q) := by
 rw [← minus_eq]
 exact h.plus hD k.neg
theorem Bq.times {D N E M : Nat} {r q : R} (h : Bq D N r) (k : Bq E M q) : Bq (D * E) (N * M) (timesR r q) := by
 refine bq_mk (Int.mul_pos h.pos k.pos) ?_ ?_
 ·rw [Int.natCast_mul]; exact Int.mul_dvd_mul h.dvd k.dvd
 ·rw [Int.natAbs_mul, Int.natAbs_mul]
  have z := Nat.mul_le_mul h.le k.le
  calc r.1.natAbs * q.1.natAbs ≤ N * r.2.natAbs * (M * q.2.natAbs) := z
   _ = N * M * (r.2.natAbs * q.2.natAbs) := by ac_rfl
theorem Bq.bot {D N : Nat} {r : R} (hD : 0 < D) (h : Bq D N r) : r.2.natAbs ≤ D := by
 have := Int.natAbs_dvd_natAbs.mpr h.dvd
 rw [Int.natAbs_natCast] at this
 exact Nat.le_of_dvd hD this
theorem Bq.wf {D N n : Nat} {r : R} (h : Bq D N r) (hD : 0 < D) (h1 : D < 2 ^ n) (h2 : N * D < 2 ^ n) : Wf n r :=
 ⟨h.pos, Nat.lt_of_le_of_lt (Nat.le_trans h.le (Nat.mul_le_mul_left _ (h.bot hD))) h2, Nat.lt_of_le_of_lt (h.bot hD) h1, h.cop⟩
end B
namespace B
open PySem PySem.Spec L2 PyProof.Rows
inductive Rl where
 | pow (k : Int)
 | tab (rows : List (R × R))
def rowD : R × R := ((0, 1), (0, 1))
def slopeR (lo hi : R × R) : R := overR (minusR hi.2 lo.2) (minusR hi.1 lo.1)
def slp (rows : List (R × R)) (k : Nat) : R := slopeR (rows.getD k rowD) (rows.getD (k + 1) rowD)
def pOf (rows : List (R × R)) (s : R) : Nat := rows.countP fun r => lessR r.1 s
def qOf (rows : List (R × R)) (s : R) : Nat := rows.countP fun r => !lessR s r.1
def leftT (rows : List (R × R)) (s : R) : R := if pOf rows s = 0 then (0, 1) else slp rows (pOf rows s - 1)
def rightT (rows : List (R × R)) (s : R) : Option R := if qOf rows s < rows.length then some (slp rows (qOf rows s - 1)) else none
def powS (k : Int) (s : R) : R := timesR (k, 1) (powR s (k - 1).toNat)
def sidesOf : Rl -> R -> R × Option R
 | .pow k, s => (powS k s, some (powS k s))
 | .tab rows, s => (leftT rows s, rightT rows s)
def Inc (rows : List (R × R)) : Prop := rows.Pairwise fun a b => lessR a.1 b.1 = true
def AllP (rows : List (R × R)) : Prop := ∀ r ∈ rows, 0 < r.1.2
abbrev D0 : Nat := 5822723907000000000
abbrev N0 : Nat := 1000000007
abbrev N1 : Nat := 17179869184
abbrev NR : Nat := 11000000077
abbrev N2 : Nat := 1180591620717411303424
structure RowsOk (rows : List (R × R)) : Prop where
 n2 : 2 ≤ rows.length
 n12 : rows.length ≤ 12
 inc : Inc rows
 zero : ∃ y, rows[0]? = some ((0, 1), y)
 sp : ∀ r ∈ rows, Bq D0 NR r.1
 pw : ∀ r ∈ rows, Bq (D0 * D0) N2 r.2
def RlOk : Rl -> Prop
 | .pow k => 2 ≤ k /\ k ≤ 4
 | .tab rows => RowsOk rows
structure SpOk (s : R) : Prop where
 bq : Bq (D0 * 2) N1 s
 nn : 0 ≤ s.1
def Below : Rl -> R -> Prop
 | .pow _, _ => True
 | .tab rows, s => ∃ r, rows[rows.length - 1]? = some r /\ lessR r.1 s = false
def lAt (rows : List (R × R)) (s : R) (i : Nat) : R := if 0 < pOf rows s /\ pOf rows s - 1 < i then slp rows (pOf rows s - 1) else (0, 1)
def rAt (rows : List (R × R)) (s : R) (i : Nat) : Option R := if 0 < qOf rows s /\ qOf rows s - 1 < i then some (slp rows (qOf rows s - 1)) else none
def powAt (k : Int) (s : R) (j : Nat) : R := mkR (k * s.1 ^ j) (s.2 ^ j)
def bearM (l : R) (r : Option R) (g : R) : Bool := !lessR g l && (match r with | none => true | some x => !lessR x g)
end B
namespace B
def val (r : R) : Rat := (r.1 : Rat) / (r.2 : Rat)
theorem ne_cast {b : Int} (h : 0 < b) : (b : Rat) ≠ 0 := fun z => by
 have : b = 0 := Rat.intCast_inj.mp (by rw [z]; rfl)
 omega
theorem val_of {r : R} {a b : Int} (hr : 0 < r.2) (hb : (b : Rat) ≠ 0) (h : r.1 * b = a * r.2) : val r = (a : Rat) / (b : Rat) := by
 have h2 : (r.1 : Rat) * (b : Rat) = (a : Rat) * (r.2 : Rat) := by rw [← Rat.intCast_mul, ← Rat.intCast_mul, h]
 have h1 := ne_cast hr
 unfold val
 generalize (r.1 : Rat) = x at *
 generalize (r.2 : Rat) = y at *
 generalize (a : Rat) = u at *
 generalize (b : Rat) = v at *
 grind
theorem val_mk {a b : Int} (hb : 0 < b) : val (mkR a b) = (a : Rat) / (b : Rat) := val_of (mkR_red hb).pos (ne_cast hb) (mkR_cross hb)
theorem val_plus {r q : R} (hr : 0 < r.2) (hq : 0 < q.2) : val (plusR r q) = val r + val q := by
 unfold plusR
 rw [val_mk (Int.mul_pos hr hq)]
 have h1 := ne_cast hr
 have h2 := ne_cast hq
 unfold val
 rw [Rat.intCast_add, Rat.intCast_mul, Rat.intCast_mul, Rat.intCast_mul]
 generalize (r.1 : Rat) = x at *
 generalize (r.2 : Rat) = y at *
 generalize (q.1 : Rat) = u at *
 generalize (q.2 : Rat) = v at *
 grind
theorem val_times {r q : R} (hr : 0 < r.2) (hq : 0 < q.2) : val (timesR r q) = val r * val q := by
 unfold timesR
 rw [val_mk (Int.mul_pos hr hq)]
 have h1 := ne_cast hr
 have h2 := ne_cast hq
 unfold val
 rw [Rat.intCast_mul, Rat.intCast_mul]
 generalize (r.1 : Rat) = x at *
 generalize (r.2 : Rat) = y at *
 generalize (q.1 : Rat) = u at *
 generalize (q.2 : Rat) = v at *
 grind
theorem val_inj {r q : R} (hr : Red r) (hq : Red q) (h : val r = val q) : r = q := by
 have h1 := ne_cast hr.pos
 have h2 := ne_cast hq.pos
 have e : r.1 * q.2 = q.1 * r.2 := by
  refine Rat.intCast_inj.mp ?_
  rw [Rat.intCast_mul, Rat.intCast_mul]
  unfold val at h
  generalize (r.1 : Rat) = x at *
  generalize (r.2 : Rat) = y at *
  generalize (q.1 : Rat) = u at *
  generalize (q.2 : Rat) = v at *
  grind
 have e1 : mkR r.1 r.2 = (r.1, r.2) := mkR_uniq hr.pos hr.pos hr.cop rfl
 have e2 : mkR r.1 r.2 = (q.1, q.2) := mkR_uniq hr.pos hq.pos hq.cop e.symm
 exact e1.symm.trans e2
theorem val_zero {r : R} (hr : 0 < r.2) : val r = 0 ↔ r.1 = 0 := by
 have h1 := ne_cast hr
 unfold val
 constructor
 ·intro h
  refine Rat.intCast_inj.mp ?_
  show (r.1 : Rat) = ((0 : Int) : Rat)
  rw [show ((0 : Int) : Rat) = 0 from rfl]
  generalize (r.1 : Rat) = x at *
  generalize (r.2 : Rat) = y at *
  grind
 ·intro h
  rw [h]
  show ((0 : Int) : Rat) / _ = 0
  rw [show ((0 : Int) : Rat) = 0 from rfl]
  generalize (r.2 : Rat) = y at *
  grind
end B
namespace B
def slV (rows : List (R × R)) (i : Nat) : Rat := (val (rows.getD (i + 1) rowD).2 - val (rows.getD i rowD).2) / (val (rows.getD (i + 1) rowD).1 - val (rows.getD i rowD).1)
section
variable {s p : Nat -> Rat} {n : Nat}
def sl (s p : Nat -> Rat) (i : Nat) : Rat := (p (i + 1) - p i) / (s (i + 1) - s i)
end
end B
namespace B
open PySem PySem.Spec L2 PyProof.Rows
structure QE (X : Cx) (e : Expr) (t : TE) : Prop where
 p : PE X e t
structure QT (X : Cx) (e : Expr) (t : TT) : Prop where
 p : PT X e t
structure QW (X : Cx) (e : Expr) (t : TT) : Prop where
 p : PW X e t
structure QA (X : Cx) (es : List Expr) (t : TA) : Prop where
 p : PA X es t
structure QS (X : Cx) (st : Stmt) (t : TS) : Prop where
 p : PS X st t
structure QSs (X : Cx) (st : List Stmt) (t : TS) : Prop where
 p : PSs X st t
structure QI (X : Cx) (tg iter : Expr) (wi : TI) : Prop where
 p : PI X tg iter wi
structure QG (X : Cx) (target : Expr) (t : TG) : Prop where
 p : PG X target t
structure QGs (X : Cx) (ts : List Expr) (t : TGs) : Prop where
 p : PGs X ts t
theorem QSs.ok {X : Cx} {b : List Stmt} {t : TS} {D : Ends} {σ : L2.St} {H : Hp} (h : QSs X b t) (r : t D σ H) : ∃ t : TS, PSs X b t /\ t D σ H := ⟨t, h.p, r⟩
structure QO (X : Cx) (o : Option Expr) (t : L2.TO) : Prop where
 p : PO X o t
section
set_option autoImplicit true
set_option relaxedAutoImplicit true
theorem qv  (i : Nat) {x : Str} {pos : Pos} (hN : X.N[i]? = some x := by rfl) (hv : Vis X.env.scope x := by first | exact Or.inl rfl | exact Or.inr (Or.inl rfl) | exact Or.inr (Or.inr rfl)) (hd : (x == ("__debug__" : Str)) = false := by decide) (hcd : (x == ("__classdict__" : Str)) = false := by decide) : QE X (.Name x pos) (tVar i) := ⟨pv i hN hv hd hcd⟩
theorem qe_int  {i j pos} : QE X (.Constant (.int i) j pos) (tC (.int i)) := ⟨pe_int ⟩
theorem qe_bl  {b j pos} : QE X (.Constant (.bool b) j pos) (tC (.bl b)) := ⟨pe_bl ⟩
theorem qe_non  {j pos} : QE X (.Constant .none j pos) (tC .non) := ⟨pe_non ⟩
theorem qe_str  {x j pos} : QE X (.Constant (.str x) j pos) (tC (.str x)) := ⟨pe_str ⟩
theorem qe_glob  {x : Str} {v : V} {u : Value} {pos : Pos} (hg : Gl X x) (hm : X.mg x = some u) (r : RelV v u) (hd : (x == ("__debug__" : Str)) = false := by decide) : QE X (.Name x pos) (tC v) := ⟨pe_glob hg hm r hd⟩
theorem qe_bltn  {x : Str} {v : V} {u : Value} {pos : Pos} (hg : Gl X x) (hm : X.mg x = none) (hv : bootBuiltins x = some u) (r : RelV v u) (hn : x ≠ "__name__" := by decide) (hd : (x == ("__debug__" : Str)) = false := by decide) : QE X (.Name x pos) (tC v) := ⟨pe_bltn hg hm hv r hn hd⟩
theorem qe_un  {op : UnaryOp} {r : V -> Hp -> VK -> Prop} (ho : UnR X (unaryOp op) r) (ha : QE X a ta) : QE X (.UnaryOp op a pos) (tUn r ta) := ⟨pe_un ho ha.p⟩
theorem qe_not  (ha : QE X a ta) : QE X (.UnaryOp .Not a pos) (tNotV ta) := ⟨pe_not ha.p⟩
theorem qe_op  {op : Operator} {r : R2} (ho : OpR X (binaryOp op) r) (ha : QE X a ta) (hb : QE X b tb) : QE X (.BinOp a op b pos) (tOp r ta tb) := ⟨pe_op ho ha.p hb.p⟩
theorem qe_one  {op} {t : TE} (h : QE X a t) : QE X (.BoolOp op [a] pos) t := ⟨pe_one h.p⟩
theorem qe_and {rest : List Expr} (ha : QE X a ta) (hb : QE X (.BoolOp .And (b :: rest) pos) tb) : QE X (.BoolOp .And (a :: b :: rest) pos) (tAndV ta tb) := ⟨pe_and ha.p hb.p⟩
theorem qe_cmpR  {op : CmpOp} {r : R2} (ho : OpR X (compareOp op) r) (ha : QE X a ta) (hb : QE X b tb) (hm : behindInMarks op b = false) : QE X (.Compare a [op] [b] pos) (tOp r ta tb) := ⟨pe_cmpR ho ha.p hb.p hm⟩
theorem qe_chain  {op op' : CmpOp} {r r' : R2} (ho : OpR X (compareOp op) r) (ho' : OpR X (compareOp op') r') (ha : QE X a ta) (hb : QE X b tb) (hc : QE X c tc) (hm : lastMarks [op, op'] [b, c] = false := by with_unfolding_all rfl) : QE X (.Compare a [op, op'] [b, c] pos) (tChain r r' ta tb tc) := ⟨pe_chain ho ho' ha.p hb.p hc.p hm⟩
theorem qe_ifExp  {c : Expr} (hc : QT X c tA) (ha : QE X a ta) (hb : QE X b tb) : QE X (.IfExp c a b pos) (tIf tA ta tb) := ⟨pe_ifExp hc.p ha.p hb.p⟩
theorem qe_lst  (h : QA X es t) : QE X (.List es pos) (tLst t) := ⟨pe_lst h.p⟩
theorem qe_tup  {x1} (h : QA X es t) : QE X (.Tuple es x1 pos) (tTup t) := ⟨pe_tup h.p⟩
theorem qe_slice {lo hi : Option Expr} {r : V -> Option Int -> Option Int -> Hp -> VK -> Prop} (hr : SlR X r) (he : QE X e te) (hl : QO X lo tl) (hu : QO X hi th) : QE X (.Subscript e (.Slice lo hi none p2) pos) (tSl r te tl th) := ⟨pe_slice hr he.p hl.p hu.p⟩
theorem qo_none   : QO X none tNoPart := ⟨po_none ⟩
theorem qo_some  (h : QE X e te) : QO X (some e) (tPart te) := ⟨po_some h.p⟩
theorem qe_ix  {r : R2} (hr : IxR X r) (ha : QE X a ta) (hb : QE X b tb) (hs : PlainIx b) : QE X (.Subscript a b pos) (tOp r ta tb) := ⟨pe_ix hr ha.p hb.p hs⟩
theorem qe_call  (F : FnOk X.prog X.w X.K X.mg X.base CX k f fd ps sp) (hr : Room k X.A) (hg : Gl X x) (hm : X.mg x = some (.ref f)) (hk : PySem.W.keepIn X.K (.ref f) = true) (hb : Binds X.K fd ps ds) (hd : Vals dvs ds) (hx : Passes CX X E) (ha : QA X (e :: es) t) (hdb : (x == ("__debug__" : Str)) = false := by decide) (he : starEach (e :: es) X.env = (false, eval e X.env) :: starEach es X.env := by rfl) (hpl : (backTo pos (starEach es X.env)).any (·.1) = false := by rfl) : QE X (.Call (.Name x p) (e :: es) [] pos) (tCall sp dvs E t) := ⟨pe_call F hr hg hm hk hb hd hx ha.p hdb he hpl⟩
theorem qe_callB {id : String} (hc : CallR X (.builtin id) r) (hg : Gl X x) (hm : X.mg x = none) (hv : bootBuiltins x = some (.builtin id)) (ha : QA X (e :: es) t) (hn : x ≠ "__name__" := by decide) (hdb : (x == ("__debug__" : Str)) = false := by decide) (he : starEach (e :: es) X.env = (false, eval e X.env) :: starEach es X.env := by rfl) (hpl : (backTo pos (starEach es X.env)).any (·.1) = false := by rfl) : QE X (.Call (.Name x p) (e :: es) [] pos) (tCB r t) := ⟨pe_callB hc hg hm hv ha.p hn hdb he hpl⟩
theorem qe_callTy  (hc : CallR X (.type T) r) (hg : Gl X x) (hm : X.mg x = none) (hv : bootBuiltins x = some (.type T)) (ha : QA X (e :: es) t) (hn : x ≠ "__name__" := by decide) (hdb : (x == ("__debug__" : Str)) = false := by decide) (he : starEach (e :: es) X.env = (false, eval e X.env) :: starEach es X.env := by rfl) (hpl : (backTo pos (starEach es X.env)).any (·.1) = false := by rfl) : QE X (.Call (.Name x p) (e :: es) [] pos) (tCB r t) := ⟨pe_callTy hc hg hm hv ha.p hn hdb he hpl⟩
theorem qe_bm {id : String} (pa : PlainAttrs T) (slot : Slot T name id) (hty : typeOf (.builtin id) = pure (.type "method_descriptor")) (hm : MtR X id r) (ho : QE X o to) (ha : QA X (e :: es) t) (hbase : attributeBase o name X.env (eval o X.env) = eval o X.env := by rfl) (hfew : ((backTo cpos (starEach (e :: es) X.env)).all (fun x => !x.1) && (backToKw cpos (keywordEach [] X.env)).all (fun x => x.1.isSome)
   && decide ((e :: es).length + ([] : List Keyword).length + (if ([] : List Keyword).isEmpty then 0 else 1) < 30)) = true := by rfl) (hline : (apos.endLine == cpos.line) = true := by rfl) (hs : starEach (e :: es) X.env = (false, eval e X.env) :: starEach es X.env := by rfl) (hplain : (backTo cpos (starEach es X.env)).any (·.1) = false := by rfl) : QE X (.Call (.Attribute o name apos) (e :: es) [] cpos) (tBM X.K T r to t) := ⟨pe_bm pa slot hty hm ho.p ha.p hbase hfew hline hs hplain⟩
theorem qa_nil   : QA X [] tNil := ⟨pa_nil ⟩
theorem qa_cons  (ha : QE X e te) (hr : QA X es t) (hs : starEach (e :: es) X.env = (false, eval e X.env) :: starEach es X.env := by rfl) : QA X (e :: es) (tCons te t) := ⟨pa_cons ha.p hr.p hs⟩
theorem qt_cmpR  {op : CmpOp} {r : R2} (ho : OpR X (compareOp op) r) (ha : QE X a ta) (hb : QE X b tb) (hm : behindInMarks op b = false) : QT X (.Compare a [op] [b] pos) (tTest (tOp r ta tb)) := ⟨pt_cmpR ho ha.p hb.p hm⟩
theorem qt_chain  {op op' : CmpOp} {r r' : R2} (ho : OpR X (compareOp op) r) (ho' : OpR X (compareOp op') r') (ha : QE X a ta) (hb : QE X b tb) (hc : QE X c tc) (hm : lastMarks [op, op'] [b, c] = false := by with_unfolding_all rfl) : QT X (.Compare a [op, op'] [b, c] pos) (tTest (tChain r r' ta tb tc)) := ⟨pt_chain ho ho' ha.p hb.p hc.p hm⟩
theorem qt_val  {e : Expr} {t : TE} (h : QE X e t) (he : ∀ whole, isTrue e X.env whole = (do let v ← whole; standAt e.pos; holding [v] (truthy v)) := by intro _; rfl) : QT X e (tB t) := ⟨pt_val h.p he⟩
theorem qt_not  (ha : QT X a tA) : QT X (.UnaryOp .Not a pos) (tNot tA) := ⟨pt_not ha.p⟩
theorem qw_and {rest : List Expr} (ha : QT X a tA) (hb : QW X (.BoolOp .And (b :: rest) pos) tB') : QW X (.BoolOp .And (a :: b :: rest) pos) (tAnd tA tB') := ⟨pw_and ha.p hb.p⟩
theorem qw_and1  (ha : QT X a tA) : QW X (.BoolOp .And [a] pos) tA := ⟨pw_and1 ha.p⟩
theorem qw_or {rest : List Expr} (ha : QT X a tA) (hb : QW X (.BoolOp .Or (b :: rest) pos) tB') : QW X (.BoolOp .Or (a :: b :: rest) pos) (tOr tA tB') := ⟨pw_or ha.p hb.p⟩
theorem qw_or1  (ha : QT X a tA) : QW X (.BoolOp .Or [a] pos) tA := ⟨pw_or1 ha.p⟩
theorem qw_pt  {X : Cx} {e : Expr} {t : TT} (h : QW X e t) : QT X e t := ⟨PW.pt h.p⟩
theorem qs_set  {i : Nat} {x : Str} {e : Expr} {te : TE} {pos' : Pos} (hN : X.N.Nodup) (hi : X.N[i]? = some x) (hx : Loc X.env.scope x) (he : QE X e te) (hs : swapsWith e (some (.Name x pos')) pos.line X.env = pure false := by rfl) (hf : X.fn x = true ∨ X.env.scope.names.lookup x = some .local := by first | exact .inl rfl | exact .inr rfl | assumption) : QS X (.Assign [.Name x pos'] e pos) (tAsg te (gName i)) := ⟨ps_set hN hi hx he.p hs hf⟩
theorem qs_par  {i j : Nat} {x y : Str} {a b : Expr} {ta : TA} {px py pt : Pos} {kt k2 pt2} (hc : X.calm = true) (hN : X.N.Nodup) (hi : X.N[i]? = some x) (hj : X.N[j]? = some y) (hij : i ≠ j) (hx : X.env.scope.names.lookup x = some .local) (hy : X.env.scope.names.lookup y = some .local) (ha : QA X [a, b] ta) (hw : swappedStores [.Tuple [.Name x px, .Name y py] kt pt] (.Tuple [a, b] k2 pt2) X.env = pure (some [x, y])) (hs : swapsWithSole [.Tuple [.Name x px, .Name y py] kt pt] (.Tuple [a, b] k2 pt2) pos.line X.env = pure false := by rfl) : QS X (.Assign [.Tuple [.Name x px, .Name y py] kt pt] (.Tuple [a, b] k2 pt2) pos) (tPar i j ta) := ⟨ps_par hc hN hi hj hij hx hy ha.p hw hs⟩
theorem qs_asg  {tg e : Expr} {te : TE} {g : TG} (he : QE X e te) (hg : QG X tg g) (hs : swapsWithSole [tg] e pos.line X.env = pure false := by rfl) (hw : swappedStores [tg] e X.env = pure none := by rfl) (h1 : (assignEach [tg] X.env).map (·.2) = [assign tg X.env] := by rfl) : QS X (.Assign [tg] e pos) (tAsg te g) := ⟨ps_asg he.p hg.p hs hw h1⟩
theorem qs_if  {c : Expr} {a b : List Stmt} {tc : TT} (hc : QT X c tc) (ha : QSs X a t) (hb : QSs X b u) : QS X (.If c a b pos) (tIfS tc t u) := ⟨ps_if hc.p ha.p hb.p⟩
theorem qs_while  {c : Expr} {body : List Stmt} {tc : TT} {tb : TS} (hp : PassesOwn (model X.prog X.w) X.A X.env X.xe) (hc : QT X c tc) (hb : QSs X body tb) : QS X (.While c body [] pos) (tWhile tc tb) := ⟨ps_while hp hc.p hb.p⟩
theorem qs_for  {iter : Expr} {body : List Stmt} {wi : TI} {g : TG} {tb : TS} {pos : Pos} (hp : PassesOwn (model X.prog X.w) X.A X.env X.xe) (hc : X.calm = true) (hi : QI X tg iter wi) (hg : QG X tg g) (hb : QSs X body tb) (hs : ∀ x, foldedSetIterable iter X.env x = pure x := by intro _; rfl) : QS X (.For tg iter body [] pos) (tFor wi g tb) := ⟨ps_for hp hc hi.p hg.p hb.p hs⟩
theorem qs_ret  (he : QE X e te) : QS X (.Return (some e) pos) (tRet te) := ⟨ps_ret he.p⟩
theorem qs_expr  (he : QE X e te) (hs : swapsWith e none pos.line X.env = pure false := by rfl) : QS X (.Expr e pos) (tDrop te) := ⟨ps_expr he.p hs⟩
theorem qs_never {st : Stmt}  : QS X st tNever := ⟨ps_never ⟩
theorem qss_nil   : QSs X [] tNext := ⟨pss_nil ⟩
theorem qss_one {st : Stmt} (h1 : QS X st t) : QSs X [st] t := ⟨pss_one h1.p⟩
theorem qss_cons {st : Stmt} {rest : List Stmt} (h1 : QS X st t) (h2 : QSs X rest u) : QSs X (st :: rest) (tSeq t u) := ⟨pss_cons h1.p h2.p⟩
theorem qi_range1  {a : Expr} {ta : TA} {p pos : Pos} (hg : Gl X "range") (hm : X.mg "range" = none) (ha : QA X [a] ta) (hs : starEach [a] X.env = [(false, eval a X.env)] := by rfl) : QI X tg (.Call (.Name "range" p) [a] [] pos) (iRng1 ta) := ⟨pi_range1 hg hm ha.p hs⟩
theorem qi_range2  {a b : Expr} {ta : TA} {p pos : Pos} (hg : Gl X "range") (hm : X.mg "range" = none) (ha : QA X [a, b] ta) (hs : starEach [a, b] X.env = [(false, eval a X.env), (false, eval b X.env)] := by rfl) (hs2 : starEach [b] X.env = [(false, eval b X.env)] := by rfl) : QI X tg (.Call (.Name "range" p) [a, b] [] pos) (iRng2 ta) := ⟨pi_range2 hg hm ha.p hs hs2⟩
theorem qi_list {tg : Expr} {l : Expr} {tl : TE} (hl : QE X l tl) : QI X tg l (iList X.K tl) := ⟨pi_list hl.p⟩
theorem qi_tup  {l : Expr} {tl : TE} (hl : QE X l tl) : QI X tg l (iTup X.K tl) := ⟨pi_tup hl.p⟩
theorem qg_name  {i : Nat} {x : Str} (hN : X.N.Nodup) (hi : X.N[i]? = some x) (hx : Loc X.env.scope x) (hf : X.fn x = true ∨ X.env.scope.names.lookup x = some .local := by first | exact .inl rfl | exact .inr rfl | assumption) : QG X (.Name x pos) (gName i) := ⟨pg_name hN hi hx hf⟩
theorem qg_tup  {es : List Expr} {k : Nat} {t : TGs} {n : Nat} (hc : X.calm = true) (h : QGs X es t) (hn : (assignEach es X.env).length = n := by rfl) (hst : (assignEach es X.env).findIdx? (·.1) = none := by rfl) : QG X (.Tuple es k pos) (gTup X.K n t) := ⟨pg_tup hc h.p hn hst⟩
theorem qg_sub  {o i : Expr} {to ti : TE} {t : TSet} (ho : QE X o to) (hi : QE X i ti) (hs : PSet X t) (ha : ∀ v, assign (.Subscript o i pos) X.env v = (do
   let ov ← holding [v] (eval o X.env)
   let iv ← holding [v, ov] (eval i X.env)
   standAt pos
   holding [v, ov, iv] (setItem ov iv v)
   release [v, ov, iv] []) := by intro _; rfl) : QG X (.Subscript o i pos) (gSub to ti t) := ⟨pg_sub ho.p hi.p hs ha⟩
theorem qgs_nil   : QGs X [] gNil := ⟨pgs_nil ⟩
theorem qgs_cons  {e : Expr} {es : List Expr} {t : TG} {u : TGs} (h1 : QG X e t) (h2 : QGs X es u) (hs : (assignEach (e :: es) X.env).map (·.2) = assign e X.env :: (assignEach es X.env).map (·.2) := by rfl) : QGs X (e :: es) (gCons t u) := ⟨pgs_cons h1.p h2.p hs⟩
end
structure QTs (X : Cx) (ifs : List Expr) (t : TT) : Prop where
 p : PTs X ifs t
section
set_option autoImplicit true
set_option relaxedAutoImplicit true
theorem qts_nil  {X : Cx} : QTs X [] tYes := ⟨pts_nil ⟩
theorem qts_one  {X : Cx} {c : Expr} {t : TT} (h : QT X c t) : QTs X [c] t := ⟨pts_one h.p⟩
theorem qe_lcomp  (hc : X.calm = true) (hi : QI X tg iter wi) (hg : ∀ C fp pins s H, QG (cxC X N' scope cl C fp pins s H) tg g) (ht : ∀ C fp pins s H, QTs (cxC X N' scope cl C fp pins s H) ifs tt) (he : ∀ C fp pins s H, QE (cxC X N' scope cl C fp pins s H) elt te) (hfree : FreeOk X scope cl N' src) (hclos : closureFor scope X.env = pure cl) (hcell : ∀ x ∈ scope.names, x.2 ≠ .cell) (hkind : scope.kind = .function) (hnames : ∀ x ∈ scope.names, x.2 = .local -> scope.names.lookup x.1 = some .local) (hcl : CellsOk X scope cl) (hs : ∀ x, foldedSetIterable iter X.env x = pure x := by intro _; rfl) : QE X (.ListComp elt [⟨tg, iter, ifs, 0⟩] scope pos) (tComp wi src g tt te) := ⟨pe_lcomp hc hi.p (fun z0 z1 z2 z3 z4 => (hg z0 z1 z2 z3 z4).p) (fun z0 z1 z2 z3 z4 => (ht z0 z1 z2 z3 z4).p) (fun z0 z1 z2 z3 z4 => (he z0 z1 z2 z3 z4).p) hfree hclos hcell hkind hnames hcl hs⟩
theorem qs_setC  {i : Nat} {x : Str} {pos' pos2 : Pos} (hN : X.N.Nodup) (hi' : X.N[i]? = some x) (hx : Loc X.env.scope x) (hc : X.calm = true) (hi : QI X tg iter wi) (hg : ∀ C fp pins s H, QG (cxC X N' scope cl C fp pins s H) tg g) (ht : ∀ C fp pins s H, QTs (cxC X N' scope cl C fp pins s H) ifs tt) (he : ∀ C fp pins s H, QE (cxC X N' scope cl C fp pins s H) elt te) (hfree : FreeOk X scope cl N' src) (hclos : closureFor scope X.env = pure cl) (hcell : ∀ x ∈ scope.names, x.2 ≠ .cell) (hkind : scope.kind = .function) (hnames : ∀ x ∈ scope.names, x.2 = .local -> scope.names.lookup x.1 = some .local) (hcl : CellsOk X scope cl) (hs : ∀ x, foldedSetIterable iter X.env x = pure x := by intro _; rfl) (hsw : swapsWith (.ListComp elt [⟨tg, iter, ifs, 0⟩] scope pos) (some (.Name x pos')) pos2.line X.env = pure true := by rfl) (hf : X.fn x = true ∨ X.env.scope.names.lookup x = some .local := by first | exact .inl rfl | exact .inr rfl | assumption) : QS X (.Assign [.Name x pos'] (.ListComp elt [⟨tg, iter, ifs, 0⟩] scope pos) pos2) (tAsg (tComp wi src g tt te) (gName i)) := ⟨ps_setC hN hi' hx hc hi.p (fun z0 z1 z2 z3 z4 => (hg z0 z1 z2 z3 z4).p) (fun z0 z1 z2 z3 z4 => (ht z0 z1 z2 z3 z4).p) (fun z0 z1 z2 z3 z4 => (he z0 z1 z2 z3 z4).p) hfree hclos hcell hkind hnames hcl hs hsw hf⟩
end
section
variable {X : Cx} {K : Fg}
theorem ix_tupK (hK : X.K = K) : IxR X (rIxT K) := hK ▸ ix_tup
theorem ix_listK (hK : X.K = K) : IxR X (rIxL K) := hK ▸ ix_list
def rLen (K : Fg) : List V -> Hp -> VK -> Prop := fun xs H Q => ∃ p ys, xs = [.ref p] /\ (SqL K H p ys ∨ SqT K H p ys) /\ Q (.int ys.length) H
end
theorem star_bin {a b : Expr} {op : Operator} {pos : Pos} {es : List Expr} {env : Env} : starEach (.BinOp a op b pos :: es) env = (false, eval (.BinOp a op b pos) env) :: starEach es env := rfl
end B
namespace B
open PySem
section
variable {es : List Expr} {env : Env}
theorem star_tup {a b c} : starEach (.Tuple a b c :: es) env = (false, eval (.Tuple a b c) env) :: starEach es env := rfl
theorem star_lst {a b} : starEach (.List a b :: es) env = (false, eval (.List a b) env) :: starEach es env := rfl
theorem star_sub {a b c} : starEach (.Subscript a b c :: es) env = (false, eval (.Subscript a b c) env) :: starEach es env := rfl
theorem star_call {a b c d} : starEach (.Call a b c d :: es) env = (false, eval (.Call a b c d) env) :: starEach es env := rfl
theorem star_name {a b} : starEach (.Name a b :: es) env = (false, eval (.Name a b) env) :: starEach es env := rfl
theorem star_con {a b c} : starEach (.Constant a b c :: es) env = (false, eval (.Constant a b c) env) :: starEach es env := rfl
theorem star_un {a b c} : starEach (.UnaryOp a b c :: es) env = (false, eval (.UnaryOp a b c) env) :: starEach es env := rfl
theorem star_att {a b c} : starEach (.Attribute a b c :: es) env = (false, eval (.Attribute a b c) env) :: starEach es env := rfl
theorem star_lc {a b c d} : starEach (.ListComp a b c d :: es) env = (false, eval (.ListComp a b c d) env) :: starEach es env := rfl
end
end B
namespace B
open PySem L2 PyProof.Rows
inductive Als {α : Type} (P : V -> α -> Prop) : List V -> List α -> Prop where
 | nil : Als P [] []
 | cons {x : V} {d : α} {xs : List V} {ds : List α} (h : P x d) (t : Als P xs ds) : Als P (x :: xs) (d :: ds)
theorem Als.len {α : Type} {P : V -> α -> Prop} : ∀ {xs : List V} {ds : List α}, Als P xs ds -> xs.length = ds.length
 | _, _, .nil => rfl
 | _, _, .cons _ t => congrArg (· + 1) t.len
theorem Als.mono {α : Type} {P P' : V -> α -> Prop} (m : ∀ v d, P v d -> P' v d) : ∀ {xs : List V} {ds : List α}, Als P xs ds -> Als P' xs ds
 | _, _, .nil => .nil
 | _, _, .cons h t => .cons (m _ _ h) (t.mono m)
theorem Als.snoc {α : Type} {P : V -> α -> Prop} {x : V} {d : α} (k : P x d) : ∀ {xs : List V} {ds : List α}, Als P xs ds -> Als P (xs ++ [x]) (ds ++ [d])
 | _, _, .nil => .cons k .nil
 | _, _, .cons h t => .cons h (t.snoc k)
theorem Als.at {α : Type} {P : V -> α -> Prop} : ∀ {xs : List V} {ds : List α}, Als P xs ds -> ∀ {i : Nat} {x : V}, xs[i]? = some x -> ∃ d, ds[i]? = some d /\ P x d
 | _, _, .cons h _, 0, x, e => by
  rw [List.getElem?_cons_zero] at e
  cases e
  exact ⟨_, rfl, h⟩
 | _, _, .cons _ t, i + 1, x, e => t.at (i := i) (by rw [List.getElem?_cons_succ] at e; exact e)
 | _, _, .nil, _, _, e => by cases e
theorem Als.deep {α : Type} {K : Fg} {H : Hp} {P : V -> α -> Prop} {f : α -> PyData} (m : ∀ v d, P v d -> Deep K H v (f d)) : ∀ {xs : List V} {ds : List α}, Als P xs ds -> DeepAll K H xs (ds.map f)
 | _, _, .nil => .nil
 | _, _, .cons h t => .cons (m _ _ h) (t.deep m)
end B
namespace B
open PySem PySem.Spec L2 PyProof.Rows
section
set_option autoImplicit true
set_option relaxedAutoImplicit true
theorem qi_seq  {X : Cx} {tg l : Expr} {tl : TE} (hl : QE X l tl) : QI X tg l (iSeq X.K tl) := ⟨pi_seq hl.p⟩
end
def rEqD (K : Fg) : R2 := fun x y H Q => ∃ d d', Deep K H x d /\ Deep K H y d' /\ d.canLay0 = true /\ d'.canLay0 = true /\ d.depth ≤ 32 /\ Q (.bl (PyData.eqv d d')) H
theorem op_eqD {X : Cx} {k : Nat} (hr : Room k X.A) : OpR X (compareOp .Eq) (rEqD X.K) := by
 intro pins s σ H x y v u Q I rx ry h
 obtain ⟨d, d', hd, hd', c, c', dp, q⟩ := h
 obtain ⟨as, ra⟩ := Deep.reads I hd rx
 obtain ⟨bs, rb⟩ := Deep.reads I hd' ry
 exact SeqAt.compareEq_reads ra rb c c' (by have := hr.units; omega) ⟨.bl _, H, I, rfl, q⟩
def rIsiT (K : Fg) : List V -> Hp -> VK -> Prop := fun xs H Q => ∃ a ys n b, xs = [.ref a, .ty n] /\ SqT K H a ys /\ kitTT "tuple" n = some b /\ Q (.bl b) H
theorem call_isiT {X : Cx} : CallR X (.builtin "isinstance") (rIsiT X.K) := by
 intro pins s σ H xs us Q I r h
 obtain ⟨a, ys, n, b, rfl, hS, e, q⟩ := h
 obtain ⟨u, u2, rfl, rx, ry⟩ := vals2 r
 obtain rfl : u2 = Value.type n := ry
 cases (show u = Value.ref a from rx)
 obtain ⟨its, _, ⟨o, h1, h2, _⟩, _⟩ := I.tuple hS
 exact PySem.W.kia_one PySem.W.kitx_tuple I.kIn ⟨o, h1, h2⟩ (kit_of e) (fun z => nomatch z) fun tk => ⟨.bl b, H, I.tok tk, rfl, q⟩
section
set_option autoImplicit true
set_option relaxedAutoImplicit true
theorem qe_fldE  {X : Cx} {e : Expr} {f : Str} {pos : Pos} {ta : TE} {K : Fg} (hK : X.K = K) (he : QE X e ta) (hb : attributeBase e f X.env (eval e X.env) = eval e X.env) : QE X (.Attribute e f pos) (tFldE K ta f) := ⟨pe_fldE hK he.p hb⟩
theorem qs_fldE  (hex : X.ex = []) (ha : QE X o ta) (hv : QE X value tv) (hs : swapsWith value (some (.Attribute o f pos')) pos.line X.env = pure false) : QS X (.Assign [.Attribute o f pos'] value pos) (sFldE X.K ta tv f) := ⟨ps_fldE hex ha.p hv.p hs⟩
theorem qs_raiseD  {x : Str} {p cpos pos : Pos} {e : Expr} {es : List Expr} {t : TA} {E : XK} (M : XC X.K C f bm) (hbase : bm.contains (.type "BaseException") = true) (hex : X.ex = []) (tk : TakesD X E) (F : FnOk X.prog X.w X.K X.mg X.base CX0 k f fd ps sp) (hr : Room (k + 1) X.A) (hb : Binds X.K fd ps []) (hg : Gl X x) (hm : X.mg x = some (.ref C)) (ha : QA X (e :: es) t) (hdb : (x == ("__debug__" : Str)) = false := by decide) (he : starEach (e :: es) X.env = (false, eval e X.env) :: starEach es X.env := by rfl) (hpl : (backTo cpos (starEach es X.env)).any (·.1) = false := by rfl) : QS X (.Raise (some (.Call (.Name x p) (e :: es) [] cpos)) none pos) (tRaiseD C sp E t) := ⟨ps_raiseD M hbase hex tk F hr hb hg hm ha.p hdb he hpl⟩
theorem qs_tryAs {R : RX} {suite : List Stmt} {i : Nat} {n : Str} (hex : X.ex = []) (hst : X.stack = X.env :: X.outer) (hfr : X.env.frame = some X.env.locals) (hg : Gl X x) (hm : X.mg x = some u) (hN : X.N.Nodup) (hi : X.N[i]? = some n) (hn : X.env.scope.names.lookup n = some .local) (hb : ∀ pins, QSs (inTryD X pins R) body tb) (hs : ∀ e, QSs (inExc X e) (b₀ :: suite) th) (hd : (x == ("__debug__" : Str)) = false := by decide) : QS X (.Try body [.ExceptHandler (some (.Name x p)) (some n) (b₀ :: suite) hpos] [] [] pos) (tTryAs X.N i R (fun C => PySem.W.exmOne X.K (.ref C) u = some true) tb th) := ⟨ps_tryAs hex hst hfr hg hm hN hi hn (fun z0 => (hb z0).p) (fun z0 => (hs z0).p) hd⟩
end
end B
namespace L2
open PySem PySem.Spec PyProof.Rows
section
variable {κ : Type} [DecidableEq κ]
def valV (kvs : List (κ × V)) (k : κ) : Option V := (kvs.find? fun kv => decide (kv.1 = k)).map (·.2)
def putK (kvs : List (κ × V)) (k : κ) (v : V) : List (κ × V) :=
 if (kvs.any fun kv => decide (kv.1 = k)) = true then kvs.map (fun kv => if kv.1 = k then (kv.1, v) else kv) else kvs ++ [(k, v)]
def dropK (kvs : List (κ × V)) (k : κ) : List (κ × V) := kvs.filter fun kv => decide (kv.1 ≠ k)
theorem valV_pos {p : κ × V} {r : List (κ × V)} {k : κ} (e : p.1 = k) : valV (p :: r) k = some p.2 := by simp [valV, List.find?_cons, e]
theorem valV_neg {p : κ × V} {r : List (κ × V)} {k : κ} (e : ¬ p.1 = k) : valV (p :: r) k = valV r k := by simp [valV, List.find?_cons, e]
theorem valV_any (k : κ) : ∀ kvs : List (κ × V), (kvs.any fun kv => decide (kv.1 = k)) = (valV kvs k).isSome
 | [] => rfl
 | p :: r => by
  rw [List.any_cons]
  by_cases e : p.1 = k
  ·simp only [valV_pos e, decide_eq_true e, Bool.true_or, Option.isSome_some]
  ·rw [valV_neg e, decide_eq_false e, Bool.false_or]; exact valV_any k r
theorem length_putK (kvs : List (κ × V)) (k : κ) (v : V) : (putK kvs k v).length ≤ kvs.length + 1 := by
 unfold putK
 split
 ·rw [List.length_map]; omega
 ·rw [List.length_append, List.length_cons, List.length_nil]; omega
theorem RelO.isSome_eq {o : Option V} {u : Option Value} (r : RelO o u) : o.isSome = u.isSome := by
 cases o with
 | none => cases u with
  | none => rfl
  | some _ => exact (show False from r).elim
 | some _ => cases u with
  | none => exact (show False from r).elim
  | some _ => rfl
theorem RelO.getD {o : Option V} {u : Option Value} {d : V} {d' : Value} (r : RelO o u) (rd : RelV d d') : RelV (o.getD d) (u.getD d') := by
 cases o with
 | none => cases u with
  | none => exact rd
  | some _ => exact (show False from r).elim
 | some _ => cases u with
  | none => exact (show False from r).elim
  | some _ => exact r
theorem KV.val {kvs : List (κ × V)} {vs : List (κ × Value)} (r : KV kvs vs) (k : κ) : RelO (valV kvs k) (valueAt vs k) := by
 unfold KV at r
 induction r with
 | nil => exact True.intro
 | @cons p q ps qs h t ih =>
  obtain ⟨h1, h2⟩ := h
  by_cases e : p.1 = k
  ·have e' : q.1 = k := h1.symm.trans e
   have b : valueAt (q :: qs) k = some q.2 := by simp [valueAt, List.find?_cons, e']
   rw [valV_pos e, b]; exact h2
  ·have e' : ¬ q.1 = k := fun z => e (h1.trans z)
   have b : valueAt (q :: qs) k = valueAt qs k := by simp [valueAt, List.find?_cons, e']
   rw [valV_neg e, b]; exact ih
theorem KV.any {kvs : List (κ × V)} {vs : List (κ × Value)} (r : KV kvs vs) (k : κ) : (kvs.any fun kv => decide (kv.1 = k)) = vs.any fun kv => decide (kv.1 = k) := by
 unfold KV at r
 induction r with
 | nil => rfl
 | cons h t ih => rw [List.any_cons, List.any_cons, ih, h.1]
theorem KV.repl {kvs : List (κ × V)} {vs : List (κ × Value)} (r : KV kvs vs) (k : κ) {y : V} {u : Value} (ry : RelV y u) :
  KV (kvs.map fun kv => if kv.1 = k then (kv.1, y) else kv) (vs.map fun kv => if kv.1 = k then (kv.1, u) else kv) := by
 unfold KV at r ⊢
 induction r with
 | nil => exact .nil
 | @cons p q ps qs h t ih =>
  rw [List.map_cons, List.map_cons]
  refine .cons ?_ ih
  obtain ⟨h1, h2⟩ := h
  by_cases e : p.1 = k
  ·rw [if_pos e, if_pos (h1.symm.trans e)]; exact ⟨h1, ry⟩
  ·rw [if_neg e, if_neg (fun z => e (h1.trans z))]; exact ⟨h1, h2⟩
theorem KV.put {kvs : List (κ × V)} {vs : List (κ × Value)} (r : KV kvs vs) (k : κ) {y : V} {u : Value} (ry : RelV y u) : KV (putK kvs k y) (stored vs k u) := by
 unfold putK stored
 rw [r.any k]
 by_cases e : (vs.any fun kv => decide (kv.1 = k)) = true
 ·rw [if_pos e, if_pos e]; exact r.repl k ry
 ·rw [if_neg e, if_neg e]; exact Paired.snoc r ⟨rfl, ry⟩
theorem KV.length {kvs : List (κ × V)} {vs : List (κ × Value)} (r : KV kvs vs) : kvs.length = vs.length := Paired.length r
end
theorem kV_is {P : Program} {w : World} {k : Key} {u : Value} (r : RelV (kV k) u) : (mixKind P w).is k u = true := by
 cases k with
 | inl i => obtain ⟨t, e⟩ := (show ∃ t, u = Value.int i t from r); subst e; exact mixKind_int P w i t
 | inr x => obtain ⟨t, e⟩ := (show ∃ t, u = Value.str x t from r); subst e; exact mixKind_str P w x t
theorem items_are {P : Program} {w : World} : ∀ {ks : List Key} {us : List Value}, Vals (ks.map kV) us -> ItemsAre (mixKind P w) ks us
 | [], _, r => by rw [List.map_nil] at r; cases r; exact .nil
 | k :: ks, _, r => by
  rw [List.map_cons] at r
  cases r with
  | cons h t => exact .cons (kV_is h) (items_are t)
abbrev KT (H : Hp) : List (List Key × V) -> List (List Key × Addr × Value) -> Prop := Paired fun p q => p.1 = q.1 /\ H q.2.1 = some (.tup (p.1.map kV)) /\ RelV p.2 q.2.2
theorem KT.val {H : Hp} {kvs : List (List Key × V)} {xs : List (List Key × Addr × Value)} (r : KT H kvs xs) (k : List Key) : RelO (valV kvs k) ((atKey xs k).map (·.2)) := by
 induction r with
 | nil => exact True.intro
 | @cons p q ps qs h t ih =>
  obtain ⟨h1, _, h2⟩ := h
  by_cases e : p.1 = k
  ·have e' : q.1 = k := h1.symm.trans e
   have b : atKey (q :: qs) k = some q.2 := by simp [atKey, List.find?_cons, e']
   rw [valV_pos e, b]; exact h2
  ·have e' : ¬ q.1 = k := fun z => e (h1.trans z)
   have b : atKey (q :: qs) k = atKey qs k := by simp [atKey, List.find?_cons, e']
   rw [valV_neg e, b]; exact ih
theorem KT.repl {H : Hp} {kvs : List (List Key × V)} {xs : List (List Key × Addr × Value)} (r : KT H kvs xs) (k : List Key) {y : V} {u : Value} (ry : RelV y u) :
  KT H (kvs.map fun kv => if kv.1 = k then (kv.1, y) else kv) (xs.map (putAt k u)) := by
 induction r with
 | nil => exact .nil
 | @cons p q ps qs h t ih =>
  rw [List.map_cons, List.map_cons]
  refine .cons ?_ ih
  obtain ⟨h1, h2, h3⟩ := h
  unfold putAt
  by_cases e : p.1 = k
  ·rw [if_pos e, if_pos (h1.symm.trans e)]; exact ⟨h1, h2, ry⟩
  ·rw [if_neg e, if_neg (fun z => e (h1.trans z))]; exact ⟨h1, h2, h3⟩
theorem KT.put {H : Hp} {kvs : List (List Key × V)} {xs : List (List Key × Addr × Value)} (r : KT H kvs xs) (k : List Key) {b : Addr} {y : V} {u : Value} (hb : H b = some (.tup (k.map kV))) (ry : RelV y u) :
  KT H (putK kvs k y) (storedH xs k b u) := by
 have e : (kvs.any fun kv => decide (kv.1 = k)) = (atKey xs k).isSome := by
  rw [valV_any, (r.val k).isSome_eq, Option.isSome_map]
 unfold putK storedH
 rw [e]
 by_cases q : (atKey xs k).isSome = true
 ·rw [if_pos q, if_pos q]; exact r.repl k ry
 ·rw [if_neg q, if_neg q]; exact Paired.snoc r ⟨rfl, hb, ry⟩
theorem KT.keeps {H H' : Hp} {kvs : List (List Key × V)} {xs : List (List Key × Addr × Value)} (r : KT H kvs xs) (ht : ∀ b ys, H b = some (.tup ys) -> H' b = some (.tup ys)) : KT H' kvs xs :=
 Paired.mapP r fun _ _ z => ⟨z.1, ht _ _ z.2.1, z.2.2⟩
section
variable {P : Program} {w : World} {H : Hp} {h : Heap} {a : Addr}
theorem rd_of {u : HO} (ok : HOk P w H h) (e : Rd H a u) : ObjOk P w H h a u := e.ok ok
theorem dk_rd {kvs : List (Key × V)} (ok : HOk P w H h) (e : Rd H a (.dK kvs)) : kvs.length ≤ sizeLine /\ (a == sysModules) = false /\ ∃ vs, KV kvs vs /\ h.DictOf (mixKind P w) a vs :=
 show ObjOk P w H h a (.dK kvs) from rd_of ok e
theorem dk_of {kvs : List (Key × V)} (ok : HOk P w H h) (e : H a = some (.dK kvs)) : kvs.length ≤ sizeLine /\ (a == sysModules) = false /\ ∃ vs, KV kvs vs /\ h.DictOf (mixKind P w) a vs := dk_rd ok (.inl e)
theorem key_of {ks : List Key} (ok : HOk P w H h) (e : H a = some (.tup (ks.map kV))) : (tupleKind (mixKind P w)).is h ks a := by
 obtain ⟨_, its, r, o, h1, h2, n, h3⟩ := (show ObjOk P w H h a (.tup (ks.map kV)) from ok a _ e)
 exact ⟨o, its.toArray, n, h1, h2, h3, by simpa using items_are r⟩
theorem dt_rd {kvs : List (List Key × V)} (ok : HOk P w H h) (e : Rd H a (.dT kvs)) : kvs.length ≤ sizeLine /\ (a == sysModules) = false ∧
  ∃ xs, KT H kvs xs /\ h.DictOfH (tupleKind (mixKind P w)) a xs := by
 obtain ⟨z, y, xs, r, o, es, ep, h1, h2, h3, h4, h5⟩ := (show ObjOk P w H h a (.dT kvs) from rd_of ok e)
 refine ⟨z, y, xs, r, o, es, ep, h1, h2, h3, h4, fun x hx => ?_, h5⟩
 have all : ∀ {l : List (List Key × V)} {m : List (List Key × Addr × Value)}, KT H l m -> ∀ x ∈ m, (tupleKind (mixKind P w)).is h x.1 x.2.1 := by
  intro l m q
  induction q with
  | nil => intro x hx; exact nomatch hx
  | @cons p q ps qs hq t ih =>
   intro x hx
   rcases List.mem_cons.mp hx with e | hx
   ·subst e
    exact key_of ok (by rw [← hq.1]; exact hq.2.1)
   ·exact ih x hx
 exact all r x hx
theorem dt_of {kvs : List (List Key × V)} (ok : HOk P w H h) (e : H a = some (.dT kvs)) : kvs.length ≤ sizeLine /\ (a == sysModules) = false ∧
  ∃ xs, KT H kvs xs /\ h.DictOfH (tupleKind (mixKind P w)) a xs := dt_rd ok (.inl e)
end
def DGet (H : Hp) (a : Addr) (y : V) (r : Option V) : Prop :=
 (∃ kvs k, Rd H a (.dK kvs) /\ y = kV k /\ r = valV kvs k) ∨ ∃ kvs k b, Rd H a (.dT kvs) /\ y = .ref b /\ H b = some (.tup (k.map kV)) /\ r = valV kvs k
def DPut (H : Hp) (a : Addr) (y v : V) (H' : Hp) : Prop :=
 (∃ kvs k, H a = some (.dK kvs) /\ y = kV k /\ kvs.length < sizeLine /\ H' = upd H a (.dK (putK kvs k v))) ∨
 ∃ kvs k b, H a = some (.dT kvs) /\ y = .ref b /\ H b = some (.tup (k.map kV)) /\ kvs.length < sizeLine /\ H' = upd H a (.dT (putK kvs k v))
theorem DGet.k {H : Hp} {a : Addr} {kvs : List (Key × V)} {k : Key} (e : H a = some (.dK kvs)) : DGet H a (kV k) (valV kvs k) := .inl ⟨kvs, k, .inl e, rfl, rfl⟩
theorem DPut.k {H : Hp} {a : Addr} {kvs : List (Key × V)} {k : Key} {v : V} (e : H a = some (.dK kvs)) (hl : kvs.length < sizeLine) : DPut H a (kV k) v (upd H a (.dK (putK kvs k v))) := .inl ⟨kvs, k, e, rfl, hl, rfl⟩
section
variable {X : Cx} {pins : PLs} {σ : St} {H : Hp} {s : Shared} {a : Addr} {y v : V} {u r : Value} {o : Option V} {A : Around} {E : VSP}
theorem Inv.big (I : Inv X pins σ H s) : sysModules < s.heap.objs.size := by
 have h : mainGlobals < s.heap.objs.size := (I.mod.glob.keeps I.bk).lt
 exact Nat.lt_trans (by decide) h
theorem d_write {h' : Heap} {t' : Nat} {ob : HO} (I : Inv X pins σ H s) (mu : Mut (H a)) (hs : Heap.SameBut a s.heap h') (he : ∃ q, h'.get? a = some q) (new : ObjOk X.prog X.w (upd H a ob) h' a ob) :
  Inv X pins σ (upd H a ob) { s with heap := h', toks := t' } :=
 I.write (x := a) (e := a) mu (.inl rfl) (fun b q hb z => (hs.2 b hb).trans z) he new
theorem dk_new {P : Program} {w : World} {H' : Hp} {h' : Heap} {kvs : List (Key × V)} {vs : List (Key × Value)} (z : kvs.length ≤ sizeLine) (hd : (a == sysModules) = false) (rel : KV kvs vs) (dd : h'.DictOf (mixKind P w) a vs) :
  ObjOk P w H' h' a (.dK kvs) := ⟨z, hd, vs, rel, dd⟩
theorem d_setItem {H' : Hp} {Q : Unit -> Shared -> Prop} (hu : A.units + 1 < cLine) (I : Inv X pins σ H s) (g : DPut H a y v H') (ry : RelV y u) (rv : RelV v r) (h : ∀ s', Inv X pins σ H' s' -> Q () s') :
  wpAny (model X.prog X.w) A (setItem (.ref a) u r) Q E s := by
 rcases g with ⟨kvs, k, e, ey, l, eH⟩ | ⟨kvs, k, b, e, ey, eb, l, eH⟩
 ·subst ey eH
  obtain ⟨z, hd, vs, rel, dd⟩ := dk_of I.hok e
  have hz : vs.length ≤ sizeLine := by rw [← rel.length]; exact z
  have hl : (putK kvs k v).length ≤ sizeLine := by have := length_putK kvs k v; omega
  refine wpAny_setItem_pairs (hsz := hz) (kV_is ry) dd fun h' dd' hs => h _ ?_
  have he : ∃ q, h'.get? a = some q := let ⟨q, _, _, hq, _⟩ := dd'; ⟨q, hq⟩
  exact d_write I (by rw [e]; exact True.intro) hs he (dk_new hl hd (rel.put k rv) dd')
 ·subst ey eH
  cases (show u = Value.ref b from ry)
  obtain ⟨z, hd, xs, rel, dd⟩ := dt_of I.hok e
  have hz : xs.length ≤ sizeLine := by rw [← Paired.length rel]; exact z
  have hl : (putK kvs k v).length ≤ sizeLine := by have := length_putK kvs k v; omega
  refine wpAny_setItem_heap (hsz := hz) (tupleKind_room_in1 hu) (key_of I.hok eb) dd fun h' dd' hs => h _ ?_
  obtain ⟨q, es, ep, hq, h2, h3, h4, _, h5⟩ := dd'
  refine d_write I (by rw [e]; exact True.intro) hs ⟨q, hq⟩ ⟨hl, hd, _, (rel.put k eb rv).keeps fun c ys ec => ?_, q, es, ep, hq, h2, h3, h4, h5⟩
  rw [upd_ne (ne_of ec e (fun z => nomatch z))]
  exact ec
end
section
variable {X : Cx} {pins : PLs} {σ : St} {H : Hp} {s : Shared} {a : Addr} {kvs : List (Key × V)} {k : Key} {u : Value} {A : Around} {E : VSP}
end
def NoSl (i : Expr) : Prop := ∀ ov iv, subscripted i false ov iv = operate [ov, iv] (getItem ov iv)
def tDGet (td ty : TE) : TE := fun σ H Q => td σ H fun x H1 => ty σ H1 fun y H2 => ∃ a v, x = .ref a /\ DGet H2 a y (some v) /\ Q v H2
def tDIn (ty td : TE) : TE := fun σ H Q => ty σ H fun y H1 => td σ H1 fun x H2 => ∃ a o, x = .ref a /\ DGet H2 a y o /\ Q (.bl o.isSome) H2
def tDNotIn (ty td : TE) : TE := fun σ H Q => ty σ H fun y H1 => td σ H1 fun x H2 => ∃ a o, x = .ref a /\ DGet H2 a y o /\ Q (.bl (!o.isSome)) H2
def sDPut (td ty tv : TE) : TS := fun D σ H => tv σ H fun v H1 => td σ H1 fun x H2 => ty σ H2 fun y H3 => ∃ a H4, x = .ref a /\ DPut H3 a y v H4 /\ D.nx σ H4
def sDAug (td ty tv : TE) (rd : V -> V -> Hp -> VK -> Prop) : TS := fun D σ H => td σ H fun x H1 => ty σ H1 fun y H2 => ∃ a v, x = .ref a /\ DGet H2 a y (some v) ∧
 tv σ H2 fun y2 H3 => rd v y2 H3 fun z H4 => ∃ H5, DPut H4 a y z H5 /\ D.nx σ H5
section
variable {X : Cx} {o i e value : Expr} {pos pos' tpos : Pos} {td ty tv : TE}
theorem ps_dput (hu : X.A.units + 1 < cLine) (ho : PE X o td) (hi : PE X i ty) (hv : PE X value tv) (hs : swapsWith value (some (.Subscript o i pos')) pos.line X.env = pure false) :
  PS X (.Assign [.Subscript o i pos'] value pos) (sDPut td ty tv) := by
 intro pins s σ H D I h
 refine wpAny_Assign_Subscript (thn (hv pins s σ H _ I h) fun r s1 ⟨v, H1, I1, rv, q1⟩ => thn (ho pins s1 σ H1 _ I1 q1) fun u s2 ⟨x, H2, I2, rx, q2⟩ => thn (hi pins s2 σ H2 _ I2 q2) fun iv s3 ⟨y, H3, I3, ry, a, H4, ex, g, q3⟩ => ?_) hs
 subst ex
 obtain rfl : u = Value.ref a := rx
 exact d_setItem hu I3 g ry rv fun s4 I4 => ⟨σ, H4, I4, q3⟩
end
theorem dk_empty {P : Program} {w : World} {H : Hp} (h : Heap) (hb : sysModules < h.objs.size) : ObjOk P w H (h.push { cls := .type "dict", data := .dict #[] }) h.objs.size (.dK []) :=
 ⟨Nat.zero_le _, beq_eq_false_iff_ne.mpr (Ne.symm (Nat.ne_of_lt hb)), [], .nil, Heap.DictOf.new h⟩
def tDNewK : TE := fun _ H Q => ∀ p, H p = none -> Q (.ref p) (upd H p (.dK []))
section
variable {X : Cx} {pos : Pos}
theorem pe_dnewK : PE X (.Dict [] [] pos) tDNewK := fun pins s σ H Q I h =>
 wpAny_Dict_empty ⟨.ref s.heap.objs.size, _, I.laid (a := s.heap.objs.size) (o := .dK []) (t' := s.toks) (fun _ _ q => Heap.get?_push_of_some _ q) (Nat.le_refl _) (dk_empty s.heap I.big), rfl, h _ (I.hok.fresh (Nat.le_refl _))⟩
end
def tPairs : List (TE × TE) -> St -> Hp -> (List (V × V) -> Hp -> Prop) -> Prop
 | [], _, H, Q => Q [] H
 | (tk, tv) :: r, σ, H, Q => tk σ H fun x H1 => tv σ H1 fun y H2 => tPairs r σ H2 fun ps H3 => Q ((x, y) :: ps) H3
abbrev VV : List (V × V) -> List (Value × Value) -> Prop := Paired fun p q => RelV p.1 q.1 /\ RelV p.2 q.2
def PPs (X : Cx) (pos : Pos) (keys : List (Option Expr)) (values : List Expr) (trs : List (TE × TE)) : Prop :=
 ∀ (pins : PLs) (s : Shared) (σ : St) (H : Hp) (Q : List (V × V) -> Hp -> Prop), Inv X pins σ H s -> tPairs trs σ H Q →
  wpAny (model X.prog X.w) X.A (evalPairs (pairTrees keys values X.env pos)) (fun vs s' => ∃ ps H', Inv X pins σ H' s' /\ VV ps vs /\ Q ps H') X.xe s
def mergeK (kvs more : List (Key × V)) : List (Key × V) := more.foldl (fun acc kv => putK acc kv.1 kv.2) kvs
def tDisp (trs : List (TE × TE)) : TE := fun σ H Q => ∀ p, H p = none -> tPairs trs σ (upd H p (.dK [])) fun ps H2 => H2 p = some (.dK []) /\ ∃ kvs : List (Key × V), ps = kvs.map (fun kv => (kV kv.1, kv.2)) /\ kvs.length ≤ 15 /\ Q (.ref p) (upd H2 p (.dK (mergeK [] kvs)))
structure M1 (X : Cx) (o : Expr) (m : Str) (apos : Pos) (e : Expr) (cpos : Pos) : Prop where
 base : attributeBase o m X.env (eval o X.env) = eval o X.env
 few : ((backTo cpos (starEach [e] X.env)).all (fun x => !x.1) && (backToKw cpos (keywordEach [] X.env)).all (fun x => x.1.isSome)
  && decide (([e] : List Expr).length + ([] : List Keyword).length + (if ([] : List Keyword).isEmpty then 0 else 1) < 30)) = true
 line : (apos.endLine == cpos.line) = true
 trees : backTo cpos (starEach [e] X.env) = [(false, eval e X.env)]
structure M2 (X : Cx) (o : Expr) (m : Str) (apos : Pos) (e f : Expr) (cpos : Pos) : Prop where
 base : attributeBase o m X.env (eval o X.env) = eval o X.env
 few : ((backTo cpos (starEach [e, f] X.env)).all (fun x => !x.1) && (backToKw cpos (keywordEach [] X.env)).all (fun x => x.1.isSome)
  && decide (([e, f] : List Expr).length + ([] : List Keyword).length + (if ([] : List Keyword).isEmpty then 0 else 1) < 30)) = true
 line : (apos.endLine == cpos.line) = true
 trees : backTo cpos (starEach [e, f] X.env) = [(false, eval e X.env), (false, eval f X.env)]
def IsD (H : Hp) (a : Addr) : Prop := (∃ kvs, Rd H a (.dK kvs)) ∨ ∃ kvs, Rd H a (.dT kvs)
theorem isD_at {X : Cx} {pins : PLs} {σ : St} {H : Hp} {s : Shared} {a : Addr} (I : Inv X pins σ H s) (d : IsD H a) :
  s.TypeIs (.ref a) "dict" /\ (∀ b, Value.ref a = .ref b -> ∃ ob, s.heap.get? b = some ob /\ ob.dict = none) /\ (a == sysModules) = false := by
 rcases d with ⟨kvs, e⟩ | ⟨kvs, e⟩
 ·obtain ⟨_, hd, vs, _, dd⟩ := dk_rd I.hok e
  refine ⟨dd.typeIs, fun b q => ?_, hd⟩
  cases q
  obtain ⟨ob, _, _, h1, h2, _⟩ := dd
  exact ⟨ob, h1, h2.2.1⟩
 ·obtain ⟨_, hd, xs, _, dd⟩ := dt_rd I.hok e
  refine ⟨dd.typeIs, fun b q => ?_, hd⟩
  cases q
  obtain ⟨ob, _, _, h1, h2, _⟩ := dd
  exact ⟨ob, h1, h2.2.1⟩
section
variable {X : Cx} {pins : PLs} {σ : St} {H : Hp} {s : Shared} {a : Addr} {y d : V} {u r : Value} {o : Option V} {A : Around} {E : VSP}
theorem d_get2 {Q : VSP} (hu : A.units + 1 < cLine) (I : Inv X pins σ H s) (g : DGet H a y o) (ry : RelV y u) (rd : RelV d r) (h : ∀ w' s', Inv X pins σ H s' -> RelV (o.getD d) w' -> Q w' s') :
  wpAny (model X.prog X.w) A (call (.builtin "dict.get") [.ref a, u, r]) Q E s := by
 rcases g with ⟨kvs, k, e, ey, l⟩ | ⟨kvs, k, b, e, ey, eb, l⟩
 ·subst ey
  obtain ⟨z, hd, vs, rel, dd⟩ := dk_rd I.hok e
  refine call_meetsIn PySem.F.slot_dict_get dd.typeIs PySem.F.entry_dict_get (PySem.F.args_dict_get_3 _ _ _) (meets_dict_get_default (mixKind X.prog X.w) a (kV_is ry) hd r) ⟨_, dd.mapOf, h _ _ (I.tok _) ?_⟩
  rw [l]
  exact (rel.val k).getD rd
 ·subst ey
  cases (show u = Value.ref b from ry)
  obtain ⟨z, hd, xs, rel, dd⟩ := dt_rd I.hok e
  refine call_meetsIn PySem.F.slot_dict_get dd.typeIs PySem.F.entry_dict_get (PySem.F.args_dict_get_3 _ _ _) (meetsH_dict_get_default (tupleKind (mixKind X.prog X.w)) a b hd r) ⟨tupleKind_room_in1 hu, k, xs, key_of I.hok eb, dd, h _ _ (I.tok _) ?_⟩
  rw [l]
  exact (rel.val k).getD rd
end
def tDGet1 (td ty : TE) : TE := fun σ H Q => td σ H fun x H1 => ∃ a, x = .ref a /\ IsD H1 a /\ ty σ H1 fun y H2 => ∃ o, DGet H2 a y o /\ Q (o.getD .non) H2
def tDGet2 (td ty tx : TE) : TE := fun σ H Q => td σ H fun x H1 => ∃ a, x = .ref a /\ IsD H1 a /\ ty σ H1 fun y H2 => tx σ H2 fun z H3 => ∃ o, DGet H3 a y o /\ Q (o.getD z) H3
section
variable {X : Cx} {o e f : Expr} {apos cpos : Pos} {td ty tx : TE}
theorem pe_dget2 (hu : X.A.units + 1 < cLine) (ho : PE X o td) (he : PE X e ty) (hf : PE X f tx) (m : M2 X o "get" apos e f cpos) : PE X (.Call (.Attribute o "get" apos) [e, f] [] cpos) (tDGet2 td ty tx) := by
 intro pins s σ H Q I h
 refine wpAny_Call_method m.base m.few m.line PySem.F.plainAttrs_dict PySem.F.slot_dict_get PySem.F.type_dict_get (thn (ho pins s σ H _ I h) fun u s1 ⟨x, H1, I1, rx, a, ex, d, q1⟩ => ?_)
 subst ex
 obtain rfl : u = Value.ref a := rx
 obtain ⟨t1, t2, _⟩ := isD_at I1 d
 refine ⟨t1, t2, ?_⟩
 rw [m.trees]
 refine Calls.callWith_builtin rfl (Calls.evalArgs_plain (Calls.spliced_cons (thn (he pins s1 σ H1 _ I1 q1) fun iv s2 ⟨y, H2, I2, ry, q2⟩ =>
  Calls.spliced_cons (thn (hf pins s2 σ H2 _ I2 q2) fun fv s3 ⟨z, H3, I3, rz, ov, g, q3⟩ => Calls.spliced_nil ?_))))
 exact d_get2 hu I3 g ry rz fun w' s4 I4 rw' => ⟨_, H3, I4, rw', q3⟩
end
end L2
namespace B
open PySem PySem.Spec L2 PyProof.Rows
theorem comp_mapT {α β : Type} {K : Fg} {H : Hp} {D a : Addr} {xs : List V} {ds : List α} {P : Hp -> V -> β -> Prop} {f : α -> β} {src : List (Option Nat)} {σ : L2.St} {g : TG} {tt : TT} {te : TE} {Q : Hp -> Prop}
  (mono : ∀ H H' v d, Tst K H H' -> P H v d -> P H' v d) (hD : H D = none) (hS : SqT K H a xs) (hl : xs.length = ds.length) (hn : ds.length ≤ 1000)
  (turn : ∀ (i : Nat) (x : V) (d : α) (H' : Hp), xs[i]? = some x -> ds[i]? = some d -> Same H H' -> ∀ (R : VK) (E : Hp -> Prop), (∀ v H'', Same H' H'' -> P H'' v (f d) -> R v H'') →
   g x (frees src σ) H' fun σ2 H2 => Ext (frees src σ) σ2 /\ tt σ2 H2 fun ok H3 => if ok = true then te σ2 H3 R else E H3)
  (fin : ∀ H' ys, Same H H' -> H' D = some (.lst ys) -> Als (P H') ys (ds.map f) -> Q H') :
  ∃ W : Nat -> Nat -> List V -> Hp -> Prop, (∃ m, W 0 m [] (upd H D (.lst []))) /\ ∀ i m ys H, W i m ys H -> ((Itt K a).stop i H /\ Q H) ∨ ((Itt K a).go i H /\ ∀ x H', (Itt K a).yld i H x H' →
   g x (frees src σ) H' fun σ2 H2 => Ext (frees src σ) σ2 /\ tt σ2 H2 fun ok H3 =>
    if ok = true then te σ2 H3 fun y H4 => H4 D = some (.lst ys) /\ ys.length < sizeLine /\ ∃ m', m' < m /\ W (i + 1) m' (ys ++ [y]) (upd H4 D (.lst (ys ++ [y]))) else ∃ m', m' < m /\ W (i + 1) m' ys H3) := by
 refine ⟨fun i m ys H' => i ≤ ds.length /\ m = ds.length - i /\ H' D = some (.lst ys) /\ Same H H' /\ Als (P H') ys ((ds.take i).map f), ⟨_, Nat.zero_le _, rfl, upd_same, same_new hD _, .nil⟩, ?_⟩
 rintro i m ys H1 ⟨hi, rfl, d1, s1, al1⟩
 have hS1 : SqT K H1 a xs := Tst.same s1 _ _ hS
 by_cases hix : i < ds.length
 ·have hx0 : xs[i]? = some (xs[i]'(by omega)) := List.getElem?_eq_getElem _
  refine .inr ⟨⟨xs, _, hS1, hx0⟩, ?_⟩
  rintro x H2 ⟨rfl, hy⟩
  have hx := hy xs hS1
  obtain ⟨d, hd⟩ : ∃ d, ds[i]? = some d := ⟨_, List.getElem?_eq_getElem hix⟩
  refine turn i x d _ hx hd s1 _ _ fun v H3 s3 p3 => ?_
  have d3 : H3 D = some (.lst ys) := s3 _ _ d1
  have tm : Tst K H2 (upd H3 D (.lst (ys ++ [v]))) := (Tst.same s3).trans (Tst.up d3 _)
  refine ⟨d3, small1000 (by rw [al1.len, List.length_map, List.length_take]; omega), ds.length - (i + 1), by omega, hix, rfl, upd_same, fun b o q => ?_, ?_⟩
  ·rw [upd_ne (ne_of_none q hD)]
   exact s3 _ _ (s1 _ _ q)
  ·rw [List.take_add_one, hd, List.map_append]
   exact (al1.mono fun v d p => mono _ _ _ _ tm p).snoc (mono _ _ _ _ (Tst.up d3 _) p3)
 ·have e : i = ds.length := by omega
  subst e
  rw [List.take_length] at al1
  exact .inl ⟨⟨xs, hS1, by omega⟩, fin H1 ys s1 d1 al1⟩
def tyD : PyData -> String
 | .none => "NoneType"
 | .bool _ => "bool"
 | .int _ => "int"
 | .str _ => "str"
 | .list _ => "list"
 | .tuple _ => "tuple"
 | .dict _ => "dict"
def rIsiD (K : Fg) : List V -> Hp -> VK -> Prop := fun xs H Q => ∃ v d n b, xs = [v, .ty n] /\ Deep K H v d /\ kitTT (tyD d) n = some b /\ Q (.bl b) H
theorem call_isiD {X : Cx} : CallR X (.builtin "isinstance") (rIsiD X.K) := by
 intro pins s σ H xs us Q I r h
 obtain ⟨v, d, n, b, rfl, hD, e, q⟩ := h
 cases hD with
 | non => exact call_isi pins s σ H _ us Q I r ⟨_, n, _, b, rfl, .non, e, q⟩
 | bl c => exact call_isi pins s σ H _ us Q I r ⟨_, n, _, b, rfl, .bl c, e, q⟩
 | int i => exact call_isi pins s σ H _ us Q I r ⟨_, n, _, b, rfl, .int i, e, q⟩
 | str x => exact call_isi pins s σ H _ us Q I r ⟨_, n, _, b, rfl, .str x, e, q⟩
 | @tup a ys ds hS hA => exact call_isiT pins s σ H _ us Q I r ⟨a, ys, n, b, rfl, hS, e, q⟩
 | @lst a ys ds hS hA =>
  obtain ⟨u, u2, rfl, rx, ry⟩ := vals2 r
  obtain rfl : u2 = Value.type n := ry
  cases (show u = Value.ref a from rx)
  obtain ⟨its, _, ⟨o, k, h1, h2, _⟩, _⟩ := I.list hS
  exact PySem.W.kia_one PySem.W.kitx_list I.kIn ⟨o, h1, h2⟩ (kit_of e) (fun z => nomatch z) fun tk => ⟨.bl b, H, I.tok tk, rfl, q⟩
def wholeD : PyData -> Bool
 | .int _ => true
 | _ => false
def tupD (n : Nat) : PyData -> Bool
 | .tuple xs => decide (xs.length = n)
 | _ => false
def ratD : PyData -> Bool
 | .tuple [.int a, .int b] => decide (1 ≤ b) && decide (Int.gcd a b = 1)
 | _ => false
def pairD : PyData -> Bool
 | .tuple [x, y] => ratD x && ratD y
 | _ => false
theorem isi_int {K : Fg} {H : Hp} {v : V} {d : PyData} (h : Deep K H v d) : ∃ b c, kitTT (tyD d) "int" = some b /\ kitTT (tyD d) "bool" = some c /\ wholeD d = (b && !c) := by
 cases h with
 | non => exact ⟨false, false, by simp only [tyD]; decide +kernel, by simp only [tyD]; decide +kernel, rfl⟩
 | bl b => exact ⟨true, true, by simp only [tyD]; decide +kernel, by simp only [tyD]; decide +kernel, rfl⟩
 | int i => exact ⟨true, false, by simp only [tyD]; decide +kernel, by simp only [tyD]; decide +kernel, rfl⟩
 | str x => exact ⟨false, false, by simp only [tyD]; decide +kernel, by simp only [tyD]; decide +kernel, rfl⟩
 | lst e t => exact ⟨false, false, by simp only [tyD]; decide +kernel, by simp only [tyD]; decide +kernel, rfl⟩
 | tup e t => exact ⟨false, false, by simp only [tyD]; decide +kernel, by simp only [tyD]; decide +kernel, rfl⟩
theorem isi_tup {K : Fg} {H : Hp} {v : V} {d : PyData} (h : Deep K H v d) : (kitTT (tyD d) "tuple" = some true /\ ∃ a xs ds, v = .ref a /\ d = .tuple ds /\ SqT K H a xs /\ DeepAll K H xs ds) ∨ (kitTT (tyD d) "tuple" = some false /\ ∀ ds, d ≠ .tuple ds) := by
 cases h with
 | non => exact .inr ⟨by simp only [tyD]; decide +kernel, fun _ z => nomatch z⟩
 | bl b => exact .inr ⟨by simp only [tyD]; decide +kernel, fun _ z => nomatch z⟩
 | int i => exact .inr ⟨by simp only [tyD]; decide +kernel, fun _ z => nomatch z⟩
 | str x => exact .inr ⟨by simp only [tyD]; decide +kernel, fun _ z => nomatch z⟩
 | lst e t => exact .inr ⟨by simp only [tyD]; decide +kernel, fun _ z => nomatch z⟩
 | tup e t => exact .inl ⟨by simp only [tyD]; decide +kernel, _, _, _, rfl, rfl, e, t⟩
theorem DeepAll.len {K : Fg} {H : Hp} : ∀ {xs : List V} {ds : List PyData}, DeepAll K H xs ds -> xs.length = ds.length
 | _, _, .nil => rfl
 | _, _, .cons _ t => congrArg Nat.succ t.len
structure Sh (k n : Nat) (d : PyData) : Prop where
 sh : d.showable = true
 nd : d.hasDict = false
 dp : d.depth ≤ k
 sz : d.shown.length ≤ n
theorem Sh.mono {k n k' n' : Nat} {d : PyData} (h : Sh k n d) (hk : k ≤ k') (hn : n ≤ n') : Sh k' n' d := ⟨h.sh, h.nd, Nat.le_trans h.dp hk, Nat.le_trans h.sz hn⟩
theorem Sh.all {k n : Nat} : ∀ {ds : List PyData}, (∀ d ∈ ds, Sh k n d) -> PyData.showableAll ds = true /\ PyData.hasDictAll ds = false /\ PyData.depthAll ds ≤ k /\ ((PyData.shownAll ds).map (·.length)).sum ≤ n * ds.length /\ (PyData.shownAll ds).length = ds.length
 | [], _ => ⟨rfl, rfl, Nat.zero_le _, Nat.zero_le _, rfl⟩
 | d :: ds, h => by
  obtain ⟨a, b, c, e, f⟩ := Sh.all (ds := ds) fun x hx => h x (List.mem_cons_of_mem _ hx)
  have z := h d List.mem_cons_self
  refine ⟨?_, ?_, ?_, ?_, ?_⟩
  ·show (d.showable && PyData.showableAll ds) = true
   rw [z.sh, a]; rfl
  ·show (d.hasDict || PyData.hasDictAll ds) = false
   rw [z.nd, b]; rfl
  ·show max d.depth (PyData.depthAll ds) ≤ k
   exact Nat.max_le.mpr ⟨z.dp, c⟩
  ·show d.shown.length + ((PyData.shownAll ds).map (·.length)).sum ≤ n * (ds.length + 1)
   have := z.sz
   rw [Nat.mul_succ]; omega
  ·show (PyData.shownAll ds).length + 1 = ds.length + 1
   rw [f]
theorem Sh.tup {k n m N : Nat} {ds : List PyData} (h : ∀ d ∈ ds, Sh k n d) (hm : ds.length ≤ m) (hN : (n + 3) * m + 8 ≤ N) : Sh (k + 1) N (.tuple ds) := by
 obtain ⟨a, b, c, e, f⟩ := Sh.all h
 refine ⟨a, b, Nat.succ_le_succ c, ?_⟩
 show (tupleText (PyData.shownAll ds)).length ≤ N
 have q := tupleText_len_le (PyData.shownAll ds)
 have l : n * ds.length + 3 * ds.length ≤ (n + 3) * m := by
  rw [← Nat.add_mul]
  exact Nat.mul_le_mul_left _ hm
 omega
theorem Sh.shows {k n : Nat} {d : PyData} (h : Sh k n d) (hk : k ≤ 16) (hn : n ≤ 16777216) : Shows d := ⟨h.sh, h.nd, Nat.le_trans h.sz (Nat.le_trans hn (by decide)), Nat.le_trans h.dp hk⟩
theorem sh_dR {r : R} {n : Nat} (h : Wf n r) (hn : n ≤ 1900) : Sh 1 5000 (dR r) := ⟨(small_dR h hn).sh, rfl, (by show max 0 (max 0 0) + 1 ≤ 1; decide), (small_dR h hn).sz⟩
mutual
theorem Deep.same {K : Fg} {H H' : Hp} (s : Same H H') : ∀ {v : V} {d : PyData}, Deep K H v d -> Deep K H' v d
 | _, _, .non => .non
 | _, _, .bl b => .bl b
 | _, _, .int i => .int i
 | _, _, .str x => .str x
 | _, _, .lst e t => .lst (s.seq e) (DeepAll.same s t)
 | _, _, .tup e t => .tup (Tst.same s _ _ e) (DeepAll.same s t)
theorem DeepAll.same {K : Fg} {H H' : Hp} (s : Same H H') : ∀ {vs : List V} {ds : List PyData}, DeepAll K H vs ds -> DeepAll K H' vs ds
 | _, _, .nil => .nil
 | _, _, .cons h t => .cons (Deep.same s h) (DeepAll.same s t)
end
theorem op_isB {X : Cx} : OpR X (compareOp .Is) (fun x y H Q => ∃ b c, x = .bl b /\ y = .bl c /\ Q (.bl (decide (b = c))) H) := by
 intro pins s σ H x y v u Q I rx ry h
 obtain ⟨b, c, rfl, rfl, q⟩ := h
 obtain rfl : v = Value.bool b := rx
 obtain rfl : u = Value.bool c := ry
 refine wpAny_is_plain (by cases b <;> cases c <;> rfl) ⟨.bl _, H, I, ?_, q⟩
 cases b <;> cases c <;> rfl
end B
namespace B
open PySem PySem.Spec L2 PyProof.Rows
def rCatU (K : Fg) : R2 := fun x y H Q => ∃ a b xs ys, x = .ref a /\ y = .ref b /\ SqT K H a xs /\ SqT K H b ys /\ xs.length + ys.length ≤ sizeLine /\ ∀ p H', Same H H' -> SqT K H' p (xs ++ ys) -> Q (.ref p) H'
def rSlU (K : Fg) : V -> Option Int -> Option Int -> Hp -> VK -> Prop := fun x lo hi H Q => ∃ a xs, x = .ref a /\ SqT K H a xs /\ ∀ p H', Same H H' -> SqT K H' p (cutV xs lo hi) -> Q (.ref p) H'
theorem sl_tupU {X : Cx} : SlR X (rSlU X.K) := by
 intro pins s σ H x v vl vu lo hi sl Q I rx hs pl pu h
 obtain ⟨a, xs, rfl, hx, q⟩ := h
 refine sl_tupA pins s σ H _ v vl vu lo hi sl Q I rx hs pl pu ?_
 by_cases c : HT.sIx xs.length 0 lo = 0 /\ HT.sIx xs.length xs.length hi = xs.length
 ·refine .inl ⟨a, xs, rfl, hx, c.1, c.2, q a H (Same.refl H) ?_⟩
  have e : cutV xs lo hi = xs := by
   unfold cutV
   rw [c.1, c.2, List.drop_zero, Nat.sub_zero, List.take_length]
  rw [e]
  exact hx
 ·exact .inr ⟨a, xs, rfl, hx, c, fun p hp => q p _ (same_new hp _) (SqT.of upd_same)⟩
theorem cut_to {xs : List V} {n : Nat} (h : n ≤ xs.length) : cutV xs none (some (n : Int)) = xs.take n := by
 unfold cutV
 rw [HT.sIx_nat, HT.sIx_none, Nat.min_eq_left h, Nat.sub_zero, List.drop_zero]
def Stat (K : Fg) (s : Addr) : Prop := ∃ ns : List Int, ns.length ≤ 63 /\ ∀ H : Hp, SqL K H s (ns.map V.int)
structure Tape3 (K : Fg) (H : Hp) (t s : Addr) : Prop where
 ex : ∃ (ns : List Int) (p q : Int), H t = some (.lst [.ref s, .int p, .int q]) /\ ((Rd H s (.lst (ns.map V.int)) /\ s ≠ t) ∨ ∀ H', SqL K H' s (ns.map V.int)) /\ ns.length ≤ 63 /\ 0 ≤ p /\ 0 ≤ q
theorem rd_same {H H' : Hp} {a : Addr} {u : HO} (h : Rd H a u) (z : Same H H') : Rd H' a u := by
 rcases h with h | ⟨o, h⟩
 ·exact .inl (z _ _ h)
 ·exact .inr ⟨o, z _ _ h⟩
theorem rd_upl {H : Hp} {a l : Addr} {u o : HO} (h : Rd H a u) (n : l ≠ a) : Rd (upd H l o) a u := by
 unfold Rd
 rw [upd_ne n.symm]
 exact h
theorem rd_ne {H : Hp} {a l : Addr} {u : HO} (h : Rd H a u) (n : H l = none) : l ≠ a := fun e => by
 subst e
 rcases h with h | ⟨o, h⟩
 ·rw [n] at h; cases h
 ·rw [n] at h; cases h
theorem Tape3.lst {K : Fg} {H : Hp} {t s : Addr} (h : Tape3 K H t s) : ∃ xs, H t = some (.lst xs) := let ⟨_, _, _, e, _⟩ := h.ex; ⟨_, e⟩
theorem Tape3.same {K : Fg} {H H' : Hp} {t s : Addr} (h : Tape3 K H t s) (z : Same H H') : Tape3 K H' t s := by
 obtain ⟨ns, p, q, h1, h2, h3⟩ := h.ex
 refine ⟨ns, p, q, z _ _ h1, ?_, h3⟩
 rcases h2 with ⟨a, b⟩ | a
 ·exact .inl ⟨rd_same a z, b⟩
 ·exact .inr a
theorem Tape3.new {K : Fg} {H : Hp} {t s p : Addr} (h : Tape3 K H t s) (n : H p = none) (o : HO) : Tape3 K (upd H p o) t s := h.same (same_new n o)
theorem Tape3.off {K : Fg} {H : Hp} {t s D : Addr} (h : Tape3 K H t s) (n : H D = none) : D ≠ s ∨ Stat K s := by
 obtain ⟨ns, p, q, _, h2, h3, _⟩ := h.ex
 rcases h2 with ⟨a, _⟩ | a
 ·exact .inl (rd_ne a n)
 ·exact .inr ⟨ns, h3, a⟩
theorem Tape3.upl {K : Fg} {H : Hp} {t s l : Addr} (h : Tape3 K H t s) (a : l ≠ t) (b : l ≠ s ∨ Stat K s) (o : HO) : Tape3 K (upd H l o) t s := by
 obtain ⟨ns, p, q, h1, h2, h3⟩ := h.ex
 rcases b with b | ⟨ms, m3, m⟩
 ·refine ⟨ns, p, q, by rw [upd_ne a.symm]; exact h1, ?_, h3⟩
  rcases h2 with ⟨c, d⟩ | c
  ·exact .inl ⟨rd_upl c b, d⟩
  ·exact .inr c
 ·exact ⟨ms, p, q, by rw [upd_ne a.symm]; exact h1, .inr m, m3, h3.2⟩
def sp_tape3 (K : Fg) : Sp := fun vs H Q _ => ∃ (a : Addr) (ns : List Int), vs = [.ref a] /\ SqL K H a (ns.map V.int) /\ ns.length ≤ 63 /\ ∀ (t : Addr) (H' : Hp), Same H H' -> H t = none -> Tape3 K H' t a -> Q (.ref t) H'
def sp_draw3 (K : Fg) : Sp := fun vs H Q _ => ∃ (t s : Addr) (m : Int), vs = [.ref t, .int m] /\ Tape3 K H t s /\ 0 < m /\ m < 1073741824 /\ ∀ (r : Int) (xs : List V), 0 ≤ r -> r < m -> Tape3 K (upd H t (.lst xs)) t s -> Q (.int r) (upd H t (.lst xs))
theorem Tape3.mk3 {K : Fg} {H : Hp} {t a : Addr} {ns : List Int} (hS : SqL K H a (ns.map V.int)) (hl : ns.length ≤ 63) (ht : H t = none) : Tape3 K (upd H t (.lst [.ref a, .int 0, .int 0])) t a := by
 refine ⟨ns, 0, 0, upd_same, ?_, hl, Int.le_refl _, Int.le_refl _⟩
 rcases hS with h | h
 ·exact .inl ⟨rd_upl h (rd_ne h ht), (rd_ne h ht).symm⟩
 ·exact .inr fun _ => .inr h
section
set_option autoImplicit true
set_option relaxedAutoImplicit true
end
theorem ints_of : ∀ {ns : List Int} {us : List Value}, Vals (ns.map V.int) us -> IntsAre us ns
 | [], _, .nil => .nil
 | n :: ns, _, .cons r t => by
  obtain ⟨tk, rfl⟩ := (show ∃ t, _ = Value.int n t from r)
  exact .cons _ _ (ints_of t)
theorem call_sumL {X : Cx} (hc : X.calm = true) : CallR X (.builtin "sum") (fun xs H Q => ∃ (p : Addr) (ns : List Int), xs = [.ref p] /\ SqL X.K H p (ns.map V.int) /\ Q (.int ns.sum) H) := by
 intro pins s σ H xs us Q I r h
 obtain ⟨p, ns, rfl, hq, q⟩ := h
 obtain ⟨u, rfl, rx⟩ := vals1 r
 cases rx
 obtain ⟨its, rv, pl, hz⟩ := I.list hq
 have hi := ints_of rv
 obtain ⟨zs, ez⟩ := hi.allInts.items
 have hl := pl.isList
 rw [ez] at hl
 have en : numsOf its = ns := hi.numsOf
 rw [show its = its.toArray.toList from rfl, ez, nums_intItems] at en
 refine sum_intListG (I.ok.hd hc) hl fun h' tk t' hk => ?_
 rw [preSum_eq, List.take_of_length_le (by simp), en]
 exact ⟨.int ns.sum, H, I.kept (t' := tk) hk, ⟨_, rfl⟩, q⟩
theorem bools_at : ∀ {bs : List Bool} {us : List Value}, Vals (bs.map V.bl) us -> ∀ {i : Nat} {v : Value}, us[i]? = some v -> v = .bool (bs.getD i true)
 | [], _, .nil, i, v, e => by cases e
 | b :: bs, _, .cons r t, 0, v, e => by
  rw [List.getElem?_cons_zero] at e
  cases e
  exact (show _ = Value.bool b from r)
 | b :: bs, _, .cons r t, i + 1, v, e => by
  rw [List.getElem?_cons_succ] at e
  exact bools_at t e
theorem all_range : ∀ (bs : List Bool), (List.range bs.length).all (fun i => bs.getD i true) = bs.all id
 | [] => rfl
 | b :: bs => by
  rw [List.length_cons, List.range_succ_eq_map, List.all_cons, List.all_map, List.all_cons]
  have := all_range bs
  show (b && (List.range bs.length).all (fun i => bs.getD i true)) = (id b && bs.all id)
  rw [this]; rfl
theorem call_allL {X : Cx} (hc : X.calm = true) : CallR X (.builtin "all") (fun xs H Q => ∃ (p : Addr) (bs : List Bool), xs = [.ref p] /\ SqL X.K H p (bs.map V.bl) /\ Q (.bl (bs.all id)) H) := by
 intro pins s σ H xs us Q I r h
 obtain ⟨p, bs, rfl, hq, q⟩ := h
 obtain ⟨u, rfl, rx⟩ := vals1 r
 cases rx
 obtain ⟨its, rv, pl, hz⟩ := I.list hq
 have ne : p ≠ s.heap.objs.size := by
  obtain ⟨o, ho, _⟩ := pl.isList
  exact Nat.ne_of_lt (Heap.lt_size ho)
 have hlen : its.toArray.size = bs.length := by rw [List.size_toArray, ← rv.length, List.length_map]
 refine call_all_walk (wpAny_pyIter_list pl.isList ?_)
 refine ⟨_, _, _, _, _, _, fun i => bs.getD i true, rfl, Walks.list (A := X.A.in1) (I.ok.hd hc) _ p ne its.toArray, ⟨⟨_, Heap.get?_push_size _ rfl, rfl, rfl⟩, pl.isList.push _⟩, fun i v s' Q' E' hv hQ => ?_, fun h' tk hk => ?_⟩
 ·have e := bools_at rv (i := i) (v := v) (by simpa using hv)
  subst e
  exact wpAny_truthy_bool hQ
 ·rw [hlen, all_range]
  refine ⟨.bl _, H, I.kept (t' := tk) fun b o e => hk b o (fun z => ?_) (Heap.get?_push_of_some _ e), rfl, q⟩
  rw [List.mem_singleton.mp z] at e
  exact absurd (Heap.lt_size e) (Nat.lt_irrefl _)
section
variable {prog : Program} {w : World} {A : Around} {E : VSP} {s : Shared}
theorem collect_range {Q : List Value -> Shared -> Prop} {r : Addr} {a b c : Int} {t u v : Tok} {n : Nat} (hh : A.handled = none) (hr : IsRange s.heap r a b c t u v) (hsmall : Builtin.Range.small a b c = true)
  (hn : Builtin.Range.rangeSize a b c = n) (hlen : n ≤ 2 ^ 24)
  (hQ : ∀ h' tk acc, (∀ b o, s.heap.get? b = some o -> h'.get? b = some o) -> ItemsOf (fun i v => ∃ t, v = .int (a + i * c) t) acc n -> Q acc.toList { s with heap := h', toks := tk }) :
  wpAny (model prog w) A (collect (.ref r)) Q E s := by
 unfold collect
 refine wpAny_bind (wpAny_runValue (codeAny_builtin F.entry_proto_collect ?_))
 rw [Around.under_plainId F.plain_proto_collect _]
 show wpAny _ A.in1 (newList [] >>= fun l => again (.builtin "list.__iadd__" ⟨[l, .ref r], []⟩)) _ _ s
 refine wpAny_bind (wpAny_newObj_type ?_)
 refine wpAny_pure ⟨plainId_quiet F.plain_list_iadd _, codeAny_builtin F.entry_list_iadd ?_⟩
 rw [Around.under_plainId F.plain_list_iadd _]
 show wpAny _ A.in1 (Builtin.List.listExtendWith (.ref s.heap.objs.size) (.ref r) (.ref s.heap.objs.size)) _ _ { s with heap := s.heap.push { cls := .type "list", data := .seq ([] : List Value).toArray } }
 refine wpAny_extend_range (R := wants (fun v s' => wpAny (model prog w) A (match v with | .ref a => (do match (← load a).data with | .seq xs _ => pure xs.toList | _ => unsupported "internal:collect") | _ => unsupported "internal:collect") Q E s') E) (s := { s with heap := s.heap.push { cls := .type "list", data := .seq ([] : List Value).toArray } }) hh (Heap.get?_push_of_some _ hr) hsmall hn hlen s.heap.objs.size _ _ (Heap.get?_push_size _ rfl) fun h' tk acc' c' hk hS hI => ?_
 show wpAny _ A (load s.heap.objs.size >>= _) _ _ _
 refine wpAny_bind (wpAny_load hS ?_)
 exact wpAny_pure (hQ h' tk acc' (fun b o e => hk b o (Nat.ne_of_lt (Heap.lt_size e)) (Heap.get?_push_of_some _ e)) hI)
theorem meets_tuple_range {r : Addr} {a b c : Int} {t u v : Tok} {n : Nat} (hsmall : Builtin.Range.small a b c = true) (hn : Builtin.Range.rangeSize a b c = n) (hlen : n ≤ 2 ^ 24) :
  Meets (Builtin.«tuple.__new__» ⟨[.type "tuple", .ref r], []⟩)
   (fun A R s => A.handled = none /\ IsRange s.heap r a b c t u v /\ ∀ (h' : Heap) (tk : Nat) (acc : Array Value), (∀ b o, s.heap.get? b = some o -> h'.get? b = some o) -> ItemsOf (fun i v => ∃ t, v = .int (a + i * c) t) acc n →
    R (.ok (.ret (.ref h'.objs.size))) { s with heap := h'.push { cls := .type "tuple", data := .seq acc }, toks := tk }) :=
 .of_wp fun prog w A R s h => by
  obtain ⟨hh, hr, h⟩ := h
  have hsub := sub_tuple_self
  have hinit := init_tuple_lookup
  have hmh := madeHere_tuple
  have hT : s.TypeIs (.ref r) "range" := ⟨_, hr, rfl⟩
  have hh1 : A.in1.handled = none := hh
  wp_walk using wpAny_typeOf hT, collect_range hh1 hr hsmall hn hlen
  intro h' tk acc hk hacc
  show wpAny _ _ (Builtin.Tuple.tupleExact acc.toList.toArray >>= fun v => ret v) _ _ _
  unfold Builtin.Tuple.tupleExact
  refine wpAny_bind (wpAny_newObj_type ?_ (show acc.toList.toArray.size ≤ sizeLine by simp only [Array.toArray_toList]; rw [hacc.1, sizeLine_eq]; exact hlen))
  refine wpAny_pure ⟨_, rfl, ?_⟩
  have e : acc.toList.toArray = acc := by simp
  rw [e]
  exact h h' tk acc hk hacc
theorem call_tuple_range {Q : VSP} {r : Addr} {a b c : Int} {t u v : Tok} {n : Nat} (hh : A.handled = none) (hr : IsRange s.heap r a b c t u v) (hsmall : Builtin.Range.small a b c = true)
  (hn : Builtin.Range.rangeSize a b c = n) (hlen : n ≤ 2 ^ 24)
  (hQ : ∀ (h' : Heap) (tk : Nat) (acc : Array Value), (∀ b o, s.heap.get? b = some o -> h'.get? b = some o) -> ItemsOf (fun i v => ∃ t, v = .int (a + i * c) t) acc n -> Q (.ref h'.objs.size) { s with heap := h'.push { cls := .type "tuple", data := .seq acc }, toks := tk }) :
  wpAny (model prog w) A (call (.type "tuple") [.ref r]) Q E s := by
 refine callType_new F.called_tuple (by decide) (F.typeCall_tuple_1 _) (F.newCall_tuple_1 _) (fun obj => F.args_object_init_2 obj _) F.entry_tuple_new
  (meets_tuple_range hsmall hn hlen) ⟨hh, hr, fun h' tk acc hk hacc => ⟨⟨_, Heap.get?_push_size _ rfl, rfl⟩, hQ h' tk acc hk hacc⟩⟩
end
def upTo (n : Nat) : List Int := (List.range n).map fun i : Nat => (i : Int)
theorem vals_range {acc : Array Value} {n : Nat} (h : ItemsOf (fun i v => ∃ t, v = .int ((0 : Int) + i * 1) t) acc n) : Vals ((upTo n).map V.int) acc.toList := by
 obtain ⟨hl, ha⟩ := h
 have key : ∀ m, m ≤ n -> Vals ((upTo m).map V.int) (acc.toList.take m) := by
  intro m
  induction m with
  | zero => intro _; rw [List.take_zero]; exact .nil
  | succ m ih =>
   intro hm
   have hlt : m < acc.size := by omega
   have e1 : acc.toList.take (m + 1) = acc.toList.take m ++ [acc[m]] := by
    rw [List.take_add_one]; simp [hlt]
   have e2 : (upTo (m + 1)).map V.int = (upTo m).map V.int ++ [V.int m] := by
    unfold upTo; rw [List.range_succ]; simp
   rw [e1, e2]
   refine (ih (by omega)).append (.cons ?_ .nil)
   obtain ⟨t, e⟩ := ha m acc[m] (by simp [hlt])
   exact ⟨t, by rw [e]; simp⟩
 have := key n (Nat.le_refl _)
 rwa [List.take_of_length_le (by simp [hl])] at this
def tRng1 (ta : TA) : TE := fun σ H Q => ta σ H fun vs H1 => ∃ j : Int, vs = [.int j] /\ ∀ p, H1 p = none -> Q (.ref p) (upd H1 p (.rng 0 j))
theorem pe_rng1 {X : Cx} {a : Expr} {ta : TA} {p pos : Pos} (hg : Gl X "range") (hm : X.mg "range" = none) (ha : PA X [a] ta) (hs : starEach [a] X.env = [(false, eval a X.env)] := by rfl) :
  PE X (.Call (.Name "range" p) [a] [] pos) (tRng1 ta) := by
 intro pins s σ H Q I h
 refine Call_ (ld_blt I hg hm boot_range (PyProof.Rows.callWith_type1 (thn (ha pos pins s σ H _ I h) fun us s1 ⟨vs, H1, I1, r1, q1⟩ => ?_) hs rfl))
 obtain ⟨j, e, q⟩ := q1
 subst e
 obtain ⟨u, rfl, t, rfl⟩ := vals1 r1
 refine call_range_1 ?_
 exact ⟨.ref s1.heap.objs.size, _, I1.laid (o := .rng 0 j) (fun b o e => Heap.get?_push_of_some _ e) (Nat.le_refl _) ⟨_, t, _, Heap.get?_push_size _ rfl⟩, rfl, q _ (I1.hok.fresh (Nat.le_refl _))⟩
theorem size_up (n : Nat) : Builtin.Range.rangeSize 0 n 1 = n := by rw [rangeSize_one]; split <;> omega
theorem call_tupleR {X : Cx} (hc : X.calm = true) : CallR X (.type "tuple") (fun xs H Q => ∃ p, ∃ n : Nat, xs = [.ref p] /\ H p = some (.rng 0 n) /\ n ≤ 1000 /\ ∀ l, H l = none -> Q (.ref l) (upd H l (.tup ((upTo n).map V.int)))) := by
 intro pins s σ H xs us Q I r h
 obtain ⟨p, n, rfl, hp, hn, q⟩ := h
 obtain ⟨u, rfl, rx⟩ := vals1 r
 cases rx
 obtain ⟨t, u, w, e⟩ := (show ObjOk X.prog X.w H s.heap p (.rng 0 n) from I.hok p _ hp)
 refine call_tuple_range (I.ok.hd hc) (show IsRange s.heap p 0 n 1 t u w from e) (small_one (by omega) (by omega) (by omega) (by omega)) (size_up n) (by omega) fun h' tk acc hk hi => ?_
 have rv := vals_range hi
 have I1 : Inv X pins σ H { s with heap := h', toks := tk } := I.kept (t' := tk) hk
 have hl : (upTo n).length = n := by unfold upTo; simp
 have I2 : Inv X pins σ (upd H h'.objs.size (.tup ((upTo n).map V.int))) { s with heap := h'.push { cls := .type "tuple", data := .seq acc }, toks := tk } :=
  I1.laid (t' := tk) (fun b o e => Heap.get?_push_of_some _ e) (Nat.le_refl _) (show ObjOk X.prog X.w _ _ _ (.tup ((upTo n).map V.int)) from ⟨by rw [List.length_map, hl, sizeLine_eq]; omega, acc.toList, rv, by have := IsTup.new h' acc; simpa using this⟩)
 exact ⟨.ref h'.objs.size, _, I2, rfl, q _ (I1.hok.fresh (Nat.le_refl _))⟩
def Itd (hi : Int) (n : Nat) : It := ⟨fun i _ => i < n, fun i H x H' => H' = H /\ x = .int (hi - i), fun i _ => n ≤ i⟩
def iRngD (ta : TA) : TI := fun σ H R => ta σ H fun vs H1 => ∃ i j : Int, vs = [.int i, .int j, .int (-1)] /\ (-1000 ≤ i /\ i ≤ 1000 /\ -1000 ≤ j /\ j ≤ 1000) /\ R (Itd i (i - j).toNat) H1
section
set_option autoImplicit true
set_option relaxedAutoImplicit true
theorem qe_rng1  {X : Cx} {a : Expr} {ta : TA} {p pos : Pos} (hg : Gl X "range") (hm : X.mg "range" = none) (ha : QA X [a] ta) (hs : starEach [a] X.env = [(false, eval a X.env)] := by rfl) : QE X (.Call (.Name "range" p) [a] [] pos) (tRng1 ta) := ⟨pe_rng1 hg hm ha.p hs⟩
end
structure Wlk (J : It) (H : Hp) (n : Nat) (P : Nat -> V -> Hp -> Prop) : Prop where
 go : ∀ i H', i < n -> Same H H' -> J.go i H'
 stop : ∀ H', Same H H' -> J.stop n H'
 yld : ∀ i H' x H'', i < n -> Same H H' -> J.yld i H' x H'' -> Same H' H'' /\ P i x H''
theorem wlk_lst {K : Fg} {H : Hp} {a : Addr} {xs : List V} (h : SqL K H a xs) : Wlk (Itl K a) H xs.length (fun i x _ => xs[i]? = some x) where
 go := fun i H' hi s => ⟨xs, _, s.seq h, List.getElem?_eq_getElem hi⟩
 stop := fun H' s => ⟨xs, s.seq h, Nat.le_refl _⟩
 yld := fun i H' x H'' hi s y => by obtain ⟨rfl, hy⟩ := y; exact ⟨Same.refl _, hy xs (s.seq h)⟩
theorem wlk_tup {K : Fg} {H : Hp} {a : Addr} {xs : List V} (h : SqT K H a xs) : Wlk (Itt K a) H xs.length (fun i x _ => xs[i]? = some x) where
 go := fun i H' hi s => ⟨xs, _, Tst.same s _ _ h, List.getElem?_eq_getElem hi⟩
 stop := fun H' s => ⟨xs, Tst.same s _ _ h, Nat.le_refl _⟩
 yld := fun i H' x H'' hi s y => by obtain ⟨rfl, hy⟩ := y; exact ⟨Same.refl _, hy xs (Tst.same s _ _ h)⟩
theorem wlk_rng {H : Hp} {lo : Int} {n : Nat} : Wlk (Itr lo n) H n (fun i x _ => x = .int (lo + i)) where
 go := fun i H' hi s => hi
 stop := fun H' s => Nat.le_refl _
 yld := fun i H' x H'' hi s y => by obtain ⟨rfl, rfl⟩ := y; exact ⟨Same.refl _, rfl⟩
theorem comp_ix {J : It} {H : Hp} {D : Addr} {n : Nat} {P : Nat -> V -> Hp -> Prop} (w : Wlk J H n P) (c : Nat -> Bool) (f : Nat -> V) {src : List (Option Nat)} {σ : L2.St} {g : TG} {tt : TT} {te : TE} {Q : Hp -> Prop} (hD : H D = none) (hn : n ≤ 1000)
  (turn : ∀ (i : Nat) (x : V) (H' : Hp), i < n -> Same H H' -> P i x H' -> ∀ (R : VK) (E : Hp -> Prop), (c i = true -> ∀ H'', Same H' H'' -> R (f i) H'') -> (c i = false -> ∀ H'', Same H' H'' -> E H'') →
   g x (frees src σ) H' fun σ2 H2 => Ext (frees src σ) σ2 /\ tt σ2 H2 fun ok H3 => if ok = true then te σ2 H3 R else E H3)
  (fin : ∀ H', Same H H' -> H' D = some (.lst (((List.range n).filter c).map f)) -> Q H') :
  ∃ W : Nat -> Nat -> List V -> Hp -> Prop, (∃ m, W 0 m [] (upd H D (.lst []))) /\ ∀ i m ys H, W i m ys H -> (J.stop i H /\ Q H) ∨ (J.go i H /\ ∀ x H', J.yld i H x H' →
   g x (frees src σ) H' fun σ2 H2 => Ext (frees src σ) σ2 /\ tt σ2 H2 fun ok H3 =>
    if ok = true then te σ2 H3 fun y H4 => H4 D = some (.lst ys) /\ ys.length < sizeLine /\ ∃ m', m' < m /\ W (i + 1) m' (ys ++ [y]) (upd H4 D (.lst (ys ++ [y]))) else ∃ m', m' < m /\ W (i + 1) m' ys H3) := by
 refine ⟨fun i m ys H' => i ≤ n /\ m = n - i /\ ys = ((List.range i).filter c).map f /\ Same H H' /\ H' D = some (.lst ys), ⟨_, Nat.zero_le _, rfl, rfl, same_new hD _, upd_same⟩, ?_⟩
 rintro i m ys H1 ⟨hi, rfl, rfl, s1, d1⟩
 by_cases hix : i < n
 ·refine .inr ⟨w.go i H1 hix s1, fun x H2 y => ?_⟩
  obtain ⟨s2, p⟩ := w.yld i H1 x H2 hix s1 y
  have d2 := s2 _ _ d1
  have len : (((List.range i).filter c).map f).length ≤ i := by
   rw [List.length_map]
   exact Nat.le_trans (List.length_filter_le _ _) (by rw [List.length_range]; exact Nat.le_refl _)
  refine turn i x H2 hix (s1.trans s2) p _ _ (fun hc H3 s3 => ?_) fun hc H3 s3 => ?_
  ·have d3 := s3 _ _ d2
   refine ⟨d3, small1000 (by omega), n - (i + 1), by omega, hix, rfl, ?_, fun b o q => ?_, upd_same⟩
   ·rw [List.range_succ, List.filter_append, List.map_append]
    simp [hc]
   ·rw [upd_ne (ne_of_none q hD)]
    exact s3 _ _ (s2 _ _ (s1 _ _ q))
  ·refine ⟨n - (i + 1), by omega, hix, rfl, ?_, (s1.trans s2).trans s3, s3 _ _ d2⟩
   rw [List.range_succ, List.filter_append, List.map_append]
   simp [hc]
 ·have e : i = n := by omega
  subst e
  exact .inl ⟨w.stop H1 s1, fin H1 s1 d1⟩
theorem comp_pick3 {K : Fg} {H : Hp} {D t s : Addr} {n : Nat} {src : List (Option Nat)} {σ : L2.St} {g : TG} {tt : TT} {te : TE} {Q : Hp -> Prop}
  (hD : H D = none) (T : Tape3 K H t s) (hn : n ≤ 1000)
  (turn : ∀ (i : Nat) (H' : Hp), i < n -> Tst K H H' -> Tape3 K H' t s -> ∀ (R : VK) (E : Hp -> Prop), (∀ H'', Step t H' H'' -> Tape3 K H'' t s -> R (.int (0 + (i : Int))) H'') -> (∀ H'', Step t H' H'' -> Tape3 K H'' t s -> E H'') →
   g (.int (0 + (i : Int))) (frees src σ) H' fun σ2 H2 => Ext (frees src σ) σ2 /\ tt σ2 H2 fun ok H3 => if ok = true then te σ2 H3 R else E H3)
  (fin : ∀ (H' : Hp) (ns : List Nat), Step t H H' -> Tape3 K H' t s -> H' D = some (.lst (ns.map fun i : Nat => V.int i)) -> ns.length ≤ n -> (∀ i ∈ ns, i < n) -> Q H') :
  ∃ W : Nat -> Nat -> List V -> Hp -> Prop, (∃ m, W 0 m [] (upd H D (.lst []))) /\ ∀ i m ys H, W i m ys H -> ((Itr 0 n).stop i H /\ Q H) ∨ ((Itr 0 n).go i H /\ ∀ x H', (Itr 0 n).yld i H x H' →
   g x (frees src σ) H' fun σ2 H2 => Ext (frees src σ) σ2 /\ tt σ2 H2 fun ok H3 =>
    if ok = true then te σ2 H3 fun y H4 => H4 D = some (.lst ys) /\ ys.length < sizeLine /\ ∃ m', m' < m /\ W (i + 1) m' (ys ++ [y]) (upd H4 D (.lst (ys ++ [y]))) else ∃ m', m' < m /\ W (i + 1) m' ys H3) := by
 have nt : D ≠ t := fun z => by subst z; obtain ⟨_, e⟩ := T.lst; rw [hD] at e; cases e
 have nS := T.off hD
 refine ⟨fun i m ys H' => i ≤ n /\ m = n - i /\ H' D = some (.lst ys) /\ Tape3 K H' t s /\ (∀ b o, b ≠ t -> H b = some o -> H' b = some o) /\ ∃ ns : List Nat, ys = ns.map (fun i : Nat => V.int i) /\ ns.length ≤ i /\ ∀ j ∈ ns, j < n, ⟨_, Nat.zero_le _, rfl, upd_same, T.new hD _, (fun b o _ q => same_new hD _ _ _ q), [], rfl, Nat.le_refl _, fun d hd => by cases hd⟩, ?_⟩
 rintro i m ys H1 ⟨hi, rfl, d1, T1, kp, ns, rfl, hlen, ok⟩
 by_cases hix : i < n
 ·refine .inr ⟨hix, ?_⟩
  rintro x H2 ⟨rfl, rfl⟩
  refine turn i _ hix (Tst.step (K := K) ⟨kp, T.lst, T1.lst⟩) T1 _ _ (fun H3 S3 T3 => ?_) fun H3 S3 T3 => ?_
  ·have d3 := S3.keep _ _ nt d1
   refine ⟨d3, small1000 (by rw [List.length_map]; omega), n - (i + 1), by omega, hix, rfl, upd_same, T3.upl nt nS _, fun b o nb q => ?_, ns ++ [i], ?_, by rw [List.length_append]; exact Nat.succ_le_succ hlen, fun z hz => ?_⟩
   ·rw [upd_ne (ne_of_none q hD)]
    exact S3.keep _ _ nb (kp b o nb q)
   ·rw [List.map_append]; simp
   ·rcases List.mem_append.mp hz with h | h
    ·exact ok z h
    ·rw [List.mem_singleton] at h; rw [h]; exact hix
  ·exact ⟨n - (i + 1), by omega, hix, rfl, S3.keep _ _ nt d1, T3, fun b o nb q => S3.keep _ _ nb (kp b o nb q), ns, rfl, Nat.le_succ_of_le hlen, ok⟩
 ·have e : i = n := by omega
  subst e
  exact .inl ⟨Nat.le_refl _, fin H1 ns ⟨kp, T.lst, T1.lst⟩ T1 d1 hlen ok⟩
theorem by_place {α β : Type} (d : α) (p : α -> Bool) (f : α -> β) : ∀ l : List α, ((List.range l.length).filter fun i => p (l.getD i d)).map (fun i => f (l.getD i d)) = (l.filter p).map f
 | [] => rfl
 | x :: l => by
  have ih := by_place d p f l
  rw [List.length_cons, List.range_succ_eq_map, List.filter_cons, List.filter_cons]
  have e : (((List.range l.length).map Nat.succ).filter fun i => p ((x :: l).getD i d)).map (fun i => f ((x :: l).getD i d)) = (l.filter p).map f := by
   rw [List.filter_map, List.map_map]
   exact ih
  show (if p x = true then _ else _ : List Nat).map _ = _
  cases hp : p x with
  | true =>
   simp only [if_true, List.map_cons]
   rw [e]; rfl
  | false =>
   simp only [Bool.false_eq_true, if_false]
   exact e
theorem by_place_all {α β : Type} (d : α) (f : α -> β) (l : List α) : ((List.range l.length).filter fun _ => true).map (fun i => f (l.getD i d)) = l.map f := by
 have := by_place d (fun _ => true) f l
 rw [this, List.filter_eq_self.mpr (by intros; rfl)]
theorem getD_of {α : Type} {l : List α} {i : Nat} {x : α} (d : α) (h : l[i]? = some x) : l.getD i d = x := by rw [List.getD_eq_getElem?_getD, h]; rfl
section
variable {prog : Program} {w : World} {A : Around} {E : VSP} {s : Shared}
end
theorem call_listR {X : Cx} (hc : X.calm = true) : CallR X (.type "list") (fun xs H Q => ∃ p, ∃ n : Nat, xs = [.ref p] /\ H p = some (.rng 0 n) /\ n ≤ 1000 /\ ∀ l, H l = none -> Q (.ref l) (upd H l (.lst ((upTo n).map V.int)))) := by
 intro pins s σ H xs us Q I r h
 obtain ⟨p, n, rfl, hp, hn, q⟩ := h
 obtain ⟨u, rfl, rx⟩ := vals1 r
 cases rx
 obtain ⟨t, u, w, e⟩ := (show ObjOk X.prog X.w H s.heap p (.rng 0 n) from I.hok p _ hp)
 refine call_list_range (I.ok.hd hc) (show IsRange s.heap p 0 n 1 t u w from e) (small_one (by omega) (by omega) (by omega) (by omega)) (size_up n) (by omega) fun h' tk acc c' hk hS hi => ?_
 have rv := vals_range hi
 have hl : (upTo n).length = n := by unfold upTo; simp
 have I2 : Inv X pins σ (upd H s.heap.objs.size (.lst ((upTo n).map V.int))) { s with heap := h', toks := tk } :=
  I.laid (t' := tk) hk (Nat.le_refl _) (show ObjOk X.prog X.w _ _ _ (.lst ((upTo n).map V.int)) from ⟨by rw [List.length_map, hl, sizeLine_eq]; omega, acc.toList, c', rv, by simpa using hS⟩)
 exact ⟨.ref s.heap.objs.size, _, I2, rfl, q _ (I.hok.fresh (Nat.le_refl _))⟩
theorem op_notIn_seqK {X : Cx} {K : Fg} (hK : X.K = K) : OpR X (compareOp .NotIn) (rIn K true) := hK ▸ op_notIn_seq
theorem inV_int (t : Nat) (ls : List Nat) : inV (.int t) (ls.map fun n : Nat => V.int n) = ls.contains t := by
 unfold inV
 rw [List.any_map]
 induction ls with
 | nil => rfl
 | cons a r ih =>
  rw [List.any_cons, List.contains_cons, ih]
  congr 1
  show decide (((a : Nat) : Int) = (t : Nat)) = (t == a)
  by_cases h : t = a
  ·subst h; simp
  ·rw [beq_eq_false_iff_ne.mpr h]
   exact decide_eq_false (by omega)
theorem flat_nat (ls : List Nat) : (ls.map fun n : Nat => V.int n).all flatV = true := by
 rw [List.all_map, List.all_eq_true]
 intro x _
 rfl
def Lays (ds : List PyData) : Prop := ∀ e ∈ ds, e.canLay0 = true /\ e.depth ≤ 32
def rInD (K : Fg) : R2 := fun x y H Q => ∃ p xs ds d, y = .ref p /\ SqL K H p xs /\ DeepAll K H xs ds /\ Lays ds /\ Deep K H x d /\ d.canLay0 = true /\ PyData.eqv d d = true /\ Q (.bl (ds.any fun e => PyData.eqv e d)) H
def rNotInD (K : Fg) : R2 := fun x y H Q => ∃ p xs ds d, y = .ref p /\ SqL K H p xs /\ DeepAll K H xs ds /\ Lays ds /\ Deep K H x d /\ d.canLay0 = true /\ PyData.eqv d d = true /\ Q (.bl (!ds.any fun e => PyData.eqv e d)) H
def rInDT (K : Fg) : R2 := fun x y H Q => ∃ p xs ds d, y = .ref p /\ SqT K H p xs /\ DeepAll K H xs ds /\ Lays ds /\ Deep K H x d /\ d.canLay0 = true /\ PyData.eqv d d = true /\ Q (.bl (ds.any fun e => PyData.eqv e d)) H
def rIndexD (K : Fg) : V -> List V -> Hp -> VK -> Prop := fun x vs H Q => ∃ p xs ds w d, x = .ref p /\ vs = [w] /\ SqL K H p xs /\ DeepAll K H xs ds /\ Lays ds /\ Deep K H w d /\ d.canLay0 = true /\ PyData.eqv d d = true /\ (∃ e ∈ ds, PyData.eqv e d = true) ∧
 ∀ (j : Nat) (e : PyData), ds[j]? = some e -> PyData.eqv e d = true -> (∀ m f, m < j -> ds[m]? = some f -> PyData.eqv f d = false) -> Q (.int j) H
def rInsert : V -> List V -> Hp -> VK -> Prop := fun x vs H Q => ∃ (l : Addr) (xs : List V) (j : Nat) (y : V), x = .ref l /\ vs = [.int j, y] /\ H l = some (.lst xs) /\ j ≤ xs.length /\ xs.length < sizeLine /\ Q .non (upd H l (.lst (xs.take j ++ y :: xs.drop j)))
mutual
def ibd : PyData -> Bool
 | .int i => decide (i.natAbs < 2 ^ 230)
 | .tuple ds => ibdAll ds
 | .list ds => ibdAll ds
 | .dict _ => false
 | _ => true
def ibdAll : List PyData -> Bool
 | [] => true
 | d :: ds => ibd d && ibdAll ds
end
theorem ibdAll_of : ∀ {ds : List PyData}, (∀ d ∈ ds, ibd d = true) -> ibdAll ds = true
 | [], _ => rfl
 | d :: ds, h => by
  show (ibd d && ibdAll ds) = true
  rw [h d List.mem_cons_self, ibdAll_of fun e he => h e (List.mem_cons_of_mem _ he)]; rfl
theorem layAll_of : ∀ {ds : List PyData}, (∀ d ∈ ds, d.canLay0 = true) -> PyData.canLayAll0 ds = true
 | [], _ => rfl
 | d :: ds, h => by
  show (d.canLay0 && PyData.canLayAll0 ds) = true
  rw [h d List.mem_cons_self, layAll_of fun e he => h e (List.mem_cons_of_mem _ he)]; rfl
structure Gd (k n : Nat) (d : PyData) : Prop where
 sh : Sh k n d
 lay : d.canLay0 = true
 bd : ibd d = true
theorem Gd.mono {k n k' n' : Nat} {d : PyData} (h : Gd k n d) (hk : k ≤ k') (hn : n ≤ n') : Gd k' n' d := ⟨h.sh.mono hk hn, h.lay, h.bd⟩
theorem Gd.tup {k n m N : Nat} {ds : List PyData} (h : ∀ d ∈ ds, Gd k n d) (hm : ds.length ≤ m) (hN : (n + 3) * m + 8 ≤ N) : Gd (k + 1) N (.tuple ds) :=
 ⟨Sh.tup (fun d hd => (h d hd).sh) hm hN, layAll_of fun d hd => (h d hd).lay, ibdAll_of fun d hd => (h d hd).bd⟩
theorem Sh.lst {k n m N : Nat} {ds : List PyData} (h : ∀ d ∈ ds, Sh k n d) (hm : ds.length ≤ m) (hN : (n + 3) * m + 8 ≤ N) : Sh (k + 1) N (.list ds) := by
 obtain ⟨a, b, c, e, f⟩ := Sh.all h
 refine ⟨a, b, Nat.succ_le_succ c, ?_⟩
 show (listText (PyData.shownAll ds)).length ≤ N
 have q := listText_len_le (PyData.shownAll ds)
 have l : n * ds.length + 3 * ds.length ≤ (n + 3) * m := by
  rw [← Nat.add_mul]
  exact Nat.mul_le_mul_left _ hm
 omega
theorem Gd.lst {k n m N : Nat} {ds : List PyData} (h : ∀ d ∈ ds, Gd k n d) (hm : ds.length ≤ m) (hN : (n + 3) * m + 8 ≤ N) : Gd (k + 1) N (.list ds) :=
 ⟨Sh.lst (fun d hd => (h d hd).sh) hm hN, layAll_of fun d hd => (h d hd).lay, ibdAll_of fun d hd => (h d hd).bd⟩
theorem gd_none : Gd 0 5000 .none := ⟨⟨rfl, rfl, Nat.le_refl _, by decide⟩, rfl, rfl⟩
theorem gd_bool (b : Bool) : Gd 0 5000 (.bool b) := by cases b <;> exact ⟨⟨rfl, rfl, Nat.le_refl _, by decide⟩, rfl, rfl⟩
theorem gd_str {x : Str} (h : (PyData.str x).showable = true) (l : (PyData.str x).shown.length ≤ 5000) (c : (PyData.str x).canLay0 = true) : Gd 0 5000 (.str x) := ⟨⟨h, rfl, Nat.le_refl _, l⟩, c, rfl⟩
theorem gd_dR {r : R} (h : Wf 230 r) : Gd 1 5000 (dR r) := ⟨sh_dR h (by decide), dR_lay r, by
 show (decide (r.1.natAbs < 2 ^ 230) && (decide (r.2.natAbs < 2 ^ 230) && true)) = true
 rw [decide_eq_true h.top, decide_eq_true h.bot]; rfl⟩
theorem gd_int {i : Int} (h : i.natAbs < 2 ^ 230) : Gd 0 5000 (.int i) := ⟨⟨(show decide (i.natAbs.log2 < 1920) = true from decide_eq_true (log_of h (by decide))), rfl, Nat.le_refl _, Nat.le_trans (len_of h (by decide)) (by decide)⟩, rfl, decide_eq_true h⟩
def decR : PyData -> R
 | .tuple [.int a, .int b] => (a, b)
 | _ => (0, 1)
def decRow : PyData -> R × R
 | .tuple [x, y] => (decR x, decR y)
 | _ => rowD
end B
namespace B
open PySem PySem.Spec L2 PyProof.Rows
def tCut (t : TS) : TS := fun D σ H => ∃ M : L2.St -> Hp -> Prop, t { D with nx := M } σ H /\ ∀ σ' H', M σ' H' -> D.nx σ' H'
def tChain3 (r r' r'' : R2) (ta tb tc td : TE) : TE := fun σ H Q => ta σ H fun x H1 => tb σ H1 fun y H2 => r x y H2 fun z H3 => ∃ k, z = .bl k ∧
 (if k = true then tc σ H3 fun w' H4 => r' y w' H4 fun z' H5 => ∃ k', z' = .bl k' /\ (if k' = true then td σ H5 fun u' H6 => r'' w' u' H6 Q else Q (.bl false) H5) else Q (.bl false) H3)
theorem dl_same {t : Addr} {H H' : Hp} (s : Same H H') : Same (del H t) (del H' t) := fun b o q => by
 unfold del at q ⊢
 by_cases c : b = t
 ·rw [if_pos c] at q; cases q
 ·rw [if_neg c] at q ⊢; exact s _ _ q
theorem dl_step {t : Addr} {H H' : Hp} (S : Step t H H') : Same (del H t) (del H' t) := fun b o q => by
 unfold del at q ⊢
 by_cases c : b = t
 ·rw [if_pos c] at q; cases q
 ·rw [if_neg c] at q ⊢; exact S.keep _ _ c q
theorem dl_full {t : Addr} {H : Hp} : Same (del H t) H := fun b o q => by
 unfold del at q
 by_cases c : b = t
 ·rw [if_pos c] at q; cases q
 ·rw [if_neg c] at q; exact q
theorem dl_new {t p : Addr} {H : Hp} {o : HO} (g : H p = none) (h : ∃ xs, H t = some (.lst xs)) : del (upd H p o) t p = some o := by
 have n : p ≠ t := fun z => by subst z; obtain ⟨xs, e⟩ := h; rw [g] at e; cases e
 unfold del
 rw [if_neg n, upd_same]
theorem dl_tst {K : Fg} {t : Addr} {H : Hp} (h : ∃ xs, H t = some (.lst xs)) : Tst K H (del H t) := fun p xs q => by
 obtain ⟨ys, e⟩ := h
 rcases q with q | q
 ·rcases q with q | ⟨o, q⟩
  ·have n : p ≠ t := fun z => by subst z; rw [e] at q; cases q
   exact .inl (.inl (by unfold del; rw [if_neg n]; exact q))
  ·have n : p ≠ t := fun z => by subst z; rw [e] at q; cases q
   exact .inl (.inr ⟨o, by unfold del; rw [if_neg n]; exact q⟩)
 ·exact .inr q
theorem DeepAll.app {K : Fg} {H : Hp} : ∀ {xs ys : List V} {ds es : List PyData}, DeepAll K H xs ds -> DeepAll K H ys es -> DeepAll K H (xs ++ ys) (ds ++ es)
 | _, _, _, _, .nil, h => h
 | _, _, _, _, .cons a t, h => .cons a (DeepAll.app t h)
theorem DeepAll.atN {K : Fg} {H : Hp} : ∀ {xs : List V} {ds : List PyData}, DeepAll K H xs ds -> ∀ {i : Nat} {d : PyData}, ds[i]? = some d -> ∃ x, xs[i]? = some x /\ Deep K H x d
 | _, _, .cons h _, 0, d, e => by
  rw [List.getElem?_cons_zero] at e
  cases e
  exact ⟨_, rfl, h⟩
 | _, _, .cons _ t, i + 1, d, e => DeepAll.atN t (i := i) (by rw [List.getElem?_cons_succ] at e; exact e)
 | _, _, .nil, _, _, e => by cases e
theorem gd_app {k n : Nat} {ds es : List PyData} (h : ∀ d ∈ ds, Gd k n d) (h' : ∀ d ∈ es, Gd k n d) : ∀ d ∈ ds ++ es, Gd k n d := fun d hd => (List.mem_append.mp hd).elim (h d) (h' d)
theorem gd_wide {k n k' n' : Nat} {ds : List PyData} (hk : k ≤ k') (hn : n ≤ n') (h : ∀ d ∈ ds, Gd k n d) : ∀ d ∈ ds, Gd k' n' d := fun d hd => (h d hd).mono hk hn
theorem cut_any {xs : List V} {n : Nat} : cutV xs none (some (n : Int)) = xs.take n := by
 by_cases h : n ≤ xs.length
 ·exact cut_to h
 ·unfold cutV
  rw [HT.sIx_nat, HT.sIx_none, Nat.sub_zero, List.drop_zero, Nat.min_eq_right (by omega), List.take_of_length_le (Nat.le_refl _), List.take_of_length_le (by omega)]
section
variable {prog : Program} {w : World} {A : Around} {E : VSP} {s : Shared}
end
def tRev (K : Fg) (te : TE) : TE := fun σ H Q => te σ H fun x H1 => ∃ a xs, x = .ref a /\ SqT K H1 a xs /\ ∀ p, H1 p = none -> Q (.ref p) (upd H1 p (.tup xs.reverse))
end B
namespace B
end B
namespace B
open PySem PySem.Spec L2 PyProof.Rows
def Ris (zs : List R) : Prop := zs.Pairwise fun a b => lessR a b = true
theorem Als.take {α : Type} {P : V -> α -> Prop} : ∀ {xs : List V} {ds : List α} (n : Nat), Als P xs ds -> Als P (xs.take n) (ds.take n)
 | _, _, 0, _ => by rw [List.take_zero, List.take_zero]; exact .nil
 | _, _, _ + 1, .nil => .nil
 | _, _, n + 1, .cons h t => .cons h (Als.take n t)
theorem Als.join {α : Type} {P : V -> α -> Prop} : ∀ {xs ys : List V} {ds es : List α}, Als P xs ds -> Als P ys es -> Als P (xs ++ ys) (ds ++ es)
 | _, _, _, _, .nil, k => k
 | _, _, _, _, .cons h t, k => .cons h (Als.join t k)
end B
namespace L2
open PySem PySem.Spec PyProof.Rows
structure RoomM (k : Nat) (A : Around) : Prop where
 dp : A.depth + 3 * k + 5 < recursionLimit
 un : A.units + 16 * k + 200 < cLine
 gd : A.guards = some []
theorem RoomM.depth {k : Nat} {A : Around} (r : RoomM k A) : A.depth < recursionLimit := by have := r.dp; omega
theorem RoomM.deeper {k : Nat} {A : Around} (r : RoomM (k + 1) A) (env : Env) : RoomM k (A.deeper env) :=
 ⟨by have := r.dp; show A.depth + 1 + 3 * k + 5 < _; omega, by have := r.un; show A.units + 3 + 16 * k + 200 < _; omega, r.gd⟩
theorem Room.inM {j k : Nat} {A : Around} {v : Option Value} (r : Room k A) (h : j ≤ k) : RoomM j (A.mark v) :=
 ⟨by have := r.dp; show A.depth + 3 * j + 5 < _; omega, by have := r.un; show A.units + 16 * j + 200 < _; omega, r.gd⟩
structure FnOkM (P : Program) (w : World) (K : Fg) (mg : Str -> Option Value) (base : Heap) (CX : CXT) (k : Nat) (f : Addr) (fd : FuncData) (ps : List Str) (sp : Sp) : Prop where
 len : ∀ vs H Q E, sp vs H Q E -> vs.length = ps.length
 run : ∀ (A : Around) (outer : List Env) (s : Shared) (H : Hp) (args : Args) (us : List Value) (vs : List V) (Q : VK) (E : XK), RoomM k A -> Env0 P w K mg base A outer s H -> BindsTo s fd args (ps.zip us) -> Vals vs us -> sp vs H Q E →
  codeAny (model P w) A (.call (.ref f) args) (CR CX outer P w H s Q E) s
def cxM (CX : CXT) (P : Program) (w : World) (K : Fg) (mg : Str -> Option Value) (base : Heap) (N : List Str) (qual : Str) (scope : Scope) (f : Addr) (cd : Value) (A : Around) (outer : List Env) (s : Shared) (H : Hp) (E : XK) : Cx := { cxOf CX P w K mg base N qual scope f cd A outer s H E with calm := false }
theorem inv_startM {CX : CXT} {P : Program} {w : World} {K : Fg} {mg : Str -> Option Value} {base : Heap} {N ps : List Str} {qual : Str} {scope : Scope} {f : Addr} {cd : Value} {A : Around} {outer : List Env} {s s1 : Shared} {H : Hp} {E : XK} {us : List Value} {vs : List V}
  (S : FnScope N ps scope) (e0 : Env0 P w K mg base A outer s H) (hl : vs.length = ps.length) (r : Vals vs us)
  (x : InCallC s s.heap.objs.size (bindL (envOfC qual scope s.heap.objs.size f cd).kindOf (ps.zip us) fun _ => none) (cellsFrom (s.heap.objs.size + 1) scope.names []) (bindC (envOfC qual scope s.heap.objs.size f cd).kindOf (ps.zip us) fun _ => none) s1) :
  Inv (cxM CX P w K mg base N qual scope f cd A outer s H E) [] (start N vs) H s1 := by
 have e1 : Env0 P w K mg base { A with handled := none } outer s H := ⟨e0.frames, e0.mod, e0.bs, e0.bsz, e0.funs, e0.frf, e0.hok, e0.bare⟩
 have I := inv_start (CX := CX) (E := E) S rfl e1 hl r x
 exact ⟨⟨I.ok.mod, I.ok.kind, I.ok.glob, I.ok.blt, I.ok.above, I.ok.inj, I.ok.has, I.ok.cab, (fun z => nomatch z), I.ok.frames, I.ok.stk, I.ok.exf, I.ok.bs, I.ok.bsz, I.ok.noex, I.ok.exfs, I.ok.funs, I.ok.frf⟩, I.os, I.bare, I.base, I.loc, I.cell, I.free, I.freeC, I.pin, I.hok, I.len⟩
theorem fn_ofM {CX : CXT} {P : Program} {w : World} {K : Fg} {mg : Str -> Option Value} {base : Heap} {k : Nat} {f : Addr} {name qual : Str} {params : Arguments} {body : List Stmt} {scope : Scope} {dV kV doc pm cdv ct oc : Value} {an od : Option Addr}
  {osl : Array (Option Value)} {N ps : List Str} {sp : Sp} (lk : K.lookup f = some ⟨oc, od, .func (PySem.W.fnOf name qual params body scope dV kV doc pm an cdv ct), osl⟩) (hcd : PySem.W.codeIn K cdv qual = true) (S : FnScope N ps scope)
  (len : ∀ vs H Q E, sp vs H Q E -> vs.length = ps.length)
  (hbody : ∀ (A : Around) (outer : List Env) (s : Shared) (H : Hp) (vs : List V) (Q : VK) (E : XK), RoomM k (A.deeper (envOfC qual scope s.heap.objs.size f cdv)) -> sp vs H Q E →
   ∃ t, PSs (cxM CX P w K mg base N qual scope f cdv A outer s H E) body t /\ t { nx := fun _ H' => Q .non H', rt := Q } (start N vs) H) :
  FnOkM P w K mg base CX (k + 1) f (PySem.W.fnOf name qual params body scope dV kV doc pm an cdv ct) ps sp := by
 refine ⟨len, fun A outer s H args us vs Q E hr e0 hb r hsp => ?_⟩
 have hl := len _ _ _ _ hsp
 have KX : K.In s.heap := e0.mod.kin.keeps fun b o e => (e0.bs b o e).1
 have lim : s.heap.NoLimit := e0.mod.nolimit.keeps fun b o e => (e0.bs b o e).1
 have hkind : ∀ y ∈ ps.zip us, scope.names.lookup y.1 = some .local ∨ (scope.names.lookup y.1 = some .cell /\ ((cellsFrom (s.heap.objs.size + 1) scope.names []).lookup y.1).isSome = true) := fun ⟨n, v⟩ hy => by
  rcases S.par n (List.of_mem_zip hy).1 with q | q
  ·exact .inl q
  ·exact .inr ⟨q, PySem.W.cellsFrom_some _ _ _ (.inl q)⟩
 refine codeAny_call_function hr.depth (KX _ _ lk) rfl S.co S.gen rfl (PySem.W.codeRec_of KX hcd) (hb _ _ _ _ ?_)
 refine wpAny_newFunctionEnv_cells S.kind hkind fun env he s1 x => ?_
 subst he
 refine ⟨lim.keeps x.toInCall.keep, codeAny_func ?_⟩
 obtain ⟨t, ht, hq⟩ := hbody A outer s H vs Q E (hr.deeper _) hsp
 have I : Inv (cxM CX P w K mg base N qual scope f cdv A outer s H E) [] (start N vs) H s1 := inv_startM S e0 hl r x
 refine wpAny_mono (ht [] s1 (start N vs) H _ I hq) (fun fl s' hs => ?_) fun e s' hs => hs
 have fin : ∀ {σ' : St} {H' : Hp} {v : V} {u : Value}, Inv (cxM CX P w K mg base N qual scope f cdv A outer s H E) [] σ' H' s' -> RelV v u -> Q v H' -> CE outer P w H s Q u s' :=
  fun {σ' H' v u} J rv q => ⟨v, H', J.os, J.bare, J.base, J.hok, rv, q⟩
 cases fl with
 | ret u =>
  obtain ⟨v, σ', H', J, rv, q⟩ := hs
  exact fin J rv q
 | next =>
  obtain ⟨σ', H', J, q⟩ := hs
  exact fin (v := V.non) (u := Value.none) J rfl q
 | brk =>
  obtain ⟨_, _, _, q⟩ := hs
  exact False.elim q
 | cont =>
  obtain ⟨_, _, _, q⟩ := hs
  exact False.elim q
section
variable {X : Cx} {CX : CXT} {k : Nat} {f C : Addr} {fd : FuncData} {ps : List Str} {sp : Sp} {dvs : List V} {ds : List Value} {E : XK} {x m : Str} {p pos apos : Pos} {e o : Expr} {es : List Expr} {ta : TE} {t : TA}
theorem run_fnM {pins : PLs} {σ : St} {H : Hp} {s : Shared} {Q : VK} {us : List Value} {vs : List V} (F : FnOkM X.prog X.w X.K X.mg X.base CX k f fd ps sp) (hr : RoomM k X.A) (hb : Binds X.K fd ps ds) (hd : Vals dvs ds) (hx : Passes CX X E)
  (I : Inv X pins σ H s) (r : Vals vs us) (h : sp (vs ++ dvs) H Q E) : wpAny (model X.prog X.w) X.A (call (.ref f) us) (EP X pins σ Q) X.xe s := by
 have r2 : Vals (vs ++ dvs) (us ++ ds) := r.append hd
 have hl : (us ++ ds).length = ps.length := by rw [← r2.length]; exact F.len _ _ _ _ h
 refine wpAny_call (codeAny_mono (F.run X.A X.stack s H ⟨us, []⟩ (us ++ ds) (vs ++ dvs) Q E hr I.env0 (hb s us I.kIn hl) r2 h) fun r s' hq => ?_)
 cases r with
 | error e => exact hx pins σ H s e s' I hq
 | ok fl =>
  cases fl with
  | ret u => exact I.after hq
  | next => exact False.elim hq
  | brk => exact False.elim hq
  | cont => exact False.elim hq
theorem pe_callM (F : FnOkM X.prog X.w X.K X.mg X.base CX k f fd ps sp) (hr : RoomM k X.A) (hg : Gl X x) (hm : X.mg x = some (.ref f)) (hk : PySem.W.keepIn X.K (.ref f) = true) (hb : Binds X.K fd ps ds) (hd : Vals dvs ds) (hx : Passes CX X E)
  (ha : PA X (e :: es) t) (hdb : (x == ("__debug__" : Str)) = false := by decide) (he : starEach (e :: es) X.env = (false, eval e X.env) :: starEach es X.env := by rfl) (hpl : (backTo pos (starEach es X.env)).any (·.1) = false := by rfl) :
  PE X (.Call (.Name x p) (e :: es) [] pos) (tCall sp dvs E t) := by
 intro pins s σ H Q I h
 refine wpAny_Call_Name_kw (ld_glob I hg hm ?_ hdb)
 refine PySem.W.callWith_K (h₀ := X.base) I.ok.mod.kin hk (thn (ha pos pins s σ H _ I h) fun us s1 ⟨vs, H1, I1, r, q⟩ => ⟨I1.kIn, ?_⟩) he hpl
 exact run_fnM F hr hb hd hx I1 r q
end
section
variable {P : Program} {w : World} {K : Fg} {mg : Str -> Option Value} {base : Heap}
theorem Fun.okM {x qual : Str} {st : Stmt} {f : Addr} {fd : FuncData} {N ps : List Str} {k : Nat} {sp : Sp} (F : Fun K x qual st f fd) (S : FnScope N ps (defScope st)) (len : ∀ vs H Q E, sp vs H Q E -> vs.length = ps.length)
  (hbody : ∀ (cdv : Value) (A : Around) (outer : List Env) (s : Shared) (H : Hp) (vs : List V) (Q : VK) (E : XK), RoomM k (A.deeper (envOfC qual (defScope st) s.heap.objs.size f cdv)) -> sp vs H Q E →
   ∃ t, PSs (cxM CX0 P w K mg base N qual (defScope st) f cdv A outer s H E).nox (defBody st) t /\ t { nx := fun _ H' => Q .non H', rt := Q } (start N vs) H) : FnOkM P w K mg base CX0 (k + 1) f fd ps sp := by
 obtain ⟨oc, od, kV, doc, pm, an, cdv, ct, osl, rfl, lk, hcd⟩ := F.ex
 refine fn_ofM lk hcd S len fun A outer s H vs Q E hr hsp => ?_
 obtain ⟨t, h, q⟩ := hbody cdv A outer s H vs Q E hr hsp
 exact ⟨t, h.nox, q⟩
end
end L2
namespace B
open PySem PySem.Spec L2 PyProof.Rows
section
set_option autoImplicit true
set_option relaxedAutoImplicit true
theorem qe_callM {X : Cx} {CX : CXT} {k : Nat} {f : Addr} {fd : FuncData} {ps : List Str} {sp : Sp} {dvs : List V} {ds : List Value} {E : XK} {x : Str} {p pos : Pos} {e : Expr} {es : List Expr} {t : TA} (F : FnOkM X.prog X.w X.K X.mg X.base CX k f fd ps sp) (hr : RoomM k X.A) (hg : Gl X x) (hm : X.mg x = some (.ref f)) (hk : PySem.W.keepIn X.K (.ref f) = true) (hb : Binds X.K fd ps ds) (hd : Vals dvs ds) (hx : Passes CX X E) (ha : QA X (e :: es) t) (hdb : (x == ("__debug__" : Str)) = false := by decide) (he : starEach (e :: es) X.env = (false, eval e X.env) :: starEach es X.env := by rfl) (hpl : (backTo pos (starEach es X.env)).any (·.1) = false := by rfl) : QE X (.Call (.Name x p) (e :: es) [] pos) (tCall sp dvs E t) := ⟨pe_callM F hr hg hm hk hb hd hx ha.p hdb he hpl⟩
end
def Iti (d : Addr) (ob : Obj) (kvs : List (Key × V)) : It :=
 ⟨fun i H => H d = some (.frz ob (.dK kvs)) /\ i < kvs.length,
  fun i H x H' => ∃ p k v, H p = none /\ x = .ref p /\ kvs[i]? = some (k, v) /\ H' = upd H p (.tup [kV k, v]),
  fun i H => H d = some (.frz ob (.dK kvs)) /\ kvs.length ≤ i⟩
theorem KV.get : ∀ {kvs : List (Key × V)} {vs : List (Key × Value)}, KV kvs vs -> ∀ {i : Nat} {k : Key} {v : V}, kvs[i]? = some (k, v) -> ∃ u, vs[i]? = some (k, u) /\ RelV v u
 | _, _, .nil, i, k, v, h => by simp at h
 | (a, b) :: r, (c, d) :: t, .cons h z, 0, k, v, e => by
  have e' : (a, b) = (k, v) := by simpa using e
  cases e'
  obtain ⟨h1, h2⟩ := h
  have h1' : a = c := h1
  subst h1'
  exact ⟨d, rfl, h2⟩
 | _ :: r, _ :: t, .cons h z, i + 1, k, v, e => by
  obtain ⟨u, q, w⟩ := KV.get z (i := i) (by simpa using e)
  exact ⟨u, by simpa using q, w⟩
theorem kV_of {k : Key} {u : Value} (h : keyIs k u = true) : RelV (kV k) u := by
 rcases keyIs_shape h with ⟨i, t, rfl, rfl⟩ | ⟨x, t, rfl, rfl⟩
 ·exact ⟨t, rfl⟩
 ·exact ⟨t, rfl⟩
theorem en_iit : entryFor table "dict_itemiterator.__iter__" = some Builtin.«dict_keyiterator.__iter__» :=
 entryFor_alias (by kernel_rfl) (by first | rfl | decide +kernel | (unfold String.splitOn; simp +decide [String.splitOnAux])) (by decide +kernel) (by kernel_rfl) (id' := "dict_keyiterator.__iter__")
theorem turn_items {P : Program} {w : World} {K : Fg} {elts : List Expr} {x1} {pos : Pos} {it d : Addr} {ob : Obj} {kvs : List (Key × V)} {es : Array DictEntry} {ep : Nat} (hob : ob.data = .dict es ep) :
  Turn P w K (.Tuple elts x1 pos) (Iti d ob kvs) [it] it (fun i h => ∃ ok ov, IsItemIter h it d i kvs.length ep ok ov) where
 mem := by simp
 obj := fun i h st c hc => by
  obtain ⟨ok, ov, e⟩ := st
  rw [List.mem_singleton] at hc
  subst hc
  exact ⟨_, e, fun v q => by cases (show Data.fields _ = Data.cell v from q)⟩
 keep := fun i h h' ⟨ok, ov, e⟩ k => ⟨ok, ov, k it (by simp) _ e⟩
 item := by
  intro X hP hw hK hc i pins s σ H E I hf st hg
  subst hP hw hK
  obtain ⟨hd, hi⟩ := hg
  obtain ⟨ok, ov, e⟩ := st
  obtain ⟨q0, z, hds, vs, rel, o, es', ep', d1, d2, d3, d4⟩ := (show ObjOk X.prog X.w H s.heap d (.frz ob (.dK kvs)) from I.hok d _ hd)
  have eo : o = ob := Option.some.inj (d1.symm.trans q0)
  subst eo
  rw [hob] at d3
  cases d3
  have dat : s.heap.DictAt (mixKind X.prog X.w) d vs ep := ⟨o, es, d1, d2, hob, d4⟩
  obtain ⟨k, v, hkv'⟩ : ∃ k v, kvs[i]? = some (k, v) := ⟨(kvs[i]'hi).1, (kvs[i]'hi).2, List.getElem?_eq_getElem hi⟩
  obtain ⟨u, hu, ru⟩ := KV.get rel hkv'
  have ndi : it ≠ d := fun q => by rw [q] at hf; have := (hf d (by simp)).1; rw [hd] at this; cases this
  have itl : it < s.heap.objs.size := Heap.lt_size e
  rw [rel.length] at e
  refine wpAny_pyNext_items_item e dat hu fun key h1 hkey eo tup hz hk => ⟨_, rfl, wpAny_letOwnedTupleGo_items eo fun h2 e2 sb => ?_⟩
  have nt : s.heap.objs.size ≠ it := Nat.ne_of_gt itl
  have P : ObjOk X.prog X.w (upd H s.heap.objs.size (.tup [kV k, v])) h2 s.heap.objs.size (.tup [kV k, v]) :=
   ⟨by show 2 ≤ sizeLine; decide, [key, u], .cons (kV_of hkey) (.cons ru .nil), ⟨_, sb.extBut _ _ nt tup, rfl, _, rfl⟩⟩
  have I2 : Inv X pins σ (upd H s.heap.objs.size (.tup [kV k, v])) { s with heap := h2, toks := s.toks } := turnedN I (fun c o' n q => by
   have n' : c ≠ it := fun r => n (by simp [r])
   exact sb.extBut _ _ n' (hk c o' n' q)) hf (Nat.le_refl _) P
  refine ⟨.ref s.heap.objs.size, _, I2, rfl, ⟨_, k, v, I.fresh, rfl, hkv', rfl⟩, ⟨key, u, by rw [rel.length]; exact e2⟩, fun c hc => ?_⟩
  have hc' : c = it := by simpa using hc
  rw [hc', upd_ne (Ne.symm nt)]
  exact (hf it (by simp)).1
 done := by
  intro X hP hw hK hc i pins s σ H E I hf st hg
  subst hP hw hK
  obtain ⟨hd, hi⟩ := hg
  obtain ⟨ok, ov, e⟩ := st
  obtain ⟨q0, z, hds, vs, rel, o, es', ep', d1, d2, d3, d4⟩ := (show ObjOk X.prog X.w H s.heap d (.frz ob (.dK kvs)) from I.hok d _ hd)
  have eo : o = ob := Option.some.inj (d1.symm.trans q0)
  subst eo
  rw [hob] at d3
  cases d3
  have dat : s.heap.DictAt (mixKind X.prog X.w) d vs ep := ⟨o, es, d1, d2, hob, d4⟩
  have hh : X.A.in1.handled = none := I.ok.hd hc
  rw [rel.length] at e hi
  refine wpAny_pyNext_items_end hh e dat (List.getElem?_eq_none hi) fun h1 ex => ⟨rfl, ?_⟩
  exact turnedL (t' := s.toks) I (fun c o' n q => ex c o' (fun r => n (by simp [r])) q) hf
 self := fun A i s Q E st h => by
  obtain ⟨ok, ov, e⟩ := st
  have hT : s.TypeIs (.ref it) "dict_itemiterator" := ⟨_, e, rfl⟩
  refine wpAny_pyIter_slot hT PySem.F.slot_dict_itemiterator_iter (wpAny_call_entry PySem.F.slot_dict_itemiterator_iter hT en_iit ?_ (PySem.F.args_dict_itemiterator_iter_1 _))
  show wpAny _ _ (ret (.ref it)) _ _ s
  exact wpAny_pure ⟨_, rfl, "dict_itemiterator", _, hT, PySem.F.slot_dict_itemiterator_next.lookup, h⟩
def iItems (td : TE) : TI := fun σ H R => td σ H fun x H1 => ∃ d kvs, x = .ref d /\ H1 d = some (.dK kvs) /\ ∀ ob, R (Iti d ob kvs) (upd H1 d (.frz ob (.dK kvs)))
theorem pi_items {X : Cx} {elts : List Expr} {x1} {tp apos pos : Pos} {o : Expr} {td : TE} (ho : PE X o td) (hb : attributeBase o "items" X.env (eval o X.env) = eval o X.env := by rfl) (hl : (apos.endLine == pos.line) = true := by rfl) :
  PI X (.Tuple elts x1 tp) (.Call (.Attribute o "items" apos) [] [] pos) (iItems td) := by
 intro pins s σ H R I h
 refine wpAny_Call_method (T := "dict") (id := "dict.items") hb rfl hl PySem.F.plainAttrs_dict PySem.F.slot_dict_items PySem.F.type_dict_items (thn (ho pins s σ H _ I h) fun u s1 ⟨x, H1, I1, rx, d, kvs, ex, e, q⟩ => ?_)
 subst ex
 obtain rfl : u = Value.ref d := rx
 obtain ⟨z, hds, vs, rel, dd⟩ := dk_of I1.hok e
 obtain ⟨t1, t2, _⟩ := isD_at I1 (.inl ⟨kvs, .inl e⟩)
 refine ⟨t1, t2, ?_⟩
 show wpAny _ _ (callWith pos (.builtin "dict.items") [.ref d] [] []) _ _ _
 refine method_meetsIn PySem.F.slot_dict_items PySem.F.entry_dict_items rfl (PySem.evalArgs_none ⟨rfl, t1, PySem.F.args_dict_items_1 _, _, meets_dict_items (mixKind X.prog X.w) d hds, ⟨vs, dd⟩, ?_⟩)
 obtain ⟨o', es, ep, d1, d2, d3, d4⟩ := id dd
 have dat : s1.heap.DictAt (mixKind X.prog X.w) d vs ep := ⟨o', es, d1, d2, d3, d4⟩
 refine wpAny_pyIter_items (d := d) (kvs := vs) (ep := ep) ⟨_, Heap.get?_push_size _ rfl, rfl, rfl⟩ (dat.push _) ?_
 have sz : (s1.heap.push { cls := .type "dict_items", data := .fields #[.ref d] }).objs.size = s1.heap.objs.size + 1 := Heap.size_push ..
 have I2 := I1.kept (t' := s1.toks) (h' := (s1.heap.push { cls := .type "dict_items", data := .fields #[.ref d] }).push { cls := .type "dict_itemiterator", data := .fields #[.none, .bool false, .ref d, .int 0 0, .int vs.length 0, .int ep 0, .none, .none] }) fun b o q => Heap.get?_push_of_some _ (Heap.get?_push_of_some _ q)
 have hit := Heap.get?_push_size (s1.heap.push { cls := .type "dict_items", data := .fields #[.ref d] }) (o := { cls := .type "dict_itemiterator", data := .fields #[.none, .bool false, .ref d, .int 0 0, .int vs.length 0, .int ep 0, .none, .none] }) rfl
 have dl : d < s1.heap.objs.size := Heap.lt_size d1
 have k2 : ∀ b o, s1.heap.get? b = some o -> ((s1.heap.push { cls := .type "dict_items", data := .fields #[.ref d] }).push { cls := .type "dict_itemiterator", data := .fields #[.none, .bool false, .ref d, .int 0 0, .int vs.length 0, .int ep 0, .none, .none] }).get? b = some o := fun b o q => Heap.get?_push_of_some _ (Heap.get?_push_of_some _ q)
 generalize (s1.heap.push { cls := .type "dict_items", data := .fields #[.ref d] }).push { cls := .type "dict_itemiterator", data := .fields #[.none, .bool false, .ref d, .int 0 0, .int vs.length 0, .int ep 0, .none, .none] } = hE at I2 hit k2 ⊢
 rw [sz] at hit ⊢
 have I3 := d_write (h' := hE) (t' := s1.toks) (ob := .frz o' (.dK kvs)) I2 (by rw [e]; exact True.intro) ⟨rfl, fun _ _ => rfl⟩ ⟨_, k2 _ _ d1⟩ ⟨k2 _ _ d1, z, hds, vs, rel, o', es, ep, k2 _ _ d1, d2, d3, d4⟩
 have nd : s1.heap.objs.size + 1 ≠ d := Nat.ne_of_gt (Nat.lt_succ_of_lt dl)
 refine ⟨_, [s1.heap.objs.size + 1], _, _, _, rfl, I3, turn_items d3, ⟨.none, .none, by rw [rel.length]; exact hit⟩, fun c hc => ?_, q o'⟩
 have hc' : c = s1.heap.objs.size + 1 := by simpa using hc
 subst hc'
 exact I1.fpOk (Nat.le_succ _) (by rw [upd_ne nd]; exact I1.hok.fresh (Nat.le_succ _))
theorem for_items {d : Addr} {ob : Obj} {kvs : List (Key × V)} {g : TG} {tb : TS} {D : Ends} {σ : L2.St} {H : Hp} (Pv : Nat -> L2.St -> Hp -> Prop) (h0 : Pv 0 σ H)
  (hl : ∀ i σ H, Pv i σ H -> H d = some (.frz ob (.dK kvs)))
  (hs : ∀ i k v p σ H, kvs[i]? = some (k, v) -> Pv i σ H -> H p = none -> g (.ref p) σ (upd H p (.tup [kV k, v])) fun σ2 H2 => tb { D with nx := Pv (i + 1), ct := Pv (i + 1), bk := D.nx } σ2 H2) (hd : ∀ σ H, Pv kvs.length σ H -> D.nx σ H) :
  ∃ W : Nat -> Nat -> L2.St -> Hp -> Prop, (∃ m, W 0 m σ H) /\ ∀ i m σ H, W i m σ H →
   ((Iti d ob kvs).stop i H /\ D.nx σ H) ∨ ((Iti d ob kvs).go i H /\ ∃ N : L2.St -> Hp -> Prop, (∀ σ' H', N σ' H' -> ∃ m', m' < m /\ W (i + 1) m' σ' H') /\ ∀ x H', (Iti d ob kvs).yld i H x H' -> g x σ H' fun σ2 H2 => tb { D with nx := N, ct := N, bk := D.nx } σ2 H2) := by
 refine ⟨fun i m σ H => m = kvs.length - i /\ i ≤ kvs.length /\ Pv i σ H, ⟨_, rfl, Nat.zero_le _, h0⟩, ?_⟩
 rintro i m σ H ⟨rfl, hi, p⟩
 have q := hl i σ H p
 by_cases hlt : i < kvs.length
 ·refine .inr ⟨⟨q, hlt⟩, Pv (i + 1), fun σ' H' p' => ⟨kvs.length - (i + 1), by omega, rfl, hlt, p'⟩, fun x H' y => ?_⟩
  obtain ⟨pp, k, v, hp, rfl, hkv, rfl⟩ := y
  exact hs i k v pp σ _ hkv p hp
 ·have e : i = kvs.length := by omega
  subst e
  exact .inl ⟨⟨q, Nat.le_refl _⟩, hd σ H p⟩
def enc (ps : List (Int × Int)) : List (Key × V) := ps.map fun p => (Sum.inl p.1, V.int p.2)
def topP : List (Int × Int) -> Int -> Int
 | [], _ => 0
 | (c, u) :: r, b => if c = b then u else topP r b
def addP : List (Int × Int) -> Int -> Int -> List (Int × Int)
 | [], b, t => [(b, 0 + t)]
 | (c, u) :: r, b, t => if c = b then (c, u + t) :: r else (c, u) :: addP r b t
theorem put_here {p : Key × V} {r : List (Key × V)} {k : Key} {v : V} (e : p.1 = k) (n : ∀ q ∈ r, q.1 ≠ k) : putK (p :: r) k v = (k, v) :: r := by
 unfold putK
 rw [if_pos (by simp [e]), List.map_cons, if_pos e, e]
 congr 1
 exact (List.map_congr_left (g := id) (fun q hq => by rw [if_neg (n q hq)]; rfl)).trans (List.map_id r)
theorem put_there {p : Key × V} {r : List (Key × V)} {k : Key} {v : V} (e : ¬ p.1 = k) : putK (p :: r) k v = p :: putK r k v := by
 unfold putK
 rw [List.any_cons, decide_eq_false e, Bool.false_or]
 split
 ·rw [List.map_cons, if_neg e]
 ·rfl
theorem get_enc : ∀ (ps : List (Int × Int)) (b : Int), (valV (enc ps) (Sum.inl b)).getD (V.int 0) = V.int (topP ps b)
 | [], b => rfl
 | (c, u) :: r, b => by
  show (valV ((Sum.inl c, V.int u) :: enc r) (Sum.inl b)).getD (V.int 0) = V.int (if c = b then u else topP r b)
  by_cases e : c = b
  ·rw [if_pos e, valV_pos (by rw [e])]; rfl
  ·rw [if_neg e, valV_neg (fun z => e (by injection z)), get_enc r b]
theorem put_enc : ∀ (ps : List (Int × Int)) (b t : Int), (ps.map (·.1)).Nodup -> putK (enc ps) (Sum.inl b) (V.int (topP ps b + t)) = enc (addP ps b t)
 | [], b, t, _ => rfl
 | (c, u) :: r, b, t, nd => by
  have nd' := List.nodup_cons.mp nd
  show putK ((Sum.inl c, V.int u) :: enc r) (Sum.inl b) (V.int ((if c = b then u else topP r b) + t)) = enc (if c = b then (c, u + t) :: r else (c, u) :: addP r b t)
  by_cases e : c = b
  ·rw [if_pos e, if_pos e, put_here (by rw [e]) (fun q hq z => ?_)]
   ·show _ = (Sum.inl c, V.int (u + t)) :: enc r
    rw [e]
   ·obtain ⟨p, hp, rfl⟩ := List.mem_map.mp hq
    have z' : p.1 = b := by injection z
    exact nd'.1 (List.mem_map.mpr ⟨p, hp, z'.trans e.symm⟩)
  ·rw [if_neg e, if_neg e, put_there (fun z => e (by injection z)), put_enc r b t nd'.2]
   rfl
def sumv : List (Int × Int) -> Rat
 | [] => 0
 | p :: r => (p.2 : Rat) / (p.1 : Rat) + sumv r
theorem add_div {a b c : Rat} : (a + b) / c = a / c + b / c := by rw [Rat.div_def, Rat.div_def, Rat.div_def, Rat.add_mul]
theorem sumv_add : ∀ (ps : List (Int × Int)) (b t : Int), sumv (addP ps b t) = sumv ps + (t : Rat) / (b : Rat)
 | [], b, t => by
  show ((0 + t : Int) : Rat) / (b : Rat) + 0 = 0 + (t : Rat) / (b : Rat)
  rw [Int.zero_add]; grind
 | (c, u) :: r, b, t => by
  show sumv (if c = b then (c, u + t) :: r else (c, u) :: addP r b t) = (u : Rat) / (c : Rat) + sumv r + (t : Rat) / (b : Rat)
  by_cases e : c = b
  ·rw [if_pos e]
   show ((u + t : Int) : Rat) / (c : Rat) + sumv r = _
   rw [Rat.intCast_add, add_div, e]
   grind
  ·rw [if_neg e]
   show (u : Rat) / (c : Rat) + sumv (addP r b t) = _
   rw [sumv_add r b t]
   grind
theorem sumv_snoc : ∀ (ps : List (Int × Int)) (p : Int × Int), sumv (ps ++ [p]) = sumv ps + (p.2 : Rat) / (p.1 : Rat)
 | [], p => by show (p.2 : Rat) / (p.1 : Rat) + 0 = 0 + _; grind
 | q :: r, p => by
  show (q.2 : Rat) / (q.1 : Rat) + sumv (r ++ [p]) = (q.2 : Rat) / (q.1 : Rat) + sumv r + _
  rw [sumv_snoc r p]; grind
structure PsOk (n i : Nat) (ps : List (Int × Int)) : Prop where
 nd : (ps.map (·.1)).Nodup
 len : ps.length ≤ i
 bot : ∀ p ∈ ps, 0 < p.1 /\ p.1.natAbs < 2 ^ n
 top : ∀ p ∈ ps, p.2.natAbs ≤ i * 2 ^ n
theorem add_keys : ∀ (ps : List (Int × Int)) (b t : Int) (c : Int), c ∈ (addP ps b t).map (·.1) ↔ c ∈ ps.map (·.1) ∨ c = b
 | [], b, t, c => by simp [addP]
 | (d, u) :: r, b, t, c => by
  show c ∈ (if d = b then (d, u + t) :: r else (d, u) :: addP r b t).map (·.1) ↔ _
  by_cases e : d = b
  ·rw [if_pos e]
   constructor
   ·intro h; exact .inl h
   ·rintro (h | h)
    ·exact h
    ·exact List.mem_cons.mpr (.inl (h.trans e.symm))
  ·rw [if_neg e, List.map_cons, List.map_cons, List.mem_cons, List.mem_cons, add_keys r b t c]
   exact or_assoc.symm
theorem add_nd : ∀ (ps : List (Int × Int)) (b t : Int), (ps.map (·.1)).Nodup -> ((addP ps b t).map (·.1)).Nodup
 | [], b, t, _ => by simp [addP]
 | (d, u) :: r, b, t, nd => by
  have nd' := List.nodup_cons.mp nd
  show ((if d = b then (d, u + t) :: r else (d, u) :: addP r b t).map (·.1)).Nodup
  by_cases e : d = b
  ·rw [if_pos e]; exact nd
  ·rw [if_neg e, List.map_cons, List.nodup_cons]
   refine ⟨fun z => ?_, add_nd r b t nd'.2⟩
   rcases (add_keys r b t d).mp z with h | h
   ·exact nd'.1 h
   ·exact e h
theorem add_len : ∀ (ps : List (Int × Int)) (b t : Int), (addP ps b t).length ≤ ps.length + 1
 | [], b, t => Nat.le_refl 1
 | (d, u) :: r, b, t => by
  show (if d = b then (d, u + t) :: r else (d, u) :: addP r b t).length ≤ _
  split
  ·exact Nat.le_succ _
  ·exact Nat.succ_le_succ (add_len r b t)
theorem add_top : ∀ (ps : List (Int × Int)) (b t : Int) (M N : Nat), (∀ p ∈ ps, p.2.natAbs ≤ M) -> t.natAbs ≤ N -> ∀ p ∈ addP ps b t, p.2.natAbs ≤ M + N
 | [], b, t, M, N, _, ht, p, hp => by
  have e : p = (b, 0 + t) := by simpa [addP] using hp
  rw [e]
  show (0 + t).natAbs ≤ M + N
  omega
 | (d, u) :: r, b, t, M, N, h, ht, p, hp => by
  have hu : u.natAbs ≤ M := h (d, u) List.mem_cons_self
  have hr : ∀ q ∈ r, q.2.natAbs ≤ M := fun q hq => h q (List.mem_cons_of_mem _ hq)
  have hp' : p ∈ (if d = b then (d, u + t) :: r else (d, u) :: addP r b t) := hp
  split at hp'
  ·rcases List.mem_cons.mp hp' with e | e
   ·rw [e]
    show (u + t).natAbs ≤ M + N
    omega
   ·have := hr p e
    omega
  ·rcases List.mem_cons.mp hp' with e | e
   ·rw [e]
    show u.natAbs ≤ M + N
    omega
   ·exact add_top r b t M N hr ht p e
theorem PsOk.add {n i : Nat} {ps : List (Int × Int)} (h : PsOk n i ps) {r : R} (w : Wf n r) : PsOk n (i + 1) (addP ps r.2 r.1) where
 nd := add_nd ps r.2 r.1 h.nd
 len := Nat.le_trans (add_len ps r.2 r.1) (Nat.succ_le_succ h.len)
 bot := fun p hp => by
  rcases (add_keys ps r.2 r.1 p.1).mp (List.mem_map.mpr ⟨p, hp, rfl⟩) with z | z
  ·obtain ⟨q, hq, e⟩ := List.mem_map.mp z
   rw [← e]
   exact h.bot q hq
  ·rw [z]; exact ⟨w.pos, w.bot⟩
 top := fun p hp => by
  have := add_top ps r.2 r.1 (i * 2 ^ n) (2 ^ n) h.top (Nat.le_of_lt w.top) p hp
  rw [Nat.add_mul, Nat.one_mul]
  exact this
theorem PsOk.nil (n : Nat) : PsOk n 0 [] := ⟨List.nodup_nil, Nat.le_refl _, (fun _ h => nomatch h), (fun _ h => nomatch h)⟩
theorem PsOk.wf {n i : Nat} {ps : List (Int × Int)} (h : PsOk n i ps) (hi : i ≤ 255) {p : Int × Int} (hp : p ∈ ps) : Wf (n + 8) (mkR p.2 p.1) := by
 refine mkR_wf (h.bot p hp).1 ?_ (Nat.lt_of_lt_of_le (h.bot p hp).2 (Nat.pow_le_pow_right (by decide) (by omega)))
 have a := h.top p hp
 have b : i * 2 ^ n ≤ 255 * 2 ^ n := Nat.mul_le_mul_right _ hi
 have c : 0 < 2 ^ n := Nat.pow_pos (by decide)
 rw [Nat.pow_add]
 omega
def vsum : List R -> Rat
 | [] => 0
 | r :: t => val r + vsum t
theorem vsum_snoc : ∀ (rs : List R) (r : R), vsum (rs ++ [r]) = vsum rs + val r
 | [], r => by show val r + 0 = 0 + val r; grind
 | q :: t, r => by show val q + vsum (t ++ [r]) = val q + vsum t + val r; rw [vsum_snoc t r]; grind
theorem val_fold : ∀ (rs : List R) (acc : R), Red acc -> (∀ r ∈ rs, Red r) -> Red (rs.foldl plusR acc) /\ val (rs.foldl plusR acc) = val acc + vsum rs
 | [], acc, ha, _ => ⟨ha, by show val acc = val acc + 0; grind⟩
 | r :: t, acc, ha, h => by
  have hr := h r List.mem_cons_self
  obtain ⟨a, b⟩ := val_fold t (plusR acc r) (plus_red ha hr) fun q hq => h q (List.mem_cons_of_mem _ hq)
  refine ⟨a, ?_⟩
  rw [List.foldl_cons, b, val_plus ha.pos hr.pos]
  show val acc + val r + vsum t = val acc + (val r + vsum t)
  grind
theorem val_nought : val (0, 1) = 0 := by decide +kernel
theorem red_nought : Red (0, 1) := ⟨by decide, by decide⟩
theorem val_sum {rs : List R} (h : ∀ r ∈ rs, Red r) : Red (sumR rs) /\ val (sumR rs) = vsum rs := by
 obtain ⟨a, b⟩ := val_fold rs (0, 1) red_nought h
 refine ⟨a, b.trans ?_⟩
 rw [val_nought]; grind
theorem sum_is {rs : List R} {x : R} (h : ∀ r ∈ rs, Red r) (hx : Red x) (e : val x = vsum rs) : x = sumR rs :=
 val_inj hx (val_sum h).1 (e.trans (val_sum h).2.symm)
theorem Wf.red {n : Nat} {r : R} (h : Wf n r) : Red r := ⟨h.pos, h.cop⟩
theorem sum_wf' (n : Nat) : ∀ (rs : List R) (m : Nat) (acc : R), Wf m acc -> (∀ r ∈ rs, Wf n r) -> Wf (m + (n + 1) * rs.length) (rs.foldl plusR acc)
 | [], m, acc, ha, _ => ha
 | r :: t, m, acc, ha, h => by
  refine (sum_wf' n t (m + n + 1) (plusR acc r) (plus_wf ha (h r List.mem_cons_self)) fun q hq => h q (List.mem_cons_of_mem _ hq)).mono ?_
  rw [List.length_cons, Nat.mul_succ]
  omega
theorem sum_wfN {n : Nat} {rs : List R} (h : ∀ r ∈ rs, Wf n r) : Wf (1 + (n + 1) * rs.length) (sumR rs) := sum_wf' n rs 1 (0, 1) zero_wf h
section
set_option autoImplicit true
set_option relaxedAutoImplicit true
theorem qe_dnewK   : QE X (.Dict [] [] pos) tDNewK := ⟨pe_dnewK ⟩
theorem qe_dget2  (hu : X.A.units + 1 < cLine) (ho : QE X o td) (he : QE X e ty) (hf : QE X f tx) (m : M2 X o "get" apos e f cpos) : QE X (.Call (.Attribute o "get" apos) [e, f] [] cpos) (tDGet2 td ty tx) := ⟨pe_dget2 hu ho.p he.p hf.p m⟩
theorem qs_dput  (hu : X.A.units + 1 < cLine) (ho : QE X o td) (hi : QE X i ty) (hv : QE X value tv) (hs : swapsWith value (some (.Subscript o i pos')) pos.line X.env = pure false) : QS X (.Assign [.Subscript o i pos'] value pos) (sDPut td ty tv) := ⟨ps_dput hu ho.p hi.p hv.p hs⟩
theorem qi_items  {X : Cx} {elts : List Expr} {x1} {tp apos pos : Pos} {o : Expr} {td : TE} (ho : QE X o td) (hb : attributeBase o "items" X.env (eval o X.env) = eval o X.env := by rfl) (hl : (apos.endLine == pos.line) = true := by rfl) : QI X (.Tuple elts x1 tp) (.Call (.Attribute o "items" apos) [] [] pos) (iItems td) := ⟨pi_items ho.p hb hl⟩
end
end B
namespace B
abbrev Pl := Nat × Nat
def lenP (p : Pl) : Int := (p.2 : Int) - p.1 + 1
def AheadP (p q : Pl) : Prop := p.1 < q.1 ∨ (p.1 = q.1 /\ q.2 ≤ p.2)
structure Bst (S : Pl -> Prop) (L : Pl -> Int) (p : Pl) : Prop where
 inn : S p
 all : ∀ q, S q -> L q * lenP p < L p * lenP q ∨ (L q * lenP p = L p * lenP q /\ AheadP p q)
def Sec (n : Nat) (p : Pl) : Prop := p.1 ≤ p.2 /\ p.2 < n
theorem Sec.pos {n : Nat} {p : Pl} (h : Sec n p) : 0 < lenP p := by unfold lenP; have := h.1; omega
theorem dens_lt {l p q lr lp lq : Int} (hr : 0 < lr) (hp : 0 < lp) (hq : 0 < lq) (h1 : l * lp ≤ p * lr) (h2 : p * lq < q * lp) : l * lq < q * lr := by
 refine Int.lt_of_mul_lt_mul_right (a := lp) ?_ (Int.le_of_lt hp)
 have a1 : l * lq * lp = l * lp * lq := Int.mul_right_comm _ _ _
 have a2 : q * lr * lp = q * lp * lr := Int.mul_right_comm _ _ _
 have b1 : l * lp * lq ≤ p * lr * lq := Int.mul_le_mul_of_nonneg_right h1 (Int.le_of_lt hq)
 have b2 : p * lr * lq = p * lq * lr := Int.mul_right_comm _ _ _
 have b3 : p * lq * lr < q * lp * lr := Int.mul_lt_mul_of_pos_right h2 hr
 omega
theorem dens_le {l p q lr lp lq : Int} (hr : 0 < lr) (hp : 0 < lp) (hq : 0 < lq) (h1 : l * lp < p * lr) (h2 : p * lq ≤ q * lp) : l * lq < q * lr := by
 refine Int.lt_of_mul_lt_mul_right (a := lp) ?_ (Int.le_of_lt hp)
 have a1 : l * lq * lp = l * lp * lq := Int.mul_right_comm _ _ _
 have a2 : q * lr * lp = q * lp * lr := Int.mul_right_comm _ _ _
 have b1 : l * lp * lq < p * lr * lq := Int.mul_lt_mul_of_pos_right h1 hq
 have b2 : p * lr * lq = p * lq * lr := Int.mul_right_comm _ _ _
 have b3 : p * lq * lr ≤ q * lp * lr := Int.mul_le_mul_of_nonneg_right h2 (Int.le_of_lt hr)
 omega
theorem dens_eq {l p q lr lp lq : Int} (hp : 0 < lp) (h1 : l * lp = p * lr) (h2 : p * lq = q * lp) : l * lq = q * lr := by
 refine Int.eq_of_mul_eq_mul_right (a := lp) (Int.ne_of_gt hp) ?_
 have a1 : l * lq * lp = l * lp * lq := Int.mul_right_comm _ _ _
 have a2 : q * lr * lp = q * lp * lr := Int.mul_right_comm _ _ _
 have b2 : p * lr * lq = p * lq * lr := Int.mul_right_comm _ _ _
 rw [a1, a2, h1, b2, h2]
theorem Bst.more {n : Nat} {S S' : Pl -> Prop} {L : Pl -> Int} {p q : Pl} (h : Bst S L p) (st : ∀ r, S' r -> Sec n r) (e : ∀ r, S' r ↔ S r ∨ r = q) (gt : L p * lenP q < L q * lenP p) : Bst S' L q := by
 have iq : S' q := (e q).mpr (.inr rfl)
 have ip : S' p := (e p).mpr (.inl h.inn)
 refine ⟨iq, fun r hr => ?_⟩
 rcases (e r).mp hr with z | z
 ·refine .inl (dens_lt (st r hr).pos (st p ip).pos (st q iq).pos ?_ gt)
  rcases h.all r z with z | ⟨z, _⟩
  ·exact Int.le_of_lt z
  ·exact Int.le_of_eq z
 ·subst z
  exact .inr ⟨rfl, .inr ⟨rfl, Nat.le_refl _⟩⟩
theorem Bst.stay {S S' : Pl -> Prop} {L : Pl -> Int} {p q : Pl} (h : Bst S L p) (e : ∀ r, S' r ↔ S r ∨ r = q) (le : L q * lenP p ≤ L p * lenP q) (o : AheadP p q ∨ L q * lenP p ≠ L p * lenP q) : Bst S' L p := by
 refine ⟨(e p).mpr (.inl h.inn), fun r hr => ?_⟩
 rcases (e r).mp hr with z | z
 ·exact h.all r z
 ·subst z
  by_cases c : L r * lenP p = L p * lenP r
  ·rcases o with o | o
   ·exact .inr ⟨c, o⟩
   ·exact absurd c o
  ·exact .inl (by omega)
theorem Bst.longer {n : Nat} {S S' : Pl -> Prop} {L : Pl -> Int} {p q : Pl} (h : Bst S L p) (st : ∀ r, S' r -> Sec n r) (e : ∀ r, S' r ↔ S r ∨ r = q) (eq : L q * lenP p = L p * lenP q) (b : q.1 = p.1) (l : p.2 ≤ q.2) : Bst S' L q := by
 have iq : S' q := (e q).mpr (.inr rfl)
 have ip : S' p := (e p).mpr (.inl h.inn)
 refine ⟨iq, fun r hr => ?_⟩
 rcases (e r).mp hr with z | z
 ·rcases h.all r z with z | ⟨z, o⟩
  ·exact .inl (dens_le (st r hr).pos (st p ip).pos (st q iq).pos z (Int.le_of_eq eq.symm))
  ·refine .inr ⟨dens_eq (st p ip).pos z eq.symm, ?_⟩
   unfold AheadP at o ⊢
   omega
 ·subst z
  exact .inr ⟨rfl, .inr ⟨rfl, Nat.le_refl _⟩⟩
theorem Bst.congr {S S' : Pl -> Prop} {L : Pl -> Int} {p : Pl} (h : Bst S L p) (e : ∀ r, S' r ↔ S r) : Bst S' L p := ⟨(e p).mpr h.inn, fun q hq => h.all q ((e q).mp hq)⟩
def SeenD (n b e : Nat) (p : Pl) : Prop := Sec n p /\ (p.1 < b ∨ (p.1 = b /\ e ≤ p.2))
def SeenU (n b e : Nat) (p : Pl) : Prop := Sec n p /\ (p.1 < b ∨ (p.1 = b /\ p.2 < e))
theorem seenU_step {n b e : Nat} (h1 : b ≤ e) (h2 : e < n) (r : Pl) : SeenU n b (e + 1) r ↔ SeenU n b e r ∨ r = (b, e) := by
 obtain ⟨x, y⟩ := r
 unfold SeenU Sec
 rw [Prod.mk.injEq]
 simp only
 omega
theorem seenU_next {n b : Nat} (r : Pl) : SeenU n (b + 1) (b + 1) r ↔ SeenU n b n r := by
 obtain ⟨x, y⟩ := r
 unfold SeenU Sec
 simp only
 omega
theorem seenU_all {n : Nat} (r : Pl) : Sec n r ↔ SeenU n n n r := by
 obtain ⟨x, y⟩ := r
 unfold SeenU Sec
 simp only
 omega
abbrev Wn := Option (Nat × Nat)
def holdB (b e : Nat) : Wn -> Bool
 | none => false
 | some (x, y) => decide (b ≤ x) && decide (y ≤ e)
def heldM (ws : List Wn) (p : Pl) : List Nat := (List.range ws.length).filter fun i => holdB p.1 p.2 (ws.getD i none)
def loadM (ws : List Wn) (A : Nat -> Int) (p : Pl) : Int := ((heldM ws p).map A).sum
theorem sum_nonneg {A : Nat -> Int} (h : ∀ i, 0 ≤ A i) : ∀ l : List Nat, 0 ≤ (l.map A).sum
 | [] => Int.le_refl _
 | x :: l => by
  rw [List.map_cons, List.sum_cons]
  have := h x
  have := sum_nonneg h l
  omega
end B
namespace B
open PySem PySem.Spec L2 PyProof.Rows
def oneEach (ns : List Int) : List Int := ns.foldl step_dedup []
theorem range_getD (ns : List Int) : (List.range ns.length).map (fun i => ns.getD i 0) = ns := by
 apply List.ext_getElem
 ·simp
 ·intro i h1 h2
  rw [List.getElem_map, List.getElem_range, List.getD_eq_getElem?_getD, List.getElem?_eq_getElem h2]
  rfl
theorem firstMet_eq (ns : List Int) : firstMet (fun i => ns.getD i 0) ns.length = oneEach ns := by
 unfold firstMet oneEach
 rw [range_getD]
theorem dedup_facts : ∀ (ns σ : List Int), σ.Nodup -> (ns.foldl step_dedup σ).Nodup /\ (∀ k, k ∈ ns.foldl step_dedup σ ↔ k ∈ σ ∨ k ∈ ns) /\ (ns.foldl step_dedup σ).length ≤ σ.length + ns.length ∧
  ((ns.foldl step_dedup σ).length = σ.length + ns.length ↔ (σ ++ ns).Nodup)
 | [], σ, h => ⟨h, fun k => by simp, by simp, by simp [h]⟩
 | n :: ns, σ, h => by
  rw [List.foldl_cons]
  by_cases c : σ.any (· == n) = true
  ·have e : step_dedup σ n = σ := by unfold step_dedup; rw [if_pos c]
   rw [e]
   obtain ⟨a1, a2, a3, a4⟩ := dedup_facts ns σ h
   have hm : n ∈ σ := by
    obtain ⟨x, hx, q⟩ := List.any_eq_true.mp c
    rw [← show x = n from by simpa using q]; exact hx
   refine ⟨a1, fun k => ?_, by rw [List.length_cons]; omega, ?_⟩
   ·rw [a2, List.mem_cons]
    constructor
    ·rintro (h | h)
     ·exact .inl h
     ·exact .inr (.inr h)
    ·rintro (h | h | h)
     ·exact .inl h
     ·rw [h]; exact .inl hm
     ·exact .inr h
   ·constructor
    ·intro q; rw [List.length_cons] at q; omega
    ·intro q
     exact absurd rfl ((List.nodup_append.mp q).2.2 n hm n List.mem_cons_self)
  ·have e : step_dedup σ n = σ ++ [n] := by unfold step_dedup; rw [if_neg c]
   rw [e]
   have hm : n ∉ σ := fun hx => c (List.any_eq_true.mpr ⟨n, hx, by simp⟩)
   have h' : (σ ++ [n]).Nodup := List.nodup_append.mpr ⟨h, by simp, fun a ha b hb => by
    rw [List.mem_singleton] at hb
    intro z; rw [z, hb] at ha; exact hm ha⟩
   obtain ⟨a1, a2, a3, a4⟩ := dedup_facts ns (σ ++ [n]) h'
   refine ⟨a1, fun k => ?_, ?_, ?_⟩
   ·rw [a2, List.mem_append, List.mem_singleton, List.mem_cons, or_assoc]
   ·rw [List.length_append, List.length_singleton] at a3; rw [List.length_cons]; omega
   ·rw [List.length_append, List.length_singleton, List.append_assoc] at a4
    rw [← show [n] ++ ns = n :: ns from rfl, ← a4, List.length_append, List.length_singleton]
    omega
theorem oneEach_nodup (ns : List Int) : (oneEach ns).Nodup := (dedup_facts ns [] (by simp)).1
theorem mem_oneEach (ns : List Int) (k : Int) : k ∈ oneEach ns ↔ k ∈ ns := by
 have := (dedup_facts ns [] (by simp)).2.1 k
 unfold oneEach
 simpa using this
theorem oneEach_le (ns : List Int) : (oneEach ns).length ≤ ns.length := by
 have := (dedup_facts ns [] (by simp)).2.2.1
 unfold oneEach
 simpa using this
def rSet1 (K : Fg) : List V -> Hp -> VK -> Prop := fun xs H Q => ∃ p ns, xs = [.ref p] /\ SqL K H p (ns.map V.int) /\ ns.length ≤ 1000 /\ ∀ l, H l = none -> Q (.ref l) (upd H l (.set (fun k => (oneEach ns).any (· == k)) (oneEach ns).length))
def rLenS : List V -> Hp -> VK -> Prop := fun xs H Q => ∃ p S n, xs = [.ref p] /\ H p = some (.set S n) /\ Q (.int n) H
def Rise (xs : Array Nat) : Prop := ∀ i j (_ : i < j) (hj : j < xs.size), xs[i]'(by omega) < xs[j]
theorem below_go {xs : Array Nat} {j : Nat} : ∀ (fuel lo hi : Nat), lo ≤ hi -> hi ≤ xs.size -> hi - lo ≤ fuel -> Rise xs -> (∀ i (h : i < xs.size), i < lo -> xs[i] < j) -> (∀ i (h : i < xs.size), hi ≤ i -> j ≤ xs[i]) →
  lo ≤ SetTable.below.go xs j fuel lo hi /\ SetTable.below.go xs j fuel lo hi ≤ hi /\ (∀ i (h : i < xs.size), i < SetTable.below.go xs j fuel lo hi -> xs[i] < j) /\ (∀ i (h : i < xs.size), SetTable.below.go xs j fuel lo hi ≤ i -> j ≤ xs[i])
 | 0, lo, hi, h1, h2, h3, _, a, b => by
  unfold SetTable.below.go
  exact ⟨Nat.le_refl _, h1, a, fun i h q => b i h (by omega)⟩
 | fuel + 1, lo, hi, h1, h2, h3, R, a, b => by
  unfold SetTable.below.go
  by_cases c : lo < hi
  ·rw [if_pos c]
   have hm : (lo + hi) / 2 < xs.size := by omega
   have e : xs.getD ((lo + hi) / 2) j = xs[(lo + hi) / 2] := by simp [Array.getD, hm]
   dsimp only
   rw [e]
   by_cases d : xs[(lo + hi) / 2] < j
   ·rw [if_pos d]
    obtain ⟨c1, c2, c3, c4⟩ := below_go fuel ((lo + hi) / 2 + 1) hi (by omega) h2 (by omega) R (fun i h q => by
     by_cases z : i = (lo + hi) / 2
     ·subst z; exact d
     ·exact Nat.lt_trans (R i ((lo + hi) / 2) (by omega) hm) d) b
    exact ⟨by omega, c2, c3, c4⟩
   ·rw [if_neg d]
    obtain ⟨c1, c2, c3, c4⟩ := below_go fuel lo ((lo + hi) / 2) (by omega) (by omega) (by omega) R a (fun i h q => by
     by_cases z : i = (lo + hi) / 2
     ·subst z; omega
     ·have := R ((lo + hi) / 2) i (by omega) h
      omega)
    exact ⟨c1, by omega, c3, c4⟩
  ·rw [if_neg c]
   exact ⟨Nat.le_refl _, h1, a, fun i h q => b i h (by omega)⟩
theorem below_spec {xs : Array Nat} (R : Rise xs) (j : Nat) : SetTable.below xs j ≤ xs.size /\ (∀ i (h : i < xs.size), i < SetTable.below xs j -> xs[i] < j) /\ (∀ i (h : i < xs.size), SetTable.below xs j ≤ i -> j ≤ xs[i]) := by
 have := below_go (xs := xs) (j := j) xs.size 0 xs.size (Nat.zero_le _) (Nat.le_refl _) (by omega) R (fun i h q => by omega) (fun i h q => by omega)
 exact this.2
theorem below_at {xs : Array Nat} (R : Rise xs) {i j : Nat} (hi : i ≤ xs.size) (lo : ∀ k (h : k < xs.size), k < i -> xs[k] < j) (hi' : ∀ k (h : k < xs.size), i ≤ k -> j ≤ xs[k]) : SetTable.below xs j = i := by
 obtain ⟨a, b, c⟩ := below_spec R j
 rcases Nat.lt_trichotomy (SetTable.below xs j) i with h | h | h
 ·have h1 := c (SetTable.below xs j) (by omega) (Nat.le_refl _)
  have h2 := lo (SetTable.below xs j) (by omega) h
  omega
 ·exact h
 ·have h1 := b i (by omega) h
  have h2 := hi' i (by omega) (Nat.le_refl _)
  omega
theorem below_zero {xs : Array Nat} (R : Rise xs) : SetTable.below xs 0 = 0 := below_at R (Nat.zero_le _) (fun _ _ h => by omega) (fun _ _ _ => Nat.zero_le _)
theorem below_next {xs : Array Nat} (R : Rise xs) {i : Nat} (h : i < xs.size) : SetTable.below xs (xs[i] + 1) = i + 1 :=
 below_at R h (fun k hk q => by
  by_cases z : k = i
  ·subst z; omega
  ·exact Nat.lt_succ_of_lt (R k i (by omega) h)) (fun k hk q => R i k (by omega) hk)
theorem below_mem {xs : Array Nat} (R : Rise xs) {i : Nat} (h : i < xs.size) : SetTable.below xs xs[i] = i :=
 below_at R (Nat.le_of_lt h) (fun k hk q => R k i q h) (fun k hk q => by
  by_cases z : k = i
  ·subst z; omega
  ·exact Nat.le_of_lt (R i k (by omega) hk))
theorem not_in_of_empty {t : SetTable} {j : Nat} (R : Rise t.place) (h : t.slot j = .empty) : ∀ i (q : i < t.place.size), t.place[i] ≠ j := by
 intro i q e
 unfold SetTable.slot at h
 dsimp only at h
 rw [← e, below_mem R q] at h
 simp [q] at h
theorem rise_insert {xs : Array Nat} (R : Rise xs) {j : Nat} (n : ∀ i (q : i < xs.size), xs[i] ≠ j) : Rise (SetTable.insertAt xs (SetTable.below xs j) j) := by
 obtain ⟨a, b, c⟩ := below_spec R j
 have el := SetTable.toList_insertAt xs (SetTable.below xs j) j
 have P : xs.toList.Pairwise (· < ·) := by
  rw [List.pairwise_iff_getElem]
  intro i k hi hk q
  exact R i k q (by simpa using hk)
 suffices S : (SetTable.insertAt xs (SetTable.below xs j) j).toList.Pairwise (· < ·) by
  rw [List.pairwise_iff_getElem] at S
  intro i k q hk
  exact S i k (by simpa using Nat.lt_trans q hk) (by simpa using hk) q
 rw [el]
 have s1 : ∀ x ∈ xs.toList.take (SetTable.below xs j), x < j := by
  intro x hx
  obtain ⟨i, hi, rfl⟩ := List.mem_iff_getElem.mp hx
  rw [List.getElem_take]
  have hi2 : i < SetTable.below xs j := by rw [List.length_take] at hi; omega
  exact b i (by omega) hi2
 have s2 : ∀ x ∈ xs.toList.drop (SetTable.below xs j), j < x := by
  intro x hx
  obtain ⟨i, hi, rfl⟩ := List.mem_iff_getElem.mp hx
  rw [List.getElem_drop]
  rw [List.length_drop, Array.length_toList] at hi
  have h1 := c (SetTable.below xs j + i) (by omega) (by omega)
  have h2 := n (SetTable.below xs j + i) (by omega)
  show j < xs[SetTable.below xs j + i]
  omega
 rw [List.pairwise_append]
 refine ⟨P.sublist (List.take_sublist _ _), List.pairwise_cons.mpr ⟨s2, P.sublist (List.drop_sublist _ _)⟩, fun x hx y hy => ?_⟩
 rcases List.mem_cons.mp hy with rfl | hy
 ·exact s1 x hx
 ·exact Nat.lt_trans (s1 x hx) (s2 y hy)
theorem has_empty (j : Nat) : SetTable.has #[] j = false := by
 unfold SetTable.has
 simp
theorem probe_free {t : SetTable} (hd : t.dummies = #[]) (h : Int) : ∀ (fuel : Nat) (p : SetTable.Probe) (m : SetTable.Met), p.dummy = none -> SetTable.probe.go t (fun _ => h + 1) h fuel p = some m -> ∃ j, m = .empty j none /\ t.slot j = .empty
 | 0, p, m, _, e => by unfold SetTable.probe.go at e; cases e
 | fuel + 1, p, m, z, e => by
  unfold SetTable.probe.go at e
  split at e
  ·rename_i hs
   cases e
   exact ⟨p.j, by rw [z], hs⟩
  ·rename_i hs
   unfold SetTable.slot at hs
   dsimp only at hs
   rw [hd, has_empty] at hs
   split at hs <;> simp at hs
  ·rw [if_neg (by simp; omega)] at e
   refine probe_free hd h fuel _ m ?_ e
   unfold SetTable.advance
   split <;> exact z
theorem freeSlot_spec {t : SetTable} (hd : t.dummies = #[]) {h : Int} {j : Nat} {b : Bool} (e : t.freeSlot h = some (j, b)) : t.slot j = .empty := by
 unfold SetTable.freeSlot at e
 cases q : t.probe (fun _ => h + 1) h (t.probeStart h) with
 | none => rw [q] at e; cases e
 | some m =>
  obtain ⟨j', rfl, hs⟩ := probe_free hd h _ _ m rfl q
  rw [q] at e
  simp only [Option.getD_none, Option.isSome_none, Option.some.injEq, Prod.mk.injEq] at e
  rw [← e.1]; exact hs
def Tidy (t : SetTable) : Prop := t.plain = true -> t.dummies = #[] /\ Rise t.place
theorem tidy_fresh (a b : Nat) (led : Bool) : Tidy (.fresh a b led) := fun _ => ⟨rfl, fun i j h hj => absurd hj (by simp [SetTable.fresh])⟩
theorem tidy_layNew {t : SetTable} (T : Tidy t) (es : Array (Int × Value)) (h : Int) (x : Value) : Tidy (layNew t es h x).2.1 /\ (layNew t es h x).2.1.led = t.led := by
 unfold layNew
 split
 ·rename_i j b e
  dsimp only
  unfold SetTable.orStandIn
  split
  ·refine ⟨fun hp => ?_, rfl⟩
   have hp' : t.plain = true := hp
   obtain ⟨d, R⟩ := T hp'
   refine ⟨?_, rise_insert R (not_in_of_empty R (freeSlot_spec d e))⟩
   show (if SetTable.has t.dummies j then _ else t.dummies) = #[]
   rw [d, has_empty]; rfl
  ·exact ⟨fun hp => absurd hp (by simp [SetTable.standIn]), rfl⟩
 ·exact ⟨fun hp => absurd hp (by simp [SetTable.standIn]), rfl⟩
theorem rise_live (n : Nat) (f : Nat -> Option Nat) : Rise ((((List.range n).filterMap fun j => (f j).map (j, ·)).map (·.1)).toArray) := by
 have S : (((List.range n).filterMap fun j => (f j).map (j, ·)).map (·.1)).Pairwise (· < ·) := by
  rw [List.map_filterMap]
  refine List.Pairwise.filterMap _ (R := (· < ·)) (fun a b h x hx y hy => ?_) List.pairwise_lt_range
  simp only [Option.map_map, Option.map_eq_some_iff] at hx hy
  obtain ⟨_, _, rfl⟩ := hx
  obtain ⟨_, _, rfl⟩ := hy
  exact h
 intro i k q hk
 rw [List.pairwise_iff_getElem] at S
 simp only [List.getElem_toArray]
 exact S i k (by simpa using Nat.lt_trans q hk) (by simpa using hk) q
theorem tidy_relayAll {t : SetTable} (es : Array (Int × Value)) (n : Nat) : Tidy (relayAll t es n).2.1 /\ (relayAll t es n).2.1.led = t.led := by
 unfold relayAll
 split
 ·rename_i t' order e
  dsimp only
  split
  ·unfold SetTable.relaid SetTable.laid at e
   cases q : SetTable.layClean (SetTable.sizeAbove n - 1) (es.map (·.1)) with
   | none => rw [q] at e; cases e
   | some owner =>
    rw [q] at e
    simp only [Option.bind_eq_bind, Option.bind_some, Option.pure_def, Option.some.injEq, Prod.mk.injEq] at e
    obtain ⟨rfl, _⟩ := e
    exact ⟨fun _ => ⟨rfl, rise_live _ _⟩, rfl⟩
  ·exact ⟨fun hp => absurd hp (by simp [SetTable.standIn]), rfl⟩
 ·exact ⟨fun hp => absurd hp (by simp [SetTable.standIn]), rfl⟩
theorem erase_perm {α : Type} {l : List α} {i : Nat} (h : i < l.length) : List.Perm (l[i] :: l.eraseIdx i) l := by
 rw [List.eraseIdx_eq_take_drop_succ]
 have e : l = l.take i ++ l[i] :: l.drop (i + 1) := by rw [List.getElem_cons_drop, List.take_append_drop]
 exact (List.perm_middle.symm).trans (.of_eq e.symm)
theorem pickGo_perm {α : Type} (next : Nat -> Nat) : ∀ (fuel k : Nat) (left : List α) (out : Array α), left.length = fuel -> List.Perm (pickOrder.go next fuel k left out).toList (out.toList ++ left)
 | 0, k, left, out, h => by
  unfold pickOrder.go
  rw [List.length_eq_zero_iff.mp h, List.append_nil]
 | fuel + 1, k, left, out, h => by
  unfold pickOrder.go
  have hm : next k % left.length < left.length := Nat.mod_lt _ (by omega)
  rw [List.getElem?_eq_getElem hm]
  dsimp only
  refine (pickGo_perm next fuel (k + 1) (left.eraseIdx (next k % left.length)) (out.push left[next k % left.length]) (by rw [List.length_eraseIdx_of_lt hm]; omega)).trans ?_
  rw [Array.toList_push, List.append_assoc]
  refine List.Perm.append_left _ ?_
  exact erase_perm hm
theorem pick_perm {α : Type} (next : Nat -> Nat) (xs : Array α) : List.Perm (pickOrder next xs).toList xs.toList := by
 unfold pickOrder
 have := pickGo_perm next xs.size 0 xs.toList #[] (by simp)
 simpa using this
section
variable {prog : Program} {w : World} {A : Around} {E : VSP} {s : Shared}
def vInt : Value -> Int
 | .int n _ => n
 | _ => 0
def IntSet (w : World) (h : Heap) (a : Addr) (ks : List Int) : Prop := ∃ o es ep t, h.get? a = some o /\ o.ExactSet /\ o.data = .set es ep t /\ (∀ e ∈ es.toList, ∃ n u, e = (hashInt n, Value.int n u)) ∧
 (es.toList.map fun e => vInt e.2).Perm ks /\ t.fits es.size = true /\ Tidy t /\ t.led = !w.params.followText "set-order"
theorem IntSet.at {h h' : Heap} {a : Addr} {ks : List Int} (I : IntSet w h a ks) (k : ∀ o, h.get? a = some o -> h'.get? a = some o) : IntSet w h' a ks := by
 obtain ⟨o, es, ep, t, ho, r⟩ := I
 exact ⟨o, es, ep, t, k o ho, r⟩
theorem elems_of {es : List (Int × Value)} (h : ∀ e ∈ es, ∃ n u, e = (hashInt n, Value.int n u)) : ElemsOf (intKind prog w) es := by
 intro e he
 obtain ⟨n, u, rfl⟩ := h e he
 exact ⟨⟨n, intKind_is _ _ _ _, rfl⟩, rfl⟩
theorem is_int {k n : Int} {u : Tok} : (intKind prog w).is k (.int n u) = decide (k = n) := by
 show Value.isInt k (.int n u) = _
 unfold Value.isInt
 by_cases e : k = n
 ·subst e; simp
 ·rw [decide_eq_false e]
  simpa using fun z : n = k => e z.symm
theorem ia_store {a : Addr} {o : Obj} {es es' : Array (Int × Value)} {ep : Nat} {t t' : SetTable} {ks : List Int} (ho : s.heap.get? a = some o) (hx : o.ExactSet) (hd : o.data = .set es ep t)
  (h1 : ∀ e ∈ es'.toList, ∃ n u, e = (hashInt n, Value.int n u)) (h2 : (es'.toList.map fun e => vInt e.2).Perm ks) (h3 : t'.fits es'.size = true) (h4 : Tidy t') (h5 : t'.led = !w.params.followText "set-order") :
  (s.heap.update a (Obj.putSet es' t')).get? a = some { o with data := .set es' (ep + 1) t' } /\ IntSet w (s.heap.update a (Obj.putSet es' t')) a ks := by
 have hg : (s.heap.update a (Obj.putSet es' t')).get? a = some { o with data := .set es' (ep + 1) t' } := by
  have := Heap.get?_update_self (Obj.putSet es' t') ho (by rw [putSet_of es' t' hd]; rfl)
  rw [putSet_of es' t' hd] at this; exact this
 exact ⟨hg, _, es', ep + 1, t', hg, hx, rfl, h1, h2, h3, h4, h5⟩
theorem ia_add {a : Addr} {ks : List Int} {k : Int} {u : Tok} {Q : Bool -> Shared -> Prop} (I : IntSet w s.heap a ks) (hb : ks.length + 1 < scanBound)
  (h : ∀ b h', Heap.SameBut a s.heap h' -> IntSet w h' a (step_dedup ks k) -> Q b { s with heap := h' }) : wpAny (model prog w) A (setAddHashed a (.int k u) (hashInt k)) Q E s := by
 obtain ⟨o, es, ep, t, ho, hx, hd, hs, hp, hf, T, hl⟩ := I
 have hn : es.size = ks.length := by rw [← hp.length_eq, List.length_map, Array.length_toList]
 have hel : ElemsOf (intKind prog w) es.toList := elems_of hs
 have hb0 : es.size < scanBound := by omega
 unfold setAddHashed setAddHashedIn
 refine wpAny_holding (wpAny_bind (wpAny_setState_of ho hd hf ?_))
 dsimp only
 rw [byScan_of (knd := intKind prog w) (x := .int k u) rfl hb0 hel]
 simp only [↓reduceIte]
 unfold setAddByScan
 refine wpAny_bind (wpAny_bind (wpAny_rule (wpAny_bind (wpAny_setScan_of (knd := intKind prog w) (k := k) (intKind_is _ _ _ _) ho hd hf hel ?_))))
 cases hr : List.findIdx? (fun e => (intKind prog w).is k e.2) es.toList with
 | some j =>
  dsimp only
  obtain ⟨hj, hpj, _⟩ := List.findIdx?_eq_some_iff_getElem.mp hr
  obtain ⟨n, v, e⟩ := hs _ (List.getElem_mem hj)
  have hk : k ∈ ks := by
   refine hp.mem_iff.mp (List.mem_map.mpr ⟨_, List.getElem_mem hj, ?_⟩)
   rw [e] at hpj ⊢
   rw [is_int] at hpj
   exact (of_decide_eq_true hpj).symm
  have hd' : step_dedup ks k = ks := by unfold step_dedup; rw [if_pos (List.any_eq_true.mpr ⟨k, hk, by simp⟩)]
  refine wpAny_pure (wpAny_pure ?_)
  have := h false s.heap (Heap.SameBut.refl a s.heap) (by rw [hd']; exact ⟨o, es, ep, t, ho, hx, hd, hs, hp, hf, T, hl⟩)
  have e : s = { s with heap := s.heap } := by cases s; rfl
  rw [e]; exact this
 | none =>
  dsimp only
  have hk : k ∉ ks := fun z => by
   obtain ⟨e, he, q⟩ := List.mem_map.mp (hp.mem_iff.mpr z)
   have := List.findIdx?_eq_none_iff.mp hr e he
   obtain ⟨n, v, rfl⟩ := hs e he
   rw [is_int] at this
   exact (of_decide_eq_false this) q.symm
  have hd' : step_dedup ks k = ks ++ [k] := by
   unfold step_dedup
   rw [if_neg (fun z => by obtain ⟨x, m, q⟩ := List.any_eq_true.mp z; exact hk (by rw [← show x = k from by simpa using q]; exact m))]
  rw [hd'] at h
  have hperm := layNew_perm t es (hashInt k) (.int k u)
  have hfits := layNew_fits t es (hashInt k) (.int k u)
  have htidy := tidy_layNew T es (hashInt k) (.int k u)
  show wpAny _ _ (match layNew t es (hashInt k) (.int k u) with | (es, t, wasDummy, gave) => _) _ _ _
  generalize layNew t es (hashInt k) (.int k u) = L at hperm hfits htidy ⊢
  obtain ⟨es1, t1, dm, gave⟩ := L
  dsimp only at hperm hfits htidy ⊢
  rw [Array.toList_push] at hperm
  have s1 : ∀ e ∈ es1.toList, ∃ n u, e = (hashInt n, Value.int n u) := fun e he => by
   rcases List.mem_append.mp (hperm.mem_iff.mp he) with q | q
   ·exact hs e q
   ·exact ⟨k, u, List.mem_singleton.mp q⟩
  have p1 : (es1.toList.map fun e => vInt e.2).Perm (ks ++ [k]) := by
   refine (hperm.map _).trans ?_
   rw [List.map_append]
   exact hp.append (.refl _)
  have n1 : es1.size = ks.length + 1 := by rw [← Array.length_toList, hperm.length_eq, List.length_append, Array.length_toList, hn]; rfl
  have z1 : es1.size ≤ sizeLine := fits_of_scanBound (by omega)
  have gw : ∀ (b : Bool) {s₁ : Shared} {Q' : Unit -> Shared -> Prop}, Q' () s₁ -> wpAny (model prog w) A (match b with | true => rule "set.scan.the-table-gave-way" | false => pure ()) Q' E s₁ :=
   fun b s₁ Q' hq => by cases b <;> first | exact wpAny_pure hq | exact wpAny_rule hq
  have tail : ∀ (t2 : SetTable) (R : Option Bool -> Shared -> Prop), t2.fits es1.size = true -> Tidy t2 -> t2.led = t.led -> (∀ h', Heap.SameBut a s.heap h' -> IntSet w h' a (ks ++ [k]) -> R (some true) { s with heap := h' }) →
    wpAny (model prog w) A (do
     storeSet a es1 t2
     if (!dm && t2.tooFull) = true then do
       (match (relayAll t2 es1 (SetTable.grown es1.size)).2.2 with | true => rule "set.scan.the-table-gave-way" | false => pure ())
       storeSet a (relayAll t2 es1 (SetTable.grown es1.size)).1 (relayAll t2 es1 (SetTable.grown es1.size)).2.1
       pure (some true)
      else pure (some true)) R E s := by
   intro t2 R f2 T2 l2 hR
   refine wpAny_bind (wpAny_storeSet_of ho hd ?_ z1)
   obtain ⟨g1, I1⟩ := ia_store (w := w) (ks := ks ++ [k]) ho hx hd s1 p1 f2 T2 (l2.trans hl)
   have b1 := Heap.SameBut.update s.heap a (Obj.putSet es1 t2)
   split
   ·have hp2 := relayAll_perm t2 es1 (SetTable.grown es1.size)
    have hf2 := relayAll_fits t2 es1 (SetTable.grown es1.size)
    have ht2 := tidy_relayAll (t := t2) es1 (SetTable.grown es1.size)
    generalize relayAll t2 es1 (SetTable.grown es1.size) = Rl at hp2 hf2 ht2 ⊢
    obtain ⟨es2, t3, gv⟩ := Rl
    dsimp only at hp2 hf2 ht2 ⊢
    have n2 : es2.size = es1.size := by rw [← Array.length_toList, hp2.length_eq, Array.length_toList]
    refine wpAny_bind (gw _ (wpAny_bind (wpAny_storeSet_of g1 rfl (wpAny_pure (hR _ (b1.trans (Heap.SameBut.update _ a _)) ?_)) (by rw [n2]; exact z1))))
    exact (ia_store (s := { s with heap := s.heap.update a (Obj.putSet es1 t2) }) (w := w) (ks := ks ++ [k]) g1 hx rfl (fun e he => s1 e (hp2.mem_iff.mp he)) ((hp2.map _).trans p1) hf2 ht2.1 (ht2.2.trans (l2.trans hl))).2
   ·exact wpAny_pure (hR _ b1 I1)
  refine wpAny_bind (gw _ ?_)
  split
  ·refine wpAny_bind ?_
   rw [hashByValue_scannable 8 (x := .int k u) rfl]
   refine wpAny_pure ?_
   exact tail _ _ hfits htidy.1 htidy.2 fun h' b i => wpAny_pure (h true h' b i)
  ·refine wpAny_bind (wpAny_pure ?_)
   simp only [↓reduceIte]
   exact tail _ _ hfits htidy.1 htidy.2 fun h' b i => wpAny_pure (h true h' b i)
end
section
variable {prog : Program} {w : World} {A : Around} {E : VSP} {s : Shared}
def newSetObj (w : World) : Obj := { cls := .type "set", dict := none, data := .set #[] 0 (.fresh 0 0 (!w.params.followText "set-order")) }
theorem ia_fresh {h : Heap} {a : Addr} (e : h.get? a = some (newSetObj w)) : IntSet w h a [] :=
 ⟨_, #[], 0, _, e, ⟨rfl, rfl, rfl⟩, rfl, fun e h => by simp at h, .refl _, rfl, tidy_fresh _ _ _, rfl⟩
theorem ia_new (v : Value) {Q₁ : VSP} (h : Q₁ (.ref s.heap.objs.size) { s with heap := s.heap.push (newSetObj w) }) :
  codeAny (model prog w) A (.call (.builtin "set.__new__") ⟨[.type "set", v], []⟩) (wants Q₁ E) s := by
 refine codeAny_of_tree ?_
 show wpAny _ A.in1 (do checkBuiltinCall "set.__new__" ⟨[.type "set", v], []⟩; again (.builtin "set.__new__" ⟨[.type "set", v], []⟩)) _ _ s
 refine wpAny_bind (wpAny_of_eq (PySem.F.newCall_set_1 v) (wpAny_pure ⟨plainId_quiet PySem.F.plain_set_new _, codeAny_builtin PySem.F.entry_set_new ?_⟩))
 rw [Around.under_plainId PySem.F.plain_set_new _]
 unfold Builtin.«set.__new__» Builtin.Frozenset.newClass
 have hsub := sub_set_self
 obtain ⟨hp, g, d, tk, os⟩ := s
 dsimp only
 wp_walk
 refine wpAny_askSetting (wpAny_pure ?_)
 dsimp only
 simp only [newObj]
 exact wpAny_bind (wpAny_alloc (wpAny_pure (wpAny_pure h)))
variable {R : Result -> Shared -> Prop} {I : Addr} {fp wr : List Addr} {G : Array GenState -> Array GenState -> Prop} {n : Nat} {P : Nat -> Value -> Prop} {St : Nat -> Shared -> Prop}
theorem ia_loop (W : WalksS prog w A.in1 I fp wr G n P St) (S : Addr) (hSf : S ∉ fp) (val : Nat -> Int) (hval : ∀ i v, P i v -> ∃ t, v = .int (val i) t) (hb : n + 1 < scanBound) :
  ∀ (k i : Nat) (s : Shared), n - i = k -> i ≤ n -> St i s -> IntSet w s.heap S (firstMet val i) →
   (∀ s', Moved (S :: wr) G s s' -> IntSet w s'.heap S (firstMet val n) -> R (.ok (.ret .none)) s') -> codeAny (model prog w) A (.builtin "set.update.loop" ⟨[.ref S, .ref I], []⟩) R s := by
 have hSw : S ∉ wr := fun h => hSf (W.sub _ h)
 have hsub : ∀ b ∈ wr, b ∈ S :: wr := fun b hb => List.mem_cons_of_mem _ hb
 intro k
 induction k with
 | zero =>
  intro i s hk hi hst hS hR
  obtain rfl : i = n := by omega
  refine codeAny_builtin PyProof.Rows.F.entry_set_update_loop ?_
  rw [Around.under_plainId PyProof.Rows.F.plain_set_update_loop _]
  show wpAny _ A.in1 (pyNext (.ref I) >>= _) _ _ s
  refine wpAny_bind (W.done s _ _ hst fun s' hm => ?_)
  exact wpAny_pure (hR s' (hm.mono hsub) (hS.at fun o e => hm.heap S _ hSw e))
 | succ k ih =>
  intro i s hk hi hst hS hR
  refine codeAny_builtin PyProof.Rows.F.entry_set_update_loop ?_
  rw [Around.under_plainId PyProof.Rows.F.plain_set_update_loop _]
  show wpAny _ A.in1 (pyNext (.ref I) >>= _) _ _ s
  refine wpAny_bind (W.item i s _ _ (by omega) hst fun v s' hP hst' hm => ?_)
  obtain ⟨t, rfl⟩ := hval i v hP
  show wpAny _ A.in1 (holding [Value.int (val i) t] (setAdd S (.int (val i) t)) >>= _) _ _ s'
  refine wpAny_bind (wpAny_holding ?_)
  unfold setAdd
  refine wpAny_holding (wpAny_bind ((intKind prog w).pyHash (k := val i) (intKind_is _ _ _ _) ?_))
  refine ia_add (s := { s' with toks := s'.toks + 1 }) (hS.at fun o e => hm.heap S _ hSw e) (by have := firstMet_length_le val i; omega) fun b h' hsb hS2 => ?_
  rw [← firstMet_succ] at hS2
  refine wpAny_pure ⟨plainId_quiet PyProof.Rows.F.plain_set_update_loop _, ih (i + 1) _ (by omega) (by omega) (W.frame _ s' _ _ hst' (Nat.le_succ _) fun b hb o e => ?_) hS2 fun s'' hm'' hS'' => ?_⟩
  ·rw [hsb.2 b (fun h : b = S => hSf (by rw [← h]; exact hb))]; exact e
  ·refine hR s'' (Moved.trans W.gtrans ((hm.mono hsub).then_heap (Nat.le_succ _) fun b o hb e => ?_) hm'') hS''
   rw [hsb.2 b (fun h : b = S => hb (by rw [h]; exact List.mem_cons_self))]; exact e
end
section
variable {prog : Program} {w : World} {A : Around} {E : VSP} {s : Shared}
set_option maxRecDepth 100000 in
set_option maxHeartbeats 3200000 in
theorem ia_call {T : String} {l : Addr} {ol : Obj} {items : Array Value} {nl : Nat} {ns : List Int} {Q : VSP} (hT0 : T = "list" ∨ T = "tuple")
  (hh : A.handled = none) (hol : s.heap.get? l = some ol) (hcl : ol.cls = .type T) (hdl : ol.data = .seq items nl) (hi : IntsAre items.toList ns) (hb : items.size + 1 < scanBound)
  (h : ∀ (h' : Heap) (tk : Nat), IntSet w h' s.heap.objs.size (oneEach ns) -> (∀ b o, b < s.heap.objs.size -> s.heap.get? b = some o -> h'.get? b = some o) -> Q (.ref s.heap.objs.size) { s with heap := h', toks := tk }) :
  wpAny (model prog w) A (call (.type "set") [.ref l]) Q E s := by
 have hlen : items.size = ns.length := by rw [← Array.length_toList]; exact IntsAre.length hi
 obtain ⟨c, tl, hmro⟩ := PySem.F.called_set.mro
 have hmade := PySem.F.called_set.made
 have hsub := PySem.F.called_set.sub
 refine wpAny_call (codeAny_of_tree ?_)
 show wpAny _ _ (callAny (.type "set") _) _ _ _
 refine wpAny_pure ⟨Code.quiet_builtin _ (by decide +kernel), codeAny_builtin PySem.F.entry_type_call ?_⟩
 rw [Around.under_plain (weight_type_call_type "set" [.ref l] []) rfl]
 have h1 := PySem.F.called_set.notType
 have h2 := PySem.F.called_set.canCreate
 have hct := PySem.F.typeCall_set_1 (.ref l)
 repeat (any_goals (first | assumption | wp_step))
 refine codeAny_mono (ia_new (.ref l) (E := E) (Q₁ := fun obj s₁ => obj = .ref s.heap.objs.size /\ s₁ = { s with heap := s.heap.push (newSetObj w) }) ⟨rfl, rfl⟩) fun r s₁ hr => ?_
 cases r with
 | error e => exact hr
 | ok fl =>
  cases fl with
  | ret obj =>
   obtain ⟨rfl, rfl⟩ := hr
   have hS : (s.heap.push (newSetObj w)).get? s.heap.objs.size = some (newSetObj w) := Heap.get?_push_size _ rfl
   have hT : Shared.TypeIs { s with heap := s.heap.push (newSetObj w) } (.ref s.heap.objs.size) "set" := ⟨_, hS, rfl⟩
   have hli := PySem.F.called_set.init.lookup
   have hbi := PySem.F.called_set.init.bind (.ref s.heap.objs.size)
   repeat (any_goals (first | assumption | wp_step))
   refine codeAny_mono (codeAny_call_builtin (R := wants (fun r s₂ => r = .none /\ ∃ h' tk, s₂ = { s with heap := h', toks := tk } /\ IntSet w h' s.heap.objs.size (oneEach ns) ∧
     (∀ b o, b < s.heap.objs.size -> s.heap.get? b = some o -> h'.get? b = some o)) E) PySem.F.called_set.init.plain PySem.F.entry_set_init (check_set_init_1 hT ?_)) fun r₂ s₂ hr₂ => ?_
   ·have hlS : l < s.heap.objs.size := Heap.lt_size hol
    have hh3 : A.in1.in1.in1.handled = none := by simp [hh]
    have hol' : (s.heap.push (newSetObj w)).get? l = some ol := Heap.get?_push_of_some _ hol
    have sz : (s.heap.push (newSetObj w)).objs.size = s.heap.objs.size + 1 := Heap.size_push ..
    have hneI : l ≠ (s.heap.push (newSetObj w)).objs.size := Nat.ne_of_lt (by rw [sz]; exact Nat.lt_succ_of_lt hlS)
    have hSf : s.heap.objs.size ∉ [(s.heap.push (newSetObj w)).objs.size, l] := by
     simp only [List.mem_cons, List.not_mem_nil, or_false, not_or]
     exact ⟨Nat.ne_of_lt (by rw [sz]; exact Nat.lt_succ_self _), Nat.ne_of_gt hlS⟩
    have hval : ∀ (i : Nat) (v : Value), items[i]? = some v -> ∃ t, v = .int ((fun i => ns.getD i 0) i) t := fun i v hv => IntsAre.int_at hi i v (by rw [Array.getElem?_toList]; exact hv)
    have fin : ∀ (it : Obj) (s' : Shared), Moved [s.heap.objs.size, (s.heap.push (newSetObj w)).objs.size] (fun a b => b = a) { s with heap := (s.heap.push (newSetObj w)).push it } s' →
      IntSet w s'.heap s.heap.objs.size (firstMet (fun i => ns.getD i 0) items.size) →
      ∃ h' tk, s' = { s with heap := h', toks := tk } /\ IntSet w h' s.heap.objs.size (oneEach ns) /\ (∀ b o, b < s.heap.objs.size -> s.heap.get? b = some o -> h'.get? b = some o) := by
     intro it s' hm hS'
     rw [hlen, firstMet_eq] at hS'
     obtain ⟨h', g', d', tk', os'⟩ := s'
     obtain rfl : g' = s.gens := hm.gens
     obtain rfl : d' = s.drawn := hm.drawn
     obtain rfl : os' = s.os := hm.os
     refine ⟨h', tk', rfl, hS', fun b o hb e => hm.heap b o ?_ (Heap.get?_push_of_some _ (Heap.get?_push_of_some _ e))⟩
     simp only [List.mem_cons, List.not_mem_nil, or_false, not_or]
     exact ⟨Nat.ne_of_lt hb, Nat.ne_of_lt (by rw [sz]; exact Nat.lt_succ_of_lt hb)⟩
    obtain ⟨ocls, odict, odata, oslots⟩ := ol
    simp only at hcl hdl
    subst hcl; subst hdl
    have n1 := PySem.F.sub_list_set
    have n2 := PySem.F.sub_list_frozenset
    have n3 := PySem.F.sub_tuple_set
    have n4 := PySem.F.sub_tuple_frozenset
    have n5 : (Value.type "list" == Value.type "dict") = false := by decide
    have n6 : (Value.type "tuple" == Value.type "dict") = false := by decide
    unfold Builtin.«set.__init__» noKeywords Builtin.Frozenset.updateFrom
    generalize hPI : pyIter = PI
    rcases hT0 with rfl | rfl
    ·have hl1 : (s.heap.push (newSetObj w)).IsList l items := ⟨_, hol', rfl, nl, rfl⟩
     wp_walk
     subst hPI
     refine wpAny_pyIter_list hl1 (wpAny_bind (wpAny_runValue ?_))
     refine ia_loop ((Walks.list hh3 _ l hneI items).toS) s.heap.objs.size hSf (fun i => ns.getD i 0) hval hb (items.size - 0) 0 _ (by omega) (Nat.zero_le _)
      ⟨⟨_, Heap.get?_push_size _ rfl, rfl, rfl⟩, (hl1.push _)⟩ (ia_fresh (Heap.get?_push_of_some _ hS)) fun s' hm hS' => ?_
     obtain ⟨h', tk, rfl, c1, c2⟩ := fin _ s' hm hS'
     exact wpAny_pure (wpAny_pure ⟨rfl, h', tk, rfl, c1, c2⟩)
    ·have hl1 : (s.heap.push (newSetObj w)).IsTuple l items := ⟨_, hol', rfl, nl, rfl⟩
     wp_walk
     subst hPI
     refine wpAny_pyIter_tuple hl1 (wpAny_bind (wpAny_runValue ?_))
     refine ia_loop ((Walks.tuple hh3 _ l hneI items).toS) s.heap.objs.size hSf (fun i => ns.getD i 0) hval hb (items.size - 0) 0 _ (by omega) (Nat.zero_le _)
      ⟨⟨_, Heap.get?_push_size _ rfl, rfl, rfl⟩, (hl1.push _)⟩ (ia_fresh (Heap.get?_push_of_some _ hS)) fun s' hm hS' => ?_
     obtain ⟨h', tk, rfl, c1, c2⟩ := fin _ s' hm hS'
     exact wpAny_pure (wpAny_pure ⟨rfl, h', tk, rfl, c1, c2⟩)
   ·cases r₂ with
    | error e => exact hr₂
    | ok fl₂ =>
     cases fl₂ with
     | ret r =>
      obtain ⟨rfl, h', tk, rfl, hS', hk'⟩ := hr₂
      repeat (any_goals (first | assumption | wp_step))
      exact h _ _ hS' hk'
     | _ => exact hr₂.elim
  | _ => exact hr.elim
end
namespace FS
theorem owner : Manifest.owners.lookup (String.ofList ['r', 'o', 't', 'a', 'r', 'e', 't', 'i', '_', 't', 'e', 's'].reverse) = some Manifest.sig_set_iterator := by kernel_rfl
theorem slot_next : Slot "set_iterator" "__next__" "set_iterator.__next__" :=
 .of (owner := "set_iterator") (n := "__next__") (by rw [typeLookup_type, builtinLookup_eq_fast]; kernel_rfl) (by decide +kernel) (by decide +kernel) (by decide +kernel)
  (by first | exact .inl (by decide +kernel) | exact .inr (by decide +kernel)) (by rw [isSubtype_type]; kernel_rfl)
theorem entry_next : entryFor table "set_iterator.__next__" = some Builtin.«set_iterator.__next__» := entryFor_of_tree (by kernel_rfl)
theorem args_next (a : Value) : argsOk "set_iterator.__next__" ⟨[a], []⟩ := by
 unfold argsOk; rw [signature?_of (id := "set_iterator.__next__") (n := ['_', '_', 't', 'x', 'e', 'n', '_', '_']) (o := ['r', 'o', 't', 'a', 'r', 'e', 't', 'i', '_', 't', 'e', 's']) (by kernel_rfl) owner]; kernel_rfl
theorem entry_iter : entryFor table "set.__iter__" = some Builtin.«frozenset.__iter__» := entryFor_alias (id' := "frozenset.__iter__") (by kernel_rfl) rfl (by decide +kernel) (by kernel_rfl)
theorem slot_iter2 : Slot "set_iterator" "__iter__" "set_iterator.__iter__" :=
 .of (owner := "set_iterator") (n := "__iter__") (by rw [typeLookup_type, builtinLookup_eq_fast]; kernel_rfl) (by decide +kernel) (by decide +kernel) (by decide +kernel)
  (by first | exact .inl (by decide +kernel) | exact .inr (by decide +kernel)) (by rw [isSubtype_type]; kernel_rfl)
theorem entry_iter2 : entryFor table "set_iterator.__iter__" = some Builtin.«dict_keyiterator.__iter__» := entryFor_alias (id' := "dict_keyiterator.__iter__") (by kernel_rfl) rfl (by decide +kernel) (by kernel_rfl)
theorem args_iter2 (a : Value) : argsOk "set_iterator.__iter__" ⟨[a], []⟩ := by
 unfold argsOk; rw [signature?_of (id := "set_iterator.__iter__") (n := ['_', '_', 'r', 'e', 't', 'i', '_', '_']) (o := ['r', 'o', 't', 'a', 'r', 'e', 't', 'i', '_', 't', 'e', 's']) (by kernel_rfl) owner]; kernel_rfl
end FS
section
variable {prog : Program} {w : World} {A : Around} {E : VSP} {s : Shared}
def sItO (first : Value) (i : Nat) (a : Addr) (n ep : Nat) : Obj := { cls := .type "set_iterator", data := .fields #[first, .int i 0, .ref a, .int n 0, .int ep 0] }
theorem sn_item {I a : Addr} {o : Obj} {es : Array (Int × Value)} {ep i slot next : Nat} {t : SetTable} {x : Value} {Q : Option Value -> Shared -> Prop} (hI : s.heap.get? I = some (sItO (.int slot 0) i a es.size ep))
  (ho : s.heap.get? a = some o) (hd : o.data = .set es ep t) (hf : t.fits es.size = true) (hx : ∀ (A : Around) (E : VSP) (Q : Option (Value × Nat) -> Shared -> Prop), Q (some (x, next)) s -> wpAny (model prog w) A (setNext a slot i ep) Q E s)
  (hQ : ∀ h', h'.get? I = some (sItO (.int next 0) (i + 1) a es.size ep) -> Heap.SameBut I s.heap h' -> Q (some x) { s with heap := h' }) : wpAny (model prog w) A (pyNext (.ref I)) Q E s := by
 have hT : s.TypeIs (.ref I) "set_iterator" := ⟨_, hI, rfl⟩
 unfold pyNext
 refine wpAny_bind (wpAny_attempt (wpAny_callSpecial?_slot (name := Str.ofString "__next__") hT FS.slot_next (wpAny_call_entry FS.slot_next hT FS.entry_next ?_ (FS.args_next _))))
 unfold Builtin.«set_iterator.__next__» slotArgs
 simp only [List.isEmpty_nil, Bool.not_true, Bool.false_eq_true, ↓reduceIte, bind_assoc, List.length_nil, bne_self_eq_false]
 refine wpAny_bind (wpAny_pure ?_)
 refine wpAny_bind (wpAny_fieldsOf hI rfl ?_)
 dsimp only
 refine wpAny_bind (wpAny_setEntries_of ho hd hf ?_)
 rw [if_neg (by simp)]
 refine wpAny_bind (hx _ _ _ ?_)
 dsimp only
 refine wpAny_bind (wpAny_setField hI rfl (by simp) ?_)
 have e1 : (s.heap.update I (Obj.mapFields (·.setIfInBounds 0 (rawInt next)))).get? I = some (sItO (.int next 0) i a es.size ep) := Heap.get?_update_self _ hI rfl
 refine wpAny_bind (wpAny_setField e1 rfl (by simp) (wpAny_pure ⟨x, rfl, wpAny_pure (hQ _ (Heap.get?_update_self _ e1 rfl) ((Heap.SameBut.update ..).trans (Heap.SameBut.update ..)))⟩))
theorem sn_end {I a : Addr} {o : Obj} {es : Array (Int × Value)} {ep i slot : Nat} {t : SetTable} {Q : Option Value -> Shared -> Prop} (hh : A.handled = none) (hI : s.heap.get? I = some (sItO (.int slot 0) i a es.size ep))
  (ho : s.heap.get? a = some o) (hd : o.data = .set es ep t) (hf : t.fits es.size = true) (hx : ∀ (A : Around) (E : VSP) (Q : Option (Value × Nat) -> Shared -> Prop), Q none s -> wpAny (model prog w) A (setNext a slot i ep) Q E s)
  (hQ : ∀ h', Heap.ExtBut I s.heap h' -> Q none { s with heap := h' }) : wpAny (model prog w) A (pyNext (.ref I)) Q E s := by
 have hT : s.TypeIs (.ref I) "set_iterator" := ⟨_, hI, rfl⟩
 unfold pyNext
 refine wpAny_bind (wpAny_attempt (wpAny_callSpecial?_slot (name := Str.ofString "__next__") hT FS.slot_next (wpAny_call_entry FS.slot_next hT FS.entry_next ?_ (FS.args_next _))))
 unfold Builtin.«set_iterator.__next__» slotArgs
 simp only [List.isEmpty_nil, Bool.not_true, Bool.false_eq_true, ↓reduceIte, bind_assoc, List.length_nil, bne_self_eq_false]
 refine wpAny_bind (wpAny_pure ?_)
 refine wpAny_bind (wpAny_fieldsOf hI rfl ?_)
 dsimp only
 refine wpAny_bind (wpAny_setEntries_of ho hd hf ?_)
 rw [if_neg (by simp)]
 refine wpAny_bind (hx _ _ _ ?_)
 try dsimp only
 refine wpAny_bind (wpAny_setField hI rfl (by simp) ?_)
 refine wpAny_bind ?_
 simp only [newExc, newTuple]
 refine wpAny_bind (wpAny_newObj_type ?_ (by size_fits))
 refine wpAny_bind (m := firstArgMember _ _) (wpAny_of_eq (a := Value.none) (by first | rfl | (simp only [firstArgMember]; rfl)) ?_)
 refine wpAny_newObj_type ?_ (by size_fits)
 simp only [raiseNew]
 refine wpAny_bind (wpAny_handled ?_)
 rw [show A.in1.handled = none from hh]
 refine wpAny_bind (wpAny_pure (wpAny_throw ?_))
 refine wpAny_bind (wpAny_isInstance (T := "StopIteration") (b := true) ⟨_, Heap.get?_push_size _ rfl, rfl⟩ isSubtype_stop ?_)
 exact wpAny_pure (hQ _ (((Heap.SameBut.update ..).extBut.push _).push _))
theorem sd_item {I a p : Addr} {o op : Obj} {es : Array (Int × Value)} {ps : Array Value} {ep i np pl : Nat} {u : Tok} {t : SetTable} {hs : Int} {x : Value} {Q : Option Value -> Shared -> Prop} (hI : s.heap.get? I = some (sItO (.ref p) i a es.size ep))
  (ho : s.heap.get? a = some o) (hd : o.data = .set es ep t) (hf : t.fits es.size = true) (hp : s.heap.get? p = some op) (hpd : op.data = .seq ps np) (hpi : ps[i]? = some (.int pl u)) (hx : es[pl]? = some (hs, x))
  (hQ : ∀ h', h'.get? I = some (sItO (.ref p) (i + 1) a es.size ep) -> Heap.SameBut I s.heap h' -> Q (some x) { s with heap := h' }) : wpAny (model prog w) A (pyNext (.ref I)) Q E s := by
 have hT : s.TypeIs (.ref I) "set_iterator" := ⟨_, hI, rfl⟩
 unfold pyNext
 refine wpAny_bind (wpAny_attempt (wpAny_callSpecial?_slot (name := Str.ofString "__next__") hT FS.slot_next (wpAny_call_entry FS.slot_next hT FS.entry_next ?_ (FS.args_next _))))
 unfold Builtin.«set_iterator.__next__» slotArgs
 simp only [List.isEmpty_nil, Bool.not_true, Bool.false_eq_true, ↓reduceIte, bind_assoc, List.length_nil, bne_self_eq_false]
 refine wpAny_bind (wpAny_pure ?_)
 refine wpAny_bind (wpAny_fieldsOf hI rfl ?_)
 dsimp only
 refine wpAny_bind (wpAny_setEntries_of ho hd hf ?_)
 rw [if_neg (by simp)]
 try dsimp only
 refine wpAny_bind (wpAny_seqItems hp hpd ?_)
 try dsimp only
 simp only [Int.toNat_natCast, hpi]
 unfold setNextDrawn
 refine wpAny_bind (wpAny_bind (wpAny_setState_of ho hd hf ?_))
 try dsimp only
 rw [if_neg (by simp)]
 simp only [hx]
 refine wpAny_pure (wpAny_bind (wpAny_setField hI rfl (by simp) (wpAny_pure ⟨x, rfl, wpAny_pure (hQ _ (Heap.get?_update_self _ hI rfl) (Heap.SameBut.update ..))⟩)))
theorem sd_end {I a p : Addr} {o op : Obj} {es : Array (Int × Value)} {ps : Array Value} {ep i np : Nat} {t : SetTable} {Q : Option Value -> Shared -> Prop} (hh : A.handled = none) (hI : s.heap.get? I = some (sItO (.ref p) i a es.size ep))
  (ho : s.heap.get? a = some o) (hd : o.data = .set es ep t) (hf : t.fits es.size = true) (hp : s.heap.get? p = some op) (hpd : op.data = .seq ps np) (hpi : ps[i]? = none)
  (hQ : ∀ h', Heap.ExtBut I s.heap h' -> Q none { s with heap := h' }) : wpAny (model prog w) A (pyNext (.ref I)) Q E s := by
 have hT : s.TypeIs (.ref I) "set_iterator" := ⟨_, hI, rfl⟩
 unfold pyNext
 refine wpAny_bind (wpAny_attempt (wpAny_callSpecial?_slot (name := Str.ofString "__next__") hT FS.slot_next (wpAny_call_entry FS.slot_next hT FS.entry_next ?_ (FS.args_next _))))
 unfold Builtin.«set_iterator.__next__» slotArgs
 simp only [List.isEmpty_nil, Bool.not_true, Bool.false_eq_true, ↓reduceIte, bind_assoc, List.length_nil, bne_self_eq_false]
 refine wpAny_bind (wpAny_pure ?_)
 refine wpAny_bind (wpAny_fieldsOf hI rfl ?_)
 dsimp only
 refine wpAny_bind (wpAny_setEntries_of ho hd hf ?_)
 rw [if_neg (by simp)]
 try dsimp only
 refine wpAny_bind (wpAny_seqItems hp hpd ?_)
 try dsimp only
 simp only [Int.toNat_natCast, hpi]
 have e1 : (s.heap.update I (Obj.mapFields (·.setIfInBounds 0 (rawInt 0)))).get? I = some (sItO (.int 0 0) i a es.size ep) := Heap.get?_update_self _ hI rfl
 refine wpAny_bind (wpAny_setField hI rfl (by simp) (wpAny_bind (wpAny_setField e1 rfl (by simp) ?_)))
 refine wpAny_bind ?_
 simp only [newExc, newTuple]
 refine wpAny_bind (wpAny_newObj_type ?_ (by size_fits))
 refine wpAny_bind (m := firstArgMember _ _) (wpAny_of_eq (a := Value.none) (by first | rfl | (simp only [firstArgMember]; rfl)) ?_)
 refine wpAny_newObj_type ?_ (by size_fits)
 simp only [raiseNew]
 refine wpAny_bind (wpAny_handled ?_)
 rw [show A.in1.handled = none from hh]
 refine wpAny_bind (wpAny_pure (wpAny_throw ?_))
 refine wpAny_bind (wpAny_isInstance (T := "StopIteration") (b := true) ⟨_, Heap.get?_push_size _ rfl, rfl⟩ isSubtype_stop ?_)
 exact wpAny_pure (hQ _ ((((Heap.SameBut.update ..).trans (Heap.SameBut.update ..)).extBut.push _).push _))
end
end B
namespace B
open PySem PySem.Spec L2 PyProof.Rows
section
variable {prog : Program} {w : World} {A : Around} {E : VSP} {s : Shared}
theorem byText_eq {Q : Bool -> Shared -> Prop} (h : Q (w.params.followText "set-order") s) : wpAny (model prog w) A setsByText Q E s := by
 unfold setsByText
 exact wpAny_bind (wpAny_askSetting (wpAny_pure h))
theorem nx_text {a : Addr} {o : Obj} {es : Array (Int × Value)} {ep i slot : Nat} {t : SetTable} {Q : Option (Value × Nat) -> Shared -> Prop} (hb : w.params.followText "set-order" = true) (ho : s.heap.get? a = some o) (hd : o.data = .set es ep t) (hf : t.fits es.size = true)
  (h : Q (((pickOrder (w.params.setOrder a ep) es)[i]?).map fun e => (e.2, slot)) s) : wpAny (model prog w) A (setNext a slot i ep) Q E s := by
 unfold setNext
 refine wpAny_bind (wpAny_setState_of ho hd hf ?_)
 dsimp only
 refine wpAny_bind (byText_eq ?_)
 rw [hb]
 simp only [↓reduceIte, bne_self_eq_false, Bool.false_eq_true]
 unfold setWalk
 refine wpAny_bind (wpAny_bind (wpAny_setState_of ho hd hf ?_))
 dsimp only
 refine wpAny_bind (byText_eq ?_)
 rw [hb]
 simp only [↓reduceIte]
 exact wpAny_bind (wpAny_askSetting (wpAny_pure (wpAny_pure h)))
theorem nx_led {a : Addr} {o : Obj} {es : Array (Int × Value)} {ep i slot : Nat} {t : SetTable} {Q : Option (Value × Nat) -> Shared -> Prop} (hb : w.params.followText "set-order" = false) (hl : t.led = true) (hp : (!t.plain && decide (es.size > 1)) = false)
  (ho : s.heap.get? a = some o) (hd : o.data = .set es ep t) (hf : t.fits es.size = true)
  (h : Q (match es[SetTable.below t.place slot]?, t.place[SetTable.below t.place slot]? with | some (_, x), some j => some (x, j + 1) | _, _ => none) s) : wpAny (model prog w) A (setNext a slot i ep) Q E s := by
 unfold setNext
 refine wpAny_bind (wpAny_setState_of ho hd hf ?_)
 dsimp only
 refine wpAny_bind (byText_eq ?_)
 rw [hb]
 simp only [Bool.false_eq_true, ↓reduceIte]
 show wpAny _ _ (if (!t.plain && decide (es.size > 1)) = true then _ else _) _ _ _
 rw [hp]
 simp only [Bool.false_eq_true, ↓reduceIte]
 show wpAny _ _ ((if (!t.led && !es.isEmpty) = true then _ else pure PUnit.unit) >>= _) _ _ _
 rw [hl]
 simp only [Bool.not_true, Bool.false_and, Bool.false_eq_true, ↓reduceIte]
 refine wpAny_bind (wpAny_pure (wpAny_pure h))
theorem wp_chosen {src : Source} {n : Nat} {Q : Nat -> Shared -> Prop} (hn : n ≠ 0) (h : ∀ i d, i < n -> Q i { s with drawn := d }) : wpAny (model prog w) A (choose src n) Q E s := by
 intro Γ p hΓ
 unfold choose
 rw [Sem.wp_choose]
 exact ⟨hn, by rw [Sem.wp_pure]; exact h _ _ (Nat.mod_lt _ (Nat.pos_of_ne_zero hn))⟩
theorem draw_order {α : Type} : ∀ (n : Nat) (xs : List α) (s : Shared) (Q : List α -> Shared -> Prop), xs.length = n -> (∀ ys d, List.Perm ys xs -> Q ys { s with drawn := d }) -> wpAny (model prog w) A (drawOrder n xs) Q E s
 | 0, xs, s, Q, e, h => by
  unfold drawOrder
  have := h [] s.drawn (by rw [List.length_eq_zero_iff.mp e])
  exact wpAny_pure this
 | n + 1, [], s, Q, e, h => by simp at e
 | n + 1, x :: xs, s, Q, e, h => by
  unfold drawOrder
  refine wpAny_bind (wp_chosen (by simp) fun i d hi => ?_)
  rw [List.getElem?_eq_getElem hi]
  dsimp only
  refine wpAny_bind (draw_order n _ _ _ (by rw [List.length_eraseIdx_of_lt hi]; omega) fun ys d' hy => wpAny_pure ?_)
  exact h _ d' ((hy.cons _).trans (erase_perm hi))
theorem walk_self {I : Addr} {first : Value} {i : Nat} {a : Addr} {n ep : Nat} {Q : VSP} (hI : s.heap.get? I = some (sItO first i a n ep)) (h : Q (.ref I) s) : wpAny (model prog w) A (pyIter (.ref I)) Q E s := by
 have hT : s.TypeIs (.ref I) "set_iterator" := ⟨_, hI, rfl⟩
 refine wpAny_pyIter_slot hT FS.slot_iter2 (wpAny_call_entry FS.slot_iter2 hT FS.entry_iter2 ?_ (FS.args_iter2 _))
 show wpAny _ _ (ret (.ref I)) _ _ s
 exact wpAny_pure ⟨_, rfl, "set_iterator", _, hT, FS.slot_next.lookup, h⟩
theorem walk_int (hh : A.handled = none) {I a : Addr} (hne : a ≠ I) {o : Obj} {es : Array (Int × Value)} {ep : Nat} {t : SetTable} (hd : o.data = .set es ep t) (hf : t.fits es.size = true) (items : Array Value) (slotf : Nat -> Nat)
  (hnx : ∀ (A : Around) (E : VSP) (s : Shared) (Q : Option (Value × Nat) -> Shared -> Prop) (i : Nat), s.heap.get? a = some o -> i ≤ items.size -> Q (items[i]?.map fun x => (x, slotf (i + 1))) s -> wpAny (model prog w) A (setNext a (slotf i) i ep) Q E s) :
  WalksS prog w A I [I, a] [I] (fun a b => b = a) items.size (fun i v => items[i]? = some v) (fun i s => s.heap.get? I = some (sItO (.int (slotf i) 0) i a es.size ep) /\ s.heap.get? a = some o) where
 sub := fun b hb => by simp at hb; simp [hb]
 grefl := fun _ => rfl
 gtrans := fun _ _ _ h1 h2 => h2.trans h1
 frame := fun _ _ _ _ st _ hk => ⟨hk I (by simp) _ st.1, hk a (by simp) _ st.2⟩
 item := fun i s Q E hi st hQ => by
  refine sn_item (next := slotf (i + 1)) (x := items[i]) st.1 st.2 hd hf (fun A E Q q => hnx A E s Q i st.2 (Nat.le_of_lt hi) (by rw [Array.getElem?_eq_getElem hi]; exact q)) fun h' hI hs => ?_
  refine hQ _ _ (by simp [hi]) ⟨hI, ?_⟩ ⟨fun b o hb e => hs.extBut b o (fun z => hb (by simp [z])) e, rfl, rfl, rfl, Nat.le_refl _⟩
  exact hs.extBut a o hne st.2
 done := fun s Q E st hQ => by
  refine sn_end hh st.1 st.2 hd hf (fun A E Q q => hnx A E s Q items.size st.2 (Nat.le_refl _) (by rw [Array.getElem?_eq_none (Nat.le_refl _)]; exact q)) fun h' hx => ?_
  exact hQ _ ⟨fun b o hb e => hx b o (fun z => hb (by simp [z])) e, rfl, rfl, rfl, Nat.le_refl _⟩
 self := fun _ _ _ _ st hQ => walk_self st.1 hQ
end
section
variable {prog : Program} {w : World} {A : Around} {E : VSP} {s : Shared}
theorem walk_drawn (hh : A.handled = none) {I a p : Addr} (hne : a ≠ I) (hpe : p ≠ I) {o op : Obj} {es : Array (Int × Value)} {ep np : Nat} {t : SetTable} (hd : o.data = .set es ep t) (hf : t.fits es.size = true) {ps : Array Value} (hpd : op.data = .seq ps np) (items : Array Value)
  (hz : items.size = ps.size) (hps : ∀ (i : Nat) (h : i < items.size), ∃ (pl : Nat) (u : Tok) (hs : Int), ps[i]? = some (.int pl u) /\ es[pl]? = some (hs, items[i])) :
  WalksS prog w A I [I, a, p] [I] (fun a b => b = a) items.size (fun i v => items[i]? = some v) (fun i s => s.heap.get? I = some (sItO (.ref p) i a es.size ep) /\ s.heap.get? a = some o /\ s.heap.get? p = some op) where
 sub := fun b hb => by simp at hb; simp [hb]
 grefl := fun _ => rfl
 gtrans := fun _ _ _ h1 h2 => h2.trans h1
 frame := fun _ _ _ _ st _ hk => ⟨hk I (by simp) _ st.1, hk a (by simp) _ st.2.1, hk p (by simp) _ st.2.2⟩
 item := fun i s Q E hi st hQ => by
  obtain ⟨pl, u, hs, e1, e2⟩ := hps i hi
  refine sd_item st.1 st.2.1 hd hf st.2.2 hpd e1 e2 fun h' hI hs => ?_
  exact hQ _ _ (by simp [hi]) ⟨hI, hs.extBut a o hne st.2.1, hs.extBut p op hpe st.2.2⟩ ⟨fun b o hb e => hs.extBut b o (fun z => hb (by simp [z])) e, rfl, rfl, rfl, Nat.le_refl _⟩
 done := fun s Q E st hQ => by
  refine sd_end hh st.1 st.2.1 hd hf st.2.2 hpd (by rw [hz]; exact Array.getElem?_eq_none (Nat.le_refl _)) fun h' hx => ?_
  exact hQ _ ⟨fun b o hb e => hx b o (fun z => hb (by simp [z])) e, rfl, rfl, rfl, Nat.le_refl _⟩
 self := fun _ _ _ _ st hQ => walk_self st.1 hQ
def WalkOf (prog : Program) (w : World) (a : Addr) (ks : List Int) (s : Shared) (It : Addr) (s1 : Shared) : Prop :=
 ∃ (fp : List Addr) (items : Array Value) (St : Nat -> Shared -> Prop), (∀ A' : Around, A'.handled = none -> WalksS prog w A' It fp [It] (fun a b => b = a) items.size (fun i v => items[i]? = some v) St) /\ St 0 s1 /\ It ∈ fp /\ (∀ b ∈ fp, b < s1.heap.objs.size /\ (b = a ∨ s.heap.objs.size ≤ b)) ∧
  s.heap.objs.size ≤ It /\ ∃ ms, IntsAre items.toList ms /\ ms.Perm ks
theorem ints_of_es : ∀ {es : List (Int × Value)}, (∀ e ∈ es, ∃ n u, e = (hashInt n, Value.int n u)) -> IntsAre (es.map (·.2)) (es.map fun e => vInt e.2)
 | [], _ => .nil
 | e :: es, h => by
  obtain ⟨n, u, rfl⟩ := h e List.mem_cons_self
  exact .cons n u (ints_of_es fun x hx => h x (List.mem_cons_of_mem _ hx))
def slotM (t : SetTable) : Nat -> Nat
 | 0 => 0
 | k + 1 => t.place.getD k 0 + 1
theorem below_slot {t : SetTable} (R : Rise t.place) {i : Nat} (h : i ≤ t.place.size) : SetTable.below t.place (slotM t i) = i := by
 cases i with
 | zero => exact below_zero R
 | succ k =>
  have hk : k < t.place.size := by omega
  show SetTable.below t.place (t.place.getD k 0 + 1) = k + 1
  rw [show t.place.getD k 0 = t.place[k] from by simp [Array.getD, hk]]
  exact below_next R hk
theorem iter_set {a : Addr} {ks : List Int} {Q : VSP} (I : IntSet w s.heap a ks) (hb : ks.length ≤ 1000)
  (h : ∀ (It : Addr) (h' : Heap) d, (∀ b o, s.heap.get? b = some o -> h'.get? b = some o) -> WalkOf prog w a ks s It { s with heap := h', drawn := d } -> Q (.ref It) { s with heap := h', drawn := d }) : wpAny (model prog w) A (pyIter (.ref a)) Q E s := by
 obtain ⟨o, es, ep, t, ho, hx, hd, hs, hp, hf, T, hl⟩ := I
 have hT : s.TypeIs (.ref a) "set" := ⟨o, ho, hx.1⟩
 have hlt : a < s.heap.objs.size := Heap.lt_size ho
 refine wpAny_pyIter_slot hT PySem.F.slot_set_iter (wpAny_call_entry PySem.F.slot_set_iter hT FS.entry_iter ?_ (PySem.F.args_set_iter_1 _))
 unfold Builtin.«frozenset.__iter__» Builtin.Frozenset.slot0 slotArgs
 simp only [List.isEmpty_nil, Bool.not_true, Bool.false_eq_true, ↓reduceIte, bind_assoc, List.length_nil, bne_self_eq_false]
 unfold Builtin.Frozenset.addrOf Builtin.Frozenset.sizeOf
 refine wpAny_bind (wpAny_pure ?_)
 try dsimp only
 refine wpAny_bind (wpAny_pure ?_)
 refine wpAny_bind (wpAny_bind (wpAny_setEntries_of ho hd hf (wpAny_pure ?_)))
 unfold setDrawn
 refine wpAny_bind (wpAny_bind (wpAny_setState_of ho hd hf ?_))
 dsimp only
 refine wpAny_bind (byText_eq (wpAny_pure ?_))
 show wpAny _ _ (if (!w.params.followText "set-order" && (!t.plain && decide (es.size > 1))) = true then _ else _) _ _ _
 have hn : es.size = ks.length := by rw [← hp.length_eq, List.length_map, Array.length_toList]
 by_cases c : (!w.params.followText "set-order" && (!t.plain && decide (es.size > 1))) = true
 ·rw [if_pos c]
  refine wpAny_bind (draw_order es.size (List.range es.size) _ _ (by simp) fun ys d hy => ?_)
  refine wpAny_bind (wpAny_newTuple ?_ ?_)
  ·have ho1 : (s.heap.push { cls := .type "tuple", data := .seq (ys.map fun i : Nat => rawInt i).toArray }).get? a = some o := Heap.get?_push_of_some _ ho
   refine wpAny_bind (wpAny_setEpoch_of ho1 hd hf ?_)
   refine wpAny_bind (wpAny_newObj_type ?_ (by size_fits))
   have sz : (s.heap.push { cls := .type "tuple", data := .seq (ys.map fun i : Nat => rawInt i).toArray }).objs.size = s.heap.objs.size + 1 := Heap.size_push ..
   refine wpAny_pure ⟨_, rfl, "set_iterator", _, ⟨_, Heap.get?_push_size _ rfl, rfl⟩, FS.slot_next.lookup, h _ _ d (fun b o e => Heap.get?_push_of_some _ (Heap.get?_push_of_some _ e)) ?_⟩
   have hmem : ∀ i ∈ ys, i < es.size := fun i hi => List.mem_range.mp (hy.mem_iff.mp hi)
   have yl : ys.length = es.size := by rw [hy.length_eq, List.length_range]
   have hpe : s.heap.objs.size ≠ (s.heap.push { cls := .type "tuple", data := .seq (ys.map fun i : Nat => rawInt i).toArray }).objs.size := by rw [sz]; exact Nat.ne_of_lt (Nat.lt_succ_self _)
   have hne : a ≠ (s.heap.push { cls := .type "tuple", data := .seq (ys.map fun i : Nat => rawInt i).toArray }).objs.size := by rw [sz]; exact Nat.ne_of_lt (Nat.lt_succ_of_lt hlt)
   refine ⟨_, (ys.map fun i => (es.getD i (0, .none)).2).toArray, _, fun A' hh => walk_drawn (p := s.heap.objs.size) hh hne hpe hd hf (ps := (ys.map fun i : Nat => rawInt i).toArray) rfl _ (by simp) fun i hi => ?_,
    ⟨Heap.get?_push_size _ rfl, Heap.get?_push_of_some _ ho1, Heap.get?_push_of_some _ (Heap.get?_push_size _ rfl)⟩, by simp, fun b hb => ?_, by rw [sz]; exact Nat.le_succ _, ?_⟩
   ·have hi' : i < ys.length := by simpa using hi
    have hm := hmem _ (List.getElem_mem hi')
    refine ⟨ys[i], 0, (es[ys[i]]).1, ?_, ?_⟩
    ·simp [hi', rawInt]
    ·rw [Array.getElem?_eq_getElem hm]
     simp [Array.getD, hm]
   ·rw [Heap.size_push, sz]
    simp only [List.mem_cons, List.not_mem_nil, or_false] at hb
    rcases hb with rfl | rfl | rfl
    ·rw [sz]; exact ⟨Nat.lt_succ_self _, .inr (Nat.le_succ _)⟩
    ·exact ⟨Nat.lt_succ_of_lt (Nat.lt_succ_of_lt hlt), .inl rfl⟩
    ·exact ⟨Nat.lt_succ_of_lt (Nat.lt_succ_self _), .inr (Nat.le_refl _)⟩
   ·refine ⟨ys.map fun i => vInt (es.getD i (0, .none)).2, ?_, ?_⟩
    ·have all : ∀ {zs : List Nat}, (∀ i ∈ zs, i < es.size) -> IntsAre (zs.map fun i => (es.getD i (0, .none)).2) (zs.map fun i => vInt (es.getD i (0, .none)).2) := by
      intro zs hz
      have := ints_of_es (es := zs.map fun i => es.getD i (0, .none)) fun e he => by
       obtain ⟨i, hi, rfl⟩ := List.mem_map.mp he
       have hm := hz i hi
       rw [show es.getD i (0, .none) = es[i] from by simp [Array.getD, hm]]
       exact hs _ (by simp)
      rw [List.map_map, List.map_map] at this
      exact this
     simpa using all hmem
    ·refine (hy.map _).trans ?_
     have e : (List.range es.size).map (fun i => vInt (es.getD i (0, .none)).2) = es.toList.map fun e => vInt e.2 := by
      apply List.ext_getElem
      ·simp
      ·intro i h1 h2
       have hm : i < es.size := by simpa using h2
       simp [Array.getD, hm]
     rw [e]
     exact hp
  ·rw [List.length_map, hy.length_eq, List.length_range, hn]
   exact Nat.le_trans hb (by decide)
 ·rw [if_neg c]
  refine wpAny_bind (wpAny_pure (wpAny_bind (wpAny_setEpoch_of ho hd hf (wpAny_bind (wpAny_newObj_type ?_ (by size_fits))))))
  have keep : ∀ b o, s.heap.get? b = some o -> (s.heap.push (sItO (.int 0 0) 0 a es.size ep)).get? b = some o := fun b o e => Heap.get?_push_of_some _ e
  refine wpAny_pure ⟨_, rfl, "set_iterator", _, ⟨_, Heap.get?_push_size _ rfl, rfl⟩, FS.slot_next.lookup, h s.heap.objs.size _ s.drawn keep ?_⟩
  have hne : a ≠ s.heap.objs.size := Nat.ne_of_lt hlt
  have sz : (s.heap.push (sItO (.int 0 0) 0 a es.size ep)).objs.size = s.heap.objs.size + 1 := Heap.size_push ..
  have hfp : ∀ b ∈ [s.heap.objs.size, a], b < (s.heap.push (sItO (.int 0 0) 0 a es.size ep)).objs.size /\ (b = a ∨ s.heap.objs.size ≤ b) := fun b hb => by
   rw [sz]
   simp only [List.mem_cons, List.not_mem_nil, or_false] at hb
   rcases hb with rfl | rfl
   ·exact ⟨Nat.lt_succ_self _, .inr (Nat.le_refl _)⟩
   ·exact ⟨Nat.lt_succ_of_lt hlt, .inl rfl⟩
  cases bt : w.params.followText "set-order" with
  | true =>
   refine ⟨_, (pickOrder (w.params.setOrder a ep) es).map (·.2), _, fun A' hh => walk_int hh hne hd hf _ (fun _ => 0) fun A E s Q i hs' hi q => ?_, ⟨Heap.get?_push_size _ rfl, keep _ _ ho⟩, by simp, hfp, Nat.le_refl _, ?_⟩
   ·refine nx_text bt hs' hd hf ?_
    rw [Array.getElem?_map, Option.map_map] at q
    exact q
   ·have pp := pick_perm (w.params.setOrder a ep) es
    refine ⟨_, ?_, (pp.map fun e => vInt e.2).trans hp⟩
    rw [Array.toList_map]
    exact ints_of_es fun e he => hs e (pp.mem_iff.mp he)
  | false =>
   rw [bt] at c hl
   have c' : (!t.plain && decide (es.size > 1)) = false := by simpa using c
   have R : Rise t.place := by
    cases pl : t.plain with
    | true => exact (T pl).2
    | false =>
     rw [pl] at c'
     have h1 : ¬ es.size > 1 := by simpa using c'
     intro i j q hj
     have : t.place.size = es.size := by
      unfold SetTable.fits at hf
      simp only [Bool.and_eq_true, beq_iff_eq, decide_eq_true_eq] at hf
      exact hf.1
     omega
   have hps : t.place.size = es.size := by
    unfold SetTable.fits at hf
    simp only [Bool.and_eq_true, beq_iff_eq, decide_eq_true_eq] at hf
    exact hf.1
   refine ⟨_, es.map (·.2), _, fun A' hh => walk_int hh hne hd hf _ (slotM t) fun A E s Q i hs' hi q => ?_, ⟨Heap.get?_push_size _ rfl, keep _ _ ho⟩, by simp, hfp, Nat.le_refl _, ?_⟩
   ·rw [Array.size_map] at hi
    refine nx_led bt hl c' hs' hd hf ?_
    rw [below_slot R (by omega)]
    rw [Array.getElem?_map, Option.map_map] at q
    by_cases z : i < es.size
    ·rw [Array.getElem?_eq_getElem z] at q ⊢
     rw [Array.getElem?_eq_getElem (show i < t.place.size by omega)]
     have : slotM t (i + 1) = t.place[i]'(by omega) + 1 := by
      show t.place.getD i 0 + 1 = _
      simp [Array.getD, show i < t.place.size by omega]
     simp only [Option.map_some, Function.comp_apply] at q
     rw [this] at q
     exact q
    ·rw [Array.getElem?_eq_none (by omega)] at q ⊢
     exact q
   ·refine ⟨_, ?_, hp⟩
    rw [Array.toList_map]
    exact ints_of_es hs
end
def rExtT (K : Fg) : V -> List V -> Hp -> VK -> Prop := fun x vs H Q => ∃ l b xs zs, x = .ref l /\ vs = [.ref b] /\ H l = some (.lst xs) /\ SqT K H b zs /\ xs.length + zs.length ≤ 1000 /\ Q .non (upd H l (.lst (xs ++ zs)))
theorem intsAre_of : ∀ {ns : List Int} {us : List Value}, Vals (ns.map V.int) us -> IntsAre us ns
 | [], [], _ => .nil
 | i :: ns, u :: us, h => by
  cases h with
  | cons a t =>
   obtain ⟨k, rfl⟩ := (show ∃ k, u = Value.int i k from a)
   exact .cons i k (intsAre_of t)
theorem of_ints : ∀ {ns : List Int} {us : List Value}, IntsAre us ns -> Vals (ns.map V.int) us
 | _, _, .nil => .nil
 | _, _, .cons n t h => .cons ⟨t, rfl⟩ (of_ints h)
def rSort (K : Fg) : List V -> Hp -> VK -> Prop := fun xs H Q => ∃ p ns, xs = [.ref p] /\ (SqL K H p (ns.map V.int) ∨ SqT K H p (ns.map V.int)) /\ ns.length < 64 /\ ∀ (l : Addr) (ms : List Int), ms.Perm ns -> ms.Pairwise (· ≤ ·) -> H l = none -> Q (.ref l) (upd H l (.lst (ms.map V.int)))
section
variable {prog : Program} {w : World} {A : Around} {E : VSP} {s : Shared}
theorem ints_at {acc items : Array Value} {ms : List Int} (h : IntsAre items.toList ms) (hi : ItemsOf (fun i v => items[i]? = some v) acc items.size) : IntsAre acc.toList ms := by
 have e : acc = items := by
  apply Array.ext_getElem?
  intro i
  by_cases c : i < acc.size
  ·have := hi.2 i acc[i] (Array.getElem?_eq_getElem c)
   rw [this, Array.getElem?_eq_getElem c]
  ·rw [Array.getElem?_eq_none (by omega), Array.getElem?_eq_none (by have := hi.1; omega)]
 rw [e]; exact h
theorem collect_set {a : Addr} {ks : List Int} {Q : List Value -> Shared -> Prop} (hh : A.handled = none) (I : IntSet w s.heap a ks) (hb : ks.length ≤ 1000)
  (h : ∀ (items : List Value) (ms : List Int) h' d tk, IntsAre items ms -> ms.Perm ks -> (∀ b o, s.heap.get? b = some o -> h'.get? b = some o) -> Q items { s with heap := h', drawn := d, toks := tk }) : wpAny (model prog w) A (collect (.ref a)) Q E s := by
 have hlt : a < s.heap.objs.size := by obtain ⟨o, _, _, _, ho, _⟩ := I; exact Heap.lt_size ho
 have hSa : s.heap.objs.size ≠ a := Nat.ne_of_gt hlt
 unfold collect
 refine wpAny_bind (wpAny_runValue (codeAny_builtin PySem.F.entry_proto_collect ?_))
 rw [Around.under_plainId PySem.F.plain_proto_collect _]
 show wpAny _ A.in1 (newList [] >>= fun l => again (.builtin "list.__iadd__" ⟨[l, .ref a], []⟩)) _ _ s
 refine wpAny_bind (wpAny_newObj_type ?_)
 refine wpAny_pure ⟨plainId_quiet PySem.F.plain_list_iadd _, codeAny_builtin PySem.F.entry_list_iadd ?_⟩
 rw [Around.under_plainId PySem.F.plain_list_iadd _]
 have I1 : IntSet w (s.heap.push { cls := .type "list", data := .seq ([] : List Value).toArray }) a ks := I.at fun o e => Heap.get?_push_of_some _ e
 have hS₁ : (s.heap.push { cls := .type "list", data := .seq ([] : List Value).toArray }).get? s.heap.objs.size = some { cls := .type "list", data := .seq ([] : List Value).toArray } := Heap.get?_push_size _ rfl
 show wpAny _ A.in1 (Builtin.List.listExtendWith (.ref s.heap.objs.size) (.ref a) (.ref s.heap.objs.size)) _ _ _
 unfold Builtin.List.listExtendWith
 have tys : ∀ (h : Heap) (s1 : Shared), IntSet w h a ks -> s1.heap = h -> s1.TypeIs (.ref a) "set" := fun h s1 J e => by
  obtain ⟨o, _, _, _, ho, hx, _⟩ := J
  exact ⟨o, by rw [e]; exact ho, hx.1⟩
 refine wpAny_bind (wpAny_typeOf (tys _ _ I1 rfl) ?_)
 have h1 : Builtin.List.listSameRef (.ref s.heap.objs.size) (.ref a) = false := by simp [Builtin.List.listSameRef, hSa]
 have h2 : (Value.type "set" == Value.type "list") = false := by decide
 have h3 : (Value.type "set" == Value.type "tuple") = false := by decide
 simp only [h1, h2, h3, Bool.or_false, Bool.false_eq_true, if_false]
 refine wpAny_bind (iter_set (prog := prog) I1 hb fun It h' d keep W => ?_)
 obtain ⟨fp, items, St, W, st, hI, hfp, hge, ms, hms, hpm⟩ := W
 have sz : (s.heap.push { cls := .type "list", data := .seq ([] : List Value).toArray }).objs.size = s.heap.objs.size + 1 := Heap.size_push ..
 refine wpAny_bind (wpAny_holding ?_)
 unfold Builtin.List.listLengthHint
 have I2 : IntSet w h' a ks := I1.at fun o e => keep a o e
 have t2 := tys h' { s with heap := h', drawn := d } I2 rfl
 refine wpAny_bind (wpAny_specialOf t2 PySem.F.slot_set_len.lookup ?_)
 (generalize hid : ("set.__len__" : String) = id0; (fail_if_success (clear hid id0)); wp_delta; rw [show splitId id0 = some ("set", "__len__") from by subst hid; decide +kernel]; subst hid)
 refine wpAny_bind (wpAny_isInstance (b := true) t2 sub_set_self ?_)
 show wpAny _ A.in1 (typeOf (Value.ref a) >>= _) _ _ _
 refine wpAny_bind (wpAny_typeOf t2 (wpAny_pure ?_))
 have hS2 : h'.get? s.heap.objs.size = some { cls := .type "list", data := .seq ([] : List Value).toArray } := keep _ _ hS₁
 have hSf : s.heap.objs.size ∉ fp := fun hm => by
  rcases (hfp _ hm).2 with e | e
  ·exact hSa e
  ·rw [sz] at e; exact Nat.not_succ_le_self _ e
 show wpAny _ A.in1 (rule "list.extend.makes-room" >>= fun _ => Builtin.List.listTouch (.ref s.heap.objs.size) >>= fun _ =>
  again (.builtin "list.extend.loop" ⟨[.ref s.heap.objs.size, .ref It, .ref s.heap.objs.size], []⟩)) _ _ _
 refine wpAny_bind (wpAny_rule (wpAny_bind ?_))
 show wpAny _ A.in1 (updateSeq s.heap.objs.size (·.push .none) >>= fun _ => updateSeq s.heap.objs.size (·.pop)) _ _ _
 refine wpAny_bind (wpAny_updateSeq hS2 rfl ?_)
 have hS3 := Heap.get?_update_self (Obj.mapSeq (·.push Value.none)) hS2 rfl
 refine wpAny_updateSeq hS3 rfl ?_
 have hS4 := Heap.get?_update_self (Obj.mapSeq (·.pop)) hS3 rfl
 have oth : ∀ b o, b ≠ s.heap.objs.size -> h'.get? b = some o -> ((h'.update s.heap.objs.size (Obj.mapSeq (·.push Value.none))).update s.heap.objs.size (Obj.mapSeq (·.pop))).get? b = some o :=
  fun b o hb e => (Heap.get?_update_other _ _ (Ne.symm hb)).trans ((Heap.get?_update_other _ _ (Ne.symm hb)).trans e)
 have hn : items.size ≤ sizeLine := by
  rw [← Array.length_toList, IntsAre.length hms, hpm.length_eq]
  exact Nat.le_trans hb (by decide)
 have W1 := W A.in1 (by simp [hh])
 refine wpAny_pure ⟨plainId_quiet PySem.F.plain_extend_loop _, codeAny_extend_loopS W1 hn _ hSf _ items.size 0 _ _ _ rfl (Nat.zero_le _)
  (W1.frame 0 ({ s with heap := h', drawn := d } : Shared) _ s.toks st (Nat.le_refl _) fun b hb o e => oth b o (fun h => hSf (h ▸ hb)) e) hS4 (ItemsOf.nil _) fun s' acc' c' hm hS' hacc => ?_⟩
 show wpAny _ A (load s.heap.objs.size >>= _) _ _ s'
 refine wpAny_bind (wpAny_load hS' (wpAny_pure ?_))
 obtain ⟨h3, g3, d3, t3, o3⟩ := s'
 obtain rfl : g3 = s.gens := hm.gens
 obtain rfl : d3 = d := hm.drawn
 obtain rfl : o3 = s.os := hm.os
 refine h acc'.toList ms h3 d3 t3 (ints_at hms hacc) hpm fun b o e => ?_
 have hb1 : b < s.heap.objs.size := Heap.lt_size e
 refine hm.heap b o ?_ (oth b o (Nat.ne_of_lt hb1) (keep b o (Heap.get?_push_of_some _ e)))
 simp only [List.mem_cons, List.not_mem_nil, or_false, not_or]
 exact ⟨Nat.ne_of_lt hb1, Nat.ne_of_lt (Nat.lt_of_lt_of_le hb1 (Nat.le_trans (Nat.le_succ _) (show s.heap.objs.size + 1 ≤ It from by rw [← sz]; exact hge)))⟩
end
theorem Inv.drew {X : Cx} {pins : PLs} {σ : L2.St} {H : Hp} {s : Shared} (d : Drawn) (I : L2.Inv X pins σ H s) : L2.Inv X pins σ H { s with drawn := d } :=
 ⟨I.ok, I.os, I.bare, I.base, I.loc, I.cell, I.free, I.freeC, I.pin, I.hok, I.len⟩
def setO (w : World) (a : Addr) (ks : List Int) : HO := .ext fun h => IntSet w h a ks
theorem setO_ok {P : Program} {w : World} {H : Hp} {h : Heap} {a : Addr} {ks : List Int} (e : IntSet w h a ks) : ObjOk P w H h a (setO w a ks) :=
 ⟨e, let ⟨o, _, _, _, q, _⟩ := e; ⟨o, q⟩, fun _ _ q k => q.at k⟩
def rSetO (w : World) (K : Fg) : List V -> Hp -> VK -> Prop := fun xs H Q => ∃ p ns, xs = [.ref p] /\ (SqL K H p (ns.map V.int) ∨ SqT K H p (ns.map V.int)) /\ ns.length ≤ 1000 /\ ∀ l, H l = none -> Q (.ref l) (upd H l (setO w l (oneEach ns)))
theorem call_setO {X : Cx} (hc : X.calm = true) : CallR X (.type "set") (rSetO X.w X.K) := by
 intro pins s σ H xs us Q I r h
 obtain ⟨p, ns, rfl, hq, hz, q⟩ := h
 obtain ⟨u, rfl, rx⟩ := vals1 r
 cases rx
 have go : ∀ (its : List Value) (T : String) (o : Obj) (n : Nat), Vals (ns.map V.int) its -> (T = "list" ∨ T = "tuple") -> s.heap.get? p = some o -> o.cls = .type T -> o.data = .seq its.toArray n →
   wpAny (model X.prog X.w) X.A (call (.type "set") [.ref p]) (EP X pins σ Q) X.xe s := fun its T o n rv hT ho hc' hd => by
  have hl := rv.length
  rw [List.length_map] at hl
  refine ia_call (ns := ns) hT (I.ok.hd hc) ho hc' hd (by simpa using intsAre_of rv) (by rw [List.size_toArray, ← hl]; unfold scanBound; omega) fun h' tk hS hk => ?_
  exact ⟨.ref s.heap.objs.size, _, I.laid (a := s.heap.objs.size) (o := setO X.w s.heap.objs.size (oneEach ns)) (t' := tk) (fun b o e => hk b o (Heap.lt_size e) e) (Nat.le_refl _) (setO_ok hS), rfl, q _ (I.hok.fresh (Nat.le_refl _))⟩
 rcases hq with hq | hq
 ·obtain ⟨its, r', pl, _⟩ := I.list hq
  obtain ⟨o, ho, hc', n, hd⟩ := pl.isList
  exact go its "list" o n r' (.inl rfl) ho hc' hd
 ·obtain ⟨its, r', ⟨o, ho, hc', n, hd⟩, _⟩ := I.tuple hq
  exact go its "tuple" o n r' (.inr rfl) ho hc' hd
def rSortS (w : World) : List V -> Hp -> VK -> Prop := fun xs H Q => ∃ p ks, xs = [.ref p] /\ H p = some (setO w p ks) /\ ks.length < 64 /\ ∀ (l : Addr) (ms : List Int), ms.Perm ks -> ms.Pairwise (· ≤ ·) -> H l = none -> Q (.ref l) (upd H l (.lst (ms.map V.int)))
theorem call_sortedS {X : Cx} (hc : X.calm = true) : CallR X (.builtin "sorted") (rSortS X.w) := by
 intro pins s σ H xs us Q I r h
 obtain ⟨p, ks, rfl, hp, h64, q⟩ := h
 obtain ⟨u, rfl, rx⟩ := vals1 r
 cases rx
 have S : IntSet X.w s.heap p ks := (show ObjOk X.prog X.w H s.heap p (setO X.w p ks) from I.hok p _ hp).1
 refine Calls.call_function_entry kind_sorted plain_sorted entry_sorted (args_sorted1 (.ref p)) ?_
 unfold Builtin.«sorted»
 refine wpAny_bind (m := checkCount "sorted" 1 1 _) (wpAny_pure (wpAny_bind (collect_set (by simp [I.ok.hd hc]) S (by omega) fun its ns h1 d tk hi hpm kp => ?_)))
 have hln : its.length < 64 := by rw [IntsAre.length hi, hpm.length_eq]; exact h64
 have sz : its.length ≤ sizeLine := Nat.le_trans (Nat.le_of_lt hln) (by decide)
 refine wpAny_bind (wpAny_newList ?_ sz)
 have hoL : (h1.push (seqObj "list" its.toArray 0)).get? h1.objs.size = some (seqObj "list" its.toArray 0) := Heap.get?_push_size _ rfl
 show wpAny _ _ _ _ _ { s with heap := h1.push (seqObj "list" its.toArray 0), drawn := d, toks := tk }
 refine wpAny_bind (wpAny_holding (wpAny_call_entry slot_list_sort ⟨_, hoL, rfl⟩ entry_list_sort (list_sort_tree hoL (by simpa using hi) hln fun out ms a1 a2 a3 => ⟨_, rfl, wpAny_pure ⟨_, rfl, ?_⟩⟩) (args_list_sort _)))
 have I1 : L2.Inv X pins σ H { s with heap := h1, drawn := d, toks := tk } := Inv.drew d (I.kept (t' := tk) kp)
 obtain ⟨ep, he⟩ := sortedHeap_at (out := out) hoL
 have lm : (ms.map V.int).length ≤ sizeLine := by rw [List.length_map, a2.length_eq, hpm.length_eq]; exact Nat.le_trans (Nat.le_of_lt h64) (by decide)
 refine ⟨.ref h1.objs.size, _, I1.laid (a := h1.objs.size) (o := .lst (ms.map V.int)) (t' := tk) (fun b u hb => ?_) (Nat.le_refl _) ⟨lm, out.toList, ep, of_ints a1, by simpa using he⟩, rfl, q _ ms (a2.trans hpm) a3 (I1.hok.fresh (Nat.le_refl _))⟩
 have hlt : b < h1.objs.size := Heap.lt_size hb
 rw [sortedHeap_old (Nat.ne_of_lt hlt) (by rw [size_push']; exact Nat.lt_succ_of_lt hlt)]
 exact Heap.get?_push_of_some _ hb
def tRng2 (ta : TA) : TE := fun σ H Q => ta σ H fun vs H1 => ∃ i j : Int, vs = [.int i, .int j] /\ ∀ p, H1 p = none -> Q (.ref p) (upd H1 p (.rng i j))
theorem pe_rng2 {X : Cx} {a b : Expr} {ta : TA} {p pos : Pos} (hg : Gl X "range") (hm : X.mg "range" = none) (ha : PA X [a, b] ta) (hs : starEach [a, b] X.env = [(false, eval a X.env), (false, eval b X.env)] := by rfl) (hs2 : starEach [b] X.env = [(false, eval b X.env)] := by rfl) :
  PE X (.Call (.Name "range" p) [a, b] [] pos) (tRng2 ta) := by
 intro pins s σ H Q I h
 refine Call_ (ld_blt I hg hm boot_range (PyProof.Rows.callWith_type1 (thn (ha pos pins s σ H _ I h) fun us s1 ⟨vs, H1, I1, r1, q1⟩ => ?_) (by rw [hs, hs2]) (by rw [hs2]; rfl)))
 obtain ⟨i, j, e, q⟩ := q1
 subst e
 obtain ⟨u, v, rfl, ⟨t, rfl⟩, ⟨t', rfl⟩⟩ := vals2 r1
 refine call_range_2 ?_
 exact ⟨.ref s1.heap.objs.size, _, I1.laid (t' := s1.toks + 1) (o := .rng i j) (fun b o e => Heap.get?_push_of_some _ e) (Nat.le_refl _) ⟨t, t', s1.toks, Heap.get?_push_size _ rfl⟩, rfl, q _ (I1.hok.fresh (Nat.le_refl _))⟩
def rNotInR : R2 := fun x y H Q => ∃ (i : Int) (p : Addr) (lo hi : Int), x = .int i /\ y = .ref p /\ H p = some (.rng lo hi) /\ Q (.bl (!(decide (lo ≤ i) && decide (i < hi)))) H
section
set_option autoImplicit true
set_option relaxedAutoImplicit true
theorem qe_rng2  {X : Cx} {a b : Expr} {ta : TA} {p pos : Pos} (hg : Gl X "range") (hm : X.mg "range" = none) (ha : QA X [a, b] ta) (hs : starEach [a, b] X.env = [(false, eval a X.env), (false, eval b X.env)] := by rfl) (hs2 : starEach [b] X.env = [(false, eval b X.env)] := by rfl) : QE X (.Call (.Name "range" p) [a, b] [] pos) (tRng2 ta) := ⟨pe_rng2 hg hm ha.p hs hs2⟩
end
def frmTo (lo n : Nat) : List Nat := (List.range n).map fun i => lo + i
theorem vals_from {lo : Nat} {acc : Array Value} {n : Nat} (h : ItemsOf (fun i v => ∃ t, v = .int ((lo : Int) + i * 1) t) acc n) : Vals ((frmTo lo n).map fun i : Nat => V.int i) acc.toList := by
 obtain ⟨hl, ha⟩ := h
 have key : ∀ m, m ≤ n -> Vals ((frmTo lo m).map fun i : Nat => V.int i) (acc.toList.take m) := by
  intro m
  induction m with
  | zero => intro _; rw [List.take_zero]; exact .nil
  | succ m ih =>
   intro hm
   have hlt : m < acc.size := by omega
   have e1 : acc.toList.take (m + 1) = acc.toList.take m ++ [acc[m]] := by rw [List.take_add_one]; simp [hlt]
   have e2 : ((frmTo lo (m + 1)).map fun i : Nat => V.int i) = ((frmTo lo m).map fun i : Nat => V.int i) ++ [V.int ((lo + m : Nat) : Int)] := by unfold frmTo; rw [List.range_succ]; simp
   rw [e1, e2]
   refine (ih (by omega)).append (.cons ?_ .nil)
   obtain ⟨t, e⟩ := ha m acc[m] (by simp [hlt])
   exact ⟨t, by rw [e]; simp⟩
 have := key n (Nat.le_refl _)
 rwa [List.take_of_length_le (by simp [hl])] at this
def rLsR : List V -> Hp -> VK -> Prop := fun xs H Q => ∃ p, ∃ lo n : Nat, xs = [.ref p] /\ H p = some (.rng (lo : Int) ((lo + n : Nat) : Int)) /\ lo + n ≤ 1000 /\ ∀ l, H l = none -> Q (.ref l) (upd H l (.lst ((frmTo lo n).map fun i : Nat => V.int i)))
theorem boot_setT : bootBuiltins "set" = some (.type "set") := by kernel_rfl
theorem comp_mapL {α β : Type} {K : Fg} {H : Hp} {D a : Addr} {xs : List V} {ds : List α} {P : Hp -> V -> β -> Prop} {f : α -> β} {src : List (Option Nat)} {σ : L2.St} {g : TG} {tt : TT} {te : TE} {Q : Hp -> Prop}
  (mono : ∀ H H' v d, Tst K H H' -> P H v d -> P H' v d) (hD : H D = none) (hS : SqL K H a xs) (hl : xs.length = ds.length) (hn : ds.length ≤ 1000)
  (turn : ∀ (i : Nat) (x : V) (d : α) (H' : Hp), xs[i]? = some x -> ds[i]? = some d -> Same H H' -> ∀ (R : VK) (E : Hp -> Prop), (∀ v H'', Same H' H'' -> P H'' v (f d) -> R v H'') →
   g x (frees src σ) H' fun σ2 H2 => Ext (frees src σ) σ2 /\ tt σ2 H2 fun ok H3 => if ok = true then te σ2 H3 R else E H3)
  (fin : ∀ H' ys, Same H H' -> H' D = some (.lst ys) -> Als (P H') ys (ds.map f) -> Q H') :
  ∃ W : Nat -> Nat -> List V -> Hp -> Prop, (∃ m, W 0 m [] (upd H D (.lst []))) /\ ∀ i m ys H, W i m ys H -> ((Itl K a).stop i H /\ Q H) ∨ ((Itl K a).go i H /\ ∀ x H', (Itl K a).yld i H x H' →
   g x (frees src σ) H' fun σ2 H2 => Ext (frees src σ) σ2 /\ tt σ2 H2 fun ok H3 =>
    if ok = true then te σ2 H3 fun y H4 => H4 D = some (.lst ys) /\ ys.length < sizeLine /\ ∃ m', m' < m /\ W (i + 1) m' (ys ++ [y]) (upd H4 D (.lst (ys ++ [y]))) else ∃ m', m' < m /\ W (i + 1) m' ys H3) := by
 refine ⟨fun i m ys H' => i ≤ ds.length /\ m = ds.length - i /\ H' D = some (.lst ys) /\ Same H H' /\ Als (P H') ys ((ds.take i).map f), ⟨_, Nat.zero_le _, rfl, upd_same, same_new hD _, .nil⟩, ?_⟩
 rintro i m ys H1 ⟨hi, rfl, d1, s1, al1⟩
 have hS1 : SqL K H1 a xs := s1.seq hS
 by_cases hix : i < ds.length
 ·have hx0 : xs[i]? = some (xs[i]'(by omega)) := List.getElem?_eq_getElem _
  refine .inr ⟨⟨xs, _, hS1, hx0⟩, ?_⟩
  rintro x H2 ⟨rfl, hy⟩
  have hx := hy xs hS1
  obtain ⟨d, hd⟩ : ∃ d, ds[i]? = some d := ⟨_, List.getElem?_eq_getElem hix⟩
  refine turn i x d _ hx hd s1 _ _ fun v H3 s3 p3 => ?_
  have d3 : H3 D = some (.lst ys) := s3 _ _ d1
  have tm : Tst K H2 (upd H3 D (.lst (ys ++ [v]))) := (Tst.same s3).trans (Tst.up d3 _)
  refine ⟨d3, small1000 (by rw [al1.len, List.length_map, List.length_take]; omega), ds.length - (i + 1), by omega, hix, rfl, upd_same, fun b o q => ?_, ?_⟩
  ·rw [upd_ne (ne_of_none q hD)]
   exact s3 _ _ (s1 _ _ q)
  ·rw [List.take_add_one, hd, List.map_append]
   exact (al1.mono fun v d p => mono _ _ _ _ tm p).snoc (mono _ _ _ _ (Tst.up d3 _) p3)
 ·have e : i = ds.length := by omega
  subst e
  rw [List.take_length] at al1
  exact .inl ⟨⟨xs, hS1, by omega⟩, fin H1 ys s1 d1 al1⟩
theorem call_setOW {X : Cx} {w : World} (hw : X.w = w) (hc : X.calm = true) : CallR X (.type "set") (rSetO w X.K) := hw ▸ call_setO hc
theorem call_sortedSW {X : Cx} {w : World} (hw : X.w = w) (hc : X.calm = true) : CallR X (.builtin "sorted") (rSortS w) := hw ▸ call_sortedS hc
theorem call_tupleR2 {X : Cx} (hc : X.calm = true) : CallR X (.type "tuple") (fun xs H Q => ∃ p, ∃ lo n : Nat, xs = [.ref p] /\ H p = some (.rng (lo : Int) ((lo + n : Nat) : Int)) /\ lo + n ≤ 1000 /\ ∀ l, H l = none -> Q (.ref l) (upd H l (.tup ((frmTo lo n).map fun i : Nat => V.int i)))) := by
 intro pins s σ H xs us Q I r h
 obtain ⟨p, lo, n, rfl, hp, hn, q⟩ := h
 obtain ⟨u, rfl, rx⟩ := vals1 r
 cases rx
 obtain ⟨t, u, w, e⟩ := (show ObjOk X.prog X.w H s.heap p (.rng (lo : Int) ((lo + n : Nat) : Int)) from I.hok p _ hp)
 refine call_tuple_range (n := n) (I.ok.hd hc) (show IsRange s.heap p (lo : Int) ((lo + n : Nat) : Int) 1 t u w from e) (small_one (by omega) (by omega) (by omega) (by omega)) (by rw [rangeSize_one]; split <;> omega) (by omega) fun h' tk acc hk hi => ?_
 have rv := vals_from hi
 have I1 : Inv X pins σ H { s with heap := h', toks := tk } := I.kept (t' := tk) hk
 have hl : (frmTo lo n).length = n := by unfold frmTo; simp
 have I2 : Inv X pins σ (upd H h'.objs.size (.tup ((frmTo lo n).map fun i : Nat => V.int i))) { s with heap := h'.push { cls := .type "tuple", data := .seq acc }, toks := tk } :=
  I1.laid (t' := tk) (fun b o e => Heap.get?_push_of_some _ e) (Nat.le_refl _) (show ObjOk X.prog X.w _ _ _ (.tup ((frmTo lo n).map fun i : Nat => V.int i)) from ⟨by rw [List.length_map, hl, sizeLine_eq]; omega, acc.toList, rv, by have := IsTup.new h' acc; simpa using this⟩)
 exact ⟨.ref h'.objs.size, _, I2, rfl, q _ (I1.hok.fresh (Nat.le_refl _))⟩
end B
namespace My
open PySem L2 B PyProof.Rows
theorem qsA {X : Cx} {pos : Pos} (i : Nat) {x : Str} {e : Expr} {te : TE} {pos' : Pos} (hN : X.N.Nodup) (he : QE X e te) (hi : X.N[i]? = some x := by rfl) (hx : Loc X.env.scope x := by first | exact Or.inl rfl | exact Or.inr rfl) (hs : swapsWith e (some (.Name x pos')) pos.line X.env = pure false := by rfl) (hf : X.fn x = true ∨ X.env.scope.names.lookup x = some .local := by first | exact .inl rfl | exact .inr rfl | assumption) : QS X (.Assign [.Name x pos'] e pos) (tAsg te (gName i)) := qs_set hN hi hx he hs hf
theorem scA {N P : List Str} {sc : Scope} (a : sc.kind = .function := by rfl) (b : sc.isCoroutine = false := by rfl) (c : sc.isGenerator = false := by rfl) (d : N.Nodup := by decide +kernel) (e : N.take P.length = P := by rfl) (f : ∀ x ∈ P, sc.names.lookup x = some .local ∨ sc.names.lookup x = some .cell := by decide +kernel) (g : ∀ y ∈ sc.names, y.2 ≠ .free := by decide +kernel) : FnScope N P sc := ⟨a, b, c, d, e, f, g⟩
theorem qcA {X : Cx} {k j : Nat} {f : Addr} {fd : FuncData} {ps : List Str} {sp : Sp} {x : Str} {p pos : Pos} {e : Expr} {es : List Expr} {t : TA} (F : FnOk X.prog X.w X.K X.mg X.base CX0 k f fd ps sp) (hr : Room j X.A) (hm : X.mg x = some (.ref f)) (hk : PySem.W.keepIn X.K (.ref f) = true) (hb : Binds X.K fd ps []) (ha : QA X (e :: es) t) (hl : k ≤ j := by decide) (hg : Gl X x := by rfl) (hdb : (x == ("__debug__" : Str)) = false := by decide) (he : starEach (e :: es) X.env = (false, eval e X.env) :: starEach es X.env := by rfl) (hpl : (backTo pos (starEach es X.env)).any (·.1) = false := by rfl) : QE X (.Call (.Name x p) (e :: es) [] pos) (tCall sp [] E0 t) := qe_call F (hr.mono hl) hg hm hk hb .nil pass0 ha hdb he hpl
theorem qxA {X : Cx} {a b : Expr} {ta tb : TE} {pos : Pos} {r : R2} (hr : IxR X r) (ha : QE X a ta) (hb : QE X b tb) (hs : PlainIx b := by exact fun _ _ => rfl) : QE X (.Subscript a b pos) (tOp r ta tb) := qe_ix hr ha hb hs
class MonoP {α : Type} (P : Fg -> Hp -> V -> α -> Prop) : Prop where
 mono : ∀ {K : Fg} {H H' : Hp} {v : V} {d : α}, Tst K H H' -> P K H v d -> P K H' v d
theorem aM {α : Type} {P : Fg -> Hp -> V -> α -> Prop} [MonoP P] {K : Fg} {H H' : Hp} {xs : List V} {ds : List α} (e : Same H H') (h : Als (P K H) xs ds) : Als (P K H') xs ds := h.mono fun _ _ q => MonoP.mono (Tst.same e) q
theorem aT {α : Type} {P : Fg -> Hp -> V -> α -> Prop} [MonoP P] {K : Fg} {t : Addr} {H H' : Hp} {xs : List V} {ds : List α} (e : Step t H H') (h : Als (P K H) xs ds) : Als (P K H') xs ds := h.mono fun _ _ q => MonoP.mono (Tst.step e) q
theorem aU {α : Type} {P : Fg -> Hp -> V -> α -> Prop} [MonoP P] {K : Fg} {H H' : Hp} {xs : List V} {ds : List α} (e : Tst K H H') (h : Als (P K H) xs ds) : Als (P K H') xs ds := h.mono fun _ _ q => MonoP.mono e q
instance : MonoP RV := ⟨fun t q => q.mono t⟩
theorem bdA {K : Fg} {x qual : Str} {st : Stmt} {f : Addr} {fd : FuncData} {ps : List Str} (F : Fun K x qual st f fd) (h : ∀ (kV doc pm : Value) (an : Option Addr) (cdv ct : Value) (us : List Value), us.length = ps.length -> bindArgs (PySem.W.fnOf x qual (defArgs st) (defBody st) (defScope st) .none kV doc pm an cdv ct) ⟨us, []⟩ = pure (ps.zip us) := by
 intro _ _ _ _ _ _ us hl
 match us, hl with
 | [], h2 => first | rfl | (simp at h2)
 | [_], h2 => first | rfl | (simp at h2)
 | [_, _], h2 => first | rfl | (simp at h2)
 | [_, _, _], h2 => first | rfl | (simp at h2)
 | [_, _, _, _], h2 => first | rfl | (simp at h2)
 | _ :: _ :: _ :: _ :: _ :: _, h2 => simp at h2) : Binds K fd ps [] := F.binds h
def top (i : Nat) : Stmt := PySem.Challenge.pw_paceplan_k45_too_much_asked.main.body.getD i (.Pass ⟨0, 0, 0, 0⟩)
abbrev s_Q15 : Stmt := top 1
abbrev s_Q1 : Stmt := top 2
abbrev s_Q5 : Stmt := top 3
abbrev s_Q31 : Stmt := top 4
abbrev s_Q0 : Stmt := top 18
abbrev s_Q35 : Stmt := top 19
abbrev s_Q39 : Stmt := top 20
abbrev s_Q36 : Stmt := top 21
abbrev s_Q37 : Stmt := top 22
abbrev s_Q22 : Stmt := top 23
abbrev s_Q38 : Stmt := top 24
abbrev s_Q2 : Stmt := top 27
abbrev s_Q6 : Stmt := top 28
abbrev s_Q16 : Stmt := top 30
abbrev s_Q17 : Stmt := top 31
abbrev s_Q7 : Stmt := top 32
abbrev s_Q18 : Stmt := top 33
abbrev s_Q23 : Stmt := top 34
abbrev s_Q24 : Stmt := top 35
abbrev s_Q19 : Stmt := top 36
abbrev s_Q25 : Stmt := top 37
abbrev s_Q8 : Stmt := top 38
abbrev s_Q9 : Stmt := top 39
abbrev s_Q3 : Stmt := top 40
abbrev s_Q4 : Stmt := top 41
abbrev s_Q20 : Stmt := top 42
abbrev s_Q10 : Stmt := top 43
abbrev s_Q21 : Stmt := top 44
abbrev s_Q11 : Stmt := top 45
abbrev s_Q12 : Stmt := top 46
abbrev s_Q40 : Stmt := top 47
abbrev s_Q32 : Stmt := inClass (top 14) 0
structure Ad where
 a_Q15 : Addr
 d_Q15 : FuncData
 a_Q1 : Addr
 d_Q1 : FuncData
 a_Q5 : Addr
 d_Q5 : FuncData
 a_Q31 : Addr
 d_Q31 : FuncData
 a_Q0 : Addr
 d_Q0 : FuncData
 a_Q35 : Addr
 d_Q35 : FuncData
 a_Q39 : Addr
 d_Q39 : FuncData
 a_Q36 : Addr
 d_Q36 : FuncData
 a_Q37 : Addr
 d_Q37 : FuncData
 a_Q22 : Addr
 d_Q22 : FuncData
 a_Q38 : Addr
 d_Q38 : FuncData
 a_Q2 : Addr
 d_Q2 : FuncData
 a_Q6 : Addr
 d_Q6 : FuncData
 a_Q16 : Addr
 d_Q16 : FuncData
 a_Q17 : Addr
 d_Q17 : FuncData
 a_Q7 : Addr
 d_Q7 : FuncData
 a_Q18 : Addr
 d_Q18 : FuncData
 a_Q23 : Addr
 d_Q23 : FuncData
 a_Q24 : Addr
 d_Q24 : FuncData
 a_Q19 : Addr
 d_Q19 : FuncData
 a_Q25 : Addr
 d_Q25 : FuncData
 a_Q8 : Addr
 d_Q8 : FuncData
 a_Q9 : Addr
 d_Q9 : FuncData
 a_Q3 : Addr
 d_Q3 : FuncData
 a_Q4 : Addr
 d_Q4 : FuncData
 a_Q20 : Addr
 d_Q20 : FuncData
 a_Q10 : Addr
 d_Q10 : FuncData
 a_Q21 : Addr
 d_Q21 : FuncData
 a_Q11 : Addr
 d_Q11 : FuncData
 a_Q12 : Addr
 d_Q12 : FuncData
 a_Q40 : Addr
 d_Q40 : FuncData
 c_NOUGHT : Addr
 k_TURNS : Tok
 c_base : Addr
 c_Q32 : Addr
 a_Q32 : Addr
 d_Q32 : FuncData
 c_Q13 : Addr
 c_Q26 : Addr
 c_Q33 : Addr
 c_Q27 : Addr
 c_Q34 : Addr
 c_Q28 : Addr
 c_Q29 : Addr
 c_Q14 : Addr
 c_Q30 : Addr
structure Txt (K : Fg) (mg : Str -> Option Value) (t : Ad) : Prop where
 F_Q15 : Fun K "is_whole" "is_whole" s_Q15 t.a_Q15 t.d_Q15
 b_Q15 : Binds K t.d_Q15 ["thing"] []
 m_Q15 : mg "is_whole" = some (.ref t.a_Q15)
 F_Q1 : Fun K "is_number_of" "is_number_of" s_Q1 t.a_Q1 t.d_Q1
 b_Q1 : Binds K t.d_Q1 ["thing", "count"] []
 m_Q1 : mg "is_number_of" = some (.ref t.a_Q1)
 F_Q5 : Fun K "is_rising" "is_rising" s_Q5 t.a_Q5 t.d_Q5
 b_Q5 : Binds K t.d_Q5 ["thing", "count"] []
 m_Q5 : mg "is_rising" = some (.ref t.a_Q5)
 F_Q31 : Fun K "copied" "copied" s_Q31 t.a_Q31 t.d_Q31
 b_Q31 : Binds K t.d_Q31 ["thing"] []
 m_Q31 : mg "copied" = some (.ref t.a_Q31)
 F_Q0 : Fun K "greatest_divisor" "greatest_divisor" s_Q0 t.a_Q0 t.d_Q0
 b_Q0 : Binds K t.d_Q0 ["one", "other"] []
 m_Q0 : mg "greatest_divisor" = some (.ref t.a_Q0)
 F_Q35 : Fun K "ratio" "ratio" s_Q35 t.a_Q35 t.d_Q35
 b_Q35 : Binds K t.d_Q35 ["top", "bottom"] []
 m_Q35 : mg "ratio" = some (.ref t.a_Q35)
 F_Q39 : Fun K "plus" "plus" s_Q39 t.a_Q39 t.d_Q39
 b_Q39 : Binds K t.d_Q39 ["one", "other"] []
 m_Q39 : mg "plus" = some (.ref t.a_Q39)
 F_Q36 : Fun K "minus" "minus" s_Q36 t.a_Q36 t.d_Q36
 b_Q36 : Binds K t.d_Q36 ["one", "other"] []
 m_Q36 : mg "minus" = some (.ref t.a_Q36)
 F_Q37 : Fun K "times" "times" s_Q37 t.a_Q37 t.d_Q37
 b_Q37 : Binds K t.d_Q37 ["one", "other"] []
 m_Q37 : mg "times" = some (.ref t.a_Q37)
 F_Q22 : Fun K "is_less" "is_less" s_Q22 t.a_Q22 t.d_Q22
 b_Q22 : Binds K t.d_Q22 ["one", "other"] []
 m_Q22 : mg "is_less" = some (.ref t.a_Q22)
 F_Q38 : Fun K "total" "total" s_Q38 t.a_Q38 t.d_Q38
 b_Q38 : Binds K t.d_Q38 ["some"] []
 m_Q38 : mg "total" = some (.ref t.a_Q38)
 F_Q2 : Fun K "bound_amount" "bound_amount" s_Q2 t.a_Q2 t.d_Q2
 b_Q2 : Binds K t.d_Q2 ["work", "top", "turns"] []
 m_Q2 : mg "bound_amount" = some (.ref t.a_Q2)
 F_Q6 : Fun K "lets_much" "lets_much" s_Q6 t.a_Q6 t.d_Q6
 b_Q6 : Binds K t.d_Q6 ["works", "hands", "top", "thing"] []
 m_Q6 : mg "lets_much" = some (.ref t.a_Q6)
 F_Q16 : Fun K "_law_tape" "_law_tape" s_Q16 t.a_Q16 t.d_Q16
 b_Q16 : Binds K t.d_Q16 ["_law_script"] []
 m_Q16 : mg "_law_tape" = some (.ref t.a_Q16)
 F_Q17 : Fun K "_law_draw" "_law_draw" s_Q17 t.a_Q17 t.d_Q17
 b_Q17 : Binds K t.d_Q17 ["_law_tape_here", "_law_many"] []
 m_Q17 : mg "_law_draw" = some (.ref t.a_Q17)
 F_Q7 : Fun K "_law_alike" "_law_alike" s_Q7 t.a_Q7 t.d_Q7
 b_Q7 : Binds K t.d_Q7 ["_law_due", "_law_found"] []
 m_Q7 : mg "_law_alike" = some (.ref t.a_Q7)
 F_Q18 : Fun K "_law_frac" "_law_frac" s_Q18 t.a_Q18 t.d_Q18
 b_Q18 : Binds K t.d_Q18 ["_law_top", "_law_bottom"] []
 m_Q18 : mg "_law_frac" = some (.ref t.a_Q18)
 F_Q23 : Fun K "_law_add" "_law_add" s_Q23 t.a_Q23 t.d_Q23
 b_Q23 : Binds K t.d_Q23 ["_law_one", "_law_other"] []
 m_Q23 : mg "_law_add" = some (.ref t.a_Q23)
 F_Q24 : Fun K "_law_mul" "_law_mul" s_Q24 t.a_Q24 t.d_Q24
 b_Q24 : Binds K t.d_Q24 ["_law_one", "_law_other"] []
 m_Q24 : mg "_law_mul" = some (.ref t.a_Q24)
 F_Q19 : Fun K "_law_less" "_law_less" s_Q19 t.a_Q19 t.d_Q19
 b_Q19 : Binds K t.d_Q19 ["_law_one", "_law_other"] []
 m_Q19 : mg "_law_less" = some (.ref t.a_Q19)
 F_Q25 : Fun K "_law_sum" "_law_sum" s_Q25 t.a_Q25 t.d_Q25
 b_Q25 : Binds K t.d_Q25 ["_law_some"] []
 m_Q25 : mg "_law_sum" = some (.ref t.a_Q25)
 F_Q8 : Fun K "_law_works" "_law_works" s_Q8 t.a_Q8 t.d_Q8
 b_Q8 : Binds K t.d_Q8 ["_law_tape_here", "_law_many"] []
 m_Q8 : mg "_law_works" = some (.ref t.a_Q8)
 F_Q9 : Fun K "_law_units" "_law_units" s_Q9 t.a_Q9 t.d_Q9
 b_Q9 : Binds K t.d_Q9 ["_law_works_here"] []
 m_Q9 : mg "_law_units" = some (.ref t.a_Q9)
 F_Q3 : Fun K "_law_tightest" "_law_tightest" s_Q3 t.a_Q3 t.d_Q3
 b_Q3 : Binds K t.d_Q3 ["_law_works_here", "_law_left"] []
 m_Q3 : mg "_law_tightest" = some (.ref t.a_Q3)
 F_Q4 : Fun K "_law_layers" "_law_layers" s_Q4 t.a_Q4 t.d_Q4
 b_Q4 : Binds K t.d_Q4 ["_law_works_here"] []
 m_Q4 : mg "_law_layers" = some (.ref t.a_Q4)
 F_Q20 : Fun K "_law_pace" "_law_pace" s_Q20 t.a_Q20 t.d_Q20
 b_Q20 : Binds K t.d_Q20 ["_law_works_here", "_law_layer"] []
 m_Q20 : mg "_law_pace" = some (.ref t.a_Q20)
 F_Q10 : Fun K "_law_marks" "_law_marks" s_Q10 t.a_Q10 t.d_Q10
 b_Q10 : Binds K t.d_Q10 ["_law_e"] []
 m_Q10 : mg "_law_marks" = some (.ref t.a_Q10)
 F_Q21 : Fun K "_law_word" "_law_word" s_Q21 t.a_Q21 t.d_Q21
 b_Q21 : Binds K t.d_Q21 ["_law_works_here", "_law_hands", "_law_top", "_law_thing"] []
 m_Q21 : mg "_law_word" = some (.ref t.a_Q21)
 F_Q11 : Fun K "_law_tried" "_law_tried" s_Q11 t.a_Q11 t.d_Q11
 b_Q11 : Binds K t.d_Q11 ["_law_works_here", "_law_hands", "_law_top", "_law_thing"] []
 m_Q11 : mg "_law_tried" = some (.ref t.a_Q11)
 F_Q12 : Fun K "_law_right" "_law_right" s_Q12 t.a_Q12 t.d_Q12
 b_Q12 : Binds K t.d_Q12 ["_law_works_here", "_law_hands", "_law_top", "_law_thing"] []
 m_Q12 : mg "_law_right" = some (.ref t.a_Q12)
 F_Q40 : Fun K "law" "law" s_Q40 t.a_Q40 t.d_Q40
 b_Q40 : Binds K t.d_Q40 ["_law_script"] []
 m_Q40 : mg "law" = some (.ref t.a_Q40)
 m_NOUGHT : mg "NOUGHT" = some (.ref t.c_NOUGHT)
 q_NOUGHT : ∀ H, SqT K H t.c_NOUGHT [.int (0), .int (1)]
 m_TURNS : mg "TURNS" = some (.int (24) t.k_TURNS)
 X_Q32 : XC K t.c_Q32 t.a_Q32 (.ref t.c_base :: vMro)
 F_Q32 : Fun K "__init__" "NoMuch.__init__" s_Q32 t.a_Q32 t.d_Q32
 b_Q32 : Binds K t.d_Q32 ["self", "word"] []
 m_Q32 : mg "NoMuch" = some (.ref t.c_Q32)
 n_Q32_word : NoAttr K t.c_Q32 "word"
 g_Q32 : GetX K t.c_Q32
 m_Q13 : mg "PaceError" = some (.ref t.c_Q13)
 m_Q26 : mg "NoLeast" = some (.ref t.c_Q26)
 m_Q33 : mg "NoPlan" = some (.ref t.c_Q33)
 m_Q27 : mg "NoPrice" = some (.ref t.c_Q27)
 m_Q34 : mg "NoRoom" = some (.ref t.c_Q34)
 m_Q28 : mg "NoSheet" = some (.ref t.c_Q28)
 m_Q29 : mg "NoSpeed" = some (.ref t.c_Q29)
 m_Q14 : mg "NoStretch" = some (.ref t.c_Q14)
 m_Q30 : mg "NoRatio" = some (.ref t.c_Q30)
 x_catch : PySem.W.exmOne K (.ref t.c_Q32) (.ref t.c_Q13) = some true
 y_self : PySem.W.kitOne K (.ref t.c_Q32) (.ref t.c_Q32) = some true
 y_base : PySem.W.kitOne K (.ref t.c_Q32) (.ref t.c_Q13) = some true
 y_val : PySem.W.kitOne K (.ref t.c_Q32) (.type "ValueError") = some true
 y_not : PySem.W.kitAny K (.ref t.c_Q32) [.ref t.c_Q26, .ref t.c_Q33, .ref t.c_Q27, .ref t.c_Q34, .ref t.c_Q28, .ref t.c_Q29, .ref t.c_Q14] = some false
 z_ValueError : mg "ValueError" = none
 z_abs : mg "abs" = none
 z_all : mg "all" = none
 z_bool : mg "bool" = none
 z_int : mg "int" = none
 z_isinstance : mg "isinstance" = none
 z_len : mg "len" = none
 z_list : mg "list" = none
 z_range : mg "range" = none
 z_repr : mg "repr" = none
 z_set : mg "set" = none
 z_sorted : mg "sorted" = none
 z_str : mg "str" = none
 z_sum : mg "sum" = none
 z_tuple : mg "tuple" = none
abbrev sp_law_tape := sp_tape3
abbrev sp_law_draw := sp_draw3
def sp_greatest_divisor (_ : Fg) : Sp := fun vs H Q _ => ∃ a b : Int, vs = [.int a, .int b] /\ Q (.int (Int.gcd a b : Nat)) H
def newR (H : Hp) (Q : VK) (r : R) : Prop := ∀ p, H p = none -> Q (.ref p) (upd H p (.tup [.int r.1, .int r.2]))
def toR (K : Fg) (H : Hp) (Q : VK) (r : R) : Prop := ∀ (v : V) (H' : Hp), Same H H' -> RV K H' v r -> Q v H'
def sp_ratio (_ : Fg) : Sp := fun vs H Q _ => ∃ a b : Int, vs = [.int a, .int b] /\ b ≠ 0 /\ b.natAbs < 2 ^ 4000 /\ newR H Q (mkS a b)
def sp_plus (K : Fg) : Sp := fun vs H Q _ => ∃ (v w : V) (r q : R) (n m : Nat), vs = [v, w] /\ RV K H v r /\ RV K H w q /\ Wf n r /\ Wf m q /\ n + m + 1 ≤ 3000 /\ newR H Q (plusR r q)
def sp_times (K : Fg) : Sp := fun vs H Q _ => ∃ (v w : V) (r q : R) (n m : Nat), vs = [v, w] /\ RV K H v r /\ RV K H w q /\ Wf n r /\ Wf m q /\ n + m + 1 ≤ 3000 /\ newR H Q (timesR r q)
def Seq (K : Fg) (H : Hp) (a : Addr) (xs : List V) : Prop := SqL K H a xs ∨ SqT K H a xs
def sp_total (K : Fg) : Sp := fun vs H Q _ => ∃ (a : Addr) (xs : List V) (rs : List R) (n D : Nat), vs = [.ref a] /\ Seq K H a xs /\ RVs K H xs rs /\ (∀ r ∈ rs, Wf n r /\ r.2 ∣ (D : Int)) /\ 0 < D /\ D < 2 ^ n /\ rs.length ≤ 64 /\ n ≤ 900 /\ ∀ (v' : V) (H' : Hp), Same H H' -> RV K H' v' (sumR rs) -> Q v' H'
theorem div_lt {a g : Int} (hg : 0 < g) (h : a.natAbs < 2 ^ 4000) : (a / g).natAbs < 2 ^ 4000 := Nat.lt_of_le_of_lt (natAbs_div_le a hg) h
theorem gcd_lt {a b : Int} (hb : 0 < b) (h : b.natAbs < 2 ^ 4000) : ((Int.gcd a b : Nat) : Int).natAbs < 2 ^ 4000 := by
 have z : Int.gcd a b ≤ b.natAbs := Nat.le_of_dvd (by omega) (by have := Int.gcd_dvd_right a b; exact Int.natAbs_dvd_natAbs.mpr this)
 have e : ((Int.gcd a b : Nat) : Int).natAbs = Int.gcd a b := Int.natAbs_natCast _
 omega
theorem big_of {i : Int} {n : Nat} (h : i.natAbs < 2 ^ n) (hn : n ≤ 4000) : i.natAbs < 2 ^ 4000 := Nat.lt_of_lt_of_le h (Nat.pow_le_pow_right (by decide) hn)
def sp_law_frac (_ : Fg) : Sp := fun vs H Q _ => ∃ a b : Int, vs = [.int a, .int b] /\ 0 < b /\ b.natAbs < 2 ^ 4000 /\ newR H Q (mkR a b)
abbrev sp_law_add := sp_plus
abbrev sp_law_mul := sp_times
def sp_law_sum (K : Fg) : Sp := fun vs H Q _ => ∃ (a : Addr) (xs : List V) (rs : List R), vs = [.ref a] /\ SqL K H a xs /\ Als (RV K H) xs rs /\ (∀ r ∈ rs, Wf 4 r) /\ rs.length ≤ 64 /\ ∀ (v' : V) (H' : Hp), Same H H' -> RV K H' v' (sumR rs) -> Q v' H'
theorem one_wf {m : Nat} (h : 0 < m) (h' : m ≤ 24) : Wf 5 ((1, (m : Int)) : R) := ⟨by show (0 : Int) < m; omega, by show (1 : Int).natAbs < 2 ^ 5; decide, by show ((m : Int)).natAbs < 32; omega, by simp⟩
theorem als_rvs {K : Fg} {H : Hp} {xs : List V} {rs : List R} (h : Als (RV K H) xs rs) : RVs K H xs rs := ⟨h.len, fun i x r hx hr => by obtain ⟨d, hd, p⟩ := h.at hx; rw [hr] at hd; cases hd; exact p⟩
abbrev Wk := Nat × Nat × R
def WkV (K : Fg) (H : Hp) (v : V) (w : Wk) : Prop := ∃ p x, v = .ref p /\ SqT K H p [.int w.1, .int w.2.1, x] /\ RV K H x w.2.2
theorem WkV.mono {K : Fg} {H H' : Hp} {v : V} {w : Wk} (h : WkV K H v w) (t : Tst K H H') : WkV K H' v w := let ⟨p, x, e, s, r⟩ := h; ⟨p, x, e, t _ _ s, r.mono t⟩
instance : MonoP WkV := ⟨fun t q => q.mono t⟩
structure AmOk (r : R) : Prop where
 top : 1 ≤ r.1
 top' : r.1 ≤ 12
 bot : 1 ≤ r.2
 bot' : r.2 ≤ 7
 dvd : r.2 ∣ 84
 wf : Wf 4 r
structure WkOk (w : Wk) : Prop where
 le : w.1 ≤ w.2.1
 lt : w.2.1 < 24
 am : AmOk w.2.2
def WksV (K : Fg) (H : Hp) (v : V) (ws : List Wk) : Prop := ∃ p xs, v = .ref p /\ SqT K H p xs /\ Als (WkV K H) xs ws
theorem WksV.mono {K : Fg} {H H' : Hp} {v : V} {ws : List Wk} (h : WksV K H v ws) (t : Tst K H H') : WksV K H' v ws := let ⟨p, xs, e, s, a⟩ := h; ⟨p, xs, e, t _ _ s, a.mono fun _ _ q => q.mono t⟩
def natV (ls : List Nat) : List V := ls.map fun n : Nat => V.int n
theorem amOk_mk {a b : Int} (h1 : 1 ≤ a) (h2 : a ≤ 12) (h3 : 1 ≤ b) (h4 : b ≤ 7) (h5 : b ∣ 84) : AmOk (mkR a b) := by
 have g0 : 0 < (Int.gcd a b : Int) := gcd_posR (by omega)
 have da : (Int.gcd a b : Int) ∣ a := Int.gcd_dvd_left a b
 have db : (Int.gcd a b : Int) ∣ b := Int.gcd_dvd_right a b
 have p1 : 0 < a / (Int.gcd a b : Int) := Int.ediv_pos_of_pos_of_dvd (by omega) (Int.le_of_lt g0) da
 have p2 : 0 < b / (Int.gcd a b : Int) := Int.ediv_pos_of_pos_of_dvd (by omega) (Int.le_of_lt g0) db
 have q1 : a / (Int.gcd a b : Int) ≤ a := Int.ediv_le_self _ (by omega)
 have q2 : b / (Int.gcd a b : Int) ≤ b := Int.ediv_le_self _ (by omega)
 refine ⟨p1, by show a / (Int.gcd a b : Int) ≤ 12; omega, p2, by show b / (Int.gcd a b : Int) ≤ 7; omega, Int.dvd_trans ?_ h5, mkR_wf (by omega) (by show a.natAbs < 16; omega) (by show b.natAbs < 16; omega)⟩
 exact ⟨(Int.gcd a b : Int), (Int.ediv_mul_cancel db).symm⟩
def sp_law_works (K : Fg) : Sp := fun vs H Q _ => ∃ (t s : Addr) (m : Nat), vs = [.ref t, .int m] /\ Tape3 K H t s /\ m ≤ 64 /\ ∀ (v : V) (ws : List Wk) (H' : Hp), Step t H H' -> Tape3 K H' t s -> WksV K H' v ws -> ws.length = m -> (∀ w ∈ ws, WkOk w) -> Q v H'
def unitsM (ws : List Wk) : List Int := ws.map fun w => w.2.2.1 * 84 / w.2.2.2
def partsM (B : Int) (ws : List Wk) : List Int := ws.map fun w => w.2.2.1 * (B / w.2.2.2)
def sp_law_units (K : Fg) : Sp := fun vs H Q _ => ∃ (v : V) (ws : List Wk), vs = [v] /\ WksV K H v ws /\ ws.length ≤ 64 /\ (∀ w ∈ ws, WkOk w) /\ ∀ (l : Addr) (H' : Hp), Same H H' -> H l = none -> H' l = some (.lst ((unitsM ws).map V.int)) -> Q (.ref l) H'
def sp_whole_parts (K : Fg) : Sp := fun vs H Q _ => ∃ (a : Addr) (xs : List V) (ws : List Wk), vs = [.ref a] /\ SqL K H a xs /\ Als (RV K H) xs (ws.map fun w => w.2.2) /\ ws.length ≤ 64 /\ (∀ w ∈ ws, WkOk w) /\ ∀ (l : Addr) (B : Int) (H' : Hp), Same H H' -> H l = none -> 0 < B -> B ∣ 84 -> (∀ w ∈ ws, w.2.2.2 ∣ B) -> H' l = some (.lst ((partsM B ws).map V.int)) -> Q (.ref l) H'
def inW (w : Wk) (t : Nat) : Bool := decide (w.1 ≤ t) && decide (t ≤ w.2.1)
def sp_in_window (K : Fg) : Sp := fun vs H Q _ => ∃ (v : V) (w : Wk) (t : Nat), vs = [v, .int t] /\ WkV K H v w /\ Q (.bl (inW w t)) H
def plsM (ls : List Nat) (w : Wk) : List Nat := (List.range ls.length).filter fun i => inW w (ls.getD i 0)
def winM (ls : List Nat) (w : Wk) : Wn := match plsM ls w with
 | [] => none
 | x :: r => some (x, (x :: r).getLast (by simp))
def OptW (K : Fg) (H : Hp) (v : V) : Wn -> Prop
 | none => v = .non
 | some q => ∃ p, v = .ref p /\ SqT K H p [.int q.1, .int q.2]
def sp_kept_windows (K : Fg) : Sp := fun vs H Q _ => ∃ (v : V) (q : Addr) (ws : List Wk) (ls : List Nat), vs = [v, .ref q] /\ WksV K H v ws /\ ws.length ≤ 64 /\ SqT K H q (natV ls) /\ ls.length ≤ 24 /\ ∀ (l : Addr) (xs : List V) (H' : Hp), Same H H' -> H l = none -> H' l = some (.lst xs) -> Als (OptW K H') xs (ws.map (winM ls)) -> Q (.ref l) H'
def sp_held (K : Fg) : Sp := fun vs H Q _ => ∃ (l : Addr) (xs : List V) (os : List Wn) (p : Pl), vs = [.ref l, .int p.1, .int p.2] /\ SqL K H l xs /\ Als (OptW K H) xs os /\ os.length ≤ 64 /\ ∀ (D : Addr) (H' : Hp), Same H H' -> H D = none -> H' D = some (.lst (natV (heldM os p))) -> Q (.ref D) H'
def amF (as : List Int) (i : Nat) : Int := as.getD i 0
theorem load_bd {os : List Wn} {as : List Int} (hb : ∀ x ∈ as, 0 ≤ x /\ x ≤ 1008) (hn : os.length ≤ 64) (q : Pl) : 0 ≤ loadM os (amF as) q /\ loadM os (amF as) q ≤ 64512 := by
 have h0 : ∀ i, 0 ≤ amF as i /\ amF as i ≤ 1008 := fun i => by
  unfold amF
  rw [List.getD_eq_getElem?_getD]
  cases e : as[i]? with
  | none => exact ⟨by decide, by decide⟩
  | some x => exact hb x (List.mem_of_getElem? e)
 have key : ∀ l : List Nat, 0 ≤ (l.map (amF as)).sum /\ (l.map (amF as)).sum ≤ 1008 * (l.length : Int) := by
  intro l
  induction l with
  | nil => exact ⟨by simp, by simp⟩
  | cons x l ih =>
   rw [List.map_cons, List.sum_cons, List.length_cons]
   have := h0 x
   omega
 have k := key (heldM os q)
 have l : (heldM os q).length ≤ os.length := by
  unfold heldM
  exact Nat.le_trans (List.length_filter_le _ _) (by rw [List.length_range]; exact Nat.le_refl _)
 unfold loadM
 omega
def BestAt (K : Fg) (H : Hp) (S : Pl -> Prop) (L : Pl -> Int) (vb : Addr) (ld ln : Int) : Prop := (ld = -1 /\ ln = 1 /\ ∀ r, ¬ S r) ∨ ∃ q : Pl, SqT K H vb [.int q.1, .int q.2] /\ ld = L q /\ ln = lenP q /\ Bst S L q
def sp_tightest_places (K : Fg) : Sp := fun vs H Q _ => ∃ (l a : Addr) (xs : List V) (os : List Wn) (as : List Int) (n : Nat), vs = [.ref l, .ref a, .int n] /\ SqL K H l xs /\ Als (OptW K H) xs os /\ os.length ≤ 64 /\ SqL K H a (as.map V.int) /\ as.length = os.length /\ (∀ x ∈ as, 0 ≤ x /\ x ≤ 1008) /\ 1 ≤ n /\ n ≤ 24 /\ ∀ (p : Addr) (q : Pl) (H' : Hp), Same H H' -> SqT K H' p [.int q.1, .int q.2] -> Bst (Sec n) (loadM os (amF as)) q -> Q (.ref p) H'
def natD (ls : List Nat) : PyData := .tuple (ls.map fun n : Nat => PyData.int n)
def dTight (ls : List Nat) (os : List Wn) (q : Pl) : PyData := .tuple [natD ((ls.drop q.1).take (q.2 + 1 - q.1)), natD (heldM os q)]
theorem units_bd {ws : List Wk} (ok : ∀ w ∈ ws, WkOk w) : ∀ x ∈ unitsM ws, 0 ≤ x /\ x ≤ 1008 := by
 intro x hx
 obtain ⟨w, hw, rfl⟩ := List.mem_map.mp hx
 have o := (ok w hw).am
 have t1 := o.top
 have t2 := o.top'
 refine ⟨Int.ediv_nonneg (by omega) (by have := o.bot; omega), ?_⟩
 have := Int.ediv_le_self (a := w.2.2.1 * 84) w.2.2.2 (by omega)
 omega
theorem cut_nat {ls : List Nat} {a b : Nat} (h1 : a ≤ b) (h2 : b ≤ ls.length) : cutV (natV ls) (some (a : Int)) (some (b : Int)) = natV ((ls.drop a).take (b - a)) := by
 unfold cutV natV
 rw [HT.sIx_nat, HT.sIx_nat, List.length_map, show min b ls.length = b from Nat.min_eq_left h2, show min a ls.length = a from Nat.min_eq_left (by omega), List.map_take, List.map_drop]
theorem deep_nat {K : Fg} {H : Hp} {p : Addr} {ls : List Nat} (h : SqT K H p (natV ls)) : Deep K H (.ref p) (natD ls) := by
 refine .tup h ?_
 clear h
 unfold natV
 induction ls with
 | nil => exact .nil
 | cons x r ih => exact .cons (.int _) ih
def LyV (K : Fg) (H : Hp) (v : V) (y : List Nat × List Nat) : Prop := ∃ p a b, v = .ref p /\ SqT K H p [.ref a, .ref b] /\ SqT K H a (natV y.1) /\ SqT K H b (natV y.2)
theorem LyV.mono {K : Fg} {H H' : Hp} {v : V} {y : List Nat × List Nat} (h : LyV K H v y) (t : Tst K H H') : LyV K H' v y := let ⟨p, a, b, e, h1, h2, h3⟩ := h; ⟨p, a, b, e, t _ _ h1, t _ _ h2, t _ _ h3⟩
instance : MonoP LyV := ⟨fun t q => q.mono t⟩
def cutM (ls : List Nat) (q : Pl) : List Nat := (ls.drop q.1).take (q.2 + 1 - q.1)
def restM (ls : List Nat) (q : Pl) : List Nat := ls.filter fun t => !(cutM ls q).contains t
def nvM (ws : List Wk) (ls : List Nat) : Nat := ws.countP fun w => (winM ls w).isSome
theorem mem_pls {ls : List Nat} {w : Wk} {i : Nat} : i ∈ plsM ls w ↔ i < ls.length /\ inW w (ls.getD i 0) = true := by
 unfold plsM
 rw [List.mem_filter, List.mem_range]
theorem win_nil {ls : List Nat} {w : Wk} (h : plsM ls w = []) : winM ls w = none := by unfold winM; rw [h]
theorem win_cons {ls : List Nat} {w : Wk} {x : Nat} {r : List Nat} (h : plsM ls w = x :: r) : winM ls w = some (x, (x :: r).getLast (by simp)) := by unfold winM; rw [h]
theorem win_some {ls : List Nat} {w : Wk} : (winM ls w).isSome = true ↔ ∃ t ∈ ls, inW w t = true := by
 cases c : plsM ls w with
 | nil =>
  rw [win_nil c]
  refine ⟨fun h => (by cases h), fun ⟨t, ht, e⟩ => ?_⟩
  obtain ⟨i, hi, rfl⟩ := List.mem_iff_getElem.mp ht
  have m : i ∈ plsM ls w := mem_pls.mpr ⟨hi, by rw [getD_of 0 (List.getElem?_eq_getElem hi)]; exact e⟩
  rw [c] at m
  cases m
 | cons x r =>
  rw [win_cons c]
  refine ⟨fun _ => ?_, fun _ => rfl⟩
  have m : x ∈ plsM ls w := by rw [c]; exact List.mem_cons_self
  obtain ⟨hi, e⟩ := mem_pls.mp m
  rw [getD_of 0 (List.getElem?_eq_getElem hi)] at e
  exact ⟨_, List.getElem_mem hi, e⟩
theorem pls_sorted (ls : List Nat) (w : Wk) : (plsM ls w).Pairwise (· < ·) := List.Pairwise.filter _ List.pairwise_lt_range
theorem win_bds {ls : List Nat} {w : Wk} {a b : Nat} (h : winM ls w = some (a, b)) : a ∈ plsM ls w /\ b ∈ plsM ls w /\ ∀ i ∈ plsM ls w, a ≤ i /\ i ≤ b := by
 cases c : plsM ls w with
 | nil => rw [win_nil c] at h; cases h
 | cons x r =>
  rw [win_cons c] at h
  have srt := pls_sorted ls w
  rw [c] at srt
  injection h with h
  injection h with h1 h2
  subst h1 h2
  refine ⟨List.mem_cons_self, List.getLast_mem _, fun i hi => ⟨?_, ?_⟩⟩
  ·rcases List.mem_cons.mp hi with z | z
   ·omega
   ·have := (List.pairwise_cons.mp srt).1 i z
    omega
  ·have e := List.dropLast_concat_getLast (show (x :: r) ≠ [] by simp)
   rw [← e] at srt hi
   rcases List.mem_append.mp hi with z | z
   ·have := (List.pairwise_append.mp srt).2.2 i z _ (List.mem_singleton.mpr rfl)
    omega
   ·have := List.mem_singleton.mp z
    omega
theorem nd_inj {ls : List Nat} (nd : ls.Nodup) {i j : Nat} {hi : i < ls.length} {hj : j < ls.length} (e : ls[i] = ls[j]) : i = j := by
 have h := List.pairwise_iff_getElem.mp nd
 rcases Nat.lt_trichotomy i j with z | z | z
 ·exact absurd e (h i j hi hj z)
 ·exact z
 ·exact absurd e.symm (h j i hj hi z)
theorem mem_cut {ls : List Nat} {p : Pl} (nd : ls.Nodup) (hp : Sec ls.length p) {i : Nat} (hi : i < ls.length) : ls[i] ∈ cutM ls p ↔ p.1 ≤ i /\ i ≤ p.2 := by
 have h1 := hp.1
 have h2 := hp.2
 unfold cutM
 constructor
 ·intro h
  obtain ⟨j, hj, e⟩ := List.mem_iff_getElem.mp h
  rw [List.length_take, List.length_drop] at hj
  rw [List.getElem_take, List.getElem_drop] at e
  have := nd_inj nd e
  omega
 ·rintro ⟨a, b⟩
  refine List.mem_iff_getElem.mpr ⟨i - p.1, by rw [List.length_take, List.length_drop]; omega, ?_⟩
  rw [List.getElem_take, List.getElem_drop]
  congr 1
  omega
theorem rest_some {ls : List Nat} {p : Pl} {w : Wk} (nd : ls.Nodup) (hp : Sec ls.length p) : (winM (restM ls p) w).isSome = ((winM ls w).isSome && !holdB p.1 p.2 (winM ls w)) := by
 have key : (winM (restM ls p) w).isSome = true ↔ ∃ i, ∃ hi : i < ls.length, inW w ls[i] = true /\ ¬ (p.1 ≤ i /\ i ≤ p.2) := by
  rw [win_some]
  constructor
  ·rintro ⟨t, ht, e⟩
   unfold restM at ht
   obtain ⟨m, c⟩ := List.mem_filter.mp ht
   obtain ⟨i, hi, rfl⟩ := List.mem_iff_getElem.mp m
   refine ⟨i, hi, e, fun z => ?_⟩
   rw [List.contains_iff_mem.mpr ((mem_cut nd hp hi).mpr z)] at c
   cases c
  ·rintro ⟨i, hi, e, n⟩
   refine ⟨ls[i], List.mem_filter.mpr ⟨List.getElem_mem hi, ?_⟩, e⟩
   cases c : (cutM ls p).contains ls[i] with
   | false => rfl
   | true => exact absurd ((mem_cut nd hp hi).mp (List.contains_iff_mem.mp c)) n
 have pm : ∀ i, i ∈ plsM ls w ↔ ∃ hi : i < ls.length, inW w ls[i] = true := fun i => by
  rw [mem_pls]
  constructor
  ·rintro ⟨hi, e⟩
   rw [getD_of 0 (List.getElem?_eq_getElem hi)] at e
   exact ⟨hi, e⟩
  ·rintro ⟨hi, e⟩
   exact ⟨hi, by rw [getD_of 0 (List.getElem?_eq_getElem hi)]; exact e⟩
 cases c : winM ls w with
 | none =>
  have n : ¬ (winM (restM ls p) w).isSome = true := fun h => by
   obtain ⟨i, hi, e, _⟩ := key.mp h
   have := win_some.mpr ⟨ls[i], List.getElem_mem hi, e⟩
   rw [c] at this
   cases this
  simpa using n
 | some q =>
  obtain ⟨a, b⟩ := q
  obtain ⟨m1, m2, bd⟩ := win_bds c
  show (winM (restM ls p) w).isSome = (true && !(decide (p.1 ≤ a) && decide (b ≤ p.2)))
  by_cases h : p.1 ≤ a /\ b ≤ p.2
  ·rw [decide_eq_true h.1, decide_eq_true h.2]
   have n : ¬ (winM (restM ls p) w).isSome = true := fun h' => by
    obtain ⟨i, hi, e, n⟩ := key.mp h'
    have := bd i ((pm i).mpr ⟨hi, e⟩)
    exact n (by omega)
   simpa using n
  ·have y : (winM (restM ls p) w).isSome = true := key.mpr (by
    by_cases z : p.1 ≤ a
    ·obtain ⟨hi, e⟩ := (pm b).mp m2
     exact ⟨b, hi, e, by omega⟩
    ·obtain ⟨hi, e⟩ := (pm a).mp m1
     exact ⟨a, hi, e, by omega⟩)
   rw [y]
   by_cases z : p.1 ≤ a
   ·rw [decide_eq_false (show ¬ b ≤ p.2 from fun q => h ⟨z, q⟩), Bool.and_false]; rfl
   ·rw [decide_eq_false z]; rfl
theorem held_len (os : List Wn) (p : Pl) : (heldM os p).length = os.countP (holdB p.1 p.2) := by
 have := congrArg List.length (by_place (none : Wn) (holdB p.1 p.2) id os)
 rw [List.length_map, List.length_map] at this
 rw [List.countP_eq_length_filter]
 exact this
theorem nv_rest {ws : List Wk} {ls : List Nat} {p : Pl} (nd : ls.Nodup) (hp : Sec ls.length p) : nvM ws (restM ls p) + (heldM (ws.map (winM ls)) p).length = nvM ws ls := by
 rw [held_len, List.countP_map]
 unfold nvM
 induction ws with
 | nil => rfl
 | cons w ws ih =>
  rw [List.countP_cons, List.countP_cons, List.countP_cons, rest_some nd hp, show (holdB p.1 p.2 ∘ winM ls) w = holdB p.1 p.2 (winM ls w) from rfl]
  cases c : winM ls w with
  | none =>
   have : holdB p.1 p.2 none = false := rfl
   rw [this]
   simp only [Option.isSome_none, Bool.false_and, Bool.false_eq_true, if_false, Nat.add_zero]
   exact ih
  | some q =>
   cases holdB p.1 p.2 (some q) with
   | true =>
    simp only [Option.isSome_some, Bool.not_true, Bool.and_false, Bool.false_eq_true, if_false, if_true, Nat.add_zero]
    omega
   | false =>
    simp only [Option.isSome_some, Bool.not_false, Bool.and_true, Bool.false_eq_true, if_false, if_true, Nat.add_zero]
    omega
theorem rest_nd {ls : List Nat} (nd : ls.Nodup) (p : Pl) : (restM ls p).Nodup := List.Pairwise.filter _ nd
theorem le_sum {A : Nat -> Int} (h : ∀ i, 0 ≤ A i) : ∀ {l : List Nat} {i : Nat}, i ∈ l -> A i ≤ (l.map A).sum
 | x :: l, i, hi => by
  rw [List.map_cons, List.sum_cons]
  rcases List.mem_cons.mp hi with z | z
  ·subst z
   have := sum_nonneg h l
   omega
  ·have := le_sum h z
   have := h x
   omega
theorem units_nn {ws : List Wk} (ok : ∀ w ∈ ws, WkOk w) (i : Nat) : 0 ≤ amF (unitsM ws) i := by
 unfold amF
 rw [List.getD_eq_getElem?_getD]
 cases e : (unitsM ws)[i]? with
 | none => decide
 | some x => exact (units_bd ok x (List.mem_of_getElem? e)).1
theorem load_nv {ws : List Wk} {ls : List Nat} (ok : ∀ w ∈ ws, WkOk w) (h : ∀ r, Sec ls.length r -> loadM (ws.map (winM ls)) (amF (unitsM ws)) r = 0) : nvM ws ls = 0 := by
 refine List.countP_eq_zero.mpr fun w hw n => ?_
 obtain ⟨q, hq⟩ := Option.isSome_iff_exists.mp n
 obtain ⟨a, b⟩ := q
 obtain ⟨m1, m2, bd⟩ := win_bds hq
 have sec : Sec ls.length (a, b) := ⟨(bd b m2).1, (mem_pls.mp m2).1⟩
 obtain ⟨i, hi, rfl⟩ := List.mem_iff_getElem.mp hw
 have mi : i ∈ heldM (ws.map (winM ls)) (a, b) := by
  unfold heldM
  refine List.mem_filter.mpr ⟨List.mem_range.mpr (by rw [List.length_map]; exact hi), ?_⟩
  rw [getD_of none (show (ws.map (winM ls))[i]? = some (some (a, b)) by rw [List.getElem?_map, List.getElem?_eq_getElem hi]; exact congrArg some hq)]
  show (decide (a ≤ a) && decide (b ≤ b)) = true
  simp
 have l := le_sum (units_nn ok) mi
 have z := h _ sec
 unfold loadM at z
 rw [z] at l
 have o := (ok _ hw).am
 have eu : amF (unitsM ws) i = ws[i].2.2.1 * 84 / ws[i].2.2.2 := getD_of 0 (by unfold unitsM; rw [List.getElem?_map, List.getElem?_eq_getElem hi]; rfl)
 rw [eu] at l
 have t1 := o.top
 have b1 := o.bot
 have b2 := o.bot'
 have : 1 ≤ ws[i].2.2.1 * 84 / ws[i].2.2.2 := (Int.le_ediv_iff_mul_le (by omega)).mpr (by omega)
 omega
def IsT (ws : List Wk) (ls : List Nat) (p : Pl) : Prop := Bst (Sec ls.length) (loadM (ws.map (winM ls)) (amF (unitsM ws))) p /\ 0 < loadM (ws.map (winM ls)) (amF (unitsM ws)) p
theorem IsT.held {ws : List Wk} {ls : List Nat} {p : Pl} (h : IsT ws ls p) : 0 < (heldM (ws.map (winM ls)) p).length := by
 have := h.2
 unfold loadM at this
 cases c : heldM (ws.map (winM ls)) p with
 | nil => rw [c] at this; exact absurd this (by simp)
 | cons x r => exact Nat.succ_pos _
abbrev Ly := List Nat × List Nat
def lyM (ws : List Wk) (ls : List Nat) (p : Pl) : Ly := (cutM ls p, heldM (ws.map (winM ls)) p)
inductive Lys (ws : List Wk) : List Nat -> List Ly -> Prop where
 | nil {ls : List Nat} (h : nvM ws ls = 0) : Lys ws ls []
 | cons {ls : List Nat} {p : Pl} {r : List Ly} (h : IsT ws ls p) (t : Lys ws (restM ls p) r) : Lys ws ls (lyM ws ls p :: r)
structure LyOk (n : Nat) (y : Ly) : Prop where
 pos : 0 < y.1.length
 few : y.1.length ≤ 24
 lt : ∀ t ∈ y.1, t < 24
 num : ∀ i ∈ y.2, i < n
 len : y.2.length ≤ n
theorem lyM_ok {ws : List Wk} {ls : List Nat} {p : Pl} (hp : Sec ls.length p) (hl : ls.length ≤ 24) (hb : ∀ t ∈ ls, t < 24) : LyOk ws.length (lyM ws ls p) := by
 have h1 := hp.1
 have h2 := hp.2
 have e : (cutM ls p).length = min (p.2 + 1 - p.1) (ls.length - p.1) := by unfold cutM; rw [List.length_take, List.length_drop]
 refine ⟨by show 0 < (cutM ls p).length; omega, by show (cutM ls p).length ≤ 24; omega, fun t ht => hb t (List.mem_of_mem_drop (List.mem_of_mem_take ht)), fun i hi => ?_, ?_⟩
 ·have : i ∈ heldM (ws.map (winM ls)) p := hi
  unfold heldM at this
  have := List.mem_range.mp (List.mem_filter.mp this).1
  rw [List.length_map] at this
  exact this
 ·show (heldM (ws.map (winM ls)) p).length ≤ ws.length
  rw [held_len]
  exact Nat.le_trans List.countP_le_length (by rw [List.length_map]; exact Nat.le_refl _)
def sp_tightest (K : Fg) : Sp := fun vs H Q _ => ∃ (v : V) (q : Addr) (ws : List Wk) (ls : List Nat), vs = [v, .ref q] /\ WksV K H v ws /\ ws.length ≤ 64 /\ (∀ w ∈ ws, WkOk w) /\ SqT K H q (natV ls) /\ 1 ≤ ls.length /\ ls.length ≤ 24 /\ ∀ (x : V) (B : Int) (p : Pl) (H' : Hp), Same H H' -> 0 < B -> B ∣ 84 -> (∀ w ∈ ws, w.2.2.2 ∣ B) -> Bst (Sec ls.length) (loadM (ws.map (winM ls)) (amF (partsM B ws))) p -> LyV K H' x (lyM ws ls p) -> Q x H'
theorem bu_zero {n i e : Nat} {S S' : Pl -> Prop} {L : Pl -> Int} (st : ∀ r, S' r ↔ S r ∨ r = (i, e)) (sec : ∀ r, S' r -> Sec n r) (z : ∀ r, S r -> L r = 0) (c : 0 < L (i, e)) : Bst S' L (i, e) := by
 refine ⟨(st _).mpr (.inr rfl), fun r hr => ?_⟩
 rcases (st r).mp hr with h | h
 ·rw [z r h, Int.zero_mul]
  exact .inl (Int.mul_pos c (sec r hr).pos)
 ·rw [h]; exact .inr ⟨rfl, .inr ⟨rfl, Nat.le_refl _⟩⟩
theorem bu_pos {L : Int} {ln mn len : Int} (h0 : 0 ≤ L) (hm : 0 < mn) (hl : 0 < len) (c : mn * len ≤ L * ln) : 0 < L := by
 have := Int.mul_pos hm hl
 by_cases e : L = 0
 ·rw [e, Int.zero_mul] at c; omega
 ·omega
def SpV (K : Fg) (H : Hp) (v : V) (s : Nat × Nat × Nat) : Prop := ∃ p, v = .ref p /\ SqT K H p [.int s.1, .int s.2.1, .int s.2.2]
theorem SpV.mono {K : Fg} {H H' : Hp} {v : V} {s : Nat × Nat × Nat} (h : SpV K H v s) (t : Tst K H H') : SpV K H' v s := let ⟨p, e, q⟩ := h; ⟨p, e, t _ _ q⟩
def spM (os : List Wn) (i : Nat) : List (Nat × Nat × Nat) := (List.range i).filterMap fun j => (os.getD j none).map fun q => (q.1, q.2, j)
theorem spM_len (os : List Wn) (i : Nat) : (spM os i).length ≤ i := by
 have := List.length_filterMap_le (fun j => (os.getD j none).map fun q => (q.1, q.2, j)) (List.range i)
 rw [List.length_range] at this
 exact this
theorem spM_none {os : List Wn} {i : Nat} (h : os.getD i none = none) : spM os (i + 1) = spM os i := by
 unfold spM
 rw [List.range_succ, List.filterMap_append, List.filterMap_cons, h]
 simp
theorem spM_some {os : List Wn} {i : Nat} {q : Nat × Nat} (h : os.getD i none = some q) : spM os (i + 1) = spM os i ++ [(q.1, q.2, i)] := by
 unfold spM
 rw [List.range_succ, List.filterMap_append, List.filterMap_cons, h]
 simp
def holdS (p : Pl) (s : Nat × Nat × Nat) : Bool := decide (p.1 ≤ s.1) && decide (s.2.1 ≤ p.2)
theorem sp_held_eq (os : List Wn) (p : Pl) : ((spM os os.length).filter (holdS p)).map (fun s => s.2.2) = heldM os p := by
 unfold spM heldM
 generalize List.range os.length = l
 induction l with
 | nil => rfl
 | cons j l ih =>
  rw [List.filterMap_cons, List.filter_cons]
  cases e : os.getD j none with
  | none =>
   simp only [Option.map_none, holdB, Bool.false_eq_true, if_false]
   exact ih
  | some q =>
   simp only [Option.map_some, List.filter_cons]
   show (if holdS p (q.1, q.2, j) = true then _ else _ : List (Nat × Nat × Nat)).map _ = if holdB p.1 p.2 (some q) = true then _ else _
   have hb : holdS p (q.1, q.2, j) = holdB p.1 p.2 (some q) := rfl
   rw [hb]
   cases holdB p.1 p.2 (some q) with
   | true => simp only [if_true, List.map_cons]; rw [ih]
   | false => simp only [Bool.false_eq_true, if_false]; exact ih
def BestU (K : Fg) (H : Hp) (os : List Wn) (S : Pl -> Prop) (L : Pl -> Int) (pb : Addr) : Prop := ∃ (mn ln bg : Int) (lb : Addr), SqT K H pb [.int mn, .int ln, .int bg, .ref lb] /\ ((mn = 0 /\ ln = 1 /\ bg = 0 /\ ∀ r, S r -> L r = 0) ∨ ∃ q : Pl, 0 < L q /\ mn = L q /\ ln = lenP q /\ bg = (q.1 : Int) /\ SqL K H lb (natV (heldM os q)) /\ Bst S L q)
theorem BestU.mono {K : Fg} {H H' : Hp} {os : List Wn} {S S' : Pl -> Prop} {L : Pl -> Int} {pb : Addr} (h : BestU K H os S L pb) (s : Same H H') (e : ∀ r, S' r ↔ S r) : BestU K H' os S' L pb := by
 obtain ⟨mn, ln, bg, lb, hp, h⟩ := h
 refine ⟨mn, ln, bg, lb, Tst.same s _ _ hp, ?_⟩
 rcases h with ⟨a, b, c, d⟩ | ⟨q, a, b, c, d, f, g⟩
 ·exact .inl ⟨a, b, c, fun r hr => d r ((e r).mp hr)⟩
 ·exact .inr ⟨q, a, b, c, d, s.seq f, g.congr e⟩
def sp_law_tightest (K : Fg) : Sp := fun vs H Q _ => ∃ (v : V) (q : Addr) (ws : List Wk) (ls : List Nat), vs = [v, .ref q] /\ WksV K H v ws /\ ws.length ≤ 64 /\ (∀ w ∈ ws, WkOk w) /\ SqL K H q (natV ls) /\ ls.length ≤ 24 /\ (∀ H', Same H H' -> nvM ws ls = 0 -> Q .non H') /\ ∀ (x : V) (p : Pl) (H' : Hp), x ≠ .non -> Same H H' -> IsT ws ls p -> LyV K H' x (lyM ws ls p) -> Q x H'
mutual
def smD : PyData -> Bool
 | .int _ => true
 | .str _ => true
 | .bool _ => true
 | .none => true
 | .tuple ds => decide (ds.length ≤ 1000) && smAll ds
 | _ => false
def smAll : List PyData -> Bool
 | [] => true
 | d :: ds => smD d && smAll ds
end
theorem kq_NoneType_tuple : kitTT "NoneType" "tuple" = some false := by decide +kernel
theorem kq_NoneType_list : kitTT "NoneType" "list" = some false := by decide +kernel
theorem kq_bool_tuple : kitTT "bool" "tuple" = some false := by decide +kernel
theorem kq_bool_list : kitTT "bool" "list" = some false := by decide +kernel
theorem kq_bool_str : kitTT "bool" "str" = some false := by decide +kernel
theorem kq_bool_bool : kitTT "bool" "bool" = some true := by decide +kernel
theorem kq_int_tuple : kitTT "int" "tuple" = some false := by decide +kernel
theorem kq_int_list : kitTT "int" "list" = some false := by decide +kernel
theorem kq_int_str : kitTT "int" "str" = some false := by decide +kernel
theorem kq_int_bool : kitTT "int" "bool" = some false := by decide +kernel
theorem kq_int_int : kitTT "int" "int" = some true := by decide +kernel
theorem kq_str_tuple : kitTT "str" "tuple" = some false := by decide +kernel
theorem kq_str_list : kitTT "str" "list" = some false := by decide +kernel
theorem kq_str_str : kitTT "str" "str" = some true := by decide +kernel
def sp_al (k : Nat) (K : Fg) : Sp := fun vs H Q _ => ∃ (v w : V) (d : PyData), vs = [v, w] /\ Deep K H v d /\ Deep K H w d /\ d.depth ≤ k /\ smD d = true /\ ∀ H', Same H H' -> Q (.bl true) H'
abbrev sp_law_alike := sp_al 0
theorem sh_int {i : Int} (h : i.natAbs < 2 ^ 100) : Sh 0 2000 (.int i) := by
 refine ⟨?_, rfl, Nat.le_refl _, Nat.le_trans (len_of h (by decide)) (by decide)⟩
 show decide (i.natAbs.log2 < 1920) = true
 refine decide_eq_true ?_
 by_cases z : i.natAbs = 0
 ·rw [z]; decide
 ·exact Nat.lt_of_lt_of_le ((Nat.log2_lt z).mpr h) (by decide)
def dWk (w : Wk) : PyData := .tuple [.int w.1, .int w.2.1, dR w.2.2]
def dWks (ws : List Wk) : PyData := .tuple (ws.map dWk)
theorem WkV.deep {K : Fg} {H : Hp} {v : V} {w : Wk} (h : WkV K H v w) : Deep K H v (dWk w) := by
 obtain ⟨p, x, rfl, hS, rx⟩ := h
 exact .tup hS (.cons (.int _) (.cons (.int _) (.cons rx.deep .nil)))
theorem WksV.deep {K : Fg} {H : Hp} {v : V} {ws : List Wk} (h : WksV K H v ws) : Deep K H v (dWks ws) := by
 obtain ⟨p, xs, rfl, hS, al⟩ := h
 exact .tup hS (al.deep fun _ _ q => q.deep)
theorem nat_small {n : Nat} (h : n < 24) : ((n : Int)).natAbs < 2 ^ 100 := by
 have : (2 : Nat) ^ 100 = 1267650600228229401496703205376 := by decide
 omega
theorem sh_dWk {w : Wk} (h : WkOk w) : Sh 2 20000 (dWk w) := by
 have o := h.am
 have big : (2 : Nat) ^ 100 = 1267650600228229401496703205376 := by decide
 have l1 := h.le
 have l2 := h.lt
 have t1 := o.top
 have t2 := o.top'
 have b1 := o.bot
 have b2 := o.bot'
 refine Sh.tup (k := 1) (n := 6100) (m := 3) (fun d hd => ?_) (Nat.le_refl _) (by decide)
 simp only [List.mem_cons, List.not_mem_nil, or_false] at hd
 rcases hd with rfl | rfl | rfl
 ·exact (sh_int (nat_small (by omega))).mono (by decide) (by decide)
 ·exact (sh_int (nat_small (by omega))).mono (by decide) (by decide)
 ·refine Sh.tup (k := 0) (n := 2000) (m := 2) (fun d hd => ?_) (Nat.le_refl _) (by decide)
  simp only [List.mem_cons, List.not_mem_nil, or_false] at hd
  rcases hd with rfl | rfl
  ·exact sh_int (by omega)
  ·exact sh_int (by omega)
def dLy (y : List Nat × List Nat) : PyData := .tuple [natD y.1, natD y.2]
def wk0 : Wk := (0, 0, (0, 1))
def amsM (ws : List Wk) (y : List Nat × List Nat) : List R := y.2.map fun i => (ws.getD i wk0).2.2
def spdM (ws : List Wk) (y : List Nat × List Nat) : R := timesR (sumR (amsM ws y)) (1, (y.1.length : Int))
def setM (r : R) (ss : List R) (ts : List Nat) : List R := ts.foldl (fun s t => s.set t r) ss
def spsM (ws : List Wk) (lys : List (List Nat × List Nat)) : List R := lys.foldl (fun ss y => setM (spdM ws y) ss y.1) (List.replicate 24 (0, 1))
theorem ams_wf {ws : List Wk} {n : Nat} {y : List Nat × List Nat} (ok : ∀ w ∈ ws, WkOk w) (h : LyOk ws.length y) : ∀ r ∈ amsM ws y, Wf 4 r := by
 intro r hr
 obtain ⟨i, hi, rfl⟩ := List.mem_map.mp hr
 have hl := h.num i hi
 rw [getD_of wk0 (List.getElem?_eq_getElem hl)]
 exact (ok _ (List.getElem_mem hl)).am.wf
theorem nv_full {ws : List Wk} (ok : ∀ w ∈ ws, WkOk w) : nvM ws (List.range 24) = ws.length := by
 refine List.countP_eq_length.mpr fun w hw => win_some.mpr ⟨w.1, List.mem_range.mpr ?_, ?_⟩
 ·have := (ok w hw).le
  have := (ok w hw).lt
  omega
 ·unfold inW
  rw [decide_eq_true (Nat.le_refl _), decide_eq_true (ok w hw).le]
  rfl
theorem isT_sec {ws : List Wk} {ls : List Nat} {p : Pl} (h : IsT ws ls p) : Sec ls.length p := h.1.inn
def LysV (K : Fg) (H : Hp) (v : V) (lys : List (List Nat × List Nat)) : Prop := ∃ p xs, v = .ref p /\ SqT K H p xs /\ Als (LyV K H) xs lys
def sp_layers (K : Fg) : Sp := fun vs H Q _ => ∃ (v : V) (ws : List Wk), vs = [v] /\ WksV K H v ws /\ ws.length ≤ 64 /\ (∀ w ∈ ws, WkOk w) /\ ∀ (x : V) (lys : List (List Nat × List Nat)) (H' : Hp), Same H H' -> LysV K H' x lys -> Lys ws (List.range 24) lys -> (∀ y ∈ lys, LyOk ws.length y) -> lys.length ≤ 64 -> Q x H'
def sp_law_layers (K : Fg) : Sp := fun vs H Q _ => ∃ (v : V) (ws : List Wk), vs = [v] /\ WksV K H v ws /\ ws.length ≤ 64 /\ (∀ w ∈ ws, WkOk w) /\ ∀ (l : Addr) (xs : List V) (lys : List (List Nat × List Nat)) (H' : Hp), Same H H' -> H l = none -> H' l = some (.lst xs) -> Als (LyV K H') xs lys -> Lys ws (List.range 24) lys -> (∀ y ∈ lys, LyOk ws.length y) -> lys.length ≤ 64 -> Q (.ref l) H'
def sp_layer_density (K : Fg) : Sp := fun vs H Q _ => ∃ (v x : V) (ws : List Wk) (y : List Nat × List Nat), vs = [v, x] /\ WksV K H v ws /\ ws.length ≤ 64 /\ (∀ w ∈ ws, WkOk w) /\ LyV K H x y /\ LyOk ws.length y /\ toR K H Q (spdM ws y)
abbrev sp_law_pace := sp_layer_density
def sp_layer_speeds (K : Fg) : Sp := fun vs H Q _ => ∃ (v : V) (ws : List Wk), vs = [v] /\ WksV K H v ws /\ ws.length ≤ 64 /\ (∀ w ∈ ws, WkOk w) /\ ∀ (p : Addr) (xs : List V) (lys : List (List Nat × List Nat)) (H' : Hp), Same H H' -> SqT K H' p xs -> Als (RV K H') xs (spsM ws lys) -> Lys ws (List.range 24) lys -> Q (.ref p) H'
def sp_law_speeds (K : Fg) : Sp := fun vs H Q _ => ∃ (v : V) (ws : List Wk), vs = [v] /\ WksV K H v ws /\ ws.length ≤ 64 /\ (∀ w ∈ ws, WkOk w) /\ ∀ (l : Addr) (xs : List V) (lys : List (List Nat × List Nat)) (H' : Hp), Same H H' -> H' l = some (.lst xs) -> Als (RV K H') xs (spsM ws lys) -> Lys ws (List.range 24) lys -> Q (.ref l) H'
def sp_minus (K : Fg) : Sp := fun vs H Q _ => ∃ (v w : V) (r q : R) (n m : Nat), vs = [v, w] /\ RV K H v r /\ RV K H w q /\ Wf n r /\ Wf m q /\ n + m + 1 ≤ 3000 /\ toR K H Q (minusR r q)
def sp_is_less (K : Fg) : Sp := fun vs H Q _ => ∃ (v w : V) (r q : R) (n m : Nat), vs = [v, w] /\ RV K H v r /\ RV K H w q /\ Wf n r /\ Wf m q /\ n + m + 1 ≤ 3000 /\ Q (.bl (lessR r q)) H
abbrev sp_law_less := sp_is_less
theorem cop_neg' {a b : Int} (h : Int.gcd a b = 1) : Int.gcd (-a) b = 1 := by rw [Int.neg_gcd]; exact h
def sp_is_whole (K : Fg) : Sp := fun vs H Q _ => ∃ (v : V) (d : PyData), vs = [v] /\ Deep K H v d /\ Q (.bl (wholeD d)) H
theorem wholeD_int {d : PyData} (h : wholeD d = true) : ∃ i, d = .int i := by
 cases d with
 | int i => exact ⟨i, rfl⟩
 | _ => cases h
theorem del_same {H H' : Hp} {x : Addr} {o0 : HO} (hx : H x = none) (kp : ∀ b o, b ≠ x -> upd H x o0 b = some o -> H' b = some o) : Same H (del H' x) := fun b o e => by
 have nb : b ≠ x := ne_of_none e hx
 unfold del
 rw [if_neg nb]
 exact kp b o nb (by rw [upd_ne nb]; exact e)
theorem del_at {H : Hp} {x d : Addr} (n : d ≠ x) : del H x d = H d := by unfold del; rw [if_neg n]
def sp_copied (_ : Fg) : Sp := fun vs H Q _ => ∃ v : V, vs = [v] /\ ((∃ i, v = .int i) ∨ ∃ x, v = .str x) /\ Q v H
theorem add_dvd {D i n : Nat} {ps : List (Int × Int)} {r : R} (h : ∀ p ∈ ps, p.1 ∣ (D : Int)) (hr : r.2 ∣ (D : Int)) : ∀ p ∈ addP ps r.2 r.1, p.1 ∣ (D : Int) := fun p hp => by
 rcases (add_keys ps r.2 r.1 p.1).mp (List.mem_map.mpr ⟨p, hp, rfl⟩) with z | z
 ·obtain ⟨q, hq, e⟩ := List.mem_map.mp z
  rw [← e]
  exact h q hq
 ·rw [z]; exact hr
theorem grp_bq {D n i : Nat} {ps : List (Int × Int)} (ok : PsOk n i ps) (hd : ∀ p ∈ ps, p.1 ∣ (D : Int)) (hi : i ≤ 64) {q : Int × Int} (hq : q ∈ ps) : Bq D (64 * 2 ^ n) (mkR q.2 q.1) := by
 have b := (ok.bot q hq).1
 refine bq_mk b (hd q hq) (Nat.le_trans (ok.top q hq) ?_)
 refine Nat.le_trans (Nat.mul_le_mul_right _ hi) (Nat.le_mul_of_pos_right _ (by omega))
theorem acc_wf {D n j : Nat} {r : R} (h : Bq D (64 * 2 ^ n * j) r) (hj : j ≤ 64) (h0 : 0 < D) (hD : D < 2 ^ n) : Wf (2 * n + 12) r := by
 refine h.wf h0 (Nat.lt_of_lt_of_le hD (Nat.pow_le_pow_right (by decide) (by omega))) ?_
 have a : 64 * 2 ^ n * j ≤ 64 * 2 ^ n * 64 := Nat.mul_le_mul_left _ hj
 have b : 64 * 2 ^ n * j * D < 64 * 2 ^ n * 64 * 2 ^ n := Nat.lt_of_le_of_lt (Nat.mul_le_mul_right _ a) (Nat.mul_lt_mul_of_pos_left hD (Nat.mul_pos (Nat.mul_pos (by decide) (Nat.pow_pos (by decide))) (by decide)))
 refine Nat.lt_of_lt_of_le b ?_
 rw [show 2 * n + 12 = n + (n + 12) by omega, Nat.pow_add, Nat.pow_add, show (2 : Nat) ^ 12 = 4096 by decide]
 rw [show 64 * 2 ^ n * 64 * 2 ^ n = 2 ^ n * (2 ^ n * 4096) by rw [show (4096 : Nat) = 64 * 64 by decide]; ac_rfl]
 exact Nat.le_refl _
theorem am_bq {r : R} (h : AmOk r) : Bq 84 12 r := by
 have a := h.top
 have b := h.top'
 have c := h.bot
 refine ⟨by omega, h.wf.cop, h.dvd, ?_⟩
 have : 12 * 1 ≤ 12 * r.2.natAbs := Nat.mul_le_mul_left _ (by omega)
 omega
theorem sum_bq {D N : Nat} (hD : 0 < D) : ∀ {rs : List R}, (∀ r ∈ rs, Bq D N r) -> ∀ {a : R} {M : Nat}, Bq D M a -> Bq D (M + N * rs.length) (rs.foldl plusR a)
 | [], _, a, M, h => by simpa using h
 | r :: rs, hr, a, M, h => by
  have := sum_bq hD (fun q hq => hr q (List.mem_cons_of_mem _ hq)) (h.plus hD (hr r List.mem_cons_self))
  rw [List.foldl_cons, List.length_cons, Nat.mul_succ]
  refine this.mono (Nat.dvd_refl _) (by omega)
theorem bq_z {D : Nat} : Bq D 0 ((0, 1) : R) := ⟨by decide, by decide, ⟨(D : Int), by show (D : Int) = 1 * D; omega⟩, by show 0 ≤ _; exact Nat.zero_le _⟩
theorem sumR_bq {D N : Nat} (hD : 0 < D) {rs : List R} (h : ∀ r ∈ rs, Bq D N r) : Bq D (N * rs.length) (sumR rs) := by
 have := sum_bq hD h (bq_z (D := D))
 rw [Nat.zero_add] at this
 exact this
theorem rate_bq {ws : List Wk} {y : Ly} (ok : ∀ w ∈ ws, WkOk w) (hw : ws.length ≤ 9) (lok : LyOk ws.length y) : Bq (84 * y.1.length) 108 (spdM ws y) := by
 have am : ∀ r ∈ amsM ws y, Bq 84 12 r := fun r hr => by
  obtain ⟨i, hi, rfl⟩ := List.mem_map.mp hr
  have hl := lok.num i hi
  rw [getD_of wk0 (List.getElem?_eq_getElem hl)]
  exact am_bq (ok _ (List.getElem_mem hl)).am
 have la : (amsM ws y).length = y.2.length := List.length_map _
 have len := lok.len
 have pos := lok.pos
 have s := (sumR_bq (by decide) am).mono (Nat.dvd_refl _) (show 12 * (amsM ws y).length ≤ 108 by omega)
 have o : Bq y.1.length 1 ((1, (y.1.length : Int)) : R) := ⟨by show (0 : Int) < _; omega, by simp, Int.dvd_refl _, by show (1 : Int).natAbs ≤ 1 * ((y.1.length : Int)).natAbs; omega⟩
 exact s.times o
theorem int_bq {i : Int} {n : Nat} (h : i.natAbs ≤ n) : Bq 1 n ((i, 1) : R) := ⟨by show (0 : Int) < 1; decide, by show Int.gcd i 1 = 1; simp, ⟨1, by show ((1 : Nat) : Int) = 1 * 1; decide⟩, by show i.natAbs ≤ n * 1; omega⟩
theorem call_isiDK {X : Cx} {K : Fg} (hK : X.K = K) : CallR X (.builtin "isinstance") (rIsiD K) := hK ▸ call_isiD
theorem all_getD {f : PyData -> Bool} (ds : List PyData) : ((List.range ds.length).map fun i => f (ds.getD i .none)).all id = ds.all f := by
 rw [Bool.eq_iff_iff, List.all_eq_true, List.all_eq_true]
 constructor
 ·intro h d hd
  obtain ⟨i, hi, e⟩ := List.mem_iff_getElem.mp hd
  have := h (f (ds.getD i .none)) (List.mem_map.mpr ⟨i, List.mem_range.mpr hi, rfl⟩)
  rw [getD_of PyData.none (List.getElem?_eq_getElem hi), e] at this
  exact this
 ·intro h b hb
  obtain ⟨i, hi, rfl⟩ := List.mem_map.mp hb
  have hi' := List.mem_range.mp hi
  rw [getD_of PyData.none (List.getElem?_eq_getElem hi')]
  exact h _ (List.getElem_mem hi')
theorem from_mem {a n m : Nat} (h : m ∈ frmTo a n) : a ≤ m /\ m < a + n := by
 unfold frmTo at h
 obtain ⟨i, hi, rfl⟩ := List.mem_map.mp h
 have := List.mem_range.mp hi
 omega
theorem rise_uniq : ∀ {a b : List Nat}, a.Pairwise (· < ·) -> b.Pairwise (· < ·) -> (∀ n, n ∈ a ↔ n ∈ b) -> a = b
 | [], [], _, _, _ => rfl
 | [], y :: b, _, _, h => by have := (h y).mpr List.mem_cons_self; cases this
 | x :: a, [], _, _, h => by have := (h x).mp List.mem_cons_self; cases this
 | x :: a, y :: b, ha, hb, h => by
  obtain ⟨ax, ha'⟩ := List.pairwise_cons.mp ha
  obtain ⟨bx, hb'⟩ := List.pairwise_cons.mp hb
  have e : x = y := by
   rcases List.mem_cons.mp ((h x).mp List.mem_cons_self) with q | q
   ·exact q
   ·rcases List.mem_cons.mp ((h y).mpr List.mem_cons_self) with r | r
    ·exact r.symm
    ·have h1 := bx x q
     have h2 := ax y r
     omega
  subst e
  rw [rise_uniq ha' hb' fun n => ?_]
  constructor
  ·intro q
   rcases List.mem_cons.mp ((h n).mp (List.mem_cons_of_mem _ q)) with r | r
   ·have := ax n q; omega
   ·exact r
  ·intro q
   rcases List.mem_cons.mp ((h n).mpr (List.mem_cons_of_mem _ q)) with r | r
   ·have := bx n q; omega
   ·exact r
def natL (ls : List Nat) : PyData := .list (ls.map fun n : Nat => PyData.int n)
theorem eqv_natL : ∀ {a b : List Nat}, PyData.eqv (natL a) (natL b) = decide (a = b)
 | [], [] => rfl
 | [], _ :: _ => rfl
 | _ :: _, [] => rfl
 | x :: a, y :: b => by
  have ih : PyData.eqvAll (a.map fun n : Nat => PyData.int n) (b.map fun n : Nat => PyData.int n) = decide (a = b) := eqv_natL (a := a) (b := b)
  show (((x : Nat) : Int) == ((y : Nat) : Int) && PyData.eqvAll (a.map fun n : Nat => PyData.int n) (b.map fun n : Nat => PyData.int n)) = _
  rw [ih]
  by_cases e : x = y
  ·subst e; simp
  ·have e' : ¬ ((x : Nat) : Int) = ((y : Nat) : Int) := by omega
   simp [e, e']
theorem deep_natL {K : Fg} {H : Hp} {p : Addr} {ls : List Nat} (h : SqL K H p (natV ls)) : Deep K H (.ref p) (natL ls) := by
 refine .lst h ?_
 clear h
 unfold natV
 induction ls with
 | nil => exact .nil
 | cons x r ih => exact .cons (.int _) ih
theorem natL_lay (ls : List Nat) : (natL ls).canLay0 = true /\ (natL ls).depth ≤ 32 := by
 unfold natL
 constructor
 ·induction ls with
  | nil => rfl
  | cons x r ih => exact ih
 ·refine Nat.le_trans (m := 1) ?_ (by decide)
  induction ls with
  | nil => decide
  | cons x r ih => simpa [PyData.depth, PyData.depthAll] using ih
def hid (H : Hp) (t D : Addr) : Hp := del (del H t) D
theorem hd_same {t D : Addr} {H H' : Hp} (s : Same H H') : Same (hid H t D) (hid H' t D) := dl_same (dl_same s)
theorem hd_step {t D : Addr} {H H' : Hp} (S : Step t H H') : Same (hid H t D) (hid H' t D) := dl_same (dl_step S)
theorem hd_full {t D : Addr} {H : Hp} : Same (hid H t D) H := dl_full.trans dl_full
theorem hd_new {t D p : Addr} {H : Hp} {o : HO} (g : H p = none) (h : ∃ xs, H t = some (.lst xs)) (h2 : ∃ ys, H D = some (.lst ys)) : hid (upd H p o) t D p = some o := by
 unfold hid
 rw [del_at (show p ≠ D from fun z => by subst z; obtain ⟨_, q⟩ := h2; rw [g] at q; cases q)]
 exact dl_new g h
theorem nwO {t D p : Addr} {H : Hp} {o : HO} (g : H p = none) (h : ∃ xs, H t = some (.lst xs)) (h2 : ∃ ys, H D = some (.lst ys)) : Same H (upd H p o) /\ upd H p o p = some o /\ hid (upd H p o) t D p = some o := ⟨same_new g o, upd_same, hd_new g h h2⟩
theorem nwN {t p : Addr} {H : Hp} (g : H p = none) (h : ∃ xs, H t = some (.lst xs)) : p ≠ t := fun z => by subst z; obtain ⟨_, q⟩ := h; rw [g] at q; cases q
theorem tS {K : Fg} {H H' : Hp} (e : Same H H') {p : Addr} {xs : List V} (h : SqT K H p xs) : SqT K H' p xs := Tst.same e _ _ h
theorem tP {K : Fg} {t : Addr} {H H' : Hp} (e : Step t H H') {p : Addr} {xs : List V} (h : SqT K H p xs) : SqT K H' p xs := Tst.step e _ _ h
theorem dS {K : Fg} {t D : Addr} {H H' : Hp} (e : Same H H') {v : V} {d : PyData} (h : Deep K (hid H t D) v d) : Deep K (hid H' t D) v d := h.same (hd_same e)
theorem aS {K : Fg} {t D : Addr} {H H' : Hp} (e : Same H H') {v : List V} {d : List PyData} (h : DeepAll K (hid H t D) v d) : DeepAll K (hid H' t D) v d := DeepAll.same (hd_same e) h
theorem dpT {K : Fg} {H : Hp} {p : Addr} {xs : List V} {ds : List PyData} (h : H p = some (.tup xs)) (a : DeepAll K H xs ds) : Deep K H (.ref p) (.tuple ds) := .tup (SqT.of h) a
theorem dpL {K : Fg} {H : Hp} {p : Addr} {xs : List V} {ds : List PyData} (h : H p = some (.lst xs)) (a : DeepAll K H xs ds) : Deep K H (.ref p) (.list ds) := .lst (SqL.of h) a
theorem gW {k n k' n' : Nat} {d : PyData} (h : Gd k n d) (hk : k ≤ k' := by decide) (hn : n ≤ n' := by decide) : Gd k' n' d := h.mono hk hn
theorem gN {k n : Nat} : ∀ d ∈ ([] : List PyData), Gd k n d := fun d hd => by cases hd
theorem gC {k n : Nat} {e : PyData} {ds : List PyData} (h : Gd k n e) (t : ∀ d ∈ ds, Gd k n d) : ∀ d ∈ e :: ds, Gd k n d := fun d hd => (List.mem_cons.mp hd).elim (fun z => z ▸ h) (t d)
theorem gTu {k n : Nat} {ds : List PyData} (m N : Nat) (h : ∀ d ∈ ds, Gd k n d) (hm : ds.length ≤ m := by exact Nat.le_refl _) (hN : (n + 3) * m + 8 ≤ N := by decide) : Gd (k + 1) N (.tuple ds) := Gd.tup (m := m) h hm hN
theorem gLs {k n : Nat} {ds : List PyData} (m N : Nat) (h : ∀ d ∈ ds, Gd k n d) (hm : ds.length ≤ m := by exact Nat.le_refl _) (hN : (n + 3) * m + 8 ≤ N := by decide) : Gd (k + 1) N (.list ds) := Gd.lst (m := m) h hm hN
theorem nwE {t D p : Addr} {H H' : Hp} {o : HO} (e : upd H p o = H') (g : H p = none) (h : ∃ xs, H t = some (.lst xs)) (h2 : ∃ ys, H D = some (.lst ys)) : Same H H' /\ H' p = some o /\ hid H' t D p = some o := e ▸ nwO g h h2
theorem cr3 {K : Fg} {t s D : Addr} {H0 H H' : Hp} (e : Same H H') (S : Step t H0 H) (T : Tape3 K H t s) (h : ∃ ys, H D = some (.lst ys)) : Step t H0 H' /\ Tape3 K H' t s /\ ∃ ys, H' D = some (.lst ys) := ⟨S.trans (.same e T.lst), T.same e, h.imp fun _ q => e _ _ q⟩
theorem hd_tt {K : Fg} {t : Addr} {H : Hp} (h : ∃ xs, H t = some (.lst xs)) : Tst K H (hid H t t) := by
 have e : hid H t t = del H t := by
  funext b
  unfold hid del
  by_cases z : b = t
  ·rw [if_pos z, if_pos z]
  ·rw [if_neg z]
 rw [e]
 exact dl_tst h
def numD : PyData -> Bool
 | .int i => decide (0 ≤ i) && decide (i < 24)
 | _ => false
def natOf : PyData -> Nat
 | .int i => i.toNat
 | _ => 0
def risN (ls : List Nat) : Bool := (List.range (ls.length - 1)).all fun i => decide (ls.getD i 0 < ls.getD (i + 1) 0)
def itD : PyData -> List PyData
 | .tuple ds => ds
 | _ => []
def rsD : PyData -> Bool
 | .tuple ds => ds.all numD && risN (ds.map natOf)
 | _ => false
theorem nums_of : ∀ {ds : List PyData}, ds.all numD = true -> ∃ ls : List Nat, ds = ls.map (fun n : Nat => PyData.int n) /\ ∀ n ∈ ls, n < 24
 | [], _ => ⟨[], rfl, fun n hn => by cases hn⟩
 | d :: ds, h => by
  rw [List.all_cons, Bool.and_eq_true] at h
  obtain ⟨ls, e, hl⟩ := nums_of h.2
  cases d with
  | int i =>
   have h1 : (decide (0 ≤ i) && decide (i < 24)) = true := h.1
   rw [Bool.and_eq_true, decide_eq_true_iff, decide_eq_true_iff] at h1
   refine ⟨i.toNat :: ls, ?_, fun n hn => ?_⟩
   ·rw [List.map_cons, ← e]
    show _ = PyData.int ((i.toNat : Nat) : Int) :: ds
    rw [Int.toNat_of_nonneg h1.1]
   ·rcases List.mem_cons.mp hn with z | z
    ·omega
    ·exact hl n z
  | _ => cases h.1
theorem nats_of {ls : List Nat} : (ls.map (fun n : Nat => PyData.int n)).map natOf = ls := by
 rw [List.map_map]
 exact (List.map_congr_left fun n _ => by show ((n : Int)).toNat = n; omega).trans (List.map_id _)
theorem deep_nats {K : Fg} {H : Hp} : ∀ {ls : List Nat} {xs : List V}, DeepAll K H xs (ls.map fun n : Nat => PyData.int n) -> xs = natV ls
 | [], _, .nil => rfl
 | n :: ls, _, .cons h t => by
  cases h
  rw [deep_nats t]
  rfl
theorem risN_iff {ls : List Nat} : risN ls = true ↔ ls.Pairwise (· < ·) := by
 unfold risN
 rw [List.all_eq_true]
 constructor
 ·intro h
  induction ls with
  | nil => exact .nil
  | cons x r ih =>
   have ih' : r.Pairwise (· < ·) := ih fun i hi => by
    have hi' := List.mem_range.mp hi
    have := h (i + 1) (List.mem_range.mpr (by rw [List.length_cons]; omega))
    simpa using this
   cases r with
   | nil => exact List.pairwise_singleton _ _
   | cons y r =>
    have h0 := of_decide_eq_true (h 0 (List.mem_range.mpr (by simp)))
    have h0' : x < y := h0
    refine List.pairwise_cons.mpr ⟨fun z hz => ?_, ih'⟩
    rcases List.mem_cons.mp hz with e | e
    ·omega
    ·have := (List.pairwise_cons.mp ih').1 z e
     omega
 ·intro h i hi
  have hi' := List.mem_range.mp hi
  refine decide_eq_true ?_
  have e1 : ls[i]? = some (ls[i]'(by omega)) := List.getElem?_eq_getElem _
  have e2 : ls[i + 1]? = some (ls[i + 1]'(by omega)) := List.getElem?_eq_getElem _
  rw [getD_of 0 e1, getD_of 0 e2]
  exact List.pairwise_iff_getElem.mp h i (i + 1) (by omega) (by omega) (Nat.lt_succ_self i)
theorem rs_tup {K : Fg} {H : Hp} {v : V} {d : PyData} (h : Deep K H v d) (r : rsD d = true) : ∃ p ls, v = .ref p /\ d = natD ls /\ SqT K H p (natV ls) /\ ls.Pairwise (· < ·) /\ ∀ n ∈ ls, n < 24 := by
 cases h with
 | tup e t =>
  have r' := r
  unfold rsD at r'
  rw [Bool.and_eq_true] at r'
  obtain ⟨ls, rfl, hl⟩ := nums_of r'.1
  rw [nats_of] at r'
  cases deep_nats t
  exact ⟨_, ls, rfl, rfl, e, risN_iff.mp r'.2, hl⟩
 | _ => cases r
theorem turns_of (ls : List Nat) : (itD (natD ls)).map natOf = ls := nats_of
def outM (ls : List Nat) (w : Wk) : Nat := ((List.range (w.2.1 + 1 - w.1)).filter fun i => !ls.contains (w.1 + i)).length
def restW (tp : R) (ls : List Nat) (w : Wk) : R := minusR w.2.2 (timesR tp ((outM ls w : Int), 1))
def bndW (tp : R) (ls : List Nat) (w : Wk) : R := if 0 < (restW tp ls w).1 then restW tp ls w else (0, 1)
def wantM (ws : List Wk) (tp : R) (ls : List Nat) : R := sumR (ws.map (bndW tp ls))
def roomR (hn : Nat) (tp : R) (ls : List Nat) : R := timesR tp (((hn * ls.length : Nat) : Int), 1)
def wordM (ws : List Wk) (hn : Nat) (tp : R) (d : PyData) : Option Str := if rsD d = true then (if lessR (roomR hn tp ((itD d).map natOf)) (wantM ws tp ((itD d).map natOf)) = true then none else some "room") else some "shape"
abbrev TpOk (tp : R) : Prop := Bq 404779703328000 108 tp
theorem out_le {ls : List Nat} {w : Wk} (h : w.2.1 < 24) : outM ls w ≤ 24 := by
 unfold outM
 refine Nat.le_trans (List.length_filter_le _ _) ?_
 rw [List.length_range]
 omega
theorem rest_bq {tp : R} {ls : List Nat} {w : Wk} (ht : TpOk tp) (ok : WkOk w) : Bq 404779703328000 2604 (restW tp ls w) := by
 have a : Bq 404779703328000 12 w.2.2 := (am_bq ok.am).mono ⟨4818805992000, by decide⟩ (by decide)
 have o := out_le (ls := ls) ok.lt
 have b : Bq 404779703328000 2592 (timesR tp ((outM ls w : Int), 1)) := (ht.times (int_bq (i := (outM ls w : Int)) (n := 24) (by omega))).mono ⟨1, by decide⟩ (by decide)
 exact Bq.minus (by decide) a b
theorem bnd_bq {tp : R} {ls : List Nat} {w : Wk} (ht : TpOk tp) (ok : WkOk w) : Bq 404779703328000 2604 (bndW tp ls w) := by
 unfold bndW
 split
 ·exact rest_bq ht ok
 ·exact bq_z.mono (Nat.dvd_refl _) (by decide)
theorem room_bq {tp : R} {ls : List Nat} {hn : Nat} (ht : TpOk tp) (h9 : hn ≤ 9) (hl : ls.length ≤ 24) : Bq 404779703328000 23328 (roomR hn tp ls) := by
 have : hn * ls.length ≤ 9 * 24 := Nat.mul_le_mul h9 hl
 exact (ht.times (int_bq (i := ((hn * ls.length : Nat) : Int)) (n := 216) (by omega))).mono ⟨1, by decide⟩ (by decide)
theorem want_bq {ws : List Wk} {tp : R} {ls : List Nat} (ht : TpOk tp) (ok : ∀ w ∈ ws, WkOk w) (h9 : ws.length ≤ 9) : Bq 404779703328000 23436 (wantM ws tp ls) := by
 have : Bq 404779703328000 (2604 * (ws.map (bndW tp ls)).length) (wantM ws tp ls) := sumR_bq (by decide) fun r hr => by
  obtain ⟨w, hw, rfl⟩ := List.mem_map.mp hr
  exact bnd_bq ht (ok w hw)
 rw [List.length_map] at this
 exact this.mono (Nat.dvd_refl _) (by omega)
theorem bd_wf {r : R} {N : Nat} (h : Bq 404779703328000 N r) (hN : N ≤ 30000) : Wf 70 r := (h.mono (Nat.dvd_refl _) hN).wf (by decide) (by decide) (by decide)
theorem zero_is {r : R} (h : Red r) (z : r.1 = 0) : r = (0, 1) := by
 refine val_inj h ⟨by decide, by decide⟩ ?_
 rw [(val_zero h.pos).mpr z]
 exact ((val_zero (r := (0, 1)) (by decide)).mpr rfl).symm
theorem bnd_neg {tp : R} {ls : List Nat} {w : Wk} (h : lessR (restW tp ls w) (0, 1) = true) : bndW tp ls w = (0, 1) := by
 have h' : (restW tp ls w).1 * 1 < 0 * (restW tp ls w).2 := of_decide_eq_true h
 unfold bndW
 rw [if_neg (by omega)]
theorem bnd_pos {tp : R} {ls : List Nat} {w : Wk} (hr : Red (restW tp ls w)) (h : lessR (restW tp ls w) (0, 1) = false) : bndW tp ls w = restW tp ls w := by
 have h' : ¬ (restW tp ls w).1 * 1 < 0 * (restW tp ls w).2 := of_decide_eq_false h
 unfold bndW
 split
 ·rfl
 ·rename_i c
  exact (zero_is hr (by omega)).symm
theorem times_comm {a b : R} : timesR a b = timesR b a := by
 unfold timesR
 rw [Int.mul_comm a.1, Int.mul_comm a.2]
theorem val_negR {a b : Int} : val ((-a, b) : R) = - val ((a, b) : R) := by
 show ((-a : Int) : Rat) / (b : Rat) = - ((a : Rat) / (b : Rat))
 rw [Rat.intCast_neg]
 generalize (a : Rat) = x
 generalize (b : Rat) = y
 grind
theorem rest_is {tp : R} {ls : List Nat} {w : Wk} (ht : 0 < tp.2) (hw : 0 < w.2.2.2) : plusR w.2.2 (timesR (-(outM ls w : Int), 1) tp) = restW tp ls w := by
 have e : timesR (-(outM ls w : Int), 1) tp = (-(timesR tp ((outM ls w : Int), 1)).1, (timesR tp ((outM ls w : Int), 1)).2) := by
  have r1 : Red (timesR (-(outM ls w : Int), 1) tp) := mkR_red (Int.mul_pos (by show (0 : Int) < 1; decide) ht)
  have r2 : Red (timesR tp ((outM ls w : Int), 1)) := mkR_red (Int.mul_pos ht (by show (0 : Int) < 1; decide))
  refine val_inj r1 ⟨r2.pos, cop_neg' r2.cop⟩ ?_
  rw [val_times (by show (0 : Int) < 1; decide) ht]
  have n2 : val (-(timesR tp ((outM ls w : Int), 1)).1, (timesR tp ((outM ls w : Int), 1)).2) = - val (timesR tp ((outM ls w : Int), 1)) := val_negR
  rw [n2, val_times ht (by show (0 : Int) < 1; decide)]
  have n3 : val ((-(outM ls w : Int), 1) : R) = - val (((outM ls w : Int), 1) : R) := val_negR
  rw [n3]
  grind
 rw [e, minus_eq]
 rfl
theorem want_take {ws : List Wk} {tp : R} {ls : List Nat} {i : Nat} {w : Wk} (h : ws[i]? = some w) : wantM (ws.take (i + 1)) tp ls = plusR (wantM (ws.take i) tp ls) (bndW tp ls w) := by
 unfold wantM
 rw [List.take_add_one, h, List.map_append]
 unfold sumR
 rw [List.foldl_append]
 rfl
theorem plus_zero {r : R} (h : Red r) : plusR r (0, 1) = r := by
 refine val_inj (mkR_red (Int.mul_pos h.pos (by decide))) h ?_
 rw [val_plus h.pos (by decide), (val_zero (r := (0, 1)) (by decide)).mpr rfl]
 grind
theorem ones_of {ls : List Nat} {ms : List Int} (h1 : ∀ n ∈ ls, n < 24) (hp : ms.Perm (oneEach (ls.map fun n : Nat => (n : Int)))) (hs : ms.Pairwise (· ≤ ·)) :
  ∃ zs : List Nat, ms.map V.int = natV zs /\ zs.Pairwise (· < ·) /\ ∀ n, n ∈ zs ↔ n ∈ ls := by
 have mem : ∀ m, m ∈ ms ↔ ∃ n ∈ ls, (n : Int) = m := fun m => by
  rw [hp.mem_iff, mem_oneEach, List.mem_map]
 have pos : ∀ m ∈ ms, 0 ≤ m := fun m hm => by
  obtain ⟨n, _, rfl⟩ := (mem m).mp hm
  omega
 have nd : ms.Nodup := hp.nodup_iff.mpr (oneEach_nodup _)
 refine ⟨ms.map Int.toNat, ?_, ?_, fun n => ?_⟩
 ·unfold natV
  rw [List.map_map]
  refine List.map_congr_left fun m hm => ?_
  show V.int m = V.int (m.toNat : Int)
  rw [Int.toNat_of_nonneg (pos m hm)]
 ·rw [List.pairwise_map]
  refine (hs.and nd).imp_of_mem fun ha hb h => ?_
  have := pos _ ha
  have := pos _ hb
  obtain ⟨h1, h2⟩ := h
  omega
 ·rw [List.mem_map]
  constructor
  ·rintro ⟨m, hm, rfl⟩
   obtain ⟨n, hn, rfl⟩ := (mem m).mp hm
   rw [Int.toNat_natCast]
   exact hn
  ·intro hn
   exact ⟨(n : Int), (mem _).mpr ⟨n, hn, rfl⟩, Int.toNat_natCast n⟩
theorem sh_three {ws : List Wk} {tp : R} {d : PyData} (hw : ∀ w ∈ ws, WkOk w) (lw : ws.length ≤ 9) (ht : TpOk tp) (g : Gd 2 130000 d) : Shows (.tuple [dWks ws, dR tp, d]) := by
 refine Sh.shows (k := 4) (n := 600017) (Sh.tup (k := 3) (n := 190000) (m := 3) (fun e he => ?_) (Nat.le_refl _) (by decide)) (by decide) (by decide)
 simp only [List.mem_cons, List.not_mem_nil, or_false] at he
 rcases he with rfl | rfl | rfl
 ·refine (Sh.tup (k := 2) (n := 20000) (m := 9) (N := 190000) (fun d hd => ?_) (by rw [List.length_map]; exact lw) (by decide)).mono (by decide) (by decide)
  obtain ⟨w, hw', rfl⟩ := List.mem_map.mp hd
  exact sh_dWk (hw w hw')
 ·exact (gd_dR ((bd_wf ht (by decide)).mono (by decide))).sh.mono (by decide) (by decide)
 ·exact g.sh.mono (by decide) (by decide)
def sp_is_number_of (K : Fg) : Sp := fun vs H Q _ => ∃ (v : V) (d : PyData), vs = [v, .int 24] /\ Deep K H v d /\ Q (.bl (numD d)) H
def sp_is_rising (K : Fg) : Sp := fun vs H Q _ => ∃ (v : V) (d : PyData), vs = [v, .int 24] /\ Deep K H v d /\ (itD d).length ≤ 24 /\ ∀ H', Same H H' -> Q (.bl (rsD d)) H'
def sp_bound_amount (K : Fg) : Sp := fun vs H Q _ => ∃ (v u : V) (q : Addr) (w : Wk) (tp : R) (ls : List Nat), vs = [v, u, .ref q] /\ WkV K H v w /\ WkOk w /\ RV K H u tp /\ TpOk tp /\ SqT K H q (natV ls) /\ toR K H Q (bndW tp ls w)
def sp_NoMuch (_ : Fg) (C : Addr) : Sp := fun vs H Q _ => ∃ (a : Addr) (z : Str), vs = [.ref a, .str z] /\ H a = some (exO a C none) /\ ∀ (d : Addr) (H' : Hp), H d = none -> d ≠ a -> (∀ b o, b ≠ a -> H b = some o -> H' b = some o) -> H' a = some (exO a C (some d)) -> H' d = some (dO d [("word", .str z)]) -> Q .non H'
structure Ask (K : Fg) (H : Hp) (v u c : V) (ws : List Wk) (hn : Nat) (tp : R) (d : PyData) : Prop where
 wv : WksV K H v ws
 w9 : ws.length ≤ 9
 ok : ∀ w ∈ ws, WkOk w
 h9 : hn ≤ 9
 rv : RV K H u tp
 tp : TpOk tp
 dp : Deep K H c d
 d24 : (itD d).length ≤ 24
theorem Ask.same {K : Fg} {H H' : Hp} {v u c : V} {ws : List Wk} {hn : Nat} {tp : R} {d : PyData} (h : Ask K H v u c ws hn tp d) (s : Same H H') : Ask K H' v u c ws hn tp d := ⟨h.wv.mono (Tst.same s), h.w9, h.ok, h.h9, h.rv.mono (Tst.same s), h.tp, h.dp.same s, h.d24⟩
def sp_lets_much (K : Fg) (C : Addr) : Sp := fun vs H Q E => ∃ (v u c : V) (ws : List Wk) (hn : Nat) (tp : R) (d : PyData), vs = [v, .int hn, u, c] /\ Ask K H v u c ws hn tp d /\ (wordM ws hn tp d = none -> ∀ H', Same H H' -> Q (.bl true) H') ∧
 (∀ z, wordM ws hn tp d = some z -> ∀ (dd : Addr) (H' : Hp), Same H H' -> H' dd = some (dO dd [("word", .str z)]) -> E (.ref C) (some dd) H')
def optS : Option Str -> V
 | none => .non
 | some z => .str z
def sp_law_word (K : Fg) : Sp := fun vs H Q _ => ∃ (v u c : V) (ws : List Wk) (hn : Nat) (tp : R) (d : PyData), vs = [v, .int hn, u, c] /\ Ask K H v u c ws hn tp d /\ ∀ H', Same H H' -> Q (optS (wordM ws hn tp d)) H'
def sp_law_marks (K : Fg) (C : Addr) : Sp := fun vs H Q _ => ∃ (x dd : Addr) (fs : List (Str × V)), vs = [.ref x] /\ H x = some (erO x C dd) /\ H dd = some (dO dd fs) /\ ∀ (l : Addr) (H' : Hp), Same H H' -> H' l = some (.lst [.bl true, .bl true, .bl true, .bl false]) -> Q (.ref l) H'
def TrV (K : Fg) (C : Addr) (H : Hp) (u : V) : Option Str -> Prop
 | none => ∃ p l, u = .ref p /\ SqT K H p [.bl true, .ref l] /\ H l = some (.lst [])
 | some z => ∃ p l x dd, u = .ref p /\ SqT K H p [.ref x, .ref l] /\ H x = some (erO x C dd) /\ H dd = some (dO dd [("word", .str z)]) /\ H l = some (.lst [.bl true, .bl true, .bl true, .bl false])
def sp_law_tried (K : Fg) (C : Addr) : Sp := fun vs H Q _ => ∃ (v u c : V) (ws : List Wk) (hn : Nat) (tp : R) (d : PyData), vs = [v, .int hn, u, c] /\ Ask K H v u c ws hn tp d /\ ∀ (x : V) (H' : Hp), Same H H' -> TrV K C H' x (wordM ws hn tp d) -> Q x H'
def sp_law_right (K : Fg) : Sp := fun vs H Q _ => ∃ (v u c : V) (ws : List Wk) (hn : Nat) (tp : R) (d : PyData), vs = [v, .int hn, u, c] /\ Ask K H v u c ws hn tp d /\ Gd 2 130000 d /\ ∀ H', Same H H' -> Q (.bl true) H'
def sp_law (K : Fg) : Sp := fun vs H Q _ => ∃ (a : Addr) (ns : List Int), vs = [.ref a] /\ SqL K H a (ns.map V.int) /\ ns.length ≤ 63 /\ ∀ H', Q (.bl true) H'
def TuV (K : Fg) (H : Hp) (v : V) (ls : List Nat) : Prop := ∃ q, v = .ref q /\ SqT K H q (natV ls)
theorem TuV.mono {K : Fg} {H H' : Hp} {v : V} {ls : List Nat} (h : TuV K H v ls) (t : Tst K H H') : TuV K H' v ls := let ⟨q, e, s⟩ := h; ⟨q, e, t _ _ s⟩
instance : MonoP TuV := ⟨fun t q => q.mono t⟩
theorem TuV.deep {K : Fg} {H : Hp} {v : V} {ls : List Nat} (h : TuV K H v ls) : Deep K H v (natD ls) := by
 obtain ⟨q, rfl, s⟩ := h
 exact deep_nat s
def TuOk (ls : List Nat) : Prop := ls.length ≤ 24 /\ ∀ n ∈ ls, n < 24
theorem tuC {x : List Nat} {l : List (List Nat)} (h : TuOk x) (t : ∀ y ∈ l, TuOk y) : ∀ y ∈ x :: l, TuOk y := fun y hy => (List.mem_cons.mp hy).elim (fun z => z ▸ h) (t y)
theorem tuN : ∀ y ∈ ([] : List (List Nat)), TuOk y := fun y hy => by cases hy
theorem tuA {l m : List (List Nat)} (h : ∀ y ∈ l, TuOk y) (t : ∀ y ∈ m, TuOk y) : ∀ y ∈ l ++ m, TuOk y := fun y hy => (List.mem_append.mp hy).elim (h y) (t y)
theorem tu_frm {a n : Nat} (h : a + n ≤ 24) : TuOk (frmTo a n) := ⟨by unfold frmTo; rw [List.length_map, List.length_range]; omega, fun m hm => by have := from_mem hm; omega⟩
theorem natU {n : Nat} : natV (List.range n) = (B.upTo n).map V.int := by unfold natV B.upTo; rw [List.map_map]; rfl
theorem gd_nat {ls : List Nat} (h : TuOk ls) : Gd 1 120080 (natD ls) := Gd.tup (k := 0) (n := 5000) (m := 24) (fun d hd => by
 obtain ⟨n, hn, rfl⟩ := List.mem_map.mp hd
 exact gd_int (by have := h.2 n hn; omega)) (by rw [List.length_map]; exact h.1) (by decide)
theorem gd_nats {l : List (List Nat)} (h : ∀ y ∈ l, TuOk y) : ∀ d ∈ l.map natD, Gd 1 120080 d := fun d hd => by
 obtain ⟨y, hy, rfl⟩ := List.mem_map.mp hd
 exact gd_nat (h y hy)
theorem i24C {e : PyData} {ds : List PyData} (h : (itD e).length ≤ 24) (t : ∀ d ∈ ds, (itD d).length ≤ 24) : ∀ d ∈ e :: ds, (itD d).length ≤ 24 := fun d hd => (List.mem_cons.mp hd).elim (fun z => z ▸ h) (t d)
theorem i24N : ∀ d ∈ ([] : List PyData), (itD d).length ≤ 24 := fun d hd => by cases hd
theorem i24A {xs ds : List PyData} (h : ∀ d ∈ xs, (itD d).length ≤ 24) (t : ∀ d ∈ ds, (itD d).length ≤ 24) : ∀ d ∈ xs ++ ds, (itD d).length ≤ 24 := fun d hd => (List.mem_append.mp hd).elim (h d) (t d)
theorem i24T {l : List (List Nat)} (h : ∀ y ∈ l, TuOk y) : ∀ d ∈ l.map natD, (itD d).length ≤ 24 := fun d hd => by
 obtain ⟨y, hy, rfl⟩ := List.mem_map.mp hd
 show (y.map fun n : Nat => PyData.int n).length ≤ 24
 rw [List.length_map]
 exact (h y hy).1
theorem d1_len : ∀ m, m < 25 -> 0 < m -> 84 * m ∣ 449755225920 := by decide
theorem step_deep {K : Fg} {t : Addr} {H H' : Hp} {v : V} {d : PyData} (S : Step t H H') (h : Deep K (hid H t t) v d) : Deep K H' v d := h.same ((hd_step S).trans hd_full)
theorem two_bq {hn : Nat} (h : hn = 1 ∨ hn = 2 ∨ hn = 9) : Bq (2 * hn) 1 ((1, 2 * (hn : Int)) : R) := by
 rcases h with rfl | rfl | rfl <;> exact ⟨by decide, by decide, ⟨1, by decide⟩, by decide⟩
theorem two_dvd {hn : Nat} (h : hn = 1 ∨ hn = 2 ∨ hn = 9) : 449755225920 * (2 * hn) ∣ 404779703328000 := by
 rcases h with rfl | rfl | rfl
 ·exact ⟨450, by decide⟩
 ·exact ⟨225, by decide⟩
 ·exact ⟨50, by decide⟩
theorem sc_Q15 : FnScope ["thing"] ["thing"] (defScope s_Q15) := scA
theorem sc_Q1 : FnScope ["thing", "count"] ["thing", "count"] (defScope s_Q1) := scA
theorem sc_Q5 : FnScope ["thing", "count"] ["thing", "count"] (defScope s_Q5) := scA
theorem sc_Q31 : FnScope ["thing"] ["thing"] (defScope s_Q31) := scA
theorem sc_Q0 : FnScope ["one", "other", "high", "low", "rest"] ["one", "other"] (defScope s_Q0) := scA
theorem sc_Q35 : FnScope ["top", "bottom", "shared"] ["top", "bottom"] (defScope s_Q35) := scA
theorem sc_Q39 : FnScope ["one", "other", "shared", "top", "rest"] ["one", "other"] (defScope s_Q39) := scA
theorem sc_Q36 : FnScope ["one", "other"] ["one", "other"] (defScope s_Q36) := scA
theorem sc_Q37 : FnScope ["one", "other", "left", "right"] ["one", "other"] (defScope s_Q37) := scA
theorem sc_Q22 : FnScope ["one", "other"] ["one", "other"] (defScope s_Q22) := scA
theorem sc_Q38 : FnScope ["some", "tops", "one", "so_far", "bottom", "top"] ["some"] (defScope s_Q38) := scA
theorem sc_Q2 : FnScope ["work", "top", "turns", "others", "rest"] ["work", "top", "turns"] (defScope s_Q2) := scA
theorem sc_Q6 : FnScope ["works", "hands", "top", "thing", "room"] ["works", "hands", "top", "thing"] (defScope s_Q6) := scA
theorem sc_Q16 : FnScope ["_law_script"] ["_law_script"] (defScope s_Q16) := scA
theorem sc_Q17 : FnScope ["_law_tape_here", "_law_many", "_law_spot", "_law_cell", "_law_mixed", "_law_found"] ["_law_tape_here", "_law_many"] (defScope s_Q17) := scA
theorem sc_Q7 : FnScope ["_law_due", "_law_found"] ["_law_due", "_law_found"] (defScope s_Q7) := scA
theorem sc_Q18 : FnScope ["_law_top", "_law_bottom", "_law_one", "_law_other"] ["_law_top", "_law_bottom"] (defScope s_Q18) := scA
theorem sc_Q23 : FnScope ["_law_one", "_law_other"] ["_law_one", "_law_other"] (defScope s_Q23) := scA
theorem sc_Q24 : FnScope ["_law_one", "_law_other"] ["_law_one", "_law_other"] (defScope s_Q24) := scA
theorem sc_Q19 : FnScope ["_law_one", "_law_other"] ["_law_one", "_law_other"] (defScope s_Q19) := scA
theorem sc_Q25 : FnScope ["_law_some", "_law_found", "_law_one"] ["_law_some"] (defScope s_Q25) := scA
theorem sc_Q8 : FnScope ["_law_tape_here", "_law_many", "_law_end", "_law_works_here", "_law_k", "_law_first", "_law_last", "_law_way"] ["_law_tape_here", "_law_many"] (defScope s_Q8) := scA
theorem sc_Q9 : FnScope ["_law_works_here"] ["_law_works_here"] (defScope s_Q9) := scA
theorem sc_Q3 : FnScope ["_law_works_here", "_law_left", "_law_units_here", "_law_spans", "_law_number", "_law_places", "_law_best", "_law_begin", "_law_end", "_law_some", "_law_many", "_law_long", "_law_more"] ["_law_works_here", "_law_left"] (defScope s_Q3) := scA
theorem sc_Q4 : FnScope ["_law_works_here", "_law_left", "_law_found", "_law_layer"] ["_law_works_here"] (defScope s_Q4) := scA
theorem sc_Q20 : FnScope ["_law_works_here", "_law_layer"] ["_law_works_here", "_law_layer"] (defScope s_Q20) := scA
theorem sc_Q10 : FnScope ["_law_e", "_law_marks_here"] ["_law_e"] (defScope s_Q10) := scA
theorem sc_Q21 : FnScope ["_law_works_here", "_law_hands", "_law_top", "_law_thing", "_law_wanted", "_law_first", "_law_last", "_law_amount", "_law_outside", "_law_rest"] ["_law_works_here", "_law_hands", "_law_top", "_law_thing"] (defScope s_Q21) := scA
theorem sc_Q11 : FnScope ["_law_works_here", "_law_hands", "_law_top", "_law_thing", "_law_told", "_law_e"] ["_law_works_here", "_law_hands", "_law_top", "_law_thing"] (defScope s_Q11) := scA
theorem sc_Q12 : FnScope ["_law_works_here", "_law_hands", "_law_top", "_law_thing", "_law_due", "_law_ahead", "_law_found", "_law_marks_here"] ["_law_works_here", "_law_hands", "_law_top", "_law_thing"] (defScope s_Q12) := scA
theorem sc_Q40 : FnScope ["_law_script", "_law_tape_here", "_law_k", "_law_works_here", "_law_found", "_law_hands", "_law_rate", "_law_tops", "_law_some", "_law_first", "_law_last", "_law_thing"] ["_law_script"] (defScope s_Q40) := scA
theorem sc_Q32 : FnScope ["self", "word"] ["self", "word"] (defScope s_Q32) := scA
end My
namespace My
open PySem L2 B PyProof.Rows
section
variable {P : Program} {w : World} {K : Fg} {mg : Str -> Option Value} {base : Heap} {t : Ad}
theorem ok_Q15 (T : Txt K mg t) : FnOk P w K mg base CX0 1 t.a_Q15 t.d_Q15 ["thing"] (sp_is_whole K) := by
 refine T.F_Q15.ok sc_Q15 (fun vs H Q E h => ?_) (fun cdv A outer s H vs Q E hr h => ?_)
 ·obtain ⟨_, _, rfl, _⟩ := h; rfl
 obtain ⟨v, d, rfl, hD, k⟩ := h
 obtain ⟨b, c, e1, e2, e3⟩ := isi_int hD
 refine QSs.ok (qss_one (qs_ret (qe_and (qe_callB call_isiD (by rfl) T.z_isinstance boot_isinstance (qa_cons (qv 0) (qa_cons (qe_bltn (v := V.ty "int") rfl T.z_int boot_int rfl) qa_nil star_name) star_name)) (qe_one (qe_not (qe_callB call_isiD (by rfl) T.z_isinstance boot_isinstance (qa_cons (qv 0) (qa_cons (qe_bltn (v := V.ty "bool") rfl T.z_bool boot_bool rfl) qa_nil star_name) star_name))))))) ?_
 rw [e3] at k
 refine ⟨_, rfl, _, _, _, _, rfl, hD, e1, _, rfl, ?_⟩
 cases b with
 | false => exact k
 | true => exact ⟨_, rfl, _, _, _, _, rfl, hD, e2, _, rfl, k⟩
theorem ok_Q1 (T : Txt K mg t) : FnOk P w K mg base CX0 2 t.a_Q1 t.d_Q1 ["thing", "count"] (sp_is_number_of K) := by
 refine T.F_Q1.ok sc_Q1 (fun vs H Q E h => ?_) (fun cdv A outer s H vs Q E hr h => ?_)
 ·obtain ⟨_, _, rfl, _⟩ := h; rfl
 obtain ⟨v, d, rfl, hD, k⟩ := h
 refine QSs.ok (qss_one (qs_ret (qe_and (qcA (ok_Q15 T) hr T.m_Q15 T.F_Q15.kp T.b_Q15 (qa_cons (qv 0) qa_nil star_name)) (qe_one (qe_chain op_le op_lt qe_int (qv 0) (qv 1)))))) ?_
 refine ⟨_, rfl, v, d, rfl, hD, _, rfl, ?_⟩
 cases hw : wholeD d with
 | false =>
  have e : numD d = false := by cases d with | int i => cases hw | _ => rfl
  rw [e] at k
  exact k
 | true =>
  obtain ⟨i, rfl⟩ := wholeD_int hw
  cases hD
  have k' : Q (.bl (decide (0 ≤ i) && decide (i < 24))) H := k
  refine ⟨_, rfl, _, _, rfl, rfl, _, rfl, ?_⟩
  by_cases c : 0 ≤ i
  ·refine iteD1 c ?_
   rw [decide_eq_true c] at k'
   exact ⟨_, rfl, _, _, rfl, rfl, k'⟩
  ·refine iteD0 c ?_
   rw [decide_eq_false c] at k'
   exact k'
theorem ok_Q5 (T : Txt K mg t) : FnOk P w K mg base CX0 3 t.a_Q5 t.d_Q5 ["thing", "count"] (sp_is_rising K) := by
 refine T.F_Q5.ok sc_Q5 (fun vs H Q E h => ?_) (fun cdv A outer s H vs Q E hr h => ?_)
 ·obtain ⟨_, _, rfl, _⟩ := h; rfl
 obtain ⟨v, d, rfl, hD, hl, k⟩ := h
 refine QSs.ok (qss_cons (qs_if (qw_pt (qw_or (qt_not (qt_val (qe_callB call_isiD (by rfl) T.z_isinstance boot_isinstance (qa_cons (qv 0) (qa_cons (qe_bltn (v := V.ty "tuple") rfl T.z_tuple boot_tuple rfl) qa_nil star_name) star_name)))) (qw_or1 (qt_not (qt_val (qe_callB (call_allL rfl) (by rfl) T.z_all boot_all (qa_cons (qe_lcomp (N' := ["part", "count"]) (src := [none, some 1]) rfl (by exact (qi_tup (qv 0))) (fun _ _ _ _ _ => (by exact (by exact qg_name (i := 0) (by show List.Nodup (["part", "count"] : List Str); decide +kernel) (by exact rfl) (by first | exact Or.inl rfl | exact Or.inr rfl)))) (fun _ _ _ _ _ => qts_nil) (fun _ _ _ _ _ => (by exact (by exact (qe_call (ok_Q1 T) (by exact hr.mono (by decide)) (by exact rfl) T.m_Q1 T.F_Q1.kp T.b_Q1 (by exact .nil) (by exact pass0) (qa_cons (by exact (qv 0)) (qa_cons (by exact (qv 1)) qa_nil star_name) star_name))))) (by exact ⟨rfl, rfl, rfl, rfl, trivial⟩) rfl (by decide +kernel) rfl (by decide +kernel) (by exact cells_of rfl ⟨rfl, trivial⟩)) qa_nil star_lc))))))) (qss_one (qs_ret qe_bl)) qss_nil)
   (qss_one (qs_ret (qe_callB (call_allL rfl) (by rfl) T.z_all boot_all (qa_cons (qe_lcomp (N' := ["place", "thing"]) (src := [none, some 0]) rfl (by exact (qi_range2 rfl T.z_range (qa_cons qe_int (qa_cons (qe_callB call_len_seq (by rfl) T.z_len boot_len (qa_cons (qv 0) qa_nil star_name)) qa_nil star_call) star_con))) (fun _ _ _ _ _ => (by exact (by exact qg_name (i := 0) (by show List.Nodup (["place", "thing"] : List Str); decide +kernel) (by exact rfl) (by first | exact Or.inl rfl | exact Or.inr rfl)))) (fun _ _ _ _ _ => qts_nil) (fun _ _ _ _ _ => (by exact (by exact (qe_cmpR op_lt (by exact (qe_ix (ix_tupK (K := K) (by exact rfl)) (by exact (qv 1)) (by exact (qe_op op_sub (by exact (qv 0)) qe_int)) (by exact fun _ _ => rfl))) (by exact (qe_ix (ix_tupK (K := K) (by exact rfl)) (by exact (qv 1)) (by exact (qv 0)) (by exact fun _ _ => rfl))) (nomark _))))) (by exact ⟨rfl, rfl, rfl, rfl, trivial⟩) rfl (by decide +kernel) rfl (by decide +kernel) (by exact cells_of rfl ⟨rfl, trivial⟩)) qa_nil star_lc))))) ?_
 rcases isi_tup hD with ⟨e, p, xs, ds, rfl, rfl, hS, hA⟩ | ⟨e, no⟩
 rotate_left
 ·refine ⟨_, rfl, _, _, _, _, rfl, hD, e, _, rfl, iteT (iteT ?_)⟩
  have := k _ (Same.refl _)
  rw [show rsD d = false by cases d with | tuple ds => exact absurd rfl (no _) | _ => rfl] at this
  exact this
 refine ⟨_, rfl, _, _, _, _, rfl, hD, e, _, rfl, iteF ?_⟩
 have len := hA.len
 have hl' : ds.length ≤ 24 := hl
 refine ⟨_, rfl, p, rfl, ⟨_, hS⟩, fun D hDn => comp_ix (wlk_tup hS) (fun _ => true) (fun i => V.bl (numD (ds.getD i .none))) hDn (by omega) (fun i x H' hi s' hx R E kR kE => ?_) fun H1 s1 h1 => ?_⟩
 ·obtain ⟨v, hv, dv⟩ := DeepAll.atN hA (List.getElem?_eq_getElem (show i < ds.length by omega))
  rw [hx] at hv
  cases hv
  rw [getD_of PyData.none (List.getElem?_eq_getElem (show i < ds.length by omega))] at kR
  exact ⟨Ext.set rfl, _, rfl, _, rfl, x, _, rfl, dv.same s', kR rfl _ (Same.refl _)⟩
 have e1 : (((List.range xs.length).filter fun _ => true).map fun i => V.bl (numD (ds.getD i .none))) = ((List.range xs.length).map fun i => numD (ds.getD i .none)).map V.bl := by rw [List.filter_eq_self.mpr (fun _ _ => rfl), List.map_map]; rfl
 rw [e1] at h1
 have al : ((List.range xs.length).map fun i => numD (ds.getD i .none)).all id = ds.all numD := by rw [len, all_getD]
 refine ⟨D, _, rfl, SqL.of h1, ⟨_, rfl, ?_⟩⟩
 rw [al]
 cases hn : ds.all numD with
 | false =>
  refine iteT ?_
  have := k _ s1
  rw [show rsD (.tuple ds) = false by show (ds.all numD && _) = false; rw [hn]; rfl] at this
  exact this
 | true =>
 refine iteF ?_
 obtain ⟨ls, rfl, lt⟩ := nums_of hn
 cases deep_nats hA
 have nl : (natV ls).length = ls.length := List.length_map _
 have l24 : ls.length ≤ 24 := by rw [List.length_map] at hl'; exact hl'
 have en : (((natV ls).length : Int) - 1).toNat = ls.length - 1 := by omega
 have hS1 := Tst.same (K := K) s1 _ _ hS
 refine ⟨_, rfl, p, _, rfl, .inr hS1, _, _, rfl, ?_, fun D2 hD2 => ?_⟩
 ·refine ⟨by omega, by omega, by omega, by omega⟩
 rw [en]
 refine comp_ix (wlk_rng (lo := 1)) (fun _ => true) (fun i => V.bl (decide (ls.getD i 0 < ls.getD (i + 1) 0))) hD2 (by omega) (fun i x H' hi s' hx R E kR kE => ?_) fun H4 s4 h4 => ?_
 ·subst hx
  have h2 := Tst.same (K := K) s' _ _ hS1
  have a1 : ls[i]? = some (ls[i]'(by omega)) := List.getElem?_eq_getElem _
  have a2 : ls[i + 1]? = some (ls[i + 1]'(by omega)) := List.getElem?_eq_getElem _
  have b1 : (natV ls)[i]? = some (V.int (ls[i]'(by omega) : Nat)) := by unfold natV; rw [List.getElem?_map, a1]; rfl
  have b2 : (natV ls)[i + 1]? = some (V.int (ls[i + 1]'(by omega) : Nat)) := by unfold natV; rw [List.getElem?_map, a2]; rfl
  rw [getD_of 0 a1, getD_of 0 a2] at kR
  have c1 : atI (natV ls) (1 + (i : Int) - 1) = some (V.int (ls[i]'(by omega) : Nat)) := by rw [show 1 + (i : Int) - 1 = ((i : Nat) : Int) by omega]; exact atI_nat b1
  have c2 : atI (natV ls) (1 + (i : Int)) = some (V.int (ls[i + 1]'(by omega) : Nat)) := by rw [show 1 + (i : Int) = ((i + 1 : Nat) : Int) by omega]; exact atI_nat b2
  refine ⟨Ext.set rfl, _, rfl, _, rfl, _, _, rfl, rfl, p, _, _, _, rfl, rfl, h2, c1, _, rfl, _, rfl, p, _, _, _, rfl, rfl, h2, c2, _, _, rfl, rfl, ?_⟩
  have := kR rfl H' (Same.refl _)
  dsimp only
  rw [show decide (((ls[i]'(by omega) : Nat) : Int) < ((ls[i + 1]'(by omega) : Nat) : Int)) = decide ((ls[i]'(by omega) : Nat) < ls[i + 1]'(by omega)) from decide_eq_decide.mpr (by omega)]
  exact this
 rw [List.filter_eq_self.mpr (fun _ _ => rfl)] at h4
 refine ⟨D2, (List.range (ls.length - 1)).map fun i => decide (ls.getD i 0 < ls.getD (i + 1) 0), rfl, SqL.of (by rw [List.map_map]; exact h4), ?_⟩
 have := k _ (s1.trans s4)
 rw [show rsD (.tuple (ls.map fun n : Nat => PyData.int n)) = risN ls by show (_ && risN _) = _; rw [hn, nats_of]; rfl] at this
 rw [List.all_map]
 exact this
theorem ok_Q31 (T : Txt K mg t) : FnOk P w K mg base CX0 1 t.a_Q31 t.d_Q31 ["thing"] (sp_copied K) := by
 refine T.F_Q31.ok sc_Q31 (fun vs H Q E h => ?_) (fun cdv A outer s H vs Q E hr h => ?_)
 ·obtain ⟨_, rfl, _⟩ := h; rfl
 obtain ⟨v, rfl, hv, k⟩ := h
 refine QSs.ok (qss_cons (qs_if (qt_val (qe_callB call_isi (by rfl) T.z_isinstance boot_isinstance (qa_cons (qv 0) (qa_cons (qe_bltn (v := V.ty "list") rfl T.z_list boot_list rfl) qa_nil star_name) star_name))) (qss_one qs_never) qss_nil)
   (qss_cons (qs_if (qt_val (qe_callB call_isi (by rfl) T.z_isinstance boot_isinstance (qa_cons (qv 0) (qa_cons (qe_bltn (v := V.ty "tuple") rfl T.z_tuple boot_tuple rfl) qa_nil star_name) star_name))) (qss_one qs_never) qss_nil)
   (qss_one (qs_ret (qv 0))))) ?_
 rcases hv with ⟨i, rfl⟩ | ⟨x, rfl⟩
 ·refine ⟨_, rfl, _, _, "int", false, rfl, .int i, by decide +kernel, false, rfl, iteF ?_⟩
  refine ⟨_, rfl, _, _, "int", false, rfl, .int i, by decide +kernel, false, rfl, iteF ?_⟩
  exact ⟨_, rfl, k⟩
 ·refine ⟨_, rfl, _, _, "str", false, rfl, .str x, by decide +kernel, false, rfl, iteF ?_⟩
  refine ⟨_, rfl, _, _, "str", false, rfl, .str x, by decide +kernel, false, rfl, iteF ?_⟩
  exact ⟨_, rfl, k⟩
theorem ok_Q0 (T : Txt K mg t) : FnOk P w K mg base CX0 1 t.a_Q0 t.d_Q0 ["one", "other"] (sp_greatest_divisor K) := by
 refine T.F_Q0.ok sc_Q0 (fun vs H Q E h => ?_) (fun cdv A outer s H vs Q E hr h => ?_)
 ·obtain ⟨_, _, rfl, _⟩ := h; rfl
 obtain ⟨a, b, rfl, k⟩ := h
 refine QSs.ok (qss_cons (qsA 2 sc_Q0.nd (qe_callB call_abs (by rfl) T.z_abs boot_abs (qa_cons (qv 0) qa_nil star_name)))
   (qss_cons (qsA 3 sc_Q0.nd (qe_callB call_abs (by rfl) T.z_abs boot_abs (qa_cons (qv 1) qa_nil star_name)))
   (qss_cons (qs_while PassesOwn.never (qt_cmpR op_ne (qv 3) qe_int (nomark _))
   (qss_cons (qsA 4 sc_Q0.nd (qe_op op_mod (qv 2) (qv 3)))
   (qss_cons (qsA 2 sc_Q0.nd (qv 3))
   (qss_one (qsA 3 sc_Q0.nd (qv 4))))))
   (qss_one (qs_ret (qv 2)))))) ?_
 refine ⟨_, rfl, _, rfl, _, rfl, _, rfl, ?_⟩
 rw [abs_if, abs_if]
 refine ⟨fun m σ H' => ∃ (x y : Int) (v : Option V), σ = [some (.int a), some (.int b), some (.int x), some (.int y), v] /\ H' = H /\ 0 ≤ x /\ 0 ≤ y /\ Int.gcd x y = Int.gcd a b /\ m = y.toNat, ⟨_, _, _, _, rfl, rfl, by omega, by omega, (by simp [Int.gcd]), rfl⟩, ?_⟩
 rintro m σ H' ⟨x, y, v, rfl, rfl, hx, hy, hg, rfl⟩
 refine ⟨_, rfl, rfl, _, rfl, ?_⟩
 by_cases c : y = 0
 ·subst c
  refine iteNS rfl ?_
  rw [← hg] at k
  refine ⟨_, rfl, ?_⟩
  have e : (x : Int) = (Int.gcd x 0 : Nat) := by simp [Int.gcd]; omega
  rw [← e] at k
  exact k
 ·refine iteN1 (fun z => c (by injection z)) ?_
  refine ⟨_, fun _ _ z => z, ?_⟩
  refine ⟨_, rfl, _, rfl, _, _, rfl, rfl, (by omega), _, rfl, _, rfl, ?_⟩
  refine ⟨_, ?_, y, x % y, _, rfl, rfl, hy, Int.emod_nonneg _ c, ?_, rfl⟩
  ·have := Int.emod_lt_of_pos x (show 0 < y by omega)
   have := Int.emod_nonneg x c
   omega
  ·rw [gcd_turn hx (by omega), hg]
theorem ok_Q35 (T : Txt K mg t) : FnOk P w K mg base CX0 2 t.a_Q35 t.d_Q35 ["top", "bottom"] (sp_ratio K) := by
 refine T.F_Q35.ok sc_Q35 (fun vs H Q E h => ?_) (fun cdv A outer s H vs Q E hr h => ?_)
 ·obtain ⟨_, _, rfl, _⟩ := h; rfl
 obtain ⟨a, b, rfl, hb, hz, k⟩ := h
 refine QSs.ok (qss_cons (qs_if (qt_cmpR op_eq (qv 1) qe_int (nomark _)) (qss_one qs_never) qss_nil)
   (qss_cons (qsA 2 sc_Q35.nd (qcA (ok_Q0 T) hr T.m_Q0 T.F_Q0.kp T.b_Q0 (qa_cons (qv 0) (qa_cons (qv 1) qa_nil star_name) star_name)))
   (qss_cons (qs_if (qt_cmpR op_lt (qv 1) qe_int (nomark _)) (qss_one (qsA 2 sc_Q35.nd (qe_un un_neg (qv 2)))) qss_nil)
   (qss_one (qs_ret (qe_tup (qa_cons (qe_op op_quoN (qv 0) (qv 2)) (qa_cons (qe_op op_quoN (qv 1) (qv 2)) qa_nil star_bin) star_bin))))))) ?_
 have gp := gcd_posN (a := a) hb
 have gb := gcd_big (a := a) hb hz
 refine ⟨_, rfl, rfl, _, rfl, ?_⟩
 refine iteD0 (fun z => by injection z with z; omega) ?_
 refine ⟨_, rfl, _, rfl, a, b, rfl, ?_⟩
 refine ⟨_, rfl, _, _, rfl, rfl, _, rfl, ?_⟩
 by_cases hn : b < 0
 ·refine iteD1 hn ?_
  rw [← mkS_neg1 hn] at k
  have gm : (-((Int.gcd a b : Nat) : Int)).natAbs < 2 ^ 4000 := by rw [Int.natAbs_neg]; exact gb
  refine ⟨_, rfl, _, rfl, ?_⟩
  refine ⟨_, rfl, _, rfl, _, _, rfl, rfl, ⟨by omega, gm⟩, _, rfl, _, rfl, _, _, rfl, rfl, ⟨by omega, gm⟩, zl2, fun p hp => ?_⟩
  exact k p hp
 ·refine iteD0 hn ?_
  rw [← mkS_pos1 (by omega : 0 < b)] at k
  refine ⟨_, rfl, _, rfl, _, _, rfl, rfl, ⟨by omega, gb⟩, _, rfl, _, rfl, _, _, rfl, rfl, ⟨by omega, gb⟩, zl2, fun p hp => ?_⟩
  exact k p hp
theorem ok_Q39 (T : Txt K mg t) : FnOk P w K mg base CX0 2 t.a_Q39 t.d_Q39 ["one", "other"] (sp_plus K) := by
 refine T.F_Q39.ok sc_Q39 (fun vs H Q E h => ?_) (fun cdv A outer s H vs Q E hr h => ?_)
 ·obtain ⟨_, _, _, _, _, _, rfl, _⟩ := h; rfl
 obtain ⟨v, w, r, q, n, m, rfl, hv, hw, wr, wq, hz, k⟩ := h
 refine QSs.ok (qss_cons (qsA 2 sc_Q39.nd (qcA (ok_Q0 T) hr T.m_Q0 T.F_Q0.kp T.b_Q0 (qa_cons (qxA ix_tup (qv 0) qe_int) (qa_cons (qxA ix_tup (qv 1) qe_int) qa_nil star_sub) star_sub)))
   (qss_cons (qsA 3 sc_Q39.nd (qe_op op_add (qe_op op_mulB (qxA ix_tup (qv 0) qe_int) (qe_op op_quo (qxA ix_tup (qv 1) qe_int) (qv 2))) (qe_op op_mulB (qxA ix_tup (qv 1) qe_int) (qe_op op_quo (qxA ix_tup (qv 0) qe_int) (qv 2)))))
   (qss_cons (qsA 4 sc_Q39.nd (qcA (ok_Q0 T) hr T.m_Q0 T.F_Q0.kp T.b_Q0 (qa_cons (qv 3) (qa_cons (qv 2) qa_nil star_name) star_name)))
   (qss_one (qs_ret (qe_tup (qa_cons (qe_op op_quo (qv 3) (qv 4)) (qa_cons (qe_op op_mulB (qe_op op_quo (qxA ix_tup (qv 0) qe_int) (qv 2)) (qe_op op_quo (qxA ix_tup (qv 1) qe_int) (qv 4))) qa_nil star_bin) star_bin))))))) ?_
 obtain ⟨p, rfl, hv⟩ := hv
 obtain ⟨p', rfl, hw⟩ := hw
 have c1 := big_of wr.top (show n ≤ 4000 by omega)
 have c2 := big_of wr.bot (show n ≤ 4000 by omega)
 have c3 := big_of wq.top (show m ≤ 4000 by omega)
 have c4 := big_of wq.bot (show m ≤ 4000 by omega)
 have gp : (0 : Int) < (Int.gcd r.2 q.2 : Nat) := gcd_posR wq.pos
 have gb := gcd_lt (a := r.2) wq.pos c4
 refine ⟨_, rfl, p, _, _, _, rfl, rfl, hv, rfl, _, rfl, p', _, _, _, rfl, rfl, hw, rfl, r.2, q.2, rfl, ?_⟩
 have z := plusG_eq ⟨wr.pos, wr.cop⟩ ⟨wq.pos, wq.cop⟩
 have kk : newR H Q (plusG r q) := by rw [z]; exact k
 unfold plusG at kk
 simp only at kk
 generalize ((Int.gcd r.2 q.2 : Nat) : Int) = d at gp gb kk ⊢
 refine ⟨_, rfl, p, _, _, _, rfl, rfl, hv, rfl, _, rfl, p', _, _, _, rfl, rfl, hw, rfl, _, rfl, _, _, rfl, rfl, ⟨gp, gb⟩, _, _, rfl, rfl, ⟨c1, div_lt gp c4⟩, _, rfl, p', _, _, _, rfl, rfl, hw, rfl, _, rfl, p, _, _, _, rfl, rfl, hv, rfl, _, rfl, _, _, rfl, rfl, ⟨gp, gb⟩, _, _, rfl, rfl, ⟨c3, div_lt gp c2⟩, _, _, rfl, rfl, ?_⟩
 refine ⟨_, rfl, _, rfl, _, _, rfl, ?_⟩
 have ep : (0 : Int) < (Int.gcd (r.1 * (q.2 / d) + q.1 * (r.2 / d)) d : Nat) := gcd_posR gp
 have eb := gcd_lt (a := r.1 * (q.2 / d) + q.1 * (r.2 / d)) gp gb
 generalize ((Int.gcd (r.1 * (q.2 / d) + q.1 * (r.2 / d)) d : Nat) : Int) = e at ep eb kk ⊢
 refine ⟨_, rfl, _, rfl, _, _, rfl, rfl, ⟨ep, eb⟩, _, rfl, p, _, _, _, rfl, rfl, hv, rfl, _, rfl, _, _, rfl, rfl, ⟨gp, gb⟩, _, rfl, p', _, _, _, rfl, rfl, hw, rfl, _, rfl, _, _, rfl, rfl, ⟨ep, eb⟩, _, _, rfl, rfl, ⟨div_lt gp c2, div_lt ep c4⟩, zl2, kk⟩
theorem ok_Q36 (T : Txt K mg t) : FnOk P w K mg base CX0 3 t.a_Q36 t.d_Q36 ["one", "other"] (sp_minus K) := by
 refine T.F_Q36.ok sc_Q36 (fun vs H Q E h => ?_) (fun cdv A outer s H vs Q E hr h => ?_)
 ·obtain ⟨_, _, _, _, _, _, rfl, _⟩ := h; rfl
 obtain ⟨v, w, r, q, n, m, rfl, hv, hw, wr, wq, hz, k⟩ := h
 refine QSs.ok (qss_one (qs_ret (qcA (ok_Q39 T) hr T.m_Q39 T.F_Q39.kp T.b_Q39 (qa_cons (qv 0) (qa_cons (qe_tup (qa_cons (qe_un un_neg (qxA ix_tup (qv 1) qe_int)) (qa_cons (qxA ix_tup (qv 1) qe_int) qa_nil star_sub) star_un)) qa_nil star_tup) star_name)))) ?_
 obtain ⟨p', rfl, hw⟩ := hw
 refine ⟨_, rfl, _, rfl, p', _, _, _, rfl, rfl, hw, rfl, _, rfl, _, rfl, p', _, _, _, rfl, rfl, hw, rfl, zl2, fun pt ht => ?_⟩
 have s1 := same_new ht (.tup [.int (-q.1), .int q.2])
 refine ⟨v, .ref pt, r, (-q.1, q.2), n, m, rfl, hv.mono (Tst.same s1), RV.of upd_same, wr, ⟨wq.pos, by show (-q.1).natAbs < _; rw [Int.natAbs_neg]; exact wq.top, wq.bot, cop_neg' wq.cop⟩, hz, fun p hp => ?_⟩
 refine k _ _ (s1.trans (same_new hp _)) ?_
 rw [← minus_eq]
 exact RV.of upd_same
theorem ok_Q37 (T : Txt K mg t) : FnOk P w K mg base CX0 2 t.a_Q37 t.d_Q37 ["one", "other"] (sp_times K) := by
 refine T.F_Q37.ok sc_Q37 (fun vs H Q E h => ?_) (fun cdv A outer s H vs Q E hr h => ?_)
 ·obtain ⟨_, _, _, _, _, _, rfl, _⟩ := h; rfl
 obtain ⟨v, w, r, q, n, m, rfl, hv, hw, wr, wq, hz, k⟩ := h
 refine QSs.ok (qss_cons (qsA 2 sc_Q37.nd (qcA (ok_Q0 T) hr T.m_Q0 T.F_Q0.kp T.b_Q0 (qa_cons (qxA ix_tup (qv 0) qe_int) (qa_cons (qxA ix_tup (qv 1) qe_int) qa_nil star_sub) star_sub)))
   (qss_cons (qsA 3 sc_Q37.nd (qcA (ok_Q0 T) hr T.m_Q0 T.F_Q0.kp T.b_Q0 (qa_cons (qxA ix_tup (qv 1) qe_int) (qa_cons (qxA ix_tup (qv 0) qe_int) qa_nil star_sub) star_sub)))
   (qss_one (qs_ret (qe_tup (qa_cons (qe_op op_mulB (qe_op op_quo (qxA ix_tup (qv 0) qe_int) (qv 2)) (qe_op op_quo (qxA ix_tup (qv 1) qe_int) (qv 3))) (qa_cons (qe_op op_mulB (qe_op op_quo (qxA ix_tup (qv 0) qe_int) (qv 3)) (qe_op op_quo (qxA ix_tup (qv 1) qe_int) (qv 2))) qa_nil star_bin) star_bin)))))) ?_
 obtain ⟨p, rfl, hv⟩ := hv
 obtain ⟨p', rfl, hw⟩ := hw
 have c1 := big_of wr.top (show n ≤ 4000 by omega)
 have c2 := big_of wr.bot (show n ≤ 4000 by omega)
 have c3 := big_of wq.top (show m ≤ 4000 by omega)
 have c4 := big_of wq.bot (show m ≤ 4000 by omega)
 have lp : (0 : Int) < (Int.gcd r.1 q.2 : Nat) := gcd_posR wq.pos
 have lb := gcd_lt (a := r.1) wq.pos c4
 have mp : (0 : Int) < (Int.gcd q.1 r.2 : Nat) := gcd_posR wr.pos
 have mb := gcd_lt (a := q.1) wr.pos c2
 have z := timesG_eq ⟨wr.pos, wr.cop⟩ ⟨wq.pos, wq.cop⟩
 have kk : newR H Q (timesG r q) := by rw [z]; exact k
 unfold timesG at kk
 simp only at kk
 refine ⟨_, rfl, p, _, _, _, rfl, rfl, hv, rfl, _, rfl, p', _, _, _, rfl, rfl, hw, rfl, r.1, q.2, rfl, _, rfl, p', _, _, _, rfl, rfl, hw, rfl, _, rfl, p, _, _, _, rfl, rfl, hv, rfl, q.1, r.2, rfl, ?_⟩
 generalize ((Int.gcd r.1 q.2 : Nat) : Int) = l at lp lb kk ⊢
 generalize ((Int.gcd q.1 r.2 : Nat) : Int) = m' at mp mb kk ⊢
 refine ⟨_, rfl, p, _, _, _, rfl, rfl, hv, rfl, _, rfl, _, _, rfl, rfl, ⟨lp, lb⟩, _, rfl, p', _, _, _, rfl, rfl, hw, rfl, _, rfl, _, _, rfl, rfl, ⟨mp, mb⟩, _, _, rfl, rfl, ⟨div_lt lp c1, div_lt mp c3⟩, _, rfl, p, _, _, _, rfl, rfl, hv, rfl, _, rfl, _, _, rfl, rfl, ⟨mp, mb⟩, _, rfl, p', _, _, _, rfl, rfl, hw, rfl, _, rfl, _, _, rfl, rfl, ⟨lp, lb⟩, _, _, rfl, rfl, ⟨div_lt mp c2, div_lt lp c4⟩, zl2, kk⟩
theorem ok_Q22 (T : Txt K mg t) : FnOk P w K mg base CX0 1 t.a_Q22 t.d_Q22 ["one", "other"] (sp_is_less K) := by
 refine T.F_Q22.ok sc_Q22 (fun vs H Q E h => ?_) (fun cdv A outer s H vs Q E hr h => ?_)
 ·obtain ⟨_, _, _, _, _, _, rfl, _⟩ := h; rfl
 obtain ⟨v, w, r, q, n, m, rfl, hv, hw, wr, wq, hz, k⟩ := h
 refine QSs.ok (qss_one (qs_ret (qe_cmpR op_lt (qe_op op_mulB (qxA ix_tup (qv 0) qe_int) (qxA ix_tup (qv 1) qe_int)) (qe_op op_mulB (qxA ix_tup (qv 1) qe_int) (qxA ix_tup (qv 0) qe_int)) (nomark _)))) ?_
 obtain ⟨p, rfl, hv⟩ := hv
 obtain ⟨p', rfl, hw⟩ := hw
 have c1 := big_of wr.top (show n ≤ 4000 by omega)
 have c2 := big_of wr.bot (show n ≤ 4000 by omega)
 have c3 := big_of wq.top (show m ≤ 4000 by omega)
 have c4 := big_of wq.bot (show m ≤ 4000 by omega)
 refine ⟨_, rfl, p, _, _, _, rfl, rfl, hv, rfl, _, rfl, p', _, _, _, rfl, rfl, hw, rfl, _, _, rfl, rfl, ⟨c1, c4⟩, _, rfl, p', _, _, _, rfl, rfl, hw, rfl, _, rfl, p, _, _, _, rfl, rfl, hv, rfl, _, _, rfl, rfl, ⟨c3, c2⟩, _, _, rfl, rfl, k⟩
theorem ok_Q38 (T : Txt K mg t) : FnOk P w K mg base CX0 3 t.a_Q38 t.d_Q38 ["some"] (sp_total K) := by
 refine T.F_Q38.ok sc_Q38 (fun vs H Q E h => ?_) (fun cdv A outer s H vs Q E hr h => ?_)
 ·obtain ⟨_, _, _, _, _, rfl, _⟩ := h; rfl
 obtain ⟨a, xs, rs, n, D₀, rfl, hS, hR, hWD, h0, hDn₀, hlen, hn, k⟩ := h
 refine QSs.ok (qss_cons (qsA 1 sc_Q38.nd qe_dnewK)
   (qss_cons (qs_for PassesOwn.never rfl (qi_seq (qv 0)) (qg_name (i := 2) sc_Q38.nd rfl (by first | exact Or.inl rfl | exact Or.inr rfl))
   (qss_one (qs_dput (hu_of hr) (qv 1) (qxA ix_tup (qv 2) qe_int) (qe_op op_add (qe_dget2 (hu_of hr) (qv 1) (qxA ix_tup (qv 2) qe_int) qe_int ⟨rfl, rfl, rfl, rfl⟩) (qxA ix_tup (qv 2) qe_int)) rfl)))
   (qss_cons (qsA 3 sc_Q38.nd (qe_glob (v := .ref t.c_NOUGHT) rfl T.m_NOUGHT rfl))
   (qss_cons (qs_for PassesOwn.never rfl (qi_items (qv 1)) (qg_tup rfl (qgs_cons (qg_name (i := 4) sc_Q38.nd rfl (by first | exact Or.inl rfl | exact Or.inr rfl)) (qgs_cons (qg_name (i := 5) sc_Q38.nd rfl (by first | exact Or.inl rfl | exact Or.inr rfl)) qgs_nil)))
   (qss_one (qsA 3 sc_Q38.nd (qcA (ok_Q39 T) hr T.m_Q39 T.F_Q39.kp T.b_Q39 (qa_cons (qv 3) (qa_cons (qcA (ok_Q35 T) hr T.m_Q35 T.F_Q35.kp T.b_Q35 (qa_cons (qv 5) (qa_cons (qv 4) qa_nil star_name) star_name)) qa_nil star_call) star_name)))))
   (qss_one (qs_ret (qv 3))))))) ?_
 refine fun D hDn => ⟨_, rfl, ?_⟩
 have sD := same_new hDn (.dK [])
 rcases hS with hS | hS
 ·refine .inl ⟨a, rfl, ⟨_, sD.seq hS⟩, for_list (K := K) (a := a) (xs := xs) (fun i σ H' => ∃ (x : Option V) (ps : List (Int × Int)), σ = [some (.ref a), some (.ref D), x, none, none, none] /\ Same H H' /\ H' D = some (.dK (enc ps)) /\ PsOk n i ps /\ (∀ p ∈ ps, p.1 ∣ (D₀ : Int)) /\ sumv ps = vsum (rs.take i)) ⟨none, [], rfl, sD, upd_same, PsOk.nil n, (fun _ h => nomatch h), rfl⟩ (fun i σ H1 _ ⟨_, _, _, s1, _⟩ => s1.seq hS) ?_ ?_⟩
  ·rintro i y σ H1 hi ⟨x, ps, rfl, s1, hD1, ok, dv, ev⟩
   obtain ⟨ry, hry, hyv⟩ := hR.at hi
   have my : ry ∈ rs := List.mem_of_getElem? hry
   have hil := (List.getElem?_eq_some_iff.mp hry).1
   obtain ⟨py, rfl, hSy⟩ := hyv.mono (Tst.same s1)
   have el : (enc ps).length = ps.length := List.length_map _
   have hlp : (enc ps).length < sizeLine := by rw [el]; exact small1000 (by have := ok.len; omega)
   refine ⟨_, rfl, D, rfl, .inl ⟨_, .inl hD1⟩, _, rfl, py, _, _, _, rfl, rfl, hSy, rfl, _, DGet.k (k := Sum.inl ry.2) hD1, _, rfl, py, _, _, _, rfl, rfl, hSy, rfl, topP ps ry.2, ry.1, get_enc ps ry.2, rfl, _, rfl, _, rfl, py, _, _, _, rfl, rfl, hSy, rfl, D, _, rfl, DPut.k (k := Sum.inl ry.2) hD1 hlp, ?_⟩
   refine ⟨_, addP ps ry.2 ry.1, rfl, fun b o q => ?_, ?_, ok.add (hWD ry my).1, add_dvd (i := 0) (n := 0) dv (hWD ry my).2, ?_⟩
   ·rw [upd_ne (ne_of_none q hDn)]
    exact s1 b o q
   ·rw [put_enc ps _ _ ok.nd]
    exact upd_same
   ·rw [sumv_add, ev, List.take_add_one, hry]
    exact (vsum_snoc _ _).symm
  ·rintro σ H1 ⟨x, ps, rfl, s1, hD1, ok, dv, ev⟩
   rw [hR.1, List.take_length] at ev
   rw [hR.1] at ok
   refine ⟨_, rfl, D, enc ps, rfl, hD1, fun ob => for_items (d := D) (ob := ob) (kvs := enc ps) (fun j σ H' => ∃ (u : V) (acc : R) (y4 y5 : Option V), σ = [some (.ref a), some (.ref D), x, some u, y4, y5] /\ Same H H' /\ H' D = some (.frz ob (.dK (enc ps))) /\ RV K H' u acc /\ Bq D₀ (64 * 2 ^ n * j) acc /\ val acc = sumv (ps.take j)) ⟨_, (0, 1), none, none, rfl, ?_, upd_same, ⟨_, rfl, T.q_NOUGHT _⟩, ⟨by decide, by decide, ⟨(D₀ : Int), by show (D₀ : Int) = 1 * D₀; omega⟩, by show 0 ≤ _; exact Nat.zero_le _⟩, val_nought⟩ (fun i σ H1 ⟨_, _, _, _, _, _, z, _⟩ => z) ?_ ?_⟩
   ·intro b o q
    rw [upd_ne (ne_of_none q hDn)]
    exact s1 b o q
   ·rintro j kk v p σ H2 hkv ⟨u, acc, y4, y5, rfl, s2, hD2, r2, w2, ev2⟩ hp
    have hkv' : (ps.map fun p => ((Sum.inl p.1 : Key), V.int p.2))[j]? = some (kk, v) := hkv
    rw [List.getElem?_map] at hkv'
    obtain ⟨q, hq, e⟩ := Option.map_eq_some_iff.mp hkv'
    cases e
    have mq := List.mem_of_getElem? hq
    have hjl := (List.getElem?_eq_some_iff.mp hq).1
    have wq := ok.wf (by omega) mq
    have lps := ok.len
    have gq := grp_bq ok dv hlen mq
    have wa := acc_wf w2 (by omega) h0 hDn₀
    have bq := ok.bot q mq
    have e1 := same_new hp (.tup [kV (Sum.inl q.1), V.int q.2])
    refine ⟨p, _, rfl, SqT.of upd_same, rfl, _, _, rfl, _, _, rfl, rfl, ?_⟩
    refine ⟨_, rfl, _, rfl, _, rfl, q.2, q.1, rfl, (by have := bq.1; omega), big_of bq.2 (by omega), fun p1 g1 => ?_⟩
    rw [mkS_pos bq.1]
    have e2 := same_new g1 (.tup [.int (mkR q.2 q.1).1, .int (mkR q.2 q.1).2])
    refine ⟨u, .ref p1, acc, mkR q.2 q.1, 2 * n + 12, n + 8, rfl, (r2.mono (Tst.same e1)).mono (Tst.same e2), RV.of upd_same, wa, wq, by omega, fun p2 g2 => ?_⟩
    have e3 := same_new g2 (.tup [.int (plusR acc (mkR q.2 q.1)).1, .int (plusR acc (mkR q.2 q.1)).2])
    have s3 := ((e1.trans e2).trans e3)
    refine ⟨_, plusR acc (mkR q.2 q.1), _, _, rfl, s2.trans s3, s3 _ _ hD2, RV.of upd_same, (by rw [Nat.mul_succ]; exact Bq.plus h0 w2 gq), ?_⟩
    rw [val_plus w2.pos wq.pos, val_mk bq.1, ev2, List.take_add_one, hq]
    exact (sumv_snoc _ _).symm
   ·rintro σ H2 ⟨u, acc, y4, y5, rfl, s2, hD2, r2, w2, ev2⟩
    have el : (enc ps).length = ps.length := List.length_map _
    rw [el, List.take_length] at ev2
    have es := sum_is (fun r hr => (hWD r hr).1.red) w2.red (ev2.trans ev)
    rw [es] at r2
    exact ⟨_, rfl, k u H2 s2 r2⟩
 ·refine .inr ⟨a, rfl, ⟨_, Tst.same sD _ _ hS⟩, for_tup (K := K) (a := a) (xs := xs) (fun i σ H' => ∃ (x : Option V) (ps : List (Int × Int)), σ = [some (.ref a), some (.ref D), x, none, none, none] /\ Same H H' /\ H' D = some (.dK (enc ps)) /\ PsOk n i ps /\ (∀ p ∈ ps, p.1 ∣ (D₀ : Int)) /\ sumv ps = vsum (rs.take i)) ⟨none, [], rfl, sD, upd_same, PsOk.nil n, (fun _ h => nomatch h), rfl⟩ (fun i σ H1 _ ⟨_, _, _, s1, _⟩ => Tst.same s1 _ _ hS) ?_ ?_⟩
  ·rintro i y σ H1 hi ⟨x, ps, rfl, s1, hD1, ok, dv, ev⟩
   obtain ⟨ry, hry, hyv⟩ := hR.at hi
   have my : ry ∈ rs := List.mem_of_getElem? hry
   have hil := (List.getElem?_eq_some_iff.mp hry).1
   obtain ⟨py, rfl, hSy⟩ := hyv.mono (Tst.same s1)
   have el : (enc ps).length = ps.length := List.length_map _
   have hlp : (enc ps).length < sizeLine := by rw [el]; exact small1000 (by have := ok.len; omega)
   refine ⟨_, rfl, D, rfl, .inl ⟨_, .inl hD1⟩, _, rfl, py, _, _, _, rfl, rfl, hSy, rfl, _, DGet.k (k := Sum.inl ry.2) hD1, _, rfl, py, _, _, _, rfl, rfl, hSy, rfl, topP ps ry.2, ry.1, get_enc ps ry.2, rfl, _, rfl, _, rfl, py, _, _, _, rfl, rfl, hSy, rfl, D, _, rfl, DPut.k (k := Sum.inl ry.2) hD1 hlp, ?_⟩
   refine ⟨_, addP ps ry.2 ry.1, rfl, fun b o q => ?_, ?_, ok.add (hWD ry my).1, add_dvd (i := 0) (n := 0) dv (hWD ry my).2, ?_⟩
   ·rw [upd_ne (ne_of_none q hDn)]
    exact s1 b o q
   ·rw [put_enc ps _ _ ok.nd]
    exact upd_same
   ·rw [sumv_add, ev, List.take_add_one, hry]
    exact (vsum_snoc _ _).symm
  ·rintro σ H1 ⟨x, ps, rfl, s1, hD1, ok, dv, ev⟩
   rw [hR.1, List.take_length] at ev
   rw [hR.1] at ok
   refine ⟨_, rfl, D, enc ps, rfl, hD1, fun ob => for_items (d := D) (ob := ob) (kvs := enc ps) (fun j σ H' => ∃ (u : V) (acc : R) (y4 y5 : Option V), σ = [some (.ref a), some (.ref D), x, some u, y4, y5] /\ Same H H' /\ H' D = some (.frz ob (.dK (enc ps))) /\ RV K H' u acc /\ Bq D₀ (64 * 2 ^ n * j) acc /\ val acc = sumv (ps.take j)) ⟨_, (0, 1), none, none, rfl, ?_, upd_same, ⟨_, rfl, T.q_NOUGHT _⟩, ⟨by decide, by decide, ⟨(D₀ : Int), by show (D₀ : Int) = 1 * D₀; omega⟩, by show 0 ≤ _; exact Nat.zero_le _⟩, val_nought⟩ (fun i σ H1 ⟨_, _, _, _, _, _, z, _⟩ => z) ?_ ?_⟩
   ·intro b o q
    rw [upd_ne (ne_of_none q hDn)]
    exact s1 b o q
   ·rintro j kk v p σ H2 hkv ⟨u, acc, y4, y5, rfl, s2, hD2, r2, w2, ev2⟩ hp
    have hkv' : (ps.map fun p => ((Sum.inl p.1 : Key), V.int p.2))[j]? = some (kk, v) := hkv
    rw [List.getElem?_map] at hkv'
    obtain ⟨q, hq, e⟩ := Option.map_eq_some_iff.mp hkv'
    cases e
    have mq := List.mem_of_getElem? hq
    have hjl := (List.getElem?_eq_some_iff.mp hq).1
    have wq := ok.wf (by omega) mq
    have lps := ok.len
    have gq := grp_bq ok dv hlen mq
    have wa := acc_wf w2 (by omega) h0 hDn₀
    have bq := ok.bot q mq
    have e1 := same_new hp (.tup [kV (Sum.inl q.1), V.int q.2])
    refine ⟨p, _, rfl, SqT.of upd_same, rfl, _, _, rfl, _, _, rfl, rfl, ?_⟩
    refine ⟨_, rfl, _, rfl, _, rfl, q.2, q.1, rfl, (by have := bq.1; omega), big_of bq.2 (by omega), fun p1 g1 => ?_⟩
    rw [mkS_pos bq.1]
    have e2 := same_new g1 (.tup [.int (mkR q.2 q.1).1, .int (mkR q.2 q.1).2])
    refine ⟨u, .ref p1, acc, mkR q.2 q.1, 2 * n + 12, n + 8, rfl, (r2.mono (Tst.same e1)).mono (Tst.same e2), RV.of upd_same, wa, wq, by omega, fun p2 g2 => ?_⟩
    have e3 := same_new g2 (.tup [.int (plusR acc (mkR q.2 q.1)).1, .int (plusR acc (mkR q.2 q.1)).2])
    have s3 := ((e1.trans e2).trans e3)
    refine ⟨_, plusR acc (mkR q.2 q.1), _, _, rfl, s2.trans s3, s3 _ _ hD2, RV.of upd_same, (by rw [Nat.mul_succ]; exact Bq.plus h0 w2 gq), ?_⟩
    rw [val_plus w2.pos wq.pos, val_mk bq.1, ev2, List.take_add_one, hq]
    exact (sumv_snoc _ _).symm
   ·rintro σ H2 ⟨u, acc, y4, y5, rfl, s2, hD2, r2, w2, ev2⟩
    have el : (enc ps).length = ps.length := List.length_map _
    rw [el, List.take_length] at ev2
    have es := sum_is (fun r hr => (hWD r hr).1.red) w2.red (ev2.trans ev)
    rw [es] at r2
    exact ⟨_, rfl, k u H2 s2 r2⟩
theorem ok_Q2 (T : Txt K mg t) : FnOk P w K mg base CX0 4 t.a_Q2 t.d_Q2 ["work", "top", "turns"] (sp_bound_amount K) := by
 refine T.F_Q2.ok sc_Q2 (fun vs H Q E h => ?_) (fun cdv A outer s H vs Q E hr h => ?_)
 ·obtain ⟨_, _, _, _, _, _, rfl, _⟩ := h; rfl
 obtain ⟨v, u, q, w, tp, ls, rfl, ⟨p, x, rfl, hS, rx⟩, ok, hu, ht, hq, k⟩ := h
 refine QSs.ok (qss_cons (qs_setC (i := 3) (N' := ["turn", "turns"]) (src := [none, some 2]) sc_Q2.nd rfl (by first | exact Or.inl rfl | exact Or.inr rfl) rfl (by exact (qi_range2 rfl T.z_range (qa_cons (qxA ix_tup (qv 0) qe_int) (qa_cons (qe_op op_add (qxA ix_tup (qv 0) qe_int) qe_int) qa_nil star_bin) star_sub))) (fun _ _ _ _ _ => (by exact (by exact qg_name (i := 0) (by show List.Nodup (["turn", "turns"] : List Str); decide +kernel) (by exact rfl) (by first | exact Or.inl rfl | exact Or.inr rfl)))) (fun _ _ _ _ _ => (qts_one (qt_cmpR (op_notIn_seqK (K := K) (by exact rfl)) (by exact (qv 0)) (by exact (qv 1)) (by with_unfolding_all rfl)))) (fun _ _ _ _ _ => (by exact (by exact (qv 0)))) (by exact ⟨rfl, rfl, rfl, rfl, trivial⟩) rfl (by decide +kernel) rfl (by decide +kernel) (by exact cells_of rfl ⟨rfl, trivial⟩))
   (qss_cons (qsA 4 sc_Q2.nd (qcA (ok_Q36 T) hr T.m_Q36 T.F_Q36.kp T.b_Q36 (qa_cons (qxA ix_tup (qv 0) qe_int) (qa_cons (qcA (ok_Q37 T) hr T.m_Q37 T.F_Q37.kp T.b_Q37 (qa_cons (qv 1) (qa_cons (qe_tup (qa_cons (qe_callB call_len_seq (by rfl) T.z_len boot_len (qa_cons (qv 3) qa_nil star_name)) (qa_cons qe_int qa_nil star_con) star_call)) qa_nil star_tup) star_name)) qa_nil star_call) star_sub)))
   (qss_cons (qs_if (qt_val (qcA (ok_Q22 T) hr T.m_Q22 T.F_Q22.kp T.b_Q22 (qa_cons (qv 4) (qa_cons (qe_glob (v := .ref t.c_NOUGHT) rfl T.m_NOUGHT rfl) qa_nil star_name) star_name))) (qss_one (qs_ret (qe_glob (v := .ref t.c_NOUGHT) rfl T.m_NOUGHT rfl))) qss_nil)
   (qss_one (qs_ret (qv 4)))))) ?_
 have ole := ok.le
 have olt := ok.lt
 have e1 : (((w.2.1 : Nat) : Int) + 1 - ((w.1 : Nat) : Int)).toNat = w.2.1 + 1 - w.1 := by omega
 refine ⟨_, rfl, p, _, _, _, rfl, rfl, hS, rfl, _, rfl, p, _, _, _, rfl, rfl, hS, rfl, _, _, rfl, rfl, _, _, rfl, ?_, fun D hD => ?_⟩
 ·refine ⟨by omega, by omega, by omega, by omega⟩
 rw [e1]
 refine comp_ix (wlk_rng (lo := ((w.1 : Nat) : Int))) (fun i => !ls.contains (w.1 + i)) (fun i => V.int ((w.1 : Nat) + (i : Nat) : Int)) hD (by omega) (fun i x H' hi s' hx R E kR kE => ?_) fun H4 s4 h4 => ?_
 ·subst hx
  refine ⟨Ext.set rfl, _, rfl, _, rfl, q, _, rfl, .inr (Tst.same (K := K) s' _ _ hq), rfl, ?_, ?_⟩
  ·unfold natV; rw [List.all_map]; exact List.all_eq_true.mpr fun _ _ => rfl
  ·refine ⟨_, rfl, ?_⟩
   rw [show inV (V.int ((w.1 : Nat) + (i : Nat) : Int)) (natV ls) = ls.contains (w.1 + i) from inV_int _ _]
   cases c : ls.contains (w.1 + i) with
   | true => exact iteF (kE (by show (!ls.contains (w.1 + i)) = false; rw [c]; rfl) _ (Same.refl _))
   | false => exact iteT ⟨_, rfl, kR (by show (!ls.contains (w.1 + i)) = true; rw [c]; rfl) _ (Same.refl _)⟩
 have ln : (((List.range (w.2.1 + 1 - w.1)).filter fun i => !ls.contains (w.1 + i)).map fun i => V.int ((w.1 : Nat) + (i : Nat) : Int)).length = outM ls w := by rw [List.length_map]; rfl
 have t4 := Tst.same (K := K) s4
 refine ⟨_, rfl, p, _, _, _, rfl, rfl, t4 _ _ hS, rfl, _, rfl, _, rfl, D, _, rfl, .inl (SqL.of h4), zl2, fun p5 h5 => ?_⟩
 rw [ln]
 have s5 := same_new h5 (.tup [.int (outM ls w : Int), .int 1])
 have r5 : RV K (upd H4 p5 (.tup [.int (outM ls w : Int), .int 1])) (.ref p5) ((outM ls w : Int), 1) := RV.of upd_same
 generalize upd H4 p5 (.tup [.int (outM ls w : Int), .int 1]) = H5 at s5 r5 ⊢
 have o24 := out_le (ls := ls) olt
 have wi : Wf 70 (((outM ls w : Nat) : Int), 1) := ((int_bq (i := (outM ls w : Int)) (n := 24) (by omega)).mono (Nat.dvd_refl _) (Nat.le_refl _)).wf (by decide) (by decide) (by decide)
 have t5 := t4.trans (Tst.same (K := K) s5)
 refine ⟨u, .ref p5, tp, (((outM ls w : Nat) : Int), 1), 70, 70, rfl, hu.mono t5, r5, bd_wf ht (by decide), wi, by decide, fun p6 h6 => ?_⟩
 have s6 := same_new h6 (.tup [.int (timesR tp (((outM ls w : Nat) : Int), 1)).1, .int (timesR tp (((outM ls w : Nat) : Int), 1)).2])
 have r6 : RV K _ (.ref p6) (timesR tp (((outM ls w : Nat) : Int), 1)) := RV.of (upd_same (H := H5) (a := p6) (o := .tup [.int (timesR tp (((outM ls w : Nat) : Int), 1)).1, .int (timesR tp (((outM ls w : Nat) : Int), 1)).2]))
 have wt : Wf 70 (timesR tp (((outM ls w : Nat) : Int), 1)) := bd_wf ((Bq.times ht (int_bq (i := (outM ls w : Int)) (n := 24) (by omega))).mono ⟨1, by decide⟩ (Nat.le_refl _)) (by decide)
 refine ⟨x, .ref p6, w.2.2, _, 4, 70, rfl, rx.mono (t5.trans (Tst.same s6)), r6, ok.am.wf, wt, by decide, fun v7 H7 s7 r7 => ?_⟩
 have wr := rest_bq (ls := ls) ht ok
 have s17 := ((s4.trans s5).trans s6).trans s7
 refine ⟨_, rfl, v7, .ref t.c_NOUGHT, restW tp ls w, (0, 1), 70, 1, rfl, r7, ⟨_, rfl, T.q_NOUGHT _⟩, bd_wf wr (by decide), zero_wf, by decide, _, rfl, ?_⟩
 cases c0 : lessR (restW tp ls w) (0, 1) with
 | true =>
  refine iteT ?_
  refine k _ _ s17 ?_
  rw [bnd_neg c0]
  exact ⟨_, rfl, T.q_NOUGHT _⟩
 | false =>
  refine iteF ⟨_, rfl, ?_⟩
  refine k _ _ s17 ?_
  rw [bnd_pos wr.red c0]
  exact r7
theorem ok_Q16 (T : Txt K mg t) : FnOk P w K mg base CX0 1 t.a_Q16 t.d_Q16 ["_law_script"] (sp_law_tape K) := by
 refine T.F_Q16.ok sc_Q16 (fun vs H Q E h => ?_) (fun cdv A outer s H vs Q E hr h => ?_)
 ·obtain ⟨_, _, rfl, _⟩ := h; rfl
 obtain ⟨a, ns, rfl, hS, hl, k⟩ := h
 refine QSs.ok (qss_one (qs_ret (qe_lst (qa_cons (qv 0) (qa_cons qe_int (qa_cons qe_int qa_nil star_con) star_con) star_name)))) ?_
 refine ⟨_, rfl, zl3, fun t ht => ?_⟩
 exact k t _ (same_new ht _) ht (Tape3.mk3 hS hl ht)
theorem ok_Q17 (T : Txt K mg t) : FnOk P w K mg base CX0 1 t.a_Q17 t.d_Q17 ["_law_tape_here", "_law_many"] (sp_law_draw K) := by
 refine T.F_Q17.ok sc_Q17 (fun vs H Q E h => ?_) (fun cdv A outer s H vs Q E hr h => ?_)
 ·obtain ⟨_, _, _, rfl, _⟩ := h; rfl
 obtain ⟨t₁, s₁, m, rfl, tp, hm0, hm1, k⟩ := h
 refine QSs.ok (qss_cons (qs_if (qt_cmpR op_eq (qxA ix_list (qv 0) qe_int) qe_int (nomark _)) (qss_cons (qsA 2 sc_Q17.nd (qxA ix_list (qv 0) qe_int))
   (qss_cons (qs_asg (qe_op op_add (qv 2) qe_int) (qg_sub (qv 0) qe_int set_list))
   (qss_cons (qsA 3 sc_Q17.nd (qv 2))
   (qss_cons (qs_if (qt_cmpR op_gt (qe_callB call_len_seq (by rfl) T.z_len boot_len (qa_cons (qxA ix_list (qv 0) qe_int) qa_nil star_sub)) qe_int (nomark _)) (qss_one (qsA 3 sc_Q17.nd (qxA ix_list (qxA ix_list (qv 0) qe_int) (qe_op op_mod (qv 2) (qe_callB call_len_seq (by rfl) T.z_len boot_len (qa_cons (qxA ix_list (qv 0) qe_int) qa_nil star_sub)))))) qss_nil)
   (qss_cons (qs_if (qw_pt (qw_or (qt_cmpR op_lt (qv 3) (qe_op op_pow qe_int qe_int) (nomark _)) (qw_or1 (qt_cmpR op_ge (qv 2) (qe_callB call_len_seq (by rfl) T.z_len boot_len (qa_cons (qxA ix_list (qv 0) qe_int) qa_nil star_sub)) (nomark _))))) (qss_cons (qsA 4 sc_Q17.nd (qe_op op_mod (qe_op op_mul (qe_op op_add (qe_op op_mod (qv 3) qe_int) qe_int) (qe_op op_add qe_int (qe_op op_mul qe_int (qe_op op_mod (qv 2) qe_int)))) qe_int))
   (qss_one (qs_ret (qe_op op_mod (qe_op op_fdiv (qe_op op_mod (qe_op op_mul (qe_op op_add (qv 4) (qe_op op_mul qe_int (qv 2))) qe_int) qe_int) qe_int) (qv 1))))) qss_nil)
   (qss_one (qs_asg (qv 3) (qg_sub (qv 0) qe_int set_list)))))))) qss_nil)
   (qss_cons (qsA 5 sc_Q17.nd (qe_op op_mod (qxA ix_list (qv 0) qe_int) (qv 1)))
   (qss_cons (qs_asg (qe_op op_fdiv (qxA ix_list (qv 0) qe_int) (qv 1)) (qg_sub (qv 0) qe_int set_list))
   (qss_one (qs_ret (qv 5)))))) ?_
 obtain ⟨ns, p, q, ht, hs, hlen, hp0, hq0⟩ := tp.ex
 have hs' : ∀ o, SqL K (upd H t₁ o) s₁ (ns.map V.int) := fun o => hs.elim (fun z => .inl (rd_upl z.1 z.2.symm)) fun z => z _
 have tap : ∀ (p' q' : Int), 0 ≤ p' -> 0 ≤ q' -> Tape3 K (upd H t₁ (.lst [.ref s₁, .int p', .int q'])) t₁ s₁ := fun p' q' a b => ⟨ns, p', q', upd_same, hs.elim (fun z => .inl ⟨rd_upl z.1 z.2.symm, z.2⟩) fun z => .inr z, hlen, a, b⟩
 have hl : ((ns.map V.int).length : Int) = (ns.length : Int) := by rw [List.length_map]
 refine ⟨_, rfl, t₁, _, _, _, rfl, rfl, SqL.of ht, rfl, rfl, _, rfl, ?_⟩
 by_cases c0 : q = 0
 ·refine iteD1 (by rw [c0]) ?_
  refine ⟨_, rfl, t₁, _, _, _, rfl, rfl, SqL.of ht, rfl, ?_⟩
  refine ⟨_, rfl, _, _, rfl, rfl, _, rfl, t₁, _, _, _, rfl, rfl, ht, rfl, ?_⟩
  refine ⟨_, rfl, ?_⟩
  refine ⟨_, rfl, t₁, _, _, _, rfl, rfl, SqL.of upd_same, rfl, s₁, _, rfl, .inl (hs' _), _, _, rfl, rfl, _, rfl, ?_⟩
  refine ite2 (fun c9 => ?_) (fun _ => ?_)
  ·have c8 : (0 : Int) < (ns.length : Int) := by
    have c7 : (0 : Int) < ((ns.map V.int).length : Int) := of_decide_eq_true c9
    rw [hl] at c7; exact c7
   obtain ⟨z, hz⟩ := pickI (ns := ns) (r := p % (ns.length : Int)) (Int.emod_nonneg _ (by omega)) (Int.emod_lt_of_pos _ c8)
   rw [← hl] at hz c8
   refine ⟨_, rfl, t₁, _, _, _, rfl, rfl, SqL.of upd_same, rfl, _, rfl, _, rfl, t₁, _, _, _, rfl, rfl, SqL.of upd_same, rfl, s₁, _, rfl, .inl (hs' _), _, _, rfl, rfl, c8, s₁, _, _, _, rfl, rfl, hs' _, hz, ?_⟩
   refine ⟨_, rfl, _, _, rfl, rfl, ⟨by decide, by decide, by decide⟩, _, _, rfl, rfl, _, rfl, ?_⟩
   refine ite2 (fun _ => ?_) (fun d1 => ?_)
   ·refine iteT ?_
    refine ⟨_, rfl, _, _, rfl, rfl, (by show (0 : Int) < _; decide), _, _, rfl, rfl, _, rfl, _, _, rfl, rfl, (by show (0 : Int) < _; decide), _, _, rfl, rfl, .inl ⟨by omega, by omega⟩, _, _, rfl, rfl, _, _, rfl, rfl, .inl ⟨by omega, by omega⟩, _, _, rfl, rfl, (by show (0 : Int) < _; decide), ?_⟩
    refine ⟨_, rfl, _, rfl, _, _, rfl, rfl, .inl ⟨by omega, by omega⟩, _, _, rfl, rfl, _, _, rfl, rfl, .inr ⟨by decide, by decide⟩, _, _, rfl, rfl, (by show (0 : Int) < _; decide), _, _, rfl, rfl, ⟨by decide, by decide⟩, _, rfl, _, _, rfl, rfl, hm0, ?_⟩
    exact k _ _ (Int.emod_nonneg _ (by omega)) (Int.emod_lt_of_pos _ hm0) (tap (p + 1) q (by omega) hq0)
   ·refine ⟨_, rfl, _, rfl, t₁, _, _, _, rfl, rfl, SqL.of upd_same, rfl, s₁, _, rfl, .inl (hs' _), _, _, rfl, rfl, _, rfl, ?_⟩
    refine ite2 (fun _ => ?_) (fun _ => ?_)
    ·refine ⟨_, rfl, _, _, rfl, rfl, (by show (0 : Int) < _; decide), _, _, rfl, rfl, _, rfl, _, _, rfl, rfl, (by show (0 : Int) < _; decide), _, _, rfl, rfl, .inl ⟨by omega, by omega⟩, _, _, rfl, rfl, _, _, rfl, rfl, .inl ⟨by omega, by omega⟩, _, _, rfl, rfl, (by show (0 : Int) < _; decide), ?_⟩
     refine ⟨_, rfl, _, rfl, _, _, rfl, rfl, .inl ⟨by omega, by omega⟩, _, _, rfl, rfl, _, _, rfl, rfl, .inr ⟨by decide, by decide⟩, _, _, rfl, rfl, (by show (0 : Int) < _; decide), _, _, rfl, rfl, ⟨by decide, by decide⟩, _, rfl, _, _, rfl, rfl, hm0, ?_⟩
     exact k _ _ (Int.emod_nonneg _ (by omega)) (Int.emod_lt_of_pos _ hm0) (tap (p + 1) q (by omega) hq0)
    ·have d2 : (0 : Int) ≤ z := by
      have d3 : 1000000000000000000 ≤ z := by simpa using d1
      omega
     refine ⟨_, rfl, _, rfl, t₁, _, _, _, rfl, rfl, upd_same, rfl, ?_⟩
     rw [upd_upd]
     refine ⟨_, rfl, t₁, _, _, _, rfl, rfl, SqL.of upd_same, rfl, _, rfl, _, _, rfl, rfl, hm0, ?_⟩
     refine ⟨_, rfl, t₁, _, _, _, rfl, rfl, SqL.of upd_same, rfl, _, rfl, _, _, rfl, rfl, ⟨hm0, hm1⟩, _, rfl, t₁, _, _, _, rfl, rfl, upd_same, rfl, ?_⟩
     refine ⟨_, rfl, ?_⟩
     rw [upd_upd]
     exact k _ _ (Int.emod_nonneg _ (by omega)) (Int.emod_lt_of_pos _ hm0) (tap (p + 1) (z / m) (by omega) (Int.ediv_nonneg d2 (by omega)))
  ·obtain ⟨z, hz⟩ : ∃ z, z = p := ⟨_, rfl⟩
   refine ⟨_, rfl, _, _, rfl, rfl, ⟨by decide, by decide, by decide⟩, _, _, rfl, rfl, _, rfl, ?_⟩
   refine ite2 (fun _ => ?_) (fun d1 => ?_)
   ·refine iteT ?_
    refine ⟨_, rfl, _, _, rfl, rfl, (by show (0 : Int) < _; decide), _, _, rfl, rfl, _, rfl, _, _, rfl, rfl, (by show (0 : Int) < _; decide), _, _, rfl, rfl, .inl ⟨by omega, by omega⟩, _, _, rfl, rfl, _, _, rfl, rfl, .inl ⟨by omega, by omega⟩, _, _, rfl, rfl, (by show (0 : Int) < _; decide), ?_⟩
    refine ⟨_, rfl, _, rfl, _, _, rfl, rfl, .inl ⟨by omega, by omega⟩, _, _, rfl, rfl, _, _, rfl, rfl, .inr ⟨by decide, by decide⟩, _, _, rfl, rfl, (by show (0 : Int) < _; decide), _, _, rfl, rfl, ⟨by decide, by decide⟩, _, rfl, _, _, rfl, rfl, hm0, ?_⟩
    exact k _ _ (Int.emod_nonneg _ (by omega)) (Int.emod_lt_of_pos _ hm0) (tap (p + 1) q (by omega) hq0)
   ·refine ⟨_, rfl, _, rfl, t₁, _, _, _, rfl, rfl, SqL.of upd_same, rfl, s₁, _, rfl, .inl (hs' _), _, _, rfl, rfl, _, rfl, ?_⟩
    refine ite2 (fun _ => ?_) (fun _ => ?_)
    ·refine ⟨_, rfl, _, _, rfl, rfl, (by show (0 : Int) < _; decide), _, _, rfl, rfl, _, rfl, _, _, rfl, rfl, (by show (0 : Int) < _; decide), _, _, rfl, rfl, .inl ⟨by omega, by omega⟩, _, _, rfl, rfl, _, _, rfl, rfl, .inl ⟨by omega, by omega⟩, _, _, rfl, rfl, (by show (0 : Int) < _; decide), ?_⟩
     refine ⟨_, rfl, _, rfl, _, _, rfl, rfl, .inl ⟨by omega, by omega⟩, _, _, rfl, rfl, _, _, rfl, rfl, .inr ⟨by decide, by decide⟩, _, _, rfl, rfl, (by show (0 : Int) < _; decide), _, _, rfl, rfl, ⟨by decide, by decide⟩, _, rfl, _, _, rfl, rfl, hm0, ?_⟩
     exact k _ _ (Int.emod_nonneg _ (by omega)) (Int.emod_lt_of_pos _ hm0) (tap (p + 1) q (by omega) hq0)
    ·have d2 : (0 : Int) ≤ p := by
      have d3 : 1000000000000000000 ≤ p := by simpa using d1
      omega
     refine ⟨_, rfl, _, rfl, t₁, _, _, _, rfl, rfl, upd_same, rfl, ?_⟩
     rw [upd_upd]
     refine ⟨_, rfl, t₁, _, _, _, rfl, rfl, SqL.of upd_same, rfl, _, rfl, _, _, rfl, rfl, hm0, ?_⟩
     refine ⟨_, rfl, t₁, _, _, _, rfl, rfl, SqL.of upd_same, rfl, _, rfl, _, _, rfl, rfl, ⟨hm0, hm1⟩, _, rfl, t₁, _, _, _, rfl, rfl, upd_same, rfl, ?_⟩
     refine ⟨_, rfl, ?_⟩
     rw [upd_upd]
     exact k _ _ (Int.emod_nonneg _ (by omega)) (Int.emod_lt_of_pos _ hm0) (tap (p + 1) (p / m) (by omega) (Int.ediv_nonneg d2 (by omega)))
 refine iteD0 (fun z => c0 (by injection z)) ?_
 refine ⟨_, rfl, t₁, _, _, _, rfl, rfl, SqL.of ht, rfl, _, rfl, _, _, rfl, rfl, hm0, ?_⟩
 refine ⟨_, rfl, t₁, _, _, _, rfl, rfl, SqL.of ht, rfl, _, rfl, _, _, rfl, rfl, ⟨hm0, hm1⟩, _, rfl, t₁, _, _, _, rfl, rfl, ht, rfl, ?_⟩
 refine ⟨_, rfl, ?_⟩
 exact k _ _ (Int.emod_nonneg _ (by omega)) (Int.emod_lt_of_pos _ hm0) (tap p (q / m) hp0 (Int.ediv_nonneg hq0 (by omega)))
theorem ok_Q7 (T : Txt K mg t) : FnOk P w K mg base CX0 1 t.a_Q7 t.d_Q7 ["_law_due", "_law_found"] (sp_law_alike K) := by
 refine T.F_Q7.ok sc_Q7 (fun vs H Q E h => ?_) (fun cdv A outer s H vs Q E hr h => ?_)
 ·obtain ⟨_, _, _, rfl, _⟩ := h; rfl
 obtain ⟨v, w, d, rfl, hv, hw, dp, sm, k⟩ := h
 refine QSs.ok (qss_cons (qs_if (qw_pt (qw_or (qt_val (qe_callB call_isiD (by rfl) T.z_isinstance boot_isinstance (qa_cons (qv 0) (qa_cons (qe_bltn (v := V.ty "tuple") rfl T.z_tuple boot_tuple rfl) qa_nil star_name) star_name))) (qw_or1 (qt_val (qe_callB call_isiD (by rfl) T.z_isinstance boot_isinstance (qa_cons (qv 0) (qa_cons (qe_bltn (v := V.ty "list") rfl T.z_list boot_list rfl) qa_nil star_name) star_name)))))) (qss_cons (qs_if (qt_cmpR op_ne (qe_callB call_isiD (by rfl) T.z_isinstance boot_isinstance (qa_cons (qv 0) (qa_cons (qe_bltn (v := V.ty "tuple") rfl T.z_tuple boot_tuple rfl) qa_nil star_name) star_name)) (qe_callB call_isiD (by rfl) T.z_isinstance boot_isinstance (qa_cons (qv 1) (qa_cons (qe_bltn (v := V.ty "tuple") rfl T.z_tuple boot_tuple rfl) qa_nil star_name) star_name)) (nomark _)) (qss_one (qs_ret qe_bl)) qss_nil)
   (qss_cons (qs_if (qt_cmpR op_ne (qe_callB call_isiD (by rfl) T.z_isinstance boot_isinstance (qa_cons (qv 0) (qa_cons (qe_bltn (v := V.ty "list") rfl T.z_list boot_list rfl) qa_nil star_name) star_name)) (qe_callB call_isiD (by rfl) T.z_isinstance boot_isinstance (qa_cons (qv 1) (qa_cons (qe_bltn (v := V.ty "list") rfl T.z_list boot_list rfl) qa_nil star_name) star_name)) (nomark _)) (qss_one (qs_ret qe_bl)) qss_nil)
   (qss_cons (qs_if (qt_cmpR op_ne (qe_callB call_len_seq (by rfl) T.z_len boot_len (qa_cons (qv 0) qa_nil star_name)) (qe_callB call_len_seq (by rfl) T.z_len boot_len (qa_cons (qv 1) qa_nil star_name)) (nomark _)) (qss_one (qs_ret qe_bl)) qss_nil)
   (qss_one qs_never)))) qss_nil)
   (qss_cons (qs_if (qt_cmpR op_isN (qv 0) qe_non (nomark _)) (qss_one (qs_ret (qe_cmpR op_isN (qv 1) qe_non (nomark _)))) qss_nil)
   (qss_cons (qs_if (qt_val (qe_callB call_isiD (by rfl) T.z_isinstance boot_isinstance (qa_cons (qv 0) (qa_cons (qe_bltn (v := V.ty "str") rfl T.z_str boot_str rfl) qa_nil star_name) star_name))) (qss_one (qs_ret (qe_and (qe_callB call_isiD (by rfl) T.z_isinstance boot_isinstance (qa_cons (qv 1) (qa_cons (qe_bltn (v := V.ty "str") rfl T.z_str boot_str rfl) qa_nil star_name) star_name)) (qe_one (qe_cmpR op_eq (qv 1) (qv 0) (nomark _)))))) qss_nil)
   (qss_cons (qs_if (qt_val (qe_callB call_isiD (by rfl) T.z_isinstance boot_isinstance (qa_cons (qv 0) (qa_cons (qe_bltn (v := V.ty "bool") rfl T.z_bool boot_bool rfl) qa_nil star_name) star_name))) (qss_one (qs_ret (qe_and (qe_callB call_isiD (by rfl) T.z_isinstance boot_isinstance (qa_cons (qv 1) (qa_cons (qe_bltn (v := V.ty "bool") rfl T.z_bool boot_bool rfl) qa_nil star_name) star_name)) (qe_one (qe_cmpR op_eq (qv 1) (qv 0) (nomark _)))))) qss_nil)
   (qss_one (qs_ret (qe_and (qe_callB call_isiD (by rfl) T.z_isinstance boot_isinstance (qa_cons (qv 1) (qa_cons (qe_bltn (v := V.ty "int") rfl T.z_int boot_int rfl) qa_nil star_name) star_name)) (qe_and (qe_not (qe_callB call_isiD (by rfl) T.z_isinstance boot_isinstance (qa_cons (qv 1) (qa_cons (qe_bltn (v := V.ty "bool") rfl T.z_bool boot_bool rfl) qa_nil star_name) star_name))) (qe_one (qe_cmpR op_eq (qv 1) (qv 0) (nomark _))))))))))) ?_
 cases hv with
 | non =>
  cases hw
  refine ⟨_, rfl, _, _, _, _, rfl, .non, kq_NoneType_tuple, _, rfl, iteF ?_⟩
  refine ⟨_, rfl, _, _, _, _, rfl, .non, kq_NoneType_list, _, rfl, iteF ?_⟩
  refine ⟨_, rfl, rfl, _, rfl, iteT ?_⟩
  exact ⟨_, rfl, rfl, k H (Same.refl H)⟩
 | bl b =>
  cases hw
  refine ⟨_, rfl, _, _, _, _, rfl, .bl b, kq_bool_tuple, _, rfl, iteF ?_⟩
  refine ⟨_, rfl, _, _, _, _, rfl, .bl b, kq_bool_list, _, rfl, iteF ?_⟩
  refine ⟨_, rfl, rfl, _, rfl, iteD0 (by intro z; cases z) ?_⟩
  refine ⟨_, rfl, _, _, _, _, rfl, .bl b, kq_bool_str, _, rfl, iteF ?_⟩
  refine ⟨_, rfl, _, _, _, _, rfl, .bl b, kq_bool_bool, _, rfl, iteT ?_⟩
  refine ⟨_, rfl, _, _, _, _, rfl, .bl b, kq_bool_bool, _, rfl, iteT ?_⟩
  have := k H (Same.refl H)
  exact ⟨_, rfl, _, rfl, rfl, by rw [decide_eq_true rfl]; exact this⟩
 | int i =>
  cases hw
  refine ⟨_, rfl, _, _, _, _, rfl, .int i, kq_int_tuple, _, rfl, iteF ?_⟩
  refine ⟨_, rfl, _, _, _, _, rfl, .int i, kq_int_list, _, rfl, iteF ?_⟩
  refine ⟨_, rfl, rfl, _, rfl, iteD0 (by intro z; cases z) ?_⟩
  refine ⟨_, rfl, _, _, _, _, rfl, .int i, kq_int_str, _, rfl, iteF ?_⟩
  refine ⟨_, rfl, _, _, _, _, rfl, .int i, kq_int_bool, _, rfl, iteF ?_⟩
  refine ⟨_, rfl, _, _, _, _, rfl, .int i, kq_int_int, _, rfl, iteT ?_⟩
  refine ⟨_, rfl, _, _, _, _, rfl, .int i, kq_int_bool, _, rfl, _, rfl, iteT ?_⟩
  have := k H (Same.refl H)
  exact ⟨_, rfl, _, rfl, rfl, by rw [decide_eq_true rfl]; exact this⟩
 | str x =>
  cases hw
  refine ⟨_, rfl, _, _, _, _, rfl, .str x, kq_str_tuple, _, rfl, iteF ?_⟩
  refine ⟨_, rfl, _, _, _, _, rfl, .str x, kq_str_list, _, rfl, iteF ?_⟩
  refine ⟨_, rfl, rfl, _, rfl, iteD0 (by intro z; cases z) ?_⟩
  refine ⟨_, rfl, _, _, _, _, rfl, .str x, kq_str_str, _, rfl, iteT ?_⟩
  refine ⟨_, rfl, _, _, _, _, rfl, .str x, kq_str_str, _, rfl, iteT ?_⟩
  have := k H (Same.refl H)
  exact ⟨_, rfl, _, rfl, rfl, by rw [decide_eq_true rfl]; exact this⟩
 | lst e h => exact absurd dp (Nat.not_succ_le_zero _)
 | tup e h => exact absurd dp (Nat.not_succ_le_zero _)
theorem ok_Q18 (T : Txt K mg t) : FnOk P w K mg base CX0 1 t.a_Q18 t.d_Q18 ["_law_top", "_law_bottom"] (sp_law_frac K) := by
 refine T.F_Q18.ok sc_Q18 (fun vs H Q E h => ?_) (fun cdv A outer s H vs Q E hr h => ?_)
 ·obtain ⟨_, _, rfl, _⟩ := h; rfl
 obtain ⟨a, b, rfl, hb, hz, k⟩ := h
 refine QSs.ok (qss_cons (qs_par (i := 2) (j := 3) rfl sc_Q18.nd rfl rfl (by decide) rfl rfl (qa_cons (qe_callB call_abs (by rfl) T.z_abs boot_abs (qa_cons (qv 0) qa_nil star_name)) (qa_cons (qv 1) qa_nil star_name) star_call) rfl)
   (qss_cons (qs_while PassesOwn.never (qt_cmpR op_ne (qv 3) qe_int (nomark _))
   (qss_one (qs_par (i := 2) (j := 3) rfl sc_Q18.nd rfl rfl (by decide) rfl rfl (qa_cons (qv 3) (qa_cons (qe_op op_mod (qv 2) (qv 3)) qa_nil star_bin) star_name) rfl)))
   (qss_one (qs_ret (qe_tup (qa_cons (qe_op op_quo (qv 0) (qv 2)) (qa_cons (qe_op op_quo (qv 1) (qv 2)) qa_nil star_bin) star_bin)))))) ?_
 have gp := gcd_posR (a := a) hb
 have gb := gcd_lt (a := a) hb hz
 refine ⟨_, rfl, _, rfl, _, rfl, _, _, rfl, ?_⟩
 rw [abs_if]
 refine ⟨fun m σ H' => ∃ (x y : Int), σ = [some (.int a), some (.int b), some (.int x), some (.int y)] /\ H' = H /\ 0 ≤ x /\ 0 ≤ y /\ Int.gcd x y = Int.gcd a b /\ m = y.toNat, ⟨_, _, _, rfl, rfl, by omega, by omega, (by simp [Int.gcd]), rfl⟩, ?_⟩
 rintro m σ H' ⟨x, y, rfl, rfl, hx, hy, hg, rfl⟩
 refine ⟨_, rfl, rfl, _, rfl, ?_⟩
 by_cases c : y = 0
 ·subst c
  refine iteNS rfl ?_
  have e : (x : Int) = (Int.gcd x 0 : Nat) := by simp [Int.gcd]; omega
  rw [hg] at e
  subst e
  exact ⟨_, rfl, _, rfl, _, _, rfl, rfl, ⟨gp, gb⟩, _, rfl, _, rfl, _, _, rfl, rfl, ⟨gp, gb⟩, zl2, fun p hp => k p hp⟩
 ·refine iteN1 (fun z => c (by injection z)) ?_
  refine ⟨_, fun _ _ z => z, ?_⟩
  refine ⟨_, rfl, _, rfl, _, rfl, _, _, rfl, rfl, (by omega), _, _, rfl, ?_⟩
  refine ⟨_, ?_, y, x % y, rfl, rfl, hy, Int.emod_nonneg _ c, ?_, rfl⟩
  ·have := Int.emod_lt_of_pos x (show 0 < y by omega)
   have := Int.emod_nonneg x c
   omega
  ·rw [gcd_turn hx (by omega), hg]
theorem ok_Q23 (T : Txt K mg t) : FnOk P w K mg base CX0 2 t.a_Q23 t.d_Q23 ["_law_one", "_law_other"] (sp_law_add K) := by
 refine T.F_Q23.ok sc_Q23 (fun vs H Q E h => ?_) (fun cdv A outer s H vs Q E hr h => ?_)
 ·obtain ⟨_, _, _, _, _, _, rfl, _⟩ := h; rfl
 obtain ⟨v, w, r, q, n, m, rfl, hv, hw, wr, wq, hz, k⟩ := h
 refine QSs.ok (qss_one (qs_ret (qcA (ok_Q18 T) hr T.m_Q18 T.F_Q18.kp T.b_Q18 (qa_cons (qe_op op_add (qe_op op_mulB (qxA ix_tup (qv 0) qe_int) (qxA ix_tup (qv 1) qe_int)) (qe_op op_mulB (qxA ix_tup (qv 1) qe_int) (qxA ix_tup (qv 0) qe_int))) (qa_cons (qe_op op_mulB (qxA ix_tup (qv 0) qe_int) (qxA ix_tup (qv 1) qe_int)) qa_nil star_bin) star_bin)))) ?_
 obtain ⟨p, rfl, hv⟩ := hv
 obtain ⟨p', rfl, hw⟩ := hw
 have c1 := big_of wr.top (show n ≤ 4000 by omega)
 have c2 := big_of wr.bot (show n ≤ 4000 by omega)
 have c3 := big_of wq.top (show m ≤ 4000 by omega)
 have c4 := big_of wq.bot (show m ≤ 4000 by omega)
 refine ⟨_, rfl, p, _, _, _, rfl, rfl, hv, rfl, _, rfl, p', _, _, _, rfl, rfl, hw, rfl, _, _, rfl, rfl, ⟨c1, c4⟩, _, rfl, p', _, _, _, rfl, rfl, hw, rfl, _, rfl, p, _, _, _, rfl, rfl, hv, rfl, _, _, rfl, rfl, ⟨c3, c2⟩, _, _, rfl, rfl, _, rfl, p, _, _, _, rfl, rfl, hv, rfl, _, rfl, p', _, _, _, rfl, rfl, hw, rfl, _, _, rfl, rfl, ⟨c2, c4⟩, _, _, rfl, Int.mul_pos wr.pos wq.pos, big_of (mul_lt wr.bot wq.bot) (by omega), k⟩
theorem ok_Q24 (T : Txt K mg t) : FnOk P w K mg base CX0 2 t.a_Q24 t.d_Q24 ["_law_one", "_law_other"] (sp_law_mul K) := by
 refine T.F_Q24.ok sc_Q24 (fun vs H Q E h => ?_) (fun cdv A outer s H vs Q E hr h => ?_)
 ·obtain ⟨_, _, _, _, _, _, rfl, _⟩ := h; rfl
 obtain ⟨v, w, r, q, n, m, rfl, hv, hw, wr, wq, hz, k⟩ := h
 refine QSs.ok (qss_one (qs_ret (qcA (ok_Q18 T) hr T.m_Q18 T.F_Q18.kp T.b_Q18 (qa_cons (qe_op op_mulB (qxA ix_tup (qv 0) qe_int) (qxA ix_tup (qv 1) qe_int)) (qa_cons (qe_op op_mulB (qxA ix_tup (qv 0) qe_int) (qxA ix_tup (qv 1) qe_int)) qa_nil star_bin) star_bin)))) ?_
 obtain ⟨p, rfl, hv⟩ := hv
 obtain ⟨p', rfl, hw⟩ := hw
 have c1 := big_of wr.top (show n ≤ 4000 by omega)
 have c2 := big_of wr.bot (show n ≤ 4000 by omega)
 have c3 := big_of wq.top (show m ≤ 4000 by omega)
 have c4 := big_of wq.bot (show m ≤ 4000 by omega)
 refine ⟨_, rfl, p, _, _, _, rfl, rfl, hv, rfl, _, rfl, p', _, _, _, rfl, rfl, hw, rfl, _, _, rfl, rfl, ⟨c1, c3⟩, _, rfl, p, _, _, _, rfl, rfl, hv, rfl, _, rfl, p', _, _, _, rfl, rfl, hw, rfl, _, _, rfl, rfl, ⟨c2, c4⟩, _, _, rfl, Int.mul_pos wr.pos wq.pos, big_of (mul_lt wr.bot wq.bot) (by omega), k⟩
theorem ok_Q19 (T : Txt K mg t) : FnOk P w K mg base CX0 1 t.a_Q19 t.d_Q19 ["_law_one", "_law_other"] (sp_law_less K) := by
 refine T.F_Q19.ok sc_Q19 (fun vs H Q E h => ?_) (fun cdv A outer s H vs Q E hr h => ?_)
 ·obtain ⟨_, _, _, _, _, _, rfl, _⟩ := h; rfl
 obtain ⟨v, w, r, q, n, m, rfl, hv, hw, wr, wq, hz, k⟩ := h
 refine QSs.ok (qss_one (qs_ret (qe_cmpR op_lt (qe_op op_mulB (qxA ix_tup (qv 0) qe_int) (qxA ix_tup (qv 1) qe_int)) (qe_op op_mulB (qxA ix_tup (qv 1) qe_int) (qxA ix_tup (qv 0) qe_int)) (nomark _)))) ?_
 obtain ⟨p, rfl, hv⟩ := hv
 obtain ⟨p', rfl, hw⟩ := hw
 have c1 := big_of wr.top (show n ≤ 4000 by omega)
 have c2 := big_of wr.bot (show n ≤ 4000 by omega)
 have c3 := big_of wq.top (show m ≤ 4000 by omega)
 have c4 := big_of wq.bot (show m ≤ 4000 by omega)
 refine ⟨_, rfl, p, _, _, _, rfl, rfl, hv, rfl, _, rfl, p', _, _, _, rfl, rfl, hw, rfl, _, _, rfl, rfl, ⟨c1, c4⟩, _, rfl, p', _, _, _, rfl, rfl, hw, rfl, _, rfl, p, _, _, _, rfl, rfl, hv, rfl, _, _, rfl, rfl, ⟨c3, c2⟩, _, _, rfl, rfl, k⟩
theorem ok_Q25 (T : Txt K mg t) : FnOk P w K mg base CX0 3 t.a_Q25 t.d_Q25 ["_law_some"] (sp_law_sum K) := by
 refine T.F_Q25.ok sc_Q25 (fun vs H Q E h => ?_) (fun cdv A outer s H vs Q E hr h => ?_)
 ·obtain ⟨_, _, _, rfl, _⟩ := h; rfl
 obtain ⟨a, xs, rs, rfl, hS, al, wf, hl, k⟩ := h
 refine QSs.ok (qss_cons (qsA 1 sc_Q25.nd (qe_tup (qa_cons qe_int (qa_cons qe_int qa_nil star_con) star_con)))
   (qss_cons (qs_for PassesOwn.never rfl (qi_list (qv 0)) (qg_name (i := 2) sc_Q25.nd rfl (by first | exact Or.inl rfl | exact Or.inr rfl))
   (qss_one (qsA 1 sc_Q25.nd (qcA (ok_Q23 T) hr T.m_Q23 T.F_Q23.kp T.b_Q23 (qa_cons (qv 1) (qa_cons (qv 2) qa_nil star_name) star_name)))))
   (qss_one (qs_ret (qv 1))))) ?_
 have hlen := al.len
 refine ⟨zl2, fun p0 hp0 => ?_⟩
 have s0 := same_new hp0 (.tup [.int 0, .int 1])
 refine ⟨_, rfl, a, rfl, ⟨_, s0.seq hS⟩, for_list (K := K) (a := a) (xs := xs) (fun i σ H' => ∃ (u : V) (x3 : Option V), σ = [some (.ref a), some u, x3] /\ Same H H' /\ RV K H' u (sumR (rs.take i)) /\ Wf (1 + 5 * i) (sumR (rs.take i))) ⟨_, none, rfl, s0, RV.of upd_same, zero_wf⟩ (fun i σ H1 _ ⟨_, _, _, s1, _⟩ => s1.seq hS) ?_ ?_⟩
 ·rintro i y σ H1 hi ⟨u, x3, rfl, s1, ru, wu⟩
  obtain ⟨r, hr, rv⟩ := al.at hi
  have wr := wf r (List.mem_of_getElem? hr)
  have hil := (List.getElem?_eq_some_iff.mp hr).1
  have e : sumR (rs.take (i + 1)) = plusR (sumR (rs.take i)) r := by
   unfold sumR
   rw [List.take_add_one, hr, List.foldl_append]
   rfl
  refine ⟨_, rfl, _, rfl, u, y, sumR (rs.take i), r, 1 + 5 * i, 4, rfl, ru, rv.mono (Tst.same s1), wu, wr, by omega, fun p hp => ?_⟩
  have s2 := same_new hp (.tup [.int (plusR (sumR (rs.take i)) r).1, .int (plusR (sumR (rs.take i)) r).2])
  refine ⟨_, _, rfl, s1.trans s2, ?_, ?_⟩
  ·rw [e]; exact RV.of upd_same
  ·rw [e]; exact (plus_wf wu wr).mono (by omega)
 ·rintro σ H1 ⟨u, x3, rfl, s1, ru, wu⟩
  rw [hlen, List.take_length] at ru
  exact ⟨_, rfl, k u H1 s1 ru⟩
theorem ok_Q8 (T : Txt K mg t) : FnOk P w K mg base CX0 2 t.a_Q8 t.d_Q8 ["_law_tape_here", "_law_many"] (sp_law_works K) := by
 refine T.F_Q8.ok sc_Q8 (fun vs H Q E h => ?_) (fun cdv A outer s H vs Q E hr h => ?_)
 ·obtain ⟨_, _, _, rfl, _⟩ := h; rfl
 obtain ⟨t₁, s₁, m, rfl, tp, hm, k⟩ := h
 refine QSs.ok (qss_cons (qsA 2 sc_Q8.nd (qxA ix_list (qe_lst (qa_cons qe_int (qa_cons qe_int (qa_cons qe_int (qa_cons qe_int qa_nil star_con) star_con) star_con) star_con)) (qcA (ok_Q17 T) hr T.m_Q17 T.F_Q17.kp T.b_Q17 (qa_cons (qv 0) (qa_cons qe_int qa_nil star_con) star_name))))
   (qss_cons (qsA 3 sc_Q8.nd (qe_lst qa_nil))
   (qss_cons (qs_for PassesOwn.never rfl (qi_range1 rfl T.z_range (qa_cons (qv 1) qa_nil star_name)) (qg_name (i := 4) sc_Q8.nd rfl (by first | exact Or.inl rfl | exact Or.inr rfl))
   (qss_cons (qsA 5 sc_Q8.nd (qcA (ok_Q17 T) hr T.m_Q17 T.F_Q17.kp T.b_Q17 (qa_cons (qv 0) (qa_cons (qv 2) qa_nil star_name) star_name)))
   (qss_cons (qsA 6 sc_Q8.nd (qe_op op_add (qv 5) (qcA (ok_Q17 T) hr T.m_Q17 T.F_Q17.kp T.b_Q17 (qa_cons (qv 0) (qa_cons (qe_op op_sub (qv 2) (qv 5)) qa_nil star_bin) star_name))))
   (qss_cons (qsA 7 sc_Q8.nd (qcA (ok_Q17 T) hr T.m_Q17 T.F_Q17.kp T.b_Q17 (qa_cons (qv 0) (qa_cons qe_int qa_nil star_con) star_name)))
   (qss_cons (qs_if (qt_cmpR op_eq (qv 7) qe_int (nomark _)) (qss_one (qsA 6 sc_Q8.nd (qv 5))) qss_nil)
   (qss_cons (qs_if (qt_cmpR op_eq (qv 7) qe_int (nomark _)) (qss_one (qs_par (i := 5) (j := 6) rfl sc_Q8.nd rfl rfl (by decide) rfl rfl (qa_cons qe_int (qa_cons (qe_op op_sub (qv 2) qe_int) qa_nil star_bin) star_con) rfl)) qss_nil)
   (qss_cons (qs_if (qw_pt (qw_and (qt_cmpR op_eq (qv 7) qe_int (nomark _)) (qw_and1 (qt_cmpR op_gt (qv 4) qe_int (nomark _))))) (qss_one (qs_asg (qe_slice sl_tupU (qxA ix_list (qv 3) (qcA (ok_Q17 T) hr T.m_Q17 T.F_Q17.kp T.b_Q17 (qa_cons (qv 0) (qa_cons (qv 4) qa_nil star_name) star_name))) qo_none (qo_some qe_int)) (qg_tup rfl (qgs_cons (qg_name (i := 5) sc_Q8.nd rfl (by first | exact Or.inl rfl | exact Or.inr rfl)) (qgs_cons (qg_name (i := 6) sc_Q8.nd rfl (by first | exact Or.inl rfl | exact Or.inr rfl)) qgs_nil))))) qss_nil)
   (qss_one (qs_expr (qe_bm PySem.F.plainAttrs_list PySem.F.slot_list_append PySem.F.type_list_append mt_append (qv 3) (qa_cons (qe_tup (qa_cons (qv 5) (qa_cons (qv 6) (qa_cons (qcA (ok_Q18 T) hr T.m_Q18 T.F_Q18.kp T.b_Q18 (qa_cons (qe_op op_add qe_int (qcA (ok_Q17 T) hr T.m_Q17 T.F_Q17.kp T.b_Q17 (qa_cons (qv 0) (qa_cons qe_int qa_nil star_con) star_name))) (qa_cons (qxA ix_list (qe_lst (qa_cons qe_int (qa_cons qe_int (qa_cons qe_int (qa_cons qe_int (qa_cons qe_int (qa_cons qe_int qa_nil star_con) star_con) star_con) star_con) star_con) star_con)) (qcA (ok_Q17 T) hr T.m_Q17 T.F_Q17.kp T.b_Q17 (qa_cons (qv 0) (qa_cons qe_int qa_nil star_con) star_name))) qa_nil star_sub) star_bin)) qa_nil star_call) star_name) star_name)) qa_nil star_tup)))))))))))
   (qss_one (qs_ret (qe_callTy call_tuple_of (by rfl) T.z_tuple boot_tuple (qa_cons (qv 3) qa_nil star_name))))))) ?_
 obtain ⟨y0, e0⟩ := tp.lst
 refine ⟨zl4, fun le hle => ?_⟩
 have nle : le ≠ t₁ := fun z => by subst z; rw [e0] at hle; cases hle
 have s0 := same_new hle (.lst [.int 3, .int 7, .int 12, .int 24])
 have T0 := tp.new hle (.lst [.int 3, .int 7, .int 12, .int 24])
 have h00 : upd H le (.lst [.int 3, .int 7, .int 12, .int 24]) le = some (.lst [.int 3, .int 7, .int 12, .int 24]) := upd_same
 generalize upd H le (.lst [.int 3, .int 7, .int 12, .int 24]) = H0 at T0 s0 h00 ⊢
 obtain ⟨y00, e00⟩ := T0.lst
 refine ⟨_, rfl, t₁, s₁, 4, rfl, T0, by omega, by omega, fun r0 x0_ a0 b0 T0 => ?_⟩
 have S0 : Step t₁ H (upd H0 t₁ (.lst x0_)) := (Step.same s0 tp.lst).trans (Step.up e00)
 have h01 : upd H0 t₁ (.lst x0_) le = some (.lst [.int 3, .int 7, .int 12, .int 24]) := by rw [upd_ne nle]; exact h00
 generalize upd H0 t₁ (.lst x0_) = HA at T0 S0 h01 ⊢
 rename_i T0'
 obtain ⟨en, hen, en1, en2⟩ : ∃ e : Nat, atI [V.int 3, .int 7, .int 12, .int 24] r0 = some (.int e) /\ 3 ≤ e /\ e ≤ 24 := by
  rcases (show r0 = 0 ∨ r0 = 1 ∨ r0 = 2 ∨ r0 = 3 by omega) with rfl | rfl | rfl | rfl
  ·exact ⟨3, rfl, by decide, by decide⟩
  ·exact ⟨7, rfl, by decide, by decide⟩
  ·exact ⟨12, rfl, by decide, by decide⟩
  ·exact ⟨24, rfl, by decide, by decide⟩
 refine ⟨le, _, _, _, rfl, rfl, SqL.of h01, hen, ?_⟩
 refine ⟨(by show 0 ≤ sizeLine; exact Nat.zero_le _), fun lw hlw0 => ?_⟩
 obtain ⟨yA, eA⟩ := T0.lst
 have nl : lw ≠ t₁ := fun z => by subst z; rw [eA] at hlw0; cases hlw0
 have nls := T0.off hlw0
 refine ⟨_, rfl, m, rfl, by omega, by omega, for_range (lo := 0) (n := (m : Int).toNat) (fun i σ H' => ∃ (xs : List V) (ws : List Wk) (x5 x6 x7 x8 : Option V), σ = [some (.ref t₁), some (.int m), some (.int en), some (.ref lw), x5, x6, x7, x8] /\ Tape3 K H' t₁ s₁ /\ (∀ b o, b ≠ t₁ -> HA b = some o -> H' b = some o) /\ H' lw = some (.lst xs) /\ Als (WkV K H') xs ws /\ ws.length = i /\ ∀ w ∈ ws, WkOk w) ⟨[], [], none, none, none, none, rfl, T0.new hlw0 _, (fun b o _ q => same_new hlw0 _ _ _ q), upd_same, .nil, rfl, fun w hw => by cases hw⟩ ?_ ?_⟩
 ·rintro i σ H1 hi ⟨xs, ws, x5, x6, x7, x8, rfl, T1, kp, hlw, alw, hlen, okw⟩
  rw [Int.zero_add]
  obtain ⟨y1, e1⟩ := T1.lst
  refine ⟨_, rfl, _, rfl, t₁, s₁, en, rfl, T1, by omega, by omega, fun r2 x2_ a2 b2 T2 => ?_⟩
  obtain ⟨ff, rfl⟩ := Int.eq_ofNat_of_zero_le a2
  have S2 : Step t₁ H1 _ := Step.up (ys := x2_) e1
  generalize upd H1 t₁ (.lst x2_) = H2 at T2 S2 ⊢
  obtain ⟨y2, e2⟩ := T2.lst
  refine ⟨_, rfl, _, rfl, _, rfl, _, rfl, _, _, rfl, rfl, t₁, s₁, (en : Int) - ff, rfl, T2, by omega, by omega, fun r3 x3_ a3 b3 T3 => ?_⟩
  have S3 := S2.trans (Step.up (ys := x3_) e2)
  generalize upd H2 t₁ (.lst x3_) = H3 at T3 S3 ⊢
  obtain ⟨y3, e3⟩ := T3.lst
  refine ⟨_, _, rfl, rfl, ?_⟩
  obtain ⟨la, hla⟩ : ∃ la : Nat, (ff : Int) + r3 = (la : Nat) := ⟨((ff : Int) + r3).toNat, by omega⟩
  dsimp only
  rw [hla]
  refine ⟨_, rfl, t₁, s₁, 7, rfl, T3, by omega, by omega, fun r4 x4_ a4 b4 T4 => ?_⟩
  have S4 := S3.trans (Step.up (ys := x4_) e3)
  generalize hHH : upd H3 t₁ (.lst x4_) = HH at T4 S4 ⊢
  have kp4 := S4.keep
  have tst4 : Tst K H1 HH := Tst.step S4
  refine ⟨_, rfl, rfl, _, rfl, ?_⟩
  by_cases c0 : r4 = 0
  ·subst c0
   refine iteD1 rfl ?_
   refine ⟨_, rfl, ?_⟩
   refine ⟨_, rfl, rfl, _, rfl, iteD0 (by intro z; cases z) ?_⟩
   refine ⟨_, rfl, rfl, _, rfl, iteF (iteF ?_)⟩
   obtain ⟨y4, e4⟩ := T4.lst
   have hlw4 : HH lw = some (.lst xs) := kp4 _ _ nl hlw
   refine ⟨_, rfl, .inl ⟨rfl, _, SqL.of hlw4⟩, ?_⟩
   refine ⟨_, rfl, _, rfl, _, rfl, t₁, s₁, 12, rfl, T4, by omega, by omega, fun r5 x5_ a5 b5 T5 => ?_⟩
   have S5 : Step t₁ HH _ := Step.up (ys := x5_) e4
   generalize upd HH t₁ (.lst x5_) = H5 at T5 S5 ⊢
   obtain ⟨y5, e5⟩ := T5.lst
   refine ⟨_, _, rfl, rfl, zl6, fun l6 h6 => ?_⟩
   have S6 := S5.trans (Step.new T5.lst h6 (.lst [.int 1, .int 1, .int 2, .int 3, .int 4, .int 7]))
   have n6 : l6 ≠ t₁ := fun z => by subst z; rw [e5] at h6; cases h6
   have T6' := T5.new h6 (.lst [.int 1, .int 1, .int 2, .int 3, .int 4, .int 7])
   obtain ⟨y6, e6⟩ := T6'.lst
   have h6' : upd H5 l6 (.lst [.int 1, .int 1, .int 2, .int 3, .int 4, .int 7]) l6 = some (.lst [.int 1, .int 1, .int 2, .int 3, .int 4, .int 7]) := upd_same
   generalize upd H5 l6 (.lst [.int 1, .int 1, .int 2, .int 3, .int 4, .int 7]) = H6 at T6' S6 e6 h6' ⊢
   refine ⟨_, rfl, t₁, s₁, 6, rfl, T6', by omega, by omega, fun r7 x7_ a7 b7 T7 => ?_⟩
   have S7 := S6.trans (Step.up (ys := x7_) e6)
   have h67 : upd H6 t₁ (.lst x7_) l6 = some (.lst [.int 1, .int 1, .int 2, .int 3, .int 4, .int 7]) := by rw [upd_ne n6]; exact h6'
   generalize upd H6 t₁ (.lst x7_) = H7 at T7 S7 h67 ⊢
   obtain ⟨bb, hbb, bo1, bo2, bo3⟩ : ∃ b : Int, atI [V.int 1, .int 1, .int 2, .int 3, .int 4, .int 7] r7 = some (.int b) /\ 1 ≤ b /\ b ≤ 7 /\ b ∣ 84 := by
    rcases (show r7 = 0 ∨ r7 = 1 ∨ r7 = 2 ∨ r7 = 3 ∨ r7 = 4 ∨ r7 = 5 by omega) with rfl | rfl | rfl | rfl | rfl | rfl
    ·exact ⟨1, rfl, by decide, by decide, by decide⟩
    ·exact ⟨1, rfl, by decide, by decide, by decide⟩
    ·exact ⟨2, rfl, by decide, by decide, by decide⟩
    ·exact ⟨3, rfl, by decide, by decide, by decide⟩
    ·exact ⟨4, rfl, by decide, by decide, by decide⟩
    ·exact ⟨7, rfl, by decide, by decide, by decide⟩
   refine ⟨l6, _, _, _, rfl, rfl, SqL.of h67, hbb, ?_⟩
   refine ⟨1 + r5, bb, rfl, by omega, big_of (n := 3) (by show bb.natAbs < 8; omega) (by decide), fun pf hpf => ?_⟩
   have am := amOk_mk (a := 1 + r5) (by omega) (by omega) bo1 bo2 bo3
   have s8 := same_new hpf (.tup [.int (mkR (1 + r5) bb).1, .int (mkR (1 + r5) bb).2])
   have rf : RV K _ (.ref pf) (mkR (1 + r5) bb) := ⟨pf, rfl, SqT.of (upd_same (H := H7) (a := pf) (o := .tup [.int (mkR (1 + r5) bb).1, .int (mkR (1 + r5) bb).2]))⟩
   have T8 := T7.same s8
   generalize upd H7 pf (.tup [.int (mkR (1 + r5) bb).1, .int (mkR (1 + r5) bb).2]) = H8 at T8 s8 rf ⊢
   refine ⟨zl3, fun pw hpw => ?_⟩
   have s9 := same_new hpw (.tup [.int (ff : Nat), .int (ff : Nat), .ref pf])
   have hpw9 : SqT K _ pw [.int (ff : Nat), .int (ff : Nat), .ref pf] := SqT.of (upd_same (H := H8) (a := pw) (o := .tup [.int (ff : Nat), .int (ff : Nat), .ref pf]))
   have T9 := T8.same s9
   have rf9 := rf.mono (Tst.same s9)
   generalize upd H8 pw (.tup [.int (ff : Nat), .int (ff : Nat), .ref pf]) = H9 at T9 s9 rf9 hpw9 ⊢
   have S9 := S7.trans (Step.same (s8.trans s9) T7.lst)
   have hlw9 := S9.keep _ _ nl hlw4
   refine ⟨lw, xs, _, rfl, rfl, hlw9, small1000 (by rw [alw.len]; omega), ?_⟩
   have t9 : Tst K H1 (upd H9 lw (.lst (xs ++ [.ref pw]))) := (tst4.trans (Tst.step S9)).trans (Tst.up hlw9 _)
   refine ⟨_, ws ++ [(ff, ff, mkR (1 + r5) bb)], _, _, _, _, rfl, T9.upl nl nls _, fun b o nb q => ?_, upd_same, (alw.mono fun v d m => m.mono t9).snoc ⟨pw, .ref pf, rfl, Tst.up (K := K) hlw9 _ _ _ hpw9, rf9.mono (Tst.up hlw9 _)⟩, by rw [List.length_append, hlen]; rfl, fun z hz => ?_⟩
   ·rw [upd_ne (ne_of_none q hlw0)]
    exact S9.keep _ _ nb (kp4 _ _ nb (kp b o nb q))
   ·rcases List.mem_append.mp hz with h | h
    ·exact okw z h
    ·rw [List.mem_singleton] at h
     subst h
     exact ⟨by show ff ≤ ff; omega, by show ff < 24; omega, am⟩
  refine iteD0 (fun z => c0 (by injection z)) ?_
  refine ⟨_, rfl, rfl, _, rfl, ?_⟩
  by_cases c1 : r4 = 1
  ·subst c1
   refine iteD1 rfl ?_
   refine ⟨_, rfl, _, _, rfl, rfl, _, _, rfl, ?_⟩
   refine ⟨_, rfl, rfl, _, rfl, iteF (iteF ?_)⟩
   dsimp only
   rw [show (en : Int) - 1 = ((en - 1 : Nat) : Int) by omega]
   obtain ⟨y4, e4⟩ := T4.lst
   have hlw4 : HH lw = some (.lst xs) := kp4 _ _ nl hlw
   refine ⟨_, rfl, .inl ⟨rfl, _, SqL.of hlw4⟩, ?_⟩
   refine ⟨_, rfl, _, rfl, _, rfl, t₁, s₁, 12, rfl, T4, by omega, by omega, fun r5 x5_ a5 b5 T5 => ?_⟩
   have S5 : Step t₁ HH _ := Step.up (ys := x5_) e4
   generalize upd HH t₁ (.lst x5_) = H5 at T5 S5 ⊢
   obtain ⟨y5, e5⟩ := T5.lst
   refine ⟨_, _, rfl, rfl, zl6, fun l6 h6 => ?_⟩
   have S6 := S5.trans (Step.new T5.lst h6 (.lst [.int 1, .int 1, .int 2, .int 3, .int 4, .int 7]))
   have n6 : l6 ≠ t₁ := fun z => by subst z; rw [e5] at h6; cases h6
   have T6' := T5.new h6 (.lst [.int 1, .int 1, .int 2, .int 3, .int 4, .int 7])
   obtain ⟨y6, e6⟩ := T6'.lst
   have h6' : upd H5 l6 (.lst [.int 1, .int 1, .int 2, .int 3, .int 4, .int 7]) l6 = some (.lst [.int 1, .int 1, .int 2, .int 3, .int 4, .int 7]) := upd_same
   generalize upd H5 l6 (.lst [.int 1, .int 1, .int 2, .int 3, .int 4, .int 7]) = H6 at T6' S6 e6 h6' ⊢
   refine ⟨_, rfl, t₁, s₁, 6, rfl, T6', by omega, by omega, fun r7 x7_ a7 b7 T7 => ?_⟩
   have S7 := S6.trans (Step.up (ys := x7_) e6)
   have h67 : upd H6 t₁ (.lst x7_) l6 = some (.lst [.int 1, .int 1, .int 2, .int 3, .int 4, .int 7]) := by rw [upd_ne n6]; exact h6'
   generalize upd H6 t₁ (.lst x7_) = H7 at T7 S7 h67 ⊢
   obtain ⟨bb, hbb, bo1, bo2, bo3⟩ : ∃ b : Int, atI [V.int 1, .int 1, .int 2, .int 3, .int 4, .int 7] r7 = some (.int b) /\ 1 ≤ b /\ b ≤ 7 /\ b ∣ 84 := by
    rcases (show r7 = 0 ∨ r7 = 1 ∨ r7 = 2 ∨ r7 = 3 ∨ r7 = 4 ∨ r7 = 5 by omega) with rfl | rfl | rfl | rfl | rfl | rfl
    ·exact ⟨1, rfl, by decide, by decide, by decide⟩
    ·exact ⟨1, rfl, by decide, by decide, by decide⟩
    ·exact ⟨2, rfl, by decide, by decide, by decide⟩
    ·exact ⟨3, rfl, by decide, by decide, by decide⟩
    ·exact ⟨4, rfl, by decide, by decide, by decide⟩
    ·exact ⟨7, rfl, by decide, by decide, by decide⟩
   refine ⟨l6, _, _, _, rfl, rfl, SqL.of h67, hbb, ?_⟩
   refine ⟨1 + r5, bb, rfl, by omega, big_of (n := 3) (by show bb.natAbs < 8; omega) (by decide), fun pf hpf => ?_⟩
   have am := amOk_mk (a := 1 + r5) (by omega) (by omega) bo1 bo2 bo3
   have s8 := same_new hpf (.tup [.int (mkR (1 + r5) bb).1, .int (mkR (1 + r5) bb).2])
   have rf : RV K _ (.ref pf) (mkR (1 + r5) bb) := ⟨pf, rfl, SqT.of (upd_same (H := H7) (a := pf) (o := .tup [.int (mkR (1 + r5) bb).1, .int (mkR (1 + r5) bb).2]))⟩
   have T8 := T7.same s8
   generalize upd H7 pf (.tup [.int (mkR (1 + r5) bb).1, .int (mkR (1 + r5) bb).2]) = H8 at T8 s8 rf ⊢
   refine ⟨zl3, fun pw hpw => ?_⟩
   have s9 := same_new hpw (.tup [.int (0 : Nat), .int ((en - 1) : Nat), .ref pf])
   have hpw9 : SqT K _ pw [.int (0 : Nat), .int ((en - 1) : Nat), .ref pf] := SqT.of (upd_same (H := H8) (a := pw) (o := .tup [.int (0 : Nat), .int ((en - 1) : Nat), .ref pf]))
   have T9 := T8.same s9
   have rf9 := rf.mono (Tst.same s9)
   generalize upd H8 pw (.tup [.int (0 : Nat), .int ((en - 1) : Nat), .ref pf]) = H9 at T9 s9 rf9 hpw9 ⊢
   have S9 := S7.trans (Step.same (s8.trans s9) T7.lst)
   have hlw9 := S9.keep _ _ nl hlw4
   refine ⟨lw, xs, _, rfl, rfl, hlw9, small1000 (by rw [alw.len]; omega), ?_⟩
   have t9 : Tst K H1 (upd H9 lw (.lst (xs ++ [.ref pw]))) := (tst4.trans (Tst.step S9)).trans (Tst.up hlw9 _)
   refine ⟨_, ws ++ [(0, (en - 1), mkR (1 + r5) bb)], _, _, _, _, rfl, T9.upl nl nls _, fun b o nb q => ?_, upd_same, (alw.mono fun v d m => m.mono t9).snoc ⟨pw, .ref pf, rfl, Tst.up (K := K) hlw9 _ _ _ hpw9, rf9.mono (Tst.up hlw9 _)⟩, by rw [List.length_append, hlen]; rfl, fun z hz => ?_⟩
   ·rw [upd_ne (ne_of_none q hlw0)]
    exact S9.keep _ _ nb (kp4 _ _ nb (kp b o nb q))
   ·rcases List.mem_append.mp hz with h | h
    ·exact okw z h
    ·rw [List.mem_singleton] at h
     subst h
     exact ⟨by show 0 ≤ (en - 1); omega, by show (en - 1) < 24; omega, am⟩
  refine iteD0 (fun z => c1 (by injection z)) ?_
  refine ⟨_, rfl, rfl, _, rfl, ?_⟩
  by_cases c2 : r4 = 2
  ·subst c2
   refine iteT ?_
   refine ⟨_, rfl, _, _, rfl, rfl, _, rfl, ?_⟩
   by_cases ci : 0 < i
   ·refine iteD1 (by omega) ?_
    obtain ⟨y4, e4⟩ := T4.lst
    have hlw4 : HH lw = some (.lst xs) := kp4 _ _ nl hlw
    refine ⟨_, rfl, _, rfl, _, rfl, t₁, s₁, i, rfl, T4, by omega, by omega, fun r9 x9_ a9 b9 T9 => ?_⟩
    have S9' := S4.trans (Step.up (ys := x9_) e4)
    have hlwN : upd HH t₁ (.lst x9_) lw = some (.lst xs) := by rw [upd_ne nl]; exact hlw4
    clear hHH kp4 tst4 T4
    generalize upd HH t₁ (.lst x9_) = HN at T9 S9' hlwN ⊢
    obtain ⟨j, rfl⟩ := Int.eq_ofNat_of_zero_le a9
    obtain ⟨xw, hxw⟩ : ∃ xw, xs[j]? = some xw := ⟨_, List.getElem?_eq_getElem (by rw [alw.len]; omega)⟩
    obtain ⟨w, hw, pw0, xa, rfl, hSw, ra⟩ := alw.at hxw
    have okw0 := okw w (List.mem_of_getElem? hw)
    have hSwN := Tst.step (K := K) S9' _ _ hSw
    refine ⟨lw, _, _, _, rfl, rfl, SqL.of hlwN, atI_nat hxw, ?_⟩
    refine ⟨_, rfl, pw0, _, rfl, hSwN, fun pc HQ sQ hpc => ?_⟩
    rw [show cutV [V.int (w.1 : Nat), V.int (w.2.1 : Nat), xa] none (some 2) = [V.int (w.1 : Nat), V.int (w.2.1 : Nat)] from cut_to (n := 2) (by show 2 ≤ 3; decide)] at hpc
    refine ⟨pc, _, rfl, hpc, rfl, _, _, rfl, _, _, rfl, rfl, ?_⟩
    have S4 := S9'.trans (Step.same sQ T9.lst)
    have T4 := T9.same sQ
    have kp4 := S4.keep
    have tst4 : Tst K H1 HQ := Tst.step S4
    have lew := okw0.le
    have ltw := okw0.lt
    obtain ⟨wf, wl, wr⟩ := w
    replace lew : wf ≤ wl := lew
    replace ltw : wl < 24 := ltw
    clear e4 y4 hlw4
    obtain ⟨y4, e4⟩ := T4.lst
    have hlw4 : HQ lw = some (.lst xs) := kp4 _ _ nl hlw
    refine ⟨_, rfl, .inl ⟨rfl, _, SqL.of hlw4⟩, ?_⟩
    refine ⟨_, rfl, _, rfl, _, rfl, t₁, s₁, 12, rfl, T4, by omega, by omega, fun r5 x5_ a5 b5 T5 => ?_⟩
    have S5 : Step t₁ HQ _ := Step.up (ys := x5_) e4
    generalize upd HQ t₁ (.lst x5_) = H5 at T5 S5 ⊢
    obtain ⟨y5, e5⟩ := T5.lst
    refine ⟨_, _, rfl, rfl, zl6, fun l6 h6 => ?_⟩
    have S6 := S5.trans (Step.new T5.lst h6 (.lst [.int 1, .int 1, .int 2, .int 3, .int 4, .int 7]))
    have n6 : l6 ≠ t₁ := fun z => by subst z; rw [e5] at h6; cases h6
    have T6' := T5.new h6 (.lst [.int 1, .int 1, .int 2, .int 3, .int 4, .int 7])
    obtain ⟨y6, e6⟩ := T6'.lst
    have h6' : upd H5 l6 (.lst [.int 1, .int 1, .int 2, .int 3, .int 4, .int 7]) l6 = some (.lst [.int 1, .int 1, .int 2, .int 3, .int 4, .int 7]) := upd_same
    generalize upd H5 l6 (.lst [.int 1, .int 1, .int 2, .int 3, .int 4, .int 7]) = H6 at T6' S6 e6 h6' ⊢
    refine ⟨_, rfl, t₁, s₁, 6, rfl, T6', by omega, by omega, fun r7 x7_ a7 b7 T7 => ?_⟩
    have S7 := S6.trans (Step.up (ys := x7_) e6)
    have h67 : upd H6 t₁ (.lst x7_) l6 = some (.lst [.int 1, .int 1, .int 2, .int 3, .int 4, .int 7]) := by rw [upd_ne n6]; exact h6'
    generalize upd H6 t₁ (.lst x7_) = H7 at T7 S7 h67 ⊢
    obtain ⟨bb, hbb, bo1, bo2, bo3⟩ : ∃ b : Int, atI [V.int 1, .int 1, .int 2, .int 3, .int 4, .int 7] r7 = some (.int b) /\ 1 ≤ b /\ b ≤ 7 /\ b ∣ 84 := by
     rcases (show r7 = 0 ∨ r7 = 1 ∨ r7 = 2 ∨ r7 = 3 ∨ r7 = 4 ∨ r7 = 5 by omega) with rfl | rfl | rfl | rfl | rfl | rfl
     ·exact ⟨1, rfl, by decide, by decide, by decide⟩
     ·exact ⟨1, rfl, by decide, by decide, by decide⟩
     ·exact ⟨2, rfl, by decide, by decide, by decide⟩
     ·exact ⟨3, rfl, by decide, by decide, by decide⟩
     ·exact ⟨4, rfl, by decide, by decide, by decide⟩
     ·exact ⟨7, rfl, by decide, by decide, by decide⟩
    refine ⟨l6, _, _, _, rfl, rfl, SqL.of h67, hbb, ?_⟩
    refine ⟨1 + r5, bb, rfl, by omega, big_of (n := 3) (by show bb.natAbs < 8; omega) (by decide), fun pf hpf => ?_⟩
    have am := amOk_mk (a := 1 + r5) (by omega) (by omega) bo1 bo2 bo3
    have s8 := same_new hpf (.tup [.int (mkR (1 + r5) bb).1, .int (mkR (1 + r5) bb).2])
    have rf : RV K _ (.ref pf) (mkR (1 + r5) bb) := ⟨pf, rfl, SqT.of (upd_same (H := H7) (a := pf) (o := .tup [.int (mkR (1 + r5) bb).1, .int (mkR (1 + r5) bb).2]))⟩
    have T8 := T7.same s8
    generalize upd H7 pf (.tup [.int (mkR (1 + r5) bb).1, .int (mkR (1 + r5) bb).2]) = H8 at T8 s8 rf ⊢
    refine ⟨zl3, fun pw hpw => ?_⟩
    have s9 := same_new hpw (.tup [.int (wf : Nat), .int (wl : Nat), .ref pf])
    have hpw9 : SqT K _ pw [.int (wf : Nat), .int (wl : Nat), .ref pf] := SqT.of (upd_same (H := H8) (a := pw) (o := .tup [.int (wf : Nat), .int (wl : Nat), .ref pf]))
    have T9 := T8.same s9
    have rf9 := rf.mono (Tst.same s9)
    generalize upd H8 pw (.tup [.int (wf : Nat), .int (wl : Nat), .ref pf]) = H9 at T9 s9 rf9 hpw9 ⊢
    have S9 := S7.trans (Step.same (s8.trans s9) T7.lst)
    have hlw9 := S9.keep _ _ nl hlw4
    refine ⟨lw, xs, _, rfl, rfl, hlw9, small1000 (by rw [alw.len]; omega), ?_⟩
    have t9 : Tst K H1 (upd H9 lw (.lst (xs ++ [.ref pw]))) := (tst4.trans (Tst.step S9)).trans (Tst.up hlw9 _)
    refine ⟨_, ws ++ [(wf, wl, mkR (1 + r5) bb)], _, _, _, _, rfl, T9.upl nl nls _, fun b o nb q => ?_, upd_same, (alw.mono fun v d m => m.mono t9).snoc ⟨pw, .ref pf, rfl, Tst.up (K := K) hlw9 _ _ _ hpw9, rf9.mono (Tst.up hlw9 _)⟩, by rw [List.length_append, hlen]; rfl, fun z hz => ?_⟩
    ·rw [upd_ne (ne_of_none q hlw0)]
     exact S9.keep _ _ nb (kp4 _ _ nb (kp b o nb q))
    ·rcases List.mem_append.mp hz with h | h
     ·exact okw z h
     ·rw [List.mem_singleton] at h
      subst h
      exact ⟨by show wf ≤ wl; omega, by show wl < 24; omega, am⟩
   ·refine iteD0 (by omega) ?_
    obtain ⟨y4, e4⟩ := T4.lst
    have hlw4 : HH lw = some (.lst xs) := kp4 _ _ nl hlw
    refine ⟨_, rfl, .inl ⟨rfl, _, SqL.of hlw4⟩, ?_⟩
    refine ⟨_, rfl, _, rfl, _, rfl, t₁, s₁, 12, rfl, T4, by omega, by omega, fun r5 x5_ a5 b5 T5 => ?_⟩
    have S5 : Step t₁ HH _ := Step.up (ys := x5_) e4
    generalize upd HH t₁ (.lst x5_) = H5 at T5 S5 ⊢
    obtain ⟨y5, e5⟩ := T5.lst
    refine ⟨_, _, rfl, rfl, zl6, fun l6 h6 => ?_⟩
    have S6 := S5.trans (Step.new T5.lst h6 (.lst [.int 1, .int 1, .int 2, .int 3, .int 4, .int 7]))
    have n6 : l6 ≠ t₁ := fun z => by subst z; rw [e5] at h6; cases h6
    have T6' := T5.new h6 (.lst [.int 1, .int 1, .int 2, .int 3, .int 4, .int 7])
    obtain ⟨y6, e6⟩ := T6'.lst
    have h6' : upd H5 l6 (.lst [.int 1, .int 1, .int 2, .int 3, .int 4, .int 7]) l6 = some (.lst [.int 1, .int 1, .int 2, .int 3, .int 4, .int 7]) := upd_same
    generalize upd H5 l6 (.lst [.int 1, .int 1, .int 2, .int 3, .int 4, .int 7]) = H6 at T6' S6 e6 h6' ⊢
    refine ⟨_, rfl, t₁, s₁, 6, rfl, T6', by omega, by omega, fun r7 x7_ a7 b7 T7 => ?_⟩
    have S7 := S6.trans (Step.up (ys := x7_) e6)
    have h67 : upd H6 t₁ (.lst x7_) l6 = some (.lst [.int 1, .int 1, .int 2, .int 3, .int 4, .int 7]) := by rw [upd_ne n6]; exact h6'
    generalize upd H6 t₁ (.lst x7_) = H7 at T7 S7 h67 ⊢
    obtain ⟨bb, hbb, bo1, bo2, bo3⟩ : ∃ b : Int, atI [V.int 1, .int 1, .int 2, .int 3, .int 4, .int 7] r7 = some (.int b) /\ 1 ≤ b /\ b ≤ 7 /\ b ∣ 84 := by
     rcases (show r7 = 0 ∨ r7 = 1 ∨ r7 = 2 ∨ r7 = 3 ∨ r7 = 4 ∨ r7 = 5 by omega) with rfl | rfl | rfl | rfl | rfl | rfl
     ·exact ⟨1, rfl, by decide, by decide, by decide⟩
     ·exact ⟨1, rfl, by decide, by decide, by decide⟩
     ·exact ⟨2, rfl, by decide, by decide, by decide⟩
     ·exact ⟨3, rfl, by decide, by decide, by decide⟩
     ·exact ⟨4, rfl, by decide, by decide, by decide⟩
     ·exact ⟨7, rfl, by decide, by decide, by decide⟩
    refine ⟨l6, _, _, _, rfl, rfl, SqL.of h67, hbb, ?_⟩
    refine ⟨1 + r5, bb, rfl, by omega, big_of (n := 3) (by show bb.natAbs < 8; omega) (by decide), fun pf hpf => ?_⟩
    have am := amOk_mk (a := 1 + r5) (by omega) (by omega) bo1 bo2 bo3
    have s8 := same_new hpf (.tup [.int (mkR (1 + r5) bb).1, .int (mkR (1 + r5) bb).2])
    have rf : RV K _ (.ref pf) (mkR (1 + r5) bb) := ⟨pf, rfl, SqT.of (upd_same (H := H7) (a := pf) (o := .tup [.int (mkR (1 + r5) bb).1, .int (mkR (1 + r5) bb).2]))⟩
    have T8 := T7.same s8
    generalize upd H7 pf (.tup [.int (mkR (1 + r5) bb).1, .int (mkR (1 + r5) bb).2]) = H8 at T8 s8 rf ⊢
    refine ⟨zl3, fun pw hpw => ?_⟩
    have s9 := same_new hpw (.tup [.int (ff : Nat), .int (la : Nat), .ref pf])
    have hpw9 : SqT K _ pw [.int (ff : Nat), .int (la : Nat), .ref pf] := SqT.of (upd_same (H := H8) (a := pw) (o := .tup [.int (ff : Nat), .int (la : Nat), .ref pf]))
    have T9 := T8.same s9
    have rf9 := rf.mono (Tst.same s9)
    generalize upd H8 pw (.tup [.int (ff : Nat), .int (la : Nat), .ref pf]) = H9 at T9 s9 rf9 hpw9 ⊢
    have S9 := S7.trans (Step.same (s8.trans s9) T7.lst)
    have hlw9 := S9.keep _ _ nl hlw4
    refine ⟨lw, xs, _, rfl, rfl, hlw9, small1000 (by rw [alw.len]; omega), ?_⟩
    have t9 : Tst K H1 (upd H9 lw (.lst (xs ++ [.ref pw]))) := (tst4.trans (Tst.step S9)).trans (Tst.up hlw9 _)
    refine ⟨_, ws ++ [(ff, la, mkR (1 + r5) bb)], _, _, _, _, rfl, T9.upl nl nls _, fun b o nb q => ?_, upd_same, (alw.mono fun v d m => m.mono t9).snoc ⟨pw, .ref pf, rfl, Tst.up (K := K) hlw9 _ _ _ hpw9, rf9.mono (Tst.up hlw9 _)⟩, by rw [List.length_append, hlen]; rfl, fun z hz => ?_⟩
    ·rw [upd_ne (ne_of_none q hlw0)]
     exact S9.keep _ _ nb (kp4 _ _ nb (kp b o nb q))
    ·rcases List.mem_append.mp hz with h | h
     ·exact okw z h
     ·rw [List.mem_singleton] at h
      subst h
      exact ⟨by show ff ≤ la; omega, by show la < 24; omega, am⟩
  refine iteD0 (fun z => c2 (by injection z)) (iteF ?_)
  obtain ⟨y4, e4⟩ := T4.lst
  have hlw4 : HH lw = some (.lst xs) := kp4 _ _ nl hlw
  refine ⟨_, rfl, .inl ⟨rfl, _, SqL.of hlw4⟩, ?_⟩
  refine ⟨_, rfl, _, rfl, _, rfl, t₁, s₁, 12, rfl, T4, by omega, by omega, fun r5 x5_ a5 b5 T5 => ?_⟩
  have S5 : Step t₁ HH _ := Step.up (ys := x5_) e4
  generalize upd HH t₁ (.lst x5_) = H5 at T5 S5 ⊢
  obtain ⟨y5, e5⟩ := T5.lst
  refine ⟨_, _, rfl, rfl, zl6, fun l6 h6 => ?_⟩
  have S6 := S5.trans (Step.new T5.lst h6 (.lst [.int 1, .int 1, .int 2, .int 3, .int 4, .int 7]))
  have n6 : l6 ≠ t₁ := fun z => by subst z; rw [e5] at h6; cases h6
  have T6' := T5.new h6 (.lst [.int 1, .int 1, .int 2, .int 3, .int 4, .int 7])
  obtain ⟨y6, e6⟩ := T6'.lst
  have h6' : upd H5 l6 (.lst [.int 1, .int 1, .int 2, .int 3, .int 4, .int 7]) l6 = some (.lst [.int 1, .int 1, .int 2, .int 3, .int 4, .int 7]) := upd_same
  generalize upd H5 l6 (.lst [.int 1, .int 1, .int 2, .int 3, .int 4, .int 7]) = H6 at T6' S6 e6 h6' ⊢
  refine ⟨_, rfl, t₁, s₁, 6, rfl, T6', by omega, by omega, fun r7 x7_ a7 b7 T7 => ?_⟩
  have S7 := S6.trans (Step.up (ys := x7_) e6)
  have h67 : upd H6 t₁ (.lst x7_) l6 = some (.lst [.int 1, .int 1, .int 2, .int 3, .int 4, .int 7]) := by rw [upd_ne n6]; exact h6'
  generalize upd H6 t₁ (.lst x7_) = H7 at T7 S7 h67 ⊢
  obtain ⟨bb, hbb, bo1, bo2, bo3⟩ : ∃ b : Int, atI [V.int 1, .int 1, .int 2, .int 3, .int 4, .int 7] r7 = some (.int b) /\ 1 ≤ b /\ b ≤ 7 /\ b ∣ 84 := by
   rcases (show r7 = 0 ∨ r7 = 1 ∨ r7 = 2 ∨ r7 = 3 ∨ r7 = 4 ∨ r7 = 5 by omega) with rfl | rfl | rfl | rfl | rfl | rfl
   ·exact ⟨1, rfl, by decide, by decide, by decide⟩
   ·exact ⟨1, rfl, by decide, by decide, by decide⟩
   ·exact ⟨2, rfl, by decide, by decide, by decide⟩
   ·exact ⟨3, rfl, by decide, by decide, by decide⟩
   ·exact ⟨4, rfl, by decide, by decide, by decide⟩
   ·exact ⟨7, rfl, by decide, by decide, by decide⟩
  refine ⟨l6, _, _, _, rfl, rfl, SqL.of h67, hbb, ?_⟩
  refine ⟨1 + r5, bb, rfl, by omega, big_of (n := 3) (by show bb.natAbs < 8; omega) (by decide), fun pf hpf => ?_⟩
  have am := amOk_mk (a := 1 + r5) (by omega) (by omega) bo1 bo2 bo3
  have s8 := same_new hpf (.tup [.int (mkR (1 + r5) bb).1, .int (mkR (1 + r5) bb).2])
  have rf : RV K _ (.ref pf) (mkR (1 + r5) bb) := ⟨pf, rfl, SqT.of (upd_same (H := H7) (a := pf) (o := .tup [.int (mkR (1 + r5) bb).1, .int (mkR (1 + r5) bb).2]))⟩
  have T8 := T7.same s8
  generalize upd H7 pf (.tup [.int (mkR (1 + r5) bb).1, .int (mkR (1 + r5) bb).2]) = H8 at T8 s8 rf ⊢
  refine ⟨zl3, fun pw hpw => ?_⟩
  have s9 := same_new hpw (.tup [.int (ff : Nat), .int (la : Nat), .ref pf])
  have hpw9 : SqT K _ pw [.int (ff : Nat), .int (la : Nat), .ref pf] := SqT.of (upd_same (H := H8) (a := pw) (o := .tup [.int (ff : Nat), .int (la : Nat), .ref pf]))
  have T9 := T8.same s9
  have rf9 := rf.mono (Tst.same s9)
  generalize upd H8 pw (.tup [.int (ff : Nat), .int (la : Nat), .ref pf]) = H9 at T9 s9 rf9 hpw9 ⊢
  have S9 := S7.trans (Step.same (s8.trans s9) T7.lst)
  have hlw9 := S9.keep _ _ nl hlw4
  refine ⟨lw, xs, _, rfl, rfl, hlw9, small1000 (by rw [alw.len]; omega), ?_⟩
  have t9 : Tst K H1 (upd H9 lw (.lst (xs ++ [.ref pw]))) := (tst4.trans (Tst.step S9)).trans (Tst.up hlw9 _)
  refine ⟨_, ws ++ [(ff, la, mkR (1 + r5) bb)], _, _, _, _, rfl, T9.upl nl nls _, fun b o nb q => ?_, upd_same, (alw.mono fun v d m => m.mono t9).snoc ⟨pw, .ref pf, rfl, Tst.up (K := K) hlw9 _ _ _ hpw9, rf9.mono (Tst.up hlw9 _)⟩, by rw [List.length_append, hlen]; rfl, fun z hz => ?_⟩
  ·rw [upd_ne (ne_of_none q hlw0)]
   exact S9.keep _ _ nb (kp4 _ _ nb (kp b o nb q))
  ·rcases List.mem_append.mp hz with h | h
   ·exact okw z h
   ·rw [List.mem_singleton] at h
    subst h
    exact ⟨by show ff ≤ la; omega, by show la < 24; omega, am⟩
 ·rintro σ H1 ⟨xs, ws, x5, x6, x7, x8, rfl, T1, kp, hlw, alw, hlen, okw⟩
  refine ⟨_, rfl, lw, _, rfl, .inl ⟨SqL.of hlw, fun p hp => ?_⟩⟩
  have s5 := same_new hp (.tup xs)
  exact k (.ref p) ws _ ((S0.trans ⟨kp, T0.lst, T1.lst⟩).trans (Step.same s5 T1.lst)) (T1.same s5) ⟨p, xs, rfl, SqT.of upd_same, alw.mono fun _ _ q => q.mono (Tst.same s5)⟩ (by rw [hlen]; omega) okw
theorem ok_Q9 (T : Txt K mg t) : FnOk P w K mg base CX0 1 t.a_Q9 t.d_Q9 ["_law_works_here"] (sp_law_units K) := by
 refine T.F_Q9.ok sc_Q9 (fun vs H Q E h => ?_) (fun cdv A outer s H vs Q E hr h => ?_)
 ·obtain ⟨_, _, rfl, _⟩ := h; rfl
 obtain ⟨v, ws, rfl, ⟨p, xs, rfl, hS, al⟩, hw, ok, k⟩ := h
 refine QSs.ok (qss_one (qs_ret (qe_lcomp (N' := ["_law_work"]) (src := [none]) rfl (by exact (qi_tup (qv 0))) (fun _ _ _ _ _ => (by exact (by exact qg_name (i := 0) (by show List.Nodup (["_law_work"] : List Str); decide +kernel) (by exact rfl) (by first | exact Or.inl rfl | exact Or.inr rfl)))) (fun _ _ _ _ _ => qts_nil) (fun _ _ _ _ _ => (by exact (by exact (qe_op op_fdiv (by exact (qe_op op_mul (by exact (qe_ix (ix_tupK (K := K) (by exact rfl)) (by exact (qe_ix (ix_tupK (K := K) (by exact rfl)) (by exact (qv 0)) qe_int (by exact fun _ _ => rfl))) qe_int (by exact fun _ _ => rfl))) qe_int)) (by exact (qe_ix (ix_tupK (K := K) (by exact rfl)) (by exact (qe_ix (ix_tupK (K := K) (by exact rfl)) (by exact (qv 0)) qe_int (by exact fun _ _ => rfl))) qe_int (by exact fun _ _ => rfl))))))) (by exact trivial) rfl (by decide +kernel) rfl (by decide +kernel) (by exact cells_of rfl trivial)))) ?_
 have hlen := al.len
 refine ⟨_, rfl, p, rfl, ⟨_, hS⟩, fun D hD => comp_ix (wlk_tup hS) (fun _ => true) (fun i => V.int ((unitsM ws).getD i 0)) hD (by omega) (fun i x H' hi s' hx R E kR kE => ?_) fun H4 s4 h4 => ?_⟩
 ·obtain ⟨w, hw', pw, xw, rfl, hSw, px, rfl, hSx⟩ := al.at hx
  have okw := ok w (List.mem_of_getElem? hw')
  have t' := Tst.same (K := K) s'
  have e : (unitsM ws).getD i 0 = w.2.2.1 * 84 / w.2.2.2 := getD_of 0 (by unfold unitsM; rw [List.getElem?_map, hw']; rfl)
  have q := kR rfl _ (Same.refl _)
  rw [e] at q
  have := okw.am.bot
  have := okw.am.bot'
  exact ⟨Ext.set rfl, _, rfl, pw, _, _, _, rfl, rfl, t' _ _ hSw, rfl, px, _, _, _, rfl, rfl, t' _ _ hSx, rfl, _, _, rfl, rfl, .inr ⟨by decide, by decide⟩, _, rfl, pw, _, _, _, rfl, rfl, t' _ _ hSw, rfl, px, _, _, _, rfl, rfl, t' _ _ hSx, rfl, _, _, rfl, rfl, ⟨by omega, by omega⟩, q⟩
 ·refine k D H4 s4 hD ?_
  rw [h4, show xs.length = (unitsM ws).length by unfold unitsM; rw [List.length_map]; exact hlen, by_place_all 0 V.int]
theorem ok_Q3 (T : Txt K mg t) : FnOk P w K mg base CX0 2 t.a_Q3 t.d_Q3 ["_law_works_here", "_law_left"] (sp_law_tightest K) := by
 refine T.F_Q3.ok sc_Q3 (fun vs H Q E h => ?_) (fun cdv A outer s H vs Q E hr h => ?_)
 ·obtain ⟨_, _, _, _, rfl, _⟩ := h; rfl
 obtain ⟨v, q, ws, ls, rfl, ⟨p, xs, rfl, hS, al⟩, hw, ok, hq, l24, kN, k⟩ := h
 refine QSs.ok (qss_cons (qsA 2 sc_Q3.nd (qcA (ok_Q9 T) hr T.m_Q9 T.F_Q9.kp T.b_Q9 (qa_cons (qv 0) qa_nil star_name)))
   (qss_cons (qsA 3 sc_Q3.nd (qe_lst qa_nil))
   (qss_cons (qs_for PassesOwn.never rfl (qi_range1 rfl T.z_range (qa_cons (qe_callB call_len_seq (by rfl) T.z_len boot_len (qa_cons (qv 0) qa_nil star_name)) qa_nil star_call)) (qg_name (i := 4) sc_Q3.nd rfl (by first | exact Or.inl rfl | exact Or.inr rfl))
   (qss_cons (qs_setC (i := 5) (N' := ["_law_k", "_law_left", "_law_works_here", "_law_number"]) (src := [none, some 1, some 0, some 4]) sc_Q3.nd rfl (by first | exact Or.inl rfl | exact Or.inr rfl) rfl (by exact (qi_range1 rfl T.z_range (qa_cons (qe_callB call_len_seq (by rfl) T.z_len boot_len (qa_cons (qv 1) qa_nil star_name)) qa_nil star_call))) (fun _ _ _ _ _ => (by exact (by exact qg_name (i := 0) (by show List.Nodup (["_law_k", "_law_left", "_law_works_here", "_law_number"] : List Str); decide +kernel) (by exact rfl) (by first | exact Or.inl rfl | exact Or.inr rfl)))) (fun _ _ _ _ _ => (qts_one (qt_chain op_le op_le (by exact (qe_ix (ix_tupK (K := K) (by exact rfl)) (by exact (qe_ix (ix_tupK (K := K) (by exact rfl)) (by exact (qv 2)) (by exact (qv 3)) (by exact fun _ _ => rfl))) qe_int (by exact fun _ _ => rfl))) (by exact (qe_ix (ix_listK (K := K) (by exact rfl)) (by exact (qv 1)) (by exact (qv 0)) (by exact fun _ _ => rfl))) (by exact (qe_ix (ix_tupK (K := K) (by exact rfl)) (by exact (qe_ix (ix_tupK (K := K) (by exact rfl)) (by exact (qv 2)) (by exact (qv 3)) (by exact fun _ _ => rfl))) qe_int (by exact fun _ _ => rfl)))))) (fun _ _ _ _ _ => (by exact (by exact (qv 0)))) (by exact ⟨rfl, rfl, rfl, rfl, ⟨rfl, rfl, rfl, rfl, ⟨rfl, rfl, rfl, rfl, trivial⟩⟩⟩) rfl (by decide +kernel) rfl (by decide +kernel) (by exact cells_of rfl ⟨rfl, ⟨rfl, ⟨rfl, trivial⟩⟩⟩))
   (qss_one (qs_if (qt_cmpR op_gt (qe_callB call_len_seq (by rfl) T.z_len boot_len (qa_cons (qv 5) qa_nil star_name)) qe_int (nomark _)) (qss_one (qs_expr (qe_bm PySem.F.plainAttrs_list PySem.F.slot_list_append PySem.F.type_list_append mt_append (qv 3) (qa_cons (qe_tup (qa_cons (qxA ix_list (qv 5) qe_int) (qa_cons (qxA ix_list (qv 5) (qe_un un_neg qe_int)) (qa_cons (qv 4) qa_nil star_name) star_sub) star_sub)) qa_nil star_tup)))) qss_nil))))
   (qss_cons (qsA 6 sc_Q3.nd (qe_tup (qa_cons qe_int (qa_cons qe_int (qa_cons qe_int (qa_cons (qe_lst qa_nil) qa_nil star_lst) star_con) star_con) star_con)))
   (qss_cons (qs_for PassesOwn.never rfl (qi_range1 rfl T.z_range (qa_cons (qe_callB call_len_seq (by rfl) T.z_len boot_len (qa_cons (qv 1) qa_nil star_name)) qa_nil star_call)) (qg_name (i := 7) sc_Q3.nd rfl (by first | exact Or.inl rfl | exact Or.inr rfl))
   (qss_one (qs_for PassesOwn.never rfl (qi_range2 rfl T.z_range (qa_cons (qv 7) (qa_cons (qe_callB call_len_seq (by rfl) T.z_len boot_len (qa_cons (qv 1) qa_nil star_name)) qa_nil star_call) star_name)) (qg_name (i := 8) sc_Q3.nd rfl (by first | exact Or.inl rfl | exact Or.inr rfl))
   (qss_cons (qs_setC (i := 9) (N' := ["_law_span", "_law_begin", "_law_end"]) (src := [none, some 7, some 8]) sc_Q3.nd rfl (by first | exact Or.inl rfl | exact Or.inr rfl) rfl (by exact (qi_list (qv 3))) (fun _ _ _ _ _ => (by exact (by exact qg_name (i := 0) (by show List.Nodup (["_law_span", "_law_begin", "_law_end"] : List Str); decide +kernel) (by exact rfl) (by first | exact Or.inl rfl | exact Or.inr rfl)))) (fun _ _ _ _ _ => (qts_one (qw_pt (qw_and (qt_cmpR op_le (by exact (qv 1)) (by exact (qe_ix (ix_tupK (K := K) (by exact rfl)) (by exact (qv 0)) qe_int (by exact fun _ _ => rfl))) (nomark _)) (qw_and1 (qt_cmpR op_le (by exact (qe_ix (ix_tupK (K := K) (by exact rfl)) (by exact (qv 0)) qe_int (by exact fun _ _ => rfl))) (by exact (qv 2)) (nomark _))))))) (fun _ _ _ _ _ => (by exact (by exact (qe_ix (ix_tupK (K := K) (by exact rfl)) (by exact (qv 0)) qe_int (by exact fun _ _ => rfl))))) (by exact ⟨rfl, rfl, rfl, rfl, ⟨rfl, rfl, rfl, rfl, trivial⟩⟩) rfl (by decide +kernel) rfl (by decide +kernel) (by exact cells_of rfl ⟨rfl, ⟨rfl, trivial⟩⟩))
   (qss_cons (qsA 10 sc_Q3.nd (qe_callB (call_sumL rfl) (by rfl) T.z_sum boot_sum (qa_cons (qe_lcomp (N' := ["_law_number", "_law_units_here"]) (src := [none, some 2]) rfl (by exact (qi_list (qv 9))) (fun _ _ _ _ _ => (by exact (by exact qg_name (i := 0) (by show List.Nodup (["_law_number", "_law_units_here"] : List Str); decide +kernel) (by exact rfl) (by first | exact Or.inl rfl | exact Or.inr rfl)))) (fun _ _ _ _ _ => qts_nil) (fun _ _ _ _ _ => (by exact (by exact (qe_ix (ix_listK (K := K) (by exact rfl)) (by exact (qv 1)) (by exact (qv 0)) (by exact fun _ _ => rfl))))) (by exact ⟨rfl, rfl, rfl, rfl, trivial⟩) rfl (by decide +kernel) rfl (by decide +kernel) (by exact cells_of rfl ⟨rfl, trivial⟩)) qa_nil star_lc)))
   (qss_cons (qsA 11 sc_Q3.nd (qe_op op_add (qe_op op_sub (qv 8) (qv 7)) qe_int))
   (qss_cons (qsA 12 sc_Q3.nd (qe_op op_sub (qe_op op_mul (qv 10) (qxA ix_tup (qv 6) qe_int)) (qe_op op_mul (qxA ix_tup (qv 6) qe_int) (qv 11))))
   (qss_one (qs_if (qw_pt (qw_or (qt_cmpR op_gt (qv 12) qe_int (nomark _)) (qw_or1 (qw_pt (qw_and (qt_cmpR op_eq (qv 12) qe_int (nomark _)) (qw_and (qt_cmpR op_gt (qv 10) qe_int (nomark _)) (qw_and1 (qt_cmpR op_eq (qv 7) (qxA ix_tup (qv 6) qe_int) (nomark _))))))))) (qss_one (qsA 6 sc_Q3.nd (qe_tup (qa_cons (qv 10) (qa_cons (qv 11) (qa_cons (qv 7) (qa_cons (qv 9) qa_nil star_name) star_name) star_name) star_name)))) qss_nil)))))))))
   (qss_cons (qs_if (qt_cmpR op_eq (qxA ix_tup (qv 6) qe_int) qe_int (nomark _)) (qss_one (qs_ret qe_non)) qss_nil)
   (qss_one (qs_ret (qe_tup (qa_cons (qe_callTy call_tuple_of (by rfl) T.z_tuple boot_tuple (qa_cons (qe_slice sl_list (qv 1) (qo_some (qxA ix_tup (qv 6) qe_int)) (qo_some (qe_op op_add (qxA ix_tup (qv 6) qe_int) (qxA ix_tup (qv 6) qe_int)))) qa_nil star_sub)) (qa_cons (qe_callTy call_tuple_of (by rfl) T.z_tuple boot_tuple (qa_cons (qxA ix_tup (qv 6) qe_int) qa_nil star_sub)) qa_nil star_call) star_call)))))))))) ?_
 have nl : (natV ls).length = ls.length := List.length_map _
 have hxl := al.len
 refine ⟨_, rfl, .ref p, ws, rfl, ⟨p, xs, rfl, hS, al⟩, hw, ok, fun lu H1 s1 hu0 hu1 => ?_⟩
 refine ⟨(by show 0 ≤ sizeLine; exact Nat.zero_le _), fun lsn hsn => ?_⟩
 have s2 := same_new hsn (.lst [])
 have s12 := s1.trans s2
 have hsn2 : upd H1 lsn (.lst []) lsn = some (.lst []) := upd_same
 refine ⟨_, rfl, p, _, rfl, .inr (Tst.same (K := K) s12 _ _ hS), _, rfl, by omega, by omega, for_range (lo := 0) (n := (xs.length : Int).toNat) (fun i σ H' => ∃ (ys : List V) (x4 x5 : Option V), σ = [some (.ref p), some (.ref q), some (.ref lu), some (.ref lsn), x4, x5, none, none, none, none, none, none, none] /\ Same H1 H' /\ H' lsn = some (.lst ys) /\ Als (SpV K H') ys (spM (ws.map (winM ls)) i)) ⟨[], none, none, rfl, s2, hsn2, .nil⟩ ?_ ?_⟩
 ·rintro i σ H2 hi ⟨ys, x4, x5, rfl, sm, hl2, al2⟩
  rw [Int.zero_add]
  have sH2 := s1.trans sm
  have tH2 := Tst.same (K := K) sH2
  obtain ⟨x, hx⟩ : ∃ x, xs[i]? = some x := ⟨_, List.getElem?_eq_getElem (by omega)⟩
  obtain ⟨w, hwi, pw, xa, rfl, hSw, ra⟩ := al.at hx
  refine ⟨_, rfl, q, _, rfl, .inl (sH2.seq hq), _, rfl, by omega, by omega, fun D hD => comp_ix wlk_rng (fun j => inW w (ls.getD j 0)) (fun j => V.int j) hD (by omega) (fun j y H' hj s' hy R E kR kE => ?_) fun H4 s4 h4 => ?_⟩
  ·subst hy
   rw [Int.zero_add]
   have tH := Tst.same (K := K) (sH2.trans s')
   obtain ⟨z', hz'⟩ : ∃ z', ls[j]? = some z' := ⟨_, List.getElem?_eq_getElem (by omega)⟩
   rw [getD_of 0 hz'] at kR kE
   refine ⟨Ext.set rfl, _, rfl, _, rfl, p, _, _, _, rfl, rfl, tH _ _ hS, atI_nat hx, pw, _, _, _, rfl, rfl, tH _ _ hSw, rfl, _, rfl, _, rfl, q, _, _, _, rfl, rfl, (sH2.trans s').seq hq, atI_nat (v := V.int (z' : Nat)) (by unfold natV; rw [List.getElem?_map, hz']; rfl), _, _, rfl, rfl, _, rfl, ?_⟩
   by_cases c : w.1 ≤ z'
   ·refine iteD1 (by omega) ?_
    refine ⟨_, rfl, _, rfl, p, _, _, _, rfl, rfl, tH _ _ hS, atI_nat hx, pw, _, _, _, rfl, rfl, tH _ _ hSw, rfl, _, _, rfl, rfl, _, rfl, ?_⟩
    by_cases c' : z' ≤ w.2.1
    ·exact iteD1 (by omega) ⟨_, rfl, kR (by unfold inW; rw [decide_eq_true c, decide_eq_true c']; rfl) _ (Same.refl _)⟩
    ·exact iteD0 (by omega) (kE (by unfold inW; rw [decide_eq_false c', Bool.and_false]) _ (Same.refl _))
   ·refine iteD0 (by omega) ?_
    exact ⟨_, rfl, iteF (kE (by unfold inW; rw [decide_eq_false c, Bool.false_and]) _ (Same.refl _))⟩
  rw [nl, show ((ls.length : Int)).toNat = ls.length by omega] at h4
  replace h4 : H4 D = some (.lst ((plsM ls w).map fun i : Nat => V.int i)) := h4
  have hl4 := s4 _ _ hl2
  have ewi : (ws.map (winM ls)).getD i none = winM ls w := getD_of none (by rw [List.getElem?_map, hwi]; rfl)
  have hle := al2.len
  have hle' := spM_len (ws.map (winM ls)) i
  refine ⟨_, rfl, D, _, rfl, .inl (SqL.of h4), _, _, rfl, rfl, _, rfl, ?_⟩
  cases c : plsM ls w with
  | nil =>
   rw [c] at h4
   refine iteF ?_
   refine ⟨ys, _, _, rfl, sm.trans s4, hl4, ?_⟩
   have e : winM ls w = none := by unfold winM; rw [c]
   rw [e] at ewi
   rw [spM_none ewi]
   exact al2.mono fun _ _ m => m.mono (Tst.same s4)
  | cons a r =>
   rw [c] at h4
   refine iteD1 (by show (0 : Int) < ((List.map (fun i : Nat => V.int i) (a :: r)).length : Int); rw [List.length_map, List.length_cons]; omega) ?_
   have hlast : atI ((a :: r).map fun i : Nat => V.int i) (-1) = some (.int ((a :: r).getLast (by simp) : Nat)) := by
    have e := List.dropLast_concat_getLast (show (a :: r) ≠ [] by simp)
    have e2 : (a :: r).map (fun i : Nat => V.int i) = (a :: r).dropLast.map (fun i : Nat => V.int i) ++ [V.int ((a :: r).getLast (by simp) : Nat)] := by
     conv => lhs; rw [← e]
     rw [List.map_append]; rfl
    rw [e2]
    exact atI_last _ _
   have hfst : atI ((a :: r).map fun i : Nat => V.int i) 0 = some (.int (a : Nat)) := atI_nat (j := 0) rfl
   have e : winM ls w = some (a, (a :: r).getLast (by simp)) := by unfold winM; rw [c]
   rw [e] at ewi
   refine ⟨_, rfl, .inl ⟨rfl, _, SqL.of hl4⟩, _, rfl, D, _, _, _, rfl, rfl, SqL.of h4, hfst, _, rfl, _, rfl, D, _, _, _, rfl, rfl, SqL.of h4, hlast, _, rfl, zl3, fun pt hpt => ?_⟩
   have s5 := same_new hpt (.tup [.int a, .int ((a :: r).getLast (by simp) : Nat), .int i])
   have hl5 := s5 _ _ hl4
   refine ⟨lsn, _, _, rfl, rfl, hl5, small1000 (by omega), ?_⟩
   refine ⟨_, _, _, rfl, ?_, upd_same, ?_⟩
   ·intro b o e
    rw [upd_ne (ne_of_none e hsn)]
    exact s5 _ _ (s4 _ _ (sm _ _ e))
   ·rw [spM_some ewi]
    refine (al2.mono fun v d m => m.mono (((Tst.same s4).trans (Tst.same s5)).trans (Tst.up hl5 _))).snoc ?_
    exact ⟨pt, rfl, Tst.up (K := K) hl5 _ _ _ (SqT.of upd_same)⟩
 ·rintro σ H2 ⟨ys, x4, x5, rfl, sm, hl2, al2⟩
  have hos : (ws.map (winM ls)).length = ws.length := List.length_map _
  rw [show ((xs.length : Int)).toNat = (ws.map (winM ls)).length by rw [hos]; omega] at al2
  have hyl := al2.len
  have hyl' := spM_len (ws.map (winM ls)) (ws.map (winM ls)).length
  have LB := fun r => load_bd (os := ws.map (winM ls)) (units_bd ok) (by omega) r
  have held := sp_held_eq (ws.map (winM ls))
  have hul : (unitsM ws).length = ws.length := List.length_map _
  generalize hO : ws.map (winM ls) = os at *
  generalize hL : loadM os (amF (unitsM ws)) = L at *
  have sH2 := s1.trans sm
  have hu2 : H2 lu = some (.lst ((unitsM ws).map V.int)) := sm _ _ hu1
  refine ⟨(by show 0 ≤ sizeLine; exact Nat.zero_le _), fun l0 h0 => ?_⟩
  have s3 := same_new h0 (.lst [])
  refine ⟨zl4, fun pb0 hpb0 => ?_⟩
  have s4 := same_new hpb0 (.tup [.int 0, .int 1, .int 0, .ref l0])
  have hb0 : SqT K _ pb0 [.int 0, .int 1, .int 0, .ref l0] := SqT.of (upd_same (H := upd H2 l0 (.lst [])) (a := pb0) (o := .tup [.int 0, .int 1, .int 0, .ref l0]))
  have s34 := s3.trans s4
  generalize upd (upd H2 l0 (.lst [])) pb0 (.tup [.int 0, .int 1, .int 0, .ref l0]) = H3 at s34 hb0 ⊢
  refine ⟨_, rfl, q, _, rfl, .inl ((sH2.trans s34).seq hq), _, rfl, by omega, by omega, for_range (lo := 0) (n := ((natV ls).length : Int).toNat) (fun i σ H' => ∃ (pb : Addr) (x7 x8 x9 x10 x11 x12 : Option V), σ = [some (.ref p), some (.ref q), some (.ref lu), some (.ref lsn), x4, x5, some (.ref pb), x7, x8, x9, x10, x11, x12] /\ Same H2 H' /\ BestU K H' os (SeenU ls.length i i) L pb) ⟨pb0, none, none, none, none, none, none, rfl, s34, 0, 1, 0, l0, hb0, .inl ⟨rfl, rfl, rfl, fun r hr => ?_⟩⟩ ?_ ?_⟩
  ·unfold SeenU Sec at hr; omega
  ·rintro i σ HA hi ⟨pb, x7, x8, x9, x10, x11, x12, rfl, sA, best⟩
   rw [Int.zero_add]
   have sHA := sH2.trans sA
   refine ⟨_, rfl, _, rfl, q, _, rfl, .inl (sHA.seq hq), _, _, rfl, ⟨by omega, by omega, by omega, by omega⟩, for_range (lo := i) (n := (((natV ls).length : Int) - i).toNat) (fun j σ H' => ∃ (pb : Addr) (x8 x9 x10 x11 x12 : Option V), σ = [some (.ref p), some (.ref q), some (.ref lu), some (.ref lsn), x4, x5, some (.ref pb), some (.int i), x8, x9, x10, x11, x12] /\ Same H2 H' /\ BestU K H' os (SeenU ls.length i (i + j)) L pb) ⟨pb, x8, x9, x10, x11, x12, rfl, sA, best⟩ ?_ ?_⟩
   ·rintro j σ HB hj ⟨pb, x8, x9, x10, x11, x12, rfl, sB, best⟩
    rw [show (i : Int) + (j : Int) = ((i + j : Nat) : Int) by omega, show i + (j + 1) = i + j + 1 from rfl]
    obtain ⟨e, he⟩ : ∃ e, e = i + j := ⟨_, rfl⟩
    rw [← he] at best ⊢
    have hen : e < ls.length := by omega
    have hie : i ≤ e := by omega
    have hlB := sB _ _ hl2
    have tB := Tst.same (K := K) sB
    refine ⟨_, rfl, lsn, rfl, ⟨_, SqL.of hlB⟩, fun D hD => comp_ix (wlk_lst (SqL.of hlB)) (fun m => holdS (i, e) ((spM os os.length).getD m (0, 0, 0))) (fun m => V.int (((spM os os.length).getD m (0, 0, 0)).2.2 : Nat)) hD (by omega) (fun m x H' hm s' hx R E kR kE => ?_) fun HC sC hC => ?_⟩
    ·obtain ⟨sp, hsp, ps, rfl, hps⟩ := al2.at hx
     rw [getD_of (0, 0, 0) hsp] at kR kE
     have hps' := Tst.same (K := K) (sB.trans s') _ _ hps
     refine ⟨Ext.set rfl, _, rfl, _, rfl, ps, _, _, _, rfl, rfl, hps', rfl, _, _, rfl, rfl, _, rfl, ?_⟩
     by_cases c : i ≤ sp.1
     ·refine iteD1 (by omega) ?_
      refine ⟨_, rfl, ps, _, _, _, rfl, rfl, hps', rfl, _, rfl, _, _, rfl, rfl, _, rfl, ?_⟩
      by_cases c' : sp.2.1 ≤ e
      ·exact iteD1 (by omega) ⟨_, rfl, ps, _, _, _, rfl, rfl, hps', rfl, kR (by show (decide (i ≤ sp.1) && decide (sp.2.1 ≤ e)) = true; rw [decide_eq_true c, decide_eq_true c']; rfl) _ (Same.refl _)⟩
      ·exact iteD0 (by omega) (kE (by show (decide (i ≤ sp.1) && decide (sp.2.1 ≤ e)) = false; rw [decide_eq_false c', Bool.and_false]) _ (Same.refl _))
     ·exact iteD0 (by omega) (iteF (kE (by show (decide (i ≤ sp.1) && decide (sp.2.1 ≤ e)) = false; rw [decide_eq_false c, Bool.false_and]) _ (Same.refl _)))
    have eC : HC D = some (.lst (natV (heldM os (i, e)))) := by
     rw [hC, hyl, by_place (0, 0, 0) (holdS (i, e)) (fun s : Nat × Nat × Nat => V.int (s.2.2 : Nat)), ← held (i, e)]
     unfold natV
     rw [List.map_map]
     rfl
    refine ⟨_, rfl, D, rfl, ⟨_, SqL.of eC⟩, fun E hE => comp_ix (wlk_lst (SqL.of eC)) (fun _ => true) (fun m => V.int (amF (unitsM ws) ((heldM os (i, e)).getD m 0))) hE ?_ (fun m x H' hm s' hx R E kR kE => ?_) fun HE sE hE4 => ?_⟩
    ·unfold natV heldM
     rw [List.length_map]
     have := List.length_filter_le (fun i_1 => holdB i e (os.getD i_1 none)) (List.range os.length)
     rw [List.length_range] at this
     exact Nat.le_trans this (by omega)
    ·unfold natV at hx
     rw [List.getElem?_map] at hx
     obtain ⟨z, hz, rfl⟩ := Option.map_eq_some_iff.mp hx
     have qq := kR rfl _ (Same.refl _)
     rw [getD_of 0 hz] at qq
     have hzl : z < os.length := by
      have := List.mem_of_getElem? hz
      unfold heldM at this
      exact List.mem_range.mp (List.mem_filter.mp this).1
     obtain ⟨y, hy⟩ : ∃ y, (unitsM ws)[z]? = some y := ⟨_, List.getElem?_eq_getElem (by omega)⟩
     rw [show amF (unitsM ws) z = y from getD_of 0 hy] at qq
     exact ⟨Ext.set rfl, _, rfl, _, rfl, lu, _, _, _, rfl, rfl, ((sB.trans sC).trans s').seq (SqL.of hu2), atI_nat (by rw [List.getElem?_map, hy]; rfl), qq⟩
    have e4 : HE E = some (.lst (((heldM os (i, e)).map (amF (unitsM ws))).map V.int)) := by
     rw [hE4, show (natV (heldM os (i, e))).length = (heldM os (i, e)).length from List.length_map _, by_place_all 0 (fun k => V.int (amF (unitsM ws) k)), List.map_map]
     rfl
    have sBE := sC.trans sE
    have sHE := sB.trans sBE
    have eDE := sE _ _ eC
    refine ⟨E, _, rfl, SqL.of e4, ?_⟩
    have eL : ((heldM os (i, e)).map (amF (unitsM ws))).sum = L (i, e) := by rw [← hL]; rfl
    rw [eL]
    have lb := LB (i, e)
    have lp : 1 ≤ lenP (i, e) /\ lenP (i, e) ≤ 24 := by show 1 ≤ (e : Int) - i + 1 /\ (e : Int) - i + 1 ≤ 24; omega
    refine ⟨_, rfl, _, rfl, _, _, rfl, rfl, _, _, rfl, rfl, ?_⟩
    obtain ⟨mn, ln, bg, lbb, hpb, bst⟩ := best
    have hpbE := Tst.same (K := K) sBE _ _ hpb
    have bl : 0 ≤ mn /\ mn ≤ 64512 /\ 0 < ln := by
     rcases bst with ⟨r1, r2, _⟩ | ⟨z, r0, r1, r2, _, _, b⟩
     ·omega
     ·have := LB z
      have := (show Sec ls.length z from b.inn.1).pos
      omega
    refine ⟨_, rfl, _, rfl, pb, _, _, _, rfl, rfl, hpbE, rfl, _, _, rfl, rfl, .inl ⟨by omega, by omega⟩, _, rfl, pb, _, _, _, rfl, rfl, hpbE, rfl, _, rfl, _, _, rfl, rfl, .inl ⟨by omega, by omega⟩, _, _, rfl, rfl, ?_⟩
    have st := fun r => seenU_step (n := ls.length) (b := i) (e := e) hie hen r
    have secs : ∀ r, SeenU ls.length i (e + 1) r -> Sec ls.length r := fun r hr => hr.1
    refine ⟨_, rfl, _, _, rfl, rfl, _, rfl, ?_⟩
    by_cases c : 0 < L (i, e) * ln - mn * lenP (i, e)
    ·refine iteD1 c (iteT ?_)
     refine ⟨_, rfl, _, rfl, _, rfl, _, rfl, zl4, fun pn hpn => ?_⟩
     have s5 := same_new hpn (.tup [.int (L (i, e)), .int (lenP (i, e)), .int (i : Nat), .ref D])
     refine ⟨pn, _, _, _, _, _, rfl, sHE.trans s5, L (i, e), lenP (i, e), (i : Nat), D, SqT.of upd_same, .inr ⟨(i, e), ?_, rfl, rfl, rfl, s5.seq (SqL.of eDE), ?_⟩⟩
     ·rcases bst with ⟨r1, r2, _⟩ | ⟨z, r0, r1, r2, _, _, b⟩
      ·subst r1 r2
       omega
      ·exact bu_pos (ln := ln) lb.1 (show 0 < mn by omega) (show 0 < lenP (i, e) by omega) (by omega)
     ·rcases bst with ⟨r1, r2, _, z⟩ | ⟨z, r0, r1, r2, _, _, b⟩
      ·subst r1 r2
       exact bu_zero st secs z (by omega)
      ·subst r1 r2
       exact b.more secs st (by omega)
    refine iteD0 c ?_
    have stay : BestU K HE os (SeenU ls.length i (e + 1)) L pb ∨ (L (i, e) * ln - mn * lenP (i, e) = 0 /\ 0 < L (i, e) /\ (i : Int) = bg) := by
     rcases bst with ⟨r1, r2, r3, z⟩ | ⟨z, r0, r1, r2, r3, r4, b⟩
     ·refine .inl ⟨mn, ln, bg, lbb, hpbE, .inl ⟨r1, r2, r3, fun r hr => ?_⟩⟩
      rcases (st r).mp hr with h | h
      ·exact z r h
      ·subst r1 r2
       rw [h]
       omega
     ·by_cases cc : L (i, e) * ln - mn * lenP (i, e) = 0 /\ 0 < L (i, e) /\ (i : Int) = bg
      ·exact .inr cc
      ·refine .inl ⟨mn, ln, bg, lbb, hpbE, .inr ⟨z, r0, r1, r2, r3, sBE.seq r4, ?_⟩⟩
       have inn := b.inn
       unfold SeenU at inn
       subst r1 r2 r3
       refine b.stay st (by omega) ?_
       by_cases c0 : L (i, e) * lenP z = L z * lenP (i, e)
       ·left
        have lpos := bu_pos (ln := lenP z) lb.1 r0 (show 0 < lenP (i, e) by omega) (by omega)
        have ne : ¬ (i : Int) = (z.1 : Int) := fun h => cc ⟨by omega, lpos, h⟩
        unfold AheadP
        show z.1 < i ∨ _
        omega
       ·exact .inr c0
    refine ⟨_, rfl, rfl, _, rfl, ?_⟩
    by_cases c0 : L (i, e) * ln - mn * lenP (i, e) = 0
    ·refine iteD1 (congrArg V.int c0) ?_
     refine ⟨_, rfl, _, _, rfl, rfl, _, rfl, ?_⟩
     by_cases cm : 0 < L (i, e)
     ·refine iteD1 cm ?_
      refine ⟨_, rfl, _, rfl, pb, _, _, _, rfl, rfl, hpbE, rfl, rfl, _, rfl, ?_⟩
      by_cases cb : (i : Int) = bg
      ·refine iteD1 (congrArg V.int cb) ?_
       refine ⟨_, rfl, _, rfl, _, rfl, _, rfl, zl4, fun pn hpn => ?_⟩
       have s5 := same_new hpn (.tup [.int (L (i, e)), .int (lenP (i, e)), .int (i : Nat), .ref D])
       refine ⟨pn, _, _, _, _, _, rfl, sHE.trans s5, L (i, e), lenP (i, e), (i : Nat), D, SqT.of upd_same, .inr ⟨(i, e), cm, rfl, rfl, rfl, s5.seq (SqL.of eDE), ?_⟩⟩
       rcases bst with ⟨r1, r2, _, z⟩ | ⟨z, r0, r1, r2, r3, _, b⟩
       ·subst r1 r2
        omega
       ·have inn := b.inn
        unfold SeenU at inn
        subst r1 r2 r3
        exact b.longer secs st (by omega) (show i = z.1 by omega) (show z.2 ≤ e by omega)
      ·refine iteD0 (fun z => cb (by injection z)) ?_
       rcases stay with h | h
       ·exact ⟨pb, _, _, _, _, _, rfl, sHE, h⟩
       ·exact absurd h.2.2 cb
     ·refine iteD0 cm (iteF ?_)
      rcases stay with h | h
      ·exact ⟨pb, _, _, _, _, _, rfl, sHE, h⟩
      ·exact absurd h.2.1 cm
    ·refine iteD0 (fun z => c0 (by injection z)) (iteF ?_)
     rcases stay with h | h
     ·exact ⟨pb, _, _, _, _, _, rfl, sHE, h⟩
     ·exact absurd h.1 c0
   ·rintro σ HB ⟨pb, x8, x9, x10, x11, x12, rfl, sB, best⟩
    refine ⟨pb, _, _, _, _, _, _, rfl, sB, best.mono (Same.refl _) fun r => ?_⟩
    rw [show i + (((natV ls).length : Int) - (i : Int)).toNat = ls.length by omega]
    exact seenU_next r
  ·rintro σ HA ⟨pb, x7, x8, x9, x10, x11, x12, rfl, sA, mn, ln, bg, lb, hpb, best⟩
   rw [show ((natV ls).length : Int).toNat = ls.length by omega] at best
   have sHA := sH2.trans sA
   refine ⟨_, rfl, pb, _, _, _, rfl, rfl, hpb, rfl, rfl, _, rfl, ?_⟩
   rcases best with ⟨r1, r2, r3, z⟩ | ⟨z, r0, r1, r2, r3, r4, b⟩
   ·subst r1
    exact iteD1 rfl (kN HA sHA (load_nv ok fun r hr => by rw [hO, hL]; exact z r ((seenU_all r).mp hr)))
   ·subst r1 r2 r3
    refine iteD0 (fun h => by injection h; omega) ?_
    have sec : Sec ls.length z := b.inn.1
    have c1 : z.1 ≤ z.2 := sec.1
    have c2 : z.2 < ls.length := sec.2
    refine ⟨_, rfl, _, rfl, pb, _, _, _, rfl, rfl, hpb, rfl, _, rfl, _, rfl, pb, _, _, _, rfl, rfl, hpb, rfl, _, rfl, pb, _, _, _, rfl, rfl, hpb, rfl, _, _, rfl, rfl, _, rfl, q, _, rfl, sHA.seq hq, fun pc0 hpc0 => ?_⟩
    rw [show (z.1 : Int) + lenP z = ((z.2 + 1 : Nat) : Int) by unfold lenP; omega, cut_nat (by omega) (by omega)]
    have s5 := same_new hpc0 (.lst (natV ((ls.drop z.1).take (z.2 + 1 - z.1))))
    refine ⟨pc0, _, rfl, .inl ⟨SqL.of upd_same, fun pc hpc => ?_⟩⟩
    have s6 := same_new hpc (.tup (natV ((ls.drop z.1).take (z.2 + 1 - z.1))))
    have s56 := s5.trans s6
    refine ⟨_, rfl, pb, _, _, _, rfl, rfl, Tst.same (K := K) s56 _ _ hpb, rfl, lb, _, rfl, .inl ⟨s56.seq r4, fun pe hpe => ?_⟩⟩
    have s7 := same_new hpe (.tup (natV (heldM os z)))
    refine ⟨zl2, fun pr hpr => ?_⟩
    have s8 := same_new hpr (.tup [.ref pc, .ref pe])
    have it : IsT ws ls z := ⟨by rw [hO, hL]; exact b.congr seenU_all, by rw [hO, hL]; exact r0⟩
    refine k (.ref pr) z _ (by intro h; cases h) (((sHA.trans s56).trans s7).trans s8) it ?_
    have e : lyM ws ls z = (cutM ls z, heldM os z) := by unfold lyM; rw [hO]
    rw [e]
    exact ⟨pr, pc, pe, rfl, SqT.of upd_same, Tst.same (K := K) (s7.trans s8) _ _ (SqT.of upd_same), Tst.same (K := K) s8 _ _ (SqT.of upd_same)⟩
theorem ok_Q4 (T : Txt K mg t) : FnOk P w K mg base CX0 3 t.a_Q4 t.d_Q4 ["_law_works_here"] (sp_law_layers K) := by
 refine T.F_Q4.ok sc_Q4 (fun vs H Q E h => ?_) (fun cdv A outer s H vs Q E hr h => ?_)
 ·obtain ⟨_, _, rfl, _⟩ := h; rfl
 obtain ⟨v, ws, rfl, ⟨p, xs, rfl, hS, al⟩, hw, ok, k⟩ := h
 refine QSs.ok (qss_cons (qsA 1 sc_Q4.nd (qe_callTy (call_listR rfl) (by rfl) T.z_list boot_list (qa_cons (qe_rng1 rfl T.z_range (qa_cons qe_int qa_nil star_con)) qa_nil star_call)))
   (qss_cons (qsA 2 sc_Q4.nd (qe_lst qa_nil))
   (qss_cons (qsA 3 sc_Q4.nd (qcA (ok_Q3 T) hr T.m_Q3 T.F_Q3.kp T.b_Q3 (qa_cons (qv 0) (qa_cons (qv 1) qa_nil star_name) star_name)))
   (qss_cons (qs_while PassesOwn.never (qt_cmpR op_notN (qv 3) qe_non (nomark _))
   (qss_cons (qs_expr (qe_bm PySem.F.plainAttrs_list PySem.F.slot_list_append PySem.F.type_list_append mt_append (qv 2) (qa_cons (qv 3) qa_nil star_name)))
   (qss_cons (qs_setC (i := 1) (N' := ["_law_turn", "_law_layer"]) (src := [none, some 3]) sc_Q4.nd rfl (by first | exact Or.inl rfl | exact Or.inr rfl) rfl (by exact (qi_list (qv 1))) (fun _ _ _ _ _ => (by exact (by exact qg_name (i := 0) (by show List.Nodup (["_law_turn", "_law_layer"] : List Str); decide +kernel) (by exact rfl) (by first | exact Or.inl rfl | exact Or.inr rfl)))) (fun _ _ _ _ _ => (qts_one (qt_cmpR (op_notIn_seqK (K := K) (by exact rfl)) (by exact (qv 0)) (by exact (qe_ix (ix_tupK (K := K) (by exact rfl)) (by exact (qv 1)) qe_int (by exact fun _ _ => rfl))) (by with_unfolding_all rfl)))) (fun _ _ _ _ _ => (by exact (by exact (qv 0)))) (by exact ⟨rfl, rfl, rfl, rfl, trivial⟩) rfl (by decide +kernel) rfl (by decide +kernel) (by exact cells_of rfl ⟨rfl, trivial⟩))
   (qss_one (qsA 3 sc_Q4.nd (qcA (ok_Q3 T) hr T.m_Q3 T.F_Q3.kp T.b_Q3 (qa_cons (qv 0) (qa_cons (qv 1) qa_nil star_name) star_name)))))))
   (qss_one (qs_ret (qv 2))))))) ?_
 have hlen := al.len
 refine ⟨_, rfl, fun pr hpr => ?_⟩
 have s1 := same_new hpr (.rng 0 24)
 refine ⟨pr, 24, rfl, upd_same, by decide, fun q0 hq0 => ?_⟩
 have s2 := same_new hq0 (.lst ((B.upTo 24).map V.int))
 have hq2 : upd (upd H pr (.rng 0 24)) q0 (.lst ((B.upTo 24).map V.int)) q0 = some (.lst (natV (List.range 24))) := by
  have e : natV (List.range 24) = (B.upTo 24).map V.int := by unfold natV B.upTo; rw [List.map_map]; rfl
  rw [e]
  exact upd_same
 have s12 := s1.trans s2
 generalize upd (upd H pr (.rng 0 24)) q0 (.lst ((B.upTo 24).map V.int)) = HA at hq2 s12 ⊢
 refine ⟨(by show 0 ≤ sizeLine; exact Nat.zero_le _), fun l h0 => ?_⟩
 have nql : q0 ≠ l := fun z => by subst z; rw [hq2] at h0; cases h0
 have h00 : H l = none := by
  cases e : H l with
  | none => rfl
  | some o => rw [s12 _ _ e] at h0; cases h0
 have s3 := same_new h0 (.lst [])
 have hl3 : upd HA l (.lst []) l = some (.lst []) := upd_same
 have hq3 := s3 _ _ hq2
 have s03 := s12.trans s3
 generalize upd HA l (.lst []) = HB at hl3 hq3 s03 ⊢
 have nf := nv_full ok
 refine ⟨_, rfl, _, rfl, .ref p, q0, ws, List.range 24, rfl, ⟨p, xs, rfl, Tst.same (K := K) s03 _ _ hS, al.mono fun _ _ m => m.mono (Tst.same s03)⟩, hw, ok, SqL.of hq3, by decide, (fun HC s4 z0 => ?_), fun x0 pl0 HC ne0 s4 it0 lv0 => ?_⟩
 ·refine ⟨fun m σ H' => ∃ (acc : List (List Nat × List Nat)) (ys : List V) (q : Addr) (ls : List Nat) (x : V), σ = [some (.ref p), some (.ref q), some (.ref l), some x] /\ Same H H' /\ H' l = some (.lst ys) /\ Als (LyV K H') ys acc /\ H' q = some (.lst (natV ls)) /\ q ≠ l /\ ls.Nodup /\ (∀ t ∈ ls, t < 24) /\ ls.length ≤ 24 /\ acc.length + nvM ws ls ≤ ws.length /\ (∀ y ∈ acc, LyOk ws.length y) /\ (∀ r, Lys ws ls r -> Lys ws (List.range 24) (acc ++ r)) /\ m = nvM ws ls /\ ((x = .non /\ nvM ws ls = 0) ∨ ∃ pl, x ≠ .non /\ IsT ws ls pl /\ LyV K H' x (lyM ws ls pl)), ⟨_, [], [], q0, List.range 24, _, rfl, s03.trans s4, s4 _ _ hl3, .nil, s4 _ _ hq3, nql, List.nodup_range, (fun t ht => List.mem_range.mp ht), by decide, (by rw [nf]; exact Nat.le_of_eq (Nat.zero_add _)), (fun y hy => by cases hy), (fun r h => h), rfl, .inl ⟨rfl, z0⟩⟩, ?_⟩
  rintro m σ H1 ⟨acc, ys, q, ls, x, rfl, sm, hl1, al1, hq, nq, nd, lt, l24, few, lok, con, rfl, cs⟩
  refine ⟨_, rfl, rfl, _, rfl, ?_⟩
  rcases cs with ⟨rfl, c⟩ | ⟨pl, ne, it, lv⟩
  ·refine iteNS rfl ?_
   have ly := con [] (.nil c)
   rw [List.append_nil] at ly
   exact ⟨_, rfl, k l ys acc H1 sm h00 hl1 al1 ly lok (by omega)⟩
  ·refine iteN1 ne ?_
   refine ⟨_, fun _ _ z => z, ?_⟩
   have sec := isT_sec it
   have hy := al1.len
   have lyo : LyOk ws.length (lyM ws ls pl) := lyM_ok sec l24 lt
   have rst := nv_rest (ws := ws) nd sec
   have hp := it.held
   refine ⟨_, rfl, .inl ⟨rfl, _, SqL.of hl1⟩, _, rfl, l, _, _, rfl, rfl, hl1, small1000 (by omega), ?_⟩
   have t3 : Tst K H1 (upd H1 l (.lst (ys ++ [x]))) := Tst.up hl1 _
   have sm3 : Same H (upd H1 l (.lst (ys ++ [x]))) := fun b o e => by rw [upd_ne (ne_of_none e h00)]; exact sm _ _ e
   have hl3 : upd H1 l (.lst (ys ++ [x])) l = some (.lst (ys ++ [x])) := upd_same
   have al3 : Als (LyV K (upd H1 l (.lst (ys ++ [x])))) (ys ++ [x]) (acc ++ [lyM ws ls pl]) := (al1.mono fun _ _ m => m.mono t3).snoc (lv.mono t3)
   have lv3 := lv.mono t3
   have hq3 : upd H1 l (.lst (ys ++ [x])) q = some (.lst (natV ls)) := by rw [upd_ne nq]; exact hq
   generalize upd H1 l (.lst (ys ++ [x])) = H3 at sm3 hl3 al3 lv3 hq3 ⊢
   obtain ⟨pL, a, b, rfl, hpL, ha, hb⟩ := lv3
   have nl : (natV ls).length = ls.length := List.length_map _
   refine ⟨_, rfl, q, rfl, ⟨_, SqL.of hq3⟩, fun D hD => comp_ix (wlk_lst (SqL.of hq3)) (fun i => !(cutM ls pl).contains (ls.getD i 0)) (fun i => V.int (ls.getD i 0 : Nat)) hD (by omega) (fun i x H' hi s' hx R E kR kE => ?_) fun H4 s4 h4 => ?_⟩
   ·unfold natV at hx
    rw [List.getElem?_map] at hx
    obtain ⟨z, hz, rfl⟩ := Option.map_eq_some_iff.mp hx
    rw [getD_of 0 hz] at kR kE
    have t' := Tst.same (K := K) s'
    refine ⟨Ext.set rfl, _, rfl, _, rfl, pL, _, _, _, rfl, rfl, t' _ _ hpL, rfl, a, _, rfl, .inr (t' _ _ ha), rfl, flat_nat _, _, rfl, ?_⟩
    have e : inV (.int (z : Nat)) (natV (lyM ws ls pl).1) = (cutM ls pl).contains z := inV_int z (cutM ls pl)
    cases cz : (cutM ls pl).contains z with
    | true => exact iteB0 (by show (!inV (.int (z : Nat)) (natV (lyM ws ls pl).1)) = false; rw [e, cz]; rfl) (kE (by rw [cz]; rfl) _ (Same.refl _))
    | false => exact iteB1 (by show (!inV (.int (z : Nat)) (natV (lyM ws ls pl).1)) = true; rw [e, cz]; rfl) ⟨_, rfl, kR (by rw [cz]; rfl) _ (Same.refl _)⟩
   rw [nl, by_place 0 (fun t => !(cutM ls pl).contains t) (fun t : Nat => V.int t)] at h4
   replace h4 : H4 D = some (.lst (natV (restM ls pl))) := h4
   have nD : D ≠ l := fun z => by subst z; rw [hl3] at hD; cases hD
   have sm4 := sm3.trans s4
   have rl : (restM ls pl).length ≤ ls.length := List.length_filter_le _ _
   have fin : ∀ (x' : V) (H5 : Hp), Same H4 H5 -> ((x' = .non /\ nvM ws (restM ls pl) = 0) ∨ ∃ pl', x' ≠ .non /\ IsT ws (restM ls pl) pl' /\ LyV K H5 x' (lyM ws (restM ls pl) pl')) -> ∃ m', m' < nvM ws ls /\ ∃ (acc : List (List Nat × List Nat)) (ys : List V) (q : Addr) (ls : List Nat) (x : V), [some (.ref p), some (.ref D), some (.ref l), some x'] = [some (.ref p), some (.ref q), some (.ref l), some x] /\ Same H H5 /\ H5 l = some (.lst ys) /\ Als (LyV K H5) ys acc /\ H5 q = some (.lst (natV ls)) /\ q ≠ l /\ ls.Nodup /\ (∀ t ∈ ls, t < 24) /\ ls.length ≤ 24 /\ acc.length + nvM ws ls ≤ ws.length /\ (∀ y ∈ acc, LyOk ws.length y) /\ (∀ r, Lys ws ls r -> Lys ws (List.range 24) (acc ++ r)) /\ m' = nvM ws ls /\ ((x = .non /\ nvM ws ls = 0) ∨ ∃ pl, x ≠ .non /\ IsT ws ls pl /\ LyV K H5 x (lyM ws ls pl)) := fun x' H5 s5 cs' => by
    refine ⟨nvM ws (restM ls pl), by omega, acc ++ [lyM ws ls pl], ys ++ [.ref pL], D, restM ls pl, x', rfl, sm4.trans s5, s5 _ _ (s4 _ _ hl3), al3.mono (fun _ _ m => m.mono (Tst.same (s4.trans s5))), s5 _ _ h4, nD, rest_nd nd pl, (fun t ht => lt t (List.mem_filter.mp ht).1), by omega, (by rw [List.length_append]; show acc.length + 1 + _ ≤ _; omega), (fun y hy => ?_), (fun r hr => ?_), rfl, cs'⟩
    ·rcases List.mem_append.mp hy with h | h
     ·exact lok y h
     ·rw [List.mem_singleton.mp h]; exact lyo
    ·have := con _ (Lys.cons it hr)
     rw [List.append_assoc]
     exact this
   refine ⟨_, rfl, _, rfl, .ref p, D, ws, restM ls pl, rfl, ⟨p, xs, rfl, Tst.same (K := K) sm4 _ _ hS, al.mono fun _ _ m => m.mono (Tst.same sm4)⟩, hw, ok, SqL.of h4, by omega, (fun H5 s5 z => fin .non H5 s5 (.inl ⟨rfl, z⟩)), fun x' pl' H5 ne' s5 it' lv' => fin x' H5 s5 (.inr ⟨pl', ne', it', lv'⟩)⟩
 ·refine ⟨fun m σ H' => ∃ (acc : List (List Nat × List Nat)) (ys : List V) (q : Addr) (ls : List Nat) (x : V), σ = [some (.ref p), some (.ref q), some (.ref l), some x] /\ Same H H' /\ H' l = some (.lst ys) /\ Als (LyV K H') ys acc /\ H' q = some (.lst (natV ls)) /\ q ≠ l /\ ls.Nodup /\ (∀ t ∈ ls, t < 24) /\ ls.length ≤ 24 /\ acc.length + nvM ws ls ≤ ws.length /\ (∀ y ∈ acc, LyOk ws.length y) /\ (∀ r, Lys ws ls r -> Lys ws (List.range 24) (acc ++ r)) /\ m = nvM ws ls /\ ((x = .non /\ nvM ws ls = 0) ∨ ∃ pl, x ≠ .non /\ IsT ws ls pl /\ LyV K H' x (lyM ws ls pl)), ⟨_, [], [], q0, List.range 24, _, rfl, s03.trans s4, s4 _ _ hl3, .nil, s4 _ _ hq3, nql, List.nodup_range, (fun t ht => List.mem_range.mp ht), by decide, (by rw [nf]; exact Nat.le_of_eq (Nat.zero_add _)), (fun y hy => by cases hy), (fun r h => h), rfl, .inr ⟨pl0, ne0, it0, lv0⟩⟩, ?_⟩
  rintro m σ H1 ⟨acc, ys, q, ls, x, rfl, sm, hl1, al1, hq, nq, nd, lt, l24, few, lok, con, rfl, cs⟩
  refine ⟨_, rfl, rfl, _, rfl, ?_⟩
  rcases cs with ⟨rfl, c⟩ | ⟨pl, ne, it, lv⟩
  ·refine iteNS rfl ?_
   have ly := con [] (.nil c)
   rw [List.append_nil] at ly
   exact ⟨_, rfl, k l ys acc H1 sm h00 hl1 al1 ly lok (by omega)⟩
  ·refine iteN1 ne ?_
   refine ⟨_, fun _ _ z => z, ?_⟩
   have sec := isT_sec it
   have hy := al1.len
   have lyo : LyOk ws.length (lyM ws ls pl) := lyM_ok sec l24 lt
   have rst := nv_rest (ws := ws) nd sec
   have hp := it.held
   refine ⟨_, rfl, .inl ⟨rfl, _, SqL.of hl1⟩, _, rfl, l, _, _, rfl, rfl, hl1, small1000 (by omega), ?_⟩
   have t3 : Tst K H1 (upd H1 l (.lst (ys ++ [x]))) := Tst.up hl1 _
   have sm3 : Same H (upd H1 l (.lst (ys ++ [x]))) := fun b o e => by rw [upd_ne (ne_of_none e h00)]; exact sm _ _ e
   have hl3 : upd H1 l (.lst (ys ++ [x])) l = some (.lst (ys ++ [x])) := upd_same
   have al3 : Als (LyV K (upd H1 l (.lst (ys ++ [x])))) (ys ++ [x]) (acc ++ [lyM ws ls pl]) := (al1.mono fun _ _ m => m.mono t3).snoc (lv.mono t3)
   have lv3 := lv.mono t3
   have hq3 : upd H1 l (.lst (ys ++ [x])) q = some (.lst (natV ls)) := by rw [upd_ne nq]; exact hq
   generalize upd H1 l (.lst (ys ++ [x])) = H3 at sm3 hl3 al3 lv3 hq3 ⊢
   obtain ⟨pL, a, b, rfl, hpL, ha, hb⟩ := lv3
   have nl : (natV ls).length = ls.length := List.length_map _
   refine ⟨_, rfl, q, rfl, ⟨_, SqL.of hq3⟩, fun D hD => comp_ix (wlk_lst (SqL.of hq3)) (fun i => !(cutM ls pl).contains (ls.getD i 0)) (fun i => V.int (ls.getD i 0 : Nat)) hD (by omega) (fun i x H' hi s' hx R E kR kE => ?_) fun H4 s4 h4 => ?_⟩
   ·unfold natV at hx
    rw [List.getElem?_map] at hx
    obtain ⟨z, hz, rfl⟩ := Option.map_eq_some_iff.mp hx
    rw [getD_of 0 hz] at kR kE
    have t' := Tst.same (K := K) s'
    refine ⟨Ext.set rfl, _, rfl, _, rfl, pL, _, _, _, rfl, rfl, t' _ _ hpL, rfl, a, _, rfl, .inr (t' _ _ ha), rfl, flat_nat _, _, rfl, ?_⟩
    have e : inV (.int (z : Nat)) (natV (lyM ws ls pl).1) = (cutM ls pl).contains z := inV_int z (cutM ls pl)
    cases cz : (cutM ls pl).contains z with
    | true => exact iteB0 (by show (!inV (.int (z : Nat)) (natV (lyM ws ls pl).1)) = false; rw [e, cz]; rfl) (kE (by rw [cz]; rfl) _ (Same.refl _))
    | false => exact iteB1 (by show (!inV (.int (z : Nat)) (natV (lyM ws ls pl).1)) = true; rw [e, cz]; rfl) ⟨_, rfl, kR (by rw [cz]; rfl) _ (Same.refl _)⟩
   rw [nl, by_place 0 (fun t => !(cutM ls pl).contains t) (fun t : Nat => V.int t)] at h4
   replace h4 : H4 D = some (.lst (natV (restM ls pl))) := h4
   have nD : D ≠ l := fun z => by subst z; rw [hl3] at hD; cases hD
   have sm4 := sm3.trans s4
   have rl : (restM ls pl).length ≤ ls.length := List.length_filter_le _ _
   have fin : ∀ (x' : V) (H5 : Hp), Same H4 H5 -> ((x' = .non /\ nvM ws (restM ls pl) = 0) ∨ ∃ pl', x' ≠ .non /\ IsT ws (restM ls pl) pl' /\ LyV K H5 x' (lyM ws (restM ls pl) pl')) -> ∃ m', m' < nvM ws ls /\ ∃ (acc : List (List Nat × List Nat)) (ys : List V) (q : Addr) (ls : List Nat) (x : V), [some (.ref p), some (.ref D), some (.ref l), some x'] = [some (.ref p), some (.ref q), some (.ref l), some x] /\ Same H H5 /\ H5 l = some (.lst ys) /\ Als (LyV K H5) ys acc /\ H5 q = some (.lst (natV ls)) /\ q ≠ l /\ ls.Nodup /\ (∀ t ∈ ls, t < 24) /\ ls.length ≤ 24 /\ acc.length + nvM ws ls ≤ ws.length /\ (∀ y ∈ acc, LyOk ws.length y) /\ (∀ r, Lys ws ls r -> Lys ws (List.range 24) (acc ++ r)) /\ m' = nvM ws ls /\ ((x = .non /\ nvM ws ls = 0) ∨ ∃ pl, x ≠ .non /\ IsT ws ls pl /\ LyV K H5 x (lyM ws ls pl)) := fun x' H5 s5 cs' => by
    refine ⟨nvM ws (restM ls pl), by omega, acc ++ [lyM ws ls pl], ys ++ [.ref pL], D, restM ls pl, x', rfl, sm4.trans s5, s5 _ _ (s4 _ _ hl3), al3.mono (fun _ _ m => m.mono (Tst.same (s4.trans s5))), s5 _ _ h4, nD, rest_nd nd pl, (fun t ht => lt t (List.mem_filter.mp ht).1), by omega, (by rw [List.length_append]; show acc.length + 1 + _ ≤ _; omega), (fun y hy => ?_), (fun r hr => ?_), rfl, cs'⟩
    ·rcases List.mem_append.mp hy with h | h
     ·exact lok y h
     ·rw [List.mem_singleton.mp h]; exact lyo
    ·have := con _ (Lys.cons it hr)
     rw [List.append_assoc]
     exact this
   refine ⟨_, rfl, _, rfl, .ref p, D, ws, restM ls pl, rfl, ⟨p, xs, rfl, Tst.same (K := K) sm4 _ _ hS, al.mono fun _ _ m => m.mono (Tst.same sm4)⟩, hw, ok, SqL.of h4, by omega, (fun H5 s5 z => fin .non H5 s5 (.inl ⟨rfl, z⟩)), fun x' pl' H5 ne' s5 it' lv' => fin x' H5 s5 (.inr ⟨pl', ne', it', lv'⟩)⟩
theorem ok_Q20 (T : Txt K mg t) : FnOk P w K mg base CX0 4 t.a_Q20 t.d_Q20 ["_law_works_here", "_law_layer"] (sp_law_pace K) := by
 refine T.F_Q20.ok sc_Q20 (fun vs H Q E h => ?_) (fun cdv A outer s H vs Q E hr h => ?_)
 ·obtain ⟨_, _, _, _, rfl, _⟩ := h; rfl
 obtain ⟨v, x, ws, y, rfl, ⟨p, xs, rfl, hS, al⟩, hw, ok, lv, lok, k⟩ := h
 refine QSs.ok (qss_one (qs_ret (qcA (ok_Q24 T) hr T.m_Q24 T.F_Q24.kp T.b_Q24 (qa_cons (qcA (ok_Q25 T) hr T.m_Q25 T.F_Q25.kp T.b_Q25 (qa_cons (qe_lcomp (N' := ["_law_number", "_law_works_here"]) (src := [none, some 0]) rfl (by exact (qi_tup (qe_ix ix_tup (qv 1) qe_int (fun _ _ => rfl)))) (fun _ _ _ _ _ => (by exact (by exact qg_name (i := 0) (by show List.Nodup (["_law_number", "_law_works_here"] : List Str); decide +kernel) (by exact rfl) (by first | exact Or.inl rfl | exact Or.inr rfl)))) (fun _ _ _ _ _ => qts_nil) (fun _ _ _ _ _ => (by exact (by exact (qe_ix (ix_tupK (K := K) (by exact rfl)) (by exact (qe_ix (ix_tupK (K := K) (by exact rfl)) (by exact (qv 1)) (by exact (qv 0)) (by exact fun _ _ => rfl))) qe_int (by exact fun _ _ => rfl))))) (by exact ⟨rfl, rfl, rfl, rfl, trivial⟩) rfl (by decide +kernel) rfl (by decide +kernel) (by exact cells_of rfl ⟨rfl, trivial⟩)) qa_nil star_lc)) (qa_cons (qe_tup (qa_cons qe_int (qa_cons (qe_callB call_len_seq (by rfl) T.z_len boot_len (qa_cons (qe_ix ix_tup (qv 1) qe_int (fun _ _ => rfl)) qa_nil star_sub)) qa_nil star_call) star_con)) qa_nil star_tup) star_call)))) ?_
 have hSl := al.len
 obtain ⟨pL, a, b, rfl, hpL, ha, hb⟩ := lv
 have nb : (natV y.2).length = y.2.length := List.length_map _
 have na : (natV y.1).length = y.1.length := List.length_map _
 have len := lok.len
 refine ⟨_, rfl, pL, _, _, _, rfl, rfl, hpL, rfl, b, rfl, ⟨_, hb⟩, fun D hD => comp_mapT (K := K) (P := RV K) (ds := y.2) (f := fun i => (ws.getD i wk0).2.2) (fun _ _ _ _ t p => p.mono t) hD hb nb (by omega) (fun i x d H' hx hd s' R E kR => ?_) fun H2 ys2 s2 hD2 al2 => ?_⟩
 ·have hx' : (natV y.2)[i]? = some (V.int (d : Nat)) := by unfold natV; rw [List.getElem?_map, hd]; rfl
  rw [hx] at hx'
  cases hx'
  have hdl := lok.num d (List.mem_of_getElem? hd)
  obtain ⟨xw, hxw⟩ : ∃ xw, xs[d]? = some xw := ⟨_, List.getElem?_eq_getElem (by omega)⟩
  obtain ⟨w, hwd, pw, xa, rfl, hSw, rx⟩ := al.at hxw
  rw [getD_of wk0 hwd] at kR
  have t' := Tst.same (K := K) s'
  exact ⟨Ext.set rfl, _, rfl, _, rfl, p, _, _, _, rfl, rfl, t' _ _ hS, atI_nat hxw, pw, _, _, _, rfl, rfl, t' _ _ hSw, rfl, kR _ _ (Same.refl _) (rx.mono t')⟩
 have wf := ams_wf (n := ws.length) ok lok
 have la : (amsM ws y).length = y.2.length := List.length_map _
 refine ⟨D, ys2, amsM ws y, rfl, SqL.of hD2, al2, wf, by omega, fun v' H3 s3 rv3 => ?_⟩
 have t23 := Tst.same (K := K) (s2.trans s3)
 refine ⟨_, rfl, pL, _, _, _, rfl, rfl, t23 _ _ hpL, rfl, a, _, rfl, .inr (t23 _ _ ha), zl2, fun pt hpt => ?_⟩
 rw [na]
 have s4 := same_new hpt (.tup [.int 1, .int (y.1.length : Int)])
 have pos := lok.pos
 have few := lok.few
 refine ⟨v', .ref pt, sumR (amsM ws y), (1, (y.1.length : Int)), 1 + (4 + 1) * (amsM ws y).length, 5, rfl, rv3.mono (Tst.same s4), RV.of upd_same, sum_wfN wf, one_wf pos few, by omega, fun u h5 => ?_⟩
 exact k _ _ (((s2.trans s3).trans s4).trans (same_new h5 _)) (RV.of upd_same)
theorem ok_Q10 (T : Txt K mg t) : FnOkM P w K mg base CX0 1 t.a_Q10 t.d_Q10 ["_law_e"] (sp_law_marks K t.c_Q32) := by
 refine T.F_Q10.okM sc_Q10 (fun vs H Q E h => ?_) (fun cdv A outer s H vs Q E hr h => ?_)
 ·obtain ⟨_, _, _, rfl, _⟩ := h; rfl
 obtain ⟨x, dd, fs, rfl, ex, ed, k⟩ := h
 refine QSs.ok (qss_cons (qsA 1 sc_Q10.nd (qe_lst (qa_cons (qe_callB (call_isK (K := K) rfl) (by rfl) T.z_isinstance boot_isinstance (qa_cons (qv 0) (qa_cons (qe_glob (v := .ref t.c_Q32) rfl T.m_Q32 rfl) qa_nil star_name) star_name)) (qa_cons (qe_callB (call_isK (K := K) rfl) (by rfl) T.z_isinstance boot_isinstance (qa_cons (qv 0) (qa_cons (qe_glob (v := .ref t.c_Q13) rfl T.m_Q13 rfl) qa_nil star_name) star_name)) (qa_cons (qe_callB (call_isK (K := K) rfl) (by rfl) T.z_isinstance boot_isinstance (qa_cons (qv 0) (qa_cons (qe_bltn (v := V.ty "ValueError") rfl T.z_ValueError PyProof.Rows.Boot.ValueError rfl) qa_nil star_name) star_name)) qa_nil star_call) star_call) star_call)))
   (qss_one (qs_ret (qe_op op_cat (qv 1) (qe_lst (qa_cons (qe_callB (call_isK (K := K) rfl) (by rfl) T.z_isinstance boot_isinstance (qa_cons (qv 0) (qa_cons (qe_tup (qa_cons (qe_glob (v := .ref t.c_Q26) rfl T.m_Q26 rfl) (qa_cons (qe_glob (v := .ref t.c_Q33) rfl T.m_Q33 rfl) (qa_cons (qe_glob (v := .ref t.c_Q27) rfl T.m_Q27 rfl) (qa_cons (qe_glob (v := .ref t.c_Q34) rfl T.m_Q34 rfl) (qa_cons (qe_glob (v := .ref t.c_Q28) rfl T.m_Q28 rfl) (qa_cons (qe_glob (v := .ref t.c_Q29) rfl T.m_Q29 rfl) (qa_cons (qe_glob (v := .ref t.c_Q14) rfl T.m_Q14 rfl) qa_nil star_name) star_name) star_name) star_name) star_name) star_name) star_name)) qa_nil star_tup) star_name)) qa_nil star_call)))))) ?_
 have cl := T.X_Q32.cl
 have gx := T.g_Q32
 refine ⟨_, rfl, x, _, dd, _, _, _, true, rfl, ex, ed, cl, gx, .inr (.inl ⟨_, rfl, T.y_self⟩), _, rfl, x, _, dd, _, _, _, true, rfl, ex, ed, cl, gx, .inr (.inl ⟨_, rfl, T.y_base⟩), _, rfl, x, _, dd, _, _, _, true, rfl, ex, ed, cl, gx, .inl ⟨_, rfl, T.y_val⟩, zl3, fun l1 h1 => ?_⟩
 have s1 := same_new h1 (.lst [.bl true, .bl true, .bl true])
 have hl1 : upd H l1 (.lst [.bl true, .bl true, .bl true]) l1 = some (.lst [.bl true, .bl true, .bl true]) := upd_same
 generalize upd H l1 (.lst [.bl true, .bl true, .bl true]) = H1 at s1 hl1 ⊢
 refine ⟨_, rfl, _, rfl, zl7, fun p2 g2 => ?_⟩
 have s2 := same_new g2 (.tup [.ref t.c_Q26, .ref t.c_Q33, .ref t.c_Q27, .ref t.c_Q34, .ref t.c_Q28, .ref t.c_Q29, .ref t.c_Q14])
 have s12 := s1.trans s2
 refine ⟨x, _, dd, _, _, _, false, rfl, s12 _ _ ex, s12 _ _ ed, cl, gx, .inr (.inr ⟨p2, [t.c_Q26, t.c_Q33, t.c_Q27, t.c_Q34, t.c_Q28, t.c_Q29, t.c_Q14], rfl, upd_same, T.y_not⟩), zl1, fun l3 h3 => ?_⟩
 have s3 := same_new h3 (.lst [.bl false])
 refine ⟨l1, l3, _, _, rfl, rfl, s3 _ _ (s2 _ _ hl1), upd_same, zl4, fun l4 h4 => ?_⟩
 exact k l4 _ ((s12.trans s3).trans (same_new h4 _)) upd_same
theorem ok_Q21 (T : Txt K mg t) : FnOk P w K mg base CX0 3 t.a_Q21 t.d_Q21 ["_law_works_here", "_law_hands", "_law_top", "_law_thing"] (sp_law_word K) := by
 refine T.F_Q21.ok sc_Q21 (fun vs H Q E h => ?_) (fun cdv A outer s H vs Q E hr h => ?_)
 ·obtain ⟨_, _, _, _, _, _, _, rfl, _⟩ := h; rfl
 obtain ⟨v, u, c, ws, hn, tp, d, rfl, a, k⟩ := h
 refine QSs.ok (qss_cons (qs_if (qt_not (qt_val (qe_callB call_isiD (by rfl) T.z_isinstance boot_isinstance (qa_cons (qv 3) (qa_cons (qe_bltn (v := V.ty "tuple") rfl T.z_tuple boot_tuple rfl) qa_nil star_name) star_name)))) (qss_one (qs_ret qe_str)) qss_nil)
   (qss_cons (qs_if (qt_cmpR op_gt (qe_callB call_len_seq (by rfl) T.z_len boot_len (qa_cons (qe_lcomp (N' := ["_law_one"]) (src := [none]) rfl (by exact (qi_tup (qv 3))) (fun _ _ _ _ _ => (by exact (by exact qg_name (i := 0) (by show List.Nodup (["_law_one"] : List Str); decide +kernel) (by exact rfl) (by first | exact Or.inl rfl | exact Or.inr rfl)))) (fun _ _ _ _ _ => (qts_one (qw_pt (qw_or (qt_not (qt_val (by exact (qe_callB (call_isiDK (K := K) (by exact rfl)) (by exact rfl) T.z_isinstance boot_isinstance (qa_cons (by exact (qv 0)) (qa_cons (by exact (qe_bltn (v := V.ty "int") rfl T.z_int boot_int rfl)) qa_nil star_name) star_name))))) (qw_or (qt_val (by exact (qe_callB (call_isiDK (K := K) (by exact rfl)) (by exact rfl) T.z_isinstance boot_isinstance (qa_cons (by exact (qv 0)) (qa_cons (by exact (qe_bltn (v := V.ty "bool") rfl T.z_bool boot_bool rfl)) qa_nil star_name) star_name)))) (qw_or1 (qt_not (qt_chain op_le op_lt qe_int (by exact (qv 0)) qe_int)))))))) (fun _ _ _ _ _ => (by exact (by exact (qv 0)))) (by exact trivial) rfl (by decide +kernel) rfl (by decide +kernel) (by exact cells_of rfl trivial)) qa_nil star_lc)) qe_int (nomark _)) (qss_one (qs_ret qe_str)) qss_nil)
   (qss_cons (qs_if (qt_cmpR (op_neD hr) (qe_callTy call_list_of (by rfl) T.z_list boot_list (qa_cons (qv 3) qa_nil star_name)) (qe_callB (call_sortedSW (w := w) rfl rfl) (by rfl) T.z_sorted boot_sorted (qa_cons (qe_callTy (call_setOW (w := w) rfl rfl) (by rfl) T.z_set boot_setT (qa_cons (qv 3) qa_nil star_name)) qa_nil star_call)) (nomark _)) (qss_one (qs_ret qe_str)) qss_nil)
   (qss_cons (qsA 4 sc_Q21.nd (qe_tup (qa_cons qe_int (qa_cons qe_int qa_nil star_con) star_con)))
   (qss_cons (qs_for PassesOwn.never rfl (qi_tup (qv 0)) (qg_tup rfl (qgs_cons (qg_name (i := 5) sc_Q21.nd rfl (by first | exact Or.inl rfl | exact Or.inr rfl)) (qgs_cons (qg_name (i := 6) sc_Q21.nd rfl (by first | exact Or.inl rfl | exact Or.inr rfl)) (qgs_cons (qg_name (i := 7) sc_Q21.nd rfl (by first | exact Or.inl rfl | exact Or.inr rfl)) qgs_nil))))
   (qss_cons (qsA 8 sc_Q21.nd (qe_callB call_len_seq (by rfl) T.z_len boot_len (qa_cons (qe_lcomp (N' := ["_law_turn", "_law_thing"]) (src := [none, some 3]) rfl (by exact (qi_range2 rfl T.z_range (qa_cons (qv 5) (qa_cons (qe_op op_add (qv 6) qe_int) qa_nil star_bin) star_name))) (fun _ _ _ _ _ => (by exact (by exact qg_name (i := 0) (by show List.Nodup (["_law_turn", "_law_thing"] : List Str); decide +kernel) (by exact rfl) (by first | exact Or.inl rfl | exact Or.inr rfl)))) (fun _ _ _ _ _ => (qts_one (qt_cmpR (op_notIn_seqK (K := K) (by exact rfl)) (by exact (qv 0)) (by exact (qv 1)) (by with_unfolding_all rfl)))) (fun _ _ _ _ _ => (by exact (by exact (qv 0)))) (by exact ⟨rfl, rfl, rfl, rfl, trivial⟩) rfl (by decide +kernel) rfl (by decide +kernel) (by exact cells_of rfl ⟨rfl, trivial⟩)) qa_nil star_lc)))
   (qss_cons (qsA 9 sc_Q21.nd (qcA (ok_Q23 T) hr T.m_Q23 T.F_Q23.kp T.b_Q23 (qa_cons (qv 7) (qa_cons (qcA (ok_Q24 T) hr T.m_Q24 T.F_Q24.kp T.b_Q24 (qa_cons (qe_tup (qa_cons (qe_un un_neg (qv 8)) (qa_cons qe_int qa_nil star_con) star_un)) (qa_cons (qv 2) qa_nil star_name) star_tup)) qa_nil star_call) star_name)))
   (qss_one (qs_if (qt_cmpR op_gt (qxA ix_tup (qv 9) qe_int) qe_int (nomark _)) (qss_one (qsA 4 sc_Q21.nd (qcA (ok_Q23 T) hr T.m_Q23 T.F_Q23.kp T.b_Q23 (qa_cons (qv 4) (qa_cons (qv 9) qa_nil star_name) star_name)))) qss_nil)))))
   (qss_cons (qs_if (qt_val (qcA (ok_Q19 T) hr T.m_Q19 T.F_Q19.kp T.b_Q19 (qa_cons (qcA (ok_Q24 T) hr T.m_Q24 T.F_Q24.kp T.b_Q24 (qa_cons (qe_tup (qa_cons (qe_op op_mul (qv 1) (qe_callB call_len_seq (by rfl) T.z_len boot_len (qa_cons (qv 3) qa_nil star_name))) (qa_cons qe_int qa_nil star_con) star_bin)) (qa_cons (qv 2) qa_nil star_name) star_tup)) (qa_cons (qv 4) qa_nil star_name) star_call))) (qss_one (qs_ret qe_non)) qss_nil)
   (qss_one (qs_ret qe_str)))))))) ?_
 have hD := a.dp
 have bad : rsD d = false -> ∀ H', Same H H' -> Q (.str (Str.ofString "shape")) H' := fun e H' s' => by
  have := k H' s'
  rw [show wordM ws hn tp d = some (Str.ofString "shape") by unfold wordM; rw [e]; rfl] at this
  exact this
 rcases isi_tup hD with ⟨e, pc, xs, ds, rfl, rfl, hS, hA⟩ | ⟨e, no⟩
 rotate_left
 ·refine ⟨_, rfl, _, _, _, _, rfl, hD, e, _, rfl, iteT ?_⟩
  exact bad (by cases d with | tuple ds => exact absurd rfl (no _) | _ => rfl) _ (Same.refl _)
 refine ⟨_, rfl, _, _, _, _, rfl, hD, e, _, rfl, iteF ?_⟩
 have len := hA.len
 have hl' : ds.length ≤ 24 := a.d24
 refine ⟨_, rfl, pc, rfl, ⟨_, hS⟩, fun D hDn => comp_ix (wlk_tup hS) (fun i => !numD (ds.getD i .none)) (fun i => xs.getD i .non) hDn (by omega) (fun i x H' hi s' hx R E kR kE => ?_) fun H1 s1 h1 => ?_⟩
 ·obtain ⟨v, hv, dv⟩ := DeepAll.atN hA (List.getElem?_eq_getElem (show i < ds.length by omega))
  rw [hx] at hv
  cases hv
  have gx : xs.getD i .non = x := getD_of V.non hx
  simp only [getD_of PyData.none (List.getElem?_eq_getElem (show i < ds.length by omega)), gx] at kR kE
  have dv' := dv.same s'
  generalize ds[i] = di at dv' kR kE
  obtain ⟨b, c, e1, e2, e3⟩ := isi_int dv'
  refine ⟨Ext.set rfl, ?_⟩
  refine ⟨_, rfl, _, _, _, _, rfl, dv', e1, _, rfl, ?_⟩
  cases b with
  | false =>
   have hw : wholeD di = false := e3
   exact iteT (iteT ⟨_, rfl, kR (by cases di with | int i => cases hw | _ => rfl) _ (Same.refl _)⟩)
  | true =>
  refine iteF ⟨_, rfl, _, _, _, _, rfl, dv', e2, _, rfl, ?_⟩
  cases c with
  | true =>
   have hw : wholeD di = false := e3
   exact iteT (iteT ⟨_, rfl, kR (by cases di with | int i => cases hw | _ => rfl) _ (Same.refl _)⟩)
  | false =>
  refine iteF ?_
  have hw : wholeD di = true := e3
  obtain ⟨j, rfl⟩ := wholeD_int hw
  cases dv'
  have nd : numD (.int j) = (decide (0 ≤ j) && decide (j < 24)) := rfl
  rw [nd] at kR kE
  refine ⟨_, rfl, _, _, rfl, rfl, _, rfl, ?_⟩
  by_cases c1 : 0 ≤ j
  ·refine iteD1 c1 ?_
   refine ⟨_, _, rfl, rfl, _, rfl, ?_⟩
   by_cases c2 : j < 24
   ·rw [decide_eq_true c1, decide_eq_true c2] at kE
    exact iteNS c2 (kE rfl _ (Same.refl _))
   ·rw [decide_eq_true c1, decide_eq_false c2] at kR
    exact iteN1 c2 ⟨_, rfl, kR rfl _ (Same.refl _)⟩
  ·rw [decide_eq_false c1] at kR
   refine iteD0 c1 ?_
   exact ⟨_, rfl, iteT ⟨_, rfl, kR rfl _ (Same.refl _)⟩⟩
 have nn : ds.all numD = true ↔ ((List.range xs.length).filter fun i => !numD (ds.getD i .none)) = [] := by
  rw [List.filter_eq_nil_iff, List.all_eq_true]
  constructor
  ·intro h i hi
   have hil : i < ds.length := by have := List.mem_range.mp hi; omega
   rw [getD_of PyData.none (List.getElem?_eq_getElem hil), h _ (List.getElem_mem hil)]
   simp
  ·intro h x hx
   obtain ⟨i, hi, rfl⟩ := List.mem_iff_getElem.mp hx
   have := h i (List.mem_range.mpr (by omega))
   rw [getD_of PyData.none (List.getElem?_eq_getElem hi)] at this
   simpa using this
 refine ⟨D, _, rfl, .inl (SqL.of h1), _, _, rfl, rfl, _, rfl, ?_⟩
 rw [List.length_map]
 cases hn' : ds.all numD with
 | false =>
  refine iteD1 ?_ ?_
  ·have : ((List.range xs.length).filter fun i => !numD (ds.getD i .none)) ≠ [] := fun z => by rw [nn.mpr z] at hn'; cases hn'
   have := List.length_pos_iff.mpr this
   omega
  exact bad (by show (ds.all numD && _) = false; rw [hn']; rfl) _ s1
 | true =>
 rw [nn.mp hn']
 refine iteD0 (by decide) ?_
 obtain ⟨ls, rfl, lt⟩ := nums_of hn'
 cases deep_nats hA
 have nl : (natV ls).length = ls.length := List.length_map _
 have l24 : ls.length ≤ 24 := by rw [List.length_map] at hl'; exact hl'
 have hS1 := Tst.same (K := K) s1 _ _ hS
 have rsE : rsD (.tuple (ls.map fun n : Nat => PyData.int n)) = risN ls := by show (_ && risN _) = _; rw [hn', nats_of]; rfl
 refine ⟨_, rfl, pc, _, rfl, .inr hS1, fun p2 h2 => ?_⟩
 have s2 := same_new h2 (.lst (natV ls))
 have q2 : upd H1 p2 (.lst (natV ls)) p2 = some (.lst (natV ls)) := upd_same
 generalize upd H1 p2 (.lst (natV ls)) = H2 at s2 q2 ⊢
 have en : natV ls = (ls.map fun n : Nat => (n : Int)).map V.int := by unfold natV; rw [List.map_map]; rfl
 have le1 := oneEach_le (ls.map fun n : Nat => (n : Int))
 rw [List.length_map] at le1
 refine ⟨_, rfl, pc, _, rfl, .inr (by rw [← en]; exact Tst.same (K := K) s2 _ _ hS1), by rw [List.length_map]; omega, fun p3 h3 => ?_⟩
 refine ⟨p3, _, rfl, upd_same, by omega, fun p4 ms hpm hpw h4 => ?_⟩
 obtain ⟨zs, ez, zsrt, zmem⟩ := ones_of lt hpm hpw
 have s34 := (same_new h3 _).trans (same_new h4 (.lst (ms.map V.int)))
 have q4 : upd (upd H2 p3 (setO w p3 (oneEach (ls.map fun n : Nat => (n : Int))))) p4 (.lst (ms.map V.int)) p4 = some (.lst (natV zs)) := by rw [← ez]; exact upd_same
 have s14 := (s1.trans s2).trans s34
 refine ⟨natL ls, natL zs, deep_natL (SqL.of (s34 _ _ q2)), deep_natL (SqL.of q4), (natL_lay _).1, (natL_lay _).1, (natL_lay _).2, _, rfl, ?_⟩
 rw [eqv_natL]
 have rq : risN ls = decide (ls = zs) := by
  cases c : risN ls with
  | true => exact (decide_eq_true (rise_uniq (risN_iff.mp c) zsrt fun n => (zmem n).symm)).symm
  | false => exact (decide_eq_false fun z => by rw [z, risN_iff.mpr zsrt] at c; cases c).symm
 rw [← rq]
 cases cr : risN ls with
 | false =>
  refine iteT ?_
  exact bad (by rw [rsE]; exact cr) _ s14
 | true =>
 refine iteF ?_
 have wm : wordM ws hn tp (.tuple (ls.map fun n : Nat => PyData.int n)) = if lessR (roomR hn tp ls) (wantM ws tp ls) = true then none else some (Str.ofString "room") := by
  unfold wordM
  rw [rsE, cr, show (itD (.tuple (ls.map fun n : Nat => PyData.int n))).map natOf = ls from nats_of]
  rfl
 rw [wm] at k
 clear bad nn h1 q4 q2
 generalize upd (upd H2 p3 (setO w p3 (oneEach (ls.map fun n : Nat => (n : Int))))) p4 (.lst (ms.map V.int)) = H4 at s14 s34 ⊢
 have a4 := a.same s14
 have hC := Tst.same (K := K) s14 _ _ hS
 refine ⟨zl2, fun p5 h5 => ?_⟩
 have s5 := same_new h5 (.tup [.int 0, .int 1])
 have r5 : RV K (upd H4 p5 (.tup [.int 0, .int 1])) (.ref p5) (wantM (ws.take 0) tp ls) := RV.of upd_same
 generalize upd H4 p5 (.tup [.int 0, .int 1]) = H5 at s5 r5 ⊢
 have a5 := a4.same s5
 have hC5 := Tst.same (K := K) s5 _ _ hC
 obtain ⟨pw, xw, rfl, hW, alW⟩ := a5.wv
 have lxw := alW.len
 have w9 := a.w9
 refine ⟨_, rfl, pw, rfl, ⟨_, hW⟩, for_tup (K := K) (a := pw) (xs := xw) (fun i σ H' => ∃ (dv : V) (x5 x6 x7 x8 x9 : Option V), σ = [some (.ref pw), some (.int hn), some u, some (.ref pc), some dv, x5, x6, x7, x8, x9] /\ Same H5 H' /\ RV K H' dv (wantM (ws.take i) tp ls)) ⟨.ref p5, none, none, none, none, none, rfl, Same.refl _, r5⟩ (fun i σ H' _ ⟨_, _, _, _, _, _, _, s', _⟩ => Tst.same (K := K) s' _ _ hW) ?_ ?_⟩
 ·rintro i x σ H6 hx ⟨dv, x5, x6, x7, x8, x9, rfl, s6, rd⟩
  obtain ⟨w, hwd, pW, xa, rfl, hSw, rx⟩ := alW.at hx
  have t6 := Tst.same (K := K) s6
  have o := a.ok w (List.mem_of_getElem? hwd)
  have ole := o.le
  have olt := o.lt
  refine ⟨pW, _, rfl, t6 _ _ hSw, rfl, _, _, rfl, _, _, rfl, _, _, rfl, rfl, ?_⟩
  have e1 : (((w.2.1 : Nat) : Int) + 1 - ((w.1 : Nat) : Int)).toNat = w.2.1 + 1 - w.1 := by omega
  refine ⟨_, rfl, _, rfl, _, _, rfl, rfl, _, _, rfl, ?_, fun D7 hD7 => ?_⟩
  ·refine ⟨by omega, by omega, by omega, by omega⟩
  rw [e1]
  refine comp_ix (wlk_rng (lo := ((w.1 : Nat) : Int))) (fun i => !ls.contains (w.1 + i)) (fun i => V.int ((w.1 : Nat) + (i : Nat) : Int)) hD7 (by omega) (fun i x H' hi s' hx R E kR kE => ?_) fun H7 s7 h7 => ?_
  ·subst hx
   refine ⟨Ext.set rfl, _, rfl, _, rfl, pc, _, rfl, .inr (Tst.same (K := K) s' _ _ (t6 _ _ hC5)), rfl, ?_, ?_⟩
   ·unfold natV; rw [List.all_map]; exact List.all_eq_true.mpr fun _ _ => rfl
   ·refine ⟨_, rfl, ?_⟩
    rw [show inV (V.int ((w.1 : Nat) + (i : Nat) : Int)) (natV ls) = ls.contains (w.1 + i) from inV_int _ _]
    cases c : ls.contains (w.1 + i) with
    | true => exact iteF (kE (by show (!ls.contains (w.1 + i)) = false; rw [c]; rfl) _ (Same.refl _))
    | false => exact iteT ⟨_, rfl, kR (by show (!ls.contains (w.1 + i)) = true; rw [c]; rfl) _ (Same.refl _)⟩
  have ln : (((List.range (w.2.1 + 1 - w.1)).filter fun i => !ls.contains (w.1 + i)).map fun i => V.int ((w.1 : Nat) + (i : Nat) : Int)).length = outM ls w := by rw [List.length_map]; rfl
  have t7 := Tst.same (K := K) s7
  refine ⟨D7, _, rfl, .inl (SqL.of h7), ?_⟩
  rw [ln]
  refine ⟨_, rfl, _, rfl, _, rfl, zl2, fun p8 h8 => ?_⟩
  have s8 := same_new h8 (.tup [.int (-(outM ls w : Int)), .int 1])
  have r8 : RV K (upd H7 p8 (.tup [.int (-(outM ls w : Int)), .int 1])) (.ref p8) (-(outM ls w : Int), 1) := RV.of upd_same
  generalize upd H7 p8 (.tup [.int (-(outM ls w : Int)), .int 1]) = H8 at s8 r8 ⊢
  have o24 := out_le (ls := ls) olt
  have wi : Wf 70 ((-(outM ls w : Int), 1) : R) := (int_bq (i := -(outM ls w : Int)) (n := 24) (by omega)).wf (by decide) (by decide) (by decide)
  have wt : Wf 70 (timesR (-(outM ls w : Int), 1) tp) := bd_wf ((Bq.times (int_bq (i := -(outM ls w : Int)) (n := 24) (by omega)) a.tp).mono ⟨1, by decide⟩ (Nat.le_refl _)) (by decide)
  have t68 := t7.trans (Tst.same (K := K) s8)
  have t58 := t6.trans t68
  refine ⟨_, rfl, .ref p8, u, (-(outM ls w : Int), 1), tp, 70, 70, rfl, r8, a5.rv.mono t58, wi, bd_wf a.tp (by decide), by decide, fun p9 h9 => ?_⟩
  have s9 := same_new h9 (.tup [.int (timesR (-(outM ls w : Int), 1) tp).1, .int (timesR (-(outM ls w : Int), 1) tp).2])
  have r9 : RV K (upd H8 p9 (.tup [.int (timesR (-(outM ls w : Int), 1) tp).1, .int (timesR (-(outM ls w : Int), 1) tp).2])) (.ref p9) (timesR (-(outM ls w : Int), 1) tp) := RV.of upd_same
  generalize upd H8 p9 (.tup [.int (timesR (-(outM ls w : Int), 1) tp).1, .int (timesR (-(outM ls w : Int), 1) tp).2]) = H9 at s9 r9 ⊢
  refine ⟨xa, .ref p9, w.2.2, _, 4, 70, rfl, (rx.mono t58).mono (Tst.same s9), r9, o.am.wf, wt, by decide, fun pA hA => ?_⟩
  rw [rest_is a.tp.pos o.am.wf.pos]
  have sA := same_new hA (.tup [.int (restW tp ls w).1, .int (restW tp ls w).2])
  have rA : RV K (upd H9 pA (.tup [.int (restW tp ls w).1, .int (restW tp ls w).2])) (.ref pA) (restW tp ls w) := RV.of upd_same
  have hpA : SqT K (upd H9 pA (.tup [.int (restW tp ls w).1, .int (restW tp ls w).2])) pA [.int (restW tp ls w).1, .int (restW tp ls w).2] := SqT.of upd_same
  generalize upd H9 pA (.tup [.int (restW tp ls w).1, .int (restW tp ls w).2]) = HA at sA rA hpA ⊢
  have s6A := ((s7.trans s8).trans s9).trans sA
  refine ⟨_, rfl, pA, _, _, _, rfl, rfl, hpA, rfl, _, _, rfl, rfl, _, rfl, ?_⟩
  by_cases c : 0 < (restW tp ls w).1
  ·refine iteD1 c ?_
   have bw : Wf 70 (wantM (ws.take i) tp ls) := bd_wf (want_bq a.tp (fun w h => a.ok w (List.mem_of_mem_take h)) (by rw [List.length_take]; omega)) (by decide)
   refine ⟨_, rfl, _, rfl, dv, .ref pA, wantM (ws.take i) tp ls, restW tp ls w, 70, 70, rfl, rd.mono (Tst.same s6A), rA, bw, bd_wf (rest_bq a.tp o) (by decide), by decide, fun pB hB => ?_⟩
   refine ⟨.ref pB, _, _, _, _, _, rfl, (s6.trans s6A).trans (same_new hB _), ?_⟩
   rw [want_take hwd, show bndW tp ls w = restW tp ls w from if_pos c]
   exact RV.of upd_same
  ·refine iteD0 c ?_
   refine ⟨dv, _, _, _, _, _, rfl, s6.trans s6A, ?_⟩
   rw [want_take hwd, show bndW tp ls w = (0, 1) from if_neg c, plus_zero (want_bq a.tp (fun w h => a.ok w (List.mem_of_mem_take h)) (by rw [List.length_take]; omega)).red]
   exact rd.mono (Tst.same s6A)
 ·rintro σ H6 ⟨dv, x5, x6, x7, x8, x9, rfl, s6, rd⟩
  rw [lxw, List.take_length] at rd
  have t6 := Tst.same (K := K) s6
  refine ⟨_, rfl, _, rfl, pc, _, rfl, .inr (t6 _ _ hC5), _, _, rfl, rfl, .inl ⟨by have := a.h9; omega, by have := a.h9; omega⟩, zl2, fun p7 h7 => ?_⟩
  have en : (hn : Int) * ((natV ls).length : Int) = ((hn * ls.length : Nat) : Int) := by rw [nl]; exact (Int.natCast_mul _ _).symm
  dsimp only
  rw [en]
  have s7 := same_new h7 (.tup [.int ((hn * ls.length : Nat) : Int), .int 1])
  have r7 : RV K (upd H6 p7 (.tup [.int ((hn * ls.length : Nat) : Int), .int 1])) (.ref p7) (((hn * ls.length : Nat) : Int), 1) := RV.of upd_same
  generalize upd H6 p7 (.tup [.int ((hn * ls.length : Nat) : Int), .int 1]) = H7 at s7 r7 ⊢
  have m9 : hn * ls.length ≤ 9 * 24 := Nat.mul_le_mul a.h9 l24
  have wi : Wf 70 (((hn * ls.length : Nat) : Int), 1) := (int_bq (i := ((hn * ls.length : Nat) : Int)) (n := 216) (by omega)).wf (by decide) (by decide) (by decide)
  refine ⟨_, rfl, .ref p7, u, (((hn * ls.length : Nat) : Int), 1), tp, 70, 70, rfl, r7, (a5.rv.mono t6).mono (Tst.same s7), wi, bd_wf a.tp (by decide), by decide, fun p8 h8 => ?_⟩
  rw [times_comm]
  have s8 := same_new h8 (.tup [.int (roomR hn tp ls).1, .int (roomR hn tp ls).2])
  have r8 : RV K (upd H7 p8 (.tup [.int (roomR hn tp ls).1, .int (roomR hn tp ls).2])) (.ref p8) (roomR hn tp ls) := RV.of upd_same
  refine ⟨_, rfl, .ref p8, dv, roomR hn tp ls, wantM ws tp ls, 70, 70, rfl, r8, rd.mono (Tst.same (s7.trans s8)), bd_wf (room_bq a.tp a.h9 l24) (by decide), bd_wf (want_bq a.tp a.ok w9) (by decide), by decide, _, rfl, ?_⟩
  have sE := ((s14.trans s5).trans s6).trans (s7.trans s8)
  cases c : lessR (roomR hn tp ls) (wantM ws tp ls) with
  | true =>
   refine iteT ?_
   have := k _ sE
   rw [c] at this
   exact this
  | false =>
   refine iteF ?_
   have := k _ sE
   rw [c] at this
   exact this
theorem ok_Q32 (T : Txt K mg t) : FnOk P w K mg base CX0 2 t.a_Q32 t.d_Q32 ["self", "word"] (sp_NoMuch K t.c_Q32) := by
 refine T.F_Q32.ok sc_Q32 (fun vs H Q E h => ?_) (fun cdv A outer s H vs Q E hr h => ?_)
 ·obtain ⟨_, _, rfl, _⟩ := h; rfl
 obtain ⟨a, z, rfl, ha, k⟩ := h
 refine QSs.ok (qss_one (qs_fldE rfl (qv 0) (qcA (ok_Q31 T) hr T.m_Q31 T.F_Q31.kp T.b_Q31 (qa_cons (qv 1) qa_nil star_name)) rfl)) ?_
 refine ⟨_, rfl, .str z, rfl, .inr ⟨z, rfl⟩, _, rfl, a, _, _, rfl, T.X_Q32.cl, T.n_Q32_word, .inl ⟨ha, fun d hd nd => ?_⟩⟩
 refine k d _ hd nd (fun b o nb q => ?_) ?_ upd_same
 ·rw [upd_ne (ne_of_none q hd), upd_ne nb]; exact q
 ·rw [upd_ne (Ne.symm nd), upd_same]
theorem ok_Q6 (T : Txt K mg t) : FnOk P w K mg base (CXD P w) 5 t.a_Q6 t.d_Q6 ["works", "hands", "top", "thing"] (sp_lets_much K t.c_Q32) := by
 refine B.Fun.okD T.F_Q6 sc_Q6 (fun vs H Q E h => ?_) (fun cdv A outer s H vs Q E hr h => ?_)
 ·obtain ⟨_, _, _, _, _, _, _, rfl, _⟩ := h; rfl
 obtain ⟨v, u, c, ws, hn, tp, d, rfl, a, k, ke⟩ := h
 refine QSs.ok (qss_cons (qs_if (qt_not (qt_val (qcA (ok_Q5 T) hr T.m_Q5 T.F_Q5.kp T.b_Q5 (qa_cons (qv 3) (qa_cons (qe_glob (v := .int (24)) rfl T.m_TURNS ⟨_, rfl⟩) qa_nil star_name) star_name)))) (qss_one (qs_raiseD T.X_Q32 (vm_has _) rfl takesD (ok_Q32 T) (hr.mono (by decide)) T.b_Q32 rfl T.m_Q32 (qa_cons qe_str qa_nil star_con))) qss_nil)
   (qss_cons (qsA 4 sc_Q6.nd (qcA (ok_Q37 T) hr T.m_Q37 T.F_Q37.kp T.b_Q37 (qa_cons (qv 2) (qa_cons (qe_tup (qa_cons (qe_op op_mul (qv 1) (qe_callB call_len_seq (by rfl) T.z_len boot_len (qa_cons (qv 3) qa_nil star_name))) (qa_cons qe_int qa_nil star_con) star_bin)) qa_nil star_tup) star_name)))
   (qss_cons (qs_if (qt_not (qt_val (qcA (ok_Q22 T) hr T.m_Q22 T.F_Q22.kp T.b_Q22 (qa_cons (qv 4) (qa_cons (qcA (ok_Q38 T) hr T.m_Q38 T.F_Q38.kp T.b_Q38 (qa_cons (qe_lcomp (N' := ["work", "top", "thing"]) (src := [none, some 2, some 3]) rfl (by exact (qi_tup (qv 0))) (fun _ _ _ _ _ => (by exact (by exact qg_name (i := 0) (by show List.Nodup (["work", "top", "thing"] : List Str); decide +kernel) (by exact rfl) (by first | exact Or.inl rfl | exact Or.inr rfl)))) (fun _ _ _ _ _ => qts_nil) (fun _ _ _ _ _ => (by exact (by exact (qe_call (ok_Q2 T) (by exact hr.mono (by decide)) (by exact rfl) T.m_Q2 T.F_Q2.kp T.b_Q2 (by exact .nil) (by exact pass0) (qa_cons (by exact (qv 0)) (qa_cons (by exact (qv 1)) (qa_cons (by exact (qv 2)) qa_nil star_name) star_name) star_name))))) (by exact ⟨rfl, rfl, rfl, rfl, ⟨rfl, rfl, rfl, rfl, trivial⟩⟩) rfl (by decide +kernel) rfl (by decide +kernel) (by exact cells_of rfl ⟨rfl, ⟨rfl, trivial⟩⟩)) qa_nil star_lc)) qa_nil star_call) star_name)))) (qss_one (qs_raiseD T.X_Q32 (vm_has _) rfl takesD (ok_Q32 T) (hr.mono (by decide)) T.b_Q32 rfl T.m_Q32 (qa_cons qe_str qa_nil star_con))) qss_nil)
   (qss_one (qs_ret qe_bl))))) ?_
 have hD := a.dp
 refine ⟨_, rfl, c, d, rfl, hD, a.d24, fun H1 s1 => ⟨_, rfl, ?_⟩⟩
 cases cs : rsD d with
 | false =>
  refine iteT ?_
  refine ⟨zl1, fun x hx => ⟨x, _, rfl, upd_same, fun d' H' hd nd kp ha hd' => ⟨rfl, some d', ha, ?_⟩⟩⟩
  exact ke _ (by unfold wordM; rw [cs]; rfl) d' _ (s1.trans (del_same hx kp)) (by rw [del_at nd]; exact hd')
 | true =>
 refine iteF ?_
 obtain ⟨pc, ls, rfl, rfl, hC, srt, lt⟩ := rs_tup hD cs
 have l24 : ls.length ≤ 24 := by have := a.d24; rw [← List.length_map (f := natOf), turns_of] at this; exact this
 have wm : wordM ws hn tp (natD ls) = if lessR (roomR hn tp ls) (wantM ws tp ls) = true then none else some (Str.ofString "room") := by unfold wordM; rw [cs, turns_of]; rfl
 rw [wm] at k ke
 have nl : (natV ls).length = ls.length := List.length_map _
 have t1 := Tst.same (K := K) s1
 refine ⟨_, rfl, _, rfl, _, rfl, pc, _, rfl, .inr (t1 _ _ hC), _, _, rfl, rfl, .inl ⟨by have := a.h9; omega, by have := a.h9; omega⟩, zl2, fun p2 h2 => ?_⟩
 have en : (hn : Int) * ((natV ls).length : Int) = ((hn * ls.length : Nat) : Int) := by rw [nl]; exact (Int.natCast_mul _ _).symm
 dsimp only
 rw [en]
 have s2 := same_new h2 (.tup [.int ((hn * ls.length : Nat) : Int), .int 1])
 have r2 : RV K (upd H1 p2 (.tup [.int ((hn * ls.length : Nat) : Int), .int 1])) (.ref p2) (((hn * ls.length : Nat) : Int), 1) := RV.of upd_same
 generalize upd H1 p2 (.tup [.int ((hn * ls.length : Nat) : Int), .int 1]) = H2 at s2 r2 ⊢
 have t2 := t1.trans (Tst.same (K := K) s2)
 have m9 : hn * ls.length ≤ 9 * 24 := Nat.mul_le_mul a.h9 l24
 have wi : Wf 70 (((hn * ls.length : Nat) : Int), 1) := (int_bq (i := ((hn * ls.length : Nat) : Int)) (n := 216) (by omega)).wf (by decide) (by decide) (by decide)
 refine ⟨u, .ref p2, tp, (((hn * ls.length : Nat) : Int), 1), 70, 70, rfl, a.rv.mono t2, r2, bd_wf a.tp (by decide), wi, by decide, fun p3 h3 => ?_⟩
 have s3 := same_new h3 (.tup [.int (roomR hn tp ls).1, .int (roomR hn tp ls).2])
 have r3 : RV K (upd H2 p3 (.tup [.int (roomR hn tp ls).1, .int (roomR hn tp ls).2])) (.ref p3) (roomR hn tp ls) := RV.of upd_same
 replace s3 : Same H2 _ := s3
 generalize hG : upd H2 p3 (.tup [.int (roomR hn tp ls).1, .int (roomR hn tp ls).2]) = H3 at s3 r3
 rw [show upd H2 p3 (.tup [.int (timesR tp (((hn * ls.length : Nat) : Int), 1)).1, .int (timesR tp (((hn * ls.length : Nat) : Int), 1)).2]) = H3 from hG]
 have s13 := (s1.trans s2).trans s3
 have a3 := a.same s13
 obtain ⟨pw, xs, rfl, hS, al⟩ := a3.wv
 have lx := al.len
 have w9 := a.w9
 have hC3 := Tst.same (K := K) s13 _ _ hC
 refine ⟨_, rfl, _, rfl, pw, rfl, ⟨_, hS⟩, fun D hD => comp_mapT (K := K) (P := RV K) (ds := ws) (f := bndW tp ls) (fun _ _ _ _ t p => p.mono t) hD hS lx (by omega) (fun i x w H' hx hd s' R E kR => ?_) fun H4 ys s4 h4 al4 => ?_⟩
 ·have t' := Tst.same (K := K) s'
  obtain ⟨w', hw', wv⟩ := al.at hx
  rw [hd] at hw'
  cases hw'
  exact ⟨Ext.set rfl, _, rfl, _, rfl, _, rfl, x, u, pc, w, tp, ls, rfl, wv.mono t', a.ok w (List.mem_of_getElem? hd), a3.rv.mono t', a.tp, t' _ _ hC3, fun v' H'' s'' r'' => kR v' H'' s'' r''⟩
 have bq : ∀ r ∈ ws.map (bndW tp ls), Bq 404779703328000 2604 r := fun r hr => by
  obtain ⟨w, hw, rfl⟩ := List.mem_map.mp hr
  exact bnd_bq a.tp (a.ok w hw)
 refine ⟨D, ys, ws.map (bndW tp ls), 70, 404779703328000, rfl, .inl (SqL.of h4), als_rvs al4, fun r hr => ⟨bd_wf (bq r hr) (by decide), (bq r hr).dvd⟩, by decide, by decide, by rw [List.length_map]; omega, by decide, fun v5 H5 s5 r5 => ?_⟩
 have s15 := (s13.trans s4).trans s5
 refine ⟨.ref p3, v5, roomR hn tp ls, wantM ws tp ls, 70, 70, rfl, r3.mono (Tst.same (s4.trans s5)), r5, bd_wf (room_bq a.tp a.h9 l24) (by decide), bd_wf (want_bq a.tp a.ok w9) (by decide), by decide, ⟨_, rfl, ?_⟩⟩
 cases c : lessR (roomR hn tp ls) (wantM ws tp ls) with
 | false =>
  refine iteT ?_
  refine ⟨zl1, fun x hx => ⟨x, _, rfl, upd_same, fun d' H' hd nd kp ha hd' => ⟨rfl, some d', ha, ?_⟩⟩⟩
  exact ke _ (by rw [c]; rfl) d' _ (s15.trans (del_same hx kp)) (by rw [del_at nd]; exact hd')
 | true =>
  refine iteF ?_
  exact k (by rw [c]; rfl) _ s15
theorem ok_Q11 (T : Txt K mg t) : FnOk P w K mg base CX0 6 t.a_Q11 t.d_Q11 ["_law_works_here", "_law_hands", "_law_top", "_law_thing"] (sp_law_tried K t.c_Q32) := by
 refine T.F_Q11.ok sc_Q11 (fun vs H Q E h => ?_) (fun cdv A outer s H vs Q E hr h => ?_)
 ·obtain ⟨_, _, _, _, _, _, _, rfl, _⟩ := h; rfl
 obtain ⟨v, u, c, ws, hn, tp, d, rfl, a, k⟩ := h
 refine QSs.ok (qss_cons (qsA 4 sc_Q11.nd (qe_tup (qa_cons qe_non (qa_cons (qe_lst qa_nil) qa_nil star_lst) star_con)))
   (qss_cons (qs_tryAs (i := 5) (R := (fun C dx H' => C = t.c_Q32 /\ Same H H' /\ ∃ (dd : Addr) (z : Str), dx = some dd /\ H' dd = some (dO dd [("word", .str z)]) /\ wordM ws hn tp d = some z)) rfl rfl rfl rfl T.m_Q13 sc_Q11.nd rfl rfl (fun _ => (qss_one (qsA 4 sc_Q11.nd (qe_tup (qa_cons (qe_call (ok_Q6 T) (hr.mono (by decide)) rfl T.m_Q6 T.F_Q6.kp T.b_Q6 .nil (passTD rfl) (qa_cons (qv 0) (qa_cons (qv 1) (qa_cons (qv 2) (qa_cons (qv 3) qa_nil star_name) star_name) star_name) star_name)) (qa_cons (qe_lst qa_nil) qa_nil star_lst) star_call)))))
   (fun _ => (qss_one (qsA 4 sc_Q11.nd (qe_tup (qa_cons (qv 5) (qa_cons (qe_callM (ok_Q10 T) (by exact hr.inM (by decide)) rfl T.m_Q10 T.F_Q10.kp T.b_Q10 .nil pass0 (qa_cons (qv 5) qa_nil star_name)) qa_nil star_call) star_name))))))
   (qss_one (qs_ret (qv 4))))) ?_
 refine ⟨(by show 0 ≤ sizeLine; exact Nat.zero_le _), fun l0 h0 => ⟨zl2, fun p0 g0 => ?_⟩⟩
 have s0 := (same_new h0 (.lst [])).trans (same_new g0 (.tup [.non, .ref l0]))
 generalize upd (upd H l0 (.lst [])) p0 (.tup [.non, .ref l0]) = H0 at s0 ⊢
 refine ⟨⟨_, rfl, _, rfl, _, rfl, _, rfl, v, u, c, ws, hn, tp, d, rfl, a.same s0, fun du H1 s1 => ⟨(by show 0 ≤ sizeLine; exact Nat.zero_le _), fun l1 h1 => ⟨zl2, fun p1 g1 => ?_⟩⟩, fun z du dd H1 s1 hd => ⟨_, rfl, rfl, s0.trans s1, dd, z, rfl, hd, du⟩⟩, ?_⟩
 ·have sa := same_new h1 (.lst [])
  have sb := same_new g1 (.tup [.bl true, .ref l1])
  refine ⟨_, rfl, k _ _ (((s0.trans s1).trans sa).trans sb) ?_⟩
  rw [du]
  exact ⟨p1, l1, rfl, SqT.of upd_same, sb _ _ upd_same⟩
 rintro C dx H' ⟨rfl, s1, dd, z, rfl, hd, du⟩
 refine ⟨T.x_catch, dd, rfl, fun x hx => ?_⟩
 have s2 := same_new hx (erO x t.c_Q32 dd)
 have ex := upd_same (H := H') (a := x) (o := erO x t.c_Q32 dd)
 have ed := s2 _ _ hd
 generalize upd H' x (erO x t.c_Q32 dd) = H2 at s2 ex ed ⊢
 refine ⟨_, rfl, _, rfl, x, dd, _, rfl, ex, ed, fun l H3 s3 hl => ⟨zl2, fun p4 g4 => ?_⟩⟩
 have s4 := same_new g4 (.tup [.ref x, .ref l])
 refine ⟨_, rfl, k _ _ (((s1.trans s2).trans s3).trans s4) ?_⟩
 rw [du]
 exact ⟨p4, l, x, dd, rfl, SqT.of upd_same, s4 _ _ (s3 _ _ ex), s4 _ _ (s3 _ _ ed), s4 _ _ hl⟩
theorem ok_Q12 (T : Txt K mg t) : FnOk P w K mg base CX0 7 t.a_Q12 t.d_Q12 ["_law_works_here", "_law_hands", "_law_top", "_law_thing"] (sp_law_right K) := by
 refine T.F_Q12.ok sc_Q12 (fun vs H Q E h => ?_) (fun cdv A outer s H vs Q E hr h => ?_)
 ·obtain ⟨_, _, _, _, _, _, _, rfl, _⟩ := h; rfl
 obtain ⟨v, u, c, ws, hn, tp, d, rfl, a, gd, k⟩ := h
 refine QSs.ok (qss_cons (qsA 4 sc_Q12.nd (qcA (ok_Q21 T) hr T.m_Q21 T.F_Q21.kp T.b_Q21 (qa_cons (qv 0) (qa_cons (qv 1) (qa_cons (qv 2) (qa_cons (qv 3) qa_nil star_name) star_name) star_name) star_name)))
   (qss_cons (qsA 5 sc_Q12.nd (qe_callB (call_repr hr) (by rfl) T.z_repr boot_repr (qa_cons (qe_tup (qa_cons (qv 0) (qa_cons (qv 2) (qa_cons (qv 3) qa_nil star_name) star_name) star_name)) qa_nil star_tup)))
   (qss_cons (qs_asg (qcA (ok_Q11 T) hr T.m_Q11 T.F_Q11.kp T.b_Q11 (qa_cons (qv 0) (qa_cons (qv 1) (qa_cons (qv 2) (qa_cons (qv 3) qa_nil star_name) star_name) star_name) star_name)) (qg_tup rfl (qgs_cons (qg_name (i := 6) sc_Q12.nd rfl (by first | exact Or.inl rfl | exact Or.inr rfl)) (qgs_cons (qg_name (i := 7) sc_Q12.nd rfl (by first | exact Or.inl rfl | exact Or.inr rfl)) qgs_nil))))
   (qss_cons (qs_if (qt_cmpR op_ne (qe_callB (call_repr hr) (by rfl) T.z_repr boot_repr (qa_cons (qe_tup (qa_cons (qv 0) (qa_cons (qv 2) (qa_cons (qv 3) qa_nil star_name) star_name) star_name)) qa_nil star_tup)) (qv 5) (nomark _)) (qss_one (qs_ret qe_bl)) qss_nil)
   (qss_cons (qs_if (qt_cmpR op_isN (qv 4) qe_non (nomark _)) (qss_one (qs_ret (qe_and (qe_cmpR (op_eqD hr) (qv 7) (qe_lst qa_nil) (nomark _)) (qe_one (qe_cmpR op_isB (qv 6) qe_bl (nomark _)))))) qss_nil)
   (qss_one (qs_ret (qe_and (qe_cmpR (op_eqD hr) (qv 7) (qe_lst (qa_cons qe_bl (qa_cons qe_bl (qa_cons qe_bl (qa_cons qe_bl qa_nil star_con) star_con) star_con) star_con)) (nomark _)) (qe_one (qcA (ok_Q7 T) hr T.m_Q7 T.F_Q7.kp T.b_Q7 (qa_cons (qv 4) (qa_cons (qe_fldE (K := K) rfl (qv 6) rfl) qa_nil star_att) star_name))))))))))) ?_
 obtain ⟨q, hq⟩ : ∃ q, wordM ws hn tp d = q := ⟨_, rfl⟩
 have dw := a.wv.deep
 have dr := a.rv.deep
 have dd_ := a.dp
 have sh := sh_three a.ok a.w9 a.tp gd
 refine ⟨_, rfl, _, rfl, _, rfl, _, rfl, v, u, c, ws, hn, tp, d, rfl, a, fun H1 s1 => ?_⟩
 rw [hq]
 refine ⟨_, rfl, _, rfl, _, rfl, zl3, fun p2 g2 => ?_⟩
 have e2 := same_new g2 (.tup [v, u, c])
 have q2 : SqT K (upd H1 p2 (.tup [v, u, c])) p2 [v, u, c] := SqT.of upd_same
 generalize upd H1 p2 (.tup [v, u, c]) = H2 at e2 q2 ⊢
 have s2 := s1.trans e2
 refine ⟨.ref p2, .tuple [dWks ws, dR tp, d], rfl, .tup q2 (.cons (dw.same s2) (.cons (dr.same s2) (.cons (dd_.same s2) .nil))), sh, ?_⟩
 refine ⟨_, rfl, _, rfl, _, rfl, _, rfl, v, u, c, ws, hn, tp, d, rfl, a.same s2, fun x0 H3 s3' tr => ?_⟩
 rw [hq] at tr
 have s3 := s2.trans s3'
 cases q with
 | none =>
  obtain ⟨p, l, rfl, hp, hl⟩ := tr
  refine ⟨p, _, rfl, hp, rfl, _, _, rfl, _, _, rfl, rfl, ?_⟩
  refine ⟨_, rfl, _, rfl, _, rfl, zl3, fun p4 g4 => ?_⟩
  have e4 := same_new g4 (.tup [v, u, c])
  have q4 : SqT K (upd H3 p4 (.tup [v, u, c])) p4 [v, u, c] := SqT.of upd_same
  generalize upd H3 p4 (.tup [v, u, c]) = H4 at e4 q4 ⊢
  have s4 := s3.trans e4
  refine ⟨.ref p4, .tuple [dWks ws, dR tp, d], rfl, .tup q4 (.cons (dw.same s4) (.cons (dr.same s4) (.cons (dd_.same s4) .nil))), sh, ?_⟩
  refine ⟨_, rfl, rfl, _, rfl, iteNS rfl ?_⟩
  refine ⟨_, rfl, rfl, _, rfl, iteD1 rfl ?_⟩
  refine ⟨_, rfl, (by show 0 ≤ sizeLine; exact Nat.zero_le _), fun l5 g5 => ?_⟩
  have e5 := same_new g5 (.lst [])
  have h5 : upd H4 l5 (.lst []) l5 = some (.lst []) := upd_same
  generalize upd H4 l5 (.lst []) = H5 at e5 h5 ⊢
  have s5 := s4.trans e5
  refine ⟨.list [], .list [], .lst (SqL.of (e5 _ _ (e4 _ _ hl))) .nil, .lst (SqL.of h5) .nil, rfl, rfl, by decide, _, rfl, iteB1 rfl ?_⟩
  refine ⟨_, rfl, _, _, rfl, rfl, ?_⟩
  exact k _ s5
 | some z =>
  obtain ⟨p, l, x, dd, rfl, hp, hx, hd, hl⟩ := tr
  refine ⟨p, _, rfl, hp, rfl, _, _, rfl, _, _, rfl, rfl, ?_⟩
  refine ⟨_, rfl, _, rfl, _, rfl, zl3, fun p4 g4 => ?_⟩
  have e4 := same_new g4 (.tup [v, u, c])
  have q4 : SqT K (upd H3 p4 (.tup [v, u, c])) p4 [v, u, c] := SqT.of upd_same
  generalize upd H3 p4 (.tup [v, u, c]) = H4 at e4 q4 ⊢
  have s4 := s3.trans e4
  refine ⟨.ref p4, .tuple [dWks ws, dR tp, d], rfl, .tup q4 (.cons (dw.same s4) (.cons (dr.same s4) (.cons (dd_.same s4) .nil))), sh, ?_⟩
  refine ⟨_, rfl, rfl, _, rfl, iteNS rfl ?_⟩
  refine ⟨_, rfl, rfl, _, rfl, iteD0 (fun z => by cases z) ?_⟩
  refine ⟨_, rfl, zl4, fun l5 g5 => ?_⟩
  have e5 := same_new g5 (.lst [.bl true, .bl true, .bl true, .bl false])
  have h5 : upd H4 l5 (.lst [.bl true, .bl true, .bl true, .bl false]) l5 = some (.lst [.bl true, .bl true, .bl true, .bl false]) := upd_same
  generalize upd H4 l5 (.lst [.bl true, .bl true, .bl true, .bl false]) = H5 at e5 h5 ⊢
  have s5 := s4.trans e5
  refine ⟨.list [.bool true, .bool true, .bool true, .bool false], .list [.bool true, .bool true, .bool true, .bool false], .lst (SqL.of (e5 _ _ (e4 _ _ hl))) (.cons (.bl _) (.cons (.bl _) (.cons (.bl _) (.cons (.bl _) .nil)))), .lst (SqL.of h5) (.cons (.bl _) (.cons (.bl _) (.cons (.bl _) (.cons (.bl _) .nil)))), rfl, rfl, by decide, _, rfl, iteB1 rfl ?_⟩
  have e45 := e4.trans e5
  refine ⟨_, rfl, _, rfl, x, _, dd, _, _, _, rfl, .inl (e45 _ _ hx), e45 _ _ hd, T.X_Q32.cl, T.g_Q32, T.n_Q32_word, rfl, ?_⟩
  exact ⟨.str z, .str z, .str z, rfl, .str z, .str z, Nat.le_refl 0, rfl, fun H6 s6 => k _ (s5.trans s6)⟩
theorem ok_Q40 (T : Txt K mg t) : FnOk P w K mg base CX0 8 t.a_Q40 t.d_Q40 ["_law_script"] (sp_law K) := by
 refine T.F_Q40.ok sc_Q40 (fun vs H Q E h => ?_) (fun cdv A outer s H vs Q E hr h => ?_)
 ·obtain ⟨_, _, rfl, _⟩ := h; rfl
 obtain ⟨a, ns, rfl, hS, hl, k⟩ := h
 refine QSs.ok (qss_cons (qsA 1 sc_Q40.nd (qcA (ok_Q16 T) hr T.m_Q16 T.F_Q16.kp T.b_Q16 (qa_cons (qv 0) qa_nil star_name)))
   (qss_cons (qs_for PassesOwn.never rfl (qi_range1 rfl T.z_range (qa_cons qe_int qa_nil star_con)) (qg_name (i := 2) sc_Q40.nd rfl (by first | exact Or.inl rfl | exact Or.inr rfl))
   (qss_cons (qsA 3 sc_Q40.nd (qcA (ok_Q8 T) hr T.m_Q8 T.F_Q8.kp T.b_Q8 (qa_cons (qv 1) (qa_cons (qcA (ok_Q17 T) hr T.m_Q17 T.F_Q17.kp T.b_Q17 (qa_cons (qv 1) (qa_cons qe_int qa_nil star_con) star_name)) qa_nil star_call) star_name)))
   (qss_cons (qsA 4 sc_Q40.nd (qcA (ok_Q4 T) hr T.m_Q4 T.F_Q4.kp T.b_Q4 (qa_cons (qv 3) qa_nil star_name)))
   (qss_cons (qsA 5 sc_Q40.nd (qxA ix_list (qe_lst (qa_cons qe_int (qa_cons qe_int (qa_cons qe_int qa_nil star_con) star_con) star_con)) (qcA (ok_Q17 T) hr T.m_Q17 T.F_Q17.kp T.b_Q17 (qa_cons (qv 1) (qa_cons qe_int qa_nil star_con) star_name))))
   (qss_cons (qsA 6 sc_Q40.nd (qe_ifExp (qt_cmpR op_gt (qe_callB call_len_seq (by rfl) T.z_len boot_len (qa_cons (qv 4) qa_nil star_name)) qe_int (nomark _)) (qcA (ok_Q20 T) hr T.m_Q20 T.F_Q20.kp T.b_Q20 (qa_cons (qv 3) (qa_cons (qxA ix_list (qv 4) qe_int) qa_nil star_sub) star_name)) (qe_tup (qa_cons qe_int (qa_cons qe_int qa_nil star_con) star_con))))
   (qss_cons (qsA 7 sc_Q40.nd (qe_lst (qa_cons (qv 6) (qa_cons (qcA (ok_Q24 T) hr T.m_Q24 T.F_Q24.kp T.b_Q24 (qa_cons (qv 6) (qa_cons (qe_tup (qa_cons qe_int (qa_cons qe_int qa_nil star_con) star_con)) qa_nil star_tup) star_name)) (qa_cons (qcA (ok_Q24 T) hr T.m_Q24 T.F_Q24.kp T.b_Q24 (qa_cons (qv 6) (qa_cons (qe_tup (qa_cons qe_int (qa_cons (qe_op op_mul qe_int (qv 5)) qa_nil star_bin) star_con)) qa_nil star_tup) star_name)) (qa_cons (qe_tup (qa_cons (qe_op op_add qe_int (qcA (ok_Q17 T) hr T.m_Q17 T.F_Q17.kp T.b_Q17 (qa_cons (qv 1) (qa_cons qe_int qa_nil star_con) star_name))) (qa_cons qe_int qa_nil star_con) star_bin)) qa_nil star_tup) star_call) star_call) star_name)))
   (qss_cons (qsA 8 sc_Q40.nd (qe_lst (qa_cons (qe_tup qa_nil) (qa_cons (qe_callTy (call_tupleR rfl) (by rfl) T.z_tuple boot_tuple (qa_cons (qe_rng1 rfl T.z_range (qa_cons qe_int qa_nil star_con)) qa_nil star_call)) (qa_cons (qe_callTy call_tuple_of (by rfl) T.z_tuple boot_tuple (qa_cons (qe_lcomp (N' := ["_law_turn", "_law_tape_here"]) (src := [none, some 1]) rfl (by exact (qi_range1 rfl T.z_range (qa_cons qe_int qa_nil star_con))) (fun _ _ _ _ _ => (by exact (by exact qg_name (i := 0) (by show List.Nodup (["_law_turn", "_law_tape_here"] : List Str); decide +kernel) (by exact rfl) (by first | exact Or.inl rfl | exact Or.inr rfl)))) (fun _ _ _ _ _ => (qts_one (qt_cmpR op_eq (by exact (qe_call (ok_Q17 T) (by exact hr.mono (by decide)) (by exact rfl) T.m_Q17 T.F_Q17.kp T.b_Q17 (by exact .nil) (by exact pass0) (qa_cons (by exact (qv 1)) (qa_cons qe_int qa_nil star_con) star_name))) qe_int (nomark _)))) (fun _ _ _ _ _ => (by exact (by exact (qv 0)))) (by exact ⟨rfl, rfl, rfl, rfl, trivial⟩) rfl (by decide +kernel) rfl (by decide +kernel) (by exact cells_of rfl ⟨rfl, trivial⟩)) qa_nil star_lc)) qa_nil star_call) star_call) star_tup)))
   (qss_cons (qsA 8 sc_Q40.nd (qe_op op_cat (qe_op op_cat (qv 8) (qe_lcomp (N' := ["_law_layer"]) (src := [none]) rfl (by exact (qi_list (qe_slice sl_list (qv 4) qo_none (qo_some qe_int)))) (fun _ _ _ _ _ => (by exact (by exact qg_name (i := 0) (by show List.Nodup (["_law_layer"] : List Str); decide +kernel) (by exact rfl) (by first | exact Or.inl rfl | exact Or.inr rfl)))) (fun _ _ _ _ _ => qts_nil) (fun _ _ _ _ _ => (by exact (by exact (qe_ix (ix_tupK (K := K) (by exact rfl)) (by exact (qv 0)) qe_int (by exact fun _ _ => rfl))))) (by exact trivial) rfl (by decide +kernel) rfl (by decide +kernel) (by exact cells_of rfl trivial))) (qe_lcomp (N' := ["_law_work"]) (src := [none]) rfl (by exact (qi_tup (qe_slice sl_tupU (qv 3) qo_none (qo_some qe_int)))) (fun _ _ _ _ _ => (by exact (by exact qg_name (i := 0) (by show List.Nodup (["_law_work"] : List Str); decide +kernel) (by exact rfl) (by first | exact Or.inl rfl | exact Or.inr rfl)))) (fun _ _ _ _ _ => qts_nil) (fun _ _ _ _ _ => (by exact (by exact (qe_callTy (call_tupleR2 (by exact rfl)) (by exact rfl) T.z_tuple boot_tuple (qa_cons (by exact (qe_rng2 rfl T.z_range (qa_cons (by exact (qe_ix (ix_tupK (K := K) (by exact rfl)) (by exact (qv 0)) qe_int (by exact fun _ _ => rfl))) (qa_cons (by exact (qe_op op_add (by exact (qe_ix (ix_tupK (K := K) (by exact rfl)) (by exact (qv 0)) qe_int (by exact fun _ _ => rfl))) qe_int)) qa_nil star_bin) star_sub))) qa_nil star_call))))) (by exact trivial) rfl (by decide +kernel) rfl (by decide +kernel) (by exact cells_of rfl trivial))))
   (qss_cons (qsA 9 sc_Q40.nd (qcA (ok_Q17 T) hr T.m_Q17 T.F_Q17.kp T.b_Q17 (qa_cons (qv 1) (qa_cons qe_int qa_nil star_con) star_name)))
   (qss_cons (qsA 10 sc_Q40.nd (qe_op op_add (qv 9) (qcA (ok_Q17 T) hr T.m_Q17 T.F_Q17.kp T.b_Q17 (qa_cons (qv 1) (qa_cons (qe_op op_sub qe_int (qv 9)) qa_nil star_bin) star_name))))
   (qss_cons (qs_expr (qe_bm PySem.F.plainAttrs_list PySem.F.slot_list_append PySem.F.type_list_append mt_append (qv 8) (qa_cons (qe_callTy (call_tupleR2 rfl) (by rfl) T.z_tuple boot_tuple (qa_cons (qe_rng2 rfl T.z_range (qa_cons (qv 9) (qa_cons (qe_op op_add (qv 10) qe_int) qa_nil star_bin) star_name)) qa_nil star_call)) qa_nil star_call)))
   (qss_cons (qsA 8 sc_Q40.nd (qe_op op_cat (qv 8) (qe_lst (qa_cons (qe_lst qa_nil) (qa_cons (qe_lst (qa_cons qe_int qa_nil star_con)) (qa_cons (qe_tup (qa_cons qe_int (qa_cons qe_int qa_nil star_con) star_con)) (qa_cons (qe_tup (qa_cons qe_int (qa_cons qe_int qa_nil star_con) star_con)) (qa_cons (qe_tup (qa_cons qe_int (qa_cons qe_int qa_nil star_con) star_con)) (qa_cons (qe_tup (qa_cons (qe_un un_neg qe_int) (qa_cons qe_int qa_nil star_con) star_un)) (qa_cons (qe_tup (qa_cons qe_bl qa_nil star_con)) (qa_cons (qe_tup (qa_cons qe_int (qa_cons qe_str qa_nil star_con) star_con)) (qa_cons qe_non (qa_cons (qe_tup (qa_cons (qe_tup (qa_cons qe_int qa_nil star_con)) qa_nil star_tup)) (qa_cons qe_str qa_nil star_con) star_tup) star_con) star_tup) star_tup) star_tup) star_tup) star_tup) star_tup) star_lst) star_lst))))
   (qss_one (qs_for PassesOwn.never rfl (qi_list (qv 8)) (qg_name (i := 11) sc_Q40.nd rfl (by first | exact Or.inl rfl | exact Or.inr rfl))
   (qss_one (qs_if (qt_not (qt_val (qcA (ok_Q12 T) hr T.m_Q12 T.F_Q12.kp T.b_Q12 (qa_cons (qv 3) (qa_cons (qv 5) (qa_cons (qxA ix_list (qv 7) (qcA (ok_Q17 T) hr T.m_Q17 T.F_Q17.kp T.b_Q17 (qa_cons (qv 1) (qa_cons qe_int qa_nil star_con) star_name))) (qa_cons (qv 11) qa_nil star_name) star_sub) star_name) star_name)))) (qss_one (qs_ret qe_bl)) qss_nil))))))))))))))))
   (qss_one (qs_ret qe_bl)))) ?_
 refine ⟨_, rfl, a, ns, rfl, hS, hl, fun t₁ H1 s1 ht T1 => ?_⟩
 refine ⟨5, rfl, by decide, by decide, for_range (lo := 0) (n := 5) (fun i σ H' => ∃ (x2 x3 x4 x5 x6 x7 x8 x9 x10 x11 : Option V), σ = [some (.ref a), some (.ref t₁), x2, x3, x4, x5, x6, x7, x8, x9, x10, x11] /\ Tape3 K H' t₁ a) ⟨none, none, none, none, none, none, none, none, none, none, rfl, T1⟩ ?_ ?_⟩
 ·rintro i₀ σ H2 hi ⟨x2, x3, x4, x5, x6, x7, x8, x9, x10, x11, rfl, tp⟩
  have S0 : Step t₁ H2 H2 := ⟨fun _ _ _ q => q, tp.lst, tp.lst⟩
  have hd_ := tp.lst
  refine ⟨_, rfl, _, rfl, t₁, a, 9, rfl, tp, by decide, by decide, fun ru1 zu1 au1 bu1 Tu1 => ?_⟩
  have Su1 := Step.up (ys := zu1) tp.lst.choose_spec
  replace S0 := S0.trans Su1
  replace hd_ := Su1.tp'
  replace tp := Tu1
  clear Tu1 Su1
  generalize upd H2 t₁ (.lst zu1) = Hu1 at S0 tp hd_ ⊢
  obtain ⟨m, rfl⟩ := Int.eq_ofNat_of_zero_le au1
  refine ⟨t₁, a, m, rfl, tp, by omega, fun vw ws HW SW TW wv lw okw => ?_⟩
  replace hd_ := SW.tp'
  replace S0 := S0.trans SW
  replace tp := TW
  clear TW SW
  obtain ⟨pw, xw, rfl, hW, alw⟩ := wv
  have lxw := alw.len
  refine ⟨_, rfl, .ref pw, ws, rfl, ⟨pw, xw, rfl, hW, alw⟩, by omega, okw, fun lf xf lys HF eF hf0 hf alf hLy lok l64 => ?_⟩
  have nlf := nwN hf0 tp.lst
  obtain ⟨S0, tp, hd_⟩ := cr3 eF S0 tp hd_
  replace hW := tS eF hW
  replace alw := aM eF alw
  have lxf := alf.len
  refine ⟨zl3, fun pu2 gu2 => ?_⟩
  generalize hG : upd HF pu2 (.lst [.int 1, .int 2, .int 9]) = Hu2
  obtain ⟨eu2, hu2, du2⟩ := nwE hG gu2 tp.lst hd_
  have nu2 := nwN gu2 tp.lst
  obtain ⟨S0, tp, hd_⟩ := cr3 eu2 S0 tp hd_
  replace hW := tS eu2 hW
  replace alw := aM eu2 alw
  replace hf := eu2 _ _ hf
  replace alf := aM eu2 alf
  have lsh := hu2
  clear eu2 hu2 du2 hG
  refine ⟨_, rfl, t₁, a, 3, rfl, tp, by decide, by decide, fun ru3 zu3 au3 bu3 Tu3 => ?_⟩
  have Su3 := Step.up (ys := zu3) tp.lst.choose_spec
  replace S0 := S0.trans Su3
  replace hd_ := Su3.tp'
  replace hW := tP Su3 hW
  replace alw := aT Su3 alw
  replace hf := Su3.keep _ _ nlf hf
  replace alf := aT Su3 alf
  replace lsh := Su3.keep _ _ nu2 lsh
  replace tp := Tu3
  clear Tu3 Su3
  generalize upd Hu2 t₁ (.lst zu3) = Hu3 at S0 tp hd_ hW alw hf alf lsh ⊢
  obtain ⟨hn, hat, hc⟩ : ∃ hn : Nat, atI [V.int 1, V.int 2, V.int 9] ru3 = some (.int (hn : Nat)) /\ (hn = 1 ∨ hn = 2 ∨ hn = 9) := by
   rcases (show ru3 = 0 ∨ ru3 = 1 ∨ ru3 = 2 by omega) with rfl | rfl | rfl
   ·exact ⟨1, rfl, by decide⟩
   ·exact ⟨2, rfl, by decide⟩
   ·exact ⟨9, rfl, by decide⟩
  refine ⟨pu2, _, _, _, rfl, rfl, SqL.of lsh, hat, ?_⟩
  clear lsh
  refine ⟨_, rfl, lf, _, rfl, .inl (SqL.of hf), _, _, rfl, rfl, _, rfl, ?_⟩
  by_cases c0 : 0 < lys.length
  obtain ⟨x0, hx0⟩ : ∃ x, xf[0]? = some x := ⟨_, List.getElem?_eq_getElem (by omega)⟩
  obtain ⟨y0, hy0, ly0⟩ := alf.at hx0
  have lo0 := lok y0 (List.mem_of_getElem? hy0)
  refine iteD1 (by omega) ?_
  refine ⟨_, rfl, _, rfl, lf, _, _, _, rfl, rfl, SqL.of hf, atI_nat (j := 0) hx0, .ref pw, x0, ws, y0, rfl, ⟨pw, xw, rfl, hW, alw⟩, by omega, okw, ly0, lo0, fun vr HR eR rvr => ?_⟩
  have rvE : ∃ rt, RV K HR vr rt /\ Bq 449755225920 108 rt := ⟨_, rvr, (rate_bq okw (by omega) lo0).mono (d1_len _ (Nat.lt_succ_of_le lo0.few) lo0.pos) (Nat.le_refl _)⟩
  clear rvr
  rotate_left
  refine iteD0 (by omega) ⟨zl2, fun pz gz => ?_⟩
  have eR := same_new gz (.tup [.int 1, .int 1])
  have rvE : ∃ rt, RV K (upd Hu3 pz (.tup [.int 1, .int 1])) (.ref pz) rt /\ Bq 449755225920 108 rt := ⟨(1, 1), RV.of upd_same, ⟨by decide, by decide, ⟨449755225920, by decide⟩, by decide⟩⟩
  generalize upd Hu3 pz (.tup [.int 1, .int 1]) = HR at eR rvE ⊢
  generalize V.ref pz = vr at rvE ⊢
  all_goals
   obtain ⟨rt, rvr, btr⟩ := rvE
   obtain ⟨S0, tp, hd_⟩ := cr3 eR S0 tp hd_
   replace hW := tS eR hW
   replace alw := aM eR alw
   replace hf := eR _ _ hf
   replace alf := aM eR alf
   clear eR
   have bt0 : TpOk rt := btr.mono ⟨900, by decide⟩ (by decide)
   have b99 : Bq 100 1 ((99, 100) : R) := ⟨by decide, by decide, ⟨1, by decide⟩, by decide⟩
   have bt1 : TpOk (timesR rt (99, 100)) := (btr.times b99).mono ⟨9, by decide⟩ (by decide)
   have bt2 : TpOk (timesR rt (1, 2 * (hn : Int))) := (btr.times (two_bq hc)).mono (two_dvd hc) (by decide)
   refine ⟨_, rfl, _, rfl, zl2, fun pu4 gu4 => ?_⟩
   generalize hG : upd HR pu4 (.tup [.int 99, .int 100]) = Hu4
   obtain ⟨eu4, hu4, du4⟩ := nwE hG gu4 tp.lst hd_
   obtain ⟨S0, tp, hd_⟩ := cr3 eu4 S0 tp hd_
   replace hW := tS eu4 hW
   replace alw := aM eu4 alw
   replace hf := eu4 _ _ hf
   replace alf := aM eu4 alf
   replace rvr := rvr.mono (Tst.same eu4)
   have r99 : RV K Hu4 (.ref pu4) (99, 100) := RV.of hu4
   clear eu4 hu4 du4 hG
   refine ⟨vr, .ref pu4, rt, (99, 100), 70, 70, rfl, rvr, r99, bd_wf bt0 (by decide), ⟨by decide, by decide, by decide, by decide⟩, by decide, fun pu5 gu5 => ?_⟩
   generalize hG : upd Hu4 pu5 (.tup [.int (timesR rt (99, 100)).1, .int (timesR rt (99, 100)).2]) = Hu5
   obtain ⟨eu5, hu5, du5⟩ := nwE hG gu5 tp.lst hd_
   obtain ⟨S0, tp, hd_⟩ := cr3 eu5 S0 tp hd_
   replace hW := tS eu5 hW
   replace alw := aM eu5 alw
   replace hf := eu5 _ _ hf
   replace alf := aM eu5 alf
   replace rvr := rvr.mono (Tst.same eu5)
   have rv1 : RV K Hu5 (.ref pu5) (timesR rt (99, 100)) := RV.of hu5
   clear eu5 hu5 du5 hG
   refine ⟨_, rfl, _, rfl, _, _, rfl, rfl, .inl ⟨by decide, by decide⟩, zl2, fun pu6 gu6 => ?_⟩
   generalize hG : upd Hu5 pu6 (.tup [.int 1, .int (2 * (hn : Int))]) = Hu6
   obtain ⟨eu6, hu6, du6⟩ := nwE hG gu6 tp.lst hd_
   obtain ⟨S0, tp, hd_⟩ := cr3 eu6 S0 tp hd_
   replace hW := tS eu6 hW
   replace alw := aM eu6 alw
   replace hf := eu6 _ _ hf
   replace alf := aM eu6 alf
   replace rvr := rvr.mono (Tst.same eu6)
   replace rv1 := rv1.mono (Tst.same eu6)
   have r2h : RV K Hu6 (.ref pu6) (1, 2 * (hn : Int)) := RV.of hu6
   clear eu6 hu6 du6 hG
   have w2h : Wf 70 ((1, 2 * (hn : Int)) : R) := by rcases hc with rfl | rfl | rfl <;> exact ⟨by decide, by decide, by decide, by decide⟩
   refine ⟨vr, .ref pu6, rt, (1, 2 * (hn : Int)), 70, 70, rfl, rvr, r2h, bd_wf bt0 (by decide), w2h, by decide, fun pu7 gu7 => ?_⟩
   generalize hG : upd Hu6 pu7 (.tup [.int (timesR rt (1, 2 * (hn : Int))).1, .int (timesR rt (1, 2 * (hn : Int))).2]) = Hu7
   obtain ⟨eu7, hu7, du7⟩ := nwE hG gu7 tp.lst hd_
   obtain ⟨S0, tp, hd_⟩ := cr3 eu7 S0 tp hd_
   replace hW := tS eu7 hW
   replace alw := aM eu7 alw
   replace hf := eu7 _ _ hf
   replace alf := aM eu7 alf
   replace rvr := rvr.mono (Tst.same eu7)
   replace rv1 := rv1.mono (Tst.same eu7)
   have rv2 : RV K Hu7 (.ref pu7) (timesR rt (1, 2 * (hn : Int))) := RV.of hu7
   clear eu7 hu7 du7 hG
   refine ⟨_, rfl, t₁, a, 9, rfl, tp, by decide, by decide, fun ru8 zu8 au8 bu8 Tu8 => ?_⟩
   have Su8 := Step.up (ys := zu8) tp.lst.choose_spec
   replace S0 := S0.trans Su8
   replace hd_ := Su8.tp'
   replace hW := tP Su8 hW
   replace alw := aT Su8 alw
   replace hf := Su8.keep _ _ nlf hf
   replace alf := aT Su8 alf
   replace rvr := rvr.mono (Tst.step (K := K) Su8)
   replace rv1 := rv1.mono (Tst.step (K := K) Su8)
   replace rv2 := rv2.mono (Tst.step (K := K) Su8)
   replace tp := Tu8
   clear Tu8 Su8
   generalize upd Hu7 t₁ (.lst zu8) = Hu8 at S0 tp hd_ hW alw hf alf rvr rv1 rv2 ⊢
   have bt3 : TpOk ((1 + ru8, 1) : R) := (int_bq (i := 1 + ru8) (n := 108) (by omega)).mono ⟨404779703328000, by decide⟩ (Nat.le_refl _)
   refine ⟨_, _, rfl, rfl, zl2, fun pu9 gu9 => ?_⟩
   generalize hG : upd Hu8 pu9 (.tup [.int (1 + ru8), .int 1]) = Hu9
   obtain ⟨eu9, hu9, du9⟩ := nwE hG gu9 tp.lst hd_
   obtain ⟨S0, tp, hd_⟩ := cr3 eu9 S0 tp hd_
   replace hW := tS eu9 hW
   replace alw := aM eu9 alw
   replace hf := eu9 _ _ hf
   replace alf := aM eu9 alf
   replace rvr := rvr.mono (Tst.same eu9)
   replace rv1 := rv1.mono (Tst.same eu9)
   replace rv2 := rv2.mono (Tst.same eu9)
   have rv3 : RV K Hu9 (.ref pu9) (1 + ru8, 1) := RV.of hu9
   clear eu9 hu9 du9 hG
   refine ⟨zl4, fun pu10 gu10 => ?_⟩
   generalize hG : upd Hu9 pu10 (.lst [vr, .ref pu5, .ref pu7, .ref pu9]) = Hu10
   obtain ⟨eu10, hu10, du10⟩ := nwE hG gu10 tp.lst hd_
   have nu10 := nwN gu10 tp.lst
   obtain ⟨S0, tp, hd_⟩ := cr3 eu10 S0 tp hd_
   replace hW := tS eu10 hW
   replace alw := aM eu10 alw
   replace hf := eu10 _ _ hf
   replace alf := aM eu10 alf
   replace rvr := rvr.mono (Tst.same eu10)
   replace rv1 := rv1.mono (Tst.same eu10)
   replace rv2 := rv2.mono (Tst.same eu10)
   replace rv3 := rv3.mono (Tst.same eu10)
   have lst0 := hu10
   clear eu10 hu10 du10 hG
   obtain ⟨xT, rT, lsT, alT, l4, okT⟩ : ∃ (xT : List V) (rT : List R), Hu10 pu10 = some (.lst xT) /\ Als (RV K Hu10) xT rT /\ xT.length = 4 /\ ∀ r ∈ rT, TpOk r := ⟨_, [rt, timesR rt (99, 100), timesR rt (1, 2 * (hn : Int)), (1 + ru8, 1)], lst0, .cons rvr (.cons rv1 (.cons rv2 (.cons rv3 .nil))), rfl, fun r hr => by
    simp only [List.mem_cons, List.not_mem_nil, or_false] at hr
    rcases hr with rfl | rfl | rfl | rfl
    ·exact bt0
    ·exact bt1
    ·exact bt2
    ·exact bt3⟩
   clear lst0 rvr rv1 rv2 rv3
   refine ⟨(by show 0 ≤ sizeLine; exact Nat.zero_le _), fun pu11 gu11 => ?_⟩
   generalize hG : upd Hu10 pu11 (.tup []) = Hu11
   obtain ⟨eu11, hu11, du11⟩ := nwE hG gu11 tp.lst hd_
   obtain ⟨S0, tp, hd_⟩ := cr3 eu11 S0 tp hd_
   replace hW := tS eu11 hW
   replace alw := aM eu11 alw
   replace hf := eu11 _ _ hf
   replace alf := aM eu11 alf
   replace lsT := eu11 _ _ lsT
   replace alT := aM eu11 alT
   have sq1 : SqT K Hu11 pu11 (natV []) := SqT.of hu11
   clear eu11 hu11 du11 hG
   refine ⟨_, rfl, fun pu12 gu12 => ?_⟩
   generalize hG : upd Hu11 pu12 (.rng 0 24) = Hu12
   obtain ⟨eu12, hu12, du12⟩ := nwE hG gu12 tp.lst hd_
   obtain ⟨S0, tp, hd_⟩ := cr3 eu12 S0 tp hd_
   replace hW := tS eu12 hW
   replace alw := aM eu12 alw
   replace hf := eu12 _ _ hf
   replace alf := aM eu12 alf
   replace lsT := eu12 _ _ lsT
   replace alT := aM eu12 alT
   replace sq1 := tS eu12 sq1
   have rg2 := hu12
   clear eu12 hu12 du12 hG
   refine ⟨pu12, 24, rfl, rg2, by decide, fun pu13 gu13 => ?_⟩
   generalize hG : upd Hu12 pu13 (.tup ((B.upTo 24).map V.int)) = Hu13
   obtain ⟨eu13, hu13, du13⟩ := nwE hG gu13 tp.lst hd_
   obtain ⟨S0, tp, hd_⟩ := cr3 eu13 S0 tp hd_
   replace hW := tS eu13 hW
   replace alw := aM eu13 alw
   replace hf := eu13 _ _ hf
   replace alf := aM eu13 alf
   replace lsT := eu13 _ _ lsT
   replace alT := aM eu13 alT
   replace sq1 := tS eu13 sq1
   have sq2 : SqT K Hu13 pu13 (natV (List.range 24)) := (by rw [natU]; exact SqT.of hu13)
   clear eu13 hu13 du13 hG
   refine ⟨24, rfl, by decide, by decide, fun Dq hDq => comp_pick3 (K := K) (n := 24) hDq tp (by decide) (fun i H' hi tst T' R E kR kE => ?_) fun HP ns SP TP hP lP bP => ?_⟩
   ·obtain ⟨y', e'⟩ := T'.lst
    refine ⟨Ext.set rfl, _, rfl, t₁, a, 3, rfl, T', by decide, by decide, fun r5 x5_ a5 b5 T5 => ?_⟩
    have S5 : Step t₁ H' _ := Step.up (ys := x5_) e'
    refine ⟨rfl, _, rfl, ite2 (fun _ => ⟨_, rfl, kR _ S5 T5⟩) fun _ => kE _ S5 T5⟩
   replace hd_ := SP.tp'
   replace hW := tP SP hW
   replace alw := aT SP alw
   replace hf := SP.keep _ _ nlf hf
   replace alf := aT SP alf
   replace lsT := SP.keep _ _ nu10 lsT
   replace alT := aT SP alT
   replace sq1 := tP SP sq1
   replace sq2 := tP SP sq2
   replace S0 := S0.trans SP
   replace tp := TP
   clear TP SP
   replace hP : HP Dq = some (.lst (natV ns)) := hP
   refine ⟨Dq, natV ns, rfl, .inl ?_⟩
   refine ⟨SqL.of hP, fun pu14 gu14 => ?_⟩
   generalize hG : upd HP pu14 (.tup (natV ns)) = Hu14
   obtain ⟨eu14, hu14, du14⟩ := nwE hG gu14 tp.lst hd_
   obtain ⟨S0, tp, hd_⟩ := cr3 eu14 S0 tp hd_
   replace hW := tS eu14 hW
   replace alw := aM eu14 alw
   replace hf := eu14 _ _ hf
   replace alf := aM eu14 alf
   replace lsT := eu14 _ _ lsT
   replace alT := aM eu14 alT
   replace sq1 := tS eu14 sq1
   replace sq2 := tS eu14 sq2
   have sq3 : SqT K Hu14 pu14 (natV ns) := SqT.of hu14
   clear eu14 hu14 du14 hG
   refine ⟨zl3, fun pu15 gu15 => ?_⟩
   generalize hG : upd Hu14 pu15 (.lst [.ref pu11, .ref pu13, .ref pu14]) = Hu15
   obtain ⟨eu15, hu15, du15⟩ := nwE hG gu15 tp.lst hd_
   have nu15 := nwN gu15 tp.lst
   obtain ⟨S0, tp, hd_⟩ := cr3 eu15 S0 tp hd_
   replace hW := tS eu15 hW
   replace alw := aM eu15 alw
   replace hf := eu15 _ _ hf
   replace alf := aM eu15 alf
   replace lsT := eu15 _ _ lsT
   replace alT := aM eu15 alT
   replace sq1 := tS eu15 sq1
   replace sq2 := tS eu15 sq2
   replace sq3 := tS eu15 sq3
   have ls0 := hu15
   clear eu15 hu15 du15 hG
   obtain ⟨xS, lS, lsS, alS, n3, okS⟩ : ∃ (xS : List V) (lS : List (List Nat)), Hu15 pu15 = some (.lst xS) /\ Als (TuV K Hu15) xS lS /\ xS.length = 3 /\ ∀ y ∈ lS, TuOk y := ⟨_, [[], List.range 24, ns], ls0, .cons ⟨_, rfl, sq1⟩ (.cons ⟨_, rfl, sq2⟩ (.cons ⟨_, rfl, sq3⟩ .nil)), rfl, tuC ⟨by decide, fun n hn => by cases hn⟩ (tuC ⟨by decide, fun n hn => List.mem_range.mp hn⟩ (tuC ⟨lP, bP⟩ tuN))⟩
   clear ls0 sq1 sq2 sq3
   refine ⟨_, rfl, _, rfl, _, rfl, lf, _, rfl, SqL.of hf, fun pu16 gu16 => ?_⟩
   generalize hG : upd Hu15 pu16 (.lst (cutV xf none (some 2))) = Hu16
   obtain ⟨eu16, hu16, du16⟩ := nwE hG gu16 tp.lst hd_
   have nu16 := nwN gu16 tp.lst
   obtain ⟨S0, tp, hd_⟩ := cr3 eu16 S0 tp hd_
   replace hW := tS eu16 hW
   replace alw := aM eu16 alw
   replace hf := eu16 _ _ hf
   replace alf := aM eu16 alf
   replace lsT := eu16 _ _ lsT
   replace alT := aM eu16 alT
   replace lsS := eu16 _ _ lsS
   replace alS := aM eu16 alS
   have lsc : Hu16 pu16 = some (.lst (xf.take 2)) := (by have q_ := hu16; rw [show (some (2) : Option Int) = some ((2 : Nat) : Int) from rfl, cut_any (n := 2)] at q_; exact q_)
   clear eu16 hu16 du16 hG
   have al2 := alf.take 2
   have le2 := al2.len
   have lt2 : (lys.take 2).length ≤ 2 := by rw [List.length_take]; omega
   refine ⟨pu16, rfl, ⟨_, SqL.of lsc⟩, fun Dl hDl => comp_mapL (K := K) (P := TuV K) (ds := lys.take 2) (f := fun y => y.1) (fun _ _ _ _ t p => p.mono t) hDl (SqL.of lsc) le2 (by omega) (fun i x y H' hx hd s' R E kR => ?_) fun HL yl eL hL alL => ?_⟩
   ·obtain ⟨y', hy', pL, a_, b_, rfl, hpL, ha, hb⟩ := al2.at hx
    rw [hd] at hy'
    cases hy'
    have t' := Tst.same (K := K) s'
    exact ⟨Ext.set rfl, _, rfl, pL, _, _, _, rfl, rfl, t' _ _ hpL, rfl, kR _ _ (Same.refl _) ⟨a_, rfl, t' _ _ ha⟩⟩
   have okL : ∀ y ∈ (lys.take 2).map fun y => y.1, TuOk y := fun y hy => by
    obtain ⟨z, hz, rfl⟩ := List.mem_map.mp hy
    have lo := lok z (List.mem_of_mem_take hz)
    exact ⟨lo.few, lo.lt⟩
   have lyl := alL.len
   rw [List.length_map] at lyl
   have nDl := nwN hDl tp.lst
   clear lsc al2
   obtain ⟨S0, tp, hd_⟩ := cr3 eL S0 tp hd_
   replace hW := tS eL hW
   replace alw := aM eL alw
   replace lsT := eL _ _ lsT
   replace alT := aM eL alT
   replace lsS := eL _ _ lsS
   replace alS := aM eL alS
   refine ⟨pu15, Dl, _, _, rfl, rfl, lsS, hL, Nat.le_trans (show _ ≤ 1000 by omega) zl1000, fun pu17 gu17 => ?_⟩
   generalize hG : upd HL pu17 (.lst (xS ++ yl)) = Hu17
   obtain ⟨eu17, hu17, du17⟩ := nwE hG gu17 tp.lst hd_
   have nu17 := nwN gu17 tp.lst
   obtain ⟨S0, tp, hd_⟩ := cr3 eu17 S0 tp hd_
   replace hW := tS eu17 hW
   replace alw := aM eu17 alw
   replace lsT := eu17 _ _ lsT
   replace alT := aM eu17 alT
   replace lsS := eu17 _ _ lsS
   replace alS := aM eu17 alS
   replace hL := eu17 _ _ hL
   replace alL := aM eu17 alL
   have ls2 := hu17
   clear eu17 hu17 du17 hG
   have alA := alS.join alL
   refine ⟨_, rfl, _, rfl, pw, _, rfl, hW, fun pu18 Hu18 eu18 cu18 => ?_⟩
   obtain ⟨S0, tp, hd_⟩ := cr3 eu18 S0 tp hd_
   replace hW := tS eu18 hW
   replace alw := aM eu18 alw
   replace lsT := eu18 _ _ lsT
   replace alT := aM eu18 alT
   replace ls2 := eu18 _ _ ls2
   replace alA := aM eu18 alA
   have sqv : SqT K Hu18 pu18 (xw.take 2) := (by rw [show (some (2) : Option Int) = some ((2 : Nat) : Int) from rfl, cut_any (n := 2)] at cu18; exact cu18)
   clear eu18
   have alw2 := alw.take 2
   have lw2 := alw2.len
   have ltw : (ws.take 2).length ≤ 2 := by rw [List.length_take]; omega
   refine ⟨pu18, rfl, ⟨_, sqv⟩, fun Dm hDm => comp_mapT (K := K) (P := TuV K) (ds := ws.take 2) (f := fun w => frmTo w.1 (w.2.1 + 1 - w.1)) (fun _ _ _ _ t p => p.mono t) hDm sqv lw2 (by omega) (fun i x w H' hx hd s' R E kR => ?_) fun HM ym eM hM alM => ?_⟩
   ·obtain ⟨w', hw', pW, xa, rfl, hSw, rx⟩ := alw2.at hx
    rw [hd] at hw'
    cases hw'
    have ok_ := okw w (List.mem_of_mem_take (List.mem_of_getElem? hd))
    have ole := ok_.le
    have olt := ok_.lt
    have t' := Tst.same (K := K) s'
    have eh : ((w.2.1 : Nat) : Int) + 1 = ((w.1 + (w.2.1 + 1 - w.1) : Nat) : Int) := by omega
    refine ⟨Ext.set rfl, _, rfl, pW, _, _, _, rfl, rfl, t' _ _ hSw, rfl, _, rfl, pW, _, _, _, rfl, rfl, t' _ _ hSw, rfl, _, _, rfl, rfl, _, _, rfl, fun pr hpr => ?_⟩
    refine ⟨pr, w.1, w.2.1 + 1 - w.1, rfl, (by rw [← eh]; exact upd_same), by omega, fun l hl => ?_⟩
    exact kR _ _ ((same_new hpr _).trans (same_new hl _)) ⟨l, rfl, SqT.of upd_same⟩
   have okM : ∀ y ∈ (ws.take 2).map fun w : Wk => frmTo w.1 (w.2.1 + 1 - w.1), TuOk y := fun y hy => by
    obtain ⟨z, hz, rfl⟩ := List.mem_map.mp hy
    have ok_ := okw z (List.mem_of_mem_take hz)
    have ole := ok_.le
    have olt := ok_.lt
    exact tu_frm (by omega)
   have lym := alM.len
   rw [List.length_map] at lym
   have nDm := nwN hDm tp.lst
   clear sqv alw2
   obtain ⟨S0, tp, hd_⟩ := cr3 eM S0 tp hd_
   replace hW := tS eM hW
   replace alw := aM eM alw
   replace lsT := eM _ _ lsT
   replace alT := aM eM alT
   replace ls2 := eM _ _ ls2
   replace alA := aM eM alA
   refine ⟨pu17, Dm, _, _, rfl, rfl, ls2, hM, Nat.le_trans (show _ ≤ 1000 by rw [List.length_append]; omega) zl1000, fun pu19 gu19 => ?_⟩
   have nTE : pu10 ≠ pu19 := ne_of_none lsT gu19
   have offE := tp.off gu19
   generalize hG : upd HM pu19 (.lst ((xS ++ yl) ++ ym)) = Hu19
   obtain ⟨eu19, hu19, du19⟩ := nwE hG gu19 tp.lst hd_
   have nu19 := nwN gu19 tp.lst
   obtain ⟨S0, tp, hd_⟩ := cr3 eu19 S0 tp hd_
   replace hW := tS eu19 hW
   replace alw := aM eu19 alw
   replace lsT := eu19 _ _ lsT
   replace alT := aM eu19 alT
   replace ls2 := eu19 _ _ ls2
   replace alA := aM eu19 alA
   replace hM := eu19 _ _ hM
   replace alM := aM eu19 alM
   have ls3 := hu19
   clear eu19 hu19 du19 hG
   have alB := alA.join alM
   have okB := tuA (tuA okS okL) okM
   have lB : ((xS ++ yl) ++ ym).length ≤ 7 := by rw [List.length_append, List.length_append]; omega
   clear ls2 alA hM alM
   generalize (xS ++ yl) ++ ym = xB at ls3 alB lB
   generalize (lS ++ (lys.take 2).map fun y => y.1) ++ (ws.take 2).map (fun w : Wk => frmTo w.1 (w.2.1 + 1 - w.1)) = lBs at alB okB
   refine ⟨_, rfl, t₁, a, 24, rfl, tp, by decide, by decide, fun ru20 zu20 au20 bu20 Tu20 => ?_⟩
   have Su20 := Step.up (ys := zu20) tp.lst.choose_spec
   replace S0 := S0.trans Su20
   replace hd_ := Su20.tp'
   replace hW := tP Su20 hW
   replace alw := aT Su20 alw
   replace lsT := Su20.keep _ _ nu10 lsT
   replace alT := aT Su20 alT
   replace ls3 := Su20.keep _ _ nu19 ls3
   replace alB := aT Su20 alB
   replace tp := Tu20
   clear Tu20 Su20
   generalize upd Hu19 t₁ (.lst zu20) = Hu20 at S0 tp hd_ hW alw lsT alT ls3 alB ⊢
   obtain ⟨ff, rfl⟩ := Int.eq_ofNat_of_zero_le au20
   refine ⟨_, rfl, _, rfl, _, rfl, _, _, rfl, rfl, t₁, a, _, rfl, tp, by omega, by omega, fun ru21 zu21 au21 bu21 Tu21 => ?_⟩
   have Su21 := Step.up (ys := zu21) tp.lst.choose_spec
   replace S0 := S0.trans Su21
   replace hd_ := Su21.tp'
   replace hW := tP Su21 hW
   replace alw := aT Su21 alw
   replace lsT := Su21.keep _ _ nu10 lsT
   replace alT := aT Su21 alT
   replace ls3 := Su21.keep _ _ nu19 ls3
   replace alB := aT Su21 alB
   replace tp := Tu21
   clear Tu21 Su21
   generalize upd Hu20 t₁ (.lst zu21) = Hu21 at S0 tp hd_ hW alw lsT alT ls3 alB ⊢
   obtain ⟨gg, rfl⟩ := Int.eq_ofNat_of_zero_le au21
   refine ⟨_, _, rfl, rfl, _, rfl, .inl ⟨rfl, _, SqL.of ls3⟩, _, rfl, _, rfl, _, _, rfl, rfl, _, _, rfl, fun pu22 gu22 => ?_⟩
   generalize hG : upd Hu21 pu22 (.rng (ff : Int) ((ff : Int) + (gg : Int) + 1)) = Hu22
   obtain ⟨eu22, hu22, du22⟩ := nwE hG gu22 tp.lst hd_
   obtain ⟨S0, tp, hd_⟩ := cr3 eu22 S0 tp hd_
   replace hW := tS eu22 hW
   replace alw := aM eu22 alw
   replace lsT := eu22 _ _ lsT
   replace alT := aM eu22 alT
   replace ls3 := eu22 _ _ ls3
   replace alB := aM eu22 alB
   have rg4 : Hu22 pu22 = some (.rng (ff : Int) ((ff + (gg + 1) : Nat) : Int)) := (by rw [show ((ff + (gg + 1) : Nat) : Int) = (ff : Int) + (gg : Int) + 1 by omega]; exact hu22)
   clear eu22 hu22 du22 hG
   refine ⟨pu22, ff, gg + 1, rfl, rg4, by omega, fun pu23 gu23 => ?_⟩
   generalize hG : upd Hu22 pu23 (.tup ((frmTo ff (gg + 1)).map fun i : Nat => V.int i)) = Hu23
   obtain ⟨eu23, hu23, du23⟩ := nwE hG gu23 tp.lst hd_
   obtain ⟨S0, tp, hd_⟩ := cr3 eu23 S0 tp hd_
   replace hW := tS eu23 hW
   replace alw := aM eu23 alw
   replace lsT := eu23 _ _ lsT
   replace alT := aM eu23 alT
   replace ls3 := eu23 _ _ ls3
   replace alB := aM eu23 alB
   have sq4 : TuV K Hu23 (.ref pu23) (frmTo ff (gg + 1)) := ⟨_, rfl, SqT.of hu23⟩
   clear eu23 hu23 du23 hG
   refine ⟨pu19, xB, _, rfl, rfl, ls3, small1000 (by omega), ?_⟩
   have tuE := Tst.up (K := K) ls3 (xB ++ [V.ref pu23])
   have lsE : upd Hu23 pu19 (.lst (xB ++ [V.ref pu23])) pu19 = some (.lst (xB ++ [V.ref pu23])) := upd_same
   have alE := (alB.mono fun _ _ q => q.mono tuE).snoc (sq4.mono tuE)
   have okE := tuA okB (tuC (tu_frm (a := ff) (n := gg + 1) (by omega)) tuN)
   have lE : (xB ++ [V.ref pu23]).length ≤ 8 := by rw [List.length_append]; show xB.length + 1 ≤ 8; omega
   replace tp := tp.upl nu19 offE (.lst (xB ++ [V.ref pu23]))
   replace hW := tuE _ _ hW
   replace alw := aU tuE alw
   replace alT := aU tuE alT
   replace lsT : upd Hu23 pu19 (.lst (xB ++ [V.ref pu23])) pu10 = some (.lst xT) := by rw [upd_ne nTE]; exact lsT
   clear hd_ S0 alB sq4 ls3 tuE rg4 rg2
   generalize upd Hu23 pu19 (.lst (xB ++ [V.ref pu23])) = HE at tp hW alw alT lsT lsE alE ⊢
   generalize xB ++ [V.ref pu23] = xE at lsE alE lE
   generalize lBs ++ [frmTo ff (gg + 1)] = lEs at alE okE
   have hd_ := tp.lst
   have S0 : Step t₁ HE HE := ⟨fun _ _ _ q => q, tp.lst, tp.lst⟩
   have daE : DeepAll K (hid HE t₁ t₁) xE (lEs.map natD) := (alE.mono fun _ _ q => q.mono (hd_tt (K := K) tp.lst)).deep fun _ _ q => q.deep
   have geE := gd_nats okE
   have iE := i24T okE
   have lEe : lEs.length ≤ 8 := by rw [← alE.len]; exact lE
   have lEd : (lEs.map natD).length ≤ 8 := by rw [List.length_map]; exact lEe
   clear alE
   refine ⟨_, rfl, zl0, fun pe1 ge1 => ?_⟩
   generalize hG : upd HE pe1 (.lst []) = He1
   obtain ⟨ee1, he1, de1⟩ := nwE hG ge1 tp.lst hd_
   have ne1 := nwN ge1 tp.lst
   obtain ⟨S0, tp, hd_⟩ := cr3 ee1 S0 tp hd_
   replace hW := tS ee1 hW
   replace alw := aM ee1 alw
   replace alT := aM ee1 alT
   replace lsT := ee1 _ _ lsT
   replace lsE := ee1 _ _ lsE
   replace daE := aS ee1 daE
   have lse1 := he1
   have dae1 : DeepAll K (hid He1 t₁ t₁) [] [] := .nil
   have dpe1 := dpL de1 dae1
   clear ee1 he1 de1 hG
   have gee1 : ∀ d ∈ ([] : List PyData), Gd 0 0 d := gN
   have gde1 := gLs 0 8 gee1
   refine ⟨zl1, fun pe2 ge2 => ?_⟩
   generalize hG : upd He1 pe2 (.lst [V.int (0)]) = He2
   obtain ⟨ee2, he2, de2⟩ := nwE hG ge2 tp.lst hd_
   have ne2 := nwN ge2 tp.lst
   obtain ⟨S0, tp, hd_⟩ := cr3 ee2 S0 tp hd_
   replace hW := tS ee2 hW
   replace alw := aM ee2 alw
   replace alT := aM ee2 alT
   replace lsT := ee2 _ _ lsT
   replace lsE := ee2 _ _ lsE
   replace daE := aS ee2 daE
   replace dpe1 := dS ee2 dpe1
   have lse2 := he2
   have dae2 : DeepAll K (hid He2 t₁ t₁) [V.int (0)] [.int (0)] := (.cons (.int _) .nil)
   have dpe2 := dpL de2 dae2
   clear ee2 he2 de2 hG
   have gee2 : ∀ d ∈ ([.int (0)] : List PyData), Gd 0 5000 d := (gC (gW (gd_int (by decide))) gN)
   have gde2 := gLs 1 5011 gee2
   refine ⟨zl2, fun pe3 ge3 => ?_⟩
   generalize hG : upd He2 pe3 (.tup [V.int (1), V.int (0)]) = He3
   obtain ⟨ee3, he3, de3⟩ := nwE hG ge3 tp.lst hd_
   obtain ⟨S0, tp, hd_⟩ := cr3 ee3 S0 tp hd_
   replace hW := tS ee3 hW
   replace alw := aM ee3 alw
   replace alT := aM ee3 alT
   replace lsT := ee3 _ _ lsT
   replace lsE := ee3 _ _ lsE
   replace daE := aS ee3 daE
   replace dpe1 := dS ee3 dpe1
   replace dpe2 := dS ee3 dpe2
   have sqe3 := SqT.of (K := K) he3
   have dae3 : DeepAll K (hid He3 t₁ t₁) [V.int (1), V.int (0)] [.int (1), .int (0)] := (.cons (.int _) (.cons (.int _) .nil))
   have dpe3 := dpT de3 dae3
   clear ee3 he3 de3 hG
   have gee3 : ∀ d ∈ ([.int (1), .int (0)] : List PyData), Gd 0 5000 d := (gC (gW (gd_int (by decide))) (gC (gW (gd_int (by decide))) gN))
   have gde3 := gTu 2 10014 gee3
   refine ⟨zl2, fun pe4 ge4 => ?_⟩
   generalize hG : upd He3 pe4 (.tup [V.int (3), V.int (3)]) = He4
   obtain ⟨ee4, he4, de4⟩ := nwE hG ge4 tp.lst hd_
   obtain ⟨S0, tp, hd_⟩ := cr3 ee4 S0 tp hd_
   replace hW := tS ee4 hW
   replace alw := aM ee4 alw
   replace alT := aM ee4 alT
   replace lsT := ee4 _ _ lsT
   replace lsE := ee4 _ _ lsE
   replace daE := aS ee4 daE
   replace dpe1 := dS ee4 dpe1
   replace dpe2 := dS ee4 dpe2
   replace dpe3 := dS ee4 dpe3
   have sqe4 := SqT.of (K := K) he4
   have dae4 : DeepAll K (hid He4 t₁ t₁) [V.int (3), V.int (3)] [.int (3), .int (3)] := (.cons (.int _) (.cons (.int _) .nil))
   have dpe4 := dpT de4 dae4
   clear ee4 he4 de4 hG
   have gee4 : ∀ d ∈ ([.int (3), .int (3)] : List PyData), Gd 0 5000 d := (gC (gW (gd_int (by decide))) (gC (gW (gd_int (by decide))) gN))
   have gde4 := gTu 2 10014 gee4
   refine ⟨zl2, fun pe5 ge5 => ?_⟩
   generalize hG : upd He4 pe5 (.tup [V.int (23), V.int (24)]) = He5
   obtain ⟨ee5, he5, de5⟩ := nwE hG ge5 tp.lst hd_
   obtain ⟨S0, tp, hd_⟩ := cr3 ee5 S0 tp hd_
   replace hW := tS ee5 hW
   replace alw := aM ee5 alw
   replace alT := aM ee5 alT
   replace lsT := ee5 _ _ lsT
   replace lsE := ee5 _ _ lsE
   replace daE := aS ee5 daE
   replace dpe1 := dS ee5 dpe1
   replace dpe2 := dS ee5 dpe2
   replace dpe3 := dS ee5 dpe3
   replace dpe4 := dS ee5 dpe4
   have sqe5 := SqT.of (K := K) he5
   have dae5 : DeepAll K (hid He5 t₁ t₁) [V.int (23), V.int (24)] [.int (23), .int (24)] := (.cons (.int _) (.cons (.int _) .nil))
   have dpe5 := dpT de5 dae5
   clear ee5 he5 de5 hG
   have gee5 : ∀ d ∈ ([.int (23), .int (24)] : List PyData), Gd 0 5000 d := (gC (gW (gd_int (by decide))) (gC (gW (gd_int (by decide))) gN))
   have gde5 := gTu 2 10014 gee5
   refine ⟨_, rfl, zl2, fun pe6 ge6 => ?_⟩
   generalize hG : upd He5 pe6 (.tup [V.int (-1), V.int (0)]) = He6
   obtain ⟨ee6, he6, de6⟩ := nwE hG ge6 tp.lst hd_
   obtain ⟨S0, tp, hd_⟩ := cr3 ee6 S0 tp hd_
   replace hW := tS ee6 hW
   replace alw := aM ee6 alw
   replace alT := aM ee6 alT
   replace lsT := ee6 _ _ lsT
   replace lsE := ee6 _ _ lsE
   replace daE := aS ee6 daE
   replace dpe1 := dS ee6 dpe1
   replace dpe2 := dS ee6 dpe2
   replace dpe3 := dS ee6 dpe3
   replace dpe4 := dS ee6 dpe4
   replace dpe5 := dS ee6 dpe5
   have sqe6 := SqT.of (K := K) he6
   have dae6 : DeepAll K (hid He6 t₁ t₁) [V.int (-1), V.int (0)] [.int (-1), .int (0)] := (.cons (.int _) (.cons (.int _) .nil))
   have dpe6 := dpT de6 dae6
   clear ee6 he6 de6 hG
   have gee6 : ∀ d ∈ ([.int (-1), .int (0)] : List PyData), Gd 0 5000 d := (gC (gW (gd_int (by decide))) (gC (gW (gd_int (by decide))) gN))
   have gde6 := gTu 2 10014 gee6
   refine ⟨zl1, fun pe7 ge7 => ?_⟩
   generalize hG : upd He6 pe7 (.tup [V.bl true]) = He7
   obtain ⟨ee7, he7, de7⟩ := nwE hG ge7 tp.lst hd_
   obtain ⟨S0, tp, hd_⟩ := cr3 ee7 S0 tp hd_
   replace hW := tS ee7 hW
   replace alw := aM ee7 alw
   replace alT := aM ee7 alT
   replace lsT := ee7 _ _ lsT
   replace lsE := ee7 _ _ lsE
   replace daE := aS ee7 daE
   replace dpe1 := dS ee7 dpe1
   replace dpe2 := dS ee7 dpe2
   replace dpe3 := dS ee7 dpe3
   replace dpe4 := dS ee7 dpe4
   replace dpe5 := dS ee7 dpe5
   replace dpe6 := dS ee7 dpe6
   have sqe7 := SqT.of (K := K) he7
   have dae7 : DeepAll K (hid He7 t₁ t₁) [V.bl true] [PyData.bool true] := (.cons (.bl _) .nil)
   have dpe7 := dpT de7 dae7
   clear ee7 he7 de7 hG
   have gee7 : ∀ d ∈ ([PyData.bool true] : List PyData), Gd 0 5000 d := (gC (gW (gd_bool true)) gN)
   have gde7 := gTu 1 5011 gee7
   refine ⟨zl2, fun pe8 ge8 => ?_⟩
   generalize hG : upd He7 pe8 (.tup [V.int (0), V.str (Str.ofString "1")]) = He8
   obtain ⟨ee8, he8, de8⟩ := nwE hG ge8 tp.lst hd_
   obtain ⟨S0, tp, hd_⟩ := cr3 ee8 S0 tp hd_
   replace hW := tS ee8 hW
   replace alw := aM ee8 alw
   replace alT := aM ee8 alT
   replace lsT := ee8 _ _ lsT
   replace lsE := ee8 _ _ lsE
   replace daE := aS ee8 daE
   replace dpe1 := dS ee8 dpe1
   replace dpe2 := dS ee8 dpe2
   replace dpe3 := dS ee8 dpe3
   replace dpe4 := dS ee8 dpe4
   replace dpe5 := dS ee8 dpe5
   replace dpe6 := dS ee8 dpe6
   replace dpe7 := dS ee8 dpe7
   have sqe8 := SqT.of (K := K) he8
   have dae8 : DeepAll K (hid He8 t₁ t₁) [V.int (0), V.str (Str.ofString "1")] [.int (0), PyData.str (Str.ofString "1")] := (.cons (.int _) (.cons (.str _) .nil))
   have dpe8 := dpT de8 dae8
   clear ee8 he8 de8 hG
   have gee8 : ∀ d ∈ ([.int (0), PyData.str (Str.ofString "1")] : List PyData), Gd 0 5000 d := (gC (gW (gd_int (by decide))) (gC (gW (gd_str (by decide +kernel) (by decide +kernel) (by decide +kernel))) gN))
   have gde8 := gTu 2 10014 gee8
   refine ⟨zl1, fun pe9 ge9 => ?_⟩
   generalize hG : upd He8 pe9 (.tup [V.int (0)]) = He9
   obtain ⟨ee9, he9, de9⟩ := nwE hG ge9 tp.lst hd_
   obtain ⟨S0, tp, hd_⟩ := cr3 ee9 S0 tp hd_
   replace hW := tS ee9 hW
   replace alw := aM ee9 alw
   replace alT := aM ee9 alT
   replace lsT := ee9 _ _ lsT
   replace lsE := ee9 _ _ lsE
   replace daE := aS ee9 daE
   replace dpe1 := dS ee9 dpe1
   replace dpe2 := dS ee9 dpe2
   replace dpe3 := dS ee9 dpe3
   replace dpe4 := dS ee9 dpe4
   replace dpe5 := dS ee9 dpe5
   replace dpe6 := dS ee9 dpe6
   replace dpe7 := dS ee9 dpe7
   replace dpe8 := dS ee9 dpe8
   have sqe9 := SqT.of (K := K) he9
   have dae9 : DeepAll K (hid He9 t₁ t₁) [V.int (0)] [.int (0)] := (.cons (.int _) .nil)
   have dpe9 := dpT de9 dae9
   clear ee9 he9 de9 hG
   have gee9 : ∀ d ∈ ([.int (0)] : List PyData), Gd 0 5000 d := (gC (gW (gd_int (by decide))) gN)
   have gde9 := gTu 1 5011 gee9
   refine ⟨zl1, fun pe10 ge10 => ?_⟩
   generalize hG : upd He9 pe10 (.tup [V.ref pe9]) = He10
   obtain ⟨ee10, he10, de10⟩ := nwE hG ge10 tp.lst hd_
   obtain ⟨S0, tp, hd_⟩ := cr3 ee10 S0 tp hd_
   replace hW := tS ee10 hW
   replace alw := aM ee10 alw
   replace alT := aM ee10 alT
   replace lsT := ee10 _ _ lsT
   replace lsE := ee10 _ _ lsE
   replace daE := aS ee10 daE
   replace dpe1 := dS ee10 dpe1
   replace dpe2 := dS ee10 dpe2
   replace dpe3 := dS ee10 dpe3
   replace dpe4 := dS ee10 dpe4
   replace dpe5 := dS ee10 dpe5
   replace dpe6 := dS ee10 dpe6
   replace dpe7 := dS ee10 dpe7
   replace dpe8 := dS ee10 dpe8
   replace dpe9 := dS ee10 dpe9
   have sqe10 := SqT.of (K := K) he10
   have dae10 : DeepAll K (hid He10 t₁ t₁) [V.ref pe9] [PyData.tuple [.int (0)]] := (.cons dpe9 .nil)
   have dpe10 := dpT de10 dae10
   clear ee10 he10 de10 hG
   have gee10 : ∀ d ∈ ([PyData.tuple [.int (0)]] : List PyData), Gd 1 5011 d := (gC (gW gde9) gN)
   have gde10 := gTu 1 5022 gee10
   refine ⟨zl11, fun pe11 ge11 => ?_⟩
   generalize hG : upd He10 pe11 (.lst [V.ref pe1, V.ref pe2, V.ref pe3, V.ref pe4, V.ref pe5, V.ref pe6, V.ref pe7, V.ref pe8, V.non, V.ref pe10, V.str (Str.ofString "01")]) = He11
   obtain ⟨ee11, he11, de11⟩ := nwE hG ge11 tp.lst hd_
   have ne11 := nwN ge11 tp.lst
   obtain ⟨S0, tp, hd_⟩ := cr3 ee11 S0 tp hd_
   replace hW := tS ee11 hW
   replace alw := aM ee11 alw
   replace alT := aM ee11 alT
   replace lsT := ee11 _ _ lsT
   replace lsE := ee11 _ _ lsE
   replace daE := aS ee11 daE
   replace dpe1 := dS ee11 dpe1
   replace dpe2 := dS ee11 dpe2
   replace dpe3 := dS ee11 dpe3
   replace dpe4 := dS ee11 dpe4
   replace dpe5 := dS ee11 dpe5
   replace dpe6 := dS ee11 dpe6
   replace dpe7 := dS ee11 dpe7
   replace dpe8 := dS ee11 dpe8
   replace dpe10 := dS ee11 dpe10
   have lse11 := he11
   have dae11 : DeepAll K (hid He11 t₁ t₁) [V.ref pe1, V.ref pe2, V.ref pe3, V.ref pe4, V.ref pe5, V.ref pe6, V.ref pe7, V.ref pe8, V.non, V.ref pe10, V.str (Str.ofString "01")] [PyData.list [], PyData.list [.int (0)], PyData.tuple [.int (1), .int (0)], PyData.tuple [.int (3), .int (3)], PyData.tuple [.int (23), .int (24)], PyData.tuple [.int (-1), .int (0)], PyData.tuple [PyData.bool true], PyData.tuple [.int (0), PyData.str (Str.ofString "1")], PyData.none, PyData.tuple [PyData.tuple [.int (0)]], PyData.str (Str.ofString "01")] := (.cons dpe1 (.cons dpe2 (.cons dpe3 (.cons dpe4 (.cons dpe5 (.cons dpe6 (.cons dpe7 (.cons dpe8 (.cons .non (.cons dpe10 (.cons (.str _) .nil)))))))))))
   have dpe11 := dpL de11 dae11
   clear ee11 he11 de11 hG
   have gee11 : ∀ d ∈ ([PyData.list [], PyData.list [.int (0)], PyData.tuple [.int (1), .int (0)], PyData.tuple [.int (3), .int (3)], PyData.tuple [.int (23), .int (24)], PyData.tuple [.int (-1), .int (0)], PyData.tuple [PyData.bool true], PyData.tuple [.int (0), PyData.str (Str.ofString "1")], PyData.none, PyData.tuple [PyData.tuple [.int (0)]], PyData.str (Str.ofString "01")] : List PyData), Gd 2 10014 d := (gC (gW gde1) (gC (gW gde2) (gC (gW gde3) (gC (gW gde4) (gC (gW gde5) (gC (gW gde6) (gC (gW gde7) (gC (gW gde8) (gC (gW gd_none) (gC (gW gde10) (gC (gW (gd_str (by decide +kernel) (by decide +kernel) (by decide +kernel))) gN)))))))))))
   have gde11 := gLs 11 110195 gee11
   refine ⟨pu19, pe11, _, _, rfl, rfl, lsE, lse11, Nat.le_trans (show _ ≤ 1000 by first | omega | (simp <;> omega)) zl1000, fun pe12 ge12 => ?_⟩
   generalize hG : upd He11 pe12 (.lst (xE ++ [V.ref pe1, V.ref pe2, V.ref pe3, V.ref pe4, V.ref pe5, V.ref pe6, V.ref pe7, V.ref pe8, V.non, V.ref pe10, V.str (Str.ofString "01")])) = He12
   obtain ⟨ee12, he12, de12⟩ := nwE hG ge12 tp.lst hd_
   have ne12 := nwN ge12 tp.lst
   obtain ⟨S0, tp, hd_⟩ := cr3 ee12 S0 tp hd_
   replace hW := tS ee12 hW
   replace alw := aM ee12 alw
   replace alT := aM ee12 alT
   replace lsT := ee12 _ _ lsT
   replace daE := aS ee12 daE
   replace dae11 := aS ee12 dae11
   have lse12 : He12 pe12 = some (.lst (xE ++ [V.ref pe1, V.ref pe2, V.ref pe3, V.ref pe4, V.ref pe5, V.ref pe6, V.ref pe7, V.ref pe8, V.non, V.ref pe10, V.str (Str.ofString "01")])) := he12
   have dae12 : DeepAll K (hid He12 t₁ t₁) (xE ++ [V.ref pe1, V.ref pe2, V.ref pe3, V.ref pe4, V.ref pe5, V.ref pe6, V.ref pe7, V.ref pe8, V.non, V.ref pe10, V.str (Str.ofString "01")]) (((lEs.map natD)) ++ [PyData.list [], PyData.list [.int (0)], PyData.tuple [.int (1), .int (0)], PyData.tuple [.int (3), .int (3)], PyData.tuple [.int (23), .int (24)], PyData.tuple [.int (-1), .int (0)], PyData.tuple [PyData.bool true], PyData.tuple [.int (0), PyData.str (Str.ofString "1")], PyData.none, PyData.tuple [PyData.tuple [.int (0)]], PyData.str (Str.ofString "01")]) := DeepAll.app daE dae11
   have dpe12 : Deep K (hid He12 t₁ t₁) (.ref pe12) (.list (((lEs.map natD)) ++ [PyData.list [], PyData.list [.int (0)], PyData.tuple [.int (1), .int (0)], PyData.tuple [.int (3), .int (3)], PyData.tuple [.int (23), .int (24)], PyData.tuple [.int (-1), .int (0)], PyData.tuple [PyData.bool true], PyData.tuple [.int (0), PyData.str (Str.ofString "1")], PyData.none, PyData.tuple [PyData.tuple [.int (0)]], PyData.str (Str.ofString "01")])) := .lst (SqL.of de12) dae12
   clear ee12 he12 de12 hG
   have gee12 : ∀ d ∈ (((lEs.map natD)) ++ [PyData.list [], PyData.list [.int (0)], PyData.tuple [.int (1), .int (0)], PyData.tuple [.int (3), .int (3)], PyData.tuple [.int (23), .int (24)], PyData.tuple [.int (-1), .int (0)], PyData.tuple [PyData.bool true], PyData.tuple [.int (0), PyData.str (Str.ofString "1")], PyData.none, PyData.tuple [PyData.tuple [.int (0)]], PyData.str (Str.ofString "01")] : List PyData), Gd 2 120080 d := (gd_app (gd_wide (by decide) (by decide) geE) (gd_wide (by decide) (by decide) gee11))
   have gde12 : Gd 3 2281585 (.list (((lEs.map natD)) ++ [PyData.list [], PyData.list [.int (0)], PyData.tuple [.int (1), .int (0)], PyData.tuple [.int (3), .int (3)], PyData.tuple [.int (23), .int (24)], PyData.tuple [.int (-1), .int (0)], PyData.tuple [PyData.bool true], PyData.tuple [.int (0), PyData.str (Str.ofString "1")], PyData.none, PyData.tuple [PyData.tuple [.int (0)]], PyData.str (Str.ofString "01")])) := Gd.lst (m := 19) gee12 (by first | omega | (simp <;> omega)) (by decide)
   have iF := i24A iE (i24C (show (itD (PyData.list [])).length ≤ 24 by decide) (i24C (show (itD (PyData.list [.int (0)])).length ≤ 24 by decide) (i24C (show (itD (PyData.tuple [.int (1), .int (0)])).length ≤ 24 by decide) (i24C (show (itD (PyData.tuple [.int (3), .int (3)])).length ≤ 24 by decide) (i24C (show (itD (PyData.tuple [.int (23), .int (24)])).length ≤ 24 by decide) (i24C (show (itD (PyData.tuple [.int (-1), .int (0)])).length ≤ 24 by decide) (i24C (show (itD (PyData.tuple [PyData.bool true])).length ≤ 24 by decide) (i24C (show (itD (PyData.tuple [.int (0), PyData.str (Str.ofString "1")])).length ≤ 24 by decide) (i24C (show (itD (PyData.none)).length ≤ 24 by decide) (i24C (show (itD (PyData.tuple [PyData.tuple [.int (0)]])).length ≤ 24 by decide) (i24C (show (itD (PyData.str (Str.ofString "01"))).length ≤ 24 by decide) i24N)))))))))))
   have nF := ne12
   have gF : ∀ d ∈ (((lEs.map natD)) ++ [PyData.list [], PyData.list [.int (0)], PyData.tuple [.int (1), .int (0)], PyData.tuple [.int (3), .int (3)], PyData.tuple [.int (23), .int (24)], PyData.tuple [.int (-1), .int (0)], PyData.tuple [PyData.bool true], PyData.tuple [.int (0), PyData.str (Str.ofString "1")], PyData.none, PyData.tuple [PyData.tuple [.int (0)]], PyData.str (Str.ofString "01")] : List PyData), Gd 2 130000 d := gd_wide (by decide) (by decide) gee12
   have lF : (xE ++ [V.ref pe1, V.ref pe2, V.ref pe3, V.ref pe4, V.ref pe5, V.ref pe6, V.ref pe7, V.ref pe8, V.non, V.ref pe10, V.str (Str.ofString "01")]).length ≤ 19 := by rw [List.length_append]; show xE.length + 11 ≤ 19; omega
   have lsF := lse12
   have daF := dae12
   generalize xE ++ [V.ref pe1, V.ref pe2, V.ref pe3, V.ref pe4, V.ref pe5, V.ref pe6, V.ref pe7, V.ref pe8, V.non, V.ref pe10, V.str (Str.ofString "01")] = xF at lsF daF lF
   generalize ((lEs.map natD)) ++ [PyData.list [], PyData.list [.int (0)], PyData.tuple [.int (1), .int (0)], PyData.tuple [.int (3), .int (3)], PyData.tuple [.int (23), .int (24)], PyData.tuple [.int (-1), .int (0)], PyData.tuple [PyData.bool true], PyData.tuple [.int (0), PyData.str (Str.ofString "1")], PyData.none, PyData.tuple [PyData.tuple [.int (0)]], PyData.str (Str.ofString "01")] = dF at daF iF gF
   have ldF := daF.len
   refine ⟨_, rfl, pe12, rfl, ⟨_, SqL.of lsF⟩, for_list (K := K) (a := pe12) (xs := xF) (fun i σ H' => ∃ (y10 y11 : Option V), σ = [some (.ref a), some (.ref t₁), some (.int (0 + (i₀ : Int))), some (.ref pw), some (.ref lf), some (.int (hn : Nat)), some vr, some (.ref pu10), some (.ref pe12), some (.int (ff : Nat)), y10, y11] /\ Tape3 K H' t₁ a /\ Step t₁ He12 H') ⟨_, _, rfl, tp, Step.refl tp.lst⟩ (fun i σ H1 _ ⟨_, _, _, _, S⟩ => SqL.of (S.keep _ _ nF lsF)) ?_ ?_⟩
   ·rintro i x σ H3 hx ⟨y10, y11, rfl, tp3, S3⟩
    refine ⟨_, rfl, _, rfl, _, rfl, _, rfl, t₁, a, 4, rfl, tp3, by decide, by decide, fun r4 z4 a4 b4 T4 => ?_⟩
    have S4 := S3.trans (Step.up (ys := z4) tp3.lst.choose_spec)
    generalize upd H3 t₁ (.lst z4) = H4 at S4 T4 ⊢
    have t4 := Tst.step (K := K) S4
    obtain ⟨k4, rfl⟩ := Int.eq_ofNat_of_zero_le a4
    obtain ⟨xt, hxt⟩ : ∃ x, xT[k4]? = some x := ⟨_, List.getElem?_eq_getElem (by omega)⟩
    obtain ⟨rt_, hrt, rvt⟩ := alT.at hxt
    have hil : i < dF.length := by have := (List.getElem?_eq_some_iff.mp hx).1; omega
    have hde : dF[i]? = some dF[i] := List.getElem?_eq_getElem hil
    obtain ⟨x', hx', dv⟩ := DeepAll.atN daF hde
    rw [hx] at hx'
    cases hx'
    have mm : dF[i] ∈ dF := List.getElem_mem hil
    refine ⟨pu10, _, _, _, rfl, rfl, SqL.of (S4.keep _ _ nu10 lsT), atI_nat hxt, _, rfl, .ref pw, xt, x, ws, hn, rt_, dF[i], rfl, ⟨⟨pw, xw, rfl, t4 _ _ hW, alw.mono fun _ _ q => q.mono t4⟩, by omega, okw, by omega, rvt.mono t4, okT _ (List.mem_of_getElem? hrt), step_deep S4 dv, iF _ mm⟩, gF _ mm, fun H5 s5 => ⟨_, rfl, iteF ?_⟩⟩
    exact ⟨_, _, rfl, T4.same s5, S4.trans (Step.same s5 T4.lst)⟩
   ·rintro σ H3 ⟨y10, y11, rfl, tp3, _⟩
    exact ⟨_, _, _, _, _, _, _, _, _, _, rfl, tp3⟩
 ·rintro σ H2 ⟨x2, x3, x4, x5, x6, x7, x8, x9, x10, x11, rfl, _⟩
  exact k _
end
set_option autoImplicit true in
set_option relaxedAutoImplicit true in
open PySem.W in
theorem all_mk {l : OpenLaw} {w : World} {K : Frag} {h : Heap} {mg : Str -> Option Value} {fa : Addr} (X : K.In h) (G : h.Ns mainGlobals mg) (hfa : mg "law" = some (.ref fa))
  (p_Q15 : nsIn K mainGlobals "is_whole" = some (some (.ref f_Q15))) (l_Q15 : K.lookup f_Q15 = some ⟨oc_Q15, od_Q15, .func (fnOf "is_whole" "is_whole" (defArgs s_Q15) (defBody s_Q15) (defScope s_Q15) .none kV_Q15 dc_Q15 pm_Q15 an_Q15 cd_Q15 ct_Q15), sl_Q15⟩) (c_Q15 : codeIn K cd_Q15 "is_whole" = true) (k_Q15 : keepIn K (.ref f_Q15) = true)
  (p_Q1 : nsIn K mainGlobals "is_number_of" = some (some (.ref f_Q1))) (l_Q1 : K.lookup f_Q1 = some ⟨oc_Q1, od_Q1, .func (fnOf "is_number_of" "is_number_of" (defArgs s_Q1) (defBody s_Q1) (defScope s_Q1) .none kV_Q1 dc_Q1 pm_Q1 an_Q1 cd_Q1 ct_Q1), sl_Q1⟩) (c_Q1 : codeIn K cd_Q1 "is_number_of" = true) (k_Q1 : keepIn K (.ref f_Q1) = true)
  (p_Q5 : nsIn K mainGlobals "is_rising" = some (some (.ref f_Q5))) (l_Q5 : K.lookup f_Q5 = some ⟨oc_Q5, od_Q5, .func (fnOf "is_rising" "is_rising" (defArgs s_Q5) (defBody s_Q5) (defScope s_Q5) .none kV_Q5 dc_Q5 pm_Q5 an_Q5 cd_Q5 ct_Q5), sl_Q5⟩) (c_Q5 : codeIn K cd_Q5 "is_rising" = true) (k_Q5 : keepIn K (.ref f_Q5) = true)
  (p_Q31 : nsIn K mainGlobals "copied" = some (some (.ref f_Q31))) (l_Q31 : K.lookup f_Q31 = some ⟨oc_Q31, od_Q31, .func (fnOf "copied" "copied" (defArgs s_Q31) (defBody s_Q31) (defScope s_Q31) .none kV_Q31 dc_Q31 pm_Q31 an_Q31 cd_Q31 ct_Q31), sl_Q31⟩) (c_Q31 : codeIn K cd_Q31 "copied" = true) (k_Q31 : keepIn K (.ref f_Q31) = true)
  (p_Q0 : nsIn K mainGlobals "greatest_divisor" = some (some (.ref f_Q0))) (l_Q0 : K.lookup f_Q0 = some ⟨oc_Q0, od_Q0, .func (fnOf "greatest_divisor" "greatest_divisor" (defArgs s_Q0) (defBody s_Q0) (defScope s_Q0) .none kV_Q0 dc_Q0 pm_Q0 an_Q0 cd_Q0 ct_Q0), sl_Q0⟩) (c_Q0 : codeIn K cd_Q0 "greatest_divisor" = true) (k_Q0 : keepIn K (.ref f_Q0) = true)
  (p_Q35 : nsIn K mainGlobals "ratio" = some (some (.ref f_Q35))) (l_Q35 : K.lookup f_Q35 = some ⟨oc_Q35, od_Q35, .func (fnOf "ratio" "ratio" (defArgs s_Q35) (defBody s_Q35) (defScope s_Q35) .none kV_Q35 dc_Q35 pm_Q35 an_Q35 cd_Q35 ct_Q35), sl_Q35⟩) (c_Q35 : codeIn K cd_Q35 "ratio" = true) (k_Q35 : keepIn K (.ref f_Q35) = true)
  (p_Q39 : nsIn K mainGlobals "plus" = some (some (.ref f_Q39))) (l_Q39 : K.lookup f_Q39 = some ⟨oc_Q39, od_Q39, .func (fnOf "plus" "plus" (defArgs s_Q39) (defBody s_Q39) (defScope s_Q39) .none kV_Q39 dc_Q39 pm_Q39 an_Q39 cd_Q39 ct_Q39), sl_Q39⟩) (c_Q39 : codeIn K cd_Q39 "plus" = true) (k_Q39 : keepIn K (.ref f_Q39) = true)
  (p_Q36 : nsIn K mainGlobals "minus" = some (some (.ref f_Q36))) (l_Q36 : K.lookup f_Q36 = some ⟨oc_Q36, od_Q36, .func (fnOf "minus" "minus" (defArgs s_Q36) (defBody s_Q36) (defScope s_Q36) .none kV_Q36 dc_Q36 pm_Q36 an_Q36 cd_Q36 ct_Q36), sl_Q36⟩) (c_Q36 : codeIn K cd_Q36 "minus" = true) (k_Q36 : keepIn K (.ref f_Q36) = true)
  (p_Q37 : nsIn K mainGlobals "times" = some (some (.ref f_Q37))) (l_Q37 : K.lookup f_Q37 = some ⟨oc_Q37, od_Q37, .func (fnOf "times" "times" (defArgs s_Q37) (defBody s_Q37) (defScope s_Q37) .none kV_Q37 dc_Q37 pm_Q37 an_Q37 cd_Q37 ct_Q37), sl_Q37⟩) (c_Q37 : codeIn K cd_Q37 "times" = true) (k_Q37 : keepIn K (.ref f_Q37) = true)
  (p_Q22 : nsIn K mainGlobals "is_less" = some (some (.ref f_Q22))) (l_Q22 : K.lookup f_Q22 = some ⟨oc_Q22, od_Q22, .func (fnOf "is_less" "is_less" (defArgs s_Q22) (defBody s_Q22) (defScope s_Q22) .none kV_Q22 dc_Q22 pm_Q22 an_Q22 cd_Q22 ct_Q22), sl_Q22⟩) (c_Q22 : codeIn K cd_Q22 "is_less" = true) (k_Q22 : keepIn K (.ref f_Q22) = true)
  (p_Q38 : nsIn K mainGlobals "total" = some (some (.ref f_Q38))) (l_Q38 : K.lookup f_Q38 = some ⟨oc_Q38, od_Q38, .func (fnOf "total" "total" (defArgs s_Q38) (defBody s_Q38) (defScope s_Q38) .none kV_Q38 dc_Q38 pm_Q38 an_Q38 cd_Q38 ct_Q38), sl_Q38⟩) (c_Q38 : codeIn K cd_Q38 "total" = true) (k_Q38 : keepIn K (.ref f_Q38) = true)
  (p_Q2 : nsIn K mainGlobals "bound_amount" = some (some (.ref f_Q2))) (l_Q2 : K.lookup f_Q2 = some ⟨oc_Q2, od_Q2, .func (fnOf "bound_amount" "bound_amount" (defArgs s_Q2) (defBody s_Q2) (defScope s_Q2) .none kV_Q2 dc_Q2 pm_Q2 an_Q2 cd_Q2 ct_Q2), sl_Q2⟩) (c_Q2 : codeIn K cd_Q2 "bound_amount" = true) (k_Q2 : keepIn K (.ref f_Q2) = true)
  (p_Q6 : nsIn K mainGlobals "lets_much" = some (some (.ref f_Q6))) (l_Q6 : K.lookup f_Q6 = some ⟨oc_Q6, od_Q6, .func (fnOf "lets_much" "lets_much" (defArgs s_Q6) (defBody s_Q6) (defScope s_Q6) .none kV_Q6 dc_Q6 pm_Q6 an_Q6 cd_Q6 ct_Q6), sl_Q6⟩) (c_Q6 : codeIn K cd_Q6 "lets_much" = true) (k_Q6 : keepIn K (.ref f_Q6) = true)
  (p_Q16 : nsIn K mainGlobals "_law_tape" = some (some (.ref f_Q16))) (l_Q16 : K.lookup f_Q16 = some ⟨oc_Q16, od_Q16, .func (fnOf "_law_tape" "_law_tape" (defArgs s_Q16) (defBody s_Q16) (defScope s_Q16) .none kV_Q16 dc_Q16 pm_Q16 an_Q16 cd_Q16 ct_Q16), sl_Q16⟩) (c_Q16 : codeIn K cd_Q16 "_law_tape" = true) (k_Q16 : keepIn K (.ref f_Q16) = true)
  (p_Q17 : nsIn K mainGlobals "_law_draw" = some (some (.ref f_Q17))) (l_Q17 : K.lookup f_Q17 = some ⟨oc_Q17, od_Q17, .func (fnOf "_law_draw" "_law_draw" (defArgs s_Q17) (defBody s_Q17) (defScope s_Q17) .none kV_Q17 dc_Q17 pm_Q17 an_Q17 cd_Q17 ct_Q17), sl_Q17⟩) (c_Q17 : codeIn K cd_Q17 "_law_draw" = true) (k_Q17 : keepIn K (.ref f_Q17) = true)
  (p_Q7 : nsIn K mainGlobals "_law_alike" = some (some (.ref f_Q7))) (l_Q7 : K.lookup f_Q7 = some ⟨oc_Q7, od_Q7, .func (fnOf "_law_alike" "_law_alike" (defArgs s_Q7) (defBody s_Q7) (defScope s_Q7) .none kV_Q7 dc_Q7 pm_Q7 an_Q7 cd_Q7 ct_Q7), sl_Q7⟩) (c_Q7 : codeIn K cd_Q7 "_law_alike" = true) (k_Q7 : keepIn K (.ref f_Q7) = true)
  (p_Q18 : nsIn K mainGlobals "_law_frac" = some (some (.ref f_Q18))) (l_Q18 : K.lookup f_Q18 = some ⟨oc_Q18, od_Q18, .func (fnOf "_law_frac" "_law_frac" (defArgs s_Q18) (defBody s_Q18) (defScope s_Q18) .none kV_Q18 dc_Q18 pm_Q18 an_Q18 cd_Q18 ct_Q18), sl_Q18⟩) (c_Q18 : codeIn K cd_Q18 "_law_frac" = true) (k_Q18 : keepIn K (.ref f_Q18) = true)
  (p_Q23 : nsIn K mainGlobals "_law_add" = some (some (.ref f_Q23))) (l_Q23 : K.lookup f_Q23 = some ⟨oc_Q23, od_Q23, .func (fnOf "_law_add" "_law_add" (defArgs s_Q23) (defBody s_Q23) (defScope s_Q23) .none kV_Q23 dc_Q23 pm_Q23 an_Q23 cd_Q23 ct_Q23), sl_Q23⟩) (c_Q23 : codeIn K cd_Q23 "_law_add" = true) (k_Q23 : keepIn K (.ref f_Q23) = true)
  (p_Q24 : nsIn K mainGlobals "_law_mul" = some (some (.ref f_Q24))) (l_Q24 : K.lookup f_Q24 = some ⟨oc_Q24, od_Q24, .func (fnOf "_law_mul" "_law_mul" (defArgs s_Q24) (defBody s_Q24) (defScope s_Q24) .none kV_Q24 dc_Q24 pm_Q24 an_Q24 cd_Q24 ct_Q24), sl_Q24⟩) (c_Q24 : codeIn K cd_Q24 "_law_mul" = true) (k_Q24 : keepIn K (.ref f_Q24) = true)
  (p_Q19 : nsIn K mainGlobals "_law_less" = some (some (.ref f_Q19))) (l_Q19 : K.lookup f_Q19 = some ⟨oc_Q19, od_Q19, .func (fnOf "_law_less" "_law_less" (defArgs s_Q19) (defBody s_Q19) (defScope s_Q19) .none kV_Q19 dc_Q19 pm_Q19 an_Q19 cd_Q19 ct_Q19), sl_Q19⟩) (c_Q19 : codeIn K cd_Q19 "_law_less" = true) (k_Q19 : keepIn K (.ref f_Q19) = true)
  (p_Q25 : nsIn K mainGlobals "_law_sum" = some (some (.ref f_Q25))) (l_Q25 : K.lookup f_Q25 = some ⟨oc_Q25, od_Q25, .func (fnOf "_law_sum" "_law_sum" (defArgs s_Q25) (defBody s_Q25) (defScope s_Q25) .none kV_Q25 dc_Q25 pm_Q25 an_Q25 cd_Q25 ct_Q25), sl_Q25⟩) (c_Q25 : codeIn K cd_Q25 "_law_sum" = true) (k_Q25 : keepIn K (.ref f_Q25) = true)
  (p_Q8 : nsIn K mainGlobals "_law_works" = some (some (.ref f_Q8))) (l_Q8 : K.lookup f_Q8 = some ⟨oc_Q8, od_Q8, .func (fnOf "_law_works" "_law_works" (defArgs s_Q8) (defBody s_Q8) (defScope s_Q8) .none kV_Q8 dc_Q8 pm_Q8 an_Q8 cd_Q8 ct_Q8), sl_Q8⟩) (c_Q8 : codeIn K cd_Q8 "_law_works" = true) (k_Q8 : keepIn K (.ref f_Q8) = true)
  (p_Q9 : nsIn K mainGlobals "_law_units" = some (some (.ref f_Q9))) (l_Q9 : K.lookup f_Q9 = some ⟨oc_Q9, od_Q9, .func (fnOf "_law_units" "_law_units" (defArgs s_Q9) (defBody s_Q9) (defScope s_Q9) .none kV_Q9 dc_Q9 pm_Q9 an_Q9 cd_Q9 ct_Q9), sl_Q9⟩) (c_Q9 : codeIn K cd_Q9 "_law_units" = true) (k_Q9 : keepIn K (.ref f_Q9) = true)
  (p_Q3 : nsIn K mainGlobals "_law_tightest" = some (some (.ref f_Q3))) (l_Q3 : K.lookup f_Q3 = some ⟨oc_Q3, od_Q3, .func (fnOf "_law_tightest" "_law_tightest" (defArgs s_Q3) (defBody s_Q3) (defScope s_Q3) .none kV_Q3 dc_Q3 pm_Q3 an_Q3 cd_Q3 ct_Q3), sl_Q3⟩) (c_Q3 : codeIn K cd_Q3 "_law_tightest" = true) (k_Q3 : keepIn K (.ref f_Q3) = true)
  (p_Q4 : nsIn K mainGlobals "_law_layers" = some (some (.ref f_Q4))) (l_Q4 : K.lookup f_Q4 = some ⟨oc_Q4, od_Q4, .func (fnOf "_law_layers" "_law_layers" (defArgs s_Q4) (defBody s_Q4) (defScope s_Q4) .none kV_Q4 dc_Q4 pm_Q4 an_Q4 cd_Q4 ct_Q4), sl_Q4⟩) (c_Q4 : codeIn K cd_Q4 "_law_layers" = true) (k_Q4 : keepIn K (.ref f_Q4) = true)
  (p_Q20 : nsIn K mainGlobals "_law_pace" = some (some (.ref f_Q20))) (l_Q20 : K.lookup f_Q20 = some ⟨oc_Q20, od_Q20, .func (fnOf "_law_pace" "_law_pace" (defArgs s_Q20) (defBody s_Q20) (defScope s_Q20) .none kV_Q20 dc_Q20 pm_Q20 an_Q20 cd_Q20 ct_Q20), sl_Q20⟩) (c_Q20 : codeIn K cd_Q20 "_law_pace" = true) (k_Q20 : keepIn K (.ref f_Q20) = true)
  (p_Q10 : nsIn K mainGlobals "_law_marks" = some (some (.ref f_Q10))) (l_Q10 : K.lookup f_Q10 = some ⟨oc_Q10, od_Q10, .func (fnOf "_law_marks" "_law_marks" (defArgs s_Q10) (defBody s_Q10) (defScope s_Q10) .none kV_Q10 dc_Q10 pm_Q10 an_Q10 cd_Q10 ct_Q10), sl_Q10⟩) (c_Q10 : codeIn K cd_Q10 "_law_marks" = true) (k_Q10 : keepIn K (.ref f_Q10) = true)
  (p_Q21 : nsIn K mainGlobals "_law_word" = some (some (.ref f_Q21))) (l_Q21 : K.lookup f_Q21 = some ⟨oc_Q21, od_Q21, .func (fnOf "_law_word" "_law_word" (defArgs s_Q21) (defBody s_Q21) (defScope s_Q21) .none kV_Q21 dc_Q21 pm_Q21 an_Q21 cd_Q21 ct_Q21), sl_Q21⟩) (c_Q21 : codeIn K cd_Q21 "_law_word" = true) (k_Q21 : keepIn K (.ref f_Q21) = true)
  (p_Q11 : nsIn K mainGlobals "_law_tried" = some (some (.ref f_Q11))) (l_Q11 : K.lookup f_Q11 = some ⟨oc_Q11, od_Q11, .func (fnOf "_law_tried" "_law_tried" (defArgs s_Q11) (defBody s_Q11) (defScope s_Q11) .none kV_Q11 dc_Q11 pm_Q11 an_Q11 cd_Q11 ct_Q11), sl_Q11⟩) (c_Q11 : codeIn K cd_Q11 "_law_tried" = true) (k_Q11 : keepIn K (.ref f_Q11) = true)
  (p_Q12 : nsIn K mainGlobals "_law_right" = some (some (.ref f_Q12))) (l_Q12 : K.lookup f_Q12 = some ⟨oc_Q12, od_Q12, .func (fnOf "_law_right" "_law_right" (defArgs s_Q12) (defBody s_Q12) (defScope s_Q12) .none kV_Q12 dc_Q12 pm_Q12 an_Q12 cd_Q12 ct_Q12), sl_Q12⟩) (c_Q12 : codeIn K cd_Q12 "_law_right" = true) (k_Q12 : keepIn K (.ref f_Q12) = true)
  {f_Q40 : Addr} {od_Q40 an_Q40 : Option Addr} {sl_Q40 : Array (Option Value)} {oc_Q40 kV_Q40 dc_Q40 pm_Q40 cd_Q40 ct_Q40 : Value}
  (p_Q40 : nsIn K mainGlobals "law" = some (some (.ref f_Q40))) (l_Q40 : K.lookup f_Q40 = some ⟨oc_Q40, od_Q40, .func (fnOf "law" "law" (defArgs s_Q40) (defBody s_Q40) (defScope s_Q40) .none kV_Q40 dc_Q40 pm_Q40 an_Q40 cd_Q40 ct_Q40), sl_Q40⟩) (c_Q40 : codeIn K cd_Q40 "law" = true) (k_Q40 : keepIn K (.ref f_Q40) = true)
  {f_NOUGHT : Addr} {od_NOUGHT : Option Addr} {sl_NOUGHT : Array (Option Value)} {tkNOUGHT0 tkNOUGHT1 : Tok} {n_NOUGHT : Nat} (p_NOUGHT : nsIn K mainGlobals "NOUGHT" = some (some (.ref f_NOUGHT))) (l_NOUGHT : K.lookup f_NOUGHT = some ⟨.type "tuple", od_NOUGHT, .seq #[.int (0) tkNOUGHT0, .int (1) tkNOUGHT1] n_NOUGHT, sl_NOUGHT⟩)
  {tkTURNS : Tok} (p_TURNS : nsIn K mainGlobals "TURNS" = some (some (.int (24) tkTURNS)))
  {cB NB : Addr} {nmB qB : Str} {bsB : List Value} {hdB : Bool} {snB : List Str} {suB : List Value} {abB : Bool} {coB : Option Bool} {ddB : Option Addr} {j0 j1 j2 j3 j5 : Option Value} {ocB : Value} {odB : Option Addr} {esB : Array DictEntry} {nB : Nat} {slB : Array (Option Value)}
  (pB : nsIn K mainGlobals "PaceError" = some (some (.ref cB))) (lB : K.lookup cB = some (excClassObj nmB qB cB NB bsB [.type "ValueError", .type "Exception", .type "BaseException", .type "object"] hdB snB suB abB coB ddB j0 j1 j2 j3 j5 "ValueError.__new__")) (lnB : K.lookup NB = some ⟨ocB, odB, .dict esB nB, slB⟩) (hsB : strKeysB esB = true) (hnB : (nsFind esB "__init__").isNone = true)
  (cgB : specialIn K (.builtin "object.__class__") "__get__" = some (some (.builtin "getset_descriptor.__get__"))) (ctB : takesIn K (.builtin "object.__class__") = some true)
  {c_Q32 N_Q32 i_Q32 : Addr} {nm_Q32 q_Q32 : Str} {bs_Q32 : List Value} {hd_Q32 : Bool} {sn_Q32 : List Str} {su_Q32 : List Value} {ab_Q32 : Bool} {co_Q32 : Option Bool} {dd_Q32 : Option Addr} {k0_Q32 k1_Q32 k2_Q32 k3_Q32 k5_Q32 : Option Value} {od_Q32 an_Q32 : Option Addr} {sl_Q32 : Array (Option Value)} {oc_Q32 kV_Q32 dc_Q32 pm_Q32 cd_Q32 ct_Q32 : Value}
  (p_Q32 : nsIn K mainGlobals "NoMuch" = some (some (.ref c_Q32))) (lc_Q32 : K.lookup c_Q32 = some (excClassObj nm_Q32 q_Q32 c_Q32 N_Q32 bs_Q32 (.ref cB :: [.type "ValueError", .type "Exception", .type "BaseException", .type "object"]) hd_Q32 sn_Q32 su_Q32 ab_Q32 co_Q32 dd_Q32 k0_Q32 k1_Q32 k2_Q32 k3_Q32 k5_Q32 "ValueError.__new__")) (fi_Q32 : findIn K (.ref c_Q32) "__init__" = some (some (.ref i_Q32)))
  (l_Q32 : K.lookup i_Q32 = some ⟨oc_Q32, od_Q32, .func (fnOf "__init__" "NoMuch.__init__" (defArgs s_Q32) (defBody s_Q32) (defScope s_Q32) .none kV_Q32 dc_Q32 pm_Q32 an_Q32 cd_Q32 ct_Q32), sl_Q32⟩) (cd_Q32_ : codeIn K cd_Q32 "NoMuch.__init__" = true) (ki_Q32 : keepIn K (.ref i_Q32) = true) (ti_Q32 : typeIn K (.ref i_Q32) = some (.type "function")) (kc_Q32 : keepIn K (.ref c_Q32) = true)
  (hh_Q32 : hasDictIn K c_Q32 = true) (sa_Q32 : findIn K (.ref c_Q32) "__setattr__" = some (some (.builtin "object.__setattr__")))
  (na_Q32_word : findIn K (.ref c_Q32) "word" = some none) (ga_Q32 : findIn K (.ref c_Q32) "__getattribute__" = some (some (.builtin "BaseException.__getattribute__"))) (gn_Q32 : findIn K (.ref c_Q32) "__getattr__" = some none) (cl_Q32 : findIn K (.ref c_Q32) "__class__" = some (some (.builtin "object.__class__")))
  {c_Q13 : Addr} (p_Q13 : nsIn K mainGlobals "PaceError" = some (some (.ref c_Q13)))
  {c_Q26 : Addr} (p_Q26 : nsIn K mainGlobals "NoLeast" = some (some (.ref c_Q26)))
  {c_Q33 : Addr} (p_Q33 : nsIn K mainGlobals "NoPlan" = some (some (.ref c_Q33)))
  {c_Q27 : Addr} (p_Q27 : nsIn K mainGlobals "NoPrice" = some (some (.ref c_Q27)))
  {c_Q34 : Addr} (p_Q34 : nsIn K mainGlobals "NoRoom" = some (some (.ref c_Q34)))
  {c_Q28 : Addr} (p_Q28 : nsIn K mainGlobals "NoSheet" = some (some (.ref c_Q28)))
  {c_Q29 : Addr} (p_Q29 : nsIn K mainGlobals "NoSpeed" = some (some (.ref c_Q29)))
  {c_Q14 : Addr} (p_Q14 : nsIn K mainGlobals "NoStretch" = some (some (.ref c_Q14)))
  {c_Q30 : Addr} (p_Q30 : nsIn K mainGlobals "NoRatio" = some (some (.ref c_Q30)))
  (w_x_catch : exmOne K (.ref c_Q32) (.ref c_Q13) = some true)
  (w_y_self : kitOne K (.ref c_Q32) (.ref c_Q32) = some true)
  (w_y_base : kitOne K (.ref c_Q32) (.ref c_Q13) = some true)
  (w_y_val : kitOne K (.ref c_Q32) (.type "ValueError") = some true)
  (w_y_not : kitAny K (.ref c_Q32) [.ref c_Q26, .ref c_Q33, .ref c_Q27, .ref c_Q34, .ref c_Q28, .ref c_Q29, .ref c_Q14] = some false)
  (z_ValueError : nsIn K mainGlobals "ValueError" = some none)
  (z_abs : nsIn K mainGlobals "abs" = some none)
  (z_all : nsIn K mainGlobals "all" = some none)
  (z_bool : nsIn K mainGlobals "bool" = some none)
  (z_int : nsIn K mainGlobals "int" = some none)
  (z_isinstance : nsIn K mainGlobals "isinstance" = some none)
  (z_len : nsIn K mainGlobals "len" = some none)
  (z_list : nsIn K mainGlobals "list" = some none)
  (z_range : nsIn K mainGlobals "range" = some none)
  (z_repr : nsIn K mainGlobals "repr" = some none)
  (z_set : nsIn K mainGlobals "set" = some none)
  (z_sorted : nsIn K mainGlobals "sorted" = some none)
  (z_str : nsIn K mainGlobals "str" = some none)
  (z_sum : nsIn K mainGlobals "sum" = some none)
  (z_tuple : nsIn K mainGlobals "tuple" = some none)
  : ∃ fd : FuncData, (∀ (s : Shared) (v : Value), BindsTo s fd ⟨[v], []⟩ [("_law_script", v)]) /\ ∀ base : Heap, K.In base -> base.Ns mainGlobals mg -> FnOk l.prog w K mg base CX0 8 fa fd ["_law_script"] (sp_law K) := by
 have e := hfa.symm.trans (mg_of X G p_Q40)
 cases e
 obtain ⟨d_Q15, F_Q15⟩ : ∃ d, Fun K "is_whole" "is_whole" s_Q15 f_Q15 d := ⟨_, fun_mk l_Q15 c_Q15 k_Q15⟩
 obtain ⟨d_Q1, F_Q1⟩ : ∃ d, Fun K "is_number_of" "is_number_of" s_Q1 f_Q1 d := ⟨_, fun_mk l_Q1 c_Q1 k_Q1⟩
 obtain ⟨d_Q5, F_Q5⟩ : ∃ d, Fun K "is_rising" "is_rising" s_Q5 f_Q5 d := ⟨_, fun_mk l_Q5 c_Q5 k_Q5⟩
 obtain ⟨d_Q31, F_Q31⟩ : ∃ d, Fun K "copied" "copied" s_Q31 f_Q31 d := ⟨_, fun_mk l_Q31 c_Q31 k_Q31⟩
 obtain ⟨d_Q0, F_Q0⟩ : ∃ d, Fun K "greatest_divisor" "greatest_divisor" s_Q0 f_Q0 d := ⟨_, fun_mk l_Q0 c_Q0 k_Q0⟩
 obtain ⟨d_Q35, F_Q35⟩ : ∃ d, Fun K "ratio" "ratio" s_Q35 f_Q35 d := ⟨_, fun_mk l_Q35 c_Q35 k_Q35⟩
 obtain ⟨d_Q39, F_Q39⟩ : ∃ d, Fun K "plus" "plus" s_Q39 f_Q39 d := ⟨_, fun_mk l_Q39 c_Q39 k_Q39⟩
 obtain ⟨d_Q36, F_Q36⟩ : ∃ d, Fun K "minus" "minus" s_Q36 f_Q36 d := ⟨_, fun_mk l_Q36 c_Q36 k_Q36⟩
 obtain ⟨d_Q37, F_Q37⟩ : ∃ d, Fun K "times" "times" s_Q37 f_Q37 d := ⟨_, fun_mk l_Q37 c_Q37 k_Q37⟩
 obtain ⟨d_Q22, F_Q22⟩ : ∃ d, Fun K "is_less" "is_less" s_Q22 f_Q22 d := ⟨_, fun_mk l_Q22 c_Q22 k_Q22⟩
 obtain ⟨d_Q38, F_Q38⟩ : ∃ d, Fun K "total" "total" s_Q38 f_Q38 d := ⟨_, fun_mk l_Q38 c_Q38 k_Q38⟩
 obtain ⟨d_Q2, F_Q2⟩ : ∃ d, Fun K "bound_amount" "bound_amount" s_Q2 f_Q2 d := ⟨_, fun_mk l_Q2 c_Q2 k_Q2⟩
 obtain ⟨d_Q6, F_Q6⟩ : ∃ d, Fun K "lets_much" "lets_much" s_Q6 f_Q6 d := ⟨_, fun_mk l_Q6 c_Q6 k_Q6⟩
 obtain ⟨d_Q16, F_Q16⟩ : ∃ d, Fun K "_law_tape" "_law_tape" s_Q16 f_Q16 d := ⟨_, fun_mk l_Q16 c_Q16 k_Q16⟩
 obtain ⟨d_Q17, F_Q17⟩ : ∃ d, Fun K "_law_draw" "_law_draw" s_Q17 f_Q17 d := ⟨_, fun_mk l_Q17 c_Q17 k_Q17⟩
 obtain ⟨d_Q7, F_Q7⟩ : ∃ d, Fun K "_law_alike" "_law_alike" s_Q7 f_Q7 d := ⟨_, fun_mk l_Q7 c_Q7 k_Q7⟩
 obtain ⟨d_Q18, F_Q18⟩ : ∃ d, Fun K "_law_frac" "_law_frac" s_Q18 f_Q18 d := ⟨_, fun_mk l_Q18 c_Q18 k_Q18⟩
 obtain ⟨d_Q23, F_Q23⟩ : ∃ d, Fun K "_law_add" "_law_add" s_Q23 f_Q23 d := ⟨_, fun_mk l_Q23 c_Q23 k_Q23⟩
 obtain ⟨d_Q24, F_Q24⟩ : ∃ d, Fun K "_law_mul" "_law_mul" s_Q24 f_Q24 d := ⟨_, fun_mk l_Q24 c_Q24 k_Q24⟩
 obtain ⟨d_Q19, F_Q19⟩ : ∃ d, Fun K "_law_less" "_law_less" s_Q19 f_Q19 d := ⟨_, fun_mk l_Q19 c_Q19 k_Q19⟩
 obtain ⟨d_Q25, F_Q25⟩ : ∃ d, Fun K "_law_sum" "_law_sum" s_Q25 f_Q25 d := ⟨_, fun_mk l_Q25 c_Q25 k_Q25⟩
 obtain ⟨d_Q8, F_Q8⟩ : ∃ d, Fun K "_law_works" "_law_works" s_Q8 f_Q8 d := ⟨_, fun_mk l_Q8 c_Q8 k_Q8⟩
 obtain ⟨d_Q9, F_Q9⟩ : ∃ d, Fun K "_law_units" "_law_units" s_Q9 f_Q9 d := ⟨_, fun_mk l_Q9 c_Q9 k_Q9⟩
 obtain ⟨d_Q3, F_Q3⟩ : ∃ d, Fun K "_law_tightest" "_law_tightest" s_Q3 f_Q3 d := ⟨_, fun_mk l_Q3 c_Q3 k_Q3⟩
 obtain ⟨d_Q4, F_Q4⟩ : ∃ d, Fun K "_law_layers" "_law_layers" s_Q4 f_Q4 d := ⟨_, fun_mk l_Q4 c_Q4 k_Q4⟩
 obtain ⟨d_Q20, F_Q20⟩ : ∃ d, Fun K "_law_pace" "_law_pace" s_Q20 f_Q20 d := ⟨_, fun_mk l_Q20 c_Q20 k_Q20⟩
 obtain ⟨d_Q10, F_Q10⟩ : ∃ d, Fun K "_law_marks" "_law_marks" s_Q10 f_Q10 d := ⟨_, fun_mk l_Q10 c_Q10 k_Q10⟩
 obtain ⟨d_Q21, F_Q21⟩ : ∃ d, Fun K "_law_word" "_law_word" s_Q21 f_Q21 d := ⟨_, fun_mk l_Q21 c_Q21 k_Q21⟩
 obtain ⟨d_Q11, F_Q11⟩ : ∃ d, Fun K "_law_tried" "_law_tried" s_Q11 f_Q11 d := ⟨_, fun_mk l_Q11 c_Q11 k_Q11⟩
 obtain ⟨d_Q12, F_Q12⟩ : ∃ d, Fun K "_law_right" "_law_right" s_Q12 f_Q12 d := ⟨_, fun_mk l_Q12 c_Q12 k_Q12⟩
 have F_Q40 := fun_mk (st := s_Q40) l_Q40 c_Q40 k_Q40
 have F_Q32 := fun_mk (st := s_Q32) l_Q32 cd_Q32_ ki_Q32
 have T : Txt K mg ⟨f_Q15, d_Q15, f_Q1, d_Q1, f_Q5, d_Q5, f_Q31, d_Q31, f_Q0, d_Q0, f_Q35, d_Q35, f_Q39, d_Q39, f_Q36, d_Q36, f_Q37, d_Q37, f_Q22, d_Q22, f_Q38, d_Q38, f_Q2, d_Q2, f_Q6, d_Q6, f_Q16, d_Q16, f_Q17, d_Q17, f_Q7, d_Q7, f_Q18, d_Q18, f_Q23, d_Q23, f_Q24, d_Q24, f_Q19, d_Q19, f_Q25, d_Q25, f_Q8, d_Q8, f_Q9, d_Q9, f_Q3, d_Q3, f_Q4, d_Q4, f_Q20, d_Q20, f_Q10, d_Q10, f_Q21, d_Q21, f_Q11, d_Q11, f_Q12, d_Q12, fa, fnOf "law" "law" (defArgs s_Q40) (defBody s_Q40) (defScope s_Q40) .none kV_Q40 dc_Q40 pm_Q40 an_Q40 cd_Q40 ct_Q40, f_NOUGHT, tkTURNS, cB, c_Q32, i_Q32, fnOf "__init__" "NoMuch.__init__" (defArgs s_Q32) (defBody s_Q32) (defScope s_Q32) .none kV_Q32 dc_Q32 pm_Q32 an_Q32 cd_Q32 ct_Q32, c_Q13, c_Q26, c_Q33, c_Q27, c_Q34, c_Q28, c_Q29, c_Q14, c_Q30⟩ := {
  F_Q15 := F_Q15, b_Q15 := bdA F_Q15, m_Q15 := mg_of X G p_Q15,
  F_Q1 := F_Q1, b_Q1 := bdA F_Q1, m_Q1 := mg_of X G p_Q1,
  F_Q5 := F_Q5, b_Q5 := bdA F_Q5, m_Q5 := mg_of X G p_Q5,
  F_Q31 := F_Q31, b_Q31 := bdA F_Q31, m_Q31 := mg_of X G p_Q31,
  F_Q0 := F_Q0, b_Q0 := bdA F_Q0, m_Q0 := mg_of X G p_Q0,
  F_Q35 := F_Q35, b_Q35 := bdA F_Q35, m_Q35 := mg_of X G p_Q35,
  F_Q39 := F_Q39, b_Q39 := bdA F_Q39, m_Q39 := mg_of X G p_Q39,
  F_Q36 := F_Q36, b_Q36 := bdA F_Q36, m_Q36 := mg_of X G p_Q36,
  F_Q37 := F_Q37, b_Q37 := bdA F_Q37, m_Q37 := mg_of X G p_Q37,
  F_Q22 := F_Q22, b_Q22 := bdA F_Q22, m_Q22 := mg_of X G p_Q22,
  F_Q38 := F_Q38, b_Q38 := bdA F_Q38, m_Q38 := mg_of X G p_Q38,
  F_Q2 := F_Q2, b_Q2 := bdA F_Q2, m_Q2 := mg_of X G p_Q2,
  F_Q6 := F_Q6, b_Q6 := bdA F_Q6, m_Q6 := mg_of X G p_Q6,
  F_Q16 := F_Q16, b_Q16 := bdA F_Q16, m_Q16 := mg_of X G p_Q16,
  F_Q17 := F_Q17, b_Q17 := bdA F_Q17, m_Q17 := mg_of X G p_Q17,
  F_Q7 := F_Q7, b_Q7 := bdA F_Q7, m_Q7 := mg_of X G p_Q7,
  F_Q18 := F_Q18, b_Q18 := bdA F_Q18, m_Q18 := mg_of X G p_Q18,
  F_Q23 := F_Q23, b_Q23 := bdA F_Q23, m_Q23 := mg_of X G p_Q23,
  F_Q24 := F_Q24, b_Q24 := bdA F_Q24, m_Q24 := mg_of X G p_Q24,
  F_Q19 := F_Q19, b_Q19 := bdA F_Q19, m_Q19 := mg_of X G p_Q19,
  F_Q25 := F_Q25, b_Q25 := bdA F_Q25, m_Q25 := mg_of X G p_Q25,
  F_Q8 := F_Q8, b_Q8 := bdA F_Q8, m_Q8 := mg_of X G p_Q8,
  F_Q9 := F_Q9, b_Q9 := bdA F_Q9, m_Q9 := mg_of X G p_Q9,
  F_Q3 := F_Q3, b_Q3 := bdA F_Q3, m_Q3 := mg_of X G p_Q3,
  F_Q4 := F_Q4, b_Q4 := bdA F_Q4, m_Q4 := mg_of X G p_Q4,
  F_Q20 := F_Q20, b_Q20 := bdA F_Q20, m_Q20 := mg_of X G p_Q20,
  F_Q10 := F_Q10, b_Q10 := bdA F_Q10, m_Q10 := mg_of X G p_Q10,
  F_Q21 := F_Q21, b_Q21 := bdA F_Q21, m_Q21 := mg_of X G p_Q21,
  F_Q11 := F_Q11, b_Q11 := bdA F_Q11, m_Q11 := mg_of X G p_Q11,
  F_Q12 := F_Q12, b_Q12 := bdA F_Q12, m_Q12 := mg_of X G p_Q12,
  F_Q40 := F_Q40, b_Q40 := bdA F_Q40, m_Q40 := mg_of X G p_Q40,
  m_NOUGHT := mg_of X G p_NOUGHT, q_NOUGHT := fun H => .inr ⟨_, _, _, l_NOUGHT, rfl, rfl, zl2, (.cons ⟨_, rfl⟩ (.cons ⟨_, rfl⟩ .nil))⟩,
  m_TURNS := mg_of X G p_TURNS,
  X_Q32 := xc_mk lc_Q32 lB lnB hsB hnB fi_Q32 ti_Q32 kc_Q32 hh_Q32 sa_Q32, F_Q32 := F_Q32, b_Q32 := bdA F_Q32, m_Q32 := mg_of X G p_Q32, n_Q32_word := na_Q32_word, g_Q32 := ⟨ga_Q32, gn_Q32, cl_Q32, cgB, ctB⟩,
  m_Q13 := mg_of X G p_Q13,
  m_Q26 := mg_of X G p_Q26,
  m_Q33 := mg_of X G p_Q33,
  m_Q27 := mg_of X G p_Q27,
  m_Q34 := mg_of X G p_Q34,
  m_Q28 := mg_of X G p_Q28,
  m_Q29 := mg_of X G p_Q29,
  m_Q14 := mg_of X G p_Q14,
  m_Q30 := mg_of X G p_Q30,
  x_catch := w_x_catch,
  y_self := w_y_self,
  y_base := w_y_base,
  y_val := w_y_val,
  y_not := w_y_not,
  z_ValueError := mg_none_of X G z_ValueError, z_abs := mg_none_of X G z_abs, z_all := mg_none_of X G z_all, z_bool := mg_none_of X G z_bool, z_int := mg_none_of X G z_int, z_isinstance := mg_none_of X G z_isinstance, z_len := mg_none_of X G z_len, z_list := mg_none_of X G z_list, z_range := mg_none_of X G z_range, z_repr := mg_none_of X G z_repr, z_set := mg_none_of X G z_set, z_sorted := mg_none_of X G z_sorted, z_str := mg_none_of X G z_str, z_sum := mg_none_of X G z_sum, z_tuple := mg_none_of X G z_tuple }
 exact ⟨_, fun s v => .of_eq rfl, fun base _ _ => ok_Q40 T⟩
theorem walk {l : PySem.W.OpenLaw} {q : Program} {loose : List Str} {XP : (Str -> Option Value) -> Heap -> Prop} {YP : World -> Heap -> Prop} {d : DefRec} {K : Params -> Fg} (hn : l.most = some 63) (hdf : d.params.defaults = [])
  (hY : ∀ (w : World) (h : Heap), YP w h -> (K w.params).In h)
  (F : ∀ (w : World) (mg : Str -> Option Value) (fa : Addr) (h : Heap), (K w.params).In h -> h.Ns mainGlobals mg -> mg d.name = some (.ref fa) →
   ∃ fd : FuncData, (∀ (s : Shared) (u : Value), BindsTo s fd ⟨[u], []⟩ [("_law_script", u)]) /\ ∀ base : Heap, (K w.params).In base -> base.Ns mainGlobals mg -> FnOk l.prog w (K w.params) mg base CX0 8 fa fd ["_law_script"] (sp_law (K w.params))) :
  PySem.W.WalkO q loose XP YP l.row.toRowW d [] (fun f vs => PySem.call f vs) :=
 L2.walk_of (n := 63) (k := 8) (x := "_law_script") (CX := fun _ => CX0) (sp := fun w => sp_law (K w.params)) hn (by decide) hdf ⟨rfl, by decide, by decide, rfl⟩ hY F (fun _ _ a ns hl _ hS => ⟨a, ns, rfl, hS, hl, fun _ => rfl⟩) fun _ _ _ _ _ z => z
end My
open PySem PySem.W PyProof.Rows
set_option maxRecDepth 100000 in
set_option maxHeartbeats 0 in
theorem PySem.Challenge.cw_paceplan_k45_too_much_asked_holds : PySem.Challenge.rw_paceplan_k45_too_much_asked.Holds := by
 w_on; refine HWtop ?_
 k_fill
 refine My.walk (l := PySem.Challenge.rw_paceplan_k45_too_much_asked) rfl rfl (fun w h Y => PySem.W.kIn_of Y) ?F
 case F =>
  intro w mg fa h KX G hmg
  refine' My.all_mk KX G hmg ?p_Q15 ?l_Q15 ?c_Q15 ?k_Q15 ?p_Q1 ?l_Q1 ?c_Q1 ?k_Q1 ?p_Q5 ?l_Q5 ?c_Q5 ?k_Q5 ?p_Q31 ?l_Q31 ?c_Q31 ?k_Q31 ?p_Q0 ?l_Q0 ?c_Q0 ?k_Q0 ?p_Q35 ?l_Q35 ?c_Q35 ?k_Q35 ?p_Q39 ?l_Q39 ?c_Q39 ?k_Q39 ?p_Q36 ?l_Q36 ?c_Q36 ?k_Q36 ?p_Q37 ?l_Q37 ?c_Q37 ?k_Q37 ?p_Q22 ?l_Q22 ?c_Q22 ?k_Q22 ?p_Q38 ?l_Q38 ?c_Q38 ?k_Q38 ?p_Q2 ?l_Q2 ?c_Q2 ?k_Q2 ?p_Q6 ?l_Q6 ?c_Q6 ?k_Q6 ?p_Q16 ?l_Q16 ?c_Q16 ?k_Q16 ?p_Q17 ?l_Q17 ?c_Q17 ?k_Q17 ?p_Q7 ?l_Q7 ?c_Q7 ?k_Q7 ?p_Q18 ?l_Q18 ?c_Q18 ?k_Q18 ?p_Q23 ?l_Q23 ?c_Q23 ?k_Q23 ?p_Q24 ?l_Q24 ?c_Q24 ?k_Q24 ?p_Q19 ?l_Q19 ?c_Q19 ?k_Q19 ?p_Q25 ?l_Q25 ?c_Q25 ?k_Q25 ?p_Q8 ?l_Q8 ?c_Q8 ?k_Q8 ?p_Q9 ?l_Q9 ?c_Q9 ?k_Q9 ?p_Q3 ?l_Q3 ?c_Q3 ?k_Q3 ?p_Q4 ?l_Q4 ?c_Q4 ?k_Q4 ?p_Q20 ?l_Q20 ?c_Q20 ?k_Q20 ?p_Q10 ?l_Q10 ?c_Q10 ?k_Q10 ?p_Q21 ?l_Q21 ?c_Q21 ?k_Q21 ?p_Q11 ?l_Q11 ?c_Q11 ?k_Q11 ?p_Q12 ?l_Q12 ?c_Q12 ?k_Q12 ?p_Q40 ?l_Q40 ?c_Q40 ?k_Q40 ?p_NOUGHT ?l_NOUGHT ?p_TURNS ?pB ?lB ?lnB ?hsB ?hnB ?cgB ?ctB ?p_Q32 ?lc_Q32 ?fi_Q32 ?l_Q32 ?cd_Q32_ ?ki_Q32 ?ti_Q32 ?kc_Q32 ?hh_Q32 ?sa_Q32 ?na_Q32_word ?ga_Q32 ?gn_Q32 ?cl_Q32 ?p_Q13 ?p_Q26 ?p_Q33 ?p_Q27 ?p_Q34 ?p_Q28 ?p_Q29 ?p_Q14 ?p_Q30 ?w_x_catch ?w_y_self ?w_y_base ?w_y_val ?w_y_not ?z_ValueError ?z_abs ?z_all ?z_bool ?z_int ?z_isinstance ?z_len ?z_list ?z_range ?z_repr ?z_set ?z_sorted ?z_str ?z_sum ?z_tuple
  (case p_Q15 => k_is)
  (case l_Q15 => k_is)
  (case c_Q15 => k_is)
  (case k_Q15 => k_is)
  (case p_Q1 => k_is)
  (case l_Q1 => k_is)
  (case c_Q1 => k_is)
  (case k_Q1 => k_is)
  (case p_Q5 => k_is)
  (case l_Q5 => k_is)
  (case c_Q5 => k_is)
  (case k_Q5 => k_is)
  (case p_Q31 => k_is)
  (case l_Q31 => k_is)
  (case c_Q31 => k_is)
  (case k_Q31 => k_is)
  (case p_Q0 => k_is)
  (case l_Q0 => k_is)
  (case c_Q0 => k_is)
  (case k_Q0 => k_is)
  (case p_Q35 => k_is)
  (case l_Q35 => k_is)
  (case c_Q35 => k_is)
  (case k_Q35 => k_is)
  (case p_Q39 => k_is)
  (case l_Q39 => k_is)
  (case c_Q39 => k_is)
  (case k_Q39 => k_is)
  (case p_Q36 => k_is)
  (case l_Q36 => k_is)
  (case c_Q36 => k_is)
  (case k_Q36 => k_is)
  (case p_Q37 => k_is)
  (case l_Q37 => k_is)
  (case c_Q37 => k_is)
  (case k_Q37 => k_is)
  (case p_Q22 => k_is)
  (case l_Q22 => k_is)
  (case c_Q22 => k_is)
  (case k_Q22 => k_is)
  (case p_Q38 => k_is)
  (case l_Q38 => k_is)
  (case c_Q38 => k_is)
  (case k_Q38 => k_is)
  (case p_Q2 => k_is)
  (case l_Q2 => k_is)
  (case c_Q2 => k_is)
  (case k_Q2 => k_is)
  (case p_Q6 => k_is)
  (case l_Q6 => k_is)
  (case c_Q6 => k_is)
  (case k_Q6 => k_is)
  (case p_Q16 => k_is)
  (case l_Q16 => k_is)
  (case c_Q16 => k_is)
  (case k_Q16 => k_is)
  (case p_Q17 => k_is)
  (case l_Q17 => k_is)
  (case c_Q17 => k_is)
  (case k_Q17 => k_is)
  (case p_Q7 => k_is)
  (case l_Q7 => k_is)
  (case c_Q7 => k_is)
  (case k_Q7 => k_is)
  (case p_Q18 => k_is)
  (case l_Q18 => k_is)
  (case c_Q18 => k_is)
  (case k_Q18 => k_is)
  (case p_Q23 => k_is)
  (case l_Q23 => k_is)
  (case c_Q23 => k_is)
  (case k_Q23 => k_is)
  (case p_Q24 => k_is)
  (case l_Q24 => k_is)
  (case c_Q24 => k_is)
  (case k_Q24 => k_is)
  (case p_Q19 => k_is)
  (case l_Q19 => k_is)
  (case c_Q19 => k_is)
  (case k_Q19 => k_is)
  (case p_Q25 => k_is)
  (case l_Q25 => k_is)
  (case c_Q25 => k_is)
  (case k_Q25 => k_is)
  (case p_Q8 => k_is)
  (case l_Q8 => k_is)
  (case c_Q8 => k_is)
  (case k_Q8 => k_is)
  (case p_Q9 => k_is)
  (case l_Q9 => k_is)
  (case c_Q9 => k_is)
  (case k_Q9 => k_is)
  (case p_Q3 => k_is)
  (case l_Q3 => k_is)
  (case c_Q3 => k_is)
  (case k_Q3 => k_is)
  (case p_Q4 => k_is)
  (case l_Q4 => k_is)
  (case c_Q4 => k_is)
  (case k_Q4 => k_is)
  (case p_Q20 => k_is)
  (case l_Q20 => k_is)
  (case c_Q20 => k_is)
  (case k_Q20 => k_is)
  (case p_Q10 => k_is)
  (case l_Q10 => k_is)
  (case c_Q10 => k_is)
  (case k_Q10 => k_is)
  (case p_Q21 => k_is)
  (case l_Q21 => k_is)
  (case c_Q21 => k_is)
  (case k_Q21 => k_is)
  (case p_Q11 => k_is)
  (case l_Q11 => k_is)
  (case c_Q11 => k_is)
  (case k_Q11 => k_is)
  (case p_Q12 => k_is)
  (case l_Q12 => k_is)
  (case c_Q12 => k_is)
  (case k_Q12 => k_is)
  (case p_Q40 => k_is)
  (case l_Q40 => k_is)
  (case c_Q40 => k_is)
  (case k_Q40 => k_is)
  (case p_NOUGHT => k_is)
  (case l_NOUGHT => k_is)
  (case p_TURNS => k_is)
  (case pB => k_is)
  (case lB => k_is)
  (case lnB => k_is)
  (case hsB => rfl)
  (case hnB => rfl)
  (case cgB => k_is)
  (case ctB => k_is)
  (case p_Q32 => k_is)
  (case lc_Q32 => k_is)
  (case fi_Q32 => k_is)
  (case l_Q32 => k_is)
  (case cd_Q32_ => k_is)
  (case ki_Q32 => k_is)
  (case ti_Q32 => k_is)
  (case kc_Q32 => k_is)
  (case hh_Q32 => k_is)
  (case sa_Q32 => k_is)
  (case na_Q32_word => k_is)
  (case ga_Q32 => k_is)
  (case gn_Q32 => k_is)
  (case cl_Q32 => k_is)
  (case p_Q13 => k_is)
  (case p_Q26 => k_is)
  (case p_Q33 => k_is)
  (case p_Q27 => k_is)
  (case p_Q34 => k_is)
  (case p_Q28 => k_is)
  (case p_Q29 => k_is)
  (case p_Q14 => k_is)
  (case p_Q30 => k_is)
  (case w_x_catch => kts_exm)
  (case w_y_self => kit_is)
  (case w_y_base => kit_is)
  (case w_y_val => kit_is)
  (case w_y_not => kit_is)
  (case z_ValueError => k_is)
  (case z_abs => k_is)
  (case z_all => k_is)
  (case z_bool => k_is)
  (case z_int => k_is)
  (case z_isinstance => k_is)
  (case z_len => k_is)
  (case z_list => k_is)
  (case z_range => k_is)
  (case z_repr => k_is)
  (case z_set => k_is)
  (case z_sorted => k_is)
  (case z_str => k_is)
  (case z_sum => k_is)
  (case z_tuple => k_is)
