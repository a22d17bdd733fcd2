import PyProof.Rows.All
import KE.RegKIsAll
import KE.RegKTryMore
import KE.KItem
import PySem.Challenge.RW_paceplan_k18_speeds_and_powers
set_option Elab.async false
set_option linter.all false
set_option maxRecDepth 100000
theorem opt_two {α β γ : Type} {o : Option α} {f : α -> β} {g : α -> γ} {a : β} {b : γ} (h1 : o.map f = some a) (h2 : o.map g = some b) : o.map (fun s => (f s, g s)) = some (a, b) := by
 cases o with
 | none => cases h1
 | some x => cases h1; cases h2; rfl
namespace HW
open PySem
def keep : List Nat := [1, 3, 4, 5, 7, 8, 9, 10, 11, 12, 13, 14, 15, 16, 18, 19, 20, 21, 22, 23, 25, 26, 28, 29, 30, 31, 32, 33, 34, 35, 36, 37, 38, 39, 40, 41, 42, 43, 44, 45, 46, 47]
def V : Program := PySem.W.view PySem.Challenge.pw_paceplan_k18_speeds_and_powers keep
end HW
section HWs
open PySem PySem.W PyProof.Rows
set_option maxHeartbeats 0 in
theorem HWa : ∀ w : World, (openEnds treeTable PySem.Challenge.rw_paceplan_k18_speeds_and_powers.row.prog w 3880).map (fun s => openSeen HW.V [] (importedModules PySem.Challenge.rw_paceplan_k18_speeds_and_powers.row.prog.main.body) (fun s => xlAt HW.V [] s && recOk PySem.Challenge.rw_paceplan_k18_speeds_and_powers.row.records s) true s) = some (openGood HW.V []) := by
 intro w
 delta openEnds fencedOpening topFrom
 rw [PySem.W.Fast.te14364793385576792824, PySem.W.Fast.te14082659384304107361, PySem.W.Fast.te10274390034422433532, PySem.W.Fast.te1435165496053646825, PySem.W.Fast.te14289696077712309145, PySem.W.Fast.te4187177175401517315]
 kernel_rfl
local macro_rules
 | `(tactic| o_head $H:term) => `(tactic| (
   refine holds_open (q := HW.V) (loose := []) (N := 3880)
    (Xt := fun s => xlAt HW.V [] s && recOk (RowW.records (OpenRow.toRowW (OpenLaw.row PySem.Challenge.rw_paceplan_k18_speeds_and_powers))) s)
    (XP := XL HW.V []) (Yf := Hook.obs $H) (Ya := Hook.val $H) (YP := Hook.says $H)
    ?hl (Hook.of $H) (Hook.keeps $H)
    (fun s e => xl_of s (Bool.and_eq_true_iff.mp e).1) XL.keeps
    (by rfl) (by rfl) (by rfl)
    (fun s e => recFacts_of (Bool.and_eq_true_iff.mp e).2) (by rfl) (by assumption) (by decide +kernel)
    ⟨rfl, rfl, rfl, rfl, rfl, by decide +kernel⟩ ?hw ?hc
   (case hl =>
    intro w
    refine opt_two (HWa w) ?_
    delta openEnds fencedOpening topFrom
    rw [PySem.W.Fast.te14364793385576792824, PySem.W.Fast.te14082659384304107361, PySem.W.Fast.te10274390034422433532, PySem.W.Fast.te1435165496053646825, PySem.W.Fast.te14289696077712309145]
    kernel_rfl)))
set_option maxHeartbeats 0 in
open_top HWtop for PySem.Challenge.rw_paceplan_k18_speeds_and_powers
end HWs
theorem zl1 : 1 ≤ PySem.sizeLine := by decide
theorem zl2 : 2 ≤ PySem.sizeLine := by decide
theorem zl3 : 3 ≤ PySem.sizeLine := by decide
theorem zl4 : 4 ≤ PySem.sizeLine := by decide
theorem zl5 : 5 ≤ PySem.sizeLine := by decide
theorem zl7 : 7 ≤ PySem.sizeLine := by decide
theorem zl8 : 8 ≤ PySem.sizeLine := by decide
namespace L2
open PySem PySem.Spec PyProof.Rows
abbrev Key := Sum Int Str
def keyIs : Key -> Value -> Bool
 | .inl k, v => Value.isInt k v
 | .inr x, v => Value.isStrOf x v
def keyH (w : World) : Key -> Int
 | .inl k => hashInt k
 | .inr x => hashStr w x
theorem keyIs_shape : ∀ {k : Key} {v : Value}, keyIs k v = true -> (∃ i t, k = Sum.inl i /\ v = Value.int i t) ∨ (∃ x t, k = Sum.inr x /\ v = Value.str x t)
 | .inl i, v, h => by
  obtain ⟨t, e⟩ := Value.isInt_shape (k := i) (v := v) h
  exact .inl ⟨i, t, rfl, e⟩
 | .inr x, v, h => by
  obtain ⟨t, e⟩ := Value.isStrOf_shape (x := x) (v := v) h
  exact .inr ⟨x, t, rfl, e⟩
theorem keyIs_int (i : Int) (t : Tok) : keyIs (.inl i) (.int i t) = true := by simp [keyIs, Value.isInt]
theorem keyIs_str (x : Str) (t : Tok) : keyIs (.inr x) (.str x t) = true := by simp [keyIs, Value.isStrOf]
theorem key_ll (a b : Int) : decide ((Sum.inl a : Key) = Sum.inl b) = (a == b) := by
 by_cases e : a = b
 ·subst e; simp
 ·have h : ¬ (Sum.inl a : Key) = Sum.inl b := fun q => e (Sum.inl.inj q)
  rw [decide_eq_false h]
  exact (beq_eq_false_iff_ne.mpr e).symm
theorem key_rr (a b : Str) : decide ((Sum.inr a : Key) = Sum.inr b) = decide (a = b) := by
 by_cases e : a = b
 ·subst e; simp
 ·have h : ¬ (Sum.inr a : Key) = Sum.inr b := fun q => e (Sum.inr.inj q)
  rw [decide_eq_false h, decide_eq_false e]
theorem key_lr (a : Int) (b : Str) : decide ((Sum.inl a : Key) = Sum.inr b) = false := decide_eq_false (fun q => nomatch q)
theorem key_rl (a : Str) (b : Int) : decide ((Sum.inr a : Key) = Sum.inl b) = false := decide_eq_false (fun q => nomatch q)
def mixKind (prog : Program) (w : World) : PySem.KeyKind prog w Key where
 is := keyIs
 hash := keyH w
 inj := fun v a b ha hb => by
  rcases keyIs_shape ha with ⟨i, t, rfl, rfl⟩ | ⟨x, t, rfl, rfl⟩
  ·rcases keyIs_shape hb with ⟨j, u, rfl, e⟩ | ⟨y, u, rfl, e⟩
   ·injection e with e1 _; rw [e1]
   ·exact nomatch e
  ·rcases keyIs_shape hb with ⟨j, u, rfl, e⟩ | ⟨y, u, rfl, e⟩
   ·exact nomatch e
   ·injection e with e1 _; rw [e1]
 byValue := fun k v h => by
  rcases keyIs_shape h with ⟨i, t, rfl, rfl⟩ | ⟨x, t, rfl, rfl⟩ <;> rfl
 pyHash := fun hv h => by
  rcases keyIs_shape hv with ⟨i, t, rfl, rfl⟩ | ⟨x, t, rfl, rfl⟩
  ·exact wpAny_pyHash_int h
  ·exact wpAny_pyHash_str h
 eqBool := fun hu hv h => by
  rcases keyIs_shape hu with ⟨i, t, rfl, rfl⟩ | ⟨x, t, rfl, rfl⟩
  ·rcases keyIs_shape hv with ⟨j, u, rfl, rfl⟩ | ⟨y, u, rfl, rfl⟩
   ·rw [key_ll] at h; exact wpAny_eqBool_int h
   ·rw [key_lr] at h; exact SeqAt.EqAt.int_str i t y u _ _ _ _ h
  ·rcases keyIs_shape hv with ⟨j, u, rfl, rfl⟩ | ⟨y, u, rfl, rfl⟩
   ·rw [key_rl] at h; exact SeqAt.EqAt.str_int x t j u _ _ _ _ h
   ·rw [key_rr] at h; exact wpAny_eqBool_str h
 «strs» := fun k x t v h => by
  rcases keyIs_shape h with ⟨i, u, rfl, e⟩ | ⟨y, u, rfl, e⟩
  ·exact nomatch e
  ·injection e with e1 _
   subst e1
   cases v <;> rfl
theorem mixKind_int (prog : Program) (w : World) (i : Int) (t : Tok) : (mixKind prog w).is (.inl i) (.int i t) = true := keyIs_int i t
theorem mixKind_str (prog : Program) (w : World) (x : Str) (t : Tok) : (mixKind prog w).is (.inr x) (.str x t) = true := keyIs_str x t
end L2
namespace L2
open PySem PySem.Spec PyProof.Rows
inductive V where
 | non | bl (b : Bool) | int (i : Int) | str (x : Str) | byt (b : Array UInt8) | flt (b : UInt64) | ref (a : Addr) | ty (n : String)
 deriving DecidableEq
def RelV : V -> Value -> Prop
 | .non, u => u = Value.none
 | .bl b, u => u = Value.bool b
 | .int i, u => ∃ t, u = Value.int i t
 | .str x, u => ∃ t, u = Value.str x t
 | .byt b, u => ∃ t, u = Value.bytes b t
 | .flt b, u => ∃ t, u = Value.float b t
 | .ref a, u => u = Value.ref a
 | .ty n, u => u = Value.type n
abbrev Vals : List V -> List Value -> Prop := Paired RelV
theorem Vals.length {xs : List V} {us : List Value} (r : Vals xs us) : xs.length = us.length := Paired.length r
theorem Vals.get : ∀ {xs : List V} {us : List Value} {i : Nat} {x : V}, Vals xs us -> xs[i]? = some x -> ∃ u, us[i]? = some u /\ RelV x u
 | _, _, _, _, .nil, e => by simp at e
 | _, _, 0, _, .cons r _, e => by simp at e; subst e; exact ⟨_, rfl, r⟩
 | _, _, i + 1, x, .cons _ t, e => by
  obtain ⟨u, h1, h2⟩ := Vals.get (i := i) (x := x) t (by simpa using e)
  exact ⟨u, by simpa using h1, h2⟩
theorem Vals.set {x : V} {u : Value} (r : RelV x u) : ∀ {xs : List V} {us : List Value} (i : Nat), Vals xs us -> Vals (xs.set i x) (us.set i u)
 | _, _, _, .nil => .nil
 | _, _, 0, .cons _ t => .cons r t
 | _, _, i + 1, .cons q t => .cons q (Vals.set r i t)
theorem Vals.append : ∀ {xs ys : List V} {us ws : List Value}, Vals xs us -> Vals ys ws -> Vals (xs ++ ys) (us ++ ws)
 | _, _, _, _, .nil, s => s
 | _, _, _, _, .cons r t, s => .cons r (Vals.append t s)
theorem Vals.take : ∀ {xs : List V} {us : List Value} (n : Nat), Vals xs us -> Vals (xs.take n) (us.take n)
 | _, _, 0, _ => .nil
 | _, _, _ + 1, .nil => .nil
 | _, _, n + 1, .cons r t => .cons r (Vals.take n t)
theorem Vals.drop : ∀ {xs : List V} {us : List Value} (n : Nat), Vals xs us -> Vals (xs.drop n) (us.drop n)
 | _, _, 0, r => r
 | _, _, _ + 1, .nil => .nil
 | _, _, n + 1, .cons _ t => Vals.drop n t
def RelO : Option V -> Option Value -> Prop
 | some v, some u => RelV v u
 | none, none => True
 | _, _ => False
def KV {κ : Type} : List (κ × V) -> List (κ × Value) -> Prop := Paired fun (p : κ × V) (q : κ × Value) => p.1 = q.1 /\ RelV p.2 q.2
def kV : Key -> V
 | .inl i => .int i
 | .inr x => .str x
inductive HO where
 | lst (xs : List V)
 | tup (xs : List V)
 | dK (kvs : List (Key × V)) | dT (kvs : List (List Key × V))
 | set (S : Int -> Bool) (n : Nat)
 | ins (C dx : Addr) (fs : List (Str × V))
 | own (x : Addr)
 | xd (fs : List (Str × V))
 | met (f x : Addr)
 | rng (lo hi : Int)
 | frz (o : Obj) (u : HO)
 | tbl (ps : Array Value)
 | ext (φ : Heap -> Prop)
abbrev Hp := Addr -> Option HO
def upd (H : Hp) (a : Addr) (o : HO) : Hp := fun b => if b = a then some o else H b
theorem upd_same {H : Hp} {a : Addr} {o : HO} : upd H a o a = some o := by unfold upd; rw [if_pos rfl]
theorem upd_ne {H : Hp} {a b : Addr} {o : HO} (h : b ≠ a) : upd H a o b = H b := by unfold upd; rw [if_neg h]
theorem upd_upd {H : Hp} {a : Addr} {o u : HO} : upd (upd H a o) a u = upd H a u := by
 funext b; unfold upd; split <;> rfl
theorem ne_of {H : Hp} {a b : Addr} {o u : HO} (h : H a = some o) (h' : H b = some u) (d : o ≠ u) : a ≠ b := by
 intro e; subst e; rw [h] at h'; exact d (Option.some.inj h')
theorem ne_of_none {H : Hp} {a b : Addr} {o : HO} (h : H a = some o) (h' : H b = none) : a ≠ b := by
 intro e; subst e; rw [h] at h'; cases h'
section
variable (P : Program) (w : World)
def ObjOk (H : Hp) (h : Heap) (a : Addr) : HO -> Prop
 | .lst xs => xs.length ≤ sizeLine /\ ∃ (its : List Value) (n : Nat), Vals xs its /\ h.get? a = some { cls := .type "list", data := .seq its.toArray n }
 | .tup xs => xs.length ≤ sizeLine /\ ∃ its : List Value, Vals xs its /\ IsTup h a its.toArray
 | .dK kvs => kvs.length ≤ sizeLine /\ (a == sysModules) = false /\ ∃ vs, KV kvs vs /\ h.DictOf (mixKind P w) a vs
 | .dT kvs => kvs.length ≤ sizeLine /\ (a == sysModules) = false /\ ∃ xs : List (List Key × Addr × Value),
   Paired (fun (p : List Key × V) (q : List Key × Addr × Value) => p.1 = q.1 /\ H q.2.1 = some (.tup (p.1.map kV)) /\ RelV p.2 q.2.2) kvs xs ∧
   ∃ o es ep, h.get? a = some o /\ o.ExactDict /\ o.data = .dict es ep /\ es.toList = xs.map (entryOfKey (tupleKind (mixKind P w))) /\ (xs.map (·.1)).Nodup
 | .set S n => h.SetOf (intKind P w) a S n
 | .ins C dx fs => H dx = some (.own a) /\ fs.length ≤ 1000 /\ dx ≠ a /\ h.get? a = some (PySem.W.instObj C dx) ∧
   ∃ mA, h.Ns1 dx mA /\ (∀ f, RelO (fs.lookup f) (mA f)) /\ PySem.Within mA (fs.map (·.1))
 | .own _ => ∃ o, h.get? a = some o
 | .xd fs => ∃ mA, h.Ns1 a mA /\ ∀ f, RelO (fs.lookup f) (mA f)
 | .rng lo hi => ∃ t u v, h.get? a = some { cls := .type "range", data := .fields #[.int lo t, .int hi u, .int 1 v] }
 | .frz o u => h.get? a = some o /\ ObjOk H h a u
 | .tbl ps => h.get? a = some { cls := .none, data := .fields ps }
 | .met f x => h.get? a = some (PySem.W.methodObj (.ref f) (.ref x))
 | .ext φ => φ h /\ (∃ o, h.get? a = some o) /\ ∀ h1 h2 : Heap, φ h1 -> (∀ o, h1.get? a = some o -> h2.get? a = some o) -> φ h2
def HOk (H : Hp) (h : Heap) : Prop := ∀ a o, H a = some o -> ObjOk P w H h a o
end
section
variable {P : Program} {w : World} {H H' : Hp} {h h' : Heap} {a : Addr} {o : HO}
theorem ObjOk.lt (x : ObjOk P w H h a o) : a < h.objs.size := by
 cases o with
 | lst xs => obtain ⟨_, _, _, _, e⟩ := x; exact Heap.lt_size e
 | tup xs => obtain ⟨_, _, _, p⟩ := x; exact p.lt
 | dK kvs => obtain ⟨_, _, _, _, o, _, _, e, _⟩ := x; exact Heap.lt_size e
 | dT kvs => obtain ⟨_, _, _, _, o, _, _, e, _⟩ := x; exact Heap.lt_size e
 | set S n => obtain ⟨o, _, _, _, e, _⟩ := x; exact Heap.lt_size e
 | ins C dx fs => obtain ⟨_, _, _, e, _⟩ := x; exact Heap.lt_size e
 | own y => obtain ⟨_, e⟩ := x; exact Heap.lt_size e
 | xd fs => obtain ⟨_, ⟨_, _, _, e, _⟩, _⟩ := x; exact Heap.lt_size e
 | rng lo hi => obtain ⟨_, _, _, e⟩ := x; exact Heap.lt_size e
 | frz ob u => obtain ⟨e, _⟩ := x; exact Heap.lt_size e
 | tbl ps => exact Heap.lt_size (show h.get? a = some _ from x)
 | met f y => exact Heap.lt_size (show h.get? a = some _ from x)
 | ext φ => obtain ⟨_, ⟨_, e⟩, _⟩ := x; exact Heap.lt_size e
theorem Paired.mapP {α β : Type} {F G : α -> β -> Prop} : ∀ {l₁ : List α} {l₂ : List β}, Paired F l₁ l₂ -> (∀ a b, F a b -> G a b) -> Paired G l₁ l₂
 | _, _, .nil, _ => .nil
 | _, _, .cons r t, f => .cons (f _ _ r) (Paired.mapP t f)
theorem ObjOk.stay (x : ObjOk P w H h a o) (k : ∀ b u, (b = a ∨ H b = some (.own a)) -> h.get? b = some u -> h'.get? b = some u)
  (ho : ∀ b, H b = some (.own a) -> H' b = some (.own a)) (ht : ∀ b xs, H b = some (.tup xs) -> H' b = some (.tup xs)) : ObjOk P w H' h' a o := by
 induction o with
 | lst xs => obtain ⟨z, its, n, r, e⟩ := x; exact ⟨z, its, n, r, k _ _ (.inl rfl) e⟩
 | tup xs => obtain ⟨z, its, r, ob, e, c⟩ := x; exact ⟨z, its, r, ob, k _ _ (.inl rfl) e, c⟩
 | dK kvs => obtain ⟨z, y, vs, r, ob, es, ep, e, c⟩ := x; exact ⟨z, y, vs, r, ob, es, ep, k _ _ (.inl rfl) e, c⟩
 | dT kvs =>
  obtain ⟨z, y, xs, r, ob, es, ep, e, c⟩ := x
  exact ⟨z, y, xs, Paired.mapP r fun p q z => ⟨z.1, ht _ _ z.2.1, z.2.2⟩, ob, es, ep, k _ _ (.inl rfl) e, c⟩
 | set S n => obtain ⟨ob, es, ep, t, e, c⟩ := x; exact ⟨ob, es, ep, t, k _ _ (.inl rfl) e, c⟩
 | ins C dx fs =>
  obtain ⟨d, z, ne, e, mA, ⟨od, es, ep, e2, c⟩, r⟩ := x
  exact ⟨ho _ d, z, ne, k _ _ (.inl rfl) e, mA, ⟨od, es, ep, k _ _ (.inr d) e2, c⟩, r⟩
 | own y => obtain ⟨ob, e⟩ := x; exact ⟨ob, k _ _ (.inl rfl) e⟩
 | xd fs => obtain ⟨mA, ⟨od, es, ep, e, c⟩, r⟩ := x; exact ⟨mA, ⟨od, es, ep, k _ _ (.inl rfl) e, c⟩, r⟩
 | rng lo hi => obtain ⟨t, u, v, e⟩ := x; exact ⟨t, u, v, k _ _ (.inl rfl) e⟩
 | frz ob u ih => obtain ⟨e, q⟩ := x; exact ⟨k _ _ (.inl rfl) e, ih q⟩
 | tbl ps =>
  have e : h.get? a = some { cls := .none, data := .fields ps } := x
  show h'.get? a = some { cls := .none, data := .fields ps }
  exact k a _ (.inl rfl) e
 | met f y =>
  have e : h.get? a = some (PySem.W.methodObj (.ref f) (.ref y)) := x
  show h'.get? a = some (PySem.W.methodObj (.ref f) (.ref y))
  exact k a _ (.inl rfl) e
 | ext φ => obtain ⟨p, ⟨o, e⟩, st⟩ := x; exact ⟨st _ _ p fun o q => k _ _ (.inl rfl) q, ⟨o, k _ _ (.inl rfl) e⟩, st⟩
theorem HOk.lt (x : HOk P w H h) (e : H a = some o) : a < h.objs.size := (x a o e).lt
theorem HOk.fresh (x : HOk P w H h) (e : h.objs.size ≤ a) : H a = none := by
 cases q : H a with
 | none => rfl
 | some u => exact absurd (Nat.lt_of_lt_of_le (x.lt q) e) (Nat.lt_irrefl _)
theorem HOk.kept (x : HOk P w H h) (k : ∀ b u, h.get? b = some u -> h'.get? b = some u) : HOk P w H h' := fun a o e =>
 (x a o e).stay (fun b u _ q => k b u q) (fun _ q => q) fun _ _ q => q
theorem HOk.laid (x : HOk P w H h) (k : ∀ b u, h.get? b = some u -> h'.get? b = some u) (hp : h.objs.size ≤ a) (new : ObjOk P w (upd H a o) h' a o) : HOk P w (upd H a o) h' := fun b u e => by
 have hn := x.fresh hp
 by_cases hb : b = a
 ·subst hb; rw [upd_same] at e; cases e; exact new
 ·rw [upd_ne hb] at e
  exact (x b u e).stay (fun c v _ q => k c v q) (fun c q => by rw [upd_ne (ne_of_none q hn)]; exact q) fun c xs q => by rw [upd_ne (ne_of_none q hn)]; exact q
end
def Rd (H : Hp) (a : Addr) (u : HO) : Prop := H a = some u ∨ ∃ o, H a = some (.frz o u)
theorem Rd.ok {P : Program} {w : World} {H : Hp} {h : Heap} {a : Addr} {u : HO} (r : Rd H a u) (x : HOk P w H h) : ObjOk P w H h a u := by
 rcases r with r | ⟨o, r⟩
 ·exact x a u r
 ·obtain ⟨_, q⟩ := x a _ r
  exact q
def Mut : Option HO -> Prop
 | some (.lst _) => True
 | some (.dK _) => True
 | some (.dT _) => True
 | some (.set _ _) => True
 | some (.ins _ _ _) => True
 | some (.ext _) => True
 | _ => False
section
variable {P : Program} {w : World} {H : Hp} {h h' : Heap} {x e : Addr} {o' : HO}
theorem HOk.write (ok : HOk P w H h) (mu : Mut (H x)) (he : e = x ∨ H e = some (.own x)) (k : ∀ b u, b ≠ e -> h.get? b = some u -> h'.get? b = some u) (heo : ∃ u, h'.get? e = some u)
  (new : ObjOk P w (upd H x o') h' x o') : HOk P w (upd H x o') h' := fun b u q => by
 have nown : ∀ c y, H c = some (.own y) -> c ≠ x := fun c y r z => by subst z; rw [r] at mu; exact mu
 have ntup : ∀ c xs, H c = some (.tup xs) -> c ≠ x := fun c xs r z => by subst z; rw [r] at mu; exact mu
 by_cases hb : b = x
 ·subst hb; rw [upd_same] at q; cases q; exact new
 ·rw [upd_ne hb] at q
  by_cases hbe : b = e
  ·have q' : H b = some (.own x) := by
    rcases he with z | z
    ·exact absurd (hbe.trans z) hb
    ·rw [hbe]; exact z
   rw [q] at q'; cases q'
   obtain ⟨v, hv⟩ := heo
   exact ⟨v, by rw [hbe]; exact hv⟩
  ·refine (ok b u q).stay (fun c v hc r => k c v ?_ r) (fun c r => by rw [upd_ne (nown c b r)]; exact r) fun c xs r => by rw [upd_ne (ntup c xs r)]; exact r
   rcases hc with rfl | hc
   ·exact hbe
   ·rintro rfl
    rcases he with z | z
    ·exact nown c b hc z
    ·rw [hc] at z; cases z; exact hb rfl
end
structure Un (fs ex : List Addr) (H H' : Hp) (h h' : Heap) : Prop where
 keep : ∀ b o, h.get? b = some o -> H b = none -> b ∉ fs -> b ∉ ex -> h'.get? b = some o
 slot : ∀ b o, h.get? b = some o -> H b = none -> b ∈ fs -> b ∉ ex -> ∃ sl, h'.get? b = some { o with slots := sl }
 free : ∀ b o, h.get? b = some o -> H b = none -> b ∉ ex -> H' b = none
 there : ∀ b o, h.get? b = some o -> b ∉ ex -> ∃ o', h'.get? b = some o'
 tups : ∀ b xs, H b = some (.tup xs) -> H' b = some (.tup xs)
 frzs : ∀ b o u, H b = some (.frz o u) -> H' b = some (.frz o u)
 tbls : ∀ b ps, H b = some (.tbl ps) -> ∃ more, H' b = some (.tbl (ps ++ more))
section
variable {fs fs' ex ex' : List Addr} {H H1 H2 : Hp} {h h1 h2 h' : Heap} {a x e : Addr} {o : HO}
theorem Un.any (u : Un fs ex H H1 h h1) {b : Addr} {ob : Obj} (q : h.get? b = some ob) (n : H b = none) (hx : b ∉ ex) : ∃ sl, h1.get? b = some { ob with slots := sl } := by
 by_cases hb : b ∈ fs
 ·exact u.slot b ob q n hb hx
 ·exact ⟨ob.slots, u.keep b ob q n hb hx⟩
theorem Un.kept (k : ∀ b u, h.get? b = some u -> h'.get? b = some u) : Un fs ex H H h h' :=
 ⟨fun b ob q _ _ _ => k b ob q, fun b ob q _ _ _ => ⟨ob.slots, k b ob q⟩, fun _ _ _ n _ => n, fun b ob q _ => ⟨ob, k b ob q⟩, fun _ _ q => q, fun _ _ _ q => q, fun _ ps q => ⟨#[], by rw [q]; simp⟩⟩
theorem Un.refl : Un fs ex H H h h := Un.kept fun _ _ q => q
theorem Un.laid (k : ∀ b u, h.get? b = some u -> h'.get? b = some u) (hp : h.objs.size ≤ a) (hn : H a = none) : Un fs ex H (upd H a o) h h' where
 keep := fun b u q _ _ _ => k b u q
 slot := fun b u q _ _ _ => ⟨u.slots, k b u q⟩
 free := fun b u q n _ => by rw [upd_ne (Nat.ne_of_lt (Nat.lt_of_lt_of_le (Heap.lt_size q) hp))]; exact n
 there := fun b u q _ => ⟨u, k b u q⟩
 tups := fun b xs q => by rw [upd_ne (ne_of_none q hn)]; exact q
 frzs := fun b u xs q => by rw [upd_ne (ne_of_none q hn)]; exact q
 tbls := fun b ps q => ⟨#[], by rw [upd_ne (ne_of_none q hn), q]; simp⟩
theorem Un.write (mu : Mut (H x)) (he : e = x ∨ H e = some (.own x)) (k : ∀ b u, b ≠ e -> h.get? b = some u -> h'.get? b = some u) (heo : ∃ u, h'.get? e = some u) : Un fs ex H (upd H x o) h h' := by
 have hx : ∀ b, H b = none -> b ≠ x := fun b n z => by subst z; rw [n] at mu; exact mu
 have hb : ∀ b, H b = none -> b ≠ e := fun b n z => by
  subst z
  rcases he with r | r
  ·exact hx b n r
  ·rw [n] at r; cases r
 have hm : ∀ b u, H b = some u -> ¬ Mut (some u) -> b ≠ x := fun b u q nm z => by subst z; rw [q] at mu; exact nm mu
 refine ⟨fun b u q n _ _ => k b u (hb b n) q, fun b u q n _ _ => ⟨u.slots, k b u (hb b n) q⟩, fun b u q n _ => by rw [upd_ne (hx b n)]; exact n, fun b u q _ => ?_,
  fun b xs q => by rw [upd_ne (hm b _ q fun z => z)]; exact q, fun b u xs q => by rw [upd_ne (hm b _ q fun z => z)]; exact q, fun b ps q => ⟨#[], by rw [upd_ne (hm b _ q fun z => z), q]; simp⟩⟩
 by_cases hbe : b = e
 ·subst hbe; exact heo
 ·exact ⟨u, k b u hbe q⟩
end
def trk (h : Heap) (H : Hp) : List Addr := (List.range h.objs.size).filter fun a => (H a).isSome
def hidT (h : Heap) (H : Hp) : Heap := PySem.W.hideAll h (trk h H)
theorem hidT_size (h : Heap) (H : Hp) : (hidT h H).objs.size = h.objs.size := PySem.W.hideAll_size _ _
theorem hidT_get {h : Heap} {H : Hp} {b : Addr} {o : Obj} (e : h.get? b = some o) (n : H b = none) : (hidT h H).get? b = some o :=
 PySem.W.hideAll_get _ e fun hm => by
  have q : (H b).isSome = true := (List.mem_filter.mp hm).2
  rw [n] at q; simp at q
theorem of_hidT {h : Heap} {H : Hp} {b : Addr} {o : Obj} (e : (hidT h H).get? b = some o) : h.get? b = some o /\ H b = none := by
 have e' : h.get? b = some o := PySem.W.of_hideAll (trk h H) e
 refine ⟨e', ?_⟩
 cases q : H b with
 | none => rfl
 | some x =>
  have hm : b ∈ trk h H := List.mem_filter.mpr ⟨List.mem_range.mpr (Heap.lt_size e'), by simp [q]⟩
  have z : (hidT h H).get? b = none := PySem.W.hideAll_none (trk h H) hm
  rw [z] at e; cases e
def allNews (g h : Heap) (L : Addr) : List (Addr × Obj) := (List.range h.objs.size).filterMap fun a => if a = L ∨ (g.get? a).isSome = true then none else (h.get? a).map fun o => (a, o)
def rest (g h : Heap) (L d : Addr) : List (Addr × Obj) := (allNews g h L).filter fun p => decide (p.1 ≠ d)
end L2
namespace L2
open PySem PySem.Spec PyProof.Rows
structure Mod (K : PySem.W.Frag) (mg : Str -> Option Value) (base : Heap) : Prop where
 kin : K.In base
 glob : base.Ns mainGlobals mg
 blt : ∃ mb, base.Ns builtinsNs mb /\ ∀ x : Str, x ≠ "__name__" -> mb x = bootBuiltins x
 nolimit : base.NoLimit
structure Cx where
 prog : Program
 w : World
 K : PySem.W.Frag
 mg : Str -> Option Value
 base : Heap
 A : Around
 N : List Str
 s₀ : Shared
 H₀ : Hp
 env : Env
 outer : List Env
 stack : List Env
 ex : List Addr
 fn : Str -> Bool
 calm : Bool
 pn : List (Addr × Obj)
 xe : Value -> Shared -> Prop
def frs (l : List Env) : List Addr := l.filterMap (·.frame)
abbrev Cx.fs (X : Cx) : List Addr := frs X.outer
def Vis (sc : Scope) (x : Str) : Prop := sc.names.lookup x = some .local ∨ sc.names.lookup x = some .cell ∨ sc.names.lookup x = some .free
def Loc (sc : Scope) (x : Str) : Prop := sc.names.lookup x = some .local ∨ sc.names.lookup x = some .cell
def Look (env : Env) (h : Heap) (m : Str -> Option Value) (x : Str) (u : Value) : Prop :=
 (env.kindOf x = some .local /\ m x = some u) ∨ ((env.kindOf x = some .cell ∨ env.kindOf x = some .free) /\ ∃ c, env.cells.lookup x = some c /\ h.IsCell c (some u))
structure Cx.Ok (X : Cx) : Prop where
 mod : Mod X.K X.mg X.base
 kind : X.env.scope.kind = .function
 glob : X.env.globals = mainGlobals
 blt : X.env.builtins = builtinsNs
 above : X.s₀.heap.objs.size ≤ X.env.locals
 inj : ∀ x y c, X.env.cells.lookup x = some c -> X.env.cells.lookup y = some c -> x = y
 has : ∀ x, (X.env.kindOf x = some .cell ∨ X.env.kindOf x = some .free) -> ∃ c, X.env.cells.lookup x = some c
 cab : ∀ x c, X.fn x = true -> X.env.cells.lookup x = some c -> X.s₀.heap.objs.size ≤ c
 hd : X.calm = true -> X.A.handled = none
 frames : X.A.frames = some X.stack
 stk : X.stack = X.outer ∨ (X.stack = X.env :: X.outer /\ X.env.frame = some X.env.locals)
 exf : ∀ b ∈ X.ex, b ≠ X.env.locals /\ ∀ x c, X.env.cells.lookup x = some c -> c ≠ b
 bs : ∀ b o, X.base.get? b = some o -> X.s₀.heap.get? b = some o /\ X.H₀ b = none
 bsz : X.base.objs.size ≤ X.s₀.heap.objs.size
 noex : ∀ b o, X.base.get? b = some o -> b ∉ X.ex
 exfs : ∀ b ∈ X.ex, b ∉ X.fs
 funs : X.s₀.heap.FunFrames X.base X.outer
 frf : ∀ b ∈ X.fs, X.H₀ b = none
structure Inv (X : Cx) (pins : List (Addr × Obj)) (σ : List (Option V)) (H : Hp) (s : Shared) : Prop where
 ok : X.Ok
 os : s.os = X.s₀.os
 bare : AllBare s.gens
 base : Un X.fs X.ex X.H₀ H X.s₀.heap s.heap
 loc : ∃ m, s.heap.Ns X.env.locals m /\ ∀ (i : Nat) (x : Str) (v : V), X.N[i]? = some x -> σ[i]? = some (some v) -> Vis X.env.scope x -> ∃ u, RelV v u /\ Look X.env s.heap m x u
 cell : ∀ x c, X.env.cells.lookup x = some c -> ∃ v, s.heap.IsCell c v
 free : H X.env.locals = none
 freeC : ∀ x c, X.env.cells.lookup x = some c -> H c = none
 pin : ∀ p ∈ X.pn ++ pins, s.heap.get? p.1 = some p.2 /\ H p.1 = none /\ p.1 ≠ X.env.locals /\ p.1 ∉ X.fs /\ ∀ v, p.2.data ≠ .cell v
 hok : HOk X.prog X.w H s.heap
 len : σ.length = X.N.length
section
variable {X : Cx} {pins : List (Addr × Obj)} {σ : List (Option V)} {H H' : Hp} {s : Shared} {h' : Heap}
theorem Cx.Ok.nofr (ok : X.Ok) {b : Addr} {o : Obj} (e : X.base.get? b = some o) : b ∉ X.fs := fun hb => by
 have := (ok.funs.mem hb).1
 rw [e] at this; cases this
theorem Inv.bs (I : Inv X pins σ H s) : ∀ b o, X.base.get? b = some o -> s.heap.get? b = some o /\ H b = none := fun b o e =>
 ⟨I.base.keep b o (I.ok.bs b o e).1 (I.ok.bs b o e).2 (I.ok.nofr e) (I.ok.noex b o e), I.base.free b o (I.ok.bs b o e).1 (I.ok.bs b o e).2 (I.ok.noex b o e)⟩
theorem Inv.bk (I : Inv X pins σ H s) : ∀ b o, X.base.get? b = some o -> s.heap.get? b = some o := fun b o e => (I.bs b o e).1
theorem Inv.mod (I : Inv X pins σ H s) : Mod X.K X.mg X.base := I.ok.mod
theorem Inv.kIn (I : Inv X pins σ H s) : X.K.In s.heap := I.ok.mod.kin.keeps I.bk
theorem Inv.lt (I : Inv X pins σ H s) : X.env.locals < s.heap.objs.size := let ⟨_, hn, _⟩ := I.loc; hn.lt
theorem Inv.sz (I : Inv X pins σ H s) : X.s₀.heap.objs.size ≤ s.heap.objs.size := Nat.le_trans I.ok.above (Nat.le_of_lt I.lt)
theorem Inv.nofs (I : Inv X pins σ H s) {a : Addr} (h : s.heap.objs.size ≤ a) : a ∉ X.fs := fun hb => by
 obtain ⟨_, o, ho, _⟩ := I.ok.funs.mem hb
 exact absurd (Nat.lt_of_lt_of_le (Heap.lt_size ho) (Nat.le_trans I.sz h)) (Nat.lt_irrefl _)
theorem Inv.cne (I : Inv X pins σ H s) : ∀ x c, X.env.cells.lookup x = some c -> c ≠ X.env.locals := fun x c e z => by
 obtain ⟨v, o, ho, hd⟩ := I.cell x c e
 obtain ⟨m, ⟨o', es, ep, ho', hd', _⟩, _⟩ := I.loc
 rw [z, ho'] at ho; cases ho; rw [hd'] at hd; cases hd
theorem Inv.funs (I : Inv X pins σ H s) : s.heap.FunFrames X.base X.outer := by
 have all : ∀ (l : List Env), (∀ b ∈ frs l, b ∈ X.fs) -> X.s₀.heap.FunFrames X.base l -> s.heap.FunFrames X.base l := by
  intro l
  induction l with
  | nil => intro _ _; trivial
  | cons env r ih =>
   intro hs hl
   obtain ⟨hk, ⟨L, o, hf, hn, ho, hd⟩, hr⟩ := hl
   have hL : L ∈ X.fs := hs L (by unfold frs; rw [List.filterMap_cons, hf]; exact List.mem_cons_self)
   obtain ⟨sl, e⟩ := I.base.slot L o ho (I.ok.frf L hL) hL fun z => I.ok.exfs L z hL
   exact ⟨hk, ⟨L, _, hf, hn, e, hd⟩, ih (fun b hb => hs b (by unfold frs; rw [List.filterMap_cons, hf]; exact List.mem_cons_of_mem _ hb)) hr⟩
 exact all X.outer (fun _ hb => hb) I.ok.funs
theorem Inv.stack (I : Inv X pins σ H s) : s.heap.FunFrames X.base X.stack := by
 rcases I.ok.stk with e | ⟨e, hf⟩
 ·rw [e]; exact I.funs
 ·rw [e]
  obtain ⟨m, hn, _⟩ := I.loc
  refine .cons (by rw [I.ok.kind]; decide) hf hn ?_ I.funs
  exact Heap.get?_none_of_le (Nat.le_trans I.ok.bsz I.ok.above)
theorem Inv.stkSub (I : Inv X pins σ H s) : ∀ b ∈ frs X.stack, b ∈ X.env.locals :: X.fs := fun b hb => by
 rcases I.ok.stk with e | ⟨e, hf⟩
 ·rw [e] at hb; exact List.mem_cons_of_mem _ hb
 ·rw [e] at hb
  unfold frs at hb
  rw [List.filterMap_cons, hf] at hb
  exact hb
theorem Inv.stkFree (I : Inv X pins σ H s) : ∀ b ∈ frs X.stack, H b = none := fun b hb => by
 rcases List.mem_cons.mp (I.stkSub b hb) with e | hb
 ·rw [e]; exact I.free
 ·obtain ⟨_, o, ho, _⟩ := I.ok.funs.mem hb
  exact I.base.free b o ho (I.ok.frf b hb) fun z => I.ok.exfs b z hb
theorem Inv.step {g' : Array GenState} {t' : Nat} {d' : Drawn} {ch : List Addr} (I : Inv X pins σ H s)
  (hch : ∀ b ∈ ch, (b ∈ X.ex ∨ X.s₀.heap.get? b = none) /\ b ≠ X.env.locals /\ (∀ x c, X.env.cells.lookup x = some c -> c ≠ b) /\ ∀ p ∈ X.pn ++ pins, p.1 ≠ b)
  (keep : ∀ b o, b ≠ X.env.locals -> b ∉ X.fs -> b ∉ ch -> s.heap.get? b = some o -> H b = none -> h'.get? b = some o)
  (slot : ∀ b o, b ≠ X.env.locals -> b ∈ X.fs -> b ∉ ch -> s.heap.get? b = some o -> H b = none -> ∃ sl, h'.get? b = some { o with slots := sl }) (free : ∀ b o, b ∉ ch -> s.heap.get? b = some o -> H b = none -> H' b = none)
  (there : ∀ b o, b ∉ ch -> s.heap.get? b = some o -> ∃ o', h'.get? b = some o')
  (tups : ∀ b xs, H b = some (.tup xs) -> H' b = some (.tup xs)) (frzs : ∀ b o u, H b = some (.frz o u) -> H' b = some (.frz o u)) (tbls : ∀ b ps, H b = some (.tbl ps) -> ∃ more, H' b = some (.tbl (ps ++ more)))
  (ns : ∀ m, s.heap.Ns X.env.locals m -> h'.Ns X.env.locals m) (hok : HOk X.prog X.w H' h') (hg : AllBare g') :
  Inv X pins σ H' { s with heap := h', gens := g', drawn := d', toks := t' } := by
 have neL : ∀ b o, X.s₀.heap.get? b = some o -> b ≠ X.env.locals := fun b o e => Nat.ne_of_lt (Nat.lt_of_lt_of_le (Heap.lt_size e) I.ok.above)
 have neC : ∀ b o, X.s₀.heap.get? b = some o -> b ∉ X.ex -> b ∉ ch := fun b o e hx hb => by
  rcases (hch b hb).1 with z | z
  ·exact hx z
  ·rw [e] at z; cases z
 have cellK : ∀ x c, X.env.cells.lookup x = some c -> ∀ v, s.heap.IsCell c v -> h'.IsCell c v := fun x c e v ⟨o, ho, hd⟩ => by
  have nch : c ∉ ch := fun z => (hch c z).2.2.1 x c e rfl
  by_cases hc : c ∈ X.fs
  ·obtain ⟨sl, q⟩ := slot c o (I.cne x c e) hc nch ho (I.freeC x c e)
   exact ⟨_, q, hd⟩
  ·exact ⟨o, keep c o (I.cne x c e) hc nch ho (I.freeC x c e), hd⟩
 refine ⟨I.ok, I.os, hg, ⟨fun b o e n hb hx => ?_, fun b o e n hb hx => ?_, fun b o e n hx => ?_, fun b o e hx => ?_, fun b xs e => tups b xs (I.base.tups b xs e), fun b o xs e => frzs b o xs (I.base.frzs b o xs e), fun b ps e => ?_⟩, ?_, fun x c e => ?_, ?_, fun x c e => ?_, fun p hp => ?_, hok, I.len⟩
 ·exact keep b o (neL b o e) hb (neC b o e hx) (I.base.keep b o e n hb hx) (I.base.free b o e n hx)
 ·obtain ⟨sl, e1⟩ := I.base.slot b o e n hb hx
  obtain ⟨sl', e2⟩ := slot b _ (neL b o e) hb (neC b o e hx) e1 (I.base.free b o e n hx)
  exact ⟨sl', e2⟩
 ·obtain ⟨o', e1⟩ := I.base.there b o e hx
  exact free b o' (neC b o e hx) e1 (I.base.free b o e n hx)
 ·obtain ⟨o', e1⟩ := I.base.there b o e hx
  exact there b o' (neC b o e hx) e1
 ·obtain ⟨m1, e1⟩ := I.base.tbls b ps e
  obtain ⟨m2, e2⟩ := tbls b _ e1
  exact ⟨m1 ++ m2, by rw [e2, Array.append_assoc]⟩
 ·obtain ⟨m, hn, hl⟩ := I.loc
  refine ⟨m, ns m hn, fun i x v e1 e2 e3 => ?_⟩
  obtain ⟨u, r, l⟩ := hl i x v e1 e2 e3
  refine ⟨u, r, ?_⟩
  rcases l with l | ⟨k, c, e, z⟩
  ·exact .inl l
  ·exact .inr ⟨k, c, e, cellK x c e _ z⟩
 ·obtain ⟨v, z⟩ := I.cell x c e
  exact ⟨v, cellK x c e v z⟩
 ·obtain ⟨m, ⟨o, _, _, ho, _⟩, _⟩ := I.loc
  exact free _ o (fun z => (hch _ z).2.1 rfl) ho I.free
 ·obtain ⟨v, o, ho, hd⟩ := I.cell x c e
  exact free c o (fun z => (hch c z).2.2.1 x c e rfl) ho (I.freeC x c e)
 ·obtain ⟨e, n, ne, nf, d⟩ := I.pin p hp
  have nch : p.1 ∉ ch := fun z => (hch p.1 z).2.2.2 p hp rfl
  exact ⟨keep p.1 p.2 ne nf nch e n, free p.1 p.2 nch e n, ne, nf, d⟩
theorem Inv.un {t' : Nat} (I : Inv X pins σ H s) (u : Un X.fs [] H H' s.heap h') (hok : HOk X.prog X.w H' h') : Inv X pins σ H' { s with heap := h', toks := t' } := by
 obtain ⟨m, ⟨o, es, ep, ho, r⟩, _⟩ := id I.loc
 obtain ⟨sl, hL⟩ := u.any ho I.free (by simp)
 exact I.step (g' := s.gens) (d' := s.drawn) (ch := []) (fun _ z => nomatch z) (fun b o _ hb _ e n => u.keep b o e n hb (by simp)) (fun b o _ hb _ e n => u.slot b o e n hb (by simp)) (fun b o _ e n => u.free b o e n (by simp)) (fun b o _ e => u.there b o e (by simp)) u.tups u.frzs u.tbls (fun m' hm => by
  obtain ⟨o', es', ep', ho', r'⟩ := hm
  rw [ho] at ho'; cases ho'
  exact ⟨_, es', ep', hL, r'⟩) hok I.bare
theorem Inv.call {g' : Array GenState} {t' : Nat} {d' : Drawn} {ch : List Addr} (I : Inv X pins σ H s) (u : Un (frs X.stack) ch H H' s.heap h') (hok : HOk X.prog X.w H' h') (hg : AllBare g')
  (hch : ∀ b ∈ ch, (b ∈ X.ex ∨ X.s₀.heap.get? b = none) /\ b ≠ X.env.locals /\ (∀ x c, X.env.cells.lookup x = some c -> c ≠ b) /\ ∀ p ∈ X.pn ++ pins, p.1 ≠ b) :
  Inv X pins σ H' { s with heap := h', gens := g', drawn := d', toks := t' } := by
 obtain ⟨m, ⟨o, es, ep, ho, r⟩, _⟩ := id I.loc
 obtain ⟨sl, hL⟩ := u.any ho I.free fun z => (hch _ z).2.1 rfl
 exact I.step (ch := ch) hch (fun b o hL hb hc e n => u.keep b o e n (fun z => (List.mem_cons.mp (I.stkSub b z)).elim hL hb) hc) (fun b o _ _ hc e n => u.any e n hc) (fun b o hc e n => u.free b o e n hc) (fun b o hc e => u.there b o e hc) u.tups u.frzs u.tbls (fun m' hm => by
  obtain ⟨o', es', ep', ho', r'⟩ := hm
  rw [ho] at ho'; cases ho'
  exact ⟨_, es', ep', hL, r'⟩) hok hg
theorem Inv.turned {t' : Nat} {it : Addr} (I : Inv X pins σ H s) (k : ∀ b o, b ≠ it -> s.heap.get? b = some o -> h'.get? b = some o) (hn : H it = none) (hL : it ≠ X.env.locals)
  (h1 : it ∈ X.ex ∨ X.s₀.heap.get? it = none) (h2 : ∀ x c, X.env.cells.lookup x = some c -> c ≠ it) (h3 : ∀ p ∈ X.pn ++ pins, p.1 ≠ it) : Inv X pins σ H { s with heap := h', toks := t' } := by
 have nit : ∀ b u, H b = some u -> b ≠ it := fun b u e z => by rw [z, hn] at e; cases e
 refine I.step (g' := s.gens) (d' := s.drawn) (ch := [it]) (fun b hb => ?_) (fun b o _ _ hc e _ => k b o (fun z => hc (by simp [z])) e) (fun b o _ _ hc e _ => ⟨o.slots, k b o (fun z => hc (by simp [z])) e⟩) (fun _ _ _ _ n => n)
  (fun b o hc e => ⟨o, k b o (fun z => hc (by simp [z])) e⟩) (fun _ _ e => e) (fun _ _ _ e => e) (fun b ps e => ⟨#[], by rw [e]; simp⟩) (fun m hm => ?_) (fun b u e => ?_) I.bare
 ·have e : b = it := by simpa using hb
  subst e
  exact ⟨h1, hL, h2, h3⟩
 ·obtain ⟨o, es, ep, ho, r⟩ := hm
  exact ⟨o, es, ep, k _ o (Ne.symm hL) ho, r⟩
 ·refine (I.hok b u e).stay (fun c v hc q => k c v ?_ q) (fun _ q => q) fun _ _ q => q
  rcases hc with z | z
  ·rw [z]; exact nit b u e
  ·exact nit c _ z
theorem Inv.tok (I : Inv X pins σ H s) (t : Nat) : Inv X pins σ H { s with toks := t } := I.un (h' := s.heap) (t' := t) Un.refl I.hok
theorem Inv.kept {t' : Nat} (I : Inv X pins σ H s) (k : ∀ b u, s.heap.get? b = some u -> h'.get? b = some u) : Inv X pins σ H { s with heap := h', toks := t' } := I.un (Un.kept k) (I.hok.kept k)
theorem Inv.laid {a : Addr} {o : HO} {t' : Nat} (I : Inv X pins σ H s) (k : ∀ b u, s.heap.get? b = some u -> h'.get? b = some u) (hp : s.heap.objs.size ≤ a) (new : ObjOk X.prog X.w (upd H a o) h' a o) :
  Inv X pins σ (upd H a o) { s with heap := h', toks := t' } := I.un (Un.laid k hp (I.hok.fresh hp)) (I.hok.laid k hp new)
theorem Inv.write {x e : Addr} {o : HO} {t' : Nat} (I : Inv X pins σ H s) (mu : Mut (H x)) (he : e = x ∨ H e = some (.own x)) (k : ∀ b u, b ≠ e -> s.heap.get? b = some u -> h'.get? b = some u) (heo : ∃ u, h'.get? e = some u)
  (new : ObjOk X.prog X.w (upd H x o) h' x o) : Inv X pins σ (upd H x o) { s with heap := h', toks := t' } := I.un (Un.write mu he k heo) (I.hok.write mu he k heo new)
theorem Inv.weak {σ' : List (Option V)} (I : Inv X pins σ H s) (hl : σ'.length = σ.length) (w : ∀ (i : Nat) v, σ'[i]? = some (some v) -> σ[i]? = some (some v)) : Inv X pins σ' H s :=
 ⟨I.ok, I.os, I.bare, I.base, let ⟨m, hn, hl'⟩ := I.loc; ⟨m, hn, fun i x v e1 e2 e3 => hl' i x v e1 (w i v e2) e3⟩, I.cell, I.free, I.freeC, I.pin, I.hok, hl.trans I.len⟩
theorem Inv.pins_of {pins' : List (Addr × Obj)} (I : Inv X pins σ H s) (h : ∀ p ∈ pins', s.heap.get? p.1 = some p.2 /\ H p.1 = none /\ p.1 ≠ X.env.locals /\ p.1 ∉ X.fs /\ ∀ v, p.2.data ≠ .cell v) : Inv X pins' σ H s :=
 ⟨I.ok, I.os, I.bare, I.base, I.loc, I.cell, I.free, I.freeC, fun p hp => (List.mem_append.mp hp).elim (fun z => I.pin p (List.mem_append_left _ z)) (h p), I.hok, I.len⟩
theorem nodup_ix {N : List Str} (hN : N.Nodup) {i j : Nat} {x : Str} (a : N[i]? = some x) (b : N[j]? = some x) : i = j := by
 obtain ⟨h1, e1⟩ := List.getElem?_eq_some_iff.mp a
 obtain ⟨h2, e2⟩ := List.getElem?_eq_some_iff.mp b
 exact (List.getElem_inj hN).mp (e1.trans e2.symm)
theorem store_ok2 {M : Model} {A : Around} {E : Value -> Shared -> Prop} {i : Nat} {x : Str} {v : V} {u : Value} {Q : Unit -> Shared -> Prop} (I : Inv X pins σ H s) (hN : X.N.Nodup) (hi : X.N[i]? = some x) (hx : Loc X.env.scope x) (r : RelV v u)
  (h : ∀ s', Inv X pins (σ.set i (some v)) H s' -> (∃ a, Heap.SameBut a s.heap s'.heap /\ (a = X.env.locals ∨ X.env.cells.lookup x = some a)) -> Q () s') (hf : X.fn x = true ∨ X.env.scope.names.lookup x = some .local := by first | exact .inl rfl | exact .inr rfl | assumption) : wpAny M A (storeName X.env x u) Q E s := by
 obtain ⟨m, hn, hl⟩ := id I.loc
 have hcls : (X.env.scope.kind == .class || (X.env.scope.kind == .module && X.env.locals != X.env.globals)) = false := by rw [I.ok.kind]; rfl
 have hiσ : i < σ.length := by rw [I.len]; exact (List.getElem?_eq_some_iff.mp hi).1
 have cne := I.cne
 have tracked : ∀ {a : Addr} {h' : Heap}, (∃ o, s.heap.get? a = some o /\ H a = none) -> Heap.SameBut a s.heap h' -> HOk X.prog X.w H h' := fun {a h'} ha hs b ob e => by
  obtain ⟨_, _, hfree⟩ := ha
  refine (I.hok b ob e).stay (fun c w' hc q => (hs.2 c ?_).trans q) (fun _ q => q) fun _ _ q => q
  rintro rfl
  rcases hc with rfl | hc
  ·rw [hfree] at e; cases e
  ·rw [hfree] at hc; cases hc
 rcases hx with hk | hk
 ·refine wpAny_storeName_local hk hn (fun h' hn' hs => ?_) hcls
  obtain ⟨oL, _, _, hoL, _⟩ := id hn
  refine h _ ⟨I.ok, I.os, I.bare, ⟨fun b o e n hb hx => ?_, fun b o e n hb hx => ?_, I.base.free, fun b o e hx => ?_, I.base.tups, I.base.frzs, I.base.tbls⟩, ⟨_, hn', fun j y v' e1 e2 e3 => ?_⟩, fun y c e => ?_, I.free, I.freeC, fun p hp => ?_, tracked ⟨oL, hoL, I.free⟩ hs, by simpa using I.len⟩ ⟨_, hs, .inl rfl⟩
  ·exact (hs.2 b (Nat.ne_of_lt (Nat.lt_of_lt_of_le (Heap.lt_size e) I.ok.above))).trans (I.base.keep b o e n hb hx)
  ·obtain ⟨sl, e1⟩ := I.base.slot b o e n hb hx
   exact ⟨sl, (hs.2 b (Nat.ne_of_lt (Nat.lt_of_lt_of_le (Heap.lt_size e) I.ok.above))).trans e1⟩
  ·obtain ⟨o', e1⟩ := I.base.there b o e hx
   exact ⟨o', (hs.2 b (Nat.ne_of_lt (Nat.lt_of_lt_of_le (Heap.lt_size e) I.ok.above))).trans e1⟩
  ·by_cases hj : j = i
   ·subst hj
    rw [hi] at e1; cases e1
    rw [List.getElem?_set_self hiσ] at e2
    cases e2
    exact ⟨u, r, .inl ⟨hk, by simp⟩⟩
   ·rw [List.getElem?_set_ne (Ne.symm hj)] at e2
    obtain ⟨u', r', q⟩ := hl j y v' e1 e2 e3
    refine ⟨u', r', ?_⟩
    rcases q with ⟨k, e⟩ | ⟨k, c, e, z⟩
    ·refine .inl ⟨k, ?_⟩
     have : y ≠ x := fun e => hj (nodup_ix hN e1 (e ▸ hi))
     simp [this, e]
    ·exact .inr ⟨k, c, e, z.sameBut hs (cne y c e)⟩
  ·obtain ⟨w', z⟩ := I.cell y c e
   exact ⟨w', z.sameBut hs (cne y c e)⟩
  ·obtain ⟨e, n, ne, nf, d⟩ := I.pin p hp
   exact ⟨(hs.2 p.1 ne).trans e, n, ne, nf, d⟩
 ·have hfn : X.fn x = true := by
   rcases hf with z | z
   ·exact z
   ·rw [z] at hk; cases hk
  obtain ⟨c, hc⟩ := I.ok.has x (.inl hk)
  obtain ⟨w', z⟩ := I.cell x c hc
  refine wpAny_storeName_cell I.ok.kind hk hc z (fun h' hc' hs => ?_)
  obtain ⟨oc, hoc, hocd⟩ := id z
  refine h { s with heap := h' } ⟨I.ok, I.os, I.bare, ⟨fun b o e n hb hx => ?_, fun b o e n hb hx => ?_, I.base.free, fun b o e hx => ?_, I.base.tups, I.base.frzs, I.base.tbls⟩, ⟨m, hn.sameBut hs (Ne.symm (cne x c hc)), fun j y v' e1 e2 e3 => ?_⟩, fun y c' e => ?_, I.free, I.freeC, fun p hp => ?_, tracked ⟨oc, hoc, I.freeC x c hc⟩ hs, by simpa using I.len⟩ ⟨c, hs, .inr hc⟩
  ·exact (hs.2 b (Nat.ne_of_lt (Nat.lt_of_lt_of_le (Heap.lt_size e) (I.ok.cab x c hfn hc)))).trans (I.base.keep b o e n hb hx)
  ·obtain ⟨sl, e1⟩ := I.base.slot b o e n hb hx
   exact ⟨sl, (hs.2 b (Nat.ne_of_lt (Nat.lt_of_lt_of_le (Heap.lt_size e) (I.ok.cab x c hfn hc)))).trans e1⟩
  ·obtain ⟨o', e1⟩ := I.base.there b o e hx
   exact ⟨o', (hs.2 b (Nat.ne_of_lt (Nat.lt_of_lt_of_le (Heap.lt_size e) (I.ok.cab x c hfn hc)))).trans e1⟩
  ·by_cases hj : j = i
   ·subst hj
    rw [hi] at e1; cases e1
    rw [List.getElem?_set_self hiσ] at e2
    cases e2
    exact ⟨u, r, .inr ⟨.inl hk, c, hc, hc'⟩⟩
   ·rw [List.getElem?_set_ne (Ne.symm hj)] at e2
    obtain ⟨u', r', q⟩ := hl j y v' e1 e2 e3
    refine ⟨u', r', ?_⟩
    rcases q with q | ⟨k, c', e, z'⟩
    ·exact .inl q
    ·refine .inr ⟨k, c', e, z'.sameBut hs ?_⟩
     rintro rfl
     exact hj (nodup_ix hN e1 (I.ok.inj _ _ _ e hc ▸ hi))
  ·by_cases hcc : c' = c
   ·subst hcc; exact ⟨_, hc'⟩
   ·obtain ⟨w2, z2⟩ := I.cell y c' e
    exact ⟨w2, z2.sameBut hs hcc⟩
  ·obtain ⟨e, n, ne, nf, d⟩ := I.pin p hp
   refine ⟨(hs.2 p.1 ?_).trans e, n, ne, nf, d⟩
   intro q
   rw [q, hoc] at e
   have q' : oc = p.2 := Option.some.inj e
   exact d w' (by rw [← q']; exact hocd)
theorem store_ok {M : Model} {A : Around} {E : Value -> Shared -> Prop} {i : Nat} {x : Str} {v : V} {u : Value} {Q : Unit -> Shared -> Prop} (I : Inv X pins σ H s) (hN : X.N.Nodup) (hi : X.N[i]? = some x) (hx : Loc X.env.scope x) (r : RelV v u)
  (h : ∀ s', Inv X pins (σ.set i (some v)) H s' -> Q () s') (hf : X.fn x = true ∨ X.env.scope.names.lookup x = some .local := by first | exact .inl rfl | exact .inr rfl | assumption) : wpAny M A (storeName X.env x u) Q E s :=
 store_ok2 I hN hi hx r (fun s' I' _ => h s' I') hf
theorem Inv.call' {s' : Shared} {ch : List Addr} (I : Inv X pins σ H s) (ho : s'.os = s.os) (u : Un (frs X.stack) ch H H' s.heap s'.heap) (hok : HOk X.prog X.w H' s'.heap) (hg : AllBare s'.gens)
  (hch : ∀ b ∈ ch, (b ∈ X.ex ∨ X.s₀.heap.get? b = none) /\ b ≠ X.env.locals /\ (∀ x c, X.env.cells.lookup x = some c -> c ≠ b) /\ ∀ p ∈ X.pn ++ pins, p.1 ≠ b) : Inv X pins σ H' s' := by
 obtain ⟨h', g', d', t', o'⟩ := s'
 have e : o' = s.os := ho
 subst e
 exact I.call (g' := g') (t' := t') (d' := d') u hok hg hch
end
abbrev XK := Value -> Option Addr -> Hp -> Prop
abbrev St := List (Option V)
abbrev VK := V -> Hp -> Prop
abbrev TE := St -> Hp -> VK -> Prop
abbrev TT := St -> Hp -> (Bool -> Hp -> Prop) -> Prop
abbrev TA := St -> Hp -> (List V -> Hp -> Prop) -> Prop
structure Ends where
 nx : St -> Hp -> Prop
 rt : VK
 bk : St -> Hp -> Prop := fun _ _ => False
 ct : St -> Hp -> Prop := fun _ _ => False
abbrev TS := Ends -> St -> Hp -> Prop
def EP (X : Cx) (pins : List (Addr × Obj)) (σ : St) (Q : VK) (u : Value) (s' : Shared) : Prop := ∃ v H', Inv X pins σ H' s' /\ RelV v u /\ Q v H'
def TP (X : Cx) (pins : List (Addr × Obj)) (σ : St) (Q : Bool -> Hp -> Prop) (b : Bool) (s' : Shared) : Prop := ∃ H', Inv X pins σ H' s' /\ Q b H'
def AP (X : Cx) (pins : List (Addr × Obj)) (σ : St) (Q : List V -> Hp -> Prop) (us : List Value) (s' : Shared) : Prop := ∃ vs H', Inv X pins σ H' s' /\ Vals vs us /\ Q vs H'
def SP (X : Cx) (pins : List (Addr × Obj)) (D : Ends) (f : Flow) (s' : Shared) : Prop :=
 match f with
 | .next => ∃ σ' H', Inv X pins σ' H' s' /\ D.nx σ' H'
 | .brk => ∃ σ' H', Inv X pins σ' H' s' /\ D.bk σ' H'
 | .cont => ∃ σ' H', Inv X pins σ' H' s' /\ D.ct σ' H'
 | .ret u => ∃ v σ' H', Inv X pins σ' H' s' /\ RelV v u /\ D.rt v H'
def PE (X : Cx) (e : Expr) (t : TE) : Prop :=
 ∀ (pins : List (Addr × Obj)) (s : Shared) (σ : St) (H : Hp) (Q : VK), Inv X pins σ H s -> t σ H Q -> wpAny (model X.prog X.w) X.A (eval e X.env) (EP X pins σ Q) X.xe s
def PT (X : Cx) (e : Expr) (t : TT) : Prop :=
 ∀ (pins : List (Addr × Obj)) (s : Shared) (σ : St) (H : Hp) (Q : Bool -> Hp -> Prop), Inv X pins σ H s -> t σ H Q -> wpAny (model X.prog X.w) X.A (isTrue e X.env (eval e X.env)) (TP X pins σ Q) X.xe s
def PW (X : Cx) (e : Expr) (t : TT) : Prop :=
 ∀ (whole : Sem Value) (pins : List (Addr × Obj)) (s : Shared) (σ : St) (H : Hp) (Q : Bool -> Hp -> Prop), Inv X pins σ H s -> t σ H Q -> wpAny (model X.prog X.w) X.A (isTrue e X.env whole) (TP X pins σ Q) X.xe s
theorem PW.pt {X : Cx} {e : Expr} {t : TT} (h : PW X e t) : PT X e t := h _
def PA (X : Cx) (es : List Expr) (t : TA) : Prop :=
 ∀ (pos : Pos) (pins : List (Addr × Obj)) (s : Shared) (σ : St) (H : Hp) (Q : List V -> Hp -> Prop), Inv X pins σ H s -> t σ H Q -> wpAny (model X.prog X.w) X.A (spliced (backTo pos (starEach es X.env))) (AP X pins σ Q) X.xe s
def PS (X : Cx) (st : Stmt) (t : TS) : Prop :=
 ∀ (pins : List (Addr × Obj)) (s : Shared) (σ : St) (H : Hp) (D : Ends), Inv X pins σ H s -> t D σ H -> wpAny (model X.prog X.w) X.A (exec st X.env) (SP X pins D) X.xe s
def PSs (X : Cx) (st : List Stmt) (t : TS) : Prop :=
 ∀ (pins : List (Addr × Obj)) (s : Shared) (σ : St) (H : Hp) (D : Ends), Inv X pins σ H s -> t D σ H -> wpAny (model X.prog X.w) X.A (execs st X.env) (SP X pins D) X.xe s
theorem thn {α : Type} {t : Sem α} {Q Q' : α -> Shared -> Prop} {M : Model} {A : Around} {E : Value -> Shared -> Prop} {s : Shared} (h : wpAny M A t Q E s) (hQ : ∀ a s, Q a s -> Q' a s) : wpAny M A t Q' E s := wpAny_mono h hQ fun _ _ x => x
end L2
namespace L2
open PySem PySem.Spec PyProof.Rows
section
variable {X : Cx}
def tVar (i : Nat) : TE := fun σ H Q => ∃ v, σ[i]? = some (some v) /\ Q v H
def tC (v : V) : TE := fun _ H Q => Q v H
theorem pe_var {i : Nat} {x : Str} {pos : Pos} (hN : X.N[i]? = some x) (hv : Vis X.env.scope x) (hd : (x == ("__debug__" : Str)) = false := by decide) (hcd : (x == ("__classdict__" : Str)) = false := by decide) : PE X (.Name x pos) (tVar i) := by
 intro pins s σ H Q I h
 obtain ⟨v, e, h⟩ := h
 obtain ⟨m, hn, hl⟩ := I.loc
 obtain ⟨u, r, l⟩ := hl i x v hN e hv
 have fin : EP X pins σ Q u s := ⟨v, H, I, r, h⟩
 rcases l with ⟨hk, hm⟩ | ⟨hk, c, hc, hcell⟩
 ·exact wpAny_Name (wpAny_loadName_local I.ok.kind hk hn hm fin) hd
 ·rcases hk with hk | hk
  ·exact wpAny_Name (wpAny_loadName_cell I.ok.kind hk hc hcell fin) hd
  ·exact wpAny_Name (wpAny_loadName_free I.ok.kind hk hc hcell fin hcd) hd
theorem pe_int {i j pos} : PE X (.Constant (.int i) j pos) (tC (.int i)) := fun _ _ _ H _ I h => wpAny_Constant_int ⟨.int i, H, I.tok _, ⟨_, rfl⟩, h⟩
theorem pe_bl {b j pos} : PE X (.Constant (.bool b) j pos) (tC (.bl b)) := fun _ _ _ H _ I h => Constant_bool ⟨.bl b, H, I, rfl, h⟩
theorem pe_non {j pos} : PE X (.Constant .none j pos) (tC .non) := fun _ _ _ H _ I h => Constant_none ⟨.non, H, I, rfl, h⟩
theorem pe_str {x j pos} : PE X (.Constant (.str x) j pos) (tC (.str x)) := fun _ _ _ H _ I h => Calls.Constant_str ⟨.str x, H, I.tok _, ⟨_, rfl⟩, h⟩
def Gl (X : Cx) (x : Str) : Prop := X.env.kindOf x = some .globalImplicit
theorem ld_glob {E : Value -> Shared -> Prop} {pins : List (Addr × Obj)} {s : Shared} {σ : St} {H : Hp} {x : Str} {u : Value} {pos : Pos} {Q : Value -> Shared -> Prop} (I : Inv X pins σ H s) (hg : Gl X x) (hm : X.mg x = some u) (h : Q u s)
  (hd : (x == ("__debug__" : Str)) = false := by decide) : wpAny (model X.prog X.w) X.A (eval (.Name x pos) X.env) Q E s :=
 Calls.Name_function_global I.ok.kind hg (Calls.loadGlobal_global (by rw [I.ok.glob]; exact I.mod.glob.keeps I.bk) hm h) hd
theorem ld_blt {E : Value -> Shared -> Prop} {pins : List (Addr × Obj)} {s : Shared} {σ : St} {H : Hp} {x : Str} {u : Value} {pos : Pos} {Q : Value -> Shared -> Prop} (I : Inv X pins σ H s) (hg : Gl X x) (hm : X.mg x = none) (hv : bootBuiltins x = some u) (h : Q u s)
  (hn : x ≠ "__name__" := by decide) (hd : (x == ("__debug__" : Str)) = false := by decide) : wpAny (model X.prog X.w) X.A (eval (.Name x pos) X.env) Q E s := by
 obtain ⟨mb, h1, h2⟩ := I.mod.blt
 exact Calls.Name_function_global I.ok.kind hg (Calls.loadGlobal_builtin (by rw [I.ok.glob]; exact I.mod.glob.keeps I.bk) hm (by rw [I.ok.blt]; exact h1.keeps I.bk) ((h2 x hn).trans hv) h) hd
theorem pe_glob {x : Str} {v : V} {u : Value} {pos : Pos} (hg : Gl X x) (hm : X.mg x = some u) (r : RelV v u) (hd : (x == ("__debug__" : Str)) = false := by decide) : PE X (.Name x pos) (tC v) :=
 fun _ _ _ H _ I h => ld_glob I hg hm ⟨v, H, I, r, h⟩ hd
theorem pe_bltn {x : Str} {v : V} {u : Value} {pos : Pos} (hg : Gl X x) (hm : X.mg x = none) (hv : bootBuiltins x = some u) (r : RelV v u) (hn : x ≠ "__name__" := by decide) (hd : (x == ("__debug__" : Str)) = false := by decide) : PE X (.Name x pos) (tC v) :=
 fun _ _ _ H _ I h => ld_blt I hg hm hv ⟨v, H, I, r, h⟩ hn hd
def t2I (ta tb : TE) (k : Int -> Int -> Hp -> Prop) : St -> Hp -> Prop := fun σ H => ta σ H fun x H1 => tb σ H1 fun y H2 => ∃ i j, x = .int i /\ y = .int j /\ k i j H2
def tAdd (ta tb : TE) : TE := fun σ H Q => t2I ta tb (fun i j H2 => Q (.int (i + j)) H2) σ H
def tSub (ta tb : TE) : TE := fun σ H Q => t2I ta tb (fun i j H2 => Q (.int (i - j)) H2) σ H
def tMul (ta tb : TE) : TE := fun σ H Q => t2I ta tb (fun i j H2 => (-(2 ^ 64) < i /\ i < 2 ^ 64) /\ Q (.int (i * j)) H2) σ H
variable {a b : Expr} {ta tb : TE} {pos : Pos}
def PC (X : Cx) (op : CmpOp) (a b : Expr) (t : TE) : Prop :=
 ∀ (pins : List (Addr × Obj)) (s : Shared) (σ : St) (H : Hp) (Q : VK), Inv X pins σ H s -> t σ H Q →
  wpAny (model X.prog X.w) X.A (eval a X.env) (fun v s₁ => wpAny (model X.prog X.w) X.A (eval b X.env) (fun u s₂ => wpAny (model X.prog X.w) X.A (compareOp op v u) (EP X pins σ Q) X.xe s₂) X.xe s₁) X.xe s
def tCmp (p : Int -> Int -> Bool) (ta tb : TE) : TE := fun σ H Q => t2I ta tb (fun i j H2 => Q (.bl (p i j)) H2) σ H
abbrev tLt : TE -> TE -> TE := tCmp fun i j => decide (i < j)
abbrev tLe : TE -> TE -> TE := tCmp fun i j => decide (i ≤ j)
abbrev tGt : TE -> TE -> TE := tCmp fun i j => decide (j < i)
abbrev tGe : TE -> TE -> TE := tCmp fun i j => decide (j ≤ i)
abbrev tEqI : TE -> TE -> TE := tCmp fun i j => decide (i = j)
abbrev tNeI : TE -> TE -> TE := tCmp fun i j => !decide (i = j)
def tIsN (ta : TE) : TE := fun σ H Q => ta σ H fun x H1 => Q (.bl (decide (x = .non))) H1
def tNotN (ta : TE) : TE := fun σ H Q => ta σ H fun x H1 => Q (.bl (!decide (x = .non))) H1
def tB (t : TE) : TT := fun σ H Q => t σ H fun x H1 => ∃ c, x = .bl c /\ Q c H1
theorem pt_val {e : Expr} {t : TE} (h : PE X e t) (he : ∀ whole, isTrue e X.env whole = (do let v ← whole; standAt e.pos; holding [v] (truthy v)) := by intro _; rfl) : PT X e (tB t) := by
 intro pins s σ H Q I hw
 refine isTrue_plain (thn (h pins s σ H _ I hw) fun v s1 ⟨x, H1, I1, r1, q1⟩ => ?_) (he _)
 obtain ⟨d, rfl, q⟩ := q1
 cases r1
 exact wpAny_truthy_bool ⟨H1, I1, q⟩
variable {tA tB' : TT} {rest : List Expr}
def tAnd (t u : TT) : TT := fun σ H Q => t σ H fun c H1 => if c = true then u σ H1 Q else Q false H1
def tOr (t u : TT) : TT := fun σ H Q => t σ H fun c H1 => if c = true then Q true H1 else u σ H1 Q
def tNot (t : TT) : TT := fun σ H Q => t σ H fun c H1 => Q (!c) H1
theorem pw_and1 (ha : PT X a tA) : PW X (.BoolOp .And [a] pos) tA := by
 intro wh pins s σ H Q I h
 refine isTrue_and (thn (ha pins s σ H Q I h) fun c s1 e => ?_)
 cases c with
 | true => exact isTrue_and_nil e
 | false => exact e
theorem pw_or1 (ha : PT X a tA) : PW X (.BoolOp .Or [a] pos) tA := by
 intro wh pins s σ H Q I h
 refine isTrue_or (thn (ha pins s σ H Q I h) fun c s1 e => ?_)
 cases c with
 | false => exact isTrue_or_nil e
 | true => exact e
theorem pw_and (ha : PT X a tA) (hb : PW X (.BoolOp .And (b :: rest) pos) tB') : PW X (.BoolOp .And (a :: b :: rest) pos) (tAnd tA tB') := by
 intro wh pins s σ H Q I h
 refine isTrue_and (thn (ha pins s σ H _ I h) fun c s1 ⟨H1, I1, q1⟩ => ?_)
 cases c with
 | true => exact hb wh pins s1 σ H1 Q I1 q1
 | false => exact ⟨H1, I1, q1⟩
theorem pw_or (ha : PT X a tA) (hb : PW X (.BoolOp .Or (b :: rest) pos) tB') : PW X (.BoolOp .Or (a :: b :: rest) pos) (tOr tA tB') := by
 intro wh pins s σ H Q I h
 refine isTrue_or (thn (ha pins s σ H _ I h) fun c s1 ⟨H1, I1, q1⟩ => ?_)
 cases c with
 | true => exact ⟨H1, I1, q1⟩
 | false => exact hb wh pins s1 σ H1 Q I1 q1
theorem pt_not (ha : PT X a tA) : PT X (.UnaryOp .Not a pos) (tNot tA) := by
 intro pins s σ H Q I h
 exact isTrue_not (ha pins s σ H (fun c H1 => Q (!c) H1) I h)
def tAndV (ta tb : TE) : TE := fun σ H Q => ta σ H fun x H1 => ∃ c, x = .bl c /\ if c = true then tb σ H1 Q else Q (.bl false) H1
def tOrV (ta tb : TE) : TE := fun σ H Q => ta σ H fun x H1 => ∃ c, x = .bl c /\ if c = true then Q (.bl true) H1 else tb σ H1 Q
def tNotV (ta : TE) : TE := fun σ H Q => ta σ H fun x H1 => ∃ c, x = .bl c /\ Q (.bl (!c)) H1
theorem pe_one {op} {t : TE} (h : PE X a t) : PE X (.BoolOp op [a] pos) t := fun pins s σ H Q I hw => BoolOp_one (h pins s σ H Q I hw)
theorem pe_and (ha : PE X a ta) (hb : PE X (.BoolOp .And (b :: rest) pos) tb) : PE X (.BoolOp .And (a :: b :: rest) pos) (tAndV ta tb) := by
 intro pins s σ H Q I h
 refine BoolOp_and (thn (ha pins s σ H _ I h) fun v s1 ⟨x, H1, I1, r1, q1⟩ => ?_)
 obtain ⟨c, rfl, q1⟩ := q1
 cases r1
 refine wpAny_truthy_bool ?_
 cases c with
 | true => exact hb pins s1 σ H1 Q I1 q1
 | false => exact ⟨.bl false, H1, I1, rfl, q1⟩
def tIf (t : TT) (ta tb : TE) : TE := fun σ H Q => t σ H fun c H1 => if c = true then ta σ H1 Q else tb σ H1 Q
end
end L2
namespace L2
open PySem PySem.Spec PyProof.Rows
def SqL (K : PySem.W.Frag) (H : Hp) (a : Addr) (xs : List V) : Prop :=
 Rd H a (.lst xs) ∨
  ∃ (o : Obj) (its : Array Value) (n : Nat), K.lookup a = some o /\ o.cls = .type "list" /\ o.dict = none /\ o.data = .seq its n /\ its.size ≤ sizeLine /\ Vals xs its.toList
def SqT (K : PySem.W.Frag) (H : Hp) (a : Addr) (xs : List V) : Prop :=
 Rd H a (.tup xs) ∨
  ∃ (o : Obj) (its : Array Value) (n : Nat), K.lookup a = some o /\ o.cls = .type "tuple" /\ o.data = .seq its n /\ its.size ≤ sizeLine /\ Vals xs its.toList
def absV : Value -> Option V
 | .none => some .non
 | .bool b => some (.bl b)
 | .int i _ => some (.int i)
 | .str x _ => some (.str x)
 | .bytes b _ => some (.byt b)
 | .float b _ => some (.flt b)
 | .ref a => some (.ref a)
 | .type n => some (.ty n)
 | _ => none
theorem RelV.abs {x : V} {u : Value} (r : RelV x u) : absV u = some x := by
 cases x with
 | non => cases r; rfl
 | bl _ => cases r; rfl
 | int _ => obtain ⟨t, rfl⟩ := r; rfl
 | str _ => obtain ⟨t, rfl⟩ := r; rfl
 | byt _ => obtain ⟨t, rfl⟩ := r; rfl
 | flt _ => obtain ⟨t, rfl⟩ := r; rfl
 | ref _ => cases r; rfl
 | ty _ => cases r; rfl
theorem RelV.inj {x y : V} {u : Value} (r : RelV x u) (q : RelV y u) : x = y := Option.some.inj (r.abs.symm.trans q.abs)
theorem Vals.inj : ∀ {xs ys : List V} {us : List Value}, Vals xs us -> Vals ys us -> xs = ys
 | _, _, _, .nil, .nil => rfl
 | _, _, _, .cons r t, .cons r' t' => by rw [r.inj r', Vals.inj t t']
section
variable {X : Cx} {pins : List (Addr × Obj)} {σ : St} {H : Hp} {s : Shared} {a : Addr} {xs ys : List V}
theorem SqL.of {K : PySem.W.Frag} (h : H a = some (.lst xs)) : SqL K H a xs := .inl (.inl h)
theorem SqT.of {K : PySem.W.Frag} (h : H a = some (.tup xs)) : SqT K H a xs := .inl (.inl h)
theorem Inv.list (I : Inv X pins σ H s) (h : SqL X.K H a xs) : ∃ its : List Value, Vals xs its /\ PlainL s.heap a its.toArray /\ xs.length ≤ sizeLine := by
 rcases h with h | ⟨o, its, n, hk, hc, hd, hs, hz, r⟩
 ·obtain ⟨z, its, n, r, e⟩ := h.ok I.hok
  exact ⟨its, r, ⟨_, n, e, rfl, rfl, rfl⟩, z⟩
 ·refine ⟨its.toList, r, ⟨o, n, I.kIn a o hk, hc, hd, by simpa using hs⟩, ?_⟩
  have e := r.length
  simp only [Array.length_toList] at e
  omega
theorem Inv.tuple (I : Inv X pins σ H s) (h : SqT X.K H a xs) : ∃ its : List Value, Vals xs its /\ IsTup s.heap a its.toArray /\ xs.length ≤ sizeLine := by
 rcases h with h | ⟨o, its, n, hk, hc, hs, hz, r⟩
 ·obtain ⟨z, its, r, p⟩ := h.ok I.hok
  exact ⟨its, r, p, z⟩
 ·refine ⟨its.toList, r, ⟨o, I.kIn a o hk, hc, n, by simpa using hs⟩, ?_⟩
  have e := r.length
  simp only [Array.length_toList] at e
  omega
theorem Inv.list_inj (I : Inv X pins σ H s) (h : SqL X.K H a xs) (h' : SqL X.K H a ys) : xs = ys := by
 obtain ⟨its, r, ⟨o, n, e, _, _, d⟩, _⟩ := I.list h
 obtain ⟨its', r', ⟨o', n', e', _, _, d'⟩, _⟩ := I.list h'
 rw [e] at e'; cases e'
 rw [d] at d'
 injection d' with d1 _
 have : its = its' := by simpa using congrArg Array.toList d1
 subst this
 exact r.inj r'
theorem Inv.tuple_inj (I : Inv X pins σ H s) (h : SqT X.K H a xs) (h' : SqT X.K H a ys) : xs = ys := by
 obtain ⟨its, r, ⟨o, e, _, n, d⟩, _⟩ := I.tuple h
 obtain ⟨its', r', ⟨o', e', _, n', d'⟩, _⟩ := I.tuple h'
 rw [e] at e'; cases e'
 rw [d] at d'
 injection d' with d1 _
 have : its = its' := by simpa using congrArg Array.toList d1
 subst this
 exact r.inj r'
end
abbrev Cx.wish (X : Cx) (E : Value -> Shared -> Prop) : Cx := { X with xe := E }
abbrev Cx.nox (X : Cx) : Cx := X.wish fun _ _ => False
theorem Cx.Ok.wish {X : Cx} (ok : X.Ok) (E : Value -> Shared -> Prop) : (X.wish E).Ok :=
 ⟨ok.mod, ok.kind, ok.glob, ok.blt, ok.above, ok.inj, ok.has, ok.cab, ok.hd, ok.frames, ok.stk, ok.exf, ok.bs, ok.bsz, ok.noex, ok.exfs, ok.funs, ok.frf⟩
theorem Cx.Ok.unwish {X : Cx} {E : Value -> Shared -> Prop} (ok : (X.wish E).Ok) : X.Ok :=
 ⟨ok.mod, ok.kind, ok.glob, ok.blt, ok.above, ok.inj, ok.has, ok.cab, ok.hd, ok.frames, ok.stk, ok.exf, ok.bs, ok.bsz, ok.noex, ok.exfs, ok.funs, ok.frf⟩
section
variable {X : Cx} {pins : List (Addr × Obj)} {σ : St} {H : Hp} {s : Shared} {E : Value -> Shared -> Prop}
theorem Inv.wish (I : Inv X pins σ H s) (E : Value -> Shared -> Prop) : Inv (X.wish E) pins σ H s := ⟨I.ok.wish E, I.os, I.bare, I.base, I.loc, I.cell, I.free, I.freeC, I.pin, I.hok, I.len⟩
theorem Inv.unwish (I : Inv (X.wish E) pins σ H s) : Inv X pins σ H s := ⟨I.ok.unwish, I.os, I.bare, I.base, I.loc, I.cell, I.free, I.freeC, I.pin, I.hok, I.len⟩
theorem SP.unwish {D : Ends} {f : Flow} {s' : Shared} (h : SP (X.wish E) pins D f s') : SP X pins D f s' := by
 cases f with
 | next => obtain ⟨σ', H', I, q⟩ := h; exact ⟨σ', H', I.unwish, q⟩
 | brk => obtain ⟨σ', H', I, q⟩ := h; exact ⟨σ', H', I.unwish, q⟩
 | cont => obtain ⟨σ', H', I, q⟩ := h; exact ⟨σ', H', I.unwish, q⟩
 | ret u => obtain ⟨v, σ', H', I, r, q⟩ := h; exact ⟨v, σ', H', I.unwish, r, q⟩
theorem PSs.nox {st : List Stmt} {t : TS} (h : PSs X.nox st t) : PSs X st t := fun pins s σ H D I hw =>
 wpAny_mono (h pins s σ H D (I.wish _) hw) (fun _ _ q => q.unwish) fun _ _ z => False.elim z
end
section
variable {X : Cx} {st : Stmt} {rest : List Stmt} {t u : TS} {e : Expr} {te : TE} {pos : Pos}
def tNext : TS := fun D σ H => D.nx σ H
def tSeq (t u : TS) : TS := fun D σ H => t { D with nx := u D } σ H
theorem pss_nil : PSs X [] tNext := fun _ _ σ H _ I h => wpAny_execs_nil ⟨σ, H, I, h⟩
theorem pss_cons (h1 : PS X st t) (h2 : PSs X rest u) : PSs X (st :: rest) (tSeq t u) := by
 intro pins s σ H D I h
 refine wpAny_execs_cons (thn (h1 pins s σ H { D with nx := u D } I h) fun f s1 q => ?_)
 cases f with
 | next =>
  obtain ⟨σ', H', I', q⟩ := q
  exact h2 pins s1 σ' H' D I' q
 | ret v => exact q
 | brk => exact q
 | cont => exact q
theorem pss_one (h1 : PS X st t) : PSs X [st] t := by
 intro pins s σ H D I h
 refine wpAny_execs_cons (thn (h1 pins s σ H D I h) fun f s1 q => ?_)
 cases f with
 | next => exact wpAny_execs_nil q
 | ret v => exact q
 | brk => exact q
 | cont => exact q
def tBreak : TS := fun D σ H => D.bk σ H
def tCont : TS := fun D σ H => D.ct σ H
theorem Inv.quiet {pins : List (Addr × Obj)} {σ : St} {H : Hp} {s : Shared} (I : Inv X pins σ H s) : interactive X.env = false := by simp [interactive, I.ok.kind]
def tDrop (te : TE) : TS := fun D σ H => te σ H fun _ H1 => D.nx σ H1
theorem ps_expr (he : PE X e te) (hs : swapsWith e none pos.line X.env = pure false := by rfl) : PS X (.Expr e pos) (tDrop te) := by
 intro pins s σ H D I h
 exact wpAny_Expr_any (thn (he pins s σ H _ I h) fun v s1 ⟨x, H1, I1, r1, q1⟩ => ⟨σ, H1, I1, q1⟩) I.quiet hs
def tRet (te : TE) : TS := fun D σ H => te σ H D.rt
theorem ps_ret (he : PE X e te) : PS X (.Return (some e) pos) (tRet te) := by
 intro pins s σ H D I h
 exact wpAny_Return_some (thn (he pins s σ H _ I h) fun v s1 ⟨x, H1, I1, r1, q1⟩ => ⟨x, σ, H1, I1, r1, q1⟩)
def tRetN : TS := fun D _ H => D.rt .non H
def tIfS (c : TT) (t u : TS) : TS := fun D σ H => c σ H fun b H1 => if b = true then t D σ H1 else u D σ H1
theorem ps_if {c : Expr} {a b : List Stmt} {tc : TT} (hc : PT X c tc) (ha : PSs X a t) (hb : PSs X b u) : PS X (.If c a b pos) (tIfS tc t u) := by
 intro pins s σ H D I h
 refine wpAny_If (thn (hc pins s σ H _ I h) fun d s1 ⟨H1, I1, q1⟩ => ?_)
 cases d with
 | true => exact ha pins s1 σ H1 D I1 q1
 | false => exact hb pins s1 σ H1 D I1 q1
def tNever : TS := fun _ _ _ => False
theorem ps_never : PS X st tNever := fun _ _ _ _ _ _ h => h.elim
end
abbrev TG := V -> St -> Hp -> (St -> Hp -> Prop) -> Prop
abbrev TGs := List V -> St -> Hp -> (St -> Hp -> Prop) -> Prop
def PG (X : Cx) (target : Expr) (t : TG) : Prop :=
 ∀ (pins : List (Addr × Obj)) (s : Shared) (σ : St) (H : Hp) (v : V) (u : Value) (Q : St -> Hp -> Prop), Inv X pins σ H s -> RelV v u -> t v σ H Q →
  wpAny (model X.prog X.w) X.A (assign target X.env u) (fun _ s' => ∃ σ' H', Inv X pins σ' H' s' /\ Q σ' H') X.xe s
def PGs (X : Cx) (ts : List Expr) (t : TGs) : Prop :=
 ∀ (pins : List (Addr × Obj)) (s : Shared) (σ : St) (H : Hp) (vs : List V) (us : List Value) (Q : St -> Hp -> Prop), Inv X pins σ H s -> Vals vs us -> t vs σ H Q →
  wpAny (model X.prog X.w) X.A (assignInOrder ((assignEach ts X.env).map (·.2)) us) (fun _ s' => ∃ σ' H', Inv X pins σ' H' s' /\ Q σ' H') X.xe s
abbrev TSet := V -> V -> V -> Hp -> (Hp -> Prop) -> Prop
def PSet (X : Cx) (t : TSet) : Prop :=
 ∀ (pins : List (Addr × Obj)) (s : Shared) (σ : St) (H : Hp) (o i v : V) (ov iv u : Value) (Q : Hp -> Prop), Inv X pins σ H s -> RelV o ov -> RelV i iv -> RelV v u -> t o i v H Q →
  wpAny (model X.prog X.w) X.A (setItem ov iv u) (fun _ s' => ∃ H', Inv X pins σ H' s' /\ Q H') X.xe s
abbrev TIp := V -> V -> Hp -> VK -> Prop
def PIp (X : Cx) (op : Operator) (t : TIp) : Prop :=
 ∀ (pins : List (Addr × Obj)) (s : Shared) (σ : St) (H : Hp) (x y : V) (v u : Value) (Q : VK), Inv X pins σ H s -> RelV x v -> RelV y u -> t x y H Q →
  wpAny (model X.prog X.w) X.A (inplaceOp op v u) (EP X pins σ Q) X.xe s
section
variable {X : Cx} {pos : Pos}
def gName (i : Nat) : TG := fun v σ H Q => Q (σ.set i (some v)) H
theorem pg_name {i : Nat} {x : Str} (hN : X.N.Nodup) (hi : X.N[i]? = some x) (hx : Loc X.env.scope x) (hf : X.fn x = true ∨ X.env.scope.names.lookup x = some .local := by first | exact .inl rfl | exact .inr rfl | assumption) : PG X (.Name x pos) (gName i) := by
 intro pins s σ H v u Q I r h
 exact wpAny_assign_Name (store_ok I hN hi hx r (fun s' I' => ⟨_, H, I', h⟩) hf)
def gNil : TGs := fun vs σ H Q => vs = [] /\ Q σ H
def gCons (t : TG) (u : TGs) : TGs := fun vs σ H Q => ∃ v r, vs = v :: r /\ t v σ H fun σ' H' => u r σ' H' Q
theorem pgs_nil : PGs X [] gNil := by
 intro pins s σ H vs us Q I r h
 obtain ⟨e, h⟩ := h
 subst e
 cases r
 exact assignInOrder_nil ⟨σ, H, I, h⟩
theorem pgs_cons {e : Expr} {es : List Expr} {t : TG} {u : TGs} (h1 : PG X e t) (h2 : PGs X es u)
  (hs : (assignEach (e :: es) X.env).map (·.2) = assign e X.env :: (assignEach es X.env).map (·.2) := by rfl) : PGs X (e :: es) (gCons t u) := by
 intro pins s σ H vs us Q I r h
 obtain ⟨v, vr, e1, h⟩ := h
 subst e1
 cases r with
 | cons r rr =>
  rw [hs]
  refine assignInOrder_cons (thn (h1 pins s σ H _ _ _ I r h) fun _ s1 ⟨σ1, H1, I1, q1⟩ => ?_)
  exact h2 pins s1 σ1 H1 _ _ Q I1 rr q1
def gTup (K : PySem.W.Frag) (n : Nat) (t : TGs) : TG := fun v σ H Q => ∃ a xs, v = .ref a /\ SqT K H a xs /\ xs.length = n /\ t xs σ H Q
theorem pg_tup {es : List Expr} {k : Nat} {t : TGs} {n : Nat} (hc : X.calm = true) (h : PGs X es t)
  (hn : (assignEach es X.env).length = n := by rfl) (hst : (assignEach es X.env).findIdx? (·.1) = none := by rfl) : PG X (.Tuple es k pos) (gTup X.K n t) := by
 intro pins s σ H v u Q I r hw
 obtain ⟨a, xs, e1, hq, hl, hw⟩ := hw
 subst e1
 cases r
 obtain ⟨its, rv, ht, hz⟩ := I.tuple hq
 refine assign_Tuple_tuple (I.ok.hd hc) ht (by simp [hn, ← hl, rv.length]) hst fun h' hx => ?_
 have I1 : Inv X pins σ H { s with heap := h' } := I.kept (t' := s.toks) fun b o e => hx b o (Nat.ne_of_lt (Heap.lt_size e)) e
 exact h pins _ σ H xs _ Q I1 (by simpa using rv) hw
def gSub (to ti : TE) (t : TSet) : TG := fun v σ H Q => to σ H fun o H1 => ti σ H1 fun i H2 => t o i v H2 fun H3 => Q σ H3
theorem pg_sub {o i : Expr} {to ti : TE} {t : TSet} (ho : PE X o to) (hi : PE X i ti) (hs : PSet X t)
  (ha : ∀ v, assign (.Subscript o i pos) X.env v = (do
   let ov ← holding [v] (eval o X.env)
   let iv ← holding [v, ov] (eval i X.env)
   standAt pos
   holding [v, ov, iv] (setItem ov iv v)
   release [v, ov, iv] []) := by intro _; rfl) : PG X (.Subscript o i pos) (gSub to ti t) := by
 intro pins s σ H v u Q I r h
 rw [ha]
 refine wpAny_bind (wpAny_holding (thn (ho pins s σ H _ I h) fun ov s1 ⟨x, H1, I1, r1, q1⟩ => ?_))
 refine wpAny_bind (wpAny_holding (thn (hi pins s1 σ H1 _ I1 q1) fun iv s2 ⟨y, H2, I2, r2, q2⟩ => ?_))
 refine wpAny_bind (wpAny_standAt (wpAny_bind (wpAny_holding (thn (hs pins s2 σ H2 x y v ov iv u _ I2 r1 r2 r q2) fun _ s3 ⟨H3, I3, q3⟩ => ?_))))
 exact wpAny_release ⟨σ, H3, I3, q3⟩
def tAsg (te : TE) (g : TG) : TS := fun D σ H => te σ H fun x H1 => g x σ H1 D.nx
theorem ps_asg {tg e : Expr} {te : TE} {g : TG} (he : PE X e te) (hg : PG X tg g) (hs : swapsWithSole [tg] e pos.line X.env = pure false := by rfl) (hw : swappedStores [tg] e X.env = pure none := by rfl)
  (h1 : (assignEach [tg] X.env).map (·.2) = [assign tg X.env] := by rfl) : PS X (.Assign [tg] e pos) (tAsg te g) := by
 intro pins s σ H D I h
 refine wpAny_Assign_stores (thn (he pins s σ H _ I h) fun v s1 ⟨x, H1, I1, r1, q1⟩ => ?_) hs hw
 rw [h1]
 exact thn (hg pins s1 σ H1 x v _ I1 r1 q1) fun _ s2 q => q
theorem ps_set {i : Nat} {x : Str} {e : Expr} {te : TE} {pos' : Pos} (hN : X.N.Nodup) (hi : X.N[i]? = some x) (hx : Loc X.env.scope x) (he : PE X e te) (hs : swapsWith e (some (.Name x pos')) pos.line X.env = pure false := by rfl) (hf : X.fn x = true ∨ X.env.scope.names.lookup x = some .local := by first | exact .inl rfl | exact .inr rfl | assumption) :
  PS X (.Assign [.Name x pos'] e pos) (tAsg te (gName i)) := by
 intro pins s σ H D I h
 refine wpAny_Assign_Name (thn (he pins s σ H _ I h) fun v s1 ⟨y, H1, I1, r1, q1⟩ => ?_) hs
 exact store_ok I1 hN hi hx r1 (fun s2 I2 => ⟨_, H1, I2, q1⟩) hf
def tPar (i j : Nat) (ta : TA) : TS := fun D σ H => ta σ H fun vs H1 => ∃ v w, vs = [v, w] /\ D.nx ((σ.set i (some v)).set j (some w)) H1
theorem ps_par {i j : Nat} {x y : Str} {a b : Expr} {ta : TA} {px py pt : Pos} {kt k2 pt2} (hc : X.calm = true) (hN : X.N.Nodup) (hi : X.N[i]? = some x) (hj : X.N[j]? = some y) (hij : i ≠ j)
  (hx : X.env.scope.names.lookup x = some .local) (hy : X.env.scope.names.lookup y = some .local) (ha : PA X [a, b] ta)
  (hw : swappedStores [.Tuple [.Name x px, .Name y py] kt pt] (.Tuple [a, b] k2 pt2) X.env = pure (some [x, y]))
  (hs : swapsWithSole [.Tuple [.Name x px, .Name y py] kt pt] (.Tuple [a, b] k2 pt2) pos.line X.env = pure false := by rfl) :
  PS X (.Assign [.Tuple [.Name x px, .Name y py] kt pt] (.Tuple [a, b] k2 pt2) pos) (tPar i j ta) := by
 intro pins s σ H D I h
 rw [exec_Assign_arm]
 refine wpAny_bind (wpAny_standAt ?_)
 rw [hs]
 refine wpAny_bind (wpAny_pure ?_)
 rw [if_neg (by decide)]
 refine wpAny_bind (Tuple_ (thn (ha _ pins s σ H _ I h) fun us s1 ⟨vs, H1, I1, r1, q1⟩ => ?_))
 obtain ⟨v, w, e1, q1⟩ := q1
 subst e1
 obtain ⟨u1, u2, rfl, rv, rw'⟩ : ∃ u1 u2, us = [u1, u2] /\ RelV v u1 /\ RelV w u2 := by
  cases r1 with
  | cons p q =>
   cases q with
   | cons p' q' =>
    cases q'
    exact ⟨_, _, rfl, p, p'⟩
 refine wpAny_newObj_type ?_ zl2
 have I2 : Inv X pins σ H1 { s1 with heap := s1.heap.push { cls := .type "tuple", data := .seq [u1, u2].toArray } } := I1.kept (t' := s1.toks) fun b o e => Heap.get?_push_of_some _ e
 rw [hw]
 refine wpAny_bind (wpAny_pure ?_)
 show wpAny (model X.prog X.w) X.A (do rule "assign.swapped-stores"; let items ← unpackItems (.ref s1.heap.objs.size) 2 none; assignInOrder [fun v => bindName X.env y v, fun v => bindName X.env x v] items.reverse; pure Flow.next) _ _ _
 refine wpAny_bind (wpAny_rule (wpAny_bind (unpackItems_tuple (items := #[u1, u2]) (I.ok.hd hc) (IsTup.new s1.heap _) fun h' hx' => ?_)))
 have I3 := I2.kept (h' := h') (t' := s1.toks) fun b o e => hx' b o (Nat.ne_of_lt (Heap.lt_size e)) e
 show wpAny _ _ (assignInOrder [fun v => bindName X.env y v, fun v => bindName X.env x v] [u2, u1] >>= fun _ => pure Flow.next) _ _ _
 refine wpAny_bind (assignInOrder_cons (wpAny_bindName (store_ok I3 hN hj (.inl hy) rw' (fun s2 I4 => ?_) (.inr hy))))
 refine assignInOrder_cons (wpAny_bindName (store_ok I4 hN hi (.inl hx) rv (fun s3 I5 => assignInOrder_nil (wpAny_pure ?_)) (.inr hx)))
 rw [List.set_comm _ _ (Ne.symm hij)] at I5
 exact ⟨_, H1, I5, q1⟩
def tAug (i : Nat) (te : TE) (ti : TIp) : TS := fun D σ H => ∃ x, σ[i]? = some (some x) /\ te σ H fun y H1 => ti x y H1 fun z H2 => D.nx (σ.set i (some z)) H2
theorem ps_aug {i : Nat} {x : Str} {e : Expr} {te : TE} {op : Operator} {ti : TIp} {pos' : Pos} (hN : X.N.Nodup) (hi : X.N[i]? = some x) (hx : Loc X.env.scope x) (he : PE X e te) (ho : PIp X op ti) (hf : X.fn x = true ∨ X.env.scope.names.lookup x = some .local := by first | exact .inl rfl | exact .inr rfl | assumption) :
  PS X (.AugAssign (.Name x pos') op e pos) (tAug i te ti) := by
 intro pins s σ H D I h
 obtain ⟨v, e1, h⟩ := h
 obtain ⟨m, hn, hl⟩ := I.loc
 have vis : Vis X.env.scope x := by rcases hx with k | k; exact .inl k; exact .inr (.inl k)
 obtain ⟨u, r, l⟩ := hl i x v hi e1 vis
 refine wpAny_AugAssign_Name ?_
 have go : wpAny (model X.prog X.w) X.A (eval e X.env) (fun w s₂ => wpAny (model X.prog X.w) X.A (inplaceOp op u w) (fun r s₃ => wpAny (model X.prog X.w) X.A (storeName X.env x r) (fun _ => SP X pins D .next) X.xe s₃) X.xe s₂) X.xe s := by
  refine thn (he pins s σ H _ I h) fun w s1 ⟨y, H1, I1, r1, q1⟩ => ?_
  refine thn (ho pins s1 σ H1 v y u w _ I1 r r1 q1) fun z s2 ⟨zv, H2, I2, r2, q2⟩ => ?_
  exact store_ok I2 hN hi hx r2 (fun s3 I3 => ⟨_, H2, I3, q2⟩) hf
 rcases l with ⟨hk, hm⟩ | ⟨hk, c, hc, hcell⟩
 ·exact wpAny_loadName_local I.ok.kind hk hn hm go
 ·rcases hk with hk | hk
  ·exact wpAny_loadName_cell I.ok.kind hk hc hcell go
  ·rcases hx with k | k
   ·have : X.env.scope.names.lookup x = some .free := hk
    rw [k] at this; cases this
   ·have : X.env.scope.names.lookup x = some .free := hk
    rw [k] at this; cases this
def tAugS (to ti te : TE) (tget : V -> V -> Hp -> VK -> Prop) (tip : TIp) (tset : TSet) : TS := fun D σ H => to σ H fun o H1 => ti σ H1 fun i H2 => tget o i H2 fun x H3 => te σ H3 fun y H4 => tip x y H4 fun z H5 => tset o i z H5 fun H6 => D.nx σ H6
def PGet (X : Cx) (t : V -> V -> Hp -> VK -> Prop) : Prop :=
 ∀ (pins : List (Addr × Obj)) (s : Shared) (σ : St) (H : Hp) (o i : V) (ov iv : Value) (Q : VK), Inv X pins σ H s -> RelV o ov -> RelV i iv -> t o i H Q →
  wpAny (model X.prog X.w) X.A (getItem ov iv) (EP X pins σ Q) X.xe s
def ipI (f : Int -> Int -> Int) : TIp := fun x y H Q => ∃ i j, x = .int i /\ y = .int j /\ Q (.int (f i j)) H
theorem ip_add : PIp X .Add (ipI fun i j => i + j) := by
 intro pins s σ H x y v u Q I r1 r2 h
 obtain ⟨i, j, e1, e2, q⟩ := h
 subst e1; subst e2
 obtain ⟨t, rfl⟩ := r1
 obtain ⟨t', rfl⟩ := r2
 exact iadd_int ⟨.int _, H, I.tok _, ⟨_, rfl⟩, q⟩
end
section
variable {X : Cx} {pos : Pos}
def tWhile (c : TT) (tb : TS) : TS := fun D σ H => ∃ W : Nat -> St -> Hp -> Prop, (∃ m, W m σ H) /\ ∀ m σ H, W m σ H →
 c σ H fun b H1 => if b = true then ∃ N : St -> Hp -> Prop, (∀ σ' H', N σ' H' -> ∃ m', m' < m /\ W m' σ' H') /\ tb { D with nx := N, ct := N, bk := D.nx } σ H1 else D.nx σ H1
theorem ps_while {c : Expr} {body : List Stmt} {tc : TT} {tb : TS} (hp : PassesOwn (model X.prog X.w) X.A X.env X.xe) (hc : PT X c tc) (hb : PSs X body tb) : PS X (.While c body [] pos) (tWhile tc tb) := by
 intro pins s σ H D I h
 obtain ⟨W, ⟨m0, w0⟩, turn⟩ := h
 refine wpAny_While (codeAny_whileLoop (fun n s' => ∃ σ' H', Inv X pins σ' H' s' /\ W n σ' H') ?_ m0 ⟨σ, H, I, w0⟩)
 rintro n s1 ⟨σ1, H1, I1, w1⟩
 refine wpAny_passesOwn hp (thn (hc pins s1 σ1 H1 _ I1 (turn n σ1 H1 w1)) fun b s2 ⟨H2, I2, q2⟩ => ?_)
 cases b with
 | true =>
  obtain ⟨N, hN, q2⟩ := q2
  rw [if_pos rfl]
  refine wpAny_passesOwn hp (thn (hb pins s2 σ1 H2 _ I2 q2) fun f s3 q3 => ?_)
  cases f with
  | next =>
   obtain ⟨σ3, H3, I3, n3⟩ := q3
   obtain ⟨m', hm, w3⟩ := hN σ3 H3 n3
   exact ⟨m', hm, σ3, H3, I3, w3⟩
  | cont =>
   obtain ⟨σ3, H3, I3, n3⟩ := q3
   obtain ⟨m', hm, w3⟩ := hN σ3 H3 n3
   exact ⟨m', hm, σ3, H3, I3, w3⟩
  | brk => exact q3
  | ret v => exact q3
 | false =>
  rw [if_neg Bool.false_ne_true]
  exact wpAny_execs_nil ⟨σ1, H2, I2, q2⟩
end
structure It where
 go : Nat -> Hp -> Prop
 yld : Nat -> Hp -> V -> Hp -> Prop
 stop : Nat -> Hp -> Prop
def FpOk (X : Cx) (pins : List (Addr × Obj)) (H : Hp) (b : Addr) : Prop :=
 H b = none /\ b ≠ X.env.locals /\ b ∉ X.fs /\ (b ∈ X.ex ∨ X.s₀.heap.get? b = none) /\ (∀ x c, X.env.cells.lookup x = some c -> c ≠ b) /\ ∀ p ∈ X.pn ++ pins, p.1 ≠ b
theorem Inv.fpOk {X : Cx} {pins : List (Addr × Obj)} {σ : St} {H H' : Hp} {s : Shared} {b : Addr} (I : Inv X pins σ H s) (hb : s.heap.objs.size ≤ b) (hn : H' b = none) : FpOk X pins H' b := by
 refine ⟨hn, Nat.ne_of_gt (Nat.lt_of_lt_of_le I.lt hb), I.nofs hb, .inr (Heap.get?_none_of_le (Nat.le_trans I.sz hb)), fun x c e z => ?_, fun p hp z => ?_⟩
 ·obtain ⟨v, q⟩ := I.cell x c e
  exact absurd (Nat.lt_of_lt_of_le q.lt (by rw [z]; exact hb)) (Nat.lt_irrefl _)
 ·exact absurd (Nat.lt_of_lt_of_le (Heap.lt_size (I.pin p hp).1) (by rw [z]; exact hb)) (Nat.lt_irrefl _)
structure Turn (P : Program) (w : World) (K : PySem.W.Frag) (tg : Expr) (J : It) (fp : List Addr) (it : Addr) (tn : Nat -> Heap -> Prop) : Prop where
 mem : it ∈ fp
 obj : ∀ i h, tn i h -> ∀ b ∈ fp, ∃ o, h.get? b = some o /\ ∀ v, o.data ≠ .cell v
 keep : ∀ i h h', tn i h -> (∀ b ∈ fp, ∀ o, h.get? b = some o -> h'.get? b = some o) -> tn i h'
 item : ∀ (X : Cx), X.prog = P -> X.w = w -> X.K = K -> X.calm = true -> ∀ (i : Nat) (pins : List (Addr × Obj)) (s : Shared) (σ : St) (H : Hp) (E : Value -> Shared -> Prop), Inv X pins σ H s -> (∀ b ∈ fp, FpOk X pins H b) -> tn i s.heap -> J.go i H →
  wpAny (model P w) X.A (pyNext (.ref it)) (fun r s1 => ∃ u, r = some u ∧
   wpAny (model P w) X.A (letOwnedTupleGo tg (.ref it) u) (fun _ s2 => ∃ x H', Inv X pins σ H' s2 /\ RelV x u /\ J.yld i H x H' /\ tn (i + 1) s2.heap /\ ∀ b ∈ fp, H' b = none) E s1) E s
 done : ∀ (X : Cx), X.prog = P -> X.w = w -> X.K = K -> X.calm = true -> ∀ (i : Nat) (pins : List (Addr × Obj)) (s : Shared) (σ : St) (H : Hp) (E : Value -> Shared -> Prop), Inv X pins σ H s -> (∀ b ∈ fp, FpOk X pins H b) -> tn i s.heap -> J.stop i H →
  wpAny (model P w) X.A (pyNext (.ref it)) (fun r s1 => r = none /\ Inv X pins σ H s1) E s
 self : ∀ (A : Around) (i : Nat) (s : Shared) (Q : Value -> Shared -> Prop) (E : Value -> Shared -> Prop), tn i s.heap -> Q (.ref it) s -> wpAny (model P w) A (pyIter (.ref it)) Q E s
abbrev TI := St -> Hp -> (It -> Hp -> Prop) -> Prop
def PIE (X : Cx) (pins : List (Addr × Obj)) (σ : St) (tg : Expr) (R : It -> Hp -> Prop) (itv : Value) (s2 : Shared) : Prop :=
 ∃ (it : Addr) (fp : List Addr) (tn : Nat -> Heap -> Prop) (J : It) (H' : Hp), itv = .ref it /\ Inv X pins σ H' s2 /\ Turn X.prog X.w X.K tg J fp it tn /\ tn 0 s2.heap /\ (∀ b ∈ fp, FpOk X pins H' b) /\ R J H'
def PI (X : Cx) (tg iter : Expr) (wi : TI) : Prop :=
 ∀ (pins : List (Addr × Obj)) (s : Shared) (σ : St) (H : Hp) (R : It -> Hp -> Prop), Inv X pins σ H s -> wi σ H R →
  wpAny (model X.prog X.w) X.A (eval iter X.env) (fun v s1 => wpAny (model X.prog X.w) X.A (pyIter v) (PIE X pins σ tg R) X.xe s1) X.xe s
theorem go_of {M : Model} {A : Around} {E : Value -> Shared -> Prop} {s : Shared} {tg : Expr} {it : Addr} {u : Value} {o : Obj} {n : String} {vs : Array Value} {Q : Unit -> Shared -> Prop} (ho : s.heap.get? it = some o) (hc : o.cls = .type n) (hd : o.data = .fields vs)
  (hn : ["enumerate", "zip", "dict_itemiterator", "dict_reverseitemiterator", "odict_iterator", "itertools.zip_longest", "itertools.pairwise"].contains n = false) (hQ : Q () s) : wpAny M A (letOwnedTupleGo tg (.ref it) u) Q E s := by
 unfold letOwnedTupleGo
 cases tg <;> first
  | exact wpAny_pure hQ
  | (cases u <;> first
    | exact wpAny_pure hQ
    | (refine wpAny_bind (wpAny_load ho ?_)
       rw [hc, hd]
       show wpAny M A (if (["enumerate", "zip", "dict_itemiterator", "dict_reverseitemiterator", "odict_iterator", "itertools.zip_longest", "itertools.pairwise"].contains n && vs[0]? == some (rawInt _)) = true then _ else _) Q E s
       rw [if_neg (by intro h; rw [hn, Bool.false_and] at h; cases h)]
       exact wpAny_pure hQ))
def Itl (K : PySem.W.Frag) (a : Addr) : It :=
 ⟨fun i H => ∃ xs x, SqL K H a xs /\ xs[i]? = some x, fun i H x H' => H' = H /\ ∀ xs, SqL K H a xs -> xs[i]? = some x, fun i H => ∃ xs, SqL K H a xs /\ xs.length ≤ i⟩
def Itt (K : PySem.W.Frag) (a : Addr) : It :=
 ⟨fun i H => ∃ xs x, SqT K H a xs /\ xs[i]? = some x, fun i H x H' => H' = H /\ ∀ xs, SqT K H a xs -> xs[i]? = some x, fun i H => ∃ xs, SqT K H a xs /\ xs.length ≤ i⟩
def Itr (lo : Int) (n : Nat) : It := ⟨fun i _ => i < n, fun i H x H' => H' = H /\ x = .int (lo + i), fun i _ => n ≤ i⟩
theorem turn_list {P : Program} {w : World} {K : PySem.W.Frag} {tg : Expr} (a it : Addr) : Turn P w K tg (Itl K a) [it] it (fun i h => h.IsListIter it a i) where
 mem := by simp
 obj := fun i h st b hb => by
  have e : b = it := by simpa using hb
  subst e
  obtain ⟨o, e, c, d⟩ := st
  exact ⟨o, e, fun v z => by rw [d] at z; cases z⟩
 keep := fun i h h' st k => st.at fun o e => k it (by simp) o e
 item := by
  intro X hP hw hK hc i pins s σ H E I hf st hg
  subst hP hw hK
  obtain ⟨xs, x, hq, hx⟩ := hg
  obtain ⟨its, rv, p, hz⟩ := I.list hq
  obtain ⟨u, hu, ru⟩ := rv.get hx
  obtain ⟨f0, f1, f2, f3, f4, f5⟩ := hf it (by simp)
  refine wpAny_pyNext_list_item st p.isList (x := u) (by simpa using hu) fun h' st' sb => ?_
  have I1 : Inv X pins σ H { s with heap := h' } := I.turned (t' := s.toks) (fun b o hb e => (sb.2 b hb).trans e) f0 f1 f3 f4 f5
  obtain ⟨o, e, c, d⟩ := id st'
  exact ⟨u, rfl, go_of (s := { s with heap := h' }) e c d (by decide) ⟨x, H, I1, ru, ⟨rfl, fun ys hy => by rw [I.list_inj hy hq]; exact hx⟩, st', fun b hb => (hf b hb).1⟩⟩
 done := by
  intro X hP hw hK hc i pins s σ H E I hf st hg
  subst hP hw hK
  obtain ⟨xs, hq, hx⟩ := hg
  obtain ⟨its, rv, p, hz⟩ := I.list hq
  obtain ⟨f0, f1, f2, f3, f4, f5⟩ := hf it (by simp)
  have hl := rv.length
  exact wpAny_pyNext_list_end (I.ok.hd hc) st p.isList (by simp; omega) fun h' eb => ⟨rfl, I.turned (t' := s.toks) (fun b o hb e => eb b o hb e) f0 f1 f3 f4 f5⟩
 self := fun _ _ _ _ _ st h => wpAny_pyIter_listiter st h
theorem turn_tuple {P : Program} {w : World} {K : PySem.W.Frag} {tg : Expr} (a it : Addr) : Turn P w K tg (Itt K a) [it] it (fun i h => h.IsTupleIter it a i) where
 mem := by simp
 obj := fun i h st b hb => by
  have e : b = it := by simpa using hb
  subst e
  obtain ⟨o, e, c, d⟩ := st
  exact ⟨o, e, fun v z => by rw [d] at z; cases z⟩
 keep := fun i h h' st k => st.at fun o e => k it (by simp) o e
 item := by
  intro X hP hw hK hc i pins s σ H E I hf st hg
  subst hP hw hK
  obtain ⟨xs, x, hq, hx⟩ := hg
  obtain ⟨its, rv, p, hz⟩ := I.tuple hq
  obtain ⟨u, hu, ru⟩ := rv.get hx
  obtain ⟨f0, f1, f2, f3, f4, f5⟩ := hf it (by simp)
  refine wpAny_pyNext_tuple_item st (show s.heap.IsTuple a its.toArray from p) (x := u) (by simpa using hu) fun h' st' sb => ?_
  have I1 : Inv X pins σ H { s with heap := h' } := I.turned (t' := s.toks) (fun b o hb e => (sb.2 b hb).trans e) f0 f1 f3 f4 f5
  obtain ⟨o, e, c, d⟩ := id st'
  exact ⟨u, rfl, go_of (s := { s with heap := h' }) e c d (by decide) ⟨x, H, I1, ru, ⟨rfl, fun ys hy => by rw [I.tuple_inj hy hq]; exact hx⟩, st', fun b hb => (hf b hb).1⟩⟩
 done := by
  intro X hP hw hK hc i pins s σ H E I hf st hg
  subst hP hw hK
  obtain ⟨xs, hq, hx⟩ := hg
  obtain ⟨its, rv, p, hz⟩ := I.tuple hq
  obtain ⟨f0, f1, f2, f3, f4, f5⟩ := hf it (by simp)
  have hl := rv.length
  exact wpAny_pyNext_tuple_end (I.ok.hd hc) st (show s.heap.IsTuple a its.toArray from p) (by simp; omega) fun h' eb => ⟨rfl, I.turned (t' := s.toks) (fun b o hb e => eb b o hb e) f0 f1 f3 f4 f5⟩
 self := fun _ _ _ _ _ st h => wpAny_pyIter_tupleiter st h
theorem turn_range {P : Program} {w : World} {K : PySem.W.Frag} {tg : Expr} (it : Addr) (lo : Int) (n : Nat) : Turn P w K tg (Itr lo n) [it] it (fun i h => IsRangeIter h it (lo + (i : Nat) * 1) ((n : Int) - (i : Nat)) 1) where
 mem := by simp
 obj := fun i h st b hb => by
  have e : b = it := by simpa using hb
  subst e
  exact ⟨_, st, fun v z => by
   have z' : Data.fields _ = Data.cell v := z
   cases z'⟩
 keep := fun i h h' st k => k it (by simp) _ st
 item := by
  intro X hP hw hK hc i pins s σ H E I hf st hg
  subst hP hw hK
  obtain ⟨f0, f1, f2, f3, f4, f5⟩ := hf it (by simp)
  have W := Walks.range (prog := X.prog) (w := X.w) (I.ok.hd hc) it lo 1 n
  refine W.item i s _ _ hg st fun v h' tk hv st' kk => ?_
  obtain ⟨t, rfl⟩ := hv
  have I1 : Inv X pins σ H { s with heap := h', toks := tk } := I.turned (fun b o hb e => kk b o (by simpa using hb) e) f0 f1 f3 f4 f5
  refine ⟨_, rfl, go_of (s := { s with heap := h', toks := tk }) (n := "range_iterator") st' rfl rfl (by decide) ⟨.int (lo + i), H, I1, ⟨t, ?_⟩, ⟨rfl, rfl⟩, st', fun b hb => (hf b hb).1⟩⟩
  rw [Int.mul_one]
 done := by
  intro X hP hw hK hc i pins s σ H E I hf st hg
  subst hP hw hK
  obtain ⟨f0, f1, f2, f3, f4, f5⟩ := hf it (by simp)
  exact wpAny_pyNext_range_end (I.ok.hd hc) st (by have : n ≤ i := hg; omega) fun h' eb => ⟨rfl, I.turned (t' := s.toks) (fun b o hb e => eb b o hb e) f0 f1 f3 f4 f5⟩
 self := fun _ _ _ _ _ st h => wpAny_pyIter_rangeiter st h
end L2
namespace L2
open PySem PySem.Spec PyProof.Rows
section
variable {X : Cx} {tg : Expr}
def iList (K : PySem.W.Frag) (tl : TE) : TI := fun σ H R => tl σ H fun x H1 => ∃ a, x = .ref a /\ (∃ xs, SqL K H1 a xs) /\ R (Itl K a) H1
def iTup (K : PySem.W.Frag) (tl : TE) : TI := fun σ H R => tl σ H fun x H1 => ∃ a, x = .ref a /\ (∃ xs, SqT K H1 a xs) /\ R (Itt K a) H1
theorem pi_list {l : Expr} {tl : TE} (hl : PE X l tl) : PI X tg l (iList X.K tl) := by
 intro pins s σ H R I h
 refine thn (hl pins s σ H _ I h) fun v s1 ⟨x, H1, I1, r1, q1⟩ => ?_
 obtain ⟨a, e, ⟨xs, hq⟩, q⟩ := q1
 subst e
 cases r1
 obtain ⟨its, rv, p, hz⟩ := I1.list hq
 refine wpAny_pyIter_list p.isList ?_
 refine ⟨s1.heap.objs.size, [s1.heap.objs.size], _, _, H1, rfl, I1.kept (t' := s1.toks) fun b o e => Heap.get?_push_of_some _ e, turn_list a _, ⟨_, Heap.get?_push_size _ rfl, rfl, rfl⟩, fun b hb => ?_, q⟩
 have e : b = s1.heap.objs.size := by simpa using hb
 subst e
 exact I1.fpOk (Nat.le_refl _) (I1.hok.fresh (Nat.le_refl _))
theorem pi_tup {l : Expr} {tl : TE} (hl : PE X l tl) : PI X tg l (iTup X.K tl) := by
 intro pins s σ H R I h
 refine thn (hl pins s σ H _ I h) fun v s1 ⟨x, H1, I1, r1, q1⟩ => ?_
 obtain ⟨a, e, ⟨xs, hq⟩, q⟩ := q1
 subst e
 cases r1
 obtain ⟨its, rv, p, hz⟩ := I1.tuple hq
 refine wpAny_pyIter_tuple (show s1.heap.IsTuple a its.toArray from p) ?_
 refine ⟨s1.heap.objs.size, [s1.heap.objs.size], _, _, H1, rfl, I1.kept (t' := s1.toks) fun b o e => Heap.get?_push_of_some _ e, turn_tuple a _, ⟨_, Heap.get?_push_size _ rfl, rfl, rfl⟩, fun b hb => ?_, q⟩
 have e : b = s1.heap.objs.size := by simpa using hb
 subst e
 exact I1.fpOk (Nat.le_refl _) (I1.hok.fresh (Nat.le_refl _))
theorem range_it {pins : List (Addr × Obj)} {σ : St} {H : Hp} {s : Shared} {R : It -> Hp -> Prop} {E : Value -> Shared -> Prop} {lo hi : Int} {t u v : Tok} {tk : Nat} (I : Inv X pins σ H s) (h1 : -(2 ^ 62) ≤ lo) (h2 : lo < 2 ^ 62) (h3 : -(2 ^ 62) ≤ hi) (h4 : hi < 2 ^ 62)
  (q : R (Itr lo (hi - lo).toNat) H) : wpAny (model X.prog X.w) X.A (pyIter (.ref s.heap.objs.size)) (PIE X pins σ tg R) E { s with heap := s.heap.push { cls := .type "range", data := .fields #[.int lo t, .int hi u, .int 1 v] }, toks := tk } := by
 refine wpAny_pyIter_range (IsRange.new ..) (small_one h1 h2 h3 h4) ?_
 have I1 : Inv X pins σ H { s with heap := s.heap.push { cls := .type "range", data := .fields #[.int lo t, .int hi u, .int 1 v] }, toks := tk } := I.kept fun b o e => Heap.get?_push_of_some _ e
 refine ⟨(s.heap.push { cls := .type "range", data := .fields #[.int lo t, .int hi u, .int 1 v] }).objs.size, [(s.heap.push { cls := .type "range", data := .fields #[.int lo t, .int hi u, .int 1 v] }).objs.size], _, _, H, rfl,
  I1.kept (t' := tk) fun b o e => Heap.get?_push_of_some _ e, turn_range _ lo (hi - lo).toNat, ?_, fun b hb => ?_, q⟩
 ·have e1 : lo + ((0 : Nat) : Int) * 1 = lo := by simp
  have e2 : (((hi - lo).toNat : Nat) : Int) - ((0 : Nat) : Int) = Builtin.Range.rangeSize lo hi 1 := by rw [rangeSize_one]; split <;> omega
  show IsRangeIter _ _ (lo + ((0 : Nat) : Int) * 1) ((((hi - lo).toNat : Nat) : Int) - ((0 : Nat) : Int)) 1
  rw [e1, e2]
  exact Heap.get?_push_size _ rfl
 ·have e : b = (s.heap.push { cls := .type "range", data := .fields #[.int lo t, .int hi u, .int 1 v] }).objs.size := by simpa using hb
  subst e
  exact I1.fpOk (Nat.le_refl _) (I1.hok.fresh (Nat.le_refl _))
def iRng1 (ta : TA) : TI := fun σ H R => ta σ H fun vs H1 => ∃ j : Int, vs = [.int j] /\ -(2 ^ 62) ≤ j /\ j < 2 ^ 62 /\ R (Itr 0 j.toNat) H1
def iRng2 (ta : TA) : TI := fun σ H R => ta σ H fun vs H1 => ∃ i j : Int, vs = [.int i, .int j] /\ (-(2 ^ 62) ≤ i /\ i < 2 ^ 62 /\ -(2 ^ 62) ≤ j /\ j < 2 ^ 62) /\ R (Itr i (j - i).toNat) H1
theorem pi_range1 {a : Expr} {ta : TA} {p pos : Pos} (hg : Gl X "range") (hm : X.mg "range" = none) (ha : PA X [a] ta) (hs : starEach [a] X.env = [(false, eval a X.env)] := by rfl) : PI X tg (.Call (.Name "range" p) [a] [] pos) (iRng1 ta) := by
 intro pins s σ H R I h
 refine Call_ (ld_blt I hg hm boot_range (PyProof.Rows.callWith_type1 (thn (ha pos pins s σ H _ I h) fun us s1 ⟨vs, H1, I1, r1, q1⟩ => ?_) hs rfl))
 obtain ⟨j, e, q1, q2, q⟩ := q1
 subst e
 cases r1 with
 | cons r rr =>
  cases rr
  obtain ⟨t, rfl⟩ := r
  exact call_range_1 (range_it I1 (by omega) (by omega) q1 q2 (by simpa using q))
theorem pi_range2 {a b : Expr} {ta : TA} {p pos : Pos} (hg : Gl X "range") (hm : X.mg "range" = none) (ha : PA X [a, b] ta) (hs : starEach [a, b] X.env = [(false, eval a X.env), (false, eval b X.env)] := by rfl) (hs2 : starEach [b] X.env = [(false, eval b X.env)] := by rfl) :
  PI X tg (.Call (.Name "range" p) [a, b] [] pos) (iRng2 ta) := by
 intro pins s σ H R I h
 refine Call_ (ld_blt I hg hm boot_range (PyProof.Rows.callWith_type1 (thn (ha pos pins s σ H _ I h) fun us s1 ⟨vs, H1, I1, r1, q1⟩ => ?_) (by rw [hs, hs2]) (by rw [hs2]; rfl)))
 obtain ⟨i, j, e, ⟨q1, q2, q3, q4⟩, q⟩ := q1
 subst e
 cases r1 with
 | cons r rr =>
  cases rr with
  | cons r' rr =>
   cases rr
   obtain ⟨t, rfl⟩ := r
   obtain ⟨t', rfl⟩ := r'
   exact call_range_2 (range_it I1 q1 q2 q3 q4 q)
def tFor (wi : TI) (g : TG) (tb : TS) : TS := fun D σ H => wi σ H fun J H1 => ∃ W : Nat -> Nat -> St -> Hp -> Prop, (∃ m, W 0 m σ H1) /\ ∀ i m σ H, W i m σ H →
 (J.stop i H /\ D.nx σ H) ∨ (J.go i H /\ ∃ N : St -> Hp -> Prop, (∀ σ' H', N σ' H' -> ∃ m', m' < m /\ W (i + 1) m' σ' H') /\ ∀ x H', J.yld i H x H' -> g x σ H' fun σ2 H2 => tb { D with nx := N, ct := N, bk := D.nx } σ2 H2)
def pinsAt (fp : List Addr) (h : Heap) : List (Addr × Obj) := fp.filterMap fun b => (h.get? b).map fun o => (b, o)
theorem mem_pinsAt {fp : List Addr} {h : Heap} {b : Addr} {o : Obj} (hb : b ∈ fp) (e : h.get? b = some o) : (b, o) ∈ pinsAt fp h := List.mem_filterMap.mpr ⟨b, hb, by rw [e]; rfl⟩
theorem of_pinsAt {fp : List Addr} {h : Heap} {p : Addr × Obj} (hp : p ∈ pinsAt fp h) : p.1 ∈ fp /\ h.get? p.1 = some p.2 := by
 obtain ⟨b, hb, e⟩ := List.mem_filterMap.mp hp
 cases q : h.get? b with
 | none => rw [q] at e; cases e
 | some o =>
  rw [q] at e
  have e' : (b, o) = p := Option.some.inj e
  subst e'
  exact ⟨hb, q⟩
theorem Inv.pinned {pins : List (Addr × Obj)} {σ : St} {H : Hp} {s : Shared} {fp : List Addr} (I : Inv X pins σ H s) (hf : ∀ b ∈ fp, FpOk X pins H b) (ho : ∀ b ∈ fp, ∃ o, s.heap.get? b = some o /\ ∀ v, o.data ≠ .cell v) : Inv X (pins ++ pinsAt fp s.heap) σ H s :=
 I.pins_of fun p hp => (List.mem_append.mp hp).elim (fun z => I.pin p (List.mem_append_right _ z)) fun z => by
  obtain ⟨hb, e⟩ := of_pinsAt z
  obtain ⟨f0, f1, f2, _⟩ := hf p.1 hb
  obtain ⟨o, e', d⟩ := ho p.1 hb
  rw [e] at e'; cases e'
  exact ⟨e, f0, f1, f2, d⟩
theorem Inv.unpinned {pins pl : List (Addr × Obj)} {σ : St} {H : Hp} {s : Shared} (I : Inv X (pins ++ pl) σ H s) : Inv X pins σ H s := I.pins_of fun p hp => I.pin p (List.mem_append_right _ (List.mem_append_left _ hp))
theorem ps_for {iter : Expr} {body : List Stmt} {wi : TI} {g : TG} {tb : TS} {pos : Pos} (hp : PassesOwn (model X.prog X.w) X.A X.env X.xe) (hc : X.calm = true) (hi : PI X tg iter wi) (hg : PG X tg g) (hb : PSs X body tb)
  (hs : ∀ x, foldedSetIterable iter X.env x = pure x := by intro _; rfl) : PS X (.For tg iter body [] pos) (tFor wi g tb) := by
 intro pins s σ H D I h
 refine wpAny_For (thn (hi pins s σ H _ I h) fun v s1 h1 => thn h1 fun itv s2 h2 => ?_) hs
 obtain ⟨it, fp, tn, J, H2, e, I2, T, st2, f2, W, ⟨m0, w0⟩, turn⟩ := h2
 subst e
 have stat : ∀ {H' : Hp}, (∀ b ∈ fp, H' b = none) -> ∀ b ∈ fp, FpOk X pins H' b := fun hn b hb => ⟨hn b hb, (f2 b hb).2⟩
 refine codeAny_forLoop_any (fun n s' => ∃ i σ' H', Inv X pins σ' H' s' /\ tn i s'.heap /\ (∀ b ∈ fp, H' b = none) /\ W i n σ' H') ?_ m0 ⟨0, σ, H2, I2, st2, fun b hb => (f2 b hb).1, w0⟩
 rintro n s3 ⟨i, σ3, H3, I3, st3, fr3, w3⟩
 rcases turn i n σ3 H3 w3 with ⟨stop, qn⟩ | ⟨go, N, hN, step⟩
 ·refine wpAny_passesOwn hp (thn (T.done X rfl rfl rfl hc i pins s3 σ3 H3 X.xe I3 (stat fr3) st3 stop) fun r s4 ⟨hr, I4⟩ => ?_)
  subst hr
  exact wpAny_execs_nil ⟨σ3, H3, I4, qn⟩
 ·refine wpAny_passesOwn hp (thn (T.item X rfl rfl rfl hc i pins s3 σ3 H3 X.xe I3 (stat fr3) st3 go) fun r s4 ⟨u, hr, h4⟩ => ?_)
  subst hr
  refine wpAny_passesOwn hp (thn h4 fun _ s5 ⟨x, H5, I5, r5, y5, st5, fr5⟩ => ?_)
  have I5' := I5.pinned (stat fr5) (T.obj _ _ st5)
  refine wpAny_passesOwn hp (thn (hg _ s5 σ3 H5 x u _ I5' r5 (step x H5 y5)) fun _ s6 ⟨σ6, H6, I6, q6⟩ => ?_)
  refine wpAny_passesOwn hp (thn (hb _ s6 σ6 H6 _ I6 q6) fun f s7 q7 => ?_)
  have again : ∀ {σ7 : St} {H7 : Hp}, Inv X (pins ++ pinsAt fp s5.heap) σ7 H7 s7 -> N σ7 H7 -> ∃ m, m < n /\ ∃ i σ' H', Inv X pins σ' H' s7 /\ tn i s7.heap /\ (∀ b ∈ fp, H' b = none) /\ W i m σ' H' := fun {σ7 H7} I7 n7 => by
   obtain ⟨m', hm, w7⟩ := hN σ7 H7 n7
   refine ⟨m', hm, i + 1, σ7, H7, I7.unpinned, T.keep _ _ _ st5 fun b hb o e => (I7.pin (b, o) (List.mem_append_right _ (List.mem_append_right _ (mem_pinsAt hb e)))).1, fun b hb => ?_, w7⟩
   obtain ⟨o, e, d⟩ := T.obj _ _ st5 b hb
   exact (I7.pin (b, o) (List.mem_append_right _ (List.mem_append_right _ (mem_pinsAt hb e)))).2.1
  cases f with
  | next => obtain ⟨σ7, H7, I7, n7⟩ := q7; exact again I7 n7
  | cont => obtain ⟨σ7, H7, I7, n7⟩ := q7; exact again I7 n7
  | brk => obtain ⟨σ7, H7, I7, q7⟩ := q7; exact ⟨σ7, H7, I7.unpinned, q7⟩
  | ret v => obtain ⟨x7, σ7, H7, I7, r7, q7⟩ := q7; exact ⟨x7, σ7, H7, I7.unpinned, r7, q7⟩
end
theorem for_list {K : PySem.W.Frag} {a : Addr} {xs : List V} {g : TG} {tb : TS} {D : Ends} {σ : St} {H : Hp} (Pv : Nat -> St -> Hp -> Prop) (h0 : Pv 0 σ H) (hl : ∀ i σ H, i ≤ xs.length -> Pv i σ H -> SqL K H a xs)
  (hs : ∀ i x σ H, xs[i]? = some x -> Pv i σ H -> g x σ H fun σ2 H2 => tb { D with nx := Pv (i + 1), ct := Pv (i + 1), bk := D.nx } σ2 H2) (hd : ∀ σ H, Pv xs.length σ H -> D.nx σ H) :
  ∃ W : Nat -> Nat -> St -> Hp -> Prop, (∃ m, W 0 m σ H) /\ ∀ i m σ H, W i m σ H →
   ((Itl K a).stop i H /\ D.nx σ H) ∨ ((Itl K a).go i H /\ ∃ N : St -> Hp -> Prop, (∀ σ' H', N σ' H' -> ∃ m', m' < m /\ W (i + 1) m' σ' H') /\ ∀ x H', (Itl K a).yld i H x H' -> g x σ H' fun σ2 H2 => tb { D with nx := N, ct := N, bk := D.nx } σ2 H2) := by
 refine ⟨fun i m σ H => m = xs.length - i /\ i ≤ xs.length /\ Pv i σ H, ⟨xs.length, by simp, Nat.zero_le _, h0⟩, ?_⟩
 rintro i m σ H ⟨rfl, hi, p⟩
 have q := hl i σ H hi p
 by_cases hlt : i < xs.length
 ·refine .inr ⟨⟨xs, xs[i], q, by simp [hlt]⟩, Pv (i + 1), fun σ' H' p' => ⟨xs.length - (i + 1), by omega, rfl, hlt, p'⟩, fun x H' y => ?_⟩
  obtain ⟨e, y⟩ := y
  subst e
  exact hs i x σ _ (y xs q) p
 ·have e : i = xs.length := by omega
  subst e
  exact .inl ⟨⟨xs, q, Nat.le_refl _⟩, hd σ H p⟩
theorem for_tup {K : PySem.W.Frag} {a : Addr} {xs : List V} {g : TG} {tb : TS} {D : Ends} {σ : St} {H : Hp} (Pv : Nat -> St -> Hp -> Prop) (h0 : Pv 0 σ H) (hl : ∀ i σ H, i ≤ xs.length -> Pv i σ H -> SqT K H a xs)
  (hs : ∀ i x σ H, xs[i]? = some x -> Pv i σ H -> g x σ H fun σ2 H2 => tb { D with nx := Pv (i + 1), ct := Pv (i + 1), bk := D.nx } σ2 H2) (hd : ∀ σ H, Pv xs.length σ H -> D.nx σ H) :
  ∃ W : Nat -> Nat -> St -> Hp -> Prop, (∃ m, W 0 m σ H) /\ ∀ i m σ H, W i m σ H →
   ((Itt K a).stop i H /\ D.nx σ H) ∨ ((Itt K a).go i H /\ ∃ N : St -> Hp -> Prop, (∀ σ' H', N σ' H' -> ∃ m', m' < m /\ W (i + 1) m' σ' H') /\ ∀ x H', (Itt K a).yld i H x H' -> g x σ H' fun σ2 H2 => tb { D with nx := N, ct := N, bk := D.nx } σ2 H2) := by
 refine ⟨fun i m σ H => m = xs.length - i /\ i ≤ xs.length /\ Pv i σ H, ⟨xs.length, by simp, Nat.zero_le _, h0⟩, ?_⟩
 rintro i m σ H ⟨rfl, hi, p⟩
 have q := hl i σ H hi p
 by_cases hlt : i < xs.length
 ·refine .inr ⟨⟨xs, xs[i], q, by simp [hlt]⟩, Pv (i + 1), fun σ' H' p' => ⟨xs.length - (i + 1), by omega, rfl, hlt, p'⟩, fun x H' y => ?_⟩
  obtain ⟨e, y⟩ := y
  subst e
  exact hs i x σ _ (y xs q) p
 ·have e : i = xs.length := by omega
  subst e
  exact .inl ⟨⟨xs, q, Nat.le_refl _⟩, hd σ H p⟩
theorem for_range {lo : Int} {n : Nat} {g : TG} {tb : TS} {D : Ends} {σ : St} {H : Hp} (Pv : Nat -> St -> Hp -> Prop) (h0 : Pv 0 σ H)
  (hs : ∀ i σ H, i < n -> Pv i σ H -> g (.int (lo + i)) σ H fun σ2 H2 => tb { D with nx := Pv (i + 1), ct := Pv (i + 1), bk := D.nx } σ2 H2) (hd : ∀ σ H, Pv n σ H -> D.nx σ H) :
  ∃ W : Nat -> Nat -> St -> Hp -> Prop, (∃ m, W 0 m σ H) /\ ∀ i m σ H, W i m σ H →
   ((Itr lo n).stop i H /\ D.nx σ H) ∨ ((Itr lo n).go i H /\ ∃ N : St -> Hp -> Prop, (∀ σ' H', N σ' H' -> ∃ m', m' < m /\ W (i + 1) m' σ' H') /\ ∀ x H', (Itr lo n).yld i H x H' -> g x σ H' fun σ2 H2 => tb { D with nx := N, ct := N, bk := D.nx } σ2 H2) := by
 refine ⟨fun i m σ H => m = n - i /\ i ≤ n /\ Pv i σ H, ⟨n, by simp, Nat.zero_le _, h0⟩, ?_⟩
 rintro i m σ H ⟨rfl, hi, p⟩
 by_cases hlt : i < n
 ·refine .inr ⟨hlt, Pv (i + 1), fun σ' H' p' => ⟨n - (i + 1), by omega, rfl, hlt, p'⟩, fun x H' y => ?_⟩
  obtain ⟨e, y⟩ := y
  subst e y
  exact hs i σ _ hlt p
 ·have e : i = n := by omega
  subst e
  exact .inl ⟨Nat.le_refl _, hd σ H p⟩
end L2
namespace L2
open PySem PySem.Spec PyProof.Rows
abbrev R2 := V -> V -> Hp -> VK -> Prop
def OpR (X : Cx) (f : Value -> Value -> Sem Value) (r : R2) : Prop :=
 ∀ (pins : List (Addr × Obj)) (s : Shared) (σ : St) (H : Hp) (x y : V) (v u : Value) (Q : VK), Inv X pins σ H s -> RelV x v -> RelV y u -> r x y H Q →
  wpAny (model X.prog X.w) X.A (f v u) (EP X pins σ Q) X.xe s
def UnR (X : Cx) (f : Value -> Sem Value) (r : V -> Hp -> VK -> Prop) : Prop :=
 ∀ (pins : List (Addr × Obj)) (s : Shared) (σ : St) (H : Hp) (x : V) (v : Value) (Q : VK), Inv X pins σ H s -> RelV x v -> r x H Q →
  wpAny (model X.prog X.w) X.A (f v) (EP X pins σ Q) X.xe s
def CallR (X : Cx) (f : Value) (r : List V -> Hp -> VK -> Prop) : Prop :=
 ∀ (pins : List (Addr × Obj)) (s : Shared) (σ : St) (H : Hp) (xs : List V) (us : List Value) (Q : VK), Inv X pins σ H s -> Vals xs us -> r xs H Q →
  wpAny (model X.prog X.w) X.A (call f us) (EP X pins σ Q) X.xe s
def TruR (X : Cx) (r : V -> Hp -> (Bool -> Hp -> Prop) -> Prop) : Prop :=
 ∀ (pins : List (Addr × Obj)) (s : Shared) (σ : St) (H : Hp) (x : V) (v : Value) (Q : Bool -> Hp -> Prop), Inv X pins σ H s -> RelV x v -> r x H Q →
  wpAny (model X.prog X.w) X.A (truthy v) (TP X pins σ Q) X.xe s
def tOp (r : R2) (ta tb : TE) : TE := fun σ H Q => ta σ H fun x H1 => tb σ H1 fun y H2 => r x y H2 Q
def tUn (r : V -> Hp -> VK -> Prop) (ta : TE) : TE := fun σ H Q => ta σ H fun x H1 => r x H1 Q
def rI (C : Int -> Int -> Prop) (g : Int -> Int -> V) : R2 := fun x y H Q => ∃ i j, x = .int i /\ y = .int j /\ C i j /\ Q (g i j) H
def rI0 (g : Int -> Int -> V) : R2 := fun x y H Q => ∃ i j, x = .int i /\ y = .int j /\ Q (g i j) H
def rU (g : Int -> V) : V -> Hp -> VK -> Prop := fun x H Q => ∃ i, x = .int i /\ Q (g i) H
section
variable {X : Cx} {a b c : Expr} {ta tb tc : TE} {pos : Pos}
theorem binT (ha : PE X a ta) (hb : PE X b tb) {pins : List (Addr × Obj)} {s : Shared} {σ : St} {H : Hp} {R : V -> V -> Hp -> Prop} (I : Inv X pins σ H s)
  (h : ta σ H fun x H1 => tb σ H1 fun y H2 => R x y H2) {Q : Value -> Shared -> Prop} {f : Value -> Value -> Sem Value}
  (hf : ∀ v u s2 x y H2, Inv X pins σ H2 s2 -> RelV x v -> RelV y u -> R x y H2 -> wpAny (model X.prog X.w) X.A (f v u) Q X.xe s2) :
  wpAny (model X.prog X.w) X.A (eval a X.env) (fun v s₁ => wpAny (model X.prog X.w) X.A (eval b X.env) (fun u s₂ => wpAny (model X.prog X.w) X.A (f v u) Q X.xe s₂) X.xe s₁) X.xe s := by
 refine thn (ha pins s σ H _ I h) fun v s1 ⟨x, H1, I1, r1, q1⟩ => ?_
 refine thn (hb pins s1 σ H1 _ I1 q1) fun u s2 ⟨y, H2, I2, r2, q2⟩ => ?_
 exact hf v u s2 x y H2 I2 r1 r2 q2
theorem pe_op {op : Operator} {r : R2} (ho : OpR X (binaryOp op) r) (ha : PE X a ta) (hb : PE X b tb) : PE X (.BinOp a op b pos) (tOp r ta tb) := by
 intro pins s σ H Q I h
 exact wpAny_BinOp (binT ha hb I h fun v u s2 x y H2 I2 rx ry q => ho pins s2 σ H2 x y v u Q I2 rx ry q)
theorem pe_un {op : UnaryOp} {r : V -> Hp -> VK -> Prop} (ho : UnR X (unaryOp op) r) (ha : PE X a ta) : PE X (.UnaryOp op a pos) (tUn r ta) := by
 intro pins s σ H Q I h
 exact UnaryOp_ (thn (ha pins s σ H _ I h) fun v s1 ⟨x, H1, I1, r1, q1⟩ => ho pins s1 σ H1 x v Q I1 r1 q1)
theorem opI {f : Value -> Value -> Sem Value} {C : Int -> Int -> Prop} {g : Int -> Int -> Int}
  (rule : ∀ (i j : Int) (t u : Tok) (s : Shared) (Q : Value -> Shared -> Prop) (E : Value -> Shared -> Prop), C i j -> Q (.int (g i j) s.toks) { s with toks := s.toks + 1 } -> wpAny (model X.prog X.w) X.A (f (.int i t) (.int j u)) Q E s) :
  OpR X f (rI C fun i j => .int (g i j)) := by
 intro pins s σ H x y v u Q I rx ry h
 obtain ⟨i, j, rfl, rfl, hc, q⟩ := h
 obtain ⟨t, rfl⟩ := rx
 obtain ⟨t', rfl⟩ := ry
 exact rule i j t t' s _ _ hc ⟨.int (g i j), H, I.tok _, ⟨_, rfl⟩, q⟩
theorem opI0 {f : Value -> Value -> Sem Value} {g : Int -> Int -> Int}
  (rule : ∀ (i j : Int) (t u : Tok) (s : Shared) (Q : Value -> Shared -> Prop) (E : Value -> Shared -> Prop), Q (.int (g i j) s.toks) { s with toks := s.toks + 1 } -> wpAny (model X.prog X.w) X.A (f (.int i t) (.int j u)) Q E s) :
  OpR X f (rI0 fun i j => .int (g i j)) := by
 intro pins s σ H x y v u Q I rx ry h
 obtain ⟨i, j, rfl, rfl, q⟩ := h
 obtain ⟨t, rfl⟩ := rx
 obtain ⟨t', rfl⟩ := ry
 exact rule i j t t' s _ _ ⟨.int (g i j), H, I.tok _, ⟨_, rfl⟩, q⟩
theorem opB0 {f : Value -> Value -> Sem Value} {g : Int -> Int -> Bool}
  (rule : ∀ (i j : Int) (t u : Tok) (s : Shared) (Q : Value -> Shared -> Prop) (E : Value -> Shared -> Prop), Q (.bool (g i j)) s -> wpAny (model X.prog X.w) X.A (f (.int i t) (.int j u)) Q E s) :
  OpR X f (rI0 fun i j => .bl (g i j)) := by
 intro pins s σ H x y v u Q I rx ry h
 obtain ⟨i, j, rfl, rfl, q⟩ := h
 obtain ⟨t, rfl⟩ := rx
 obtain ⟨t', rfl⟩ := ry
 exact rule i j t t' s _ _ ⟨.bl (g i j), H, I, rfl, q⟩
def CDiv (i j : Int) : Prop := 0 < j /\ j < 1073741824
def CDivN (i j : Int) : Prop := j ≠ 0 /\ j.natAbs < 1073741824
def CPow (i j : Int) : Prop := 0 ≤ j /\ j ≤ 1000000 /\ i.natAbs < 2 ^ 64
def CMul (i j : Int) : Prop := (-(2 ^ 64) < i /\ i < 2 ^ 64) ∨ (-(2 ^ 64) < j /\ j < 2 ^ 64)
theorem CMul.ok {i j : Int} (h : CMul i j) : IntMulOk i j := by
 rcases h with ⟨h1, h2⟩ | ⟨h1, h2⟩
 ·exact .of_left (intBits_le_64 h1 h2)
 ·exact .of_right (intBits_le_64 h1 h2)
theorem op_add : OpR X (binaryOp .Add) (rI0 fun i j => .int (i + j)) := opI0 fun _ _ _ _ _ _ _ q => add_int q
theorem op_sub : OpR X (binaryOp .Sub) (rI0 fun i j => .int (i - j)) := opI0 fun _ _ _ _ _ _ _ q => sub_int q
theorem op_mul : OpR X (binaryOp .Mult) (rI CMul fun i j => .int (i * j)) := opI fun _ _ _ _ _ _ _ hc q => mul_int q hc.ok
theorem op_fdiv : OpR X (binaryOp .FloorDiv) (rI CDiv fun i j => .int (i / j)) := opI fun i j _ _ _ _ _ hc q => by
 have h1 : (0 : Int) < j := hc.1
 have h2 : j < 1073741824 := hc.2
 exact floordiv_int (by omega) (by rw [Int.fdiv_eq_ediv_of_nonneg i (by omega)]; exact q) (.inl (PyProof.noPylong_small (by omega)))
theorem op_mod : OpR X (binaryOp .Mod) (rI (fun _ j => 0 < j) fun i j => .int (i % j)) := opI fun i j _ _ _ _ _ hc q => by
 have h1 : (0 : Int) < j := hc
 exact mod_int' (by omega) (by rw [Int.fmod_eq_emod_of_nonneg i (by omega)]; exact q)
theorem op_pow : OpR X (binaryOp .Pow) (rI CPow fun i j => .int (i ^ j.toNat)) := opI fun _ _ _ _ _ _ _ hc q => pow_int_small hc.1 hc.2.1 hc.2.2 q
theorem unI {f : Value -> Sem Value} {g : Int -> Int}
  (rule : ∀ (i : Int) (t : Tok) (s : Shared) (Q : Value -> Shared -> Prop) (E : Value -> Shared -> Prop), Q (.int (g i) s.toks) { s with toks := s.toks + 1 } -> wpAny (model X.prog X.w) X.A (f (.int i t)) Q E s) :
  UnR X f (rU fun i => .int (g i)) := by
 intro pins s σ H x v Q I rx h
 obtain ⟨i, rfl, q⟩ := h
 obtain ⟨t, rfl⟩ := rx
 exact rule i t s _ _ ⟨.int (g i), H, I.tok _, ⟨_, rfl⟩, q⟩
theorem un_neg : UnR X (unaryOp .USub) (rU fun i => .int (-i)) := unI fun _ _ _ _ _ q => neg_int q
end
def scal : V -> V -> Bool
 | .non, .non => true | .non, .int _ => true | .int _, .non => true | .non, .bl _ => true | .bl _, .non => true | .non, .str _ => true | .str _, .non => true
 | .int _, .int _ => true | .bl _, .bl _ => true | .str _, .str _ => true | .byt _, .byt _ => true
 | .int _, .str _ => true | .str _, .int _ => true | .bl _, .str _ => true | .str _, .bl _ => true
 | _, _ => false
def rEq : R2 := fun x y H Q => scal x y = true /\ Q (.bl (decide (x = y))) H
def rNe : R2 := fun x y H Q => scal x y = true /\ Q (.bl (!decide (x = y))) H
theorem dec_int {i j : Int} : decide (V.int i = V.int j) = (i == j) := by
 rw [Bool.eq_iff_iff]
 simp
theorem dec_bl {i j : Bool} : decide (V.bl i = V.bl j) = (i == j) := by
 rw [Bool.eq_iff_iff]
 simp
theorem dec_str {i j : Str} : decide (V.str i = V.str j) = (i == j) := by
 rw [Bool.eq_iff_iff]
 simp
theorem dec_byt {i j : Array UInt8} : decide (V.byt i = V.byt j) = (i.toList == j.toList) := by
 rw [Bool.eq_iff_iff]
 cases i
 cases j
 simp
section
variable {X : Cx} {a b c : Expr} {ta tb tc : TE} {pos : Pos}
theorem fin_bl {pins : List (Addr × Obj)} {σ : St} {H : Hp} {s : Shared} {Q : VK} {k k' : Bool} (I : Inv X pins σ H s) (q : Q (.bl k) H) (e : k = k') : EP X pins σ Q (.bool k') s := by
 subst e
 exact ⟨.bl k, H, I, rfl, q⟩
theorem op_eq : OpR X (compareOp .Eq) rEq := by
 intro pins s σ H x y v u Q I rx ry h
 obtain ⟨hs, q⟩ := h
 cases x with
 | non =>
  cases rx
  cases y with
  | non => cases ry; exact PySem.EqNone.eq_none_none (fin_bl I q (by simp))
  | bl j => cases ry; exact PySem.EqNone.eq_none_bool (fin_bl I q (by simp))
  | int j => obtain ⟨t', rfl⟩ := ry; exact PySem.EqNone.eq_none_int (fin_bl I q (by simp))
  | str j => obtain ⟨t', rfl⟩ := ry; exact PySem.EqNone.eq_none_str (fin_bl I q (by simp))
  | _ => exact absurd (show false = true from hs) Bool.false_ne_true
 | bl i =>
  cases rx
  cases y with
  | non => cases ry; exact PySem.EqNone.eq_bool_none (fin_bl I q (by simp))
  | bl j => cases ry; exact eq_bool (fin_bl I q dec_bl)
  | str j => obtain ⟨t', rfl⟩ := ry; exact PySem.EqMixed.eq_bool_str (fin_bl I q (by simp))
  | _ => exact absurd (show false = true from hs) Bool.false_ne_true
 | int i =>
  obtain ⟨t, rfl⟩ := rx
  cases y with
  | non => cases ry; exact PySem.EqNone.eq_int_none (fin_bl I q (by simp))
  | int j => obtain ⟨t', rfl⟩ := ry; exact eq_int (fin_bl I q dec_int)
  | str j => obtain ⟨t', rfl⟩ := ry; exact PySem.EqMixed.eq_int_str (fin_bl I q (by simp))
  | _ => exact absurd (show false = true from hs) Bool.false_ne_true
 | str i =>
  obtain ⟨t, rfl⟩ := rx
  cases y with
  | non => cases ry; exact PySem.EqNone.eq_str_none (fin_bl I q (by simp))
  | bl j => cases ry; exact PySem.EqMixed.eq_str_bool (fin_bl I q (by simp))
  | int j => obtain ⟨t', rfl⟩ := ry; exact PySem.EqMixed.eq_str_int (fin_bl I q (by simp))
  | str j => obtain ⟨t', rfl⟩ := ry; exact eq_str (fin_bl I q dec_str)
  | _ => exact absurd (show false = true from hs) Bool.false_ne_true
 | byt i =>
  obtain ⟨t, rfl⟩ := rx
  cases y with
  | byt j => obtain ⟨t', rfl⟩ := ry; exact PySem.W.eq_bytes (fin_bl I q dec_byt)
  | _ => exact absurd (show false = true from hs) Bool.false_ne_true
 | _ => cases y <;> exact absurd (show false = true from hs) Bool.false_ne_true
theorem op_ne : OpR X (compareOp .NotEq) rNe := by
 intro pins s σ H x y v u Q I rx ry h
 obtain ⟨hs, q⟩ := h
 cases x with
 | non =>
  cases rx
  cases y with
  | non => cases ry; exact PySem.EqNone.ne_none_none (fin_bl I q (by simp))
  | bl j => cases ry; exact PySem.EqNone.ne_none_bool (fin_bl I q (by simp))
  | int j => obtain ⟨t', rfl⟩ := ry; exact PySem.EqNone.ne_none_int (fin_bl I q (by simp))
  | str j => obtain ⟨t', rfl⟩ := ry; exact PySem.EqNone.ne_none_str (fin_bl I q (by simp))
  | _ => exact absurd (show false = true from hs) Bool.false_ne_true
 | bl i =>
  cases rx
  cases y with
  | non => cases ry; exact PySem.EqNone.ne_bool_none (fin_bl I q (by simp))
  | bl j => cases ry; exact ne_bool (fin_bl I q (congrArg not dec_bl))
  | str j => obtain ⟨t', rfl⟩ := ry; exact PySem.EqMixed.ne_bool_str (fin_bl I q (by simp))
  | _ => exact absurd (show false = true from hs) Bool.false_ne_true
 | int i =>
  obtain ⟨t, rfl⟩ := rx
  cases y with
  | non => cases ry; exact PySem.EqNone.ne_int_none (fin_bl I q (by simp))
  | int j => obtain ⟨t', rfl⟩ := ry; exact ne_int (fin_bl I q (congrArg not dec_int))
  | str j => obtain ⟨t', rfl⟩ := ry; exact PySem.EqMixed.ne_int_str (fin_bl I q (by simp))
  | _ => exact absurd (show false = true from hs) Bool.false_ne_true
 | str i =>
  obtain ⟨t, rfl⟩ := rx
  cases y with
  | non => cases ry; exact PySem.EqNone.ne_str_none (fin_bl I q (by simp))
  | bl j => cases ry; exact PySem.EqMixed.ne_str_bool (fin_bl I q (by simp))
  | int j => obtain ⟨t', rfl⟩ := ry; exact PySem.EqMixed.ne_str_int (fin_bl I q (by simp))
  | str j => obtain ⟨t', rfl⟩ := ry; exact ne_str (fin_bl I q (congrArg not dec_str))
  | _ => exact absurd (show false = true from hs) Bool.false_ne_true
 | byt i =>
  obtain ⟨t, rfl⟩ := rx
  cases y with
  | byt j => obtain ⟨t', rfl⟩ := ry; exact PySem.W.ne_bytes (fin_bl I q (congrArg not dec_byt))
  | _ => exact absurd (show false = true from hs) Bool.false_ne_true
 | _ => cases y <;> exact absurd (show false = true from hs) Bool.false_ne_true
theorem op_lt : OpR X (compareOp .Lt) (rI0 fun i j => .bl (decide (i < j))) := opB0 fun _ _ _ _ _ _ _ q => lt_int q
theorem op_gt : OpR X (compareOp .Gt) (rI0 fun i j => .bl (decide (j < i))) := opB0 fun _ _ _ _ _ _ _ q => gt_int q
theorem op_ge : OpR X (compareOp .GtE) (rI0 fun i j => .bl (decide (j ≤ i))) := opB0 fun _ _ _ _ _ _ _ q => ge_int q
theorem op_notN : OpR X (compareOp .IsNot) (fun x y H Q => y = .non /\ Q (.bl (!decide (x = .non))) H) := by
 intro pins s σ H x y v u Q I rx ry h
 obtain ⟨rfl, q⟩ := h
 cases ry
 refine isnot_none_gen (fin_bl I q ?_)
 cases x <;> first
  | (cases rx; rfl)
  | (obtain ⟨t, rfl⟩ := rx; rfl)
def isObj : HO -> Bool
 | .lst _ => true
 | .ins _ _ _ => true
 | _ => false
theorem nomark (b : Expr) {op : CmpOp} (h : op ≠ .In := by decide) (h2 : op ≠ .NotIn := by decide) : behindInMarks op b = false := by
 have e1 : (op == CmpOp.In) = false := by cases op <;> first | rfl | exact absurd rfl h
 have e2 : (op == CmpOp.NotIn) = false := by cases op <;> first | rfl | exact absurd rfl h2
 cases b <;> simp [behindInMarks, e1, e2]
theorem pe_cmpR {op : CmpOp} {r : R2} (ho : OpR X (compareOp op) r) (ha : PE X a ta) (hb : PE X b tb) (hm : behindInMarks op b = false) : PE X (.Compare a [op] [b] pos) (tOp r ta tb) := by
 intro pins s σ H Q I h
 exact wpAny_Compare1 (binT ha hb I h fun v u s2 x y H2 I2 rx ry q => ho pins s2 σ H2 x y v u Q I2 rx ry q) hm
def tTest (t : TE) : TT := fun σ H Q => t σ H fun x H' => ∃ k, x = .bl k /\ Q k H'
theorem pt_cmpR {op : CmpOp} {r : R2} (ho : OpR X (compareOp op) r) (ha : PE X a ta) (hb : PE X b tb) (hm : behindInMarks op b = false) : PT X (.Compare a [op] [b] pos) (tTest (tOp r ta tb)) := by
 intro pins s σ H Q I h
 refine wpAny_isTrue_Compare1 (thn (ha pins s σ H _ I h) fun v s1 ⟨x, H1, I1, r1, q1⟩ => thn (hb pins s1 σ H1 _ I1 q1) fun u s2 ⟨y, H2, I2, r2, q2⟩ =>
  thn (ho pins s2 σ H2 x y v u _ I2 r1 r2 q2) fun c s3 ⟨z, H3, I3, r3, k, e, q3⟩ => ?_) hm
 subst e
 cases r3
 exact wpAny_truthy_bool ⟨H3, I3, q3⟩
def tChain (r r' : R2) (ta tb tc : TE) : TE := fun σ H Q => ta σ H fun x H1 => tb σ H1 fun y H2 => r x y H2 fun z H3 => ∃ k, z = .bl k ∧
 (if k = true then tc σ H3 fun w' H4 => r' y w' H4 Q else Q (.bl false) H3)
def TruV (K : PySem.W.Frag) (x : V) (H : Hp) (k : Bool) : Prop :=
 match x with
 | .non => k = false
 | .bl b => k = b
 | .int i => k = (i != 0)
 | .str y => y.length ≤ sizeLine /\ k = ((y.length : Int) != 0)
 | .byt y => y.size ≤ sizeLine /\ k = ((y.size : Int) != 0)
 | .ref p => (∃ xs, SqL K H p xs /\ k = !xs.isEmpty) ∨ (∃ xs, SqT K H p xs /\ k = !xs.isEmpty) ∨ ∃ kvs, H p = some (.dK kvs) /\ k = !kvs.isEmpty
 | _ => False
theorem line63 : (sizeLine : Nat) < 2 ^ 63 := by rw [sizeLine_eq]; decide
def PlainIxT (b : Expr) : Prop := ∀ o i, subscripted b false o i = operate [o, i] (getItem o i)
theorem vals1 {x : V} {us : List Value} (r : Vals [x] us) : ∃ u, us = [u] /\ RelV x u := by
 cases r with
 | cons r1 r2 => cases r2; exact ⟨_, rfl, r1⟩
theorem vals2 {x y : V} {us : List Value} (r : Vals [x, y] us) : ∃ u w', us = [u, w'] /\ RelV x u /\ RelV y w' := by
 cases r with
 | cons r1 r2 =>
  cases r2 with
  | cons r3 r4 => cases r4; exact ⟨_, _, rfl, r1, r3⟩
theorem call_abs : CallR X (.builtin "abs") (fun xs H Q => ∃ i, xs = [.int i] /\ Q (.int (if i < 0 then -i else i)) H) := by
 intro pins s σ H xs us Q I r h
 obtain ⟨i, rfl, q⟩ := h
 obtain ⟨u, rfl, t, rfl⟩ := vals1 r
 exact call_abs_int fun u tk => ⟨.int (if i < 0 then -i else i), H, I.tok _, ⟨_, rfl⟩, q⟩
def LenV (K : PySem.W.Frag) (x : V) (H : Hp) (n : Nat) : Prop :=
 match x with
 | .str y => y.length ≤ sizeLine /\ n = y.length
 | .byt y => y.size ≤ sizeLine /\ n = y.size
 | .ref p => (∃ xs, SqL K H p xs /\ n = xs.length) ∨ ∃ xs, SqT K H p xs /\ n = xs.length
 | _ => False
end
end L2
namespace L2
open PySem PySem.Spec PyProof.Rows
structure ObjM (h : Heap) (x dx C : Addr) (mA : Str -> Option Value) : Prop where
 obj : h.get? x = some (PySem.W.instObj C dx)
 ns : h.Ns1 dx mA
 ne : dx ≠ x
theorem lookIn_ns {h : Heap} {dx : Addr} {mA : Str -> Option Value} (n : h.Ns1 dx mA) : ∃ od, h.get? dx = some od /\ ∀ name, PySem.W.lookIn name od = some (mA name) := by
 obtain ⟨o, es, ep, ho, hd, hk, _, hm⟩ := n
 refine ⟨o, ho, fun name => ?_⟩
 have e := hm name
 unfold nsFind findBy at e
 rw [← Array.find?_toList] at e
 unfold PySem.W.lookIn
 rw [hd]
 dsimp only
 split
 ·rename_i y q
  rw [q] at e
  exact congrArg some e
 ·rename_i q
  rw [q] at e
  have a : es.toList.any (·.refKey) = false := by
   rw [List.any_eq_false]
   intro y hy
   obtain ⟨z, t, hkey⟩ := hk y (Array.mem_toList_iff.mp hy)
   simp [DictEntry.refKey, hkey]
  have a' : ¬ es.toList.any (·.refKey) = true := by rw [a]; exact Bool.false_ne_true
  rw [if_neg a']
  exact congrArg some e
theorem ObjM.look {h : Heap} {x dx C : Addr} {mA : Str -> Option Value} (I : ObjM h x dx C mA) : ∃ od, PySem.W.InstAt h x (PySem.W.instObj C dx) C (some od) /\ ∀ name, PySem.W.lookIn name od = some (mA name) :=
 let ⟨od, ho, hl⟩ := lookIn_ns I.ns
 ⟨od, ⟨I.obj, rfl, rfl, ho⟩, hl⟩
section
variable {prog : Program} {w : World} {A : Around} {E : Value -> Shared -> Prop} {s : Shared} {K : PySem.W.Frag} {x dx C f : Addr} {mA : Str -> Option Value} {name : Str} {v : Value}
end
def putF (f : Str) (v : V) : List (Str × V) -> List (Str × V)
 | [] => [(f, v)]
 | (g, x) :: r => if g = f then (g, v) :: r else (g, x) :: putF f v r
theorem RelO.some_of {v : V} {o : Option Value} (r : RelO (some v) o) : ∃ u, o = some u /\ RelV v u := by
 cases o with
 | none => exact (show False from r).elim
 | some u => exact ⟨u, rfl, r⟩
theorem handed_of {v : V} {u : Value} (r : RelV v u) : PySem.W.handedIn u = true := by
 cases v with
 | non => cases (show u = Value.none from r); rfl
 | bl b => cases (show u = Value.bool b from r); rfl
 | int i => obtain ⟨t, e⟩ := (show ∃ t, u = Value.int i t from r); cases e; rfl
 | str x => obtain ⟨t, e⟩ := (show ∃ t, u = Value.str x t from r); cases e; rfl
 | byt b => obtain ⟨t, e⟩ := (show ∃ t, u = Value.bytes b t from r); cases e; rfl
 | flt b => obtain ⟨t, e⟩ := (show ∃ t, u = Value.float b t from r); cases e; rfl
 | ref a => cases (show u = Value.ref a from r); rfl
 | ty n => cases (show u = Value.type n from r); rfl
section
variable {P : Program} {w : World} {H H' : Hp} {h h' : Heap} {a C dx : Addr} {fs fs' : List (Str × V)}
theorem ins_get (hok : HOk P w H h) (e : H a = some (.ins C dx fs)) : ∃ mA, ObjM h a dx C mA /\ (∀ f, RelO (fs.lookup f) (mA f)) /\ PySem.Within mA (fs.map (·.1)) /\ fs.length ≤ 1000 /\ H dx = some (.own a) := by
 obtain ⟨d, z, ne, ob, mA, n, r, q⟩ := (show ObjOk P w H h a (.ins C dx fs) from hok a _ e)
 exact ⟨mA, ⟨ob, n, ne⟩, r, q, z, d⟩
end
structure Cls (K : PySem.W.Frag) (C : Addr) : Prop where
 pg : PySem.W.plainGet K C Str.empty = true
 hd : PySem.W.hasDictIn K C = true
 po : PySem.W.plainOver K C = true
 sa : PySem.W.findIn K (.ref C) "__setattr__" = some (some (.builtin "object.__setattr__"))
theorem Cls.get {K : PySem.W.Frag} {C : Addr} (c : Cls K C) (f : Str) : PySem.W.plainGet K C f = true := c.pg
def NoAttr (K : PySem.W.Frag) (C : Addr) (f : Str) : Prop := PySem.W.findIn K (.ref C) f = some none
structure Con (K : PySem.W.Frag) (C : Addr) (f : Str) (v : V) (u : Value) : Prop where
 at_ : PySem.W.findIn K (.ref C) f = some (some u)
 rel : RelV v u
 get : PySem.W.specialIn K u "__get__" = some none
 cp : PySem.W.copiedNames.contains f = false
structure Meth (K : PySem.W.Frag) (C : Addr) (m : Str) (f : Addr) : Prop where
 at_ : PySem.W.findIn K (.ref C) m = some (some (.ref f))
 fn : PySem.W.isFn K (.ref f) = true
 kp : PySem.W.keepIn K (.ref f) = true
section
variable {X : Cx} {pins : List (Addr × Obj)} {σ : St} {H : Hp} {s : Shared} {a C dx : Addr} {fs : List (Str × V)} {f : Str} {v : V} {A : Around} {E : Value -> Shared -> Prop}
theorem attr_of {prog : Program} {w : World} {env : Env} {e : Expr} {f : Str} {pos : Pos} {s : Shared} {Q : Value -> Shared -> Prop} (hb : attributeBase e f env (eval e env) = eval e env)
  (h : wpAny (model prog w) A (eval e env) (fun o s₁ => wpAny (model prog w) A (getAttr o f true) Q E s₁) E s) : wpAny (model prog w) A (eval (.Attribute e f pos) env) Q E s :=
 Attribute_any_ h (by rw [arm_eval_Attribute, hb])
end
def tFld (K : PySem.W.Frag) (ta : TE) (f : Str) : TE := fun σ H Q => ta σ H fun x H1 => ∃ a C dx fs v, x = .ref a /\ H1 a = some (.ins C dx fs) /\ Cls K C /\ NoAttr K C f /\ fs.lookup f = some v /\ Q v H1
def tCon (K : PySem.W.Frag) (ta : TE) (f : Str) : TE := fun σ H Q => ta σ H fun x H1 => ∃ a C dx fs v u, x = .ref a /\ H1 a = some (.ins C dx fs) /\ Cls K C /\ Con K C f v u /\ fs.lookup f = none /\ Q v H1
def sFld (K : PySem.W.Frag) (ta tv : TE) (f : Str) : TS := fun D σ H => tv σ H fun y H1 => ta σ H1 fun x H2 => ∃ a C dx fs, x = .ref a /\ H2 a = some (.ins C dx fs) /\ Cls K C /\ NoAttr K C f /\ fs.length < 1000 ∧
 D.nx σ (upd H2 a (.ins C dx (putF f y fs)))
def InOp (X : Cx) (op : Operator) (rd : V -> V -> Hp -> VK -> Prop) : Prop :=
 ∀ (pins : List (Addr × Obj)) (s : Shared) (σ : St) (H : Hp) (x y : V) (u v : Value) (Q : VK), Inv X pins σ H s -> RelV x u -> RelV y v -> rd x y H Q -> wpAny (model X.prog X.w) X.A (inplaceOp op u v) (EP X pins σ Q) X.xe s
def sFldAug (K : PySem.W.Frag) (ta tv : TE) (rd : V -> V -> Hp -> VK -> Prop) (f : Str) : TS := fun D σ H => ta σ H fun x H1 => ∃ a C dx fs v, x = .ref a /\ H1 a = some (.ins C dx fs) /\ Cls K C /\ NoAttr K C f /\ fs.lookup f = some v ∧
 tv σ H1 fun y H2 => rd v y H2 fun z H3 => ∃ dx' fs', H3 a = some (.ins C dx' fs') /\ fs'.length < 1000 /\ D.nx σ (upd H3 a (.ins C dx' (putF f z fs')))
section
variable {X : Cx} {o e value : Expr} {f : Str} {pos pos' tpos : Pos} {ta tv : TE}
def rAdd : V -> V -> Hp -> VK -> Prop := fun x y H Q => ∃ i j, x = .int i /\ y = .int j /\ Q (.int (i + j)) H
def rSub : V -> V -> Hp -> VK -> Prop := fun x y H Q => ∃ i j, x = .int i /\ y = .int j /\ Q (.int (i - j)) H
end
section
variable {X : Cx} {pins : List (Addr × Obj)} {σ : St} {H : Hp} {s : Shared} {A : Around} {E : Value -> Shared -> Prop} {Q : Value -> Shared -> Prop} {c : Value} {b : Bool}
inductive TyOf (K : PySem.W.Frag) (H : Hp) : V -> Value -> Prop where
 | non : TyOf K H .non (.type "NoneType")
 | bl (x : Bool) : TyOf K H (.bl x) (.type "bool")
 | int (i : Int) : TyOf K H (.int i) (.type "int")
 | str (x : Str) : TyOf K H (.str x) (.type "str")
 | flt (x : UInt64) : TyOf K H (.flt x) (.type "float")
 | lst {a : Addr} {xs : List V} (e : H a = some (.lst xs)) : TyOf K H (.ref a) (.type "list")
 | frz {a : Addr} {o : Obj} {xs : List V} (e : H a = some (.frz o (.lst xs))) : TyOf K H (.ref a) (.type "list")
 | tup {a : Addr} {xs : List V} (e : H a = some (.tup xs)) : TyOf K H (.ref a) (.type "tuple")
 | dK {a : Addr} {kvs : List (Key × V)} (e : H a = some (.dK kvs)) : TyOf K H (.ref a) (.type "dict")
 | dT {a : Addr} {kvs : List (List Key × V)} (e : H a = some (.dT kvs)) : TyOf K H (.ref a) (.type "dict")
 | ins {a C dx : Addr} {fs : List (Str × V)} (e : H a = some (.ins C dx fs)) (cl : Cls K C) (ha : PySem.W.findIn K (.ref C) "__class__" = some (some (.builtin "object.__class__")))
   (hn : PySem.W.specialIn K (.builtin "object.__class__") "__get__" = some (some (.builtin "getset_descriptor.__get__"))) (htk : PySem.W.takesIn K (.builtin "object.__class__") = some true)
   (hm : PySem.W.mroIn K C (.type "object") = some true) : TyOf K H (.ref a) (.ref C)
theorem isinst_ok {x : V} {u t : Value} (I : Inv X pins σ H s) (rx : RelV x u) (ty : TyOf X.K H x t) (e : PySem.W.kitOne X.K t c = some b) (h : ∀ tk, Q (.bool b) { s with toks := tk }) :
  wpAny (model X.prog X.w) A (call (.builtin "isinstance") [u, c]) Q E s := by
 cases ty with
 | non => cases (show u = Value.none from rx); exact PySem.W.kia_one PySem.W.kitx_none I.kIn True.intro e (fun z => nomatch z) h
 | bl y => cases (show u = Value.bool y from rx); exact PySem.W.kia_one PySem.W.kitx_bool I.kIn True.intro e (fun z => nomatch z) h
 | int i => obtain ⟨t, q⟩ := (show ∃ t, u = Value.int i t from rx); cases q; exact PySem.W.kia_one PySem.W.kitx_int I.kIn True.intro e (fun z => nomatch z) h
 | str y => obtain ⟨t, q⟩ := (show ∃ t, u = Value.str y t from rx); cases q; exact PySem.W.kia_one PySem.W.kitx_str I.kIn True.intro e (fun z => nomatch z) h
 | flt y => obtain ⟨t, q⟩ := (show ∃ t, u = Value.float y t from rx); cases q; exact PySem.W.kia_one PySem.W.kitx_float I.kIn True.intro e (fun z => nomatch z) h
 | @lst a xs ea =>
  cases (show u = Value.ref a from rx)
  obtain ⟨_, _, n, _, h1⟩ := (show ObjOk X.prog X.w H s.heap a (.lst xs) from I.hok a _ ea)
  exact PySem.W.kia_one PySem.W.kitx_list I.kIn ⟨_, h1, rfl⟩ e (fun z => nomatch z) h
 | @frz a ob xs ea =>
  cases (show u = Value.ref a from rx)
  obtain ⟨_, _, _, n, _, h1⟩ := (show ObjOk X.prog X.w H s.heap a (.frz ob (.lst xs)) from I.hok a _ ea)
  exact PySem.W.kia_one PySem.W.kitx_list I.kIn ⟨_, h1, rfl⟩ e (fun z => nomatch z) h
 | @tup a xs ea =>
  cases (show u = Value.ref a from rx)
  obtain ⟨_, _, _, p⟩ := (show ObjOk X.prog X.w H s.heap a (.tup xs) from I.hok a _ ea)
  obtain ⟨o, h1, h2, _⟩ := p
  exact PySem.W.kia_one PySem.W.kitx_tuple I.kIn ⟨o, h1, h2⟩ e (fun z => nomatch z) h
 | @dK a kvs ea =>
  cases (show u = Value.ref a from rx)
  obtain ⟨_, _, vs, _, p⟩ := (show ObjOk X.prog X.w H s.heap a (.dK kvs) from I.hok a _ ea)
  obtain ⟨o, es, ep, h1, h2, _⟩ := p
  exact PySem.W.kia_one PySem.W.kitx_dict I.kIn ⟨o, h1, h2.1⟩ e (fun z => nomatch z) h
 | @dT a kvs ea =>
  cases (show u = Value.ref a from rx)
  obtain ⟨_, _, xs, _, o, es, ep, h1, h2, _⟩ := (show ObjOk X.prog X.w H s.heap a (.dT kvs) from I.hok a _ ea)
  exact PySem.W.kia_one PySem.W.kitx_dict I.kIn ⟨o, h1, h2.1⟩ e (fun z => nomatch z) h
 | @ins a C dx fs ea cl ha hn htk hm =>
  cases (show u = Value.ref a from rx)
  obtain ⟨mA, O, _⟩ := ins_get I.hok ea
  obtain ⟨od, J, _⟩ := O.look
  exact PySem.W.kia_one (PySem.W.kitx_own (cl.get _) cl.hd ha hn htk hm) I.kIn J e (fun z => nomatch z) h
end
end L2
namespace L2
open PySem PySem.Spec PyProof.Rows
structure Room (k : Nat) (A : Around) : Prop where
 hd : A.handled = none
 dp : A.depth + 3 * k + 5 < recursionLimit
 un : A.units + 16 * k + 200 < cLine
 gd : A.guards = some []
theorem Room.mono {j k : Nat} {A : Around} (r : Room k A) (h : j ≤ k) : Room j A := ⟨r.hd, by have := r.dp; omega, by have := r.un; omega, r.gd⟩
theorem Room.deeper {k : Nat} {A : Around} (r : Room (k + 1) A) (env : Env) : Room k (A.deeper env) :=
 ⟨r.hd, by have := r.dp; show A.depth + 1 + 3 * k + 5 < _; omega, by have := r.un; show A.units + 3 + 16 * k + 200 < _; omega, r.gd⟩
theorem make_depth {A : Around} {C : Addr} {us : List Value} {kw : List (Str × Value)} : (A.under (.builtin "type.__call__" ⟨.ref C :: us, kw⟩)).depth = A.depth + 1 := by
 first | rfl | simp [Around.under, Code.weight, Code.isCreation, Code.isGuard, Code.isCaller, Code.frames, Code.isFrame, guardIds]
theorem make_units {A : Around} {C : Addr} {us : List Value} {kw : List (Str × Value)} : (A.under (.builtin "type.__call__" ⟨.ref C :: us, kw⟩)).units = A.units + 1 := by
 first | rfl | simp [Around.under, Code.cUnits, Code.frames, Code.isFrame]
theorem make_guards {A : Around} {C : Addr} {us : List Value} {kw : List (Str × Value)} : (A.under (.builtin "type.__call__" ⟨.ref C :: us, kw⟩)).guards = A.guards := by
 first | rfl | simp [Around.under, Code.guards, Code.isGuard, guardIds, pushGuards]
theorem Room.make {k : Nat} {A : Around} (r : Room (k + 1) A) (C : Addr) (us : List Value) (kw : List (Str × Value)) : Room k (A.under (.builtin "type.__call__" ⟨.ref C :: us, kw⟩)) :=
 ⟨r.hd, by have := r.dp; rw [make_depth]; omega, by have := r.un; rw [make_units]; omega, by rw [make_guards]; exact r.gd⟩
theorem Room.depth {k : Nat} {A : Around} (r : Room k A) : A.depth < recursionLimit := by have := r.dp; omega
theorem Room.units {k : Nat} {A : Around} (r : Room k A) : A.units + 64 < cLine := by have := r.un; omega
def tNil : TA := fun _ H Q => Q [] H
def tCons (ta : TE) (tr : TA) : TA := fun σ H Q => ta σ H fun x H1 => tr σ H1 fun xs H2 => Q (x :: xs) H2
section
variable {X : Cx} {e : Expr} {es : List Expr} {te : TE} {t : TA} {pos : Pos}
theorem pa_nil : PA X [] tNil := fun _ _ _ _ H Q I h => Calls.spliced_nil ⟨[], H, I, .nil, h⟩
theorem pa_cons (ha : PE X e te) (hr : PA X es t) (hs : starEach (e :: es) X.env = (false, eval e X.env) :: starEach es X.env := by rfl) : PA X (e :: es) (tCons te t) := by
 intro pos pins s σ H Q I h
 rw [hs]
 show wpAny _ _ (spliced ((false, eval e X.env) :: backTo pos (starEach es X.env))) _ _ s
 refine Calls.spliced_cons (thn (ha pins s σ H _ I h) fun u s1 ⟨x, H1, I1, r1, q1⟩ => ?_)
 exact thn (hr pos pins s1 σ H1 _ I1 q1) fun us s2 ⟨xs, H2, I2, r2, q2⟩ => ⟨x :: xs, H2, I2, .cons r1 r2, q2⟩
def tTup (t : TA) : TE := fun σ H Q => t σ H fun xs H1 => xs.length ≤ sizeLine /\ ∀ p, H1 p = none -> Q (.ref p) (upd H1 p (.tup xs))
def tLst (t : TA) : TE := fun σ H Q => t σ H fun xs H1 => xs.length ≤ sizeLine /\ ∀ p, H1 p = none -> Q (.ref p) (upd H1 p (.lst xs))
theorem pe_tup {x1} (h : PA X es t) : PE X (.Tuple es x1 pos) (tTup t) := by
 intro pins s σ H Q I hq
 refine wpAny_Tuple_spliced (thn (h pos pins s σ H _ I hq) fun us s1 ⟨xs, H1, I1, r, z, q⟩ => ⟨by rw [← r.length]; exact z, ?_⟩)
 have hf : H1 s1.heap.objs.size = none := I1.hok.fresh (Nat.le_refl _)
 refine ⟨.ref s1.heap.objs.size, upd H1 s1.heap.objs.size (.tup xs), I1.laid (t' := s1.toks) (fun b u e => Heap.get?_push_of_some _ e) (Nat.le_refl _) ?_, rfl, q _ hf⟩
 exact ⟨z, us, r, ⟨_, Heap.get?_push_size _ rfl, rfl, _, rfl⟩⟩
theorem pe_lst (h : PA X es t) : PE X (.List es pos) (tLst t) := by
 intro pins s σ H Q I hq
 refine wpAny_List_spliced (thn (h pos pins s σ H _ I hq) fun us s1 ⟨xs, H1, I1, r, z, q⟩ => ⟨by rw [← r.length]; exact z, ?_⟩)
 have hf : H1 s1.heap.objs.size = none := I1.hok.fresh (Nat.le_refl _)
 refine ⟨.ref s1.heap.objs.size, upd H1 s1.heap.objs.size (.lst xs), I1.laid (t' := s1.toks) (fun b u e => Heap.get?_push_of_some _ e) (Nat.le_refl _) ?_, rfl, q _ hf⟩
 exact ⟨z, us, 0, r, Heap.get?_push_size _ rfl⟩
end
abbrev Sp := List V -> Hp -> VK -> XK -> Prop
abbrev CXT := List Env -> Hp -> Shared -> XK -> Value -> Shared -> Prop
structure Env0 (P : Program) (w : World) (K : PySem.W.Frag) (mg : Str -> Option Value) (base : Heap) (A : Around) (outer : List Env) (s : Shared) (H : Hp) : Prop where
 frames : A.frames = some outer
 mod : Mod K mg base
 bs : ∀ b o, base.get? b = some o -> s.heap.get? b = some o /\ H b = none
 bsz : base.objs.size ≤ s.heap.objs.size
 funs : s.heap.FunFrames base outer
 frf : ∀ b ∈ frs outer, H b = none
 hok : HOk P w H s.heap
 bare : AllBare s.gens
def CE (outer : List Env) (P : Program) (w : World) (H : Hp) (s : Shared) (Q : VK) (u : Value) (s' : Shared) : Prop :=
 ∃ v H', s'.os = s.os /\ AllBare s'.gens /\ Un (frs outer) [] H H' s.heap s'.heap /\ HOk P w H' s'.heap /\ RelV v u /\ Q v H'
def CR (CX : CXT) (outer : List Env) (P : Program) (w : World) (H : Hp) (s : Shared) (Q : VK) (E : XK) (r : Result) (s' : Shared) : Prop :=
 match r with
 | .ok (.ret u) => CE outer P w H s Q u s'
 | .ok _ => False
 | .error e => CX outer H s E e s'
structure FnOk (P : Program) (w : World) (K : PySem.W.Frag) (mg : Str -> Option Value) (base : Heap) (CX : CXT) (k : Nat) (f : Addr) (fd : FuncData) (ps : List Str) (sp : Sp) : Prop where
 len : ∀ vs H Q E, sp vs H Q E -> vs.length = ps.length
 run : ∀ (A : Around) (outer : List Env) (s : Shared) (H : Hp) (args : Args) (us : List Value) (vs : List V) (Q : VK) (E : XK), Room k A -> Env0 P w K mg base A outer s H -> BindsTo s fd args (ps.zip us) -> Vals vs us -> sp vs H Q E →
  codeAny (model P w) A (.call (.ref f) args) (CR CX outer P w H s Q E) s
theorem Env0.make {P : Program} {w : World} {K : PySem.W.Frag} {mg : Str -> Option Value} {base : Heap} {A : Around} {outer : List Env} {s : Shared} {H : Hp} (e : Env0 P w K mg base A outer s H) (C : Addr) (us : List Value) (kw : List (Str × Value)) :
  Env0 P w K mg base (A.under (.builtin "type.__call__" ⟨.ref C :: us, kw⟩)) outer s H := ⟨by first | exact e.frames | (simpa [Around.under, Code.envs, Code.isFrame, pushEnvs] using e.frames), e.mod, e.bs, e.bsz, e.funs, e.frf, e.hok, e.bare⟩
section
variable {X : Cx} {pins : List (Addr × Obj)} {σ : St} {H : Hp} {s s' : Shared}
theorem Inv.env0 (I : Inv X pins σ H s) : Env0 X.prog X.w X.K X.mg X.base X.A X.stack s H :=
 ⟨I.ok.frames, I.ok.mod, I.bs, Nat.le_trans I.ok.bsz I.sz, I.stack, I.stkFree, I.hok, I.bare⟩
theorem Inv.after {Q : VK} {u : Value} (I : Inv X pins σ H s) (h : CE X.stack X.prog X.w H s Q u s') : EP X pins σ Q u s' := by
 obtain ⟨v, H', os, bare, un, hok, r, q⟩ := h
 obtain ⟨hh, g, d, t, os'⟩ := s'
 obtain rfl : os' = s.os := os
 exact ⟨v, H', I.call (h' := hh) (g' := g) (d' := d) (t' := t) (ch := []) un hok bare (fun b z => absurd z (by simp)), r, q⟩
end
def tCall (sp : Sp) (dvs : List V) (E : XK) (t : TA) : TE := fun σ H Q => t σ H fun vs H1 => sp (vs ++ dvs) H1 Q E
def tMeth (C : Addr) (m : Str) (sp : Sp) (dvs : List V) (E : XK) (ta : TE) (t : TA) : TE := fun σ H Q => ta σ H fun x H1 => ∃ a dx fs, x = .ref a /\ H1 a = some (.ins C dx fs) /\ fs.lookup m = none ∧
 t σ H1 fun vs H2 => sp (x :: (vs ++ dvs)) H2 Q E
def tMake (C : Addr) (sp : Sp) (dvs : List V) (E : XK) (t : TA) : TE := fun σ H Q => t σ H fun vs H1 => ∀ x dx, H1 x = none -> H1 dx = none -> dx ≠ x →
 sp (.ref x :: (vs ++ dvs)) (upd (upd H1 dx (.own x)) x (.ins C dx [])) (fun v H2 => v = .non /\ Q (.ref x) H2) E
def Binds (K : PySem.W.Frag) (fd : FuncData) (ps : List Str) (ds : List Value) : Prop :=
 ∀ (s : Shared) (us : List Value), K.In s.heap -> (us ++ ds).length = ps.length -> BindsTo s fd ⟨us, []⟩ (ps.zip (us ++ ds))
theorem Binds.all {K : PySem.W.Frag} {fd : FuncData} {ps : List Str} (h : ∀ us : List Value, us.length = ps.length -> bindArgs fd ⟨us, []⟩ = pure (ps.zip us)) : Binds K fd ps [] := fun s us _ hl => by
 rw [List.append_nil] at hl ⊢
 exact .of_eq (h us hl)
def Passes (CX : CXT) (X : Cx) (E : XK) : Prop := ∀ (pins : List (Addr × Obj)) (σ : St) (H : Hp) (s : Shared) (e : Value) (s' : Shared), Inv X pins σ H s -> CX X.stack H s E e s' -> X.xe e s'
section
variable {X : Cx} {CX : CXT} {k : Nat} {f C : Addr} {fd : FuncData} {ps : List Str} {sp : Sp} {dvs : List V} {ds : List Value} {E : XK} {x m : Str} {p pos apos : Pos} {e o : Expr} {es : List Expr} {ta : TE} {t : TA}
theorem run_fn {pins : List (Addr × Obj)} {σ : St} {H : Hp} {s : Shared} {Q : VK} {us : List Value} {vs : List V} (F : FnOk X.prog X.w X.K X.mg X.base CX k f fd ps sp) (hr : Room k X.A) (hb : Binds X.K fd ps ds) (hd : Vals dvs ds) (hx : Passes CX X E)
  (I : Inv X pins σ H s) (r : Vals vs us) (h : sp (vs ++ dvs) H Q E) : wpAny (model X.prog X.w) X.A (call (.ref f) us) (EP X pins σ Q) X.xe s := by
 have r2 : Vals (vs ++ dvs) (us ++ ds) := r.append hd
 have hl : (us ++ ds).length = ps.length := by rw [← r2.length]; exact F.len _ _ _ _ h
 refine wpAny_call (codeAny_mono (F.run X.A X.stack s H ⟨us, []⟩ (us ++ ds) (vs ++ dvs) Q E hr I.env0 (hb s us I.kIn hl) r2 h) fun r s' hq => ?_)
 cases r with
 | error e => exact hx pins σ H s e s' I hq
 | ok fl =>
  cases fl with
  | ret u => exact I.after hq
  | next => exact False.elim hq
  | brk => exact False.elim hq
  | cont => exact False.elim hq
theorem pe_call (F : FnOk X.prog X.w X.K X.mg X.base CX k f fd ps sp) (hr : Room k X.A) (hg : Gl X x) (hm : X.mg x = some (.ref f)) (hk : PySem.W.keepIn X.K (.ref f) = true) (hb : Binds X.K fd ps ds) (hd : Vals dvs ds) (hx : Passes CX X E)
  (ha : PA X (e :: es) t) (hdb : (x == ("__debug__" : Str)) = false := by decide) (he : starEach (e :: es) X.env = (false, eval e X.env) :: starEach es X.env := by rfl) (hpl : (backTo pos (starEach es X.env)).any (·.1) = false := by rfl) :
  PE X (.Call (.Name x p) (e :: es) [] pos) (tCall sp dvs E t) := by
 intro pins s σ H Q I h
 refine wpAny_Call_Name_kw (ld_glob I hg hm ?_ hdb)
 refine PySem.W.callWith_K (h₀ := X.base) I.ok.mod.kin hk (thn (ha pos pins s σ H _ I h) fun us s1 ⟨vs, H1, I1, r, q⟩ => ⟨I1.kIn, ?_⟩) he hpl
 exact run_fn F hr hb hd hx I1 r q
structure Mk (K : PySem.W.Frag) (C f : Addr) : Prop where
 makes : PySem.W.makesIn K C = true
 init : PySem.W.findIn K (.ref C) "__init__" = some (some (.ref f))
 fn : PySem.W.isFn K (.ref f) = true
 kp : PySem.W.keepIn K (.ref C) = true
end
def PK (X : Cx) (kws : List Keyword) (t : TA) : Prop :=
 ∀ (pos : Pos) (pins : List (Addr × Obj)) (s : Shared) (σ : St) (H : Hp) (Q : List V -> Hp -> Prop), Inv X pins σ H s -> t σ H Q -> wpAny (model X.prog X.w) X.A (evalAll ((backToKw pos (keywordEach kws X.env)).map (·.2))) (AP X pins σ Q) X.xe s
section
variable {X : Cx} {CX : CXT} {k : Nat} {f C : Addr} {fd : FuncData} {ps ks : List Str} {sp : Sp} {E : XK} {x m : Str} {p pos apos kpos : Pos} {e o : Expr} {es : List Expr} {kws : List Keyword} {te ta : TE} {t tk : TA} {nm : Option Str}
structure KBinds (K : PySem.W.Frag) (fd : FuncData) (ps ks : List Str) (g : List Value -> List Value -> List Value) (gV : List V -> List V -> List V) : Prop where
 to : ∀ (s : Shared) (us ws : List Value), K.In s.heap -> (g us ws).length = ps.length -> BindsTo s fd ⟨us, ks.zip ws⟩ (ps.zip (g us ws))
 rel : ∀ {vs : List V} {us : List Value} {zs : List V} {ws : List Value}, Vals vs us -> Vals zs ws -> Vals (gV vs zs) (g us ws)
def tCallK (sp : Sp) (gV : List V -> List V -> List V) (E : XK) (t tk : TA) : TE := fun σ H Q => t σ H fun vs H1 => tk σ H1 fun zs H2 => sp (gV vs zs) H2 Q E
variable {g : List Value -> List Value -> List Value} {gV : List V -> List V -> List V}
end
structure FnScope (N P : List Str) (sc : Scope) : Prop where
 kind : sc.kind = .function
 co : sc.isCoroutine = false
 gen : sc.isGenerator = false
 nd : N.Nodup
 pre : N.take P.length = P
 par : ∀ x ∈ P, sc.names.lookup x = some .local ∨ sc.names.lookup x = some .cell
 nofree : ∀ y ∈ sc.names, y.2 ≠ .free
theorem bindL_out {kindOf : Str -> Option NameKind} {x : Str} : ∀ {binds : List (Str × Value)} {m : Str -> Option Value}, (∀ v, (x, v) ∉ binds) -> bindL kindOf binds m x = m x
 | [], _, _ => rfl
 | (n, v) :: r, m, h => by
  unfold bindL
  rw [bindL_out fun w hw => h w (List.mem_cons_of_mem _ hw)]
  split
  ·have : x ≠ n := by rintro rfl; exact h v List.mem_cons_self
   simp [this]
  ·rfl
theorem bindC_out {kindOf : Str -> Option NameKind} {x : Str} : ∀ {binds : List (Str × Value)} {m : Str -> Option Value}, (∀ v, (x, v) ∉ binds) -> bindC kindOf binds m x = m x
 | [], _, _ => rfl
 | (n, v) :: r, m, h => by
  unfold bindC
  rw [bindC_out fun w hw => h w (List.mem_cons_of_mem _ hw)]
  split
  ·rfl
  ·have : x ≠ n := by rintro rfl; exact h v List.mem_cons_self
   simp [this]
theorem bindL_get {kindOf : Str -> Option NameKind} {x : Str} {v : Value} : ∀ {P : List Str} {vs : List Value} {i : Nat} {m : Str -> Option Value}, P.Nodup -> P[i]? = some x -> vs[i]? = some v -> kindOf x = some .local →
  bindL kindOf (P.zip vs) m x = some v
 | [], _, _, _, _, h, _, _ => by simp at h
 | _ :: _, [], _, _, _, _, h, _ => by simp at h
 | p :: P, w :: vs, 0, m, nd, h1, h2, hk => by
  simp at h1 h2; subst h1; subst h2
  show bindL kindOf ((p, w) :: P.zip vs) m p = _
  unfold bindL
  rw [bindL_out fun v hv => (List.nodup_cons.mp nd).1 (List.of_mem_zip hv).1, if_pos hk]
  simp
 | p :: P, w :: vs, i + 1, m, nd, h1, h2, hk => by
  show bindL kindOf ((p, w) :: P.zip vs) m x = _
  unfold bindL
  exact bindL_get (i := i) (List.nodup_cons.mp nd).2 (by simpa using h1) (by simpa using h2) hk
theorem bindC_get {kindOf : Str -> Option NameKind} {x : Str} {v : Value} : ∀ {P : List Str} {vs : List Value} {i : Nat} {m : Str -> Option Value}, P.Nodup -> P[i]? = some x -> vs[i]? = some v -> kindOf x ≠ some .local →
  bindC kindOf (P.zip vs) m x = some v
 | [], _, _, _, _, h, _, _ => by simp at h
 | _ :: _, [], _, _, _, _, h, _ => by simp at h
 | p :: P, w :: vs, 0, m, nd, h1, h2, hk => by
  simp at h1 h2; subst h1; subst h2
  show bindC kindOf ((p, w) :: P.zip vs) m p = _
  unfold bindC
  rw [bindC_out fun v hv => (List.nodup_cons.mp nd).1 (List.of_mem_zip hv).1, if_neg hk]
  simp
 | p :: P, w :: vs, i + 1, m, nd, h1, h2, hk => by
  show bindC kindOf ((p, w) :: P.zip vs) m x = _
  unfold bindC
  exact bindC_get (i := i) (List.nodup_cons.mp nd).2 (by simpa using h1) (by simpa using h2) hk
def start (N : List Str) (vs : List V) : St := vs.map some ++ List.replicate (N.length - vs.length) none
def cxOf (CX : CXT) (P : Program) (w : World) (K : PySem.W.Frag) (mg : Str -> Option Value) (base : Heap) (N : List Str) (qual : Str) (scope : Scope) (f : Addr) (cd : Value) (A : Around) (outer : List Env) (s : Shared) (H : Hp) (E : XK) : Cx where
 prog := P
 w := w
 K := K
 mg := mg
 base := base
 A := A.deeper (envOfC qual scope s.heap.objs.size f cd)
 N := N
 s₀ := s
 H₀ := H
 env := envOfC qual scope s.heap.objs.size f cd
 outer := outer
 stack := envOfC qual scope s.heap.objs.size f cd :: outer
 ex := []
 calm := true
 fn := fun _ => true
 pn := []
 xe := fun e s' => wpAny (model P w) (A.deeper (envOfC qual scope s.heap.objs.size f cd)) (leaving (envOfC qual scope s.heap.objs.size f cd) e) (fun _ s'' => CX outer H s E e s'') (fun e' s'' => CX outer H s E e' s'') s'
theorem cell_has {sc : Scope} {n : Nat} {x : Str} (h : sc.names.lookup x = some .cell) : ∃ c, (cellsFrom n sc.names []).lookup x = some c := by
 have q := PySem.W.cellsFrom_some sc.names n [] (.inl h)
 exact Option.isSome_iff_exists.mp q
theorem inv_start {CX : CXT} {P : Program} {w : World} {K : PySem.W.Frag} {mg : Str -> Option Value} {base : Heap} {N ps : List Str} {qual : Str} {scope : Scope} {f : Addr} {cd : Value} {A : Around} {outer : List Env} {s s1 : Shared} {H : Hp} {E : XK} {us : List Value} {vs : List V}
  (S : FnScope N ps scope) (hd : A.handled = none) (e0 : Env0 P w K mg base A outer s H) (hl : vs.length = ps.length) (r : Vals vs us)
  (x : InCallC s s.heap.objs.size (bindL (envOfC qual scope s.heap.objs.size f cd).kindOf (ps.zip us) fun _ => none) (cellsFrom (s.heap.objs.size + 1) scope.names []) (bindC (envOfC qual scope s.heap.objs.size f cd).kindOf (ps.zip us) fun _ => none) s1) :
  Inv (cxOf CX P w K mg base N qual scope f cd A outer s H E) [] (start N vs) H s1 := by
 have hpl : ps.length ≤ N.length := by have := congrArg List.length S.pre; rw [List.length_take] at this; omega
 obtain ⟨h1, tk, rfl, hk⟩ := x.done
 have noA : ∀ b : Addr, b ∉ (cxOf CX P w K mg base N qual scope f cd A outer s H E).ex := fun b z => absurd (show b ∈ ([] : List Addr) from z) (by simp)
 refine ⟨⟨e0.mod, S.kind, rfl, rfl, Nat.le_refl _, fun y z c h1 h2 => ?_, fun y hy => ?_, fun y c _ h => ?_, fun _ => hd, Around.frames_deeper e0.frames, .inr ⟨rfl, rfl⟩, fun b z => absurd z (noA b), e0.bs, e0.bsz, fun b _ _ => noA b, fun b z => absurd z (noA b), e0.funs, e0.frf⟩,
  rfl, e0.bare, Un.kept hk, ⟨_, x.toInCall.ns, fun i y v h1 h2 h3 => ?_⟩, fun y c h => ⟨_, x.cell y c h⟩, e0.hok.fresh (Nat.le_refl _), fun y c h => ?_, fun p hp => absurd (show p ∈ ([] : List (Addr × Obj)) from hp) (by simp), e0.hok.kept hk, ?_⟩
 ·exact name_of_addr x.apart (PySem.mem_of_lookup h1) (PySem.mem_of_lookup h2)
 ·have hy : scope.names.lookup y = some .cell ∨ scope.names.lookup y = some .free := hy
  rcases hy with hy | hy
  ·exact cell_has hy
  ·exact absurd rfl (S.nofree _ (PySem.mem_of_lookup hy))
 ·exact Nat.le_of_lt (x.above y c (PySem.mem_of_lookup h))
 ·have hi : i < vs.length := by
   unfold start at h2
   by_cases hi : i < vs.length
   ·exact hi
   ·rw [List.getElem?_append_right (by simpa using hi)] at h2
    rw [List.getElem?_replicate] at h2
    split at h2 <;> cases h2
  have ha : vs[i]? = some v := by
   unfold start at h2
   rw [List.getElem?_append_left (by simpa using hi), List.getElem?_map] at h2
   cases e : vs[i]? with
   | none => rw [e] at h2; cases h2
   | some a => rw [e] at h2; cases h2; rfl
  obtain ⟨u, hu, rv⟩ := r.get ha
  have hp : ps[i]? = some y := by
   rw [← S.pre, List.getElem?_take_of_lt (by omega)]; exact h1
  have ndP : ps.Nodup := by rw [← S.pre]; exact S.nd.sublist (List.take_sublist _ _)
  refine ⟨u, rv, ?_⟩
  rcases S.par y (List.mem_of_getElem? hp) with k | k
  ·exact .inl ⟨k, bindL_get ndP hp hu k⟩
  ·obtain ⟨c, e⟩ := cell_has (n := s.heap.objs.size + 1) k
   refine .inr ⟨.inl k, c, e, ?_⟩
   have q := x.cell y c e
   rw [bindC_get ndP hp hu (by show scope.names.lookup y ≠ _; rw [k]; decide)] at q
   exact q
 ·exact e0.hok.fresh (Nat.le_of_lt (x.above y c (PySem.mem_of_lookup h)))
 ·unfold start
  show _ = N.length
  rw [List.length_append, List.length_map, List.length_replicate]
  omega
theorem fn_of {CX : CXT} {P : Program} {w : World} {K : PySem.W.Frag} {mg : Str -> Option Value} {base : Heap} {k : Nat} {f : Addr} {name qual : Str} {params : Arguments} {body : List Stmt} {scope : Scope} {dV kV doc pm cdv ct oc : Value} {an od : Option Addr}
  {osl : Array (Option Value)} {N ps : List Str} {sp : Sp} (lk : K.lookup f = some ⟨oc, od, .func (PySem.W.fnOf name qual params body scope dV kV doc pm an cdv ct), osl⟩) (hcd : PySem.W.codeIn K cdv qual = true) (S : FnScope N ps scope)
  (len : ∀ vs H Q E, sp vs H Q E -> vs.length = ps.length)
  (hbody : ∀ (A : Around) (outer : List Env) (s : Shared) (H : Hp) (vs : List V) (Q : VK) (E : XK), Room k (A.deeper (envOfC qual scope s.heap.objs.size f cdv)) -> sp vs H Q E →
   ∃ t, PSs (cxOf CX P w K mg base N qual scope f cdv A outer s H E) body t /\ t { nx := fun _ H' => Q .non H', rt := Q } (start N vs) H) :
  FnOk P w K mg base CX (k + 1) f (PySem.W.fnOf name qual params body scope dV kV doc pm an cdv ct) ps sp := by
 refine ⟨len, fun A outer s H args us vs Q E hr e0 hb r hsp => ?_⟩
 have hl := len _ _ _ _ hsp
 have KX : K.In s.heap := e0.mod.kin.keeps fun b o e => (e0.bs b o e).1
 have lim : s.heap.NoLimit := e0.mod.nolimit.keeps fun b o e => (e0.bs b o e).1
 have hkind : ∀ y ∈ ps.zip us, scope.names.lookup y.1 = some .local ∨ (scope.names.lookup y.1 = some .cell /\ ((cellsFrom (s.heap.objs.size + 1) scope.names []).lookup y.1).isSome = true) := fun ⟨n, v⟩ hy => by
  rcases S.par n (List.of_mem_zip hy).1 with q | q
  ·exact .inl q
  ·exact .inr ⟨q, PySem.W.cellsFrom_some _ _ _ (.inl q)⟩
 refine codeAny_call_function hr.depth (KX _ _ lk) rfl S.co S.gen rfl (PySem.W.codeRec_of KX hcd) (hb _ _ _ _ ?_)
 refine wpAny_newFunctionEnv_cells S.kind hkind fun env he s1 x => ?_
 subst he
 refine ⟨lim.keeps x.toInCall.keep, codeAny_func ?_⟩
 obtain ⟨t, ht, hq⟩ := hbody A outer s H vs Q E (hr.deeper _) hsp
 have I : Inv (cxOf CX P w K mg base N qual scope f cdv A outer s H E) [] (start N vs) H s1 := inv_start S hr.hd e0 hl r x
 refine wpAny_mono (ht [] s1 (start N vs) H _ I hq) (fun fl s' hs => ?_) fun e s' hs => hs
 have fin : ∀ {σ' : St} {H' : Hp} {v : V} {u : Value}, Inv (cxOf CX P w K mg base N qual scope f cdv A outer s H E) [] σ' H' s' -> RelV v u -> Q v H' -> CE outer P w H s Q u s' :=
  fun {σ' H' v u} J rv q => ⟨v, H', J.os, J.bare, J.base, J.hok, rv, q⟩
 cases fl with
 | ret u =>
  obtain ⟨v, σ', H', J, rv, q⟩ := hs
  exact fin J rv q
 | next =>
  obtain ⟨σ', H', J, q⟩ := hs
  exact fin (v := V.non) (u := Value.none) J rfl q
 | brk =>
  obtain ⟨_, _, _, q⟩ := hs
  exact False.elim q
 | cont =>
  obtain ⟨_, _, _, q⟩ := hs
  exact False.elim q
end L2
namespace L2
open PySem PySem.Spec PyProof.Rows
section
variable {X : Cx} {x : Str} {p pos : Pos} {e : Expr} {es : List Expr} {t : TA} {id T : String} {r : List V -> Hp -> VK -> Prop}
def tCB (r : List V -> Hp -> VK -> Prop) (t : TA) : TE := fun σ H Q => t σ H fun vs H1 => r vs H1 Q
theorem pe_callB (hc : CallR X (.builtin id) r) (hg : Gl X x) (hm : X.mg x = none) (hv : bootBuiltins x = some (.builtin id)) (ha : PA X (e :: es) t) (hn : x ≠ "__name__" := by decide) (hdb : (x == ("__debug__" : Str)) = false := by decide)
  (he : starEach (e :: es) X.env = (false, eval e X.env) :: starEach es X.env := by rfl) (hpl : (backTo pos (starEach es X.env)).any (·.1) = false := by rfl) : PE X (.Call (.Name x p) (e :: es) [] pos) (tCB r t) := by
 intro pins s σ H Q I h
 refine wpAny_Call_Name_kw (ld_blt I hg hm hv ?_ hn hdb)
 exact PyProof.Rows.callWith_builtin1 (thn (ha pos pins s σ H _ I h) fun us s1 ⟨vs, H1, I1, r1, q1⟩ => hc pins s1 σ H1 vs us Q I1 r1 q1) he hpl
theorem pe_callTy (hc : CallR X (.type T) r) (hg : Gl X x) (hm : X.mg x = none) (hv : bootBuiltins x = some (.type T)) (ha : PA X (e :: es) t) (hn : x ≠ "__name__" := by decide) (hdb : (x == ("__debug__" : Str)) = false := by decide)
  (he : starEach (e :: es) X.env = (false, eval e X.env) :: starEach es X.env := by rfl) (hpl : (backTo pos (starEach es X.env)).any (·.1) = false := by rfl) : PE X (.Call (.Name x p) (e :: es) [] pos) (tCB r t) := by
 intro pins s σ H Q I h
 refine wpAny_Call_Name_kw (ld_blt I hg hm hv ?_ hn hdb)
 exact PyProof.Rows.callWith_type1 (thn (ha pos pins s σ H _ I h) fun us s1 ⟨vs, H1, I1, r1, q1⟩ => hc pins s1 σ H1 vs us Q I1 r1 q1) he hpl
end
end L2
namespace HT
open PySem PyProof.Rows
def lexLt : List Int -> List Int -> Bool
 | [], [] => false
 | [], _ :: _ => true
 | _ :: _, [] => false
 | x :: xs, y :: ys => if x = y then lexLt xs ys else decide (x < y)
section
open PySem.SeqAt
open PySem.AutoSeq1 (wpAny_loadPart')
open PySem.MeetsSeq PySem.MeetsSeq2 PySem.MeetsSeq3
end
section
variable {prog : Program} {w : World} {A : Around} {E : Value -> Shared -> Prop} {s : Shared}
def sIx (n d : Nat) : Option Int -> Nat
 | none => d
 | some v => if v < 0 then (v + (n : Int)).toNat else min v.toNat n
theorem sIx_none (n d : Nat) : sIx n d none = d := rfl
theorem sIx_nat (n d k : Nat) : sIx n d (some (k : Int)) = min k n := by
 show (if (k : Int) < 0 then ((k : Int) + (n : Int)).toNat else min (k : Int).toNat n) = min k n
 rw [if_neg (by omega), Int.toNat_natCast]
theorem sIx_le (n d : Nat) (hd : d ≤ n) (o : Option Int) : sIx n d o ≤ n := by
 cases o with
 | none => exact hd
 | some v =>
  show (if v < 0 then (v + (n : Int)).toNat else min v.toNat n) ≤ n
  by_cases hv : v < 0
  ·rw [if_pos hv]; omega
  ·rw [if_neg hv]; exact Nat.min_le_right _ _
theorem clip_eq (v : Int) (n d : Nat) : (if v < 0 then max (v + (n : Int)) 0 else min v (n : Int)) = ((sIx n d (some v) : Nat) : Int) := by
 show (if v < 0 then max (v + (n : Int)) 0 else min v (n : Int)) = (((if v < 0 then (v + (n : Int)).toNat else min v.toNat n) : Nat) : Int)
 by_cases hv : v < 0
 ·simp only [if_pos hv]; omega
 ·simp only [if_neg hv]; omega
theorem adjust_gen (lo hi : Option Int) (n : Nat) : Builtin.Slice.sliceAdjust lo hi 1 (n : Int) = (((sIx n 0 lo : Nat) : Int), ((sIx n n hi : Nat) : Int)) := by
 have h1 : ¬ ((1 : Int) < 0) := by omega
 unfold Builtin.Slice.sliceAdjust
 simp only [h1, if_false]
 refine Prod.ext ?_ ?_
 ·cases lo with
  | none => rfl
  | some v => exact clip_eq v n 0
 ·cases hi with
  | none => rfl
  | some v => exact clip_eq v n n
theorem places_gen (i j : Nat) : Builtin.Slice.slicePlaces (i : Int) (j : Int) 1 = j - i := by
 unfold Builtin.Slice.slicePlaces
 have h1 : (1 : Int) > 0 := by omega
 simp only [h1, if_true, Int.ediv_one]
 split <;> omega
theorem slicePart_ {v : Value} {o : Option Int} {Q : Option Int -> Shared -> Prop} (p : IsPart v o) (h : Q o s) : wpAny (model prog w) A (Builtin.Slice.slicePartIndex v) Q E s := by
 cases p with
 | none => exact slicePart_none h
 | int i t => exact slicePart_int h
theorem sliceApplied_gen {sl : Addr} {vl vu : Value} {lo hi : Option Int} {n : Nat} {Q : Int × Int × Nat -> Shared -> Prop} (hs : s.heap.IsSliceOf sl vl vu .none) (pl : IsPart vl lo) (pu : IsPart vu hi)
  (h : Q (((sIx n 0 lo : Nat) : Int), 1, sIx n n hi - sIx n 0 lo) s) : wpAny (model prog w) A (Builtin.Slice.sliceApplied (.ref sl) (pure (n : Int))) Q E s := by
 obtain ⟨os, hos, hcs, hds⟩ := id hs
 unfold Builtin.Slice.sliceApplied Builtin.Slice.sliceFields
 refine wpAny_bind (wpAny_bind (wpAny_field hos hds (x := vl) rfl (wpAny_bind (wpAny_field hos hds (x := vu) rfl (wpAny_bind (wpAny_field hos hds (x := .none) rfl (wpAny_pure ?_)))))))
 refine wpAny_bind (slicePart_none ?_)
 show wpAny _ _ (if ((1 : Int) == 0) = true then _ else _) _ _ s
 rw [if_neg (by decide)]
 refine wpAny_bind (slicePart_ pl (wpAny_bind (slicePart_ pu (wpAny_bind (wpAny_pure ?_)))))
 show wpAny _ _ (match Builtin.Slice.sliceAdjust lo hi 1 (n : Int) with | (lo, hi) => pure (lo, (1 : Int), Builtin.Slice.slicePlaces lo hi 1)) _ _ s
 rw [adjust_gen lo hi n]
 show wpAny _ _ (pure (((sIx n 0 lo : Nat) : Int), (1 : Int), Builtin.Slice.slicePlaces ((sIx n 0 lo : Nat) : Int) ((sIx n n hi : Nat) : Int) 1)) _ _ s
 rw [places_gen]
 exact wpAny_pure h
theorem pick_gen (xs : Array Value) (i k : Nat) : ((List.range k).filterMap fun (m : Nat) => xs[((i : Int) + (m : Int) * 1).toNat]?).toArray = ((xs.toList.drop i).take k).toArray := by
 have e : (fun (m : Nat) => xs[((i : Int) + (m : Int) * 1).toNat]?) = fun m => xs[i + m]? := by
  funext m
  have : ((i : Int) + (m : Int) * 1).toNat = i + m := by omega
  rw [this]
 rw [e]
 have := pick_run xs i k
 rw [List.filterMap_map] at this
 have e2 : ((fun x => xs[x]?) ∘ fun x => i + x) = fun m => xs[i + m]? := rfl
 rw [e2] at this
 rw [this]
theorem getItem_tuple_cut {t sl : Addr} {items : Array Value} {vl vu : Value} {lo hi : Option Int} {Q : Value -> Shared -> Prop} (ht : IsTup s.heap t items) (hs : s.heap.IsSliceOf sl vl vu .none) (pl : IsPart vl lo) (pu : IsPart vu hi)
  (hw : ¬ (sIx items.size 0 lo = 0 /\ sIx items.size items.size hi = items.size))
  (h : Q (.ref s.heap.objs.size) { s with heap := s.heap.push { cls := .type "tuple", data := .seq ((items.toList.drop (sIx items.size 0 lo)).take (sIx items.size items.size hi - sIx items.size 0 lo)).toArray } })
  (hsz : items.size ≤ sizeLine) : wpAny (model prog w) A (getItem (.ref t) (.ref sl)) Q E s := by
 have htake : sizeOk (.seq ((items.toList.drop (sIx items.size 0 lo)).take (sIx items.size items.size hi - sIx items.size 0 lo)).toArray) := by
  show ((items.toList.drop (sIx items.size 0 lo)).take (sIx items.size items.size hi - sIx items.size 0 lo)).toArray.size ≤ sizeLine
  rw [List.size_toArray, List.length_take, List.length_drop, Array.length_toList]
  omega
 have hj : sIx items.size items.size hi ≤ items.size := sIx_le _ _ (Nat.le_refl _) hi
 obtain ⟨os, hos, hcs, hds⟩ := id hs
 have hTs : s.TypeIs (.ref sl) "slice" := ⟨os, hos, hcs⟩
 unfold getItem
 try with_reducible refine wpAny_holding ?_
 first | refine wpAny_bind (wpAny_pure ?_) | skip
 refine wpAny_bind (wpAny_sequenceKey ht.typeIs (by decide) ?_)
 refine wpAny_bind (wpAny_callSpecial?_slot (name := Str.ofString "__getitem__") ht.typeIs PyProof.Rows.slot_tuple_getitem
  (wpAny_call_entry PyProof.Rows.slot_tuple_getitem ht.typeIs entry_tuple_getitem ?_ (args_tuple_getitem _ _)))
 show wpAny _ _ (Builtin.Tuple.tupleItemsOf (.ref t) >>= _) _ _ s
 refine wpAny_bind (tupleItemsOf_ ht ?_)
 refine wpAny_bind (wpAny_typeOf hTs ?_)
 rw [if_pos (by decide)]
 refine wpAny_bind (sliceApplied_gen hs pl pu ?_)
 have hno : ¬ ((((sIx items.size 0 lo : Nat) : Int) == 0 && (1 : Int) == 1 && (sIx items.size items.size hi - sIx items.size 0 lo) == items.size) = true) := by
  intro q
  rw [Bool.and_eq_true, Bool.and_eq_true] at q
  have q1 : ((sIx items.size 0 lo : Nat) : Int) = 0 := eq_of_beq q.1.1
  have q2 : sIx items.size items.size hi - sIx items.size 0 lo = items.size := eq_of_beq q.2
  exact hw ⟨by omega, by omega⟩
 show wpAny _ _ (if (((sIx items.size 0 lo : Nat) : Int) == 0 && (1 : Int) == 1 && (sIx items.size items.size hi - sIx items.size 0 lo) == items.size) = true then _ else _) _ _ s
 rw [if_neg hno, pick_gen]
 first
  | exact wpAny_bind (m := Builtin.Tuple.tupleExact _) (wpAny_newObj_type (wpAny_pure ⟨_, rfl, wpAny_pure h⟩) htake)
  | exact wpAny_bind (m := Builtin.Tuple.tupleExact _) (wpAny_newObj_type (wpAny_bind (wpAny_pure (wpAny_pure ⟨_, rfl, wpAny_pure h⟩))) htake)
  | exact wpAny_bind (wpAny_bind (m := Builtin.Tuple.tupleExact _) (wpAny_newObj_type (wpAny_pure (wpAny_pure ⟨_, rfl, wpAny_pure h⟩)) htake))
  | exact wpAny_bind (wpAny_bind (m := Builtin.Tuple.tupleExact _) (wpAny_newObj_type (wpAny_pure ⟨_, rfl, wpAny_pure h⟩) htake))
end
end HT
namespace L2
open PySem PySem.Spec PyProof.Rows
abbrev TO := St -> Hp -> (Option Int -> Hp -> Prop) -> Prop
def PO (X : Cx) (e : Option Expr) (t : TO) : Prop :=
 ∀ (pins : List (Addr × Obj)) (s : Shared) (σ : St) (H : Hp) (Q : Option Int -> Hp -> Prop), Inv X pins σ H s -> t σ H Q →
  wpAny (model X.prog X.w) X.A (evalPart e X.env) (fun u s' => ∃ o H', Inv X pins σ H' s' /\ IsPart u o /\ Q o H') X.xe s
def tNoPart : TO := fun _ H Q => Q none H
def tPart (t : TE) : TO := fun σ H Q => t σ H fun x H1 => ∃ i, x = .int i /\ Q (some i) H1
section
variable {X : Cx} {e : Expr} {te : TE} {lo hi : Option Expr} {tl th : TO} {pos p2 : Pos}
theorem po_none : PO X none tNoPart := by
 intro pins s σ H Q I h
 rw [evalPart_none]
 exact wpAny_pure ⟨none, H, I, .none, h⟩
theorem po_some (h : PE X e te) : PO X (some e) (tPart te) := by
 intro pins s σ H Q I hw
 rw [evalPart_some]
 refine thn (h pins s σ H _ I hw) fun u s1 ⟨x, H1, I1, r1, q1⟩ => ?_
 obtain ⟨i, rfl, q⟩ := q1
 obtain ⟨t, rfl⟩ := r1
 exact ⟨some i, H1, I1, .int i t, q⟩
def SlR (X : Cx) (r : V -> Option Int -> Option Int -> Hp -> VK -> Prop) : Prop :=
 ∀ (pins : List (Addr × Obj)) (s : Shared) (σ : St) (H : Hp) (x : V) (v vl vu : Value) (lo hi : Option Int) (sl : Addr) (Q : VK), Inv X pins σ H s -> RelV x v -> s.heap.IsSliceOf sl vl vu .none -> IsPart vl lo -> IsPart vu hi -> r x lo hi H Q →
  ∃ T id, typeLookup (.type T) "__getitem__" = pure (some (.builtin id)) /\ s.TypeIs v T /\ wpAny (model X.prog X.w) X.A (getItem v (.ref sl)) (EP X pins σ Q) X.xe s
theorem SlR.or {r r' : V -> Option Int -> Option Int -> Hp -> VK -> Prop} (h : SlR X r) (h' : SlR X r') : SlR X (fun x lo hi H Q => r x lo hi H Q ∨ r' x lo hi H Q) := by
 intro pins s σ H x v vl vu lo hi sl Q I rx hs pl pu q
 rcases q with q | q
 ·exact h pins s σ H x v vl vu lo hi sl Q I rx hs pl pu q
 ·exact h' pins s σ H x v vl vu lo hi sl Q I rx hs pl pu q
def tSl (r : V -> Option Int -> Option Int -> Hp -> VK -> Prop) (te : TE) (tl th : TO) : TE := fun σ H Q => te σ H fun x H1 => tl σ H1 fun l H2 => th σ H2 fun u H3 => r x l u H3 Q
theorem pe_slice {r : V -> Option Int -> Option Int -> Hp -> VK -> Prop} (hr : SlR X r) (he : PE X e te) (hl : PO X lo tl) (hu : PO X hi th) : PE X (.Subscript e (.Slice lo hi none p2) pos) (tSl r te tl th) := by
 intro pins s σ H Q I h
 refine Subscript_ (thn (he pins s σ H _ I h) fun v s1 ⟨x, H1, I1, r1, q1⟩ => ?_)
 refine wpAny_Slice (thn (hl pins s1 σ H1 _ I1 q1) fun vl s2 ⟨l, H2, I2, pl, q2⟩ => thn (hu pins s2 σ H2 _ I2 q2) fun vu s3 ⟨u, H3, I3, pu, q3⟩ => ?_)
 rw [evalPart_none]
 refine wpAny_pure ?_
 have I4 : Inv X pins σ H3 { s3 with heap := s3.heap.push { cls := .type "slice", data := .fields #[vl, vu, .none] } } := I3.kept (t' := s3.toks) fun b ob q => Heap.get?_push_of_some _ q
 obtain ⟨T, id, hT, ht, hg⟩ := hr pins { s3 with heap := s3.heap.push { cls := .type "slice", data := .fields #[vl, vu, .none] } } σ H3 x v vl vu l u s3.heap.objs.size Q I4 r1 (Heap.IsSliceOf.new ..) pl pu q3
 show wpAny (model X.prog X.w) X.A (subscriptTail e (.Slice lo hi none p2) v (.ref s3.heap.objs.size)) (EP X pins σ Q) X.xe { s3 with heap := s3.heap.push { cls := .type "slice", data := .fields #[vl, vu, .none] } }
 exact tail_any (ops := [.ref s3.heap.objs.size, v]) ht hT hg (by with_unfolding_all rfl)
def cutV (xs : List V) (lo hi : Option Int) : List V := (xs.drop (HT.sIx xs.length 0 lo)).take (HT.sIx xs.length xs.length hi - HT.sIx xs.length 0 lo)
theorem cutV_length (xs : List V) (lo hi : Option Int) : (cutV xs lo hi).length ≤ xs.length := by
 unfold cutV
 rw [List.length_take, List.length_drop]
 omega
def rSlT (K : PySem.W.Frag) : V -> Option Int -> Option Int -> Hp -> VK -> Prop := fun x lo hi H Q => ∃ a xs, x = .ref a /\ SqT K H a xs ∧
 ¬ (HT.sIx xs.length 0 lo = 0 /\ HT.sIx xs.length xs.length hi = xs.length) /\ ∀ p, H p = none -> Q (.ref p) (upd H p (.tup (cutV xs lo hi)))
theorem sl_tup : SlR X (rSlT X.K) := by
 intro pins s σ H x v vl vu lo hi sl Q I rx hs pl pu h
 obtain ⟨a, xs, rfl, hx, hw, q⟩ := h
 cases rx
 obtain ⟨its, r, ht, hz⟩ := I.tuple hx
 have hlen : its.toArray.size = xs.length := by rw [List.size_toArray]; exact r.length.symm
 refine ⟨"tuple", _, PyProof.Rows.slot_tuple_getitem.lookup, ht.typeIs, ?_⟩
 refine HT.getItem_tuple_cut ht hs pl pu (by rw [hlen]; exact hw) ?_ (by rw [hlen]; exact hz)
 rw [hlen]
 refine ⟨.ref s.heap.objs.size, _, I.laid (t' := s.toks) (o := .tup (cutV xs lo hi)) (fun b ob q => Heap.get?_push_of_some _ q) (Nat.le_refl _) ?_, rfl, q _ (I.hok.fresh (Nat.le_refl _))⟩
 exact ⟨Nat.le_trans (cutV_length xs lo hi) hz, _, (r.drop (HT.sIx xs.length 0 lo)).take (HT.sIx xs.length xs.length hi - HT.sIx xs.length 0 lo), IsTup.new _ _⟩
def rLtT (K : PySem.W.Frag) : R2 := fun x y H Q => ∃ a b ns ms, x = .ref a /\ y = .ref b /\ SqT K H a (ns.map V.int) /\ SqT K H b (ms.map V.int) /\ Q (.bl (HT.lexLt ns ms)) H
def rCatT (K : PySem.W.Frag) : R2 := fun x y H Q => ∃ a b xs ys, x = .ref a /\ y = .ref b /\ SqT K H a xs /\ SqT K H b ys /\ xs ≠ [] /\ xs.length + ys.length ≤ sizeLine ∧
 (ys = [] -> Q (.ref a) H) /\ (ys ≠ [] -> ∀ p, H p = none -> Q (.ref p) (upd H p (.tup (xs ++ ys))))
end
end L2
namespace L2
open PySem PySem.Spec PyProof.Rows
def ixN (n : Nat) (i : Int) : Option Nat := if 0 ≤ i then (if i < n then some i.toNat else none) else if -(n : Int) ≤ i then some (i + n).toNat else none
def atI {α : Type} (xs : List α) (i : Int) : Option α := (ixN xs.length i).bind fun j => xs[j]?
theorem ixN_seq {n : Nat} {i : Int} {j : Nat} (h : ixN n i = some j) : seqIndex? i n = some j /\ j < n /\ -(n : Int) ≤ i /\ i < n := by
 unfold ixN at h
 by_cases h0 : 0 ≤ i
 ·rw [if_pos h0] at h
  by_cases h1 : i < n
  ·rw [if_pos h1] at h
   have e : i.toNat = j := Option.some.inj h
   exact ⟨by rw [seqIndex_of h0 h1, e], by omega, by omega, h1⟩
  ·rw [if_neg h1] at h; cases h
 ·rw [if_neg h0] at h
  by_cases h1 : -(n : Int) ≤ i
  ·rw [if_pos h1] at h
   have e : (i + n).toNat = j := Option.some.inj h
   exact ⟨by rw [seqIndex_neg (by omega) h1, e], by omega, h1, by omega⟩
  ·rw [if_neg h1] at h; cases h
theorem atI_get {α : Type} {xs : List α} {i : Int} {v : α} (h : atI xs i = some v) : ∃ j, seqIndex? i xs.length = some j /\ xs[j]? = some v /\ j < xs.length /\ -(xs.length : Int) ≤ i /\ i < xs.length := by
 unfold atI at h
 cases e : ixN xs.length i with
 | none => rw [e] at h; cases h
 | some j =>
  rw [e] at h
  obtain ⟨h1, h2, h3, h4⟩ := ixN_seq e
  exact ⟨j, h1, h, h2, h3, h4⟩
theorem atI_nat {α : Type} {xs : List α} {j : Nat} {v : α} (h : xs[j]? = some v) : atI xs (j : Int) = some v := by
 have hj : j < xs.length := (List.getElem?_eq_some_iff.mp h).1
 have e : ixN xs.length (j : Int) = some j := by
  unfold ixN
  rw [if_pos (by omega), if_pos (by omega)]; simp
 unfold atI; rw [e]; exact h
theorem atI_last {α : Type} (xs : List α) (v : α) : atI (xs ++ [v]) (-1) = some v := by
 have hl : (xs ++ [v]).length = xs.length + 1 := by simp
 have e : ixN (xs ++ [v]).length (-1) = some xs.length := by
  unfold ixN
  rw [hl, if_neg (by decide), if_pos (by omega)]
  congr 1
  omega
 unfold atI
 rw [e]
 show (xs ++ [v])[xs.length]? = some v
 simp
def PlainIx (b : Expr) : Prop := ∀ o i, subscripted b false o i = operate [o, i] (getItem o i)
def IxR (X : Cx) (r : R2) : Prop :=
 ∀ (value slice : Expr) (pins : List (Addr × Obj)) (s : Shared) (σ : St) (H : Hp) (x y : V) (v u : Value) (Q : VK), Inv X pins σ H s -> RelV x v -> RelV y u -> r x y H Q →
  subscripted slice false v u = operate [v, u] (getItem v u) -> wpAny (model X.prog X.w) X.A (subscriptTail value slice v u) (EP X pins σ Q) X.xe s
def MtR (X : Cx) (id : String) (r : V -> List V -> Hp -> VK -> Prop) : Prop :=
 ∀ (pins : List (Addr × Obj)) (s : Shared) (σ : St) (H : Hp) (x : V) (xs : List V) (v : Value) (us : List Value) (Q : VK), Inv X pins σ H s -> RelV x v -> Vals xs us -> r x xs H Q →
  wpAny (model X.prog X.w) X.A (call (.builtin id) (v :: us)) (EP X pins σ Q) X.xe s
section
variable {X : Cx} {a b : Expr} {ta tb : TE} {pos : Pos}
theorem pe_ix {r : R2} (hr : IxR X r) (ha : PE X a ta) (hb : PE X b tb) (hs : PlainIx b) : PE X (.Subscript a b pos) (tOp r ta tb) := by
 intro pins s σ H Q I h
 exact Subscript_ (binT ha hb I h fun v u s2 x y H2 I2 rx ry q => hr a b pins s2 σ H2 x y v u Q I2 rx ry q (hs _ _))
def rIxL (K : PySem.W.Frag) : R2 := fun x y H Q => ∃ p xs i v, x = .ref p /\ y = .int i /\ SqL K H p xs /\ atI xs i = some v /\ Q v H
def rIxT (K : PySem.W.Frag) : R2 := fun x y H Q => ∃ p xs i v, x = .ref p /\ y = .int i /\ SqT K H p xs /\ atI xs i = some v /\ Q v H
def rIxS : R2 := fun x y H Q => ∃ z i c, x = .str z /\ y = .int i /\ z.length ≤ sizeLine /\ atI z.cps.toList i = some c /\ Q (.str ⟨#[c]⟩) H
theorem ix_list : IxR X (rIxL X.K) := by
 intro value slice pins s σ H x y v u Q I rx ry h hs
 obtain ⟨p, xs, i, z, rfl, rfl, hq, he, q⟩ := h
 cases rx
 obtain ⟨t, rfl⟩ := ry
 obtain ⟨its, r, pl, hz⟩ := I.list hq
 obtain ⟨j, h1, h2, h3, h4, h5⟩ := atI_get he
 obtain ⟨w, ew, rw'⟩ := r.get h2
 have hl := r.length
 have hn := line63
 have fin : EP X pins σ Q w s := ⟨z, H, I, rw', q⟩
 by_cases h0 : 0 ≤ i
 ·have hj : i.toNat = j := by
   rw [seqIndex_of h0 h5] at h1
   exact Option.some.inj h1
  exact item_listR pl.isList h0 (by omega) (by rw [hj]; simpa using ew) fin hs
 ·have hj : (i + (its.toArray.size : Int)).toNat = j := by
   rw [seqIndex_neg (by omega) h4] at h1
   rw [List.size_toArray, ← hl]
   exact Option.some.inj h1
  exact subscriptTail_builtinR (x := w) pl.isList.typeIs slot_list_getitem.lookup
   (wpAny_getItem_list_neg (Q := fun r s' => r = w /\ EP X pins σ Q r s') pl.isList (by omega) (by rw [List.size_toArray] <;> omega) (by omega) (by rw [hj]; simpa using ew) ⟨rfl, fin⟩) hs
theorem ix_tup : IxR X (rIxT X.K) := by
 intro value slice pins s σ H x y v u Q I rx ry h hs
 obtain ⟨p, xs, i, z, rfl, rfl, hq, he, q⟩ := h
 cases rx
 obtain ⟨t, rfl⟩ := ry
 obtain ⟨its, r, pl, hz⟩ := I.tuple hq
 obtain ⟨j, h1, h2, h3, h4, h5⟩ := atI_get he
 obtain ⟨w, ew, rw'⟩ := r.get h2
 have hl := r.length
 have hn := line63
 have fin : EP X pins σ Q w s := ⟨z, H, I, rw', q⟩
 exact subscriptTail_builtinR (x := w) pl.typeIs slot_tuple_getitem.lookup
  (getItem_tuple (j := j) (Q := fun r s' => r = w /\ EP X pins σ Q r s') pl (by omega) (by omega) (by rw [List.size_toArray, ← hl]; exact h1) (by simpa using ew) ⟨rfl, fin⟩) hs
def rIx (K : PySem.W.Frag) : R2 := fun x y H Q => rIxL K x y H Q ∨ rIxT K x y H Q ∨ rIxS x y H Q
theorem mapSeq_set (its : List Value) (n j : Nat) (u : Value) : Obj.mapSeq (·.setIfInBounds j u) { cls := .type "list", data := .seq its.toArray n } = { cls := .type "list", data := .seq (its.set j u).toArray n } := by
 simp [Obj.mapSeq]
theorem Inv.lst {pins : List (Addr × Obj)} {σ : St} {H : Hp} {s : Shared} {p : Addr} {xs : List V} (I : Inv X pins σ H s) (h : H p = some (.lst xs)) :
  ∃ (its : List Value) (n : Nat), Vals xs its /\ s.heap.get? p = some { cls := .type "list", data := .seq its.toArray n } /\ xs.length ≤ sizeLine := by
 obtain ⟨z, its, n, r, e⟩ := I.hok p _ h
 exact ⟨its, n, r, e, z⟩
theorem Inv.lstUpd {pins : List (Addr × Obj)} {σ : St} {H : Hp} {s : Shared} {p : Addr} {xs ys : List V} {its its' : List Value} {n n' : Nat} {f : Obj -> Obj} (I : Inv X pins σ H s) (h : H p = some (.lst xs))
  (ho : s.heap.get? p = some { cls := .type "list", data := .seq its.toArray n }) (hf : f { cls := .type "list", data := .seq its.toArray n } = { cls := .type "list", data := .seq its'.toArray n' }) (r : Vals ys its') (hz : ys.length ≤ sizeLine) (t : Nat) :
  Inv X pins σ (upd H p (.lst ys)) { s with heap := s.heap.update p f, toks := t } := by
 have e : (s.heap.update p f).get? p = some { cls := .type "list", data := .seq its'.toArray n' } := by
  rw [Heap.get?_update_self f ho (by rw [hf] <;> rfl), hf]
 refine I.write (x := p) (e := p) (by rw [h]; trivial) (.inl rfl) (fun b u hb q => (Heap.get?_update_other _ _ (Ne.symm hb)).trans q) ⟨_, e⟩ ?_
 exact ⟨hz, its', n', r, e⟩
def rSetL : V -> V -> V -> Hp -> (Hp -> Prop) -> Prop := fun o i v H Q => ∃ p xs k j, o = .ref p /\ i = .int k /\ H p = some (.lst xs) /\ ixN xs.length k = some j /\ Q (upd H p (.lst (xs.set j v)))
theorem set_list : PSet X rSetL := by
 intro pins s σ H o i v ov iv u Q I ro ri rv h
 obtain ⟨p, xs, k, j, rfl, rfl, hp, hj, q⟩ := h
 cases ro
 obtain ⟨t, rfl⟩ := ri
 obtain ⟨its, n, r, ho, hz⟩ := I.lst hp
 obtain ⟨h1, h2, h3, h4⟩ := ixN_seq hj
 have hl := r.length
 have hn := line63
 have I' : Inv X pins σ (upd H p (.lst (xs.set j v))) { s with heap := s.heap.update p (Obj.mapSeq (·.setIfInBounds j u)) } :=
  I.lstUpd hp ho (mapSeq_set its n j u) (r.set rv j) (by rw [List.length_set]; exact hz) s.toks
 by_cases h0 : 0 ≤ k
 ·have hk : k.toNat = j := by
   rw [seqIndex_of h0 h4] at h1
   exact Option.some.inj h1
  exact PySem.W.ki_setAt ho h0 (by omega) (by rw [List.size_toArray, ← hl]; exact h4) (by rw [hk]; exact ⟨_, I', q⟩)
 ·have hk : (k + (its.toArray.size : Int)).toNat = j := by
   rw [seqIndex_neg (by omega) h3] at h1
   rw [List.size_toArray, ← hl]
   exact Option.some.inj h1
  exact PySem.W.ki_setBack ho (by omega) (by rw [List.size_toArray, ← hl]; exact h3) (by omega) (by rw [hk]; exact ⟨_, I', q⟩)
theorem slice_bounds (lo hi : Option Int) (n : Nat) : (sliceBounds lo hi none n).1 = ((HT.sIx n 0 lo : Nat) : Int) /\ (sliceBounds lo hi none n).2.1 = ((HT.sIx n n hi : Nat) : Int) /\ (sliceBounds lo hi none n).2.2 = 1 := by
 refine ⟨?_, ?_, rfl⟩
 ·cases lo with
  | none => simp [sliceBounds, HT.sIx]
  | some i =>
   simp only [sliceBounds, HT.sIx, Option.getD_none, show (1 : Int) > 0 by decide, if_true]
   by_cases h : i < 0
   ·simp only [h, if_true] <;> omega
   ·simp only [h, if_false] <;> omega
 ·cases hi with
  | none => simp [sliceBounds, HT.sIx]
  | some i =>
   simp only [sliceBounds, HT.sIx, Option.getD_none, show (1 : Int) > 0 by decide, if_true]
   by_cases h : i < 0
   ·simp only [h, if_true] <;> omega
   ·simp only [h, if_false] <;> omega
theorem slicePick_cut (its : List Value) (lo hi : Option Int) : slicePick its.toArray lo hi none = ((its.drop (HT.sIx its.length 0 lo)).take (HT.sIx its.length its.length hi - HT.sIx its.length 0 lo)).toArray := by
 obtain ⟨h1, h2, h3⟩ := slice_bounds lo hi its.toArray.size
 unfold slicePick
 rw [h1, h2, h3]
 simp only [sliceRange_one, pick_run, List.size_toArray] <;> rfl
def rSlL (K : PySem.W.Frag) : V -> Option Int -> Option Int -> Hp -> VK -> Prop := fun x lo hi H Q => ∃ a xs, x = .ref a /\ SqL K H a xs /\ ∀ p, H p = none -> Q (.ref p) (upd H p (.lst (cutV xs lo hi)))
theorem sl_list : SlR X (rSlL X.K) := by
 intro pins s σ H x v vl vu lo hi sl Q I rx hs pl pu h
 obtain ⟨a, xs, rfl, hx, q⟩ := h
 cases rx
 obtain ⟨its, r, ht, hz⟩ := I.list hx
 have hlen := r.length
 refine ⟨"list", _, slot_list_getitem.lookup, ht.isList.typeIs, ?_⟩
 refine wpAny_getItem_list_slice ht.isList hs pl pu .none (by simp) ?_ (by rw [List.size_toArray] <;> omega)
 rw [slicePick_cut, ← hlen]
 refine ⟨.ref s.heap.objs.size, _, I.laid (t' := s.toks) (o := .lst (cutV xs lo hi)) (fun b ob q => Heap.get?_push_of_some _ q) (Nat.le_refl _) ?_, rfl, q _ (I.hok.fresh (Nat.le_refl _))⟩
 exact ⟨Nat.le_trans (cutV_length xs lo hi) hz, _, 0, (r.drop (HT.sIx xs.length 0 lo)).take (HT.sIx xs.length xs.length hi - HT.sIx xs.length 0 lo), Heap.get?_push_size _ rfl⟩
def flatV : V -> Bool
 | .non => true
 | .bl _ => true
 | .int _ => true
 | .str _ => true
 | _ => false
def eqV : V -> V -> Bool
 | .non, .non => true
 | .bl a, .bl b => a == b
 | .bl a, .int b => (if a then 1 else 0) == b
 | .int a, .bl b => a == (if b then 1 else 0)
 | .int a, .int b => a == b
 | .str a, .str b => a == b
 | _, _ => false
def eqU (x : V) (u : Value) : Bool := match u with
 | .none => eqV .non x
 | .bool b => eqV (.bl b) x
 | .int i _ => eqV (.int i) x
 | .str z _ => eqV (.str z) x
 | _ => false
def inV (x : V) (xs : List V) : Bool := xs.any fun y => eqV y x
def rIn (K : PySem.W.Frag) (neg : Bool) : R2 := fun x y H Q => ∃ p xs, y = .ref p /\ (SqL K H p xs ∨ SqT K H p xs) /\ flatV x = true /\ xs.all flatV = true /\ Q (.bl (if neg then !inV x xs else inV x xs)) H
theorem call_len_seq : CallR X (.builtin "len") (fun xs H Q => ∃ p ys, xs = [.ref p] /\ (SqL X.K H p ys ∨ SqT X.K H p ys) /\ Q (.int ys.length) H) := by
 intro pins s σ H xs us Q I r h
 obtain ⟨p, ys, rfl, hq, q⟩ := h
 obtain ⟨u, rfl, rx⟩ := vals1 r
 cases rx
 have hn := line63
 rcases hq with hq | hq
 ·obtain ⟨its, r', pl, hz⟩ := I.list hq
  have hlen := r'.length
  exact Calls.call_len_list pl.isList (by simp only [List.size_toArray] <;> omega) ⟨.int ys.length, H, I.tok _, ⟨s.toks + 1, by rw [List.size_toArray, hlen]⟩, q⟩
 ·obtain ⟨its, r', pl, hz⟩ := I.tuple hq
  have hlen := r'.length
  exact len_tuple pl (by simp only [List.size_toArray] <;> omega) ⟨.int ys.length, H, I.tok _, ⟨s.toks + 1, by rw [List.size_toArray, hlen]⟩, q⟩
theorem call_tuple_of : CallR X (.type "tuple") (fun xs H Q => ∃ p ys, xs = [.ref p] /\ ((SqL X.K H p ys /\ ∀ l, H l = none -> Q (.ref l) (upd H l (.tup ys))) ∨ (SqT X.K H p ys /\ Q (.ref p) H))) := by
 intro pins s σ H xs us Q I r h
 obtain ⟨p, ys, rfl, h⟩ := h
 obtain ⟨u, rfl, rx⟩ := vals1 r
 cases rx
 rcases h with ⟨hq, q⟩ | ⟨hq, q⟩
 ·obtain ⟨its, r', pl, hz⟩ := I.list hq
  have hlen := r'.length
  refine call_tuple_list pl.isList (fun h' kp => ?_) (by simp only [List.size_toArray] <;> omega)
  have I1 : Inv X pins σ H { s with heap := h' } := I.kept (t' := s.toks) kp
  have I2 : Inv X pins σ (upd H h'.objs.size (.tup ys)) { s with heap := h'.push { cls := .type "tuple", data := .seq its.toArray } } :=
   I1.laid (t' := s.toks) (fun b o e => Heap.get?_push_of_some _ e) (Nat.le_refl _) (show ObjOk X.prog X.w _ _ _ (.tup ys) from ⟨hz, its, r', IsTup.new _ _⟩)
  exact ⟨.ref h'.objs.size, _, I2, rfl, q _ (I1.hok.fresh (Nat.le_refl _))⟩
 ·obtain ⟨its, r', pl, hz⟩ := I.tuple hq
  exact call_tuple_same pl ⟨.ref p, H, I, rfl, q⟩
def tyV (K : PySem.W.Frag) (T : String) (x : V) (H : Hp) : Prop := match x with
 | .str _ => T = "str"
 | .int _ => T = "int"
 | .ref p => (T = "list" /\ ∃ xs, SqL K H p xs) ∨ (T = "tuple" /\ ∃ o, K.lookup p = some o /\ o.cls = .type "tuple" /\ o.dict = none) ∨
   (T = "dict" /\ ((∃ kvs, H p = some (.dK kvs)) ∨ ∃ kvs, H p = some (.dT kvs))) ∨ (T = "set" /\ ∃ S n, H p = some (.set S n))
 | _ => False
theorem tyV_is {pins : List (Addr × Obj)} {σ : St} {H : Hp} {s : Shared} {T : String} {x : V} {v : Value} (I : Inv X pins σ H s) (r : RelV x v) (ty : tyV X.K T x H) :
  s.TypeIs v T /\ ∀ a, v = .ref a -> ∃ ob, s.heap.get? a = some ob /\ ob.dict = none := by
 cases x with
 | str z =>
  obtain ⟨t, rfl⟩ := r
  cases (show T = "str" from ty)
  exact ⟨typeIs_str s z t, fun _ e => nomatch e⟩
 | int i =>
  obtain ⟨t, rfl⟩ := r
  cases (show T = "int" from ty)
  exact ⟨typeIs_int s i t, fun _ e => nomatch e⟩
 | ref p =>
  cases r
  rcases ty with ⟨rfl, xs, hq⟩ | ⟨rfl, o, hk, hc, hd⟩ | ⟨rfl, hk⟩ | ⟨rfl, S, n, hk⟩
  ·obtain ⟨its, _, pl, _⟩ := I.list hq
   refine ⟨pl.isList.typeIs, fun a e => ?_⟩
   cases e
   obtain ⟨o, n, e, c, hd, _⟩ := pl
   exact ⟨o, e, hd⟩
  ·refine ⟨⟨o, I.kIn p o hk, hc⟩, fun a e => ?_⟩
   cases e
   exact ⟨o, I.kIn _ o hk, hd⟩
  ·have z : ∃ o, s.heap.get? p = some o /\ o.ExactDict := by
    rcases hk with ⟨kvs, hk⟩ | ⟨kvs, hk⟩
    ·obtain ⟨_, _, _, _, o, _, _, e, ex, _⟩ := I.hok p _ hk
     exact ⟨o, e, ex⟩
    ·obtain ⟨_, _, _, _, o, _, _, e, ex, _⟩ := I.hok p _ hk
     exact ⟨o, e, ex⟩
   obtain ⟨o, e, ex⟩ := z
   refine ⟨⟨o, e, ex.1⟩, fun a e2 => ?_⟩
   cases e2
   exact ⟨o, e, ex.2.1⟩
  ·obtain ⟨o, _, _, _, e, ex, _⟩ := I.hok p _ hk
   refine ⟨⟨o, e, ex.1⟩, fun a e2 => ?_⟩
   cases e2
   exact ⟨o, e, ex.2.1⟩
 | _ => exact False.elim ty
def tBM0 (K : PySem.W.Frag) (T : String) (r : V -> List V -> Hp -> VK -> Prop) (to : TE) : TE := fun σ H Q => to σ H fun x H1 => tyV K T x H1 /\ r x [] H1 Q
def tBM (K : PySem.W.Frag) (T : String) (r : V -> List V -> Hp -> VK -> Prop) (to : TE) (t : TA) : TE := fun σ H Q => to σ H fun x H1 => tyV K T x H1 /\ t σ H1 fun xs H2 => r x xs H2 Q
variable {o e : Expr} {es : List Expr} {to : TE} {t : TA} {name : Str} {apos cpos : Pos} {T id : String} {r : V -> List V -> Hp -> VK -> Prop}
theorem pe_bm (pa : PlainAttrs T) (slot : Slot T name id) (hty : typeOf (.builtin id) = pure (.type "method_descriptor")) (hm : MtR X id r) (ho : PE X o to) (ha : PA X (e :: es) t)
  (hbase : attributeBase o name X.env (eval o X.env) = eval o X.env := by rfl)
  (hfew : ((backTo cpos (starEach (e :: es) X.env)).all (fun x => !x.1) && (backToKw cpos (keywordEach [] X.env)).all (fun x => x.1.isSome)
   && decide ((e :: es).length + ([] : List Keyword).length + (if ([] : List Keyword).isEmpty then 0 else 1) < 30)) = true := by rfl)
  (hline : (apos.endLine == cpos.line) = true := by rfl) (hs : starEach (e :: es) X.env = (false, eval e X.env) :: starEach es X.env := by rfl) (hplain : (backTo cpos (starEach es X.env)).any (·.1) = false := by rfl) :
  PE X (.Call (.Attribute o name apos) (e :: es) [] cpos) (tBM X.K T r to t) := by
 intro pins s σ H Q I h
 refine wpAny_Call_method_late hbase hfew hline rfl (thn (ho pins s σ H _ I h) fun v s1 ⟨x, H1, I1, r1, ty, q1⟩ => ?_)
 obtain ⟨h1, h2⟩ := tyV_is I1 r1 ty
 refine ⟨T, id, pa, slot, hty, h1, h2, ?_⟩
 have hA := ha cpos pins s1 σ H1 _ I1 q1
 rw [hs] at hA ⊢
 refine Calls.callWith_builtin (by show (false || (backTo cpos (starEach es X.env)).any (·.1)) = false; rw [hplain] <;> rfl) (Calls.evalArgs_plain ?_)
 exact thn hA fun us s2 ⟨vs, H2, I2, r2, q2⟩ => hm pins s2 σ H2 x vs v us Q I2 r1 r2 q2
end
end L2
namespace L2
open PySem PySem.Spec PyProof.Rows
def MtM (X : Cx) (id : String) (r : V -> List V -> Hp -> VK -> Prop) : Prop :=
 ∀ (pins : List (Addr × Obj)) (s : Shared) (σ : St) (H : Hp) (x : V) (xs : List V) (v : Value) (us : List Value) (Q : VK), Inv X pins σ H s -> RelV x v -> Vals xs us -> r x xs H Q →
  wpAny (model X.prog X.w) X.A (call (.builtin id) (v :: us)) (EP X pins σ Q) X.xe s
theorem Vals.one : ∀ {x : V} {us : List Value}, Vals [x] us -> ∃ u, us = [u] /\ RelV x u
 | _, _, .cons r .nil => ⟨_, rfl, r⟩
section
variable {X : Cx} {pins : List (Addr × Obj)} {σ : St} {H : Hp} {s : Shared} {l b : Addr} {xs ys zs : List V}
theorem Inv.lset {its its' : List Value} {n : Nat} {f : Array Value -> Array Value} {t' : Nat} (I : Inv X pins σ H s) (hH : H l = some (.lst xs))
  (e : s.heap.get? l = some { cls := .type "list", data := .seq its.toArray n }) (hf : f its.toArray = its'.toArray) (hv : Vals ys its') (hz : ys.length ≤ sizeLine) :
  Inv X pins σ (upd H l (.lst ys)) { s with heap := s.heap.update l (Obj.mapSeq f), toks := t' } := by
 have q := PySem.IsL.update e f
 rw [hf] at q
 refine I.write (x := l) (e := l) (by rw [hH]; exact trivial) (.inl rfl) (fun b' u hb hu => (Heap.get?_update_other s.heap (Obj.mapSeq f) (Ne.symm hb)).trans hu) ⟨_, q⟩ ?_
 exact ⟨hz, its', _, hv, q⟩
theorem Inv.lnew {its : List Value} {t' : Nat} (I : Inv X pins σ H s) (hv : Vals ys its) (hz : ys.length ≤ sizeLine) :
  Inv X pins σ (upd H s.heap.objs.size (.lst ys)) { s with heap := s.heap.push { cls := .type "list", data := .seq its.toArray }, toks := t' } :=
 I.laid (fun _ _ q => Heap.get?_push_of_some _ q) (Nat.le_refl _) ⟨hz, its, 0, hv, Heap.get?_push_size _ rfl⟩
theorem Inv.fresh (I : Inv X pins σ H s) : H s.heap.objs.size = none := I.hok.fresh (Nat.le_refl _)
theorem Inv.lstM (I : Inv X pins σ H s) (hH : H l = some (.lst xs)) : xs.length ≤ sizeLine /\ ∃ (its : List Value) (n : Nat), Vals xs its /\ xs.length = its.length /\ s.heap.get? l = some { cls := .type "list", data := .seq its.toArray n } := by
 obtain ⟨z, its, n, r, e⟩ := I.hok l _ hH
 exact ⟨z, its, n, r, r.length, e⟩
end
section
variable {X : Cx}
def rAppend : V -> List V -> Hp -> VK -> Prop := fun x vs H Q => ∃ l xs y, x = .ref l /\ vs = [y] /\ H l = some (.lst xs) /\ xs.length < sizeLine /\ Q .non (upd H l (.lst (xs ++ [y])))
theorem mt_append : MtM X "list.append" rAppend := by
 intro pins s σ H x vs v us Q I rx rv h
 obtain ⟨l, xs, y, rfl, rfl, hH, hz, q⟩ := h
 cases rx
 obtain ⟨u, rfl, ru⟩ := rv.one
 obtain ⟨z, its, n, r, hl, e⟩ := I.lstM hH
 refine call_meets F.slot_list_append ⟨_, e, rfl⟩ F.entry_list_append (F.args_list_append_2 _ _) (PySem.list_append l its.toArray n u (by rw [List.size_toArray]; omega)) ⟨e, ?_⟩
 refine ⟨.non, _, I.lset (its' := its ++ [u]) hH e (by simp) (r.append (.cons ru .nil)) ?_, rfl, q⟩
 rw [List.length_append, List.length_singleton]
 omega
def rExtend : V -> List V -> Hp -> VK -> Prop := fun x vs H Q => ∃ l b xs zs, x = .ref l /\ vs = [.ref b] /\ H l = some (.lst xs) /\ H b = some (.lst zs) /\ xs.length + zs.length ≤ sizeLine /\ Q .non (upd H l (.lst (xs ++ zs)))
def rPop : V -> List V -> Hp -> VK -> Prop := fun x vs H Q => ∃ l xs y, x = .ref l /\ vs = [] /\ H l = some (.lst xs) /\ xs[xs.length - 1]? = some y /\ Q y (upd H l (.lst xs.dropLast))
def rPopAt : V -> List V -> Hp -> VK -> Prop := fun x vs H Q => ∃ l xs i k y, x = .ref l /\ vs = [.int i] /\ H l = some (.lst xs) /\ -(2 ^ 63) ≤ i /\ i < 2 ^ 63 /\ seqIndex? i xs.length = some k /\ xs[k]? = some y /\ Q y (upd H l (.lst (xs.eraseIdx k)))
def rReverse : V -> List V -> Hp -> VK -> Prop := fun x vs H Q => ∃ l xs, x = .ref l /\ vs = [] /\ H l = some (.lst xs) /\ Q .non (upd H l (.lst xs.reverse))
def rClear : V -> List V -> Hp -> VK -> Prop := fun x vs H Q => ∃ l xs, x = .ref l /\ vs = [] /\ H l = some (.lst xs) /\ Q .non (upd H l (.lst []))
def rCat : R2 := fun x y H Q => ∃ l b xs zs, x = .ref l /\ y = .ref b /\ H l = some (.lst xs) /\ H b = some (.lst zs) /\ xs.length + zs.length ≤ sizeLine /\ ∀ p, H p = none -> Q (.ref p) (upd H p (.lst (xs ++ zs)))
def rRep : R2 := fun x y H Q => ∃ l k xs, x = .ref l /\ y = .int k /\ H l = some (.lst xs) /\ -(2 ^ 63) ≤ k /\ k < 2 ^ 63 /\ xs.length * k.toNat ≤ sizeLine ∧
 ∀ p, H p = none -> Q (.ref p) (upd H p (.lst (List.replicate k.toNat xs).flatten))
end
section
variable {prog : Program} {w : World} {A : Around} {E : Value -> Shared -> Prop} {s : Shared}
end
section
variable {X : Cx}
end
end L2
namespace Att
open PySem PySem.W PySem.Calls PyProof.Rows
theorem ints_of_wellAll {P : Params} {h : Heap} : ∀ (ns : List Int) (vs : List Value), WellAll P h vs (ns.map WData.int) -> IntsAre vs ns := by
 intro ns
 induction ns with
 | nil =>
  intro vs w
  rw [List.map_nil] at w
  cases w
  exact .nil
 | cons n ns ih =>
  intro vs w
  rw [List.map_cons] at w
  cases w with
  | cons a b =>
   cases a
   exact .cons _ _ (ih _ b)
theorem script_of {l : OpenLaw} {n : Nat} (hn : l.most = some n) {P : Params} {h : Heap} {args : List WData} {vals : List Value}
  (hpre : l.row.toRowW.claim.pre args = true) (hwl : WellAll P h vals args) :
  ∃ a vs ns, vals = [Value.ref a] /\ args = [WData.list (ns.map WData.int)] /\ h.get? a = some { cls := .type "list", data := .seq vs.toArray } /\ IntsAre vs ns /\ ns.length ≤ n := by
 have hsh : WShape.hasAll [] args [.list .int] = true := (pre_splitW hpre).1
 have hc : l.pre.holds [] { args := args } = true := (pre_splitW hpre).2
 obtain ⟨d, r, rfl, h1, h2⟩ := hasAllW_cons hsh
 obtain rfl := hasAllW_nil h2
 obtain ⟨xs, rfl, h3⟩ := hasW_list h1
 obtain ⟨ns, rfl⟩ := items_int h3
 have hlen : ns.length ≤ n := by
  unfold OpenLaw.pre at hc
  have h4 : (WTm.not (.lt (.lit (.int (n : Int))) (.len (.arg 0)))).holds [] { args := [.list (ns.map .int)] } = true := by
   have h4 := (holds_andW hc).1
   rw [hn] at h4
   exact h4
  have h5 := condW_of h4 (w_not (w_lt w_lit (w_len_list (w_arg rfl))))
  rw [List.length_map] at h5
  refine Nat.le_of_not_lt fun q => ?_
  have q' : (n : Int) < ((ns.length : Nat) : Int) := by omega
  first
   | (rw [decide_eq_true q'] at h5; exact absurd h5 (by decide))
   | (simp at h5; omega)
 cases hwl with
 | cons w1 w2 =>
  cases w2
  cases w1 with
  | list ho hall => exact ⟨_, _, ns, rfl, rfl, ho, ints_of_wellAll ns _ hall, hlen⟩
theorem post_true (l : OpenLaw) (args : List WData) : l.row.toRowW.claim.post args (.bool true) args = true :=
 postW_of (r := l.row.toRowW) (X := (true == true))
  (show WShape.has [] (.bool true) .bool = true by first | rfl | decide | simp [WShape.has, WShape.arms, WShape.armsAll])
  (show (WTm.eq .res (.lit (.bool true))).value [] { args := args, res := some (.bool true), after := args } = some (.bool (true == true)) from w_eq_bool (w_res rfl) w_lit) rfl
theorem attach_call {l : OpenLaw} {n : Nat} {q : Program} {loose : List Str} {XP : (Str -> Option Value) -> Heap -> Prop} {YP : World -> Heap -> Prop} {d : DefRec}
  (hn : l.most = some n) (hdf : d.params.defaults = [])
  (call : ∀ (w : World) (s₀ s₁ : Shared) (mg mb : Str -> Option Value) (fa : Addr) (o : Obj) (pm cd doc : Value) (a : Addr) (vs : List Value) (ns : List Int),
   Ground q loose [] XP w s₀ mg mb s₁.heap -> YP w s₁.heap →
   s₁.heap.get? fa = some o -> o.data = .func (docDef d.name d.params d.body d.scope pm cd doc) -> s₁.heap.CodeRec cd d.name -> mg d.name = some (.ref fa) →
   s₁.heap.get? a = some { cls := .type "list", data := .seq vs.toArray } -> IntsAre vs ns -> ns.length ≤ n -> s₁.gens = #[] →
   codeAny (model l.prog w) callerA (.call (.ref fa) ⟨[.ref a], []⟩) (fun r s' => r = .ok (.ret (.bool true)) /\ OldK s₁.heap s'.heap /\ s'.os = s₁.os /\ AllBare s'.gens) s₁) :
  WalkO q loose XP YP l.row.toRowW d [] (fun f vs => PySem.call f vs) := by
 intro w s₀ s₁ mg mb G Y fa o pm cd doc dV kV ho hd hcd hD hmg hg args vals as hpre hlay hrd hwl hlo
 obtain rfl : dV = .none := Dflts.none hD hdf
 obtain rfl : kV = .none := Dflts.noKw hD
 obtain ⟨a, vs, ns, rfl, rfl, hobj, hints, hlen⟩ := script_of hn hpre hwl
 refine enter_call (codeAny_mono (call w s₀ s₁ mg mb fa o pm cd doc a vs ns G Y ho (fd_plain hd) hcd hmg hobj hints hlen hg) fun r s' hq => ?_)
 obtain ⟨rfl, h2, h3, h4⟩ := hq
 exact ⟨.inl ⟨.bool true, .bool true, [], rfl, fun _ => rfl, .bool true, post_true l _, fun _ => ⟨List.Pairwise.nil, fun _ hm => (nomatch hm)⟩⟩, h2, h3, h4⟩
section
variable {prog : Program} {w : World} {A : Around} {E : Value -> Shared -> Prop} {s : Shared} {K : Frag}
def noObjs (h : Heap) : Heap := { h with objs := #[] }
def ledger (h : Heap) (L d : Addr) : List (Addr × Obj) := (List.range h.objs.size).filterMap fun a => if a = L ∨ a = d then none else (h.get? a).map fun o => (a, o)
end
end Att
namespace L2
open PySem PySem.Spec PyProof.Rows
theorem vals_ints : ∀ {vs : List Value} {ns : List Int}, IntsAre vs ns -> Vals (ns.map V.int) vs
 | _, _, .nil => .nil
 | _, _, .cons n t h => .cons ⟨t, rfl⟩ (vals_ints h)
def Only (H : Hp) : Prop := ∀ b, H b = none ∨ ∃ o xs, H b = some (.frz o (.lst xs))
theorem law_call {P : Program} {w : World} {K : PySem.W.Frag} {mg mb : Str -> Option Value} {CX : CXT} {k : Nat} {fa a : Addr} {fd : FuncData} {x : Str} {sp : Sp} {s₁ : Shared} {vs : List Value} {ns : List Int}
  (KX : K.In s₁.heap) (hns : s₁.heap.Ns mainGlobals mg) (hb : s₁.heap.Ns builtinsNs mb) (hbb : ∀ x : Str, x ≠ "__name__" -> mb x = bootBuiltins x) (hlim : s₁.heap.NoLimit) (hg : s₁.gens = #[])
  (ha : s₁.heap.get? a = some { cls := .type "list", data := .seq vs.toArray }) (hi : IntsAre vs ns) (hl : ns.length ≤ sizeLine) (hr : Room k callerA)
  (F : ∀ base : Heap, K.In base -> base.Ns mainGlobals mg -> FnOk P w K mg base CX k fa fd [x] sp) (hbind : ∀ (s : Shared) (u : Value), BindsTo s fd ⟨[u], []⟩ [(x, u)])
  (hsp : ∀ H : Hp, Only H -> SqL K H a (ns.map V.int) -> sp [.ref a] H (fun v _ => v = .bl true) fun _ _ _ => False)
  (hCX : ∀ H e s', CX [] H s₁ (fun _ _ _ => False) e s' -> False) :
  codeAny (model P w) callerA (.call (.ref fa) ⟨[.ref a], []⟩) (fun r s' => r = .ok (.ret (.bool true)) /\ OldK s₁.heap s'.heap /\ s'.os = s₁.os /\ AllBare s'.gens) s₁ := by
 have rv := vals_ints hi
 have lenV := hi.length
 have core : ∀ H : Hp, Only H -> SqL K H a (ns.map V.int) -> HOk P w H s₁.heap -> (∀ b, H b ≠ none -> b = a) -> (H a ≠ none -> K.lookup a = none) →
   codeAny (model P w) callerA (.call (.ref fa) ⟨[.ref a], []⟩) (fun r s' => r = .ok (.ret (.bool true)) /\ OldK s₁.heap s'.heap /\ s'.os = s₁.os /\ AllBare s'.gens) s₁ := by
  intro H hO hS hok hA hK
  have base_of : ∀ {b : Addr} {o : Obj}, s₁.heap.get? b = some o -> H b = none -> (hidT s₁.heap H).get? b = some o := fun e n => hidT_get e n
  have noA : ∀ {b : Addr} {o : Obj} {es : Array DictEntry} {ep : Nat}, s₁.heap.get? b = some o -> o.data = .dict es ep -> H b = none := fun {b o es ep} e d => by
   cases q : H b with
   | none => rfl
   | some u =>
    have e' : b = a := hA b (by rw [q]; simp)
    subst e'
    rw [ha] at e; cases e
    have d' : Data.seq vs.toArray _ = Data.dict es ep := d
    cases d'
  have nsK : ∀ {b : Addr} {m : Str -> Option Value}, s₁.heap.Ns b m -> (hidT s₁.heap H).Ns b m := fun {b m} ⟨o, es, ep, e, d, r⟩ => ⟨o, es, ep, base_of e (noA e d), d, r⟩
  have hKb : K.In (hidT s₁.heap H) := fun b o e => base_of (KX b o e) (by
   cases q : H b with
   | none => rfl
   | some u =>
    have e' : b = a := hA b (by rw [q]; simp)
    subst e'
    rw [hK (by rw [q]; simp)] at e; cases e)
  have hM : Mod K mg (hidT s₁.heap H) := ⟨hKb, nsK hns, ⟨mb, nsK hb, hbb⟩, let ⟨mc, h1, h2⟩ := hlim; ⟨mc, nsK h1, h2⟩⟩
  have e0 : Env0 P w K mg (hidT s₁.heap H) callerA [] s₁ H := ⟨rfl, hM, fun b o e => of_hidT e, Nat.le_of_eq (hidT_size _ _), trivial, fun b hb => absurd (show b ∈ ([] : List Addr) from hb) (by simp), hok, .of_eq hg⟩
  refine codeAny_mono ((F _ hKb (nsK hns)).run callerA [] s₁ H ⟨[.ref a], []⟩ [.ref a] [.ref a] _ _ hr e0 (hbind s₁ (.ref a)) (.cons rfl .nil) (hsp H hO hS)) fun r s' h => ?_
  cases r with
  | error e => exact (hCX H e s' h).elim
  | ok fl =>
   cases fl with
   | next => exact False.elim h
   | brk => exact False.elim h
   | cont => exact False.elim h
   | ret u =>
    obtain ⟨v, H', os, bare, un, hok', r', q⟩ := h
    have q' : v = .bl true := q
    subst q'
    obtain rfl : u = Value.bool true := r'
    refine ⟨rfl, OldK.of_keep fun b o e => ?_, os, bare⟩
    cases q : H b with
    | none => exact un.keep b o e q (by intro z; exact absurd (show b ∈ ([] : List Addr) from z) (by simp)) (by simp)
    | some u =>
     rcases hO b with z | ⟨ob, xs, z⟩
     ·rw [q] at z; cases z
     ·have z2 := un.frzs b ob _ z
      obtain ⟨e1, _⟩ := hok b _ z
      obtain ⟨e2, _⟩ := hok' b _ z2
      rw [e] at e1; cases e1
      exact e2
 cases hk : K.lookup a with
 | some o =>
  have e := KX a o hk
  rw [ha] at e
  cases e
  refine core (fun _ => none) (fun _ => .inl rfl) (.inr ⟨_, vs.toArray, _, hk, rfl, rfl, rfl, by rw [List.size_toArray, lenV]; exact hl, by simpa using rv⟩) (fun b u z => by have z' : (none : Option HO) = some u := z; cases z') (fun b z => absurd rfl z) fun z => absurd rfl z
 | none =>
  refine core (fun b => if b = a then some (.frz { cls := .type "list", data := .seq vs.toArray } (.lst (ns.map V.int))) else none) (fun b => ?_) (.inl (.inr ⟨{ cls := .type "list", data := .seq vs.toArray }, if_pos rfl⟩)) (fun b u z => ?_) (fun b z => ?_) fun _ => hk
  ·by_cases hb : b = a
   ·exact .inr ⟨_, _, if_pos hb⟩
   ·exact .inl (if_neg hb)
  ·by_cases hb : b = a
   ·have z' := (if_pos hb).symm.trans z
    cases z'
    subst hb
    exact ⟨ha, by rw [List.length_map]; exact hl, vs, _, rv, ha⟩
   ·have z' := (if_neg hb).symm.trans z
    cases z'
  ·by_cases hb : b = a
   ·exact hb
   ·exact absurd (if_neg hb) z
end L2
namespace L2
open PySem PySem.Spec PyProof.Rows
abbrev KOf {K : PySem.W.Frag} {h : Heap} (_ : K.In h) : PySem.W.Frag := K
theorem walk_of {l : PySem.W.OpenLaw} {n k : Nat} {q : Program} {loose : List Str} {XP : (Str -> Option Value) -> Heap -> Prop} {YP : World -> Heap -> Prop} {d : DefRec} {K : Params -> PySem.W.Frag} {CX : World -> CXT} {sp : World -> Sp} {x : Str}
  (hn : l.most = some n) (hn2 : n ≤ sizeLine) (hdf : d.params.defaults = []) (hr : Room k callerA)
  (hY : ∀ (w : World) (h : Heap), YP w h -> (K w.params).In h)
  (F : ∀ (w : World) (mg : Str -> Option Value) (fa : Addr) (h : Heap), (K w.params).In h -> h.Ns mainGlobals mg -> mg d.name = some (.ref fa) →
   ∃ fd : FuncData, (∀ (s : Shared) (u : Value), BindsTo s fd ⟨[u], []⟩ [(x, u)]) ∧
    ∀ base : Heap, (K w.params).In base -> base.Ns mainGlobals mg -> FnOk l.prog w (K w.params) mg base (CX w) k fa fd [x] (sp w))
  (hsp : ∀ (w : World) (H : Hp) (a : Addr) (ns : List Int), ns.length ≤ n -> Only H -> SqL (K w.params) H a (ns.map V.int) -> sp w [.ref a] H (fun v _ => v = .bl true) fun _ _ _ => False)
  (hCX : ∀ (w : World) (H : Hp) (s : Shared) (e : Value) (s' : Shared), CX w [] H s (fun _ _ _ => False) e s' -> False) :
  PySem.W.WalkO q loose XP YP l.row.toRowW d [] (fun f vs => PySem.call f vs) := by
 refine Att.attach_call hn hdf fun w s₀ s₁ mg mb fa o pm cd doc a vs ns G Y ho hd hcd hmg hobj hints hlen hg => ?_
 have KX := hY w _ Y
 obtain ⟨fd, hb, hF⟩ := F w mg fa _ KX G.T.g hmg
 exact law_call KX G.T.g G.T.b G.T.builtins G.T.nolimit hg hobj hints (Nat.le_trans hlen hn2) hr hF hb (fun H hO hS => hsp w H a ns hlen hO hS) fun H e s' => hCX w H s₁ e s'
end L2
namespace L2
open PySem PySem.Spec PyProof.Rows
def inClass (s : Stmt) (j : Nat) : Stmt := match s with
 | .ClassDef _ _ _ body _ _ _ _ _ _ _ => body.getD j (.Pass ⟨0, 0, 0, 0⟩)
 | _ => .Pass ⟨0, 0, 0, 0⟩
def defArgs (s : Stmt) : Arguments := match s with
 | .FunctionDef _ a _ _ _ _ _ _ _ _ => a
 | _ => { posonlyargs := [], args := [], vararg := none, kwonlyargs := [], kw_defaults := [], kwarg := none, defaults := [] }
def defBody (s : Stmt) : List Stmt := match s with
 | .FunctionDef _ _ b _ _ _ _ _ _ _ => b
 | _ => []
def defScope (s : Stmt) : Scope := match s with
 | .FunctionDef _ _ _ _ _ _ sc _ _ _ => sc
 | _ => { kind := .function, names := [], isGenerator := false, isCoroutine := false }
abbrev CX0 : CXT := fun _ _ _ _ _ _ => False
abbrev E0 : XK := fun _ _ _ => False
theorem pass0 {X : Cx} : Passes CX0 X E0 := fun _ _ _ _ _ _ _ h => h.elim
structure Fun (K : PySem.W.Frag) (x qual : Str) (st : Stmt) (f : Addr) (fd : FuncData) : Prop where
 ex : ∃ (oc : Value) (od : Option Addr) (kV doc pm : Value) (an : Option Addr) (cdv ct : Value) (osl : Array (Option Value)),
  fd = PySem.W.fnOf x qual (defArgs st) (defBody st) (defScope st) .none kV doc pm an cdv ct /\ K.lookup f = some ⟨oc, od, .func fd, osl⟩ /\ PySem.W.codeIn K cdv qual = true
 kp : PySem.W.keepIn K (.ref f) = true
section
variable {P : Program} {w : World} {K : PySem.W.Frag} {mg : Str -> Option Value} {base : Heap}
theorem Fun.ok {x qual : Str} {st : Stmt} {f : Addr} {fd : FuncData} {N ps : List Str} {k : Nat} {sp : Sp} (F : Fun K x qual st f fd) (S : FnScope N ps (defScope st)) (len : ∀ vs H Q E, sp vs H Q E -> vs.length = ps.length)
  (hbody : ∀ (cdv : Value) (A : Around) (outer : List Env) (s : Shared) (H : Hp) (vs : List V) (Q : VK) (E : XK), Room k (A.deeper (envOfC qual (defScope st) s.heap.objs.size f cdv)) -> sp vs H Q E →
   ∃ t, PSs (cxOf CX0 P w K mg base N qual (defScope st) f cdv A outer s H E).nox (defBody st) t /\ t { nx := fun _ H' => Q .non H', rt := Q } (start N vs) H) : FnOk P w K mg base CX0 (k + 1) f fd ps sp := by
 obtain ⟨oc, od, kV, doc, pm, an, cdv, ct, osl, rfl, lk, hcd⟩ := F.ex
 refine fn_of lk hcd S len fun A outer s H vs Q E hr hsp => ?_
 obtain ⟨t, h, q⟩ := hbody cdv A outer s H vs Q E hr hsp
 exact ⟨t, h.nox, q⟩
theorem Fun.binds {x qual : Str} {st : Stmt} {f : Addr} {fd : FuncData} {ps : List Str} (F : Fun K x qual st f fd)
  (h : ∀ (kV doc pm : Value) (an : Option Addr) (cdv ct : Value) (us : List Value), us.length = ps.length -> bindArgs (PySem.W.fnOf x qual (defArgs st) (defBody st) (defScope st) .none kV doc pm an cdv ct) ⟨us, []⟩ = pure (ps.zip us)) : Binds K fd ps [] := by
 obtain ⟨oc, od, kV, doc, pm, an, cdv, ct, osl, rfl, lk, hcd⟩ := F.ex
 exact .all (h kV doc pm an cdv ct)
theorem fun_mk {x qual : Str} {st : Stmt} {f : Addr} {oc : Value} {od an : Option Addr} {osl : Array (Option Value)} {kV doc pm cdv ct : Value} (l : K.lookup f = some ⟨oc, od, .func (PySem.W.fnOf x qual (defArgs st) (defBody st) (defScope st) .none kV doc pm an cdv ct), osl⟩)
  (c : PySem.W.codeIn K cdv qual = true) (k : PySem.W.keepIn K (.ref f) = true) : Fun K x qual st f (PySem.W.fnOf x qual (defArgs st) (defBody st) (defScope st) .none kV doc pm an cdv ct) := ⟨⟨oc, od, kV, doc, pm, an, cdv, ct, osl, rfl, l, c⟩, k⟩
end
theorem hu_of {A : Around} {k : Nat} (hr : Room k A) : A.units + 1 < cLine := Nat.lt_of_le_of_lt (Nat.add_le_add_left (by decide : 1 ≤ 64) _) hr.units
theorem small1000 {n : Nat} (h : n ≤ 1000) : n < sizeLine := Nat.lt_of_le_of_lt h (by decide)
section
variable {X : Cx}
theorem pv (i : Nat) {x : Str} {pos : Pos} (hN : X.N[i]? = some x := by rfl) (hv : Vis X.env.scope x := by first | exact Or.inl rfl | exact Or.inr (Or.inl rfl) | exact Or.inr (Or.inr rfl)) (hd : (x == ("__debug__" : Str)) = false := by decide)
  (hcd : (x == ("__classdict__" : Str)) = false := by decide) : PE X (.Name x pos) (tVar i) := pe_var hN hv hd hcd
end
theorem iteF {A B : Prop} (h : B) : if false = true then A else B := by
 rw [if_neg Bool.false_ne_true]
 exact h
theorem iteT {A B : Prop} (h : A) : if true = true then A else B := by
 rw [if_pos rfl]
 exact h
theorem ite2 {c A B : Prop} [Decidable c] (h1 : c -> A) (h2 : ¬ c -> B) : if c then A else B := by
 by_cases h : c
 ·rw [if_pos h]
  exact h1 h
 ·rw [if_neg h]
  exact h2 h
theorem iteNS {c A B : Prop} [Decidable c] (hc : c) (h : B) : if (!decide c) = true then A else B := by
 rw [decide_eq_true hc]
 exact iteF h
def Same (H H' : Hp) : Prop := ∀ b o, H b = some o -> H' b = some o
theorem Same.refl (H : Hp) : Same H H := fun _ _ h => h
theorem Same.trans {H H1 H2 : Hp} (a : Same H H1) (b : Same H1 H2) : Same H H2 := fun c o h => b c o (a c o h)
theorem Same.seq {K : PySem.W.Frag} {H H' : Hp} {a : Addr} {xs : List V} (e : Same H H') (h : SqL K H a xs) : SqL K H' a xs := by
 rcases h with (h | ⟨o, h⟩) | h
 ·exact .inl (.inl (e _ _ h))
 ·exact .inl (.inr ⟨o, e _ _ h⟩)
 ·exact .inr h
end L2
set_option maxHeartbeats 4000000
namespace B
open PySem L2 PyProof.Rows
theorem iteN1 {c A B : Prop} [Decidable c] (hc : ¬ c) (h : A) : if (!decide c) = true then A else B := by
 have e : (!decide c) = true := by rw [decide_eq_false hc]; rfl
 rw [if_pos e]; exact h
theorem iteD1 {c A B : Prop} [Decidable c] (hc : c) (h : A) : if decide c = true then A else B := by
 rw [if_pos (decide_eq_true hc)]; exact h
theorem iteD0 {c A B : Prop} [Decidable c] (hc : ¬ c) (h : B) : if decide c = true then A else B := by
 have e : ¬ decide c = true := by rw [decide_eq_false hc]; intro z; cases z
 rw [if_neg e]; exact h
theorem iteB0 {b : Bool} {A B : Prop} (hb : b = false) (h : B) : if b = true then A else B := by
 rw [if_neg (by rw [hb]; intro z; cases z)]; exact h
def kitTT (A B : String) : Option Bool := if (Value.type A == Value.type B) = true then some true else if PySem.W.kitMeta B = true then (fastBuiltinMro A).map (·.contains (.type B)) else none
theorem kit_of {K : PySem.W.Frag} {A B : String} {b : Bool} (h : kitTT A B = some b) : PySem.W.kitOne K (.type A) (.type B) = some b := h
inductive Ty (H : Hp) : V -> String -> Prop where
 | non : Ty H .non "NoneType"
 | bl (b : Bool) : Ty H (.bl b) "bool"
 | int (i : Int) : Ty H (.int i) "int"
 | str (x : Str) : Ty H (.str x) "str"
 | lst {a : Addr} {xs : List V} (e : H a = some (.lst xs)) : Ty H (.ref a) "list"
 | tup {a : Addr} {xs : List V} (e : H a = some (.tup xs)) : Ty H (.ref a) "tuple"
theorem Ty.of {H : Hp} {v : V} {n : String} (K : PySem.W.Frag) (h : Ty H v n) : TyOf K H v (.type n) := by
 cases h with
 | non => exact .non
 | bl b => exact .bl b
 | int i => exact .int i
 | str x => exact .str x
 | lst e => exact .lst e
 | tup e => exact .tup e
def rIsi : List V -> Hp -> VK -> Prop := fun xs H Q => ∃ x n m b, xs = [x, .ty n] /\ Ty H x m /\ kitTT m n = some b /\ Q (.bl b) H
theorem call_isi {X : Cx} : CallR X (.builtin "isinstance") rIsi := by
 intro pins s σ H xs us Q I r h
 obtain ⟨x, n, m, b, rfl, ty, e, q⟩ := h
 obtain ⟨u, u2, rfl, rx, ry⟩ := vals2 r
 obtain rfl : u2 = Value.type n := ry
 exact isinst_ok I rx (ty.of X.K) (kit_of e) fun tk => ⟨.bl b, H, I.tok tk, rfl, q⟩
def wholeV : V -> Bool
 | .int _ => true
 | _ => false
def tupV (n : String) : Bool := n == "tuple"
structure Step (t : Addr) (H H' : Hp) : Prop where
 keep : ∀ b o, b ≠ t -> H b = some o -> H' b = some o
 tp : ∃ xs, H t = some (.lst xs)
 tp' : ∃ xs, H' t = some (.lst xs)
theorem Step.trans {t : Addr} {H H1 H2 : Hp} (a : Step t H H1) (b : Step t H1 H2) : Step t H H2 := ⟨fun c o n e => b.keep c o n (a.keep c o n e), a.tp, b.tp'⟩
theorem Step.up {t : Addr} {H : Hp} {xs ys : List V} (h : H t = some (.lst xs)) : Step t H (upd H t (.lst ys)) := ⟨fun c o n e => by rw [upd_ne n]; exact e, ⟨_, h⟩, ⟨_, upd_same⟩⟩
theorem same_new {H : Hp} {p : Addr} (h : H p = none) (o : HO) : Same H (upd H p o) := fun b u q => by rw [upd_ne (ne_of_none q h)]; exact q
theorem Step.same {t : Addr} {H H' : Hp} (s : Same H H') (h : ∃ xs, H t = some (.lst xs)) : Step t H H' := ⟨fun c o _ e => s c o e, h, let ⟨xs, e⟩ := h; ⟨xs, s _ _ e⟩⟩
theorem Step.new {t p : Addr} {H : Hp} (h : ∃ xs, H t = some (.lst xs)) (n : H p = none) (o : HO) : Step t H (upd H p o) := Step.same (same_new n o) h
def Th (H : Hp) (v : V) : Prop := ∃ n, Ty H v n /\ ∀ a xs, v = .ref a -> H a = some (.tup xs) -> ∀ x ∈ xs, ∃ m, Ty H x m
theorem pick {xs : List V} {r : Int} (h0 : 0 ≤ r) (h1 : r < (xs.length : Int)) : ∃ v, atI xs r = some v /\ v ∈ xs := by
 have hk : r.toNat < xs.length := by omega
 have ek : r = ((r.toNat : Nat) : Int) := by omega
 have q : atI xs ((r.toNat : Nat) : Int) = some xs[r.toNat] := atI_nat (List.getElem?_eq_getElem hk)
 rw [← ek] at q
 exact ⟨_, q, List.getElem_mem hk⟩
theorem pickI {ns : List Int} {r : Int} (h0 : 0 ≤ r) (h1 : r < (ns.length : Int)) : ∃ z : Int, atI (ns.map V.int) r = some (.int z) := by
 obtain ⟨v, h, hv⟩ := pick (xs := ns.map V.int) h0 (by rw [List.length_map]; exact h1)
 obtain ⟨z, _, rfl⟩ := List.mem_map.mp hv
 exact ⟨z, h⟩
structure Tape (H : Hp) (t s : Addr) : Prop where
 ex : ∃ (ns : List Int) (p q r : Int), H t = some (.lst [.ref s, .int p, .int q, .int r]) /\ H s = some (.lst (ns.map V.int)) /\ s ≠ t /\ ns.length ≤ 63 /\ 0 ≤ p /\ 0 ≤ q /\ 0 ≤ r
theorem Tape.lst {H : Hp} {t s : Addr} (h : Tape H t s) : ∃ xs, H t = some (.lst xs) := let ⟨_, _, _, _, e, _⟩ := h.ex; ⟨_, e⟩
theorem Tape.scr {H : Hp} {t s : Addr} (h : Tape H t s) : ∃ xs, H s = some (.lst xs) := let ⟨_, _, _, _, _, e, _⟩ := h.ex; ⟨_, e⟩
theorem Tape.same {H H' : Hp} {t s : Addr} (h : Tape H t s) (z : Same H H') : Tape H' t s := by
 obtain ⟨ns, p, q, r, h1, h2, h3⟩ := h.ex
 exact ⟨ns, p, q, r, z _ _ h1, z _ _ h2, h3⟩
theorem Tape.new {H : Hp} {t s p : Addr} (h : Tape H t s) (n : H p = none) (o : HO) : Tape (upd H p o) t s := h.same (same_new n o)
theorem Tape.upl {H : Hp} {t s l : Addr} (h : Tape H t s) (a : l ≠ t) (b : l ≠ s) (o : HO) : Tape (upd H l o) t s := by
 obtain ⟨ns, p, q, r, h1, h2, h3⟩ := h.ex
 exact ⟨ns, p, q, r, by rw [upd_ne a.symm]; exact h1, by rw [upd_ne b.symm]; exact h2, h3⟩
theorem cut63 (ns : List Int) : cutV (ns.map V.int) none (some 63) = (ns.take (min 63 ns.length)).map V.int := by
 unfold cutV
 rw [show (some (63 : Int)) = some (((63 : Nat) : Int)) from rfl, HT.sIx_nat, HT.sIx_none, List.length_map, Nat.sub_zero, List.drop_zero, List.map_take]
def sp_tape (K : PySem.W.Frag) : Sp := fun vs H Q _ => ∃ (a : Addr) (ns : List Int), vs = [.ref a] /\ SqL K H a (ns.map V.int) /\ ∀ (t s : Addr) (H' : Hp), Same H H' -> H t = none -> H s = none -> Tape H' t s -> Q (.ref t) H'
def sp_draw : Sp := fun vs H Q _ => ∃ (t s : Addr) (m : Int), vs = [.ref t, .int m] /\ Tape H t s /\ 0 < m /\ m < 1073741824 /\ ∀ (r : Int) (xs : List V), 0 ≤ r -> r < m -> Tape (upd H t (.lst xs)) t s -> Q (.int r) (upd H t (.lst xs))
def sp_lawT (K : PySem.W.Frag) : Sp := fun vs H Q _ => ∃ (a : Addr) (ns : List Int), vs = [.ref a] /\ SqL K H a (ns.map V.int) /\ ns.length ≤ 63 /\ ∀ H', Q (.bl true) H'
theorem gcd_turn {a b : Int} (ha : 0 ≤ a) (hb : 0 < b) : Int.gcd b (a % b) = Int.gcd a b := by
 obtain ⟨n, rfl⟩ := Int.eq_ofNat_of_zero_le ha
 obtain ⟨m, rfl⟩ := Int.eq_ofNat_of_zero_le (Int.le_of_lt hb)
 rw [← Int.natCast_emod]
 show Nat.gcd m (n % m) = Nat.gcd n m
 rw [Nat.gcd_comm m, ← Nat.gcd_rec, Nat.gcd_comm]
theorem abs_if (i : Int) : (if i < 0 then -i else i) = (i.natAbs : Int) := by split <;> omega
end B
namespace B
open PySem PySem.Spec L2 PyProof.Rows
mutual
inductive Deep (K : PySem.W.Frag) (H : Hp) : V -> PyData -> Prop where
 | non : Deep K H .non .none
 | bl (b : Bool) : Deep K H (.bl b) (.bool b)
 | int (i : Int) : Deep K H (.int i) (.int i)
 | str (x : Str) : Deep K H (.str x) (.str x)
 | lst {a : Addr} {xs : List V} {ds : List PyData} (e : SqL K H a xs) (h : DeepAll K H xs ds) : Deep K H (.ref a) (.list ds)
 | tup {a : Addr} {xs : List V} {ds : List PyData} (e : SqT K H a xs) (h : DeepAll K H xs ds) : Deep K H (.ref a) (.tuple ds)
inductive DeepAll (K : PySem.W.Frag) (H : Hp) : List V -> List PyData -> Prop where
 | nil : DeepAll K H [] []
 | cons {x : V} {d : PyData} {xs : List V} {ds : List PyData} (h : Deep K H x d) (t : DeepAll K H xs ds) : DeepAll K H (x :: xs) (d :: ds)
end
mutual
theorem Deep.reads {X : Cx} {pins : List (Addr × Obj)} {σ : L2.St} {H : Hp} {s : Shared} (I : Inv X pins σ H s) : ∀ {v : V} {d : PyData} {u : Value}, Deep X.K H v d -> RelV v u -> ∃ as, Reads s.heap u d as
 | _, _, u, .non, r => by cases (show u = Value.none from r); exact ⟨_, .none⟩
 | _, _, u, .bl b, r => by cases (show u = Value.bool b from r); exact ⟨_, .bool b⟩
 | _, _, u, .int i, r => by obtain ⟨t, q⟩ := (show ∃ t, u = Value.int i t from r); cases q; exact ⟨_, .int i t⟩
 | _, _, u, .str x, r => by obtain ⟨t, q⟩ := (show ∃ t, u = Value.str x t from r); cases q; exact ⟨_, .str x t⟩
 | _, _, u, .lst (a := a) e h, r => by
  cases (show u = Value.ref a from r)
  obtain ⟨its, rv, ⟨o, n, ho, hc, _, hd⟩, _⟩ := I.list e
  obtain ⟨as, q⟩ := DeepAll.reads I h rv
  exact ⟨_, .list ho hc hd (by simpa using q)⟩
 | _, _, u, .tup (a := a) e h, r => by
  cases (show u = Value.ref a from r)
  obtain ⟨its, rv, ⟨o, ho, hc, n, hd⟩, _⟩ := I.tuple e
  obtain ⟨as, q⟩ := DeepAll.reads I h rv
  exact ⟨_, .tuple ho hc hd (by simpa using q)⟩
theorem DeepAll.reads {X : Cx} {pins : List (Addr × Obj)} {σ : L2.St} {H : Hp} {s : Shared} (I : Inv X pins σ H s) : ∀ {vs : List V} {ds : List PyData} {us : List Value}, DeepAll X.K H vs ds -> Vals vs us -> ∃ as, ReadsAll s.heap us ds as
 | _, _, _, .nil, .nil => ⟨_, .nil⟩
 | _, _, _, .cons h t, .cons r q =>
  let ⟨_, a⟩ := Deep.reads I h r
  let ⟨_, b⟩ := DeepAll.reads I t q
  ⟨_, .cons a b⟩
end
structure Shows (d : PyData) : Prop where
 sh : d.showable = true
 nd : d.hasDict = false
 sz : d.shown.length ≤ sizeLine
 dp : d.depth ≤ 16
def rRepr (K : PySem.W.Frag) : List V -> Hp -> VK -> Prop := fun xs H Q => ∃ v d, xs = [v] /\ Deep K H v d /\ Shows d /\ Q (.str d.shown) H
theorem call_repr {X : Cx} {k : Nat} (hr : Room k X.A) : CallR X (.builtin "repr") (rRepr X.K) := by
 intro pins s σ H xs us Q I r h
 obtain ⟨v, d, rfl, dp, sh, q⟩ := h
 obtain ⟨u, rfl, ru⟩ := vals1 r
 cases dp with
 | non => cases (show u = Value.none from ru); exact PySem.P.repr_of_none ⟨.str "None", H, I.tok _, ⟨_, rfl⟩, q⟩
 | bl b => cases (show u = Value.bool b from ru); exact PySem.P.repr_of_bool ⟨.str _, H, I.tok _, ⟨_, rfl⟩, q⟩
 | int i =>
  obtain ⟨t, e⟩ := (show ∃ t, u = Value.int i t from ru)
  cases e
  exact PySem.P.repr_of_int (of_decide_eq_true sh.sh) ⟨.str _, H, I.tok _, ⟨_, rfl⟩, q⟩
 | str x =>
  obtain ⟨t, e⟩ := (show ∃ t, u = Value.str x t from ru)
  cases e
  exact PySem.P.repr_of_str ⟨.str _, H, I.tok _, ⟨_, rfl⟩, q⟩ sh.sz
 | @lst a ys ds e h =>
  cases (show u = Value.ref a from ru)
  obtain ⟨as, rd⟩ := Deep.reads I (.lst e h) (show RelV (.ref a) (.ref a) from rfl)
  exact repr_of_reads' rd sh.sh (fun z => by rw [sh.nd] at z; cases z) hr.gd (by have := hr.units; have := sh.dp; omega) (fun _ _ z => z) (fun h' u tk hk => ⟨.str _, H, I.kept hk, ⟨_, rfl⟩, q⟩) sh.sz
 | @tup a ys ds e h =>
  cases (show u = Value.ref a from ru)
  obtain ⟨as, rd⟩ := Deep.reads I (.tup e h) (show RelV (.ref a) (.ref a) from rfl)
  exact repr_of_reads' rd sh.sh (fun z => by rw [sh.nd] at z; cases z) hr.gd (by have := hr.units; have := sh.dp; omega) (fun _ _ z => z) (fun h' u tk hk => ⟨.str _, H, I.kept hk, ⟨_, rfl⟩, q⟩) sh.sz
end B
namespace B
open PySem PySem.Spec L2 PyProof.Rows
def cxC (X : Cx) (N' : List Str) (scope : Scope) (cl : List (Str × Addr)) (C : Addr) (fp : List Addr) (pins : List (Addr × Obj)) (s : Shared) (H : Hp) : Cx :=
 { X with N := N', s₀ := s, H₀ := H, env := compEnvC scope cl C X.env, outer := X.stack, stack := X.stack, ex := fp, fn := fun _ => false, pn := X.pn ++ pins, xe := fun _ _ => False }
def FreeOk (X : Cx) (scope : Scope) (cl : List (Str × Addr)) : List Str -> List (Option Nat) -> Prop
 | [], [] => True
 | _ :: N, none :: r => FreeOk X scope cl N r
 | x :: N, some j :: r => X.N[j]? = some x /\ X.env.kindOf x = some .cell /\ (compEnvC scope cl 0 X.env).kindOf x = some .cell /\ cl.lookup x = X.env.cells.lookup x /\ FreeOk X scope cl N r
 | _, _ => False
def frees (src : List (Option Nat)) (σ : L2.St) : L2.St := src.map fun o => o.bind fun j => (σ[j]?).getD none
theorem FreeOk.len {X : Cx} {scope : Scope} {cl : List (Str × Addr)} : ∀ {N : List Str} {src : List (Option Nat)}, FreeOk X scope cl N src -> N.length = src.length
 | [], [], _ => rfl
 | _ :: _, none :: _, h => congrArg (· + 1) (FreeOk.len (X := X) (scope := scope) (cl := cl) h)
 | _ :: _, some _ :: _, h => congrArg (· + 1) (FreeOk.len (X := X) (scope := scope) (cl := cl) h.2.2.2.2)
theorem FreeOk.at {X : Cx} {scope : Scope} {cl : List (Str × Addr)} {σ : L2.St} : ∀ {N : List Str} {src : List (Option Nat)} {i : Nat} {x : Str} {v : V}, FreeOk X scope cl N src -> N[i]? = some x -> (frees src σ)[i]? = some (some v) →
  ∃ j : Nat, X.N[j]? = some x /\ σ[j]? = some (some v) /\ X.env.kindOf x = some .cell /\ (compEnvC scope cl 0 X.env).kindOf x = some .cell /\ cl.lookup x = X.env.cells.lookup x
 | y :: N, none :: r, 0, x, v, h, e, q => by cases q
 | y :: N, none :: r, i + 1, x, v, h, e, q => FreeOk.at (N := N) (src := r) (i := i) h e q
 | y :: N, some j :: r, 0, x, v, h, e, q => by
  cases e
  refine ⟨j, h.1, ?_, h.2.1, h.2.2.1, h.2.2.2.1⟩
  have q' : some ((σ[j]?).getD none) = some (some v) := q
  injection q' with q'
  cases z : σ[j]? with
  | none => rw [z] at q'; cases q'
  | some o => rw [z] at q'; exact congrArg some q'
 | y :: N, some j :: r, i + 1, x, v, h, e, q => FreeOk.at (N := N) (src := r) (i := i) h.2.2.2.2 e q
def CellsOk (X : Cx) (scope : Scope) (cl : List (Str × Addr)) : Prop :=
 (∀ x, ((compEnvC scope cl 0 X.env).kindOf x = some .cell ∨ (compEnvC scope cl 0 X.env).kindOf x = some .free) -> ∃ c, cl.lookup x = some c) /\ ∀ x c, cl.lookup x = some c -> X.env.cells.lookup x = some c
def CellsIn (X : Cx) : List (Str × Addr) -> Prop
 | [] => True
 | y :: r => X.env.cells.lookup y.1 = some y.2 /\ CellsIn X r
theorem CellsIn.mem {X : Cx} : ∀ {cl : List (Str × Addr)}, CellsIn X cl -> ∀ y ∈ cl, X.env.cells.lookup y.1 = some y.2
 | [], _, y, h => by cases h
 | z :: r, k, y, h => by
  rcases List.mem_cons.mp h with e | h
  ·rw [e]; exact k.1
  ·exact CellsIn.mem k.2 y h
theorem mem_of_lookup {α : Type} {x : Str} {v : α} : ∀ {l : List (Str × α)}, l.lookup x = some v -> (x, v) ∈ l
 | [], h => by cases h
 | (y, w) :: r, h => by
  rw [List.lookup_cons] at h
  cases e : x == y with
  | true =>
   rw [e] at h
   have e' : x = y := eq_of_beq e
   cases h
   rw [e']; exact List.mem_cons_self
  | false =>
   rw [e] at h
   exact List.mem_cons_of_mem _ (mem_of_lookup h)
theorem cells_of {X : Cx} {scope : Scope} {cl : List (Str × Addr)} (h1 : ((relabel scope X.env).names.all fun y => !(y.2 == .cell || y.2 == .free) || (cl.lookup y.1).isSome) = true) (h2 : CellsIn X cl) : CellsOk X scope cl := by
 refine ⟨fun x h => ?_, fun x c e => h2.mem _ (mem_of_lookup e)⟩
 have h3 := List.all_eq_true.mp h1
 have key : ∀ k : NameKind, (k = .cell ∨ k = .free) -> (relabel scope X.env).names.lookup x = some k -> ∃ c, cl.lookup x = some c := fun k hk e => by
  have q := h3 _ (mem_of_lookup e)
  have z : (k == NameKind.cell || k == NameKind.free) = true := by rcases hk with rfl | rfl <;> rfl
  simp only [z, Bool.not_true, Bool.false_or] at q
  exact Option.isSome_iff_exists.mp q
 rcases h with h | h
 ·exact key _ (.inl rfl) h
 ·exact key _ (.inr rfl) h
def Ext (σ σ' : L2.St) : Prop := σ'.length = σ.length /\ ∀ (i : Nat) (v : V), σ[i]? = some (some v) -> σ'[i]? = some (some v)
theorem Ext.set {σ : L2.St} {i : Nat} {v : V} (h : σ[i]? = some none) : Ext σ (σ.set i (some v)) := by
 refine ⟨List.length_set, fun j u e => ?_⟩
 have ne : i ≠ j := fun z => by subst z; rw [h] at e; cases e
 rw [List.getElem?_set_ne ne]; exact e
theorem Ext.set' {σ τ : L2.St} {i : Nat} {v : V} (e : Ext σ τ) (h : σ[i]? = some none) : Ext σ (τ.set i (some v)) := by
 refine ⟨by rw [List.length_set]; exact e.1, fun j u q => ?_⟩
 have ne : i ≠ j := fun z => by subst z; rw [h] at q; cases q
 rw [List.getElem?_set_ne ne]; exact e.2 j u q
section
variable {X : Cx} {N' : List Str} {scope : Scope} {cl : List (Str × Addr)} {src : List (Option Nat)} {pins : List (Addr × Obj)} {σ : L2.St} {H : Hp} {s : Shared} {fp : List Addr}
theorem Cx.comp_ok {C : Addr} (I : Inv X pins σ H s) (hC : s.heap.objs.size ≤ C) (hk : scope.kind = .function) (hf : ∀ b ∈ fp, FpOk X pins H b) (hfs : ∀ b ∈ fp, b < s.heap.objs.size) (hc : CellsOk X scope cl) :
  (cxC X N' scope cl C fp pins s H).Ok where
 mod := I.ok.mod
 kind := hk
 glob := I.ok.glob
 blt := I.ok.blt
 above := hC
 inj := fun x y c e1 e2 => I.ok.inj x y c (hc.2 x c e1) (hc.2 y c e2)
 has := fun x h => hc.1 x h
 cab := fun x c z => nomatch z
 hd := I.ok.hd
 frames := I.ok.frames
 stk := .inl rfl
 exf := fun b hb => ⟨fun z => by have := hfs b hb; rw [show b = C from z] at this; exact absurd (Nat.lt_of_lt_of_le this hC) (Nat.lt_irrefl _), fun x c e => (hf b hb).2.2.2.2.1 x c (hc.2 x c e)⟩
 bs := I.bs
 bsz := Nat.le_trans I.ok.bsz I.sz
 noex := fun b o e hb => by
  rcases (hf b hb).2.2.2.1 with z | z
  ·exact I.ok.noex b o e z
  ·rw [(I.ok.bs b o e).1] at z; cases z
 exfs := fun b hb z => by
  rcases List.mem_cons.mp (I.stkSub b z) with q | q
  ·exact (hf b hb).2.1 q
  ·exact (hf b hb).2.2.1 q
 funs := I.stack
 frf := I.stkFree
theorem Inv.comp {C : Addr} {h₁ : Heap} {m : Str -> Option Value} {tk : Nat} (I : Inv X pins σ H s) (hC : C = s.heap.objs.size) (hns : h₁.Ns C m) (keep : ∀ b o, s.heap.get? b = some o -> h₁.get? b = some o)
  (hk : scope.kind = .function) (hf : ∀ b ∈ fp, FpOk X pins H b) (hfs : ∀ b ∈ fp, b < s.heap.objs.size) (hc : CellsOk X scope cl) (hfree : FreeOk X scope cl N' src) :
  Inv (cxC X N' scope cl C fp pins s H) [] (frees src σ) H { s with heap := h₁, toks := tk } where
 ok := Cx.comp_ok I (Nat.le_of_eq hC.symm) hk hf hfs hc
 os := rfl
 bare := I.bare
 base := Un.kept keep
 loc := ⟨m, hns, fun i x v e1 e2 _ => by
  obtain ⟨j, hj, hσ, kc, kc', hl⟩ := hfree.at e1 e2
  obtain ⟨m0, hn0, hl0⟩ := I.loc
  obtain ⟨u, r, l⟩ := hl0 j x v hj hσ (Or.inr (Or.inl kc))
  rcases l with ⟨k, _⟩ | ⟨k, c, e, o, ho, hd⟩
  ·rw [kc] at k; cases k
  ·exact ⟨u, r, .inr ⟨.inl kc', c, hl.trans e, o, keep c o ho, hd⟩⟩⟩
 cell := fun x c e => let ⟨v, o, ho, hd⟩ := I.cell x c (hc.2 x c e); ⟨v, o, keep _ _ ho, hd⟩
 free := I.hok.fresh (Nat.le_of_eq hC.symm)
 freeC := fun x c e => I.freeC x c (hc.2 x c e)
 pin := fun p hp => by
  have hp' : p ∈ X.pn ++ pins := by
   have z : p ∈ (X.pn ++ pins) ++ [] := hp
   rw [List.append_nil] at z; exact z
  obtain ⟨e, n, ne, nf, d⟩ := I.pin p hp'
  refine ⟨keep _ _ e, n, fun z => ?_, fun z => ?_, d⟩
  ·have := Heap.lt_size e; rw [show p.1 = C from z, hC] at this; exact Nat.lt_irrefl _ this
  ·rcases List.mem_cons.mp (I.stkSub _ z) with q | q
   ·exact ne q
   ·exact nf q
 hok := I.hok.kept keep
 len := by show (frees src σ).length = N'.length; unfold frees; rw [List.length_map, hfree.len]
end
def PTs (X : Cx) (ifs : List Expr) (t : TT) : Prop :=
 ∀ (pins : List (Addr × Obj)) (s : Shared) (σ : L2.St) (H : Hp) (Q : Bool -> Hp -> Prop), Inv X pins σ H s -> t σ H Q →
  wpAny (model X.prog X.w) X.A (forIn ifs true fun c r => if r = true then do let ok ← isTrue c X.env (eval c X.env); pure (ForInStep.yield ok) else pure (ForInStep.yield r)) (TP X pins σ Q) X.xe s
def tYes : TT := fun _ H Q => Q true H
theorem pts_nil {X : Cx} : PTs X [] tYes := fun _ _ _ H _ I h => wpAny_tests_nil ⟨H, I, h⟩
theorem pts_one {X : Cx} {c : Expr} {t : TT} (h : PT X c t) : PTs X [c] t := fun pins s σ H Q I q => wpAny_tests_one (h pins s σ H Q I q)
section
variable {prog : Program} {w : World} {A : Around} {R : Result -> Shared -> Prop} {s : Shared}
theorem comp_loop {elt target iter : Expr} {ifs : List Expr} {scope : Scope} {pos : Pos} {it acc : Value} {env : Env} (I : Nat -> Shared -> Prop)
  (turn : ∀ n s, I n s -> wpAny (model prog w) A (pyNext it) (fun r s₁ => match r with
   | none => R (.ok .next) s₁
   | some v => wpAny (model prog w) A (letOwnedTupleGo target it v) (fun _ s₁' => wpAny (model prog w) A (assign target env v) (fun _ s₂ =>
     wpAny (model prog w) A (forIn ifs true fun c r => if r = true then do let ok ← isTrue c env (eval c env); pure (ForInStep.yield ok) else pure (ForInStep.yield r)) (fun ok s₃ =>
      if ok = true then wpAny (model prog w) A (eval elt env) (fun x s₄ =>
       wpAny (model prog w) A (call (.builtin "list.append") [acc, x]) (fun _ s₅ => ∃ m, m < n /\ I m s₅) (fun _ _ => False) s₄) (fun _ _ => False) s₃
      else ∃ m, m < n /\ I m s₃) (fun _ _ => False) s₂) (fun _ _ => False) s₁') (fun _ _ => False) s₁) (fun _ _ => False) s)
  (n : Nat) (h : I n s) : codeAny (model prog w) A (.compLoop (.ListComp elt [⟨target, iter, ifs, 0⟩] scope pos) 0 it acc env) R s := by
 refine codeAny_loop rfl I (fun n s hI => ?_) n h
 show wpAny _ A ((compTurn (.ListComp elt [⟨target, iter, ifs, 0⟩] scope pos) 0 it acc env).onRaise (fun x => do noteFrame x env; theTreesLotGoes x)) _ _ s
 refine wpAny_noted ?_
 rw [compTurn_list]
 refine wpAny_bind (wpAny_standAt (wpAny_bind (wpAny_mono (turn n s hI) (fun r s₁ h₁ => ?_) fun _ _ h' => h'.elim)))
 cases r with
 | none => exact wpAny_pure h₁
 | some v =>
  refine wpAny_bind (wpAny_mono h₁ (fun _ s₁' h₁' => ?_) fun _ _ h' => h'.elim)
  refine wpAny_bind (wpAny_mono h₁' (fun _ s₂ h₂ => wpAny_bind (wpAny_mono h₂ (fun ok s₃ h₃ => ?_) fun _ _ h' => h'.elim)) fun _ _ h' => h'.elim)
  cases ok with
  | false => exact wpAny_pure ⟨rfl, h₃⟩
  | true =>
   exact wpAny_bind (wpAny_bind (wpAny_mono h₃ (fun x s₄ h₄ => wpAny_bind (wpAny_mono h₄ (fun _ s₅ h₅ => wpAny_pure (wpAny_pure ⟨rfl, h₅⟩)) fun _ _ h' => h'.elim)) fun _ _ h' => h'.elim))
end
structure OffC (X : Cx) (pins : List (Addr × Obj)) (H : Hp) (C : Addr) : Prop where
 no : H C = none
 lo : C ≠ X.env.locals
 fs : C ∉ X.fs
 old : X.s₀.heap.get? C = none
 ce : ∀ x c, X.env.cells.lookup x = some c -> c ≠ C
 pn : ∀ p ∈ X.pn ++ pins, p.1 ≠ C
theorem OffC.turned {X : Cx} {pins : List (Addr × Obj)} {σ : L2.St} {H : Hp} {C : Addr} {s : Shared} (o : OffC X pins H C) (I : Inv X pins σ H s) {h' : Heap} (sb : Heap.SameBut C s.heap h') : Inv X pins σ H { s with heap := h' } :=
 I.turned (it := C) (t' := s.toks) (fun b u hb e => sb.extBut b u hb e) o.no o.lo (.inr o.old) o.ce o.pn
def tComp (wi : TI) (src : List (Option Nat)) (g : TG) (tt : TT) (te : TE) : TE := fun σ H Q => wi σ H fun J H1 => ∀ D, H1 D = none -> ∃ W : Nat -> Nat -> List V -> Hp -> Prop,
 (∃ m, W 0 m [] (upd H1 D (.lst []))) /\ ∀ i m ys H, W i m ys H -> (J.stop i H /\ Q (.ref D) H) ∨ (J.go i H /\ ∀ x H', J.yld i H x H' -> g x (frees src σ) H' fun σ2 H2 => Ext (frees src σ) σ2 /\ tt σ2 H2 fun ok H3 =>
  if ok = true then te σ2 H3 fun y H4 => H4 D = some (.lst ys) /\ ys.length < sizeLine /\ ∃ m', m' < m /\ W (i + 1) m' (ys ++ [y]) (upd H4 D (.lst (ys ++ [y]))) else ∃ m', m' < m /\ W (i + 1) m' ys H3)
section
variable {X : Cx} {N' : List Str} {scope : Scope} {cl : List (Str × Addr)} {src : List (Option Nat)} {tg iter elt : Expr} {ifs : List Expr} {wi : TI} {g : TG} {tt : TT} {te : TE} {pos : Pos}
theorem comp_run (hc : X.calm = true) (hi : PI X tg iter wi) (hg : ∀ C fp pins s H, PG (cxC X N' scope cl C fp pins s H) tg g) (ht : ∀ C fp pins s H, PTs (cxC X N' scope cl C fp pins s H) ifs tt)
  (he : ∀ C fp pins s H, PE (cxC X N' scope cl C fp pins s H) elt te) (hfree : FreeOk X scope cl N' src) (hcell : ∀ x ∈ scope.names, x.2 ≠ .cell) (hkind : scope.kind = .function) (hcl : CellsOk X scope cl)
  {RR : Value -> Addr -> Result -> Shared -> Prop} {pins : List (Addr × Obj)} {s : Shared} {σ : L2.St} {H : Hp} {Q : VK} (I : Inv X pins σ H s) (h : tComp wi src g tt te σ H Q)
  (hRR : ∀ D C H' s', Q (.ref D) H' -> (∃ m, s'.heap.Ns C m) -> Inv X pins σ H' s' -> OffC X pins H' C -> RR (.ref D) C (.ok .next) s') :
  wpAny (model X.prog X.w) X.A (eval iter X.env) (fun x s₁ => wpAny (model X.prog X.w) X.A (pyIter x) (fun itv s₂ => wpAny (model X.prog X.w) X.A (newList []) (fun acc s₃ =>
   wpAny (model X.prog X.w) X.A (newFunctionEnv scope X.env.globals cl [] X.env.qual none .none (some X.env)) (fun cenv s₄ =>
    codeAny (model X.prog X.w) X.A (.compStart (.ListComp elt [⟨tg, iter, ifs, 0⟩] scope pos) 0 itv acc { cenv with scope := relabel scope X.env }) (RR acc cenv.locals) s₄) X.xe s₃) X.xe s₂) X.xe s₁) X.xe s := by
 refine thn (hi pins s σ H _ I h) fun v s1 h1 => thn h1 fun itv s2 h2 => ?_
 obtain ⟨it, fp, tn, J, H2, e, I2, T, st2, f2, h2⟩ := h2
 subst e
 refine wpAny_newObj_type ?_ (by show 0 ≤ sizeLine; exact Nat.zero_le _)
 have hD : H2 s2.heap.objs.size = none := I2.fresh
 have I3 : Inv X pins σ (upd H2 s2.heap.objs.size (.lst [])) { s2 with heap := s2.heap.push { cls := .type "list", data := .seq ([] : List Value).toArray } } := I2.lnew (t' := s2.toks) (its := []) .nil (Nat.zero_le _)
 obtain ⟨W, ⟨m0, w0⟩, turn⟩ := h2 s2.heap.objs.size hD
 generalize hDe : s2.heap.objs.size = D at I3 turn w0 hD ⊢
 have st3 : tn 0 (s2.heap.push { cls := .type "list", data := .seq ([] : List Value).toArray }) := T.keep _ _ _ st2 fun b _ o e => Heap.get?_push_of_some _ e
 have f3 : ∀ b ∈ fp, FpOk X pins (upd H2 D (.lst [])) b /\ b < (s2.heap.push { cls := .type "list", data := .seq ([] : List Value).toArray }).objs.size := fun b hb => by
  obtain ⟨o, e, _⟩ := T.obj _ _ st2 b hb
  have l := Heap.lt_size e
  rw [hDe] at l
  refine ⟨⟨?_, (f2 b hb).2⟩, by rw [Heap.size_push, hDe]; exact Nat.lt_succ_of_lt l⟩
  rw [upd_ne (Nat.ne_of_lt l)]; exact (f2 b hb).1
 generalize (s2.heap.push { cls := .type "list", data := .seq ([] : List Value).toArray }) = h3 at I3 st3 f3 ⊢
 refine wpAny_newFunctionEnv hcell (by intro y hy; simp at hy) (fun h₄ hns₄ hsb₄ => ?_) hkind
 have keep : ∀ b o, h3.get? b = some o -> h₄.get? b = some o := fun b o e => hsb₄.extBut b o (Nat.ne_of_lt (Heap.lt_size e)) (Heap.get?_push_of_some _ e)
 have I4 := Inv.comp (C := h3.objs.size) (fp := fp) (tk := s2.toks + ([] : List (Str × Value)).length) I3 rfl hns₄ keep hkind (fun b hb => (f3 b hb).1) (fun b hb => (f3 b hb).2) hcl hfree
 have st4 : tn 0 h₄ := T.keep _ _ _ st3 fun b _ o e => keep b o e
 have fpn : ∀ b ∈ fp, (upd H2 D (.lst [])) b = none := fun b hb => (f3 b hb).1.1
 have hn3 : ∀ b ∈ fp, b ≠ h3.objs.size := fun b hb => Nat.ne_of_lt (f3 b hb).2
 have stat : ∀ {H' : Hp}, (∀ b ∈ fp, H' b = none) -> ∀ b ∈ fp, FpOk (cxC X N' scope cl h3.objs.size fp pins { s2 with heap := h3 } (upd H2 D (.lst []))) [] H' b := fun hn b hb =>
  ⟨hn b hb, hn3 b hb, I4.ok.exfs b hb, .inl hb, fun x c e => (f3 b hb).1.2.2.2.2.1 x c (hcl.2 x c e), fun p hp => (f3 b hb).1.2.2.2.2.2 p (by
   have z : p ∈ (X.pn ++ pins) ++ [] := hp
   rw [List.append_nil] at z; exact z)⟩
 have back : ∀ {H' : Hp} {s' : Shared}, Inv (cxC X N' scope cl h3.objs.size fp pins { s2 with heap := h3 } (upd H2 D (.lst []))) [] (frees src σ) H' s' -> (∃ m, s'.heap.Ns h3.objs.size m) /\ Inv X pins σ H' s' /\ OffC X pins H' h3.objs.size := fun {H' s'} I' => by
  have Ib : Inv X pins σ H' s' := I3.call' I'.os I'.base I'.hok I'.bare fun b hb => ⟨(f3 b hb).1.2.2.2.1, (f3 b hb).1.2.1, (f3 b hb).1.2.2.2.2.1, (f3 b hb).1.2.2.2.2.2⟩
  refine ⟨let ⟨m, hm, _⟩ := I'.loc; ⟨m, hm⟩, Ib, ⟨I'.free, fun z => ?_, I3.nofs (Nat.le_refl _), Heap.get?_none_of_le I3.sz, fun x c e z => ?_, fun p hp z => ?_⟩⟩
  ·have := I3.lt; rw [← z] at this; exact Nat.lt_irrefl _ this
  ·obtain ⟨v, o, ho, _⟩ := I3.cell x c e
   have := Heap.lt_size ho; rw [z] at this; exact Nat.lt_irrefl _ this
  ·obtain ⟨e, _⟩ := I3.pin p hp
   have := Heap.lt_size e; rw [z] at this; exact Nat.lt_irrefl _ this
 have loop : codeAny (model X.prog X.w) X.A (.compLoop (.ListComp elt [⟨tg, iter, ifs, 0⟩] scope pos) 0 (.ref it) (.ref D) (compEnvC scope cl h3.objs.size X.env)) (RR (.ref D) h3.objs.size) { s2 with heap := h₄, toks := s2.toks + ([] : List (Str × Value)).length } := by
  refine comp_loop (fun n s' => ∃ i ys H', Inv (cxC X N' scope cl h3.objs.size fp pins { s2 with heap := h3 } (upd H2 D (.lst []))) [] (frees src σ) H' s' /\ tn i s'.heap /\ (∀ b ∈ fp, H' b = none) /\ W i n ys H') ?_ m0 ⟨0, [], _, I4, st4, fpn, w0⟩
  rintro n s5 ⟨i, ys, H5, I5, st5, fr5, w5⟩
  rcases turn i n ys H5 w5 with ⟨stop, qn⟩ | ⟨go, step⟩
  ·refine thn (T.done (cxC X N' scope cl h3.objs.size fp pins { s2 with heap := h3 } (upd H2 D (.lst []))) rfl rfl rfl hc i [] s5 _ H5 _ I5 (stat fr5) st5 stop) fun r s6 ⟨hr, I6⟩ => ?_
   subst hr
   obtain ⟨b1, b2, b3⟩ := back I6
   exact hRR D _ H5 s6 qn b1 b2 b3
  ·refine thn (T.item (cxC X N' scope cl h3.objs.size fp pins { s2 with heap := h3 } (upd H2 D (.lst []))) rfl rfl rfl hc i [] s5 _ H5 _ I5 (stat fr5) st5 go) fun r s6 ⟨u, hr, h6⟩ => ?_
   subst hr
   refine thn h6 fun _ s7 ⟨x, H7, I7, r7, y7, st7, fr7⟩ => ?_
   have I7' := I7.pinned (stat fr7) (T.obj _ _ st7)
   refine thn (hg _ _ _ _ _ _ s7 _ H7 x u _ I7' r7 (step x H7 y7)) fun _ s8 ⟨σ8, H8, I8, ex8, q8⟩ => ?_
   refine thn (ht _ _ _ _ _ _ s8 σ8 H8 _ I8 q8) fun ok s9 ⟨H9, I9, q9⟩ => ?_
   have again : ∀ {ys' : List V} {Ha : Hp} {sa : Shared}, Inv (cxC X N' scope cl h3.objs.size fp pins { s2 with heap := h3 } (upd H2 D (.lst []))) ([] ++ pinsAt fp s7.heap) σ8 Ha sa -> (∃ m', m' < n /\ W (i + 1) m' ys' Ha) →
     ∃ m, m < n /\ ∃ i ys H', Inv (cxC X N' scope cl h3.objs.size fp pins { s2 with heap := h3 } (upd H2 D (.lst []))) [] (frees src σ) H' sa /\ tn i sa.heap /\ (∀ b ∈ fp, H' b = none) /\ W i m ys H' := fun {ys' Ha sa} Ia ⟨m', hm, wa⟩ => by
    refine ⟨m', hm, i + 1, ys', Ha, (Ia.unpinned).weak ex8.1.symm ex8.2, T.keep _ _ _ st7 fun b hb o e => (Ia.pin (b, o) (List.mem_append_right _ (List.mem_append_right _ (mem_pinsAt hb e)))).1, fun b hb => ?_, wa⟩
    obtain ⟨o, e, _⟩ := T.obj _ _ st7 b hb
    exact (Ia.pin (b, o) (List.mem_append_right _ (List.mem_append_right _ (mem_pinsAt hb e)))).2.1
   cases ok with
   | false => exact again I9 q9
   | true =>
    refine thn (he _ _ _ _ _ _ s9 σ8 H9 _ I9 q9) fun y s10 ⟨yv, H10, I10, r10, q10, hz, wn⟩ => ?_
    refine thn (mt_append _ s10 σ8 H10 (.ref D) [yv] (.ref D) [y] (fun _ Hz => ∃ m', m' < n /\ W (i + 1) m' (ys ++ [yv]) Hz) I10 rfl (.cons r10 .nil) ⟨D, ys, yv, rfl, rfl, q10, hz, wn⟩) fun _ s11 ⟨_, H11, I11, _, q11⟩ => ?_
    exact again I11 q11
 exact codeAny_compStart_list loop (T.self _ 0 _ _ _ st4 loop)
theorem pe_lcomp (hc : X.calm = true) (hi : PI X tg iter wi) (hg : ∀ C fp pins s H, PG (cxC X N' scope cl C fp pins s H) tg g) (ht : ∀ C fp pins s H, PTs (cxC X N' scope cl C fp pins s H) ifs tt)
  (he : ∀ C fp pins s H, PE (cxC X N' scope cl C fp pins s H) elt te) (hfree : FreeOk X scope cl N' src) (hclos : closureFor scope X.env = pure cl) (hcell : ∀ x ∈ scope.names, x.2 ≠ .cell) (hkind : scope.kind = .function)
  (hnames : ∀ x ∈ scope.names, x.2 = .local -> scope.names.lookup x.1 = some .local) (hcl : CellsOk X scope cl) (hs : ∀ x, foldedSetIterable iter X.env x = pure x := by intro _; rfl) :
  PE X (.ListComp elt [⟨tg, iter, ifs, 0⟩] scope pos) (tComp wi src g tt te) := by
 intro pins s σ H Q I h
 rw [eval_ListComp]
 refine wpAny_comprehension_free (use := none) rfl hs hclos hkind hnames (comp_run hc hi hg ht he hfree hcell hkind hcl (RR := fun acc C => compPost (model X.prog X.w) X.A X.xe none (EP X pins σ Q) acc C) I h fun D C H' s' q hm hI hb => ?_)
 obtain ⟨m, hm⟩ := hm
 exact ⟨m, hm, fun h' sb => ⟨.ref D, H', hb.turned hI sb, rfl, q⟩⟩
theorem ps_setC {i : Nat} {x : Str} {pos' pos2 : Pos} (hN : X.N.Nodup) (hi' : X.N[i]? = some x) (hx : Loc X.env.scope x) (hc : X.calm = true) (hi : PI X tg iter wi) (hg : ∀ C fp pins s H, PG (cxC X N' scope cl C fp pins s H) tg g) (ht : ∀ C fp pins s H, PTs (cxC X N' scope cl C fp pins s H) ifs tt)
  (he : ∀ C fp pins s H, PE (cxC X N' scope cl C fp pins s H) elt te) (hfree : FreeOk X scope cl N' src) (hclos : closureFor scope X.env = pure cl) (hcell : ∀ x ∈ scope.names, x.2 ≠ .cell) (hkind : scope.kind = .function)
  (hnames : ∀ x ∈ scope.names, x.2 = .local -> scope.names.lookup x.1 = some .local) (hcl : CellsOk X scope cl) (hs : ∀ x, foldedSetIterable iter X.env x = pure x := by intro _; rfl)
  (hsw : swapsWith (.ListComp elt [⟨tg, iter, ifs, 0⟩] scope pos) (some (.Name x pos')) pos2.line X.env = pure true := by rfl) (hf : X.fn x = true ∨ X.env.scope.names.lookup x = some .local := by first | exact .inl rfl | exact .inr rfl | assumption) :
  PS X (.Assign [.Name x pos'] (.ListComp elt [⟨tg, iter, ifs, 0⟩] scope pos) pos2) (tAsg (tComp wi src g tt te) (gName i)) := by
 intro pins s σ H D I h
 rw [exec_Assign_Name_used _ _ _ _ hsw]
 refine wpAny_bind (wpAny_standAt ?_)
 show wpAny _ _ ((comprehension (.ListComp elt [⟨tg, iter, ifs, 0⟩] scope pos) scope X.env _ (newList []) false (eval iter X.env) (some (assign (.Name x pos') X.env)) >>= fun _ => pure ()) >>= fun _ => pure Flow.next) _ _ s
 refine wpAny_bind (wpAny_bind (wpAny_mono (wpAny_comprehension_free (use := some (assign (.Name x pos') X.env)) (Q := fun _ s'' => SP X pins D .next s'') rfl hs hclos hkind hnames (comp_run hc hi hg ht he hfree hcell hkind hcl (RR := fun acc C => compPost (model X.prog X.w) X.A X.xe (some (assign (.Name x pos') X.env)) (fun _ s'' => SP X pins D .next s'') acc C) I h fun E C H' s' q hm hI hb => ?_)) (fun _ s'' h'' => wpAny_pure (wpAny_pure h'')) fun _ _ e => e))
 obtain ⟨m, o, es, ep, ho, hd, r1, r2⟩ := hm
 have I' : Inv X (pins ++ [(C, o)]) σ H' s' := hI.pins_of fun p hp => by
  rcases List.mem_append.mp hp with h | h
  ·exact hI.pin p (List.mem_append_right _ h)
  ·rw [List.mem_singleton] at h
   rw [h]
   exact ⟨ho, hb.no, hb.lo, hb.fs, fun v z => by rw [hd] at z; cases z⟩
 refine wpAny_assign_Name (store_ok I' hN hi' hx (show RelV (.ref E) (.ref E) from rfl) (fun s'' I'' => ?_) hf)
 have hC := (I''.pin (C, o) (List.mem_append_right _ (List.mem_append_right _ List.mem_cons_self))).1
 have I3 : Inv X pins (σ.set i (some (.ref E))) H' s'' := I''.pins_of fun p hp => I''.pin p (List.mem_append_right _ (List.mem_append_left _ hp))
 exact ⟨m, ⟨o, es, ep, hC, hd, r1, r2⟩, fun h' sb => ⟨_, H', hb.turned I3 sb, q⟩⟩
end
def rNeD (K : PySem.W.Frag) : R2 := fun x y H Q => ∃ d d', Deep K H x d /\ Deep K H y d' /\ d.canLay0 = true /\ d'.canLay0 = true /\ d.depth ≤ 32 /\ Q (.bl (!PyData.eqv d d')) H
theorem op_neD {X : Cx} {k : Nat} (hr : Room k X.A) : OpR X (compareOp .NotEq) (rNeD X.K) := by
 intro pins s σ H x y v u Q I rx ry h
 obtain ⟨d, d', hd, hd', c, c', dp, q⟩ := h
 obtain ⟨as, ra⟩ := Deep.reads I hd rx
 obtain ⟨bs, rb⟩ := Deep.reads I hd' ry
 exact SeqAt.compareNe_reads ra rb c c' (by have := hr.units; omega) ⟨.bl _, H, I, rfl, q⟩
noncomputable def hitAt (h : Heap) (x : Value) (d : PyData) (y : Value) : Bool :=
 open Classical in if y = x then true else if z : ∃ d', d'.canLay0 = true /\ d'.depth ≤ 32 /\ ∃ as, Reads h y d' as then PyData.eqv z.choose d else false
theorem hitAt_eq {A : Around} {s : Shared} {x y : Value} {d : PyData} {as : List Addr} (rx : Reads s.heap x d as) (cx : d.canLay0 = true) (hu : A.units + 32 < cLine)
  (hy : ∃ d', d'.canLay0 = true /\ d'.depth ≤ 32 /\ ∃ as, Reads s.heap y d' as) : SeqAt.EqAt A s y x (hitAt s.heap x d y) := by
 unfold hitAt
 by_cases e : y = x
 ·rw [if_pos e, e]; exact SeqAt.EqAt.same x
 ·rw [if_neg e, dif_pos hy]
  obtain ⟨c, dp, bs, r⟩ := hy.choose_spec
  exact SeqAt.eqAt_reads _ _ A s _ _ _ _ r rx c cx (by omega)
def Known (K : PySem.W.Frag) (H : Hp) (xs : List V) : Prop := ∀ x ∈ xs, ∃ d, Deep K H x d /\ d.canLay0 = true /\ d.depth ≤ 32
theorem known_reads {X : Cx} {pins : List (Addr × Obj)} {σ : L2.St} {H : Hp} {s : Shared} (I : Inv X pins σ H s) : ∀ {xs : List V} {us : List Value}, Vals xs us -> Known X.K H xs -> ∀ u ∈ us, ∃ d', d'.canLay0 = true /\ d'.depth ≤ 32 /\ ∃ as, Reads s.heap u d' as
 | _, _, .nil, _, u, hu => by cases hu
 | x :: xs, w :: us, .cons r t, k, u, hu => by
  rcases List.mem_cons.mp hu with rfl | hu
  ·obtain ⟨d, hd, c, dp⟩ := k x List.mem_cons_self
   obtain ⟨as, ra⟩ := Deep.reads I hd r
   exact ⟨d, c, dp, as, ra⟩
  ·exact known_reads I t (fun y hy => k y (List.mem_cons_of_mem _ hy)) u hu
def rNotInS (K : PySem.W.Frag) : R2 := fun x y H Q => ∃ a p xs, x = .ref a /\ y = .ref p /\ SqL K H p xs /\ V.ref a ∈ xs /\ Known K H xs /\ Q (.bl false) H
def rIndexS (K : PySem.W.Frag) : V -> List V -> Hp -> VK -> Prop := fun x vs H Q => ∃ p xs a d, x = .ref p /\ vs = [.ref a] /\ SqL K H p xs /\ V.ref a ∈ xs /\ Known K H xs /\ Deep K H (.ref a) d /\ d.canLay0 = true /\ d.depth ≤ 32 ∧
 ∀ (j : Nat) (v' : V), xs[j]? = some v' -> (v' = .ref a ∨ ∀ d', Deep K H v' d' -> d'.canLay0 = true -> PyData.eqv d' d = true) -> Q (.int j) H
theorem first_hit {α : Type} (e : α -> Bool) : ∀ (l : List α), (∃ x ∈ l, e x = true) -> ∃ j, ∃ h : j < l.length, e l[j] = true /\ ∀ m (hm : m < l.length), m < j -> e l[m] = false
 | [], ⟨_, h, _⟩ => by cases h
 | y :: l, h => by
  cases c : e y with
  | true => exact ⟨0, by simp, c, fun m _ hm => absurd hm (Nat.not_lt_zero _)⟩
  | false =>
   obtain ⟨x, hx, ex⟩ := h
   rcases List.mem_cons.mp hx with z | hx
   ·rw [← z, ex] at c; cases c
   ·obtain ⟨j, hj, e1, e2⟩ := first_hit e l ⟨x, hx, ex⟩
    refine ⟨j + 1, by simpa using hj, by simpa using e1, fun m hm hl => ?_⟩
    cases m with
    | zero => simpa using c
    | succ m => simpa using e2 m (by simpa using hm) (by omega)
end B
namespace B
abbrev R := Int × Int
def mkR (a b : Int) : R := (a / (Int.gcd a b : Int), b / (Int.gcd a b : Int))
structure Wf (n : Nat) (r : R) : Prop where
 pos : 0 < r.2
 top : r.1.natAbs < 2 ^ n
 bot : r.2.natAbs < 2 ^ n
 cop : Int.gcd r.1 r.2 = 1
theorem Wf.mono {n m : Nat} {r : R} (h : Wf n r) (l : n ≤ m) : Wf m r := ⟨h.pos, Nat.lt_of_lt_of_le h.top (Nat.pow_le_pow_right (by decide) l), Nat.lt_of_lt_of_le h.bot (Nat.pow_le_pow_right (by decide) l), h.cop⟩
theorem gcd_posR {a b : Int} (hb : 0 < b) : 0 < (Int.gcd a b : Int) := by
 have h : Int.gcd a b ≠ 0 := fun z => by
  have := (Int.gcd_eq_zero_iff.mp z).2
  omega
 omega
theorem natAbs_div_le (a : Int) {g : Int} (hg : 0 < g) : (a / g).natAbs ≤ a.natAbs := by
 have h1 := Int.ediv_mul_le a (show g ≠ 0 by omega)
 have h2 := Int.lt_ediv_add_one_mul_self a hg
 rcases Int.le_total 0 a with h | h
 ·have h3 := Int.ediv_nonneg h (show 0 ≤ g by omega)
  have h4 : a / g ≤ a / g * g := by
   have : a / g * 1 ≤ a / g * g := Int.mul_le_mul_of_nonneg_left (by omega) h3
   omega
  omega
 ·have h3 : a / g ≤ 0 := by
   have := Int.ediv_le_ediv hg h
   rw [Int.zero_ediv] at this; exact this
  have h5 : a ≤ a / g := by
   have : a / 1 ≤ a / g := by
    have q : (a / g + 1) * g ≤ (a / g + 1) * 1 ∨ 0 < a / g + 1 := by
     rcases Int.le_total (a / g + 1) 0 with z | z
     ·left
      have := Int.mul_le_mul_of_nonneg_left (a := 1) (b := g) (c := -(a / g + 1)) (by omega) (by omega)
      have e1 : -(a / g + 1) * 1 = -((a / g + 1) * 1) := Int.neg_mul _ _
      have e2 : -(a / g + 1) * g = -((a / g + 1) * g) := Int.neg_mul _ _
      omega
     ·rcases Int.lt_or_eq_of_le z with z | z
      ·right; exact z
      ·left; rw [← z]; simp
    rw [Int.ediv_one]
    rcases q with q | q
    ·omega
    ·omega
   rw [Int.ediv_one] at this; exact this
  omega
theorem mkR_wf {n : Nat} {a b : Int} (hb : 0 < b) (h1 : a.natAbs < 2 ^ n) (h2 : b.natAbs < 2 ^ n) : Wf n (mkR a b) :=
 ⟨Int.ediv_pos_of_pos_of_dvd hb (Int.le_of_lt (gcd_posR hb)) (Int.gcd_dvd_right a b), Nat.lt_of_le_of_lt (natAbs_div_le _ (gcd_posR hb)) h1, Nat.lt_of_le_of_lt (natAbs_div_le _ (gcd_posR hb)) h2, Int.gcd_ediv_gcd_ediv_gcd (by have := gcd_posR (a := a) hb; omega)⟩
def plusR (r q : R) : R := mkR (r.1 * q.2 + q.1 * r.2) (r.2 * q.2)
def timesR (r q : R) : R := mkR (r.1 * q.1) (r.2 * q.2)
def lessR (r q : R) : Bool := decide (r.1 * q.2 < q.1 * r.2)
theorem mul_lt {x y : Int} {n m : Nat} (h1 : x.natAbs < 2 ^ n) (h2 : y.natAbs < 2 ^ m) : (x * y).natAbs < 2 ^ (n + m) := by
 rw [Int.natAbs_mul, Nat.pow_add]
 exact Nat.mul_lt_mul'' h1 h2
theorem plus_top {n m : Nat} {r q : R} (h : Wf n r) (k : Wf m q) : (r.1 * q.2 + q.1 * r.2).natAbs < 2 ^ (n + m + 1) := by
 have a := mul_lt h.top k.bot
 have b := mul_lt k.top h.bot
 rw [Nat.add_comm m n] at b
 have e : 2 ^ (n + m + 1) = 2 * 2 ^ (n + m) := by rw [Nat.pow_succ, Nat.mul_comm]
 have := Int.natAbs_add_le (r.1 * q.2) (q.1 * r.2)
 omega
theorem plus_wf {n m : Nat} {r q : R} (h : Wf n r) (k : Wf m q) : Wf (n + m + 1) (plusR r q) :=
 mkR_wf (Int.mul_pos h.pos k.pos) (plus_top h k) (Nat.lt_of_lt_of_le (mul_lt h.bot k.bot) (Nat.pow_le_pow_right (by decide) (Nat.le_succ _)))
theorem times_wf {n m : Nat} {r q : R} (h : Wf n r) (k : Wf m q) : Wf (n + m) (timesR r q) :=
 mkR_wf (Int.mul_pos h.pos k.pos) (mul_lt h.top k.top) (mul_lt h.bot k.bot)
end B
namespace B
open PySem L2 PyProof.Rows
def CBig (i j : Int) : Prop := i.natAbs < 2 ^ 4000 /\ j.natAbs < 2 ^ 4000
def CQuo (_ j : Int) : Prop := 0 < j /\ j.natAbs < 2 ^ 4000
theorem bits_of {i : Int} (h : i.natAbs < 2 ^ 4000) : Builtin.Int.intBits i ≤ 2 ^ 20 := by
 unfold Builtin.Int.intBits
 split
 ·exact Nat.zero_le _
 ·rename_i z
  have hz : i.natAbs ≠ 0 := fun q => z (by have : i = 0 := by omega
                                           rw [this]; rfl)
  have := (Nat.log2_lt hz).mpr h
  have e : (2 : Nat) ^ 20 = 1048576 := by decide
  omega
section
variable {X : Cx}
theorem op_mulB : OpR X (binaryOp .Mult) (rI CBig fun i j => .int (i * j)) := opI fun _ _ _ _ _ _ _ hc q => mul_int q (IntMulOk.of_bits (bits_of hc.1) (bits_of hc.2))
theorem op_quo : OpR X (binaryOp .FloorDiv) (rI CQuo fun i j => .int (i / j)) := opI fun i j _ _ _ _ _ hc q => by
 have h1 : (0 : Int) < j := hc.1
 have h2 : j.natAbs < 2 ^ 4000 := hc.2
 refine floordiv_int (by omega) (by rw [Int.fdiv_eq_ediv_of_nonneg i (by omega)]; exact q) (.inl (PyProof.noPylong_of_log2 ?_))
 exact Nat.lt_trans ((Nat.log2_lt (show j.natAbs ≠ 0 by omega)).mpr h2) (by decide)
end
def Tst (K : PySem.W.Frag) (H H' : Hp) : Prop := ∀ p xs, SqT K H p xs -> SqT K H' p xs
theorem Tst.trans {K : PySem.W.Frag} {H H1 H2 : Hp} (a : Tst K H H1) (b : Tst K H1 H2) : Tst K H H2 := fun p xs h => b p xs (a p xs h)
theorem Tst.same {K : PySem.W.Frag} {H H' : Hp} (s : Same H H') : Tst K H H' := fun p xs h => by
 rcases h with (h | ⟨o, h⟩) | h
 ·exact .inl (.inl (s _ _ h))
 ·exact .inl (.inr ⟨o, s _ _ h⟩)
 ·exact .inr h
theorem Tst.step {K : PySem.W.Frag} {t : Addr} {H H' : Hp} (S : Step t H H') : Tst K H H' := fun p xs h => by
 obtain ⟨ys, ht⟩ := S.tp
 rcases h with (h | ⟨o, h⟩) | h
 ·exact .inl (.inl (S.keep _ _ (fun z => by subst z; rw [h] at ht; cases ht) h))
 ·exact .inl (.inr ⟨o, S.keep _ _ (fun z => by subst z; rw [h] at ht; cases ht) h⟩)
 ·exact .inr h
theorem Tst.up {K : PySem.W.Frag} {H : Hp} {l : Addr} {xs : List V} (h : H l = some (.lst xs)) (ys : List V) : Tst K H (upd H l (.lst ys)) := Tst.step (Step.up h)
def RV (K : PySem.W.Frag) (H : Hp) (v : V) (r : R) : Prop := ∃ p, v = .ref p /\ SqT K H p [.int r.1, .int r.2]
theorem RV.mono {K : PySem.W.Frag} {H H' : Hp} {v : V} {r : R} (h : RV K H v r) (t : Tst K H H') : RV K H' v r := let ⟨p, e, q⟩ := h; ⟨p, e, t _ _ q⟩
theorem RV.of {K : PySem.W.Frag} {H : Hp} {p : Addr} {a b : Int} (h : H p = some (.tup [.int a, .int b])) : RV K H (.ref p) (a, b) := ⟨p, rfl, SqT.of h⟩
def RVs (K : PySem.W.Frag) (H : Hp) (xs : List V) (rs : List R) : Prop := xs.length = rs.length /\ ∀ (i : Nat) (x : V) (r : R), xs[i]? = some x -> rs[i]? = some r -> RV K H x r
theorem RVs.at {K : PySem.W.Frag} {H : Hp} {xs : List V} {rs : List R} {i : Nat} {x : V} (h : RVs K H xs rs) (e : xs[i]? = some x) : ∃ r, rs[i]? = some r /\ RV K H x r := by
 have hi := (List.getElem?_eq_some_iff.mp e).1
 have hj : i < rs.length := by rw [← h.1]; exact hi
 exact ⟨rs[i], List.getElem?_eq_getElem hj, h.2 i x _ e (List.getElem?_eq_getElem hj)⟩
def powR (r : R) : Nat -> R
 | 0 => (1, 1)
 | k + 1 => timesR (powR r k) r
theorem one_wf : Wf 1 (1, 1) := ⟨by decide, by decide, by decide, by decide⟩
theorem pow_wf {n : Nat} {r : R} (h : Wf n r) : ∀ k, Wf (1 + k * n) (powR r k)
 | 0 => by rw [Nat.zero_mul]; exact one_wf
 | k + 1 => by
  have := times_wf (pow_wf h k) h
  rw [show 1 + (k + 1) * n = 1 + k * n + n by rw [Nat.add_mul]; omega]
  exact this
def sumR (rs : List R) : R := rs.foldl plusR (0, 1)
def dR (r : R) : PyData := .tuple [.int r.1, .int r.2]
theorem RV.deep {K : PySem.W.Frag} {H : Hp} {v : V} {r : R} (h : RV K H v r) : Deep K H v (dR r) := by
 obtain ⟨p, rfl, q⟩ := h
 exact .tup q (.cons (.int _) (.cons (.int _) .nil))
theorem dR_lay (r : R) : (dR r).canLay0 = true := rfl
theorem dR_depth (r : R) : (dR r).depth ≤ 32 := by show max 0 (max 0 0) + 1 ≤ 32; decide
theorem log_of {i : Int} {n : Nat} (h : i.natAbs < 2 ^ n) (hn : n ≤ 1900) : i.natAbs.log2 < 1920 := by
 by_cases z : i.natAbs = 0
 ·rw [z]; decide
 ·have := (Nat.log2_lt z).mpr (Nat.lt_of_lt_of_le h (Nat.pow_le_pow_right (by decide) hn))
  omega
theorem len_of {i : Int} {n : Nat} (h : i.natAbs < 2 ^ n) (hn : n ≤ 1900) : (PyData.int i).shown.length ≤ 1921 := by
 have q := int_text_length_le (a := i) (k := 1920) (by decide) (log_of h hn)
 have e : (PyData.int i).shown.length = (toString i).length := by
  show (Str.ofString (toString i)).length = _
  exact PySem.ofString_length _
 omega
theorem dR_shows {r : R} {n : Nat} (h : Wf n r) (hn : n ≤ 1900) : Shows (dR r) where
 sh := by
  show (decide (r.1.natAbs.log2 < 1920) && (decide (r.2.natAbs.log2 < 1920) && true)) = true
  rw [decide_eq_true (log_of h.top hn), decide_eq_true (log_of h.bot hn)]; rfl
 nd := rfl
 sz := by
  have a := len_of h.top hn
  have b := len_of h.bot hn
  have q := tupleText_len_le [(PyData.int r.1).shown, (PyData.int r.2).shown]
  have e : (dR r).shown = tupleText [(PyData.int r.1).shown, (PyData.int r.2).shown] := rfl
  rw [e]
  simp only [List.map_cons, List.map_nil, List.sum_cons, List.sum_nil, List.length_cons, List.length_nil] at q
  have : sizeLine = 16777216 := by decide
  omega
 dp := by show max 0 (max 0 0) + 1 ≤ 16; decide
theorem eqv_dR {r q : R} (h : PyData.eqv (dR r) (dR q) = true) : r = q := by
 have z : (r.1 == q.1 && (r.2 == q.2 && true)) = true := h
 simp only [Bool.and_true, Bool.and_eq_true, beq_iff_eq] at z
 exact Prod.ext z.1 z.2
theorem eqv_same (r : R) : PyData.eqv (dR r) (dR r) = true := by
 show (r.1 == r.1 && (r.2 == r.2 && true)) = true
 simp
end B
namespace B
open PySem L2 PyProof.Rows
def dL (rs : List R) : PyData := .list (rs.map dR)
theorem layL (rs : List R) : (dL rs).canLay0 = true := by
 show PyData.canLayAll0 (rs.map dR) = true
 induction rs with
 | nil => rfl
 | cons r rs ih =>
  show (PyData.canLay0 (dR r) && PyData.canLayAll0 (rs.map dR)) = true
  rw [dR_lay, ih]; rfl
def iSeq (K : PySem.W.Frag) (tl : TE) : TI := fun σ H R => tl σ H fun x H1 => (∃ a, x = .ref a /\ (∃ xs, SqL K H1 a xs) /\ R (Itl K a) H1) ∨ (∃ a, x = .ref a /\ (∃ xs, SqT K H1 a xs) /\ R (Itt K a) H1)
theorem pi_seq {X : Cx} {tg l : Expr} {tl : TE} (hl : PE X l tl) : PI X tg l (iSeq X.K tl) := by
 intro pins s σ H R I h
 refine thn (hl pins s σ H _ I h) fun v s1 ⟨x, H1, I1, r1, q1⟩ => ?_
 rcases q1 with ⟨a, e, ⟨xs, hq⟩, q⟩ | ⟨a, e, ⟨xs, hq⟩, q⟩
 ·subst e; cases r1
  obtain ⟨its, rv, p, hz⟩ := I1.list hq
  refine wpAny_pyIter_list p.isList ?_
  refine ⟨s1.heap.objs.size, [s1.heap.objs.size], _, _, H1, rfl, I1.kept (t' := s1.toks) fun b o e => Heap.get?_push_of_some _ e, turn_list a _, ⟨_, Heap.get?_push_size _ rfl, rfl, rfl⟩, fun b hb => ?_, q⟩
  have e : b = s1.heap.objs.size := by simpa using hb
  subst e
  exact I1.fpOk (Nat.le_refl _) (I1.hok.fresh (Nat.le_refl _))
 ·subst e; cases r1
  obtain ⟨its, rv, p, hz⟩ := I1.tuple hq
  refine wpAny_pyIter_tuple (show s1.heap.IsTuple a its.toArray from p) ?_
  refine ⟨s1.heap.objs.size, [s1.heap.objs.size], _, _, H1, rfl, I1.kept (t' := s1.toks) fun b o e => Heap.get?_push_of_some _ e, turn_tuple a _, ⟨_, Heap.get?_push_size _ rfl, rfl, rfl⟩, fun b hb => ?_, q⟩
  have e : b = s1.heap.objs.size := by simpa using hb
  subst e
  exact I1.fpOk (Nat.le_refl _) (I1.hok.fresh (Nat.le_refl _))
end B
namespace B
structure Red (r : R) : Prop where
 pos : 0 < r.2
 cop : Int.gcd r.1 r.2 = 1
theorem mkR_red {a b : Int} (hb : 0 < b) : Red (mkR a b) :=
 ⟨Int.ediv_pos_of_pos_of_dvd hb (Int.le_of_lt (gcd_posR hb)) (Int.gcd_dvd_right a b), Int.gcd_ediv_gcd_ediv_gcd (by have := gcd_posR (a := a) hb; omega)⟩
theorem mkR_uniq {a b x y : Int} (hb : 0 < b) (hy : 0 < y) (g : Int.gcd x y = 1) (e : x * b = a * y) : mkR a b = (x, y) := by
 have h1 : Int.gcd (a * y) (b * y) = Int.gcd a b * y.natAbs := Int.gcd_mul_right a y b
 have h2 : Int.gcd (x * b) (y * b) = Int.gcd x y * b.natAbs := Int.gcd_mul_right x b y
 rw [e, Int.mul_comm y b, h1, g, Nat.one_mul] at h2
 have h3 : (Int.gcd a b : Int) * y = b := by
  have z : ((Int.gcd a b * y.natAbs : Nat) : Int) = (b.natAbs : Int) := congrArg _ h2
  rw [Int.natCast_mul, Int.natAbs_of_nonneg (by omega), Int.natAbs_of_nonneg (by omega)] at z
  exact z
 have gp := gcd_posR (a := a) hb
 have h4 : a = x * (Int.gcd a b : Int) := by
  have z : x * (Int.gcd a b : Int) * y = a * y := by rw [Int.mul_assoc, h3]; exact e
  exact (Int.eq_of_mul_eq_mul_right (by omega) z).symm
 unfold mkR
 generalize (Int.gcd a b : Int) = G at h3 h4 gp
 subst h4
 subst h3
 rw [Int.mul_ediv_cancel _ (by omega), Int.mul_ediv_cancel_left _ (by omega)]
theorem cop_left {a b c : Int} (h : Int.gcd a b = 1) (d : c ∣ a) : Int.gcd c b = 1 :=
 Int.gcd_eq_one_iff.mpr fun z h1 h2 => Int.gcd_eq_one_iff.mp h z (Int.dvd_trans h1 d) h2
theorem cop_right {a b c : Int} (h : Int.gcd a b = 1) (d : c ∣ b) : Int.gcd a c = 1 := by
 rw [Int.gcd_comm]
 exact cop_left (by rw [Int.gcd_comm]; exact h) d
theorem cop_mul {a b c : Int} (h : Int.gcd a b = 1) (k : Int.gcd a c = 1) : Int.gcd a (b * c) = 1 := by
 rw [Int.gcd_mul_right_right_of_gcd_eq_one h]; exact k
theorem cop_mulL {a b c : Int} (h : Int.gcd a c = 1) (k : Int.gcd b c = 1) : Int.gcd (a * b) c = 1 := by
 rw [Int.gcd_comm]
 exact cop_mul (by rw [Int.gcd_comm]; exact h) (by rw [Int.gcd_comm]; exact k)
theorem gcd_parts {a b : Int} (hb : 0 < b) : ∃ g x y : Int, (Int.gcd a b : Int) = g /\ 0 < g /\ a = g * x /\ b = g * y /\ Int.gcd x y = 1 := by
 have gp := gcd_posR (a := a) hb
 obtain ⟨x, hx⟩ := Int.gcd_dvd_left a b
 obtain ⟨y, hy⟩ := Int.gcd_dvd_right a b
 refine ⟨_, x, y, rfl, gp, hx, hy, ?_⟩
 have z := Int.gcd_ediv_gcd_ediv_gcd (i := a) (j := b) (by omega)
 have e1 : a / (Int.gcd a b : Int) = x := by
  conv => lhs; lhs; rw [hx]
  exact Int.mul_ediv_cancel_left _ (by omega)
 have e2 : b / (Int.gcd a b : Int) = y := by
  conv => lhs; lhs; rw [hy]
  exact Int.mul_ediv_cancel_left _ (by omega)
 rw [e1, e2] at z
 exact z
theorem pos_of {g y b : Int} (hb : 0 < b) (hg : 0 < g) (e : b = g * y) : 0 < y := by
 rcases Int.lt_or_le 0 y with h | h
 ·exact h
 ·have := Int.mul_le_mul_of_nonneg_left h (Int.le_of_lt hg)
  rw [Int.mul_zero] at this
  omega
def plusG (r q : R) : R :=
 let d : Int := (Int.gcd r.2 q.2 : Nat)
 let t := r.1 * (q.2 / d) + q.1 * (r.2 / d)
 let e : Int := (Int.gcd t d : Nat)
 (t / e, r.2 / d * (q.2 / e))
theorem plusG_eq {r q : R} (hr : Red r) (hq : Red q) : plusG r q = plusR r q := by
 obtain ⟨d, u, v, e0, dp, e1, e2, cuv⟩ := gcd_parts (a := r.2) hq.pos
 have up := pos_of hr.pos dp e1
 have vp := pos_of hq.pos dp e2
 obtain ⟨e, x, w, f0, ep, f1, f2, cxw⟩ := gcd_parts (a := r.1 * v + q.1 * u) dp
 have wp := pos_of dp ep f2
 have du : r.2 / d = u := by rw [e1]; exact Int.mul_ediv_cancel_left _ (by omega)
 have dv : q.2 / d = v := by rw [e2]; exact Int.mul_ediv_cancel_left _ (by omega)
 have te : (r.1 * v + q.1 * u) / e = x := by rw [f1]; exact Int.mul_ediv_cancel_left _ (by omega)
 have qe : q.2 / e = w * v := by rw [e2, f2, Int.mul_assoc]; exact Int.mul_ediv_cancel_left _ (by omega)
 have c1 : Int.gcd r.1 u = 1 := cop_right hr.cop ⟨d, by rw [e1, Int.mul_comm]⟩
 have c2 : Int.gcd q.1 v = 1 := cop_right hq.cop ⟨d, by rw [e2, Int.mul_comm]⟩
 have xd : x ∣ (r.1 * v + q.1 * u) := ⟨e, by rw [f1, Int.mul_comm]⟩
 have t1 : Int.gcd (r.1 * v + q.1 * u) u = 1 := by
  rw [Int.gcd_comm, Int.gcd_add_mul_right_right, Int.gcd_comm]
  exact cop_mulL c1 (by rw [Int.gcd_comm]; exact cuv)
 have t2 : Int.gcd (r.1 * v + q.1 * u) v = 1 := by
  rw [Int.add_comm, Int.gcd_comm, Int.gcd_add_mul_right_right, Int.gcd_comm]
  exact cop_mulL c2 cuv
 have cx : Int.gcd x (u * (w * v)) = 1 := cop_mul (cop_left t1 xd) (cop_mul cxw (cop_left t2 xd))
 have z : plusG r q = (x, u * (w * v)) := by
  unfold plusG
  simp only [e0, du, dv, f0, te, qe]
 rw [z]
 unfold plusR
 refine (mkR_uniq (Int.mul_pos hr.pos hq.pos) (Int.mul_pos up (Int.mul_pos wp vp)) cx ?_).symm
 have k : r.1 * q.2 + q.1 * r.2 = d * (e * x) := by
  rw [e1, e2, ← f1, Int.mul_add]
  rw [Int.mul_left_comm r.1 d v, Int.mul_left_comm q.1 d u]
 rw [k, e1, e2]
 have k2 : d * u * (d * v) = d * u * (e * w * v) := by rw [← f2]
 rw [k2]
 ac_rfl
def timesG (r q : R) : R :=
 let l : Int := (Int.gcd r.1 q.2 : Nat)
 let m : Int := (Int.gcd q.1 r.2 : Nat)
 (r.1 / l * (q.1 / m), r.2 / m * (q.2 / l))
theorem timesG_eq {r q : R} (hr : Red r) (hq : Red q) : timesG r q = timesR r q := by
 obtain ⟨l, a, b, e0, lp, e1, e2, cab⟩ := gcd_parts (a := r.1) hq.pos
 obtain ⟨m, c, d, f0, mp, f1, f2, ccd⟩ := gcd_parts (a := q.1) hr.pos
 have bp := pos_of hq.pos lp e2
 have dp := pos_of hr.pos mp f2
 have z : timesG r q = (a * c, d * b) := by
  unfold timesG
  simp only [e0, f0]
  rw [show r.1 / l = a by rw [e1]; exact Int.mul_ediv_cancel_left _ (by omega), show q.2 / l = b by rw [e2]; exact Int.mul_ediv_cancel_left _ (by omega),
   show q.1 / m = c by rw [f1]; exact Int.mul_ediv_cancel_left _ (by omega), show r.2 / m = d by rw [f2]; exact Int.mul_ediv_cancel_left _ (by omega)]
 have cad : Int.gcd a d = 1 := cop_left (cop_right hr.cop ⟨m, by rw [f2, Int.mul_comm]⟩) ⟨l, by rw [e1, Int.mul_comm]⟩
 have ccb : Int.gcd c b = 1 := cop_left (cop_right hq.cop ⟨l, by rw [e2, Int.mul_comm]⟩) ⟨m, by rw [f1, Int.mul_comm]⟩
 rw [z]
 unfold timesR
 refine (mkR_uniq (Int.mul_pos hr.pos hq.pos) (Int.mul_pos dp bp) (cop_mul (cop_mulL cad ccd) (cop_mulL cab ccb)) ?_).symm
 rw [e1, e2, f1, f2]
 ac_rfl
theorem plus_red {r q : R} (hr : Red r) (hq : Red q) : Red (plusR r q) := mkR_red (Int.mul_pos hr.pos hq.pos)
theorem times_red {r q : R} (hr : Red r) (hq : Red q) : Red (timesR r q) := mkR_red (Int.mul_pos hr.pos hq.pos)
theorem pow_eq_red {r : R} (hr : Red r) : ∀ k : Nat, powR r k = (r.1 ^ k, r.2 ^ k)
 | 0 => by rw [Int.pow_zero, Int.pow_zero]; rfl
 | k + 1 => by
  show timesR (powR r k) r = _
  rw [pow_eq_red hr k]
  unfold timesR
  refine mkR_uniq (Int.mul_pos (Int.pow_pos hr.pos) hr.pos) (Int.pow_pos hr.pos) (Int.pow_gcd_pow_of_gcd_eq_one hr.cop) ?_
  rw [Int.pow_succ, Int.pow_succ]
end B
namespace B
open PySem L2 PyProof.Rows
def CQuoN (_ j : Int) : Prop := j ≠ 0 /\ j.natAbs < 2 ^ 4000
theorem op_quoN {X : Cx} : OpR X (binaryOp .FloorDiv) (rI CQuoN fun i j => .int (i.fdiv j)) := opI fun i j _ _ _ _ _ hc q => by
 have h1 : j ≠ 0 := hc.1
 have h2 : j.natAbs < 2 ^ 4000 := hc.2
 refine floordiv_int h1 q (.inl (PyProof.noPylong_of_log2 ?_))
 exact Nat.lt_trans ((Nat.log2_lt (show j.natAbs ≠ 0 by omega)).mpr h2) (by decide)
def mkS (a b : Int) : R := if b < 0 then mkR (-a) (-b) else mkR a b
theorem mkS_pos {a b : Int} (h : 0 < b) : mkS a b = mkR a b := by unfold mkS; rw [if_neg (by omega)]
theorem fdiv_pos {a g : Int} (h : 0 < g) : a.fdiv g = a / g := Int.fdiv_eq_ediv_of_nonneg a (by omega)
theorem fdiv_negg {a g : Int} (h : 0 < g) : a.fdiv (-g) = -a / g := by
 have e : a.fdiv (-g) = (-a).fdiv g := by
  have := Int.neg_fdiv_neg (-a) g
  rw [Int.neg_neg] at this
  exact this
 rw [e, fdiv_pos h]
theorem gcd_neg2 (a b : Int) : Int.gcd (-a) (-b) = Int.gcd a b := by simp [Int.gcd]
theorem gcd_posN {a b : Int} (hb : b ≠ 0) : 0 < (Int.gcd a b : Int) := by
 have h : Int.gcd a b ≠ 0 := fun z => hb (Int.gcd_eq_zero_iff.mp z).2
 omega
theorem gcd_big {a b : Int} (hb : b ≠ 0) (hz : b.natAbs < 2 ^ 4000) : ((Int.gcd a b : Nat) : Int).natAbs < 2 ^ 4000 := by
 have z : Int.gcd a b ≤ b.natAbs := Nat.le_of_dvd (by omega) (by have := Int.gcd_dvd_right a b; exact Int.natAbs_dvd_natAbs.mpr this)
 have e : ((Int.gcd a b : Nat) : Int).natAbs = Int.gcd a b := Int.natAbs_natCast _
 omega
theorem mkS_pos1 {a b : Int} (hb : 0 < b) : (a.fdiv (Int.gcd a b : Int), b.fdiv (Int.gcd a b : Int)) = mkS a b := by
 rw [mkS_pos hb, fdiv_pos (gcd_posR hb), fdiv_pos (gcd_posR hb)]; rfl
theorem mkS_neg1 {a b : Int} (hb : b < 0) : (a.fdiv (-(Int.gcd a b : Int)), b.fdiv (-(Int.gcd a b : Int))) = mkS a b := by
 have g := gcd_posN (a := a) (b := b) (by omega)
 unfold mkS
 rw [if_pos hb, fdiv_negg g, fdiv_negg g]
 unfold mkR
 rw [gcd_neg2]
theorem mkS_wf {n : Nat} {a b : Int} (hb : b ≠ 0) (h1 : a.natAbs < 2 ^ n) (h2 : b.natAbs < 2 ^ n) : Wf n (mkS a b) := by
 unfold mkS
 split
 ·exact mkR_wf (by omega) (by rw [Int.natAbs_neg]; exact h1) (by rw [Int.natAbs_neg]; exact h2)
 ·exact mkR_wf (by omega) h1 h2
def minusR (r q : R) : R := mkR (r.1 * q.2 - q.1 * r.2) (r.2 * q.2)
def overR (r q : R) : R := mkS (r.1 * q.2) (r.2 * q.1)
theorem minus_wf {n m : Nat} {r q : R} (h : Wf n r) (k : Wf m q) : Wf (n + m + 1) (minusR r q) := by
 refine mkR_wf (Int.mul_pos h.pos k.pos) ?_ (Nat.lt_of_lt_of_le (mul_lt h.bot k.bot) (Nat.pow_le_pow_right (by decide) (Nat.le_succ _)))
 have a := mul_lt h.top k.bot
 have b := mul_lt k.top h.bot
 rw [Nat.add_comm m n] at b
 have e : 2 ^ (n + m + 1) = 2 * 2 ^ (n + m) := by rw [Nat.pow_succ, Nat.mul_comm]
 have := Int.natAbs_sub_le (r.1 * q.2) (q.1 * r.2)
 omega
theorem over_wf {n m : Nat} {r q : R} (h : Wf n r) (k : Wf m q) (z : q.1 ≠ 0) : Wf (n + m) (overR r q) :=
 mkS_wf (Int.mul_ne_zero (by have := h.pos; omega) z) (mul_lt h.top k.bot) (mul_lt h.bot k.top)
structure Small (d : PyData) : Prop where
 sh : d.showable = true
 nd : d.hasDict = false
 sz : d.shown.length ≤ 5000
 dp : d.depth ≤ 8
theorem small_dR {r : R} {n : Nat} (h : Wf n r) (hn : n ≤ 1900) : Small (dR r) where
 sh := (dR_shows h hn).sh
 nd := rfl
 sz := by
  have a := len_of h.top hn
  have b := len_of h.bot hn
  have q := tupleText_len_le [(PyData.int r.1).shown, (PyData.int r.2).shown]
  have e : (dR r).shown = tupleText [(PyData.int r.1).shown, (PyData.int r.2).shown] := rfl
  rw [e]
  simp only [List.map_cons, List.map_nil, List.sum_cons, List.sum_nil, List.length_cons, List.length_nil] at q
  omega
 dp := by show max 0 (max 0 0) + 1 ≤ 8; decide
theorem small_all : ∀ {ds : List PyData}, (∀ d ∈ ds, Small d) -> PyData.showableAll ds = true /\ PyData.hasDictAll ds = false /\ PyData.depthAll ds ≤ 8 /\ ((PyData.shownAll ds).map (·.length)).sum ≤ 5000 * ds.length /\ (PyData.shownAll ds).length = ds.length
 | [], _ => ⟨rfl, rfl, Nat.zero_le _, Nat.zero_le _, rfl⟩
 | d :: ds, h => by
  obtain ⟨a, b, c, e, f⟩ := small_all (ds := ds) fun x hx => h x (List.mem_cons_of_mem _ hx)
  have z := h d List.mem_cons_self
  refine ⟨?_, ?_, ?_, ?_, ?_⟩
  ·show (d.showable && PyData.showableAll ds) = true
   rw [z.sh, a]; rfl
  ·show (d.hasDict || PyData.hasDictAll ds) = false
   rw [z.nd, b]; rfl
  ·show max d.depth (PyData.depthAll ds) ≤ 8
   have := z.dp; omega
  ·show d.shown.length + ((PyData.shownAll ds).map (·.length)).sum ≤ 5000 * (ds.length + 1)
   have := z.sz; omega
  ·show (PyData.shownAll ds).length + 1 = ds.length + 1
   rw [f]
end B
namespace B
theorem mkR_cross {a b : Int} (hb : 0 < b) : (mkR a b).1 * b = a * (mkR a b).2 := by
 obtain ⟨g, x, y, _, gp, e1, e2, c⟩ := gcd_parts (a := a) hb
 have yp := pos_of hb gp e2
 have e : x * b = a * y := by rw [e1, e2]; ac_rfl
 rw [mkR_uniq hb yp c e]
 exact e
theorem mkS_spec {a b : Int} (hb : b ≠ 0) : Red (mkS a b) /\ (mkS a b).1 * b = a * (mkS a b).2 := by
 unfold mkS
 split
 ·rename_i h
  refine ⟨mkR_red (by omega), ?_⟩
  have z := mkR_cross (a := -a) (b := -b) (by omega)
  rw [Int.mul_neg, Int.neg_mul] at z
  exact Int.neg_inj.mp z
 ·exact ⟨mkR_red (by omega), mkR_cross (by omega)⟩
theorem mkS_uniq {a b x y : Int} (hb : b ≠ 0) (hy : 0 < y) (g : Int.gcd x y = 1) (e : x * b = a * y) : mkS a b = (x, y) := by
 unfold mkS
 split
 ·refine mkR_uniq (by omega) hy g ?_
  rw [Int.mul_neg, Int.neg_mul, e]
 ·exact mkR_uniq (by omega) hy g e
theorem over_eq {r q : R} (hr : Red r) (hq : q.1 ≠ 0) : timesR r (mkS q.2 q.1) = overR r q := by
 obtain ⟨hs, es⟩ := mkS_spec (a := q.2) hq
 have hp : 0 < r.2 * (mkS q.2 q.1).2 := Int.mul_pos hr.pos hs.pos
 have ht := mkR_red (a := r.1 * (mkS q.2 q.1).1) hp
 have et := mkR_cross (a := r.1 * (mkS q.2 q.1).1) hp
 unfold overR timesR
 generalize hS : mkS q.2 q.1 = s at hs es hp ht et ⊢
 generalize mkR (r.1 * s.1) (r.2 * s.2) = t at ht et ⊢
 refine (mkS_uniq (Int.mul_ne_zero (by have := hr.pos; omega) hq) ht.pos ht.cop ?_).symm
 have k : t.1 * (r.2 * q.1) * s.2 = r.1 * q.2 * t.2 * s.2 := by
  have a1 : t.1 * (r.2 * q.1) * s.2 = q.1 * (t.1 * (r.2 * s.2)) := by ac_rfl
  have a2 : r.1 * q.2 * t.2 * s.2 = r.1 * t.2 * (q.2 * s.2) := by ac_rfl
  rw [a1, et, a2, ← es]
  ac_rfl
 exact Int.eq_of_mul_eq_mul_right (by have := hs.pos; omega) k
theorem minus_eq (r q : R) : plusR r (-q.1, q.2) = minusR r q := by
 unfold plusR minusR
 rw [Int.neg_mul, ← Int.sub_eq_add_neg]
end B
namespace B
open PySem PySem.Spec L2 PyProof.Rows
section
variable {prog : Program} {w : World} {A : Around} {E : Value -> Shared -> Prop} {h : Heap} {g : Array GenState} {d : Drawn} {t : Nat} {os : OsState} {K : PySem.W.Frag}
variable {nm q : Str} {C N : Addr} {bs bm bmB : List Value} {hdct : Bool} {sn : List Str} {sub : List Value} {ab : Bool} {col : Option Bool} {dd : Option Addr} {k0 k1 k2 k3 k5 : Option Value} {bN newId initId : String}
theorem exc_typecall (F : ExcBaseFacts bN newId initId bmB) (T : OwnTail h bmB bm) {rest : List Value} {fI : Addr} {Q : Fin -> Shared -> Prop} (X : K.In h)
  (hC : h.get? C = some (excClassObj nm q C N bs bm hdct sn sub ab col dd k0 k1 k2 k3 k5 newId)) (hi : PySem.W.findIn K (.ref C) "__init__" = some (some (.ref fI))) (hf : PySem.W.typeIn K (.ref fI) = some (.type "function"))
  (hq : ∀ h' e, Heap.MadeExcOf h h' e (.ref C) rest -> wpAny (model prog w) A (call (.ref fI) (.ref e :: rest)) (fun r s' => r = .none /\ Q (.done (.ret (.ref e))) s') E ⟨h', g, d, t, os⟩) (hz : rest.length ≤ sizeLine) :
  wpAny (model prog w) A (Builtin.«type.__call__» ⟨.ref C :: rest, []⟩) Q E ⟨h, g, d, t, os⟩ := by
 repeat (first
  | with_reducible refine wpAny_loadPart_at hC ?_
  | with_reducible refine wpAny_madeBy_exc hC ?_
  | wp_step)
 refine codeAny_call_builtin_code (Code.quiet_builtin _ F.quiet)
  (wpAny_check_new_subT F T hC ?_)
 refine codeAny_exc_new_subT F T hC ?_ hz
 show wpAny _ _ _ _ _ _
 have up : ∀ b o, h.get? b = some o -> ((h.push { cls := .type "tuple", data := .seq rest.toArray }).push
   { cls := .ref C, data := .fields #[.ref h.objs.size, .none, .none, .none, .bool false, .none] }).get? b = some o := fun b o e =>
  Heap.get?_push_of_some _ (Heap.get?_push_of_some _ e)
 have hC₁ := up _ _ hC
 have X₁ := X.keeps up
 have hx : ((h.push { cls := .type "tuple", data := .seq rest.toArray }).push
   { cls := .ref C, data := .fields #[.ref h.objs.size, .none, .none, .none, .bool false, .none] }).get? (h.objs.size + 1) =
   some { cls := .ref C, data := .fields #[.ref h.objs.size, .none, .none, .none, .bool false, .none] } := by heap_get
 have hcC : (Value.ref C :: bm).contains (.ref C) = true := by simp
 unfold isInstance
 repeat (first
  | with_reducible refine wpAny_loadPart_at hx ?_
  | (with_reducible refine wpAny_isSubtype_exc hC₁ ?_
     rw [hcC])
  | wp_step)
 show wpAny _ _ (typeLookup (.ref C) _) _ _ _
 refine (PySem.W.looks_findIn X₁ hi) _ _ _ _ (fun _ _ e => e) ?_
 refine wpAny_holding (wpAny_bind ?_)
 refine (PySem.W.bind_fn X₁ _ hf) _ _ _ _ (fun _ _ e => e) ?_
 refine wpAny_bind (wpAny_mono (hq _ (h.objs.size + 1)
  ⟨up, Heap.get?_none_of_le (Nat.le_succ _), h.objs.size, hx, Heap.get?_none_of_le (Nat.le_refl _), ?_⟩) (fun r s' hr => ?_) fun _ _ y => y)
 ·exact Heap.get?_push_of_some _ (Heap.get?_push_at rfl rfl)
 ·obtain ⟨rfl, hQ⟩ := hr
  wp_walk
  exact hQ
theorem exc_call (F : ExcBaseFacts bN newId initId bmB) (T : OwnTail h bmB bm) {rest : List Value} {fI : Addr} {Q : Value -> Shared -> Prop} (X : K.In h)
  (hC : h.get? C = some (excClassObj nm q C N bs bm hdct sn sub ab col dd k0 k1 k2 k3 k5 newId)) (hi : PySem.W.findIn K (.ref C) "__init__" = some (some (.ref fI))) (hf : PySem.W.typeIn K (.ref fI) = some (.type "function"))
  (hq : ∀ h' e, Heap.MadeExcOf h h' e (.ref C) rest -> wpAny (model prog w) (A.under (.builtin "type.__call__" ⟨.ref C :: rest, []⟩)) (call (.ref fI) (.ref e :: rest)) (fun r s' => r = .none /\ Q (.ref e) s') E ⟨h', g, d, t, os⟩) (hz : rest.length ≤ sizeLine) :
  wpAny (model prog w) A (call (.ref C) rest) Q E ⟨h, g, d, t, os⟩ := by
 have f1 := tc_lookup
 have f2 := tc_bind (.ref C)
 have hT : (⟨h, g, d, t, os⟩ : Shared).TypeIs (.ref C) "type" := ⟨_, hC, rfl⟩
 refine wpAny_call (codeAny_of_tree ?_)
 show wpAny _ _ (callAny (.ref C) _) _ _ _
 repeat (any_goals (first
  | assumption
  | with_reducible refine wpAny_loadPart_at hC ?_
  | wp_step))
 refine ⟨rfl, ?_⟩
 refine codeAny_call_builtin_at (Code.quiet_builtin _ (by decide +kernel)) entry_typeCall
  (wpAny_check_type_call_sub hC (exc_typecall F T X hC hi hf (fun h' e hm => ?_) hz))
 exact hq h' e hm
end
def vMro : List Value := [.type "ValueError", .type "Exception", .type "BaseException", .type "object"]
structure ClsX (K : PySem.W.Frag) (C : Addr) (bm : List Value) : Prop where
 ob : ∃ nm q N bs hdct sn sub ab col dd k0 k1 k2 k3 k5, K.lookup C = some (excClassObj nm q C N bs bm hdct sn sub ab col dd k0 k1 k2 k3 k5 "ValueError.__new__")
 tl : ∀ h : Heap, K.In h -> OwnTail h vMro bm
 hd : PySem.W.hasDictIn K C = true
 sa : PySem.W.findIn K (.ref C) "__setattr__" = some (some (.builtin "object.__setattr__"))
theorem lets_by {h : Heap} {tl : List Value} (T : OwnTail h vMro tl) (self : Value) : refuseLoop self "__setattr__" tl = pure () := by
 induction T with
 | base => exact PySem.F.store_ValueError.passes self
 | own _ _ _ _ ih => rw [refuseLoop_ref]; exact ih
theorem clsX_cls {K : PySem.W.Frag} {C : Addr} {bm : List Value} (c : ClsX K C bm) : ∃ cd, PySem.W.clsIn K C = some cd /\ cd.mro = .ref C :: bm := by
 obtain ⟨nm, q, N, bs, hdct, sn, sub, ab, col, dd, k0, k1, k2, k3, k5, lk⟩ := c.ob
 unfold PySem.W.clsIn
 rw [lk]
 exact ⟨_, rfl, rfl⟩
section
variable {prog : Program} {w : World} {A : Around} {s : Shared} {K : PySem.W.Frag} {x C : Addr} {R : Result -> Shared -> Prop}
theorem store_err {ox : Obj} {od : Option Obj} {name : Str} {tk : Tok} {v : Value} {bm : List Value} (X : K.In s.heap) (I : PySem.W.InstAt s.heap x ox C od) (c : ClsX K C bm) (n : NoAttr K C name)
  (h : ∀ b, wpAny (model prog w) A.in1 (Builtin.ObjectAttr.storeInOwnDict (.ref x) (.ref C) (.str name tk) name v b) (fun fin s' => match fin with
   | .done f => R (.ok f) s'
   | .again c' => c'.quiet = true /\ codeAny (model prog w) A c' R s') (fun e s' => R (.error e) s') s) :
  codeAny (model prog w) A (.call (.builtin "object.__setattr__") ⟨[.ref x, .str name tk, v], []⟩) R s := by
 have sf := PySem.F.store_object
 obtain ⟨cd, hc, hm⟩ := clsX_cls c
 have T := c.tl _ X
 have hob : (Value.ref C :: bm).contains (.type "object") = true := by
  rw [List.contains_cons, T.hasType (X := "object") (b := true) (by decide +kernel), Bool.or_true]
 have isO : PySem.W.Looks (model prog w) s.heap (isInstance (.ref x) (.type "object")) true := by
  refine I.type.andThen (PySem.W.looks_mroIn X ?_)
  unfold PySem.W.mroIn
  rw [hc]
  show (if cd.mro.isEmpty = true then none else some (cd.mro.contains (.type "object"))) = some true
  rw [hm, hob]; rfl
 have ms : PySem.W.Looks (model prog w) s.heap (mroOf (.ref C)) (.ref C :: bm) := by
  rw [← hm]; exact (PySem.W.looks_clsIn X hc).andThen .now
 refine codeAny_call_builtin sf.slot.plain sf.entry (PySem.W.check_slot (i := "object.__setattr__") (owner := "object") (n := "__setattr__") sf.kind sf.split isO (sf.args _ _ _) ?_)
 rw [PySem.W.osa_eq, refuse_eq]
 refine wpAny_bind (wpAny_bind (I.type.here (wpAny_bind (ms.here ?_))))
 rw [refuseLoop_ref, lets_by T]
 refine wpAny_pure (wpAny_bind (I.type.here (wpAny_bind ((PySem.W.looks_findIn X n).here (wpAny_bind ?_)))))
 exact PySem.W.Looks.here (r := none) .now (h _)
end
def ExcO (a C : Addr) (dx : Option Addr) : Heap -> Prop := fun h => ∃ t : Addr, h.get? a = some { cls := .ref C, dict := dx, data := .fields #[.ref t, .none, .none, .none, .bool false, .none] }
def exO (a C : Addr) (dx : Option Addr) : HO := .ext (ExcO a C dx)
theorem exO_ok {P : Program} {w : World} {H : Hp} {h : Heap} {a C : Addr} {dx : Option Addr} (e : ExcO a C dx h) : ObjOk P w H h a (exO a C dx) :=
 ⟨e, let ⟨_, q⟩ := e; ⟨_, q⟩, fun _ _ ⟨t, q⟩ k => ⟨t, k _ q⟩⟩
def del (H : Hp) (a : Addr) : Hp := fun b => if b = a then none else H b
theorem del_same {H : Hp} {a : Addr} : del H a a = none := by unfold del; rw [if_pos rfl]
theorem del_ne {H : Hp} {a b : Addr} (h : b ≠ a) : del H a b = H b := by unfold del; rw [if_neg h]
section
variable {X : Cx} {pins : List (Addr × Obj)} {σ : L2.St} {H : Hp} {s : Shared} {a C : Addr} {dx : Option Addr}
theorem Inv.forget {φ : Heap -> Prop} (I : L2.Inv X pins σ H s) (e : H a = some (.ext φ)) (new : X.s₀.heap.get? a = none) : L2.Inv X pins σ (del H a) s := by
 have none_of : ∀ b, H b = none -> del H a b = none := fun b h => by
  by_cases z : b = a
  ·rw [z]; exact del_same
  ·rw [del_ne z]; exact h
 refine ⟨I.ok, I.os, I.bare, ⟨I.base.keep, I.base.slot, fun b o q n hx => none_of b (I.base.free b o q n hx), I.base.there, fun b xs q => ?_, fun b o u q => ?_, fun b ps q => ?_⟩, I.loc, I.cell, none_of _ I.free, fun x c q => none_of _ (I.freeC x c q), fun p hp => ?_, fun b o q => ?_, I.len⟩
 ·have z := I.base.tups b xs q
  rw [del_ne (fun k => by rw [k, e] at z; cases z)]; exact z
 ·have z := I.base.frzs b o u q
  rw [del_ne (fun k => by rw [k, e] at z; cases z)]; exact z
 ·obtain ⟨m, z⟩ := I.base.tbls b ps q
  exact ⟨m, by rw [del_ne (fun k => by rw [k, e] at z; cases z)]; exact z⟩
 ·obtain ⟨p1, p2, p3⟩ := I.pin p hp
  exact ⟨p1, none_of _ p2, p3⟩
 ·have nb : b ≠ a := fun z => by rw [z, del_same] at q; cases q
  rw [del_ne nb] at q
  refine (I.hok b o q).stay (fun c u _ z => z) (fun c z => ?_) (fun c xs z => ?_)
  ·rw [del_ne (fun k => by rw [k, e] at z; cases z)]; exact z
  ·rw [del_ne (fun k => by rw [k, e] at z; cases z)]; exact z
end
theorem ObjOk.get {P : Program} {w : World} {H : Hp} {h : Heap} {a : Addr} {o : HO} (x : L2.ObjOk P w H h a o) : ∃ u, h.get? a = some u := by
 cases o with
 | lst xs => obtain ⟨_, _, _, _, e⟩ := x; exact ⟨_, e⟩
 | tup xs => obtain ⟨_, _, _, o, e, _⟩ := x; exact ⟨_, e⟩
 | dK kvs => obtain ⟨_, _, _, _, o, _, _, e, _⟩ := x; exact ⟨_, e⟩
 | dT kvs => obtain ⟨_, _, _, _, o, _, _, e, _⟩ := x; exact ⟨_, e⟩
 | set S n => obtain ⟨o, _, _, _, e, _⟩ := x; exact ⟨_, e⟩
 | ins C dx fs => obtain ⟨_, _, _, e, _⟩ := x; exact ⟨_, e⟩
 | own y => exact x
 | xd fs => obtain ⟨_, ⟨_, _, _, e, _⟩, _⟩ := x; exact ⟨_, e⟩
 | rng lo hi => obtain ⟨_, _, _, e⟩ := x; exact ⟨_, e⟩
 | frz ob u => obtain ⟨e, _⟩ := x; exact ⟨_, e⟩
 | tbl ps => exact ⟨_, show h.get? a = some _ from x⟩
 | met f y => exact ⟨_, show h.get? a = some _ from x⟩
 | ext φ => exact x.2.1
def Trc (h : Heap) (H : Hp) (x C T : Addr) (a0 : Value) : Prop :=
 ∃ oe vs oT ts, h.get? x = some oe /\ oe.cls = .ref C /\ vs[0]? = some a0 /\ oe.data = .fields vs /\ vs[1]? = some (.ref T) /\ H T = none /\ T ≠ x /\ h.get? T = some oT /\ oT.data = .fields ts /\ ts[3]? = some .none
def CXR (P : Program) (w : World) : CXT := fun outer H s E e s' => ∃ (x C T : Addr) (a0 : Value) (H' : Hp), e = .ref x /\ s'.os = s.os /\ AllBare s'.gens /\ Un (frs outer) [] H H' s.heap s'.heap /\ HOk P w H' s'.heap /\ s.heap.get? x = none /\ s.heap.get? T = none /\ H' x = none ∧
 Trc s'.heap H' x C T a0 /\ E (.ref C) none H'
structure NewAt (X : Cx) (pins : List (Addr × Obj)) (a : Addr) : Prop where
 st : X.s₀.heap.get? a = none
 lo : a ≠ X.env.locals
 ce : ∀ x c, X.env.cells.lookup x = some c -> c ≠ a
 pi : ∀ p ∈ X.pn ++ pins, p.1 ≠ a
 fr : a ∉ frs X.stack
section
variable {X : Cx} {pins : List (Addr × Obj)} {σ : L2.St} {H H' : Hp} {s : Shared} {a : Addr}
theorem Inv.newAt (I : L2.Inv X pins σ H s) (hex : X.ex = []) (h : s.heap.get? a = none) : NewAt X pins a where
 st := by
  cases e : X.s₀.heap.get? a with
  | none => rfl
  | some o =>
   obtain ⟨o', q⟩ := I.base.there a o e (by rw [hex]; simp)
   rw [h] at q; cases q
 lo := fun z => by
  obtain ⟨m, ⟨o, _, _, q, _⟩, _⟩ := I.loc
  rw [← z, h] at q; cases q
 ce := fun x c e z => by
  obtain ⟨v, o, q, _⟩ := I.cell x c e
  rw [z, h] at q; cases q
 pi := fun p hp z => by
  obtain ⟨q, _⟩ := I.pin p hp
  rw [z, h] at q; cases q
 fr := fun z => by
  obtain ⟨_, o, q, _⟩ := I.stack.mem z
  rw [h] at q; cases q
end
section
variable {X : Cx} {pins : List (Addr × Obj)} {σ : L2.St} {H : Hp} {s : Shared} {a : Addr} {o : HO}
theorem Inv.adopt (I : L2.Inv X pins σ H s) (na : NewAt X pins a) (ha : H a = none) (hex : X.ex = []) (new : L2.ObjOk X.prog X.w (upd H a o) s.heap a o) : L2.Inv X pins σ (upd H a o) s := by
 have keep : ∀ b u, H b = some u -> upd H a o b = some u := fun b u q => by rw [upd_ne (ne_of_none q ha)]; exact q
 have nn : ∀ b, b ≠ a -> H b = none -> upd H a o b = none := fun b nb q => by rw [upd_ne nb]; exact q
 refine ⟨I.ok, I.os, I.bare, ⟨I.base.keep, I.base.slot, fun b u q n hx => nn b (fun z => by rw [z, na.st] at q; cases q) (I.base.free b u q n hx), I.base.there, fun b xs q => keep _ _ (I.base.tups b xs q), fun b u v q => keep _ _ (I.base.frzs b u v q), fun b ps q => ?_⟩, I.loc, I.cell, nn _ na.lo.symm I.free, fun x c q => nn _ (na.ce x c q) (I.freeC x c q), fun p hp => ?_, fun b u q => ?_, I.len⟩
 ·obtain ⟨m, z⟩ := I.base.tbls b ps q
  exact ⟨m, keep _ _ z⟩
 ·obtain ⟨p1, p2, p3⟩ := I.pin p hp
  exact ⟨p1, nn _ (na.pi p hp) p2, p3⟩
 ·by_cases z : b = a
  ·subst z
   rw [upd_same] at q; cases q
   exact new
  ·rw [upd_ne z] at q
   exact (I.hok b u q).stay (fun c v _ w => w) (fun c w => keep _ _ w) (fun c xs w => keep _ _ w)
theorem Inv.none_of (I : L2.Inv X pins σ H s) (h : s.heap.get? a = none) : H a = none := by
 cases q : H a with
 | none => rfl
 | some o => obtain ⟨u, z⟩ := ObjOk.get (I.hok a o q); rw [h] at z; cases z
end
structure XC (K : PySem.W.Frag) (C f : Addr) (bm : List Value) : Prop where
 ob : ∃ nm q N bs hdct sn sub ab col dd k0 k1 k2 k3 k5, K.lookup C = some (excClassObj nm q C N bs bm hdct sn sub ab col dd k0 k1 k2 k3 k5 "ValueError.__new__")
 tl : ∀ h : Heap, K.In h -> OwnTail h vMro bm
 init : PySem.W.findIn K (.ref C) "__init__" = some (some (.ref f))
 fn : PySem.W.typeIn K (.ref f) = some (.type "function")
 kp : PySem.W.keepIn K (.ref C) = true
 cl : ClsX K C bm
section
variable {X : Cx} {k : Nat} {f C : Addr} {fd : FuncData} {ps : List Str} {sp : Sp} {bm : List Value}
theorem run_exc {pins : List (Addr × Obj)} {σ : L2.St} {H : Hp} {s : Shared} {Q : Addr -> Hp -> Prop} {us : List Value} {vs : List V} {E' : Value -> Shared -> Prop} (M : XC X.K C f bm) (hex : X.ex = []) (F : FnOk X.prog X.w X.K X.mg X.base CX0 k f fd ps sp) (hr : Room (k + 1) X.A) (hb : Binds X.K fd ps [])
  (I : L2.Inv X pins σ H s) (r : Vals vs us) (hz : us.length ≤ sizeLine) (h : ∀ a, H a = none -> sp (.ref a :: vs) (upd H a (exO a C none)) (fun v H2 => v = .non /\ Q a H2) E0) :
  wpAny (model X.prog X.w) X.A (call (.ref C) us) (fun v s' => ∃ a H', v = .ref a /\ NewAt X pins a /\ L2.Inv X pins σ H' s' /\ Q a H') E' s := by
 obtain ⟨nm, q, N, bs, hdct, sn, sub, ab, col, dd, k0, k1, k2, k3, k5, lk⟩ := M.ob
 obtain ⟨hp, g, d, t, os⟩ := s
 refine exc_call PySem.F.excBase_ValueError (M.tl hp I.kIn) I.kIn (I.kIn _ _ lk) M.init M.fn (fun h' e hm => ?_) hz
 have na := B.Inv.newAt I hex hm.new
 have he := B.Inv.none_of I hm.new
 obtain ⟨tt, ho, _⟩ := hm.there
 have I1 : L2.Inv X pins σ H ⟨h', g, d, t, os⟩ := I.kept (t' := t) hm.keeps
 have I2 : L2.Inv X pins σ (upd H e (exO e C none)) ⟨h', g, d, t, os⟩ := B.Inv.adopt I1 na he hex (exO_ok ⟨tt, ho⟩)
 have hq := h e he
 have r2 : Vals (V.ref e :: vs) (Value.ref e :: us) := .cons rfl r
 have hl : (Value.ref e :: us).length = ps.length := by
  have z := r2.length
  rw [F.len _ _ _ _ hq] at z
  exact z.symm
 have hbd := hb ⟨h', g, d, t, os⟩ (Value.ref e :: us) I2.kIn (by rw [List.append_nil]; exact hl)
 rw [List.append_nil] at hbd
 refine wpAny_call (codeAny_mono (F.run _ X.stack _ _ ⟨Value.ref e :: us, []⟩ (Value.ref e :: us) _ _ E0 (hr.make C us []) (I2.env0.make C us []) hbd r2 hq) fun r s' hq' => ?_)
 cases r with
 | error e => exact False.elim hq'
 | ok fl =>
  cases fl with
  | ret u =>
   obtain ⟨v, H', I3, rv, ev, q3⟩ := I2.after hq'
   subst ev
   exact ⟨rv, e, H', rfl, na, I3, q3⟩
  | next => exact False.elim hq'
  | brk => exact False.elim hq'
  | cont => exact False.elim hq'
def Takes (X : Cx) (E : XK) : Prop := ∀ (pins : List (Addr × Obj)) (σ : L2.St) (H : Hp) (s : Shared) (a C : Addr) (oe : Obj) (vs : Array Value) (a0 : Value), L2.Inv X pins σ H s -> H a = none -> NewAt X pins a -> s.heap.get? a = some oe -> oe.data = .fields vs →
 vs[0]? = some a0 -> vs[1]? = some .none -> oe.cls = .ref C -> E (.ref C) none H -> X.xe (.ref a) s
theorem raise_own {M : Model} {A : Around} {E : Value -> Shared -> Prop} {env : Env} {nm q : Str} {N : Addr} {bs : List Value} {hdct : Bool} {sn : List Str} {sub : List Value} {ab : Bool} {col : Option Bool} {dd : Option Addr} {k0 k1 k2 k3 k5 : Option Value} {newId : String}
  {s : Shared} {x : Sem Value} {Q : Flow -> Shared -> Prop} (hbase : bm.contains (.type "BaseException") = true) (hh : A.handled = none)
  (h : wpAny M A x (fun v s₁ => ∃ e t dx, v = .ref e /\ s₁.heap.get? C = some (excClassObj nm q C N bs bm hdct sn sub ab col dd k0 k1 k2 k3 k5 newId) ∧
   s₁.heap.get? e = some { cls := .ref C, dict := dx, data := .fields #[.ref t, .none, .none, .none, .bool false, .none] } /\ E (.ref e) s₁) E s) :
  wpAny M A (raiseStmt env (some x) none) Q E s := by
 have hcB : (Value.ref C :: bm).contains (.type "BaseException") = true := by rw [List.contains_cons, hbase, Bool.or_true]
 unfold raiseStmt
 refine wpAny_bind (wpAny_mono h (fun v s₁ h₁ => ?_) fun _ _ y => y)
 obtain ⟨e, t, dx, rfl, hC, he, hE⟩ := h₁
 obtain ⟨hp, g, d, tk, os⟩ := s₁
 repeat (first
  | with_reducible refine wpAny_loadPart_at he ?_
  | with_reducible refine wpAny_loadPart_at hC ?_
  | (with_reducible refine wpAny_isSubtype_exc hC ?_
     rw [hcB])
  | wp_step)
 exact wpAny_raiseNew_none hh hE
def tRaise (C : Addr) (sp : Sp) (E : XK) (t : TA) : TS := fun _ σ H => t σ H fun vs H1 => vs.length ≤ sizeLine /\ ∀ a, H1 a = none -> sp (.ref a :: vs) (upd H1 a (exO a C none)) (fun v H2 => v = .non /\ (∃ dx, H2 a = some (exO a C dx)) /\ E (.ref C) none (del H2 a)) E0
end
section
variable {X : Cx} {pins : List (Addr × Obj)} {σ : L2.St} {H : Hp} {s : Shared} {a C T : Addr} {a0 : Value}
end
def hid (N : List Str) : L2.St := List.replicate N.length none
theorem hid_weak {X : Cx} {pins : List (Addr × Obj)} {σ : L2.St} {H : Hp} {s : Shared} (I : L2.Inv X pins σ H s) : L2.Inv X pins (hid X.N) H s :=
 I.weak (by rw [I.len]; exact List.length_replicate) fun i v q => by
  unfold hid at q
  rw [List.getElem?_replicate] at q
  split at q <;> cases q
def Fly (X : Cx) (pins : List (Addr × Obj)) (R : Addr -> Hp -> Prop) : Value -> Shared -> Prop := fun e s => ∃ (x C T : Addr) (a0 : Value) (H : Hp), e = .ref x /\ L2.Inv X pins (hid X.N) H s /\ H x = none /\ NewAt X pins x /\ NewAt X pins T /\ Trc s.heap H x C T a0 /\ R C H
def inTry (X : Cx) (pins : List (Addr × Obj)) (R : Addr -> Hp -> Prop) : Cx := { X with pn := X.pn ++ pins, xe := Fly X pins R }
def inExc (X : Cx) (e : Addr) : Cx := { X with A := X.A.mark (some (.ref e)), calm := false, xe := fun _ _ => False }
section
variable {X : Cx} {pins pins' : List (Addr × Obj)} {σ : L2.St} {H : Hp} {s : Shared} {R : Addr -> Hp -> Prop} {e : Addr}
theorem toExc (I : L2.Inv X pins σ H s) : L2.Inv (inExc X e) pins σ H s :=
 ⟨⟨I.ok.mod, I.ok.kind, I.ok.glob, I.ok.blt, I.ok.above, I.ok.inj, I.ok.has, I.ok.cab, (fun z => nomatch z), I.ok.frames, I.ok.stk, I.ok.exf, I.ok.bs, I.ok.bsz, I.ok.noex, I.ok.exfs, I.ok.funs, I.ok.frf⟩, I.os, I.bare, I.base, I.loc, I.cell, I.free, I.freeC, I.pin, I.hok, I.len⟩
theorem ofExc (ok : X.Ok) (I : L2.Inv (inExc X e) pins σ H s) : L2.Inv X pins σ H s :=
 ⟨ok, I.os, I.bare, I.base, I.loc, I.cell, I.free, I.freeC, I.pin, I.hok, I.len⟩
end
def tTry (N : List Str) (R : Addr -> Hp -> Prop) (Ok : Addr -> Prop) (tb : TS) (th : TS) : TS := fun D σ H => tb D σ H /\ ∀ C H', R C H' -> Ok C /\ th D (hid N) H'
section
variable {X : Cx} {R : Addr -> Hp -> Prop} {body : List Stmt} {b₀ : Stmt} {suite : List Stmt} {x : Str} {p hpos pos : Pos} {u : Value} {tb th : TS}
end
section
variable {X : Cx} {o value : Expr} {f : Str} {ta tv : TE} {pos' pos : Pos}
def sFldX (K : PySem.W.Frag) (ta tv : TE) (f : Str) : TS := fun D σ H => tv σ H fun _ H1 => ta σ H1 fun x H2 => ∃ a C bm, x = .ref a /\ H2 a = some (exO a C none) /\ ClsX K C bm /\ NoAttr K C f /\ ∀ d, D.nx σ (upd H2 a (exO a C (some d)))
end
def EofR (R : Addr -> Hp -> Prop) : XK := fun v _ H => ∃ C, v = .ref C /\ R C H
theorem vm_has (a : Addr) : (Value.ref a :: vMro).contains (.type "BaseException") = true := by rw [List.contains_cons, (by decide +kernel : vMro.contains (.type "BaseException") = true), Bool.or_true]
def strKeysB (es : Array DictEntry) : Bool := es.toList.all fun e => match e.key with
 | .str _ _ => true
 | _ => false
theorem strKeys_of {es : Array DictEntry} (h : strKeysB es = true) : StrKeys es := fun e he => by
 have z := List.all_eq_true.mp h e (Array.mem_toList_iff.mpr he)
 revert z
 cases e.key <;> intro z <;> first | exact ⟨_, _, rfl⟩ | (cases z)
theorem xc_mk {K : PySem.W.Frag} {C f B0 NB : Addr} {nm q nmB qB : Str} {N : Addr} {bs bsB : List Value} {hdct hdctB : Bool} {sn snB : List Str} {sub subB : List Value} {ab abB : Bool} {col colB : Option Bool} {dd ddB : Option Addr} {k0 k1 k2 k3 k5 j0 j1 j2 j3 j5 : Option Value}
  {oc : Value} {od : Option Addr} {es : Array DictEntry} {n : Nat} {sl : Array (Option Value)}
  (lc : K.lookup C = some (excClassObj nm q C N bs (.ref B0 :: [.type "ValueError", .type "Exception", .type "BaseException", .type "object"]) hdct sn sub ab col dd k0 k1 k2 k3 k5 "ValueError.__new__"))
  (lb : K.lookup B0 = some (excClassObj nmB qB B0 NB bsB [.type "ValueError", .type "Exception", .type "BaseException", .type "object"] hdctB snB subB abB colB ddB j0 j1 j2 j3 j5 "ValueError.__new__"))
  (ln : K.lookup NB = some ⟨oc, od, .dict es n, sl⟩) (hs : strKeysB es = true) (hn : (nsFind es "__init__").isNone = true)
  (fi : PySem.W.findIn K (.ref C) "__init__" = some (some (.ref f))) (ti : PySem.W.typeIn K (.ref f) = some (.type "function")) (kc : PySem.W.keepIn K (.ref C) = true) (hh : PySem.W.hasDictIn K C = true) (sa : PySem.W.findIn K (.ref C) "__setattr__" = some (some (.builtin "object.__setattr__"))) : XC K C f (.ref B0 :: vMro) :=
 have ob : ∃ nm q N bs hdct sn sub ab col dd k0 k1 k2 k3 k5, K.lookup C = some (excClassObj nm q C N bs (.ref B0 :: vMro) hdct sn sub ab col dd k0 k1 k2 k3 k5 "ValueError.__new__") := ⟨_, _, _, _, _, _, _, _, _, _, _, _, _, _, _, lc⟩
 have tl : ∀ h : Heap, K.In h -> OwnTail h vMro (.ref B0 :: vMro) := fun h X => .own (X _ _ lb) ⟨_, es, n, X _ _ ln, rfl, strKeys_of hs, fun _ => rfl⟩ (Option.isNone_iff_eq_none.mp hn) .base
 ⟨ob, tl, fi, ti, kc, ob, tl, hh, sa⟩
structure GetX (K : PySem.W.Frag) (C : Addr) : Prop where
 ga : PySem.W.findIn K (.ref C) "__getattribute__" = some (some (.builtin "BaseException.__getattribute__"))
 gn : PySem.W.findIn K (.ref C) "__getattr__" = some none
 cl : PySem.W.findIn K (.ref C) "__class__" = some (some (.builtin "object.__class__"))
 cg : PySem.W.specialIn K (.builtin "object.__class__") "__get__" = some (some (.builtin "getset_descriptor.__get__"))
 ct : PySem.W.takesIn K (.builtin "object.__class__") = some true
section
variable {prog : Program} {w : World} {A : Around} {E : Value -> Shared -> Prop} {s : Shared} {K : PySem.W.Frag} {x C : Addr} {ox : Obj} {odo : Option Obj} {bm : List Value} {name : Str} {tk : Tok} {R : Result -> Shared -> Prop}
theorem err_open {fill ex : Bool} {Q : Value -> Shared -> Prop} (X : K.In s.heap) (I : PySem.W.InstAt s.heap x ox C odo) (g : GetX K C)
  (h : codeAny (model prog w) A (.call (.builtin "BaseException.__getattribute__") ⟨[.ref x, .str name tk], []⟩) (fun r s' => ∃ v, r = .ok (.ret v) /\ PySem.W.handedIn v = true /\ Q v s') s) :
  wpAny (model prog w) A (getAttrBy (.ref x) (.str name tk) fill ex) Q E s := by
 have FB := PySem.F.attrBase_ValueError
 unfold getAttrBy
 refine wpAny_holding (wpAny_bind (I.type.here (wpAny_bind ((PySem.W.looks_findIn X g.ga).here ?_))))
 have e2 : (Value.builtin "BaseException.__getattribute__" == Value.builtin "object.__getattribute__") = false := by decide +kernel
 dsimp only
 rw [e2, Bool.and_false, if_neg Bool.false_ne_true]
 unfold getAttrByItsOwn hookBefore
 rw [if_pos (show onTheHeap (Value.ref C) = true from rfl)]
 refine wpAny_bind ((PySem.W.looks_findIn X g.gn).here (wpAny_bind (wpAny_attempt (wpAny_holding ?_))))
 unfold callGetattribute
 rw [if_neg (by cases ex <;> decide)]
 unfold boundAndCalled
 rw [FB.ga.bind (.ref x)]
 refine wpAny_bind (wpAny_pure (wpAny_call (codeAny_mono h fun r s' hq => ?_)))
 obtain ⟨v, rfl, hh, q⟩ := hq
 exact PySem.W.handed_on hh q
theorem isB {X : K.In s.heap} (I : PySem.W.InstAt s.heap x ox C odo) (c : ClsX K C bm) (T : String) (hT : vMro.contains (.type T) = true) : PySem.W.Looks (model prog w) s.heap (isInstance (.ref x) (.type T)) true := by
 obtain ⟨cd, hc, hm⟩ := clsX_cls c
 have hob : (Value.ref C :: bm).contains (.type T) = true := by
  rw [List.contains_cons, (c.tl _ X).hasType (X := T) (b := true) hT, Bool.or_true]
 refine I.type.andThen (PySem.W.looks_mroIn X ?_)
 unfold PySem.W.mroIn
 rw [hc]
 show (if cd.mro.isEmpty = true then none else some (cd.mro.contains (.type T))) = some true
 rw [hm, hob]; rfl
theorem err_body (X : K.In s.heap) (I : PySem.W.InstAt s.heap x ox C odo) (c : ClsX K C bm)
  (h : wpAny (model prog w) A.in1 (Builtin.«object.__getattribute__» ⟨[.ref x, .str name tk], []⟩) (fun fin s' => match fin with
   | .done f => R (.ok f) s'
   | .again c' => c'.quiet = true /\ codeAny (model prog w) A c' R s') (fun e s' => R (.error e) s') s) :
  codeAny (model prog w) A (.call (.builtin "BaseException.__getattribute__") ⟨[.ref x, .str name tk], []⟩) R s := by
 have FB := PySem.F.attrBase_ValueError
 exact codeAny_call_builtin FB.ga.plain PySem.F.entry_bexc_ga (PySem.W.check_slot (i := "BaseException.__getattribute__") (owner := "BaseException") (n := "__getattribute__") (by decide +kernel) (by decide +kernel) (isB (X := X) I c "BaseException" (by decide +kernel)) (PySem.F.args_bexc_ga _ _) h)
theorem err_val {v : Value} (X : K.In s.heap) (I : PySem.W.InstAt s.heap x ox C odo) (c : ClsX K C bm) (hf : PySem.W.findObj K C odo name = some (.value v)) (h : R (.ok (.ret v)) s) :
  codeAny (model prog w) A (.call (.builtin "BaseException.__getattribute__") ⟨[.ref x, .str name tk], []⟩) R s := by
 refine err_body X I c ?_
 unfold Builtin.«object.__getattribute__»
 have L := PySem.W.looks_find (M := model prog w) X I hf
 refine wpAny_bind (wpAny_pure (wpAny_bind (wpAny_pure (wpAny_bind (I.type.here (wpAny_bind (L.here ?_)))))))
 exact wpAny_pure h
end
section
variable {K : PySem.W.Frag} {x C : Addr} {ox od : Obj} {bm : List Value}
end
structure Kept (S ch : List Addr) (h h' : Heap) : Prop where
 same : ∀ b o, b ∉ S -> b ∉ ch -> h.get? b = some o -> h'.get? b = some o
 slot : ∀ b o, b ∉ ch -> h.get? b = some o -> ∃ sl, h'.get? b = some { o with slots := sl }
theorem Kept.trans {S c1 c2 : List Addr} {h h1 h2 : Heap} (a : Kept S c1 h h1) (b : Kept S c2 h1 h2) : Kept S (c1 ++ c2) h h2 where
 same := fun x o n1 n2 q => b.same x o n1 (fun z => n2 (List.mem_append_right _ z)) (a.same x o n1 (fun z => n2 (List.mem_append_left _ z)) q)
 slot := fun x o n2 q => by
  obtain ⟨sl, z⟩ := a.slot x o (fun z => n2 (List.mem_append_left _ z)) q
  obtain ⟨sl', z'⟩ := b.slot x _ (fun z => n2 (List.mem_append_right _ z)) z
  exact ⟨sl', z'⟩
theorem Kept.upd {S : List Addr} {h : Heap} {T : Addr} {f : Obj -> Obj} : Kept S [T] h (h.update T f) where
 same := fun b o _ n q => by rw [Heap.get?_update_other _ _ (fun z => n (by rw [z]; exact List.mem_singleton.mpr rfl))]; exact q
 slot := fun b o n q => ⟨o.slots, by rw [Heap.get?_update_other _ _ (fun z => n (by rw [z]; exact List.mem_singleton.mpr rfl))]; exact q⟩
def TrcD (h : Heap) (x C T : Addr) (dx : Option Addr) (fl : Value) : Prop :=
 ∃ oe vs oT ts, h.get? x = some oe /\ oe.cls = .ref C /\ oe.dict = dx /\ oe.data = .fields vs /\ vs[1]? = some (.ref T) /\ T ≠ x /\ h.get? T = some oT /\ oT.data = .fields ts /\ ts[3]? = some fl
section
variable {M : Model} {A : Around} {E : Value -> Shared -> Prop} {s : Shared} {base : Heap} {env : Env} {outer : List Env} {L e C T : Addr} {oe : Obj} {vs : Array Value} {dx : Option Addr} {fl : Value}
theorem dict_mapF (f : Array Value -> Array Value) (o : Obj) : (Obj.mapFields f o).dict = o.dict := by
 unfold Obj.mapFields; split <;> rfl
theorem entryD {hadNext : Bool} {head : Value} {Q : Unit -> Shared -> Prop} (hfr : A.frames = some (env :: outer)) (hl : s.heap.FunFrames base (env :: outer)) (hf : env.frame = some L)
  (he : s.heap.get? e = some oe) (hd : oe.data = .fields vs) (hsz : 1 < vs.size) (hc : oe.cls = .ref C) (hx : oe.dict = dx)
  (h : ∀ h' T, Kept (frs (env :: outer)) [e] s.heap h' -> s.heap.get? T = none -> TrcD h' e C T dx (rawInt L) -> Q () { s with heap := h' }) :
  wpAny M A (do let a ← frameOf env; let pl ← entryPlaceOf L hadNext; let b ← EntryCells.newEntry head a .none (rawInt L) .none pl; setField (.ref e) 1 b) Q E s := by
 have hene : e ∉ frs (env :: outer) := fun hm => by
  obtain ⟨_, o, ho, hnf⟩ := hl.mem hm
  rw [he] at ho; cases ho; exact hnf vs hd
 refine wpAny_bind (wpAny_frameOf_fun hfr hl hf fun h1 s1 => wpAny_bind (wpAny_entryPlaceOf fun pl hpl => ?_))
 unfold EntryCells.newEntry newFields
 refine wpAny_bind (wpAny_newObj_type ?_ (hpl.sizeOk5 _ _ _ _ _))
 have he1 : h1.get? e = some oe := (s1.2.1 e hene).trans he
 generalize hob : ({ cls := .type "traceback", dict := none, data := .fields ([head, .ref L, .none, rawInt L, .none] ++ (if pl.isEmpty then List.replicate 6 Value.none else pl)).toArray } : Obj) = ob
 have he2 := Heap.get?_push_of_some (h := h1) ob he1
 refine wpAny_setField he2 hd hsz (h _ h1.objs.size ⟨fun b o n1 n2 q => ?_, fun b o n2 q => ?_⟩ ?_ ?_)
 ·rw [Heap.get?_update_other _ _ (fun z => n2 (by rw [z]; exact List.mem_singleton.mpr rfl))]
  exact Heap.get?_push_of_some _ ((s1.2.1 b n1).trans q)
 ·obtain ⟨sl, z⟩ := s1.2.2 b o q
  refine ⟨sl, ?_⟩
  rw [Heap.get?_update_other _ _ (fun z => n2 (by rw [z]; exact List.mem_singleton.mpr rfl))]
  exact Heap.get?_push_of_some _ z
 ·exact Heap.get?_none_of_le (Nat.le_of_eq s1.1.symm)
 ·have nT : h1.objs.size ≠ e := Nat.ne_of_gt (Heap.lt_size he1)
  have d3 := Obj.data_mapFields hd (·.setIfInBounds 1 (Value.ref h1.objs.size))
  refine ⟨_, _, ob, _, Heap.get?_update_self _ he2 (Obj.isFreed_of_fields d3), (Obj.cls_mapFields _ _).trans hc, (dict_mapF _ _).trans hx, d3, by simp [hsz], nT, ?_, by rw [← hob], ?_⟩
  ·rw [Heap.get?_update_other _ _ (Ne.symm nT)]
   exact Heap.get?_push_size h1 (by rw [← hob]; rfl)
  ·first | (simp; done) | (rcases hpl with rfl | ⟨_, _, _, _, _, _, _, rfl⟩ <;> simp)
theorem flightD {Q : Unit -> Shared -> Prop} (t : TrcD s.heap e C T dx fl) (h : ∀ h', Kept [] [T] s.heap h' -> TrcD h' e C T dx .none -> Q () { s with heap := h' }) : wpAny M A (setFlight (.ref e) none) Q E s := by
 obtain ⟨oe, vs, oT, ts, q1, q2, q3, q4, q5, q6, q7, q8, q9⟩ := t
 have z3 : 3 < ts.size := (Array.getElem?_eq_some_iff.mp q9).1
 unfold setFlight
 refine wpAny_bind (wpAny_field q1 q4 q5 ?_)
 rw [if_pos (by simp)]
 refine wpAny_setField q7 q8 z3 (h _ Kept.upd ?_)
 have d3 := Obj.data_mapFields q8 (·.setIfInBounds 3 ((none : Option Addr).elim Value.none fun f => rawInt f))
 exact ⟨oe, vs, _, _, (Heap.get?_update_other _ _ q6).trans q1, q2, q3, q4, q5, q6, Heap.get?_update_self _ q7 (Obj.isFreed_of_fields d3), d3, by simp [z3]⟩
theorem note1 {Q : Unit -> Shared -> Prop} (hfr : A.frames = some (env :: outer)) (hl : s.heap.FunFrames base (env :: outer)) (hf : env.frame = some L) (he : s.heap.get? e = some oe) (hd : oe.data = .fields vs) (h1 : vs[1]? = some .none) (hc : oe.cls = .ref C) (hx : oe.dict = dx)
  (h : ∀ h' T, Kept (frs (env :: outer)) [e] s.heap h' -> s.heap.get? T = none -> TrcD h' e C T dx (rawInt L) -> Q () { s with heap := h' }) : wpAny M A (noteFrame (.ref e) env) Q E s := by
 unfold noteFrame
 simp only [hf]
 refine wpAny_bind (wpAny_field he hd h1 ?_)
 rw [if_neg (by decide)]
 exact entryD hfr hl hf he hd (Array.getElem?_eq_some_iff.mp h1).1 hc hx h
theorem noteN {Q : Unit -> Shared -> Prop} (hfr : A.frames = some (env :: outer)) (hl : s.heap.FunFrames base (env :: outer)) (hf : env.frame = some L) (t : TrcD s.heap e C T dx .none)
  (h : ∀ h' T', Kept (frs (env :: outer)) [T, e] s.heap h' -> s.heap.get? T' = none -> TrcD h' e C T' dx (rawInt L) -> Q () { s with heap := h' }) : wpAny M A (noteFrame (.ref e) env) Q E s := by
 obtain ⟨oe, vs, oT, ts, q1, q2, q3, q4, q5, q6, q7, q8, q9⟩ := t
 unfold noteFrame
 simp only [hf]
 refine wpAny_bind (wpAny_field q1 q4 q5 ?_)
 rw [if_pos (by simp)]
 refine wpAny_bind (wpAny_field q7 q8 q9 ?_)
 rw [if_neg (by simp [rawInt])]
 refine wpAny_bind (wpAny_setField q7 q8 (Array.getElem?_eq_some_iff.mp q9).1 ?_)
 have k1 : Kept (frs (env :: outer)) [T] s.heap (s.heap.update T (Obj.mapFields (·.setIfInBounds 3 Value.none))) := Kept.upd
 have nf : ∀ b o, s.heap.get? b = some o -> (∀ us, o.data ≠ .fields us) -> b ∉ [T] := fun b o hb hn z => by
  rw [List.mem_singleton.mp z, q7] at hb; cases hb; exact hn ts q8
 refine entryD (base := base) hfr (hl.of_keeps fun b o hb hn => ?_) hf ((Heap.get?_update_other _ _ q6).trans q1) q4 (Array.getElem?_eq_some_iff.mp q5).1 q2 q3 fun h' T' k nT t' => h h' T' (k1.trans k) ?_ t'
 ·obtain ⟨sl, z⟩ := k1.slot b o (nf b o hb hn) hb
  exact ⟨_, z, rfl⟩
 ·cases q : s.heap.get? T' with
  | none => rfl
  | some o =>
   exfalso
   by_cases z : T' = T
   ·have d3 := Obj.data_mapFields q8 (·.setIfInBounds 3 Value.none)
    rw [z, Heap.get?_update_self _ q7 (Obj.isFreed_of_fields d3)] at nT; cases nT
   ·rw [Heap.get?_update_other _ _ (Ne.symm z)] at nT; rw [q] at nT; cases nT
end
def DicO (d : Addr) (fs : List (Str × V)) : Heap -> Prop := fun h => ∃ mA, h.Ns1 d mA /\ ∀ f, RelO (fs.lookup f) (mA f)
def dO (d : Addr) (fs : List (Str × V)) : HO := .ext (DicO d fs)
theorem dO_ok {P : Program} {w : World} {H : Hp} {h : Heap} {d : Addr} {fs : List (Str × V)} (e : DicO d fs h) : ObjOk P w H h d (dO d fs) :=
 ⟨e, let ⟨_, ⟨_, _, _, q, _⟩, _⟩ := e; ⟨_, q⟩, fun _ _ ⟨mA, n, r⟩ k => ⟨mA, n.at k, r⟩⟩
theorem relO_none {a : Option V} {b : Option Value} (r : RelO a b) (h : b ≠ none) : a ≠ none := fun z => by
 subst z
 cases b with
 | none => exact h rfl
 | some _ => exact r.elim
theorem relO_cons {fs : List (Str × V)} {mA : Str -> Option Value} {f : Str} {y : V} {u : Value} (r : ∀ g, RelO (fs.lookup g) (mA g)) (q : RelV y u) : ∀ g, RelO (((f, y) :: fs).lookup g) (if g = f then some u else mA g) := fun g => by
 by_cases z : g = f
 ·subst z
  rw [if_pos rfl, List.lookup_cons_self]; exact q
 ·rw [if_neg z, List.lookup_cons, beq_eq_false_iff_ne.mpr z]; exact r g
theorem within_of {fs : List (Str × V)} {mA : Str -> Option Value} (r : ∀ g, RelO (fs.lookup g) (mA g)) : PySem.Within mA (fs.map (·.1)) := fun g hg => by
 have z := relO_none (r g) hg
 cases q : fs.lookup g with
 | none => exact absurd q z
 | some v =>
  obtain ⟨l1, l2, e, _⟩ := List.lookup_eq_some_iff.mp q
  rw [e]; simp
section
variable {X : Cx} {pins : List (Addr × Obj)} {σ : L2.St} {H : Hp} {s : Shared} {a C : Addr}
theorem setX1 {A : Around} {E : Value -> Shared -> Prop} {f : Str} {y : V} {u : Value} {bm : List Value} {Q : Unit -> Shared -> Prop} (hex : X.ex = []) (I : L2.Inv X pins σ H s) (e : H a = some (exO a C none)) (c : ClsX X.K C bm) (n : NoAttr X.K C f) (ry : RelV y u)
  (h : ∀ d s', H d = none -> d ≠ a -> L2.Inv X pins σ (upd (upd H a (exO a C (some d))) d (dO d [(f, y)])) s' -> Q () s') : wpAny (model X.prog X.w) A (setAttr (.ref a) f u) Q E s := by
 obtain ⟨t, hx⟩ := (show ObjOk X.prog X.w H s.heap a (exO a C none) from I.hok a _ e).1
 have J : PySem.W.InstAt s.heap a _ C none := ⟨hx, rfl, rfl, trivial⟩
 refine PySem.W.set_plain I.kIn J c.sa (store_err (s := { s with toks := s.toks + 1 }) I.kIn J c n fun b => ?_)
 obtain ⟨cd, hc, hd'⟩ := PySem.W.any_some c.hd
 refine wpAny_bind (wpAny_pure (wpAny_bind (wpAny_bind (wpAny_loadPart hx (wpAny_bind (PySem.W.Looks.here (s := { s with toks := s.toks + 1 }) (PySem.W.looks_clsIn I.kIn hc) ?_))))))
 rw [hd']
 show wpAny _ _ (alloc { cls := .type "dict", data := .dict #[] } >>= fun d => update a (fun o => { o with dict := some d }) >>= fun _ => dictMade (.ref C) a d) _ _ _
 have la : a < s.heap.objs.size := Heap.lt_size hx
 have nad : s.heap.objs.size ≠ a := Nat.ne_of_gt la
 have g1 := Heap.get?_push_of_some (h := s.heap) { cls := .type "dict", data := .dict #[] } hx
 refine wpAny_bind (wpAny_alloc (wpAny_bind (wpAny_update g1 ?_)))
 have g2 := Heap.get?_update_self (fun o => { o with dict := some s.heap.objs.size }) g1 rfl
 have e1 : ((s.heap.push { cls := .type "dict", data := .dict #[] }).update a fun o => { o with dict := some s.heap.objs.size }).get? s.heap.objs.size = some { cls := .type "dict", data := .dict #[] } := by
  rw [Heap.get?_update_other _ _ nad.symm]; exact Heap.get?_push_size s.heap rfl
 have e3 : ((s.heap.push { cls := .type "dict", data := .dict #[] }).update a fun o => { o with dict := some s.heap.objs.size }).Ns s.heap.objs.size (fun _ => none) :=
  ⟨_, #[], _, e1, rfl, (fun e he => absurd he (by simp)), fun _ => rfl⟩
 have keep : ∀ b o, b ≠ a -> s.heap.get? b = some o -> ((s.heap.push { cls := .type "dict", data := .dict #[] }).update a fun o => { o with dict := some s.heap.objs.size }).get? b = some o := fun b o nb q => by
  rw [Heap.get?_update_other _ _ (Ne.symm nb)]; exact Heap.get?_push_of_some _ q
 refine wpAny_pure (a := some s.heap.objs.size) (wpAny_bind (wpAny_pure (wpAny_bind ?_)))
 refine wpAny_nsSet1 (Heap.Ns1.of_empty e3) fun h' hn2 hs2 => ?_
 have rel : ∀ g, RelO ([(f, y)].lookup g) (if g = f then some u else none) := relO_cons (fs := []) (mA := fun _ => none) (fun _ => trivial) ry
 obtain ⟨oD, esD, epD, hoD, hdD, hcD⟩ := hn2.count (within_of rel)
 refine wpAny_bind (wpAny_lookBehind hoD (by rw [hdD]; exact pastItsLine_dict (Nat.le_trans hcD (Nat.le_add_left _ _))) ?_)
 have hno : s.heap.get? s.heap.objs.size = none := Heap.get?_none_of_le (Nat.le_refl _)
 have hH : H s.heap.objs.size = none := B.Inv.none_of I hno
 refine wpAny_pure (h s.heap.objs.size _ hH nad ?_)
 have ga : h'.get? a = some { cls := .ref C, dict := some s.heap.objs.size, data := .fields #[.ref t, .none, .none, .none, .bool false, .none] } := (hs2.2 a nad.symm).trans g2
 have I2 : L2.Inv X pins σ (upd H a (exO a C (some s.heap.objs.size))) { s with heap := h', toks := s.toks + 1 + 1 } := I.write (x := a) (e := a) (o := exO a C (some s.heap.objs.size)) (h' := h') (by rw [e]; trivial) (.inl rfl) (fun b o nb q => by
  have nb2 : b ≠ s.heap.objs.size := Nat.ne_of_lt (Heap.lt_size q)
  exact (hs2.2 b nb2).trans (keep b o nb q)) ⟨_, ga⟩ (exO_ok ⟨t, ga⟩)
 exact B.Inv.adopt I2 (B.Inv.newAt I hex hno) (by rw [upd_ne nad]; exact hH) hex (dO_ok ⟨_, hn2, rel⟩)
theorem setX2 {A : Around} {E : Value -> Shared -> Prop} {f : Str} {y : V} {u : Value} {bm : List Value} {d : Addr} {fs : List (Str × V)} {Q : Unit -> Shared -> Prop} (I : L2.Inv X pins σ H s) (e : H a = some (exO a C (some d))) (ed : H d = some (dO d fs)) (hl : fs.length ≤ 100) (c : ClsX X.K C bm) (n : NoAttr X.K C f) (ry : RelV y u)
  (h : ∀ s', L2.Inv X pins σ (upd H d (dO d ((f, y) :: fs))) s' -> Q () s') : wpAny (model X.prog X.w) A (setAttr (.ref a) f u) Q E s := by
 obtain ⟨t, hx⟩ := (show ObjOk X.prog X.w H s.heap a (exO a C (some d)) from I.hok a _ e).1
 obtain ⟨mA, hn, rel0⟩ := (show ObjOk X.prog X.w H s.heap d (dO d fs) from I.hok d _ ed).1
 obtain ⟨od, _, _, hod, _⟩ := id hn
 have J : PySem.W.InstAt s.heap a _ C (some od) := ⟨hx, rfl, rfl, hod⟩
 refine PySem.W.set_plain I.kIn J c.sa (store_err (s := { s with toks := s.toks + 1 }) I.kIn J c n fun b => ?_)
 obtain ⟨cd, hc, hd'⟩ := PySem.W.any_some c.hd
 refine wpAny_bind (wpAny_pure (wpAny_bind (wpAny_bind (wpAny_loadPart hx (wpAny_bind (PySem.W.Looks.here (s := { s with toks := s.toks + 1 }) (PySem.W.looks_clsIn I.kIn hc) ?_))))))
 rw [hd']
 refine wpAny_pure (a := some d) (wpAny_bind (wpAny_pure (wpAny_bind ?_)))
 refine wpAny_nsSet1 (s := { s with toks := s.toks + 1 }) hn fun h' hn2 hs2 => ?_
 have rel := relO_cons (f := f) rel0 ry
 obtain ⟨oD, esD, epD, hoD, hdD, hcD⟩ := hn2.count (within_of rel)
 have hz : esD.size ≤ 101 := by rw [List.length_map, List.length_cons] at hcD; omega
 refine wpAny_bind (wpAny_lookBehind hoD (by rw [hdD]; exact pastItsLine_dict (Nat.le_trans hz (by decide))) ?_)
 refine wpAny_pure (h _ ?_)
 exact I.write (x := d) (e := d) (o := dO d ((f, y) :: fs)) (h' := h') (by rw [ed]; trivial) (.inl rfl) (fun b o nb q => (hs2.2 b nb).trans q) ⟨_, hoD⟩ (dO_ok ⟨_, hn2, rel⟩)
end
section
variable {X : Cx} {o value : Expr} {f : Str} {ta tv : TE} {pos' pos : Pos}
def sFldE (K : PySem.W.Frag) (ta tv : TE) (f : Str) : TS := fun D σ H => tv σ H fun y H1 => ta σ H1 fun x H2 => ∃ a C bm, x = .ref a /\ ClsX K C bm /\ NoAttr K C f ∧
 ((H2 a = some (exO a C none) /\ ∀ d, H2 d = none -> d ≠ a -> D.nx σ (upd (upd H2 a (exO a C (some d))) d (dO d [(f, y)]))) ∨
  ∃ d fs, H2 a = some (exO a C (some d)) /\ H2 d = some (dO d fs) /\ fs.length ≤ 100 /\ D.nx σ (upd H2 d (dO d ((f, y) :: fs))))
theorem ps_fldE (hex : X.ex = []) (ha : PE X o ta) (hv : PE X value tv) (hs : swapsWith value (some (.Attribute o f pos')) pos.line X.env = pure false) : PS X (.Assign [.Attribute o f pos'] value pos) (sFldE X.K ta tv f) := by
 intro pins s σ H D I h
 refine plainObj_wpAny_Assign_Attribute (thn (hv pins s σ H _ I h) fun u s1 ⟨y, H1, I1, ry, q⟩ => thn (ha pins s1 σ H1 _ I1 q) fun ov s2 ⟨x, H2, I2, rx, a, C, bm, ex, c, n, q2⟩ => ?_) hs
 subst ex
 obtain rfl : ov = Value.ref a := rx
 rcases q2 with ⟨ea, k⟩ | ⟨d, fs, ea, ed, hl, k⟩
 ·exact B.setX1 hex I2 ea c n ry fun d s' hd nd I' => ⟨σ, _, I', k d hd nd⟩
 ·exact B.setX2 I2 ea ed hl c n ry fun s' I' => ⟨σ, _, I', k⟩
end
theorem Kept.any {S ch : List Addr} {h h' : Heap} (k : Kept [] ch h h') : Kept S ch h h' := ⟨fun b o _ n q => k.same b o (fun z => by cases z) n q, k.slot⟩
section
variable {X : Cx} {pins : List (Addr × Obj)} {σ : L2.St} {H : Hp} {s : Shared} {a C T : Addr} {dx : Option Addr} {fl : Value}
theorem Inv.leftK {ch : List Addr} {h' : Heap} {tk : Nat} (I : L2.Inv X pins σ H s) (hch : ∀ b ∈ ch, H b = none /\ NewAt X pins b) (k : Kept (frs X.stack) ch s.heap h') : L2.Inv X pins σ H { s with heap := h', toks := tk } := by
 have trk : ∀ b o, H b = some o -> b ∉ frs X.stack /\ b ∉ ch := fun b o q =>
  ⟨(fun z => by rw [I.stkFree b z] at q; cases q), (fun z => by rw [(hch b z).1] at q; cases q)⟩
 refine I.call' (s' := { s with heap := h', toks := tk }) (ch := ch) rfl ⟨fun b o q _ n1 n2 => k.same b o n1 n2 q, fun b o q _ n1 n2 => k.slot b o n2 q, fun b o _ n _ => n, fun b o q n2 => ?_, fun b xs q => q, fun b o u q => q, fun b ps q => ⟨#[], by rw [Array.append_empty]; exact q⟩⟩ (fun b o q => ?_) I.bare
  (fun b hb => ⟨.inr (hch b hb).2.st, (hch b hb).2.lo, (hch b hb).2.ce, (hch b hb).2.pi⟩)
 ·obtain ⟨sl, z⟩ := k.slot b o n2 q
  exact ⟨_, z⟩
 ·refine (I.hok b o q).stay (fun c u hc z => ?_) (fun c z => z) (fun c xs z => z)
  rcases hc with rfl | hc
  ·obtain ⟨n1, n2⟩ := trk _ _ q; exact k.same _ _ n1 n2 z
  ·obtain ⟨n1, n2⟩ := trk _ _ hc; exact k.same _ _ n1 n2 z
theorem noted1 {A : Around} {E' : Value -> Shared -> Prop} {Q : Shared -> Prop} {oe : Obj} {vs : Array Value} (hA : A.frames = X.A.frames) (I : L2.Inv X pins σ H s) (hex : X.ex = []) (hst : X.stack = X.env :: X.outer) (hfr : X.env.frame = some X.env.locals)
  (ha : H a = none) (na : NewAt X pins a) (hx : s.heap.get? a = some oe) (hd : oe.data = .fields vs) (h1 : vs[1]? = some .none) (hc : oe.cls = .ref C) (hdx : oe.dict = dx)
  (h : ∀ (s' : Shared) (T : Addr), L2.Inv X pins σ H s' -> NewAt X pins T -> H T = none -> TrcD s'.heap a C T dx .none -> Q s') :
  wpAny (model X.prog X.w) A (noteFrame (.ref a) X.env) (fun _ s2 => wpAny (model X.prog X.w) A (setFlight (.ref a) none) (fun _ s3 => Q s3) E' s2) E' s := by
 have hfrm : A.frames = some (X.env :: X.outer) := by rw [hA, I.ok.frames, hst]
 refine note1 (base := X.base) hfrm (by rw [← hst]; exact I.stack) hfr hx hd h1 hc hdx fun h1 T k1 nT t1 => ?_
 refine flightD (s := { s with heap := h1 }) t1 fun h2 k2 t2 => ?_
 have nt := B.Inv.newAt I hex nT
 have hT := B.Inv.none_of I nT
 rw [← hst] at k1
 refine h { s with heap := h2 } T (B.Inv.leftK (tk := s.toks) I (fun b hb => ?_) (k1.trans k2.any)) nt hT t2
 simp only [List.cons_append, List.nil_append, List.mem_cons, List.not_mem_nil, or_false] at hb
 rcases hb with rfl | rfl
 ·exact ⟨ha, na⟩
 ·exact ⟨hT, nt⟩
theorem notedN {A : Around} {E' : Value -> Shared -> Prop} {Q : Shared -> Prop} (hA : A.frames = X.A.frames) (I : L2.Inv X pins σ H s) (hex : X.ex = []) (hst : X.stack = X.env :: X.outer) (hfr : X.env.frame = some X.env.locals)
  (ha : H a = none) (na : NewAt X pins a) (hT : H T = none) (nT : NewAt X pins T) (t : TrcD s.heap a C T dx .none)
  (h : ∀ (s' : Shared) (T' : Addr), L2.Inv X pins σ H s' -> NewAt X pins T' -> H T' = none -> TrcD s'.heap a C T' dx .none -> Q s') :
  wpAny (model X.prog X.w) A (noteFrame (.ref a) X.env) (fun _ s2 => wpAny (model X.prog X.w) A (setFlight (.ref a) none) (fun _ s3 => Q s3) E' s2) E' s := by
 have hfrm : A.frames = some (X.env :: X.outer) := by rw [hA, I.ok.frames, hst]
 refine noteN (base := X.base) hfrm (by rw [← hst]; exact I.stack) hfr t fun h1 T' k1 nT' t1 => ?_
 refine flightD (s := { s with heap := h1 }) t1 fun h2 k2 t2 => ?_
 have nt := B.Inv.newAt I hex nT'
 have hT' := B.Inv.none_of I nT'
 rw [← hst] at k1
 refine h { s with heap := h2 } T' (B.Inv.leftK (tk := s.toks) I (fun b hb => ?_) (k1.trans k2.any)) nt hT' t2
 simp only [List.cons_append, List.nil_append, List.mem_cons, List.not_mem_nil, or_false] at hb
 rcases hb with rfl | rfl | rfl
 ·exact ⟨hT, nT⟩
 ·exact ⟨ha, na⟩
 ·exact ⟨hT', nt⟩
theorem flownN {A : Around} {E' : Value -> Shared -> Prop} {Q : Shared -> Prop} (I : L2.Inv X pins σ H s) (hT : H T = none) (nT : NewAt X pins T) (t : TrcD s.heap a C T dx .none)
  (h : ∀ (s' : Shared), L2.Inv X pins σ H s' -> TrcD s'.heap a C T dx .none -> Q s') : wpAny (model X.prog X.w) A (setFlight (.ref a) none) (fun _ s3 => Q s3) E' s := by
 refine flightD t fun h2 k2 t2 => h _ (B.Inv.leftK (tk := s.toks) I (fun b hb => ?_) k2.any) t2
 rw [List.mem_singleton.mp hb]; exact ⟨hT, nT⟩
end
def CXD (P : Program) (w : World) : CXT := fun outer H s E e s' => ∃ (x C T : Addr) (dx : Option Addr) (H' : Hp), e = .ref x /\ s'.os = s.os /\ AllBare s'.gens /\ Un (frs outer) [] H H' s.heap s'.heap /\ HOk P w H' s'.heap /\ s.heap.get? x = none /\ s.heap.get? T = none /\ H' x = none /\ H' T = none ∧
 TrcD s'.heap x C T dx .none /\ E (.ref C) dx H'
section
variable {P : Program} {w : World} {K : PySem.W.Frag} {mg : Str -> Option Value} {base : Heap} {N : List Str} {qual : Str} {scope : Scope} {f : Addr} {cd : Value} {A : Around} {outer : List Env} {s : Shared} {H : Hp} {E : XK}
def TakesD (X : Cx) (E : XK) : Prop := ∀ (pins : List (Addr × Obj)) (σ : L2.St) (H : Hp) (s : Shared) (a C : Addr) (dx : Option Addr) (oe : Obj) (vs : Array Value), L2.Inv X pins σ H s -> H a = none -> NewAt X pins a -> s.heap.get? a = some oe -> oe.data = .fields vs →
 vs[1]? = some .none -> oe.cls = .ref C -> oe.dict = dx -> E (.ref C) dx H -> X.xe (.ref a) s
theorem takesD : TakesD (cxOf (CXD P w) P w K mg base N qual scope f cd A outer s H E) E := by
 intro pins σ H1 s1 a C dx oe vs I ha na hx hd h1 hc hdx hE
 show wpAny (model P w) _ (leaving _ _) _ _ s1
 unfold leaving
 refine wpAny_bind (noted1 rfl I rfl rfl rfl ha na hx hd h1 hc hdx fun s3 T' I3 nT' hT' tr' => ?_)
 exact ⟨a, C, T', dx, H1, rfl, I3.os, I3.bare, I3.base, I3.hok, na.st, nT'.st, ha, hT', tr', hE⟩
theorem Fun.okD {x : Str} {st : Stmt} {fd : FuncData} {ps : List Str} {k : Nat} {sp : Sp} (F : Fun K x qual st f fd) (S : FnScope N ps (defScope st)) (len : ∀ vs H Q E, sp vs H Q E -> vs.length = ps.length)
  (hbody : ∀ (cdv : Value) (A : Around) (outer : List Env) (s : Shared) (H : Hp) (vs : List V) (Q : VK) (E : XK), Room k (A.deeper (envOfC qual (defScope st) s.heap.objs.size f cdv)) -> sp vs H Q E →
   ∃ t, PSs (cxOf (CXD P w) P w K mg base N qual (defScope st) f cdv A outer s H E) (defBody st) t /\ t { nx := fun _ H' => Q .non H', rt := Q } (start N vs) H) : FnOk P w K mg base (CXD P w) (k + 1) f fd ps sp := by
 obtain ⟨oc, od, kV, doc, pm, an, cdv, ct, osl, rfl, lk, hcd⟩ := F.ex
 exact fn_of lk hcd S len fun A outer s H vs Q E hr hsp => hbody cdv A outer s H vs Q E hr hsp
end
section
variable {X : Cx} {k : Nat} {f C : Addr} {fd : FuncData} {ps : List Str} {sp : Sp} {bm : List Value}
def tRaiseD (C : Addr) (sp : Sp) (E : XK) (t : TA) : TS := fun _ σ H => t σ H fun vs H1 => vs.length ≤ sizeLine /\ ∀ a, H1 a = none -> sp (.ref a :: vs) (upd H1 a (exO a C none)) (fun v H2 => v = .non /\ ∃ dx, H2 a = some (exO a C dx) /\ E (.ref C) dx (del H2 a)) E0
theorem ps_raiseD {x : Str} {p cpos pos : Pos} {e : Expr} {es : List Expr} {t : TA} {E : XK} (M : XC X.K C f bm) (hbase : bm.contains (.type "BaseException") = true) (hex : X.ex = []) (tk : TakesD X E) (F : FnOk X.prog X.w X.K X.mg X.base CX0 k f fd ps sp) (hr : Room (k + 1) X.A) (hb : Binds X.K fd ps [])
  (hg : Gl X x) (hm : X.mg x = some (.ref C)) (ha : PA X (e :: es) t) (hdb : (x == ("__debug__" : Str)) = false := by decide) (he : starEach (e :: es) X.env = (false, eval e X.env) :: starEach es X.env := by rfl) (hpl : (backTo cpos (starEach es X.env)).any (·.1) = false := by rfl) :
  PS X (.Raise (some (.Call (.Name x p) (e :: es) [] cpos)) none pos) (tRaiseD C sp E t) := by
 intro pins s σ H D I h
 obtain ⟨nm, q, N, bs, hdct, sn, sub, ab, col, dd, k0, k1, k2, k3, k5, lk⟩ := M.ob
 rw [arm_exec_Raise]
 refine wpAny_bind (wpAny_standAt (raise_own (C := C) (bm := bm) (nm := nm) (q := q) (N := N) (bs := bs) (hdct := hdct) (sn := sn) (sub := sub) (ab := ab) (col := col) (dd := dd) (k0 := k0) (k1 := k1) (k2 := k2) (k3 := k3) (k5 := k5) (newId := "ValueError.__new__") hbase hr.hd ?_))
 refine wpAny_bind (wpAny_mono (Q := fun v s' => ∃ a H', v = .ref a /\ NewAt X pins a /\ L2.Inv X pins σ H' s' /\ ∃ dx, H' a = some (exO a C dx) /\ E (.ref C) dx (del H' a)) ?_ (fun v s1 h1 => wpAny_bind (wpAny_standAt (wpAny_pure ?_))) fun _ _ y => y)
 ·refine wpAny_Call_Name_kw (ld_glob I hg hm ?_ hdb)
  refine PySem.W.callWith_K (h₀ := X.base) I.ok.mod.kin M.kp (thn (ha cpos pins s σ H _ I h) fun us s1 ⟨vs, H1, I1, r, hz, q⟩ => ⟨I1.kIn, ?_⟩) he hpl
  exact run_exc M hex F hr hb I1 (us := [] ++ us) r (by rw [List.nil_append, ← r.length]; exact hz) q
 ·obtain ⟨a, H', rfl, na, I1, dx, hx, hE⟩ := h1
  obtain ⟨tt, ho⟩ := (show L2.ObjOk X.prog X.w H' s1.heap a (exO a C dx) from I1.hok a _ hx).1
  exact ⟨a, tt, dx, rfl, I1.kIn _ _ lk, ho, tk pins σ (del H' a) s1 a C dx _ _ (B.Inv.forget I1 hx na.st) del_same na ho rfl rfl rfl rfl hE⟩
end
abbrev RX := Addr -> Option Addr -> Hp -> Prop
def FlyD (X : Cx) (pins : List (Addr × Obj)) (R : RX) : Value -> Shared -> Prop := fun e s => ∃ (x C T : Addr) (dx : Option Addr) (H : Hp), e = .ref x /\ L2.Inv X pins (hid X.N) H s /\ H x = none /\ NewAt X pins x /\ H T = none /\ NewAt X pins T /\ TrcD s.heap x C T dx .none /\ R C dx H
def inTryD (X : Cx) (pins : List (Addr × Obj)) (R : RX) : Cx := { X with pn := X.pn ++ pins, xe := FlyD X pins R }
section
variable {X : Cx} {pins pins' : List (Addr × Obj)} {σ : L2.St} {H : Hp} {s : Shared} {R : RX} {e : Addr}
theorem toTryD (I : L2.Inv X pins σ H s) : L2.Inv (inTryD X pins R) [] σ H s :=
 ⟨⟨I.ok.mod, I.ok.kind, I.ok.glob, I.ok.blt, I.ok.above, I.ok.inj, I.ok.has, I.ok.cab, I.ok.hd, I.ok.frames, I.ok.stk, I.ok.exf, I.ok.bs, I.ok.bsz, I.ok.noex, I.ok.exfs, I.ok.funs, I.ok.frf⟩, I.os, I.bare, I.base, I.loc, I.cell, I.free, I.freeC,
  fun p hp => I.pin p (by rw [List.append_nil] at hp; exact hp), I.hok, I.len⟩
theorem ofTryD (I : L2.Inv (inTryD X pins R) pins' σ H s) : L2.Inv X pins σ H s :=
 ⟨⟨I.ok.mod, I.ok.kind, I.ok.glob, I.ok.blt, I.ok.above, I.ok.inj, I.ok.has, I.ok.cab, I.ok.hd, I.ok.frames, I.ok.stk, I.ok.exf, I.ok.bs, I.ok.bsz, I.ok.noex, I.ok.exfs, I.ok.funs, I.ok.frf⟩, I.os, I.bare, I.base, I.loc, I.cell, I.free, I.freeC,
  fun p hp => I.pin p (List.mem_append_left _ hp), I.hok, I.len⟩
def EofD (R : RX) : XK := fun v dx H => ∃ C, v = .ref C /\ R C dx H
theorem passTD (hex : X.ex = []) : Passes (CXD X.prog X.w) (inTryD X pins R) (EofD R) := by
 intro pins' σ H1 s1 e s2 I hx
 obtain ⟨x, C, T, dx, H2, rfl, ho, hb, un, hok, nx, nT, hx2, hT2, tr, C', e', hr⟩ := hx
 cases e'
 have na := B.Inv.newAt I hex nx
 have nt := B.Inv.newAt I hex nT
 have I2 : L2.Inv (inTryD X pins R) pins' σ H2 s2 := I.call' ho un hok hb (fun b hb => by cases hb)
 exact ⟨x, C, T, dx, H2, rfl, hid_weak (ofTryD I2), hx2, ⟨na.st, na.lo, na.ce, fun p hp => na.pi p (List.mem_append_left _ hp), na.fr⟩, hT2, ⟨nt.st, nt.lo, nt.ce, fun p hp => nt.pi p (List.mem_append_left _ hp), nt.fr⟩, tr, hr⟩
theorem SP.ofTryD {D : Ends} {f : Flow} (h : SP (inTryD X pins R) [] D f s) : SP X pins D f s := by
 cases f with
 | next => obtain ⟨σ', H', I, q⟩ := h; exact ⟨σ', H', B.ofTryD I, q⟩
 | brk => obtain ⟨σ', H', I, q⟩ := h; exact ⟨σ', H', B.ofTryD I, q⟩
 | cont => obtain ⟨σ', H', I, q⟩ := h; exact ⟨σ', H', B.ofTryD I, q⟩
 | ret u => obtain ⟨v, σ', H', I, r, q⟩ := h; exact ⟨v, σ', H', B.ofTryD I, r, q⟩
end
theorem name_gone {X : Cx} {pins : List (Addr × Obj)} {σ : L2.St} {H : Hp} {s : Shared} {M : Model} {A : Around} {E : Value -> Shared -> Prop} {i : Nat} {x : Str} {pos : Pos} {Q : Unit -> Shared -> Prop} (I : L2.Inv X pins σ H s) (hN : X.N.Nodup) (hi : X.N[i]? = some x) (hk : X.env.scope.names.lookup x = some .local)
  (h : ∀ s', L2.Inv X pins (σ.set i none) H s' -> Q () s') : wpAny M A (do bindName X.env x .none; unbindBehindTheSuite X.env x pos) Q E s := by
 obtain ⟨m, hn, hl⟩ := id I.loc
 have hiσ : i < σ.length := by rw [I.len]; exact (List.getElem?_eq_some_iff.mp hi).1
 have lt : ∀ b o, X.s₀.heap.get? b = some o -> b ≠ X.env.locals := fun b o e => Nat.ne_of_lt (Nat.lt_of_lt_of_le (Heap.lt_size e) I.ok.above)
 refine wpAny_nameGoes_keeps hk hn (by rw [I.ok.kind]; rfl) fun h' v hn' hs => h _ ?_
 refine ⟨I.ok, I.os, I.bare, ⟨fun b o e n hb hx => (hs.2 b (lt b o e)).trans (I.base.keep b o e n hb hx), fun b o e n hb hx => ?_, I.base.free, fun b o e hx => ?_, I.base.tups, I.base.frzs, I.base.tbls⟩, ⟨_, hn', fun j y v' e1 e2 e3 => ?_⟩, fun y c e => ?_, I.free, I.freeC, fun p hp => ?_, fun b ob e => ?_, by simpa using I.len⟩
 ·obtain ⟨sl, e1⟩ := I.base.slot b o e n hb hx
  exact ⟨sl, (hs.2 b (lt b o e)).trans e1⟩
 ·obtain ⟨o', e1⟩ := I.base.there b o e hx
  exact ⟨o', (hs.2 b (lt b o e)).trans e1⟩
 ·have hj : j ≠ i := fun z => by subst z; rw [List.getElem?_set_self hiσ] at e2; cases e2
  rw [List.getElem?_set_ne (Ne.symm hj)] at e2
  obtain ⟨u', r', q⟩ := hl j y v' e1 e2 e3
  refine ⟨u', r', ?_⟩
  rcases q with ⟨k, e⟩ | ⟨k, c, e, z⟩
  ·refine .inl ⟨k, ?_⟩
   have ny : y ≠ x := fun e => hj (nodup_ix hN e1 (e ▸ hi))
   show (if y = x then v else m y) = some u'
   rw [if_neg ny]; exact e
  ·exact .inr ⟨k, c, e, z.sameBut hs (I.cne y c e)⟩
 ·obtain ⟨w', z⟩ := I.cell y c e
  exact ⟨w', z.sameBut hs (I.cne y c e)⟩
 ·obtain ⟨e, n, ne, nf, d⟩ := I.pin p hp
  exact ⟨(hs.2 p.1 ne).trans e, n, ne, nf, d⟩
 ·refine (I.hok b ob e).stay (fun c w' hc q => (hs.2 c ?_).trans q) (fun _ q => q) fun _ _ q => q
  rintro rfl
  rcases hc with rfl | hc
  ·rw [I.free] at e; cases e
  ·rw [I.free] at hc; cases hc
def ErO (a C d : Addr) : Heap -> Prop := fun h => ∃ oe, h.get? a = some oe /\ oe.cls = .ref C /\ oe.dict = some d /\ PySem.W.notCls oe = true
def erO (a C d : Addr) : HO := .ext (ErO a C d)
theorem erO_ok {P : Program} {w : World} {H : Hp} {h : Heap} {a C d : Addr} (e : ErO a C d h) : ObjOk P w H h a (erO a C d) :=
 ⟨e, let ⟨_, q, _⟩ := e; ⟨_, q⟩, fun _ _ ⟨o, q, r⟩ k => ⟨o, k _ q, r⟩⟩
theorem TrcD.er {h : Heap} {x C T d : Addr} {fl : Value} (t : TrcD h x C T (some d) fl) : ErO x C d h := by
 obtain ⟨oe, vs, oT, ts, q1, q2, q3, q4, _⟩ := t
 exact ⟨oe, q1, q2, q3, by unfold PySem.W.notCls; rw [q4]⟩
def gone (i : Nat) (D : Ends) : Ends := { nx := fun σ H => D.nx (σ.set i none) H, rt := D.rt, bk := fun σ H => D.bk (σ.set i none) H, ct := fun σ H => D.ct (σ.set i none) H }
def tTryD (N : List Str) (R : RX) (Ok : Addr -> Prop) (tb th : TS) : TS := fun D σ H => tb D σ H /\ ∀ C dx H', R C dx H' -> Ok C /\ th D (hid N) H'
def tTryAs (N : List Str) (i : Nat) (R : RX) (Ok : Addr -> Prop) (tb th : TS) : TS := fun D σ H => tb D σ H /\ ∀ C dx H', R C dx H' -> Ok C /\ ∃ d, dx = some d /\ ∀ a, H' a = none -> th (gone i D) ((hid N).set i (some (.ref a))) (upd H' a (erO a C d))
section
variable {X : Cx} {R : RX} {body : List Stmt} {b₀ : Stmt} {suite : List Stmt} {x : Str} {p hpos pos : Pos} {u : Value} {tb th : TS}
theorem typ_of {M : Model} {h : Heap} {a C T : Addr} {dx : Option Addr} {fl : Value} (t : TrcD h a C T dx fl) : PySem.W.Looks M h (typeOf (.ref a)) (.ref C) := by
 obtain ⟨oe, _, _, _, q1, q2, _⟩ := t
 rw [← q2]
 exact (PySem.W.Looks.ld q1).andThen .now
theorem ps_tryAs {i : Nat} {n : Str} (hex : X.ex = []) (hst : X.stack = X.env :: X.outer) (hfr : X.env.frame = some X.env.locals) (hg : Gl X x) (hm : X.mg x = some u) (hN : X.N.Nodup) (hi : X.N[i]? = some n) (hn : X.env.scope.names.lookup n = some .local)
  (hb : ∀ pins, PSs (inTryD X pins R) body tb) (hs : ∀ e, PSs (inExc X e) (b₀ :: suite) th) (hd : (x == ("__debug__" : Str)) = false := by decide) :
  PS X (.Try body [.ExceptHandler (some (.Name x p)) (some n) (b₀ :: suite) hpos] [] [] pos) (tTryAs X.N i R (fun C => PySem.W.exmOne X.K (.ref C) u = some true) tb th) := by
 intro pins s σ H D I ⟨h1, h2⟩
 refine wpAny_Try_except (wpAny_mono (hb pins [] s σ H D (toTryD I) h1) (fun f s1 q => ?_) fun e s1 q => ?_)
 ·have q' := SP.ofTryD q
  cases f with
  | next => exact wpAny_execs_nil q'
  | brk => exact q'
  | cont => exact q'
  | ret u => exact q'
 ·obtain ⟨a, C, T, dx, H1, rfl, I1, ha, na, hT, nT, tr, hR⟩ := q
  obtain ⟨hk, d, rfl, hth⟩ := h2 C dx H1 hR
  refine notedN rfl I1 hex hst hfr ha na hT nT tr fun s2 T2 I2 nT2 hT2 tr2 => ?_
  refine wpAny_handleBy_cons (codeAny_handlers_test ?_) (by intro z; cases z)
  refine ld_glob (X := inExc X a) (toExc I2) hg hm ?_ hd
  refine PySem.W.Looks.here (s := s2) (PySem.W.exm_one (M := model X.prog X.w) I2.kIn (typ_of tr2) hk) ?_
  refine codeAny_handlers_suite_as ?_
  refine flownN I2 hT2 nT2 tr2 fun s3 I3 tr3 => ?_
  have I4 : L2.Inv X pins (hid X.N) (upd H1 a (erO a C d)) s3 := B.Inv.adopt I3 na ha hex (erO_ok tr3.er)
  refine store_ok (X := inExc X a) (toExc I4) hN hi (.inl hn) (v := .ref a) (u := .ref a) rfl (fun s5 I5 => ?_) (.inr hn)
  refine wpAny_mono (hs a pins s5 _ _ (gone i D) I5 (hth a ha)) (fun f s6 q6 => ?_) fun _ _ z => z.elim
  cases f with
  | next => obtain ⟨σ', H', J, q⟩ := q6; exact name_gone (ofExc I.ok J) hN hi hn fun s' J' => ⟨_, _, J', q⟩
  | brk => obtain ⟨σ', H', J, q⟩ := q6; exact name_gone (ofExc I.ok J) hN hi hn fun s' J' => ⟨_, _, J', q⟩
  | cont => obtain ⟨σ', H', J, q⟩ := q6; exact name_gone (ofExc I.ok J) hN hi hn fun s' J' => ⟨_, _, J', q⟩
  | ret u => obtain ⟨v, σ', H', J, r, q⟩ := q6; exact name_gone (ofExc I.ok J) hN hi hn fun s' J' => ⟨v, _, _, J', r, q⟩
end
def rIsE (K : PySem.W.Frag) : List V -> Hp -> VK -> Prop := fun xs H Q => ∃ (a C d : Addr) (fs : List (Str × V)) (bm : List Value) (c : V) (b : Bool), xs = [.ref a, c] /\ H a = some (erO a C d) /\ H d = some (dO d fs) /\ ClsX K C bm /\ GetX K C ∧
 ((∃ n, c = .ty n /\ PySem.W.kitOne K (.ref C) (.type n) = some b) ∨ (∃ D, c = .ref D /\ PySem.W.kitOne K (.ref C) (.ref D) = some b) ∨
  ∃ (p : Addr) (cs : List Addr), c = .ref p /\ H p = some (.tup (cs.map V.ref)) /\ PySem.W.kitAny K (.ref C) (cs.map Value.ref) = some b) /\ Q (.bl b) H
def IsErr (H : Hp) (a C d : Addr) : Prop := H a = some (erO a C d) ∨ H a = some (exO a C (some d))
section
variable {X : Cx} {pins : List (Addr × Obj)} {σ : L2.St} {H : Hp} {s : Shared} {a C d : Addr} {fs : List (Str × V)}
theorem IsErr.inst (I : L2.Inv X pins σ H s) (h : IsErr H a C d) (ed : H d = some (dO d fs)) : ∃ (oe od : Obj) (mA : Str -> Option Value), PySem.W.InstAt s.heap a oe C (some od) /\ (∀ name, PySem.W.lookIn name od = some (mA name)) /\ ∀ f, RelO (fs.lookup f) (mA f) := by
 obtain ⟨mA, hn, r⟩ := (show ObjOk X.prog X.w H s.heap d (dO d fs) from I.hok d _ ed).1
 obtain ⟨od, ho, hl⟩ := lookIn_ns hn
 rcases h with h | h
 ·obtain ⟨oe, h1, h2, h3, h4⟩ := (show ObjOk X.prog X.w H s.heap a (erO a C d) from I.hok a _ h).1
  exact ⟨oe, od, mA, ⟨h1, h2, h4, by rw [h3]; exact ho⟩, hl, r⟩
 ·obtain ⟨t, h1⟩ := (show ObjOk X.prog X.w H s.heap a (exO a C (some d)) from I.hok a _ h).1
  exact ⟨_, od, mA, ⟨h1, rfl, rfl, ho⟩, hl, r⟩
end
def tFldE (K : PySem.W.Frag) (ta : TE) (f : Str) : TE := fun σ H Q => ta σ H fun x H1 => ∃ a C d fs bm v, x = .ref a /\ IsErr H1 a C d /\ H1 d = some (dO d fs) /\ ClsX K C bm /\ GetX K C /\ NoAttr K C f /\ fs.lookup f = some v /\ Q v H1
theorem pe_fldE {X : Cx} {e : Expr} {f : Str} {pos : Pos} {ta : TE} {K : PySem.W.Frag} (hK : X.K = K) (he : PE X e ta) (hb : attributeBase e f X.env (eval e X.env) = eval e X.env) : PE X (.Attribute e f pos) (tFldE K ta f) := by
 subst hK
 intro pins s σ H Q I h
 refine attr_of hb (thn (he pins s σ H _ I h) fun u s1 ⟨x, H1, I1, rx, a, C, d, fs, bm, v, ex, ea, ed, c, g, n, l, q⟩ => ?_)
 subst ex
 obtain rfl : u = Value.ref a := rx
 obtain ⟨oe, od, mA, J, hl, r⟩ := IsErr.inst I1 ea ed
 obtain ⟨u', hu, ru⟩ := RelO.some_of (v := v) (o := mA f) (by rw [← l]; exact r f)
 unfold getAttr
 refine wpAny_bind (wpAny_mkText ?_)
 refine err_open (s := { s1 with toks := s1.toks + 1 }) I1.kIn J g ?_
 refine err_val (s := { s1 with toks := s1.toks + 1 }) I1.kIn J c (PySem.W.findObj_own c.hd n rfl (by rw [hl, hu])) ?_
 exact ⟨u', rfl, handed_of ru, v, H1, I1.tok _, ru, q⟩
def rIsX (K : PySem.W.Frag) : List V -> Hp -> VK -> Prop := fun xs H Q => ∃ (a C d : Addr) (fs : List (Str × V)) (bm : List Value) (c : V) (b : Bool), xs = [.ref a, c] /\ IsErr H a C d /\ H d = some (dO d fs) /\ ClsX K C bm /\ GetX K C ∧
 ((∃ n, c = .ty n /\ PySem.W.kitOne K (.ref C) (.type n) = some b) ∨ (∃ D, c = .ref D /\ PySem.W.kitOne K (.ref C) (.ref D) = some b) ∨
  ∃ (p : Addr) (cs : List Addr), c = .ref p /\ H p = some (.tup (cs.map V.ref)) /\ PySem.W.kitAny K (.ref C) (cs.map Value.ref) = some b) /\ Q (.bl b) H
def tMakeE (C : Addr) (sp : Sp) (t : TA) : TE := fun σ H Q => t σ H fun vs H1 => vs.length ≤ sizeLine /\ ∀ a, H1 a = none -> sp (.ref a :: vs) (upd H1 a (exO a C none)) (fun v H2 => v = .non /\ Q (.ref a) H2) E0
theorem turnedL {X : Cx} {pins : List (Addr × Obj)} {σ : L2.St} {H : Hp} {s : Shared} {h' : Heap} {t' : Nat} {fp : List Addr} (I : Inv X pins σ H s)
  (k : ∀ b o, b ∉ fp -> s.heap.get? b = some o -> h'.get? b = some o) (hf : ∀ b ∈ fp, FpOk X pins H b) : Inv X pins σ H { s with heap := h', toks := t' } := by
 have off : ∀ b u, H b = some u -> b ∉ fp := fun b u e z => by rw [(hf b z).1] at e; cases e
 refine I.step (g' := s.gens) (d' := s.drawn) (ch := fp) (fun b hb => ?_) (fun b o _ _ hc e _ => k b o hc e) (fun b o _ _ hc e _ => ⟨o.slots, k b o hc e⟩) (fun _ _ _ _ n => n)
  (fun b o hc e => ⟨o, k b o hc e⟩) (fun _ _ e => e) (fun _ _ _ e => e) (fun b ps e => ⟨#[], by rw [e]; simp⟩) (fun m hm => ?_) (fun b u e => ?_) I.bare
 ·obtain ⟨_, f1, _, f3, f4, f5⟩ := hf b hb
  exact ⟨f3, f1, f4, f5⟩
 ·obtain ⟨o, es, ep, ho, r⟩ := hm
  exact ⟨o, es, ep, k _ o (fun z => (hf _ z).2.1 rfl) ho, r⟩
 ·refine (I.hok b u e).stay (fun c v hc q => k c v ?_ q) (fun _ q => q) fun _ _ q => q
  rcases hc with z | z
  ·rw [z]; exact off b u e
  ·exact off c _ z
section
variable {prog : Program} {w : World} {A : Around} {E : Value -> Shared -> Prop} {s : Shared}
theorem nx_item {j t : Addr} {k : Nat} {ys : Array Value} {v : Value} {G : Value -> Shared -> Prop} (a : s.heap.IsTupleIter j t k) (b : s.heap.IsTuple t ys) (c : ys[k]? = some v)
  (g : ∀ h', h'.IsTupleIter j t (k + 1) -> Heap.SameBut j s.heap h' -> G v { s with heap := h' }) : wpAny (model prog w) A (Builtin.SmallTypes.nextOf (.ref j)) G E s := by
 obtain ⟨o, e1, e2, e3⟩ := id a
 obtain ⟨q, f1, _, n, f2⟩ := b
 unfold Builtin.SmallTypes.nextOf
 refine wpAny_bind (wpAny_callSpecial?_slot (name := Str.ofString "__next__") a.typeIs F.slot_tuple_iterator_next
  (wpAny_call_entry F.slot_tuple_iterator_next a.typeIs F.entry_tuple_iterator_next ?_ (F.args_tuple_iterator_next_1 _)))
 show wpAny (model prog w) _ (field (.ref j) 0 >>= _) _ _ s
 refine wpAny_bind (wpAny_field e1 e3 (x := .ref t) rfl ?_)
 show wpAny (model prog w) _ (if (Value.ref t == Value.none) = true then _ else _) _ _ s
 rw [if_neg (fun z => Bool.noConfusion z : ¬ ((Value.ref t == Value.none) = true))]
 show wpAny (model prog w) _ (field (.ref j) 1 >>= _) _ _ s
 refine wpAny_bind (wpAny_field e1 e3 (x := .int k 0) rfl ?_)
 show wpAny (model prog w) _ (seqItems? (.ref t) >>= _) _ _ s
 refine wpAny_bind (wpAny_seqItems f1 f2 ?_)
 simp only [c, Int.toNat_natCast]
 refine wpAny_bind (wpAny_setField e1 e3 (by simp) (wpAny_pure ⟨v, rfl, wpAny_pure (g _ ?_ (Heap.SameBut.update ..))⟩))
 refine ⟨_, Heap.get?_update_self _ e1 (Obj.isFreed_of_fields (Obj.data_mapFields e3 _)), (Obj.cls_mapFields ..).trans e2, ?_⟩
 rw [Obj.data_mapFields e3]; simp [rawInt]
theorem nx_end {j t : Addr} {k : Nat} {ys : Array Value} {G : Value -> Shared -> Prop} (hh : A.handled = none) (a : s.heap.IsTupleIter j t k) (b : s.heap.IsTuple t ys) (c : ys[k]? = none)
  (g : ∀ h' e, Heap.ExtBut j s.heap h' -> (∃ o, h'.get? e = some o /\ o.cls = .type "StopIteration") -> E (.ref e) { s with heap := h' }) : wpAny (model prog w) A (Builtin.SmallTypes.nextOf (.ref j)) G E s := by
 obtain ⟨o, e1, e2, e3⟩ := id a
 obtain ⟨q, f1, _, n, f2⟩ := b
 unfold Builtin.SmallTypes.nextOf
 refine wpAny_bind (wpAny_callSpecial?_slot (name := Str.ofString "__next__") a.typeIs F.slot_tuple_iterator_next
  (wpAny_call_entry F.slot_tuple_iterator_next a.typeIs F.entry_tuple_iterator_next ?_ (F.args_tuple_iterator_next_1 _)))
 show wpAny (model prog w) _ (field (.ref j) 0 >>= _) _ _ s
 refine wpAny_bind (wpAny_field e1 e3 (x := .ref t) rfl ?_)
 show wpAny (model prog w) _ (if (Value.ref t == Value.none) = true then _ else _) _ _ s
 rw [if_neg (fun z => Bool.noConfusion z : ¬ ((Value.ref t == Value.none) = true))]
 show wpAny (model prog w) _ (field (.ref j) 1 >>= _) _ _ s
 refine wpAny_bind (wpAny_field e1 e3 (x := .int k 0) rfl ?_)
 show wpAny (model prog w) _ (seqItems? (.ref t) >>= _) _ _ s
 refine wpAny_bind (wpAny_seqItems f1 f2 ?_)
 simp only [c, Int.toNat_natCast]
 refine wpAny_bind (wpAny_rule (wpAny_bind (wpAny_setField e1 e3 (by simp) ?_)))
 show wpAny (model prog w) _ (newExc (.type "StopIteration") [] >>= _) _ _ _
 refine wpAny_bind ?_
 simp only [newTuple, newExc]
 refine wpAny_bind (wpAny_newObj_type ?_ (by size_fits))
 refine wpAny_bind (m := firstArgMember _ _) (wpAny_of_eq (a := Value.none) (by first | rfl | (simp only [firstArgMember] <;> rfl)) ?_)
 refine wpAny_newObj_type ?_ (by size_fits)
 simp only [raiseNew]
 refine wpAny_bind (wpAny_handled ?_)
 first | rw [hh] | rw [show A.in1.handled = none from hh]
 refine wpAny_bind (wpAny_pure (wpAny_throw (g _ _ (((Heap.SameBut.update ..).extBut.push _).push _) ⟨_, Heap.get?_push_size _ rfl, rfl⟩)))
structure Five (z TI TO i1 i2 : Addr) : Prop where
 a1 : TI ≠ z
 a2 : TO ≠ z
 a3 : i1 ≠ z
 a4 : i2 ≠ z
 a5 : TI ≠ TO
 a6 : TI ≠ i1
 a7 : TI ≠ i2
 a8 : TO ≠ i1
 a9 : TO ≠ i2
 b1 : i1 ≠ i2
theorem zip_step {z TI TO i1 i2 : Addr} {x y a b : Value} {A1 A2 : Heap -> Prop} {G : Value -> Shared -> Prop} (D : Five z TI TO i1 i2)
  (hz : IsZip s.heap z TI TO .none) (hI : IsPair s.heap TI (.ref i1) (.ref i2)) (hO : IsPair s.heap TO a b)
  (N1 : ∀ (s' : Shared) (G : Value -> Shared -> Prop) (E : Value -> Shared -> Prop), (∀ c o, c ≠ z -> s.heap.get? c = some o -> s'.heap.get? c = some o) -> (∀ h', A1 h' -> Heap.SameBut i1 s'.heap h' -> G x { s' with heap := h' }) -> wpAny (model prog w) A (Builtin.SmallTypes.nextOf (.ref i1)) G E s')
  (N2 : ∀ (s' : Shared) (G : Value -> Shared -> Prop) (E : Value -> Shared -> Prop), (∀ c o, c ≠ z -> c ≠ TO -> c ≠ i1 -> s.heap.get? c = some o -> s'.heap.get? c = some o) -> (∀ h', A2 h' -> Heap.SameBut i2 s'.heap h' -> G y { s' with heap := h' }) -> wpAny (model prog w) A (Builtin.SmallTypes.nextOf (.ref i2)) G E s')
  (l1 : i1 < s.heap.objs.size) (l2 : i2 < s.heap.objs.size)
  (g : ∀ h₁ h₂ h', A1 h₁ -> A2 h₂ -> (∀ c o, c ≠ z -> c ≠ TO -> c ≠ i2 -> h₁.get? c = some o -> h'.get? c = some o) -> (∀ c o, c ≠ z -> c ≠ TO -> h₂.get? c = some o -> h'.get? c = some o) →
   IsZip h' z TI TO (rawInt s.heap.objs.size) -> IsPair h' TO x y -> IsPair h' s.heap.objs.size x y -> h'.objs.size = s.heap.objs.size + 1 →
   (∀ c o, c ∉ [z, TO, i1, i2] -> s.heap.get? c = some o -> h'.get? c = some o) -> G (.ref s.heap.objs.size) { s with heap := h' }) :
  wpAny (model prog w) A (Builtin.«zip.__next__» ⟨[.ref z], []⟩) (fun fin s' => ∃ v, fin = .done (.ret v) /\ G v s') E s := by
 show wpAny (model prog w) _ (field (.ref z) 2 >>= _) _ _ _
 refine wpAny_bind (wpAny_field hz rfl (x := .bool false) rfl ?_)
 show wpAny (model prog w) _ (field (.ref z) 3 >>= _) _ _ _
 refine wpAny_bind (wpAny_field hz rfl (x := .ref TI) rfl ?_)
 refine wpAny_bind (wpAny_seqItems hI rfl ?_)
 show wpAny (model prog w) _ (Builtin.SmallTypes.ownedTupleIsFree (.ref z) >>= _) _ _ _
 refine wpAny_bind ?_
 unfold Builtin.SmallTypes.ownedTupleIsFree
 refine wpAny_bind (wpAny_field hz rfl (x := .none) rfl (wpAny_pure ?_))
 simp only [if_true]
 refine wpAny_bind (wpAny_rule ?_)
 refine wpAny_bind (wpAny_field hz rfl (x := .ref TO) rfl ?_)
 refine wpAny_bind (wpAny_setField_rec hz (by simp) fun g1 z1 s1 => ?_)
 replace z1 : IsZip g1 z TI TO .ellipsis := z1
 refine wpAny_bind ?_
 simp only [List.zipIdx_nil, List.zipIdx_cons, List.forIn_nil, List.forIn_cons]
 refine wpAny_bind (wpAny_bind (wpAny_onRaise ?_))
 show wpAny (model prog w) _ (Builtin.SmallTypes.nextOf (.ref i1) >>= _) _ _ _
 refine wpAny_bind (N1 _ _ _ (fun c o n e => s1.extBut c o n e) fun g2 q1 s2 => wpAny_pure ?_)
 have O2 : IsPair g2 TO a b := s2.extBut _ _ D.a8 (s1.extBut _ _ D.a2 hO)
 refine wpAny_bind (wpAny_seqItems O2 rfl ?_)
 refine wpAny_bind (wpAny_updateSeq_pair O2 fun g3 O3 s3 => ?_)
 replace O3 : IsPair g3 TO x b := O3
 refine wpAny_bind (wpAny_letGo (wpAny_pure ?_))
 refine wpAny_bind (wpAny_bind (wpAny_onRaise ?_))
 show wpAny (model prog w) _ (Builtin.SmallTypes.nextOf (.ref i2) >>= _) _ _ _
 refine wpAny_bind (N2 _ _ _ (fun c o n m k e => s3.extBut _ _ m (s2.extBut _ _ k (s1.extBut c o n e))) fun g4 q2 s4 => wpAny_pure ?_)
 have O4 : IsPair g4 TO x b := s4.extBut _ _ D.a9 O3
 refine wpAny_bind (wpAny_seqItems O4 rfl ?_)
 refine wpAny_bind (wpAny_updateSeq_pair O4 fun g5 O5 s5 => ?_)
 replace O5 : IsPair g5 TO x y := O5
 refine wpAny_bind (wpAny_letGo (wpAny_pure (wpAny_pure ?_)))
 refine wpAny_bind (wpAny_seqItems O5 rfl ?_)
 refine wpAny_bind (wpAny_newTuple ?_)
 have sz : g5.objs.size = s.heap.objs.size := by rw [s5.1, s4.1, s3.1, s2.1, s1.1]
 have z5 : IsZip g5 z TI TO .ellipsis := s5.extBut _ _ D.a2.symm (s4.extBut _ _ D.a4.symm (s3.extBut _ _ D.a2.symm (s2.extBut _ _ D.a3.symm z1)))
 have zl : z < g5.objs.size := Heap.lt_size z5
 show wpAny (model prog w) _ (Builtin.SmallTypes.ownedTupleHandOut (.ref z) (.ref g5.objs.size) >>= _) _ _ _
 refine wpAny_bind ?_
 unfold Builtin.SmallTypes.ownedTupleHandOut
 have z6 : IsZip (g5.push { cls := .type "tuple", data := .seq #[x, y] }) z TI TO .ellipsis := Heap.get?_push_of_some _ z5
 refine wpAny_bind (wpAny_setField_rec z6 (by simp) fun g7 z7 s7 => ?_)
 replace z7 : IsZip g7 z TI TO (rawInt g5.objs.size) := z7
 refine wpAny_setField_rec z7 (by simp) fun g8 z8 s8 => ?_
 replace z8 : IsZip g8 z TI TO (rawInt g5.objs.size) := z8
 have up : ∀ c o, c ≠ z -> g5.get? c = some o -> g8.get? c = some o := fun c o n e => s8.extBut _ _ n (s7.extBut _ _ n (Heap.get?_push_of_some _ e))
 have t8 : IsPair g8 g5.objs.size x y := s8.extBut _ _ (Nat.ne_of_gt zl) (s7.extBut _ _ (Nat.ne_of_gt zl) (Heap.get?_push_size _ rfl))
 have sz8 : g8.objs.size = g5.objs.size + 1 := by rw [s8.1, s7.1, Heap.size_push]
 rw [sz] at z8 t8 sz8
 refine wpAny_pure ⟨_, rfl, ?_⟩
 show G (.ref g5.objs.size) _
 rw [sz]
 refine g g2 g4 g8 q1 q2 (fun c o n m k e => up c o n (s5.extBut _ _ m (s4.extBut _ _ k (s3.extBut _ _ m e)))) (fun c o n m e => up c o n (s5.extBut _ _ m e)) z8 (up _ _ D.a2 O5) t8 sz8 fun c o n e => ?_
 simp only [List.mem_cons, List.not_mem_nil, or_false, not_or] at n
 exact up c o n.1 (s5.extBut _ _ n.2.1 (s4.extBut _ _ n.2.2.2 (s3.extBut _ _ n.2.1 (s2.extBut _ _ n.2.2.1 (s1.extBut _ _ n.1 e)))))
theorem zip_stop {z TI TO i1 i2 : Addr} {a b : Value} {G : Fin -> Shared -> Prop} (D : Five z TI TO i1 i2)
  (hz : IsZip s.heap z TI TO .none) (hI : IsPair s.heap TI (.ref i1) (.ref i2)) (hO : IsPair s.heap TO a b)
  (N : (∀ (s' : Shared) (G : Value -> Shared -> Prop) (E : Value -> Shared -> Prop), (∀ c o, c ≠ z -> s.heap.get? c = some o -> s'.heap.get? c = some o) →
    (∀ h' e, Heap.ExtBut i1 s'.heap h' -> (∃ o, h'.get? e = some o /\ o.cls = .type "StopIteration") -> E (.ref e) { s' with heap := h' }) -> wpAny (model prog w) A (Builtin.SmallTypes.nextOf (.ref i1)) G E s') ∨
   ((∃ x, ∀ (s' : Shared) (G : Value -> Shared -> Prop) (E : Value -> Shared -> Prop), (∀ c o, c ≠ z -> s.heap.get? c = some o -> s'.heap.get? c = some o) -> (∀ h', Heap.SameBut i1 s'.heap h' -> G x { s' with heap := h' }) -> wpAny (model prog w) A (Builtin.SmallTypes.nextOf (.ref i1)) G E s') ∧
    ∀ (s' : Shared) (G : Value -> Shared -> Prop) (E : Value -> Shared -> Prop), (∀ c o, c ≠ z -> c ≠ TO -> c ≠ i1 -> s.heap.get? c = some o -> s'.heap.get? c = some o) →
    (∀ h' e, Heap.ExtBut i2 s'.heap h' -> (∃ o, h'.get? e = some o /\ o.cls = .type "StopIteration") -> E (.ref e) { s' with heap := h' }) -> wpAny (model prog w) A (Builtin.SmallTypes.nextOf (.ref i2)) G E s'))
  (g : ∀ h' e, (∀ c o, c ∉ [z, TO, i1, i2] -> s.heap.get? c = some o -> h'.get? c = some o) -> (∃ o, h'.get? e = some o /\ o.cls = .type "StopIteration") -> E (.ref e) { s with heap := h' }) :
  wpAny (model prog w) A (Builtin.«zip.__next__» ⟨[.ref z], []⟩) G E s := by
 show wpAny (model prog w) _ (field (.ref z) 2 >>= _) _ _ _
 refine wpAny_bind (wpAny_field hz rfl (x := .bool false) rfl ?_)
 show wpAny (model prog w) _ (field (.ref z) 3 >>= _) _ _ _
 refine wpAny_bind (wpAny_field hz rfl (x := .ref TI) rfl ?_)
 refine wpAny_bind (wpAny_seqItems hI rfl ?_)
 show wpAny (model prog w) _ (Builtin.SmallTypes.ownedTupleIsFree (.ref z) >>= _) _ _ _
 refine wpAny_bind ?_
 unfold Builtin.SmallTypes.ownedTupleIsFree
 refine wpAny_bind (wpAny_field hz rfl (x := .none) rfl (wpAny_pure ?_))
 simp only [if_true]
 refine wpAny_bind (wpAny_rule ?_)
 refine wpAny_bind (wpAny_field hz rfl (x := .ref TO) rfl ?_)
 refine wpAny_bind (wpAny_setField_rec hz (by simp) fun g1 z1 s1 => ?_)
 replace z1 : IsZip g1 z TI TO .ellipsis := z1
 refine wpAny_bind ?_
 simp only [List.zipIdx_nil, List.zipIdx_cons, List.forIn_nil, List.forIn_cons]
 refine wpAny_bind (wpAny_bind (wpAny_onRaise ?_))
 show wpAny (model prog w) _ (Builtin.SmallTypes.nextOf (.ref i1) >>= _) _ _ _
 rcases N with N | ⟨⟨x, N⟩, N'⟩
 ·refine wpAny_bind (N _ _ _ (fun c o n e => s1.extBut c o n e) fun g2 e s2 he => ?_)
  obtain ⟨oe, he, hc⟩ := he
  have z2 : IsZip g2 z TI TO .ellipsis := s2 _ _ D.a3.symm z1
  have ne : e ≠ z := fun q => by subst q; rw [z2] at he; cases he; simp at hc
  refine wpAny_setField_rec z2 (by simp) fun g3 _ s3 => g g3 e (fun c o n q => ?_) ⟨oe, s3.extBut _ _ ne he, hc⟩
  simp only [List.mem_cons, List.not_mem_nil, or_false, not_or] at n
  exact s3.extBut _ _ n.1 (s2 _ _ n.2.2.1 (s1.extBut _ _ n.1 q))
 ·refine wpAny_bind (N _ _ _ (fun c o n e => s1.extBut c o n e) fun g2 s2 => wpAny_pure ?_)
  have O2 : IsPair g2 TO a b := s2.extBut _ _ D.a8 (s1.extBut _ _ D.a2 hO)
  refine wpAny_bind (wpAny_seqItems O2 rfl ?_)
  refine wpAny_bind (wpAny_updateSeq_pair O2 fun g3 O3 s3 => ?_)
  refine wpAny_bind (wpAny_letGo (wpAny_pure ?_))
  refine wpAny_bind (wpAny_bind (wpAny_onRaise ?_))
  show wpAny (model prog w) _ (Builtin.SmallTypes.nextOf (.ref i2) >>= _) _ _ _
  refine wpAny_bind (N' _ _ _ (fun c o n m k e => s3.extBut _ _ m (s2.extBut _ _ k (s1.extBut c o n e))) fun g4 e s4 he => ?_)
  obtain ⟨oe, he, hc⟩ := he
  have z4 : IsZip g4 z TI TO .ellipsis := s4 _ _ D.a4.symm (s3.extBut _ _ D.a2.symm (s2.extBut _ _ D.a3.symm z1))
  have ne : e ≠ z := fun q => by subst q; rw [z4] at he; cases he; simp at hc
  refine wpAny_setField_rec z4 (by simp) fun g5 _ s5 => g g5 e (fun c o n q => ?_) ⟨oe, s5.extBut _ _ ne he, hc⟩
  simp only [List.mem_cons, List.not_mem_nil, or_false, not_or] at n
  exact s5.extBut _ _ n.1 (s4 _ _ n.2.2.2 (s3.extBut _ _ n.2.1 (s2.extBut _ _ n.2.2.1 (s1.extBut _ _ n.1 q))))
end
theorem turnedN {X : Cx} {pins : List (Addr × Obj)} {σ : L2.St} {H : Hp} {s : Shared} {h' : Heap} {t' : Nat} {fp : List Addr} {p : Addr} {v : HO} (I : Inv X pins σ H s)
  (k : ∀ b o, b ∉ fp -> s.heap.get? b = some o -> h'.get? b = some o) (hf : ∀ b ∈ fp, FpOk X pins H b) (hp : s.heap.objs.size ≤ p) (new : ObjOk X.prog X.w (upd H p v) h' p v) :
  Inv X pins σ (upd H p v) { s with heap := h', toks := t' } := by
 have off : ∀ b u, H b = some u -> b ∉ fp := fun b u e z => by rw [(hf b z).1] at e; cases e
 have hn : H p = none := I.hok.fresh hp
 have old : ∀ b u, H b = some u -> upd H p v b = some u := fun b u e => by rw [upd_ne (ne_of_none e hn)]; exact e
 refine I.step (g' := s.gens) (d' := s.drawn) (ch := fp) (fun b hb => ?_) (fun b o _ _ hc e _ => k b o hc e) (fun b o _ _ hc e _ => ⟨o.slots, k b o hc e⟩) (fun b o _ e n => ?_)
  (fun b o hc e => ⟨o, k b o hc e⟩) (fun b xs e => old b _ e) (fun b o u e => old b _ e) (fun b ps e => ⟨#[], by rw [old b _ e]; simp⟩) (fun m hm => ?_) (fun b u e => ?_) I.bare
 ·obtain ⟨_, f1, _, f3, f4, f5⟩ := hf b hb
  exact ⟨f3, f1, f4, f5⟩
 ·rw [upd_ne (Nat.ne_of_lt (Nat.lt_of_lt_of_le (Heap.lt_size e) hp))]; exact n
 ·obtain ⟨o, es, ep, ho, r⟩ := hm
  exact ⟨o, es, ep, k _ o (fun z => (hf _ z).2.1 rfl) ho, r⟩
 ·by_cases hb : b = p
  ·subst hb; rw [upd_same] at e; cases e; exact new
  ·rw [upd_ne hb] at e
   refine (I.hok b u e).stay (fun c v hc q => k c v ?_ q) (fun c q => old c _ q) fun c xs q => old c _ q
   rcases hc with z | z
   ·rw [z]; exact off b u e
   ·exact off c _ z
theorem sqT_off {X : Cx} {pins : List (Addr × Obj)} {σ : L2.St} {H : Hp} {s : Shared} {a b : Addr} {xs : List V} (I : Inv X pins σ H s) (h : SqT X.K H a xs) (f : FpOk X pins H b) : a ≠ b := fun z => by
 subst z
 rcases h with (h | ⟨o, h⟩) | ⟨o, its, n, hk, _⟩
 ·rw [f.1] at h; cases h
 ·rw [f.1] at h; cases h
 ·have e := I.ok.mod.kin a o hk
  rcases f.2.2.2.1 with z | z
  ·exact I.ok.noex a o e z
  ·rw [(I.ok.bs a o e).1] at z; cases z
def Itz (K : PySem.W.Frag) (a b : Addr) : It :=
 ⟨fun i H => ∃ xs ys x y, SqT K H a xs /\ SqT K H b ys /\ xs[i]? = some x /\ ys[i]? = some y,
  fun i H v H' => ∃ p x y, H p = none /\ v = .ref p /\ H' = upd H p (.tup [x, y]) /\ (∀ xs, SqT K H a xs -> xs[i]? = some x) /\ ∀ ys, SqT K H b ys -> ys[i]? = some y,
  fun i H => ∃ xs ys, SqT K H a xs /\ SqT K H b ys /\ (xs.length ≤ i ∨ ys.length ≤ i)⟩
def ZSt (z TI TO i1 i2 a b : Addr) (i : Nat) (h : Heap) : Prop := IsZip h z TI TO .none /\ IsPair h TI (.ref i1) (.ref i2) /\ (∃ u v, IsPair h TO u v) /\ h.IsTupleIter i1 a i /\ h.IsTupleIter i2 b i
theorem tupIter_at {h h' : Heap} {i a : Addr} {n : Nat} (x : h.IsTupleIter i a n) (k : ∀ o, h.get? i = some o -> h'.get? i = some o) : h'.IsTupleIter i a n := let ⟨o, e, r⟩ := x; ⟨o, k o e, r⟩
theorem tup_at {h h' : Heap} {a : Addr} {ys : Array Value} (x : h.IsTuple a ys) (k : ∀ o, h.get? a = some o -> h'.get? a = some o) : h'.IsTuple a ys := let ⟨o, e, r⟩ := x; ⟨o, k o e, r⟩
theorem tupIter_lt {h : Heap} {i a : Addr} {n : Nat} (x : h.IsTupleIter i a n) : i < h.objs.size := let ⟨_, e, _⟩ := x; Heap.lt_size e
theorem turn_zip {P : Program} {w : World} {K : PySem.W.Frag} {elts : List Expr} {x1} {pos : Pos} {z TI TO i1 i2 a b : Addr} (D : Five z TI TO i1 i2) :
  Turn P w K (.Tuple elts x1 pos) (Itz K a b) [z, TI, TO, i1, i2] z (ZSt z TI TO i1 i2 a b) where
 mem := by simp
 obj := fun i h st c hc => by
  obtain ⟨h1, h2, ⟨u, v, h3⟩, ⟨o4, h4, c4, d4⟩, ⟨o5, h5, c5, d5⟩⟩ := st
  simp only [List.mem_cons, List.not_mem_nil, or_false] at hc
  rcases hc with rfl | rfl | rfl | rfl | rfl
  ·exact ⟨_, h1, fun v q => by cases (show Data.fields _ = Data.cell v from q)⟩
  ·exact ⟨_, h2, fun v q => by cases (show Data.seq _ _ = Data.cell v from q)⟩
  ·exact ⟨_, h3, fun v q => by cases (show Data.seq _ _ = Data.cell v from q)⟩
  ·exact ⟨o4, h4, fun v q => by rw [d4] at q; cases q⟩
  ·exact ⟨o5, h5, fun v q => by rw [d5] at q; cases q⟩
 keep := fun i h h' st k => by
  obtain ⟨h1, h2, ⟨u, v, h3⟩, h4, h5⟩ := st
  exact ⟨k z (by simp) _ h1, k TI (by simp) _ h2, ⟨u, v, k TO (by simp) _ h3⟩, tupIter_at h4 fun o e => k i1 (by simp) o e, tupIter_at h5 fun o e => k i2 (by simp) o e⟩
 item := by
  intro X hP hw hK hc i pins s σ H E I hf st hg
  subst hP hw hK
  obtain ⟨xs, ys, x, y, q1, q2, hx, hy⟩ := hg
  obtain ⟨its, rv, p1, z1⟩ := I.tuple q1
  obtain ⟨jts, rw', p2, z2⟩ := I.tuple q2
  obtain ⟨u, hu, ru⟩ := rv.get hx
  obtain ⟨v, hv, rv2⟩ := rw'.get hy
  have off1 : ∀ c ∈ [z, TI, TO, i1, i2], a ≠ c := fun c hc => sqT_off I q1 (hf c hc)
  have off2 : ∀ c ∈ [z, TI, TO, i1, i2], b ≠ c := fun c hc => sqT_off I q2 (hf c hc)
  obtain ⟨h1, h2, ⟨o1, o2, h3⟩, h4, h5⟩ := st
  have hT : s.TypeIs (.ref z) "zip" := ⟨_, h1, rfl⟩
  unfold pyNext
  refine wpAny_bind (wpAny_attempt (wpAny_callSpecial?_slot (name := Str.ofString "__next__") hT F.slot_zip_next
   (wpAny_call_entry F.slot_zip_next hT F.entry_zip_next ?_ (F.args_zip_next_1 _))))
  refine zip_step (x := u) (y := v) (A1 := fun h => h.IsTupleIter i1 a (i + 1)) (A2 := fun h => h.IsTupleIter i2 b (i + 1)) D h1 h2 h3 ?_ ?_ (tupIter_lt h4) (tupIter_lt h5) ?_
  ·intro s' G E' k g
   exact nx_item (tupIter_at h4 fun o e => k _ o D.a3 e) (tup_at (show s.heap.IsTuple a its.toArray from p1) fun o e => k _ o (off1 z (by simp)) e) (by simpa using hu) g
  ·intro s' G E' k g
   exact nx_item (tupIter_at h5 fun o e => k _ o D.a4 (Ne.symm D.a9) (Ne.symm D.b1) e) (tup_at (show s.heap.IsTuple b jts.toArray from p2) fun o e => k _ o (off2 z (by simp)) (off2 TO (by simp)) (off2 i1 (by simp)) e) (by simpa using hv) g
  ·intro g1 g2 h' a1 a2 k1 k2 zz po pn sz kk
   refine wpAny_pure ⟨_, rfl, ?_⟩
   refine wpAny_letOwnedTupleGo_zip zz fun h'' z3 sb => ?_
   have nz : s.heap.objs.size ≠ z := Nat.ne_of_gt (Heap.lt_size h1)
   have hp : H s.heap.objs.size = none := I.fresh
   have P : ObjOk X.prog X.w (upd H s.heap.objs.size (.tup [x, y])) h'' s.heap.objs.size (.tup [x, y]) :=
    ⟨by show 2 ≤ sizeLine; decide, [u, v], .cons ru (.cons rv2 .nil), ⟨_, sb.extBut _ _ nz pn, rfl, _, rfl⟩⟩
   have I2 : Inv X pins σ (upd H s.heap.objs.size (.tup [x, y])) { s with heap := h'', toks := s.toks } := turnedN I (fun c o n e => by
    have n' : c ∉ [z, TO, i1, i2] := fun q => n (by
     simp only [List.mem_cons, List.not_mem_nil, or_false] at q ⊢
     rcases q with q | q | q | q <;> simp [q])
    exact sb.extBut _ _ (fun q => n (by simp [q])) (kk c o n' e)) hf (Nat.le_refl _) P
   refine ⟨.ref s.heap.objs.size, _, I2, rfl, ⟨_, x, y, hp, rfl, rfl, fun zs hz => by rw [I.tuple_inj hz q1]; exact hx, fun zs hz => by rw [I.tuple_inj hz q2]; exact hy⟩, ⟨z3, ?_, ⟨u, v, ?_⟩, ?_, ?_⟩, fun c hc => ?_⟩
   ·refine sb.extBut _ _ D.a1 (kk TI _ ?_ h2)
    have := D.a1; have := D.a5; have := D.a6; have := D.a7
    simp only [List.mem_cons, List.not_mem_nil, or_false, not_or]
    exact ⟨D.a1, D.a5, D.a6, D.a7⟩
   ·exact sb.extBut _ _ D.a2 po
   ·exact tupIter_at a1 fun o e => sb.extBut _ _ D.a3 (k1 _ o D.a3 (Ne.symm D.a8) D.b1 e)
   ·exact tupIter_at a2 fun o e => sb.extBut _ _ D.a4 (k2 _ o D.a4 (Ne.symm D.a9) e)
   ·have lt : c < s.heap.objs.size := by
     simp only [List.mem_cons, List.not_mem_nil, or_false] at hc
     rcases hc with rfl | rfl | rfl | rfl | rfl
     ·exact Heap.lt_size h1
     ·exact Heap.lt_size h2
     ·exact Heap.lt_size h3
     ·exact tupIter_lt h4
     ·exact tupIter_lt h5
    rw [upd_ne (Nat.ne_of_lt lt)]
    exact (hf c hc).1
 done := by
  intro X hP hw hK hc i pins s σ H E I hf st hg
  subst hP hw hK
  obtain ⟨xs, ys, q1, q2, hd⟩ := hg
  obtain ⟨its, rv, p1, z1⟩ := I.tuple q1
  obtain ⟨jts, rw', p2, z2⟩ := I.tuple q2
  have l1 := rv.length
  have l2 := rw'.length
  have off1 : ∀ c ∈ [z, TI, TO, i1, i2], a ≠ c := fun c hc => sqT_off I q1 (hf c hc)
  have off2 : ∀ c ∈ [z, TI, TO, i1, i2], b ≠ c := fun c hc => sqT_off I q2 (hf c hc)
  obtain ⟨h1, h2, ⟨o1, o2, h3⟩, h4, h5⟩ := st
  have hT : s.TypeIs (.ref z) "zip" := ⟨_, h1, rfl⟩
  have hh : X.A.in1.handled = none := I.ok.hd hc
  unfold pyNext
  refine wpAny_bind (wpAny_attempt (wpAny_callSpecial?_slot (name := Str.ofString "__next__") hT F.slot_zip_next
   (wpAny_call_entry F.slot_zip_next hT F.entry_zip_next ?_ (F.args_zip_next_1 _))))
  refine zip_stop D h1 h2 h3 ?_ fun h' e kk he => ?_
  ·cases e : its.toArray[i]? with
   | none =>
    refine .inl fun s' G E' k g => ?_
    exact nx_end hh (tupIter_at h4 fun o e => k _ o D.a3 e) (tup_at (show s.heap.IsTuple a its.toArray from p1) fun o e => k _ o (off1 z (by simp)) e) e g
   | some u =>
    refine .inr ⟨⟨u, fun s' G E' k g => ?_⟩, fun s' G E' k g => ?_⟩
    ·exact nx_item (tupIter_at h4 fun o e => k _ o D.a3 e) (tup_at (show s.heap.IsTuple a its.toArray from p1) fun o e => k _ o (off1 z (by simp)) e) e fun h' _ sb => g h' sb
    ·have hi : i < its.length := by
      have := (Array.getElem?_eq_some_iff.mp e).1
      simpa using this
     exact nx_end hh (tupIter_at h5 fun o e => k _ o D.a4 (Ne.symm D.a9) (Ne.symm D.b1) e) (tup_at (show s.heap.IsTuple b jts.toArray from p2) fun o e => k _ o (off2 z (by simp)) (off2 TO (by simp)) (off2 i1 (by simp)) e)
      (by rw [Array.getElem?_eq_none_iff]; simp; omega) g
  ·obtain ⟨o, ho, hc'⟩ := he
   refine wpAny_bind (wpAny_isInstance (T := "StopIteration") (b := true) ⟨o, ho, hc'⟩ isSubtype_stop ?_)
   refine wpAny_pure ⟨rfl, ?_⟩
   exact turnedL (t' := s.toks) I (fun c o n e => kk c o (fun q => n (by
     simp only [List.mem_cons, List.not_mem_nil, or_false] at q ⊢
     rcases q with q | q | q | q <;> simp [q])) e) hf
 self := fun _ _ _ _ _ st h => wpAny_pyIter_zip st.1 h
abbrev zA (h : Heap) (a : Addr) : Heap := h.push { cls := .type "tuple_iterator", data := .fields #[.ref a, .int 0 0] }
abbrev zB (h : Heap) (a b : Addr) : Heap := zA (zA h a) b
abbrev zC (h : Heap) (a b : Addr) : Heap := (zB h a b).push { cls := .type "tuple", data := .seq #[.ref h.objs.size, .ref (zA h a).objs.size] }
abbrev zD (h : Heap) (a b : Addr) : Heap := (zC h a b).push { cls := .type "tuple", data := .seq #[.none, .none] }
abbrev zE (h : Heap) (a b : Addr) : Heap := (zD h a b).push { cls := .type "zip", data := .fields #[.none, .bool false, .bool false, .ref (zB h a b).objs.size, .ref (zC h a b).objs.size] }
theorem zip_new (a b : Addr) (xs ys : Array Value) : Meets (Builtin.«zip.__new__» ⟨[.type "zip", .ref a, .ref b], []⟩) (fun _ R s => s.heap.IsTuple a xs /\ s.heap.IsTuple b ys ∧
  R (.ok (.ret (.ref (zD s.heap a b).objs.size))) { s with heap := zE s.heap a b }) :=
 .of_wp fun prog w A R s h => by
  obtain ⟨hp, g, d, tk, os⟩ := s; obtain ⟨l1, l2, h⟩ := h
  have zsub := sub_zip
  have L1 : Heap.IsTuple (Shared.heap ⟨hp, g, d, tk, os⟩) a xs := l1
  have L2 : Heap.IsTuple (Shared.heap ⟨hp.push { cls := .type "tuple_iterator", data := .fields #[.ref a, .int 0 0] }, g, d, tk, os⟩) b ys := Heap.IsTuple.push l2 _
  wp_walk using wpAny_pyIter_tuple L1, wpAny_pyIter_tuple L2
  exact ⟨_, rfl, h⟩
theorem five_new (n : Nat) : Five (n + 4) (n + 2) (n + 3) n (n + 1) := by constructor <;> (intro q; have : (_ : Nat) = _ := q; omega)
def iZip (K : PySem.W.Frag) (ta : TA) : TI := fun σ H R => ta σ H fun vs H1 => ∃ a b, vs = [.ref a, .ref b] /\ (∃ xs, SqT K H1 a xs) /\ (∃ ys, SqT K H1 b ys) /\ R (Itz K a b) H1
theorem pi_zip {X : Cx} {elts : List Expr} {x1} {tp p pos : Pos} {a b : Expr} {ta : TA} (hg : Gl X "zip") (hm : X.mg "zip" = none) (ha : PA X [a, b] ta) (hs : starEach [a, b] X.env = [(false, eval a X.env), (false, eval b X.env)] := by rfl) (hs2 : starEach [b] X.env = [(false, eval b X.env)] := by rfl) :
  PI X (.Tuple elts x1 tp) (.Call (.Name "zip" p) [a, b] [] pos) (iZip X.K ta) := by
 intro pins s σ H R I h
 refine Call_ (ld_blt I hg hm (show bootBuiltins "zip" = some (.type "zip") by kernel_rfl) (PyProof.Rows.callWith_type1 (thn (ha pos pins s σ H _ I h) fun us s1 ⟨vs, H1, I1, r1, q1⟩ => ?_) (by rw [hs, hs2]) (by rw [hs2]; rfl)))
 obtain ⟨a, b, e, ⟨xs, hx⟩, ⟨ys, hy⟩, q⟩ := q1
 subst e
 obtain ⟨u, v, rfl, ru, rv⟩ := vals2 r1
 cases ru; cases rv
 obtain ⟨its, _, p1, _⟩ := I1.tuple hx
 obtain ⟨jts, _, p2, _⟩ := I1.tuple hy
 refine callType_new F.called_zip (by decide) (F.typeCall_zip_2 _ _) (F.newCall_zip_2 _ _) (fun obj => F.args_object_init_3 obj _ _) F.entry_zip_new (zip_new a b its.toArray jts.toArray) ⟨p1, p2, ?_⟩
 have e1 : (zA s1.heap a).objs.size = s1.heap.objs.size + 1 := Heap.size_push ..
 have e2 : (zB s1.heap a b).objs.size = s1.heap.objs.size + 2 := by rw [Heap.size_push, e1]
 have e3 : (zC s1.heap a b).objs.size = s1.heap.objs.size + 3 := by rw [Heap.size_push, e2]
 have e4 : (zD s1.heap a b).objs.size = s1.heap.objs.size + 4 := by rw [Heap.size_push, e3]
 have g5 : (zE s1.heap a b).get? (zD s1.heap a b).objs.size = some _ := Heap.get?_push_size _ rfl
 have g4 : (zE s1.heap a b).get? (zC s1.heap a b).objs.size = some _ := Heap.get?_push_of_some _ (Heap.get?_push_size _ rfl)
 have g3 : (zE s1.heap a b).get? (zB s1.heap a b).objs.size = some _ := Heap.get?_push_of_some _ (Heap.get?_push_of_some _ (Heap.get?_push_size _ rfl))
 have g2 : (zE s1.heap a b).get? (zA s1.heap a).objs.size = some _ := Heap.get?_push_of_some _ (Heap.get?_push_of_some _ (Heap.get?_push_of_some _ (Heap.get?_push_size _ rfl)))
 have g1 : (zE s1.heap a b).get? s1.heap.objs.size = some _ := Heap.get?_push_of_some _ (Heap.get?_push_of_some _ (Heap.get?_push_of_some _ (Heap.get?_push_of_some _ (Heap.get?_push_size _ rfl))))
 have kk : ∀ c o, s1.heap.get? c = some o -> (zE s1.heap a b).get? c = some o := fun c o x => Heap.get?_push_of_some _ (Heap.get?_push_of_some _ (Heap.get?_push_of_some _ (Heap.get?_push_of_some _ (Heap.get?_push_of_some _ x))))
 show _ /\ _
 rw [e2, e3, e4] at g5
 rw [e1, e2] at g3
 rw [e3] at g4
 rw [e1] at g2
 rw [e4]
 generalize zE s1.heap a b = hE at g1 g2 g3 g4 g5 kk
 refine ⟨⟨_, g5, rfl⟩, wpAny_pyIter_zip g5 ?_⟩
 have I2 : Inv X pins σ H1 { s1 with heap := hE } := I1.kept (t' := s1.toks) kk
 refine ⟨_, _, _, _, H1, rfl, I2, turn_zip (five_new s1.heap.objs.size), ⟨g5, g3, ⟨_, _, g4⟩, ⟨_, g1, rfl, rfl⟩, ⟨_, g2, rfl, rfl⟩⟩, fun c hc => ?_, q⟩
 have le : s1.heap.objs.size ≤ c := by
  simp only [List.mem_cons, List.not_mem_nil, or_false] at hc
  rcases hc with h | h | h | h | h <;> (rw [h]; first | exact Nat.le_refl _ | exact Nat.le_add_right _ _)
 exact I1.fpOk le (I1.hok.fresh le)
theorem draws_tup {prog : Program} {w : World} {A : Around} (hh : A.handled = none) (it a : Addr) (ne : a ≠ it) (items : Array Value) :
  Draws prog w A it [it, a] items.size (fun i v => items[i]? = some v) (fun i h => h.IsTupleIter it a i /\ h.IsTuple a items) where
 live := fun _ _ st => let ⟨o, ho, _⟩ := st.1; ⟨o, ho⟩
 frame := fun _ _ _ st hk => ⟨tupIter_at st.1 fun o e => hk it (by simp) o e, tup_at st.2 fun o e => hk a (by simp) o e⟩
 item := fun i s Q E hi st hQ => by
  have hx : items[i]? = some (items[i]'hi) := Array.getElem?_eq_getElem hi
  exact nx_item st.1 st.2 hx fun h' i' sb => hQ _ h' s.toks hx ⟨i', tup_at st.2 fun o e => sb.extBut _ _ ne e⟩ sb
 done := fun s Q E st hE => nx_end hh st.1 st.2 (by simp) hE
theorem enum_newT (a : Addr) (xs : Array Value) : Meets (Builtin.«enumerate.__new__» ⟨[.type "enumerate", .ref a], []⟩) (fun _ R s => s.heap.IsTuple a xs ∧
   R (.ok (.ret (.ref (zA s.heap a).objs.size))) { s with heap := (zA s.heap a).push { cls := .type "enumerate", data := .fields #[.none, .bool false, .ref s.heap.objs.size, rawInt 0, .none, .none] } }) :=
 .of_wp fun prog w A R s h => by
  obtain ⟨hp, g, d, tk, os⟩ := s; obtain ⟨hl, h⟩ := h
  obtain ⟨⟨c, dct, dt, sl⟩, ho, hc, n, hd⟩ := id hl
  replace hc : c = .type "tuple" := hc
  replace hd : dt = .seq xs n := hd
  subst hc hd
  have hsub := sub_enumerate
  have L : Heap.IsTuple (Shared.heap ⟨hp, g, d, tk, os⟩) a xs := hl
  wp_walk using AutoSeq1.wpAny_loadPart' ho
  refine wpAny_stack_any fun st => wpAny_pure ?_
  split
  ·rename_i c _ _ _ _ _
   cases (c == Value.type "enumerate")
   ·wp_walk using AutoSeq1.wpAny_loadPart' ho, wpAny_pyIter_tuple L
    exact ⟨_, rfl, h⟩
   ·wp_walk using AutoSeq1.wpAny_loadPart' ho, wpAny_pyIter_tuple L
    exact ⟨_, rfl, h⟩
  ·wp_walk using AutoSeq1.wpAny_loadPart' ho, wpAny_pyIter_tuple L
   exact ⟨_, rfl, h⟩
theorem call_enumT {prog : Program} {w : World} {A : Around} {E : Value -> Shared -> Prop} {s : Shared} {a : Addr} {items : Array Value} {Q : Value -> Shared -> Prop} (hL : s.heap.IsTuple a items)
  (h : ∀ h', IsEnum h' (s.heap.objs.size + 1) s.heap.objs.size 0 .none -> h'.IsTupleIter s.heap.objs.size a 0 -> h'.objs.size = s.heap.objs.size + 2 →
   (∀ b o, s.heap.get? b = some o -> h'.get? b = some o) -> Q (.ref (s.heap.objs.size + 1)) { s with heap := h' }) :
  wpAny (model prog w) A (call (.type "enumerate") [.ref a]) Q E s := by
 refine callType_new F.called_enumerate (by decide) (F.typeCall_enumerate_1 _) (F.newCall_enumerate_1 _) (fun obj => F.args_object_init_2 obj _) F.entry_enumerate_new
  (enum_newT a items) ⟨hL, ?_⟩
 have hz : (zA s.heap a).objs.size = s.heap.objs.size + 1 := Heap.size_push ..
 show _ /\ _
 rw [hz]
 have he : IsEnum ((zA s.heap a).push { cls := .type "enumerate", data := .fields #[.none, .bool false, .ref s.heap.objs.size, rawInt 0, .none, .none] }) (s.heap.objs.size + 1) s.heap.objs.size 0 .none := by
  have := Heap.get?_push_size (zA s.heap a) (o := { cls := .type "enumerate", data := .fields #[.none, .bool false, .ref s.heap.objs.size, rawInt 0, .none, .none] }) rfl
  rw [hz] at this; exact this
 refine ⟨⟨_, he, rfl⟩, h _ he ⟨_, Heap.get?_push_of_some _ (Heap.get?_push_size _ rfl), rfl, rfl⟩ (by rw [Heap.size_push, hz]) fun b o x => Heap.get?_push_of_some _ (Heap.get?_push_of_some _ x)⟩
theorem sqL_off {X : Cx} {pins : List (Addr × Obj)} {σ : L2.St} {H : Hp} {s : Shared} {a b : Addr} {xs : List V} (I : Inv X pins σ H s) (h : SqL X.K H a xs) (f : FpOk X pins H b) : a ≠ b := fun z => by
 subst z
 rcases h with (h | ⟨o, h⟩) | ⟨o, its, n, hk, _⟩
 ·rw [f.1] at h; cases h
 ·rw [f.1] at h; cases h
 ·have e := I.ok.mod.kin a o hk
  rcases f.2.2.2.1 with z | z
  ·exact I.ok.noex a o e z
  ·rw [(I.ok.bs a o e).1] at z; cases z
theorem lstIter_at {h h' : Heap} {i a : Addr} {n : Nat} (x : h.IsListIter i a n) (k : ∀ o, h.get? i = some o -> h'.get? i = some o) : h'.IsListIter i a n := x.at k
def IteT (K : PySem.W.Frag) (a : Addr) : It :=
 ⟨fun i H => ∃ xs x, SqT K H a xs /\ xs[i]? = some x,
  fun i H v H' => ∃ p x, H p = none /\ v = .ref p /\ H' = upd H p (.tup [.int i, x]) /\ ∀ xs, SqT K H a xs -> xs[i]? = some x,
  fun i H => ∃ xs, SqT K H a xs /\ xs.length ≤ i⟩
theorem turn_enT {P : Program} {w : World} {K : PySem.W.Frag} {elts : List Expr} {x1} {pos : Pos} {e it a : Addr} (hei : e ≠ it) :
  Turn P w K (.Tuple elts x1 pos) (IteT K a) [e, it] e (fun i h => (∃ old, IsEnum h e it (i : Nat) old) /\ h.IsTupleIter it a i) where
 mem := by simp
 obj := fun i h st c hc => by
  obtain ⟨⟨old, h1⟩, ⟨o2, h2, c2, d2⟩⟩ := st
  simp only [List.mem_cons, List.not_mem_nil, or_false] at hc
  rcases hc with rfl | rfl
  ·exact ⟨_, h1, fun v q => by cases (show Data.fields _ = Data.cell v from q)⟩
  ·exact ⟨o2, h2, fun v q => by rw [d2] at q; cases q⟩
 keep := fun i h h' st k => by
  obtain ⟨⟨old, h1⟩, h2⟩ := st
  exact ⟨⟨old, k e (by simp) _ h1⟩, tupIter_at h2 fun o q => k it (by simp) o q⟩
 item := by
  intro X hP hw hK hc i pins s σ H E I hf st hg
  subst hP hw hK
  obtain ⟨xs, x, q1, hx⟩ := hg
  obtain ⟨its, rv, p1, z1⟩ := I.tuple q1
  obtain ⟨u, hu, ru⟩ := rv.get hx
  have off : ∀ c ∈ [e, it], a ≠ c := fun c hc => sqT_off I q1 (hf c hc)
  obtain ⟨⟨old, h1⟩, h2⟩ := st
  have hh : X.A.in1.handled = none := I.ok.hd hc
  have na : a ≠ it := off it (by simp)
  have ne : e ∉ [it, a] := fun q => by
   simp only [List.mem_cons, List.not_mem_nil, or_false] at q
   rcases q with q | q
   ·exact hei q
   ·exact off e (by simp) q.symm
  have hi : i < its.toArray.size := by have := (List.getElem?_eq_some_iff.mp hu).1; simpa using this
  have el : e < s.heap.objs.size := Heap.lt_size h1
  have il : it < s.heap.objs.size := by obtain ⟨o2, q2, _⟩ := h2; exact Heap.lt_size q2
  refine wpAny_pyNext_enum_itemD (draws_tup hh it a na its.toArray) h1 ⟨h2, p1⟩ hi hei ne fun v h' tk hv eo st' tup hz hk => ⟨_, rfl, wpAny_letOwnedTupleGo_enum eo fun h'' e2 sb => ?_⟩
  have ev : v = u := by
   have : its.toArray[i]? = some u := by simpa using hu
   rw [this] at hv
   exact (Option.some.inj hv).symm
  subst ev
  have nt : s.heap.objs.size ≠ e := Nat.ne_of_gt el
  have ni : s.heap.objs.size ≠ it := Nat.ne_of_gt il
  have P : ObjOk X.prog X.w (upd H s.heap.objs.size (.tup [.int i, x])) h'' s.heap.objs.size (.tup [.int i, x]) :=
   ⟨by show 2 ≤ sizeLine; decide, [.int i tk, v], .cons ⟨_, rfl⟩ (.cons ru .nil), ⟨_, sb.extBut _ _ nt tup, rfl, _, rfl⟩⟩
  have I2 : Inv X pins σ (upd H s.heap.objs.size (.tup [.int i, x])) { s with heap := h'', toks := tk + 1 } := turnedN I (fun c o' n q => by
   have n1 : c ≠ e := fun r => n (by simp [r])
   have n2 : c ≠ it := fun r => n (by simp [r])
   exact sb.extBut _ _ n1 (hk c o' n1 n2 q)) hf (Nat.le_refl _) P
  refine ⟨.ref s.heap.objs.size, _, I2, rfl, ⟨_, x, I.fresh, rfl, rfl, fun ys hy => by rw [I.tuple_inj hy q1]; exact hx⟩, ⟨⟨_, by simpa using e2⟩, tupIter_at st'.1 fun o q => sb.extBut _ _ hei.symm q⟩, fun c hc => ?_⟩
  have lt : c < s.heap.objs.size := by
   simp only [List.mem_cons, List.not_mem_nil, or_false] at hc
   rcases hc with rfl | rfl
   ·exact el
   ·exact il
  rw [upd_ne (Nat.ne_of_lt lt)]
  exact (hf c hc).1
 done := by
  intro X hP hw hK hc i pins s σ H E I hf st hg
  subst hP hw hK
  obtain ⟨xs, q1, hx⟩ := hg
  obtain ⟨its, rv, p1, z1⟩ := I.tuple q1
  have off : ∀ c ∈ [e, it], a ≠ c := fun c hc => sqT_off I q1 (hf c hc)
  obtain ⟨⟨old, h1⟩, h2⟩ := st
  have hh : X.A.in1.handled = none := I.ok.hd hc
  have hl := rv.length
  have nn : its.toArray[i]? = none := by rw [Array.getElem?_eq_none_iff]; simp; omega
  have hT : s.TypeIs (.ref e) "enumerate" := ⟨_, h1, rfl⟩
  unfold pyNext
  refine wpAny_bind (wpAny_attempt (wpAny_callSpecial?_slot (name := Str.ofString "__next__") hT F.slot_enumerate_next
   (wpAny_call_entry F.slot_enumerate_next hT F.entry_enumerate_next ?_ (F.args_enumerate_next_1 _))))
  show wpAny _ _ (field (.ref e) 2 >>= _) _ _ _
  refine wpAny_bind (wpAny_field h1 rfl (x := .ref it) rfl ?_)
  refine wpAny_bind (nx_end hh h2 p1 nn fun h' x he' hx' => ?_)
  obtain ⟨o, ho, hcl⟩ := hx'
  refine wpAny_bind (wpAny_isInstance (T := "StopIteration") (b := true) ⟨o, ho, hcl⟩ isSubtype_stop ?_)
  refine wpAny_pure ⟨rfl, ?_⟩
  exact turnedL (t' := s.toks) I (fun c o' n q => he' c o' (fun r => n (by simp [r])) q) hf
 self := fun A i s Q E st h => by
  obtain ⟨⟨old, h1⟩, _⟩ := st
  exact wpAny_pyIter_enum h1 h
def iEnT (K : PySem.W.Frag) (ta : TA) : TI := fun σ H R => ta σ H fun vs H1 => ∃ a, vs = [.ref a] /\ (∃ xs, SqT K H1 a xs) /\ R (IteT K a) H1
theorem pi_enum {X : Cx} {elts : List Expr} {x1} {tp p pos : Pos} {a : Expr} {ta : TA} (hg : Gl X "enumerate") (hm : X.mg "enumerate" = none) (ha : PA X [a] ta) (hs : starEach [a] X.env = [(false, eval a X.env)] := by rfl) :
  PI X (.Tuple elts x1 tp) (.Call (.Name "enumerate" p) [a] [] pos) (iEnT X.K ta) := by
 intro pins s σ H R I h
 refine Call_ (ld_blt I hg hm (show bootBuiltins "enumerate" = some (.type "enumerate") by kernel_rfl) (PyProof.Rows.callWith_type1 (thn (ha pos pins s σ H _ I h) fun us s1 ⟨vs, H1, I1, r1, q1⟩ => ?_) hs rfl))
 obtain ⟨a, e, ⟨xs, hx⟩, q⟩ := q1
 subst e
 obtain ⟨u, rfl, ru⟩ := r1.one
 cases ru
 obtain ⟨its, _, p1, _⟩ := I1.tuple hx
 refine call_enumT p1 fun h' he hi sz kk => wpAny_pyIter_enum he ?_
 have I2 : Inv X pins σ H1 { s1 with heap := h' } := I1.kept (t' := s1.toks) kk
 refine ⟨_, [s1.heap.objs.size + 1, s1.heap.objs.size], _, _, H1, rfl, I2, turn_enT (a := a) (Nat.succ_ne_self _), ⟨⟨_, he⟩, hi⟩, fun c hc => ?_, q⟩
 have le : s1.heap.objs.size ≤ c := by
  simp only [List.mem_cons, List.not_mem_nil, or_false] at hc
  rcases hc with h | h
  ·rw [h]; exact Nat.le_succ _
  ·rw [h]; exact Nat.le_refl _
 exact I1.fpOk le (I1.hok.fresh le)
theorem for_enum {K : PySem.W.Frag} {a : Addr} {xs : List V} {g : TG} {tb : TS} {D : Ends} {σ : L2.St} {H : Hp} (Pv : Nat -> L2.St -> Hp -> Prop) (h0 : Pv 0 σ H)
  (hl : ∀ i σ H, i ≤ xs.length -> Pv i σ H -> SqT K H a xs)
  (hs : ∀ i x p σ H, xs[i]? = some x -> Pv i σ H -> H p = none -> g (.ref p) σ (upd H p (.tup [.int i, x])) fun σ2 H2 => tb { D with nx := Pv (i + 1), ct := Pv (i + 1), bk := D.nx } σ2 H2) (hd : ∀ σ H, Pv xs.length σ H -> D.nx σ H) :
  ∃ W : Nat -> Nat -> L2.St -> Hp -> Prop, (∃ m, W 0 m σ H) /\ ∀ i m σ H, W i m σ H →
   ((IteT K a).stop i H /\ D.nx σ H) ∨ ((IteT K a).go i H /\ ∃ N : L2.St -> Hp -> Prop, (∀ σ' H', N σ' H' -> ∃ m', m' < m /\ W (i + 1) m' σ' H') /\ ∀ x H', (IteT K a).yld i H x H' -> g x σ H' fun σ2 H2 => tb { D with nx := N, ct := N, bk := D.nx } σ2 H2) := by
 refine ⟨fun i m σ H => m = xs.length - i /\ i ≤ xs.length /\ Pv i σ H, ⟨_, rfl, Nat.zero_le _, h0⟩, ?_⟩
 rintro i m σ H ⟨rfl, hi, p⟩
 have q := hl i σ H hi p
 by_cases hlt : i < xs.length
 ·refine .inr ⟨⟨xs, _, q, List.getElem?_eq_getElem hlt⟩, Pv (i + 1), fun σ' H' p' => ⟨xs.length - (i + 1), by omega, rfl, hlt, p'⟩, fun x H' y => ?_⟩
  obtain ⟨pp, v, hp, rfl, rfl, hv⟩ := y
  exact hs i v pp σ _ (hv xs q) p hp
 ·have e : i = xs.length := by omega
  subst e
  exact .inl ⟨⟨xs, q, Nat.le_refl _⟩, hd σ H p⟩
def IteL (K : PySem.W.Frag) (a : Addr) : It :=
 ⟨fun i H => ∃ xs x, SqL K H a xs /\ xs[i]? = some x,
  fun i H v H' => ∃ p x, H p = none /\ v = .ref p /\ H' = upd H p (.tup [.int i, x]) /\ ∀ xs, SqL K H a xs -> xs[i]? = some x,
  fun i H => ∃ xs, SqL K H a xs /\ xs.length ≤ i⟩
def iEnL (K : PySem.W.Frag) (ta : TA) : TI := fun σ H R => ta σ H fun vs H1 => ∃ a, vs = [.ref a] /\ (∃ xs, SqL K H1 a xs) /\ R (IteL K a) H1
section
variable {prog : Program} {w : World} {A : Around} {E : Value -> Shared -> Prop}
end
def gLst (K : PySem.W.Frag) (n : Nat) (t : TGs) : TG := fun v σ H Q => ∃ a xs, v = .ref a /\ SqL K H a xs /\ xs.length = n /\ t xs σ H Q
section
variable {prog : Program} {w : World} {A : Around} {E : Value -> Shared -> Prop} {s : Shared}
open HT in
theorem tuple_whole {t sl : Addr} {items : Array Value} {vl vu : Value} {lo hi : Option Int} {Q : Value -> Shared -> Prop} (ht : IsTup s.heap t items) (hs : s.heap.IsSliceOf sl vl vu .none) (pl : IsPart vl lo) (pu : IsPart vu hi)
  (h1 : sIx items.size 0 lo = 0) (h2 : sIx items.size items.size hi = items.size) (h : Q (.ref t) s) : wpAny (model prog w) A (getItem (.ref t) (.ref sl)) Q E s := by
 obtain ⟨os, hos, hcs, hds⟩ := id hs
 have hTs : s.TypeIs (.ref sl) "slice" := ⟨os, hos, hcs⟩
 unfold getItem
 try with_reducible refine wpAny_holding ?_
 first | refine wpAny_bind (wpAny_pure ?_) | skip
 refine wpAny_bind (wpAny_sequenceKey ht.typeIs (by decide) ?_)
 refine wpAny_bind (wpAny_callSpecial?_slot (name := Str.ofString "__getitem__") ht.typeIs PyProof.Rows.slot_tuple_getitem
  (wpAny_call_entry PyProof.Rows.slot_tuple_getitem ht.typeIs entry_tuple_getitem ?_ (args_tuple_getitem _ _)))
 show wpAny _ _ (Builtin.Tuple.tupleItemsOf (.ref t) >>= _) _ _ s
 refine wpAny_bind (tupleItemsOf_ ht ?_)
 refine wpAny_bind (wpAny_typeOf hTs ?_)
 rw [if_pos (by decide)]
 refine wpAny_bind (sliceApplied_gen hs pl pu ?_)
 have hyes : ((((sIx items.size 0 lo : Nat) : Int) == 0 && (1 : Int) == 1 && (sIx items.size items.size hi - sIx items.size 0 lo) == items.size) = true) := by
  rw [h1, h2]; simp
 show wpAny _ _ (if (((sIx items.size 0 lo : Nat) : Int) == 0 && (1 : Int) == 1 && (sIx items.size items.size hi - sIx items.size 0 lo) == items.size) = true then _ else _) _ _ s
 rw [if_pos hyes]
 refine wpAny_bind ?_
 unfold Builtin.Tuple.tupleIsExact
 refine wpAny_bind (wpAny_typeOf ht.typeIs ?_)
 refine wpAny_pure ?_
 rw [if_pos (by decide)]
 exact wpAny_bind (wpAny_rule (wpAny_pure ⟨_, rfl, wpAny_pure h⟩))
end
def rSlW (K : PySem.W.Frag) : V -> Option Int -> Option Int -> Hp -> VK -> Prop := fun x lo hi H Q => ∃ a xs, x = .ref a /\ SqT K H a xs /\ HT.sIx xs.length 0 lo = 0 /\ HT.sIx xs.length xs.length hi = xs.length /\ Q (.ref a) H
theorem sl_tupW {X : Cx} : SlR X (rSlW X.K) := by
 intro pins s σ H x v vl vu lo hi sl Q I rx hs pl pu h
 obtain ⟨a, xs, rfl, hx, h1, h2, q⟩ := h
 cases rx
 obtain ⟨its, r, ht, hz⟩ := I.tuple hx
 have hlen : its.toArray.size = xs.length := by rw [List.size_toArray]; exact r.length.symm
 refine ⟨"tuple", _, PyProof.Rows.slot_tuple_getitem.lookup, ht.typeIs, ?_⟩
 exact tuple_whole ht hs pl pu (by rw [hlen]; exact h1) (by rw [hlen]; exact h2) ⟨.ref a, H, I, rfl, q⟩
theorem sl_tupA {X : Cx} : SlR X (fun x lo hi H Q => rSlW X.K x lo hi H Q ∨ rSlT X.K x lo hi H Q) := SlR.or sl_tupW sl_tup
end B
namespace B
theorem mkR_eq {a b c d : Int} (hb : 0 < b) (hd : 0 < d) (e : a * d = c * b) : mkR a b = mkR c d := by
 have hr := mkR_red (a := c) hd
 have hc := mkR_cross (a := c) hd
 generalize mkR c d = m at hr hc ⊢
 refine mkR_uniq hb hr.pos hr.cop ?_
 refine Int.eq_of_mul_eq_mul_right (show d ≠ 0 by omega) ?_
 have e1 : m.1 * b * d = m.1 * d * b := by ac_rfl
 have e2 : a * m.2 * d = a * d * m.2 := by ac_rfl
 rw [e1, hc, e2, e]
 ac_rfl
structure Bq (D N : Nat) (r : R) : Prop where
 pos : 0 < r.2
 cop : Int.gcd r.1 r.2 = 1
 dvd : r.2 ∣ (D : Int)
 le : r.1.natAbs ≤ N * r.2.natAbs
theorem Bq.red {D N : Nat} {r : R} (h : Bq D N r) : Red r := ⟨h.pos, h.cop⟩
theorem bq_mk {D N : Nat} {a b : Int} (hb : 0 < b) (hd : b ∣ (D : Int)) (hl : a.natAbs ≤ N * b.natAbs) : Bq D N (mkR a b) := by
 obtain ⟨g, x, y, e0, gp, e1, e2, c⟩ := gcd_parts (a := a) hb
 have yp := pos_of hb gp e2
 have e : mkR a b = (x, y) := by
  unfold mkR
  rw [e0, show a / g = x by rw [e1]; exact Int.mul_ediv_cancel_left _ (by omega), show b / g = y by rw [e2]; exact Int.mul_ediv_cancel_left _ (by omega)]
 rw [e]
 refine ⟨yp, c, Int.dvd_trans ⟨g, by rw [e2, Int.mul_comm]⟩ hd, ?_⟩
 rw [e1, e2, Int.natAbs_mul, Int.natAbs_mul] at hl
 have gn : 0 < g.natAbs := by omega
 refine Nat.le_of_mul_le_mul_left (c := g.natAbs) ?_ gn
 show g.natAbs * x.natAbs ≤ g.natAbs * (N * y.natAbs)
 rw [Nat.mul_left_comm]
 exact hl
theorem Bq.mono {D N D' N' : Nat} {r : R} (h : Bq D N r) (hd : D ∣ D') (hn : N ≤ N') : Bq D' N' r :=
 ⟨h.pos, h.cop, Int.dvd_trans h.dvd (Int.ofNat_dvd.mpr hd), Nat.le_trans h.le (Nat.mul_le_mul_right _ hn)⟩
theorem Bq.plus {D N M : Nat} {r q : R} (hD : 0 < D) (h : Bq D N r) (k : Bq D M q) : Bq D (N + M) (plusR r q) := by
 obtain ⟨y, ey⟩ := h.dvd
 obtain ⟨v, ev⟩ := k.dvd
 have dp : (0 : Int) < (D : Int) := by omega
 have e : plusR r q = mkR (r.1 * y + q.1 * v) (D : Int) := by
  unfold plusR
  refine mkR_eq (Int.mul_pos h.pos k.pos) dp ?_
  rw [Int.add_mul, Int.add_mul]
  have a1 : r.1 * q.2 * (D : Int) = r.1 * y * (r.2 * q.2) := by rw [ey]; ac_rfl
  have a2 : q.1 * r.2 * (D : Int) = q.1 * v * (r.2 * q.2) := by rw [ev]; ac_rfl
  rw [a1, a2]
 rw [e]
 refine bq_mk dp (Int.dvd_refl _) ?_
 have b1 : (r.1 * y).natAbs ≤ N * D := by
  have : (D : Int).natAbs = r.2.natAbs * y.natAbs := by rw [ey, Int.natAbs_mul]
  rw [Int.natAbs_mul]
  have z := Nat.mul_le_mul_right y.natAbs h.le
  rw [Nat.mul_assoc, ← this] at z
  simpa using z
 have b2 : (q.1 * v).natAbs ≤ M * D := by
  have : (D : Int).natAbs = q.2.natAbs * v.natAbs := by rw [ev, Int.natAbs_mul]
  rw [Int.natAbs_mul]
  have z := Nat.mul_le_mul_right v.natAbs k.le
  rw [Nat.mul_assoc, ← this] at z
  simpa using z
 have b3 := Int.natAbs_add_le (r.1 * y) (q.1 * v)
 have b4 : (D : Int).natAbs = D := Int.natAbs_natCast D
 rw [b4, Nat.add_mul]
 omega
theorem Bq.neg {D N : Nat} {r : R} (h : Bq D N r) : Bq D N (-r.1, r.2) := ⟨h.pos, by show Int.gcd (-r.1) r.2 = 1; rw [Int.neg_gcd]; exact h.cop, h.dvd, by show (-r.1).natAbs ≤ _; rw [Int.natAbs_neg]; exact h.le⟩
theorem Bq.minus {D N M : Nat} {r q : R} (hD : 0 < D) (h : Bq D N r) (k : Bq D M q) : Bq D (N + M) (minusR r q) := by
 rw [← minus_eq]
 exact h.plus hD k.neg
theorem Bq.times {D N E M : Nat} {r q : R} (h : Bq D N r) (k : Bq E M q) : Bq (D * E) (N * M) (timesR r q) := by
 refine bq_mk (Int.mul_pos h.pos k.pos) ?_ ?_
 ·rw [Int.natCast_mul]; exact Int.mul_dvd_mul h.dvd k.dvd
 ·rw [Int.natAbs_mul, Int.natAbs_mul]
  have z := Nat.mul_le_mul h.le k.le
  calc r.1.natAbs * q.1.natAbs ≤ N * r.2.natAbs * (M * q.2.natAbs) := z
   _ = N * M * (r.2.natAbs * q.2.natAbs) := by ac_rfl
theorem mkR_pos {a b : Int} (ha : 0 < a) (hb : 0 < b) : 0 < (mkR a b).1 := Int.ediv_pos_of_pos_of_dvd ha (Int.le_of_lt (gcd_posR hb)) (Int.gcd_dvd_left a b)
theorem Bq.bot {D N : Nat} {r : R} (hD : 0 < D) (h : Bq D N r) : r.2.natAbs ≤ D := by
 have := Int.natAbs_dvd_natAbs.mpr h.dvd
 rw [Int.natAbs_natCast] at this
 exact Nat.le_of_dvd hD this
theorem Bq.wf {D N n : Nat} {r : R} (h : Bq D N r) (hD : 0 < D) (h1 : D < 2 ^ n) (h2 : N * D < 2 ^ n) : Wf n r :=
 ⟨h.pos, Nat.lt_of_le_of_lt (Nat.le_trans h.le (Nat.mul_le_mul_left _ (h.bot hD))) h2, Nat.lt_of_le_of_lt (h.bot hD) h1, h.cop⟩
theorem less_iff {r q : R} : lessR r q = true ↔ r.1 * q.2 < q.1 * r.2 := by unfold lessR; exact decide_eq_true_iff
theorem less_not {r q : R} : lessR r q = false ↔ q.1 * r.2 ≤ r.1 * q.2 := by unfold lessR; rw [decide_eq_false_iff_not, Int.not_lt]
theorem lt_le {a b c : R} (pa : 0 < a.2) (pb : 0 < b.2) (pc : 0 < c.2) (h : lessR a b = true) (k : lessR c b = false) : lessR a c = true := by
 rw [less_iff] at h ⊢
 rw [less_not] at k
 have h1 := Int.mul_lt_mul_of_pos_right h pc
 have k1 := Int.mul_le_mul_of_nonneg_right k (Int.le_of_lt pa)
 have e1 : b.1 * a.2 * c.2 = b.1 * c.2 * a.2 := by ac_rfl
 have z : a.1 * b.2 * c.2 < c.1 * b.2 * a.2 := by omega
 refine Int.lt_of_mul_lt_mul_right (a := b.2) ?_ (Int.le_of_lt pb)
 have e2 : a.1 * c.2 * b.2 = a.1 * b.2 * c.2 := by ac_rfl
 have e3 : c.1 * a.2 * b.2 = c.1 * b.2 * a.2 := by ac_rfl
 omega
theorem le_lt {a b c : R} (pa : 0 < a.2) (pb : 0 < b.2) (pc : 0 < c.2) (h : lessR b a = false) (k : lessR b c = true) : lessR a c = true := by
 rw [less_iff] at k ⊢
 rw [less_not] at h
 have h1 := Int.mul_le_mul_of_nonneg_right h (Int.le_of_lt pc)
 have k1 := Int.mul_lt_mul_of_pos_right k pa
 have e1 : b.1 * a.2 * c.2 = b.1 * c.2 * a.2 := by ac_rfl
 refine Int.lt_of_mul_lt_mul_right (a := b.2) ?_ (Int.le_of_lt pb)
 have e2 : a.1 * c.2 * b.2 = a.1 * b.2 * c.2 := by ac_rfl
 have e3 : c.1 * a.2 * b.2 = c.1 * b.2 * a.2 := by ac_rfl
 omega
theorem less_asym {a b : R} (h : lessR a b = true) : lessR b a = false := by
 rw [less_iff] at h
 rw [less_not]
 omega
theorem less_plus {r q : R} (hr : Red r) (hq : Red q) (h : 0 < q.1) : lessR r (plusR r q) = true := by
 rw [less_iff]
 have bp := Int.mul_pos hr.pos hq.pos
 have c := mkR_cross (a := r.1 * q.2 + q.1 * r.2) bp
 have p := (mkR_red (a := r.1 * q.2 + q.1 * r.2) bp).pos
 show r.1 * (mkR (r.1 * q.2 + q.1 * r.2) (r.2 * q.2)).2 < (mkR (r.1 * q.2 + q.1 * r.2) (r.2 * q.2)).1 * r.2
 generalize mkR (r.1 * q.2 + q.1 * r.2) (r.2 * q.2) = z at c p ⊢
 refine Int.lt_of_mul_lt_mul_right (a := r.2 * q.2) ?_ (Int.le_of_lt bp)
 have e1 : z.1 * r.2 * (r.2 * q.2) = z.1 * (r.2 * q.2) * r.2 := by ac_rfl
 rw [e1, c, Int.add_mul, Int.add_mul]
 have e2 : r.1 * q.2 * z.2 * r.2 = r.1 * z.2 * (r.2 * q.2) := by ac_rfl
 have e3 := Int.mul_pos (Int.mul_pos (Int.mul_pos h hr.pos) p) hr.pos
 omega
theorem mkR_nn {a b : Int} (ha : 0 ≤ a) : 0 ≤ (mkR a b).1 := Int.ediv_nonneg ha (by omega)
theorem minus_ne {r q : R} (hr : Red r) (hq : Red q) (h : lessR q r = true) : (minusR r q).1 ≠ 0 := fun z => by
 have bp := Int.mul_pos hr.pos hq.pos
 have c := mkR_cross (a := r.1 * q.2 - q.1 * r.2) bp
 have p := (mkR_red (a := r.1 * q.2 - q.1 * r.2) bp).pos
 rw [show (mkR (r.1 * q.2 - q.1 * r.2) (r.2 * q.2)).1 = 0 from z, Int.zero_mul] at c
 rw [less_iff] at h
 have := Int.mul_pos (show 0 < r.1 * q.2 - q.1 * r.2 by omega) p
 omega
end B
namespace B
open PySem PySem.Spec L2 PyProof.Rows
inductive Rl where
 | pow (k : Int)
 | tab (rows : List (R × R))
def rowD : R × R := ((0, 1), (0, 1))
def slopeR (lo hi : R × R) : R := overR (minusR hi.2 lo.2) (minusR hi.1 lo.1)
def slp (rows : List (R × R)) (k : Nat) : R := slopeR (rows.getD k rowD) (rows.getD (k + 1) rowD)
def pOf (rows : List (R × R)) (s : R) : Nat := rows.countP fun r => lessR r.1 s
def qOf (rows : List (R × R)) (s : R) : Nat := rows.countP fun r => !lessR s r.1
def leftT (rows : List (R × R)) (s : R) : R := if pOf rows s = 0 then (0, 1) else slp rows (pOf rows s - 1)
def rightT (rows : List (R × R)) (s : R) : Option R := if qOf rows s < rows.length then some (slp rows (qOf rows s - 1)) else none
def powS (k : Int) (s : R) : R := timesR (k, 1) (powR s (k - 1).toNat)
def sidesOf : Rl -> R -> R × Option R
 | .pow k, s => (powS k s, some (powS k s))
 | .tab rows, s => (leftT rows s, rightT rows s)
def Inc (rows : List (R × R)) : Prop := rows.Pairwise fun a b => lessR a.1 b.1 = true
def AllP (rows : List (R × R)) : Prop := ∀ r ∈ rows, 0 < r.1.2
theorem cnt_p {s : R} (hs : 0 < s.2) : ∀ {rows : List (R × R)}, Inc rows -> AllP rows -> ∀ {k : Nat} {r : R × R}, rows[k]? = some r -> lessR r.1 s = decide (k < pOf rows s)
 | [], _, _, k, r, e => by simp at e
 | x :: t, hi, hp, k, r, e => by
  have hi' := List.pairwise_cons.mp hi
  have hpt : AllP t := fun y hy => hp y (List.mem_cons_of_mem _ hy)
  unfold pOf
  cases c : lessR x.1 s with
  | true =>
   rw [List.countP_cons_of_pos (p := fun r : R × R => lessR r.1 s) c]
   cases k with
   | zero =>
    simp at e
    rw [← e, c]
    simp
   | succ k =>
    rw [cnt_p hs hi'.2 hpt (k := k) (by simpa using e)]
    unfold pOf
    simp
  | false =>
   have z : t.countP (fun r => lessR r.1 s) = 0 := by
    rw [List.countP_eq_zero]
    intro y hy
    have h1 := hi'.1 y hy
    have h2 : lessR s y.1 = true := le_lt hs (hp x List.mem_cons_self) (hpt y hy) c h1
    rw [less_asym h2]
    simp
   rw [List.countP_cons_of_neg (by rw [c]; simp), z]
   cases k with
   | zero => simp at e; rw [← e, c]; simp
   | succ k =>
    have my : r ∈ t := List.mem_of_getElem? (i := k) (by simpa using e)
    have := (List.countP_eq_zero.mp z) r my
    simp at this
    rw [this]; simp
abbrev D0 : Nat := 5822723907000000000
abbrev N0 : Nat := 1000000007
abbrev N1 : Nat := 17179869184
abbrev NR : Nat := 11000000077
abbrev N2 : Nat := 1180591620717411303424
structure RowsOk (rows : List (R × R)) : Prop where
 n2 : 2 ≤ rows.length
 n12 : rows.length ≤ 12
 inc : Inc rows
 zero : ∃ y, rows[0]? = some ((0, 1), y)
 sp : ∀ r ∈ rows, Bq D0 NR r.1
 pw : ∀ r ∈ rows, Bq (D0 * D0) N2 r.2
def RlOk : Rl -> Prop
 | .pow k => 2 ≤ k /\ k ≤ 4
 | .tab rows => RowsOk rows
structure SpOk (s : R) : Prop where
 bq : Bq (D0 * 2) N1 s
 nn : 0 ≤ s.1
def Below : Rl -> R -> Prop
 | .pow _, _ => True
 | .tab rows, s => ∃ r, rows[rows.length - 1]? = some r /\ lessR r.1 s = false
theorem wfS {r : R} (h : Bq D0 NR r) : Wf 98 r := h.wf (by decide) (by decide) (by decide)
theorem wfP {r : R} (h : Bq (D0 * D0) N2 r) : Wf 197 r := h.wf (by decide) (by decide) (by decide)
theorem RowsOk.allP {rows : List (R × R)} (h : RowsOk rows) : AllP rows := fun r hr => (h.sp r hr).pos
theorem getD_at {rows : List (R × R)} {k : Nat} {a : R × R} (h : rows[k]? = some a) : rows.getD k rowD = a := by rw [List.getD_eq_getElem?_getD, h]; rfl
theorem slp_at {rows : List (R × R)} {k : Nat} {a b : R × R} (ha : rows[k]? = some a) (hb : rows[k + 1]? = some b) : slp rows k = slopeR a b := by unfold slp; rw [getD_at ha, getD_at hb]
def lAt (rows : List (R × R)) (s : R) (i : Nat) : R := if 0 < pOf rows s /\ pOf rows s - 1 < i then slp rows (pOf rows s - 1) else (0, 1)
def rAt (rows : List (R × R)) (s : R) (i : Nat) : Option R := if 0 < qOf rows s /\ qOf rows s - 1 < i then some (slp rows (qOf rows s - 1)) else none
def powAt (k : Int) (s : R) (j : Nat) : R := mkR (k * s.1 ^ j) (s.2 ^ j)
def bearM (l : R) (r : Option R) (g : R) : Bool := !lessR g l && (match r with | none => true | some x => !lessR x g)
end B
namespace B
def val (r : R) : Rat := (r.1 : Rat) / (r.2 : Rat)
theorem ne_cast {b : Int} (h : 0 < b) : (b : Rat) ≠ 0 := fun z => by
 have : b = 0 := Rat.intCast_inj.mp (by rw [z]; rfl)
 omega
theorem val_of {r : R} {a b : Int} (hr : 0 < r.2) (hb : (b : Rat) ≠ 0) (h : r.1 * b = a * r.2) : val r = (a : Rat) / (b : Rat) := by
 have h2 : (r.1 : Rat) * (b : Rat) = (a : Rat) * (r.2 : Rat) := by rw [← Rat.intCast_mul, ← Rat.intCast_mul, h]
 have h1 := ne_cast hr
 unfold val
 generalize (r.1 : Rat) = x at *
 generalize (r.2 : Rat) = y at *
 generalize (a : Rat) = u at *
 generalize (b : Rat) = v at *
 grind
theorem val_mk {a b : Int} (hb : 0 < b) : val (mkR a b) = (a : Rat) / (b : Rat) := val_of (mkR_red hb).pos (ne_cast hb) (mkR_cross hb)
theorem val_plus {r q : R} (hr : 0 < r.2) (hq : 0 < q.2) : val (plusR r q) = val r + val q := by
 unfold plusR
 rw [val_mk (Int.mul_pos hr hq)]
 have h1 := ne_cast hr
 have h2 := ne_cast hq
 unfold val
 rw [Rat.intCast_add, Rat.intCast_mul, Rat.intCast_mul, Rat.intCast_mul]
 generalize (r.1 : Rat) = x at *
 generalize (r.2 : Rat) = y at *
 generalize (q.1 : Rat) = u at *
 generalize (q.2 : Rat) = v at *
 grind
theorem val_minus {r q : R} (hr : 0 < r.2) (hq : 0 < q.2) : val (minusR r q) = val r - val q := by
 unfold minusR
 rw [val_mk (Int.mul_pos hr hq)]
 have h1 := ne_cast hr
 have h2 := ne_cast hq
 unfold val
 rw [Rat.intCast_sub, Rat.intCast_mul, Rat.intCast_mul, Rat.intCast_mul]
 generalize (r.1 : Rat) = x at *
 generalize (r.2 : Rat) = y at *
 generalize (q.1 : Rat) = u at *
 generalize (q.2 : Rat) = v at *
 grind
theorem val_times {r q : R} (hr : 0 < r.2) (hq : 0 < q.2) : val (timesR r q) = val r * val q := by
 unfold timesR
 rw [val_mk (Int.mul_pos hr hq)]
 have h1 := ne_cast hr
 have h2 := ne_cast hq
 unfold val
 rw [Rat.intCast_mul, Rat.intCast_mul]
 generalize (r.1 : Rat) = x at *
 generalize (r.2 : Rat) = y at *
 generalize (q.1 : Rat) = u at *
 generalize (q.2 : Rat) = v at *
 grind
theorem ne_cast0 {b : Int} (h : b ≠ 0) : (b : Rat) ≠ 0 := fun z => h (Rat.intCast_inj.mp (by rw [z]; rfl))
theorem val_over {r q : R} (hr : 0 < r.2) (hq : 0 < q.2) (h : q.1 ≠ 0) : val (overR r q) = val r / val q := by
 have hn : r.2 * q.1 ≠ 0 := Int.mul_ne_zero (by omega) h
 obtain ⟨hs, es⟩ := mkS_spec (a := r.1 * q.2) hn
 unfold overR
 rw [val_of hs.pos (ne_cast0 hn) es]
 have h1 := ne_cast hr
 have h2 := ne_cast hq
 have h3 := ne_cast0 h
 unfold val
 rw [Rat.intCast_mul, Rat.intCast_mul]
 generalize (r.1 : Rat) = x at *
 generalize (r.2 : Rat) = y at *
 generalize (q.1 : Rat) = u at *
 generalize (q.2 : Rat) = v at *
 grind
theorem val_inj {r q : R} (hr : Red r) (hq : Red q) (h : val r = val q) : r = q := by
 have h1 := ne_cast hr.pos
 have h2 := ne_cast hq.pos
 have e : r.1 * q.2 = q.1 * r.2 := by
  refine Rat.intCast_inj.mp ?_
  rw [Rat.intCast_mul, Rat.intCast_mul]
  unfold val at h
  generalize (r.1 : Rat) = x at *
  generalize (r.2 : Rat) = y at *
  generalize (q.1 : Rat) = u at *
  generalize (q.2 : Rat) = v at *
  grind
 have e1 : mkR r.1 r.2 = (r.1, r.2) := mkR_uniq hr.pos hr.pos hr.cop rfl
 have e2 : mkR r.1 r.2 = (q.1, q.2) := mkR_uniq hr.pos hq.pos hq.cop e.symm
 exact e1.symm.trans e2
theorem val_zero {r : R} (hr : 0 < r.2) : val r = 0 ↔ r.1 = 0 := by
 have h1 := ne_cast hr
 unfold val
 constructor
 ·intro h
  refine Rat.intCast_inj.mp ?_
  show (r.1 : Rat) = ((0 : Int) : Rat)
  rw [show ((0 : Int) : Rat) = 0 from rfl]
  generalize (r.1 : Rat) = x at *
  generalize (r.2 : Rat) = y at *
  grind
 ·intro h
  rw [h]
  show ((0 : Int) : Rat) / _ = 0
  rw [show ((0 : Int) : Rat) = 0 from rfl]
  generalize (r.2 : Rat) = y at *
  grind
theorem over_red {r q : R} (hr : 0 < r.2) (h : q.1 ≠ 0) : Red (overR r q) := (mkS_spec (a := r.1 * q.2) (Int.mul_ne_zero (by omega) h)).1
theorem minus_red {r q : R} (hr : 0 < r.2) (hq : 0 < q.2) : Red (minusR r q) := mkR_red (Int.mul_pos hr hq)
theorem line_end {a b : R × R} (a0 : Red a.1) (a1 : Red a.2) (b0 : Red b.1) (b1 : Red b.2) (h : (minusR b.1 a.1).1 ≠ 0) : plusR a.2 (timesR (slopeR a b) (minusR b.1 a.1)) = b.2 := by
 have m0 := minus_red b0.pos a0.pos
 have m1 := minus_red b1.pos a1.pos
 have so := over_red (r := minusR b.2 a.2) m1.pos h
 have st := times_red so m0
 refine val_inj (plus_red a1 st) b1 ?_
 unfold slopeR
 rw [val_plus a1.pos st.pos, val_times so.pos m0.pos, val_over m1.pos m0.pos h, val_minus b1.pos a1.pos]
 have hz : val (minusR b.1 a.1) ≠ 0 := fun z => h ((val_zero m0.pos).mp z)
 generalize val (minusR b.1 a.1) = d at *
 generalize val b.2 = x at *
 generalize val a.2 = y at *
 grind
theorem line_zero {a : R} {s x : R} (ha : Red a) (hs : Red s) (hx : Red x) : plusR a (timesR s (minusR x x)) = a := by
 have m0 := minus_red hx.pos hx.pos
 have st := times_red hs m0
 refine val_inj (plus_red ha st) ha ?_
 rw [val_plus ha.pos st.pos, val_times hs.pos m0.pos, val_minus hx.pos hx.pos]
 generalize val x = d at *
 generalize val s = u at *
 generalize val a = y at *
 grind
end B
namespace B
def slV (rows : List (R × R)) (i : Nat) : Rat := (val (rows.getD (i + 1) rowD).2 - val (rows.getD i rowD).2) / (val (rows.getD (i + 1) rowD).1 - val (rows.getD i rowD).1)
section
variable {s p : Nat -> Rat} {n : Nat}
def sl (s p : Nat -> Rat) (i : Nat) : Rat := (p (i + 1) - p i) / (s (i + 1) - s i)
end
end B
namespace B
open PySem PySem.Spec L2 PyProof.Rows
structure QE (X : Cx) (e : Expr) (t : TE) : Prop where
 p : PE X e t
structure QT (X : Cx) (e : Expr) (t : TT) : Prop where
 p : PT X e t
structure QW (X : Cx) (e : Expr) (t : TT) : Prop where
 p : PW X e t
structure QA (X : Cx) (es : List Expr) (t : TA) : Prop where
 p : PA X es t
structure QS (X : Cx) (st : Stmt) (t : TS) : Prop where
 p : PS X st t
structure QSs (X : Cx) (st : List Stmt) (t : TS) : Prop where
 p : PSs X st t
structure QI (X : Cx) (tg iter : Expr) (wi : TI) : Prop where
 p : PI X tg iter wi
structure QG (X : Cx) (target : Expr) (t : TG) : Prop where
 p : PG X target t
structure QGs (X : Cx) (ts : List Expr) (t : TGs) : Prop where
 p : PGs X ts t
theorem QSs.ok {X : Cx} {b : List Stmt} {t : TS} {D : Ends} {σ : L2.St} {H : Hp} (h : QSs X b t) (r : t D σ H) : ∃ t : TS, PSs X b t /\ t D σ H := ⟨t, h.p, r⟩
structure QO (X : Cx) (o : Option Expr) (t : L2.TO) : Prop where
 p : PO X o t
section
set_option autoImplicit true
set_option relaxedAutoImplicit true
theorem qv  (i : Nat) {x : Str} {pos : Pos} (hN : X.N[i]? = some x := by rfl) (hv : Vis X.env.scope x := by first | exact Or.inl rfl | exact Or.inr (Or.inl rfl) | exact Or.inr (Or.inr rfl)) (hd : (x == ("__debug__" : Str)) = false := by decide) (hcd : (x == ("__classdict__" : Str)) = false := by decide) : QE X (.Name x pos) (tVar i) := ⟨pv i hN hv hd hcd⟩
theorem qe_int  {i j pos} : QE X (.Constant (.int i) j pos) (tC (.int i)) := ⟨pe_int ⟩
theorem qe_bl  {b j pos} : QE X (.Constant (.bool b) j pos) (tC (.bl b)) := ⟨pe_bl ⟩
theorem qe_non  {j pos} : QE X (.Constant .none j pos) (tC .non) := ⟨pe_non ⟩
theorem qe_str  {x j pos} : QE X (.Constant (.str x) j pos) (tC (.str x)) := ⟨pe_str ⟩
theorem qe_glob  {x : Str} {v : V} {u : Value} {pos : Pos} (hg : Gl X x) (hm : X.mg x = some u) (r : RelV v u) (hd : (x == ("__debug__" : Str)) = false := by decide) : QE X (.Name x pos) (tC v) := ⟨pe_glob hg hm r hd⟩
theorem qe_bltn  {x : Str} {v : V} {u : Value} {pos : Pos} (hg : Gl X x) (hm : X.mg x = none) (hv : bootBuiltins x = some u) (r : RelV v u) (hn : x ≠ "__name__" := by decide) (hd : (x == ("__debug__" : Str)) = false := by decide) : QE X (.Name x pos) (tC v) := ⟨pe_bltn hg hm hv r hn hd⟩
theorem qe_un  {op : UnaryOp} {r : V -> Hp -> VK -> Prop} (ho : UnR X (unaryOp op) r) (ha : QE X a ta) : QE X (.UnaryOp op a pos) (tUn r ta) := ⟨pe_un ho ha.p⟩
theorem qe_op  {op : Operator} {r : R2} (ho : OpR X (binaryOp op) r) (ha : QE X a ta) (hb : QE X b tb) : QE X (.BinOp a op b pos) (tOp r ta tb) := ⟨pe_op ho ha.p hb.p⟩
theorem qe_one  {op} {t : TE} (h : QE X a t) : QE X (.BoolOp op [a] pos) t := ⟨pe_one h.p⟩
theorem qe_and {rest : List Expr} (ha : QE X a ta) (hb : QE X (.BoolOp .And (b :: rest) pos) tb) : QE X (.BoolOp .And (a :: b :: rest) pos) (tAndV ta tb) := ⟨pe_and ha.p hb.p⟩
theorem qe_cmpR  {op : CmpOp} {r : R2} (ho : OpR X (compareOp op) r) (ha : QE X a ta) (hb : QE X b tb) (hm : behindInMarks op b = false) : QE X (.Compare a [op] [b] pos) (tOp r ta tb) := ⟨pe_cmpR ho ha.p hb.p hm⟩
theorem qe_lst  (h : QA X es t) : QE X (.List es pos) (tLst t) := ⟨pe_lst h.p⟩
theorem qe_tup  {x1} (h : QA X es t) : QE X (.Tuple es x1 pos) (tTup t) := ⟨pe_tup h.p⟩
theorem qe_slice {lo hi : Option Expr} {r : V -> Option Int -> Option Int -> Hp -> VK -> Prop} (hr : SlR X r) (he : QE X e te) (hl : QO X lo tl) (hu : QO X hi th) : QE X (.Subscript e (.Slice lo hi none p2) pos) (tSl r te tl th) := ⟨pe_slice hr he.p hl.p hu.p⟩
theorem qo_none   : QO X none tNoPart := ⟨po_none ⟩
theorem qo_some  (h : QE X e te) : QO X (some e) (tPart te) := ⟨po_some h.p⟩
theorem qe_ix  {r : R2} (hr : IxR X r) (ha : QE X a ta) (hb : QE X b tb) (hs : PlainIx b) : QE X (.Subscript a b pos) (tOp r ta tb) := ⟨pe_ix hr ha.p hb.p hs⟩
theorem qe_call  (F : FnOk X.prog X.w X.K X.mg X.base CX k f fd ps sp) (hr : Room k X.A) (hg : Gl X x) (hm : X.mg x = some (.ref f)) (hk : PySem.W.keepIn X.K (.ref f) = true) (hb : Binds X.K fd ps ds) (hd : Vals dvs ds) (hx : Passes CX X E) (ha : QA X (e :: es) t) (hdb : (x == ("__debug__" : Str)) = false := by decide) (he : starEach (e :: es) X.env = (false, eval e X.env) :: starEach es X.env := by rfl) (hpl : (backTo pos (starEach es X.env)).any (·.1) = false := by rfl) : QE X (.Call (.Name x p) (e :: es) [] pos) (tCall sp dvs E t) := ⟨pe_call F hr hg hm hk hb hd hx ha.p hdb he hpl⟩
theorem qe_callB {id : String} (hc : CallR X (.builtin id) r) (hg : Gl X x) (hm : X.mg x = none) (hv : bootBuiltins x = some (.builtin id)) (ha : QA X (e :: es) t) (hn : x ≠ "__name__" := by decide) (hdb : (x == ("__debug__" : Str)) = false := by decide) (he : starEach (e :: es) X.env = (false, eval e X.env) :: starEach es X.env := by rfl) (hpl : (backTo pos (starEach es X.env)).any (·.1) = false := by rfl) : QE X (.Call (.Name x p) (e :: es) [] pos) (tCB r t) := ⟨pe_callB hc hg hm hv ha.p hn hdb he hpl⟩
theorem qe_callTy  (hc : CallR X (.type T) r) (hg : Gl X x) (hm : X.mg x = none) (hv : bootBuiltins x = some (.type T)) (ha : QA X (e :: es) t) (hn : x ≠ "__name__" := by decide) (hdb : (x == ("__debug__" : Str)) = false := by decide) (he : starEach (e :: es) X.env = (false, eval e X.env) :: starEach es X.env := by rfl) (hpl : (backTo pos (starEach es X.env)).any (·.1) = false := by rfl) : QE X (.Call (.Name x p) (e :: es) [] pos) (tCB r t) := ⟨pe_callTy hc hg hm hv ha.p hn hdb he hpl⟩
theorem qe_bm {id : String} (pa : PlainAttrs T) (slot : Slot T name id) (hty : typeOf (.builtin id) = pure (.type "method_descriptor")) (hm : MtR X id r) (ho : QE X o to) (ha : QA X (e :: es) t) (hbase : attributeBase o name X.env (eval o X.env) = eval o X.env := by rfl) (hfew : ((backTo cpos (starEach (e :: es) X.env)).all (fun x => !x.1) && (backToKw cpos (keywordEach [] X.env)).all (fun x => x.1.isSome)
   && decide ((e :: es).length + ([] : List Keyword).length + (if ([] : List Keyword).isEmpty then 0 else 1) < 30)) = true := by rfl) (hline : (apos.endLine == cpos.line) = true := by rfl) (hs : starEach (e :: es) X.env = (false, eval e X.env) :: starEach es X.env := by rfl) (hplain : (backTo cpos (starEach es X.env)).any (·.1) = false := by rfl) : QE X (.Call (.Attribute o name apos) (e :: es) [] cpos) (tBM X.K T r to t) := ⟨pe_bm pa slot hty hm ho.p ha.p hbase hfew hline hs hplain⟩
theorem qa_nil   : QA X [] tNil := ⟨pa_nil ⟩
theorem qa_cons  (ha : QE X e te) (hr : QA X es t) (hs : starEach (e :: es) X.env = (false, eval e X.env) :: starEach es X.env := by rfl) : QA X (e :: es) (tCons te t) := ⟨pa_cons ha.p hr.p hs⟩
theorem qt_cmpR  {op : CmpOp} {r : R2} (ho : OpR X (compareOp op) r) (ha : QE X a ta) (hb : QE X b tb) (hm : behindInMarks op b = false) : QT X (.Compare a [op] [b] pos) (tTest (tOp r ta tb)) := ⟨pt_cmpR ho ha.p hb.p hm⟩
theorem qt_val  {e : Expr} {t : TE} (h : QE X e t) (he : ∀ whole, isTrue e X.env whole = (do let v ← whole; standAt e.pos; holding [v] (truthy v)) := by intro _; rfl) : QT X e (tB t) := ⟨pt_val h.p he⟩
theorem qt_not  (ha : QT X a tA) : QT X (.UnaryOp .Not a pos) (tNot tA) := ⟨pt_not ha.p⟩
theorem qw_and {rest : List Expr} (ha : QT X a tA) (hb : QW X (.BoolOp .And (b :: rest) pos) tB') : QW X (.BoolOp .And (a :: b :: rest) pos) (tAnd tA tB') := ⟨pw_and ha.p hb.p⟩
theorem qw_and1  (ha : QT X a tA) : QW X (.BoolOp .And [a] pos) tA := ⟨pw_and1 ha.p⟩
theorem qw_or {rest : List Expr} (ha : QT X a tA) (hb : QW X (.BoolOp .Or (b :: rest) pos) tB') : QW X (.BoolOp .Or (a :: b :: rest) pos) (tOr tA tB') := ⟨pw_or ha.p hb.p⟩
theorem qw_or1  (ha : QT X a tA) : QW X (.BoolOp .Or [a] pos) tA := ⟨pw_or1 ha.p⟩
theorem qw_pt  {X : Cx} {e : Expr} {t : TT} (h : QW X e t) : QT X e t := ⟨PW.pt h.p⟩
theorem qs_set  {i : Nat} {x : Str} {e : Expr} {te : TE} {pos' : Pos} (hN : X.N.Nodup) (hi : X.N[i]? = some x) (hx : Loc X.env.scope x) (he : QE X e te) (hs : swapsWith e (some (.Name x pos')) pos.line X.env = pure false := by rfl) (hf : X.fn x = true ∨ X.env.scope.names.lookup x = some .local := by first | exact .inl rfl | exact .inr rfl | assumption) : QS X (.Assign [.Name x pos'] e pos) (tAsg te (gName i)) := ⟨ps_set hN hi hx he.p hs hf⟩
theorem qs_par  {i j : Nat} {x y : Str} {a b : Expr} {ta : TA} {px py pt : Pos} {kt k2 pt2} (hc : X.calm = true) (hN : X.N.Nodup) (hi : X.N[i]? = some x) (hj : X.N[j]? = some y) (hij : i ≠ j) (hx : X.env.scope.names.lookup x = some .local) (hy : X.env.scope.names.lookup y = some .local) (ha : QA X [a, b] ta) (hw : swappedStores [.Tuple [.Name x px, .Name y py] kt pt] (.Tuple [a, b] k2 pt2) X.env = pure (some [x, y])) (hs : swapsWithSole [.Tuple [.Name x px, .Name y py] kt pt] (.Tuple [a, b] k2 pt2) pos.line X.env = pure false := by rfl) : QS X (.Assign [.Tuple [.Name x px, .Name y py] kt pt] (.Tuple [a, b] k2 pt2) pos) (tPar i j ta) := ⟨ps_par hc hN hi hj hij hx hy ha.p hw hs⟩
theorem qs_asg  {tg e : Expr} {te : TE} {g : TG} (he : QE X e te) (hg : QG X tg g) (hs : swapsWithSole [tg] e pos.line X.env = pure false := by rfl) (hw : swappedStores [tg] e X.env = pure none := by rfl) (h1 : (assignEach [tg] X.env).map (·.2) = [assign tg X.env] := by rfl) : QS X (.Assign [tg] e pos) (tAsg te g) := ⟨ps_asg he.p hg.p hs hw h1⟩
theorem qs_aug  {i : Nat} {x : Str} {e : Expr} {te : TE} {op : Operator} {ti : TIp} {pos' : Pos} (hN : X.N.Nodup) (hi : X.N[i]? = some x) (hx : Loc X.env.scope x) (he : QE X e te) (ho : PIp X op ti) (hf : X.fn x = true ∨ X.env.scope.names.lookup x = some .local := by first | exact .inl rfl | exact .inr rfl | assumption) : QS X (.AugAssign (.Name x pos') op e pos) (tAug i te ti) := ⟨ps_aug hN hi hx he.p ho hf⟩
theorem qs_if  {c : Expr} {a b : List Stmt} {tc : TT} (hc : QT X c tc) (ha : QSs X a t) (hb : QSs X b u) : QS X (.If c a b pos) (tIfS tc t u) := ⟨ps_if hc.p ha.p hb.p⟩
theorem qs_while  {c : Expr} {body : List Stmt} {tc : TT} {tb : TS} (hp : PassesOwn (model X.prog X.w) X.A X.env X.xe) (hc : QT X c tc) (hb : QSs X body tb) : QS X (.While c body [] pos) (tWhile tc tb) := ⟨ps_while hp hc.p hb.p⟩
theorem qs_for  {iter : Expr} {body : List Stmt} {wi : TI} {g : TG} {tb : TS} {pos : Pos} (hp : PassesOwn (model X.prog X.w) X.A X.env X.xe) (hc : X.calm = true) (hi : QI X tg iter wi) (hg : QG X tg g) (hb : QSs X body tb) (hs : ∀ x, foldedSetIterable iter X.env x = pure x := by intro _; rfl) : QS X (.For tg iter body [] pos) (tFor wi g tb) := ⟨ps_for hp hc hi.p hg.p hb.p hs⟩
theorem qs_ret  (he : QE X e te) : QS X (.Return (some e) pos) (tRet te) := ⟨ps_ret he.p⟩
theorem qs_expr  (he : QE X e te) (hs : swapsWith e none pos.line X.env = pure false := by rfl) : QS X (.Expr e pos) (tDrop te) := ⟨ps_expr he.p hs⟩
theorem qs_never {st : Stmt}  : QS X st tNever := ⟨ps_never ⟩
theorem qss_nil   : QSs X [] tNext := ⟨pss_nil ⟩
theorem qss_one {st : Stmt} (h1 : QS X st t) : QSs X [st] t := ⟨pss_one h1.p⟩
theorem qss_cons {st : Stmt} {rest : List Stmt} (h1 : QS X st t) (h2 : QSs X rest u) : QSs X (st :: rest) (tSeq t u) := ⟨pss_cons h1.p h2.p⟩
theorem qi_range1  {a : Expr} {ta : TA} {p pos : Pos} (hg : Gl X "range") (hm : X.mg "range" = none) (ha : QA X [a] ta) (hs : starEach [a] X.env = [(false, eval a X.env)] := by rfl) : QI X tg (.Call (.Name "range" p) [a] [] pos) (iRng1 ta) := ⟨pi_range1 hg hm ha.p hs⟩
theorem qi_range2  {a b : Expr} {ta : TA} {p pos : Pos} (hg : Gl X "range") (hm : X.mg "range" = none) (ha : QA X [a, b] ta) (hs : starEach [a, b] X.env = [(false, eval a X.env), (false, eval b X.env)] := by rfl) (hs2 : starEach [b] X.env = [(false, eval b X.env)] := by rfl) : QI X tg (.Call (.Name "range" p) [a, b] [] pos) (iRng2 ta) := ⟨pi_range2 hg hm ha.p hs hs2⟩
theorem qi_list {tg : Expr} {l : Expr} {tl : TE} (hl : QE X l tl) : QI X tg l (iList X.K tl) := ⟨pi_list hl.p⟩
theorem qi_tup  {l : Expr} {tl : TE} (hl : QE X l tl) : QI X tg l (iTup X.K tl) := ⟨pi_tup hl.p⟩
theorem qg_name  {i : Nat} {x : Str} (hN : X.N.Nodup) (hi : X.N[i]? = some x) (hx : Loc X.env.scope x) (hf : X.fn x = true ∨ X.env.scope.names.lookup x = some .local := by first | exact .inl rfl | exact .inr rfl | assumption) : QG X (.Name x pos) (gName i) := ⟨pg_name hN hi hx hf⟩
theorem qg_tup  {es : List Expr} {k : Nat} {t : TGs} {n : Nat} (hc : X.calm = true) (h : QGs X es t) (hn : (assignEach es X.env).length = n := by rfl) (hst : (assignEach es X.env).findIdx? (·.1) = none := by rfl) : QG X (.Tuple es k pos) (gTup X.K n t) := ⟨pg_tup hc h.p hn hst⟩
theorem qg_sub  {o i : Expr} {to ti : TE} {t : TSet} (ho : QE X o to) (hi : QE X i ti) (hs : PSet X t) (ha : ∀ v, assign (.Subscript o i pos) X.env v = (do
   let ov ← holding [v] (eval o X.env)
   let iv ← holding [v, ov] (eval i X.env)
   standAt pos
   holding [v, ov, iv] (setItem ov iv v)
   release [v, ov, iv] []) := by intro _; rfl) : QG X (.Subscript o i pos) (gSub to ti t) := ⟨pg_sub ho.p hi.p hs ha⟩
theorem qgs_nil   : QGs X [] gNil := ⟨pgs_nil ⟩
theorem qgs_cons  {e : Expr} {es : List Expr} {t : TG} {u : TGs} (h1 : QG X e t) (h2 : QGs X es u) (hs : (assignEach (e :: es) X.env).map (·.2) = assign e X.env :: (assignEach es X.env).map (·.2) := by rfl) : QGs X (e :: es) (gCons t u) := ⟨pgs_cons h1.p h2.p hs⟩
end
structure QTs (X : Cx) (ifs : List Expr) (t : TT) : Prop where
 p : PTs X ifs t
section
set_option autoImplicit true
set_option relaxedAutoImplicit true
theorem qts_nil  {X : Cx} : QTs X [] tYes := ⟨pts_nil ⟩
theorem qts_one  {X : Cx} {c : Expr} {t : TT} (h : QT X c t) : QTs X [c] t := ⟨pts_one h.p⟩
theorem qe_lcomp  (hc : X.calm = true) (hi : QI X tg iter wi) (hg : ∀ C fp pins s H, QG (cxC X N' scope cl C fp pins s H) tg g) (ht : ∀ C fp pins s H, QTs (cxC X N' scope cl C fp pins s H) ifs tt) (he : ∀ C fp pins s H, QE (cxC X N' scope cl C fp pins s H) elt te) (hfree : FreeOk X scope cl N' src) (hclos : closureFor scope X.env = pure cl) (hcell : ∀ x ∈ scope.names, x.2 ≠ .cell) (hkind : scope.kind = .function) (hnames : ∀ x ∈ scope.names, x.2 = .local -> scope.names.lookup x.1 = some .local) (hcl : CellsOk X scope cl) (hs : ∀ x, foldedSetIterable iter X.env x = pure x := by intro _; rfl) : QE X (.ListComp elt [⟨tg, iter, ifs, 0⟩] scope pos) (tComp wi src g tt te) := ⟨pe_lcomp hc hi.p (fun z0 z1 z2 z3 z4 => (hg z0 z1 z2 z3 z4).p) (fun z0 z1 z2 z3 z4 => (ht z0 z1 z2 z3 z4).p) (fun z0 z1 z2 z3 z4 => (he z0 z1 z2 z3 z4).p) hfree hclos hcell hkind hnames hcl hs⟩
theorem qs_setC  {i : Nat} {x : Str} {pos' pos2 : Pos} (hN : X.N.Nodup) (hi' : X.N[i]? = some x) (hx : Loc X.env.scope x) (hc : X.calm = true) (hi : QI X tg iter wi) (hg : ∀ C fp pins s H, QG (cxC X N' scope cl C fp pins s H) tg g) (ht : ∀ C fp pins s H, QTs (cxC X N' scope cl C fp pins s H) ifs tt) (he : ∀ C fp pins s H, QE (cxC X N' scope cl C fp pins s H) elt te) (hfree : FreeOk X scope cl N' src) (hclos : closureFor scope X.env = pure cl) (hcell : ∀ x ∈ scope.names, x.2 ≠ .cell) (hkind : scope.kind = .function) (hnames : ∀ x ∈ scope.names, x.2 = .local -> scope.names.lookup x.1 = some .local) (hcl : CellsOk X scope cl) (hs : ∀ x, foldedSetIterable iter X.env x = pure x := by intro _; rfl) (hsw : swapsWith (.ListComp elt [⟨tg, iter, ifs, 0⟩] scope pos) (some (.Name x pos')) pos2.line X.env = pure true := by rfl) (hf : X.fn x = true ∨ X.env.scope.names.lookup x = some .local := by first | exact .inl rfl | exact .inr rfl | assumption) : QS X (.Assign [.Name x pos'] (.ListComp elt [⟨tg, iter, ifs, 0⟩] scope pos) pos2) (tAsg (tComp wi src g tt te) (gName i)) := ⟨ps_setC hN hi' hx hc hi.p (fun z0 z1 z2 z3 z4 => (hg z0 z1 z2 z3 z4).p) (fun z0 z1 z2 z3 z4 => (ht z0 z1 z2 z3 z4).p) (fun z0 z1 z2 z3 z4 => (he z0 z1 z2 z3 z4).p) hfree hclos hcell hkind hnames hcl hs hsw hf⟩
end
section
variable {X : Cx} {K : PySem.W.Frag}
theorem pg_tupK {es : List Expr} {k : Nat} {t : TGs} {n : Nat} {pos : Pos} (hK : X.K = K) (hc : X.calm = true) (h : PGs X es t)
  (hn : (assignEach es X.env).length = n := by rfl) (hst : (assignEach es X.env).findIdx? (·.1) = none := by rfl) : PG X (.Tuple es k pos) (gTup K n t) := hK ▸ pg_tup hc h hn hst
theorem pi_tupK {l tg : Expr} {tl : TE} (hK : X.K = K) (hl : PE X l tl) : PI X tg l (iTup K tl) := hK ▸ pi_tup hl
theorem ix_tupK (hK : X.K = K) : IxR X (rIxT K) := hK ▸ ix_tup
def rLen (K : PySem.W.Frag) : List V -> Hp -> VK -> Prop := fun xs H Q => ∃ p ys, xs = [.ref p] /\ (SqL K H p ys ∨ SqT K H p ys) /\ Q (.int ys.length) H
end
theorem star_bin {a b : Expr} {op : Operator} {pos : Pos} {es : List Expr} {env : Env} : starEach (.BinOp a op b pos :: es) env = (false, eval (.BinOp a op b pos) env) :: starEach es env := rfl
theorem for_zip {K : PySem.W.Frag} {a b : Addr} {xs ys : List V} {n : Nat} {g : TG} {tb : TS} {D : Ends} {σ : L2.St} {H : Hp} (Pv : Nat -> L2.St -> Hp -> Prop) (h1 : n ≤ xs.length) (h2 : n ≤ ys.length) (h3 : xs.length ≤ n ∨ ys.length ≤ n) (h0 : Pv 0 σ H)
  (hl : ∀ i σ H, i ≤ n -> Pv i σ H -> SqT K H a xs /\ SqT K H b ys)
  (hs : ∀ i x y p σ H, i < n -> xs[i]? = some x -> ys[i]? = some y -> Pv i σ H -> H p = none -> g (.ref p) σ (upd H p (.tup [x, y])) fun σ2 H2 => tb { D with nx := Pv (i + 1), ct := Pv (i + 1), bk := D.nx } σ2 H2) (hd : ∀ σ H, Pv n σ H -> D.nx σ H) :
  ∃ W : Nat -> Nat -> L2.St -> Hp -> Prop, (∃ m, W 0 m σ H) /\ ∀ i m σ H, W i m σ H →
   ((Itz K a b).stop i H /\ D.nx σ H) ∨ ((Itz K a b).go i H /\ ∃ N : L2.St -> Hp -> Prop, (∀ σ' H', N σ' H' -> ∃ m', m' < m /\ W (i + 1) m' σ' H') /\ ∀ x H', (Itz K a b).yld i H x H' -> g x σ H' fun σ2 H2 => tb { D with nx := N, ct := N, bk := D.nx } σ2 H2) := by
 refine ⟨fun i m σ H => m = n - i /\ i ≤ n /\ Pv i σ H, ⟨n, by simp, Nat.zero_le _, h0⟩, ?_⟩
 rintro i m σ H ⟨rfl, hi, p⟩
 obtain ⟨q1, q2⟩ := hl i σ H hi p
 by_cases hlt : i < n
 ·have e1 : xs[i]? = some (xs[i]'(by omega)) := List.getElem?_eq_getElem _
  have e2 : ys[i]? = some (ys[i]'(by omega)) := List.getElem?_eq_getElem _
  refine .inr ⟨⟨xs, ys, _, _, q1, q2, e1, e2⟩, Pv (i + 1), fun σ' H' p' => ⟨n - (i + 1), by omega, rfl, hlt, p'⟩, fun x H' y => ?_⟩
  obtain ⟨pp, x0, y0, hp, rfl, rfl, y1, y2⟩ := y
  exact hs i x0 y0 pp σ _ hlt (y1 xs q1) (y2 ys q2) p hp
 ·have e : i = n := by omega
  subst e
  exact .inl ⟨⟨xs, ys, q1, q2, h3⟩, hd σ H p⟩
end B
namespace B
open PySem
section
variable {es : List Expr} {env : Env}
theorem star_tup {a b c} : starEach (.Tuple a b c :: es) env = (false, eval (.Tuple a b c) env) :: starEach es env := rfl
theorem star_sub {a b c} : starEach (.Subscript a b c :: es) env = (false, eval (.Subscript a b c) env) :: starEach es env := rfl
theorem star_call {a b c d} : starEach (.Call a b c d :: es) env = (false, eval (.Call a b c d) env) :: starEach es env := rfl
theorem star_name {a b} : starEach (.Name a b :: es) env = (false, eval (.Name a b) env) :: starEach es env := rfl
theorem star_con {a b c} : starEach (.Constant a b c :: es) env = (false, eval (.Constant a b c) env) :: starEach es env := rfl
theorem star_un {a b c} : starEach (.UnaryOp a b c :: es) env = (false, eval (.UnaryOp a b c) env) :: starEach es env := rfl
theorem star_att {a b c} : starEach (.Attribute a b c :: es) env = (false, eval (.Attribute a b c) env) :: starEach es env := rfl
theorem star_lc {a b c d} : starEach (.ListComp a b c d :: es) env = (false, eval (.ListComp a b c d) env) :: starEach es env := rfl
end
end B
namespace B
open PySem L2 PyProof.Rows
inductive Als {α : Type} (P : V -> α -> Prop) : List V -> List α -> Prop where
 | nil : Als P [] []
 | cons {x : V} {d : α} {xs : List V} {ds : List α} (h : P x d) (t : Als P xs ds) : Als P (x :: xs) (d :: ds)
theorem Als.len {α : Type} {P : V -> α -> Prop} : ∀ {xs : List V} {ds : List α}, Als P xs ds -> xs.length = ds.length
 | _, _, .nil => rfl
 | _, _, .cons _ t => congrArg (· + 1) t.len
theorem Als.mono {α : Type} {P P' : V -> α -> Prop} (m : ∀ v d, P v d -> P' v d) : ∀ {xs : List V} {ds : List α}, Als P xs ds -> Als P' xs ds
 | _, _, .nil => .nil
 | _, _, .cons h t => .cons (m _ _ h) (t.mono m)
theorem Als.snoc {α : Type} {P : V -> α -> Prop} {x : V} {d : α} (k : P x d) : ∀ {xs : List V} {ds : List α}, Als P xs ds -> Als P (xs ++ [x]) (ds ++ [d])
 | _, _, .nil => .cons k .nil
 | _, _, .cons h t => .cons h (t.snoc k)
theorem Als.at {α : Type} {P : V -> α -> Prop} : ∀ {xs : List V} {ds : List α}, Als P xs ds -> ∀ {i : Nat} {x : V}, xs[i]? = some x -> ∃ d, ds[i]? = some d /\ P x d
 | _, _, .cons h _, 0, x, e => by
  rw [List.getElem?_cons_zero] at e
  cases e
  exact ⟨_, rfl, h⟩
 | _, _, .cons _ t, i + 1, x, e => t.at (i := i) (by rw [List.getElem?_cons_succ] at e; exact e)
 | _, _, .nil, _, _, e => by cases e
theorem Als.deep {α : Type} {K : PySem.W.Frag} {H : Hp} {P : V -> α -> Prop} {f : α -> PyData} (m : ∀ v d, P v d -> Deep K H v (f d)) : ∀ {xs : List V} {ds : List α}, Als P xs ds -> DeepAll K H xs (ds.map f)
 | _, _, .nil => .nil
 | _, _, .cons h t => .cons (m _ _ h) (t.deep m)
end B
namespace B
open PySem PySem.Spec L2 PyProof.Rows
theorem Als.last {α : Type} {P : V -> α -> Prop} {xs : List V} {ds : List α} {n : Nat} (h : Als P xs ds) (hn : ds.length = n + 1) : ∃ x d, atI xs (-1) = some x /\ ds[n]? = some d /\ P x d /\ xs[n]? = some x := by
 have hl := h.len
 have hx : xs[n]? = some (xs[n]'(by omega)) := List.getElem?_eq_getElem _
 obtain ⟨d, hd, p⟩ := h.at hx
 refine ⟨_, d, ?_, hd, p, hx⟩
 have e : xs = xs.take n ++ [xs[n]'(by omega)] := by
  have := List.take_append_drop n xs
  rw [List.drop_eq_getElem_cons (by omega)] at this
  rw [List.drop_eq_nil_of_le (by omega)] at this
  exact this.symm
 have := atI_last (xs.take n) (xs[n]'(by omega))
 rw [← e] at this
 exact this
theorem cut_tail {xs : List V} (h : 1 ≤ xs.length) : cutV xs (some 1) none = xs.drop 1 := by
 unfold cutV
 rw [show (some (1 : Int)) = some (((1 : Nat) : Int)) from rfl, HT.sIx_nat, HT.sIx_none, Nat.min_eq_left h]
 exact List.take_of_length_le (by rw [List.length_drop]; omega)
theorem small_tup {ds : List PyData} (h : ∀ d ∈ ds, Small d) (hl : ds.length ≤ 64) : Shows (.tuple ds) := by
 obtain ⟨a, b, c, e, f⟩ := small_all h
 refine ⟨a, b, ?_, ?_⟩
 ·show (tupleText (PyData.shownAll ds)).length ≤ sizeLine
  have q := tupleText_len_le (PyData.shownAll ds)
  have : sizeLine = 16777216 := by decide
  omega
 ·show PyData.depthAll ds + 1 ≤ 16
  omega
section
set_option autoImplicit true
set_option relaxedAutoImplicit true
theorem qi_zip  {X : Cx} {elts : List Expr} {x1} {tp p pos : Pos} {a b : Expr} {ta : TA} (hg : Gl X "zip") (hm : X.mg "zip" = none) (ha : QA X [a, b] ta) (hs : starEach [a, b] X.env = [(false, eval a X.env), (false, eval b X.env)] := by rfl) (hs2 : starEach [b] X.env = [(false, eval b X.env)] := by rfl) : QI X (.Tuple elts x1 tp) (.Call (.Name "zip" p) [a, b] [] pos) (iZip X.K ta) := ⟨pi_zip hg hm ha.p hs hs2⟩
theorem qi_seq  {X : Cx} {tg l : Expr} {tl : TE} (hl : QE X l tl) : QI X tg l (iSeq X.K tl) := ⟨pi_seq hl.p⟩
theorem qg_tupK {K : PySem.W.Frag} {es : List Expr} {k : Nat} {t : TGs} {n : Nat} {pos : Pos} (hK : X.K = K) (hc : X.calm = true) (h : QGs X es t) (hn : (assignEach es X.env).length = n := by rfl) (hst : (assignEach es X.env).findIdx? (·.1) = none := by rfl) : QG X (.Tuple es k pos) (gTup K n t) := ⟨pg_tupK hK hc h.p hn hst⟩
theorem qi_tupK {K : PySem.W.Frag} {l tg : Expr} {tl : TE} (hK : X.K = K) (hl : QE X l tl) : QI X tg l (iTup K tl) := ⟨pi_tupK hK hl.p⟩
end
def rEqD (K : PySem.W.Frag) : R2 := fun x y H Q => ∃ d d', Deep K H x d /\ Deep K H y d' /\ d.canLay0 = true /\ d'.canLay0 = true /\ d.depth ≤ 32 /\ Q (.bl (PyData.eqv d d')) H
theorem op_eqD {X : Cx} {k : Nat} (hr : Room k X.A) : OpR X (compareOp .Eq) (rEqD X.K) := by
 intro pins s σ H x y v u Q I rx ry h
 obtain ⟨d, d', hd, hd', c, c', dp, q⟩ := h
 obtain ⟨as, ra⟩ := Deep.reads I hd rx
 obtain ⟨bs, rb⟩ := Deep.reads I hd' ry
 exact SeqAt.compareEq_reads ra rb c c' (by have := hr.units; omega) ⟨.bl _, H, I, rfl, q⟩
theorem eqv_iff {r q : R} : PyData.eqv (dR r) (dR q) = decide (r = q) := by
 by_cases h : r = q
 ·rw [decide_eq_true h, h]; exact eqv_same q
 ·rw [decide_eq_false h]
  cases c : PyData.eqv (dR r) (dR q) with
  | false => rfl
  | true => exact absurd (eqv_dR c) h
def rIsiT (K : PySem.W.Frag) : List V -> Hp -> VK -> Prop := fun xs H Q => ∃ a ys n b, xs = [.ref a, .ty n] /\ SqT K H a ys /\ kitTT "tuple" n = some b /\ Q (.bl b) H
theorem call_isiT {X : Cx} : CallR X (.builtin "isinstance") (rIsiT X.K) := by
 intro pins s σ H xs us Q I r h
 obtain ⟨a, ys, n, b, rfl, hS, e, q⟩ := h
 obtain ⟨u, u2, rfl, rx, ry⟩ := vals2 r
 obtain rfl : u2 = Value.type n := ry
 cases (show u = Value.ref a from rx)
 obtain ⟨its, _, ⟨o, h1, h2, _⟩, _⟩ := I.tuple hS
 exact PySem.W.kia_one PySem.W.kitx_tuple I.kIn ⟨o, h1, h2⟩ (kit_of e) (fun z => nomatch z) fun tk => ⟨.bl b, H, I.tok tk, rfl, q⟩
section
set_option autoImplicit true
set_option relaxedAutoImplicit true
theorem qe_fldE  {X : Cx} {e : Expr} {f : Str} {pos : Pos} {ta : TE} {K : PySem.W.Frag} (hK : X.K = K) (he : QE X e ta) (hb : attributeBase e f X.env (eval e X.env) = eval e X.env) : QE X (.Attribute e f pos) (tFldE K ta f) := ⟨pe_fldE hK he.p hb⟩
theorem qs_fldE  (hex : X.ex = []) (ha : QE X o ta) (hv : QE X value tv) (hs : swapsWith value (some (.Attribute o f pos')) pos.line X.env = pure false) : QS X (.Assign [.Attribute o f pos'] value pos) (sFldE X.K ta tv f) := ⟨ps_fldE hex ha.p hv.p hs⟩
theorem qs_raiseD  {x : Str} {p cpos pos : Pos} {e : Expr} {es : List Expr} {t : TA} {E : XK} (M : XC X.K C f bm) (hbase : bm.contains (.type "BaseException") = true) (hex : X.ex = []) (tk : TakesD X E) (F : FnOk X.prog X.w X.K X.mg X.base CX0 k f fd ps sp) (hr : Room (k + 1) X.A) (hb : Binds X.K fd ps []) (hg : Gl X x) (hm : X.mg x = some (.ref C)) (ha : QA X (e :: es) t) (hdb : (x == ("__debug__" : Str)) = false := by decide) (he : starEach (e :: es) X.env = (false, eval e X.env) :: starEach es X.env := by rfl) (hpl : (backTo cpos (starEach es X.env)).any (·.1) = false := by rfl) : QS X (.Raise (some (.Call (.Name x p) (e :: es) [] cpos)) none pos) (tRaiseD C sp E t) := ⟨ps_raiseD M hbase hex tk F hr hb hg hm ha.p hdb he hpl⟩
theorem qs_tryAs {R : RX} {suite : List Stmt} {i : Nat} {n : Str} (hex : X.ex = []) (hst : X.stack = X.env :: X.outer) (hfr : X.env.frame = some X.env.locals) (hg : Gl X x) (hm : X.mg x = some u) (hN : X.N.Nodup) (hi : X.N[i]? = some n) (hn : X.env.scope.names.lookup n = some .local) (hb : ∀ pins, QSs (inTryD X pins R) body tb) (hs : ∀ e, QSs (inExc X e) (b₀ :: suite) th) (hd : (x == ("__debug__" : Str)) = false := by decide) : QS X (.Try body [.ExceptHandler (some (.Name x p)) (some n) (b₀ :: suite) hpos] [] [] pos) (tTryAs X.N i R (fun C => PySem.W.exmOne X.K (.ref C) u = some true) tb th) := ⟨ps_tryAs hex hst hfr hg hm hN hi hn (fun z0 => (hb z0).p) (fun z0 => (hs z0).p) hd⟩
end
end B
namespace L2
open PySem PySem.Spec PyProof.Rows
section
variable {κ : Type} [DecidableEq κ]
def valV (kvs : List (κ × V)) (k : κ) : Option V := (kvs.find? fun kv => decide (kv.1 = k)).map (·.2)
def putK (kvs : List (κ × V)) (k : κ) (v : V) : List (κ × V) :=
 if (kvs.any fun kv => decide (kv.1 = k)) = true then kvs.map (fun kv => if kv.1 = k then (kv.1, v) else kv) else kvs ++ [(k, v)]
def dropK (kvs : List (κ × V)) (k : κ) : List (κ × V) := kvs.filter fun kv => decide (kv.1 ≠ k)
theorem valV_pos {p : κ × V} {r : List (κ × V)} {k : κ} (e : p.1 = k) : valV (p :: r) k = some p.2 := by simp [valV, List.find?_cons, e]
theorem valV_neg {p : κ × V} {r : List (κ × V)} {k : κ} (e : ¬ p.1 = k) : valV (p :: r) k = valV r k := by simp [valV, List.find?_cons, e]
theorem valV_any (k : κ) : ∀ kvs : List (κ × V), (kvs.any fun kv => decide (kv.1 = k)) = (valV kvs k).isSome
 | [] => rfl
 | p :: r => by
  rw [List.any_cons]
  by_cases e : p.1 = k
  ·simp only [valV_pos e, decide_eq_true e, Bool.true_or, Option.isSome_some]
  ·rw [valV_neg e, decide_eq_false e, Bool.false_or]; exact valV_any k r
theorem length_putK (kvs : List (κ × V)) (k : κ) (v : V) : (putK kvs k v).length ≤ kvs.length + 1 := by
 unfold putK
 split
 ·rw [List.length_map]; omega
 ·rw [List.length_append, List.length_cons, List.length_nil]; omega
theorem RelO.isSome_eq {o : Option V} {u : Option Value} (r : RelO o u) : o.isSome = u.isSome := by
 cases o with
 | none => cases u with
  | none => rfl
  | some _ => exact (show False from r).elim
 | some _ => cases u with
  | none => exact (show False from r).elim
  | some _ => rfl
theorem RelO.getD {o : Option V} {u : Option Value} {d : V} {d' : Value} (r : RelO o u) (rd : RelV d d') : RelV (o.getD d) (u.getD d') := by
 cases o with
 | none => cases u with
  | none => exact rd
  | some _ => exact (show False from r).elim
 | some _ => cases u with
  | none => exact (show False from r).elim
  | some _ => exact r
theorem KV.val {kvs : List (κ × V)} {vs : List (κ × Value)} (r : KV kvs vs) (k : κ) : RelO (valV kvs k) (valueAt vs k) := by
 unfold KV at r
 induction r with
 | nil => exact True.intro
 | @cons p q ps qs h t ih =>
  obtain ⟨h1, h2⟩ := h
  by_cases e : p.1 = k
  ·have e' : q.1 = k := h1.symm.trans e
   have b : valueAt (q :: qs) k = some q.2 := by simp [valueAt, List.find?_cons, e']
   rw [valV_pos e, b]; exact h2
  ·have e' : ¬ q.1 = k := fun z => e (h1.trans z)
   have b : valueAt (q :: qs) k = valueAt qs k := by simp [valueAt, List.find?_cons, e']
   rw [valV_neg e, b]; exact ih
theorem KV.any {kvs : List (κ × V)} {vs : List (κ × Value)} (r : KV kvs vs) (k : κ) : (kvs.any fun kv => decide (kv.1 = k)) = vs.any fun kv => decide (kv.1 = k) := by
 unfold KV at r
 induction r with
 | nil => rfl
 | cons h t ih => rw [List.any_cons, List.any_cons, ih, h.1]
theorem KV.repl {kvs : List (κ × V)} {vs : List (κ × Value)} (r : KV kvs vs) (k : κ) {y : V} {u : Value} (ry : RelV y u) :
  KV (kvs.map fun kv => if kv.1 = k then (kv.1, y) else kv) (vs.map fun kv => if kv.1 = k then (kv.1, u) else kv) := by
 unfold KV at r ⊢
 induction r with
 | nil => exact .nil
 | @cons p q ps qs h t ih =>
  rw [List.map_cons, List.map_cons]
  refine .cons ?_ ih
  obtain ⟨h1, h2⟩ := h
  by_cases e : p.1 = k
  ·rw [if_pos e, if_pos (h1.symm.trans e)]; exact ⟨h1, ry⟩
  ·rw [if_neg e, if_neg (fun z => e (h1.trans z))]; exact ⟨h1, h2⟩
theorem KV.put {kvs : List (κ × V)} {vs : List (κ × Value)} (r : KV kvs vs) (k : κ) {y : V} {u : Value} (ry : RelV y u) : KV (putK kvs k y) (stored vs k u) := by
 unfold putK stored
 rw [r.any k]
 by_cases e : (vs.any fun kv => decide (kv.1 = k)) = true
 ·rw [if_pos e, if_pos e]; exact r.repl k ry
 ·rw [if_neg e, if_neg e]; exact Paired.snoc r ⟨rfl, ry⟩
theorem KV.length {kvs : List (κ × V)} {vs : List (κ × Value)} (r : KV kvs vs) : kvs.length = vs.length := Paired.length r
end
theorem kV_is {P : Program} {w : World} {k : Key} {u : Value} (r : RelV (kV k) u) : (mixKind P w).is k u = true := by
 cases k with
 | inl i => obtain ⟨t, e⟩ := (show ∃ t, u = Value.int i t from r); subst e; exact mixKind_int P w i t
 | inr x => obtain ⟨t, e⟩ := (show ∃ t, u = Value.str x t from r); subst e; exact mixKind_str P w x t
theorem items_are {P : Program} {w : World} : ∀ {ks : List Key} {us : List Value}, Vals (ks.map kV) us -> ItemsAre (mixKind P w) ks us
 | [], _, r => by rw [List.map_nil] at r; cases r; exact .nil
 | k :: ks, _, r => by
  rw [List.map_cons] at r
  cases r with
  | cons h t => exact .cons (kV_is h) (items_are t)
abbrev KT (H : Hp) : List (List Key × V) -> List (List Key × Addr × Value) -> Prop := Paired fun p q => p.1 = q.1 /\ H q.2.1 = some (.tup (p.1.map kV)) /\ RelV p.2 q.2.2
theorem KT.val {H : Hp} {kvs : List (List Key × V)} {xs : List (List Key × Addr × Value)} (r : KT H kvs xs) (k : List Key) : RelO (valV kvs k) ((atKey xs k).map (·.2)) := by
 induction r with
 | nil => exact True.intro
 | @cons p q ps qs h t ih =>
  obtain ⟨h1, _, h2⟩ := h
  by_cases e : p.1 = k
  ·have e' : q.1 = k := h1.symm.trans e
   have b : atKey (q :: qs) k = some q.2 := by simp [atKey, List.find?_cons, e']
   rw [valV_pos e, b]; exact h2
  ·have e' : ¬ q.1 = k := fun z => e (h1.trans z)
   have b : atKey (q :: qs) k = atKey qs k := by simp [atKey, List.find?_cons, e']
   rw [valV_neg e, b]; exact ih
theorem KT.repl {H : Hp} {kvs : List (List Key × V)} {xs : List (List Key × Addr × Value)} (r : KT H kvs xs) (k : List Key) {y : V} {u : Value} (ry : RelV y u) :
  KT H (kvs.map fun kv => if kv.1 = k then (kv.1, y) else kv) (xs.map (putAt k u)) := by
 induction r with
 | nil => exact .nil
 | @cons p q ps qs h t ih =>
  rw [List.map_cons, List.map_cons]
  refine .cons ?_ ih
  obtain ⟨h1, h2, h3⟩ := h
  unfold putAt
  by_cases e : p.1 = k
  ·rw [if_pos e, if_pos (h1.symm.trans e)]; exact ⟨h1, h2, ry⟩
  ·rw [if_neg e, if_neg (fun z => e (h1.trans z))]; exact ⟨h1, h2, h3⟩
theorem KT.put {H : Hp} {kvs : List (List Key × V)} {xs : List (List Key × Addr × Value)} (r : KT H kvs xs) (k : List Key) {b : Addr} {y : V} {u : Value} (hb : H b = some (.tup (k.map kV))) (ry : RelV y u) :
  KT H (putK kvs k y) (storedH xs k b u) := by
 have e : (kvs.any fun kv => decide (kv.1 = k)) = (atKey xs k).isSome := by
  rw [valV_any, (r.val k).isSome_eq, Option.isSome_map]
 unfold putK storedH
 rw [e]
 by_cases q : (atKey xs k).isSome = true
 ·rw [if_pos q, if_pos q]; exact r.repl k ry
 ·rw [if_neg q, if_neg q]; exact Paired.snoc r ⟨rfl, hb, ry⟩
theorem KT.keeps {H H' : Hp} {kvs : List (List Key × V)} {xs : List (List Key × Addr × Value)} (r : KT H kvs xs) (ht : ∀ b ys, H b = some (.tup ys) -> H' b = some (.tup ys)) : KT H' kvs xs :=
 Paired.mapP r fun _ _ z => ⟨z.1, ht _ _ z.2.1, z.2.2⟩
section
variable {P : Program} {w : World} {H : Hp} {h : Heap} {a : Addr}
theorem rd_of {u : HO} (ok : HOk P w H h) (e : Rd H a u) : ObjOk P w H h a u := e.ok ok
theorem dk_rd {kvs : List (Key × V)} (ok : HOk P w H h) (e : Rd H a (.dK kvs)) : kvs.length ≤ sizeLine /\ (a == sysModules) = false /\ ∃ vs, KV kvs vs /\ h.DictOf (mixKind P w) a vs :=
 show ObjOk P w H h a (.dK kvs) from rd_of ok e
theorem dk_of {kvs : List (Key × V)} (ok : HOk P w H h) (e : H a = some (.dK kvs)) : kvs.length ≤ sizeLine /\ (a == sysModules) = false /\ ∃ vs, KV kvs vs /\ h.DictOf (mixKind P w) a vs := dk_rd ok (.inl e)
theorem key_of {ks : List Key} (ok : HOk P w H h) (e : H a = some (.tup (ks.map kV))) : (tupleKind (mixKind P w)).is h ks a := by
 obtain ⟨_, its, r, o, h1, h2, n, h3⟩ := (show ObjOk P w H h a (.tup (ks.map kV)) from ok a _ e)
 exact ⟨o, its.toArray, n, h1, h2, h3, by simpa using items_are r⟩
theorem dt_rd {kvs : List (List Key × V)} (ok : HOk P w H h) (e : Rd H a (.dT kvs)) : kvs.length ≤ sizeLine /\ (a == sysModules) = false ∧
  ∃ xs, KT H kvs xs /\ h.DictOfH (tupleKind (mixKind P w)) a xs := by
 obtain ⟨z, y, xs, r, o, es, ep, h1, h2, h3, h4, h5⟩ := (show ObjOk P w H h a (.dT kvs) from rd_of ok e)
 refine ⟨z, y, xs, r, o, es, ep, h1, h2, h3, h4, fun x hx => ?_, h5⟩
 have all : ∀ {l : List (List Key × V)} {m : List (List Key × Addr × Value)}, KT H l m -> ∀ x ∈ m, (tupleKind (mixKind P w)).is h x.1 x.2.1 := by
  intro l m q
  induction q with
  | nil => intro x hx; exact nomatch hx
  | @cons p q ps qs hq t ih =>
   intro x hx
   rcases List.mem_cons.mp hx with e | hx
   ·subst e
    exact key_of ok (by rw [← hq.1]; exact hq.2.1)
   ·exact ih x hx
 exact all r x hx
theorem dt_of {kvs : List (List Key × V)} (ok : HOk P w H h) (e : H a = some (.dT kvs)) : kvs.length ≤ sizeLine /\ (a == sysModules) = false ∧
  ∃ xs, KT H kvs xs /\ h.DictOfH (tupleKind (mixKind P w)) a xs := dt_rd ok (.inl e)
end
def DGet (H : Hp) (a : Addr) (y : V) (r : Option V) : Prop :=
 (∃ kvs k, Rd H a (.dK kvs) /\ y = kV k /\ r = valV kvs k) ∨ ∃ kvs k b, Rd H a (.dT kvs) /\ y = .ref b /\ H b = some (.tup (k.map kV)) /\ r = valV kvs k
def DPut (H : Hp) (a : Addr) (y v : V) (H' : Hp) : Prop :=
 (∃ kvs k, H a = some (.dK kvs) /\ y = kV k /\ kvs.length < sizeLine /\ H' = upd H a (.dK (putK kvs k v))) ∨
 ∃ kvs k b, H a = some (.dT kvs) /\ y = .ref b /\ H b = some (.tup (k.map kV)) /\ kvs.length < sizeLine /\ H' = upd H a (.dT (putK kvs k v))
theorem DGet.k {H : Hp} {a : Addr} {kvs : List (Key × V)} {k : Key} (e : H a = some (.dK kvs)) : DGet H a (kV k) (valV kvs k) := .inl ⟨kvs, k, .inl e, rfl, rfl⟩
theorem DPut.k {H : Hp} {a : Addr} {kvs : List (Key × V)} {k : Key} {v : V} (e : H a = some (.dK kvs)) (hl : kvs.length < sizeLine) : DPut H a (kV k) v (upd H a (.dK (putK kvs k v))) := .inl ⟨kvs, k, e, rfl, hl, rfl⟩
section
variable {X : Cx} {pins : List (Addr × Obj)} {σ : St} {H : Hp} {s : Shared} {a : Addr} {y v : V} {u r : Value} {o : Option V} {A : Around} {E : Value -> Shared -> Prop}
theorem Inv.big (I : Inv X pins σ H s) : sysModules < s.heap.objs.size := by
 have h : mainGlobals < s.heap.objs.size := (I.mod.glob.keeps I.bk).lt
 exact Nat.lt_trans (by decide) h
theorem d_write {h' : Heap} {t' : Nat} {ob : HO} (I : Inv X pins σ H s) (mu : Mut (H a)) (hs : Heap.SameBut a s.heap h') (he : ∃ q, h'.get? a = some q) (new : ObjOk X.prog X.w (upd H a ob) h' a ob) :
  Inv X pins σ (upd H a ob) { s with heap := h', toks := t' } :=
 I.write (x := a) (e := a) mu (.inl rfl) (fun b q hb z => (hs.2 b hb).trans z) he new
theorem dk_new {P : Program} {w : World} {H' : Hp} {h' : Heap} {kvs : List (Key × V)} {vs : List (Key × Value)} (z : kvs.length ≤ sizeLine) (hd : (a == sysModules) = false) (rel : KV kvs vs) (dd : h'.DictOf (mixKind P w) a vs) :
  ObjOk P w H' h' a (.dK kvs) := ⟨z, hd, vs, rel, dd⟩
theorem d_setItem {H' : Hp} {Q : Unit -> Shared -> Prop} (hu : A.units + 1 < cLine) (I : Inv X pins σ H s) (g : DPut H a y v H') (ry : RelV y u) (rv : RelV v r) (h : ∀ s', Inv X pins σ H' s' -> Q () s') :
  wpAny (model X.prog X.w) A (setItem (.ref a) u r) Q E s := by
 rcases g with ⟨kvs, k, e, ey, l, eH⟩ | ⟨kvs, k, b, e, ey, eb, l, eH⟩
 ·subst ey eH
  obtain ⟨z, hd, vs, rel, dd⟩ := dk_of I.hok e
  have hz : vs.length ≤ sizeLine := by rw [← rel.length]; exact z
  have hl : (putK kvs k v).length ≤ sizeLine := by have := length_putK kvs k v; omega
  refine wpAny_setItem_pairs (hsz := hz) (kV_is ry) dd fun h' dd' hs => h _ ?_
  have he : ∃ q, h'.get? a = some q := let ⟨q, _, _, hq, _⟩ := dd'; ⟨q, hq⟩
  exact d_write I (by rw [e]; exact True.intro) hs he (dk_new hl hd (rel.put k rv) dd')
 ·subst ey eH
  cases (show u = Value.ref b from ry)
  obtain ⟨z, hd, xs, rel, dd⟩ := dt_of I.hok e
  have hz : xs.length ≤ sizeLine := by rw [← Paired.length rel]; exact z
  have hl : (putK kvs k v).length ≤ sizeLine := by have := length_putK kvs k v; omega
  refine wpAny_setItem_heap (hsz := hz) (tupleKind_room_in1 hu) (key_of I.hok eb) dd fun h' dd' hs => h _ ?_
  obtain ⟨q, es, ep, hq, h2, h3, h4, _, h5⟩ := dd'
  refine d_write I (by rw [e]; exact True.intro) hs ⟨q, hq⟩ ⟨hl, hd, _, (rel.put k eb rv).keeps fun c ys ec => ?_, q, es, ep, hq, h2, h3, h4, h5⟩
  rw [upd_ne (ne_of ec e (fun z => nomatch z))]
  exact ec
end
section
variable {X : Cx} {pins : List (Addr × Obj)} {σ : St} {H : Hp} {s : Shared} {a : Addr} {kvs : List (Key × V)} {k : Key} {u : Value} {A : Around} {E : Value -> Shared -> Prop}
end
def NoSl (i : Expr) : Prop := ∀ ov iv, subscripted i false ov iv = operate [ov, iv] (getItem ov iv)
def tDGet (td ty : TE) : TE := fun σ H Q => td σ H fun x H1 => ty σ H1 fun y H2 => ∃ a v, x = .ref a /\ DGet H2 a y (some v) /\ Q v H2
def tDIn (ty td : TE) : TE := fun σ H Q => ty σ H fun y H1 => td σ H1 fun x H2 => ∃ a o, x = .ref a /\ DGet H2 a y o /\ Q (.bl o.isSome) H2
def tDNotIn (ty td : TE) : TE := fun σ H Q => ty σ H fun y H1 => td σ H1 fun x H2 => ∃ a o, x = .ref a /\ DGet H2 a y o /\ Q (.bl (!o.isSome)) H2
def sDPut (td ty tv : TE) : TS := fun D σ H => tv σ H fun v H1 => td σ H1 fun x H2 => ty σ H2 fun y H3 => ∃ a H4, x = .ref a /\ DPut H3 a y v H4 /\ D.nx σ H4
def sDAug (td ty tv : TE) (rd : V -> V -> Hp -> VK -> Prop) : TS := fun D σ H => td σ H fun x H1 => ty σ H1 fun y H2 => ∃ a v, x = .ref a /\ DGet H2 a y (some v) ∧
 tv σ H2 fun y2 H3 => rd v y2 H3 fun z H4 => ∃ H5, DPut H4 a y z H5 /\ D.nx σ H5
section
variable {X : Cx} {o i e value : Expr} {pos pos' tpos : Pos} {td ty tv : TE}
theorem ps_dput (hu : X.A.units + 1 < cLine) (ho : PE X o td) (hi : PE X i ty) (hv : PE X value tv) (hs : swapsWith value (some (.Subscript o i pos')) pos.line X.env = pure false) :
  PS X (.Assign [.Subscript o i pos'] value pos) (sDPut td ty tv) := by
 intro pins s σ H D I h
 refine wpAny_Assign_Subscript (thn (hv pins s σ H _ I h) fun r s1 ⟨v, H1, I1, rv, q1⟩ => thn (ho pins s1 σ H1 _ I1 q1) fun u s2 ⟨x, H2, I2, rx, q2⟩ => thn (hi pins s2 σ H2 _ I2 q2) fun iv s3 ⟨y, H3, I3, ry, a, H4, ex, g, q3⟩ => ?_) hs
 subst ex
 obtain rfl : u = Value.ref a := rx
 exact d_setItem hu I3 g ry rv fun s4 I4 => ⟨σ, H4, I4, q3⟩
end
theorem dk_empty {P : Program} {w : World} {H : Hp} (h : Heap) (hb : sysModules < h.objs.size) : ObjOk P w H (h.push { cls := .type "dict", data := .dict #[] }) h.objs.size (.dK []) :=
 ⟨Nat.zero_le _, beq_eq_false_iff_ne.mpr (Ne.symm (Nat.ne_of_lt hb)), [], .nil, Heap.DictOf.new h⟩
def tDNewK : TE := fun _ H Q => ∀ p, H p = none -> Q (.ref p) (upd H p (.dK []))
section
variable {X : Cx} {pos : Pos}
theorem pe_dnewK : PE X (.Dict [] [] pos) tDNewK := fun pins s σ H Q I h =>
 wpAny_Dict_empty ⟨.ref s.heap.objs.size, _, I.laid (a := s.heap.objs.size) (o := .dK []) (t' := s.toks) (fun _ _ q => Heap.get?_push_of_some _ q) (Nat.le_refl _) (dk_empty s.heap I.big), rfl, h _ (I.hok.fresh (Nat.le_refl _))⟩
end
def tPairs : List (TE × TE) -> St -> Hp -> (List (V × V) -> Hp -> Prop) -> Prop
 | [], _, H, Q => Q [] H
 | (tk, tv) :: r, σ, H, Q => tk σ H fun x H1 => tv σ H1 fun y H2 => tPairs r σ H2 fun ps H3 => Q ((x, y) :: ps) H3
abbrev VV : List (V × V) -> List (Value × Value) -> Prop := Paired fun p q => RelV p.1 q.1 /\ RelV p.2 q.2
def PPs (X : Cx) (pos : Pos) (keys : List (Option Expr)) (values : List Expr) (trs : List (TE × TE)) : Prop :=
 ∀ (pins : List (Addr × Obj)) (s : Shared) (σ : St) (H : Hp) (Q : List (V × V) -> Hp -> Prop), Inv X pins σ H s -> tPairs trs σ H Q →
  wpAny (model X.prog X.w) X.A (evalPairs (pairTrees keys values X.env pos)) (fun vs s' => ∃ ps H', Inv X pins σ H' s' /\ VV ps vs /\ Q ps H') X.xe s
def mergeK (kvs more : List (Key × V)) : List (Key × V) := more.foldl (fun acc kv => putK acc kv.1 kv.2) kvs
def tDisp (trs : List (TE × TE)) : TE := fun σ H Q => ∀ p, H p = none -> tPairs trs σ (upd H p (.dK [])) fun ps H2 => H2 p = some (.dK []) /\ ∃ kvs : List (Key × V), ps = kvs.map (fun kv => (kV kv.1, kv.2)) /\ kvs.length ≤ 15 /\ Q (.ref p) (upd H2 p (.dK (mergeK [] kvs)))
structure M1 (X : Cx) (o : Expr) (m : Str) (apos : Pos) (e : Expr) (cpos : Pos) : Prop where
 base : attributeBase o m X.env (eval o X.env) = eval o X.env
 few : ((backTo cpos (starEach [e] X.env)).all (fun x => !x.1) && (backToKw cpos (keywordEach [] X.env)).all (fun x => x.1.isSome)
  && decide (([e] : List Expr).length + ([] : List Keyword).length + (if ([] : List Keyword).isEmpty then 0 else 1) < 30)) = true
 line : (apos.endLine == cpos.line) = true
 trees : backTo cpos (starEach [e] X.env) = [(false, eval e X.env)]
structure M2 (X : Cx) (o : Expr) (m : Str) (apos : Pos) (e f : Expr) (cpos : Pos) : Prop where
 base : attributeBase o m X.env (eval o X.env) = eval o X.env
 few : ((backTo cpos (starEach [e, f] X.env)).all (fun x => !x.1) && (backToKw cpos (keywordEach [] X.env)).all (fun x => x.1.isSome)
  && decide (([e, f] : List Expr).length + ([] : List Keyword).length + (if ([] : List Keyword).isEmpty then 0 else 1) < 30)) = true
 line : (apos.endLine == cpos.line) = true
 trees : backTo cpos (starEach [e, f] X.env) = [(false, eval e X.env), (false, eval f X.env)]
def IsD (H : Hp) (a : Addr) : Prop := (∃ kvs, Rd H a (.dK kvs)) ∨ ∃ kvs, Rd H a (.dT kvs)
theorem isD_at {X : Cx} {pins : List (Addr × Obj)} {σ : St} {H : Hp} {s : Shared} {a : Addr} (I : Inv X pins σ H s) (d : IsD H a) :
  s.TypeIs (.ref a) "dict" /\ (∀ b, Value.ref a = .ref b -> ∃ ob, s.heap.get? b = some ob /\ ob.dict = none) /\ (a == sysModules) = false := by
 rcases d with ⟨kvs, e⟩ | ⟨kvs, e⟩
 ·obtain ⟨_, hd, vs, _, dd⟩ := dk_rd I.hok e
  refine ⟨dd.typeIs, fun b q => ?_, hd⟩
  cases q
  obtain ⟨ob, _, _, h1, h2, _⟩ := dd
  exact ⟨ob, h1, h2.2.1⟩
 ·obtain ⟨_, hd, xs, _, dd⟩ := dt_rd I.hok e
  refine ⟨dd.typeIs, fun b q => ?_, hd⟩
  cases q
  obtain ⟨ob, _, _, h1, h2, _⟩ := dd
  exact ⟨ob, h1, h2.2.1⟩
section
variable {X : Cx} {pins : List (Addr × Obj)} {σ : St} {H : Hp} {s : Shared} {a : Addr} {y d : V} {u r : Value} {o : Option V} {A : Around} {E : Value -> Shared -> Prop}
theorem d_get2 {Q : Value -> Shared -> Prop} (hu : A.units + 1 < cLine) (I : Inv X pins σ H s) (g : DGet H a y o) (ry : RelV y u) (rd : RelV d r) (h : ∀ w' s', Inv X pins σ H s' -> RelV (o.getD d) w' -> Q w' s') :
  wpAny (model X.prog X.w) A (call (.builtin "dict.get") [.ref a, u, r]) Q E s := by
 rcases g with ⟨kvs, k, e, ey, l⟩ | ⟨kvs, k, b, e, ey, eb, l⟩
 ·subst ey
  obtain ⟨z, hd, vs, rel, dd⟩ := dk_rd I.hok e
  refine call_meetsIn PySem.F.slot_dict_get dd.typeIs PySem.F.entry_dict_get (PySem.F.args_dict_get_3 _ _ _) (meets_dict_get_default (mixKind X.prog X.w) a (kV_is ry) hd r) ⟨_, dd.mapOf, h _ _ (I.tok _) ?_⟩
  rw [l]
  exact (rel.val k).getD rd
 ·subst ey
  cases (show u = Value.ref b from ry)
  obtain ⟨z, hd, xs, rel, dd⟩ := dt_rd I.hok e
  refine call_meetsIn PySem.F.slot_dict_get dd.typeIs PySem.F.entry_dict_get (PySem.F.args_dict_get_3 _ _ _) (meetsH_dict_get_default (tupleKind (mixKind X.prog X.w)) a b hd r) ⟨tupleKind_room_in1 hu, k, xs, key_of I.hok eb, dd, h _ _ (I.tok _) ?_⟩
  rw [l]
  exact (rel.val k).getD rd
end
def tDGet1 (td ty : TE) : TE := fun σ H Q => td σ H fun x H1 => ∃ a, x = .ref a /\ IsD H1 a /\ ty σ H1 fun y H2 => ∃ o, DGet H2 a y o /\ Q (o.getD .non) H2
def tDGet2 (td ty tx : TE) : TE := fun σ H Q => td σ H fun x H1 => ∃ a, x = .ref a /\ IsD H1 a /\ ty σ H1 fun y H2 => tx σ H2 fun z H3 => ∃ o, DGet H3 a y o /\ Q (o.getD z) H3
section
variable {X : Cx} {o e f : Expr} {apos cpos : Pos} {td ty tx : TE}
theorem pe_dget2 (hu : X.A.units + 1 < cLine) (ho : PE X o td) (he : PE X e ty) (hf : PE X f tx) (m : M2 X o "get" apos e f cpos) : PE X (.Call (.Attribute o "get" apos) [e, f] [] cpos) (tDGet2 td ty tx) := by
 intro pins s σ H Q I h
 refine wpAny_Call_method m.base m.few m.line PySem.F.plainAttrs_dict PySem.F.slot_dict_get PySem.F.type_dict_get (thn (ho pins s σ H _ I h) fun u s1 ⟨x, H1, I1, rx, a, ex, d, q1⟩ => ?_)
 subst ex
 obtain rfl : u = Value.ref a := rx
 obtain ⟨t1, t2, _⟩ := isD_at I1 d
 refine ⟨t1, t2, ?_⟩
 rw [m.trees]
 refine Calls.callWith_builtin rfl (Calls.evalArgs_plain (Calls.spliced_cons (thn (he pins s1 σ H1 _ I1 q1) fun iv s2 ⟨y, H2, I2, ry, q2⟩ =>
  Calls.spliced_cons (thn (hf pins s2 σ H2 _ I2 q2) fun fv s3 ⟨z, H3, I3, rz, ov, g, q3⟩ => Calls.spliced_nil ?_))))
 exact d_get2 hu I3 g ry rz fun w' s4 I4 rw' => ⟨_, H3, I4, rw', q3⟩
end
end L2
namespace B
open PySem PySem.Spec L2 PyProof.Rows
theorem comp_mapT {α β : Type} {K : PySem.W.Frag} {H : Hp} {D a : Addr} {xs : List V} {ds : List α} {P : Hp -> V -> β -> Prop} {f : α -> β} {src : List (Option Nat)} {σ : L2.St} {g : TG} {tt : TT} {te : TE} {Q : Hp -> Prop}
  (mono : ∀ H H' v d, Tst K H H' -> P H v d -> P H' v d) (hD : H D = none) (hS : SqT K H a xs) (hl : xs.length = ds.length) (hn : ds.length ≤ 1000)
  (turn : ∀ (i : Nat) (x : V) (d : α) (H' : Hp), xs[i]? = some x -> ds[i]? = some d -> Same H H' -> ∀ (R : VK) (E : Hp -> Prop), (∀ v H'', Same H' H'' -> P H'' v (f d) -> R v H'') →
   g x (frees src σ) H' fun σ2 H2 => Ext (frees src σ) σ2 /\ tt σ2 H2 fun ok H3 => if ok = true then te σ2 H3 R else E H3)
  (fin : ∀ H' ys, Same H H' -> H' D = some (.lst ys) -> Als (P H') ys (ds.map f) -> Q H') :
  ∃ W : Nat -> Nat -> List V -> Hp -> Prop, (∃ m, W 0 m [] (upd H D (.lst []))) /\ ∀ i m ys H, W i m ys H -> ((Itt K a).stop i H /\ Q H) ∨ ((Itt K a).go i H /\ ∀ x H', (Itt K a).yld i H x H' →
   g x (frees src σ) H' fun σ2 H2 => Ext (frees src σ) σ2 /\ tt σ2 H2 fun ok H3 =>
    if ok = true then te σ2 H3 fun y H4 => H4 D = some (.lst ys) /\ ys.length < sizeLine /\ ∃ m', m' < m /\ W (i + 1) m' (ys ++ [y]) (upd H4 D (.lst (ys ++ [y]))) else ∃ m', m' < m /\ W (i + 1) m' ys H3) := by
 refine ⟨fun i m ys H' => i ≤ ds.length /\ m = ds.length - i /\ H' D = some (.lst ys) /\ Same H H' /\ Als (P H') ys ((ds.take i).map f), ⟨_, Nat.zero_le _, rfl, upd_same, same_new hD _, .nil⟩, ?_⟩
 rintro i m ys H1 ⟨hi, rfl, d1, s1, al1⟩
 have hS1 : SqT K H1 a xs := Tst.same s1 _ _ hS
 by_cases hix : i < ds.length
 ·have hx0 : xs[i]? = some (xs[i]'(by omega)) := List.getElem?_eq_getElem _
  refine .inr ⟨⟨xs, _, hS1, hx0⟩, ?_⟩
  rintro x H2 ⟨rfl, hy⟩
  have hx := hy xs hS1
  obtain ⟨d, hd⟩ : ∃ d, ds[i]? = some d := ⟨_, List.getElem?_eq_getElem hix⟩
  refine turn i x d _ hx hd s1 _ _ fun v H3 s3 p3 => ?_
  have d3 : H3 D = some (.lst ys) := s3 _ _ d1
  have tm : Tst K H2 (upd H3 D (.lst (ys ++ [v]))) := (Tst.same s3).trans (Tst.up d3 _)
  refine ⟨d3, small1000 (by rw [al1.len, List.length_map, List.length_take]; omega), ds.length - (i + 1), by omega, hix, rfl, upd_same, fun b o q => ?_, ?_⟩
  ·rw [upd_ne (ne_of_none q hD)]
   exact s3 _ _ (s1 _ _ q)
  ·rw [List.take_add_one, hd, List.map_append]
   exact (al1.mono fun v d p => mono _ _ _ _ tm p).snoc (mono _ _ _ _ (Tst.up d3 _) p3)
 ·have e : i = ds.length := by omega
  subst e
  rw [List.take_length] at al1
  exact .inl ⟨⟨xs, hS1, by omega⟩, fin H1 ys s1 d1 al1⟩
def tyD : PyData -> String
 | .none => "NoneType"
 | .bool _ => "bool"
 | .int _ => "int"
 | .str _ => "str"
 | .list _ => "list"
 | .tuple _ => "tuple"
 | .dict _ => "dict"
def rIsiD (K : PySem.W.Frag) : List V -> Hp -> VK -> Prop := fun xs H Q => ∃ v d n b, xs = [v, .ty n] /\ Deep K H v d /\ kitTT (tyD d) n = some b /\ Q (.bl b) H
def wholeD : PyData -> Bool
 | .int _ => true
 | _ => false
def tupD (n : Nat) : PyData -> Bool
 | .tuple xs => decide (xs.length = n)
 | _ => false
def ratD : PyData -> Bool
 | .tuple [.int a, .int b] => decide (1 ≤ b) && decide (Int.gcd a b = 1)
 | _ => false
def pairD : PyData -> Bool
 | .tuple [x, y] => ratD x && ratD y
 | _ => false
theorem DeepAll.len {K : PySem.W.Frag} {H : Hp} : ∀ {xs : List V} {ds : List PyData}, DeepAll K H xs ds -> xs.length = ds.length
 | _, _, .nil => rfl
 | _, _, .cons _ t => congrArg Nat.succ t.len
structure Sh (k n : Nat) (d : PyData) : Prop where
 sh : d.showable = true
 nd : d.hasDict = false
 dp : d.depth ≤ k
 sz : d.shown.length ≤ n
mutual
theorem Deep.same {K : PySem.W.Frag} {H H' : Hp} (s : Same H H') : ∀ {v : V} {d : PyData}, Deep K H v d -> Deep K H' v d
 | _, _, .non => .non
 | _, _, .bl b => .bl b
 | _, _, .int i => .int i
 | _, _, .str x => .str x
 | _, _, .lst e t => .lst (s.seq e) (DeepAll.same s t)
 | _, _, .tup e t => .tup (Tst.same s _ _ e) (DeepAll.same s t)
theorem DeepAll.same {K : PySem.W.Frag} {H H' : Hp} (s : Same H H') : ∀ {vs : List V} {ds : List PyData}, DeepAll K H vs ds -> DeepAll K H' vs ds
 | _, _, .nil => .nil
 | _, _, .cons h t => .cons (Deep.same s h) (DeepAll.same s t)
end
end B
namespace B
open PySem PySem.Spec L2 PyProof.Rows
def rCatU (K : PySem.W.Frag) : R2 := fun x y H Q => ∃ a b xs ys, x = .ref a /\ y = .ref b /\ SqT K H a xs /\ SqT K H b ys /\ xs.length + ys.length ≤ sizeLine /\ ∀ p H', Same H H' -> SqT K H' p (xs ++ ys) -> Q (.ref p) H'
def rSlU (K : PySem.W.Frag) : V -> Option Int -> Option Int -> Hp -> VK -> Prop := fun x lo hi H Q => ∃ a xs, x = .ref a /\ SqT K H a xs /\ ∀ p H', Same H H' -> SqT K H' p (cutV xs lo hi) -> Q (.ref p) H'
theorem sl_tupU {X : Cx} : SlR X (rSlU X.K) := by
 intro pins s σ H x v vl vu lo hi sl Q I rx hs pl pu h
 obtain ⟨a, xs, rfl, hx, q⟩ := h
 refine sl_tupA pins s σ H _ v vl vu lo hi sl Q I rx hs pl pu ?_
 by_cases c : HT.sIx xs.length 0 lo = 0 /\ HT.sIx xs.length xs.length hi = xs.length
 ·refine .inl ⟨a, xs, rfl, hx, c.1, c.2, q a H (Same.refl H) ?_⟩
  have e : cutV xs lo hi = xs := by
   unfold cutV
   rw [c.1, c.2, List.drop_zero, Nat.sub_zero, List.take_length]
  rw [e]
  exact hx
 ·exact .inr ⟨a, xs, rfl, hx, c, fun p hp => q p _ (same_new hp _) (SqT.of upd_same)⟩
theorem cut_to {xs : List V} {n : Nat} (h : n ≤ xs.length) : cutV xs none (some (n : Int)) = xs.take n := by
 unfold cutV
 rw [HT.sIx_nat, HT.sIx_none, Nat.min_eq_left h, Nat.sub_zero, List.drop_zero]
theorem cut_from {xs : List V} {n : Nat} (h : n ≤ xs.length) : cutV xs (some (n : Int)) none = xs.drop n := by
 unfold cutV
 rw [HT.sIx_nat, HT.sIx_none, Nat.min_eq_left h]
 exact List.take_of_length_le (by rw [List.length_drop]; omega)
def Stat (K : PySem.W.Frag) (s : Addr) : Prop := ∃ ns : List Int, ns.length ≤ 63 /\ ∀ H : Hp, SqL K H s (ns.map V.int)
structure Tape3 (K : PySem.W.Frag) (H : Hp) (t s : Addr) : Prop where
 ex : ∃ (ns : List Int) (p q : Int), H t = some (.lst [.ref s, .int p, .int q]) /\ ((Rd H s (.lst (ns.map V.int)) /\ s ≠ t) ∨ ∀ H', SqL K H' s (ns.map V.int)) /\ ns.length ≤ 63 /\ 0 ≤ p /\ 0 ≤ q
def sp_tape3 (K : PySem.W.Frag) : Sp := fun vs H Q _ => ∃ (a : Addr) (ns : List Int), vs = [.ref a] /\ SqL K H a (ns.map V.int) /\ ns.length ≤ 63 /\ ∀ (t : Addr) (H' : Hp), Same H H' -> H t = none -> Tape3 K H' t a -> Q (.ref t) H'
def sp_draw3 (K : PySem.W.Frag) : Sp := fun vs H Q _ => ∃ (t s : Addr) (m : Int), vs = [.ref t, .int m] /\ Tape3 K H t s /\ 0 < m /\ m < 1073741824 /\ ∀ (r : Int) (xs : List V), 0 ≤ r -> r < m -> Tape3 K (upd H t (.lst xs)) t s -> Q (.int r) (upd H t (.lst xs))
section
set_option autoImplicit true
set_option relaxedAutoImplicit true
theorem qi_enum  {X : Cx} {elts : List Expr} {x1} {tp p pos : Pos} {a : Expr} {ta : TA} (hg : Gl X "enumerate") (hm : X.mg "enumerate" = none) (ha : QA X [a] ta) (hs : starEach [a] X.env = [(false, eval a X.env)] := by rfl) : QI X (.Tuple elts x1 tp) (.Call (.Name "enumerate" p) [a] [] pos) (iEnT X.K ta) := ⟨pi_enum hg hm ha.p hs⟩
end
theorem ints_of : ∀ {ns : List Int} {us : List Value}, Vals (ns.map V.int) us -> IntsAre us ns
 | [], _, .nil => .nil
 | n :: ns, _, .cons r t => by
  obtain ⟨tk, rfl⟩ := (show ∃ t, _ = Value.int n t from r)
  exact .cons _ _ (ints_of t)
theorem call_sumL {X : Cx} (hc : X.calm = true) : CallR X (.builtin "sum") (fun xs H Q => ∃ (p : Addr) (ns : List Int), xs = [.ref p] /\ SqL X.K H p (ns.map V.int) /\ Q (.int ns.sum) H) := by
 intro pins s σ H xs us Q I r h
 obtain ⟨p, ns, rfl, hq, q⟩ := h
 obtain ⟨u, rfl, rx⟩ := vals1 r
 cases rx
 obtain ⟨its, rv, pl, hz⟩ := I.list hq
 have hi := ints_of rv
 obtain ⟨zs, ez⟩ := hi.allInts.items
 have hl := pl.isList
 rw [ez] at hl
 have en : numsOf its = ns := hi.numsOf
 rw [show its = its.toArray.toList from rfl, ez, nums_intItems] at en
 refine sum_intListG (I.ok.hd hc) hl fun h' tk t' hk => ?_
 rw [preSum_eq, List.take_of_length_le (by simp), en]
 exact ⟨.int ns.sum, H, I.kept (t' := tk) hk, ⟨_, rfl⟩, q⟩
section
variable {prog : Program} {w : World} {A : Around} {E : Value -> Shared -> Prop} {s : Shared}
end
def upTo (n : Nat) : List Int := (List.range n).map fun i : Nat => (i : Int)
def tRng1 (ta : TA) : TE := fun σ H Q => ta σ H fun vs H1 => ∃ j : Int, vs = [.int j] /\ ∀ p, H1 p = none -> Q (.ref p) (upd H1 p (.rng 0 j))
def Itd (hi : Int) (n : Nat) : It := ⟨fun i _ => i < n, fun i H x H' => H' = H /\ x = .int (hi - i), fun i _ => n ≤ i⟩
def iRngD (ta : TA) : TI := fun σ H R => ta σ H fun vs H1 => ∃ i j : Int, vs = [.int i, .int j, .int (-1)] /\ (-1000 ≤ i /\ i ≤ 1000 /\ -1000 ≤ j /\ j ≤ 1000) /\ R (Itd i (i - j).toNat) H1
section
set_option autoImplicit true
set_option relaxedAutoImplicit true
end
structure Wlk (J : It) (H : Hp) (n : Nat) (P : Nat -> V -> Hp -> Prop) : Prop where
 go : ∀ i H', i < n -> Same H H' -> J.go i H'
 stop : ∀ H', Same H H' -> J.stop n H'
 yld : ∀ i H' x H'', i < n -> Same H H' -> J.yld i H' x H'' -> Same H' H'' /\ P i x H''
section
variable {prog : Program} {w : World} {A : Around} {E : Value -> Shared -> Prop} {s : Shared}
end
theorem hit_is {h : Heap} {x y : Value} {d e : PyData} {as bs : List Addr} (rx : Reads h x d as) (ry : Reads h y e bs) (cd : d.canLay0 = true) (ce : e.canLay0 = true) (dp : e.depth ≤ 32) (rf : PyData.eqv d d = true) : hitAt h x d y = PyData.eqv e d := by
 unfold hitAt
 by_cases q : y = x
 ·subst q
  rw [if_pos rfl, SeqAt.Reads.unique _ _ _ _ _ ce ry rx, rf]
 ·have z : ∃ d', d'.canLay0 = true /\ d'.depth ≤ 32 /\ ∃ as, Reads h y d' as := ⟨e, ce, dp, bs, ry⟩
  rw [if_neg q, dif_pos z]
  obtain ⟨c, _, cs, r⟩ := z.choose_spec
  rw [SeqAt.Reads.unique _ _ _ _ _ ce ry r]
def Lays (ds : List PyData) : Prop := ∀ e ∈ ds, e.canLay0 = true /\ e.depth ≤ 32
theorem hits_map {X : Cx} {pins : List (Addr × Obj)} {σ : L2.St} {H : Hp} {s : Shared} (I : Inv X pins σ H s) {v : Value} {d : PyData} {as : List Addr} (rx : Reads s.heap v d as) (cd : d.canLay0 = true) (rf : PyData.eqv d d = true) :
  ∀ {xs : List V} {us : List Value} {ds : List PyData}, Vals xs us -> DeepAll X.K H xs ds -> Lays ds -> us.map (hitAt s.heap v d) = ds.map fun e => PyData.eqv e d
 | _, _, _, .nil, .nil, _ => rfl
 | _, _, _, .cons r t, .cons h k, l => by
  obtain ⟨bs, ry⟩ := Deep.reads I h r
  obtain ⟨ce, dp⟩ := l _ List.mem_cons_self
  rw [List.map_cons, List.map_cons, hit_is rx ry cd ce dp rf, hits_map I rx cd rf t k fun e he => l e (List.mem_cons_of_mem _ he)]
theorem DeepAll.known {K : PySem.W.Frag} {H : Hp} : ∀ {xs : List V} {ds : List PyData}, DeepAll K H xs ds -> Lays ds -> Known K H xs
 | _, _, .nil, _, x, hx => by cases hx
 | _, _, .cons h t, l, x, hx => by
  rcases List.mem_cons.mp hx with rfl | hx
  ·obtain ⟨a, b⟩ := l _ List.mem_cons_self
   exact ⟨_, h, a, b⟩
  ·exact DeepAll.known t (fun e he => l e (List.mem_cons_of_mem _ he)) x hx
def rInD (K : PySem.W.Frag) : R2 := fun x y H Q => ∃ p xs ds d, y = .ref p /\ SqL K H p xs /\ DeepAll K H xs ds /\ Lays ds /\ Deep K H x d /\ d.canLay0 = true /\ PyData.eqv d d = true /\ Q (.bl (ds.any fun e => PyData.eqv e d)) H
def rNotInD (K : PySem.W.Frag) : R2 := fun x y H Q => ∃ p xs ds d, y = .ref p /\ SqL K H p xs /\ DeepAll K H xs ds /\ Lays ds /\ Deep K H x d /\ d.canLay0 = true /\ PyData.eqv d d = true /\ Q (.bl (!ds.any fun e => PyData.eqv e d)) H
theorem any_of_map {α β : Type} {f : α -> Bool} {g : β -> Bool} : ∀ {l : List α} {m : List β}, l.map f = m.map g -> l.any f = m.any g
 | [], [], _ => rfl
 | [], _ :: _, h => by simp at h
 | _ :: _, [], h => by simp at h
 | a :: l, b :: m, h => by
  rw [List.map_cons, List.map_cons] at h
  injection h with h1 h2
  rw [List.any_cons, List.any_cons, h1, any_of_map h2]
theorem op_inD {X : Cx} {k : Nat} (hr : Room k X.A) : OpR X (compareOp .In) (rInD X.K) := by
 intro pins s σ H x y v u Q I rx ry h
 obtain ⟨p, xs, ds, d, rfl, hq, hd, ls, hx, cd, rf, q⟩ := h
 cases ry
 obtain ⟨its, r, pl, hz⟩ := I.list hq
 obtain ⟨as, ra⟩ := Deep.reads I hx rx
 refine SeqAt.in_listAt (hitAt s.heap v d) pl.isList (fun w hw => hitAt_eq ra cd (by show X.A.units + 1 + 32 < cLine; have := hr.units; omega) (known_reads I r (hd.known ls) w (by simpa using hw))) ⟨_, H, I, ?_, q⟩
 show Value.bool (its.toArray.any (hitAt s.heap v d)) = Value.bool (ds.any fun e => PyData.eqv e d)
 rw [List.any_toArray, any_of_map (hits_map I ra cd rf r hd ls)]
def rInDT (K : PySem.W.Frag) : R2 := fun x y H Q => ∃ p xs ds d, y = .ref p /\ SqT K H p xs /\ DeepAll K H xs ds /\ Lays ds /\ Deep K H x d /\ d.canLay0 = true /\ PyData.eqv d d = true /\ Q (.bl (ds.any fun e => PyData.eqv e d)) H
def rIndexD (K : PySem.W.Frag) : V -> List V -> Hp -> VK -> Prop := fun x vs H Q => ∃ p xs ds w d, x = .ref p /\ vs = [w] /\ SqL K H p xs /\ DeepAll K H xs ds /\ Lays ds /\ Deep K H w d /\ d.canLay0 = true /\ PyData.eqv d d = true /\ (∃ e ∈ ds, PyData.eqv e d = true) ∧
 ∀ (j : Nat) (e : PyData), ds[j]? = some e -> PyData.eqv e d = true -> (∀ m f, m < j -> ds[m]? = some f -> PyData.eqv f d = false) -> Q (.int j) H
theorem at_of_map {α β γ : Type} {f : α -> γ} {g : β -> γ} {l : List α} {m : List β} (h : l.map f = m.map g) {j : Nat} {a : α} {b : β} (ha : l[j]? = some a) (hb : m[j]? = some b) : f a = g b := by
 have e : (l.map f)[j]? = (m.map g)[j]? := by rw [h]
 rw [List.getElem?_map, List.getElem?_map, ha, hb] at e
 exact Option.some.inj e
theorem mt_indexD {X : Cx} {k : Nat} (hr : Room k X.A) : MtR X "list.index" (rIndexD X.K) := by
 intro pins s σ H x vs v us Q I rx rv h
 obtain ⟨p, xs, ds, w, d, rfl, rfl, hq, hd, ls, hx, cd, rf, ex, q⟩ := h
 cases (show v = Value.ref p from rx)
 obtain ⟨u, rfl, ru⟩ := rv.one
 obtain ⟨its, r, pl, hz⟩ := I.list hq
 obtain ⟨⟨cls, dd, data, sl⟩, ho, hc, n, hdt⟩ := id pl.isList
 simp only at hc hdt
 subst hc hdt
 obtain ⟨as, ra⟩ := Deep.reads I hx ru
 have mp := hits_map I ra cd rf r hd ls
 have hl := r.length
 have hl2 := hd.len
 have l12 : its.length = ds.length := by omega
 obtain ⟨e, he, eh⟩ := ex
 have some_hit : ∃ y ∈ its, hitAt s.heap u d y = true := by
  obtain ⟨j, hj⟩ := List.getElem?_of_mem he
  have hjl := (List.getElem?_eq_some_iff.mp hj).1
  have hy : its[j]? = some (its[j]'(by omega)) := List.getElem?_eq_getElem _
  exact ⟨_, List.mem_of_getElem? hy, (at_of_map mp hy hj).trans eh⟩
 obtain ⟨j, hj, e1, e2⟩ := first_hit (hitAt s.heap u d) its some_hit
 have hs : sizeLine < 2 ^ 63 - 1 := by decide
 refine call_meets PySem.F.slot_list_index ⟨_, ho, rfl⟩ PySem.F.entry_list_index (PySem.F.args_list_index_2 _ _)
  (SeqAt.list_indexAt p its.toArray n dd sl u (hitAt s.heap u d) j (by simpa using hj) (by omega) (by simpa using e1) (fun m hm' hlt => by simpa using e2 m (by simpa using hm') hlt))
  ⟨ho, fun y hy => hitAt_eq ra cd (by show X.A.units + 1 + 32 < cLine; have := hr.units; omega) (known_reads I r (hd.known ls) y (by simpa using hy)), ⟨.int j, H, I.tok _, ⟨_, rfl⟩, ?_⟩⟩
 have dj : ds[j]? = some (ds[j]'(by omega)) := List.getElem?_eq_getElem _
 have ij : its[j]? = some (its[j]'hj) := List.getElem?_eq_getElem _
 refine q j _ dj ((at_of_map mp ij dj).symm.trans e1) fun m f hm hf => ?_
 have hml := (List.getElem?_eq_some_iff.mp hf).1
 have im : its[m]? = some (its[m]'(by omega)) := List.getElem?_eq_getElem _
 exact (at_of_map mp im hf).symm.trans (e2 m (by omega) hm)
theorem fits_ix {j : Nat} (h : j ≤ 16777216) : Builtin.List.listFitsIndex (j : Int) = true := by
 unfold Builtin.List.listFitsIndex
 have e : (2 : Int) ^ 63 = 9223372036854775808 := by decide
 rw [e, Bool.and_eq_true, decide_eq_true_iff, decide_eq_true_iff]
 omega
theorem ins_meets (l : Addr) (its : Array Value) (n : Nat) (x : Int) (tk : Tok) (u2 : Value) (hc : Builtin.List.listFitsIndex x = true) (hsz : its.size ≤ sizeLine) :
  Meets (Builtin.«list.insert» ⟨[.ref l, .int x tk, u2], []⟩) (fun _ R s => s.heap.get? l = some { cls := .type "list", dict := none, data := .seq its n, slots := #[] } /\ R (.ok (.ret Value.none)) { s with heap := s.heap.update l (Obj.mapSeq fun xs => have k := if x < 0 then (x + ((xs.size : Nat) : Int)).toNat else min x.toNat xs.size; (xs.extract 0 k).push u2 ++ xs.extract k), toks := s.toks }) := by
 apply AutoListH.list_insert_list_int_val_1
 ·rw [hc]; simp
 ·exact hsz
def rInsert : V -> List V -> Hp -> VK -> Prop := fun x vs H Q => ∃ (l : Addr) (xs : List V) (j : Nat) (y : V), x = .ref l /\ vs = [.int j, y] /\ H l = some (.lst xs) /\ j ≤ xs.length /\ xs.length < sizeLine /\ Q .non (upd H l (.lst (xs.take j ++ y :: xs.drop j)))
theorem mt_insert {X : Cx} : MtM X "list.insert" rInsert := by
 intro pins s σ H x vs v us Q I rx rv h
 obtain ⟨l, xs, j, y, rfl, rfl, hH, hj, hz, q⟩ := h
 cases rx
 obtain ⟨u, u2, rfl, ru, ru2⟩ := vals2 rv
 obtain ⟨tk, rfl⟩ := (show ∃ t, u = Value.int j t from ru)
 obtain ⟨z, its, n, r, hl, e⟩ := I.lstM hH
 have hlen := r.length
 have sl : sizeLine = 16777216 := by decide
 have hsz : its.toArray.size ≤ sizeLine := by rw [List.size_toArray]; omega
 have hfi : Builtin.List.listFitsIndex (j : Int) = true := fits_ix (show j ≤ 16777216 by omega)
 generalize hx : (j : Int) = x at hfi
 have M := ins_meets l its.toArray n x tk u2 hfi hsz
 refine call_meets PySem.F.slot_list_insert ⟨_, e, rfl⟩ PySem.F.entry_list_insert (PySem.F.args_list_insert_3 _ _ _) M ⟨e, ?_⟩
 have hv : Vals (xs.take j ++ y :: xs.drop j) (its.take j ++ u2 :: its.drop j) := (r.take j).append (.cons ru2 (r.drop j))
 refine ⟨.non, _, I.lset (its' := its.take j ++ u2 :: its.drop j) hH e ?_ hv ?_, rfl, q⟩
 ·subst hx
  have e1 : ¬ ((j : Int) < 0) := by omega
  have e2 : min j its.length = j := by omega
  simp [e1, e2, List.take_of_length_le]
 ·rw [List.length_append, List.length_cons, List.length_take, List.length_drop]
  omega
mutual
def ibd : PyData -> Bool
 | .int i => decide (i.natAbs < 2 ^ 230)
 | .tuple ds => ibdAll ds
 | .list ds => ibdAll ds
 | .dict _ => false
 | _ => true
def ibdAll : List PyData -> Bool
 | [] => true
 | d :: ds => ibd d && ibdAll ds
end
theorem layAll_of : ∀ {ds : List PyData}, (∀ d ∈ ds, d.canLay0 = true) -> PyData.canLayAll0 ds = true
 | [], _ => rfl
 | d :: ds, h => by
  show (d.canLay0 && PyData.canLayAll0 ds) = true
  rw [h d List.mem_cons_self, layAll_of fun e he => h e (List.mem_cons_of_mem _ he)]; rfl
structure Gd (k n : Nat) (d : PyData) : Prop where
 sh : Sh k n d
 lay : d.canLay0 = true
 bd : ibd d = true
def decR : PyData -> R
 | .tuple [.int a, .int b] => (a, b)
 | _ => (0, 1)
def decRow : PyData -> R × R
 | .tuple [x, y] => (decR x, decR y)
 | _ => rowD
end B
namespace B
open PySem PySem.Spec L2 PyProof.Rows
theorem comp_own {J : It} {H : Hp} {D : Addr} {n : Nat} (Pv : Nat -> List V -> Hp -> Prop) {src : List (Option Nat)} {σ : L2.St} {g : TG} {tt : TT} {te : TE} {Q : Hp -> Prop} (h0 : Pv 0 [] (upd H D (.lst [])))
  (go : ∀ i ys H', i < n -> Pv i ys H' -> J.go i H') (stop : ∀ ys H', Pv n ys H' -> J.stop n H' /\ Q H')
  (turn : ∀ i ys H' x H'', i < n -> Pv i ys H' -> J.yld i H' x H'' -> ∀ (R : VK) (E : Hp -> Prop), (∀ y H4, H4 D = some (.lst ys) -> ys.length < sizeLine -> Pv (i + 1) (ys ++ [y]) (upd H4 D (.lst (ys ++ [y]))) -> R y H4) -> (∀ H3, Pv (i + 1) ys H3 -> E H3) →
   g x (frees src σ) H'' fun σ2 H2 => Ext (frees src σ) σ2 /\ tt σ2 H2 fun ok H3 => if ok = true then te σ2 H3 R else E H3) :
  ∃ W : Nat -> Nat -> List V -> Hp -> Prop, (∃ m, W 0 m [] (upd H D (.lst []))) /\ ∀ i m ys H, W i m ys H -> (J.stop i H /\ Q H) ∨ (J.go i H /\ ∀ x H', J.yld i H x H' →
   g x (frees src σ) H' fun σ2 H2 => Ext (frees src σ) σ2 /\ tt σ2 H2 fun ok H3 =>
    if ok = true then te σ2 H3 fun y H4 => H4 D = some (.lst ys) /\ ys.length < sizeLine /\ ∃ m', m' < m /\ W (i + 1) m' (ys ++ [y]) (upd H4 D (.lst (ys ++ [y]))) else ∃ m', m' < m /\ W (i + 1) m' ys H3) := by
 refine ⟨fun i m ys H' => i ≤ n /\ m = n - i /\ Pv i ys H', ⟨_, Nat.zero_le _, rfl, h0⟩, ?_⟩
 rintro i m ys H1 ⟨hi, rfl, p⟩
 by_cases hix : i < n
 ·refine .inr ⟨go i ys H1 hix p, fun x H2 y => ?_⟩
  refine turn i ys H1 x H2 hix p y _ _ (fun y H4 a b c => ⟨a, b, n - (i + 1), by omega, hix, rfl, c⟩) fun H3 c => ⟨n - (i + 1), by omega, hix, rfl, c⟩
 ·have e : i = n := by omega
  subst e
  exact .inl (stop ys H1 p)
def tCut (t : TS) : TS := fun D σ H => ∃ M : L2.St -> Hp -> Prop, t { D with nx := M } σ H /\ ∀ σ' H', M σ' H' -> D.nx σ' H'
theorem qs_cut {X : Cx} {st : Stmt} {t : TS} (h : QS X st t) : QS X st (tCut t) := ⟨by
 intro pins s σ H D I q
 obtain ⟨M, q, k⟩ := q
 refine thn (h.p pins s σ H _ I q) fun f s' z => ?_
 cases f with
 | next => obtain ⟨σ', H', I', m⟩ := z; exact ⟨σ', H', I', k _ _ m⟩
 | brk => exact z
 | cont => exact z
 | ret u => exact z⟩
end B
namespace B
abbrev Ln := Nat × Nat
inductive Rch (es : List Ln) : Nat -> Nat -> Prop where
 | one {a b : Nat} (h : (a, b) ∈ es) : Rch es a b
 | step {a b c : Nat} (h : (a, b) ∈ es) (t : Rch es b c) : Rch es a c
def EsOk (n : Nat) (es : List Ln) : Prop := ∀ e ∈ es, e.1 < n /\ e.2 < n
def Clo (n : Nat) (es : List Ln) (L : Nat -> Nat -> Bool) : Prop := ∀ i j, i < n -> j < n -> (L i j = true ↔ Rch es j i)
def addM (L : Nat -> Nat -> Bool) (a b : Nat) : Nat -> Nat -> Bool := fun i j => L i j || ((decide (i = b) || L i b) && (decide (j = a) || L a j))
structure Rx (n : Nat) (es : List Ln) (v : Nat -> Int) (ps : Nat -> Nat) (r k : Nat) (F : Nat -> Int) : Prop where
 bas : ∀ i, i < n -> v i ≤ F i
 att : ∀ i, i < n -> ∃ j, j < n /\ (j = i ∨ Rch es j i) /\ F i = v j
 don : ∀ i, i < n -> ps i < r -> ∀ j, j < n -> (j = i ∨ Rch es j i) -> v j ≤ F i
 cur : ∀ m a b, m < k -> es[m]? = some (a, b) -> ps b ≤ r -> ∀ j, j < n -> (j = a ∨ Rch es j a) -> v j ≤ F b
def rxUp (F : Nat -> Int) (a b : Nat) : Nat -> Int := fun i => if i = b then max (F b) (F a) else F i
structure Top (n : Nat) (es : List Ln) (v : Nat -> Int) (F : Nat -> Int) : Prop where
 up : ∀ i j, i < n -> j < n -> (j = i ∨ Rch es j i) -> v j ≤ F i
 att : ∀ i, i < n -> ∃ j, j < n /\ (j = i ∨ Rch es j i) /\ F i = v j
def swp (es : List Ln) : List Ln := es.map fun e => (e.2, e.1)
end B
namespace B
open PySem PySem.Spec L2 PyProof.Rows
def tChain3 (r r' r'' : R2) (ta tb tc td : TE) : TE := fun σ H Q => ta σ H fun x H1 => tb σ H1 fun y H2 => r x y H2 fun z H3 => ∃ k, z = .bl k ∧
 (if k = true then tc σ H3 fun w' H4 => r' y w' H4 fun z' H5 => ∃ k', z' = .bl k' /\ (if k' = true then td σ H5 fun u' H6 => r'' w' u' H6 Q else Q (.bl false) H5) else Q (.bl false) H3)
section
variable {prog : Program} {w : World} {A : Around} {E : Value -> Shared -> Prop} {s : Shared}
end
def tRev (K : PySem.W.Frag) (te : TE) : TE := fun σ H Q => te σ H fun x H1 => ∃ a xs, x = .ref a /\ SqT K H1 a xs /\ ∀ p, H1 p = none -> Q (.ref p) (upd H1 p (.tup xs.reverse))
end B
namespace B
end B
namespace B
open PySem PySem.Spec L2 PyProof.Rows
def Ris (zs : List R) : Prop := zs.Pairwise fun a b => lessR a b = true
theorem Als.drop {α : Type} {P : V -> α -> Prop} : ∀ {xs : List V} {ds : List α} (n : Nat), Als P xs ds -> Als P (xs.drop n) (ds.drop n)
 | _, _, 0, h => h
 | _, _, _ + 1, .nil => .nil
 | _, _, n + 1, .cons _ t => Als.drop n t
end B
namespace L2
open PySem PySem.Spec PyProof.Rows
structure RoomM (k : Nat) (A : Around) : Prop where
 dp : A.depth + 3 * k + 5 < recursionLimit
 un : A.units + 16 * k + 200 < cLine
 gd : A.guards = some []
structure FnOkM (P : Program) (w : World) (K : PySem.W.Frag) (mg : Str -> Option Value) (base : Heap) (CX : CXT) (k : Nat) (f : Addr) (fd : FuncData) (ps : List Str) (sp : Sp) : Prop where
 len : ∀ vs H Q E, sp vs H Q E -> vs.length = ps.length
 run : ∀ (A : Around) (outer : List Env) (s : Shared) (H : Hp) (args : Args) (us : List Value) (vs : List V) (Q : VK) (E : XK), RoomM k A -> Env0 P w K mg base A outer s H -> BindsTo s fd args (ps.zip us) -> Vals vs us -> sp vs H Q E →
  codeAny (model P w) A (.call (.ref f) args) (CR CX outer P w H s Q E) s
def cxM (CX : CXT) (P : Program) (w : World) (K : PySem.W.Frag) (mg : Str -> Option Value) (base : Heap) (N : List Str) (qual : Str) (scope : Scope) (f : Addr) (cd : Value) (A : Around) (outer : List Env) (s : Shared) (H : Hp) (E : XK) : Cx := { cxOf CX P w K mg base N qual scope f cd A outer s H E with calm := false }
section
variable {X : Cx} {CX : CXT} {k : Nat} {f C : Addr} {fd : FuncData} {ps : List Str} {sp : Sp} {dvs : List V} {ds : List Value} {E : XK} {x m : Str} {p pos apos : Pos} {e o : Expr} {es : List Expr} {ta : TE} {t : TA}
end
section
variable {P : Program} {w : World} {K : PySem.W.Frag} {mg : Str -> Option Value} {base : Heap}
end
end L2
namespace B
open PySem PySem.Spec L2 PyProof.Rows
section
set_option autoImplicit true
set_option relaxedAutoImplicit true
end
def Iti (d : Addr) (ob : Obj) (kvs : List (Key × V)) : It :=
 ⟨fun i H => H d = some (.frz ob (.dK kvs)) /\ i < kvs.length,
  fun i H x H' => ∃ p k v, H p = none /\ x = .ref p /\ kvs[i]? = some (k, v) /\ H' = upd H p (.tup [kV k, v]),
  fun i H => H d = some (.frz ob (.dK kvs)) /\ kvs.length ≤ i⟩
theorem KV.get : ∀ {kvs : List (Key × V)} {vs : List (Key × Value)}, KV kvs vs -> ∀ {i : Nat} {k : Key} {v : V}, kvs[i]? = some (k, v) -> ∃ u, vs[i]? = some (k, u) /\ RelV v u
 | _, _, .nil, i, k, v, h => by simp at h
 | (a, b) :: r, (c, d) :: t, .cons h z, 0, k, v, e => by
  have e' : (a, b) = (k, v) := by simpa using e
  cases e'
  obtain ⟨h1, h2⟩ := h
  have h1' : a = c := h1
  subst h1'
  exact ⟨d, rfl, h2⟩
 | _ :: r, _ :: t, .cons h z, i + 1, k, v, e => by
  obtain ⟨u, q, w⟩ := KV.get z (i := i) (by simpa using e)
  exact ⟨u, by simpa using q, w⟩
theorem kV_of {k : Key} {u : Value} (h : keyIs k u = true) : RelV (kV k) u := by
 rcases keyIs_shape h with ⟨i, t, rfl, rfl⟩ | ⟨x, t, rfl, rfl⟩
 ·exact ⟨t, rfl⟩
 ·exact ⟨t, rfl⟩
theorem en_iit : entryFor table "dict_itemiterator.__iter__" = some Builtin.«dict_keyiterator.__iter__» :=
 entryFor_alias (by kernel_rfl) (by first | rfl | decide +kernel | (unfold String.splitOn; simp +decide [String.splitOnAux])) (by decide +kernel) (by kernel_rfl) (id' := "dict_keyiterator.__iter__")
theorem turn_items {P : Program} {w : World} {K : PySem.W.Frag} {elts : List Expr} {x1} {pos : Pos} {it d : Addr} {ob : Obj} {kvs : List (Key × V)} {es : Array DictEntry} {ep : Nat} (hob : ob.data = .dict es ep) :
  Turn P w K (.Tuple elts x1 pos) (Iti d ob kvs) [it] it (fun i h => ∃ ok ov, IsItemIter h it d i kvs.length ep ok ov) where
 mem := by simp
 obj := fun i h st c hc => by
  obtain ⟨ok, ov, e⟩ := st
  rw [List.mem_singleton] at hc
  subst hc
  exact ⟨_, e, fun v q => by cases (show Data.fields _ = Data.cell v from q)⟩
 keep := fun i h h' ⟨ok, ov, e⟩ k => ⟨ok, ov, k it (by simp) _ e⟩
 item := by
  intro X hP hw hK hc i pins s σ H E I hf st hg
  subst hP hw hK
  obtain ⟨hd, hi⟩ := hg
  obtain ⟨ok, ov, e⟩ := st
  obtain ⟨q0, z, hds, vs, rel, o, es', ep', d1, d2, d3, d4⟩ := (show ObjOk X.prog X.w H s.heap d (.frz ob (.dK kvs)) from I.hok d _ hd)
  have eo : o = ob := Option.some.inj (d1.symm.trans q0)
  subst eo
  rw [hob] at d3
  cases d3
  have dat : s.heap.DictAt (mixKind X.prog X.w) d vs ep := ⟨o, es, d1, d2, hob, d4⟩
  obtain ⟨k, v, hkv'⟩ : ∃ k v, kvs[i]? = some (k, v) := ⟨(kvs[i]'hi).1, (kvs[i]'hi).2, List.getElem?_eq_getElem hi⟩
  obtain ⟨u, hu, ru⟩ := KV.get rel hkv'
  have ndi : it ≠ d := fun q => by rw [q] at hf; have := (hf d (by simp)).1; rw [hd] at this; cases this
  have itl : it < s.heap.objs.size := Heap.lt_size e
  rw [rel.length] at e
  refine wpAny_pyNext_items_item e dat hu fun key h1 hkey eo tup hz hk => ⟨_, rfl, wpAny_letOwnedTupleGo_items eo fun h2 e2 sb => ?_⟩
  have nt : s.heap.objs.size ≠ it := Nat.ne_of_gt itl
  have P : ObjOk X.prog X.w (upd H s.heap.objs.size (.tup [kV k, v])) h2 s.heap.objs.size (.tup [kV k, v]) :=
   ⟨by show 2 ≤ sizeLine; decide, [key, u], .cons (kV_of hkey) (.cons ru .nil), ⟨_, sb.extBut _ _ nt tup, rfl, _, rfl⟩⟩
  have I2 : Inv X pins σ (upd H s.heap.objs.size (.tup [kV k, v])) { s with heap := h2, toks := s.toks } := turnedN I (fun c o' n q => by
   have n' : c ≠ it := fun r => n (by simp [r])
   exact sb.extBut _ _ n' (hk c o' n' q)) hf (Nat.le_refl _) P
  refine ⟨.ref s.heap.objs.size, _, I2, rfl, ⟨_, k, v, I.fresh, rfl, hkv', rfl⟩, ⟨key, u, by rw [rel.length]; exact e2⟩, fun c hc => ?_⟩
  have hc' : c = it := by simpa using hc
  rw [hc', upd_ne (Ne.symm nt)]
  exact (hf it (by simp)).1
 done := by
  intro X hP hw hK hc i pins s σ H E I hf st hg
  subst hP hw hK
  obtain ⟨hd, hi⟩ := hg
  obtain ⟨ok, ov, e⟩ := st
  obtain ⟨q0, z, hds, vs, rel, o, es', ep', d1, d2, d3, d4⟩ := (show ObjOk X.prog X.w H s.heap d (.frz ob (.dK kvs)) from I.hok d _ hd)
  have eo : o = ob := Option.some.inj (d1.symm.trans q0)
  subst eo
  rw [hob] at d3
  cases d3
  have dat : s.heap.DictAt (mixKind X.prog X.w) d vs ep := ⟨o, es, d1, d2, hob, d4⟩
  have hh : X.A.in1.handled = none := I.ok.hd hc
  rw [rel.length] at e hi
  refine wpAny_pyNext_items_end hh e dat (List.getElem?_eq_none hi) fun h1 ex => ⟨rfl, ?_⟩
  exact turnedL (t' := s.toks) I (fun c o' n q => ex c o' (fun r => n (by simp [r])) q) hf
 self := fun A i s Q E st h => by
  obtain ⟨ok, ov, e⟩ := st
  have hT : s.TypeIs (.ref it) "dict_itemiterator" := ⟨_, e, rfl⟩
  refine wpAny_pyIter_slot hT PySem.F.slot_dict_itemiterator_iter (wpAny_call_entry PySem.F.slot_dict_itemiterator_iter hT en_iit ?_ (PySem.F.args_dict_itemiterator_iter_1 _))
  show wpAny _ _ (ret (.ref it)) _ _ s
  exact wpAny_pure ⟨_, rfl, "dict_itemiterator", _, hT, PySem.F.slot_dict_itemiterator_next.lookup, h⟩
def iItems (td : TE) : TI := fun σ H R => td σ H fun x H1 => ∃ d kvs, x = .ref d /\ H1 d = some (.dK kvs) /\ ∀ ob, R (Iti d ob kvs) (upd H1 d (.frz ob (.dK kvs)))
theorem pi_items {X : Cx} {elts : List Expr} {x1} {tp apos pos : Pos} {o : Expr} {td : TE} (ho : PE X o td) (hb : attributeBase o "items" X.env (eval o X.env) = eval o X.env := by rfl) (hl : (apos.endLine == pos.line) = true := by rfl) :
  PI X (.Tuple elts x1 tp) (.Call (.Attribute o "items" apos) [] [] pos) (iItems td) := by
 intro pins s σ H R I h
 refine wpAny_Call_method (T := "dict") (id := "dict.items") hb rfl hl PySem.F.plainAttrs_dict PySem.F.slot_dict_items PySem.F.type_dict_items (thn (ho pins s σ H _ I h) fun u s1 ⟨x, H1, I1, rx, d, kvs, ex, e, q⟩ => ?_)
 subst ex
 obtain rfl : u = Value.ref d := rx
 obtain ⟨z, hds, vs, rel, dd⟩ := dk_of I1.hok e
 obtain ⟨t1, t2, _⟩ := isD_at I1 (.inl ⟨kvs, .inl e⟩)
 refine ⟨t1, t2, ?_⟩
 show wpAny _ _ (callWith pos (.builtin "dict.items") [.ref d] [] []) _ _ _
 refine method_meetsIn PySem.F.slot_dict_items PySem.F.entry_dict_items rfl (PySem.evalArgs_none ⟨rfl, t1, PySem.F.args_dict_items_1 _, _, meets_dict_items (mixKind X.prog X.w) d hds, ⟨vs, dd⟩, ?_⟩)
 obtain ⟨o', es, ep, d1, d2, d3, d4⟩ := id dd
 have dat : s1.heap.DictAt (mixKind X.prog X.w) d vs ep := ⟨o', es, d1, d2, d3, d4⟩
 refine wpAny_pyIter_items (d := d) (kvs := vs) (ep := ep) ⟨_, Heap.get?_push_size _ rfl, rfl, rfl⟩ (dat.push _) ?_
 have sz : (s1.heap.push { cls := .type "dict_items", data := .fields #[.ref d] }).objs.size = s1.heap.objs.size + 1 := Heap.size_push ..
 have I2 := I1.kept (t' := s1.toks) (h' := (s1.heap.push { cls := .type "dict_items", data := .fields #[.ref d] }).push { cls := .type "dict_itemiterator", data := .fields #[.none, .bool false, .ref d, .int 0 0, .int vs.length 0, .int ep 0, .none, .none] }) fun b o q => Heap.get?_push_of_some _ (Heap.get?_push_of_some _ q)
 have hit := Heap.get?_push_size (s1.heap.push { cls := .type "dict_items", data := .fields #[.ref d] }) (o := { cls := .type "dict_itemiterator", data := .fields #[.none, .bool false, .ref d, .int 0 0, .int vs.length 0, .int ep 0, .none, .none] }) rfl
 have dl : d < s1.heap.objs.size := Heap.lt_size d1
 have k2 : ∀ b o, s1.heap.get? b = some o -> ((s1.heap.push { cls := .type "dict_items", data := .fields #[.ref d] }).push { cls := .type "dict_itemiterator", data := .fields #[.none, .bool false, .ref d, .int 0 0, .int vs.length 0, .int ep 0, .none, .none] }).get? b = some o := fun b o q => Heap.get?_push_of_some _ (Heap.get?_push_of_some _ q)
 generalize (s1.heap.push { cls := .type "dict_items", data := .fields #[.ref d] }).push { cls := .type "dict_itemiterator", data := .fields #[.none, .bool false, .ref d, .int 0 0, .int vs.length 0, .int ep 0, .none, .none] } = hE at I2 hit k2 ⊢
 rw [sz] at hit ⊢
 have I3 := d_write (h' := hE) (t' := s1.toks) (ob := .frz o' (.dK kvs)) I2 (by rw [e]; exact True.intro) ⟨rfl, fun _ _ => rfl⟩ ⟨_, k2 _ _ d1⟩ ⟨k2 _ _ d1, z, hds, vs, rel, o', es, ep, k2 _ _ d1, d2, d3, d4⟩
 have nd : s1.heap.objs.size + 1 ≠ d := Nat.ne_of_gt (Nat.lt_succ_of_lt dl)
 refine ⟨_, [s1.heap.objs.size + 1], _, _, _, rfl, I3, turn_items d3, ⟨.none, .none, by rw [rel.length]; exact hit⟩, fun c hc => ?_, q o'⟩
 have hc' : c = s1.heap.objs.size + 1 := by simpa using hc
 subst hc'
 exact I1.fpOk (Nat.le_succ _) (by rw [upd_ne nd]; exact I1.hok.fresh (Nat.le_succ _))
theorem for_items {d : Addr} {ob : Obj} {kvs : List (Key × V)} {g : TG} {tb : TS} {D : Ends} {σ : L2.St} {H : Hp} (Pv : Nat -> L2.St -> Hp -> Prop) (h0 : Pv 0 σ H)
  (hl : ∀ i σ H, Pv i σ H -> H d = some (.frz ob (.dK kvs)))
  (hs : ∀ i k v p σ H, kvs[i]? = some (k, v) -> Pv i σ H -> H p = none -> g (.ref p) σ (upd H p (.tup [kV k, v])) fun σ2 H2 => tb { D with nx := Pv (i + 1), ct := Pv (i + 1), bk := D.nx } σ2 H2) (hd : ∀ σ H, Pv kvs.length σ H -> D.nx σ H) :
  ∃ W : Nat -> Nat -> L2.St -> Hp -> Prop, (∃ m, W 0 m σ H) /\ ∀ i m σ H, W i m σ H →
   ((Iti d ob kvs).stop i H /\ D.nx σ H) ∨ ((Iti d ob kvs).go i H /\ ∃ N : L2.St -> Hp -> Prop, (∀ σ' H', N σ' H' -> ∃ m', m' < m /\ W (i + 1) m' σ' H') /\ ∀ x H', (Iti d ob kvs).yld i H x H' -> g x σ H' fun σ2 H2 => tb { D with nx := N, ct := N, bk := D.nx } σ2 H2) := by
 refine ⟨fun i m σ H => m = kvs.length - i /\ i ≤ kvs.length /\ Pv i σ H, ⟨_, rfl, Nat.zero_le _, h0⟩, ?_⟩
 rintro i m σ H ⟨rfl, hi, p⟩
 have q := hl i σ H p
 by_cases hlt : i < kvs.length
 ·refine .inr ⟨⟨q, hlt⟩, Pv (i + 1), fun σ' H' p' => ⟨kvs.length - (i + 1), by omega, rfl, hlt, p'⟩, fun x H' y => ?_⟩
  obtain ⟨pp, k, v, hp, rfl, hkv, rfl⟩ := y
  exact hs i k v pp σ _ hkv p hp
 ·have e : i = kvs.length := by omega
  subst e
  exact .inl ⟨⟨q, Nat.le_refl _⟩, hd σ H p⟩
def enc (ps : List (Int × Int)) : List (Key × V) := ps.map fun p => (Sum.inl p.1, V.int p.2)
def topP : List (Int × Int) -> Int -> Int
 | [], _ => 0
 | (c, u) :: r, b => if c = b then u else topP r b
def addP : List (Int × Int) -> Int -> Int -> List (Int × Int)
 | [], b, t => [(b, 0 + t)]
 | (c, u) :: r, b, t => if c = b then (c, u + t) :: r else (c, u) :: addP r b t
theorem put_here {p : Key × V} {r : List (Key × V)} {k : Key} {v : V} (e : p.1 = k) (n : ∀ q ∈ r, q.1 ≠ k) : putK (p :: r) k v = (k, v) :: r := by
 unfold putK
 rw [if_pos (by simp [e]), List.map_cons, if_pos e, e]
 congr 1
 exact (List.map_congr_left (g := id) (fun q hq => by rw [if_neg (n q hq)]; rfl)).trans (List.map_id r)
theorem put_there {p : Key × V} {r : List (Key × V)} {k : Key} {v : V} (e : ¬ p.1 = k) : putK (p :: r) k v = p :: putK r k v := by
 unfold putK
 rw [List.any_cons, decide_eq_false e, Bool.false_or]
 split
 ·rw [List.map_cons, if_neg e]
 ·rfl
theorem get_enc : ∀ (ps : List (Int × Int)) (b : Int), (valV (enc ps) (Sum.inl b)).getD (V.int 0) = V.int (topP ps b)
 | [], b => rfl
 | (c, u) :: r, b => by
  show (valV ((Sum.inl c, V.int u) :: enc r) (Sum.inl b)).getD (V.int 0) = V.int (if c = b then u else topP r b)
  by_cases e : c = b
  ·rw [if_pos e, valV_pos (by rw [e])]; rfl
  ·rw [if_neg e, valV_neg (fun z => e (by injection z)), get_enc r b]
theorem put_enc : ∀ (ps : List (Int × Int)) (b t : Int), (ps.map (·.1)).Nodup -> putK (enc ps) (Sum.inl b) (V.int (topP ps b + t)) = enc (addP ps b t)
 | [], b, t, _ => rfl
 | (c, u) :: r, b, t, nd => by
  have nd' := List.nodup_cons.mp nd
  show putK ((Sum.inl c, V.int u) :: enc r) (Sum.inl b) (V.int ((if c = b then u else topP r b) + t)) = enc (if c = b then (c, u + t) :: r else (c, u) :: addP r b t)
  by_cases e : c = b
  ·rw [if_pos e, if_pos e, put_here (by rw [e]) (fun q hq z => ?_)]
   ·show _ = (Sum.inl c, V.int (u + t)) :: enc r
    rw [e]
   ·obtain ⟨p, hp, rfl⟩ := List.mem_map.mp hq
    have z' : p.1 = b := by injection z
    exact nd'.1 (List.mem_map.mpr ⟨p, hp, z'.trans e.symm⟩)
  ·rw [if_neg e, if_neg e, put_there (fun z => e (by injection z)), put_enc r b t nd'.2]
   rfl
def sumv : List (Int × Int) -> Rat
 | [] => 0
 | p :: r => (p.2 : Rat) / (p.1 : Rat) + sumv r
theorem add_div {a b c : Rat} : (a + b) / c = a / c + b / c := by rw [Rat.div_def, Rat.div_def, Rat.div_def, Rat.add_mul]
theorem sumv_add : ∀ (ps : List (Int × Int)) (b t : Int), sumv (addP ps b t) = sumv ps + (t : Rat) / (b : Rat)
 | [], b, t => by
  show ((0 + t : Int) : Rat) / (b : Rat) + 0 = 0 + (t : Rat) / (b : Rat)
  rw [Int.zero_add]; grind
 | (c, u) :: r, b, t => by
  show sumv (if c = b then (c, u + t) :: r else (c, u) :: addP r b t) = (u : Rat) / (c : Rat) + sumv r + (t : Rat) / (b : Rat)
  by_cases e : c = b
  ·rw [if_pos e]
   show ((u + t : Int) : Rat) / (c : Rat) + sumv r = _
   rw [Rat.intCast_add, add_div, e]
   grind
  ·rw [if_neg e]
   show (u : Rat) / (c : Rat) + sumv (addP r b t) = _
   rw [sumv_add r b t]
   grind
theorem sumv_snoc : ∀ (ps : List (Int × Int)) (p : Int × Int), sumv (ps ++ [p]) = sumv ps + (p.2 : Rat) / (p.1 : Rat)
 | [], p => by show (p.2 : Rat) / (p.1 : Rat) + 0 = 0 + _; grind
 | q :: r, p => by
  show (q.2 : Rat) / (q.1 : Rat) + sumv (r ++ [p]) = (q.2 : Rat) / (q.1 : Rat) + sumv r + _
  rw [sumv_snoc r p]; grind
structure PsOk (n i : Nat) (ps : List (Int × Int)) : Prop where
 nd : (ps.map (·.1)).Nodup
 len : ps.length ≤ i
 bot : ∀ p ∈ ps, 0 < p.1 /\ p.1.natAbs < 2 ^ n
 top : ∀ p ∈ ps, p.2.natAbs ≤ i * 2 ^ n
theorem add_keys : ∀ (ps : List (Int × Int)) (b t : Int) (c : Int), c ∈ (addP ps b t).map (·.1) ↔ c ∈ ps.map (·.1) ∨ c = b
 | [], b, t, c => by simp [addP]
 | (d, u) :: r, b, t, c => by
  show c ∈ (if d = b then (d, u + t) :: r else (d, u) :: addP r b t).map (·.1) ↔ _
  by_cases e : d = b
  ·rw [if_pos e]
   constructor
   ·intro h; exact .inl h
   ·rintro (h | h)
    ·exact h
    ·exact List.mem_cons.mpr (.inl (h.trans e.symm))
  ·rw [if_neg e, List.map_cons, List.map_cons, List.mem_cons, List.mem_cons, add_keys r b t c]
   exact or_assoc.symm
theorem add_nd : ∀ (ps : List (Int × Int)) (b t : Int), (ps.map (·.1)).Nodup -> ((addP ps b t).map (·.1)).Nodup
 | [], b, t, _ => by simp [addP]
 | (d, u) :: r, b, t, nd => by
  have nd' := List.nodup_cons.mp nd
  show ((if d = b then (d, u + t) :: r else (d, u) :: addP r b t).map (·.1)).Nodup
  by_cases e : d = b
  ·rw [if_pos e]; exact nd
  ·rw [if_neg e, List.map_cons, List.nodup_cons]
   refine ⟨fun z => ?_, add_nd r b t nd'.2⟩
   rcases (add_keys r b t d).mp z with h | h
   ·exact nd'.1 h
   ·exact e h
theorem add_len : ∀ (ps : List (Int × Int)) (b t : Int), (addP ps b t).length ≤ ps.length + 1
 | [], b, t => Nat.le_refl 1
 | (d, u) :: r, b, t => by
  show (if d = b then (d, u + t) :: r else (d, u) :: addP r b t).length ≤ _
  split
  ·exact Nat.le_succ _
  ·exact Nat.succ_le_succ (add_len r b t)
theorem add_top : ∀ (ps : List (Int × Int)) (b t : Int) (M N : Nat), (∀ p ∈ ps, p.2.natAbs ≤ M) -> t.natAbs ≤ N -> ∀ p ∈ addP ps b t, p.2.natAbs ≤ M + N
 | [], b, t, M, N, _, ht, p, hp => by
  have e : p = (b, 0 + t) := by simpa [addP] using hp
  rw [e]
  show (0 + t).natAbs ≤ M + N
  omega
 | (d, u) :: r, b, t, M, N, h, ht, p, hp => by
  have hu : u.natAbs ≤ M := h (d, u) List.mem_cons_self
  have hr : ∀ q ∈ r, q.2.natAbs ≤ M := fun q hq => h q (List.mem_cons_of_mem _ hq)
  have hp' : p ∈ (if d = b then (d, u + t) :: r else (d, u) :: addP r b t) := hp
  split at hp'
  ·rcases List.mem_cons.mp hp' with e | e
   ·rw [e]
    show (u + t).natAbs ≤ M + N
    omega
   ·have := hr p e
    omega
  ·rcases List.mem_cons.mp hp' with e | e
   ·rw [e]
    show u.natAbs ≤ M + N
    omega
   ·exact add_top r b t M N hr ht p e
theorem PsOk.add {n i : Nat} {ps : List (Int × Int)} (h : PsOk n i ps) {r : R} (w : Wf n r) : PsOk n (i + 1) (addP ps r.2 r.1) where
 nd := add_nd ps r.2 r.1 h.nd
 len := Nat.le_trans (add_len ps r.2 r.1) (Nat.succ_le_succ h.len)
 bot := fun p hp => by
  rcases (add_keys ps r.2 r.1 p.1).mp (List.mem_map.mpr ⟨p, hp, rfl⟩) with z | z
  ·obtain ⟨q, hq, e⟩ := List.mem_map.mp z
   rw [← e]
   exact h.bot q hq
  ·rw [z]; exact ⟨w.pos, w.bot⟩
 top := fun p hp => by
  have := add_top ps r.2 r.1 (i * 2 ^ n) (2 ^ n) h.top (Nat.le_of_lt w.top) p hp
  rw [Nat.add_mul, Nat.one_mul]
  exact this
theorem PsOk.nil (n : Nat) : PsOk n 0 [] := ⟨List.nodup_nil, Nat.le_refl _, (fun _ h => nomatch h), (fun _ h => nomatch h)⟩
theorem PsOk.wf {n i : Nat} {ps : List (Int × Int)} (h : PsOk n i ps) (hi : i ≤ 255) {p : Int × Int} (hp : p ∈ ps) : Wf (n + 8) (mkR p.2 p.1) := by
 refine mkR_wf (h.bot p hp).1 ?_ (Nat.lt_of_lt_of_le (h.bot p hp).2 (Nat.pow_le_pow_right (by decide) (by omega)))
 have a := h.top p hp
 have b : i * 2 ^ n ≤ 255 * 2 ^ n := Nat.mul_le_mul_right _ hi
 have c : 0 < 2 ^ n := Nat.pow_pos (by decide)
 rw [Nat.pow_add]
 omega
def vsum : List R -> Rat
 | [] => 0
 | r :: t => val r + vsum t
theorem vsum_snoc : ∀ (rs : List R) (r : R), vsum (rs ++ [r]) = vsum rs + val r
 | [], r => by show val r + 0 = 0 + val r; grind
 | q :: t, r => by show val q + vsum (t ++ [r]) = val q + vsum t + val r; rw [vsum_snoc t r]; grind
theorem val_fold : ∀ (rs : List R) (acc : R), Red acc -> (∀ r ∈ rs, Red r) -> Red (rs.foldl plusR acc) /\ val (rs.foldl plusR acc) = val acc + vsum rs
 | [], acc, ha, _ => ⟨ha, by show val acc = val acc + 0; grind⟩
 | r :: t, acc, ha, h => by
  have hr := h r List.mem_cons_self
  obtain ⟨a, b⟩ := val_fold t (plusR acc r) (plus_red ha hr) fun q hq => h q (List.mem_cons_of_mem _ hq)
  refine ⟨a, ?_⟩
  rw [List.foldl_cons, b, val_plus ha.pos hr.pos]
  show val acc + val r + vsum t = val acc + (val r + vsum t)
  grind
theorem val_nought : val (0, 1) = 0 := by decide +kernel
theorem red_nought : Red (0, 1) := ⟨by decide, by decide⟩
theorem val_sum {rs : List R} (h : ∀ r ∈ rs, Red r) : Red (sumR rs) /\ val (sumR rs) = vsum rs := by
 obtain ⟨a, b⟩ := val_fold rs (0, 1) red_nought h
 refine ⟨a, b.trans ?_⟩
 rw [val_nought]; grind
theorem sum_is {rs : List R} {x : R} (h : ∀ r ∈ rs, Red r) (hx : Red x) (e : val x = vsum rs) : x = sumR rs :=
 val_inj hx (val_sum h).1 (e.trans (val_sum h).2.symm)
theorem Wf.red {n : Nat} {r : R} (h : Wf n r) : Red r := ⟨h.pos, h.cop⟩
section
set_option autoImplicit true
set_option relaxedAutoImplicit true
theorem qe_dnewK   : QE X (.Dict [] [] pos) tDNewK := ⟨pe_dnewK ⟩
theorem qe_dget2  (hu : X.A.units + 1 < cLine) (ho : QE X o td) (he : QE X e ty) (hf : QE X f tx) (m : M2 X o "get" apos e f cpos) : QE X (.Call (.Attribute o "get" apos) [e, f] [] cpos) (tDGet2 td ty tx) := ⟨pe_dget2 hu ho.p he.p hf.p m⟩
theorem qs_dput  (hu : X.A.units + 1 < cLine) (ho : QE X o td) (hi : QE X i ty) (hv : QE X value tv) (hs : swapsWith value (some (.Subscript o i pos')) pos.line X.env = pure false) : QS X (.Assign [.Subscript o i pos'] value pos) (sDPut td ty tv) := ⟨ps_dput hu ho.p hi.p hv.p hs⟩
theorem qi_items  {X : Cx} {elts : List Expr} {x1} {tp apos pos : Pos} {o : Expr} {td : TE} (ho : QE X o td) (hb : attributeBase o "items" X.env (eval o X.env) = eval o X.env := by rfl) (hl : (apos.endLine == pos.line) = true := by rfl) : QI X (.Tuple elts x1 tp) (.Call (.Attribute o "items" apos) [] [] pos) (iItems td) := ⟨pi_items ho.p hb hl⟩
end
end B
namespace B
abbrev Pl := Nat × Nat
def lenP (p : Pl) : Int := (p.2 : Int) - p.1 + 1
def AheadP (p q : Pl) : Prop := p.1 < q.1 ∨ (p.1 = q.1 /\ q.2 ≤ p.2)
structure Bst (S : Pl -> Prop) (L : Pl -> Int) (p : Pl) : Prop where
 inn : S p
 all : ∀ q, S q -> L q * lenP p < L p * lenP q ∨ (L q * lenP p = L p * lenP q /\ AheadP p q)
def Sec (n : Nat) (p : Pl) : Prop := p.1 ≤ p.2 /\ p.2 < n
def SeenD (n b e : Nat) (p : Pl) : Prop := Sec n p /\ (p.1 < b ∨ (p.1 = b /\ e ≤ p.2))
def SeenU (n b e : Nat) (p : Pl) : Prop := Sec n p /\ (p.1 < b ∨ (p.1 = b /\ p.2 < e))
abbrev Wn := Option (Nat × Nat)
def holdB (b e : Nat) : Wn -> Bool
 | none => false
 | some (x, y) => decide (b ≤ x) && decide (y ≤ e)
def heldM (ws : List Wn) (p : Pl) : List Nat := (List.range ws.length).filter fun i => holdB p.1 p.2 (ws.getD i none)
def loadM (ws : List Wn) (A : Nat -> Int) (p : Pl) : Int := ((heldM ws p).map A).sum
end B
namespace B
open PySem PySem.Spec L2 PyProof.Rows
def oneEach (ns : List Int) : List Int := ns.foldl step_dedup []
def rSet1 (K : PySem.W.Frag) : List V -> Hp -> VK -> Prop := fun xs H Q => ∃ p ns, xs = [.ref p] /\ SqL K H p (ns.map V.int) /\ ns.length ≤ 1000 /\ ∀ l, H l = none -> Q (.ref l) (upd H l (.set (fun k => (oneEach ns).any (· == k)) (oneEach ns).length))
def rLenS : List V -> Hp -> VK -> Prop := fun xs H Q => ∃ p S n, xs = [.ref p] /\ H p = some (.set S n) /\ Q (.int n) H
def Rise (xs : Array Nat) : Prop := ∀ i j (_ : i < j) (hj : j < xs.size), xs[i]'(by omega) < xs[j]
def Tidy (t : SetTable) : Prop := t.plain = true -> t.dummies = #[] /\ Rise t.place
section
variable {prog : Program} {w : World} {A : Around} {E : Value -> Shared -> Prop} {s : Shared}
def vInt : Value -> Int
 | .int n _ => n
 | _ => 0
def IntSet (w : World) (h : Heap) (a : Addr) (ks : List Int) : Prop := ∃ o es ep t, h.get? a = some o /\ o.ExactSet /\ o.data = .set es ep t /\ (∀ e ∈ es.toList, ∃ n u, e = (hashInt n, Value.int n u)) ∧
 (es.toList.map fun e => vInt e.2).Perm ks /\ t.fits es.size = true /\ Tidy t /\ t.led = !w.params.followText "set-order"
end
section
variable {prog : Program} {w : World} {A : Around} {E : Value -> Shared -> Prop} {s : Shared}
def newSetObj (w : World) : Obj := { cls := .type "set", dict := none, data := .set #[] 0 (.fresh 0 0 (!w.params.followText "set-order")) }
variable {R : Result -> Shared -> Prop} {I : Addr} {fp wr : List Addr} {G : Array GenState -> Array GenState -> Prop} {n : Nat} {P : Nat -> Value -> Prop} {St : Nat -> Shared -> Prop}
end
section
variable {prog : Program} {w : World} {A : Around} {E : Value -> Shared -> Prop} {s : Shared}
end
namespace FS
end FS
section
variable {prog : Program} {w : World} {A : Around} {E : Value -> Shared -> Prop} {s : Shared}
def sItO (first : Value) (i : Nat) (a : Addr) (n ep : Nat) : Obj := { cls := .type "set_iterator", data := .fields #[first, .int i 0, .ref a, .int n 0, .int ep 0] }
end
end B
namespace B
open PySem PySem.Spec L2 PyProof.Rows
section
variable {prog : Program} {w : World} {A : Around} {E : Value -> Shared -> Prop} {s : Shared}
end
section
variable {prog : Program} {w : World} {A : Around} {E : Value -> Shared -> Prop} {s : Shared}
def WalkOf (prog : Program) (w : World) (a : Addr) (ks : List Int) (s : Shared) (It : Addr) (s1 : Shared) : Prop :=
 ∃ (fp : List Addr) (items : Array Value) (St : Nat -> Shared -> Prop), (∀ A' : Around, A'.handled = none -> WalksS prog w A' It fp [It] (fun a b => b = a) items.size (fun i v => items[i]? = some v) St) /\ St 0 s1 /\ It ∈ fp /\ (∀ b ∈ fp, b < s1.heap.objs.size /\ (b = a ∨ s.heap.objs.size ≤ b)) ∧
  s.heap.objs.size ≤ It /\ ∃ ms, IntsAre items.toList ms /\ ms.Perm ks
def slotM (t : SetTable) : Nat -> Nat
 | 0 => 0
 | k + 1 => t.place.getD k 0 + 1
end
def rExtT (K : PySem.W.Frag) : V -> List V -> Hp -> VK -> Prop := fun x vs H Q => ∃ l b xs zs, x = .ref l /\ vs = [.ref b] /\ H l = some (.lst xs) /\ SqT K H b zs /\ xs.length + zs.length ≤ 1000 /\ Q .non (upd H l (.lst (xs ++ zs)))
def rSort (K : PySem.W.Frag) : List V -> Hp -> VK -> Prop := fun xs H Q => ∃ p ns, xs = [.ref p] /\ (SqL K H p (ns.map V.int) ∨ SqT K H p (ns.map V.int)) /\ ns.length < 64 /\ ∀ (l : Addr) (ms : List Int), ms.Perm ns -> ms.Pairwise (· ≤ ·) -> H l = none -> Q (.ref l) (upd H l (.lst (ms.map V.int)))
section
variable {prog : Program} {w : World} {A : Around} {E : Value -> Shared -> Prop} {s : Shared}
end
def setO (w : World) (a : Addr) (ks : List Int) : HO := .ext fun h => IntSet w h a ks
def rSetO (w : World) (K : PySem.W.Frag) : List V -> Hp -> VK -> Prop := fun xs H Q => ∃ p ns, xs = [.ref p] /\ (SqL K H p (ns.map V.int) ∨ SqT K H p (ns.map V.int)) /\ ns.length ≤ 1000 /\ ∀ l, H l = none -> Q (.ref l) (upd H l (setO w l (oneEach ns)))
def rSortS (w : World) : List V -> Hp -> VK -> Prop := fun xs H Q => ∃ p ks, xs = [.ref p] /\ H p = some (setO w p ks) /\ ks.length < 64 /\ ∀ (l : Addr) (ms : List Int), ms.Perm ks -> ms.Pairwise (· ≤ ·) -> H l = none -> Q (.ref l) (upd H l (.lst (ms.map V.int)))
def tRng2 (ta : TA) : TE := fun σ H Q => ta σ H fun vs H1 => ∃ i j : Int, vs = [.int i, .int j] /\ ∀ p, H1 p = none -> Q (.ref p) (upd H1 p (.rng i j))
def rNotInR : R2 := fun x y H Q => ∃ (i : Int) (p : Addr) (lo hi : Int), x = .int i /\ y = .ref p /\ H p = some (.rng lo hi) /\ Q (.bl (!(decide (lo ≤ i) && decide (i < hi)))) H
section
set_option autoImplicit true
set_option relaxedAutoImplicit true
end
def frmTo (lo n : Nat) : List Nat := (List.range n).map fun i => lo + i
def rLsR : List V -> Hp -> VK -> Prop := fun xs H Q => ∃ p, ∃ lo n : Nat, xs = [.ref p] /\ H p = some (.rng (lo : Int) ((lo + n : Nat) : Int)) /\ lo + n ≤ 1000 /\ ∀ l, H l = none -> Q (.ref l) (upd H l (.lst ((frmTo lo n).map fun i : Nat => V.int i)))
theorem comp_mapL {α β : Type} {K : PySem.W.Frag} {H : Hp} {D a : Addr} {xs : List V} {ds : List α} {P : Hp -> V -> β -> Prop} {f : α -> β} {src : List (Option Nat)} {σ : L2.St} {g : TG} {tt : TT} {te : TE} {Q : Hp -> Prop}
  (mono : ∀ H H' v d, Tst K H H' -> P H v d -> P H' v d) (hD : H D = none) (hS : SqL K H a xs) (hl : xs.length = ds.length) (hn : ds.length ≤ 1000)
  (turn : ∀ (i : Nat) (x : V) (d : α) (H' : Hp), xs[i]? = some x -> ds[i]? = some d -> Same H H' -> ∀ (R : VK) (E : Hp -> Prop), (∀ v H'', Same H' H'' -> P H'' v (f d) -> R v H'') →
   g x (frees src σ) H' fun σ2 H2 => Ext (frees src σ) σ2 /\ tt σ2 H2 fun ok H3 => if ok = true then te σ2 H3 R else E H3)
  (fin : ∀ H' ys, Same H H' -> H' D = some (.lst ys) -> Als (P H') ys (ds.map f) -> Q H') :
  ∃ W : Nat -> Nat -> List V -> Hp -> Prop, (∃ m, W 0 m [] (upd H D (.lst []))) /\ ∀ i m ys H, W i m ys H -> ((Itl K a).stop i H /\ Q H) ∨ ((Itl K a).go i H /\ ∀ x H', (Itl K a).yld i H x H' →
   g x (frees src σ) H' fun σ2 H2 => Ext (frees src σ) σ2 /\ tt σ2 H2 fun ok H3 =>
    if ok = true then te σ2 H3 fun y H4 => H4 D = some (.lst ys) /\ ys.length < sizeLine /\ ∃ m', m' < m /\ W (i + 1) m' (ys ++ [y]) (upd H4 D (.lst (ys ++ [y]))) else ∃ m', m' < m /\ W (i + 1) m' ys H3) := by
 refine ⟨fun i m ys H' => i ≤ ds.length /\ m = ds.length - i /\ H' D = some (.lst ys) /\ Same H H' /\ Als (P H') ys ((ds.take i).map f), ⟨_, Nat.zero_le _, rfl, upd_same, same_new hD _, .nil⟩, ?_⟩
 rintro i m ys H1 ⟨hi, rfl, d1, s1, al1⟩
 have hS1 : SqL K H1 a xs := s1.seq hS
 by_cases hix : i < ds.length
 ·have hx0 : xs[i]? = some (xs[i]'(by omega)) := List.getElem?_eq_getElem _
  refine .inr ⟨⟨xs, _, hS1, hx0⟩, ?_⟩
  rintro x H2 ⟨rfl, hy⟩
  have hx := hy xs hS1
  obtain ⟨d, hd⟩ : ∃ d, ds[i]? = some d := ⟨_, List.getElem?_eq_getElem hix⟩
  refine turn i x d _ hx hd s1 _ _ fun v H3 s3 p3 => ?_
  have d3 : H3 D = some (.lst ys) := s3 _ _ d1
  have tm : Tst K H2 (upd H3 D (.lst (ys ++ [v]))) := (Tst.same s3).trans (Tst.up d3 _)
  refine ⟨d3, small1000 (by rw [al1.len, List.length_map, List.length_take]; omega), ds.length - (i + 1), by omega, hix, rfl, upd_same, fun b o q => ?_, ?_⟩
  ·rw [upd_ne (ne_of_none q hD)]
   exact s3 _ _ (s1 _ _ q)
  ·rw [List.take_add_one, hd, List.map_append]
   exact (al1.mono fun v d p => mono _ _ _ _ tm p).snoc (mono _ _ _ _ (Tst.up d3 _) p3)
 ·have e : i = ds.length := by omega
  subst e
  rw [List.take_length] at al1
  exact .inl ⟨⟨xs, hS1, by omega⟩, fin H1 ys s1 d1 al1⟩
def tAsgE (te : TE) (i : Nat) : TS := fun D σ H => te σ H fun x H1 => ∃ σ', σ.set i (some x) = σ' /\ D.nx σ' H1
section
variable {prog : Program} {w : World} {A : Around} {E : Value -> Shared -> Prop} {s : Shared}
end
section
variable {X : Cx} {pins : List (Addr × Obj)} {σ : L2.St} {H : Hp} {A : Around} {E : Value -> Shared -> Prop} {a kS : Addr} {vs : List Value} {kz : List Int} {f : Value} {e1 : Nat}
def KeyTurn (X : Cx) (σ : L2.St) (H : Hp) (A : Around) (f : Value) (vs : List Value) (kz : List Int) : Prop :=
 ∀ (i : Nat) (v : Value) (k : Int), vs[i]? = some v -> kz[i]? = some k -> ∀ (pins : List (Addr × Obj)) (s : Shared), Inv X pins σ H s →
  wpAny (model X.prog X.w) A (call f [v]) (fun u s2 => (∃ t, u = .int k t) /\ Inv X pins σ H s2) (fun _ _ => False) s
end
def rSortK (sp : Sp) (key : Nat -> Int) : List V -> Hp -> VK -> Prop := fun xs H Q => ∃ (p : Addr) (n : Nat), xs = [.ref p] /\ H p = some (.rng 0 n) /\ n < 64 /\ (∀ i < n, ∀ (Qk : VK), Qk (.int (key i)) H -> sp [.int (i : Nat)] H Qk fun _ _ _ => False) ∧
 ∀ (l : Addr) (ms : List Nat), ms.Perm (List.range n) -> ms.Pairwise (fun a b => key a ≤ key b) -> H l = none -> Q (.ref l) (upd H l (.lst (ms.map fun i : Nat => V.int i)))
def tSortK (sp : Sp) (key : Nat -> Int) (t : TA) : TE := fun σ H Q => t σ H fun vs H1 => rSortK sp key vs H1 Q
def rRemN : V -> List V -> Hp -> VK -> Prop := fun x vs H Q => ∃ (l : Addr) (ns : List Nat) (j k : Nat), x = .ref l /\ vs = [.int (k : Int)] /\ H l = some (.lst (ns.map fun i : Nat => V.int i)) /\ ns[j]? = some k /\ (∀ m, m < j -> ns[m]? ≠ some k) /\ Q .non (upd H l (.lst ((ns.eraseIdx j).map fun i : Nat => V.int i)))
def isN (k : Int) : Value -> Bool
 | .int i _ => i == k
 | _ => false
def cxD (X : Cx) (N' : List Str) (scope : Scope) (y : Str) (cl : List (Str × Addr)) (C : Addr) (fp : List Addr) (pins : List (Addr × Obj)) (s : Shared) (H : Hp) : Cx :=
 { X with N := N', s₀ := s, H₀ := H, env := compEnvC scope ((y, C + 1) :: cl) C X.env, outer := X.stack, stack := X.stack, ex := fp, fn := fun z => z == y, pn := X.pn ++ pins, xe := fun _ _ => False }
structure CellsD (X : Cx) (scope : Scope) (y : Str) (cl : List (Str × Addr)) : Prop where
 has : ∀ x, ((compEnvC scope cl 0 X.env).kindOf x = some .cell ∨ (compEnvC scope cl 0 X.env).kindOf x = some .free) -> x = y ∨ ∃ c, cl.lookup x = some c
 up : ∀ x c, cl.lookup x = some c -> X.env.cells.lookup x = some c
 no : cl.lookup y = none
section
variable {M : Model} {A : Around} {E : Value -> Shared -> Prop} {s : Shared}
end
section
variable {X : Cx} {N' : List Str} {scope : Scope} {y : Str} {cl : List (Str × Addr)} {src : List (Option Nat)} {pins : List (Addr × Obj)} {σ : L2.St} {H : Hp} {s : Shared} {fp : List Addr}
end
section
variable {X : Cx} {N' : List Str} {scope : Scope} {y : Str} {cl : List (Str × Addr)} {src : List (Option Nat)} {tg iter elt : Expr} {ifs : List Expr} {wi : TI} {g : TG} {tt : TT} {te : TE} {pos : Pos}
end
section
variable {X : Cx} {N' : List Str} {scope : Scope} {y : Str} {cl : List (Str × Addr)} {src : List (Option Nat)} {tg iter elt : Expr} {ifs : List Expr} {wi : TI} {g : TG} {tt : TT} {te : TE} {pos : Pos}
end
structure IsF (K : PySem.W.Frag) (n : Str) (st : Stmt) (f : Addr) (d : FuncData) : Prop where
 p : PySem.W.nsIn K mainGlobals n = some (some (.ref f))
 F : Fun K n n st f d
section
variable {K : PySem.W.Frag} {n : Str} {st : Stmt} {f : Addr} {d : FuncData}
theorem isF {oc : Value} {od an : Option Addr} {sl : Array (Option Value)} {kV dc pm cd ct : Value} (p : PySem.W.nsIn K mainGlobals n = some (some (.ref f)))
  (l : K.lookup f = some ⟨oc, od, .func (PySem.W.fnOf n n (defArgs st) (defBody st) (defScope st) .none kV dc pm an cd ct), sl⟩) (c : PySem.W.codeIn K cd n = true) (k : PySem.W.keepIn K (.ref f) = true) :
  IsF K n st f (PySem.W.fnOf n n (defArgs st) (defBody st) (defScope st) .none kV dc pm an cd ct) := ⟨p, fun_mk l c k⟩
abbrev BA (n : Str) (st : Stmt) (us : List Value) (ps : List Str) : Prop := ∀ (kV dc pm : Value) (an : Option Addr) (cd ct : Value), bindArgs (PySem.W.fnOf n n (defArgs st) (defBody st) (defScope st) .none kV dc pm an cd ct) ⟨us, []⟩ = pure (ps.zip us)
theorem IsF.b1 {x : Str} (I : IsF K n st f d) (h : ∀ u, BA n st [u] [x] := by exact fun _ _ _ _ _ _ _ => rfl) : Binds K d [x] [] := I.F.binds fun a b c e g i us hl => match us, hl with | [u], _ => h u a b c e g i
theorem IsF.b2 {x y : Str} (I : IsF K n st f d) (h : ∀ u v, BA n st [u, v] [x, y] := by exact fun _ _ _ _ _ _ _ _ => rfl) : Binds K d [x, y] [] := I.F.binds fun a b c e g i us hl => match us, hl with | [u, v], _ => h u v a b c e g i
theorem IsF.b3 {x y z : Str} (I : IsF K n st f d) (h : ∀ u v w, BA n st [u, v, w] [x, y, z] := by exact fun _ _ _ _ _ _ _ _ _ => rfl) : Binds K d [x, y, z] [] := I.F.binds fun a b c e g i us hl => match us, hl with | [u, v, w], _ => h u v w a b c e g i
end
theorem qss_consL {X : Cx} {st : Stmt} {rest : List Stmt} {t u : TS} (h1 : QS X st t) (h2 : QSs X rest u) : QSs X (st :: rest) (let Uq := u; tSeq t Uq) := qss_cons h1 h2
theorem lst_at {h h' : Heap} {a : Addr} {ys : Array Value} (x : h.IsList a ys) (k : ∀ o, h.get? a = some o -> h'.get? a = some o) : h'.IsList a ys := let ⟨o, e, r⟩ := x; ⟨o, k o e, r⟩
theorem lstIter_lt {h : Heap} {i a : Addr} {n : Nat} (x : h.IsListIter i a n) : i < h.objs.size := let ⟨_, e, _⟩ := x; Heap.lt_size e
def ItzLT (K : PySem.W.Frag) (a b : Addr) : It :=
 ⟨fun i H => ∃ xs ys x y, SqL K H a xs /\ SqT K H b ys /\ xs[i]? = some x /\ ys[i]? = some y,
  fun i H v H' => ∃ p x y, H p = none /\ v = .ref p /\ H' = upd H p (.tup [x, y]) /\ (∀ xs, SqL K H a xs -> xs[i]? = some x) /\ ∀ ys, SqT K H b ys -> ys[i]? = some y,
  fun i H => ∃ xs ys, SqL K H a xs /\ SqT K H b ys /\ (xs.length ≤ i ∨ ys.length ≤ i)⟩
def ZStLT (z TI TO i1 i2 a b : Addr) (i : Nat) (h : Heap) : Prop := IsZip h z TI TO .none /\ IsPair h TI (.ref i1) (.ref i2) /\ (∃ u v, IsPair h TO u v) /\ h.IsListIter i1 a i /\ h.IsTupleIter i2 b i
abbrev zALT (h : Heap) (a : Addr) : Heap := h.push { cls := .type "list_iterator", data := .fields #[.ref a, .int 0 0] }
abbrev zBLT (h : Heap) (a b : Addr) : Heap := (zALT h a).push { cls := .type "tuple_iterator", data := .fields #[.ref b, .int 0 0] }
abbrev zCLT (h : Heap) (a b : Addr) : Heap := (zBLT h a b).push { cls := .type "tuple", data := .seq #[.ref h.objs.size, .ref (zALT h a).objs.size] }
abbrev zDLT (h : Heap) (a b : Addr) : Heap := (zCLT h a b).push { cls := .type "tuple", data := .seq #[.none, .none] }
abbrev zELT (h : Heap) (a b : Addr) : Heap := (zDLT h a b).push { cls := .type "zip", data := .fields #[.none, .bool false, .bool false, .ref (zBLT h a b).objs.size, .ref (zCLT h a b).objs.size] }
def iZipLT (K : PySem.W.Frag) (ta : TA) : TI := fun σ H R => ta σ H fun vs H1 => ∃ a b, vs = [.ref a, .ref b] /\ (∃ xs, SqL K H1 a xs) /\ (∃ ys, SqT K H1 b ys) /\ R (ItzLT K a b) H1
def ItzLL (K : PySem.W.Frag) (a b : Addr) : It :=
 ⟨fun i H => ∃ xs ys x y, SqL K H a xs /\ SqL K H b ys /\ xs[i]? = some x /\ ys[i]? = some y,
  fun i H v H' => ∃ p x y, H p = none /\ v = .ref p /\ H' = upd H p (.tup [x, y]) /\ (∀ xs, SqL K H a xs -> xs[i]? = some x) /\ ∀ ys, SqL K H b ys -> ys[i]? = some y,
  fun i H => ∃ xs ys, SqL K H a xs /\ SqL K H b ys /\ (xs.length ≤ i ∨ ys.length ≤ i)⟩
def ZStLL (z TI TO i1 i2 a b : Addr) (i : Nat) (h : Heap) : Prop := IsZip h z TI TO .none /\ IsPair h TI (.ref i1) (.ref i2) /\ (∃ u v, IsPair h TO u v) /\ h.IsListIter i1 a i /\ h.IsListIter i2 b i
theorem turn_zipLL {P : Program} {w : World} {K : PySem.W.Frag} {elts : List Expr} {x1} {pos : Pos} {z TI TO i1 i2 a b : Addr} (D : Five z TI TO i1 i2) :
  Turn P w K (.Tuple elts x1 pos) (ItzLL K a b) [z, TI, TO, i1, i2] z (ZStLL z TI TO i1 i2 a b) where
 mem := by simp
 obj := fun i h st c hc => by
  obtain ⟨h1, h2, ⟨u, v, h3⟩, ⟨o4, h4, c4, d4⟩, ⟨o5, h5, c5, d5⟩⟩ := st
  simp only [List.mem_cons, List.not_mem_nil, or_false] at hc
  rcases hc with rfl | rfl | rfl | rfl | rfl
  ·exact ⟨_, h1, fun v q => by cases (show Data.fields _ = Data.cell v from q)⟩
  ·exact ⟨_, h2, fun v q => by cases (show Data.seq _ _ = Data.cell v from q)⟩
  ·exact ⟨_, h3, fun v q => by cases (show Data.seq _ _ = Data.cell v from q)⟩
  ·exact ⟨o4, h4, fun v q => by rw [d4] at q; cases q⟩
  ·exact ⟨o5, h5, fun v q => by rw [d5] at q; cases q⟩
 keep := fun i h h' st k => by
  obtain ⟨h1, h2, ⟨u, v, h3⟩, h4, h5⟩ := st
  exact ⟨k z (by simp) _ h1, k TI (by simp) _ h2, ⟨u, v, k TO (by simp) _ h3⟩, lstIter_at h4 fun o e => k i1 (by simp) o e, lstIter_at h5 fun o e => k i2 (by simp) o e⟩
 item := by
  intro X hP hw hK hc i pins s σ H E I hf st hg
  subst hP hw hK
  obtain ⟨xs, ys, x, y, q1, q2, hx, hy⟩ := hg
  obtain ⟨its, rv, p1, z1⟩ := I.list q1
  obtain ⟨jts, rw', p2, z2⟩ := I.list q2
  obtain ⟨u, hu, ru⟩ := rv.get hx
  obtain ⟨v, hv, rv2⟩ := rw'.get hy
  have off1 : ∀ c ∈ [z, TI, TO, i1, i2], a ≠ c := fun c hc => sqL_off I q1 (hf c hc)
  have off2 : ∀ c ∈ [z, TI, TO, i1, i2], b ≠ c := fun c hc => sqL_off I q2 (hf c hc)
  obtain ⟨h1, h2, ⟨o1, o2, h3⟩, h4, h5⟩ := st
  have hT : s.TypeIs (.ref z) "zip" := ⟨_, h1, rfl⟩
  unfold pyNext
  refine wpAny_bind (wpAny_attempt (wpAny_callSpecial?_slot (name := Str.ofString "__next__") hT F.slot_zip_next
   (wpAny_call_entry F.slot_zip_next hT F.entry_zip_next ?_ (F.args_zip_next_1 _))))
  refine zip_step (x := u) (y := v) (A1 := fun h => h.IsListIter i1 a (i + 1)) (A2 := fun h => h.IsListIter i2 b (i + 1)) D h1 h2 h3 ?_ ?_ (lstIter_lt h4) (lstIter_lt h5) ?_
  ·intro s' G E' k g
   exact wpAny_nextOf_list_item (lstIter_at h4 fun o e => k _ o D.a3 e) (lst_at (show s.heap.IsList a its.toArray from p1.isList) fun o e => k _ o (off1 z (by simp)) e) (by simpa using hu) g
  ·intro s' G E' k g
   exact wpAny_nextOf_list_item (lstIter_at h5 fun o e => k _ o D.a4 (Ne.symm D.a9) (Ne.symm D.b1) e) (lst_at (show s.heap.IsList b jts.toArray from p2.isList) fun o e => k _ o (off2 z (by simp)) (off2 TO (by simp)) (off2 i1 (by simp)) e) (by simpa using hv) g
  ·intro g1 g2 h' a1 a2 k1 k2 zz po pn sz kk
   refine wpAny_pure ⟨_, rfl, ?_⟩
   refine wpAny_letOwnedTupleGo_zip zz fun h'' z3 sb => ?_
   have nz : s.heap.objs.size ≠ z := Nat.ne_of_gt (Heap.lt_size h1)
   have hp : H s.heap.objs.size = none := I.fresh
   have P : ObjOk X.prog X.w (upd H s.heap.objs.size (.tup [x, y])) h'' s.heap.objs.size (.tup [x, y]) :=
    ⟨by show 2 ≤ sizeLine; decide, [u, v], .cons ru (.cons rv2 .nil), ⟨_, sb.extBut _ _ nz pn, rfl, _, rfl⟩⟩
   have I2 : Inv X pins σ (upd H s.heap.objs.size (.tup [x, y])) { s with heap := h'', toks := s.toks } := turnedN I (fun c o n e => by
    have n' : c ∉ [z, TO, i1, i2] := fun q => n (by
     simp only [List.mem_cons, List.not_mem_nil, or_false] at q ⊢
     rcases q with q | q | q | q <;> simp [q])
    exact sb.extBut _ _ (fun q => n (by simp [q])) (kk c o n' e)) hf (Nat.le_refl _) P
   refine ⟨.ref s.heap.objs.size, _, I2, rfl, ⟨_, x, y, hp, rfl, rfl, fun zs hz => by rw [I.list_inj hz q1]; exact hx, fun zs hz => by rw [I.list_inj hz q2]; exact hy⟩, ⟨z3, ?_, ⟨u, v, ?_⟩, ?_, ?_⟩, fun c hc => ?_⟩
   ·refine sb.extBut _ _ D.a1 (kk TI _ ?_ h2)
    have := D.a1; have := D.a5; have := D.a6; have := D.a7
    simp only [List.mem_cons, List.not_mem_nil, or_false, not_or]
    exact ⟨D.a1, D.a5, D.a6, D.a7⟩
   ·exact sb.extBut _ _ D.a2 po
   ·exact lstIter_at a1 fun o e => sb.extBut _ _ D.a3 (k1 _ o D.a3 (Ne.symm D.a8) D.b1 e)
   ·exact lstIter_at a2 fun o e => sb.extBut _ _ D.a4 (k2 _ o D.a4 (Ne.symm D.a9) e)
   ·have lt : c < s.heap.objs.size := by
     simp only [List.mem_cons, List.not_mem_nil, or_false] at hc
     rcases hc with rfl | rfl | rfl | rfl | rfl
     ·exact Heap.lt_size h1
     ·exact Heap.lt_size h2
     ·exact Heap.lt_size h3
     ·exact lstIter_lt h4
     ·exact lstIter_lt h5
    rw [upd_ne (Nat.ne_of_lt lt)]
    exact (hf c hc).1
 done := by
  intro X hP hw hK hc i pins s σ H E I hf st hg
  subst hP hw hK
  obtain ⟨xs, ys, q1, q2, hd⟩ := hg
  obtain ⟨its, rv, p1, z1⟩ := I.list q1
  obtain ⟨jts, rw', p2, z2⟩ := I.list q2
  have l1 := rv.length
  have l2 := rw'.length
  have off1 : ∀ c ∈ [z, TI, TO, i1, i2], a ≠ c := fun c hc => sqL_off I q1 (hf c hc)
  have off2 : ∀ c ∈ [z, TI, TO, i1, i2], b ≠ c := fun c hc => sqL_off I q2 (hf c hc)
  obtain ⟨h1, h2, ⟨o1, o2, h3⟩, h4, h5⟩ := st
  have hT : s.TypeIs (.ref z) "zip" := ⟨_, h1, rfl⟩
  have hh : X.A.in1.handled = none := I.ok.hd hc
  unfold pyNext
  refine wpAny_bind (wpAny_attempt (wpAny_callSpecial?_slot (name := Str.ofString "__next__") hT F.slot_zip_next
   (wpAny_call_entry F.slot_zip_next hT F.entry_zip_next ?_ (F.args_zip_next_1 _))))
  refine zip_stop D h1 h2 h3 ?_ fun h' e kk he => ?_
  ·cases e : its.toArray[i]? with
   | none =>
    refine .inl fun s' G E' k g => ?_
    exact wpAny_nextOf_list_end hh (lstIter_at h4 fun o e => k _ o D.a3 e) (lst_at (show s.heap.IsList a its.toArray from p1.isList) fun o e => k _ o (off1 z (by simp)) e) e g
   | some u =>
    refine .inr ⟨⟨u, fun s' G E' k g => ?_⟩, fun s' G E' k g => ?_⟩
    ·exact wpAny_nextOf_list_item (lstIter_at h4 fun o e => k _ o D.a3 e) (lst_at (show s.heap.IsList a its.toArray from p1.isList) fun o e => k _ o (off1 z (by simp)) e) e fun h' _ sb => g h' sb
    ·have hi : i < its.length := by
      have := (Array.getElem?_eq_some_iff.mp e).1
      simpa using this
     exact wpAny_nextOf_list_end hh (lstIter_at h5 fun o e => k _ o D.a4 (Ne.symm D.a9) (Ne.symm D.b1) e) (lst_at (show s.heap.IsList b jts.toArray from p2.isList) fun o e => k _ o (off2 z (by simp)) (off2 TO (by simp)) (off2 i1 (by simp)) e)
      (by rw [Array.getElem?_eq_none_iff]; simp; omega) g
  ·obtain ⟨o, ho, hc'⟩ := he
   refine wpAny_bind (wpAny_isInstance (T := "StopIteration") (b := true) ⟨o, ho, hc'⟩ isSubtype_stop ?_)
   refine wpAny_pure ⟨rfl, ?_⟩
   exact turnedL (t' := s.toks) I (fun c o n e => kk c o (fun q => n (by
     simp only [List.mem_cons, List.not_mem_nil, or_false] at q ⊢
     rcases q with q | q | q | q <;> simp [q])) e) hf
 self := fun _ _ _ _ _ st h => wpAny_pyIter_zip st.1 h
abbrev zALL (h : Heap) (a : Addr) : Heap := h.push { cls := .type "list_iterator", data := .fields #[.ref a, .int 0 0] }
abbrev zBLL (h : Heap) (a b : Addr) : Heap := (zALL h a).push { cls := .type "list_iterator", data := .fields #[.ref b, .int 0 0] }
abbrev zCLL (h : Heap) (a b : Addr) : Heap := (zBLL h a b).push { cls := .type "tuple", data := .seq #[.ref h.objs.size, .ref (zALL h a).objs.size] }
abbrev zDLL (h : Heap) (a b : Addr) : Heap := (zCLL h a b).push { cls := .type "tuple", data := .seq #[.none, .none] }
abbrev zELL (h : Heap) (a b : Addr) : Heap := (zDLL h a b).push { cls := .type "zip", data := .fields #[.none, .bool false, .bool false, .ref (zBLL h a b).objs.size, .ref (zCLL h a b).objs.size] }
theorem zip_newLL (a b : Addr) (xs ys : Array Value) : Meets (Builtin.«zip.__new__» ⟨[.type "zip", .ref a, .ref b], []⟩) (fun _ R s => s.heap.IsList a xs /\ s.heap.IsList b ys ∧
  R (.ok (.ret (.ref (zDLL s.heap a b).objs.size))) { s with heap := zELL s.heap a b }) :=
 .of_wp fun prog w A R s h => by
  obtain ⟨hp, g, d, tk, os⟩ := s; obtain ⟨l1, l2, h⟩ := h
  have zsub := sub_zip
  have L1 : Heap.IsList (Shared.heap ⟨hp, g, d, tk, os⟩) a xs := l1
  have L2 : Heap.IsList (Shared.heap ⟨hp.push { cls := .type "list_iterator", data := .fields #[.ref a, .int 0 0] }, g, d, tk, os⟩) b ys := Heap.IsList.push l2 _
  wp_walk using wpAny_pyIter_list L1, wpAny_pyIter_list L2
  exact ⟨_, rfl, h⟩
def iZipLL (K : PySem.W.Frag) (ta : TA) : TI := fun σ H R => ta σ H fun vs H1 => ∃ a b, vs = [.ref a, .ref b] /\ (∃ xs, SqL K H1 a xs) /\ (∃ ys, SqL K H1 b ys) /\ R (ItzLL K a b) H1
theorem pi_zipLL {X : Cx} {elts : List Expr} {x1} {tp p pos : Pos} {a b : Expr} {ta : TA} (hg : Gl X "zip") (hm : X.mg "zip" = none) (ha : PA X [a, b] ta) (hs : starEach [a, b] X.env = [(false, eval a X.env), (false, eval b X.env)] := by rfl) (hs2 : starEach [b] X.env = [(false, eval b X.env)] := by rfl) :
  PI X (.Tuple elts x1 tp) (.Call (.Name "zip" p) [a, b] [] pos) (iZipLL X.K ta) := by
 intro pins s σ H R I h
 refine Call_ (ld_blt I hg hm (show bootBuiltins "zip" = some (.type "zip") by kernel_rfl) (PyProof.Rows.callWith_type1 (thn (ha pos pins s σ H _ I h) fun us s1 ⟨vs, H1, I1, r1, q1⟩ => ?_) (by rw [hs, hs2]) (by rw [hs2]; rfl)))
 obtain ⟨a, b, e, ⟨xs, hx⟩, ⟨ys, hy⟩, q⟩ := q1
 subst e
 obtain ⟨u, v, rfl, ru, rv⟩ := vals2 r1
 cases ru; cases rv
 obtain ⟨its, _, p1, _⟩ := I1.list hx
 obtain ⟨jts, _, p2, _⟩ := I1.list hy
 refine callType_new F.called_zip (by decide) (F.typeCall_zip_2 _ _) (F.newCall_zip_2 _ _) (fun obj => F.args_object_init_3 obj _ _) F.entry_zip_new (zip_newLL a b its.toArray jts.toArray) ⟨p1.isList, p2.isList, ?_⟩
 have e1 : (zALL s1.heap a).objs.size = s1.heap.objs.size + 1 := Heap.size_push ..
 have e2 : (zBLL s1.heap a b).objs.size = s1.heap.objs.size + 2 := by rw [Heap.size_push, e1]
 have e3 : (zCLL s1.heap a b).objs.size = s1.heap.objs.size + 3 := by rw [Heap.size_push, e2]
 have e4 : (zDLL s1.heap a b).objs.size = s1.heap.objs.size + 4 := by rw [Heap.size_push, e3]
 have g5 : (zELL s1.heap a b).get? (zDLL s1.heap a b).objs.size = some _ := Heap.get?_push_size _ rfl
 have g4 : (zELL s1.heap a b).get? (zCLL s1.heap a b).objs.size = some _ := Heap.get?_push_of_some _ (Heap.get?_push_size _ rfl)
 have g3 : (zELL s1.heap a b).get? (zBLL s1.heap a b).objs.size = some _ := Heap.get?_push_of_some _ (Heap.get?_push_of_some _ (Heap.get?_push_size _ rfl))
 have g2 : (zELL s1.heap a b).get? (zALL s1.heap a).objs.size = some _ := Heap.get?_push_of_some _ (Heap.get?_push_of_some _ (Heap.get?_push_of_some _ (Heap.get?_push_size _ rfl)))
 have g1 : (zELL s1.heap a b).get? s1.heap.objs.size = some _ := Heap.get?_push_of_some _ (Heap.get?_push_of_some _ (Heap.get?_push_of_some _ (Heap.get?_push_of_some _ (Heap.get?_push_size _ rfl))))
 have kk : ∀ c o, s1.heap.get? c = some o -> (zELL s1.heap a b).get? c = some o := fun c o x => Heap.get?_push_of_some _ (Heap.get?_push_of_some _ (Heap.get?_push_of_some _ (Heap.get?_push_of_some _ (Heap.get?_push_of_some _ x))))
 show _ /\ _
 rw [e2, e3, e4] at g5
 rw [e1, e2] at g3
 rw [e3] at g4
 rw [e1] at g2
 rw [e4]
 generalize zELL s1.heap a b = hE at g1 g2 g3 g4 g5 kk
 refine ⟨⟨_, g5, rfl⟩, wpAny_pyIter_zip g5 ?_⟩
 have I2 : Inv X pins σ H1 { s1 with heap := hE } := I1.kept (t' := s1.toks) kk
 refine ⟨_, _, _, _, H1, rfl, I2, turn_zipLL (five_new s1.heap.objs.size), ⟨g5, g3, ⟨_, _, g4⟩, ⟨_, g1, rfl, rfl⟩, ⟨_, g2, rfl, rfl⟩⟩, fun c hc => ?_, q⟩
 have le : s1.heap.objs.size ≤ c := by
  simp only [List.mem_cons, List.not_mem_nil, or_false] at hc
  rcases hc with h | h | h | h | h <;> (rw [h]; first | exact Nat.le_refl _ | exact Nat.le_add_right _ _)
 exact I1.fpOk le (I1.hok.fresh le)
theorem for_zipLL {K : PySem.W.Frag} {a b : Addr} {xs ys : List V} {n : Nat} {g : TG} {tb : TS} {D : Ends} {σ : L2.St} {H : Hp} (Pv : Nat -> L2.St -> Hp -> Prop) (h1 : n ≤ xs.length) (h2 : n ≤ ys.length) (h3 : xs.length ≤ n ∨ ys.length ≤ n) (h0 : Pv 0 σ H)
  (hl : ∀ i σ H, i ≤ n -> Pv i σ H -> SqL K H a xs /\ SqL K H b ys)
  (hs : ∀ i x y p σ H, i < n -> xs[i]? = some x -> ys[i]? = some y -> Pv i σ H -> H p = none -> g (.ref p) σ (upd H p (.tup [x, y])) fun σ2 H2 => tb { D with nx := Pv (i + 1), ct := Pv (i + 1), bk := D.nx } σ2 H2) (hd : ∀ σ H, Pv n σ H -> D.nx σ H) :
  ∃ W : Nat -> Nat -> L2.St -> Hp -> Prop, (∃ m, W 0 m σ H) /\ ∀ i m σ H, W i m σ H →
   ((ItzLL K a b).stop i H /\ D.nx σ H) ∨ ((ItzLL K a b).go i H /\ ∃ N : L2.St -> Hp -> Prop, (∀ σ' H', N σ' H' -> ∃ m', m' < m /\ W (i + 1) m' σ' H') /\ ∀ x H', (ItzLL K a b).yld i H x H' -> g x σ H' fun σ2 H2 => tb { D with nx := N, ct := N, bk := D.nx } σ2 H2) := by
 refine ⟨fun i m σ H => m = n - i /\ i ≤ n /\ Pv i σ H, ⟨n, by simp, Nat.zero_le _, h0⟩, ?_⟩
 rintro i m σ H ⟨rfl, hi, p⟩
 obtain ⟨q1, q2⟩ := hl i σ H hi p
 by_cases hlt : i < n
 ·have e1 : xs[i]? = some (xs[i]'(by omega)) := List.getElem?_eq_getElem _
  have e2 : ys[i]? = some (ys[i]'(by omega)) := List.getElem?_eq_getElem _
  refine .inr ⟨⟨xs, ys, _, _, q1, q2, e1, e2⟩, Pv (i + 1), fun σ' H' p' => ⟨n - (i + 1), by omega, rfl, hlt, p'⟩, fun x H' y => ?_⟩
  obtain ⟨pp, x0, y0, hp, rfl, rfl, y1, y2⟩ := y
  exact hs i x0 y0 pp σ _ hlt (y1 xs q1) (y2 ys q2) p hp
 ·have e : i = n := by omega
  subst e
  exact .inl ⟨⟨xs, ys, q1, q2, h3⟩, hd σ H p⟩
theorem qi_zipLL {X : Cx} {elts : List Expr} {x1} {tp p pos : Pos} {a b : Expr} {ta : TA} (hg : Gl X "zip") (hm : X.mg "zip" = none) (ha : QA X [a, b] ta) (hs : starEach [a, b] X.env = [(false, eval a X.env), (false, eval b X.env)] := by rfl) (hs2 : starEach [b] X.env = [(false, eval b X.env)] := by rfl) : QI X (.Tuple elts x1 tp) (.Call (.Name "zip" p) [a, b] [] pos) (iZipLL X.K ta) := ⟨pi_zipLL hg hm ha.p hs hs2⟩
theorem noteFrame_frame {e : Value} {env env' : Env} (h : env.frame = env'.frame) : noteFrame e env = noteFrame e env' := by
 unfold noteFrame PySem.frameOf
 rw [h]
def XEC (X : Cx) (C : Addr) (fp : List Addr) (s : Shared) (H : Hp) (E : XK) : Value -> Shared -> Prop := fun e s' => ∃ (x B T : Addr) (dx : Option Addr) (H' : Hp), e = .ref x /\ s'.os = s.os /\ AllBare s'.gens /\ Un (frs X.stack) fp H H' s.heap s'.heap /\ HOk X.prog X.w H' s'.heap ∧
 s.heap.get? x = none /\ s.heap.get? T = none /\ H' x = none /\ H' T = none /\ TrcD s'.heap x B T dx .none /\ E (.ref B) dx H' /\ x ≠ C /\ T ≠ C /\ ∃ m, s'.heap.Ns C m /\ H' C = none
def cxX (X : Cx) (N' : List Str) (scope : Scope) (cl : List (Str × Addr)) (C : Addr) (fp : List Addr) (pins q : List (Addr × Obj)) (s : Shared) (H : Hp) (E : XK) : Cx :=
 { X with N := N', s₀ := s, H₀ := H, env := compEnvC scope cl C X.env, outer := X.stack, stack := X.stack, ex := fp, fn := fun _ => false, pn := (X.pn ++ pins) ++ q, xe := XEC X C fp s H E }
section
variable {X : Cx} {N' : List Str} {scope : Scope} {cl : List (Str × Addr)} {C : Addr} {fp : List Addr} {pins q : List (Addr × Obj)} {s s' : Shared} {H H' : Hp} {E : XK} {σ : L2.St}
theorem Inv.toX (I : Inv (cxC X N' scope cl C fp pins s H) ([] ++ q) σ H' s') : Inv (cxX X N' scope cl C fp pins q s H E) [] σ H' s' :=
 ⟨⟨I.ok.mod, I.ok.kind, I.ok.glob, I.ok.blt, I.ok.above, I.ok.inj, I.ok.has, I.ok.cab, I.ok.hd, I.ok.frames, I.ok.stk, I.ok.exf, I.ok.bs, I.ok.bsz, I.ok.noex, I.ok.exfs, I.ok.funs, I.ok.frf⟩, I.os, I.bare, I.base, I.loc, I.cell, I.free, I.freeC, fun p hp => I.pin p (by
  have z : p ∈ ((X.pn ++ pins) ++ q) ++ [] := hp
  rw [List.append_nil] at z; exact z), I.hok, I.len⟩
theorem Inv.ofX (I : Inv (cxX X N' scope cl C fp pins q s H E) [] σ H' s') : Inv (cxC X N' scope cl C fp pins s H) ([] ++ q) σ H' s' :=
 ⟨⟨I.ok.mod, I.ok.kind, I.ok.glob, I.ok.blt, I.ok.above, I.ok.inj, I.ok.has, I.ok.cab, I.ok.hd, I.ok.frames, I.ok.stk, I.ok.exf, I.ok.bs, I.ok.bsz, I.ok.noex, I.ok.exfs, I.ok.funs, I.ok.frf⟩, I.os, I.bare, I.base, I.loc, I.cell, I.free, I.freeC, fun p hp => I.pin p (by
  have z : p ∈ (X.pn ++ pins) ++ ([] ++ q) := hp
  show p ∈ ((X.pn ++ pins) ++ q) ++ []
  rw [List.append_nil]; exact z), I.hok, I.len⟩
theorem passX (hq : ∀ b ∈ fp, ∃ o, (b, o) ∈ q) : Passes (CXD X.prog X.w) (cxX X N' scope cl C fp pins q s H E) E := by
 intro pins' σ H1 s1 e s2 I hx
 obtain ⟨x, B, T, dx, H2, rfl, ho, hb, un, hok, nx, nT, hx2, hT2, tr, hE⟩ := hx
 have I2 : Inv (cxX X N' scope cl C fp pins q s H E) pins' σ H2 s2 := I.call' ho un hok hb (fun b hb => by cases hb)
 have old : ∀ b, s1.heap.get? b = none -> s.heap.get? b = none := fun b n => by
  cases z : s.heap.get? b with
  | none => rfl
  | some o =>
   exfalso
   by_cases hf : b ∈ fp
   ·obtain ⟨o', ho'⟩ := hq b hf
    have := (I.pin (b, o') (List.mem_append_left _ (List.mem_append_right _ ho'))).1
    rw [n] at this; cases this
   ·obtain ⟨o', e⟩ := I.base.there b o z hf
    rw [n] at e; cases e
 have neC : ∀ b, s1.heap.get? b = none -> b ≠ C := fun b n z => by
  obtain ⟨m, ⟨o, _, _, e, _⟩, _⟩ := I.loc
  rw [z] at n
  have e' : s1.heap.get? C = some o := e
  rw [n] at e'; cases e'
 obtain ⟨m, hm, _⟩ := I2.loc
 exact ⟨x, B, T, dx, H2, rfl, I2.os, I2.bare, I2.base, I2.hok, old x nx, old T nT, hx2, hT2, tr, hE, neC x nx, neC T nT, m, hm, I2.free⟩
end
def TakesF (X : Cx) (E : XK) : Prop := ∀ (pins : List (Addr × Obj)) (σ : L2.St) (H : Hp) (s : Shared) (a C T : Addr) (dx : Option Addr) (fl : Value), L2.Inv X pins σ H s -> H a = none -> NewAt X pins a -> H T = none -> NewAt X pins T -> TrcD s.heap a C T dx fl -> E (.ref C) dx H -> X.xe (.ref a) s
section
variable {M : Model} {A : Around} {s : Shared} {e C T : Addr} {dx : Option Addr} {fl : Value} {Ex : Value -> Shared -> Prop}
theorem flightX {fr : Option Addr} {Q : Unit -> Shared -> Prop} (t : TrcD s.heap e C T dx fl) (h : ∀ h', Kept [] [T] s.heap h' -> TrcD h' e C T dx (fr.elim Value.none fun f => rawInt f) -> Q () { s with heap := h' }) : wpAny M A (setFlight (.ref e) fr) Q Ex s := by
 obtain ⟨oe, vs, oT, ts, q1, q2, q3, q4, q5, q6, q7, q8, q9⟩ := t
 have z3 : 3 < ts.size := (Array.getElem?_eq_some_iff.mp q9).1
 unfold setFlight
 refine wpAny_bind (wpAny_field q1 q4 q5 ?_)
 rw [if_pos (by simp)]
 refine wpAny_setField q7 q8 z3 (h _ Kept.upd ?_)
 have d3 := Obj.data_mapFields q8 (·.setIfInBounds 3 (fr.elim Value.none fun f => rawInt f))
 exact ⟨oe, vs, _, _, (Heap.get?_update_other _ _ q6).trans q1, q2, q3, q4, q5, q6, Heap.get?_update_self _ q7 (Obj.isFreed_of_fields d3), d3, by simp [z3]⟩
theorem passOnX {what : String} {cenv : Env} {α : Type} {Q : α -> Shared -> Prop} (t : TrcD s.heap e C T dx fl) (h : ∀ h', Kept [] [T] s.heap h' -> TrcD h' e C T dx (cenv.frame.elim Value.none fun f => rawInt f) -> Ex (.ref e) { s with heap := h' }) : wpAny M A (passOn what (.ref e) cenv : Sem α) Q Ex s := by
 obtain ⟨oe, vs, oT, ts, q1, q2, q3, q4, q5, q6, q7, q8, q9⟩ := id t
 unfold PySem.passOn
 refine wpAny_bind (wpAny_field q1 q4 q5 ?_)
 rw [if_neg (by simp)]
 refine wpAny_bind (flightX t fun h' k t' => ?_)
 exact wpAny_throw (h h' k t')
theorem notedAt {env : Env} {L : Addr} {Q : Unit -> Shared -> Prop} (hf : env.frame = some L) (t : TrcD s.heap e C T dx (rawInt L)) (h : Q () s) : wpAny M A (noteFrame (.ref e) env) Q Ex s := by
 obtain ⟨oe, vs, oT, ts, q1, q2, q3, q4, q5, q6, q7, q8, q9⟩ := t
 unfold noteFrame
 simp only [hf]
 refine wpAny_bind (wpAny_field q1 q4 q5 ?_)
 rw [if_pos (by simp)]
 refine wpAny_bind (wpAny_field q7 q8 q9 ?_)
 rw [if_pos (by simp)]
 exact wpAny_pure h
end
section
variable {M : Model} {A : Around} {E : Value -> Shared -> Prop} {s : Shared} {base : Heap} {env : Env} {outer : List Env} {L e C T : Addr} {dx : Option Addr} {fl : Value}
theorem noteX {Q : Unit -> Shared -> Prop} (hfr : A.frames = some (env :: outer)) (hl : s.heap.FunFrames base (env :: outer)) (hf : env.frame = some L) (t : TrcD s.heap e C T dx fl) (ne : fl ≠ rawInt L)
  (h : ∀ h' T', Kept (frs (env :: outer)) [T, e] s.heap h' -> s.heap.get? T' = none -> TrcD h' e C T' dx (rawInt L) -> Q () { s with heap := h' }) : wpAny M A (noteFrame (.ref e) env) Q E s := by
 obtain ⟨oe, vs, oT, ts, q1, q2, q3, q4, q5, q6, q7, q8, q9⟩ := t
 unfold noteFrame
 simp only [hf]
 refine wpAny_bind (wpAny_field q1 q4 q5 ?_)
 rw [if_pos (by simp)]
 refine wpAny_bind (wpAny_field q7 q8 q9 ?_)
 rw [if_neg (by simpa using ne)]
 refine wpAny_bind (wpAny_setField q7 q8 (Array.getElem?_eq_some_iff.mp q9).1 ?_)
 have k1 : Kept (frs (env :: outer)) [T] s.heap (s.heap.update T (Obj.mapFields (·.setIfInBounds 3 Value.none))) := Kept.upd
 have nf : ∀ b o, s.heap.get? b = some o -> (∀ us, o.data ≠ .fields us) -> b ∉ [T] := fun b o hb hn z => by
  rw [List.mem_singleton.mp z, q7] at hb; cases hb; exact hn ts q8
 refine entryD (base := base) hfr (hl.of_keeps fun b o hb hn => ?_) hf ((Heap.get?_update_other _ _ q6).trans q1) q4 (Array.getElem?_eq_some_iff.mp q5).1 q2 q3 fun h' T' k nT t' => h h' T' (k1.trans k) ?_ t'
 ·obtain ⟨sl, z⟩ := k1.slot b o (nf b o hb hn) hb
  exact ⟨_, z, rfl⟩
 ·cases q : s.heap.get? T' with
  | none => rfl
  | some o =>
   exfalso
   by_cases z : T' = T
   ·have d3 := Obj.data_mapFields q8 (·.setIfInBounds 3 Value.none)
    rw [z, Heap.get?_update_self _ q7 (Obj.isFreed_of_fields d3)] at nT; cases nT
   ·rw [Heap.get?_update_other _ _ (Ne.symm z)] at nT; rw [q] at nT; cases nT
end
section
variable {P : Program} {w : World} {K : PySem.W.Frag} {mg : Str -> Option Value} {base : Heap} {N : List Str} {qual : Str} {scope : Scope} {f : Addr} {cd : Value} {A : Around} {outer : List Env} {s : Shared} {H : Hp} {E : XK}
theorem takesF : TakesF (cxOf (CXD P w) P w K mg base N qual scope f cd A outer s H E) E := by
 intro pins σ H1 s1 a C T dx fl I ha na hT nT tr hE
 show wpAny (model P w) _ (leaving _ _) _ _ s1
 unfold leaving
 by_cases z : fl = rawInt (cxOf (CXD P w) P w K mg base N qual scope f cd A outer s H E).env.locals
 ·subst z
  refine wpAny_bind (notedAt rfl tr (flightD tr fun h2 k2 t2 => ?_))
  have I2 := B.Inv.leftK (tk := s1.toks) I (fun b hb => by rw [List.mem_singleton.mp hb]; exact ⟨hT, nT⟩) k2.any
  exact ⟨a, C, T, dx, H1, rfl, I2.os, I2.bare, I2.base, I2.hok, na.st, nT.st, ha, hT, t2, hE⟩
 ·have hfrm : (cxOf (CXD P w) P w K mg base N qual scope f cd A outer s H E).A.frames = some ((cxOf (CXD P w) P w K mg base N qual scope f cd A outer s H E).env :: outer) := I.ok.frames
  refine wpAny_bind (noteX (base := base) hfrm I.stack rfl tr z fun h1 T' k1 nT' t1 => ?_)
  refine flightD (s := { s1 with heap := h1 }) t1 fun h2 k2 t2 => ?_
  have nt := B.Inv.newAt I rfl nT'
  have hT' := B.Inv.none_of I nT'
  have I2 := B.Inv.leftK (tk := s1.toks) I (fun b hb => by
   simp only [List.cons_append, List.nil_append, List.mem_cons, List.not_mem_nil, or_false] at hb
   rcases hb with rfl | rfl | rfl
   ·exact ⟨hT, nT⟩
   ·exact ⟨ha, na⟩
   ·exact ⟨hT', nt⟩) (k1.trans k2.any)
  exact ⟨a, C, T', dx, H1, rfl, I2.os, I2.bare, I2.base, I2.hok, na.st, nt.st, ha, hT', t2, hE⟩
end
section
variable {prog : Program} {w : World} {A : Around} {R : Result -> Shared -> Prop} {s : Shared}
theorem comp_loopX {elt target iter : Expr} {ifs : List Expr} {scope : Scope} {pos : Pos} {it acc : Value} {env : Env} (I : Nat -> Shared -> Prop)
  (turn : ∀ n s, I n s -> wpAny (model prog w) A (pyNext it) (fun r s₁ => match r with
   | none => R (.ok .next) s₁
   | some v => wpAny (model prog w) A (letOwnedTupleGo target it v) (fun _ s₁' => wpAny (model prog w) A (assign target env v) (fun _ s₂ =>
     wpAny (model prog w) A (forIn ifs true fun c r => if r = true then do let ok ← isTrue c env (eval c env); pure (ForInStep.yield ok) else pure (ForInStep.yield r)) (fun ok s₃ =>
      if ok = true then wpAny (model prog w) A (eval elt env) (fun x s₄ =>
       wpAny (model prog w) A (call (.builtin "list.append") [acc, x]) (fun _ s₅ => ∃ m, m < n /\ I m s₅) (fun _ _ => False) s₄) (fun x s' => wpAny (model prog w) A (noteFrame x env) (fun _ s'' => R (.error x) s'') (fun x s'' => R (.error x) s'') s') s₃
      else ∃ m, m < n /\ I m s₃) (fun _ _ => False) s₂) (fun _ _ => False) s₁') (fun _ _ => False) s₁) (fun _ _ => False) s)
  (n : Nat) (h : I n s) : codeAny (model prog w) A (.compLoop (.ListComp elt [⟨target, iter, ifs, 0⟩] scope pos) 0 it acc env) R s := by
 refine codeAny_loop rfl I (fun n s hI => ?_) n h
 show wpAny _ A ((compTurn (.ListComp elt [⟨target, iter, ifs, 0⟩] scope pos) 0 it acc env).onRaise (fun x => do noteFrame x env; theTreesLotGoes x)) _ _ s
 refine wpAny_noted ?_
 rw [compTurn_list]
 refine wpAny_bind (wpAny_standAt (wpAny_bind (wpAny_mono (turn n s hI) (fun r s₁ h₁ => ?_) fun _ _ h' => h'.elim)))
 cases r with
 | none => exact wpAny_pure h₁
 | some v =>
  refine wpAny_bind (wpAny_mono h₁ (fun _ s₁' h₁' => ?_) fun _ _ h' => h'.elim)
  refine wpAny_bind (wpAny_mono h₁' (fun _ s₂ h₂ => wpAny_bind (wpAny_mono h₂ (fun ok s₃ h₃ => ?_) fun _ _ h' => h'.elim)) fun _ _ h' => h'.elim)
  cases ok with
  | false => exact wpAny_pure ⟨rfl, h₃⟩
  | true =>
   exact wpAny_bind (wpAny_bind (wpAny_mono h₃ (fun x s₄ h₄ => wpAny_bind (wpAny_mono h₄ (fun _ s₅ h₅ => wpAny_pure (wpAny_pure ⟨rfl, h₅⟩)) fun _ _ h' => h'.elim)) fun _ _ h' => h'))
end
section
variable {X : Cx} {N' : List Str} {scope : Scope} {cl : List (Str × Addr)} {src : List (Option Nat)} {tg iter elt : Expr} {ifs : List Expr} {wi : TI} {g : TG} {tt : TT} {te : TE} {pos : Pos} {E : XK}
theorem comp_runX (hc : X.calm = true) (hi : PI X tg iter wi) (hg : ∀ C fp pins s H, PG (cxC X N' scope cl C fp pins s H) tg g) (ht : ∀ C fp pins s H, PTs (cxC X N' scope cl C fp pins s H) ifs tt)
  (he : ∀ C fp pins q s H, (∀ b ∈ fp, ∃ o, (b, o) ∈ q) -> PE (cxX X N' scope cl C fp pins q s H E) elt te) (hex : X.ex = []) (hst : X.stack = X.env :: X.outer) (hfr : X.env.frame = some X.env.locals) (hfree : FreeOk X scope cl N' src) (hcell : ∀ x ∈ scope.names, x.2 ≠ .cell) (hkind : scope.kind = .function) (hcl : CellsOk X scope cl)
  {RR : Value -> Addr -> Result -> Shared -> Prop} {pins : List (Addr × Obj)} {s : Shared} {σ : L2.St} {H : Hp} {Q : VK} (I : Inv X pins σ H s) (h : tComp wi src g tt te σ H Q)
  (hRE : ∀ D C H' s' x B T dx fl, Inv X pins σ H' s' -> OffC X pins H' C -> (∃ m, s'.heap.Ns C m) -> NewAt X pins x -> NewAt X pins T -> H' x = none -> H' T = none -> x ≠ C -> T ≠ C -> TrcD s'.heap x B T dx fl -> E (.ref B) dx H' -> RR (.ref D) C (.error (.ref x)) s')
  (hRR : ∀ D C H' s', Q (.ref D) H' -> (∃ m, s'.heap.Ns C m) -> Inv X pins σ H' s' -> OffC X pins H' C -> RR (.ref D) C (.ok .next) s') :
  wpAny (model X.prog X.w) X.A (eval iter X.env) (fun x s₁ => wpAny (model X.prog X.w) X.A (pyIter x) (fun itv s₂ => wpAny (model X.prog X.w) X.A (newList []) (fun acc s₃ =>
   wpAny (model X.prog X.w) X.A (newFunctionEnv scope X.env.globals cl [] X.env.qual none .none (some X.env)) (fun cenv s₄ =>
    codeAny (model X.prog X.w) X.A (.compStart (.ListComp elt [⟨tg, iter, ifs, 0⟩] scope pos) 0 itv acc { cenv with scope := relabel scope X.env }) (RR acc cenv.locals) s₄) X.xe s₃) X.xe s₂) X.xe s₁) X.xe s := by
 refine thn (hi pins s σ H _ I h) fun v s1 h1 => thn h1 fun itv s2 h2 => ?_
 obtain ⟨it, fp, tn, J, H2, e, I2, T, st2, f2, h2⟩ := h2
 subst e
 refine wpAny_newObj_type ?_ (by show 0 ≤ sizeLine; exact Nat.zero_le _)
 have hD : H2 s2.heap.objs.size = none := I2.fresh
 have I3 : Inv X pins σ (upd H2 s2.heap.objs.size (.lst [])) { s2 with heap := s2.heap.push { cls := .type "list", data := .seq ([] : List Value).toArray } } := I2.lnew (t' := s2.toks) (its := []) .nil (Nat.zero_le _)
 obtain ⟨W, ⟨m0, w0⟩, turn⟩ := h2 s2.heap.objs.size hD
 generalize hDe : s2.heap.objs.size = D at I3 turn w0 hD ⊢
 have st3 : tn 0 (s2.heap.push { cls := .type "list", data := .seq ([] : List Value).toArray }) := T.keep _ _ _ st2 fun b _ o e => Heap.get?_push_of_some _ e
 have f3 : ∀ b ∈ fp, FpOk X pins (upd H2 D (.lst [])) b /\ b < (s2.heap.push { cls := .type "list", data := .seq ([] : List Value).toArray }).objs.size := fun b hb => by
  obtain ⟨o, e, _⟩ := T.obj _ _ st2 b hb
  have l := Heap.lt_size e
  rw [hDe] at l
  refine ⟨⟨?_, (f2 b hb).2⟩, by rw [Heap.size_push, hDe]; exact Nat.lt_succ_of_lt l⟩
  rw [upd_ne (Nat.ne_of_lt l)]; exact (f2 b hb).1
 generalize (s2.heap.push { cls := .type "list", data := .seq ([] : List Value).toArray }) = h3 at I3 st3 f3 ⊢
 refine wpAny_newFunctionEnv hcell (by intro y hy; simp at hy) (fun h₄ hns₄ hsb₄ => ?_) hkind
 have keep : ∀ b o, h3.get? b = some o -> h₄.get? b = some o := fun b o e => hsb₄.extBut b o (Nat.ne_of_lt (Heap.lt_size e)) (Heap.get?_push_of_some _ e)
 have I4 := Inv.comp (C := h3.objs.size) (fp := fp) (tk := s2.toks + ([] : List (Str × Value)).length) I3 rfl hns₄ keep hkind (fun b hb => (f3 b hb).1) (fun b hb => (f3 b hb).2) hcl hfree
 have st4 : tn 0 h₄ := T.keep _ _ _ st3 fun b _ o e => keep b o e
 have fpn : ∀ b ∈ fp, (upd H2 D (.lst [])) b = none := fun b hb => (f3 b hb).1.1
 have hn3 : ∀ b ∈ fp, b ≠ h3.objs.size := fun b hb => Nat.ne_of_lt (f3 b hb).2
 have stat : ∀ {H' : Hp}, (∀ b ∈ fp, H' b = none) -> ∀ b ∈ fp, FpOk (cxC X N' scope cl h3.objs.size fp pins { s2 with heap := h3 } (upd H2 D (.lst []))) [] H' b := fun hn b hb =>
  ⟨hn b hb, hn3 b hb, I4.ok.exfs b hb, .inl hb, fun x c e => (f3 b hb).1.2.2.2.2.1 x c (hcl.2 x c e), fun p hp => (f3 b hb).1.2.2.2.2.2 p (by
   have z : p ∈ (X.pn ++ pins) ++ [] := hp
   rw [List.append_nil] at z; exact z)⟩
 have back : ∀ {H' : Hp} {s' : Shared}, Inv (cxC X N' scope cl h3.objs.size fp pins { s2 with heap := h3 } (upd H2 D (.lst []))) [] (frees src σ) H' s' -> (∃ m, s'.heap.Ns h3.objs.size m) /\ Inv X pins σ H' s' /\ OffC X pins H' h3.objs.size := fun {H' s'} I' => by
  have Ib : Inv X pins σ H' s' := I3.call' I'.os I'.base I'.hok I'.bare fun b hb => ⟨(f3 b hb).1.2.2.2.1, (f3 b hb).1.2.1, (f3 b hb).1.2.2.2.2.1, (f3 b hb).1.2.2.2.2.2⟩
  refine ⟨let ⟨m, hm, _⟩ := I'.loc; ⟨m, hm⟩, Ib, ⟨I'.free, fun z => ?_, I3.nofs (Nat.le_refl _), Heap.get?_none_of_le I3.sz, fun x c e z => ?_, fun p hp z => ?_⟩⟩
  ·have := I3.lt; rw [← z] at this; exact Nat.lt_irrefl _ this
  ·obtain ⟨v, o, ho, _⟩ := I3.cell x c e
   have := Heap.lt_size ho; rw [z] at this; exact Nat.lt_irrefl _ this
  ·obtain ⟨e, _⟩ := I3.pin p hp
   have := Heap.lt_size e; rw [z] at this; exact Nat.lt_irrefl _ this
 have loop : codeAny (model X.prog X.w) X.A (.compLoop (.ListComp elt [⟨tg, iter, ifs, 0⟩] scope pos) 0 (.ref it) (.ref D) (compEnvC scope cl h3.objs.size X.env)) (RR (.ref D) h3.objs.size) { s2 with heap := h₄, toks := s2.toks + ([] : List (Str × Value)).length } := by
  refine comp_loopX (fun n s' => ∃ i ys H', Inv (cxC X N' scope cl h3.objs.size fp pins { s2 with heap := h3 } (upd H2 D (.lst []))) [] (frees src σ) H' s' /\ tn i s'.heap /\ (∀ b ∈ fp, H' b = none) /\ W i n ys H') ?_ m0 ⟨0, [], _, I4, st4, fpn, w0⟩
  rintro n s5 ⟨i, ys, H5, I5, st5, fr5, w5⟩
  rcases turn i n ys H5 w5 with ⟨stop, qn⟩ | ⟨go, step⟩
  ·refine thn (T.done (cxC X N' scope cl h3.objs.size fp pins { s2 with heap := h3 } (upd H2 D (.lst []))) rfl rfl rfl hc i [] s5 _ H5 _ I5 (stat fr5) st5 stop) fun r s6 ⟨hr, I6⟩ => ?_
   subst hr
   obtain ⟨b1, b2, b3⟩ := back I6
   exact hRR D _ H5 s6 qn b1 b2 b3
  ·refine thn (T.item (cxC X N' scope cl h3.objs.size fp pins { s2 with heap := h3 } (upd H2 D (.lst []))) rfl rfl rfl hc i [] s5 _ H5 _ I5 (stat fr5) st5 go) fun r s6 ⟨u, hr, h6⟩ => ?_
   subst hr
   refine thn h6 fun _ s7 ⟨x, H7, I7, r7, y7, st7, fr7⟩ => ?_
   have I7' := I7.pinned (stat fr7) (T.obj _ _ st7)
   refine thn (hg _ _ _ _ _ _ s7 _ H7 x u _ I7' r7 (step x H7 y7)) fun _ s8 ⟨σ8, H8, I8, ex8, q8⟩ => ?_
   refine thn (ht _ _ _ _ _ _ s8 σ8 H8 _ I8 q8) fun ok s9 ⟨H9, I9, q9⟩ => ?_
   have again : ∀ {ys' : List V} {Ha : Hp} {sa : Shared}, Inv (cxC X N' scope cl h3.objs.size fp pins { s2 with heap := h3 } (upd H2 D (.lst []))) ([] ++ pinsAt fp s7.heap) σ8 Ha sa -> (∃ m', m' < n /\ W (i + 1) m' ys' Ha) →
     ∃ m, m < n /\ ∃ i ys H', Inv (cxC X N' scope cl h3.objs.size fp pins { s2 with heap := h3 } (upd H2 D (.lst []))) [] (frees src σ) H' sa /\ tn i sa.heap /\ (∀ b ∈ fp, H' b = none) /\ W i m ys H' := fun {ys' Ha sa} Ia ⟨m', hm, wa⟩ => by
    refine ⟨m', hm, i + 1, ys', Ha, (Ia.unpinned).weak ex8.1.symm ex8.2, T.keep _ _ _ st7 fun b hb o e => (Ia.pin (b, o) (List.mem_append_right _ (List.mem_append_right _ (mem_pinsAt hb e)))).1, fun b hb => ?_, wa⟩
    obtain ⟨o, e, _⟩ := T.obj _ _ st7 b hb
    exact (Ia.pin (b, o) (List.mem_append_right _ (List.mem_append_right _ (mem_pinsAt hb e)))).2.1
   cases ok with
   | false => exact again I9 q9
   | true =>
    refine wpAny_mono (he h3.objs.size fp pins (pinsAt fp s7.heap) { s2 with heap := h3 } (upd H2 D (.lst [])) (fun b hb => let ⟨o, e, _⟩ := T.obj _ _ st7 b hb; ⟨o, mem_pinsAt hb e⟩) [] s9 σ8 H9 _ (Inv.toX I9) q9) (fun y s10 ⟨yv, H10, I10', r10, q10, hz, wn⟩ => ?_) fun y s10 hy => ?_
    rotate_left
    ·obtain ⟨x, Bc, Tx, dx, Hx, rfl, xo, xb, xu, xk, nx, nT, hx, hT, tr, hE, xC, tC', m, hm, hCn⟩ := hy
     have Ib : Inv X pins σ Hx s10 := I3.call' xo xu xk xb fun b hb => ⟨(f3 b hb).1.2.2.2.1, (f3 b hb).1.2.1, (f3 b hb).1.2.2.2.2.1, (f3 b hb).1.2.2.2.2.2⟩
     have off : OffC X pins Hx h3.objs.size := ⟨hCn, fun z => by have := I3.lt; rw [← z] at this; exact Nat.lt_irrefl _ this, I3.nofs (Nat.le_refl _), Heap.get?_none_of_le I3.sz, fun x c e z => by
      obtain ⟨v, o, ho, _⟩ := I3.cell x c e
      have := Heap.lt_size ho; rw [z] at this; exact Nat.lt_irrefl _ this, fun p hp z => by
      obtain ⟨e, _⟩ := I3.pin p hp
      have := Heap.lt_size e; rw [z] at this; exact Nat.lt_irrefl _ this⟩
     have na := B.Inv.newAt I3 hex nx
     have nt := B.Inv.newAt I3 hex nT
     have hfrm : X.A.frames = some (X.env :: X.outer) := by rw [Ib.ok.frames, hst]
     rw [noteFrame_frame (env := compEnvC scope cl h3.objs.size X.env) (env' := X.env) rfl]
     refine noteN (base := X.base) hfrm (by rw [← hst]; exact Ib.stack) hfr tr fun h1 T' k1 nT' t1 => ?_
     have nt' := B.Inv.newAt Ib hex nT'
     have hT' := B.Inv.none_of Ib nT'
     rw [← hst] at k1
     have I6 : Inv X pins σ Hx { s10 with heap := h1 } := B.Inv.leftK (tk := s10.toks) Ib (fun b hb => by
      simp only [List.mem_cons, List.not_mem_nil, or_false] at hb
      rcases hb with rfl | rfl
      ·exact ⟨hT, nt⟩
      ·exact ⟨hx, na⟩) k1
     have cC : ∃ o, s10.heap.get? h3.objs.size = some o := let ⟨o, _, _, e, _⟩ := hm; ⟨o, e⟩
     refine hRE D _ Hx _ x Bc T' dx _ I6 off ?_ na nt' hx hT' xC (fun z => ?_) t1 hE
     ·obtain ⟨o, es, ep, ho, r⟩ := hm
      obtain ⟨sl, z⟩ := k1.slot _ o (by simp only [List.mem_cons, List.not_mem_nil, or_false]; exact fun q => q.elim (fun q => tC' q.symm) fun q => xC q.symm) ho
      exact ⟨m, _, es, ep, z, r⟩
     ·obtain ⟨o, e⟩ := cC
      rw [z, e] at nT'; cases nT'
    have I10 := Inv.ofX I10'
    refine thn (mt_append _ s10 σ8 H10 (.ref D) [yv] (.ref D) [y] (fun _ Hz => ∃ m', m' < n /\ W (i + 1) m' (ys ++ [yv]) Hz) I10 rfl (.cons r10 .nil) ⟨D, ys, yv, rfl, rfl, q10, hz, wn⟩) fun _ s11 ⟨_, H11, I11, _, q11⟩ => ?_
    exact again I11 q11
 exact codeAny_compStart_list loop (T.self _ 0 _ _ _ st4 loop)
theorem pe_lcompX (hc : X.calm = true) (hi : PI X tg iter wi) (hg : ∀ C fp pins s H, PG (cxC X N' scope cl C fp pins s H) tg g) (ht : ∀ C fp pins s H, PTs (cxC X N' scope cl C fp pins s H) ifs tt)
  (he : ∀ C fp pins q s H, (∀ b ∈ fp, ∃ o, (b, o) ∈ q) -> PE (cxX X N' scope cl C fp pins q s H E) elt te) (hex : X.ex = []) (hst : X.stack = X.env :: X.outer) (hfr : X.env.frame = some X.env.locals) (tk : TakesF X E) (hfree : FreeOk X scope cl N' src) (hclos : closureFor scope X.env = pure cl) (hcell : ∀ x ∈ scope.names, x.2 ≠ .cell) (hkind : scope.kind = .function)
  (hnames : ∀ x ∈ scope.names, x.2 = .local -> scope.names.lookup x.1 = some .local) (hcl : CellsOk X scope cl) (hs : ∀ x, foldedSetIterable iter X.env x = pure x := by intro _; rfl) :
  PE X (.ListComp elt [⟨tg, iter, ifs, 0⟩] scope pos) (tComp wi src g tt te) := by
 intro pins s σ H Q I h
 rw [eval_ListComp]
 refine wpAny_comprehension_free (use := none) rfl hs hclos hkind hnames (comp_runX hc hi hg ht he hex hst hfr hfree hcell hkind hcl (RR := fun acc C => compPost (model X.prog X.w) X.A X.xe none (EP X pins σ Q) acc C) I h (fun D C H' s' x Bc T dx fl hI off hm na nt hx hT xC tC tr hE => ?_) fun D C H' s' q hm hI hb => ?_)
 ·obtain ⟨m, hm⟩ := hm
  refine ⟨m, hm, fun h' sb cenv' hC' => ?_⟩
  have I' := off.turned hI sb
  have tr' : TrcD h' x Bc T dx fl := by
   obtain ⟨oe, vs, oT, ts, q1, q2, q3, q4, q5, q6, q7, q8, q9⟩ := tr
   exact ⟨oe, vs, oT, ts, sb.extBut x oe xC q1, q2, q3, q4, q5, q6, sb.extBut T oT tC q7, q8, q9⟩
  exact passOnX tr' fun h2 k2 t2 => tk pins σ H' _ x Bc T dx _ (B.Inv.leftK (tk := s'.toks) I' (fun b hb => by rw [List.mem_singleton.mp hb]; exact ⟨hT, nt⟩) k2.any) hx na hT nt t2 hE
 obtain ⟨m, hm⟩ := hm
 exact ⟨m, hm, fun h' sb => ⟨.ref D, H', hb.turned hI sb, rfl, q⟩⟩
theorem qe_lcompX (hc : X.calm = true) (hi : QI X tg iter wi) (hg : ∀ C fp pins s H, QG (cxC X N' scope cl C fp pins s H) tg g) (ht : ∀ C fp pins s H, QTs (cxC X N' scope cl C fp pins s H) ifs tt) (he : ∀ C fp pins q s H, (∀ b ∈ fp, ∃ o, (b, o) ∈ q) -> QE (cxX X N' scope cl C fp pins q s H E) elt te) (tk : TakesF X E) (hfree : FreeOk X scope cl N' src) (hclos : closureFor scope X.env = pure cl) (hcell : ∀ x ∈ scope.names, x.2 ≠ .cell) (hkind : scope.kind = .function) (hnames : ∀ x ∈ scope.names, x.2 = .local -> scope.names.lookup x.1 = some .local) (hcl : CellsOk X scope cl) (hex : X.ex = [] := by rfl) (hst : X.stack = X.env :: X.outer := by rfl) (hfr : X.env.frame = some X.env.locals := by rfl) (hs : ∀ x, foldedSetIterable iter X.env x = pure x := by intro _; rfl) : QE X (.ListComp elt [⟨tg, iter, ifs, 0⟩] scope pos) (tComp wi src g tt te) := ⟨pe_lcompX hc hi.p (fun z0 z1 z2 z3 z4 => (hg z0 z1 z2 z3 z4).p) (fun z0 z1 z2 z3 z4 => (ht z0 z1 z2 z3 z4).p) (fun z0 z1 z2 z3 z4 z5 z6 => (he z0 z1 z2 z3 z4 z5 z6).p) hex hst hfr tk hfree hclos hcell hkind hnames hcl hs⟩
end
end B
namespace My
open PySem L2 B PyProof.Rows
theorem qsA {X : Cx} {pos : Pos} (i : Nat) {x : Str} {e : Expr} {te : TE} {pos' : Pos} (hN : X.N.Nodup) (he : QE X e te) (hi : X.N[i]? = some x := by rfl) (hx : Loc X.env.scope x := by first | exact Or.inl rfl | exact Or.inr rfl) (hs : swapsWith e (some (.Name x pos')) pos.line X.env = pure false := by rfl) (hf : X.fn x = true ∨ X.env.scope.names.lookup x = some .local := by first | exact .inl rfl | exact .inr rfl | assumption) : QS X (.Assign [.Name x pos'] e pos) (tAsg te (gName i)) := qs_set hN hi hx he hs hf
theorem scA {N P : List Str} {sc : Scope} (a : sc.kind = .function := by rfl) (b : sc.isCoroutine = false := by rfl) (c : sc.isGenerator = false := by rfl) (d : N.Nodup := by decide +kernel) (e : N.take P.length = P := by rfl) (f : ∀ x ∈ P, sc.names.lookup x = some .local ∨ sc.names.lookup x = some .cell := by decide +kernel) (g : ∀ y ∈ sc.names, y.2 ≠ .free := by decide +kernel) : FnScope N P sc := ⟨a, b, c, d, e, f, g⟩
theorem qcA {X : Cx} {k j : Nat} {f : Addr} {fd : FuncData} {ps : List Str} {sp : Sp} {x : Str} {p pos : Pos} {e : Expr} {es : List Expr} {t : TA} (F : FnOk X.prog X.w X.K X.mg X.base CX0 k f fd ps sp) (hr : Room j X.A) (hm : X.mg x = some (.ref f)) (hk : PySem.W.keepIn X.K (.ref f) = true) (hb : Binds X.K fd ps []) (ha : QA X (e :: es) t) (hl : k ≤ j := by decide) (hg : Gl X x := by rfl) (hdb : (x == ("__debug__" : Str)) = false := by decide) (he : starEach (e :: es) X.env = (false, eval e X.env) :: starEach es X.env := by rfl) (hpl : (backTo pos (starEach es X.env)).any (·.1) = false := by rfl) : QE X (.Call (.Name x p) (e :: es) [] pos) (tCall sp [] E0 t) := qe_call F (hr.mono hl) hg hm hk hb .nil pass0 ha hdb he hpl
theorem qxA {X : Cx} {a b : Expr} {ta tb : TE} {pos : Pos} {r : R2} (hr : IxR X r) (ha : QE X a ta) (hb : QE X b tb) (hs : PlainIx b := by exact fun _ _ => rfl) : QE X (.Subscript a b pos) (tOp r ta tb) := qe_ix hr ha hb hs
theorem bdA {K : PySem.W.Frag} {x qual : Str} {st : Stmt} {f : Addr} {fd : FuncData} {ps : List Str} (F : Fun K x qual st f fd) (h : ∀ (kV doc pm : Value) (an : Option Addr) (cdv ct : Value) (us : List Value), us.length = ps.length -> bindArgs (PySem.W.fnOf x qual (defArgs st) (defBody st) (defScope st) .none kV doc pm an cdv ct) ⟨us, []⟩ = pure (ps.zip us) := by
 intro _ _ _ _ _ _ us hl
 match us, hl with
 | [], h2 => first | rfl | (simp at h2)
 | [_], h2 => first | rfl | (simp at h2)
 | [_, _], h2 => first | rfl | (simp at h2)
 | [_, _, _], h2 => first | rfl | (simp at h2)
 | [_, _, _, _], h2 => first | rfl | (simp at h2)
 | _ :: _ :: _ :: _ :: _ :: _, h2 => simp at h2) : Binds K fd ps [] := F.binds h
def top (i : Nat) : Stmt := PySem.Challenge.pw_paceplan_k18_speeds_and_powers.main.body.getD i (.Pass ⟨0, 0, 0, 0⟩)
abbrev s_Q27 : Stmt := top 1
abbrev s_Q0 : Stmt := top 8
abbrev s_Q30 : Stmt := top 9
abbrev s_Q34 : Stmt := top 10
abbrev s_Q31 : Stmt := top 11
abbrev s_Q32 : Stmt := top 12
abbrev s_Q35 : Stmt := top 13
abbrev s_Q28 : Stmt := top 14
abbrev s_Q23 : Stmt := top 15
abbrev s_Q33 : Stmt := top 16
abbrev s_Q1 : Stmt := top 19
abbrev s_Q29 : Stmt := top 20
abbrev s_Q3 : Stmt := top 21
abbrev s_Q11 : Stmt := top 22
abbrev s_Q12 : Stmt := top 23
abbrev s_Q4 : Stmt := top 25
abbrev s_Q13 : Stmt := top 26
abbrev s_Q14 : Stmt := top 28
abbrev s_Q15 : Stmt := top 29
abbrev s_Q24 : Stmt := top 30
abbrev s_Q5 : Stmt := top 31
abbrev s_Q16 : Stmt := top 32
abbrev s_Q6 : Stmt := top 33
abbrev s_Q7 : Stmt := top 34
abbrev s_Q17 : Stmt := top 35
abbrev s_Q18 : Stmt := top 36
abbrev s_Q25 : Stmt := top 37
abbrev s_Q19 : Stmt := top 38
abbrev s_Q8 : Stmt := top 39
abbrev s_Q9 : Stmt := top 40
abbrev s_Q20 : Stmt := top 41
abbrev s_Q10 : Stmt := top 42
abbrev s_Q21 : Stmt := top 44
abbrev s_Q2 : Stmt := top 45
abbrev s_Q22 : Stmt := top 46
abbrev s_Q36 : Stmt := top 47
abbrev s_Q26 : Stmt := inClass (top 4) 0
structure Ad where
 a_Q27 : Addr
 d_Q27 : FuncData
 a_Q0 : Addr
 d_Q0 : FuncData
 a_Q30 : Addr
 d_Q30 : FuncData
 a_Q34 : Addr
 d_Q34 : FuncData
 a_Q31 : Addr
 d_Q31 : FuncData
 a_Q32 : Addr
 d_Q32 : FuncData
 a_Q35 : Addr
 d_Q35 : FuncData
 a_Q28 : Addr
 d_Q28 : FuncData
 a_Q23 : Addr
 d_Q23 : FuncData
 a_Q33 : Addr
 d_Q33 : FuncData
 a_Q1 : Addr
 d_Q1 : FuncData
 a_Q29 : Addr
 d_Q29 : FuncData
 a_Q3 : Addr
 d_Q3 : FuncData
 a_Q11 : Addr
 d_Q11 : FuncData
 a_Q12 : Addr
 d_Q12 : FuncData
 a_Q4 : Addr
 d_Q4 : FuncData
 a_Q13 : Addr
 d_Q13 : FuncData
 a_Q14 : Addr
 d_Q14 : FuncData
 a_Q15 : Addr
 d_Q15 : FuncData
 a_Q24 : Addr
 d_Q24 : FuncData
 a_Q5 : Addr
 d_Q5 : FuncData
 a_Q16 : Addr
 d_Q16 : FuncData
 a_Q6 : Addr
 d_Q6 : FuncData
 a_Q7 : Addr
 d_Q7 : FuncData
 a_Q17 : Addr
 d_Q17 : FuncData
 a_Q18 : Addr
 d_Q18 : FuncData
 a_Q25 : Addr
 d_Q25 : FuncData
 a_Q19 : Addr
 d_Q19 : FuncData
 a_Q8 : Addr
 d_Q8 : FuncData
 a_Q9 : Addr
 d_Q9 : FuncData
 a_Q20 : Addr
 d_Q20 : FuncData
 a_Q10 : Addr
 d_Q10 : FuncData
 a_Q21 : Addr
 d_Q21 : FuncData
 a_Q2 : Addr
 d_Q2 : FuncData
 a_Q22 : Addr
 d_Q22 : FuncData
 a_Q36 : Addr
 d_Q36 : FuncData
 c_NOUGHT : Addr
 k_POWER : Tok
 c_base : Addr
 c_Q26 : Addr
 a_Q26 : Addr
 d_Q26 : FuncData
structure Txt (K : PySem.W.Frag) (mg : Str -> Option Value) (t : Ad) : Prop where
 F_Q27 : Fun K "copied" "copied" s_Q27 t.a_Q27 t.d_Q27
 b_Q27 : Binds K t.d_Q27 ["thing"] []
 m_Q27 : mg "copied" = some (.ref t.a_Q27)
 F_Q0 : Fun K "greatest_divisor" "greatest_divisor" s_Q0 t.a_Q0 t.d_Q0
 b_Q0 : Binds K t.d_Q0 ["one", "other"] []
 m_Q0 : mg "greatest_divisor" = some (.ref t.a_Q0)
 F_Q30 : Fun K "ratio" "ratio" s_Q30 t.a_Q30 t.d_Q30
 b_Q30 : Binds K t.d_Q30 ["top", "bottom"] []
 m_Q30 : mg "ratio" = some (.ref t.a_Q30)
 F_Q34 : Fun K "plus" "plus" s_Q34 t.a_Q34 t.d_Q34
 b_Q34 : Binds K t.d_Q34 ["one", "other"] []
 m_Q34 : mg "plus" = some (.ref t.a_Q34)
 F_Q31 : Fun K "minus" "minus" s_Q31 t.a_Q31 t.d_Q31
 b_Q31 : Binds K t.d_Q31 ["one", "other"] []
 m_Q31 : mg "minus" = some (.ref t.a_Q31)
 F_Q32 : Fun K "times" "times" s_Q32 t.a_Q32 t.d_Q32
 b_Q32 : Binds K t.d_Q32 ["one", "other"] []
 m_Q32 : mg "times" = some (.ref t.a_Q32)
 F_Q35 : Fun K "over" "over" s_Q35 t.a_Q35 t.d_Q35
 b_Q35 : Binds K t.d_Q35 ["one", "other"] []
 m_Q35 : mg "over" = some (.ref t.a_Q35)
 F_Q28 : Fun K "raised" "raised" s_Q28 t.a_Q28 t.d_Q28
 b_Q28 : Binds K t.d_Q28 ["one", "power"] []
 m_Q28 : mg "raised" = some (.ref t.a_Q28)
 F_Q23 : Fun K "is_less" "is_less" s_Q23 t.a_Q23 t.d_Q23
 b_Q23 : Binds K t.d_Q23 ["one", "other"] []
 m_Q23 : mg "is_less" = some (.ref t.a_Q23)
 F_Q33 : Fun K "total" "total" s_Q33 t.a_Q33 t.d_Q33
 b_Q33 : Binds K t.d_Q33 ["some"] []
 m_Q33 : mg "total" = some (.ref t.a_Q33)
 F_Q1 : Fun K "slope_between" "slope_between" s_Q1 t.a_Q1 t.d_Q1
 b_Q1 : Binds K t.d_Q1 ["low", "high"] []
 m_Q1 : mg "slope_between" = some (.ref t.a_Q1)
 F_Q29 : Fun K "top_of" "top_of" s_Q29 t.a_Q29 t.d_Q29
 b_Q29 : Binds K t.d_Q29 ["rule"] []
 m_Q29 : mg "top_of" = some (.ref t.a_Q29)
 F_Q3 : Fun K "is_beyond" "is_beyond" s_Q3 t.a_Q3 t.d_Q3
 b_Q3 : Binds K t.d_Q3 ["rule", "speed"] []
 m_Q3 : mg "is_beyond" = some (.ref t.a_Q3)
 F_Q11 : Fun K "place_of" "place_of" s_Q11 t.a_Q11 t.d_Q11
 b_Q11 : Binds K t.d_Q11 ["rows", "speed"] []
 m_Q11 : mg "place_of" = some (.ref t.a_Q11)
 F_Q12 : Fun K "power_at" "power_at" s_Q12 t.a_Q12 t.d_Q12
 b_Q12 : Binds K t.d_Q12 ["rule", "speed"] []
 m_Q12 : mg "power_at" = some (.ref t.a_Q12)
 F_Q4 : Fun K "speeds_of" "speeds_of" s_Q4 t.a_Q4 t.d_Q4
 b_Q4 : Binds K t.d_Q4 ["plan"] []
 m_Q4 : mg "speeds_of" = some (.ref t.a_Q4)
 F_Q13 : Fun K "power_of" "power_of" s_Q13 t.a_Q13 t.d_Q13
 b_Q13 : Binds K t.d_Q13 ["rule", "speeds"] []
 m_Q13 : mg "power_of" = some (.ref t.a_Q13)
 F_Q14 : Fun K "_law_tape" "_law_tape" s_Q14 t.a_Q14 t.d_Q14
 b_Q14 : Binds K t.d_Q14 ["_law_script"] []
 m_Q14 : mg "_law_tape" = some (.ref t.a_Q14)
 F_Q15 : Fun K "_law_draw" "_law_draw" s_Q15 t.a_Q15 t.d_Q15
 b_Q15 : Binds K t.d_Q15 ["_law_tape_here", "_law_many"] []
 m_Q15 : mg "_law_draw" = some (.ref t.a_Q15)
 F_Q24 : Fun K "_law_gcd" "_law_gcd" s_Q24 t.a_Q24 t.d_Q24
 b_Q24 : Binds K t.d_Q24 ["_law_one", "_law_other"] []
 m_Q24 : mg "_law_gcd" = some (.ref t.a_Q24)
 F_Q5 : Fun K "_law_ratio" "_law_ratio" s_Q5 t.a_Q5 t.d_Q5
 b_Q5 : Binds K t.d_Q5 ["_law_top", "_law_bottom"] []
 m_Q5 : mg "_law_ratio" = some (.ref t.a_Q5)
 F_Q16 : Fun K "_law_plus" "_law_plus" s_Q16 t.a_Q16 t.d_Q16
 b_Q16 : Binds K t.d_Q16 ["_law_one", "_law_other"] []
 m_Q16 : mg "_law_plus" = some (.ref t.a_Q16)
 F_Q6 : Fun K "_law_minus" "_law_minus" s_Q6 t.a_Q6 t.d_Q6
 b_Q6 : Binds K t.d_Q6 ["_law_one", "_law_other"] []
 m_Q6 : mg "_law_minus" = some (.ref t.a_Q6)
 F_Q7 : Fun K "_law_times" "_law_times" s_Q7 t.a_Q7 t.d_Q7
 b_Q7 : Binds K t.d_Q7 ["_law_one", "_law_other"] []
 m_Q7 : mg "_law_times" = some (.ref t.a_Q7)
 F_Q17 : Fun K "_law_over" "_law_over" s_Q17 t.a_Q17 t.d_Q17
 b_Q17 : Binds K t.d_Q17 ["_law_one", "_law_other"] []
 m_Q17 : mg "_law_over" = some (.ref t.a_Q17)
 F_Q18 : Fun K "_law_less" "_law_less" s_Q18 t.a_Q18 t.d_Q18
 b_Q18 : Binds K t.d_Q18 ["_law_one", "_law_other"] []
 m_Q18 : mg "_law_less" = some (.ref t.a_Q18)
 F_Q25 : Fun K "_law_sum" "_law_sum" s_Q25 t.a_Q25 t.d_Q25
 b_Q25 : Binds K t.d_Q25 ["_law_some"] []
 m_Q25 : mg "_law_sum" = some (.ref t.a_Q25)
 F_Q19 : Fun K "_law_part" "_law_part" s_Q19 t.a_Q19 t.d_Q19
 b_Q19 : Binds K t.d_Q19 ["_law_tape_here"] []
 m_Q19 : mg "_law_part" = some (.ref t.a_Q19)
 F_Q8 : Fun K "_law_works" "_law_works" s_Q8 t.a_Q8 t.d_Q8
 b_Q8 : Binds K t.d_Q8 ["_law_tape_here", "_law_most", "_law_end"] []
 m_Q8 : mg "_law_works" = some (.ref t.a_Q8)
 F_Q9 : Fun K "_law_table" "_law_table" s_Q9 t.a_Q9 t.d_Q9
 b_Q9 : Binds K t.d_Q9 ["_law_tape_here"] []
 m_Q9 : mg "_law_table" = some (.ref t.a_Q9)
 F_Q20 : Fun K "_law_rule" "_law_rule" s_Q20 t.a_Q20 t.d_Q20
 b_Q20 : Binds K t.d_Q20 ["_law_tape_here"] []
 m_Q20 : mg "_law_rule" = some (.ref t.a_Q20)
 F_Q10 : Fun K "_law_power" "_law_power" s_Q10 t.a_Q10 t.d_Q10
 b_Q10 : Binds K t.d_Q10 ["_law_rule_here", "_law_speed_here"] []
 m_Q10 : mg "_law_power" = some (.ref t.a_Q10)
 F_Q21 : Fun K "_law_plan" "_law_plan" s_Q21 t.a_Q21 t.d_Q21
 b_Q21 : Binds K t.d_Q21 ["_law_tape_here", "_law_works_here"] []
 m_Q21 : mg "_law_plan" = some (.ref t.a_Q21)
 F_Q2 : Fun K "_law_scaled" "_law_scaled" s_Q2 t.a_Q2 t.d_Q2
 b_Q2 : Binds K t.d_Q2 ["_law_rule_here", "_law_speeds", "_law_part_here"] []
 m_Q2 : mg "_law_scaled" = some (.ref t.a_Q2)
 F_Q22 : Fun K "_law_told" "_law_told" s_Q22 t.a_Q22 t.d_Q22
 b_Q22 : Binds K t.d_Q22 ["_law_rule_here", "_law_speeds"] []
 m_Q22 : mg "_law_told" = some (.ref t.a_Q22)
 F_Q36 : Fun K "law" "law" s_Q36 t.a_Q36 t.d_Q36
 b_Q36 : Binds K t.d_Q36 ["_law_script"] []
 m_Q36 : mg "law" = some (.ref t.a_Q36)
 m_NOUGHT : mg "NOUGHT" = some (.ref t.c_NOUGHT)
 q_NOUGHT : ∀ H, SqT K H t.c_NOUGHT [.int (0), .int (1)]
 m_POWER : mg "POWER" = some (.str "power" t.k_POWER)
 X_Q26 : XC K t.c_Q26 t.a_Q26 (.ref t.c_base :: vMro)
 F_Q26 : Fun K "__init__" "NoSpeed.__init__" s_Q26 t.a_Q26 t.d_Q26
 b_Q26 : Binds K t.d_Q26 ["self", "speed"] []
 m_Q26 : mg "NoSpeed" = some (.ref t.c_Q26)
 n_Q26_speed : NoAttr K t.c_Q26 "speed"
 g_Q26 : GetX K t.c_Q26
 x_catch : PySem.W.exmOne K (.ref t.c_Q26) (.ref t.c_Q26) = some true
 z_abs : mg "abs" = none
 z_enumerate : mg "enumerate" = none
 z_isinstance : mg "isinstance" = none
 z_len : mg "len" = none
 z_list : mg "list" = none
 z_range : mg "range" = none
 z_repr : mg "repr" = none
 z_sum : mg "sum" = none
 z_tuple : mg "tuple" = none
 z_zip : mg "zip" = none
def sp_greatest_divisor (_ : PySem.W.Frag) : Sp := fun vs H Q _ => ∃ a b : Int, vs = [.int a, .int b] /\ Q (.int (Int.gcd a b : Nat)) H
def sp_law_gcd (_ : PySem.W.Frag) : Sp := fun vs H Q _ => ∃ a b : Int, vs = [.int a, .int b] /\ 0 ≤ a /\ 0 ≤ b /\ Q (.int (Int.gcd a b : Nat)) H
abbrev sp_law_tape := sp_tape
def sp_law_draw (_ : PySem.W.Frag) : Sp := sp_draw
abbrev sp_law := sp_lawT
def newR (H : Hp) (Q : VK) (r : R) : Prop := ∀ p, H p = none -> Q (.ref p) (upd H p (.tup [.int r.1, .int r.2]))
def toR (K : PySem.W.Frag) (H : Hp) (Q : VK) (r : R) : Prop := ∀ (v : V) (H' : Hp), Same H H' -> RV K H' v r -> Q v H'
def sp_ratio (_ : PySem.W.Frag) : Sp := fun vs H Q _ => ∃ a b : Int, vs = [.int a, .int b] /\ b ≠ 0 /\ b.natAbs < 2 ^ 4000 /\ newR H Q (mkS a b)
abbrev sp_law_ratio := sp_ratio
def sp_plus (K : PySem.W.Frag) : Sp := fun vs H Q _ => ∃ (v w : V) (r q : R) (n m : Nat), vs = [v, w] /\ RV K H v r /\ RV K H w q /\ Wf n r /\ Wf m q /\ n + m + 1 ≤ 3990 /\ newR H Q (plusR r q)
abbrev sp_law_plus := sp_plus
def sp_minus (K : PySem.W.Frag) : Sp := fun vs H Q _ => ∃ (v w : V) (r q : R) (n m : Nat), vs = [v, w] /\ RV K H v r /\ RV K H w q /\ Wf n r /\ Wf m q /\ n + m + 1 ≤ 3990 /\ toR K H Q (minusR r q)
def sp_law_minus (K : PySem.W.Frag) : Sp := fun vs H Q _ => ∃ (v w : V) (r q : R) (n m : Nat), vs = [v, w] /\ RV K H v r /\ RV K H w q /\ Wf n r /\ Wf m q /\ n + m + 1 ≤ 3990 /\ newR H Q (minusR r q)
def sp_times (K : PySem.W.Frag) : Sp := fun vs H Q _ => ∃ (v w : V) (r q : R) (n m : Nat), vs = [v, w] /\ RV K H v r /\ RV K H w q /\ Wf n r /\ Wf m q /\ n + m + 1 ≤ 3990 /\ newR H Q (timesR r q)
abbrev sp_law_times := sp_times
def sp_over (K : PySem.W.Frag) : Sp := fun vs H Q _ => ∃ (v w : V) (r q : R) (n m : Nat), vs = [v, w] /\ RV K H v r /\ RV K H w q /\ Wf n r /\ Wf m q /\ n + m + 1 ≤ 3990 /\ q.1 ≠ 0 /\ toR K H Q (overR r q)
def sp_law_over (K : PySem.W.Frag) : Sp := fun vs H Q _ => ∃ (v w : V) (r q : R) (n m : Nat), vs = [v, w] /\ RV K H v r /\ RV K H w q /\ Wf n r /\ Wf m q /\ n + m + 1 ≤ 3990 /\ q.1 ≠ 0 /\ newR H Q (overR r q)
def sp_is_less (K : PySem.W.Frag) : Sp := fun vs H Q _ => ∃ (v w : V) (r q : R) (n m : Nat), vs = [v, w] /\ RV K H v r /\ RV K H w q /\ Wf n r /\ Wf m q /\ n + m + 1 ≤ 3990 /\ Q (.bl (lessR r q)) H
abbrev sp_law_less := sp_is_less
def sp_raised (K : PySem.W.Frag) : Sp := fun vs H Q _ => ∃ (v : V) (r : R) (k : Int), vs = [v, .int k] /\ RV K H v r /\ Wf 310 r /\ 0 ≤ k /\ k ≤ 4 /\ toR K H Q (powR r k.toNat)
theorem big_of {i : Int} {n : Nat} (h : i.natAbs < 2 ^ n) (hn : n ≤ 4000) : i.natAbs < 2 ^ 4000 := Nat.lt_of_lt_of_le h (Nat.pow_le_pow_right (by decide) hn)
theorem rv_new {K : PySem.W.Frag} {H : Hp} {p : Addr} {x y : Int} (_ : Same H (upd H p (.tup [.int x, .int y]))) : RV K (upd H p (.tup [.int x, .int y])) (.ref p) (x, y) := RV.of upd_same
theorem cop_neg' {a b : Int} (h : Int.gcd a b = 1) : Int.gcd (-a) b = 1 := by rw [Int.neg_gcd]; exact h
theorem div_lt {a g : Int} (hg : 0 < g) (h : a.natAbs < 2 ^ 4000) : (a / g).natAbs < 2 ^ 4000 := Nat.lt_of_le_of_lt (natAbs_div_le a hg) h
theorem gcd_lt {a b : Int} (hb : 0 < b) (h : b.natAbs < 2 ^ 4000) : ((Int.gcd a b : Nat) : Int).natAbs < 2 ^ 4000 := gcd_big (by omega) h
theorem two63 {n : Int} (h0 : 0 ≤ n) (h1 : n ≤ 100) : -(2 ^ 62) ≤ n /\ n < 2 ^ 62 := by constructor <;> omega
theorem pow_lt98 {a : Int} {i : Nat} (h : a.natAbs < 2 ^ 310) (hi : i ≤ 4) : (a ^ i).natAbs < 2 ^ 4000 := by
 rw [Int.natAbs_pow]
 refine Nat.lt_of_le_of_lt (Nat.pow_le_pow_left (Nat.le_of_lt h) i) ?_
 rw [← Nat.pow_mul]
 exact Nat.pow_lt_pow_right (by decide) (by omega)
def RowV (K : PySem.W.Frag) (H : Hp) (v : V) (w : R × R) : Prop := ∃ p x y, v = .ref p /\ SqT K H p [x, y] /\ RV K H x w.1 /\ RV K H y w.2
theorem RowV.mono {K : PySem.W.Frag} {H H' : Hp} {v : V} {w : R × R} (h : RowV K H v w) (t : Tst K H H') : RowV K H' v w := let ⟨p, q, q', a, b, c, d⟩ := h; ⟨p, q, q', a, t _ _ b, c.mono t, d.mono t⟩
def RlV (K : PySem.W.Frag) (H : Hp) (v : V) : Rl -> Prop
 | .pow k => ∃ p, v = .ref p /\ SqT K H p [.str (Str.ofString "power"), .int k]
 | .tab rows => ∃ p q xs, v = .ref p /\ SqT K H p [.str (Str.ofString "table"), .ref q] /\ SqT K H q xs /\ Als (RowV K H) xs rows
theorem RlV.mono {K : PySem.W.Frag} {H H' : Hp} {v : V} {rl : Rl} (h : RlV K H v rl) (t : Tst K H H') : RlV K H' v rl := by
 cases rl with
 | pow k => obtain ⟨p, a, b⟩ := h; exact ⟨p, a, t _ _ b⟩
 | tab rows => obtain ⟨p, q, xs, a, b, c, d⟩ := h; exact ⟨p, q, xs, a, t _ _ b, t _ _ c, d.mono fun _ _ z => z.mono t⟩
def OptV (K : PySem.W.Frag) (H : Hp) (v : V) : Option R -> Prop
 | none => v = .non
 | some r => RV K H v r
theorem OptV.mono {K : PySem.W.Frag} {H H' : Hp} {v : V} {o : Option R} (h : OptV K H v o) (t : Tst K H H') : OptV K H' v o := by
 cases o with
 | none => exact h
 | some r => exact RV.mono h t
theorem cast_pos {b : Int} (h : 0 < b) : (0 : Rat) < (b : Rat) := by
 have := Rat.intCast_lt_intCast.mpr h
 exact this
theorem val_less {r q : R} (hr : 0 < r.2) (hq : 0 < q.2) : lessR r q = true ↔ val r < val q := by
 rw [less_iff, ← Rat.intCast_lt_intCast, Rat.intCast_mul, Rat.intCast_mul]
 have h1 := cast_pos hr
 have h2 := cast_pos hq
 have e1 : (r.1 : Rat) = val r * (r.2 : Rat) := by
  have := ne_cast hr
  unfold val
  generalize (r.1 : Rat) = x at *
  generalize (r.2 : Rat) = y at *
  grind
 have e2 : (q.1 : Rat) = val q * (q.2 : Rat) := by
  have := ne_cast hq
  unfold val
  generalize (q.1 : Rat) = x at *
  generalize (q.2 : Rat) = y at *
  grind
 rw [e1, e2]
 generalize val r = x at *
 generalize val q = y at *
 generalize (r.2 : Rat) = u at *
 generalize (q.2 : Rat) = v at *
 have c : 0 < u * v := Rat.mul_pos h1 h2
 constructor
 ·intro h
  have h' : x * (u * v) < y * (u * v) := by grind
  by_cases w : x < y
  ·exact w
  ·have z : y ≤ x := Rat.not_lt.mp w
   have := Rat.mul_le_mul_of_nonneg_right z (Rat.le_of_lt c)
   grind
 ·intro h
  have := Rat.mul_lt_mul_of_pos_right h c
  grind
def powT' (rows : List (R × R)) (s : R) : R := if pOf rows s = 0 then (rows.getD 0 rowD).2 else plusR (rows.getD (pOf rows s - 1) rowD).2 (timesR (slopeR (rows.getD (pOf rows s - 1) rowD) (rows.getD (pOf rows s) rowD)) (minusR s (rows.getD (pOf rows s - 1) rowD).1))
structure PartOk (r : R) : Prop where
 bq : Bq D0 N0 r
 pos : 0 < r.1
theorem PartOk.wf {r : R} (h : PartOk r) : Wf 98 r := h.bq.wf (by decide) (by decide) (by decide)
theorem div30 {r : Int} (h0 : 0 ≤ r) (h1 : r < 30) : (1 + r) ∣ (D0 : Int) := by
 have z : ∀ k : Fin 30, (1 + ((k : Nat) : Int)) ∣ (D0 : Int) := by decide
 have := z ⟨r.toNat, by omega⟩
 rw [show (((⟨r.toNat, by omega⟩ : Fin 30) : Nat) : Int) = r by show ((r.toNat : Nat) : Int) = r; omega] at this
 exact this
theorem part_ok {a b : Int} (ha : 0 < a) (ha' : a ≤ 1000000007) (hb : 0 < b) (hd : b ∣ (D0 : Int)) : PartOk (mkR a b) := by
 refine ⟨bq_mk hb hd ?_, mkR_pos ha hb⟩
 have h1 : a.natAbs ≤ 1000000007 := by omega
 have h2 : 1 ≤ b.natAbs := by omega
 show a.natAbs ≤ 1000000007 * b.natAbs
 omega
theorem bq_zero {D N : Nat} : Bq D N (0, 1) := ⟨by show (0 : Int) < 1; decide, by show Int.gcd 0 1 = 1; decide, ⟨(D : Int), by show (D : Int) = 1 * (D : Int); omega⟩, Nat.zero_le _⟩
structure TabAt (i : Nat) (rows : List (R × R)) : Prop where
 len : rows.length = i + 1
 inc : Inc rows
 zero : ∃ y, rows[0]? = some ((0, 1), y)
 sp : ∀ r ∈ rows, Bq D0 (i * N0) r.1
 pw : ∀ r ∈ rows, Bq (D0 * D0) (N0 + i * (12 * N0 * N0)) r.2
theorem tab_one {y : R} (h : Bq D0 N0 y) : TabAt 0 [((0, 1), y)] := by
 refine ⟨rfl, List.pairwise_singleton _ _, ⟨y, rfl⟩, fun r hr => ?_, fun r hr => ?_⟩
 ·rw [List.mem_singleton] at hr; rw [hr]; exact bq_zero
 ·rw [List.mem_singleton] at hr; rw [hr]
  exact h.mono ⟨D0, rfl⟩ (by omega)
theorem TabAt.snoc {i : Nat} {rows : List (R × R)} (h : TabAt i rows) (hi : i ≤ 10) {w : R × R} (hw : rows[i]? = some w) {sl st : R} (hs : Bq D0 ((i + 1) * N0) sl) (ht : PartOk st) :
  TabAt (i + 1) (rows ++ [(plusR w.1 st, plusR w.2 (timesR sl st))]) := by
 have mw := List.mem_of_getElem? hw
 have b1 : Bq D0 ((i + 1) * N0) (plusR w.1 st) := ((h.sp w mw).plus (by decide) ht.bq).mono ⟨1, rfl⟩ (by rw [Nat.add_mul]; omega)
 have b2 : Bq (D0 * D0) (12 * N0 * N0) (timesR sl st) := (hs.times ht.bq).mono ⟨1, by rw [Nat.mul_one]⟩ (Nat.mul_le_mul_right _ (Nat.mul_le_mul_right _ (by omega)))
 have b3 : Bq (D0 * D0) (N0 + (i + 1) * (12 * N0 * N0)) (plusR w.2 (timesR sl st)) := ((h.pw w mw).plus (by decide) b2).mono ⟨1, by rw [Nat.mul_one]⟩ (by rw [Nat.add_mul]; omega)
 have up := less_plus (h.sp w mw).red ht.bq.red ht.pos
 refine ⟨by rw [List.length_append, h.len]; rfl, ?_, ?_, fun r hr => ?_, fun r hr => ?_⟩
 ·refine List.pairwise_append.mpr ⟨h.inc, List.pairwise_singleton _ _, fun a ha b hb => ?_⟩
  rw [List.mem_singleton] at hb
  rw [hb]
  show lessR a.1 (plusR w.1 st) = true
  obtain ⟨j, hj⟩ := List.getElem?_of_mem ha
  have lj : j < i + 1 := by rw [← h.len]; exact (List.getElem?_eq_some_iff.mp hj).1
  by_cases e : j = i
  ·rw [e, hw] at hj; cases hj; exact up
  ·obtain ⟨h1, e1⟩ := List.getElem?_eq_some_iff.mp hj
   obtain ⟨h2, e2⟩ := List.getElem?_eq_some_iff.mp hw
   have := List.pairwise_iff_getElem.mp h.inc j i h1 h2 (by omega)
   rw [e1, e2] at this
   exact lt_le (h.sp a ha).pos (h.sp w mw).pos b1.pos this (less_asym up)
 ·obtain ⟨y, hy⟩ := h.zero
  exact ⟨y, by rw [List.getElem?_append_left (by rw [h.len]; exact Nat.succ_pos i)]; exact hy⟩
 ·rcases List.mem_append.mp hr with z | z
  ·exact (h.sp r z).mono ⟨1, rfl⟩ (Nat.mul_le_mul_right _ (Nat.le_succ i))
  ·rw [List.mem_singleton] at z; rw [z]; exact b1
 ·rcases List.mem_append.mp hr with z | z
  ·exact (h.pw r z).mono ⟨1, by rw [Nat.mul_one]⟩ (Nat.add_le_add_left (Nat.mul_le_mul_right _ (Nat.le_succ i)) _)
  ·rw [List.mem_singleton] at z; rw [z]; exact b3
theorem TabAt.ok {i : Nat} {rows : List (R × R)} (h : TabAt i rows) (h1 : 1 ≤ i) (h2 : i ≤ 11) : RowsOk rows := by
 refine ⟨by rw [h.len]; omega, by rw [h.len]; omega, h.inc, h.zero, fun r hr => (h.sp r hr).mono ⟨1, rfl⟩ ?_, fun r hr => (h.pw r hr).mono ⟨1, by rw [Nat.mul_one]⟩ ?_⟩
 ·exact Nat.le_trans (Nat.mul_le_mul_right N0 h2) (by decide)
 ·exact Nat.le_trans (Nat.add_le_add_left (Nat.mul_le_mul_right _ h2) _) (by decide)
abbrev L144 : Nat := 33312720618553145840562713089120360606823375590405920630576000
abbrev D1 : Nat := 193970774752861230035902119836802945305811496376696793889999390380432000000000000
abbrev NS : Nat := 12000000084
structure SpdOk (s : R) : Prop where
 bq : Bq D1 NS s
 nn : 0 ≤ s.1
theorem SpdOk.wf {s : R} (h : SpdOk s) : Wf 310 s := h.bq.wf (by decide) (by decide) (by decide)
structure RowsG (rows : List (R × R)) : Prop where
 n2 : 2 ≤ rows.length
 n12 : rows.length ≤ 12
 inc : Inc rows
 zero : ∃ y, rows[0]? = some ((0, 1), y)
 sp : ∀ r ∈ rows, Wf 510 r.1
 pw : ∀ r ∈ rows, Wf 197 r.2
def RlG : Rl -> Prop
 | .pow k => 2 ≤ k /\ k ≤ 4
 | .tab rows => RowsG rows
theorem wred {n : Nat} {r : R} (h : Wf n r) : Red r := ⟨h.pos, h.cop⟩
theorem RowsG.allP {rows : List (R × R)} (h : RowsG rows) : AllP rows := fun r hr => (h.sp r hr).pos
theorem RowsOk.g {rows : List (R × R)} (h : RowsOk rows) : RowsG rows := ⟨h.n2, h.n12, h.inc, h.zero, fun r hr => (wfS (h.sp r hr)).mono (by decide), fun r hr => wfP (h.pw r hr)⟩
structure SlG (a b : R × R) : Prop where
 ne : (minusR b.1 a.1).1 ≠ 0
 w1 : Wf 1021 (minusR b.1 a.1)
 w2 : Wf 395 (minusR b.2 a.2)
 a1 : Wf 510 a.1
 b1 : Wf 510 b.1
 a2 : Wf 197 a.2
 b2 : Wf 197 b.2
 sl : Wf 1420 (slopeR a b)
theorem slG {rows : List (R × R)} (h : RowsG rows) {i j : Nat} {a b : R × R} (hij : i < j) (ha : rows[i]? = some a) (hb : rows[j]? = some b) : SlG a b := by
 have ma := List.mem_of_getElem? ha
 have mb := List.mem_of_getElem? hb
 have lt : lessR a.1 b.1 = true := by
  obtain ⟨h1, e1⟩ := List.getElem?_eq_some_iff.mp ha
  obtain ⟨h2, e2⟩ := List.getElem?_eq_some_iff.mp hb
  have := List.pairwise_iff_getElem.mp h.inc i j h1 h2 hij
  rw [e1, e2] at this
  exact this
 have ne := minus_ne (wred (h.sp b mb)) (wred (h.sp a ma)) lt
 have w1 := minus_wf (h.sp b mb) (h.sp a ma)
 have w2 := minus_wf (h.pw b mb) (h.pw a ma)
 exact ⟨ne, w1, w2, h.sp a ma, h.sp b mb, h.pw a ma, h.pw b mb, (over_wf w2 w1 ne).mono (by decide)⟩
theorem RowsG.p_lt {rows : List (R × R)} (h : RowsG rows) {s : R} (hs : 0 < s.2) (hb : Below (.tab rows) s) : pOf rows s < rows.length := by
 obtain ⟨r, e, c⟩ := hb
 have := cnt_p hs h.inc h.allP e
 rw [c] at this
 have z := of_decide_eq_false this.symm
 have := h.n2
 omega
theorem below_g {rows : List (R × R)} (h : RowsG rows) {s : R} (hs : 0 < s.2) (hp : pOf rows s < rows.length) : Below (.tab rows) s := by
 have n := h.n2
 have e : rows[rows.length - 1]? = some (rows[rows.length - 1]'(by omega)) := List.getElem?_eq_getElem _
 refine ⟨_, e, ?_⟩
 rw [cnt_p hs h.inc h.allP e]
 exact decide_eq_false (by omega)
def topM (rows : List (R × R)) : R := (rows.getD (rows.length - 1) rowD).1
def lineR (a b : R × R) (s : R) : R := plusR a.2 (timesR (slopeR a b) (minusR s a.1))
def powT (rows : List (R × R)) (s : R) : R := if pOf rows s = 0 then (rows.getD 0 rowD).2 else lineR (rows.getD (pOf rows s - 1) rowD) (rows.getD (pOf rows s) rowD) s
def powM : Rl -> R -> R
 | .pow k, s => powR s k.toNat
 | .tab rows, s => powT rows s
def beyM : Rl -> R -> Bool
 | .pow _, _ => false
 | .tab rows, s => lessR (topM rows) s
theorem last_g {rows : List (R × R)} (h : RowsG rows) : ∃ r, rows[rows.length - 1]? = some r /\ topM rows = r.1 := by
 have n := h.n2
 have e : rows[rows.length - 1]? = some (rows[rows.length - 1]'(by omega)) := List.getElem?_eq_getElem _
 exact ⟨_, e, by unfold topM; rw [getD_at e]⟩
theorem bey_iff {rl : Rl} {s : R} (h : RlG rl) : beyM rl s = false ↔ Below rl s := by
 cases rl with
 | pow k => exact ⟨fun _ => trivial, fun _ => rfl⟩
 | tab rows =>
  obtain ⟨r, e, er⟩ := last_g (show RowsG rows from h)
  constructor
  ·intro z
   have z' : lessR (topM rows) s = false := z
   exact ⟨r, e, by rw [← er]; exact z'⟩
  ·rintro ⟨r', e', z⟩
   rw [e] at e'
   cases e'
   show lessR (topM rows) s = false
   rw [er]; exact z
theorem line_g {a b : R × R} {s : R} (ok : SlG a b) (ws : Wf 310 s) : Wf 821 (minusR s a.1) /\ Wf 2241 (timesR (slopeR a b) (minusR s a.1)) /\ Wf 2440 (lineR a b s) := by
 have m := minus_wf ws ok.a1
 have tm := times_wf ok.sl m
 exact ⟨m, tm, (plus_wf ok.a2 tm).mono (by decide)⟩
theorem zero_g {rows : List (R × R)} (h : RowsG rows) {s : R} (hs : SpdOk s) (hp : pOf rows s = 0) : s = (0, 1) := by
 obtain ⟨y, ey⟩ := h.zero
 have c := cnt_p hs.bq.pos h.inc h.allP ey
 rw [hp] at c
 have c' : lessR (0, 1) s = false := c
 rw [less_not] at c'
 have z : s.1 * 1 ≤ 0 * s.2 := c'
 have nn := hs.nn
 have e : s.1 = 0 := by omega
 have cop := hs.bq.cop
 have pos := hs.bq.pos
 rw [e] at cop
 have : s.2.natAbs = 1 := by simpa [Int.gcd] using cop
 exact Prod.ext e (by omega)
theorem vne {q : R} (hq : 0 < q.2) (h : q.1 ≠ 0) : val q ≠ 0 := fun z => h ((val_zero hq).mp z)
theorem slope_snoc {x p sl st : R} (hx : Red x) (hp : Red p) (hs : Red sl) (ht : Red st) (pt : 0 < st.1) : slopeR (x, p) (plusR x st, plusR p (timesR sl st)) = sl := by
 have rt : Red (timesR sl st) := mkR_red (Int.mul_pos hs.pos ht.pos)
 have r1 : Red (plusR x st) := mkR_red (Int.mul_pos hx.pos ht.pos)
 have r2 : Red (plusR p (timesR sl st)) := mkR_red (Int.mul_pos hp.pos rt.pos)
 have e1 : minusR (plusR x st) x = st := val_inj (minus_red r1.pos hx.pos) ht (by rw [val_minus r1.pos hx.pos, val_plus hx.pos ht.pos]; grind)
 have e2 : minusR (plusR p (timesR sl st)) p = timesR sl st := val_inj (minus_red r2.pos hp.pos) rt (by rw [val_minus r2.pos hp.pos, val_plus hp.pos rt.pos]; grind)
 have n0 : st.1 ≠ 0 := by omega
 show overR (minusR (plusR p (timesR sl st)) p) (minusR (plusR x st) x) = sl
 rw [e1, e2]
 refine val_inj (over_red rt.pos n0) hs ?_
 rw [val_over rt.pos ht.pos n0, val_times hs.pos ht.pos]
 have := vne ht.pos n0
 generalize val st = u at *
 generalize val sl = v at *
 grind
structure TabS (i : Nat) (rows : List (R × R)) : Prop where
 tb : TabAt i rows
 sl : ∀ k, k < i -> Bq D0 (12 * N0) (slp rows k)
theorem tabS_one {y : R} (h : Bq D0 N0 y) : TabS 0 [((0, 1), y)] := ⟨tab_one h, fun k z => absurd z (Nat.not_lt_zero k)⟩
theorem TabS.snoc {i : Nat} {rows : List (R × R)} (h : TabS i rows) (hi : i ≤ 10) {w : R × R} (hw : rows[i]? = some w) {sl st : R} (hs : Bq D0 ((i + 1) * N0) sl) (ht : PartOk st) :
  TabS (i + 1) (rows ++ [(plusR w.1 st, plusR w.2 (timesR sl st))]) := by
 refine ⟨h.tb.snoc hi hw hs ht, fun k hk => ?_⟩
 have len := h.tb.len
 have ax : ∀ {j : Nat} {v : R × R}, rows[j]? = some v -> (rows ++ [(plusR w.1 st, plusR w.2 (timesR sl st))])[j]? = some v := fun {j v} e => by
  rw [List.getElem?_append_left (List.getElem?_eq_some_iff.mp e).1]; exact e
 by_cases c : k < i
 ·have e1 : rows[k]? = some (rows[k]'(by omega)) := List.getElem?_eq_getElem _
  have e2 : rows[k + 1]? = some (rows[k + 1]'(by omega)) := List.getElem?_eq_getElem _
  have := h.sl k c
  rw [slp_at e1 e2] at this
  rw [slp_at (ax e1) (ax e2)]
  exact this
 ·have ek : k = i := by omega
  subst ek
  have e2 : (rows ++ [(plusR w.1 st, plusR w.2 (timesR sl st))])[k + 1]? = some (plusR w.1 st, plusR w.2 (timesR sl st)) := by
   rw [List.getElem?_append_right (by omega), len, Nat.sub_self]; rfl
  rw [slp_at (ax hw) e2]
  have mw := List.mem_of_getElem? hw
  have := slope_snoc (h.tb.sp w mw).red (h.tb.pw w mw).red hs.red ht.bq.red ht.pos
  rw [show slopeR w (plusR w.1 st, plusR w.2 (timesR sl st)) = sl from this]
  exact hs.mono ⟨1, rfl⟩ (Nat.mul_le_mul_right _ (by omega))
structure RowsS (rows : List (R × R)) : Prop where
 ok : RowsOk rows
 sl : ∀ k, k + 1 < rows.length -> Bq D0 (12 * N0) (slp rows k)
theorem TabS.ok {i : Nat} {rows : List (R × R)} (h : TabS i rows) (h1 : 1 ≤ i) (h2 : i ≤ 11) : RowsS rows := ⟨h.tb.ok h1 h2, fun k hk => h.sl k (by have := h.tb.len; omega)⟩
def scR (b : R) (rows : List (R × R)) : List (R × R) := rows.map fun r => (timesR r.1 b, r.2)
theorem zero_times (b : R) (hb : Red b) : timesR (0, 1) b = (0, 1) := by
 refine val_inj (mkR_red (Int.mul_pos (by decide) hb.pos)) ⟨by decide, by decide⟩ ?_
 rw [val_times (by decide) hb.pos]
 have : val (0, 1) = 0 := (val_zero (by decide)).mpr rfl
 rw [this]; grind
theorem vpos {q : R} (hq : 0 < q.2) (h : 0 < q.1) : 0 < val q := by
 have := (val_less (r := (0, 1)) (q := q) (by decide) hq).mp (by rw [less_iff]; show 0 * q.2 < q.1 * 1; omega)
 have z : val (0, 1) = 0 := (val_zero (by decide)).mpr rfl
 rw [z] at this
 exact this
theorem times_red {r q : R} (hr : 0 < r.2) (hq : 0 < q.2) : Red (timesR r q) := mkR_red (Int.mul_pos hr hq)
theorem plus_red {r q : R} (hr : 0 < r.2) (hq : 0 < q.2) : Red (plusR r q) := mkR_red (Int.mul_pos hr hq)
theorem less_times {a c b : R} (ha : 0 < a.2) (hc : 0 < c.2) (hb : 0 < b.2) (pb : 0 < b.1) (h : lessR a c = true) : lessR (timesR a b) (timesR c b) = true := by
 rw [val_less (times_red ha hb).pos (times_red hc hb).pos, val_times ha hb, val_times hc hb]
 exact Rat.mul_lt_mul_of_pos_right ((val_less ha hc).mp h) (vpos hb pb)
theorem scaled_ok {rows : List (R × R)} {b : R} (h : RowsOk rows) (hb : Wf 411 b) (pb : 0 < b.1) : RowsG (scR b rows) := by
 refine ⟨by unfold scR; rw [List.length_map]; exact h.n2, by unfold scR; rw [List.length_map]; exact h.n12, ?_, ?_, fun r hr => ?_, fun r hr => ?_⟩
 ·unfold Inc scR
  rw [List.pairwise_map]
  exact h.inc.imp_of_mem fun {x y} hx hy z => less_times (h.sp x hx).pos (h.sp y hy).pos hb.pos pb z
 ·obtain ⟨y, ey⟩ := h.zero
  refine ⟨y, ?_⟩
  unfold scR
  rw [List.getElem?_map, ey]
  show some (timesR (0, 1) b, y) = _
  rw [zero_times b (wred hb)]
 ·obtain ⟨x, hx, rfl⟩ := List.mem_map.mp hr
  exact (times_wf (wfS (h.sp x hx)) hb).mono (by decide)
 ·obtain ⟨x, hx, rfl⟩ := List.mem_map.mp hr
  exact wfP (h.pw x hx)
theorem line_scaled {a c : R × R} {b s : R} (a1 : Red a.1) (a2 : Red a.2) (c1 : Red c.1) (c2 : Red c.2) (hb : Red b) (hs : Red s) (pb : 0 < b.1) (lt : lessR a.1 c.1 = true) :
  lineR (timesR a.1 b, a.2) (timesR c.1 b, c.2) s = plusR a.2 (timesR (slopeR a c) (minusR (overR s b) a.1)) := by
 have b0 : b.1 ≠ 0 := by omega
 have ra := times_red a1.pos hb.pos
 have rc := times_red c1.pos hb.pos
 have n1 := minus_ne c1 a1 lt
 have n2 := minus_ne rc ra (less_times a1.pos c1.pos hb.pos pb lt)
 have m1 := minus_red c1.pos a1.pos
 have m2 := minus_red c2.pos a2.pos
 have m3 := minus_red rc.pos ra.pos
 have o1 := over_red (q := minusR c.1 a.1) m2.pos n1
 have o2 := over_red (q := minusR (timesR c.1 b) (timesR a.1 b)) m2.pos n2
 have o3 := over_red (q := b) hs.pos b0
 have m4 := minus_red o3.pos a1.pos
 have m5 := minus_red hs.pos ra.pos
 have t1 := times_red o1.pos m4.pos
 have t2 := times_red o2.pos m5.pos
 refine val_inj (plus_red a2.pos t2.pos) (plus_red a2.pos t1.pos) ?_
 show val (plusR a.2 (timesR (overR (minusR c.2 a.2) (minusR (timesR c.1 b) (timesR a.1 b))) (minusR s (timesR a.1 b)))) = val (plusR a.2 (timesR (overR (minusR c.2 a.2) (minusR c.1 a.1)) (minusR (overR s b) a.1)))
 rw [val_plus a2.pos t2.pos, val_plus a2.pos t1.pos, val_times o2.pos m5.pos, val_times o1.pos m4.pos, val_over m2.pos m3.pos n2, val_over m2.pos m1.pos n1, val_minus c2.pos a2.pos, val_minus rc.pos ra.pos, val_minus c1.pos a1.pos, val_minus hs.pos ra.pos, val_minus o3.pos a1.pos, val_over hs.pos hb.pos b0, val_times c1.pos hb.pos, val_times a1.pos hb.pos]
 have v1 := vne m1.pos n1
 rw [val_minus c1.pos a1.pos] at v1
 have v2 := vne hb.pos b0
 generalize val a.1 = A at *
 generalize val c.1 = C at *
 generalize val a.2 = P at *
 generalize val c.2 = Q at *
 generalize val b = B at *
 generalize val s = S at *
 have : C * B - A * B = (C - A) * B := by grind
 rw [this]
 have : (C - A) * B ≠ 0 := by grind
 grind
abbrev NY : Nat := NR * (10 * D1)
theorem inv_bq {last pm : R} (hl : Bq D0 NR last) (hm : Bq (10 * D1) (2 * NS) pm) (pp : 0 < pm.1) : Bq (D0 * pm.1.natAbs) NY (overR last pm) := by
 have e : overR last pm = mkR (last.1 * pm.2) (last.2 * pm.1) := by
  unfold overR
  exact mkS_pos (Int.mul_pos hl.pos pp)
 rw [e]
 have ep : ((pm.1.natAbs : Nat) : Int) = pm.1 := by omega
 refine bq_mk (Int.mul_pos hl.pos pp) ?_ ?_
 ·rw [Int.natCast_mul, ep]; exact Int.mul_dvd_mul hl.dvd (Int.dvd_refl _)
 ·rw [Int.natAbs_mul, Int.natAbs_mul]
  have h1 := hl.le
  have h2 := hm.bot (by decide)
  have h3 : 1 ≤ pm.1.natAbs := by omega
  calc last.1.natAbs * pm.2.natAbs ≤ NR * last.2.natAbs * (10 * D1) := Nat.mul_le_mul h1 h2
   _ = NY * last.2.natAbs := by show _ = NR * (10 * D1) * _; ac_rfl
   _ = NY * (last.2.natAbs * 1) := by rw [Nat.mul_one]
   _ ≤ NY * (last.2.natAbs * pm.1.natAbs) := Nat.mul_le_mul_left _ (Nat.mul_le_mul_left _ h3)
theorem over_by {s last p most : R} (hs : Red s) (hl : Red last) (hp : Red p) (hm : Red most) (pl : 0 < last.1) (pp : 0 < p.1) (pm : 0 < most.1) :
  overR s (timesR p (overR most last)) = timesR s (overR last (timesR p most)) := by
 have l0 : last.1 ≠ 0 := by omega
 have o1 := over_red (q := last) hm.pos l0
 have t1 := times_red hp.pos o1.pos
 have t2 := times_red hp.pos hm.pos
 have vl := vne hl.pos l0
 have vp := vne hp.pos (show p.1 ≠ 0 by omega)
 have vm := vne hm.pos (show most.1 ≠ 0 by omega)
 have n1 : (timesR p (overR most last)).1 ≠ 0 := fun z => by
  have := (val_zero t1.pos).mpr z
  rw [val_times hp.pos o1.pos, val_over hm.pos hl.pos l0] at this
  generalize val last = A at *
  generalize val p = C at *
  generalize val most = M at *
  have : C * M = 0 := by grind
  grind
 have n2 : (timesR p most).1 ≠ 0 := fun z => by
  have := (val_zero t2.pos).mpr z
  rw [val_times hp.pos hm.pos] at this
  generalize val p = C at *
  generalize val most = M at *
  grind
 have o2 := over_red (q := timesR p most) hl.pos n2
 refine val_inj (over_red hs.pos n1) (times_red hs.pos o2.pos) ?_
 rw [val_over hs.pos t1.pos n1, val_times hs.pos o2.pos, val_times hp.pos o1.pos, val_over hm.pos hl.pos l0, val_over hl.pos t2.pos n2, val_times hp.pos hm.pos]
 generalize val last = A at *
 generalize val p = C at *
 generalize val most = M at *
 generalize val s = S at *
 have e1 : C * (M / A) ≠ 0 := by grind
 have e2 : C * M ≠ 0 := by grind
 grind
abbrev NA : Nat := N2 + 12 * N0 * (NS * NY + NR)
theorem pow_scaled {rows : List (R × R)} {b s pm last : R} (h : RowsS rows) (hb : Wf 411 b) (pb : 0 < b.1) (hs : SpdOk s) (hl : Bq D0 NR last) (hm : Bq (10 * D1) (2 * NS) pm) (pp : 0 < pm.1) (e : overR s b = timesR s (overR last pm)) (hbl : Below (.tab (scR b rows)) s) :
  Bq (D0 * (D1 * (D0 * pm.1.natAbs))) NA (powT (scR b rows) s) := by
 have G := scaled_ok h.ok hb pb
 have pl := G.p_lt hs.bq.pos hbl
 have len : (scR b rows).length = rows.length := by unfold scR; rw [List.length_map]
 have mp : 0 < pm.1.natAbs := by omega
 unfold powT
 split
 ·have n2 := h.ok.n2
  have e0 : rows[0]? = some (rows[0]'(by omega)) := List.getElem?_eq_getElem _
  have e1 : (scR b rows)[0]? = some (timesR (rows[0]'(by omega)).1 b, (rows[0]'(by omega)).2) := by unfold scR; rw [List.getElem?_map, e0]; rfl
  rw [getD_at e1]
  refine (h.ok.pw _ (List.mem_of_getElem? e0)).mono ⟨D1 * pm.1.natAbs, by ac_rfl⟩ (Nat.le_add_right _ _)
 ·rename_i c
  generalize hk : pOf (scR b rows) s = k at *
  have ea : rows[k - 1]? = some (rows[k - 1]'(by omega)) := List.getElem?_eq_getElem _
  have ec : rows[k]? = some (rows[k]'(by omega)) := List.getElem?_eq_getElem _
  generalize rows[k - 1]'(by omega) = a at ea
  generalize rows[k]'(by omega) = d at ec
  have e1 : (scR b rows)[k - 1]? = some (timesR a.1 b, a.2) := by unfold scR; rw [List.getElem?_map, ea]; rfl
  have e2 : (scR b rows)[k]? = some (timesR d.1 b, d.2) := by unfold scR; rw [List.getElem?_map, ec]; rfl
  rw [getD_at e1, getD_at e2]
  have ma := h.ok.sp a (List.mem_of_getElem? ea)
  have mb := h.ok.sp d (List.mem_of_getElem? ec)
  have pa := h.ok.pw a (List.mem_of_getElem? ea)
  have pd := h.ok.pw d (List.mem_of_getElem? ec)
  have lt : lessR a.1 d.1 = true := by
   obtain ⟨h1, z1⟩ := List.getElem?_eq_some_iff.mp ea
   obtain ⟨h2, z2⟩ := List.getElem?_eq_some_iff.mp ec
   have := List.pairwise_iff_getElem.mp h.ok.inc (k - 1) k h1 h2 (by omega)
   rw [z1, z2] at this
   exact this
  rw [line_scaled ma.red pa.red mb.red pd.red (wred hb) hs.bq.red pb lt, e]
  have sl := h.sl (k - 1) (by omega)
  rw [slp_at ea (by rw [show k - 1 + 1 = k by omega]; exact ec)] at sl
  have q1 := hs.bq.times (inv_bq hl hm pp)
  have q2 := q1.minus (Nat.mul_pos (by decide) (Nat.mul_pos (by decide) mp)) (ma.mono ⟨D1 * pm.1.natAbs, by ac_rfl⟩ (Nat.le_refl _))
  have q3 := sl.times q2
  have q4 := (pa.mono (D' := D0 * (D1 * (D0 * pm.1.natAbs))) ⟨D1 * pm.1.natAbs, by ac_rfl⟩ (Nat.le_refl _)).plus (Nat.mul_pos (by decide) (Nat.mul_pos (by decide) (Nat.mul_pos (by decide) mp))) q3
  exact q4
def sp_slope_between (K : PySem.W.Frag) : Sp := fun vs H Q _ => ∃ (v w : V) (a b : R × R), vs = [v, w] /\ RowV K H v a /\ RowV K H w b /\ SlG a b /\ toR K H Q (slopeR a b)
def sp_place_of (K : PySem.W.Frag) : Sp := fun vs H Q _ => ∃ (q : Addr) (v : V) (xs : List V) (rows : List (R × R)) (s : R), vs = [.ref q, v] /\ SqT K H q xs /\ Als (RowV K H) xs rows /\ RowsG rows /\ RV K H v s /\ SpdOk s /\ Below (.tab rows) s /\ Q (.int (pOf rows s)) H
def sp_law_part (K : PySem.W.Frag) : Sp := fun vs H Q _ => ∃ t s : Addr, vs = [.ref t] /\ Tape H t s /\ ∀ (v : V) (r : R) (H' : Hp), PartOk r -> Step t H H' -> Tape H' t s -> RV K H' v r -> Q v H'
def RlS : Rl -> Prop
 | .pow k => 2 ≤ k /\ k ≤ 4
 | .tab rows => RowsS rows
def sp_law_table (K : PySem.W.Frag) : Sp := fun vs H Q _ => ∃ t s : Addr, vs = [.ref t] /\ Tape H t s /\ ∀ (v : V) (rows : List (R × R)) (H' : Hp), RowsS rows -> Step t H H' -> Tape H' t s -> RlV K H' v (.tab rows) -> Q v H'
def sp_law_rule (K : PySem.W.Frag) : Sp := fun vs H Q _ => ∃ t s : Addr, vs = [.ref t] /\ Tape H t s /\ ∀ (v : V) (rl : Rl) (H' : Hp), RlS rl -> Step t H H' -> Tape H' t s -> RlV K H' v rl -> Q v H'
theorem wf_sp {i : Nat} {r : R} (h : Bq D0 (i * N0) r) (hi : i ≤ 12) : Wf 98 r := (h.mono (N' := 12 * N0) ⟨1, rfl⟩ (Nat.mul_le_mul_right _ hi)).wf (by decide) (by decide) (by decide)
theorem wf_pw {i : Nat} {r : R} (h : Bq (D0 * D0) (N0 + i * (12 * N0 * N0)) r) (hi : i ≤ 12) : Wf 197 r := (h.mono (N' := N0 + 12 * (12 * N0 * N0)) ⟨1, by rw [Nat.mul_one]⟩ (Nat.add_le_add_left (Nat.mul_le_mul_right _ hi) _)).wf (by decide) (by decide) (by decide)
theorem pow_one {s : R} (h : Red s) : powR s 1 = s := by rw [pow_eq_red h, Int.pow_succ, Int.pow_succ, Int.pow_zero, Int.pow_zero, Int.one_mul, Int.one_mul]
def sp_copied0 (_ : PySem.W.Frag) : Sp := fun vs H Q _ => ∃ i : Int, vs = [.int i] /\ Q (.int i) H
def sp_copied (K : PySem.W.Frag) : Sp := fun vs H Q _ => ∃ (v : V) (r : R), vs = [v] /\ RV K H v r /\ toR K H Q r
def sp_NoSpeed (K : PySem.W.Frag) (C : Addr) : Sp := fun vs H Q _ => ∃ (a : Addr) (v : V) (r : R), vs = [.ref a, v] /\ H a = some (exO a C none) /\ RV K H v r /\ ∀ (d : Addr) (u : V) (H1 : Hp), Same H H1 -> RV K H1 u r -> H1 d = none -> d ≠ a -> Q .non (upd (upd H1 a (exO a C (some d))) d (dO d [("speed", u)]))
def sp_top_of (K : PySem.W.Frag) : Sp := fun vs H Q _ => ∃ (v : V) (rl : Rl), vs = [v] /\ RlV K H v rl /\ RlG rl /\ (∀ k, rl = .pow k -> Q .non H) /\ ∀ rows x, rl = .tab rows -> RV K H x (topM rows) -> Q x H
def sp_is_beyond (K : PySem.W.Frag) : Sp := fun vs H Q _ => ∃ (v w : V) (rl : Rl) (s : R), vs = [v, w] /\ RlV K H v rl /\ RlG rl /\ RV K H w s /\ Wf 310 s /\ Q (.bl (beyM rl s)) H
def sp_power_at (K : PySem.W.Frag) (C : Addr) : Sp := fun vs H Q E => ∃ (v w : V) (rl : Rl) (s : R), vs = [v, w] /\ RlV K H v rl /\ RlG rl /\ RV K H w s /\ SpdOk s /\ (Below rl s -> toR K H Q (powM rl s)) /\ (¬ Below rl s -> ∀ (d : Addr) (u : V) (H' : Hp), Same H H' -> RV K H' u s -> H' d = some (dO d [("speed", u)]) -> E (.ref C) (some d) H')
open Classical in
noncomputable def dueM (rl : Rl) (s : R) : Option R := if Below rl s then some (powM rl s) else none
def sp_law_power (K : PySem.W.Frag) : Sp := fun vs H Q _ => ∃ (v w : V) (rl : Rl) (s : R), vs = [v, w] /\ RlV K H v rl /\ RlG rl /\ RV K H w s /\ SpdOk s /\ ∀ (v' : V) (H' : Hp), Same H H' -> OptV K H' v' (dueM rl s) -> Q v' H'
theorem dueM_yes {rl : Rl} {s : R} (h : Below rl s) : dueM rl s = some (powM rl s) := if_pos h
theorem dueM_no {rl : Rl} {s : R} (h : ¬ Below rl s) : dueM rl s = none := if_neg h
theorem tst_exc {K : PySem.W.Frag} {H : Hp} {x d C : Addr} {dx : Option Addr} {e o : HO} (hx : H x = some (exO x C dx)) (hd : H d = none) : Tst K H (del (upd (upd H x e) d o) x) := fun p ys h => by
 have nx : ∀ u, H p = some u -> (∀ q, u ≠ exO x C q) -> p ≠ x := fun u q n z => by subst z; rw [hx] at q; exact n _ (Option.some.inj q).symm
 have go : ∀ u, H p = some u -> p ≠ x -> (del (upd (upd H x e) d o) x) p = some u := fun u q n => by
  unfold del
  rw [if_neg n, upd_ne (ne_of_none q hd), upd_ne n]; exact q
 rcases h with (h | ⟨ob, h⟩) | h
 ·exact .inl (.inl (go _ h (nx _ h fun q z => by unfold exO at z; cases z)))
 ·exact .inl (.inr ⟨ob, go _ h (nx _ h fun q z => by unfold exO at z; cases z)⟩)
 ·exact .inr h
def Seq (K : PySem.W.Frag) (H : Hp) (a : Addr) (xs : List V) : Prop := SqL K H a xs ∨ SqT K H a xs
def sp_total (K : PySem.W.Frag) : Sp := fun vs H Q _ => ∃ (a : Addr) (xs : List V) (rs : List R) (n D : Nat), vs = [.ref a] /\ Seq K H a xs /\ RVs K H xs rs /\ (∀ r ∈ rs, Wf n r /\ r.2 ∣ (D : Int)) /\ 0 < D /\ D < 2 ^ n /\ rs.length ≤ 64 /\ n ≤ 1300 /\ ∀ (v' : V) (H' : Hp), Same H H' -> RV K H' v' (sumR rs) -> Q v' H'
theorem add_dvd {D i n : Nat} {ps : List (Int × Int)} {r : R} (h : ∀ p ∈ ps, p.1 ∣ (D : Int)) (hr : r.2 ∣ (D : Int)) : ∀ p ∈ addP ps r.2 r.1, p.1 ∣ (D : Int) := fun p hp => by
 rcases (add_keys ps r.2 r.1 p.1).mp (List.mem_map.mpr ⟨p, hp, rfl⟩) with z | z
 ·obtain ⟨q, hq, e⟩ := List.mem_map.mp z
  rw [← e]
  exact h q hq
 ·rw [z]; exact hr
theorem grp_bq {D n i : Nat} {ps : List (Int × Int)} (ok : PsOk n i ps) (hd : ∀ p ∈ ps, p.1 ∣ (D : Int)) (hi : i ≤ 64) {q : Int × Int} (hq : q ∈ ps) : Bq D (64 * 2 ^ n) (mkR q.2 q.1) := by
 have b := (ok.bot q hq).1
 refine bq_mk b (hd q hq) (Nat.le_trans (ok.top q hq) ?_)
 refine Nat.le_trans (Nat.mul_le_mul_right _ hi) (Nat.le_mul_of_pos_right _ (by omega))
theorem acc_wf {D n j : Nat} {r : R} (h : Bq D (64 * 2 ^ n * j) r) (hj : j ≤ 64) (h0 : 0 < D) (hD : D < 2 ^ n) : Wf (2 * n + 12) r := by
 refine h.wf h0 (Nat.lt_of_lt_of_le hD (Nat.pow_le_pow_right (by decide) (by omega))) ?_
 have a : 64 * 2 ^ n * j ≤ 64 * 2 ^ n * 64 := Nat.mul_le_mul_left _ hj
 have b : 64 * 2 ^ n * j * D < 64 * 2 ^ n * 64 * 2 ^ n := Nat.lt_of_le_of_lt (Nat.mul_le_mul_right _ a) (Nat.mul_lt_mul_of_pos_left hD (Nat.mul_pos (Nat.mul_pos (by decide) (Nat.pow_pos (by decide))) (by decide)))
 refine Nat.lt_of_lt_of_le b ?_
 rw [show 2 * n + 12 = n + (n + 12) by omega, Nat.pow_add, Nat.pow_add, show (2 : Nat) ^ 12 = 4096 by decide]
 rw [show 64 * 2 ^ n * 64 * 2 ^ n = 2 ^ n * (2 ^ n * 4096) by rw [show (4096 : Nat) = 64 * 64 by decide]; ac_rfl]
 exact Nat.le_refl _
theorem sum_bq {D N : Nat} (hD : 0 < D) : ∀ {rs : List R}, (∀ r ∈ rs, Bq D N r) -> ∀ {a : R} {M : Nat}, Bq D M a -> Bq D (M + N * rs.length) (rs.foldl plusR a)
 | [], _, a, M, h => by simpa using h
 | r :: rs, hr, a, M, h => by
  have := sum_bq hD (fun q hq => hr q (List.mem_cons_of_mem _ hq)) (h.plus hD (hr r List.mem_cons_self))
  rw [List.foldl_cons, List.length_cons, Nat.mul_succ]
  refine this.mono (Nat.dvd_refl _) (by omega)
theorem bq_z {D : Nat} : Bq D 0 ((0, 1) : R) := ⟨by decide, by decide, ⟨(D : Int), by show (D : Int) = 1 * D; omega⟩, by show 0 ≤ _; exact Nat.zero_le _⟩
theorem sumR_bq {D N : Nat} (hD : 0 < D) {rs : List R} (h : ∀ r ∈ rs, Bq D N r) : Bq D (N * rs.length) (sumR rs) := by
 have := sum_bq hD h (bq_z (D := D))
 rw [Nat.zero_add] at this
 exact this
theorem als_rvs {K : PySem.W.Frag} {H : Hp} {xs : List V} {rs : List R} (h : Als (RV K H) xs rs) : RVs K H xs rs := ⟨h.len, fun i x r hx hr => by obtain ⟨d, hd, p⟩ := h.at hx; rw [hr] at hd; cases hd; exact p⟩
def sp_law_sum (K : PySem.W.Frag) : Sp := fun vs H Q _ => ∃ (a : Addr) (xs : List V) (rs : List R) (D N n : Nat), vs = [.ref a] /\ SqL K H a xs /\ Als (RV K H) xs rs /\ (∀ r ∈ rs, Bq D N r) /\ 0 < D /\ D < 2 ^ n /\ N * 64 * D < 2 ^ n /\ rs.length ≤ 64 /\ n ≤ 1900 /\ toR K H Q (sumR rs)
theorem sum_wfB {D N n : Nat} {rs : List R} (h : ∀ r ∈ rs, Bq D N r) (h0 : 0 < D) (h1 : D < 2 ^ n) (h2 : N * 64 * D < 2 ^ n) (hl : rs.length ≤ 64) : Wf n (sumR rs) :=
 (sumR_bq h0 h).wf h0 h1 (Nat.lt_of_le_of_lt (Nat.mul_le_mul_right _ (Nat.mul_le_mul_left _ hl)) h2)
theorem bq_wfB {D N n : Nat} {r : R} (h : Bq D N r) (h0 : 0 < D) (h1 : D < 2 ^ n) (h2 : N * 64 * D < 2 ^ n) : Wf n r :=
 h.wf h0 h1 (Nat.lt_of_le_of_lt (Nat.mul_le_mul_right _ (Nat.le_mul_of_pos_right _ (by decide))) h2)
abbrev Pc : Type := Int × R
def PcV (K : PySem.W.Frag) (H : Hp) (v : V) (c : Pc) : Prop := ∃ p x, v = .ref p /\ SqT K H p [.int c.1, x] /\ RV K H x c.2
theorem PcV.mono {K : PySem.W.Frag} {H H' : Hp} {v : V} {c : Pc} (h : PcV K H v c) (t : Tst K H H') : PcV K H' v c := let ⟨p, x, a, b, d⟩ := h; ⟨p, x, a, t _ _ b, d.mono t⟩
def TuV (K : PySem.W.Frag) (H : Hp) (v : V) (cs : List Pc) : Prop := ∃ p xs, v = .ref p /\ SqT K H p xs /\ Als (PcV K H) xs cs
theorem TuV.mono {K : PySem.W.Frag} {H H' : Hp} {v : V} {c : List Pc} (h : TuV K H v c) (t : Tst K H H') : TuV K H' v c := let ⟨p, x, a, b, d⟩ := h; ⟨p, x, a, t _ _ b, d.mono fun _ _ z => z.mono t⟩
def PlnV (K : PySem.W.Frag) (H : Hp) (v : V) (pl : List (List Pc)) : Prop := ∃ p xs, v = .ref p /\ SqT K H p xs /\ Als (TuV K H) xs pl
theorem PlnV.mono {K : PySem.W.Frag} {H H' : Hp} {v : V} {c : List (List Pc)} (h : PlnV K H v c) (t : Tst K H H') : PlnV K H' v c := let ⟨p, x, a, b, d⟩ := h; ⟨p, x, a, t _ _ b, d.mono fun _ _ z => z.mono t⟩
structure TuOk (cs : List Pc) : Prop where
 len : cs.length ≤ 12
 bq : ∀ c ∈ cs, Bq D1 N0 c.2 /\ 0 ≤ c.2.1
structure PlnOk (pl : List (List Pc)) : Prop where
 len : pl.length = 24
 tu : ∀ t ∈ pl, TuOk t
def spdR (t : List Pc) : R := sumR (t.map fun c => c.2)
def SpsV (K : PySem.W.Frag) (H : Hp) (v : V) (ss : List R) : Prop := ∃ p xs, v = .ref p /\ SqT K H p xs /\ Als (RV K H) xs ss
theorem SpsV.mono {K : PySem.W.Frag} {H H' : Hp} {v : V} {ss : List R} (h : SpsV K H v ss) (t : Tst K H H') : SpsV K H' v ss := let ⟨p, x, a, b, d⟩ := h; ⟨p, x, a, t _ _ b, d.mono fun _ _ z => z.mono t⟩
def sp_speeds_of (K : PySem.W.Frag) : Sp := fun vs H Q _ => ∃ (v : V) (pl : List (List Pc)), vs = [v] /\ PlnV K H v pl /\ PlnOk pl /\ ∀ (v' : V) (H' : Hp), Same H H' -> SpsV K H' v' (pl.map spdR) -> Q v' H'
def PwB (rl : Rl) (ss : List R) : Prop := ∃ D N n : Nat, 0 < D /\ D < 2 ^ n /\ N * 64 * D < 2 ^ n /\ n ≤ 1300 /\ ∀ s ∈ ss, Below rl s -> Bq D N (powM rl s)
def sp_power_of (K : PySem.W.Frag) (C : Addr) : Sp := fun vs H Q E => ∃ (v w : V) (rl : Rl) (ss : List R), vs = [v, w] /\ RlV K H v rl /\ RlG rl /\ SpsV K H w ss /\ ss.length ≤ 24 /\ (∀ s ∈ ss, SpdOk s) /\ PwB rl ss /\ ((∀ s ∈ ss, Below rl s) -> toR K H Q (sumR (ss.map (powM rl)))) /\ ∀ (i : Nat) (s : R), ss[i]? = some s -> ¬ Below rl s -> (∀ (j : Nat) (z : R), j < i -> ss[j]? = some z -> Below rl z) -> ∀ (d : Addr) (u : V) (H' : Hp), Same H H' -> RV K H' u s -> H' d = some (dO d [("speed", u)]) -> E (.ref C) (some d) H'
open Classical in
noncomputable def dueA (rl : Rl) (ss : List R) : PyData := match ss.find? (fun s => decide (¬ Below rl s)) with | none => dR (sumR (ss.map (powM rl))) | some s => .tuple [.str "none", dR s]
def sp_law_told (K : PySem.W.Frag) : Sp := fun vs H Q _ => ∃ (v w : V) (rl : Rl) (ss : List R), vs = [v, w] /\ RlV K H v rl /\ RlG rl /\ SpsV K H w ss /\ ss.length ≤ 24 /\ (∀ s ∈ ss, SpdOk s) /\ PwB rl ss /\ ∀ (v' : V) (H' : Hp), Same H H' -> Deep K H' v' (dueA rl ss) -> Q v' H'
open Classical in
theorem find_first {α : Type} {p : α -> Bool} {ss : List α} {i : Nat} {s : α} (h : ss[i]? = some s) (hp : p s = true) (hb : ∀ (j : Nat) (z : α), j < i -> ss[j]? = some z -> p z = false) : ss.find? p = some s := by
 induction ss generalizing i with
 | nil => simp at h
 | cons x t ih =>
  cases i with
  | zero =>
   simp at h
   subst h
   exact List.find?_cons_of_pos hp
  | succ i =>
   have hx := hb 0 x (Nat.succ_pos _) rfl
   rw [List.find?_cons_of_neg (by rw [hx]; exact Bool.false_ne_true)]
   exact ih (i := i) (by simpa using h) fun j z hj hz => hb (j + 1) z (Nat.succ_lt_succ hj) (by simpa using hz)
open Classical in
theorem dueA_none {rl : Rl} {ss : List R} (h : ∀ s ∈ ss, Below rl s) : dueA rl ss = dR (sumR (ss.map (powM rl))) := by
 unfold dueA
 rw [List.find?_eq_none.mpr fun s hs => by simpa using h s hs]
open Classical in
theorem dueA_some {rl : Rl} {ss : List R} {i : Nat} {s : R} (h : ss[i]? = some s) (nb : ¬ Below rl s) (hb : ∀ (j : Nat) (z : R), j < i -> ss[j]? = some z -> Below rl z) : dueA rl ss = .tuple [.str "none", dR s] := by
 unfold dueA
 rw [find_first h (decide_eq_true nb) fun j z hj hz => by simpa using hb j z hj hz]
abbrev Wk := Nat × Nat × R
def WkV (K : PySem.W.Frag) (H : Hp) (v : V) (w : Wk) : Prop := ∃ p x, v = .ref p /\ SqT K H p [.int w.1, .int w.2.1, x] /\ RV K H x w.2.2
theorem WkV.mono {K : PySem.W.Frag} {H H' : Hp} {v : V} {w : Wk} (h : WkV K H v w) (t : Tst K H H') : WkV K H' v w := let ⟨p, x, e, s, r⟩ := h; ⟨p, x, e, t _ _ s, r.mono t⟩
def WksV (K : PySem.W.Frag) (H : Hp) (v : V) (ws : List Wk) : Prop := ∃ p xs, v = .ref p /\ SqT K H p xs /\ Als (WkV K H) xs ws
def dWk (w : Wk) : PyData := .tuple [.int w.1, .int w.2.1, dR w.2.2]
theorem WkV.deep {K : PySem.W.Frag} {H : Hp} {v : V} {w : Wk} (h : WkV K H v w) : Deep K H v (dWk w) := by
 obtain ⟨p, x, rfl, hS, rx⟩ := h
 exact .tup hS (.cons (.int _) (.cons (.int _) (.cons rx.deep .nil)))
theorem wk_depth (ws : List Wk) : (PyData.list (ws.map dWk)).depth ≤ 32 := by
 have : PyData.depthAll (ws.map dWk) ≤ 8 := by
  induction ws with
  | nil => exact Nat.zero_le _
  | cons w ws ih => exact Nat.max_le.mpr ⟨(by show max 0 (max 0 (max (max 0 (max 0 0) + 1) 0)) + 1 ≤ 8; decide), ih⟩
 show PyData.depthAll (ws.map dWk) + 1 ≤ 32
 omega
theorem wk_lay (ws : List Wk) : (PyData.list (ws.map dWk)).canLay0 = true := layAll_of fun d hd => by
 obtain ⟨w, _, rfl⟩ := List.mem_map.mp hd
 rfl
structure WkB (w : Wk) : Prop where
 le : w.1 ≤ w.2.1
 l2 : w.2.1 < 24
 po : PartOk w.2.2
def sp_law_works (K : PySem.W.Frag) : Sp := fun vs H Q _ => ∃ (t s : Addr) (m e : Nat), vs = [.ref t, .int m, .int e] /\ Tape H t s /\ m ≤ 12 /\ 1 ≤ e /\ e ≤ 24 /\ ∀ (v : V) (ws : List Wk) (H' : Hp), Step t H H' -> Tape H' t s -> WksV K H' v ws -> ws.length ≤ m -> (∀ w ∈ ws, WkB w) -> Q v H'
theorem powR_bq {D N : Nat} {r : R} (h : Bq D N r) : ∀ k, Bq (D ^ k) (N ^ k) (powR r k)
 | 0 => by
  show Bq 1 1 ((1, 1) : R)
  exact ⟨by decide, by decide, ⟨1, by decide⟩, by decide⟩
 | k + 1 => by
  rw [Nat.pow_succ, Nat.pow_succ]
  exact (powR_bq h k).times h
theorem pwB_pow {k : Int} {ss : List R} (h : 2 ≤ k /\ k ≤ 4) (hs : ∀ s ∈ ss, SpdOk s) : PwB (.pow k) ss := by
 refine ⟨D1 ^ 4, NS ^ 4, 1300, by decide, by decide, by decide, Nat.le_refl _, fun s ms _ => ?_⟩
 have := powR_bq (hs s ms).bq k.toNat
 show Bq (D1 ^ 4) (NS ^ 4) (powR s k.toNat)
 rcases (show k.toNat = 2 ∨ k.toNat = 3 ∨ k.toNat = 4 by omega) with e | e | e <;> rw [e] at this ⊢
 ·exact this.mono ⟨D1 ^ 2, by decide⟩ (by decide)
 ·exact this.mono ⟨D1, by decide⟩ (by decide)
 ·exact this
theorem pwB_nil {rl : Rl} : PwB rl [] := ⟨1, 0, 1, by decide, by decide, by decide, by decide, fun s ms => by cases ms⟩
theorem pwB_zero {rows : List (R × R)} {ss : List R} (h : RowsOk rows) (hs : ∀ s ∈ ss, s = (0, 1)) : PwB (.tab rows) ss := by
 refine ⟨D0 * D0, N2, 300, by decide, by decide, by decide, by decide, fun s ms _ => ?_⟩
 rw [hs s ms]
 obtain ⟨y, ey⟩ := h.zero
 have c := cnt_p (s := (0, 1)) (by decide) h.inc h.allP ey
 have p0 : pOf rows (0, 1) = 0 := by
  have c' : decide (0 < pOf rows (0, 1)) = false := c.symm.trans (show lessR (0, 1) (0, 1) = false by decide)
  have := of_decide_eq_false c'
  omega
 show Bq (D0 * D0) N2 (powT rows (0, 1))
 unfold powT
 rw [if_pos p0, getD_at ey]
 exact h.pw _ (List.mem_of_getElem? ey)
def PtOk (p : R) : Prop := p = (1, 1) ∨ p = (3, 2) ∨ p = (4, 5)
theorem PtOk.bq {p : R} (h : PtOk p) : Bq 10 2 p /\ 0 < p.1 := by
 rcases h with rfl | rfl | rfl <;> exact ⟨⟨by decide, by decide, by decide, by decide⟩, by decide⟩
theorem PtOk.wf {p : R} (h : PtOk p) : Wf 3 p := by
 rcases h with rfl | rfl | rfl <;> exact ⟨by decide, by decide, by decide, by decide⟩
theorem over_pos {r q : R} (hr : 0 < r.2) (hq : 0 < q.2) (h1 : 0 < r.1) (h2 : 0 < q.1) : 0 < (overR r q).1 := by
 have e : overR r q = mkR (r.1 * q.2) (r.2 * q.1) := by
  unfold overR
  exact mkS_pos (Int.mul_pos hr h2)
 rw [e]
 exact mkR_pos (Int.mul_pos h1 hq) (Int.mul_pos hr h2)
theorem times_pos {r q : R} (hr : 0 < r.2) (hq : 0 < q.2) (h1 : 0 < r.1) (h2 : 0 < q.1) : 0 < (timesR r q).1 := mkR_pos (Int.mul_pos h1 h2) (Int.mul_pos hr hq)
theorem pwB_scaled {rows : List (R × R)} {ss : List R} {p most last : R} (h : RowsS rows) (hl : Bq D0 NR last) (pl : 0 < last.1) (hp : PtOk p) (hm : SpdOk most) (pm : 0 < most.1) (hs : ∀ s ∈ ss, SpdOk s) :
  Wf 411 (timesR p (overR most last)) /\ 0 < (timesR p (overR most last)).1 /\ PwB (.tab (scR (timesR p (overR most last)) rows)) ss := by
 have l0 : last.1 ≠ 0 := by omega
 have wo := over_wf hm.wf (wfS hl) l0
 have wb := (times_wf hp.wf wo).mono (show 3 + (310 + 98) ≤ 411 by decide)
 have pb := times_pos hp.bq.1.pos wo.pos hp.bq.2 (over_pos hm.bq.pos hl.pos pm pl)
 have bm := hp.bq.1.times hm.bq
 have pp := times_pos hp.bq.1.pos hm.bq.pos hp.bq.2 pm
 refine ⟨wb, pb, ?_⟩
 have mb : (timesR p most).1.natAbs ≤ 2 * NS * (10 * D1) := Nat.le_trans bm.le (Nat.mul_le_mul_left _ (bm.bot (by decide)))
 have mp : 0 < (timesR p most).1.natAbs := by omega
 have d0 : 0 < D0 * (D1 * (D0 * (timesR p most).1.natAbs)) := Nat.mul_pos (by decide) (Nat.mul_pos (by decide) (Nat.mul_pos (by decide) mp))
 have dle : D0 * (D1 * (D0 * (timesR p most).1.natAbs)) ≤ D0 * (D1 * (D0 * (2 * NS * (10 * D1)))) := Nat.mul_le_mul_left _ (Nat.mul_le_mul_left _ (Nat.mul_le_mul_left _ mb))
 refine ⟨_, NA, 1300, d0, Nat.lt_of_le_of_lt dle (by decide), Nat.lt_of_le_of_lt (Nat.mul_le_mul_left _ dle) (by decide), Nat.le_refl _, fun s ms hb => ?_⟩
 have os := hs s ms
 exact pow_scaled h wb pb os hl bm pp (over_by os.bq.red hl.red hp.bq.1.red hm.bq.red pl hp.bq.2 pm) hb
theorem SpsV.deep {K : PySem.W.Frag} {H : Hp} {v : V} {ss : List R} (h : SpsV K H v ss) : Deep K H v (.tuple (ss.map dR)) := by
 obtain ⟨p, xs, rfl, hp, al⟩ := h
 exact .tup hp (al.deep fun _ _ z => z.deep)
theorem eqvT_nil (rs : List R) : PyData.eqv (.tuple (rs.map dR)) (.tuple []) = rs.isEmpty := by cases rs <;> rfl
theorem depT_all (rs : List R) : PyData.depthAll (rs.map dR) ≤ 1 := by
 induction rs with
 | nil => exact Nat.zero_le _
 | cons r t ih =>
  show max (dR r).depth (PyData.depthAll (t.map dR)) ≤ 1
  exact Nat.max_le.mpr ⟨by show max 0 (max 0 0) + 1 ≤ 1; decide, ih⟩
theorem depT (rs : List R) : (PyData.tuple (rs.map dR)).depth ≤ 32 := by
 have := depT_all rs
 show PyData.depthAll (rs.map dR) + 1 ≤ 32
 omega
theorem layT (rs : List R) : (PyData.tuple (rs.map dR)).canLay0 = true := layL rs
theorem nought_of {s : R} (h : SpdOk s) (c : lessR (0, 1) s = false) : s = (0, 1) := by
 rw [less_not] at c
 have z : s.1 * 1 ≤ 0 * s.2 := c
 have nn := h.nn
 have e : s.1 = 0 := by omega
 have cop := h.bq.cop
 have pos := h.bq.pos
 rw [e] at cop
 have : s.2.natAbs = 1 := by simpa [Int.gcd] using cop
 exact Prod.ext e (by omega)
theorem spd_zero : SpdOk (0, 1) := ⟨bq_zero, Int.le_refl _⟩
theorem RlS.g {rl : Rl} (h : RlS rl) : RlG rl := by
 cases rl with
 | pow k => exact h
 | tab rows => exact RowsOk.g (show RowsS rows from h).ok
def sp_law_scaled (K : PySem.W.Frag) : Sp := fun vs H Q _ => ∃ (v w u : V) (rl : Rl) (ss : List R) (pt : R), vs = [v, w, u] /\ RlV K H v rl /\ RlS rl /\ SpsV K H w ss /\ ss.length ≤ 24 /\ (∀ s ∈ ss, SpdOk s) /\ RV K H u pt /\ PtOk pt /\ ∀ (v' : V) (rl' : Rl) (H' : Hp), Same H H' -> RlV K H' v' rl' -> RlG rl' -> PwB rl' ss -> Q v' H'
theorem less_pos {m s : R} (hm : SpdOk m) (hs : SpdOk s) (c : lessR m s = true) : 0 < s.1 := by
 rw [less_iff] at c
 have h1 := Int.mul_nonneg hm.nn (Int.le_of_lt hs.bq.pos)
 rcases Int.lt_or_le 0 s.1 with z | z
 ·exact z
 ·have := Int.mul_nonneg (show 0 ≤ -s.1 by omega) (Int.le_of_lt hm.bq.pos)
  rw [Int.neg_mul] at this
  omega
def sp_law_plan (K : PySem.W.Frag) : Sp := fun vs H Q _ => ∃ (t s : Addr) (v : V) (ws : List Wk), vs = [.ref t, v] /\ Tape H t s /\ WksV K H v ws /\ ws.length ≤ 12 /\ (∀ w ∈ ws, WkB w) /\ ∀ (v' : V) (pl : List (List Pc)) (H' : Hp), Step t H H' -> Tape H' t s -> PlnV K H' v' pl -> PlnOk pl -> Q v' H'
structure Grd (K : PySem.W.Frag) (H : Hp) (D : Addr) (rows : List Addr) (pl : List (List Pc)) : Prop where
 top : H D = some (.lst (rows.map V.ref))
 len : rows.length = 24
 pln : pl.length = 24
 nd : rows.Nodup
 nD : D ∉ rows
 row : ∀ (i : Nat) (r : Addr) (c : List Pc), rows[i]? = some r -> pl[i]? = some c -> ∃ xs, H r = some (.lst xs) /\ Als (PcV K H) xs c
theorem Grd.step {K : PySem.W.Frag} {H H' : Hp} {D t : Addr} {rows : List Addr} {pl : List (List Pc)} (g : Grd K H D rows pl) (nt : D ≠ t) (nr : t ∉ rows) (s : Step t H H') : Grd K H' D rows pl := by
 refine ⟨s.keep _ _ nt g.top, g.len, g.pln, g.nd, g.nD, fun i r c hr hc => ?_⟩
 obtain ⟨xs, hx, al⟩ := g.row i r c hr hc
 exact ⟨xs, s.keep _ _ (fun z => nr (z ▸ List.mem_of_getElem? hr)) hx, al.mono fun _ _ z => z.mono (Tst.step s)⟩
theorem Grd.same {K : PySem.W.Frag} {H H' : Hp} {D : Addr} {rows : List Addr} {pl : List (List Pc)} (g : Grd K H D rows pl) (s : Same H H') : Grd K H' D rows pl := by
 refine ⟨s _ _ g.top, g.len, g.pln, g.nd, g.nD, fun i r c hr hc => ?_⟩
 obtain ⟨xs, hx, al⟩ := g.row i r c hr hc
 exact ⟨xs, s _ _ hx, al.mono fun _ _ z => z.mono (Tst.same s)⟩
theorem als_ins {α : Type} {P : V -> α -> Prop} {xs : List V} {cs : List α} {y : V} {c : α} (h : Als P xs cs) (k : P y c) : ∀ j : Nat, Als P (xs.take j ++ y :: xs.drop j) (cs.take j ++ c :: cs.drop j) := by
 induction h with
 | nil => intro j; simp; exact .cons k .nil
 | cons p q ih =>
  intro j
  cases j with
  | zero => exact .cons k (.cons p q)
  | succ j => exact .cons p (ih j)
theorem Grd.ins {K : PySem.W.Frag} {H : Hp} {D : Addr} {rows : List Addr} {pl : List (List Pc)} (g : Grd K H D rows pl) {i : Nat} {r : Addr} {c : List Pc} {xs : List V} {y : V} {pc : Pc} {j : Nat} (hr : rows[i]? = some r) (hc : pl[i]? = some c) (hx : H r = some (.lst xs)) (al : Als (PcV K H) xs c) (hy : PcV K H y pc) :
  Grd K (upd H r (.lst (xs.take j ++ y :: xs.drop j))) D rows (pl.set i (c.take j ++ pc :: c.drop j)) := by
 have tu : Tst K H (upd H r (.lst (xs.take j ++ y :: xs.drop j))) := Tst.up hx _
 have mr := List.mem_of_getElem? hr
 have nDr : D ≠ r := fun z => g.nD (by rw [z]; exact mr)
 refine ⟨by rw [upd_ne nDr]; exact g.top, g.len, by rw [List.length_set]; exact g.pln, g.nd, g.nD, fun i' r' c' hr' hc' => ?_⟩
 have il := (List.getElem?_eq_some_iff.mp hc).1
 by_cases e : i' = i
 ·subst e
  rw [hr] at hr'
  cases hr'
  rw [List.getElem?_set_self il] at hc'
  cases hc'
  exact ⟨_, upd_same, (als_ins al hy j).mono fun _ _ z => z.mono tu⟩
 ·rw [List.getElem?_set_ne (Ne.symm e)] at hc'
  obtain ⟨ys, hys, aly⟩ := g.row i' r' c' hr' hc'
  have ne : r' ≠ r := fun z => by
   obtain ⟨h1, e1⟩ := List.getElem?_eq_some_iff.mp hr
   obtain ⟨h2, e2⟩ := List.getElem?_eq_some_iff.mp hr'
   exact e ((List.getElem_inj (h₀ := h2) (h₁ := h1) g.nd).mp (by rw [e1, e2, z]))
  exact ⟨ys, by rw [upd_ne ne]; exact hys, aly.mono fun _ _ z => z.mono tu⟩
theorem Grd.at {K : PySem.W.Frag} {H : Hp} {D : Addr} {rows : List Addr} {pl : List (List Pc)} (g : Grd K H D rows pl) {r : Addr} (m : r ∈ rows) : ∃ xs c, H r = some (.lst xs) /\ Als (PcV K H) xs c := by
 obtain ⟨i, hi⟩ := List.getElem?_of_mem m
 have il := (List.getElem?_eq_some_iff.mp hi).1
 have hc : pl[i]? = some (pl[i]'(by rw [g.pln, ← g.len]; exact il)) := List.getElem?_eq_getElem _
 obtain ⟨xs, h, al⟩ := g.row i r _ hi hc
 exact ⟨xs, _, h, al⟩
theorem sum_le : ∀ {ns : List Int}, (∀ z ∈ ns, 1 ≤ z /\ z ≤ 6) -> 0 ≤ ns.sum /\ ns.sum ≤ 6 * ns.length
 | [], _ => ⟨Int.le_refl _, Int.le_refl _⟩
 | n :: t, h => by
  have ih := sum_le fun z hz => h z (List.mem_cons_of_mem _ hz)
  have := h n List.mem_cons_self
  rw [List.sum_cons, List.length_cons]
  omega
theorem sum_ge : ∀ {ns : List Int}, (∀ z ∈ ns, 1 ≤ z /\ z ≤ 6) -> ∀ {a : Int}, a ∈ ns -> a ≤ ns.sum
 | [], _, _, m => by cases m
 | n :: t, h, a, m => by
  have h' : ∀ z ∈ t, 1 ≤ z /\ z ≤ 6 := fun z hz => h z (List.mem_cons_of_mem _ hz)
  have ih := sum_le h'
  have := h n List.mem_cons_self
  rw [List.sum_cons]
  rcases List.mem_cons.mp m with e | e
  ·rw [e]; omega
  ·have := sum_ge h' e; omega
theorem sum_bd {ns : List Int} (h : ∀ z ∈ ns, 1 ≤ z /\ z ≤ 6) (hl : ns.length ≤ 24) {a : Int} (m : a ∈ ns) : a ≤ ns.sum /\ ns.sum ≤ 144 := ⟨sum_ge h m, by have := (sum_le h).2; omega⟩
theorem rise_not {sp : List Nat} (h : sp.Pairwise (· < ·)) {j u : Nat} (hu : sp[j]? = some u) : u ∉ sp.take j := fun m => by
 obtain ⟨n, hn⟩ := List.getElem?_of_mem m
 have nl := (List.getElem?_eq_some_iff.mp hn).1
 rw [List.length_take] at nl
 have nj : n < j := by omega
 rw [List.getElem?_take_of_lt nj] at hn
 obtain ⟨h1, e1⟩ := List.getElem?_eq_some_iff.mp hn
 obtain ⟨h2, e2⟩ := List.getElem?_eq_some_iff.mp hu
 have := List.pairwise_iff_getElem.mp h n j h1 h2 nj
 rw [e1, e2] at this
 exact Nat.lt_irrefl _ this
theorem share_bq {S a : Int} (h1 : 1 ≤ a) (h2 : a ≤ S) (h3 : S ≤ 144) : Bq L144 1 (mkS a S) /\ 0 < (mkS a S).1 := by
 have sp : 0 < S := by omega
 rw [mkS_pos sp]
 refine ⟨bq_mk sp ?_ (by omega), mkR_pos (by omega) sp⟩
 have z : ∀ k : Fin 145, 0 < k.val -> ((k.val : Nat) : Int) ∣ (L144 : Int) := by decide
 have := z ⟨S.toNat, by omega⟩ (show 0 < S.toNat by omega)
 rw [show (((⟨S.toNat, by omega⟩ : Fin 145).val : Nat) : Int) = S by show ((S.toNat : Nat) : Int) = S; omega] at this
 exact this
def natS (sp : List Nat) : List V := sp.map fun n => V.int (n : Nat)
def natQ (sp : List Nat) : List PyData := sp.map fun n => PyData.int (n : Nat)
theorem deep_natS {K : PySem.W.Frag} {H : Hp} : ∀ sp : List Nat, DeepAll K H (natS sp) (natQ sp)
 | [] => .nil
 | n :: t => .cons (.int _) (deep_natS t)
theorem lay_natQ : ∀ sp : List Nat, PyData.canLayAll0 (natQ sp) = true
 | [] => rfl
 | n :: t => by
  show (PyData.canLay0 (.int (n : Nat)) && PyData.canLayAll0 (natQ t)) = true
  rw [lay_natQ t]; rfl
theorem dep_natQ : ∀ sp : List Nat, PyData.depthAll (natQ sp) ≤ 0
 | [] => Nat.le_refl _
 | n :: t => by
  show max 0 (PyData.depthAll (natQ t)) ≤ 0
  have := dep_natQ t
  omega
theorem eqv_natQ (sp : List Nat) : PyData.eqv (.list (natQ sp)) (.list []) = sp.isEmpty := by cases sp <;> rfl
theorem call_tuple_ofK {X : Cx} {K : PySem.W.Frag} (hK : X.K = K) : CallR X (.type "tuple") (fun xs H Q => ∃ p ys, xs = [.ref p] /\ ((SqL K H p ys /\ ∀ l, H l = none -> Q (.ref l) (upd H l (.tup ys))) ∨ (SqT K H p ys /\ Q (.ref p) H))) := by subst hK; exact call_tuple_of
theorem sumR_nn {rs : List R} (h : ∀ r ∈ rs, 0 ≤ r.1 /\ 0 < r.2) : 0 ≤ (sumR rs).1 /\ 0 < (sumR rs).2 := by
 have go : ∀ (l : List R) (z : R), (∀ r ∈ l, 0 ≤ r.1 /\ 0 < r.2) -> 0 ≤ z.1 /\ 0 < z.2 -> 0 ≤ (l.foldl plusR z).1 /\ 0 < (l.foldl plusR z).2 := by
  intro l
  induction l with
  | nil => intro z _ hz; exact hz
  | cons r t ih =>
   intro z hl hz
   have hr := hl r List.mem_cons_self
   have pos := Int.mul_pos hz.2 hr.2
   exact ih (plusR z r) (fun q hq => hl q (List.mem_cons_of_mem _ hq)) ⟨mkR_nn (Int.add_nonneg (Int.mul_nonneg hz.1 (Int.le_of_lt hr.2)) (Int.mul_nonneg hr.1 (Int.le_of_lt hz.2))), (mkR_red pos).pos⟩
 exact go rs (0, 1) h ⟨Int.le_refl _, by decide⟩
theorem spd_ok {t : List Pc} (h : TuOk t) : SpdOk (spdR t) := by
 have hb : ∀ r ∈ t.map (fun c => c.2), Bq D1 N0 r := fun r hr => by
  obtain ⟨c, hc, rfl⟩ := List.mem_map.mp hr
  exact (h.bq c hc).1
 refine ⟨(sumR_bq (by decide) hb).mono ⟨1, by decide⟩ ?_, (sumR_nn fun r hr => ?_).1⟩
 ·rw [List.length_map]
  exact Nat.le_trans (Nat.mul_le_mul_left _ h.len) (by decide)
 ·obtain ⟨c, hc, rfl⟩ := List.mem_map.mp hr
  exact ⟨(h.bq c hc).2, (h.bq c hc).1.pos⟩
theorem sps_shows {ss : List R} (h : ∀ s ∈ ss, SpdOk s) (hl : ss.length ≤ 64) : Shows (.tuple (ss.map dR)) :=
 small_tup (fun d hd => by
  obtain ⟨s, hs, rfl⟩ := List.mem_map.mp hd
  exact small_dR (h s hs).wf (by decide)) (by rw [List.length_map]; exact hl)
def dOq : Option R -> PyData
 | none => .none
 | some r => dR r
theorem OptV.deep' {K : PySem.W.Frag} {H : Hp} {v : V} {o : Option R} (h : OptV K H v o) : Deep K H v (dOq o) := by
 cases o with
 | none => cases (show v = .non from h); exact .non
 | some r => exact RV.deep h
open Classical in
theorem dueA_shows {rl : Rl} {ss : List R} (hs : ∀ s ∈ ss, SpdOk s) (hl : ss.length ≤ 24) (pw : PwB rl ss) : Shows (dueA rl ss) := by
 by_cases all : ∀ s ∈ ss, Below rl s
 ·rw [dueA_none all]
  obtain ⟨D, N, n, d0, d1, d2, d3, db⟩ := pw
  refine dR_shows (sum_wfB (D := D) (N := N) (n := n) (fun r hr => ?_) d0 d1 d2 (by rw [List.length_map]; omega)) (by omega)
  obtain ⟨s, ms, rfl⟩ := List.mem_map.mp hr
  exact db s ms (all s ms)
 ·unfold dueA
  cases e : ss.find? (fun s => decide (¬ Below rl s)) with
  | none =>
   exfalso
   refine all fun s ms => ?_
   have := List.find?_eq_none.mp e s ms
   simpa using this
  | some s =>
   have ms := List.mem_of_find?_eq_some e
   refine small_tup (ds := [.str "none", dR s]) (fun d hd => ?_) (by show 2 ≤ 64; decide)
   rcases List.mem_cons.mp hd with e | hd
   ·rw [e]; exact ⟨rfl, rfl, by decide +kernel, by decide +kernel⟩
   ·rw [List.mem_singleton.mp hd]
    exact small_dR (hs s ms).wf (by decide)
theorem lays_op (os : List (Option R)) : Lays (os.map dOq) := fun e he => by
 obtain ⟨o, _, rfl⟩ := List.mem_map.mp he
 cases o with
 | none => exact ⟨rfl, Nat.zero_le _⟩
 | some r => exact ⟨dR_lay r, dR_depth r⟩
theorem eqv_op (o : Option R) : PyData.eqv (dOq o) .none = o.isNone := by cases o <;> rfl
theorem any_noq {os : List (Option R)} : ((os.map dOq).any fun e => PyData.eqv e .none) = os.any (·.isNone) := by
 rw [List.any_map]
 congr 1
 funext o
 exact eqv_op o
theorem als_pow {K : PySem.W.Frag} {H : Hp} {rl : Rl} {qs : List V} {ss : List R} (all : ∀ s ∈ ss, Below rl s) (h : Als (fun v o => OptV K H v o) qs (ss.map fun s => dueM rl s)) : Als (RV K H) qs (ss.map (powM rl)) := by
 have e : (ss.map fun s => dueM rl s) = (ss.map (powM rl)).map some := by
  rw [List.map_map]
  exact List.map_congr_left fun s hs => dueM_yes (all s hs)
 rw [e] at h
 generalize ss.map (powM rl) = zs at h
 clear e all
 induction zs generalizing qs with
 | nil => cases h; exact .nil
 | cons z t ih => cases h with | cons p q => exact .cons p (ih q)
theorem sc_Q27 : FnScope ["thing"] ["thing"] (defScope s_Q27) := scA
theorem sc_Q0 : FnScope ["one", "other", "high", "low", "rest"] ["one", "other"] (defScope s_Q0) := scA
theorem sc_Q30 : FnScope ["top", "bottom", "shared"] ["top", "bottom"] (defScope s_Q30) := scA
theorem sc_Q34 : FnScope ["one", "other", "shared", "top", "rest"] ["one", "other"] (defScope s_Q34) := scA
theorem sc_Q31 : FnScope ["one", "other"] ["one", "other"] (defScope s_Q31) := scA
theorem sc_Q32 : FnScope ["one", "other", "left", "right"] ["one", "other"] (defScope s_Q32) := scA
theorem sc_Q35 : FnScope ["one", "other"] ["one", "other"] (defScope s_Q35) := scA
theorem sc_Q28 : FnScope ["one", "power", "top", "bottom", "step"] ["one", "power"] (defScope s_Q28) := scA
theorem sc_Q23 : FnScope ["one", "other"] ["one", "other"] (defScope s_Q23) := scA
theorem sc_Q33 : FnScope ["some", "tops", "one", "so_far", "bottom", "top"] ["some"] (defScope s_Q33) := scA
theorem sc_Q1 : FnScope ["low", "high"] ["low", "high"] (defScope s_Q1) := scA
theorem sc_Q29 : FnScope ["rule"] ["rule"] (defScope s_Q29) := scA
theorem sc_Q3 : FnScope ["rule", "speed", "top"] ["rule", "speed"] (defScope s_Q3) := scA
theorem sc_Q11 : FnScope ["rows", "speed", "place"] ["rows", "speed"] (defScope s_Q11) := scA
theorem sc_Q12 : FnScope ["rule", "speed", "rows", "place", "high", "low"] ["rule", "speed"] (defScope s_Q12) := scA
theorem sc_Q4 : FnScope ["plan"] ["plan"] (defScope s_Q4) := scA
theorem sc_Q13 : FnScope ["rule", "speeds"] ["rule", "speeds"] (defScope s_Q13) := scA
theorem sc_Q14 : FnScope ["_law_script"] ["_law_script"] (defScope s_Q14) := scA
theorem sc_Q15 : FnScope ["_law_tape_here", "_law_many", "_law_script", "_law_spot", "_law_left", "_law_cell", "_law_mixed"] ["_law_tape_here", "_law_many"] (defScope s_Q15) := scA
theorem sc_Q24 : FnScope ["_law_one", "_law_other"] ["_law_one", "_law_other"] (defScope s_Q24) := scA
theorem sc_Q5 : FnScope ["_law_top", "_law_bottom", "_law_by"] ["_law_top", "_law_bottom"] (defScope s_Q5) := scA
theorem sc_Q16 : FnScope ["_law_one", "_law_other"] ["_law_one", "_law_other"] (defScope s_Q16) := scA
theorem sc_Q6 : FnScope ["_law_one", "_law_other"] ["_law_one", "_law_other"] (defScope s_Q6) := scA
theorem sc_Q7 : FnScope ["_law_one", "_law_other"] ["_law_one", "_law_other"] (defScope s_Q7) := scA
theorem sc_Q17 : FnScope ["_law_one", "_law_other"] ["_law_one", "_law_other"] (defScope s_Q17) := scA
theorem sc_Q18 : FnScope ["_law_one", "_law_other"] ["_law_one", "_law_other"] (defScope s_Q18) := scA
theorem sc_Q25 : FnScope ["_law_some", "_law_found", "_law_one"] ["_law_some"] (defScope s_Q25) := scA
theorem sc_Q19 : FnScope ["_law_tape_here", "_law_tops", "_law_bottoms"] ["_law_tape_here"] (defScope s_Q19) := scA
theorem sc_Q8 : FnScope ["_law_tape_here", "_law_most", "_law_end", "_law_found", "_law_k", "_law_first", "_law_last"] ["_law_tape_here", "_law_most", "_law_end"] (defScope s_Q8) := scA
theorem sc_Q9 : FnScope ["_law_tape_here", "_law_rows", "_law_slope", "_law_k", "_law_step", "_law_speed_here", "_law_power_here"] ["_law_tape_here"] (defScope s_Q9) := scA
theorem sc_Q20 : FnScope ["_law_tape_here"] ["_law_tape_here"] (defScope s_Q20) := scA
theorem sc_Q10 : FnScope ["_law_rule_here", "_law_speed_here", "_law_found", "_law_k", "_law_low", "_law_high", "_law_slope"] ["_law_rule_here", "_law_speed_here"] (defScope s_Q10) := scA
theorem sc_Q21 : FnScope ["_law_tape_here", "_law_works_here", "_law_turns", "_law_number", "_law_work", "_law_spots", "_law_shares", "_law_t", "_law_share", "_law_piece"] ["_law_tape_here", "_law_works_here"] (defScope s_Q21) := scA
theorem sc_Q2 : FnScope ["_law_rule_here", "_law_speeds", "_law_part_here", "_law_most", "_law_speed_here", "_law_by"] ["_law_rule_here", "_law_speeds", "_law_part_here"] (defScope s_Q2) := scA
theorem sc_Q22 : FnScope ["_law_rule_here", "_law_speeds", "_law_found", "e"] ["_law_rule_here", "_law_speeds"] (defScope s_Q22) := scA
theorem sc_Q36 : FnScope ["_law_script", "_law_tape_here", "_law_k", "_law_works_here", "_law_plan_here", "_law_speeds", "_law_j", "_law_some", "_law_rule_here", "_law_powers", "_law_due"] ["_law_script"] (defScope s_Q36) := scA
theorem sc_Q26 : FnScope ["self", "speed"] ["self", "speed"] (defScope s_Q26) := scA
end My
namespace My
open PySem L2 B PyProof.Rows
section
variable {P : Program} {w : World} {K : PySem.W.Frag} {mg : Str -> Option Value} {base : Heap} {t : Ad}
theorem ok_copied0 (T : Txt K mg t) : FnOk P w K mg base CX0 1 t.a_Q27 t.d_Q27 ["thing"] (sp_copied0 K) := by
 refine T.F_Q27.ok sc_Q27 (fun vs H Q E h => ?_) (fun cdv A outer s H vs Q E hr h => ?_)
 ·obtain ⟨_, rfl, _⟩ := h; rfl
 obtain ⟨i, rfl, k⟩ := h
 refine QSs.ok (qss_consL (qs_if (qt_val (qe_callB call_isi (by rfl) T.z_isinstance boot_isinstance (qa_cons (qv 0) (qa_cons (qe_bltn (v := V.ty "list") rfl T.z_list boot_list rfl) qa_nil star_name) star_name))) (qss_one qs_never) qss_nil)
   (qss_consL (qs_if (qt_val (qe_callB call_isi (by rfl) T.z_isinstance boot_isinstance (qa_cons (qv 0) (qa_cons (qe_bltn (v := V.ty "tuple") rfl T.z_tuple boot_tuple rfl) qa_nil star_name) star_name))) (qss_one qs_never) qss_nil)
   (qss_one (qs_ret (qv 0))))) ?_
 extract_lets +lift
 try dsimp -zeta -zetaDelta only [Cx.nox, Cx.wish, cxOf]
 refine ⟨_, rfl, _, _, "int", false, rfl, .int i, by decide +kernel, false, rfl, iteF ?_⟩
 refine ⟨_, rfl, _, _, "int", false, rfl, .int i, by decide +kernel, false, rfl, iteF ?_⟩
 exact ⟨_, rfl, k⟩
theorem ok_Q27 (T : Txt K mg t) : FnOk P w K mg base CX0 2 t.a_Q27 t.d_Q27 ["thing"] (sp_copied K) := by
 refine T.F_Q27.ok sc_Q27 (fun vs H Q E h => ?_) (fun cdv A outer s H vs Q E hr h => ?_)
 ·obtain ⟨_, _, rfl, _⟩ := h; rfl
 obtain ⟨v, r, rfl, ⟨p, rfl, hp⟩, k⟩ := h
 refine QSs.ok (qss_consL (qs_if (qt_val (qe_callB call_isiT (by rfl) T.z_isinstance boot_isinstance (qa_cons (qv 0) (qa_cons (qe_bltn (v := V.ty "list") rfl T.z_list boot_list rfl) qa_nil star_name) star_name))) (qss_one qs_never) qss_nil)
   (qss_consL (qs_if (qt_val (qe_callB call_isiT (by rfl) T.z_isinstance boot_isinstance (qa_cons (qv 0) (qa_cons (qe_bltn (v := V.ty "tuple") rfl T.z_tuple boot_tuple rfl) qa_nil star_name) star_name))) (qss_one (qs_ret (qe_callTy call_tuple_of (by rfl) T.z_tuple boot_tuple (qa_cons (qe_lcomp (N' := ["part"]) (src := [none]) rfl (by exact (qi_tup (qv 0))) (fun _ _ _ _ _ => (by exact (by exact qg_name (i := 0) (by show List.Nodup (["part"] : List Str); decide +kernel) (by exact rfl) (by first | exact Or.inl rfl | exact Or.inr rfl)))) (fun _ _ _ _ _ => qts_nil) (fun _ _ _ _ _ => (by exact (by exact (qe_call (ok_copied0 T) (by exact hr.mono (by decide)) (by exact rfl) T.m_Q27 T.F_Q27.kp T.b_Q27 (by exact .nil) (by exact pass0) (qa_cons (by exact (qv 0)) qa_nil star_name))))) (by exact trivial) rfl (by decide +kernel) rfl (by decide +kernel) (by exact cells_of rfl trivial)) qa_nil star_lc)))) qss_nil)
   (qss_one (qs_ret (qv 0))))) ?_
 extract_lets +lift
 try dsimp -zeta -zetaDelta only [Cx.nox, Cx.wish, cxOf]
 refine ⟨_, rfl, p, _, _, false, rfl, hp, by decide +kernel, false, rfl, iteF ?_⟩
 refine ⟨_, rfl, p, _, _, true, rfl, hp, by decide +kernel, true, rfl, iteT ?_⟩
 refine ⟨_, rfl, p, rfl, ⟨_, hp⟩, fun D hD => ⟨fun i m ys H' => i ≤ 2 /\ m = 2 - i /\ ys = [V.int r.1, .int r.2].take i /\ H' = upd H D (.lst ys), ⟨_, Nat.zero_le _, rfl, rfl, rfl⟩, ?_⟩⟩
 rintro i m ys H' ⟨hi, rfl, rfl, rfl⟩
 have sD := same_new hD (.lst ([V.int r.1, .int r.2].take i))
 have hpD : SqT K _ p [.int r.1, .int r.2] := Tst.same sD _ _ hp
 by_cases hix : i < 2
 ·refine .inr ⟨⟨[.int r.1, .int r.2], [V.int r.1, .int r.2][i], hpD, List.getElem?_eq_getElem hix⟩, ?_⟩
  rintro x H' ⟨rfl, hy⟩
  have hx := hy _ hpD
  obtain ⟨z, rfl⟩ : ∃ z, x = V.int z := by
   have mx := List.mem_of_getElem? hx
   simp only [List.mem_cons, List.not_mem_nil, or_false] at mx
   rcases mx with e | e
   ·exact ⟨_, e⟩
   ·exact ⟨_, e⟩
  refine ⟨Ext.set rfl, ?_⟩
  refine ⟨_, rfl, _, rfl, ?_⟩
  refine ⟨upd_same, small1000 (by rw [List.length_take]; omega), 2 - (i + 1), by omega, hix, rfl, by rw [List.take_add_one, hx]; rfl, ?_⟩
  rw [upd_upd]
 ·have e2 : i = 2 := by omega
  subst e2
  refine .inl ⟨⟨_, hpD, Nat.le_refl 2⟩, ?_⟩
  refine ⟨D, _, rfl, .inl ⟨SqL.of upd_same, fun l hl => ?_⟩⟩
  exact k _ _ (sD.trans (same_new hl _)) ⟨l, rfl, SqT.of upd_same⟩
theorem ok_Q0 (T : Txt K mg t) : FnOk P w K mg base CX0 1 t.a_Q0 t.d_Q0 ["one", "other"] (sp_greatest_divisor K) := by
 refine T.F_Q0.ok sc_Q0 (fun vs H Q E h => ?_) (fun cdv A outer s H vs Q E hr h => ?_)
 ·obtain ⟨_, _, rfl, _⟩ := h; rfl
 obtain ⟨a, b, rfl, k⟩ := h
 refine QSs.ok (qss_consL (qsA 2 sc_Q0.nd (qe_callB call_abs (by rfl) T.z_abs boot_abs (qa_cons (qv 0) qa_nil star_name)))
   (qss_consL (qsA 3 sc_Q0.nd (qe_callB call_abs (by rfl) T.z_abs boot_abs (qa_cons (qv 1) qa_nil star_name)))
   (qss_consL (qs_while PassesOwn.never (qt_cmpR op_ne (qv 3) qe_int (nomark _))
   (qss_consL (qsA 4 sc_Q0.nd (qe_op op_mod (qv 2) (qv 3)))
   (qss_consL (qsA 2 sc_Q0.nd (qv 3))
   (qss_one (qsA 3 sc_Q0.nd (qv 4))))))
   (qss_one (qs_ret (qv 2)))))) ?_
 extract_lets +lift
 try dsimp -zeta -zetaDelta only [Cx.nox, Cx.wish, cxOf]
 refine ⟨_, rfl, _, rfl, _, rfl, _, rfl, ?_⟩
 rw [abs_if, abs_if]
 refine ⟨fun m σ H' => ∃ (x y : Int) (v : Option V), σ = [some (.int a), some (.int b), some (.int x), some (.int y), v] /\ H' = H /\ 0 ≤ x /\ 0 ≤ y /\ Int.gcd x y = Int.gcd a b /\ m = y.toNat, ⟨_, _, _, _, rfl, rfl, by omega, by omega, (by simp [Int.gcd]), rfl⟩, ?_⟩
 rintro m σ H' ⟨x, y, v, rfl, rfl, hx, hy, hg, rfl⟩
 refine ⟨_, rfl, rfl, _, rfl, ?_⟩
 by_cases c : y = 0
 ·subst c
  refine iteNS rfl ?_
  rw [← hg] at k
  refine ⟨_, rfl, ?_⟩
  have e : (x : Int) = (Int.gcd x 0 : Nat) := by simp [Int.gcd]; omega
  rw [← e] at k
  exact k
 ·refine iteN1 (fun z => c (by injection z)) ?_
  refine ⟨_, fun _ _ z => z, ?_⟩
  refine ⟨_, rfl, _, rfl, _, _, rfl, rfl, (by omega), _, rfl, _, rfl, ?_⟩
  refine ⟨_, ?_, y, x % y, _, rfl, rfl, hy, Int.emod_nonneg _ c, ?_, rfl⟩
  ·have := Int.emod_lt_of_pos x (show 0 < y by omega)
   have := Int.emod_nonneg x c
   omega
  ·rw [gcd_turn hx (by omega), hg]
theorem ok_Q30 (T : Txt K mg t) : FnOk P w K mg base CX0 2 t.a_Q30 t.d_Q30 ["top", "bottom"] (sp_ratio K) := by
 refine T.F_Q30.ok sc_Q30 (fun vs H Q E h => ?_) (fun cdv A outer s H vs Q E hr h => ?_)
 ·obtain ⟨_, _, rfl, _⟩ := h; rfl
 obtain ⟨a, b, rfl, hb, hz, k⟩ := h
 refine QSs.ok (qss_consL (qs_if (qt_cmpR op_eq (qv 1) qe_int (nomark _)) (qss_one qs_never) qss_nil)
   (qss_consL (qsA 2 sc_Q30.nd (qcA (ok_Q0 T) hr T.m_Q0 T.F_Q0.kp T.b_Q0 (qa_cons (qv 0) (qa_cons (qv 1) qa_nil star_name) star_name)))
   (qss_consL (qs_if (qt_cmpR op_lt (qv 1) qe_int (nomark _)) (qss_one (qsA 2 sc_Q30.nd (qe_un un_neg (qv 2)))) qss_nil)
   (qss_one (qs_ret (qe_tup (qa_cons (qe_op op_quoN (qv 0) (qv 2)) (qa_cons (qe_op op_quoN (qv 1) (qv 2)) qa_nil star_bin) star_bin))))))) ?_
 extract_lets +lift
 try dsimp -zeta -zetaDelta only [Cx.nox, Cx.wish, cxOf]
 have gp := gcd_posN (a := a) hb
 have gb := gcd_big (a := a) hb hz
 refine ⟨_, rfl, rfl, _, rfl, ?_⟩
 refine iteD0 (fun z => by injection z with z; omega) ?_
 refine ⟨_, rfl, _, rfl, a, b, rfl, ?_⟩
 refine ⟨_, rfl, _, _, rfl, rfl, _, rfl, ?_⟩
 by_cases hn : b < 0
 ·refine iteD1 hn ?_
  rw [← mkS_neg1 hn] at k
  have gm : (-((Int.gcd a b : Nat) : Int)).natAbs < 2 ^ 4000 := by rw [Int.natAbs_neg]; exact gb
  refine ⟨_, rfl, _, rfl, ?_⟩
  refine ⟨_, rfl, _, rfl, _, _, rfl, rfl, ⟨by omega, gm⟩, _, rfl, _, rfl, _, _, rfl, rfl, ⟨by omega, gm⟩, zl2, fun p hp => ?_⟩
  exact k p hp
 ·refine iteD0 hn ?_
  rw [← mkS_pos1 (by omega : 0 < b)] at k
  refine ⟨_, rfl, _, rfl, _, _, rfl, rfl, ⟨by omega, gb⟩, _, rfl, _, rfl, _, _, rfl, rfl, ⟨by omega, gb⟩, zl2, fun p hp => ?_⟩
  exact k p hp
theorem ok_Q34 (T : Txt K mg t) : FnOk P w K mg base CX0 2 t.a_Q34 t.d_Q34 ["one", "other"] (sp_plus K) := by
 refine T.F_Q34.ok sc_Q34 (fun vs H Q E h => ?_) (fun cdv A outer s H vs Q E hr h => ?_)
 ·obtain ⟨_, _, _, _, _, _, rfl, _⟩ := h; rfl
 obtain ⟨v, w, r, q, n, m, rfl, hv, hw, wr, wq, hz, k⟩ := h
 refine QSs.ok (qss_consL (qsA 2 sc_Q34.nd (qcA (ok_Q0 T) hr T.m_Q0 T.F_Q0.kp T.b_Q0 (qa_cons (qxA ix_tup (qv 0) qe_int) (qa_cons (qxA ix_tup (qv 1) qe_int) qa_nil star_sub) star_sub)))
   (qss_consL (qsA 3 sc_Q34.nd (qe_op op_add (qe_op op_mulB (qxA ix_tup (qv 0) qe_int) (qe_op op_quo (qxA ix_tup (qv 1) qe_int) (qv 2))) (qe_op op_mulB (qxA ix_tup (qv 1) qe_int) (qe_op op_quo (qxA ix_tup (qv 0) qe_int) (qv 2)))))
   (qss_consL (qsA 4 sc_Q34.nd (qcA (ok_Q0 T) hr T.m_Q0 T.F_Q0.kp T.b_Q0 (qa_cons (qv 3) (qa_cons (qv 2) qa_nil star_name) star_name)))
   (qss_one (qs_ret (qe_tup (qa_cons (qe_op op_quo (qv 3) (qv 4)) (qa_cons (qe_op op_mulB (qe_op op_quo (qxA ix_tup (qv 0) qe_int) (qv 2)) (qe_op op_quo (qxA ix_tup (qv 1) qe_int) (qv 4))) qa_nil star_bin) star_bin))))))) ?_
 extract_lets +lift
 try dsimp -zeta -zetaDelta only [Cx.nox, Cx.wish, cxOf]
 obtain ⟨p, rfl, hv⟩ := hv
 obtain ⟨p', rfl, hw⟩ := hw
 have c1 := big_of wr.top (show n ≤ 4000 by omega)
 have c2 := big_of wr.bot (show n ≤ 4000 by omega)
 have c3 := big_of wq.top (show m ≤ 4000 by omega)
 have c4 := big_of wq.bot (show m ≤ 4000 by omega)
 have gp : (0 : Int) < (Int.gcd r.2 q.2 : Nat) := gcd_posR wq.pos
 have gb := gcd_lt (a := r.2) wq.pos c4
 refine ⟨_, rfl, p, _, _, _, rfl, rfl, hv, rfl, _, rfl, p', _, _, _, rfl, rfl, hw, rfl, r.2, q.2, rfl, ?_⟩
 have z := plusG_eq ⟨wr.pos, wr.cop⟩ ⟨wq.pos, wq.cop⟩
 have kk : newR H Q (plusG r q) := by rw [z]; exact k
 unfold plusG at kk
 simp only at kk
 generalize ((Int.gcd r.2 q.2 : Nat) : Int) = d at gp gb kk ⊢
 refine ⟨_, rfl, p, _, _, _, rfl, rfl, hv, rfl, _, rfl, p', _, _, _, rfl, rfl, hw, rfl, _, rfl, _, _, rfl, rfl, ⟨gp, gb⟩, _, _, rfl, rfl, ⟨c1, div_lt gp c4⟩, _, rfl, p', _, _, _, rfl, rfl, hw, rfl, _, rfl, p, _, _, _, rfl, rfl, hv, rfl, _, rfl, _, _, rfl, rfl, ⟨gp, gb⟩, _, _, rfl, rfl, ⟨c3, div_lt gp c2⟩, _, _, rfl, rfl, ?_⟩
 refine ⟨_, rfl, _, rfl, _, _, rfl, ?_⟩
 have ep : (0 : Int) < (Int.gcd (r.1 * (q.2 / d) + q.1 * (r.2 / d)) d : Nat) := gcd_posR gp
 have eb := gcd_lt (a := r.1 * (q.2 / d) + q.1 * (r.2 / d)) gp gb
 generalize ((Int.gcd (r.1 * (q.2 / d) + q.1 * (r.2 / d)) d : Nat) : Int) = e at ep eb kk ⊢
 refine ⟨_, rfl, _, rfl, _, _, rfl, rfl, ⟨ep, eb⟩, _, rfl, p, _, _, _, rfl, rfl, hv, rfl, _, rfl, _, _, rfl, rfl, ⟨gp, gb⟩, _, rfl, p', _, _, _, rfl, rfl, hw, rfl, _, rfl, _, _, rfl, rfl, ⟨ep, eb⟩, _, _, rfl, rfl, ⟨div_lt gp c2, div_lt ep c4⟩, zl2, kk⟩
theorem ok_Q31 (T : Txt K mg t) : FnOk P w K mg base CX0 3 t.a_Q31 t.d_Q31 ["one", "other"] (sp_minus K) := by
 refine T.F_Q31.ok sc_Q31 (fun vs H Q E h => ?_) (fun cdv A outer s H vs Q E hr h => ?_)
 ·obtain ⟨_, _, _, _, _, _, rfl, _⟩ := h; rfl
 obtain ⟨v, w, r, q, n, m, rfl, hv, hw, wr, wq, hz, k⟩ := h
 refine QSs.ok (qss_one (qs_ret (qcA (ok_Q34 T) hr T.m_Q34 T.F_Q34.kp T.b_Q34 (qa_cons (qv 0) (qa_cons (qe_tup (qa_cons (qe_un un_neg (qxA ix_tup (qv 1) qe_int)) (qa_cons (qxA ix_tup (qv 1) qe_int) qa_nil star_sub) star_un)) qa_nil star_tup) star_name)))) ?_
 extract_lets +lift
 try dsimp -zeta -zetaDelta only [Cx.nox, Cx.wish, cxOf]
 obtain ⟨p', rfl, hw⟩ := hw
 refine ⟨_, rfl, _, rfl, p', _, _, _, rfl, rfl, hw, rfl, _, rfl, _, rfl, p', _, _, _, rfl, rfl, hw, rfl, zl2, fun pt ht => ?_⟩
 have s1 := same_new ht (.tup [.int (-q.1), .int q.2])
 refine ⟨v, .ref pt, r, (-q.1, q.2), n, m, rfl, hv.mono (Tst.same s1), RV.of upd_same, wr, ⟨wq.pos, by show (-q.1).natAbs < _; rw [Int.natAbs_neg]; exact wq.top, wq.bot, cop_neg' wq.cop⟩, hz, fun p hp => ?_⟩
 refine k _ _ (s1.trans (same_new hp _)) ?_
 rw [← minus_eq]
 exact RV.of upd_same
theorem ok_Q32 (T : Txt K mg t) : FnOk P w K mg base CX0 2 t.a_Q32 t.d_Q32 ["one", "other"] (sp_times K) := by
 refine T.F_Q32.ok sc_Q32 (fun vs H Q E h => ?_) (fun cdv A outer s H vs Q E hr h => ?_)
 ·obtain ⟨_, _, _, _, _, _, rfl, _⟩ := h; rfl
 obtain ⟨v, w, r, q, n, m, rfl, hv, hw, wr, wq, hz, k⟩ := h
 refine QSs.ok (qss_consL (qsA 2 sc_Q32.nd (qcA (ok_Q0 T) hr T.m_Q0 T.F_Q0.kp T.b_Q0 (qa_cons (qxA ix_tup (qv 0) qe_int) (qa_cons (qxA ix_tup (qv 1) qe_int) qa_nil star_sub) star_sub)))
   (qss_consL (qsA 3 sc_Q32.nd (qcA (ok_Q0 T) hr T.m_Q0 T.F_Q0.kp T.b_Q0 (qa_cons (qxA ix_tup (qv 1) qe_int) (qa_cons (qxA ix_tup (qv 0) qe_int) qa_nil star_sub) star_sub)))
   (qss_one (qs_ret (qe_tup (qa_cons (qe_op op_mulB (qe_op op_quo (qxA ix_tup (qv 0) qe_int) (qv 2)) (qe_op op_quo (qxA ix_tup (qv 1) qe_int) (qv 3))) (qa_cons (qe_op op_mulB (qe_op op_quo (qxA ix_tup (qv 0) qe_int) (qv 3)) (qe_op op_quo (qxA ix_tup (qv 1) qe_int) (qv 2))) qa_nil star_bin) star_bin)))))) ?_
 extract_lets +lift
 try dsimp -zeta -zetaDelta only [Cx.nox, Cx.wish, cxOf]
 obtain ⟨p, rfl, hv⟩ := hv
 obtain ⟨p', rfl, hw⟩ := hw
 have c1 := big_of wr.top (show n ≤ 4000 by omega)
 have c2 := big_of wr.bot (show n ≤ 4000 by omega)
 have c3 := big_of wq.top (show m ≤ 4000 by omega)
 have c4 := big_of wq.bot (show m ≤ 4000 by omega)
 have lp : (0 : Int) < (Int.gcd r.1 q.2 : Nat) := gcd_posR wq.pos
 have lb := gcd_lt (a := r.1) wq.pos c4
 have mp : (0 : Int) < (Int.gcd q.1 r.2 : Nat) := gcd_posR wr.pos
 have mb := gcd_lt (a := q.1) wr.pos c2
 have z := timesG_eq ⟨wr.pos, wr.cop⟩ ⟨wq.pos, wq.cop⟩
 have kk : newR H Q (timesG r q) := by rw [z]; exact k
 unfold timesG at kk
 simp only at kk
 refine ⟨_, rfl, p, _, _, _, rfl, rfl, hv, rfl, _, rfl, p', _, _, _, rfl, rfl, hw, rfl, r.1, q.2, rfl, _, rfl, p', _, _, _, rfl, rfl, hw, rfl, _, rfl, p, _, _, _, rfl, rfl, hv, rfl, q.1, r.2, rfl, ?_⟩
 generalize ((Int.gcd r.1 q.2 : Nat) : Int) = l at lp lb kk ⊢
 generalize ((Int.gcd q.1 r.2 : Nat) : Int) = m' at mp mb kk ⊢
 refine ⟨_, rfl, p, _, _, _, rfl, rfl, hv, rfl, _, rfl, _, _, rfl, rfl, ⟨lp, lb⟩, _, rfl, p', _, _, _, rfl, rfl, hw, rfl, _, rfl, _, _, rfl, rfl, ⟨mp, mb⟩, _, _, rfl, rfl, ⟨div_lt lp c1, div_lt mp c3⟩, _, rfl, p, _, _, _, rfl, rfl, hv, rfl, _, rfl, _, _, rfl, rfl, ⟨mp, mb⟩, _, rfl, p', _, _, _, rfl, rfl, hw, rfl, _, rfl, _, _, rfl, rfl, ⟨lp, lb⟩, _, _, rfl, rfl, ⟨div_lt mp c2, div_lt lp c4⟩, zl2, kk⟩
theorem ok_Q35 (T : Txt K mg t) : FnOk P w K mg base CX0 3 t.a_Q35 t.d_Q35 ["one", "other"] (sp_over K) := by
 refine T.F_Q35.ok sc_Q35 (fun vs H Q E h => ?_) (fun cdv A outer s H vs Q E hr h => ?_)
 ·obtain ⟨_, _, _, _, _, _, rfl, _⟩ := h; rfl
 obtain ⟨v, w, r, q, n, m, rfl, hv, hw, wr, wq, hz, hq, k⟩ := h
 refine QSs.ok (qss_consL (qs_if (qt_cmpR op_eq (qxA ix_tup (qv 1) qe_int) qe_int (nomark _)) (qss_one qs_never) qss_nil)
   (qss_one (qs_ret (qcA (ok_Q32 T) hr T.m_Q32 T.F_Q32.kp T.b_Q32 (qa_cons (qv 0) (qa_cons (qcA (ok_Q30 T) hr T.m_Q30 T.F_Q30.kp T.b_Q30 (qa_cons (qxA ix_tup (qv 1) qe_int) (qa_cons (qxA ix_tup (qv 1) qe_int) qa_nil star_sub) star_sub)) qa_nil star_call) star_name))))) ?_
 extract_lets +lift
 try dsimp -zeta -zetaDelta only [Cx.nox, Cx.wish, cxOf]
 obtain ⟨p', rfl, hw⟩ := hw
 refine ⟨_, rfl, p', _, _, _, rfl, rfl, hw, rfl, rfl, _, rfl, ?_⟩
 refine iteD0 (fun z => by injection z with z; exact hq z) ?_
 refine ⟨_, rfl, _, rfl, p', _, _, _, rfl, rfl, hw, rfl, _, rfl, p', _, _, _, rfl, rfl, hw, rfl, q.2, q.1, rfl, hq, big_of wq.top (by omega), fun ps hps => ?_⟩
 have s1 := same_new hps (.tup [.int (mkS q.2 q.1).1, .int (mkS q.2 q.1).2])
 refine ⟨v, .ref ps, r, mkS q.2 q.1, n, m, rfl, hv.mono (Tst.same s1), RV.of upd_same, wr, mkS_wf hq wq.bot wq.top, hz, fun p hp => ?_⟩
 refine k _ _ (s1.trans (same_new hp _)) ?_
 rw [← over_eq ⟨wr.pos, wr.cop⟩ hq]
 exact RV.of upd_same
theorem ok_Q28 (T : Txt K mg t) : FnOk P w K mg base CX0 1 t.a_Q28 t.d_Q28 ["one", "power"] (sp_raised K) := by
 refine T.F_Q28.ok sc_Q28 (fun vs H Q E h => ?_) (fun cdv A outer s H vs Q E hr h => ?_)
 ·obtain ⟨_, _, _, rfl, _⟩ := h; rfl
 obtain ⟨v, r, k₁, rfl, hv, wr, h0, h6, k⟩ := h
 refine QSs.ok (qss_consL (qsA 2 sc_Q28.nd qe_int)
   (qss_consL (qsA 3 sc_Q28.nd qe_int)
   (qss_consL (qs_for PassesOwn.never rfl (qi_range1 rfl T.z_range (qa_cons (qv 1) qa_nil star_name)) (qg_name (i := 4) sc_Q28.nd rfl (by first | exact Or.inl rfl | exact Or.inr rfl))
   (qss_consL (qsA 2 sc_Q28.nd (qe_op op_mulB (qv 2) (qxA ix_tup (qv 0) qe_int)))
   (qss_one (qsA 3 sc_Q28.nd (qe_op op_mulB (qv 3) (qxA ix_tup (qv 0) qe_int))))))
   (qss_one (qs_ret (qe_tup (qa_cons (qv 2) (qa_cons (qv 3) qa_nil star_name) star_name))))))) ?_
 extract_lets +lift
 try dsimp -zeta -zetaDelta only [Cx.nox, Cx.wish, cxOf]
 have kb := two63 h0 (by omega : k₁ ≤ 100)
 obtain ⟨p, rfl, hv⟩ := hv
 refine ⟨_, rfl, k₁, rfl, kb.1, kb.2, for_range (lo := 0) (n := k₁.toNat) (fun i σ H' => ∃ (x : Option V), σ = [some (.ref p), some (.int k₁), some (.int (r.1 ^ i)), some (.int (r.2 ^ i)), x] /\ H' = H) ⟨none, by rw [Int.pow_zero, Int.pow_zero] <;> rfl, rfl⟩ ?_ ?_⟩
 ·rintro i σ H1 hi ⟨x, rfl, rfl⟩
  have b1 := pow_lt98 (i := i) wr.top (by omega)
  have b2 := pow_lt98 (i := i) wr.bot (by omega)
  refine ⟨_, rfl, _, rfl, p, _, _, _, rfl, rfl, hv, rfl, _, _, rfl, rfl, ⟨b1, big_of wr.top (by decide)⟩, ?_⟩
  refine ⟨_, rfl, _, rfl, p, _, _, _, rfl, rfl, hv, rfl, _, _, rfl, rfl, ⟨b2, big_of wr.bot (by decide)⟩, ?_⟩
  exact ⟨_, by rw [Int.pow_succ, Int.pow_succ] <;> rfl, rfl⟩
 ·rintro σ H1 ⟨x, rfl, rfl⟩
  refine ⟨_, rfl, _, rfl, zl2, fun q hq => ?_⟩
  have e := pow_eq_red ⟨wr.pos, wr.cop⟩ k₁.toNat
  refine k _ _ (same_new hq _) ?_
  rw [e]
  exact RV.of upd_same
theorem ok_Q23 (T : Txt K mg t) : FnOk P w K mg base CX0 1 t.a_Q23 t.d_Q23 ["one", "other"] (sp_is_less K) := by
 refine T.F_Q23.ok sc_Q23 (fun vs H Q E h => ?_) (fun cdv A outer s H vs Q E hr h => ?_)
 ·obtain ⟨_, _, _, _, _, _, rfl, _⟩ := h; rfl
 obtain ⟨v, w, r, q, n, m, rfl, hv, hw, wr, wq, hz, k⟩ := h
 refine QSs.ok (qss_one (qs_ret (qe_cmpR op_lt (qe_op op_mulB (qxA ix_tup (qv 0) qe_int) (qxA ix_tup (qv 1) qe_int)) (qe_op op_mulB (qxA ix_tup (qv 1) qe_int) (qxA ix_tup (qv 0) qe_int)) (nomark _)))) ?_
 extract_lets +lift
 try dsimp -zeta -zetaDelta only [Cx.nox, Cx.wish, cxOf]
 obtain ⟨p, rfl, hv⟩ := hv
 obtain ⟨p', rfl, hw⟩ := hw
 have c1 := big_of wr.top (show n ≤ 4000 by omega)
 have c2 := big_of wr.bot (show n ≤ 4000 by omega)
 have c3 := big_of wq.top (show m ≤ 4000 by omega)
 have c4 := big_of wq.bot (show m ≤ 4000 by omega)
 refine ⟨_, rfl, p, _, _, _, rfl, rfl, hv, rfl, _, rfl, p', _, _, _, rfl, rfl, hw, rfl, _, _, rfl, rfl, ⟨c1, c4⟩, _, rfl, p', _, _, _, rfl, rfl, hw, rfl, _, rfl, p, _, _, _, rfl, rfl, hv, rfl, _, _, rfl, rfl, ⟨c3, c2⟩, _, _, rfl, rfl, k⟩
theorem ok_Q33 (T : Txt K mg t) : FnOk P w K mg base CX0 3 t.a_Q33 t.d_Q33 ["some"] (sp_total K) := by
 refine T.F_Q33.ok sc_Q33 (fun vs H Q E h => ?_) (fun cdv A outer s H vs Q E hr h => ?_)
 ·obtain ⟨_, _, _, _, _, rfl, _⟩ := h; rfl
 obtain ⟨a, xs, rs, n, D₀, rfl, hS, hR, hWD, h0, hDn₀, hlen, hn, k⟩ := h
 refine QSs.ok (qss_consL (qsA 1 sc_Q33.nd qe_dnewK)
   (qss_consL (qs_for PassesOwn.never rfl (qi_seq (qv 0)) (qg_name (i := 2) sc_Q33.nd rfl (by first | exact Or.inl rfl | exact Or.inr rfl))
   (qss_one (qs_dput (hu_of hr) (qv 1) (qxA ix_tup (qv 2) qe_int) (qe_op op_add (qe_dget2 (hu_of hr) (qv 1) (qxA ix_tup (qv 2) qe_int) qe_int ⟨rfl, rfl, rfl, rfl⟩) (qxA ix_tup (qv 2) qe_int)) rfl)))
   (qss_consL (qsA 3 sc_Q33.nd (qe_glob (v := .ref t.c_NOUGHT) rfl T.m_NOUGHT rfl))
   (qss_consL (qs_for PassesOwn.never rfl (qi_items (qv 1)) (qg_tup rfl (qgs_cons (qg_name (i := 4) sc_Q33.nd rfl (by first | exact Or.inl rfl | exact Or.inr rfl)) (qgs_cons (qg_name (i := 5) sc_Q33.nd rfl (by first | exact Or.inl rfl | exact Or.inr rfl)) qgs_nil)))
   (qss_one (qsA 3 sc_Q33.nd (qcA (ok_Q34 T) hr T.m_Q34 T.F_Q34.kp T.b_Q34 (qa_cons (qv 3) (qa_cons (qcA (ok_Q30 T) hr T.m_Q30 T.F_Q30.kp T.b_Q30 (qa_cons (qv 5) (qa_cons (qv 4) qa_nil star_name) star_name)) qa_nil star_call) star_name)))))
   (qss_one (qs_ret (qv 3))))))) ?_
 extract_lets +lift
 try dsimp -zeta -zetaDelta only [Cx.nox, Cx.wish, cxOf]
 refine fun D hDn => ⟨_, rfl, ?_⟩
 have sD := same_new hDn (.dK [])
 rcases hS with hS | hS
 refine .inl ⟨a, rfl, ⟨_, sD.seq hS⟩, for_list (K := K) (a := a) (xs := xs) (fun i σ H' => ∃ (x : Option V) (ps : List (Int × Int)), σ = [some (.ref a), some (.ref D), x, none, none, none] /\ Same H H' /\ H' D = some (.dK (enc ps)) /\ PsOk n i ps /\ (∀ p ∈ ps, p.1 ∣ (D₀ : Int)) /\ sumv ps = vsum (rs.take i)) ⟨none, [], rfl, sD, upd_same, PsOk.nil n, (fun _ h => nomatch h), rfl⟩ (fun i σ H1 _ ⟨_, _, _, s1, _⟩ => s1.seq hS) ?_ ?_⟩
 rotate_left 2
 refine .inr ⟨a, rfl, ⟨_, Tst.same sD _ _ hS⟩, for_tup (K := K) (a := a) (xs := xs) (fun i σ H' => ∃ (x : Option V) (ps : List (Int × Int)), σ = [some (.ref a), some (.ref D), x, none, none, none] /\ Same H H' /\ H' D = some (.dK (enc ps)) /\ PsOk n i ps /\ (∀ p ∈ ps, p.1 ∣ (D₀ : Int)) /\ sumv ps = vsum (rs.take i)) ⟨none, [], rfl, sD, upd_same, PsOk.nil n, (fun _ h => nomatch h), rfl⟩ (fun i σ H1 _ ⟨_, _, _, s1, _⟩ => Tst.same s1 _ _ hS) ?_ ?_⟩
 all_goals first
  | (
   rintro i y σ H1 hi ⟨x, ps, rfl, s1, hD1, ok, dv, ev⟩
   obtain ⟨ry, hry, hyv⟩ := hR.at hi
   have my : ry ∈ rs := List.mem_of_getElem? hry
   have hil := (List.getElem?_eq_some_iff.mp hry).1
   obtain ⟨py, rfl, hSy⟩ := hyv.mono (Tst.same s1)
   have el : (enc ps).length = ps.length := List.length_map _
   have hlp : (enc ps).length < sizeLine := by rw [el]; exact small1000 (by have := ok.len; omega)
   refine ⟨_, rfl, D, rfl, .inl ⟨_, .inl hD1⟩, _, rfl, py, _, _, _, rfl, rfl, hSy, rfl, _, DGet.k (k := Sum.inl ry.2) hD1, _, rfl, py, _, _, _, rfl, rfl, hSy, rfl, topP ps ry.2, ry.1, get_enc ps ry.2, rfl, _, rfl, _, rfl, py, _, _, _, rfl, rfl, hSy, rfl, D, _, rfl, DPut.k (k := Sum.inl ry.2) hD1 hlp, ?_⟩
   refine ⟨_, addP ps ry.2 ry.1, rfl, fun b o q => ?_, ?_, ok.add (hWD ry my).1, add_dvd (i := 0) (n := 0) dv (hWD ry my).2, ?_⟩
   ·rw [upd_ne (ne_of_none q hDn)]
    exact s1 b o q
   ·rw [put_enc ps _ _ ok.nd]
    exact upd_same
   ·rw [sumv_add, ev, List.take_add_one, hry]
    exact (vsum_snoc _ _).symm)
  | (
   rintro σ H1 ⟨x, ps, rfl, s1, hD1, ok, dv, ev⟩
   rw [hR.1, List.take_length] at ev
   rw [hR.1] at ok
   refine ⟨_, rfl, D, enc ps, rfl, hD1, fun ob => for_items (d := D) (ob := ob) (kvs := enc ps) (fun j σ H' => ∃ (u : V) (acc : R) (y4 y5 : Option V), σ = [some (.ref a), some (.ref D), x, some u, y4, y5] /\ Same H H' /\ H' D = some (.frz ob (.dK (enc ps))) /\ RV K H' u acc /\ Bq D₀ (64 * 2 ^ n * j) acc /\ val acc = sumv (ps.take j)) ⟨_, (0, 1), none, none, rfl, ?_, upd_same, ⟨_, rfl, T.q_NOUGHT _⟩, ⟨by decide, by decide, ⟨(D₀ : Int), by show (D₀ : Int) = 1 * D₀; omega⟩, by show 0 ≤ _; exact Nat.zero_le _⟩, val_nought⟩ (fun i σ H1 ⟨_, _, _, _, _, _, z, _⟩ => z) ?_ ?_⟩
   ·intro b o q
    rw [upd_ne (ne_of_none q hDn)]
    exact s1 b o q
   ·rintro j kk v p σ H2 hkv ⟨u, acc, y4, y5, rfl, s2, hD2, r2, w2, ev2⟩ hp
    have hkv' : (ps.map fun p => ((Sum.inl p.1 : Key), V.int p.2))[j]? = some (kk, v) := hkv
    rw [List.getElem?_map] at hkv'
    obtain ⟨q, hq, e⟩ := Option.map_eq_some_iff.mp hkv'
    cases e
    have mq := List.mem_of_getElem? hq
    have hjl := (List.getElem?_eq_some_iff.mp hq).1
    have wq := ok.wf (by omega) mq
    have lps := ok.len
    have gq := grp_bq ok dv hlen mq
    have wa := acc_wf w2 (by omega) h0 hDn₀
    have bq := ok.bot q mq
    have e1 := same_new hp (.tup [kV (Sum.inl q.1), V.int q.2])
    refine ⟨p, _, rfl, SqT.of upd_same, rfl, _, _, rfl, _, _, rfl, rfl, ?_⟩
    refine ⟨_, rfl, _, rfl, _, rfl, q.2, q.1, rfl, (by have := bq.1; omega), big_of bq.2 (by omega), fun p1 g1 => ?_⟩
    rw [mkS_pos bq.1]
    have e2 := same_new g1 (.tup [.int (mkR q.2 q.1).1, .int (mkR q.2 q.1).2])
    refine ⟨u, .ref p1, acc, mkR q.2 q.1, 2 * n + 12, n + 8, rfl, (r2.mono (Tst.same e1)).mono (Tst.same e2), RV.of upd_same, wa, wq, by omega, fun p2 g2 => ?_⟩
    have e3 := same_new g2 (.tup [.int (plusR acc (mkR q.2 q.1)).1, .int (plusR acc (mkR q.2 q.1)).2])
    have s3 := ((e1.trans e2).trans e3)
    refine ⟨_, plusR acc (mkR q.2 q.1), _, _, rfl, s2.trans s3, s3 _ _ hD2, RV.of upd_same, (by rw [Nat.mul_succ]; exact Bq.plus h0 w2 gq), ?_⟩
    rw [val_plus w2.pos wq.pos, val_mk bq.1, ev2, List.take_add_one, hq]
    exact (sumv_snoc _ _).symm
   ·rintro σ H2 ⟨u, acc, y4, y5, rfl, s2, hD2, r2, w2, ev2⟩
    have el : (enc ps).length = ps.length := List.length_map _
    rw [el, List.take_length] at ev2
    have es := sum_is (fun r hr => (hWD r hr).1.red) w2.red (ev2.trans ev)
    rw [es] at r2
    exact ⟨_, rfl, k u H2 s2 r2⟩)
theorem ok_Q1 (T : Txt K mg t) : FnOk P w K mg base CX0 4 t.a_Q1 t.d_Q1 ["low", "high"] (sp_slope_between K) := by
 refine T.F_Q1.ok sc_Q1 (fun vs H Q E h => ?_) (fun cdv A outer s H vs Q E hr h => ?_)
 ·obtain ⟨_, _, _, _, rfl, _⟩ := h; rfl
 obtain ⟨v, w, a, b, rfl, ⟨p, x, y, rfl, hS, hx, hy⟩, ⟨p2, x2, y2, rfl, hS2, hx2, hy2⟩, ok, k⟩ := h
 refine QSs.ok (qss_one (qs_ret (qcA (ok_Q35 T) hr T.m_Q35 T.F_Q35.kp T.b_Q35 (qa_cons (qcA (ok_Q31 T) hr T.m_Q31 T.F_Q31.kp T.b_Q31 (qa_cons (qxA ix_tup (qv 1) qe_int) (qa_cons (qxA ix_tup (qv 0) qe_int) qa_nil star_sub) star_sub)) (qa_cons (qcA (ok_Q31 T) hr T.m_Q31 T.F_Q31.kp T.b_Q31 (qa_cons (qxA ix_tup (qv 1) qe_int) (qa_cons (qxA ix_tup (qv 0) qe_int) qa_nil star_sub) star_sub)) qa_nil star_call) star_call)))) ?_
 extract_lets +lift
 try dsimp -zeta -zetaDelta only [Cx.nox, Cx.wish, cxOf]
 refine ⟨_, rfl, p2, _, _, _, rfl, rfl, hS2, rfl, _, rfl, p, _, _, _, rfl, rfl, hS, rfl, y2, y, b.2, a.2, 197, 197, rfl, hy2, hy, ok.b2, ok.a2, by decide, fun v1 H1 s1 h1 => ?_⟩
 refine ⟨_, rfl, p2, _, _, _, rfl, rfl, Tst.same s1 _ _ hS2, rfl, _, rfl, p, _, _, _, rfl, rfl, Tst.same s1 _ _ hS, rfl, x2, x, b.1, a.1, 510, 510, rfl, hx2.mono (Tst.same s1), hx.mono (Tst.same s1), ok.b1, ok.a1, by decide, fun v2 H2 s2 h2 => ?_⟩
 exact ⟨v1, v2, _, _, 395, 1021, rfl, h1.mono (Tst.same s2), h2, ok.w2, ok.w1, by decide, ok.ne, fun v3 H3 s3 h3 => k v3 H3 (s1.trans (s2.trans s3)) h3⟩
theorem ok_Q29 (T : Txt K mg t) : FnOk P w K mg base CX0 1 t.a_Q29 t.d_Q29 ["rule"] (sp_top_of K) := by
 refine T.F_Q29.ok sc_Q29 (fun vs H Q E h => ?_) (fun cdv A outer s H vs Q E hr h => ?_)
 ·obtain ⟨_, _, rfl, _⟩ := h; rfl
 obtain ⟨v, rl, rfl, hv, ok, k1, k2⟩ := h
 refine QSs.ok (qss_consL (qs_if (qt_cmpR op_eq (qxA ix_tup (qv 0) qe_int) (qe_glob (v := .str "power") rfl T.m_POWER ⟨_, rfl⟩) (nomark _)) (qss_one (qs_ret qe_non)) qss_nil)
   (qss_one (qs_ret (qxA ix_tup (qxA ix_tup (qxA ix_tup (qv 0) qe_int) (qe_un un_neg qe_int)) qe_int)))) ?_
 extract_lets +lift
 try dsimp -zeta -zetaDelta only [Cx.nox, Cx.wish, cxOf]
 cases rl with
 | pow kk =>
  obtain ⟨p, rfl, hS⟩ := hv
  exact ⟨_, rfl, p, _, _, _, rfl, rfl, hS, rfl, rfl, _, rfl, iteD1 rfl (k1 kk rfl)⟩
 | tab rows =>
  obtain ⟨p, q, xs, rfl, hS, hq, al⟩ := hv
  have ok' : RowsG rows := ok
  have n2 := ok'.n2
  obtain ⟨xl, w, hat, hw, ⟨pw, y1, y2, rfl, hSw, h1, h2⟩, _⟩ := al.last (n := rows.length - 1) (by omega)
  refine ⟨_, rfl, p, _, _, _, rfl, rfl, hS, rfl, rfl, _, rfl, iteD0 (by decide) ?_⟩
  refine ⟨_, rfl, p, _, _, _, rfl, rfl, hS, rfl, _, rfl, q, _, _, _, rfl, rfl, hq, hat, pw, _, _, _, rfl, rfl, hSw, rfl, k2 rows _ rfl ?_⟩
  unfold topM
  rw [getD_at hw]
  exact h1
theorem ok_Q3 (T : Txt K mg t) : FnOk P w K mg base CX0 2 t.a_Q3 t.d_Q3 ["rule", "speed"] (sp_is_beyond K) := by
 refine T.F_Q3.ok sc_Q3 (fun vs H Q E h => ?_) (fun cdv A outer s H vs Q E hr h => ?_)
 ·obtain ⟨_, _, _, _, rfl, _⟩ := h; rfl
 obtain ⟨v, w, rl, s, rfl, hv, ok, hw, ws, k⟩ := h
 refine QSs.ok (qss_consL (qsA 2 sc_Q3.nd (qcA (ok_Q29 T) hr T.m_Q29 T.F_Q29.kp T.b_Q29 (qa_cons (qv 0) qa_nil star_name)))
   (qss_one (qs_ret (qe_and (qe_cmpR op_notN (qv 2) qe_non (nomark _)) (qe_one (qcA (ok_Q23 T) hr T.m_Q23 T.F_Q23.kp T.b_Q23 (qa_cons (qv 2) (qa_cons (qv 1) qa_nil star_name) star_name))))))) ?_
 extract_lets +lift
 try dsimp -zeta -zetaDelta only [Cx.nox, Cx.wish, cxOf]
 refine ⟨_, rfl, v, rl, rfl, hv, ok, ?_, ?_⟩
 ·rintro kk rfl
  exact ⟨_, rfl, rfl, _, rfl, iteNS rfl k⟩
 ·rintro rows x rfl hx
  obtain ⟨px, rfl, _⟩ := id hx
  have ok' : RowsG rows := ok
  obtain ⟨r, e, er⟩ := last_g ok'
  have wt : Wf 510 (topM rows) := by rw [er]; exact ok'.sp r (List.mem_of_getElem? e)
  refine ⟨_, rfl, rfl, _, rfl, iteN1 (fun z => nomatch z) ?_⟩
  exact ⟨_, rfl, _, rfl, .ref px, w, topM rows, s, 510, 310, rfl, hx, hw, wt, ws, by decide, k⟩
theorem ok_Q11 (T : Txt K mg t) : FnOk P w K mg base CX0 2 t.a_Q11 t.d_Q11 ["rows", "speed"] (sp_place_of K) := by
 refine T.F_Q11.ok sc_Q11 (fun vs H Q E h => ?_) (fun cdv A outer s H vs Q E hr h => ?_)
 ·obtain ⟨_, _, _, _, _, rfl, _⟩ := h; rfl
 obtain ⟨q, v, xs, rows, s, rfl, hq, al, ok, hv, hs, hb, k⟩ := h
 refine QSs.ok (qss_consL (qsA 2 sc_Q11.nd qe_int)
   (qss_consL (qs_while PassesOwn.never (qt_val (qcA (ok_Q23 T) hr T.m_Q23 T.F_Q23.kp T.b_Q23 (qa_cons (qxA ix_tup (qxA ix_tup (qv 0) (qv 2)) qe_int) (qa_cons (qv 1) qa_nil star_name) star_sub)))
   (qss_one (qs_aug (i := 2) sc_Q11.nd rfl (by first | exact Or.inl rfl | exact Or.inr rfl) qe_int ip_add)))
   (qss_one (qs_ret (qv 2))))) ?_
 extract_lets +lift
 try dsimp -zeta -zetaDelta only [Cx.nox, Cx.wish, cxOf]
 have pl := ok.p_lt hs.bq.pos hb
 refine ⟨fun m σ H' => ∃ i : Nat, σ = [some (.ref q), some v, some (.int (i : Int))] /\ H' = H /\ i ≤ pOf rows s /\ m = pOf rows s - i, ⟨_, 0, rfl, rfl, Nat.zero_le _, rfl⟩, ?_⟩
 rintro m σ H' ⟨i, rfl, rfl, hi, rfl⟩
 have hx0 : xs[i]? = some (xs[i]'(by rw [al.len]; omega)) := List.getElem?_eq_getElem _
 obtain ⟨r, hr, hrv⟩ := al.at hx0
 obtain ⟨pa, x, y, ex, hS, hx, hy⟩ := id hrv
 have mr := List.mem_of_getElem? hr
 refine ⟨_, rfl, _, rfl, q, _, _, _, rfl, rfl, hq, atI_nat hx0, pa, _, _, _, ex, rfl, hS, rfl, _, rfl, x, v, r.1, s, 510, 310, rfl, hx, hv, ok.sp r mr, hs.wf, by decide, _, rfl, ?_⟩
 rw [cnt_p hs.bq.pos ok.inc ok.allP hr]
 by_cases c : i < pOf rows s
 ·refine iteD1 c ?_
  refine ⟨_, fun _ _ z => z, ?_⟩
  exact ⟨_, rfl, _, _, rfl, rfl, _, (by omega), i + 1, rfl, rfl, c, rfl⟩
 ·refine iteD0 c ?_
  have e : i = pOf rows s := by omega
  subst e
  exact ⟨_, rfl, k⟩
theorem ok_Q4 (T : Txt K mg t) : FnOk P w K mg base CX0 4 t.a_Q4 t.d_Q4 ["plan"] (sp_speeds_of K) := by
 refine T.F_Q4.ok sc_Q4 (fun vs H Q E h => ?_) (fun cdv A outer s H vs Q E hr h => ?_)
 ·obtain ⟨_, _, rfl, _⟩ := h; rfl
 obtain ⟨v, pl, rfl, ⟨p, xs, rfl, hp, al⟩, ok, k⟩ := h
 refine QSs.ok (qss_one (qs_ret (qe_callTy call_tuple_of (by rfl) T.z_tuple boot_tuple (qa_cons (qe_lcomp (N' := ["pieces"]) (src := [none]) rfl (by exact (qi_tup (qv 0))) (fun _ _ _ _ _ => (by exact (by exact qg_name (i := 0) (by show List.Nodup (["pieces"] : List Str); decide +kernel) (by exact rfl) (by first | exact Or.inl rfl | exact Or.inr rfl)))) (fun _ _ _ _ _ => qts_nil) (fun _ _ _ _ _ => (by exact (by exact (qe_call (ok_Q33 T) (by exact hr.mono (by decide)) (by exact rfl) T.m_Q33 T.F_Q33.kp T.b_Q33 (by exact .nil) (by exact pass0) (qa_cons (by exact (qe_lcomp (N' := ["piece"]) (src := [none]) (by exact rfl) (by exact (qi_tupK (K := K) (by exact rfl) (by exact (qv 0)))) (by exact fun _ _ _ _ _ => (by exact (by exact qg_name (i := 0) (by show List.Nodup (["piece"] : List Str); decide +kernel) (by exact rfl) (by first | exact Or.inl rfl | exact Or.inr rfl)))) (by exact fun _ _ _ _ _ => qts_nil) (by exact fun _ _ _ _ _ => (by exact (by exact (qe_ix (ix_tupK (K := K) (by exact rfl)) (by exact (qv 0)) qe_int (by exact fun _ _ => rfl))))) (by exact trivial) (by exact rfl) (by decide +kernel) (by exact rfl) (by decide +kernel) (by exact cells_of rfl trivial))) qa_nil star_lc))))) (by exact trivial) rfl (by decide +kernel) rfl (by decide +kernel) (by exact cells_of rfl trivial)) qa_nil star_lc)))) ?_
 extract_lets +lift
 try dsimp -zeta -zetaDelta only [Cx.nox, Cx.wish, cxOf]
 have l24 := ok.len
 refine ⟨_, rfl, p, rfl, ⟨_, hp⟩, fun D hD => comp_mapT (K := K) (P := RV K) (ds := pl) (f := spdR) (fun _ _ _ _ t z => z.mono t) hD hp al.len (by omega) (fun i x d H' hx hd sm Rk E kR => ?_) fun HA ms sA hmA amA => ?_⟩
 ·obtain ⟨d', hd', pq, yq, rfl, hpq, aq⟩ := al.at hx
  rw [hd] at hd'
  cases hd'
  have t' := Tst.same (K := K) sm
  have dok := ok.tu d (List.mem_of_getElem? hd)
  refine ⟨Ext.set rfl, _, rfl, pq, rfl, ⟨_, t' _ _ hpq⟩, fun D3 hD3 => comp_mapT (K := K) (P := RV K) (ds := d) (f := fun c => c.2) (fun _ _ _ _ t z => z.mono t) hD3 (t' _ _ hpq) aq.len (by have := dok.len; omega) (fun j y c H'' hy hc sm2 Rk2 E2 kR2 => ?_) fun HB qs sB hqB aqB => ?_⟩
  ·obtain ⟨c', hc', pc_, rv_, rfl, hpc, rrv⟩ := aq.at hy
   rw [hc] at hc'
   cases hc'
   have t'' := t'.trans (Tst.same (K := K) sm2)
   exact ⟨Ext.set rfl, _, rfl, pc_, _, _, _, rfl, rfl, t'' _ _ hpc, rfl, kR2 _ _ (Same.refl _) (rrv.mono t'')⟩
  refine ⟨D3, qs, d.map (fun c : Pc => c.2), 310, D1, rfl, .inl (SqL.of hqB), als_rvs aqB, (fun r hr => ?_), by decide, by decide, (by rw [List.length_map]; have := dok.len; omega), by decide, fun w HE' sE' rw_ => kR w _ (sB.trans sE') rw_⟩
  obtain ⟨c, hc, rfl⟩ := List.mem_map.mp hr
  have b := (dok.bq c hc).1
  exact ⟨b.wf (by decide) (by decide) (by decide), b.dvd⟩
 refine ⟨D, _, rfl, .inl ⟨SqL.of hmA, fun l hl => ?_⟩⟩
 have sl := same_new hl (.tup ms)
 exact k _ _ (sA.trans sl) ⟨l, ms, rfl, SqT.of upd_same, amA.mono fun _ _ z => z.mono (Tst.same sl)⟩
theorem ok_Q14 (T : Txt K mg t) : FnOk P w K mg base CX0 1 t.a_Q14 t.d_Q14 ["_law_script"] (sp_law_tape K) := by
 refine T.F_Q14.ok sc_Q14 (fun vs H Q E h => ?_) (fun cdv A outer s H vs Q E hr h => ?_)
 ·obtain ⟨_, _, rfl, _⟩ := h; rfl
 obtain ⟨a, ns, rfl, hS, k⟩ := h
 refine QSs.ok (qss_one (qs_ret (qe_lst (qa_cons (qe_slice sl_list (qv 0) qo_none (qo_some qe_int)) (qa_cons qe_int (qa_cons qe_int (qa_cons qe_int qa_nil star_con) star_con) star_con) star_sub)))) ?_
 extract_lets +lift
 try dsimp -zeta -zetaDelta only [Cx.nox, Cx.wish, cxOf]
 refine ⟨_, rfl, 63, rfl, a, _, rfl, hS, fun p hp => ⟨zl4, fun t ht => ?_⟩⟩
 have npt : p ≠ t := fun z => by subst z; rw [upd_same] at ht; cases ht
 have h0 : H t = none := by rw [upd_ne npt.symm] at ht; exact ht
 refine k t p _ ((same_new hp _).trans (same_new ht _)) h0 hp ⟨ns.take (min 63 ns.length), 0, 0, 0, upd_same, ?_, npt, ?_, by decide, by decide, by decide⟩
 ·rw [upd_ne npt, upd_same, cut63]
 ·rw [List.length_take]; omega
theorem ok_Q15 (T : Txt K mg t) : FnOk P w K mg base CX0 1 t.a_Q15 t.d_Q15 ["_law_tape_here", "_law_many"] (sp_law_draw K) := by
 refine T.F_Q15.ok sc_Q15 (fun vs H Q E h => ?_) (fun cdv A outer s H vs Q E hr h => ?_)
 ·obtain ⟨_, _, _, rfl, _⟩ := h; rfl
 obtain ⟨t₁, s₁, m, rfl, tp, hm0, hm1, k⟩ := h
 obtain ⟨ns, p, q₀, r₀, ht, hs, hne, hlen, hp0, hq0, hr0⟩ := tp.ex
 refine QSs.ok (qss_consL (qsA 2 sc_Q15.nd (qxA ix_list (qv 0) qe_int))
   (qss_consL (qsA 3 sc_Q15.nd (qxA ix_list (qv 0) qe_int))
   (qss_consL (qs_asg (qe_op op_add (qv 3) qe_int) (qg_sub (qv 0) qe_int set_list))
   (qss_consL (qs_while PassesOwn.never (qw_pt (qw_and (qt_cmpR op_eq (qxA ix_list (qv 0) qe_int) qe_int (nomark _)) (qw_and1 (qt_cmpR op_lt (qxA ix_list (qv 0) qe_int) (qe_callB call_len_seq (by rfl) T.z_len boot_len (qa_cons (qv 2) qa_nil star_name)) (nomark _)))))
   (qss_consL (qs_if (qt_cmpR op_ge (qe_callB call_abs (by rfl) T.z_abs boot_abs (qa_cons (qxA ix_list (qv 2) (qxA ix_list (qv 0) qe_int)) qa_nil star_sub)) (qe_op op_pow qe_int qe_int) (nomark _)) (qss_one (qs_asg (qe_callB call_abs (by rfl) T.z_abs boot_abs (qa_cons (qxA ix_list (qv 2) (qxA ix_list (qv 0) qe_int)) qa_nil star_sub)) (qg_sub (qv 0) qe_int set_list))) qss_nil)
   (qss_one (qs_asg (qe_op op_add (qxA ix_list (qv 0) qe_int) qe_int) (qg_sub (qv 0) qe_int set_list)))))
   (qss_consL (qs_if (qt_cmpR op_gt (qxA ix_list (qv 0) qe_int) qe_int (nomark _)) (qss_consL (qsA 4 sc_Q15.nd (qxA ix_list (qv 0) qe_int))
   (qss_consL (qs_asg (qe_op op_fdiv (qv 4) (qv 1)) (qg_sub (qv 0) qe_int set_list))
   (qss_one (qs_ret (qe_op op_mod (qv 4) (qv 1)))))) qss_nil)
   (qss_consL (qsA 5 sc_Q15.nd qe_int)
   (qss_consL (qs_if (qt_cmpR op_gt (qe_callB call_len_seq (by rfl) T.z_len boot_len (qa_cons (qv 2) qa_nil star_name)) qe_int (nomark _)) (qss_one (qsA 5 sc_Q15.nd (qxA ix_list (qv 2) (qe_op op_mod (qv 3) (qe_callB call_len_seq (by rfl) T.z_len boot_len (qa_cons (qv 2) qa_nil star_name)))))) qss_nil)
   (qss_consL (qsA 6 sc_Q15.nd (qe_op op_mod (qe_op op_mul (qe_op op_add (qe_op op_mod (qv 5) qe_int) qe_int) (qe_op op_add (qe_op op_add (qe_op op_mul (qe_op op_mod (qv 3) qe_int) qe_int) qe_int) (qv 3))) qe_int))
   (qss_consL (qsA 6 sc_Q15.nd (qe_op op_mod (qe_op op_add (qe_op op_add (qe_op op_mul (qv 6) (qv 6)) (qe_op op_mul qe_int (qv 6))) (qv 3)) qe_int))
   (qss_one (qs_ret (qe_op op_mod (qe_op op_mod (qe_op op_mul (qv 6) qe_int) qe_int) (qv 1))))))))))))) ?_
 extract_lets +lift
 try dsimp -zeta -zetaDelta only [Cx.nox, Cx.wish, cxOf]
 have tap : ∀ (q r : Int), 0 ≤ q -> 0 ≤ r -> Tape (upd H t₁ (.lst [.ref s₁, .int (p + 1), .int q, .int r])) t₁ s₁ := fun q r hq hr => ⟨ns, p + 1, q, r, upd_same, by rw [upd_ne hne]; exact hs, hne, hlen, by omega, hq, hr⟩
 have hs' : ∀ o, (upd H t₁ o) s₁ = some (.lst (ns.map V.int)) := fun o => by rw [upd_ne hne]; exact hs
 have hl : ((ns.map V.int).length : Int) = (ns.length : Int) := by rw [List.length_map]
 refine ⟨_, rfl, t₁, _, _, _, rfl, rfl, SqL.of ht, rfl, ?_⟩
 refine ⟨_, rfl, t₁, _, _, _, rfl, rfl, SqL.of ht, rfl, ?_⟩
 refine ⟨_, rfl, _, _, rfl, rfl, _, rfl, t₁, _, _, _, rfl, rfl, ht, rfl, ?_⟩
 refine ⟨fun μ σ H' => ∃ q r : Int, σ = [some (.ref t₁), some (.int m), some (.ref s₁), some (.int p), none, none, none] /\ H' = upd H t₁ (.lst [.ref s₁, .int (p + 1), .int q, .int r]) /\ 0 ≤ q /\ 0 ≤ r /\ μ = ns.length - r.toNat, ⟨_, q₀, r₀, rfl, rfl, hq0, hr0, rfl⟩, ?_⟩
 rintro μ σ H' ⟨q, r, rfl, rfl, hq, hr', rfl⟩
 refine ⟨_, rfl, t₁, _, _, _, rfl, rfl, SqL.of upd_same, rfl, rfl, _, rfl, ?_⟩
 by_cases c : q = 0 /\ r < (ns.length : Int)
 ·obtain ⟨c1, c2⟩ := c
  subst c1
  refine iteD1 rfl ?_
  refine ⟨_, rfl, t₁, _, _, _, rfl, rfl, SqL.of upd_same, rfl, _, rfl, s₁, _, rfl, .inl (SqL.of (hs' _)), _, _, rfl, rfl, _, rfl, ?_⟩
  refine iteD1 (by rw [hl]; exact c2) ?_
  refine ⟨_, fun _ _ z => z, ?_⟩
  obtain ⟨z, hz⟩ := pickI (ns := ns) hr' c2
  refine ⟨_, rfl, _, rfl, t₁, _, _, _, rfl, rfl, SqL.of upd_same, rfl, s₁, _, _, _, rfl, rfl, SqL.of (hs' _), hz, _, rfl, _, _, rfl, rfl, ⟨by decide, by decide, by decide⟩, _, _, rfl, rfl, _, rfl, ?_⟩
  refine ite2 (fun _ => ?_) (fun _ => ?_)
  ·refine ⟨_, rfl, _, rfl, t₁, _, _, _, rfl, rfl, SqL.of upd_same, rfl, s₁, _, _, _, rfl, rfl, SqL.of (hs' _), hz, _, rfl, _, rfl, t₁, _, _, _, rfl, rfl, upd_same, rfl, ?_⟩
   rw [upd_upd]
   refine ⟨_, rfl, t₁, _, _, _, rfl, rfl, SqL.of upd_same, rfl, _, _, rfl, rfl, _, rfl, t₁, _, _, _, rfl, rfl, upd_same, rfl, ?_⟩
   rw [upd_upd]
   exact ⟨_, by omega, _, r + 1, rfl, rfl, by split <;> omega, by omega, rfl⟩
  ·refine ⟨_, rfl, t₁, _, _, _, rfl, rfl, SqL.of upd_same, rfl, _, _, rfl, rfl, _, rfl, t₁, _, _, _, rfl, rfl, upd_same, rfl, ?_⟩
   rw [upd_upd]
   exact ⟨_, by omega, 0, r + 1, rfl, rfl, by omega, by omega, rfl⟩
 by_cases c1 : q = 0
 ·refine iteD1 (by rw [c1]) ?_
  refine ⟨_, rfl, t₁, _, _, _, rfl, rfl, SqL.of upd_same, rfl, _, rfl, s₁, _, rfl, .inl (SqL.of (hs' _)), _, _, rfl, rfl, _, rfl, ?_⟩
  refine iteD0 (by rw [hl]; exact fun z => c ⟨c1, z⟩) ?_
  refine ⟨_, rfl, t₁, _, _, _, rfl, rfl, SqL.of upd_same, rfl, _, _, rfl, rfl, _, rfl, ?_⟩
  refine ite2 (fun _ => ?_) (fun _ => ?_)
  ·refine ⟨_, rfl, t₁, _, _, _, rfl, rfl, SqL.of upd_same, rfl, ?_⟩
   refine ⟨_, rfl, _, rfl, _, _, rfl, rfl, ⟨hm0, hm1⟩, _, rfl, t₁, _, _, _, rfl, rfl, upd_same, rfl, ?_⟩
   refine ⟨_, rfl, _, rfl, _, _, rfl, rfl, hm0, ?_⟩
   rw [upd_upd]
   exact k _ _ (Int.emod_nonneg _ (by omega)) (Int.emod_lt_of_pos _ hm0) (tap (q / m) r (Int.ediv_nonneg hq (by omega)) hr')
  ·refine ⟨_, rfl, s₁, _, rfl, .inl (SqL.of (hs' _)), _, _, rfl, rfl, _, rfl, ?_⟩
   refine ite2 (fun c9 => ?_) (fun _ => ?_)
   ·have c8 : (0 : Int) < (ns.length : Int) := by
     have c7 : (0 : Int) < ((ns.map V.int).length : Int) := of_decide_eq_true c9
     rw [hl] at c7; exact c7
    obtain ⟨z, hz⟩ := pickI (ns := ns) (r := p % (ns.length : Int)) (Int.emod_nonneg _ (by omega)) (Int.emod_lt_of_pos _ c8)
    rw [← hl] at hz c8
    refine ⟨_, rfl, _, rfl, _, rfl, s₁, _, rfl, .inl (SqL.of (hs' _)), _, _, rfl, rfl, c8, s₁, _, _, _, rfl, rfl, SqL.of (hs' _), hz, ?_⟩
    refine ⟨_, rfl, _, _, rfl, rfl, (by show (0 : Int) < _; decide), _, _, rfl, rfl, _, rfl, _, _, rfl, rfl, (by show (0 : Int) < _; decide), _, _, rfl, rfl, .inl ⟨by omega, by omega⟩, _, _, rfl, rfl, _, rfl, _, _, rfl, rfl, _, _, rfl, rfl, .inl ⟨by omega, by omega⟩, _, _, rfl, rfl, (by show (0 : Int) < _; decide), ?_⟩
    refine ⟨_, rfl, _, rfl, _, _, rfl, rfl, .inl ⟨by omega, by omega⟩, _, rfl, _, _, rfl, rfl, .inl ⟨by omega, by omega⟩, _, _, rfl, rfl, _, rfl, _, _, rfl, rfl, _, _, rfl, rfl, (by show (0 : Int) < _; decide), ?_⟩
    refine ⟨_, rfl, _, _, rfl, rfl, .inl ⟨by omega, by omega⟩, _, _, rfl, rfl, (by show (0 : Int) < _; decide), _, rfl, _, _, rfl, rfl, hm0, ?_⟩
    exact k _ _ (Int.emod_nonneg _ (by omega)) (Int.emod_lt_of_pos _ hm0) (tap q r hq hr')
   ·refine ⟨_, rfl, _, _, rfl, rfl, (by show (0 : Int) < _; decide), _, _, rfl, rfl, _, rfl, _, _, rfl, rfl, (by show (0 : Int) < _; decide), _, _, rfl, rfl, .inl ⟨by omega, by omega⟩, _, _, rfl, rfl, _, rfl, _, _, rfl, rfl, _, _, rfl, rfl, .inl ⟨by omega, by omega⟩, _, _, rfl, rfl, (by show (0 : Int) < _; decide), ?_⟩
    refine ⟨_, rfl, _, rfl, _, _, rfl, rfl, .inl ⟨by omega, by omega⟩, _, rfl, _, _, rfl, rfl, .inl ⟨by omega, by omega⟩, _, _, rfl, rfl, _, rfl, _, _, rfl, rfl, _, _, rfl, rfl, (by show (0 : Int) < _; decide), ?_⟩
    refine ⟨_, rfl, _, _, rfl, rfl, .inl ⟨by omega, by omega⟩, _, _, rfl, rfl, (by show (0 : Int) < _; decide), _, rfl, _, _, rfl, rfl, hm0, ?_⟩
    exact k _ _ (Int.emod_nonneg _ (by omega)) (Int.emod_lt_of_pos _ hm0) (tap q r hq hr')
 ·refine iteD0 (fun z => c1 (by injection z)) (iteF ?_)
  refine ⟨_, rfl, t₁, _, _, _, rfl, rfl, SqL.of upd_same, rfl, _, _, rfl, rfl, _, rfl, ?_⟩
  refine ite2 (fun _ => ?_) (fun _ => ?_)
  ·refine ⟨_, rfl, t₁, _, _, _, rfl, rfl, SqL.of upd_same, rfl, ?_⟩
   refine ⟨_, rfl, _, rfl, _, _, rfl, rfl, ⟨hm0, hm1⟩, _, rfl, t₁, _, _, _, rfl, rfl, upd_same, rfl, ?_⟩
   refine ⟨_, rfl, _, rfl, _, _, rfl, rfl, hm0, ?_⟩
   rw [upd_upd]
   exact k _ _ (Int.emod_nonneg _ (by omega)) (Int.emod_lt_of_pos _ hm0) (tap (q / m) r (Int.ediv_nonneg hq (by omega)) hr')
  ·refine ⟨_, rfl, s₁, _, rfl, .inl (SqL.of (hs' _)), _, _, rfl, rfl, _, rfl, ?_⟩
   refine ite2 (fun c9 => ?_) (fun _ => ?_)
   ·have c8 : (0 : Int) < (ns.length : Int) := by
     have c7 : (0 : Int) < ((ns.map V.int).length : Int) := of_decide_eq_true c9
     rw [hl] at c7; exact c7
    obtain ⟨z, hz⟩ := pickI (ns := ns) (r := p % (ns.length : Int)) (Int.emod_nonneg _ (by omega)) (Int.emod_lt_of_pos _ c8)
    rw [← hl] at hz c8
    refine ⟨_, rfl, _, rfl, _, rfl, s₁, _, rfl, .inl (SqL.of (hs' _)), _, _, rfl, rfl, c8, s₁, _, _, _, rfl, rfl, SqL.of (hs' _), hz, ?_⟩
    refine ⟨_, rfl, _, _, rfl, rfl, (by show (0 : Int) < _; decide), _, _, rfl, rfl, _, rfl, _, _, rfl, rfl, (by show (0 : Int) < _; decide), _, _, rfl, rfl, .inl ⟨by omega, by omega⟩, _, _, rfl, rfl, _, rfl, _, _, rfl, rfl, _, _, rfl, rfl, .inl ⟨by omega, by omega⟩, _, _, rfl, rfl, (by show (0 : Int) < _; decide), ?_⟩
    refine ⟨_, rfl, _, rfl, _, _, rfl, rfl, .inl ⟨by omega, by omega⟩, _, rfl, _, _, rfl, rfl, .inl ⟨by omega, by omega⟩, _, _, rfl, rfl, _, rfl, _, _, rfl, rfl, _, _, rfl, rfl, (by show (0 : Int) < _; decide), ?_⟩
    refine ⟨_, rfl, _, _, rfl, rfl, .inl ⟨by omega, by omega⟩, _, _, rfl, rfl, (by show (0 : Int) < _; decide), _, rfl, _, _, rfl, rfl, hm0, ?_⟩
    exact k _ _ (Int.emod_nonneg _ (by omega)) (Int.emod_lt_of_pos _ hm0) (tap q r hq hr')
   ·refine ⟨_, rfl, _, _, rfl, rfl, (by show (0 : Int) < _; decide), _, _, rfl, rfl, _, rfl, _, _, rfl, rfl, (by show (0 : Int) < _; decide), _, _, rfl, rfl, .inl ⟨by omega, by omega⟩, _, _, rfl, rfl, _, rfl, _, _, rfl, rfl, _, _, rfl, rfl, .inl ⟨by omega, by omega⟩, _, _, rfl, rfl, (by show (0 : Int) < _; decide), ?_⟩
    refine ⟨_, rfl, _, rfl, _, _, rfl, rfl, .inl ⟨by omega, by omega⟩, _, rfl, _, _, rfl, rfl, .inl ⟨by omega, by omega⟩, _, _, rfl, rfl, _, rfl, _, _, rfl, rfl, _, _, rfl, rfl, (by show (0 : Int) < _; decide), ?_⟩
    refine ⟨_, rfl, _, _, rfl, rfl, .inl ⟨by omega, by omega⟩, _, _, rfl, rfl, (by show (0 : Int) < _; decide), _, rfl, _, _, rfl, rfl, hm0, ?_⟩
    exact k _ _ (Int.emod_nonneg _ (by omega)) (Int.emod_lt_of_pos _ hm0) (tap q r hq hr')
theorem ok_Q24 (T : Txt K mg t) : FnOk P w K mg base CX0 1 t.a_Q24 t.d_Q24 ["_law_one", "_law_other"] (sp_law_gcd K) := by
 refine T.F_Q24.ok sc_Q24 (fun vs H Q E h => ?_) (fun cdv A outer s H vs Q E hr h => ?_)
 ·obtain ⟨_, _, rfl, _⟩ := h; rfl
 obtain ⟨a, b, rfl, ha, hb, k⟩ := h
 refine QSs.ok (qss_consL (qs_while PassesOwn.never (qt_cmpR op_ne (qv 1) qe_int (nomark _))
   (qss_one (qs_par (i := 0) (j := 1) rfl sc_Q24.nd rfl rfl (by decide) rfl rfl (qa_cons (qv 1) (qa_cons (qe_op op_mod (qv 0) (qv 1)) qa_nil star_bin) star_name) rfl)))
   (qss_one (qs_ret (qv 0)))) ?_
 extract_lets +lift
 try dsimp -zeta -zetaDelta only [Cx.nox, Cx.wish, cxOf]
 refine ⟨fun m σ H' => ∃ (x y : Int), σ = [some (.int x), some (.int y)] /\ H' = H /\ 0 ≤ x /\ 0 ≤ y /\ Int.gcd x y = Int.gcd a b /\ m = y.toNat, ⟨_, _, _, rfl, rfl, ha, hb, rfl, rfl⟩, ?_⟩
 rintro m σ H' ⟨x, y, rfl, rfl, hx, hy, hg, rfl⟩
 refine ⟨_, rfl, rfl, _, rfl, ?_⟩
 by_cases c : y = 0
 ·subst c
  refine iteNS rfl ?_
  rw [← hg] at k
  refine ⟨_, rfl, ?_⟩
  have e : (x : Int) = (Int.gcd x 0 : Nat) := by simp [Int.gcd]; omega
  rw [← e] at k
  exact k
 ·refine iteN1 (fun z => c (by injection z)) ?_
  refine ⟨_, fun _ _ z => z, ?_⟩
  refine ⟨_, rfl, _, rfl, _, rfl, _, _, rfl, rfl, (by omega), _, _, rfl, ?_⟩
  refine ⟨_, ?_, y, x % y, rfl, rfl, hy, Int.emod_nonneg _ c, ?_, rfl⟩
  ·have := Int.emod_lt_of_pos x (show 0 < y by omega)
   have := Int.emod_nonneg x c
   omega
  ·rw [gcd_turn hx (by omega), hg]
theorem ok_Q5 (T : Txt K mg t) : FnOk P w K mg base CX0 2 t.a_Q5 t.d_Q5 ["_law_top", "_law_bottom"] (sp_law_ratio K) := by
 refine T.F_Q5.ok sc_Q5 (fun vs H Q E h => ?_) (fun cdv A outer s H vs Q E hr h => ?_)
 ·obtain ⟨_, _, rfl, _⟩ := h; rfl
 obtain ⟨a, b, rfl, hb, hz, k⟩ := h
 refine QSs.ok (qss_consL (qsA 2 sc_Q5.nd (qcA (ok_Q24 T) hr T.m_Q24 T.F_Q24.kp T.b_Q24 (qa_cons (qe_callB call_abs (by rfl) T.z_abs boot_abs (qa_cons (qv 0) qa_nil star_name)) (qa_cons (qe_callB call_abs (by rfl) T.z_abs boot_abs (qa_cons (qv 1) qa_nil star_name)) qa_nil star_call) star_call)))
   (qss_consL (qs_if (qt_cmpR op_lt (qv 1) qe_int (nomark _)) (qss_one (qsA 2 sc_Q5.nd (qe_un un_neg (qv 2)))) qss_nil)
   (qss_one (qs_ret (qe_tup (qa_cons (qe_op op_quoN (qv 0) (qv 2)) (qa_cons (qe_op op_quoN (qv 1) (qv 2)) qa_nil star_bin) star_bin)))))) ?_
 extract_lets +lift
 try dsimp -zeta -zetaDelta only [Cx.nox, Cx.wish, cxOf]
 have gp := gcd_posN (a := a) hb
 have gb := gcd_big (a := a) hb hz
 refine ⟨_, rfl, _, rfl, _, rfl, _, rfl, _, _, rfl, (by split <;> omega), (by split <;> omega), ?_⟩
 rw [abs_if, abs_if]
 have eg : Int.gcd (a.natAbs : Int) (b.natAbs : Int) = Int.gcd a b := by simp [Int.gcd]
 rw [eg]
 refine ⟨_, rfl, _, _, rfl, rfl, _, rfl, ?_⟩
 by_cases hn : b < 0
 ·refine iteD1 hn ?_
  rw [← mkS_neg1 hn] at k
  have gm : (-((Int.gcd a b : Nat) : Int)).natAbs < 2 ^ 4000 := by rw [Int.natAbs_neg]; exact gb
  refine ⟨_, rfl, _, rfl, ?_⟩
  refine ⟨_, rfl, _, rfl, _, _, rfl, rfl, ⟨by omega, gm⟩, _, rfl, _, rfl, _, _, rfl, rfl, ⟨by omega, gm⟩, zl2, fun p hp => ?_⟩
  exact k p hp
 ·refine iteD0 hn ?_
  rw [← mkS_pos1 (by omega : 0 < b)] at k
  refine ⟨_, rfl, _, rfl, _, _, rfl, rfl, ⟨by omega, gb⟩, _, rfl, _, rfl, _, _, rfl, rfl, ⟨by omega, gb⟩, zl2, fun p hp => ?_⟩
  exact k p hp
theorem ok_Q16 (T : Txt K mg t) : FnOk P w K mg base CX0 3 t.a_Q16 t.d_Q16 ["_law_one", "_law_other"] (sp_law_plus K) := by
 refine T.F_Q16.ok sc_Q16 (fun vs H Q E h => ?_) (fun cdv A outer s H vs Q E hr h => ?_)
 ·obtain ⟨_, _, _, _, _, _, rfl, _⟩ := h; rfl
 obtain ⟨v, w, r, q, n, m, rfl, hv, hw, wr, wq, hz, k⟩ := h
 refine QSs.ok (qss_one (qs_ret (qcA (ok_Q5 T) hr T.m_Q5 T.F_Q5.kp T.b_Q5 (qa_cons (qe_op op_add (qe_op op_mulB (qxA ix_tup (qv 0) qe_int) (qxA ix_tup (qv 1) qe_int)) (qe_op op_mulB (qxA ix_tup (qv 1) qe_int) (qxA ix_tup (qv 0) qe_int))) (qa_cons (qe_op op_mulB (qxA ix_tup (qv 0) qe_int) (qxA ix_tup (qv 1) qe_int)) qa_nil star_bin) star_bin)))) ?_
 extract_lets +lift
 try dsimp -zeta -zetaDelta only [Cx.nox, Cx.wish, cxOf]
 obtain ⟨p, rfl, hv⟩ := hv
 obtain ⟨p', rfl, hw⟩ := hw
 have c1 := big_of wr.top (show n ≤ 4000 by omega)
 have c2 := big_of wr.bot (show n ≤ 4000 by omega)
 have c3 := big_of wq.top (show m ≤ 4000 by omega)
 have c4 := big_of wq.bot (show m ≤ 4000 by omega)
 have bp := Int.mul_pos wr.pos wq.pos
 refine ⟨_, rfl, p, _, _, _, rfl, rfl, hv, rfl, _, rfl, p', _, _, _, rfl, rfl, hw, rfl, _, _, rfl, rfl, ⟨c1, c4⟩, _, rfl, p', _, _, _, rfl, rfl, hw, rfl, _, rfl, p, _, _, _, rfl, rfl, hv, rfl, _, _, rfl, rfl, ⟨c3, c2⟩, _, _, rfl, rfl, _, rfl, p, _, _, _, rfl, rfl, hv, rfl, _, rfl, p', _, _, _, rfl, rfl, hw, rfl, _, _, rfl, rfl, ⟨c2, c4⟩, _, _, rfl, Int.ne_of_gt bp, big_of (mul_lt wr.bot wq.bot) (by omega), (by rw [mkS_pos bp]; exact k)⟩
theorem ok_Q6 (T : Txt K mg t) : FnOk P w K mg base CX0 3 t.a_Q6 t.d_Q6 ["_law_one", "_law_other"] (sp_law_minus K) := by
 refine T.F_Q6.ok sc_Q6 (fun vs H Q E h => ?_) (fun cdv A outer s H vs Q E hr h => ?_)
 ·obtain ⟨_, _, _, _, _, _, rfl, _⟩ := h; rfl
 obtain ⟨v, w, r, q, n, m, rfl, hv, hw, wr, wq, hz, k⟩ := h
 refine QSs.ok (qss_one (qs_ret (qcA (ok_Q5 T) hr T.m_Q5 T.F_Q5.kp T.b_Q5 (qa_cons (qe_op op_sub (qe_op op_mulB (qxA ix_tup (qv 0) qe_int) (qxA ix_tup (qv 1) qe_int)) (qe_op op_mulB (qxA ix_tup (qv 1) qe_int) (qxA ix_tup (qv 0) qe_int))) (qa_cons (qe_op op_mulB (qxA ix_tup (qv 0) qe_int) (qxA ix_tup (qv 1) qe_int)) qa_nil star_bin) star_bin)))) ?_
 extract_lets +lift
 try dsimp -zeta -zetaDelta only [Cx.nox, Cx.wish, cxOf]
 obtain ⟨p, rfl, hv⟩ := hv
 obtain ⟨p', rfl, hw⟩ := hw
 have c1 := big_of wr.top (show n ≤ 4000 by omega)
 have c2 := big_of wr.bot (show n ≤ 4000 by omega)
 have c3 := big_of wq.top (show m ≤ 4000 by omega)
 have c4 := big_of wq.bot (show m ≤ 4000 by omega)
 have bp := Int.mul_pos wr.pos wq.pos
 refine ⟨_, rfl, p, _, _, _, rfl, rfl, hv, rfl, _, rfl, p', _, _, _, rfl, rfl, hw, rfl, _, _, rfl, rfl, ⟨c1, c4⟩, _, rfl, p', _, _, _, rfl, rfl, hw, rfl, _, rfl, p, _, _, _, rfl, rfl, hv, rfl, _, _, rfl, rfl, ⟨c3, c2⟩, _, _, rfl, rfl, _, rfl, p, _, _, _, rfl, rfl, hv, rfl, _, rfl, p', _, _, _, rfl, rfl, hw, rfl, _, _, rfl, rfl, ⟨c2, c4⟩, _, _, rfl, Int.ne_of_gt bp, big_of (mul_lt wr.bot wq.bot) (by omega), (by rw [mkS_pos bp]; exact k)⟩
theorem ok_Q7 (T : Txt K mg t) : FnOk P w K mg base CX0 3 t.a_Q7 t.d_Q7 ["_law_one", "_law_other"] (sp_law_times K) := by
 refine T.F_Q7.ok sc_Q7 (fun vs H Q E h => ?_) (fun cdv A outer s H vs Q E hr h => ?_)
 ·obtain ⟨_, _, _, _, _, _, rfl, _⟩ := h; rfl
 obtain ⟨v, w, r, q, n, m, rfl, hv, hw, wr, wq, hz, k⟩ := h
 refine QSs.ok (qss_one (qs_ret (qcA (ok_Q5 T) hr T.m_Q5 T.F_Q5.kp T.b_Q5 (qa_cons (qe_op op_mulB (qxA ix_tup (qv 0) qe_int) (qxA ix_tup (qv 1) qe_int)) (qa_cons (qe_op op_mulB (qxA ix_tup (qv 0) qe_int) (qxA ix_tup (qv 1) qe_int)) qa_nil star_bin) star_bin)))) ?_
 extract_lets +lift
 try dsimp -zeta -zetaDelta only [Cx.nox, Cx.wish, cxOf]
 obtain ⟨p, rfl, hv⟩ := hv
 obtain ⟨p', rfl, hw⟩ := hw
 have c1 := big_of wr.top (show n ≤ 4000 by omega)
 have c2 := big_of wr.bot (show n ≤ 4000 by omega)
 have c3 := big_of wq.top (show m ≤ 4000 by omega)
 have c4 := big_of wq.bot (show m ≤ 4000 by omega)
 have bp := Int.mul_pos wr.pos wq.pos
 refine ⟨_, rfl, p, _, _, _, rfl, rfl, hv, rfl, _, rfl, p', _, _, _, rfl, rfl, hw, rfl, _, _, rfl, rfl, ⟨c1, c3⟩, _, rfl, p, _, _, _, rfl, rfl, hv, rfl, _, rfl, p', _, _, _, rfl, rfl, hw, rfl, _, _, rfl, rfl, ⟨c2, c4⟩, _, _, rfl, Int.ne_of_gt bp, big_of (mul_lt wr.bot wq.bot) (by omega), (by rw [mkS_pos bp]; exact k)⟩
theorem ok_Q17 (T : Txt K mg t) : FnOk P w K mg base CX0 3 t.a_Q17 t.d_Q17 ["_law_one", "_law_other"] (sp_law_over K) := by
 refine T.F_Q17.ok sc_Q17 (fun vs H Q E h => ?_) (fun cdv A outer s H vs Q E hr h => ?_)
 ·obtain ⟨_, _, _, _, _, _, rfl, _⟩ := h; rfl
 obtain ⟨v, w, r, q, n, m, rfl, hv, hw, wr, wq, hz, hq, k⟩ := h
 refine QSs.ok (qss_one (qs_ret (qcA (ok_Q5 T) hr T.m_Q5 T.F_Q5.kp T.b_Q5 (qa_cons (qe_op op_mulB (qxA ix_tup (qv 0) qe_int) (qxA ix_tup (qv 1) qe_int)) (qa_cons (qe_op op_mulB (qxA ix_tup (qv 0) qe_int) (qxA ix_tup (qv 1) qe_int)) qa_nil star_bin) star_bin)))) ?_
 extract_lets +lift
 try dsimp -zeta -zetaDelta only [Cx.nox, Cx.wish, cxOf]
 obtain ⟨p, rfl, hv⟩ := hv
 obtain ⟨p', rfl, hw⟩ := hw
 have c1 := big_of wr.top (show n ≤ 4000 by omega)
 have c2 := big_of wr.bot (show n ≤ 4000 by omega)
 have c3 := big_of wq.top (show m ≤ 4000 by omega)
 have c4 := big_of wq.bot (show m ≤ 4000 by omega)
 have bn : r.2 * q.1 ≠ 0 := Int.mul_ne_zero (by have := wr.pos; omega) hq
 refine ⟨_, rfl, p, _, _, _, rfl, rfl, hv, rfl, _, rfl, p', _, _, _, rfl, rfl, hw, rfl, _, _, rfl, rfl, ⟨c1, c4⟩, _, rfl, p, _, _, _, rfl, rfl, hv, rfl, _, rfl, p', _, _, _, rfl, rfl, hw, rfl, _, _, rfl, rfl, ⟨c2, c3⟩, _, _, rfl, bn, big_of (mul_lt wr.bot wq.top) (by omega), k⟩
theorem ok_Q18 (T : Txt K mg t) : FnOk P w K mg base CX0 1 t.a_Q18 t.d_Q18 ["_law_one", "_law_other"] (sp_law_less K) := by
 refine T.F_Q18.ok sc_Q18 (fun vs H Q E h => ?_) (fun cdv A outer s H vs Q E hr h => ?_)
 ·obtain ⟨_, _, _, _, _, _, rfl, _⟩ := h; rfl
 obtain ⟨v, w, r, q, n, m, rfl, hv, hw, wr, wq, hz, k⟩ := h
 refine QSs.ok (qss_one (qs_ret (qe_cmpR op_lt (qe_op op_mulB (qxA ix_tup (qv 0) qe_int) (qxA ix_tup (qv 1) qe_int)) (qe_op op_mulB (qxA ix_tup (qv 1) qe_int) (qxA ix_tup (qv 0) qe_int)) (nomark _)))) ?_
 extract_lets +lift
 try dsimp -zeta -zetaDelta only [Cx.nox, Cx.wish, cxOf]
 obtain ⟨p, rfl, hv⟩ := hv
 obtain ⟨p', rfl, hw⟩ := hw
 have c1 := big_of wr.top (show n ≤ 4000 by omega)
 have c2 := big_of wr.bot (show n ≤ 4000 by omega)
 have c3 := big_of wq.top (show m ≤ 4000 by omega)
 have c4 := big_of wq.bot (show m ≤ 4000 by omega)
 refine ⟨_, rfl, p, _, _, _, rfl, rfl, hv, rfl, _, rfl, p', _, _, _, rfl, rfl, hw, rfl, _, _, rfl, rfl, ⟨c1, c4⟩, _, rfl, p', _, _, _, rfl, rfl, hw, rfl, _, rfl, p, _, _, _, rfl, rfl, hv, rfl, _, _, rfl, rfl, ⟨c3, c2⟩, _, _, rfl, rfl, k⟩
theorem ok_Q25 (T : Txt K mg t) : FnOk P w K mg base CX0 4 t.a_Q25 t.d_Q25 ["_law_some"] (sp_law_sum K) := by
 refine T.F_Q25.ok sc_Q25 (fun vs H Q E h => ?_) (fun cdv A outer s H vs Q E hr h => ?_)
 ·obtain ⟨_, _, _, _, _, _, rfl, _⟩ := h; rfl
 obtain ⟨a, xs, rs, D, N, n, rfl, hS, al, bq, h0, h1, h2, hl, hn, k⟩ := h
 refine QSs.ok (qss_consL (qsA 1 sc_Q25.nd (qe_tup (qa_cons qe_int (qa_cons qe_int qa_nil star_con) star_con)))
   (qss_consL (qs_for PassesOwn.never rfl (qi_list (qv 0)) (qg_name (i := 2) sc_Q25.nd rfl (by first | exact Or.inl rfl | exact Or.inr rfl))
   (qss_one (qsA 1 sc_Q25.nd (qcA (ok_Q16 T) hr T.m_Q16 T.F_Q16.kp T.b_Q16 (qa_cons (qv 1) (qa_cons (qv 2) qa_nil star_name) star_name)))))
   (qss_one (qs_ret (qv 1))))) ?_
 extract_lets +lift
 try dsimp -zeta -zetaDelta only [Cx.nox, Cx.wish, cxOf]
 have hlen := al.len
 refine ⟨zl2, fun p0 hp0 => ?_⟩
 have s0 := same_new hp0 (.tup [.int 0, .int 1])
 refine ⟨_, rfl, a, rfl, ⟨_, s0.seq hS⟩, for_list (K := K) (a := a) (xs := xs) (fun i σ H' => ∃ (u : V) (x3 : Option V), σ = [some (.ref a), some u, x3] /\ Same H H' /\ RV K H' u (sumR (rs.take i))) ⟨_, none, rfl, s0, RV.of upd_same⟩ (fun i σ H1 _ ⟨_, _, _, s1, _⟩ => s1.seq hS) ?_ ?_⟩
 ·rintro i y σ H1 hi ⟨u, x3, rfl, s1, ru⟩
  obtain ⟨r, hr, rv⟩ := al.at hi
  have wr := bq_wfB (bq r (List.mem_of_getElem? hr)) h0 h1 h2
  have wu : Wf n (sumR (rs.take i)) := sum_wfB (fun z hz => bq z (List.mem_of_mem_take hz)) h0 h1 h2 (by rw [List.length_take]; omega)
  have e : sumR (rs.take (i + 1)) = plusR (sumR (rs.take i)) r := by
   unfold sumR
   rw [List.take_add_one, hr, List.foldl_append]
   rfl
  refine ⟨_, rfl, _, rfl, u, y, sumR (rs.take i), r, n, n, rfl, ru, rv.mono (Tst.same s1), wu, wr, by omega, fun p hp => ?_⟩
  have s2 := same_new hp (.tup [.int (plusR (sumR (rs.take i)) r).1, .int (plusR (sumR (rs.take i)) r).2])
  refine ⟨_, _, rfl, s1.trans s2, ?_⟩
  rw [e]; exact RV.of upd_same
 ·rintro σ H1 ⟨u, x3, rfl, s1, ru⟩
  rw [hlen, List.take_length] at ru
  exact ⟨_, rfl, k u H1 s1 ru⟩
theorem ok_Q19 (T : Txt K mg t) : FnOk P w K mg base CX0 3 t.a_Q19 t.d_Q19 ["_law_tape_here"] (sp_law_part K) := by
 refine T.F_Q19.ok sc_Q19 (fun vs H Q E h => ?_) (fun cdv A outer s H vs Q E hr h => ?_)
 ·obtain ⟨_, _, rfl, _⟩ := h; rfl
 obtain ⟨t₁, s₀, rfl, T0, k⟩ := h
 refine QSs.ok (qss_consL (qsA 1 sc_Q19.nd (qe_lst (qa_cons qe_int (qa_cons qe_int (qa_cons qe_int (qa_cons qe_int (qa_cons (qe_op op_add qe_int (qcA (ok_Q15 T) hr T.m_Q15 T.F_Q15.kp T.b_Q15 (qa_cons (qv 0) (qa_cons qe_int qa_nil star_con) star_name))) (qa_cons (qe_op op_add qe_int (qcA (ok_Q15 T) hr T.m_Q15 T.F_Q15.kp T.b_Q15 (qa_cons (qv 0) (qa_cons qe_int qa_nil star_con) star_name))) (qa_cons (qe_op op_add (qe_op op_pow qe_int qe_int) qe_int) qa_nil star_bin) star_bin) star_bin) star_con) star_con) star_con) star_con)))
   (qss_consL (qsA 2 sc_Q19.nd (qe_lst (qa_cons qe_int (qa_cons qe_int (qa_cons qe_int (qa_cons qe_int (qa_cons qe_int (qa_cons qe_int (qa_cons (qe_op op_add qe_int (qcA (ok_Q15 T) hr T.m_Q15 T.F_Q15.kp T.b_Q15 (qa_cons (qv 0) (qa_cons qe_int qa_nil star_con) star_name))) (qa_cons (qe_op op_pow qe_int qe_int) qa_nil star_bin) star_bin) star_con) star_con) star_con) star_con) star_con) star_con)))
   (qss_one (qs_ret (qcA (ok_Q5 T) hr T.m_Q5 T.F_Q5.kp T.b_Q5 (qa_cons (qxA ix_list (qv 1) (qcA (ok_Q15 T) hr T.m_Q15 T.F_Q15.kp T.b_Q15 (qa_cons (qv 0) (qa_cons qe_int qa_nil star_con) star_name))) (qa_cons (qxA ix_list (qv 2) (qcA (ok_Q15 T) hr T.m_Q15 T.F_Q15.kp T.b_Q15 (qa_cons (qv 0) (qa_cons qe_int qa_nil star_con) star_name))) qa_nil star_sub) star_sub)))))) ?_
 extract_lets +lift
 try dsimp -zeta -zetaDelta only [Cx.nox, Cx.wish, cxOf]
 refine ⟨_, rfl, t₁, s₀, 40, rfl, T0, by decide, by decide, fun r1 x1 a1 b1 T1 => ⟨_, _, rfl, rfl, _, rfl, t₁, s₀, 60000, rfl, T1, by decide, by decide, fun r2 x2 a2 b2 T2 => ⟨_, _, rfl, rfl, _, _, rfl, rfl, ⟨by decide, by decide, by decide⟩, _, _, rfl, rfl, zl7, fun l1 g1 => ?_⟩⟩⟩
 have T3 := T2.new g1 (.lst [.int 1, .int 2, .int 3, .int 5, .int (1 + r1), .int (1 + r2), .int (10 ^ 9 + 7)])
 refine ⟨_, rfl, t₁, s₀, 30, rfl, T3, by decide, by decide, fun r3 x3 a3 b3 T4 => ⟨_, _, rfl, rfl, _, _, rfl, rfl, ⟨by decide, by decide, by decide⟩, zl8, fun l2 g2 => ?_⟩⟩
 have T5 := T4.new g2 (.lst [.int 1, .int 1, .int 1, .int 2, .int 3, .int 6, .int (1 + r3), .int (10 ^ 9)])
 have n1 : l1 ≠ t₁ := fun z => by subst z; obtain ⟨_, e⟩ := T2.lst; rw [g1] at e; cases e
 have n2 : l2 ≠ t₁ := fun z => by subst z; obtain ⟨_, e⟩ := T4.lst; rw [g2] at e; cases e
 have n3 : l1 ≠ l2 := fun z => by subst z; rw [upd_ne n1, upd_same] at g2; cases g2
 refine ⟨_, rfl, _, rfl, t₁, s₀, 7, rfl, T5, by decide, by decide, fun r4 x4 a4 b4 T6 => ?_⟩
 obtain ⟨v1, hv1, m1⟩ := pick (xs := [.int 1, .int 2, .int 3, .int 5, .int (1 + r1), .int (1 + r2), .int (10 ^ 9 + 7)]) a4 b4
 refine ⟨l1, _, _, v1, rfl, rfl, SqL.of (by rw [upd_ne n1, upd_ne n3, upd_ne n1, upd_same] <;> rfl), hv1, ?_⟩
 refine ⟨_, rfl, _, rfl, t₁, s₀, 8, rfl, T6, by decide, by decide, fun r5 x5 a5 b5 T7 => ?_⟩
 obtain ⟨v2, hv2, m2⟩ := pick (xs := [.int 1, .int 1, .int 1, .int 2, .int 3, .int 6, .int (1 + r3), .int (10 ^ 9)]) a5 b5
 refine ⟨l2, _, _, v2, rfl, rfl, SqL.of (by rw [upd_ne n2, upd_ne n2, upd_same] <;> rfl), hv2, ?_⟩
 obtain ⟨z1, rfl, p1, q1⟩ : ∃ z : Int, v1 = .int z /\ 0 < z /\ z ≤ 1000000007 := by
  simp only [List.mem_cons, List.not_mem_nil, or_false] at m1
  rcases m1 with e | e | e | e | e | e | e
  all_goals exact ⟨_, e, by omega, by omega⟩
 obtain ⟨z2, rfl, p2, q2, d2⟩ : ∃ z : Int, v2 = .int z /\ 0 < z /\ z < 2 ^ 31 /\ z ∣ (D0 : Int) := by
  simp only [List.mem_cons, List.not_mem_nil, or_false] at m2
  rcases m2 with e | e | e | e | e | e | e | e
  ·exact ⟨_, e, by decide, by decide, by decide⟩
  ·exact ⟨_, e, by decide, by decide, by decide⟩
  ·exact ⟨_, e, by decide, by decide, by decide⟩
  ·exact ⟨_, e, by decide, by decide, by decide⟩
  ·exact ⟨_, e, by decide, by decide, by decide⟩
  ·exact ⟨_, e, by decide, by decide, by decide⟩
  ·exact ⟨_, e, by omega, by omega, div30 a3 b3⟩
  ·exact ⟨_, e, by decide, by decide, by decide⟩
 have w2 : z2.natAbs < 2 ^ 31 := by omega
 refine ⟨z1, z2, rfl, by omega, big_of w2 (by decide), ?_⟩
 rw [mkS_pos p2]
 intro p hp
 have S := (((((((Step.up (ys := x1) T0.lst.choose_spec).trans (Step.up (ys := x2) upd_same)).trans (Step.new ⟨_, upd_same⟩ g1 _)).trans (Step.up (ys := x3) T3.lst.choose_spec)).trans (Step.new T4.lst g2 _)).trans (Step.up (ys := x4) T5.lst.choose_spec)).trans (Step.up (ys := x5) T6.lst.choose_spec)).trans (Step.new T7.lst hp (.tup [.int (mkR z1 z2).1, .int (mkR z1 z2).2]))
 exact k _ (mkR z1 z2) _ (part_ok p1 q1 p2 d2) S (T7.new hp _) (RV.of upd_same)
theorem ok_Q8 (T : Txt K mg t) : FnOk P w K mg base CX0 4 t.a_Q8 t.d_Q8 ["_law_tape_here", "_law_most", "_law_end"] (sp_law_works K) := by
 refine T.F_Q8.ok sc_Q8 (fun vs H Q E h => ?_) (fun cdv A outer s H vs Q E hr h => ?_)
 ·obtain ⟨_, _, _, _, rfl, _⟩ := h; rfl
 obtain ⟨t₁, s₁, m, en, rfl, tp, hm, he1, he2, k⟩ := h
 refine QSs.ok (qss_consL (qsA 3 sc_Q8.nd (qe_lst qa_nil))
   (qss_consL (qs_for PassesOwn.never rfl (qi_range1 rfl T.z_range (qa_cons (qcA (ok_Q15 T) hr T.m_Q15 T.F_Q15.kp T.b_Q15 (qa_cons (qv 0) (qa_cons (qe_op op_add (qv 1) qe_int) qa_nil star_bin) star_name)) qa_nil star_call)) (qg_name (i := 4) sc_Q8.nd rfl (by first | exact Or.inl rfl | exact Or.inr rfl))
   (qss_consL (qsA 5 sc_Q8.nd (qcA (ok_Q15 T) hr T.m_Q15 T.F_Q15.kp T.b_Q15 (qa_cons (qv 0) (qa_cons (qv 2) qa_nil star_name) star_name)))
   (qss_consL (qsA 6 sc_Q8.nd (qe_op op_add (qv 5) (qcA (ok_Q15 T) hr T.m_Q15 T.F_Q15.kp T.b_Q15 (qa_cons (qv 0) (qa_cons (qe_op op_sub (qv 2) (qv 5)) qa_nil star_bin) star_name))))
   (qss_consL (qs_cut (qs_if (qw_pt (qw_and (qt_cmpR (op_neD hr) (qv 3) (qe_lst qa_nil) (nomark _)) (qw_and1 (qt_cmpR op_eq (qcA (ok_Q15 T) hr T.m_Q15 T.F_Q15.kp T.b_Q15 (qa_cons (qv 0) (qa_cons qe_int qa_nil star_con) star_name)) qe_int (nomark _))))) (qss_one (qs_asg (qe_slice sl_tupU (qxA ix_list (qv 3) (qcA (ok_Q15 T) hr T.m_Q15 T.F_Q15.kp T.b_Q15 (qa_cons (qv 0) (qa_cons (qe_callB call_len_seq (by rfl) T.z_len boot_len (qa_cons (qv 3) qa_nil star_name)) qa_nil star_call) star_name))) qo_none (qo_some qe_int)) (qg_tup rfl (qgs_cons (qg_name (i := 5) sc_Q8.nd rfl (by first | exact Or.inl rfl | exact Or.inr rfl)) (qgs_cons (qg_name (i := 6) sc_Q8.nd rfl (by first | exact Or.inl rfl | exact Or.inr rfl)) qgs_nil))))) qss_nil))
   (qss_consL (qs_cut (qs_if (qt_cmpR op_eq (qcA (ok_Q15 T) hr T.m_Q15 T.F_Q15.kp T.b_Q15 (qa_cons (qv 0) (qa_cons qe_int qa_nil star_con) star_name)) qe_int (nomark _)) (qss_one (qsA 6 sc_Q8.nd (qv 5))) qss_nil))
   (qss_one (qs_expr (qe_bm PySem.F.plainAttrs_list PySem.F.slot_list_append PySem.F.type_list_append mt_append (qv 3) (qa_cons (qe_tup (qa_cons (qv 5) (qa_cons (qv 6) (qa_cons (qcA (ok_Q19 T) hr T.m_Q19 T.F_Q19.kp T.b_Q19 (qa_cons (qv 0) qa_nil star_name)) qa_nil star_call) star_name) star_name)) qa_nil star_tup)))))))))
   (qss_one (qs_ret (qe_callTy call_tuple_of (by rfl) T.z_tuple boot_tuple (qa_cons (qv 3) qa_nil star_name)))))) ?_
 extract_lets +lift
 try dsimp -zeta -zetaDelta only [Cx.nox, Cx.wish, cxOf]
 refine ⟨(by show 0 ≤ sizeLine; exact Nat.zero_le _), fun ls h0 => ?_⟩
 obtain ⟨y0, e0⟩ := tp.lst
 obtain ⟨y0', e0'⟩ := tp.scr
 have nt : ls ≠ t₁ := fun z => by subst z; rw [e0] at h0; cases h0
 have ns : ls ≠ s₁ := fun z => by subst z; rw [e0'] at h0; cases h0
 have s0 := same_new h0 (.lst [])
 have hl0 : upd H ls (.lst []) ls = some (.lst []) := upd_same
 have T0 := tp.new h0 (.lst [])
 generalize upd H ls (.lst []) = H0 at s0 hl0 T0 ⊢
 obtain ⟨y1, e1⟩ := T0.lst
 refine ⟨_, rfl, _, rfl, _, _, rfl, rfl, t₁, s₁, _, rfl, T0, by omega, by omega, fun r1 z1 a1 b1 T1 => ?_⟩
 have S1 : Step t₁ H0 _ := Step.up (ys := z1) e1
 generalize upd H0 t₁ (.lst z1) = H1 at T1 S1 ⊢
 have hl1 := S1.keep _ _ nt hl0
 refine ⟨r1, rfl, by omega, by omega, for_range (lo := 0) (n := r1.toNat) (fun i σ H' => ∃ (xs : List V) (ws : List Wk) (x5 x6 x7 : Option V), σ = [some (.ref t₁), some (.int m), some (.int en), some (.ref ls), x5, x6, x7] /\ Tape H' t₁ s₁ /\ (∀ b o, b ≠ t₁ -> H b = some o -> H' b = some o) /\ H' ls = some (.lst xs) /\ Als (WkV K H') xs ws /\ ws.length = i /\ ∀ w ∈ ws, WkB w) ⟨[], [], none, none, none, rfl, T1, (fun b o nb q => S1.keep _ _ nb (s0 _ _ q)), hl1, .nil, rfl, fun w hw => by cases hw⟩ ?_ ?_⟩
 ·rintro i σ HI hi ⟨xs, ws, x5, x6, x7, rfl, TI, kp, hlI, alw, hlen, okw⟩
  have hxl := alw.len
  obtain ⟨y2, e2⟩ := TI.lst
  refine ⟨_, rfl, _, rfl, t₁, s₁, _, rfl, TI, by omega, by omega, fun r2 z2 a2 b2 T2 => ?_⟩
  have S2 : Step t₁ HI _ := Step.up (ys := z2) e2
  generalize upd HI t₁ (.lst z2) = H2 at T2 S2 ⊢
  obtain ⟨ff, rfl⟩ := Int.eq_ofNat_of_zero_le a2
  obtain ⟨y3, e3⟩ := T2.lst
  refine ⟨_, rfl, _, rfl, _, rfl, _, rfl, _, _, rfl, rfl, t₁, s₁, _, rfl, T2, by omega, by omega, fun r3 z3 a3 b3 T3 => ?_⟩
  have S3 : Step t₁ H2 _ := Step.up (ys := z3) e3
  generalize upd H2 t₁ (.lst z3) = H3 at T3 S3 ⊢
  have S23 := S2.trans S3
  refine ⟨_, _, rfl, rfl, ?_⟩
  obtain ⟨la, hla⟩ : ∃ la : Nat, (ff : Int) + r3 = (la : Nat) := ⟨((ff : Int) + r3).toNat, by omega⟩
  dsimp only
  rw [hla]
  have bf : ff ≤ la := by omega
  have bl : la < 24 := by omega
  have hl3 := S23.keep _ _ nt hlI
  refine ⟨fun σ H' => ∃ ff la : Nat, σ = [some (.ref t₁), some (.int m), some (.int en), some (.ref ls), some (.int (0 + (i : Int))), some (.int (ff : Nat)), some (.int (la : Nat))] /\ Step t₁ HI H' /\ Tape H' t₁ s₁ /\ ff ≤ la /\ la < 24, ?_, ?_⟩
  ·refine ⟨_, rfl, (by show 0 ≤ sizeLine; exact Nat.zero_le _), fun q hq => ?_⟩
   have sq := same_new hq (.lst [])
   have TQ := T3.new hq (.lst [])
   have hqq : upd H3 q (.lst []) q = some (.lst []) := upd_same
   generalize upd H3 q (.lst []) = HQ at sq TQ hqq ⊢
   have SQ := S23.trans (Step.same sq T3.lst)
   refine ⟨.list (ws.map dWk), .list [], .lst (SqL.of (sq _ _ hl3)) ((alw.mono fun _ _ z => z.mono (Tst.step (K := K) SQ)).deep fun _ _ z => z.deep), .lst (SqL.of hqq) .nil, wk_lay ws, rfl, wk_depth ws, _, rfl, ?_⟩
   cases ws with
   | nil => exact iteF (iteF ⟨ff, la, rfl, SQ, TQ, bf, bl⟩)
   | cons w0 wr =>
    refine iteT ?_
    have lp : 0 < xs.length := by rw [hxl]; exact Nat.succ_pos _
    obtain ⟨y4, e4⟩ := TQ.lst
    refine ⟨_, rfl, t₁, s₁, _, rfl, TQ, by omega, by omega, fun r4 z4 a4 b4 T4 => ?_⟩
    have S4 : Step t₁ HQ _ := Step.up (ys := z4) e4
    generalize upd HQ t₁ (.lst z4) = H4 at T4 S4 ⊢
    have S4' := SQ.trans S4
    refine ⟨rfl, _, rfl, ite2 (fun _ => ?_) (fun _ => ⟨ff, la, rfl, S4', T4, bf, bl⟩)⟩
    have hl4 := S4'.keep _ _ nt hlI
    obtain ⟨y5, e5⟩ := T4.lst
    refine ⟨_, rfl, _, rfl, _, rfl, ls, _, rfl, .inl (SqL.of hl4), t₁, s₁, _, rfl, T4, by omega, by omega, fun r5 z5 a5 b5 T5 => ?_⟩
    have S5 := S4'.trans (Step.up (ys := z5) e5)
    generalize upd H4 t₁ (.lst z5) = H5 at T5 S5 ⊢
    obtain ⟨j, rfl⟩ := Int.eq_ofNat_of_zero_le a5
    obtain ⟨xw, hxw⟩ : ∃ xw, xs[j]? = some xw := ⟨_, List.getElem?_eq_getElem (by omega)⟩
    obtain ⟨w, hw, pw0, xa, rfl, hSw, ra⟩ := alw.at hxw
    have wb := okw w (List.mem_of_getElem? hw)
    refine ⟨ls, _, _, _, rfl, rfl, SqL.of (S5.keep _ _ nt hlI), atI_nat hxw, ?_⟩
    refine ⟨_, rfl, pw0, _, rfl, Tst.step (K := K) S5 _ _ hSw, fun pc HP sP hpc => ?_⟩
    rw [show cutV [V.int (w.1 : Nat), V.int (w.2.1 : Nat), xa] none (some 2) = [V.int (w.1 : Nat), V.int (w.2.1 : Nat)] from cut_to (n := 2) (by show 2 ≤ 3; decide)] at hpc
    refine ⟨pc, _, rfl, hpc, rfl, _, _, rfl, _, _, rfl, rfl, ?_⟩
    exact ⟨w.1, w.2.1, rfl, S5.trans (Step.same sP T5.lst), T5.same sP, wb.le, wb.l2⟩
  ·rintro σ H6 ⟨ff, la, rfl, S6, T6, bf, bl⟩
   refine ⟨fun σ H' => ∃ la : Nat, σ = [some (.ref t₁), some (.int m), some (.int en), some (.ref ls), some (.int (0 + (i : Int))), some (.int (ff : Nat)), some (.int (la : Nat))] /\ Step t₁ HI H' /\ Tape H' t₁ s₁ /\ ff ≤ la /\ la < 24, ?_, ?_⟩
   ·obtain ⟨y7, e7⟩ := T6.lst
    refine ⟨_, rfl, t₁, s₁, _, rfl, T6, by omega, by omega, fun r7 z7 a7 b7 T7 => ?_⟩
    have S7 : Step t₁ H6 _ := Step.up (ys := z7) e7
    generalize upd H6 t₁ (.lst z7) = H7 at T7 S7 ⊢
    refine ⟨rfl, _, rfl, ite2 (fun _ => ?_) (fun _ => ?_)⟩
    ·exact ⟨_, rfl, ff, rfl, S6.trans S7, T7, Nat.le_refl _, by omega⟩
    ·exact ⟨la, rfl, S6.trans S7, T7, bf, bl⟩
   ·rintro σ H8 ⟨la, rfl, S8, T8, bf, bl⟩
    have hl8 := S8.keep _ _ nt hlI
    refine ⟨_, rfl, .inl ⟨rfl, _, SqL.of hl8⟩, _, rfl, _, rfl, _, rfl, t₁, s₁, rfl, T8, fun va ra H9 po S9 T9 rv => ?_⟩
    refine ⟨zl3, fun pw hpw => ?_⟩
    have sA := same_new hpw (.tup [.int (ff : Nat), .int (la : Nat), va])
    have hA : SqT K (upd H9 pw (.tup [.int (ff : Nat), .int (la : Nat), va])) pw [.int (ff : Nat), .int (la : Nat), va] := SqT.of upd_same
    have TA := T9.same sA
    generalize upd H9 pw (.tup [.int (ff : Nat), .int (la : Nat), va]) = HA at sA hA TA ⊢
    have SA := (S8.trans S9).trans (Step.same sA T9.lst)
    have hlA := SA.keep _ _ nt hlI
    refine ⟨ls, xs, _, rfl, rfl, hlA, small1000 (by omega), ?_⟩
    have tB : Tst K HA (upd HA ls (.lst (xs ++ [.ref pw]))) := Tst.up hlA _
    refine ⟨_, ws ++ [(ff, la, ra)], _, _, _, rfl, TA.upl nt ns _, fun b o nb q => ?_, upd_same, (alw.mono fun v d q => q.mono ((Tst.step (K := K) SA).trans tB)).snoc ⟨pw, va, rfl, tB _ _ hA, (rv.mono (Tst.same sA)).mono tB⟩, by rw [List.length_append, hlen]; rfl, fun z hz => ?_⟩
    ·rw [upd_ne (ne_of_none q h0)]
     exact SA.keep _ _ nb (kp b o nb q)
    ·rcases List.mem_append.mp hz with h | h
     ·exact okw z h
     ·rw [List.mem_singleton.mp h]
      exact ⟨bf, bl, po⟩
 ·rintro σ HI ⟨xs, ws, x5, x6, x7, rfl, TI, kp, hlI, alw, hlen, okw⟩
  refine ⟨_, rfl, ls, _, rfl, .inl ⟨SqL.of hlI, fun p hp => ?_⟩⟩
  have s5 := same_new hp (.tup xs)
  exact k (.ref p) ws _ (Step.trans ⟨kp, ⟨_, e0⟩, TI.lst⟩ (Step.same s5 TI.lst)) (TI.same s5) ⟨p, xs, rfl, SqT.of upd_same, alw.mono fun _ _ q => q.mono (Tst.same s5)⟩ (by rw [hlen]; omega) okw
theorem ok_Q9 (T : Txt K mg t) : FnOk P w K mg base CX0 4 t.a_Q9 t.d_Q9 ["_law_tape_here"] (sp_law_table K) := by
 refine T.F_Q9.ok sc_Q9 (fun vs H Q E h => ?_) (fun cdv A outer s H vs Q E hr h => ?_)
 ·obtain ⟨_, _, rfl, _⟩ := h; rfl
 obtain ⟨t₁, s₀, rfl, T0, k⟩ := h
 refine QSs.ok (qss_consL (qsA 1 sc_Q9.nd (qe_lst (qa_cons (qe_tup (qa_cons (qe_tup (qa_cons qe_int (qa_cons qe_int qa_nil star_con) star_con)) (qa_cons (qxA ix_list (qe_lst (qa_cons (qe_tup (qa_cons qe_int (qa_cons qe_int qa_nil star_con) star_con)) (qa_cons (qcA (ok_Q19 T) hr T.m_Q19 T.F_Q19.kp T.b_Q19 (qa_cons (qv 0) qa_nil star_name)) qa_nil star_call) star_tup)) (qcA (ok_Q15 T) hr T.m_Q15 T.F_Q15.kp T.b_Q15 (qa_cons (qv 0) (qa_cons qe_int qa_nil star_con) star_name))) qa_nil star_sub) star_tup)) qa_nil star_tup)))
   (qss_consL (qsA 2 sc_Q9.nd (qcA (ok_Q19 T) hr T.m_Q19 T.F_Q19.kp T.b_Q19 (qa_cons (qv 0) qa_nil star_name)))
   (qss_consL (qs_for PassesOwn.never rfl (qi_range1 rfl T.z_range (qa_cons (qxA ix_list (qe_lst (qa_cons qe_int (qa_cons qe_int (qa_cons qe_int (qa_cons qe_int (qa_cons qe_int qa_nil star_con) star_con) star_con) star_con) star_con)) (qcA (ok_Q15 T) hr T.m_Q15 T.F_Q15.kp T.b_Q15 (qa_cons (qv 0) (qa_cons qe_int qa_nil star_con) star_name))) qa_nil star_sub)) (qg_name (i := 3) sc_Q9.nd rfl (by first | exact Or.inl rfl | exact Or.inr rfl))
   (qss_consL (qsA 4 sc_Q9.nd (qcA (ok_Q19 T) hr T.m_Q19 T.F_Q19.kp T.b_Q19 (qa_cons (qv 0) qa_nil star_name)))
   (qss_consL (qs_asg (qxA ix_list (qv 1) (qe_un un_neg qe_int)) (qg_tup rfl (qgs_cons (qg_name (i := 5) sc_Q9.nd rfl (by first | exact Or.inl rfl | exact Or.inr rfl)) (qgs_cons (qg_name (i := 6) sc_Q9.nd rfl (by first | exact Or.inl rfl | exact Or.inr rfl)) qgs_nil))))
   (qss_consL (qs_expr (qe_bm PySem.F.plainAttrs_list PySem.F.slot_list_append PySem.F.type_list_append mt_append (qv 1) (qa_cons (qe_tup (qa_cons (qcA (ok_Q16 T) hr T.m_Q16 T.F_Q16.kp T.b_Q16 (qa_cons (qv 5) (qa_cons (qv 4) qa_nil star_name) star_name)) (qa_cons (qcA (ok_Q16 T) hr T.m_Q16 T.F_Q16.kp T.b_Q16 (qa_cons (qv 6) (qa_cons (qcA (ok_Q7 T) hr T.m_Q7 T.F_Q7.kp T.b_Q7 (qa_cons (qv 2) (qa_cons (qv 4) qa_nil star_name) star_name)) qa_nil star_call) star_name)) qa_nil star_call) star_call)) qa_nil star_tup)))
   (qss_one (qs_if (qt_cmpR op_gt (qcA (ok_Q15 T) hr T.m_Q15 T.F_Q15.kp T.b_Q15 (qa_cons (qv 0) (qa_cons qe_int qa_nil star_con) star_name)) qe_int (nomark _)) (qss_one (qsA 2 sc_Q9.nd (qcA (ok_Q16 T) hr T.m_Q16 T.F_Q16.kp T.b_Q16 (qa_cons (qv 2) (qa_cons (qcA (ok_Q19 T) hr T.m_Q19 T.F_Q19.kp T.b_Q19 (qa_cons (qv 0) qa_nil star_name)) qa_nil star_call) star_name)))) qss_nil))))))
   (qss_one (qs_ret (qe_tup (qa_cons qe_str (qa_cons (qe_callTy call_tuple_of (by rfl) T.z_tuple boot_tuple (qa_cons (qv 1) qa_nil star_name)) qa_nil star_call) star_con))))))) ?_
 extract_lets +lift
 try dsimp -zeta -zetaDelta only [Cx.nox, Cx.wish, cxOf]
 refine ⟨zl2, fun p0 h0 => ⟨zl2, fun p1 h1 => ⟨_, rfl, t₁, s₀, rfl, (T0.new h0 _).new h1 _, fun v r Ha oka Sa Ta hv => ⟨zl2, fun l hl => ?_⟩⟩⟩⟩
 have Tb := Ta.new hl (.lst [.ref p1, v])
 refine ⟨_, rfl, t₁, s₀, 2, rfl, Tb, by decide, by decide, fun r1 x1 a1 b1 Tc => ?_⟩
 have nl : l ≠ t₁ := fun z => by subst z; obtain ⟨_, e⟩ := Ta.lst; rw [hl] at e; cases e
 obtain ⟨vp, hvp, mvp⟩ := pick (xs := [.ref p1, v]) a1 b1
 refine ⟨l, _, _, vp, rfl, rfl, SqL.of (by rw [upd_ne nl, upd_same] <;> rfl), hvp, ?_⟩
 have Sf : Step t₁ _ _ := Step.up (ys := x1) Tb.lst.choose_spec
 have m0 := same_new h0 (.tup [.int 0, .int 1])
 have m1 := same_new h1 (.tup [.int 0, .int 1])
 have ml := same_new hl (.lst [.ref p1, v])
 have Sab : Step t₁ (upd (upd H p0 (.tup [.int 0, .int 1])) p1 (.tup [.int 0, .int 1])) _ := (Sa.trans (Step.same ml Ta.lst)).trans Sf
 have S0 : Step t₁ H _ := (Step.same (m0.trans m1) T0.lst).trans Sab
 have z0 : RV K (upd (upd H p0 (.tup [.int 0, .int 1])) p1 (.tup [.int 0, .int 1])) (.ref p0) (0, 1) := (rv_new (K := K) m0).mono (Tst.same m1)
 have z1 : RV K (upd (upd H p0 (.tup [.int 0, .int 1])) p1 (.tup [.int 0, .int 1])) (.ref p1) (0, 1) := rv_new (K := K) m1
 replace z0 := z0.mono (Tst.step Sab)
 replace z1 := z1.mono (Tst.step Sab)
 have zv := (hv.mono (Tst.same ml)).mono (Tst.step Sf)
 obtain ⟨y, by0, hy⟩ : ∃ y : R, Bq D0 N0 y /\ RV K (upd (upd Ha l (.lst [.ref p1, v])) t₁ (.lst x1)) vp y := by
  simp only [List.mem_cons, List.not_mem_nil, or_false] at mvp
  rcases mvp with rfl | rfl
  ·exact ⟨_, bq_zero, z1⟩
  ·exact ⟨_, oka.bq, zv⟩
 clear z1 zv hvp Sf Sab ml m0 m1
 generalize (upd (upd Ha l (.lst [.ref p1, v])) t₁ (.lst x1)) = Hb at S0 Tc z0 hy ⊢
 refine ⟨zl2, fun p2 h2 => ⟨zl1, fun lr hlr => ?_⟩⟩
 have m2 := same_new h2 (.tup [.ref p0, vp])
 have m3 := same_new hlr (.lst [.ref p2])
 have T3 := (Tc.same m2).same m3
 have nlt : lr ≠ t₁ := fun z => by subst z; obtain ⟨_, e⟩ := (Tc.same m2).lst; rw [hlr] at e; cases e
 have nls : lr ≠ s₀ := fun z => by subst z; obtain ⟨_, e⟩ := (Tc.same m2).scr; rw [hlr] at e; cases e
 have rw0 : RowV K (upd (upd Hb p2 (.tup [.ref p0, vp])) lr (.lst [.ref p2])) (.ref p2) ((0, 1), y) := ⟨p2, _, _, rfl, SqT.of (m3 _ _ upd_same), (z0.mono (Tst.same m2)).mono (Tst.same m3), (hy.mono (Tst.same m2)).mono (Tst.same m3)⟩
 have S3 := S0.trans (Step.same (m2.trans m3) Tc.lst)
 have hl0 : (upd (upd Hb p2 (.tup [.ref p0, vp])) lr (.lst [.ref p2])) lr = some (.lst [.ref p2]) := upd_same
 have ne_lr : ∀ b o, H b = some o -> b ≠ lr := fun b o q z => by
  subst z
  have : H b = none := by
   cases hb : H b with
   | none => rfl
   | some o' =>
    by_cases nb : b = t₁
    ·exact absurd nb nlt
    ·have := S0.keep _ _ nb hb
     have := m2 _ _ this
     rw [hlr] at this
     cases this
  rw [this] at q; cases q
 generalize (upd (upd Hb p2 (.tup [.ref p0, vp])) lr (.lst [.ref p2])) = Hc at T3 rw0 S3 hl0 ⊢
 refine ⟨_, rfl, t₁, s₀, rfl, T3, fun vs sl Hd okd Sd Td hvs => ?_⟩
 have hl1 := Sd.keep _ _ nlt hl0
 refine ⟨zl5, fun l5 h5 => ?_⟩
 have T5 := Td.new h5 (.lst [.int 1, .int 2, .int 3, .int 5, .int 11])
 refine ⟨_, rfl, t₁, s₀, 5, rfl, T5, by decide, by decide, fun r2 x2 a2 b2 T6 => ?_⟩
 have n5 : l5 ≠ t₁ := fun z => by subst z; obtain ⟨_, e⟩ := Td.lst; rw [h5] at e; cases e
 obtain ⟨vn, hvn, mvn⟩ := pick (xs := [.int 1, .int 2, .int 3, .int 5, .int 11]) a2 b2
 refine ⟨l5, _, _, vn, rfl, rfl, SqL.of (by rw [upd_ne n5, upd_same] <;> rfl), hvn, ?_⟩
 obtain ⟨nn, rfl, n1, n11⟩ : ∃ z : Int, vn = .int z /\ 1 ≤ z /\ z ≤ 11 := by
  simp only [List.mem_cons, List.not_mem_nil, or_false] at mvn
  rcases mvn with e | e | e | e | e
  all_goals exact ⟨_, e, by omega, by omega⟩
 have S6 : Step t₁ Hd _ := (Step.same (same_new h5 (.lst [.int 1, .int 2, .int 3, .int 5, .int 11])) Td.lst).trans (Step.up (ys := x2) T5.lst.choose_spec)
 have S36 := (S3.trans Sd).trans S6
 have hl6 := S6.keep _ _ nlt hl1
 have rw6 := (rw0.mono (Tst.step Sd)).mono (Tst.step S6)
 have hv6 := hvs.mono (Tst.step S6)
 generalize (upd (upd Hd l5 (.lst [.int 1, .int 2, .int 3, .int 5, .int 11])) t₁ (.lst x2)) = He at T6 S36 hl6 rw6 hv6 ⊢
 refine ⟨nn, rfl, by omega, by omega, for_range (lo := 0) (n := nn.toNat) (fun i σ H' => ∃ (vs : V) (x3 x4 x5 x6 : Option V), σ = [some (.ref t₁), some (.ref lr), some vs, x3, x4, x5, x6] /\ Tape H' t₁ s₀ /\ (∀ b o, b ≠ t₁ -> H b = some o -> H' b = some o) /\ ∃ xs rows sl, H' lr = some (.lst xs) /\ Als (RowV K H') xs rows /\ TabS i rows /\ RV K H' vs sl /\ Bq D0 ((i + 1) * N0) sl) ⟨vs, none, none, none, none, rfl, T6, S36.keep, [.ref p2], _, sl, hl6, .cons rw6 .nil, tabS_one by0, hv6, okd.bq.mono ⟨1, rfl⟩ (by omega)⟩ ?_ ?_⟩
 ·rintro i σ H1 hi ⟨vs, x3, x4, x5, x6, rfl, T1, kp, xs, rows, sl, hlx, als, tab, hsl, bsl⟩
  have i10 : i ≤ 10 := by omega
  refine ⟨_, rfl, t₁, s₀, rfl, T1, fun v4 st H2 ok4 S2 T2 h4 => ?_⟩
  have hlx2 := S2.keep _ _ nlt hlx
  obtain ⟨xl, w, hat, hw, rvw, _⟩ := (als.mono fun _ _ z => z.mono (Tst.step (K := K) S2)).last tab.tb.len
  obtain ⟨pw, y1, y2, exl, hSw, hy1, hy2⟩ := rvw
  have mw := List.mem_of_getElem? hw
  refine ⟨_, rfl, _, rfl, lr, xs, -1, xl, rfl, rfl, SqL.of hlx2, hat, ?_⟩
  refine ⟨pw, _, exl, hSw, rfl, _, _, rfl, _, _, rfl, rfl, ?_⟩
  have hsl2 := hsl.mono (Tst.step S2)
  have w4 := ok4.wf
  have wy1 := wf_sp (tab.tb.sp w mw) (by omega)
  have wy2 := wf_pw (tab.tb.pw w mw) (by omega)
  have wsl := wf_sp bsl (by omega)
  refine ⟨_, rfl, .inl ⟨rfl, _, SqL.of hlx2⟩, _, rfl, _, rfl, y1, v4, w.1, st, 98, 98, rfl, hy1, h4, wy1, w4, by decide, fun q1 g1 => ?_⟩
  have e1 := same_new g1 (.tup [.int (plusR w.1 st).1, .int (plusR w.1 st).2])
  refine ⟨_, rfl, _, rfl, _, rfl, vs, v4, sl, st, 98, 98, rfl, hsl2.mono (Tst.same e1), h4.mono (Tst.same e1), wsl, w4, by decide, fun q2 g2 => ?_⟩
  have e2 := same_new g2 (.tup [.int (timesR sl st).1, .int (timesR sl st).2])
  refine ⟨y2, .ref q2, w.2, timesR sl st, 197, 196, rfl, (hy2.mono (Tst.same e1)).mono (Tst.same e2), rv_new (K := K) e2, wy2, times_wf wsl w4, by decide, fun q3 g3 => ⟨zl2, fun q4 g4 => ?_⟩⟩
  have e3 := same_new g3 (.tup [.int (plusR w.2 (timesR sl st)).1, .int (plusR w.2 (timesR sl st)).2])
  have e4 := same_new g4 (.tup [.ref q1, .ref q3])
  have e14 := ((e1.trans e2).trans e3).trans e4
  have hlx3 := e14 _ _ hlx2
  have ra : RV K _ (.ref q1) (plusR w.1 st) := (((rv_new (K := K) e1).mono (Tst.same e2)).mono (Tst.same e3)).mono (Tst.same e4)
  have rb : RV K _ (.ref q3) (plusR w.2 (timesR sl st)) := (rv_new (K := K) e3).mono (Tst.same e4)
  have rn : RowV K _ (.ref q4) (plusR w.1 st, plusR w.2 (timesR sl st)) := ⟨q4, _, _, rfl, SqT.of upd_same, ra, rb⟩
  have T4 := T2.same e14
  have S24 := S2.trans (Step.same e14 T2.lst)
  have hsl4 := hsl2.mono (Tst.same e14)
  clear ra rb
  generalize (upd (upd (upd (upd H2 q1 (.tup [.int (plusR w.1 st).1, .int (plusR w.1 st).2])) q2 (.tup [.int (timesR sl st).1, .int (timesR sl st).2])) q3 (.tup [.int (plusR w.2 (timesR sl st)).1, .int (plusR w.2 (timesR sl st)).2])) q4 (.tup [.ref q1, .ref q3])) = H4 at hlx3 rn T4 S24 hsl4 ⊢
  refine ⟨lr, xs, _, rfl, rfl, hlx3, small1000 (by rw [als.len, tab.tb.len]; omega), ?_⟩
  have up := Tst.up (K := K) hlx3 (xs ++ [.ref q4])
  have T5 := T4.upl nlt nls (.lst (xs ++ [.ref q4]))
  have tm := (Tst.step (K := K) S24).trans up
  have als5 := (als.mono fun _ _ z => z.mono tm).snoc (rn.mono up)
  have tab5 := tab.snoc i10 hw bsl ok4
  have hsl5 := hsl4.mono up
  have kp5 : ∀ b o, b ≠ t₁ -> H b = some o -> (upd H4 lr (.lst (xs ++ [.ref q4]))) b = some o := fun b o nb q => by
   rw [upd_ne (ne_lr b o q)]
   exact S24.keep _ _ nb (kp b o nb q)
  have hlx5 : (upd H4 lr (.lst (xs ++ [.ref q4]))) lr = some (.lst (xs ++ [.ref q4])) := upd_same
  generalize (upd H4 lr (.lst (xs ++ [.ref q4]))) = H5 at T5 als5 hsl5 kp5 hlx5 ⊢
  refine ⟨_, rfl, t₁, s₀, 4, rfl, T5, by decide, by decide, fun r6 x6 a6 b6 T6 => ⟨_, _, rfl, rfl, _, rfl, ?_⟩⟩
  have S6 : Step t₁ H5 _ := Step.up (ys := x6) T5.lst.choose_spec
  by_cases c : 0 < r6
  ·refine iteD1 c ?_
   refine ⟨_, rfl, _, rfl, t₁, s₀, rfl, T6, fun v7 st7 H7 ok7 S7 T7 h7 => ?_⟩
   have S67 := S6.trans S7
   refine ⟨vs, v7, sl, st7, 98, 98, rfl, hsl5.mono (Tst.step S67), h7, wsl, ok7.wf, by decide, fun q8 g8 => ?_⟩
   have e8 := same_new g8 (.tup [.int (plusR sl st7).1, .int (plusR sl st7).2])
   have tm8 := (Tst.step (K := K) S67).trans (Tst.same e8)
   exact ⟨.ref q8, _, _, _, _, rfl, T7.same e8, fun b o nb q => e8 _ _ (S67.keep _ _ nb (kp5 b o nb q)), _, _, plusR sl st7, e8 _ _ (S67.keep _ _ nlt hlx5), als5.mono fun _ _ z => z.mono tm8, tab5, rv_new (K := K) e8, (bsl.plus (by decide) ok7.bq).mono ⟨1, rfl⟩ (by rw [Nat.add_mul (i + 1) 1]; omega)⟩
  ·refine iteD0 c ?_
   exact ⟨vs, _, _, _, _, rfl, T6, fun b o nb q => S6.keep _ _ nb (kp5 b o nb q), _, _, sl, S6.keep _ _ nlt hlx5, als5.mono fun _ _ z => z.mono (Tst.step S6), tab5, hsl5.mono (Tst.step S6), bsl.mono ⟨1, rfl⟩ (Nat.mul_le_mul_right _ (Nat.le_succ _))⟩
 ·rintro σ H1 ⟨vs, x3, x4, x5, x6, rfl, T1, kp, xs, rows, sl, hlx, als, tab, hsl, bsl⟩
  refine ⟨_, rfl, lr, xs, rfl, .inl ⟨SqL.of hlx, fun p3 h3 => ⟨zl2, fun p4 h4 => ?_⟩⟩⟩
  have m3 := same_new h3 (.tup xs)
  have m4 := same_new h4 (.tup [.str (Str.ofString "table"), .ref p3])
  have m := m3.trans m4
  exact k _ rows _ (tab.ok (by omega) (by omega)) ⟨fun b o nb q => m _ _ (kp b o nb q), T0.lst, (T1.same m).lst⟩ (T1.same m) ⟨p4, p3, xs, rfl, SqT.of upd_same, SqT.of (m4 _ _ upd_same), als.mono fun _ _ z => z.mono (Tst.same m)⟩
theorem ok_Q20 (T : Txt K mg t) : FnOk P w K mg base CX0 5 t.a_Q20 t.d_Q20 ["_law_tape_here"] (sp_law_rule K) := by
 refine T.F_Q20.ok sc_Q20 (fun vs H Q E h => ?_) (fun cdv A outer s H vs Q E hr h => ?_)
 ·obtain ⟨_, _, rfl, _⟩ := h; rfl
 obtain ⟨t₁, s₀, rfl, T0, k⟩ := h
 refine QSs.ok (qss_consL (qs_if (qt_cmpR op_eq (qcA (ok_Q15 T) hr T.m_Q15 T.F_Q15.kp T.b_Q15 (qa_cons (qv 0) (qa_cons qe_int qa_nil star_con) star_name)) qe_int (nomark _)) (qss_one (qs_ret (qe_tup (qa_cons qe_str (qa_cons (qe_op op_add qe_int (qcA (ok_Q15 T) hr T.m_Q15 T.F_Q15.kp T.b_Q15 (qa_cons (qv 0) (qa_cons qe_int qa_nil star_con) star_name))) qa_nil star_bin) star_con)))) qss_nil)
   (qss_one (qs_ret (qcA (ok_Q9 T) hr T.m_Q9 T.F_Q9.kp T.b_Q9 (qa_cons (qv 0) qa_nil star_name))))) ?_
 extract_lets +lift
 try dsimp -zeta -zetaDelta only [Cx.nox, Cx.wish, cxOf]
 refine ⟨_, rfl, t₁, s₀, 3, rfl, T0, by decide, by decide, fun r1 x1 a1 b1 T1 => ⟨rfl, _, rfl, ?_⟩⟩
 have S1 := Step.up (ys := x1) T0.lst.choose_spec
 by_cases h0 : r1 = 0
 ·refine iteD1 (by rw [h0]) ?_
  refine ⟨_, rfl, t₁, s₀, 3, rfl, T1, by decide, by decide, fun r2 x2 a2 b2 T2 => ⟨_, _, rfl, rfl, zl2, fun p hp => ?_⟩⟩
  exact k _ (.pow (2 + r2)) _ ⟨by omega, by omega⟩ ((S1.trans (Step.up (ys := x2) T1.lst.choose_spec)).trans (Step.new T2.lst hp _)) (T2.new hp _) ⟨p, rfl, SqT.of upd_same⟩
 refine iteD0 (fun z => h0 (by injection z)) ?_
 exact ⟨_, rfl, t₁, s₀, rfl, T1, fun v rows H' ok S T' hv => k v (.tab rows) H' ok (S1.trans S) T' hv⟩
theorem ok_Q10 (T : Txt K mg t) : FnOk P w K mg base CX0 4 t.a_Q10 t.d_Q10 ["_law_rule_here", "_law_speed_here"] (sp_law_power K) := by
 refine T.F_Q10.ok sc_Q10 (fun vs H Q E h => ?_) (fun cdv A outer s H vs Q E hr h => ?_)
 ·obtain ⟨_, _, _, _, rfl, _⟩ := h; rfl
 obtain ⟨v, w, rl, s, rfl, hv, ok, hw, hs, k⟩ := h
 refine QSs.ok (qss_consL (qs_if (qt_cmpR op_eq (qxA ix_tup (qv 0) qe_int) qe_str (nomark _)) (qss_consL (qsA 2 sc_Q10.nd (qv 1))
   (qss_consL (qs_for PassesOwn.never rfl (qi_range1 rfl T.z_range (qa_cons (qe_op op_sub (qxA ix_tup (qv 0) qe_int) qe_int) qa_nil star_bin)) (qg_name (i := 3) sc_Q10.nd rfl (by first | exact Or.inl rfl | exact Or.inr rfl))
   (qss_one (qsA 2 sc_Q10.nd (qcA (ok_Q7 T) hr T.m_Q7 T.F_Q7.kp T.b_Q7 (qa_cons (qv 2) (qa_cons (qv 1) qa_nil star_name) star_name)))))
   (qss_one (qs_ret (qv 2))))) qss_nil)
   (qss_consL (qs_for PassesOwn.never rfl (qi_zip rfl T.z_zip (qa_cons (qxA ix_tup (qv 0) qe_int) (qa_cons (qe_slice sl_tup (qxA ix_tup (qv 0) qe_int) (qo_some qe_int) qo_none) qa_nil star_sub) star_sub)) (qg_tup rfl (qgs_cons (qg_name (i := 4) sc_Q10.nd rfl (by first | exact Or.inl rfl | exact Or.inr rfl)) (qgs_cons (qg_name (i := 5) sc_Q10.nd rfl (by first | exact Or.inl rfl | exact Or.inr rfl)) qgs_nil)))
   (qss_one (qs_if (qt_not (qt_val (qcA (ok_Q18 T) hr T.m_Q18 T.F_Q18.kp T.b_Q18 (qa_cons (qxA ix_tup (qv 5) qe_int) (qa_cons (qv 1) qa_nil star_name) star_sub)))) (qss_consL (qsA 6 sc_Q10.nd (qcA (ok_Q17 T) hr T.m_Q17 T.F_Q17.kp T.b_Q17 (qa_cons (qcA (ok_Q6 T) hr T.m_Q6 T.F_Q6.kp T.b_Q6 (qa_cons (qxA ix_tup (qv 5) qe_int) (qa_cons (qxA ix_tup (qv 4) qe_int) qa_nil star_sub) star_sub)) (qa_cons (qcA (ok_Q6 T) hr T.m_Q6 T.F_Q6.kp T.b_Q6 (qa_cons (qxA ix_tup (qv 5) qe_int) (qa_cons (qxA ix_tup (qv 4) qe_int) qa_nil star_sub) star_sub)) qa_nil star_call) star_call)))
   (qss_one (qs_ret (qcA (ok_Q16 T) hr T.m_Q16 T.F_Q16.kp T.b_Q16 (qa_cons (qxA ix_tup (qv 4) qe_int) (qa_cons (qcA (ok_Q7 T) hr T.m_Q7 T.F_Q7.kp T.b_Q7 (qa_cons (qv 6) (qa_cons (qcA (ok_Q6 T) hr T.m_Q6 T.F_Q6.kp T.b_Q6 (qa_cons (qv 1) (qa_cons (qxA ix_tup (qv 4) qe_int) qa_nil star_sub) star_name)) qa_nil star_call) star_name)) qa_nil star_call) star_sub))))) qss_nil)))
   (qss_one (qs_ret qe_non)))) ?_
 extract_lets +lift
 try dsimp -zeta -zetaDelta only [Cx.nox, Cx.wish, cxOf]
 cases rl with
 | pow kk =>
  obtain ⟨p, rfl, hS⟩ := hv
  have ok' : 2 ≤ kk /\ kk ≤ 4 := ok
  refine ⟨_, rfl, p, _, _, _, rfl, rfl, hS, rfl, rfl, _, rfl, iteD1 rfl ?_⟩
  refine ⟨_, rfl, ?_⟩
  refine ⟨_, rfl, p, _, _, _, rfl, rfl, hS, rfl, _, _, rfl, rfl, kk - 1, rfl, by omega, by omega, for_range (lo := 0) (n := (kk - 1).toNat) (fun i σ H' => ∃ (u : V) (x3 : Option V), σ = [some (.ref p), some w, some u, x3, none, none, none] /\ Same H H' /\ RV K H' u (powR s (i + 1))) ⟨_, none, rfl, Same.refl H, by rw [pow_one hs.bq.red]; exact hw⟩ ?_ ?_⟩
  ·rintro i σ H1 hi ⟨u, x3, rfl, sm, hu⟩
   have wp := pow_wf hs.wf (i + 1)
   have le : 1 + (i + 1) * 310 ≤ 1300 := by
    have : (i + 1) * 310 ≤ 4 * 310 := Nat.mul_le_mul_right _ (by omega)
    omega
   refine ⟨_, rfl, _, rfl, u, w, powR s (i + 1), s, 1300, 310, rfl, hu, hw.mono (Tst.same sm), wp.mono le, hs.wf, by decide, fun q g => ?_⟩
   have e := same_new g (.tup [.int (timesR (powR s (i + 1)) s).1, .int (timesR (powR s (i + 1)) s).2])
   exact ⟨_, _, rfl, sm.trans e, rv_new (K := K) e⟩
  ·rintro σ H1 ⟨u, x3, rfl, sm, hu⟩
   refine ⟨_, rfl, k _ _ sm ?_⟩
   rw [dueM_yes (show Below (.pow kk) s from trivial)]
   have e : (kk - 1).toNat + 1 = kk.toNat := by omega
   rw [e] at hu
   exact hu
 | tab rows =>
  have ok' : RowsG rows := ok
  obtain ⟨p, q, xs, rfl, hS, hq, al⟩ := hv
  have n2 := ok'.n2
  have n12 := ok'.n12
  have hlen : xs.length = rows.length := al.len
  refine ⟨_, rfl, p, _, _, _, rfl, rfl, hS, rfl, rfl, _, rfl, iteD0 (by decide) ?_⟩
  refine ⟨_, rfl, p, _, _, _, rfl, rfl, hS, rfl, _, rfl, p, _, _, _, rfl, rfl, hS, rfl, _, rfl, q, xs, rfl, hq, ?_, fun pz hz => ?_⟩
  ·rintro ⟨z, _⟩
   rw [show (some (1 : Int)) = some (((1 : Nat) : Int)) from rfl, HT.sIx_nat, Nat.min_eq_left (by omega)] at z
   omega
  rw [cut_tail (by omega)]
  have m2 := same_new hz (.tup (xs.drop 1))
  have hpz0 : SqT K (upd H pz (.tup (xs.drop 1))) pz (xs.drop 1) := SqT.of upd_same
  generalize (upd H pz (.tup (xs.drop 1))) = Hz at hpz0 m2 ⊢
  refine ⟨q, pz, rfl, ⟨_, Tst.same m2 _ _ hq⟩, ⟨_, hpz0⟩, for_zip (K := K) (a := q) (b := pz) (xs := xs) (ys := xs.drop 1) (n := xs.length - 1) (fun i σ H' => ∃ (x4 x5 x6 : Option V), σ = [some (.ref p), some w, none, none, x4, x5, x6] /\ Same Hz H' /\ (i = 0 ∨ i < pOf rows s)) (by omega) (by rw [List.length_drop]; omega) (.inr (by rw [List.length_drop]; omega)) ⟨none, none, none, rfl, Same.refl Hz, .inl rfl⟩ (fun i σ H1 _ ⟨_, _, _, _, sm, _⟩ => ⟨Tst.same (m2.trans sm) _ _ hq, Tst.same sm _ _ hpz0⟩) ?_ ?_⟩
  ·rintro i x y pt σ H1 hi hx hy ⟨x4, x5, x6, rfl, sm, hip⟩ hpt
   have e1 := same_new hpt (.tup [x, y])
   obtain ⟨a, ha, rva⟩ := al.at hx
   have hy' : xs[i + 1]? = some y := by rw [List.getElem?_drop, Nat.add_comm] at hy; exact hy
   obtain ⟨b, hb', rvb⟩ := al.at hy'
   have slok := slG ok' (Nat.lt_succ_self i) ha hb'
   have wsl := slok.sl
   obtain ⟨wm, wt, wl⟩ := line_g slok hs.wf
   refine ⟨pt, _, rfl, SqT.of upd_same, rfl, _, _, rfl, _, _, rfl, rfl, ?_⟩
   have sm1 := (m2.trans sm).trans e1
   have t1 := Tst.same (K := K) sm1
   obtain ⟨pa, xa, ya, rfl, hSa, hxa, hya⟩ := rva.mono t1
   obtain ⟨pb, xb, yb, rfl, hSb, hxb, hyb⟩ := rvb.mono t1
   have hw1 := hw.mono t1
   refine ⟨_, rfl, pb, _, _, _, rfl, rfl, hSb, rfl, _, rfl, xb, w, b.1, s, 510, 310, rfl, hxb, hw1, slok.b1, hs.wf, by decide, _, rfl, ?_⟩
   rw [cnt_p hs.bq.pos ok'.inc ok'.allP hb']
   by_cases c : i + 1 < pOf rows s
   ·refine iteNS c ?_
    exact ⟨_, _, _, rfl, sm.trans e1, .inr c⟩
   refine iteN1 c ?_
   have hbl : Below (.tab rows) s := below_g ok' hs.bq.pos (by omega)
   have due : dueM (.tab rows) s = some (lineR a b s) := by
    rw [dueM_yes hbl]
    show some (powT rows s) = _
    unfold powT
    by_cases c0 : pOf rows s = 0
    ·rw [if_pos c0]
     have i0 : i = 0 := by omega
     subst i0
     rw [getD_at ha]
     have es := zero_g ok' hs c0
     obtain ⟨y0, ey⟩ := ok'.zero
     rw [ey] at ha
     cases ha
     have ma := List.mem_of_getElem? ey
     unfold lineR
     rw [es]
     have so : Red (slopeR ((0, 1), y0) b) := ⟨wsl.pos, wsl.cop⟩
     rw [line_zero (wred (ok'.pw _ ma)) so (wred (ok'.sp _ ma))]
    ·rw [if_neg c0]
     have ei : pOf rows s = i + 1 := by omega
     rw [ei, Nat.add_sub_cancel, getD_at ha, getD_at hb']
   refine ⟨_, rfl, pb, _, _, _, rfl, rfl, hSb, rfl, _, rfl, pa, _, _, _, rfl, rfl, hSa, rfl, yb, ya, b.2, a.2, 197, 197, rfl, hyb, hya, slok.b2, slok.a2, by decide, fun q1 g1 => ?_⟩
   have e2 := same_new g1 (.tup [.int (minusR b.2 a.2).1, .int (minusR b.2 a.2).2])
   refine ⟨_, rfl, pb, _, _, _, rfl, rfl, Tst.same e2 _ _ hSb, rfl, _, rfl, pa, _, _, _, rfl, rfl, Tst.same e2 _ _ hSa, rfl, xb, xa, b.1, a.1, 510, 510, rfl, hxb.mono (Tst.same e2), hxa.mono (Tst.same e2), slok.b1, slok.a1, by decide, fun q2 g2 => ?_⟩
   have e3 := same_new g2 (.tup [.int (minusR b.1 a.1).1, .int (minusR b.1 a.1).2])
   refine ⟨.ref q1, .ref q2, minusR b.2 a.2, minusR b.1 a.1, 395, 1021, rfl, (rv_new (K := K) e2).mono (Tst.same e3), rv_new (K := K) e3, slok.w2, slok.w1, by decide, slok.ne, fun q3 g3 => ?_⟩
   have e4 := same_new g3 (.tup [.int (overR (minusR b.2 a.2) (minusR b.1 a.1)).1, .int (overR (minusR b.2 a.2) (minusR b.1 a.1)).2])
   have hsl := rv_new (K := K) e4
   have e24 := (e2.trans e3).trans e4
   have sm4 := sm1.trans e24
   have hw4 := hw1.mono (Tst.same e24)
   replace hSa := Tst.same (K := K) e24 _ _ hSa
   replace hxa := hxa.mono (Tst.same e24)
   replace hya := hya.mono (Tst.same e24)
   clear e1 e2 e3 e4 e24 t1 hyb hSb hxb sm1 hw1
   generalize (upd (upd (upd (upd H1 pt (.tup [.ref pa, .ref pb])) q1 (.tup [.int (minusR b.2 a.2).1, .int (minusR b.2 a.2).2])) q2 (.tup [.int (minusR b.1 a.1).1, .int (minusR b.1 a.1).2])) q3 (.tup [.int (overR (minusR b.2 a.2) (minusR b.1 a.1)).1, .int (overR (minusR b.2 a.2) (minusR b.1 a.1)).2])) = H4 at hsl sm4 hw4 hSa hxa hya ⊢
   replace hsl : RV K H4 (.ref q3) (slopeR a b) := hsl
   refine ⟨_, rfl, pa, _, _, _, rfl, rfl, hSa, rfl, _, rfl, _, rfl, _, rfl, pa, _, _, _, rfl, rfl, hSa, rfl, w, xa, s, a.1, 310, 510, rfl, hw4, hxa, hs.wf, slok.a1, by decide, fun q5 g5 => ?_⟩
   have f5 := same_new g5 (.tup [.int (minusR s a.1).1, .int (minusR s a.1).2])
   refine ⟨.ref q3, .ref q5, slopeR a b, minusR s a.1, 1420, 821, rfl, hsl.mono (Tst.same f5), rv_new (K := K) f5, wsl, wm, by decide, fun q6 g6 => ?_⟩
   have f6 := same_new g6 (.tup [.int (timesR (slopeR a b) (minusR s a.1)).1, .int (timesR (slopeR a b) (minusR s a.1)).2])
   refine ⟨ya, .ref q6, a.2, timesR (slopeR a b) (minusR s a.1), 197, 2241, rfl, hya.mono (Tst.same (f5.trans f6)), rv_new (K := K) f6, slok.a2, wt, by decide, fun q7 g7 => ?_⟩
   have f7 := same_new g7 (.tup [.int (plusR a.2 (timesR (slopeR a b) (minusR s a.1))).1, .int (plusR a.2 (timesR (slopeR a b) (minusR s a.1))).2])
   refine k _ _ (sm4.trans ((f5.trans f6).trans f7)) ?_
   rw [due]
   exact rv_new (K := K) f7
  ·rintro σ H1 ⟨x4, x5, x6, rfl, sm, hip⟩
   refine k _ _ (m2.trans sm) ?_
   have nb : ¬ Below (.tab rows) s := fun z => by
    have := ok'.p_lt hs.bq.pos z
    omega
   rw [dueM_no nb]
   rfl
theorem ok_Q21 (T : Txt K mg t) : FnOk P w K mg base CX0 4 t.a_Q21 t.d_Q21 ["_law_tape_here", "_law_works_here"] (sp_law_plan K) := by
 refine T.F_Q21.ok sc_Q21 (fun vs H Q E h => ?_) (fun cdv A outer s H vs Q E hr h => ?_)
 ·obtain ⟨_, _, _, _, rfl, _⟩ := h; rfl
 obtain ⟨t₁, s₁, v, ws, rfl, tp, ⟨p, xs, rfl, hp, al⟩, l12, okw, k⟩ := h
 refine QSs.ok (qss_consL (qs_setC (i := 2) (N' := ["_law_t"]) (src := [none]) sc_Q21.nd rfl (by first | exact Or.inl rfl | exact Or.inr rfl) rfl (by exact (qi_range1 rfl T.z_range (qa_cons qe_int qa_nil star_con))) (fun _ _ _ _ _ => (by exact (by exact qg_name (i := 0) (by show List.Nodup (["_law_t"] : List Str); decide +kernel) (by exact rfl) (by first | exact Or.inl rfl | exact Or.inr rfl)))) (fun _ _ _ _ _ => qts_nil) (fun _ _ _ _ _ => (by exact (by exact (qe_lst qa_nil)))) (by exact trivial) rfl (by decide +kernel) rfl (by decide +kernel) (by exact cells_of rfl trivial))
   (qss_consL (qs_for PassesOwn.never rfl (qi_enum rfl T.z_enumerate (qa_cons (qv 1) qa_nil star_name)) (qg_tup rfl (qgs_cons (qg_name (i := 3) sc_Q21.nd rfl (by first | exact Or.inl rfl | exact Or.inr rfl)) (qgs_cons (qg_name (i := 4) sc_Q21.nd rfl (by first | exact Or.inl rfl | exact Or.inr rfl)) qgs_nil)))
   (qss_consL (qs_setC (i := 5) (N' := ["_law_t", "_law_tape_here"]) (src := [none, some 0]) sc_Q21.nd rfl (by first | exact Or.inl rfl | exact Or.inr rfl) rfl (by exact (qi_range2 rfl T.z_range (qa_cons (qxA ix_tup (qv 4) qe_int) (qa_cons (qe_op op_add (qxA ix_tup (qv 4) qe_int) qe_int) qa_nil star_bin) star_sub))) (fun _ _ _ _ _ => (by exact (by exact qg_name (i := 0) (by show List.Nodup (["_law_t", "_law_tape_here"] : List Str); decide +kernel) (by exact rfl) (by first | exact Or.inl rfl | exact Or.inr rfl)))) (fun _ _ _ _ _ => (qts_one (qt_cmpR op_eq (by exact (qe_call (ok_Q15 T) (by exact hr.mono (by decide)) (by exact rfl) T.m_Q15 T.F_Q15.kp T.b_Q15 (by exact .nil) (by exact pass0) (qa_cons (by exact (qv 1)) (qa_cons qe_int qa_nil star_con) star_name))) qe_int (nomark _)))) (fun _ _ _ _ _ => (by exact (by exact (qv 0)))) (by exact ⟨rfl, rfl, rfl, rfl, trivial⟩) rfl (by decide +kernel) rfl (by decide +kernel) (by exact cells_of rfl ⟨rfl, trivial⟩))
   (qss_consL (qs_cut (qs_if (qt_cmpR (op_eqD hr) (qv 5) (qe_lst qa_nil) (nomark _)) (qss_one (qsA 5 sc_Q21.nd (qe_lst (qa_cons (qe_op op_add (qxA ix_tup (qv 4) qe_int) (qcA (ok_Q15 T) hr T.m_Q15 T.F_Q15.kp T.b_Q15 (qa_cons (qv 0) (qa_cons (qe_op op_add (qe_op op_sub (qxA ix_tup (qv 4) qe_int) (qxA ix_tup (qv 4) qe_int)) qe_int) qa_nil star_bin) star_name))) qa_nil star_bin)))) qss_nil))
   (qss_consL (qs_setC (i := 6) (N' := ["_law_t", "_law_tape_here"]) (src := [none, some 0]) sc_Q21.nd rfl (by first | exact Or.inl rfl | exact Or.inr rfl) rfl (by exact (qi_list (qv 5))) (fun _ _ _ _ _ => (by exact (by exact qg_name (i := 0) (by show List.Nodup (["_law_t", "_law_tape_here"] : List Str); decide +kernel) (by exact rfl) (by first | exact Or.inl rfl | exact Or.inr rfl)))) (fun _ _ _ _ _ => qts_nil) (fun _ _ _ _ _ => (by exact (by exact (qe_op op_add qe_int (by exact (qe_call (ok_Q15 T) (by exact hr.mono (by decide)) (by exact rfl) T.m_Q15 T.F_Q15.kp T.b_Q15 (by exact .nil) (by exact pass0) (qa_cons (by exact (qv 1)) (qa_cons qe_int qa_nil star_con) star_name))))))) (by exact ⟨rfl, rfl, rfl, rfl, trivial⟩) rfl (by decide +kernel) rfl (by decide +kernel) (by exact cells_of rfl ⟨rfl, trivial⟩))
   (qss_one (qs_for PassesOwn.never rfl (qi_zipLL rfl T.z_zip (qa_cons (qv 5) (qa_cons (qv 6) qa_nil star_name) star_name)) (qg_tup rfl (qgs_cons (qg_name (i := 7) sc_Q21.nd rfl (by first | exact Or.inl rfl | exact Or.inr rfl)) (qgs_cons (qg_name (i := 8) sc_Q21.nd rfl (by first | exact Or.inl rfl | exact Or.inr rfl)) qgs_nil)))
   (qss_consL (qsA 9 sc_Q21.nd (qe_tup (qa_cons (qv 3) (qa_cons (qcA (ok_Q7 T) hr T.m_Q7 T.F_Q7.kp T.b_Q7 (qa_cons (qxA ix_tup (qv 4) qe_int) (qa_cons (qcA (ok_Q5 T) hr T.m_Q5 T.F_Q5.kp T.b_Q5 (qa_cons (qv 8) (qa_cons (qe_callB (call_sumL rfl) (by rfl) T.z_sum boot_sum (qa_cons (qv 6) qa_nil star_name)) qa_nil star_call) star_name)) qa_nil star_call) star_sub)) qa_nil star_call) star_name)))
   (qss_one (qs_expr (qe_bm PySem.F.plainAttrs_list PySem.F.slot_list_insert PySem.F.type_list_insert mt_insert (qxA ix_list (qv 2) (qv 7)) (qa_cons (qcA (ok_Q15 T) hr T.m_Q15 T.F_Q15.kp T.b_Q15 (qa_cons (qv 0) (qa_cons (qe_op op_add (qe_callB call_len_seq (by rfl) T.z_len boot_len (qa_cons (qxA ix_list (qv 2) (qv 7)) qa_nil star_sub)) qe_int) qa_nil star_bin) star_name)) (qa_cons (qv 9) qa_nil star_name) star_call)))))))))))
   (qss_one (qs_ret (qe_callTy call_tuple_of (by rfl) T.z_tuple boot_tuple (qa_cons (qe_lcomp (N' := ["_law_turn"]) (src := [none]) rfl (by exact (qi_list (qv 2))) (fun _ _ _ _ _ => (by exact (by exact qg_name (i := 0) (by show List.Nodup (["_law_turn"] : List Str); decide +kernel) (by exact rfl) (by first | exact Or.inl rfl | exact Or.inr rfl)))) (fun _ _ _ _ _ => qts_nil) (fun _ _ _ _ _ => (by exact (by exact (qe_callTy (call_tuple_ofK (K := K) (by exact rfl)) (by exact rfl) T.z_tuple boot_tuple (qa_cons (by exact (qv 0)) qa_nil star_name))))) (by exact trivial) rfl (by decide +kernel) rfl (by decide +kernel) (by exact cells_of rfl trivial)) qa_nil star_lc)))))) ?_
 extract_lets +lift
 try dsimp -zeta -zetaDelta only [Cx.nox, Cx.wish, cxOf]
 refine ⟨24, rfl, by decide, by decide, fun D hD => comp_own (J := Itr 0 24) (n := 24) (fun i ys H' => ∃ rows : List Addr, ys = rows.map V.ref /\ rows.length = i /\ rows.Nodup /\ D ∉ rows /\ (∀ r ∈ rows, H r = none) /\ Same H H' /\ H' D = some (.lst ys) /\ ∀ r ∈ rows, H' r = some (.lst [])) ⟨[], rfl, rfl, List.nodup_nil, (fun z => by cases z), (fun r hr => by cases hr), same_new hD _, upd_same, fun r hr => by cases hr⟩ (fun i ys H' hi _ => hi) (fun ys H1 ⟨rows, e1, e2, e3, e4, e5, e6, e7, e8⟩ => ⟨Nat.le_refl _, ?_⟩) ?_⟩
 rotate_left
 ·rintro i ys H1 x H2 hi ⟨rows, rfl, e2, e3, e4, e5, e6, e7, e8⟩ ⟨rfl, rfl⟩ R E kR kE
  refine ⟨Ext.set rfl, ?_⟩
  refine ⟨(by show 0 ≤ sizeLine; exact Nat.zero_le _), fun r hr => ?_⟩
  have s2 := same_new hr (.lst [])
  have nr : r ∉ rows := fun m => by rw [e8 r m] at hr; cases hr
  have nD : r ≠ D := fun z => by subst z; rw [e7] at hr; cases hr
  have hD4 := s2 _ _ e7
  refine kR (.ref r) _ hD4 (small1000 (by rw [List.length_map]; omega)) ⟨rows ++ [r], by rw [List.map_append]; rfl, by rw [List.length_append, e2]; rfl, ?_, ?_, fun z hz => ?_, fun b o q => ?_, upd_same, fun z hz => ?_⟩
  ·rw [List.nodup_append]
   exact ⟨e3, List.nodup_cons.mpr ⟨(fun z => by cases z), List.nodup_nil⟩, fun a ha b hb => by rw [List.mem_singleton.mp hb]; exact fun z => nr (by rw [← z]; exact ha)⟩
  ·intro m
   rcases List.mem_append.mp m with z | z
   ·exact e4 z
   ·exact nD (List.mem_singleton.mp z).symm
  ·rcases List.mem_append.mp hz with y | y
   ·exact e5 z y
   ·rw [List.mem_singleton.mp y]
    cases c : H r with
    | none => rfl
    | some o => rw [e6 _ _ c] at hr; cases hr
  ·rw [upd_ne (ne_of_none q hD)]
   exact s2 _ _ (e6 _ _ q)
  ·rcases List.mem_append.mp hz with y | y
   ·rw [upd_ne (show z ≠ D from fun w => e4 (by rw [← w]; exact y))]
    exact s2 _ _ (e8 z y)
   ·rw [List.mem_singleton.mp y, upd_ne nD, upd_same]
 have nD1 : D ≠ t₁ := fun z => by subst z; obtain ⟨_, e⟩ := tp.lst; rw [hD] at e; cases e
 have nrt : t₁ ∉ rows := fun m => by obtain ⟨_, e⟩ := tp.lst; rw [e5 _ m] at e; cases e
 have g1 : Grd K H1 D rows (List.replicate 24 []) := by
  refine ⟨by rw [e7, e1], e2, by rw [List.length_replicate], e3, e4, fun i r c hr hc => ?_⟩
  rw [List.getElem?_replicate] at hc
  split at hc
  ·cases hc; exact ⟨[], e8 r (List.mem_of_getElem? hr), .nil⟩
  ·cases hc
 have T1 := tp.same e6
 have kp1 : ∀ b o, b ≠ t₁ -> H b = some o -> H1 b = some o := fun b o _ q => e6 _ _ q
 have nul : ∀ c ∈ List.replicate 24 ([] : List Pc), c.length ≤ 0 /\ ∀ q ∈ c, Bq D1 N0 q.2 /\ 0 ≤ q.2.1 := fun c hc => by
  rw [(List.mem_replicate.mp hc).2]
  exact ⟨Nat.le_refl _, fun q hq => by cases hq⟩
 generalize List.replicate 24 ([] : List Pc) = pl0 at g1 nul
 have Sall : Step t₁ H H1 := Step.same e6 tp.lst
 have rnH : ∀ r ∈ rows, H r = none := e5
 clear e1 e6 e7 e8
 have hp1 : ∀ {H' : Hp}, (∀ b o, b ≠ t₁ -> H b = some o -> H' b = some o) -> SqT K H' p xs := fun {H'} kp => by
  rcases hp with (h | ⟨ob, h⟩) | h
  ·exact .inl (.inl (kp _ _ (fun z => by subst z; obtain ⟨_, e⟩ := tp.lst; rw [h] at e; cases e) h))
  ·exact .inl (.inr ⟨ob, kp _ _ (fun z => by subst z; obtain ⟨_, e⟩ := tp.lst; rw [h] at e; cases e) h⟩)
  ·exact .inr h
 refine ⟨_, rfl, p, rfl, ⟨_, hp1 kp1⟩, for_enum (K := K) (a := p) (xs := xs) (fun i σ H' => ∃ (pl : List (List Pc)) (x4 x5 x6 x7 x8 x9 xA : Option V), σ = [some (.ref t₁), some (.ref p), some (.ref D), x4, x5, x6, x7, x8, x9, xA] /\ (∀ b o, b ≠ t₁ -> H b = some o -> H' b = some o) /\ Tape H' t₁ s₁ /\ Grd K H' D rows pl /\ ∀ c ∈ pl, c.length ≤ i /\ ∀ q ∈ c, Bq D1 N0 q.2 /\ 0 ≤ q.2.1) ⟨pl0, none, none, none, none, none, none, none, rfl, kp1, T1, g1, nul⟩ (fun i σ H' _ ⟨_, _, _, _, _, _, _, _, _, kp, _⟩ => hp1 kp) ?_ ?_⟩
 ·rintro i x pt σ H2 hx ⟨pl, x4, x5, x6, x7, x8, x9, xA, rfl, kp, T2, g2, okp⟩ hpt
  obtain ⟨w, hw, pw, xa, rfl, hSw, ra⟩ := al.at hx
  have wb := okw w (List.mem_of_getElem? hw)
  have S02 : Step t₁ H H2 := ⟨kp, tp.lst, T2.lst⟩
  have e0 := same_new hpt (.tup [.int (i : Nat), .ref pw])
  have T3 := T2.same e0
  have g3 := g2.same e0
  have S03 := S02.trans (Step.same e0 T2.lst)
  refine ⟨pt, _, rfl, SqT.of upd_same, rfl, _, _, rfl, _, _, rfl, rfl, ?_⟩
  generalize upd H2 pt (.tup [.int (i : Nat), .ref pw]) = H3 at T3 g3 S03 ⊢
  clear e0 g2 T2 kp S02 hpt
  have t3 := Tst.step (K := K) S03
  have hSw3 := t3 _ _ hSw
  have wl := wb.le
  have w24 := wb.l2
  obtain ⟨n, hn⟩ : ∃ n : Nat, n = ((((w.2.1 : Nat) : Int) + 1) - (w.1 : Nat)).toNat := ⟨_, rfl⟩
  refine ⟨_, rfl, pw, _, _, _, rfl, rfl, hSw3, rfl, _, rfl, pw, _, _, _, rfl, rfl, hSw3, rfl, _, _, rfl, rfl, _, _, rfl, ⟨by omega, by omega, by omega, by omega⟩, fun D2 hD2 => ?_⟩
  rw [← hn]
  have n2t : D2 ≠ t₁ := fun z => by subst z; obtain ⟨_, e⟩ := T3.lst; rw [hD2] at e; cases e
  have n2s : D2 ≠ s₁ := fun z => by subst z; obtain ⟨_, e⟩ := T3.scr; rw [hD2] at e; cases e
  refine comp_own (J := Itr ((w.1 : Nat) : Int) n) (n := n) (fun j ys H' => ∃ sp : List Nat, ys = natS sp /\ sp.Pairwise (· < ·) /\ (∀ z ∈ sp, w.1 ≤ z /\ z < w.1 + j) /\ sp.length ≤ j /\ (∀ b o, b ≠ t₁ -> b ≠ D2 -> H3 b = some o -> H' b = some o) /\ Tape H' t₁ s₁ /\ H' D2 = some (.lst ys)) ⟨[], rfl, .nil, (fun z hz => by cases hz), Nat.zero_le _, (fun b o _ nb q => by rw [upd_ne nb]; exact q), T3.same (same_new hD2 _), upd_same⟩ (fun j ys H' hj _ => hj) (fun ys H4 ⟨sp, e1, e2, e3, e4, e5, e6, e7⟩ => ⟨Nat.le_refl _, ?_⟩) ?_
  rotate_left
  ·rintro j ys H' x H'' hj ⟨sp, rfl, pw1, rng, ln, kp', T', hD'⟩ ⟨rfl, rfl⟩ Rk E kR kE
   obtain ⟨y6, e6⟩ := T'.lst
   refine ⟨Ext.set rfl, _, rfl, t₁, s₁, 3, rfl, T', by decide, by decide, fun r zs a b T6 => ⟨rfl, _, rfl, ?_⟩⟩
   have S6 : Step t₁ _ _ := Step.up (ys := zs) e6
   by_cases c : r = 0
   ·refine iteD1 (by rw [c]) ?_
    have hD6 := S6.keep _ _ n2t hD'
    refine ⟨_, rfl, kR _ _ hD6 (small1000 (by unfold natS; rw [List.length_map]; omega)) ⟨sp ++ [w.1 + j], by unfold natS; rw [List.map_append]; rfl, ?_, ?_, by rw [List.length_append]; exact Nat.succ_le_succ ln, ?_, T6.upl n2t n2s _, upd_same⟩⟩
    ·refine List.pairwise_append.mpr ⟨pw1, List.pairwise_singleton _ _, fun a ha b hb => ?_⟩
     rw [List.mem_singleton.mp hb]
     exact (rng a ha).2
    ·intro z hz
     rcases List.mem_append.mp hz with h | h
     ·have := rng z h; omega
     ·rw [List.mem_singleton.mp h]; omega
    ·intro b o nb nb2 q
     rw [upd_ne nb2]
     exact S6.keep _ _ nb (kp' b o nb nb2 q)
   ·refine iteD0 (fun z => c (by injection z)) ?_
    exact kE _ ⟨sp, rfl, pw1, fun z hz => by have := rng z hz; omega, by omega, fun b o nb nb2 q => S6.keep _ _ nb (kp' b o nb nb2 q), T6, S6.keep _ _ n2t hD'⟩
  have kp4 : ∀ b o, b ≠ t₁ -> H3 b = some o -> H4 b = some o := fun b o nb q => e5 b o nb (ne_of_none q hD2) q
  have S34 : Step t₁ H3 H4 := ⟨kp4, T3.lst, e6.lst⟩
  have g4 := g3.step nD1 nrt S34
  refine ⟨fun σ H' => ∃ (ls : Addr) (sp : List Nat), σ = [some (.ref t₁), some (.ref p), some (.ref D), some (.int (i : Nat)), some (.ref pw), some (.ref ls), x7, x8, x9, xA] /\ Step t₁ H3 H' /\ Tape H' t₁ s₁ /\ H' ls = some (.lst (natS sp)) /\ ls ≠ t₁ /\ ls ≠ s₁ /\ sp.Pairwise (· < ·) /\ (∀ z ∈ sp, w.1 ≤ z /\ z ≤ w.2.1) /\ 1 ≤ sp.length /\ sp.length ≤ 24, ?_, ?_⟩
  ·refine ⟨_, rfl, (by show 0 ≤ sizeLine; exact Nat.zero_le _), fun q hq => ?_⟩
   have sq := same_new hq (.lst [])
   have Tq := e6.same sq
   rw [e1] at e7
   have h2q := sq _ _ e7
   have hqq : upd H4 q (.lst []) q = some (.lst []) := upd_same
   generalize upd H4 q (.lst []) = H5 at sq Tq h2q hqq ⊢
   have S35 := S34.trans (Step.same sq e6.lst)
   refine ⟨.list (natQ sp), .list [], .lst (SqL.of h2q) (deep_natS sp), .lst (SqL.of hqq) .nil, lay_natQ sp, rfl, (by have := dep_natQ sp; show PyData.depthAll (natQ sp) + 1 ≤ 32; omega), _, rfl, ?_⟩
   rw [eqv_natQ]
   cases sp with
   | cons z0 zr =>
    refine iteF ?_
    exact ⟨D2, z0 :: zr, rfl, S35, Tq, h2q, n2t, n2s, e2, fun z hz => by have := e3 z hz; omega, Nat.succ_le_succ (Nat.zero_le _), by have : (z0 :: zr).length ≤ n := e4; omega⟩
   | nil =>
    refine iteT ?_
    have hSw5 := Tst.step (K := K) S35 _ _ hSw3
    obtain ⟨y7, e7'⟩ := Tq.lst
    refine ⟨_, rfl, pw, _, _, _, rfl, rfl, hSw5, rfl, _, rfl, _, rfl, pw, _, _, _, rfl, rfl, hSw5, rfl, _, rfl, pw, _, _, _, rfl, rfl, hSw5, rfl, _, _, rfl, rfl, _, _, rfl, rfl, t₁, s₁, _, rfl, Tq, by omega, by omega, fun r zs a b T7 => ⟨_, _, rfl, rfl, zl1, fun l8 h8 => ?_⟩⟩
    have S7 : Step t₁ H5 _ := Step.up (ys := zs) e7'
    obtain ⟨rr, rfl⟩ := Int.eq_ofNat_of_zero_le a
    have nl8 : l8 ≠ t₁ := fun z => by subst z; obtain ⟨_, e⟩ := T7.lst; rw [h8] at e; cases e
    have ns8 : l8 ≠ s₁ := fun z => by subst z; obtain ⟨_, e⟩ := T7.scr; rw [h8] at e; cases e
    have e8 := same_new h8 (.lst (natS [w.1 + rr]))
    exact ⟨l8, [w.1 + rr], rfl, (S35.trans S7).trans (Step.same e8 T7.lst), T7.same e8, upd_same, nl8, ns8, List.pairwise_singleton _ _, fun z hz => by rw [List.mem_singleton.mp hz]; omega, Nat.le_refl 1, (by show 1 ≤ 24; decide)⟩
  ·rintro _ H6 ⟨ls, sp, rfl, S36, T6, hls, nlt, nls, spw, srg, sl1, sl24⟩
   have g6 := g3.step nD1 nrt S36
   have S06 := S03.trans S36
   clear e1 e2 e3 e4 e5 e6 e7 kp4 S34 g4 n2t n2s hD2
   have lns : (natS sp).length = sp.length := by unfold natS; rw [List.length_map]
   refine ⟨_, rfl, ls, rfl, ⟨_, SqL.of hls⟩, fun D3 hD3 => ?_⟩
   have n3t : D3 ≠ t₁ := fun z => by subst z; obtain ⟨_, e⟩ := T6.lst; rw [hD3] at e; cases e
   have n3s : D3 ≠ s₁ := fun z => by subst z; obtain ⟨_, e⟩ := T6.scr; rw [hD3] at e; cases e
   have n3l : ls ≠ D3 := fun z => by rw [z, hD3] at hls; cases hls
   refine comp_own (J := Itl K ls) (n := sp.length) (fun j ys H' => ∃ ns : List Int, ys = ns.map V.int /\ ns.length = j /\ (∀ z ∈ ns, 1 ≤ z /\ z ≤ 6) /\ (∀ b o, b ≠ t₁ -> b ≠ D3 -> H6 b = some o -> H' b = some o) /\ Tape H' t₁ s₁ /\ H' D3 = some (.lst ys)) ⟨[], rfl, rfl, (fun z hz => by cases hz), (fun b o _ nb q => by rw [upd_ne nb]; exact q), T6.same (same_new hD3 _), upd_same⟩ (fun j ys H' hj ⟨_, _, _, _, kp', _⟩ => ⟨_, _, SqL.of (kp' _ _ nlt n3l hls), List.getElem?_eq_getElem (by rw [lns]; exact hj)⟩) (fun ys H7 ⟨ns, e1, e2, e3, e5, e6, e7⟩ => ⟨⟨_, SqL.of (e5 _ _ nlt n3l hls), by rw [lns]; exact Nat.le_refl _⟩, ?_⟩) ?_
   rotate_left
   ·rintro j ys H' x H'' hj ⟨ns, rfl, ln, rng, kp', T', hD'⟩ ⟨rfl, _⟩ Rk E kR kE
    obtain ⟨y8, e8⟩ := T'.lst
    refine ⟨Ext.set rfl, _, rfl, t₁, s₁, 6, rfl, T', by decide, by decide, fun r zs a b T8 => ⟨_, _, rfl, rfl, ?_⟩⟩
    have S8 : Step t₁ _ _ := Step.up (ys := zs) e8
    exact kR _ _ (S8.keep _ _ n3t hD') (small1000 (by rw [List.length_map]; omega)) ⟨ns ++ [1 + r], by rw [List.map_append]; rfl, by rw [List.length_append, ln]; rfl, (fun z hz => by
     rcases List.mem_append.mp hz with h | h
     ·exact rng z h
     ·rw [List.mem_singleton.mp h]; omega), (fun b o nb nb2 q => by rw [upd_ne nb2]; exact S8.keep _ _ nb (kp' b o nb nb2 q)), T8.upl n3t n3s _, upd_same⟩
   have kp7 : ∀ b o, b ≠ t₁ -> H6 b = some o -> H7 b = some o := fun b o nb q => e5 b o nb (ne_of_none q hD3) q
   have S67 : Step t₁ H6 H7 := ⟨kp7, T6.lst, e6.lst⟩
   have g7 := g6.step nD1 nrt S67
   have S07 := S06.trans S67
   have hls7 := S67.keep _ _ nlt hls
   rw [e1] at e7
   have n3r : D3 ∉ rows := fun m => by obtain ⟨_, _, h, _⟩ := g6.at m; rw [hD3] at h; cases h
   have nlr : ls ∉ rows := fun m => by
    obtain ⟨xs', c, hx', al'⟩ := g6.at m
    rw [hls] at hx'
    cases hx'
    cases sp with
    | nil => exact absurd sl1 (by decide)
    | cons z zr =>
     cases al' with
     | cons h _ => obtain ⟨_, _, h, _⟩ := h; cases h
   refine ⟨_, rfl, _, rfl, ls, D3, rfl, ⟨_, SqL.of hls7⟩, ⟨_, SqL.of e7⟩, for_zipLL (K := K) (a := ls) (b := D3) (xs := natS sp) (ys := ns.map V.int) (n := sp.length) (fun j σ H' => ∃ (pl' : List (List Pc)) (x8 x9 xA : Option V), σ = [some (.ref t₁), some (.ref p), some (.ref D), some (.int (i : Nat)), some (.ref pw), some (.ref ls), some (.ref D3), x8, x9, xA] /\ (∀ b o, b ≠ t₁ -> b ∉ rows -> H7 b = some o -> H' b = some o) /\ Tape H' t₁ s₁ /\ Grd K H' D rows pl' /\ ∀ (u : Nat) (c : List Pc), pl'[u]? = some c -> c.length ≤ i + (if u ∈ sp.take j then 1 else 0) /\ ∀ q ∈ c, Bq D1 N0 q.2 /\ 0 ≤ q.2.1) (by rw [lns]; exact Nat.le_refl _) (by rw [List.length_map, e2]; exact Nat.le_refl _) (.inl (by rw [lns]; exact Nat.le_refl _)) ⟨pl, x8, x9, xA, rfl, (fun b o _ _ q => q), e6, g7, fun u c hc => by have := okp c (List.mem_of_getElem? hc); exact ⟨by omega, this.2⟩⟩ (fun j σ H' _ ⟨_, _, _, _, _, kp', _⟩ => ⟨SqL.of (kp' _ _ nlt nlr hls7), SqL.of (kp' _ _ n3t n3r e7)⟩) ?_ ?_⟩
   rotate_left
   ·rintro σ H8 ⟨pl', x8, x9, xA, rfl, kp', T8, g8, ok8⟩
    refine ⟨pl', _, _, _, _, _, _, _, rfl, fun b o nb q => kp' b o nb (fun m => by rw [rnH b m] at q; cases q) (S07.keep b o nb q), T8, g8, fun c hc => ?_⟩
    obtain ⟨u, hu⟩ := List.getElem?_of_mem hc
    have := ok8 u c hu
    refine ⟨Nat.le_trans this.1 ?_, this.2⟩
    split <;> omega
   rintro j x y pt σ H8 hj hx hy ⟨pl', x8, x9, xA, rfl, kp', T8, g8, ok8⟩ hpt
   obtain ⟨u, hu⟩ : ∃ u, sp[j]? = some u := ⟨_, List.getElem?_eq_getElem hj⟩
   obtain ⟨a, ha⟩ : ∃ a, ns[j]? = some a := ⟨_, List.getElem?_eq_getElem (by omega)⟩
   obtain rfl : x = V.int (u : Nat) := by unfold natS at hx; rw [List.getElem?_map, hu] at hx; cases hx; rfl
   obtain rfl : y = V.int a := by rw [List.getElem?_map, ha] at hy; cases hy; rfl
   have kH8 : ∀ b o, b ≠ t₁ -> H b = some o -> H8 b = some o := fun b o nb q => kp' b o nb (fun m => by rw [rnH b m] at q; cases q) (S07.keep b o nb q)
   have S08 : Step t₁ H H8 := ⟨kH8, tp.lst, T8.lst⟩
   have e9 := same_new hpt (.tup [.int (u : Nat), .int a])
   have T9 := T8.same e9
   have g9 := g8.same e9
   have S09 := S08.trans (Step.same e9 T8.lst)
   have h39 := e9 _ _ (kp' _ _ n3t n3r e7)
   have kp9 : ∀ b o, b ≠ t₁ -> b ∉ rows -> H7 b = some o -> upd H8 pt (.tup [.int (u : Nat), .int a]) b = some o := fun b o nb nb2 q => e9 _ _ (kp' b o nb nb2 q)
   refine ⟨pt, _, rfl, SqT.of upd_same, rfl, _, _, rfl, _, _, rfl, rfl, ?_⟩
   generalize upd H8 pt (.tup [.int (u : Nat), .int a]) = H9 at T9 g9 S09 h39 kp9 ⊢
   have t9 := Tst.step (K := K) S09
   have hSw9 := t9 _ _ hSw
   have ra9 := ra.mono t9
   have ma := List.mem_of_getElem? ha
   have sm : a ≤ ns.sum /\ ns.sum ≤ 144 := sum_bd e3 (by omega) ma
   have a1 := (e3 a ma).1
   obtain ⟨bsh, psh⟩ := share_bq a1 sm.1 sm.2
   refine ⟨_, rfl, _, rfl, pw, _, _, _, rfl, rfl, hSw9, rfl, _, rfl, _, rfl, D3, ns, rfl, SqL.of h39, a, ns.sum, rfl, by omega, big_of (n := 8) (by omega) (by decide), fun q1 g1 => ?_⟩
   have s10 := same_new g1 (.tup [.int (mkS a ns.sum).1, .int (mkS a ns.sum).2])
   refine ⟨xa, .ref q1, w.2.2, mkS a ns.sum, 98, 210, rfl, ra9.mono (Tst.same s10), rv_new (K := K) s10, wb.po.wf, bsh.wf (by decide) (by decide) (by decide), by decide, fun q2 g2' => ⟨zl2, fun q3 g3' => ?_⟩⟩
   have s11 := same_new g2' (.tup [.int (timesR w.2.2 (mkS a ns.sum)).1, .int (timesR w.2.2 (mkS a ns.sum)).2])
   have s12 := same_new g3' (.tup [.int (i : Nat), .ref q2])
   have s9c := (s10.trans s11).trans s12
   have bpc : Bq D1 N0 (timesR w.2.2 (mkS a ns.sum)) /\ 0 ≤ (timesR w.2.2 (mkS a ns.sum)).1 := ⟨(wb.po.bq.times bsh).mono ⟨1, by decide⟩ (by decide), Int.le_of_lt (times_pos wb.po.bq.pos bsh.pos wb.po.pos psh)⟩
   have hpc : PcV K (upd (upd (upd H9 q1 (.tup [.int (mkS a ns.sum).1, .int (mkS a ns.sum).2])) q2 (.tup [.int (timesR w.2.2 (mkS a ns.sum)).1, .int (timesR w.2.2 (mkS a ns.sum)).2])) q3 (.tup [.int (i : Nat), .ref q2])) (.ref q3) ((i : Int), timesR w.2.2 (mkS a ns.sum)) := ⟨q3, .ref q2, rfl, SqT.of upd_same, (rv_new (K := K) s11).mono (Tst.same s12)⟩
   have TC := T9.same s9c
   have gC := g9.same s9c
   have kpC : ∀ b o, b ≠ t₁ -> b ∉ rows -> H7 b = some o -> (upd (upd (upd H9 q1 (.tup [.int (mkS a ns.sum).1, .int (mkS a ns.sum).2])) q2 (.tup [.int (timesR w.2.2 (mkS a ns.sum)).1, .int (timesR w.2.2 (mkS a ns.sum)).2])) q3 (.tup [.int (i : Nat), .ref q2])) b = some o := fun b o nb nb2 q => s9c _ _ (kp9 b o nb nb2 q)
   generalize (upd (upd (upd H9 q1 (.tup [.int (mkS a ns.sum).1, .int (mkS a ns.sum).2])) q2 (.tup [.int (timesR w.2.2 (mkS a ns.sum)).1, .int (timesR w.2.2 (mkS a ns.sum)).2])) q3 (.tup [.int (i : Nat), .ref q2])) = HC at hpc TC gC kpC ⊢
   generalize timesR w.2.2 (mkS a ns.sum) = pr at bpc hpc
   clear s9c s10 s11 s12 g1 g2' g3' T9 g9 kp9 h39 ra9 hSw9
   have u24 : u < 24 := by have := srg u (List.mem_of_getElem? hu); omega
   obtain ⟨r, hr'⟩ : ∃ r, rows[u]? = some r := ⟨_, List.getElem?_eq_getElem (by rw [gC.len]; exact u24)⟩
   obtain ⟨c, hc⟩ : ∃ c, pl'[u]? = some c := ⟨_, List.getElem?_eq_getElem (by rw [gC.pln]; exact u24)⟩
   obtain ⟨zs, hz, az⟩ := gC.row u r c hr' hc
   have hat : (rows.map V.ref)[u]? = some (.ref r) := by rw [List.getElem?_map, hr']; rfl
   have mr := List.mem_of_getElem? hr'
   have nrt1 : r ≠ t₁ := fun z => nrt (by rw [← z]; exact mr)
   have okc := ok8 u c hc
   have i12 : i < 12 := by have := (List.getElem?_eq_some_iff.mp hw).1; omega
   have lz : zs.length = c.length := az.len
   have cl : c.length ≤ 12 := by have := okc.1; split at this <;> omega
   obtain ⟨yC, eC⟩ := TC.lst
   refine ⟨_, rfl, _, rfl, D, _, _, _, rfl, rfl, SqL.of gC.top, atI_nat hat, .inl ⟨rfl, _, SqL.of hz⟩, _, rfl, _, rfl, _, rfl, D, _, _, _, rfl, rfl, SqL.of gC.top, atI_nat hat, r, _, rfl, .inl (SqL.of hz), _, _, rfl, rfl, t₁, s₁, _, rfl, TC, by omega, by omega, fun rr vs' a' b' TD => ?_⟩
   obtain ⟨jn, rfl⟩ := Int.eq_ofNat_of_zero_le a'
   have SD : Step t₁ HC _ := Step.up (ys := vs') eC
   have gD := gC.step nD1 nrt SD
   have hzD := SD.keep _ _ nrt1 hz
   have azD := az.mono fun _ _ z => z.mono (Tst.step (K := K) SD)
   have hpD := hpc.mono (Tst.step (K := K) SD)
   generalize upd HC t₁ (.lst vs') = HD at TD SD gD hzD azD hpD ⊢
   have nrs : r ≠ s₁ := fun z => by obtain ⟨_, e⟩ := tp.scr; rw [← z, rnH r mr] at e; cases e
   refine ⟨_, rfl, r, zs, jn, .ref q3, rfl, rfl, hzD, by omega, small1000 (by omega), ?_⟩
   refine ⟨pl'.set u (c.take jn ++ ((i : Int), pr) :: c.drop jn), _, _, _, rfl, fun b o nb nb2 q => ?_, TD.upl nrt1 nrs _, gD.ins hr' hc hzD azD hpD, fun u' c' hc' => ?_⟩
   ·rw [upd_ne (fun z => nb2 (by rw [z]; exact mr))]
    exact SD.keep _ _ nb (kpC b o nb nb2 q)
   ·have tk : sp.take (j + 1) = sp.take j ++ [u] := by rw [List.take_add_one, hu]; rfl
    by_cases e : u' = u
    ·subst e
     rw [List.getElem?_set_self (List.getElem?_eq_some_iff.mp hc).1] at hc'
     cases hc'
     have l0 := okc.1
     rw [if_neg (rise_not spw hu)] at l0
     rw [if_pos (by rw [tk]; exact List.mem_append_right _ List.mem_cons_self)]
     refine ⟨?_, fun q hq => ?_⟩
     ·rw [List.length_append, List.length_cons, List.length_take, List.length_drop]
      omega
     ·rcases List.mem_append.mp hq with h | h
      ·exact okc.2 q (List.mem_of_mem_take h)
      ·rcases List.mem_cons.mp h with h | h
       ·rw [h]; exact bpc
       ·exact okc.2 q (List.mem_of_mem_drop h)
    ·rw [List.getElem?_set_ne (Ne.symm e)] at hc'
     have o' := ok8 u' c' hc'
     refine ⟨Nat.le_trans o'.1 (Nat.add_le_add_left ?_ _), o'.2⟩
     by_cases m : u' ∈ sp.take j
     ·rw [if_pos m, if_pos (by rw [tk]; exact List.mem_append_left _ m)]
      exact Nat.le_refl _
     ·rw [if_neg m]; exact Nat.zero_le _
 ·rintro σ H2 ⟨pl, x4, x5, x6, x7, x8, x9, xA, rfl, kp, T2, g2, okp⟩
  have hl12 : xs.length ≤ 12 := by rw [al.len]; exact l12
  refine ⟨_, rfl, D, rfl, ⟨_, SqL.of g2.top⟩, fun D2 hD2 => comp_mapL (K := K) (a := D) (xs := rows.map V.ref) (ds := pl) (P := TuV K) (f := fun c => c) (fun _ _ _ _ t z => z.mono t) hD2 (SqL.of g2.top) (by rw [List.length_map, g2.len, g2.pln]) (by rw [g2.pln]; decide) (fun i x d H' hx hd sm Rk E kR => ?_) fun HA ms sA hmA amA => ?_⟩
  ·rw [List.getElem?_map] at hx
   obtain ⟨r, hr', rfl⟩ : ∃ r, rows[i]? = some r /\ x = .ref r := by
    cases hrr : rows[i]? with
    | none => rw [hrr] at hx; cases hx
    | some r => rw [hrr] at hx; cases hx; exact ⟨r, rfl, rfl⟩
   obtain ⟨zs, hz, az⟩ := g2.row i r d hr' hd
   refine ⟨Ext.set rfl, _, rfl, r, zs, rfl, .inl ⟨SqL.of (sm _ _ hz), fun l hl => ?_⟩⟩
   have e := same_new hl (.tup zs)
   exact kR _ _ e ⟨l, zs, rfl, SqT.of upd_same, az.mono fun _ _ z => z.mono (Tst.same (sm.trans e))⟩
  rw [show pl.map (fun c => c) = pl from List.map_id' pl] at amA
  refine ⟨D2, ms, rfl, .inl ⟨SqL.of hmA, fun l hl => ?_⟩⟩
  have e := same_new hl (.tup ms)
  have sAe := sA.trans e
  exact k _ pl _ ⟨fun b o nb q => sAe _ _ (kp b o nb q), tp.lst, (T2.same sAe).lst⟩ (T2.same sAe) ⟨l, ms, rfl, SqT.of upd_same, amA.mono fun _ _ z => z.mono (Tst.same e)⟩ ⟨g2.pln, fun c hc => ⟨by have := (okp c hc).1; omega, (okp c hc).2⟩⟩
theorem ok_Q2 (T : Txt K mg t) : FnOk P w K mg base CX0 4 t.a_Q2 t.d_Q2 ["_law_rule_here", "_law_speeds", "_law_part_here"] (sp_law_scaled K) := by
 refine T.F_Q2.ok sc_Q2 (fun vs H Q E h => ?_) (fun cdv A outer s H vs Q E hr h => ?_)
 ·obtain ⟨_, _, _, _, _, _, rfl, _⟩ := h; rfl
 obtain ⟨v, w, u, rl, ss, pt, rfl, hv, ok, hw, l24, oks, hu, hpt, k⟩ := h
 refine QSs.ok (qss_consL (qs_if (qw_pt (qw_or (qt_cmpR op_eq (qxA ix_tup (qv 0) qe_int) qe_str (nomark _)) (qw_or1 (qt_cmpR (op_eqD hr) (qv 1) (qe_tup qa_nil) (nomark _))))) (qss_one (qs_ret (qv 0))) qss_nil)
   (qss_consL (qsA 3 sc_Q2.nd (qe_tup (qa_cons qe_int (qa_cons qe_int qa_nil star_con) star_con)))
   (qss_consL (qs_for PassesOwn.never rfl (qi_tup (qv 1)) (qg_name (i := 4) sc_Q2.nd rfl (by first | exact Or.inl rfl | exact Or.inr rfl))
   (qss_one (qs_if (qt_val (qcA (ok_Q18 T) hr T.m_Q18 T.F_Q18.kp T.b_Q18 (qa_cons (qv 3) (qa_cons (qv 4) qa_nil star_name) star_name))) (qss_one (qsA 3 sc_Q2.nd (qv 4))) qss_nil)))
   (qss_consL (qs_if (qt_cmpR (op_eqD hr) (qv 3) (qe_tup (qa_cons qe_int (qa_cons qe_int qa_nil star_con) star_con)) (nomark _)) (qss_one (qs_ret (qv 0))) qss_nil)
   (qss_consL (qsA 5 sc_Q2.nd (qcA (ok_Q7 T) hr T.m_Q7 T.F_Q7.kp T.b_Q7 (qa_cons (qv 2) (qa_cons (qcA (ok_Q17 T) hr T.m_Q17 T.F_Q17.kp T.b_Q17 (qa_cons (qv 3) (qa_cons (qxA ix_tup (qxA ix_tup (qxA ix_tup (qv 0) qe_int) (qe_un un_neg qe_int)) qe_int) qa_nil star_sub) star_name)) qa_nil star_call) star_name)))
   (qss_one (qs_ret (qe_tup (qa_cons qe_str (qa_cons (qe_callTy call_tuple_of (by rfl) T.z_tuple boot_tuple (qa_cons (qe_lcomp (N' := ["_law_speed_here", "_law_power_here", "_law_by"]) (src := [none, none, some 5]) rfl (by exact (qi_tup (qxA ix_tup (qv 0) qe_int))) (fun _ _ _ _ _ => (by exact (by exact qg_tupK (K := K) (n := 2) (by exact rfl) (by exact rfl) (by exact qgs_cons (by exact qg_name (i := 0) (by show List.Nodup (["_law_speed_here", "_law_power_here", "_law_by"] : List Str); decide +kernel) (by exact rfl) (by first | exact Or.inl rfl | exact Or.inr rfl)) (by exact qgs_cons (by exact qg_name (i := 1) (by show List.Nodup (["_law_speed_here", "_law_power_here", "_law_by"] : List Str); decide +kernel) (by exact rfl) (by first | exact Or.inl rfl | exact Or.inr rfl)) qgs_nil))))) (fun _ _ _ _ _ => qts_nil) (fun _ _ _ _ _ => (by exact (by exact (qe_tup (qa_cons (by exact (qe_call (ok_Q7 T) (by exact hr.mono (by decide)) (by exact rfl) T.m_Q7 T.F_Q7.kp T.b_Q7 (by exact .nil) (by exact pass0) (qa_cons (by exact (qv 0)) (qa_cons (by exact (qv 2)) qa_nil star_name) star_name))) (qa_cons (by exact (qv 1)) qa_nil star_name) star_call))))) (by exact ⟨rfl, rfl, rfl, rfl, trivial⟩) rfl (by decide +kernel) rfl (by decide +kernel) (by exact cells_of rfl ⟨rfl, trivial⟩)) qa_nil star_lc)) qa_nil star_call) star_con))))))))) ?_
 extract_lets +lift
 try dsimp -zeta -zetaDelta only [Cx.nox, Cx.wish, cxOf]
 cases rl with
 | pow kk =>
  obtain ⟨p, rfl, hS⟩ := id hv
  refine ⟨_, rfl, p, _, _, _, rfl, rfl, hS, rfl, rfl, _, rfl, iteT ?_⟩
  exact ⟨_, rfl, k _ _ _ (Same.refl H) hv ok (pwB_pow ok oks)⟩
 | tab rows =>
  have okS : RowsS rows := ok
  obtain ⟨p, q, xs, rfl, hS, hq, al⟩ := id hv
  obtain ⟨pw, xw, rfl, hpw, alw⟩ := id hw
  have n2 := okS.ok.n2
  refine ⟨_, rfl, p, _, _, _, rfl, rfl, hS, rfl, rfl, _, rfl, iteF ?_⟩
  refine ⟨_, rfl, (by show 0 ≤ sizeLine; exact Nat.zero_le _), fun pe he => ?_⟩
  have s1 := same_new he (.tup [])
  have de : Deep K (upd H pe (.tup [])) (.ref pe) (.tuple []) := .tup (SqT.of upd_same) .nil
  generalize upd H pe (.tup []) = H1 at s1 de ⊢
  have hw1 := hw.mono (Tst.same s1)
  refine ⟨.tuple (ss.map dR), .tuple [], hw1.deep, de, layT _, rfl, depT _, _, rfl, ?_⟩
  rw [eqvT_nil]
  by_cases hss : ss = []
  ·subst hss
   refine iteT ?_
   exact ⟨_, rfl, k _ _ _ s1 (hv.mono (Tst.same s1)) ok.g pwB_nil⟩
  refine iteB0 (by cases ss with | nil => exact absurd rfl hss | cons _ _ => rfl) ?_
  refine ⟨zl2, fun pm hm => ?_⟩
  have s2 := s1.trans (same_new hm (.tup [.int 0, .int 1]))
  have rm : RV K (upd H1 pm (.tup [.int 0, .int 1])) (.ref pm) (0, 1) := RV.of upd_same
  generalize upd H1 pm (.tup [.int 0, .int 1]) = H2 at s2 rm ⊢
  have hlw := alw.len
  refine ⟨_, rfl, pw, rfl, ⟨_, Tst.same s2 _ _ hpw⟩, for_tup (K := K) (a := pw) (xs := xw) (fun i σ H' => ∃ (um : V) (most : R) (x5 : Option V), σ = [some (.ref p), some (.ref pw), some u, some um, x5, none] /\ Same H H' /\ RV K H' um most /\ SpdOk most /\ (0 < most.1 ∨ (most = (0, 1) /\ ∀ s ∈ ss.take i, s = (0, 1)))) ⟨_, (0, 1), none, rfl, s2, rm, spd_zero, .inr ⟨rfl, fun s hs => by cases hs⟩⟩ (fun i σ H' _ ⟨_, _, _, _, sm, _⟩ => Tst.same sm _ _ hpw) ?_ ?_⟩
  ·rintro i x σ H3 hx ⟨um, most, x5, rfl, sm, rmo, okm, hmz⟩
   obtain ⟨s, hs, rs⟩ := alw.at hx
   have oss := oks s (List.mem_of_getElem? hs)
   refine ⟨_, rfl, _, rfl, um, x, most, s, 310, 310, rfl, rmo, rs.mono (Tst.same sm), okm.wf, oss.wf, by decide, _, rfl, ?_⟩
   cases c : lessR most s with
   | true =>
    refine iteT ?_
    exact ⟨_, rfl, _, s, _, rfl, sm, rs.mono (Tst.same sm), oss, .inl (less_pos okm oss c)⟩
   | false =>
    refine iteF ?_
    refine ⟨_, most, _, rfl, sm, rmo, okm, ?_⟩
    rcases hmz with z | ⟨z, al0⟩
    ·exact .inl z
    ·refine .inr ⟨z, fun s' hs' => ?_⟩
     rw [List.take_add_one, hs] at hs'
     rcases List.mem_append.mp hs' with a | a
     ·exact al0 s' a
     ·rw [List.mem_singleton.mp a]
      rw [z] at c
      exact nought_of oss c
  ·rintro σ H3 ⟨um, most, x5, rfl, sm, rmo, okm, hmz⟩
   rw [hlw, List.take_length] at hmz
   refine ⟨_, rfl, zl2, fun pz hz => ?_⟩
   have s4 := same_new hz (.tup [.int 0, .int 1])
   have rz : RV K (upd H3 pz (.tup [.int 0, .int 1])) (.ref pz) (0, 1) := RV.of upd_same
   have sm4 := sm.trans s4
   have rm4 := rmo.mono (Tst.same s4)
   generalize upd H3 pz (.tup [.int 0, .int 1]) = H4 at rz sm4 rm4 ⊢
   clear s4
   refine ⟨dR most, dR (0, 1), rm4.deep, rz.deep, dR_lay _, dR_lay _, dR_depth _, _, rfl, ?_⟩
   rw [eqv_iff]
   rcases hmz with pos | ⟨z, al0⟩
   rotate_left
   ·refine iteD1 z ?_
    exact ⟨_, rfl, k _ _ _ sm4 (hv.mono (Tst.same sm4)) ok.g (pwB_zero okS.ok al0)⟩
   refine iteD0 (fun z => by rw [z] at pos; exact absurd pos (by decide)) ?_
   have t4 := Tst.same (K := K) sm4
   obtain ⟨xl, rl_, hat, hrl, rvl, _⟩ := al.last (n := rows.length - 1) (by omega)
   obtain ⟨pl_, w1, w2, rfl, hSl, hw1', hw2'⟩ := rvl
   have bl := okS.ok.sp rl_ (List.mem_of_getElem? hrl)
   have lpos : 0 < rl_.1.1 := by
    obtain ⟨y0, ey⟩ := okS.ok.zero
    obtain ⟨h1, e1⟩ := List.getElem?_eq_some_iff.mp ey
    obtain ⟨h2, e2⟩ := List.getElem?_eq_some_iff.mp hrl
    have := List.pairwise_iff_getElem.mp okS.ok.inc 0 (rows.length - 1) h1 h2 (by omega)
    rw [e1, e2, less_iff] at this
    have z : 0 * rl_.1.2 < rl_.1.1 * 1 := this
    omega
   obtain ⟨wb, pb, pwb⟩ := pwB_scaled (ss := ss) okS bl lpos hpt okm pos oks
   refine ⟨_, rfl, _, rfl, _, rfl, p, _, _, _, rfl, rfl, t4 _ _ hS, rfl, _, rfl, q, _, _, _, rfl, rfl, t4 _ _ hq, hat, pl_, _, _, _, rfl, rfl, t4 _ _ hSl, rfl, um, w1, most, rl_.1, 310, 98, rfl, rm4, hw1'.mono t4, okm.wf, wfS bl, by decide, by omega, fun q1 g1 => ?_⟩
   have s5 := same_new g1 (.tup [.int (overR most rl_.1).1, .int (overR most rl_.1).2])
   have r5 : RV K (upd H4 q1 (.tup [.int (overR most rl_.1).1, .int (overR most rl_.1).2])) (.ref q1) (overR most rl_.1) := RV.of upd_same
   have sm5 := sm4.trans s5
   generalize upd H4 q1 (.tup [.int (overR most rl_.1).1, .int (overR most rl_.1).2]) = H5 at r5 sm5 ⊢
   refine ⟨u, .ref q1, pt, overR most rl_.1, 3, 408, rfl, hu.mono (Tst.same sm5), r5, hpt.wf, over_wf okm.wf (wfS bl) (by omega), by decide, fun q2 g2 => ?_⟩
   have sm6 := sm5.trans (same_new g2 (.tup [.int (timesR pt (overR most rl_.1)).1, .int (timesR pt (overR most rl_.1)).2]))
   have r6 : RV K (upd H5 q2 (.tup [.int (timesR pt (overR most rl_.1)).1, .int (timesR pt (overR most rl_.1)).2])) (.ref q2) (timesR pt (overR most rl_.1)) := RV.of upd_same
   generalize upd H5 q2 (.tup [.int (timesR pt (overR most rl_.1)).1, .int (timesR pt (overR most rl_.1)).2]) = H6 at r6 sm6 ⊢
   generalize timesR pt (overR most rl_.1) = b at wb pb pwb r6 ⊢
   have t6 := Tst.same (K := K) sm6
   have n12 := okS.ok.n12
   refine ⟨_, rfl, p, _, _, _, rfl, rfl, t6 _ _ hS, rfl, q, rfl, ⟨_, t6 _ _ hq⟩, fun D hD => comp_mapT (K := K) (P := RowV K) (ds := rows) (f := fun r => (timesR r.1 b, r.2)) (fun _ _ _ _ t z => z.mono t) hD (t6 _ _ hq) al.len (by omega) (fun i x d H' hx hd s7 Rk E kR => ?_) fun HA ms sA hmA amA => ?_⟩
   ·obtain ⟨d', hd', rv⟩ := al.at hx
    rw [hd] at hd'
    cases hd'
    have md := List.mem_of_getElem? hd
    have t7 := t6.trans (Tst.same (K := K) s7)
    obtain ⟨pa, x1, y1, ex, hSr, hx1, hy1⟩ := rv.mono t7
    refine ⟨pa, _, ex, hSr, rfl, _, _, rfl, _, _, rfl, rfl, Ext.set' (Ext.set rfl) rfl, ?_⟩
    refine ⟨_, rfl, _, rfl, x1, .ref q2, d.1, b, 98, 411, rfl, hx1, r6.mono (Tst.same s7), wfS (okS.ok.sp d md), wb, by decide, fun q8 g8 => ⟨_, rfl, zl2, fun q9 g9 => ?_⟩⟩
    have e8 := same_new g8 (.tup [.int (timesR d.1 b).1, .int (timesR d.1 b).2])
    have e9 := same_new g9 (.tup [.ref q8, y1])
    exact kR _ _ (e8.trans e9) ⟨q9, _, _, rfl, SqT.of upd_same, (rv_new (K := K) e8).mono (Tst.same e9), hy1.mono (Tst.same (e8.trans e9))⟩
   refine ⟨D, _, rfl, .inl ⟨SqL.of hmA, fun l hl => ⟨zl2, fun l2 hl2 => ?_⟩⟩⟩
   have e1 := same_new hl (.tup ms)
   have e2 := same_new hl2 (.tup [.str (Str.ofString "table"), .ref l])
   have e12 := e1.trans e2
   exact k _ (.tab (scR b rows)) _ ((sm6.trans sA).trans e12) ⟨l2, l, ms, rfl, SqT.of upd_same, Tst.same e2 _ _ (SqT.of upd_same), amA.mono fun _ _ z => z.mono (Tst.same e12)⟩ (scaled_ok okS.ok wb pb) pwb
theorem ok_Q26 (T : Txt K mg t) : FnOk P w K mg base CX0 3 t.a_Q26 t.d_Q26 ["self", "speed"] (sp_NoSpeed K t.c_Q26) := by
 refine T.F_Q26.ok sc_Q26 (fun vs H Q E h => ?_) (fun cdv A outer s H vs Q E hr h => ?_)
 ·obtain ⟨_, _, _, rfl, _⟩ := h; rfl
 obtain ⟨a, v, r, rfl, ha, hv, k⟩ := h
 refine QSs.ok (qss_one (qs_fldE rfl (qv 0) (qcA (ok_Q27 T) hr T.m_Q27 T.F_Q27.kp T.b_Q27 (qa_cons (qv 1) qa_nil star_name)) rfl)) ?_
 extract_lets +lift
 try dsimp -zeta -zetaDelta only [Cx.nox, Cx.wish, cxOf]
 exact ⟨_, rfl, v, r, rfl, hv, fun u H1 s1 hu => ⟨_, rfl, a, _, _, rfl, T.X_Q26.cl, T.n_Q26_speed, .inl ⟨s1 _ _ ha, fun d hd nd => k d u H1 s1 hu hd nd⟩⟩⟩
theorem ok_Q12 (T : Txt K mg t) : FnOk P w K mg base (CXD P w) 5 t.a_Q12 t.d_Q12 ["rule", "speed"] (sp_power_at K t.c_Q26) := by
 refine B.Fun.okD T.F_Q12 sc_Q12 (fun vs H Q E h => ?_) (fun cdv A outer s H vs Q E hr h => ?_)
 ·obtain ⟨_, _, _, _, rfl, _⟩ := h; rfl
 obtain ⟨v, w, rl, s, rfl, hv, ok, hw, hs, k, ke⟩ := h
 refine QSs.ok (qss_consL (qs_if (qt_cmpR op_eq (qxA ix_tup (qv 0) qe_int) (qe_glob (v := .str "power") rfl T.m_POWER ⟨_, rfl⟩) (nomark _)) (qss_one (qs_ret (qcA (ok_Q28 T) hr T.m_Q28 T.F_Q28.kp T.b_Q28 (qa_cons (qv 1) (qa_cons (qxA ix_tup (qv 0) qe_int) qa_nil star_sub) star_name)))) qss_nil)
   (qss_consL (qs_if (qt_val (qcA (ok_Q3 T) hr T.m_Q3 T.F_Q3.kp T.b_Q3 (qa_cons (qv 0) (qa_cons (qv 1) qa_nil star_name) star_name))) (qss_one (qs_raiseD T.X_Q26 (vm_has _) rfl takesD (ok_Q26 T) (hr.mono (by decide)) T.b_Q26 rfl T.m_Q26 (qa_cons (qv 1) qa_nil star_name))) qss_nil)
   (qss_consL (qsA 2 sc_Q12.nd (qxA ix_tup (qv 0) qe_int))
   (qss_consL (qsA 3 sc_Q12.nd (qcA (ok_Q11 T) hr T.m_Q11 T.F_Q11.kp T.b_Q11 (qa_cons (qv 2) (qa_cons (qv 1) qa_nil star_name) star_name)))
   (qss_consL (qsA 4 sc_Q12.nd (qxA ix_tup (qv 2) (qv 3)))
   (qss_consL (qs_if (qt_cmpR (op_eqD hr) (qxA ix_tup (qv 4) qe_int) (qv 1) (nomark _)) (qss_one (qs_ret (qxA ix_tup (qv 4) qe_int))) qss_nil)
   (qss_consL (qsA 5 sc_Q12.nd (qxA ix_tup (qv 2) (qe_op op_sub (qv 3) qe_int)))
   (qss_one (qs_ret (qcA (ok_Q34 T) hr T.m_Q34 T.F_Q34.kp T.b_Q34 (qa_cons (qxA ix_tup (qv 5) qe_int) (qa_cons (qcA (ok_Q32 T) hr T.m_Q32 T.F_Q32.kp T.b_Q32 (qa_cons (qcA (ok_Q1 T) hr T.m_Q1 T.F_Q1.kp T.b_Q1 (qa_cons (qv 5) (qa_cons (qv 4) qa_nil star_name) star_name)) (qa_cons (qcA (ok_Q31 T) hr T.m_Q31 T.F_Q31.kp T.b_Q31 (qa_cons (qv 1) (qa_cons (qxA ix_tup (qv 5) qe_int) qa_nil star_sub) star_name)) qa_nil star_call) star_call)) qa_nil star_call) star_sub))))))))))) ?_
 extract_lets +lift
 try dsimp -zeta -zetaDelta only [Cx.nox, Cx.wish, cxOf]
 cases rl with
 | pow kk =>
  obtain ⟨p, rfl, hS⟩ := hv
  have ok' : 2 ≤ kk /\ kk ≤ 4 := ok
  refine ⟨_, rfl, p, _, _, _, rfl, rfl, hS, rfl, rfl, _, rfl, iteD1 rfl ?_⟩
  exact ⟨_, rfl, _, rfl, p, _, _, _, rfl, rfl, hS, rfl, w, s, kk, rfl, hw, hs.wf, by omega, by omega, k trivial⟩
 | tab rows =>
  have ok' : RowsG rows := ok
  obtain ⟨p, q, xs, rfl, hS, hq, al⟩ := id hv
  refine ⟨_, rfl, p, _, _, _, rfl, rfl, hS, rfl, rfl, _, rfl, iteD0 (by decide) ?_⟩
  refine ⟨_, rfl, _, rfl, .ref p, w, .tab rows, s, rfl, hv, ok, hw, hs.wf, _, rfl, ?_⟩
  cases c : beyM (.tab rows) s with
  | true =>
   refine iteT ?_
   have nb : ¬ Below (.tab rows) s := fun z => by rw [(bey_iff ok).mpr z] at c; cases c
   refine ⟨_, rfl, zl1, fun x hx => ?_⟩
   have s0 := same_new hx (exO x t.c_Q26 none)
   refine ⟨x, w, s, rfl, upd_same, hw.mono (Tst.same s0), fun d u H1 s1 hu hd nd => ⟨rfl, some d, (by rw [upd_ne nd.symm]; exact upd_same), ?_⟩⟩
   have hx1 := s1 _ _ (upd_same (H := H) (a := x) (o := exO x t.c_Q26 none))
   refine ke nb d u _ (fun b o z => ?_) (hu.mono (tst_exc hx1 hd)) ?_
   ·have nbx : b ≠ x := ne_of_none z hx
    have z1 := s1 _ _ (s0 _ _ z)
    unfold del
    rw [if_neg nbx, upd_ne (ne_of_none z1 hd), upd_ne nbx]
    exact z1
   ·unfold del
    rw [if_neg nd]
    exact upd_same
  | false =>
   refine iteF ?_
   have hb := (bey_iff ok).mp c
   have pl := ok'.p_lt hs.bq.pos hb
   have hx0 : xs[pOf rows s]? = some (xs[pOf rows s]'(by rw [al.len]; exact pl)) := List.getElem?_eq_getElem _
   obtain ⟨r, hr', hrv⟩ := al.at hx0
   obtain ⟨pa, x, y, ex, hSr, hx, hy⟩ := id hrv
   have mr := List.mem_of_getElem? hr'
   refine ⟨_, rfl, p, _, _, _, rfl, rfl, hS, rfl, _, rfl, _, rfl, q, w, xs, rows, s, rfl, hq, al, ok', hw, hs, hb, ?_⟩
   refine ⟨_, rfl, _, rfl, q, _, _, _, rfl, rfl, hq, atI_nat hx0, ?_⟩
   refine ⟨_, rfl, pa, _, _, _, ex, rfl, hSr, rfl, _, rfl, dR r.1, dR s, hx.deep, hw.deep, dR_lay _, dR_lay _, dR_depth _, _, rfl, ?_⟩
   rw [eqv_iff]
   have kb : toR K H Q (powT rows s) := k hb
   unfold powT at kb
   rw [getD_at hr'] at kb
   by_cases ce : r.1 = s
   ·refine iteD1 ce ?_
    refine ⟨_, rfl, pa, _, _, _, ex, rfl, hSr, rfl, ?_⟩
    by_cases c0 : pOf rows s = 0
    ·rw [if_pos c0] at kb
     rw [c0] at hr'
     rw [getD_at hr'] at kb
     exact kb _ _ (Same.refl H) hy
    ·rw [if_neg c0] at kb
     obtain ⟨r1, e1⟩ : ∃ r1, rows[pOf rows s - 1]? = some r1 := ⟨_, List.getElem?_eq_getElem (by omega)⟩
     rw [getD_at e1] at kb
     have sl := slG ok' (by omega) e1 hr'
     have m1 := List.mem_of_getElem? e1
     have le := line_end (wred (ok'.sp _ m1)) (wred (ok'.pw _ m1)) (wred (ok'.sp r mr)) (wred (ok'.pw r mr)) sl.ne
     unfold lineR at kb
     rw [← ce, le] at kb
     exact kb _ _ (Same.refl H) hy
   ·refine iteD0 ce ?_
    have c0 : pOf rows s ≠ 0 := fun z => by
     have e := zero_g ok' hs z
     obtain ⟨y0, ey⟩ := ok'.zero
     rw [z, ey] at hr'
     cases hr'
     exact ce e.symm
    rw [if_neg c0] at kb
    have hw0 : xs[pOf rows s - 1]? = some (xs[pOf rows s - 1]'(by rw [al.len]; omega)) := List.getElem?_eq_getElem _
    obtain ⟨r0, hr0, hrv0⟩ := al.at hw0
    rw [getD_at hr0] at kb
    obtain ⟨pb, x0, y0, ex0, hS0, hx0', hy0⟩ := id hrv0
    have sl := slG ok' (by omega) hr0 hr'
    obtain ⟨wm, wt, wl⟩ := line_g sl hs.wf
    refine ⟨_, rfl, _, rfl, _, _, rfl, rfl, q, _, _, _, rfl, rfl, hq, (by rw [show ((pOf rows s : Int) - 1) = ((pOf rows s - 1 : Nat) : Int) by omega]; exact atI_nat hw0), ?_⟩
    refine ⟨_, rfl, pb, _, _, _, ex0, rfl, hS0, rfl, _, rfl, _, rfl, _, _, r0, r, rfl, hrv0, hrv, sl, fun v3 H3 s3 h3 => ?_⟩
    refine ⟨_, rfl, _, rfl, pb, _, _, _, ex0, rfl, Tst.same s3 _ _ hS0, rfl, w, x0, s, r0.1, 310, 510, rfl, hw.mono (Tst.same s3), hx0'.mono (Tst.same s3), hs.wf, sl.a1, by decide, fun v4 H4 s4 h4 => ?_⟩
    refine ⟨v3, v4, slopeR r0 r, minusR s r0.1, 1420, 821, rfl, h3.mono (Tst.same s4), h4, sl.sl, wm, by decide, fun p5 g5 => ?_⟩
    have s5 := same_new g5 (.tup [.int (timesR (slopeR r0 r) (minusR s r0.1)).1, .int (timesR (slopeR r0 r) (minusR s r0.1)).2])
    have s35 := (s3.trans s4).trans s5
    refine ⟨y0, .ref p5, r0.2, timesR (slopeR r0 r) (minusR s r0.1), 197, 2241, rfl, hy0.mono (Tst.same s35), rv_new (K := K) s5, sl.a2, wt, by decide, fun p6 g6 => ?_⟩
    have s6 := same_new g6 (.tup [.int (plusR r0.2 (timesR (slopeR r0 r) (minusR s r0.1))).1, .int (plusR r0.2 (timesR (slopeR r0 r) (minusR s r0.1))).2])
    exact kb _ _ (s35.trans s6) (rv_new (K := K) s6)
theorem ok_Q13 (T : Txt K mg t) : FnOk P w K mg base (CXD P w) 6 t.a_Q13 t.d_Q13 ["rule", "speeds"] (sp_power_of K t.c_Q26) := by
 refine B.Fun.okD T.F_Q13 sc_Q13 (fun vs H Q E h => ?_) (fun cdv A outer s H vs Q E hr h => ?_)
 ·obtain ⟨_, _, _, _, rfl, _⟩ := h; rfl
 obtain ⟨v, w, rl, ss, rfl, hv, ok, ⟨p, xs, rfl, hp, al⟩, l24, oks, pwb, k, ke⟩ := h
 refine QSs.ok (qss_one (qs_ret (qcA (ok_Q33 T) hr T.m_Q33 T.F_Q33.kp T.b_Q33 (qa_cons (qe_lcompX (N' := ["speed", "rule"]) (src := [none, some 0]) rfl (by exact (qi_tup (qv 1))) (fun _ _ _ _ _ => (by exact (by exact qg_name (i := 0) (by show List.Nodup (["speed", "rule"] : List Str); decide +kernel) (by exact rfl) (by first | exact Or.inl rfl | exact Or.inr rfl)))) (fun _ _ _ _ _ => qts_nil) (fun _ _ _ _ _ _ hq => (by exact (by exact (qe_call (ok_Q12 T) (by exact hr.mono (by decide)) (by exact rfl) T.m_Q12 T.F_Q12.kp T.b_Q12 (by exact .nil) (by exact passX hq) (qa_cons (by exact (qv 1)) (qa_cons (by exact (qv 0)) qa_nil star_name) star_name))))) takesF (by exact ⟨rfl, rfl, rfl, rfl, trivial⟩) rfl (by decide +kernel) rfl (by decide +kernel) (by exact cells_of rfl ⟨rfl, trivial⟩)) qa_nil star_lc)))) ?_
 extract_lets +lift
 try dsimp -zeta -zetaDelta only [Cx.nox, Cx.wish, cxOf]
 obtain ⟨DD, NN, nn, d0, d1, d2, d3, db⟩ := pwb
 have hlen := al.len
 refine ⟨_, rfl, p, rfl, ⟨_, hp⟩, fun D hD => ⟨fun i m ys H' => i ≤ ss.length /\ m = ss.length - i /\ ys.length = i /\ Same H H' /\ H' D = some (.lst ys) /\ Als (RV K H') ys ((ss.take i).map (powM rl)) /\ ∀ (j : Nat) (z : R), j < i -> ss[j]? = some z -> Below rl z, ⟨_, Nat.zero_le _, rfl, rfl, same_new hD _, upd_same, .nil, fun j z hj => absurd hj (Nat.not_lt_zero j)⟩, ?_⟩⟩
 rintro i m ys H1 ⟨hi, rfl, hyl, s1, hD1, al1, bel⟩
 have hp1 := Tst.same (K := K) s1 _ _ hp
 by_cases hix : i < ss.length
 ·obtain ⟨x, hx⟩ : ∃ x, xs[i]? = some x := ⟨_, List.getElem?_eq_getElem (by omega)⟩
  refine .inr ⟨⟨xs, x, hp1, hx⟩, ?_⟩
  rintro x' H2 ⟨rfl, hy⟩
  have hx' := hy _ hp1
  rw [hx] at hx'
  cases hx'
  obtain ⟨s, hs, rvs⟩ := al.at hx
  have ms := List.mem_of_getElem? hs
  refine ⟨Ext.set rfl, ?_⟩
  refine ⟨_, rfl, _, rfl, v, x, rl, s, rfl, hv.mono (Tst.same s1), ok, rvs.mono (Tst.same s1), oks s ms, fun hb v3 H3 s3 r3 => ?_, fun nb d u H3 s3 hu hd => ke i s hs nb bel d u H3 (s1.trans s3) hu hd⟩
  have al3 := (al1.mono fun _ _ z => z.mono (Tst.same s3)).snoc r3
  have hD3 := s3 _ _ hD1
  refine ⟨hD3, small1000 (by omega), ss.length - (i + 1), by omega, hix, rfl, by rw [List.length_append, hyl]; rfl, ?_, upd_same, ?_, ?_⟩
  ·exact fun b o q => by
    rw [upd_ne (ne_of_none q hD)]
    exact (s1.trans s3) _ _ q
  ·rw [List.take_add_one, hs, List.map_append]
   exact al3.mono fun _ _ z => z.mono (Tst.up (K := K) hD3 _)
  ·intro j z hj hz
   by_cases c : j = i
   ·rw [c, hs] at hz; cases hz; exact hb
   ·exact bel j z (by omega) hz
 ·have e2 : i = ss.length := by omega
  subst e2
  have all : ∀ s ∈ ss, Below rl s := fun s hs => by
   obtain ⟨j, hj⟩ := List.getElem?_of_mem hs
   exact bel j s (List.getElem?_eq_some_iff.mp hj).1 hj
  rw [List.take_length] at al1
  refine .inl ⟨⟨_, hp1, by omega⟩, ?_⟩
  refine ⟨D, ys, ss.map (powM rl), nn, DD, rfl, .inl (SqL.of hD1), als_rvs al1, (fun r hr => ?_), d0, d1, (by rw [List.length_map]; omega), d3, fun v' H' s' rv => k all v' H' (s1.trans s') rv⟩
  obtain ⟨s, hs, rfl⟩ := List.mem_map.mp hr
  have b := db s hs (all s hs)
  exact ⟨bq_wfB b d0 d1 d2, b.dvd⟩
theorem ok_Q22 (T : Txt K mg t) : FnOk P w K mg base CX0 7 t.a_Q22 t.d_Q22 ["_law_rule_here", "_law_speeds"] (sp_law_told K) := by
 refine T.F_Q22.ok sc_Q22 (fun vs H Q E h => ?_) (fun cdv A outer s H vs Q E hr h => ?_)
 ·obtain ⟨_, _, _, _, rfl, _⟩ := h; rfl
 obtain ⟨v, w, rl, ss, rfl, hv, ok, hw, l24, oks, pwb, k⟩ := h
 refine QSs.ok (qss_consL (qsA 2 sc_Q22.nd qe_non)
   (qss_consL (qs_tryAs (i := 3) (R := (fun C dx H' => C = t.c_Q26 /\ Same H H' /\ ∃ i s d u, ss[i]? = some s /\ ¬ Below rl s /\ (∀ (j : Nat) (z : R), j < i -> ss[j]? = some z -> Below rl z) /\ dx = some d /\ H' d = some (dO d [("speed", u)]) /\ RV K H' u s)) rfl rfl rfl rfl T.m_Q26 sc_Q22.nd rfl rfl (fun _ => (qss_one (qsA 2 sc_Q22.nd (qe_call (ok_Q13 T) (hr.mono (by decide)) rfl T.m_Q13 T.F_Q13.kp T.b_Q13 .nil (passTD rfl) (qa_cons (qv 0) (qa_cons (qv 1) qa_nil star_name) star_name)))))
   (fun _ => (qss_one (qsA 2 sc_Q22.nd (qe_tup (qa_cons qe_str (qa_cons (qe_fldE (K := K) rfl (qv 3) rfl) qa_nil star_att) star_con))))))
   (qss_one (qs_ret (qv 2))))) ?_
 extract_lets +lift
 try dsimp -zeta -zetaDelta only [Cx.nox, Cx.wish, cxOf]
 refine ⟨⟨_, rfl, _, rfl, v, w, rl, ss, rfl, hv, ok, hw, l24, oks, pwb, fun all v1 H1 s1 h1 => ⟨_, rfl, k _ _ s1 ?_⟩, fun i s hs nb bel d u H1 s1 hu hd => ⟨_, rfl, rfl, s1, i, s, d, u, hs, nb, bel, rfl, hd, hu⟩⟩, ?_⟩
 ·rw [dueA_none all]
  exact h1.deep
 rintro C dx H' ⟨rfl, s1, i, s, d, u, hs, nb, bel, rfl, hd, hu⟩
 refine ⟨T.x_catch, d, rfl, fun x hx => ?_⟩
 have s2 := same_new hx (erO x t.c_Q26 d)
 refine ⟨_, rfl, x, t.c_Q26, d, _, _, u, rfl, .inl upd_same, s2 _ _ hd, T.X_Q26.cl, T.g_Q26, T.n_Q26_speed, rfl, zl2, fun p2 g2 => ?_⟩
 have s3 := same_new g2 (.tup [.str (Str.ofString "none"), u])
 refine ⟨_, rfl, k _ _ ((s1.trans s2).trans s3) ?_⟩
 rw [dueA_some hs nb bel]
 exact .tup (SqT.of upd_same) (.cons (.str _) (.cons ((hu.mono (Tst.same s2)).mono (Tst.same s3)).deep .nil))
theorem ok_Q36 (T : Txt K mg t) : FnOk P w K mg base CX0 8 t.a_Q36 t.d_Q36 ["_law_script"] (sp_law K) := by
 refine T.F_Q36.ok sc_Q36 (fun vs H Q E h => ?_) (fun cdv A outer s H vs Q E hr h => ?_)
 ·obtain ⟨_, _, rfl, _⟩ := h; rfl
 obtain ⟨a, ns, rfl, hS, hlen, k⟩ := h
 refine QSs.ok (qss_consL (qsA 1 sc_Q36.nd (qcA (ok_Q14 T) hr T.m_Q14 T.F_Q14.kp T.b_Q14 (qa_cons (qv 0) qa_nil star_name)))
   (qss_consL (qs_for PassesOwn.never rfl (qi_range1 rfl T.z_range (qa_cons qe_int qa_nil star_con)) (qg_name (i := 2) sc_Q36.nd rfl (by first | exact Or.inl rfl | exact Or.inr rfl))
   (qss_consL (qsA 3 sc_Q36.nd (qcA (ok_Q8 T) hr T.m_Q8 T.F_Q8.kp T.b_Q8 (qa_cons (qv 1) (qa_cons (qxA ix_list (qe_lst (qa_cons qe_int (qa_cons qe_int (qa_cons qe_int qa_nil star_con) star_con) star_con)) (qcA (ok_Q15 T) hr T.m_Q15 T.F_Q15.kp T.b_Q15 (qa_cons (qv 1) (qa_cons qe_int qa_nil star_con) star_name))) (qa_cons (qxA ix_list (qe_lst (qa_cons qe_int (qa_cons qe_int (qa_cons qe_int qa_nil star_con) star_con) star_con)) (qcA (ok_Q15 T) hr T.m_Q15 T.F_Q15.kp T.b_Q15 (qa_cons (qv 1) (qa_cons qe_int qa_nil star_con) star_name))) qa_nil star_sub) star_sub) star_name)))
   (qss_consL (qsA 4 sc_Q36.nd (qcA (ok_Q21 T) hr T.m_Q21 T.F_Q21.kp T.b_Q21 (qa_cons (qv 1) (qa_cons (qv 3) qa_nil star_name) star_name)))
   (qss_consL (qsA 5 sc_Q36.nd (qe_callTy call_tuple_of (by rfl) T.z_tuple boot_tuple (qa_cons (qe_lcomp (N' := ["_law_turn"]) (src := [none]) rfl (by exact (qi_tup (qv 4))) (fun _ _ _ _ _ => (by exact (by exact qg_name (i := 0) (by show List.Nodup (["_law_turn"] : List Str); decide +kernel) (by exact rfl) (by first | exact Or.inl rfl | exact Or.inr rfl)))) (fun _ _ _ _ _ => qts_nil) (fun _ _ _ _ _ => (by exact (by exact (qe_call (ok_Q25 T) (by exact hr.mono (by decide)) (by exact rfl) T.m_Q25 T.F_Q25.kp T.b_Q25 (by exact .nil) (by exact pass0) (qa_cons (by exact (qe_lcomp (N' := ["_law_piece"]) (src := [none]) (by exact rfl) (by exact (qi_tupK (K := K) (by exact rfl) (by exact (qv 0)))) (by exact fun _ _ _ _ _ => (by exact (by exact qg_name (i := 0) (by show List.Nodup (["_law_piece"] : List Str); decide +kernel) (by exact rfl) (by first | exact Or.inl rfl | exact Or.inr rfl)))) (by exact fun _ _ _ _ _ => qts_nil) (by exact fun _ _ _ _ _ => (by exact (by exact (qe_ix (ix_tupK (K := K) (by exact rfl)) (by exact (qv 0)) qe_int (by exact fun _ _ => rfl))))) (by exact trivial) (by exact rfl) (by decide +kernel) (by exact rfl) (by decide +kernel) (by exact cells_of rfl trivial))) qa_nil star_lc))))) (by exact trivial) rfl (by decide +kernel) rfl (by decide +kernel) (by exact cells_of rfl trivial)) qa_nil star_lc)))
   (qss_consL (qs_if (qt_cmpR op_ne (qe_callB (call_repr hr) (by rfl) T.z_repr boot_repr (qa_cons (qcA (ok_Q4 T) hr T.m_Q4 T.F_Q4.kp T.b_Q4 (qa_cons (qv 4) qa_nil star_name)) qa_nil star_call)) (qe_callB (call_repr hr) (by rfl) T.z_repr boot_repr (qa_cons (qv 5) qa_nil star_name)) (nomark _)) (qss_one (qs_ret qe_bl)) qss_nil)
   (qss_one (qs_for PassesOwn.never rfl (qi_range1 rfl T.z_range (qa_cons qe_int qa_nil star_con)) (qg_name (i := 6) sc_Q36.nd rfl (by first | exact Or.inl rfl | exact Or.inr rfl))
   (qss_consL (qsA 7 sc_Q36.nd (qe_slice sl_tupU (qv 5) (qo_some (qcA (ok_Q15 T) hr T.m_Q15 T.F_Q15.kp T.b_Q15 (qa_cons (qv 1) (qa_cons qe_int qa_nil star_con) star_name))) qo_none))
   (qss_consL (qsA 8 sc_Q36.nd (qcA (ok_Q2 T) hr T.m_Q2 T.F_Q2.kp T.b_Q2 (qa_cons (qcA (ok_Q20 T) hr T.m_Q20 T.F_Q20.kp T.b_Q20 (qa_cons (qv 1) qa_nil star_name)) (qa_cons (qv 7) (qa_cons (qxA ix_list (qe_lst (qa_cons (qe_tup (qa_cons qe_int (qa_cons qe_int qa_nil star_con) star_con)) (qa_cons (qe_tup (qa_cons qe_int (qa_cons qe_int qa_nil star_con) star_con)) (qa_cons (qe_tup (qa_cons qe_int (qa_cons qe_int qa_nil star_con) star_con)) qa_nil star_tup) star_tup) star_tup)) (qcA (ok_Q15 T) hr T.m_Q15 T.F_Q15.kp T.b_Q15 (qa_cons (qv 1) (qa_cons qe_int qa_nil star_con) star_name))) qa_nil star_sub) star_name) star_call)))
   (qss_consL (qs_setC (i := 9) (N' := ["_law_speed_here", "_law_rule_here"]) (src := [none, some 8]) sc_Q36.nd rfl (by first | exact Or.inl rfl | exact Or.inr rfl) rfl (by exact (qi_tup (qv 7))) (fun _ _ _ _ _ => (by exact (by exact qg_name (i := 0) (by show List.Nodup (["_law_speed_here", "_law_rule_here"] : List Str); decide +kernel) (by exact rfl) (by first | exact Or.inl rfl | exact Or.inr rfl)))) (fun _ _ _ _ _ => qts_nil) (fun _ _ _ _ _ => (by exact (by exact (qe_call (ok_Q10 T) (by exact hr.mono (by decide)) (by exact rfl) T.m_Q10 T.F_Q10.kp T.b_Q10 (by exact .nil) (by exact pass0) (qa_cons (by exact (qv 1)) (qa_cons (by exact (qv 0)) qa_nil star_name) star_name))))) (by exact ⟨rfl, rfl, rfl, rfl, trivial⟩) rfl (by decide +kernel) rfl (by decide +kernel) (by exact cells_of rfl ⟨rfl, trivial⟩))
   (qss_consL (qsA 10 sc_Q36.nd qe_non)
   (qss_consL (qs_cut (qs_if (qt_cmpR (op_inD hr) qe_non (qv 9) (by with_unfolding_all rfl)) (qss_one (qsA 10 sc_Q36.nd (qe_tup (qa_cons qe_str (qa_cons (qxA ix_tup (qv 7) (qe_bm PySem.F.plainAttrs_list PySem.F.slot_list_index PySem.F.type_list_index (mt_indexD hr) (qv 9) (qa_cons qe_non qa_nil star_con))) qa_nil star_sub) star_con)))) (qss_one (qsA 10 sc_Q36.nd (qcA (ok_Q25 T) hr T.m_Q25 T.F_Q25.kp T.b_Q25 (qa_cons (qv 9) qa_nil star_name))))))
   (qss_one (qs_if (qt_cmpR op_ne (qe_callB (call_repr hr) (by rfl) T.z_repr boot_repr (qa_cons (qcA (ok_Q22 T) hr T.m_Q22 T.F_Q22.kp T.b_Q22 (qa_cons (qv 8) (qa_cons (qv 7) qa_nil star_name) star_name)) qa_nil star_call)) (qe_callB (call_repr hr) (by rfl) T.z_repr boot_repr (qa_cons (qv 10) qa_nil star_name)) (nomark _)) (qss_one (qs_ret qe_bl)) qss_nil))))))))))))))
   (qss_one (qs_ret qe_bl)))) ?_
 extract_lets +lift
 try dsimp -zeta -zetaDelta only [Cx.nox, Cx.wish, cxOf]
 refine ⟨_, rfl, a, ns, rfl, hS, fun t₁ s₁ H1 s1 ht hs T1 => ?_⟩
 refine ⟨4, rfl, by decide, by decide, for_range (lo := 0) (n := 4) (fun i σ H' => ∃ (x2 x3 x4 x5 x6 x7 x8 x9 xA : Option V), σ = [some (.ref a), some (.ref t₁), x2, x3, x4, x5, x6, x7, x8, x9, xA] /\ Tape H' t₁ s₁) ⟨none, none, none, none, none, none, none, none, none, rfl, T1⟩ ?_ ?_⟩
 rotate_left
 ·rintro σ H2 ⟨_, _, _, _, _, _, _, _, _, rfl, T2⟩
  exact k H2
 rintro i₀ σ H2 hi₀ ⟨x2, x3, x4, x5, x6, x7, x8, x9, xA, rfl, T2⟩
 refine ⟨_, rfl, zl3, fun l3 h3 => ?_⟩
 have s3 := same_new h3 (.lst [.int 2, .int 5, .int 12])
 have h33 : upd H2 l3 (.lst [.int 2, .int 5, .int 12]) l3 = some (.lst [.int 2, .int 5, .int 12]) := upd_same
 have T3 := T2.same s3
 generalize upd H2 l3 (.lst [.int 2, .int 5, .int 12]) = H3 at s3 h33 T3 ⊢
 obtain ⟨y4, e4⟩ := T3.lst
 refine ⟨_, rfl, t₁, s₁, 3, rfl, T3, by decide, by decide, fun r4 z4 a4 b4 T4 => ?_⟩
 have S4 : Step t₁ H3 _ := Step.up (ys := z4) e4
 have n3 : l3 ≠ t₁ := fun z => by subst z; obtain ⟨_, _, _, _, q, _⟩ := T3.ex; rw [h33] at q; cases q
 have h34 := S4.keep _ _ n3 h33
 generalize upd H3 t₁ (.lst z4) = H4 at T4 S4 h34 ⊢
 obtain ⟨m, hm, m12⟩ : ∃ m : Nat, atI [V.int 2, .int 5, .int 12] r4 = some (.int m) /\ m ≤ 12 := by
  rcases (show r4 = 0 ∨ r4 = 1 ∨ r4 = 2 by omega) with rfl | rfl | rfl
  ·exact ⟨2, rfl, by decide⟩
  ·exact ⟨5, rfl, by decide⟩
  ·exact ⟨12, rfl, by decide⟩
 refine ⟨l3, _, _, _, rfl, rfl, SqL.of h34, hm, zl3, fun l5 h5 => ?_⟩
 clear S4 s3 h33 h34 n3 e4 T3 hm
 have s5 := same_new h5 (.lst [.int 3, .int 8, .int 24])
 have h55 : upd H4 l5 (.lst [.int 3, .int 8, .int 24]) l5 = some (.lst [.int 3, .int 8, .int 24]) := upd_same
 have T5 := T4.same s5
 generalize upd H4 l5 (.lst [.int 3, .int 8, .int 24]) = H5 at s5 h55 T5 ⊢
 obtain ⟨y6, e6⟩ := T5.lst
 refine ⟨_, rfl, t₁, s₁, 3, rfl, T5, by decide, by decide, fun r6 z6 a6 b6 T6 => ?_⟩
 have S6 : Step t₁ H5 _ := Step.up (ys := z6) e6
 have n5 : l5 ≠ t₁ := fun z => by subst z; obtain ⟨_, _, _, _, q, _⟩ := T5.ex; rw [h55] at q; cases q
 have h56 := S6.keep _ _ n5 h55
 generalize upd H5 t₁ (.lst z6) = H6 at T6 S6 h56 ⊢
 obtain ⟨en, hen, en1, en2⟩ : ∃ m : Nat, atI [V.int 3, .int 8, .int 24] r6 = some (.int m) /\ 1 ≤ m /\ m ≤ 24 := by
  rcases (show r6 = 0 ∨ r6 = 1 ∨ r6 = 2 by omega) with rfl | rfl | rfl
  ·exact ⟨3, rfl, by decide, by decide⟩
  ·exact ⟨8, rfl, by decide, by decide⟩
  ·exact ⟨24, rfl, by decide, by decide⟩
 refine ⟨l5, _, _, _, rfl, rfl, SqL.of h56, hen, t₁, s₁, m, en, rfl, T6, m12, en1, en2, fun v ws H7 S7 T7 wv lw okw => ?_⟩
 clear S6 s5 h55 h56 n5 e6 T5 hen h3 h5
 refine ⟨_, rfl, _, rfl, t₁, s₁, v, ws, rfl, T7, wv, by omega, okw, fun vp pl H8 S8 T8 pv okp => ?_⟩
 obtain ⟨pp, xp, rfl, hpp, alp⟩ := id pv
 have l24 := okp.len
 refine ⟨_, rfl, pp, rfl, ⟨_, hpp⟩, fun D hD => comp_mapT (K := K) (P := RV K) (ds := pl) (f := spdR) (fun _ _ _ _ t z => z.mono t) hD hpp alp.len (by omega) (fun i x d H' hx hd sm Rk E kR => ?_) fun HA ms sA hmA amA => ?_⟩
 ·obtain ⟨d', hd', pq, yq, rfl, hpq, aq⟩ := alp.at hx
  rw [hd] at hd'
  cases hd'
  have t' := Tst.same (K := K) sm
  have dok := okp.tu d (List.mem_of_getElem? hd)
  refine ⟨Ext.set rfl, _, rfl, pq, rfl, ⟨_, t' _ _ hpq⟩, fun D3 hD3 => comp_mapT (K := K) (P := RV K) (ds := d) (f := fun c => c.2) (fun _ _ _ _ t z => z.mono t) hD3 (t' _ _ hpq) aq.len (by have := dok.len; omega) (fun j y c H'' hy hc sm2 Rk2 E2 kR2 => ?_) fun HB qs sB hqB aqB => ?_⟩
  ·obtain ⟨c', hc', pc_, rv_, rfl, hpc, rrv⟩ := aq.at hy
   rw [hc] at hc'
   cases hc'
   have t'' := t'.trans (Tst.same (K := K) sm2)
   exact ⟨Ext.set rfl, _, rfl, pc_, _, _, _, rfl, rfl, t'' _ _ hpc, rfl, kR2 _ _ (Same.refl _) (rrv.mono t'')⟩
  refine ⟨D3, qs, d.map (fun c : Pc => c.2), D1, N0, 310, rfl, SqL.of hqB, aqB, (fun r hr => ?_), by decide, by decide, by decide, (by rw [List.length_map]; have := dok.len; omega), by decide, fun w HE' sE' rw_ => kR w _ (sB.trans sE') rw_⟩
  obtain ⟨c, hc, rfl⟩ := List.mem_map.mp hr
  exact (dok.bq c hc).1
 refine ⟨D, _, rfl, .inl ⟨SqL.of hmA, fun l hl => ?_⟩⟩
 have sl := same_new hl (.tup ms)
 have hsp : SpsV K (upd HA l (.tup ms)) (.ref l) (pl.map spdR) := ⟨l, ms, rfl, SqT.of upd_same, amA.mono fun _ _ z => z.mono (Tst.same sl)⟩
 have sAl := sA.trans sl
 generalize upd HA l (.tup ms) = HB at hsp sAl ⊢
 have oks : ∀ s ∈ pl.map spdR, SpdOk s := fun s hs => by
  obtain ⟨c, hc, rfl⟩ := List.mem_map.mp hs
  exact spd_ok (okp.tu c hc)
 have lss : (pl.map spdR).length = 24 := by rw [List.length_map]; exact l24
 have shw := sps_shows oks (by omega)
 have TB := T8.same sAl
 refine ⟨_, rfl, .ref pp, pl, rfl, pv.mono (Tst.same sAl), okp, fun v9 H9 s9 hv9 => ?_⟩
 have hsp9 := hsp.mono (Tst.same s9)
 have T9 := TB.same s9
 clear hsp TB amA hmA hpp alp pv
 generalize pl.map spdR = ss at *
 refine ⟨v9, _, rfl, hv9.deep, shw, _, rfl, _, _, rfl, hsp9.deep, shw, rfl, _, rfl, iteNS rfl ?_⟩
 refine ⟨3, rfl, by decide, by decide, for_range (lo := 0) (n := 3) (fun i σ H' => ∃ (x6 x7 x8 x9 xA : Option V), σ = [some (.ref a), some (.ref t₁), some (.int (0 + (i₀ : Int))), some v, some (.ref pp), some (.ref l), x6, x7, x8, x9, xA] /\ Tape H' t₁ s₁ /\ SpsV K H' (.ref l) ss) ⟨_, _, _, _, _, rfl, T9, hsp9⟩ ?_ ?_⟩
 rotate_left
 ·rintro σ HC ⟨x6, x7, x8, x9, xA, rfl, TC, _⟩
  exact ⟨_, _, _, _, _, _, _, _, _, rfl, TC⟩
 clear hsp9 hv9 T9 s9 sAl sl sA hl hD
 rintro i₁ σ HC hi₁ ⟨x6, x7, x8, x9, xA, rfl, TC, hC⟩
 obtain ⟨yC, eC⟩ := TC.lst
 refine ⟨_, rfl, _, rfl, t₁, s₁, 25, rfl, TC, by decide, by decide, fun rD zD aD bD TD => ?_⟩
 have SD : Step t₁ HC _ := Step.up (ys := zD) eC
 have hCD := hC.mono (Tst.step (K := K) SD)
 generalize upd HC t₁ (.lst zD) = HD at TD SD hCD ⊢
 obtain ⟨n, rfl⟩ := Int.eq_ofNat_of_zero_le aD
 obtain ⟨lq, mq, eq, hlq, alq⟩ := id hCD
 cases eq
 have lmq := alq.len
 refine ⟨n, rfl, l, mq, rfl, hlq, fun ps HE sE hps => ?_⟩
 rw [cut_from (by omega)] at hps
 have alE : Als (RV K HE) (mq.drop n) (ss.drop n) := Als.drop n (alq.mono fun _ _ z => z.mono (Tst.same sE))
 have hlE := hCD.mono (Tst.same sE)
 have TE := TD.same sE
 have oks' : ∀ s ∈ ss.drop n, SpdOk s := fun s hs => oks s (List.mem_of_mem_drop hs)
 have ll : (ss.drop n).length ≤ 24 := by rw [List.length_drop]; omega
 generalize ss.drop n = sn at alE oks' ll ⊢
 generalize mq.drop n = mn at alE hps ⊢
 have hsE : SpsV K HE (.ref ps) sn := ⟨ps, mn, rfl, hps, alE⟩
 clear alq hlq hCD hC SD sE TD TC lmq
 refine ⟨_, rfl, t₁, s₁, rfl, TE, fun vr rl HF okr SF TF hrF => ?_⟩
 have tF := Tst.step (K := K) SF
 refine ⟨_, rfl, zl2, fun p1 g1 => ⟨zl2, fun p2 g2 => ⟨zl2, fun p3 g3 => ⟨zl3, fun lm gm => ?_⟩⟩⟩⟩
 have e1 := same_new g1 (.tup [.int 1, .int 1])
 have e2 := same_new g2 (.tup [.int 3, .int 2])
 have e3 := same_new g3 (.tup [.int 4, .int 5])
 have em := same_new gm (.lst [.ref p1, .ref p2, .ref p3])
 have r1 := (((rv_new (K := K) e1).mono (Tst.same e2)).mono (Tst.same e3)).mono (Tst.same em)
 have r2 := ((rv_new (K := K) e2).mono (Tst.same e3)).mono (Tst.same em)
 have r3 := (rv_new (K := K) e3).mono (Tst.same em)
 have eM := ((e1.trans e2).trans e3).trans em
 have hlm := upd_same (H := upd (upd (upd HF p1 (.tup [.int 1, .int 1])) p2 (.tup [.int 3, .int 2])) p3 (.tup [.int 4, .int 5])) (a := lm) (o := .lst [.ref p1, .ref p2, .ref p3])
 have TG := TF.same eM
 have hr5 := hrF.mono (Tst.same eM)
 have hs5 := hsE.mono (tF.trans (Tst.same (K := K) eM))
 have hl5 := hlE.mono (tF.trans (Tst.same (K := K) eM))
 clear hrF hsE hlE TF TE SF tF hps alE e1 e2 e3 em eM
 generalize upd (upd (upd (upd HF p1 (.tup [.int 1, .int 1])) p2 (.tup [.int 3, .int 2])) p3 (.tup [.int 4, .int 5])) lm (.lst [.ref p1, .ref p2, .ref p3]) = HG at r1 r2 r3 hlm TG hr5 hs5 hl5 ⊢
 obtain ⟨yG, eG⟩ := TG.lst
 refine ⟨_, rfl, t₁, s₁, 3, rfl, TG, by decide, by decide, fun rJ zJ aJ bJ TJ => ?_⟩
 have SJ : Step t₁ HG _ := Step.up (ys := zJ) eG
 have nm : lm ≠ t₁ := fun z => by subst z; obtain ⟨_, _, _, _, q, _⟩ := TG.ex; rw [hlm] at q; cases q
 have hlmJ := SJ.keep _ _ nm hlm
 have tJ := Tst.step (K := K) SJ
 replace r1 := r1.mono tJ
 replace r2 := r2.mono tJ
 replace r3 := r3.mono tJ
 replace hr5 := hr5.mono tJ
 replace hs5 := hs5.mono tJ
 replace hl5 := hl5.mono tJ
 generalize upd HG t₁ (.lst zJ) = HJ at TJ hlmJ r1 r2 r3 hr5 hs5 hl5 ⊢
 obtain ⟨up, pt, hup, rup, okpt⟩ : ∃ (u : V) (pt : R), atI [V.ref p1, .ref p2, .ref p3] rJ = some u /\ RV K HJ u pt /\ PtOk pt := by
  rcases (show rJ = 0 ∨ rJ = 1 ∨ rJ = 2 by omega) with rfl | rfl | rfl
  ·exact ⟨_, _, rfl, r1, .inl rfl⟩
  ·exact ⟨_, _, rfl, r2, .inr (.inl rfl)⟩
  ·exact ⟨_, _, rfl, r3, .inr (.inr rfl)⟩
 refine ⟨lm, _, _, _, rfl, rfl, SqL.of hlmJ, hup, vr, .ref ps, up, rl, sn, pt, rfl, hr5, okr, hs5, ll, oks', rup, okpt, fun vq rq HK sK hq okq pwb => ?_⟩
 replace hs5 := hs5.mono (Tst.same sK)
 replace hl5 := hl5.mono (Tst.same sK)
 have TK := TJ.same sK
 clear r1 r2 r3 hr5 hup rup okpt sK TJ hlmJ tJ SJ nm TG hlm okr
 obtain ⟨pe, mn', ee, hps, alE⟩ := id hs5
 cases ee
 have lmn := alE.len
 refine ⟨_, rfl, ps, rfl, ⟨_, hps⟩, fun D hD => comp_mapT (K := K) (P := fun H v o => OptV K H v o) (ds := sn) (f := fun s => dueM rq s) (fun _ _ _ _ t z => z.mono t) hD hps lmn (by omega) (fun i x d H' hx hd sm Rk E kR => ?_) fun HL qs sL hqL aqL => ?_⟩
 ·obtain ⟨d', hd', rvd⟩ := alE.at hx
  rw [hd] at hd'
  cases hd'
  have t' := Tst.same (K := K) sm
  exact ⟨Ext.set rfl, _, rfl, _, rfl, vq, x, rq, d, rfl, hq.mono t', okq, rvd.mono t', oks' d (List.mem_of_getElem? hd), fun v' H'' s'' ov => kR _ _ s'' ov⟩
 have tL := Tst.same (K := K) sL
 replace hs5 := hs5.mono tL
 replace hl5 := hl5.mono tL
 replace hq := hq.mono tL
 replace hps := tL _ _ hps
 replace alE := alE.mono fun _ _ z => z.mono tL
 have TL := TK.same sL
 clear tL sL TK hD
 refine ⟨fun σ H' => ∃ vd : V, σ = [some (.ref a), some (.ref t₁), some (.int (0 + (i₀ : Int))), some v, some (.ref pp), some (.ref l), some (.int (0 + (i₁ : Int))), some (.ref ps), some vq, some (.ref D), some vd] /\ Same HL H' /\ Deep K H' vd (dueA rq sn), ?_, ?_⟩
 ·refine ⟨_, rfl, D, qs, (sn.map fun s => dueM rq s).map dOq, .none, rfl, SqL.of hqL, aqL.deep fun _ _ z => z.deep', lays_op _, .non, rfl, rfl, _, rfl, ?_⟩
  rw [any_noq]
  by_cases all : ∀ s ∈ sn, Below rq s
  ·have an : (sn.map fun s => dueM rq s).any (·.isNone) = false := by
    rw [List.any_eq_false]
    intro o ho
    obtain ⟨s, hs, rfl⟩ := List.mem_map.mp ho
    rw [dueM_yes (all s hs)]
    exact Bool.false_ne_true
   rw [an]
   refine iteF ?_
   obtain ⟨DD, NN, nn, d0, d1, d2, d3, db⟩ := id pwb
   refine ⟨_, rfl, D, qs, sn.map (powM rq), DD, NN, nn, rfl, SqL.of hqL, als_pow all aqL, (fun r hr => ?_), d0, d1, d2, (by rw [List.length_map]; omega), by omega, fun w HE' sE' rw_ => ⟨w, rfl, sE', ?_⟩⟩
   ·obtain ⟨s, hs, rfl⟩ := List.mem_map.mp hr
    exact db s hs (all s hs)
   ·rw [dueA_none all]
    exact rw_.deep
  ·have ex : ∃ z ∈ sn, ¬ Below rq z := Classical.byContradiction fun n => all fun z hz => Classical.byContradiction fun m => n ⟨z, hz, m⟩
   obtain ⟨zb, mzb, nzb⟩ := ex
   have mo : dueM rq zb ∈ sn.map fun s => dueM rq s := List.mem_map.mpr ⟨zb, mzb, rfl⟩
   have an : (sn.map fun s => dueM rq s).any (·.isNone) = true := by
    rw [List.any_eq_true]
    exact ⟨_, mo, by rw [dueM_no nzb]; rfl⟩
   rw [an]
   refine iteT ?_
   refine ⟨_, rfl, _, rfl, .inl ⟨rfl, _, SqL.of hqL⟩, D, qs, _, .non, .none, rfl, rfl, SqL.of hqL, aqL.deep fun _ _ q => q.deep', lays_op _, .non, rfl, rfl, ⟨dOq (dueM rq zb), List.mem_map.mpr ⟨_, mo, rfl⟩, by rw [dueM_no nzb]; rfl⟩, fun j e hj he hbf => ?_⟩
   rw [List.getElem?_map, List.getElem?_map] at hj
   obtain ⟨o, ho, rfl⟩ := Option.map_eq_some_iff.mp hj
   obtain ⟨zj, hzj, rfl⟩ := Option.map_eq_some_iff.mp ho
   have nbj : ¬ Below rq zj := fun z => by rw [dueM_yes z] at he; cases he
   have hjl := (List.getElem?_eq_some_iff.mp hzj).1
   obtain ⟨xj, hxj⟩ : ∃ x, mn'[j]? = some x := ⟨_, List.getElem?_eq_getElem (by omega)⟩
   obtain ⟨z', hz', rvx⟩ := alE.at hxj
   rw [hzj] at hz'
   cases hz'
   refine ⟨ps, _, _, _, rfl, rfl, hps, atI_nat hxj, zl2, fun q10 h10 => ?_⟩
   have e10 := same_new h10 (.tup [.str (Str.ofString "none"), xj])
   refine ⟨_, rfl, e10, ?_⟩
   rw [dueA_some hzj nbj fun m z hm hz => Classical.byContradiction fun nb => by
    have := hbf m (dOq (dueM rq z)) hm (by rw [List.getElem?_map, List.getElem?_map, hz]; rfl)
    rw [dueM_no nb] at this
    cases this]
   exact .tup (SqT.of upd_same) (.cons (.str _) (.cons (rvx.mono (Tst.same e10)).deep .nil))
 ·rintro _ HM ⟨vd, rfl, sM, dd⟩
  have tM := Tst.same (K := K) sM
  have shd := dueA_shows oks' ll pwb
  refine ⟨_, rfl, _, rfl, vq, .ref ps, rq, sn, rfl, hq.mono tM, okq, hs5.mono tM, ll, oks', pwb, fun vt HN sN dt => ?_⟩
  have dN := Deep.same sN dd
  generalize dueA rq sn = DA at shd dt dN
  refine ⟨vt, _, rfl, dt, shd, _, rfl, _, _, rfl, dN, shd, rfl, _, rfl, iteNS rfl ?_⟩
  exact ⟨_, _, _, _, _, rfl, (TL.same sM).same sN, (hl5.mono tM).mono (Tst.same sN)⟩
end
set_option autoImplicit true in
set_option relaxedAutoImplicit true in
open PySem.W in
theorem all_mk {l : OpenLaw} {w : World} {K : Frag} {h : Heap} {mg : Str -> Option Value} {fa : Addr} (X : K.In h) (G : h.Ns mainGlobals mg) (hfa : mg "law" = some (.ref fa))
  {f_Q27 : Addr} {d_Q27 : FuncData} (h_copied : IsF K "copied" s_Q27 f_Q27 d_Q27)
  {f_Q0 : Addr} {d_Q0 : FuncData} (h_greatest_divisor : IsF K "greatest_divisor" s_Q0 f_Q0 d_Q0)
  {f_Q30 : Addr} {d_Q30 : FuncData} (h_ratio : IsF K "ratio" s_Q30 f_Q30 d_Q30)
  {f_Q34 : Addr} {d_Q34 : FuncData} (h_plus : IsF K "plus" s_Q34 f_Q34 d_Q34)
  {f_Q31 : Addr} {d_Q31 : FuncData} (h_minus : IsF K "minus" s_Q31 f_Q31 d_Q31)
  {f_Q32 : Addr} {d_Q32 : FuncData} (h_times : IsF K "times" s_Q32 f_Q32 d_Q32)
  {f_Q35 : Addr} {d_Q35 : FuncData} (h_over : IsF K "over" s_Q35 f_Q35 d_Q35)
  {f_Q28 : Addr} {d_Q28 : FuncData} (h_raised : IsF K "raised" s_Q28 f_Q28 d_Q28)
  {f_Q23 : Addr} {d_Q23 : FuncData} (h_is_less : IsF K "is_less" s_Q23 f_Q23 d_Q23)
  {f_Q33 : Addr} {d_Q33 : FuncData} (h_total : IsF K "total" s_Q33 f_Q33 d_Q33)
  {f_Q1 : Addr} {d_Q1 : FuncData} (h_slope_between : IsF K "slope_between" s_Q1 f_Q1 d_Q1)
  {f_Q29 : Addr} {d_Q29 : FuncData} (h_top_of : IsF K "top_of" s_Q29 f_Q29 d_Q29)
  {f_Q3 : Addr} {d_Q3 : FuncData} (h_is_beyond : IsF K "is_beyond" s_Q3 f_Q3 d_Q3)
  {f_Q11 : Addr} {d_Q11 : FuncData} (h_place_of : IsF K "place_of" s_Q11 f_Q11 d_Q11)
  {f_Q12 : Addr} {d_Q12 : FuncData} (h_power_at : IsF K "power_at" s_Q12 f_Q12 d_Q12)
  {f_Q4 : Addr} {d_Q4 : FuncData} (h_speeds_of : IsF K "speeds_of" s_Q4 f_Q4 d_Q4)
  {f_Q13 : Addr} {d_Q13 : FuncData} (h_power_of : IsF K "power_of" s_Q13 f_Q13 d_Q13)
  {f_Q14 : Addr} {d_Q14 : FuncData} (h_law_tape : IsF K "_law_tape" s_Q14 f_Q14 d_Q14)
  {f_Q15 : Addr} {d_Q15 : FuncData} (h_law_draw : IsF K "_law_draw" s_Q15 f_Q15 d_Q15)
  {f_Q24 : Addr} {d_Q24 : FuncData} (h_law_gcd : IsF K "_law_gcd" s_Q24 f_Q24 d_Q24)
  {f_Q5 : Addr} {d_Q5 : FuncData} (h_law_ratio : IsF K "_law_ratio" s_Q5 f_Q5 d_Q5)
  {f_Q16 : Addr} {d_Q16 : FuncData} (h_law_plus : IsF K "_law_plus" s_Q16 f_Q16 d_Q16)
  {f_Q6 : Addr} {d_Q6 : FuncData} (h_law_minus : IsF K "_law_minus" s_Q6 f_Q6 d_Q6)
  {f_Q7 : Addr} {d_Q7 : FuncData} (h_law_times : IsF K "_law_times" s_Q7 f_Q7 d_Q7)
  {f_Q17 : Addr} {d_Q17 : FuncData} (h_law_over : IsF K "_law_over" s_Q17 f_Q17 d_Q17)
  {f_Q18 : Addr} {d_Q18 : FuncData} (h_law_less : IsF K "_law_less" s_Q18 f_Q18 d_Q18)
  {f_Q25 : Addr} {d_Q25 : FuncData} (h_law_sum : IsF K "_law_sum" s_Q25 f_Q25 d_Q25)
  {f_Q19 : Addr} {d_Q19 : FuncData} (h_law_part : IsF K "_law_part" s_Q19 f_Q19 d_Q19)
  {f_Q8 : Addr} {d_Q8 : FuncData} (h_law_works : IsF K "_law_works" s_Q8 f_Q8 d_Q8)
  {f_Q9 : Addr} {d_Q9 : FuncData} (h_law_table : IsF K "_law_table" s_Q9 f_Q9 d_Q9)
  {f_Q20 : Addr} {d_Q20 : FuncData} (h_law_rule : IsF K "_law_rule" s_Q20 f_Q20 d_Q20)
  {f_Q10 : Addr} {d_Q10 : FuncData} (h_law_power : IsF K "_law_power" s_Q10 f_Q10 d_Q10)
  {f_Q21 : Addr} {d_Q21 : FuncData} (h_law_plan : IsF K "_law_plan" s_Q21 f_Q21 d_Q21)
  {f_Q2 : Addr} {d_Q2 : FuncData} (h_law_scaled : IsF K "_law_scaled" s_Q2 f_Q2 d_Q2)
  {f_Q22 : Addr} {d_Q22 : FuncData} (h_law_told : IsF K "_law_told" s_Q22 f_Q22 d_Q22)
  {f_Q36 : Addr} {d_Q36 : FuncData} (h_law : IsF K "law" s_Q36 f_Q36 d_Q36)
  {f_NOUGHT : Addr} {od_NOUGHT : Option Addr} {sl_NOUGHT : Array (Option Value)} {tkNOUGHT0 tkNOUGHT1 : Tok} {n_NOUGHT : Nat} (p_NOUGHT : nsIn K mainGlobals "NOUGHT" = some (some (.ref f_NOUGHT))) (l_NOUGHT : K.lookup f_NOUGHT = some ⟨.type "tuple", od_NOUGHT, .seq #[.int (0) tkNOUGHT0, .int (1) tkNOUGHT1] n_NOUGHT, sl_NOUGHT⟩)
  {tkPOWER : Tok} (p_POWER : nsIn K mainGlobals "POWER" = some (some (.str "power" tkPOWER)))
  {cB NB : Addr} {nmB qB : Str} {bsB : List Value} {hdB : Bool} {snB : List Str} {suB : List Value} {abB : Bool} {coB : Option Bool} {ddB : Option Addr} {j0 j1 j2 j3 j5 : Option Value} {ocB : Value} {odB : Option Addr} {esB : Array DictEntry} {nB : Nat} {slB : Array (Option Value)}
  (pB : nsIn K mainGlobals "PaceError" = some (some (.ref cB))) (lB : K.lookup cB = some (excClassObj nmB qB cB NB bsB [.type "ValueError", .type "Exception", .type "BaseException", .type "object"] hdB snB suB abB coB ddB j0 j1 j2 j3 j5 "ValueError.__new__")) (lnB : K.lookup NB = some ⟨ocB, odB, .dict esB nB, slB⟩) (hsB : strKeysB esB = true) (hnB : (nsFind esB "__init__").isNone = true)
  (cgB : specialIn K (.builtin "object.__class__") "__get__" = some (some (.builtin "getset_descriptor.__get__"))) (ctB : takesIn K (.builtin "object.__class__") = some true)
  {c_Q26 N_Q26 i_Q26 : Addr} {nm_Q26 q_Q26 : Str} {bs_Q26 : List Value} {hd_Q26 : Bool} {sn_Q26 : List Str} {su_Q26 : List Value} {ab_Q26 : Bool} {co_Q26 : Option Bool} {dd_Q26 : Option Addr} {k0_Q26 k1_Q26 k2_Q26 k3_Q26 k5_Q26 : Option Value} {od_Q26 an_Q26 : Option Addr} {sl_Q26 : Array (Option Value)} {oc_Q26 kV_Q26 dc_Q26 pm_Q26 cd_Q26 ct_Q26 : Value}
  (p_Q26 : nsIn K mainGlobals "NoSpeed" = some (some (.ref c_Q26))) (lc_Q26 : K.lookup c_Q26 = some (excClassObj nm_Q26 q_Q26 c_Q26 N_Q26 bs_Q26 (.ref cB :: [.type "ValueError", .type "Exception", .type "BaseException", .type "object"]) hd_Q26 sn_Q26 su_Q26 ab_Q26 co_Q26 dd_Q26 k0_Q26 k1_Q26 k2_Q26 k3_Q26 k5_Q26 "ValueError.__new__")) (fi_Q26 : findIn K (.ref c_Q26) "__init__" = some (some (.ref i_Q26)))
  (l_Q26 : K.lookup i_Q26 = some ⟨oc_Q26, od_Q26, .func (fnOf "__init__" "NoSpeed.__init__" (defArgs s_Q26) (defBody s_Q26) (defScope s_Q26) .none kV_Q26 dc_Q26 pm_Q26 an_Q26 cd_Q26 ct_Q26), sl_Q26⟩) (cd_Q26_ : codeIn K cd_Q26 "NoSpeed.__init__" = true) (ki_Q26 : keepIn K (.ref i_Q26) = true) (ti_Q26 : typeIn K (.ref i_Q26) = some (.type "function")) (kc_Q26 : keepIn K (.ref c_Q26) = true)
  (hh_Q26 : hasDictIn K c_Q26 = true) (sa_Q26 : findIn K (.ref c_Q26) "__setattr__" = some (some (.builtin "object.__setattr__")))
  (na_Q26_speed : findIn K (.ref c_Q26) "speed" = some none) (ga_Q26 : findIn K (.ref c_Q26) "__getattribute__" = some (some (.builtin "BaseException.__getattribute__"))) (gn_Q26 : findIn K (.ref c_Q26) "__getattr__" = some none) (cl_Q26 : findIn K (.ref c_Q26) "__class__" = some (some (.builtin "object.__class__")))
  (w_x_catch : exmOne K (.ref c_Q26) (.ref c_Q26) = some true)
  (z_abs : nsIn K mainGlobals "abs" = some none)
  (z_enumerate : nsIn K mainGlobals "enumerate" = some none)
  (z_isinstance : nsIn K mainGlobals "isinstance" = some none)
  (z_len : nsIn K mainGlobals "len" = some none)
  (z_list : nsIn K mainGlobals "list" = some none)
  (z_range : nsIn K mainGlobals "range" = some none)
  (z_repr : nsIn K mainGlobals "repr" = some none)
  (z_sum : nsIn K mainGlobals "sum" = some none)
  (z_tuple : nsIn K mainGlobals "tuple" = some none)
  (z_zip : nsIn K mainGlobals "zip" = some none)
  : ∃ fd : FuncData, (∀ (s : Shared) (v : Value), BindsTo s fd ⟨[v], []⟩ [("_law_script", v)]) /\ ∀ base : Heap, K.In base -> base.Ns mainGlobals mg -> FnOk l.prog w K mg base CX0 8 fa fd ["_law_script"] (sp_law K) := by
 have e := hfa.symm.trans (mg_of X G h_law.p)
 cases e
 obtain ⟨_, _, _, _, _, _, _, _, _, rfl, _, _⟩ := h_law.F.ex
 have F_Q26 := fun_mk (st := s_Q26) l_Q26 cd_Q26_ ki_Q26
 have T : Txt K mg ⟨f_Q27, _, f_Q0, _, f_Q30, _, f_Q34, _, f_Q31, _, f_Q32, _, f_Q35, _, f_Q28, _, f_Q23, _, f_Q33, _, f_Q1, _, f_Q29, _, f_Q3, _, f_Q11, _, f_Q12, _, f_Q4, _, f_Q13, _, f_Q14, _, f_Q15, _, f_Q24, _, f_Q5, _, f_Q16, _, f_Q6, _, f_Q7, _, f_Q17, _, f_Q18, _, f_Q25, _, f_Q19, _, f_Q8, _, f_Q9, _, f_Q20, _, f_Q10, _, f_Q21, _, f_Q2, _, f_Q22, _, fa, _, f_NOUGHT, tkPOWER, cB, c_Q26, i_Q26, _⟩ := {
  F_Q27 := h_copied.F, b_Q27 := h_copied.b1, m_Q27 := mg_of X G h_copied.p,
  F_Q0 := h_greatest_divisor.F, b_Q0 := h_greatest_divisor.b2, m_Q0 := mg_of X G h_greatest_divisor.p,
  F_Q30 := h_ratio.F, b_Q30 := h_ratio.b2, m_Q30 := mg_of X G h_ratio.p,
  F_Q34 := h_plus.F, b_Q34 := h_plus.b2, m_Q34 := mg_of X G h_plus.p,
  F_Q31 := h_minus.F, b_Q31 := h_minus.b2, m_Q31 := mg_of X G h_minus.p,
  F_Q32 := h_times.F, b_Q32 := h_times.b2, m_Q32 := mg_of X G h_times.p,
  F_Q35 := h_over.F, b_Q35 := h_over.b2, m_Q35 := mg_of X G h_over.p,
  F_Q28 := h_raised.F, b_Q28 := h_raised.b2, m_Q28 := mg_of X G h_raised.p,
  F_Q23 := h_is_less.F, b_Q23 := h_is_less.b2, m_Q23 := mg_of X G h_is_less.p,
  F_Q33 := h_total.F, b_Q33 := h_total.b1, m_Q33 := mg_of X G h_total.p,
  F_Q1 := h_slope_between.F, b_Q1 := h_slope_between.b2, m_Q1 := mg_of X G h_slope_between.p,
  F_Q29 := h_top_of.F, b_Q29 := h_top_of.b1, m_Q29 := mg_of X G h_top_of.p,
  F_Q3 := h_is_beyond.F, b_Q3 := h_is_beyond.b2, m_Q3 := mg_of X G h_is_beyond.p,
  F_Q11 := h_place_of.F, b_Q11 := h_place_of.b2, m_Q11 := mg_of X G h_place_of.p,
  F_Q12 := h_power_at.F, b_Q12 := h_power_at.b2, m_Q12 := mg_of X G h_power_at.p,
  F_Q4 := h_speeds_of.F, b_Q4 := h_speeds_of.b1, m_Q4 := mg_of X G h_speeds_of.p,
  F_Q13 := h_power_of.F, b_Q13 := h_power_of.b2, m_Q13 := mg_of X G h_power_of.p,
  F_Q14 := h_law_tape.F, b_Q14 := h_law_tape.b1, m_Q14 := mg_of X G h_law_tape.p,
  F_Q15 := h_law_draw.F, b_Q15 := h_law_draw.b2, m_Q15 := mg_of X G h_law_draw.p,
  F_Q24 := h_law_gcd.F, b_Q24 := h_law_gcd.b2, m_Q24 := mg_of X G h_law_gcd.p,
  F_Q5 := h_law_ratio.F, b_Q5 := h_law_ratio.b2, m_Q5 := mg_of X G h_law_ratio.p,
  F_Q16 := h_law_plus.F, b_Q16 := h_law_plus.b2, m_Q16 := mg_of X G h_law_plus.p,
  F_Q6 := h_law_minus.F, b_Q6 := h_law_minus.b2, m_Q6 := mg_of X G h_law_minus.p,
  F_Q7 := h_law_times.F, b_Q7 := h_law_times.b2, m_Q7 := mg_of X G h_law_times.p,
  F_Q17 := h_law_over.F, b_Q17 := h_law_over.b2, m_Q17 := mg_of X G h_law_over.p,
  F_Q18 := h_law_less.F, b_Q18 := h_law_less.b2, m_Q18 := mg_of X G h_law_less.p,
  F_Q25 := h_law_sum.F, b_Q25 := h_law_sum.b1, m_Q25 := mg_of X G h_law_sum.p,
  F_Q19 := h_law_part.F, b_Q19 := h_law_part.b1, m_Q19 := mg_of X G h_law_part.p,
  F_Q8 := h_law_works.F, b_Q8 := h_law_works.b3, m_Q8 := mg_of X G h_law_works.p,
  F_Q9 := h_law_table.F, b_Q9 := h_law_table.b1, m_Q9 := mg_of X G h_law_table.p,
  F_Q20 := h_law_rule.F, b_Q20 := h_law_rule.b1, m_Q20 := mg_of X G h_law_rule.p,
  F_Q10 := h_law_power.F, b_Q10 := h_law_power.b2, m_Q10 := mg_of X G h_law_power.p,
  F_Q21 := h_law_plan.F, b_Q21 := h_law_plan.b2, m_Q21 := mg_of X G h_law_plan.p,
  F_Q2 := h_law_scaled.F, b_Q2 := h_law_scaled.b3, m_Q2 := mg_of X G h_law_scaled.p,
  F_Q22 := h_law_told.F, b_Q22 := h_law_told.b2, m_Q22 := mg_of X G h_law_told.p,
  F_Q36 := h_law.F, b_Q36 := h_law.b1, m_Q36 := mg_of X G h_law.p,
  m_NOUGHT := mg_of X G p_NOUGHT, q_NOUGHT := fun H => .inr ⟨_, _, _, l_NOUGHT, rfl, rfl, zl2, (.cons ⟨_, rfl⟩ (.cons ⟨_, rfl⟩ .nil))⟩,
  m_POWER := mg_of X G p_POWER,
  X_Q26 := xc_mk lc_Q26 lB lnB hsB hnB fi_Q26 ti_Q26 kc_Q26 hh_Q26 sa_Q26, F_Q26 := F_Q26, b_Q26 := bdA F_Q26, m_Q26 := mg_of X G p_Q26, n_Q26_speed := na_Q26_speed, g_Q26 := ⟨ga_Q26, gn_Q26, cl_Q26, cgB, ctB⟩,
  x_catch := w_x_catch,
  z_abs := mg_none_of X G z_abs, z_enumerate := mg_none_of X G z_enumerate, z_isinstance := mg_none_of X G z_isinstance, z_len := mg_none_of X G z_len, z_list := mg_none_of X G z_list, z_range := mg_none_of X G z_range, z_repr := mg_none_of X G z_repr, z_sum := mg_none_of X G z_sum, z_tuple := mg_none_of X G z_tuple, z_zip := mg_none_of X G z_zip }
 exact ⟨_, fun s v => .of_eq rfl, fun base _ _ => ok_Q36 T⟩
theorem walk {l : PySem.W.OpenLaw} {q : Program} {loose : List Str} {XP : (Str -> Option Value) -> Heap -> Prop} {YP : World -> Heap -> Prop} {d : DefRec} {K : Params -> PySem.W.Frag} (hn : l.most = some 63) (hdf : d.params.defaults = [])
  (hY : ∀ (w : World) (h : Heap), YP w h -> (K w.params).In h)
  (F : ∀ (w : World) (mg : Str -> Option Value) (fa : Addr) (h : Heap), (K w.params).In h -> h.Ns mainGlobals mg -> mg d.name = some (.ref fa) →
   ∃ fd : FuncData, (∀ (s : Shared) (u : Value), BindsTo s fd ⟨[u], []⟩ [("_law_script", u)]) /\ ∀ base : Heap, (K w.params).In base -> base.Ns mainGlobals mg -> FnOk l.prog w (K w.params) mg base CX0 8 fa fd ["_law_script"] (sp_law (K w.params))) :
  PySem.W.WalkO q loose XP YP l.row.toRowW d [] (fun f vs => PySem.call f vs) :=
 L2.walk_of (n := 63) (k := 8) (x := "_law_script") (CX := fun _ => CX0) (sp := fun w => sp_law (K w.params)) hn (by decide) hdf ⟨rfl, by decide, by decide, rfl⟩ hY F (fun _ _ a ns hl _ hS => ⟨a, ns, rfl, hS, hl, fun _ => rfl⟩) fun _ _ _ _ _ z => z
end My
open PySem PySem.W PyProof.Rows
set_option maxRecDepth 100000 in
set_option maxHeartbeats 0 in
theorem PySem.Challenge.cw_paceplan_k18_speeds_and_powers_holds : PySem.Challenge.rw_paceplan_k18_speeds_and_powers.Holds := by
 w_on; refine HWtop ?_
 k_fill
 refine My.walk (l := PySem.Challenge.rw_paceplan_k18_speeds_and_powers) rfl rfl (fun w h Y => PySem.W.kIn_of Y) ?F
 case F =>
  intro w mg fa h KX G hmg
  refine' My.all_mk KX G hmg ?h_copied ?h_greatest_divisor ?h_ratio ?h_plus ?h_minus ?h_times ?h_over ?h_raised ?h_is_less ?h_total ?h_slope_between ?h_top_of ?h_is_beyond ?h_place_of ?h_power_at ?h_speeds_of ?h_power_of ?h_law_tape ?h_law_draw ?h_law_gcd ?h_law_ratio ?h_law_plus ?h_law_minus ?h_law_times ?h_law_over ?h_law_less ?h_law_sum ?h_law_part ?h_law_works ?h_law_table ?h_law_rule ?h_law_power ?h_law_plan ?h_law_scaled ?h_law_told ?h_law ?p_NOUGHT ?l_NOUGHT ?p_POWER ?pB ?lB ?lnB ?hsB ?hnB ?cgB ?ctB ?p_Q26 ?lc_Q26 ?fi_Q26 ?l_Q26 ?cd_Q26_ ?ki_Q26 ?ti_Q26 ?kc_Q26 ?hh_Q26 ?sa_Q26 ?na_Q26_speed ?ga_Q26 ?gn_Q26 ?cl_Q26 ?w_x_catch ?z_abs ?z_enumerate ?z_isinstance ?z_len ?z_list ?z_range ?z_repr ?z_sum ?z_tuple ?z_zip
  (case h_copied => refine' B.isF ?a ?b ?c ?d; (case a => k_is); (case b => k_is); (case c => k_is); (case d => k_is))
  (case h_greatest_divisor => refine' B.isF ?a ?b ?c ?d; (case a => k_is); (case b => k_is); (case c => k_is); (case d => k_is))
  (case h_ratio => refine' B.isF ?a ?b ?c ?d; (case a => k_is); (case b => k_is); (case c => k_is); (case d => k_is))
  (case h_plus => refine' B.isF ?a ?b ?c ?d; (case a => k_is); (case b => k_is); (case c => k_is); (case d => k_is))
  (case h_minus => refine' B.isF ?a ?b ?c ?d; (case a => k_is); (case b => k_is); (case c => k_is); (case d => k_is))
  (case h_times => refine' B.isF ?a ?b ?c ?d; (case a => k_is); (case b => k_is); (case c => k_is); (case d => k_is))
  (case h_over => refine' B.isF ?a ?b ?c ?d; (case a => k_is); (case b => k_is); (case c => k_is); (case d => k_is))
  (case h_raised => refine' B.isF ?a ?b ?c ?d; (case a => k_is); (case b => k_is); (case c => k_is); (case d => k_is))
  (case h_is_less => refine' B.isF ?a ?b ?c ?d; (case a => k_is); (case b => k_is); (case c => k_is); (case d => k_is))
  (case h_total => refine' B.isF ?a ?b ?c ?d; (case a => k_is); (case b => k_is); (case c => k_is); (case d => k_is))
  (case h_slope_between => refine' B.isF ?a ?b ?c ?d; (case a => k_is); (case b => k_is); (case c => k_is); (case d => k_is))
  (case h_top_of => refine' B.isF ?a ?b ?c ?d; (case a => k_is); (case b => k_is); (case c => k_is); (case d => k_is))
  (case h_is_beyond => refine' B.isF ?a ?b ?c ?d; (case a => k_is); (case b => k_is); (case c => k_is); (case d => k_is))
  (case h_place_of => refine' B.isF ?a ?b ?c ?d; (case a => k_is); (case b => k_is); (case c => k_is); (case d => k_is))
  (case h_power_at => refine' B.isF ?a ?b ?c ?d; (case a => k_is); (case b => k_is); (case c => k_is); (case d => k_is))
  (case h_speeds_of => refine' B.isF ?a ?b ?c ?d; (case a => k_is); (case b => k_is); (case c => k_is); (case d => k_is))
  (case h_power_of => refine' B.isF ?a ?b ?c ?d; (case a => k_is); (case b => k_is); (case c => k_is); (case d => k_is))
  (case h_law_tape => refine' B.isF ?a ?b ?c ?d; (case a => k_is); (case b => k_is); (case c => k_is); (case d => k_is))
  (case h_law_draw => refine' B.isF ?a ?b ?c ?d; (case a => k_is); (case b => k_is); (case c => k_is); (case d => k_is))
  (case h_law_gcd => refine' B.isF ?a ?b ?c ?d; (case a => k_is); (case b => k_is); (case c => k_is); (case d => k_is))
  (case h_law_ratio => refine' B.isF ?a ?b ?c ?d; (case a => k_is); (case b => k_is); (case c => k_is); (case d => k_is))
  (case h_law_plus => refine' B.isF ?a ?b ?c ?d; (case a => k_is); (case b => k_is); (case c => k_is); (case d => k_is))
  (case h_law_minus => refine' B.isF ?a ?b ?c ?d; (case a => k_is); (case b => k_is); (case c => k_is); (case d => k_is))
  (case h_law_times => refine' B.isF ?a ?b ?c ?d; (case a => k_is); (case b => k_is); (case c => k_is); (case d => k_is))
  (case h_law_over => refine' B.isF ?a ?b ?c ?d; (case a => k_is); (case b => k_is); (case c => k_is); (case d => k_is))
  (case h_law_less => refine' B.isF ?a ?b ?c ?d; (case a => k_is); (case b => k_is); (case c => k_is); (case d => k_is))
  (case h_law_sum => refine' B.isF ?a ?b ?c ?d; (case a => k_is); (case b => k_is); (case c => k_is); (case d => k_is))
  (case h_law_part => refine' B.isF ?a ?b ?c ?d; (case a => k_is); (case b => k_is); (case c => k_is); (case d => k_is))
  (case h_law_works => refine' B.isF ?a ?b ?c ?d; (case a => k_is); (case b => k_is); (case c => k_is); (case d => k_is))
  (case h_law_table => refine' B.isF ?a ?b ?c ?d; (case a => k_is); (case b => k_is); (case c => k_is); (case d => k_is))
  (case h_law_rule => refine' B.isF ?a ?b ?c ?d; (case a => k_is); (case b => k_is); (case c => k_is); (case d => k_is))
  (case h_law_power => refine' B.isF ?a ?b ?c ?d; (case a => k_is); (case b => k_is); (case c => k_is); (case d => k_is))
  (case h_law_plan => refine' B.isF ?a ?b ?c ?d; (case a => k_is); (case b => k_is); (case c => k_is); (case d => k_is))
  (case h_law_scaled => refine' B.isF ?a ?b ?c ?d; (case a => k_is); (case b => k_is); (case c => k_is); (case d => k_is))
  (case h_law_told => refine' B.isF ?a ?b ?c ?d; (case a => k_is); (case b => k_is); (case c => k_is); (case d => k_is))
  (case h_law => refine' B.isF ?a ?b ?c ?d; (case a => k_is); (case b => k_is); (case c => k_is); (case d => k_is))
  (case p_NOUGHT => k_is)
  (case l_NOUGHT => k_is)
  (case p_POWER => k_is)
  (case pB => k_is)
  (case lB => k_is)
  (case lnB => k_is)
  (case hsB => rfl)
  (case hnB => rfl)
  (case cgB => k_is)
  (case ctB => k_is)
  (case p_Q26 => k_is)
  (case lc_Q26 => k_is)
  (case fi_Q26 => k_is)
  (case l_Q26 => k_is)
  (case cd_Q26_ => k_is)
  (case ki_Q26 => k_is)
  (case ti_Q26 => k_is)
  (case kc_Q26 => k_is)
  (case hh_Q26 => k_is)
  (case sa_Q26 => k_is)
  (case na_Q26_speed => k_is)
  (case ga_Q26 => k_is)
  (case gn_Q26 => k_is)
  (case cl_Q26 => k_is)
  (case w_x_catch => kts_exm)
  (case z_abs => k_is)
  (case z_enumerate => k_is)
  (case z_isinstance => k_is)
  (case z_len => k_is)
  (case z_list => k_is)
  (case z_range => k_is)
  (case z_repr => k_is)
  (case z_sum => k_is)
  (case z_tuple => k_is)
  (case z_zip => k_is)
