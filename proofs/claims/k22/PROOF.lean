import PyProof.Rows.All
import KE.RegKIsAll
import KE.RegKTryMore
import KE.KIntText
import KE.KRevSl
import KE.KStrOpen
import PySem.Challenge.RW_paceplan_k22_whole_written_and_read
set_option Elab.async false
set_option linter.all false
set_option maxRecDepth 100000
theorem opt_two {α β γ : Type} {o : Option α} {f : α -> β} {g : α -> γ} {a : β} {b : γ} (h1 : o.map f = some a) (h2 : o.map g = some b) : o.map (fun s => (f s, g s)) = some (a, b) := by
 cases o with
 | none => cases h1
 | some x => cases h1; cases h2; rfl
namespace HW
open PySem
def keep : List Nat := [1, 2, 3, 5, 6, 8, 9, 10, 11, 12, 14, 15, 16, 17, 18, 19, 20, 21, 22, 23, 24, 25, 26, 27, 29, 30, 31, 32, 33, 34, 35, 36, 37, 38, 40, 41, 42, 43, 44, 45, 46, 47, 48, 49, 50, 51, 52, 53, 54, 55, 56, 57]
def V : Program := PySem.W.view PySem.Challenge.pw_paceplan_k22_whole_written_and_read keep
end HW
section HWs
open PySem PySem.W PyProof.Rows
set_option maxHeartbeats 0 in
theorem HWa : ∀ w : World, (openEnds treeTable PySem.Challenge.rw_paceplan_k22_whole_written_and_read.row.prog w 3820).map (fun s => openSeen HW.V [] (importedModules PySem.Challenge.rw_paceplan_k22_whole_written_and_read.row.prog.main.body) (fun s => xlAt HW.V [] s && recOk PySem.Challenge.rw_paceplan_k22_whole_written_and_read.row.records s) true s) = some (openGood HW.V []) := by
 intro w
 delta openEnds fencedOpening topFrom
 rw [PySem.W.Fast.te14364793385576792824, PySem.W.Fast.te14082659384304107361, PySem.W.Fast.te10274390034422433532, PySem.W.Fast.te1435165496053646825, PySem.W.Fast.te14289696077712309145, PySem.W.Fast.te4187177175401517315]
 kernel_rfl
local macro_rules
 | `(tactic| o_head $H:term) => `(tactic| (
   refine holds_open (q := HW.V) (loose := []) (N := 3820)
    (Xt := fun s => xlAt HW.V [] s && recOk (RowW.records (OpenRow.toRowW (OpenLaw.row PySem.Challenge.rw_paceplan_k22_whole_written_and_read))) s)
    (XP := XL HW.V []) (Yf := Hook.obs $H) (Ya := Hook.val $H) (YP := Hook.says $H)
    ?hl (Hook.of $H) (Hook.keeps $H)
    (fun s e => xl_of s (Bool.and_eq_true_iff.mp e).1) XL.keeps
    (by rfl) (by rfl) (by rfl)
    (fun s e => recFacts_of (Bool.and_eq_true_iff.mp e).2) (by rfl) (by assumption) (by decide +kernel)
    ⟨rfl, rfl, rfl, rfl, rfl, by decide +kernel⟩ ?hw ?hc
   (case hl =>
    intro w
    refine opt_two (HWa w) ?_
    delta openEnds fencedOpening topFrom
    rw [PySem.W.Fast.te14364793385576792824, PySem.W.Fast.te14082659384304107361, PySem.W.Fast.te10274390034422433532, PySem.W.Fast.te1435165496053646825, PySem.W.Fast.te14289696077712309145]
    kernel_rfl)))
set_option maxHeartbeats 0 in
open_top HWtop for PySem.Challenge.rw_paceplan_k22_whole_written_and_read
end HWs
abbrev Fg := PySem.W.Frag
abbrev PLs := List (PySem.Addr × PySem.Obj)
abbrev VSP := PySem.Value -> PySem.Shared -> Prop
theorem zl0 : 0 ≤ PySem.sizeLine := by decide
theorem zl1 : 1 ≤ PySem.sizeLine := by decide
theorem zl2 : 2 ≤ PySem.sizeLine := by decide
theorem zl3 : 3 ≤ PySem.sizeLine := by decide
theorem zl4 : 4 ≤ PySem.sizeLine := by decide
theorem zl5 : 5 ≤ PySem.sizeLine := by decide
theorem zl6 : 6 ≤ PySem.sizeLine := by decide
theorem zl7 : 7 ≤ PySem.sizeLine := by decide
theorem zl9 : 9 ≤ PySem.sizeLine := by decide
namespace L2
open PySem PySem.Spec PyProof.Rows
abbrev Key := Sum Int Str
def keyIs : Key -> Value -> Bool
 | .inl k, v => Value.isInt k v
 | .inr x, v => Value.isStrOf x v
def keyH (w : World) : Key -> Int
 | .inl k => hashInt k
 | .inr x => hashStr w x
theorem keyIs_shape : ∀ {k : Key} {v : Value}, keyIs k v = true -> (∃ i t, k = Sum.inl i /\ v = Value.int i t) ∨ (∃ x t, k = Sum.inr x /\ v = Value.str x t)
 | .inl i, v, h => by
  obtain ⟨t, e⟩ := Value.isInt_shape (k := i) (v := v) h
  exact .inl ⟨i, t, rfl, e⟩
 | .inr x, v, h => by
  obtain ⟨t, e⟩ := Value.isStrOf_shape (x := x) (v := v) h
  exact .inr ⟨x, t, rfl, e⟩
theorem key_ll (a b : Int) : decide ((Sum.inl a : Key) = Sum.inl b) = (a == b) := by
 by_cases e : a = b
 ·subst e; simp
 ·have h : ¬ (Sum.inl a : Key) = Sum.inl b := fun q => e (Sum.inl.inj q)
  rw [decide_eq_false h]
  exact (beq_eq_false_iff_ne.mpr e).symm
theorem key_rr (a b : Str) : decide ((Sum.inr a : Key) = Sum.inr b) = decide (a = b) := by
 by_cases e : a = b
 ·subst e; simp
 ·have h : ¬ (Sum.inr a : Key) = Sum.inr b := fun q => e (Sum.inr.inj q)
  rw [decide_eq_false h, decide_eq_false e]
theorem key_lr (a : Int) (b : Str) : decide ((Sum.inl a : Key) = Sum.inr b) = false := decide_eq_false (fun q => nomatch q)
theorem key_rl (a : Str) (b : Int) : decide ((Sum.inr a : Key) = Sum.inl b) = false := decide_eq_false (fun q => nomatch q)
def mixKind (prog : Program) (w : World) : PySem.KeyKind prog w Key where
 is := keyIs
 hash := keyH w
 inj := fun v a b ha hb => by
  rcases keyIs_shape ha with ⟨i, t, rfl, rfl⟩ | ⟨x, t, rfl, rfl⟩
  ·rcases keyIs_shape hb with ⟨j, u, rfl, e⟩ | ⟨y, u, rfl, e⟩
   ·injection e with e1 _; rw [e1]
   ·exact nomatch e
  ·rcases keyIs_shape hb with ⟨j, u, rfl, e⟩ | ⟨y, u, rfl, e⟩
   ·exact nomatch e
   ·injection e with e1 _; rw [e1]
 byValue := fun k v h => by
  rcases keyIs_shape h with ⟨i, t, rfl, rfl⟩ | ⟨x, t, rfl, rfl⟩ <;> rfl
 pyHash := fun hv h => by
  rcases keyIs_shape hv with ⟨i, t, rfl, rfl⟩ | ⟨x, t, rfl, rfl⟩
  ·exact wpAny_pyHash_int h
  ·exact wpAny_pyHash_str h
 eqBool := fun hu hv h => by
  rcases keyIs_shape hu with ⟨i, t, rfl, rfl⟩ | ⟨x, t, rfl, rfl⟩
  ·rcases keyIs_shape hv with ⟨j, u, rfl, rfl⟩ | ⟨y, u, rfl, rfl⟩
   ·rw [key_ll] at h; exact wpAny_eqBool_int h
   ·rw [key_lr] at h; exact SeqAt.EqAt.int_str i t y u _ _ _ _ h
  ·rcases keyIs_shape hv with ⟨j, u, rfl, rfl⟩ | ⟨y, u, rfl, rfl⟩
   ·rw [key_rl] at h; exact SeqAt.EqAt.str_int x t j u _ _ _ _ h
   ·rw [key_rr] at h; exact wpAny_eqBool_str h
 «strs» := fun k x t v h => by
  rcases keyIs_shape h with ⟨i, u, rfl, e⟩ | ⟨y, u, rfl, e⟩
  ·exact nomatch e
  ·injection e with e1 _
   subst e1
   cases v <;> rfl
end L2
namespace L2
open PySem PySem.Spec PyProof.Rows
inductive V where
 | non | bl (b : Bool) | int (i : Int) | str (x : Str) | byt (b : Array UInt8) | flt (b : UInt64) | ref (a : Addr) | ty (n : String)
 deriving DecidableEq
def RelV : V -> Value -> Prop
 | .non, u => u = Value.none
 | .bl b, u => u = Value.bool b
 | .int i, u => ∃ t, u = Value.int i t
 | .str x, u => ∃ t, u = Value.str x t
 | .byt b, u => ∃ t, u = Value.bytes b t
 | .flt b, u => ∃ t, u = Value.float b t
 | .ref a, u => u = Value.ref a
 | .ty n, u => u = Value.type n
abbrev Vals : List V -> List Value -> Prop := Paired RelV
theorem Vals.length {xs : List V} {us : List Value} (r : Vals xs us) : xs.length = us.length := Paired.length r
theorem Vals.get : ∀ {xs : List V} {us : List Value} {i : Nat} {x : V}, Vals xs us -> xs[i]? = some x -> ∃ u, us[i]? = some u /\ RelV x u
 | _, _, _, _, .nil, e => by simp at e
 | _, _, 0, _, .cons r _, e => by simp at e; subst e; exact ⟨_, rfl, r⟩
 | _, _, i + 1, x, .cons _ t, e => by
  obtain ⟨u, h1, h2⟩ := Vals.get (i := i) (x := x) t (by simpa using e)
  exact ⟨u, by simpa using h1, h2⟩
theorem Vals.set {x : V} {u : Value} (r : RelV x u) : ∀ {xs : List V} {us : List Value} (i : Nat), Vals xs us -> Vals (xs.set i x) (us.set i u)
 | _, _, _, .nil => .nil
 | _, _, 0, .cons _ t => .cons r t
 | _, _, i + 1, .cons q t => .cons q (Vals.set r i t)
theorem Vals.append : ∀ {xs ys : List V} {us ws : List Value}, Vals xs us -> Vals ys ws -> Vals (xs ++ ys) (us ++ ws)
 | _, _, _, _, .nil, s => s
 | _, _, _, _, .cons r t, s => .cons r (Vals.append t s)
theorem Vals.take : ∀ {xs : List V} {us : List Value} (n : Nat), Vals xs us -> Vals (xs.take n) (us.take n)
 | _, _, 0, _ => .nil
 | _, _, _ + 1, .nil => .nil
 | _, _, n + 1, .cons r t => .cons r (Vals.take n t)
theorem Vals.drop : ∀ {xs : List V} {us : List Value} (n : Nat), Vals xs us -> Vals (xs.drop n) (us.drop n)
 | _, _, 0, r => r
 | _, _, _ + 1, .nil => .nil
 | _, _, n + 1, .cons _ t => Vals.drop n t
def RelO : Option V -> Option Value -> Prop
 | some v, some u => RelV v u
 | none, none => True
 | _, _ => False
def KV {κ : Type} : List (κ × V) -> List (κ × Value) -> Prop := Paired fun (p : κ × V) (q : κ × Value) => p.1 = q.1 /\ RelV p.2 q.2
def kV : Key -> V
 | .inl i => .int i
 | .inr x => .str x
inductive HO where
 | lst (xs : List V)
 | tup (xs : List V)
 | dK (kvs : List (Key × V)) | dT (kvs : List (List Key × V))
 | set (S : Int -> Bool) (n : Nat)
 | ins (C dx : Addr) (fs : List (Str × V))
 | own (x : Addr)
 | xd (fs : List (Str × V))
 | met (f x : Addr)
 | rng (lo hi : Int)
 | frz (o : Obj) (u : HO)
 | tbl (ps : Array Value)
 | ext (φ : Heap -> Prop)
abbrev Hp := Addr -> Option HO
def upd (H : Hp) (a : Addr) (o : HO) : Hp := fun b => if b = a then some o else H b
theorem upd_same {H : Hp} {a : Addr} {o : HO} : upd H a o a = some o := by unfold upd; rw [if_pos rfl]
theorem upd_ne {H : Hp} {a b : Addr} {o : HO} (h : b ≠ a) : upd H a o b = H b := by unfold upd; rw [if_neg h]
theorem upd_upd {H : Hp} {a : Addr} {o u : HO} : upd (upd H a o) a u = upd H a u := by
 funext b; unfold upd; split <;> rfl
theorem ne_of_none {H : Hp} {a b : Addr} {o : HO} (h : H a = some o) (h' : H b = none) : a ≠ b := by
 intro e; subst e; rw [h] at h'; cases h'
section
variable (P : Program) (w : World)
def ObjOk (H : Hp) (h : Heap) (a : Addr) : HO -> Prop
 | .lst xs => xs.length ≤ sizeLine /\ ∃ (its : List Value) (n : Nat), Vals xs its /\ h.get? a = some { cls := .type "list", data := .seq its.toArray n }
 | .tup xs => xs.length ≤ sizeLine /\ ∃ its : List Value, Vals xs its /\ IsTup h a its.toArray
 | .dK kvs => kvs.length ≤ sizeLine /\ (a == sysModules) = false /\ ∃ vs, KV kvs vs /\ h.DictOf (mixKind P w) a vs
 | .dT kvs => kvs.length ≤ sizeLine /\ (a == sysModules) = false /\ ∃ xs : List (List Key × Addr × Value),
   Paired (fun (p : List Key × V) (q : List Key × Addr × Value) => p.1 = q.1 /\ H q.2.1 = some (.tup (p.1.map kV)) /\ RelV p.2 q.2.2) kvs xs ∧
   ∃ o es ep, h.get? a = some o /\ o.ExactDict /\ o.data = .dict es ep /\ es.toList = xs.map (entryOfKey (tupleKind (mixKind P w))) /\ (xs.map (·.1)).Nodup
 | .set S n => h.SetOf (intKind P w) a S n
 | .ins C dx fs => H dx = some (.own a) /\ fs.length ≤ 1000 /\ dx ≠ a /\ h.get? a = some (PySem.W.instObj C dx) ∧
   ∃ mA, h.Ns1 dx mA /\ (∀ f, RelO (fs.lookup f) (mA f)) /\ PySem.Within mA (fs.map (·.1))
 | .own _ => ∃ o, h.get? a = some o
 | .xd fs => ∃ mA, h.Ns1 a mA /\ ∀ f, RelO (fs.lookup f) (mA f)
 | .rng lo hi => ∃ t u v, h.get? a = some { cls := .type "range", data := .fields #[.int lo t, .int hi u, .int 1 v] }
 | .frz o u => h.get? a = some o /\ ObjOk H h a u
 | .tbl ps => h.get? a = some { cls := .none, data := .fields ps }
 | .met f x => h.get? a = some (PySem.W.methodObj (.ref f) (.ref x))
 | .ext φ => φ h /\ (∃ o, h.get? a = some o) /\ ∀ h1 h2 : Heap, φ h1 -> (∀ o, h1.get? a = some o -> h2.get? a = some o) -> φ h2
def HOk (H : Hp) (h : Heap) : Prop := ∀ a o, H a = some o -> ObjOk P w H h a o
end
section
variable {P : Program} {w : World} {H H' : Hp} {h h' : Heap} {a : Addr} {o : HO}
theorem ObjOk.lt (x : ObjOk P w H h a o) : a < h.objs.size := by
 cases o with
 | lst xs => obtain ⟨_, _, _, _, e⟩ := x; exact Heap.lt_size e
 | tup xs => obtain ⟨_, _, _, p⟩ := x; exact p.lt
 | dK kvs => obtain ⟨_, _, _, _, o, _, _, e, _⟩ := x; exact Heap.lt_size e
 | dT kvs => obtain ⟨_, _, _, _, o, _, _, e, _⟩ := x; exact Heap.lt_size e
 | set S n => obtain ⟨o, _, _, _, e, _⟩ := x; exact Heap.lt_size e
 | ins C dx fs => obtain ⟨_, _, _, e, _⟩ := x; exact Heap.lt_size e
 | own y => obtain ⟨_, e⟩ := x; exact Heap.lt_size e
 | xd fs => obtain ⟨_, ⟨_, _, _, e, _⟩, _⟩ := x; exact Heap.lt_size e
 | rng lo hi => obtain ⟨_, _, _, e⟩ := x; exact Heap.lt_size e
 | frz ob u => obtain ⟨e, _⟩ := x; exact Heap.lt_size e
 | tbl ps => exact Heap.lt_size (show h.get? a = some _ from x)
 | met f y => exact Heap.lt_size (show h.get? a = some _ from x)
 | ext φ => obtain ⟨_, ⟨_, e⟩, _⟩ := x; exact Heap.lt_size e
theorem Paired.mapP {α β : Type} {F G : α -> β -> Prop} : ∀ {l₁ : List α} {l₂ : List β}, Paired F l₁ l₂ -> (∀ a b, F a b -> G a b) -> Paired G l₁ l₂
 | _, _, .nil, _ => .nil
 | _, _, .cons r t, f => .cons (f _ _ r) (Paired.mapP t f)
theorem ObjOk.stay (x : ObjOk P w H h a o) (k : ∀ b u, (b = a ∨ H b = some (.own a)) -> h.get? b = some u -> h'.get? b = some u)
  (ho : ∀ b, H b = some (.own a) -> H' b = some (.own a)) (ht : ∀ b xs, H b = some (.tup xs) -> H' b = some (.tup xs)) : ObjOk P w H' h' a o := by
 induction o with
 | lst xs => obtain ⟨z, its, n, r, e⟩ := x; exact ⟨z, its, n, r, k _ _ (.inl rfl) e⟩
 | tup xs => obtain ⟨z, its, r, ob, e, c⟩ := x; exact ⟨z, its, r, ob, k _ _ (.inl rfl) e, c⟩
 | dK kvs => obtain ⟨z, y, vs, r, ob, es, ep, e, c⟩ := x; exact ⟨z, y, vs, r, ob, es, ep, k _ _ (.inl rfl) e, c⟩
 | dT kvs =>
  obtain ⟨z, y, xs, r, ob, es, ep, e, c⟩ := x
  exact ⟨z, y, xs, Paired.mapP r fun p q z => ⟨z.1, ht _ _ z.2.1, z.2.2⟩, ob, es, ep, k _ _ (.inl rfl) e, c⟩
 | set S n => obtain ⟨ob, es, ep, t, e, c⟩ := x; exact ⟨ob, es, ep, t, k _ _ (.inl rfl) e, c⟩
 | ins C dx fs =>
  obtain ⟨d, z, ne, e, mA, ⟨od, es, ep, e2, c⟩, r⟩ := x
  exact ⟨ho _ d, z, ne, k _ _ (.inl rfl) e, mA, ⟨od, es, ep, k _ _ (.inr d) e2, c⟩, r⟩
 | own y => obtain ⟨ob, e⟩ := x; exact ⟨ob, k _ _ (.inl rfl) e⟩
 | xd fs => obtain ⟨mA, ⟨od, es, ep, e, c⟩, r⟩ := x; exact ⟨mA, ⟨od, es, ep, k _ _ (.inl rfl) e, c⟩, r⟩
 | rng lo hi => obtain ⟨t, u, v, e⟩ := x; exact ⟨t, u, v, k _ _ (.inl rfl) e⟩
 | frz ob u ih => obtain ⟨e, q⟩ := x; exact ⟨k _ _ (.inl rfl) e, ih q⟩
 | tbl ps =>
  have e : h.get? a = some { cls := .none, data := .fields ps } := x
  show h'.get? a = some { cls := .none, data := .fields ps }
  exact k a _ (.inl rfl) e
 | met f y =>
  have e : h.get? a = some (PySem.W.methodObj (.ref f) (.ref y)) := x
  show h'.get? a = some (PySem.W.methodObj (.ref f) (.ref y))
  exact k a _ (.inl rfl) e
 | ext φ => obtain ⟨p, ⟨o, e⟩, st⟩ := x; exact ⟨st _ _ p fun o q => k _ _ (.inl rfl) q, ⟨o, k _ _ (.inl rfl) e⟩, st⟩
theorem HOk.lt (x : HOk P w H h) (e : H a = some o) : a < h.objs.size := (x a o e).lt
theorem HOk.fresh (x : HOk P w H h) (e : h.objs.size ≤ a) : H a = none := by
 cases q : H a with
 | none => rfl
 | some u => exact absurd (Nat.lt_of_lt_of_le (x.lt q) e) (Nat.lt_irrefl _)
theorem HOk.kept (x : HOk P w H h) (k : ∀ b u, h.get? b = some u -> h'.get? b = some u) : HOk P w H h' := fun a o e =>
 (x a o e).stay (fun b u _ q => k b u q) (fun _ q => q) fun _ _ q => q
theorem HOk.laid (x : HOk P w H h) (k : ∀ b u, h.get? b = some u -> h'.get? b = some u) (hp : h.objs.size ≤ a) (new : ObjOk P w (upd H a o) h' a o) : HOk P w (upd H a o) h' := fun b u e => by
 have hn := x.fresh hp
 by_cases hb : b = a
 ·subst hb; rw [upd_same] at e; cases e; exact new
 ·rw [upd_ne hb] at e
  exact (x b u e).stay (fun c v _ q => k c v q) (fun c q => by rw [upd_ne (ne_of_none q hn)]; exact q) fun c xs q => by rw [upd_ne (ne_of_none q hn)]; exact q
end
def Rd (H : Hp) (a : Addr) (u : HO) : Prop := H a = some u ∨ ∃ o, H a = some (.frz o u)
theorem Rd.ok {P : Program} {w : World} {H : Hp} {h : Heap} {a : Addr} {u : HO} (r : Rd H a u) (x : HOk P w H h) : ObjOk P w H h a u := by
 rcases r with r | ⟨o, r⟩
 ·exact x a u r
 ·obtain ⟨_, q⟩ := x a _ r
  exact q
def Mut : Option HO -> Prop
 | some (.lst _) => True
 | some (.dK _) => True
 | some (.dT _) => True
 | some (.set _ _) => True
 | some (.ins _ _ _) => True
 | some (.ext _) => True
 | _ => False
section
variable {P : Program} {w : World} {H : Hp} {h h' : Heap} {x e : Addr} {o' : HO}
theorem HOk.write (ok : HOk P w H h) (mu : Mut (H x)) (he : e = x ∨ H e = some (.own x)) (k : ∀ b u, b ≠ e -> h.get? b = some u -> h'.get? b = some u) (heo : ∃ u, h'.get? e = some u)
  (new : ObjOk P w (upd H x o') h' x o') : HOk P w (upd H x o') h' := fun b u q => by
 have nown : ∀ c y, H c = some (.own y) -> c ≠ x := fun c y r z => by subst z; rw [r] at mu; exact mu
 have ntup : ∀ c xs, H c = some (.tup xs) -> c ≠ x := fun c xs r z => by subst z; rw [r] at mu; exact mu
 by_cases hb : b = x
 ·subst hb; rw [upd_same] at q; cases q; exact new
 ·rw [upd_ne hb] at q
  by_cases hbe : b = e
  ·have q' : H b = some (.own x) := by
    rcases he with z | z
    ·exact absurd (hbe.trans z) hb
    ·rw [hbe]; exact z
   rw [q] at q'; cases q'
   obtain ⟨v, hv⟩ := heo
   exact ⟨v, by rw [hbe]; exact hv⟩
  ·refine (ok b u q).stay (fun c v hc r => k c v ?_ r) (fun c r => by rw [upd_ne (nown c b r)]; exact r) fun c xs r => by rw [upd_ne (ntup c xs r)]; exact r
   rcases hc with rfl | hc
   ·exact hbe
   ·rintro rfl
    rcases he with z | z
    ·exact nown c b hc z
    ·rw [hc] at z; cases z; exact hb rfl
end
structure Un (fs ex : List Addr) (H H' : Hp) (h h' : Heap) : Prop where
 keep : ∀ b o, h.get? b = some o -> H b = none -> b ∉ fs -> b ∉ ex -> h'.get? b = some o
 slot : ∀ b o, h.get? b = some o -> H b = none -> b ∈ fs -> b ∉ ex -> ∃ sl, h'.get? b = some { o with slots := sl }
 free : ∀ b o, h.get? b = some o -> H b = none -> b ∉ ex -> H' b = none
 there : ∀ b o, h.get? b = some o -> b ∉ ex -> ∃ o', h'.get? b = some o'
 tups : ∀ b xs, H b = some (.tup xs) -> H' b = some (.tup xs)
 frzs : ∀ b o u, H b = some (.frz o u) -> H' b = some (.frz o u)
 tbls : ∀ b ps, H b = some (.tbl ps) -> ∃ more, H' b = some (.tbl (ps ++ more))
section
variable {fs fs' ex ex' : List Addr} {H H1 H2 : Hp} {h h1 h2 h' : Heap} {a x e : Addr} {o : HO}
theorem Un.any (u : Un fs ex H H1 h h1) {b : Addr} {ob : Obj} (q : h.get? b = some ob) (n : H b = none) (hx : b ∉ ex) : ∃ sl, h1.get? b = some { ob with slots := sl } := by
 by_cases hb : b ∈ fs
 ·exact u.slot b ob q n hb hx
 ·exact ⟨ob.slots, u.keep b ob q n hb hx⟩
theorem Un.kept (k : ∀ b u, h.get? b = some u -> h'.get? b = some u) : Un fs ex H H h h' :=
 ⟨fun b ob q _ _ _ => k b ob q, fun b ob q _ _ _ => ⟨ob.slots, k b ob q⟩, fun _ _ _ n _ => n, fun b ob q _ => ⟨ob, k b ob q⟩, fun _ _ q => q, fun _ _ _ q => q, fun _ ps q => ⟨#[], by rw [q]; simp⟩⟩
theorem Un.refl : Un fs ex H H h h := Un.kept fun _ _ q => q
theorem Un.laid (k : ∀ b u, h.get? b = some u -> h'.get? b = some u) (hp : h.objs.size ≤ a) (hn : H a = none) : Un fs ex H (upd H a o) h h' where
 keep := fun b u q _ _ _ => k b u q
 slot := fun b u q _ _ _ => ⟨u.slots, k b u q⟩
 free := fun b u q n _ => by rw [upd_ne (Nat.ne_of_lt (Nat.lt_of_lt_of_le (Heap.lt_size q) hp))]; exact n
 there := fun b u q _ => ⟨u, k b u q⟩
 tups := fun b xs q => by rw [upd_ne (ne_of_none q hn)]; exact q
 frzs := fun b u xs q => by rw [upd_ne (ne_of_none q hn)]; exact q
 tbls := fun b ps q => ⟨#[], by rw [upd_ne (ne_of_none q hn), q]; simp⟩
theorem Un.write (mu : Mut (H x)) (he : e = x ∨ H e = some (.own x)) (k : ∀ b u, b ≠ e -> h.get? b = some u -> h'.get? b = some u) (heo : ∃ u, h'.get? e = some u) : Un fs ex H (upd H x o) h h' := by
 have hx : ∀ b, H b = none -> b ≠ x := fun b n z => by subst z; rw [n] at mu; exact mu
 have hb : ∀ b, H b = none -> b ≠ e := fun b n z => by
  subst z
  rcases he with r | r
  ·exact hx b n r
  ·rw [n] at r; cases r
 have hm : ∀ b u, H b = some u -> ¬ Mut (some u) -> b ≠ x := fun b u q nm z => by subst z; rw [q] at mu; exact nm mu
 refine ⟨fun b u q n _ _ => k b u (hb b n) q, fun b u q n _ _ => ⟨u.slots, k b u (hb b n) q⟩, fun b u q n _ => by rw [upd_ne (hx b n)]; exact n, fun b u q _ => ?_,
  fun b xs q => by rw [upd_ne (hm b _ q fun z => z)]; exact q, fun b u xs q => by rw [upd_ne (hm b _ q fun z => z)]; exact q, fun b ps q => ⟨#[], by rw [upd_ne (hm b _ q fun z => z), q]; simp⟩⟩
 by_cases hbe : b = e
 ·subst hbe; exact heo
 ·exact ⟨u, k b u hbe q⟩
end
def trk (h : Heap) (H : Hp) : List Addr := (List.range h.objs.size).filter fun a => (H a).isSome
def hidT (h : Heap) (H : Hp) : Heap := PySem.W.hideAll h (trk h H)
theorem hidT_size (h : Heap) (H : Hp) : (hidT h H).objs.size = h.objs.size := PySem.W.hideAll_size _ _
theorem hidT_get {h : Heap} {H : Hp} {b : Addr} {o : Obj} (e : h.get? b = some o) (n : H b = none) : (hidT h H).get? b = some o :=
 PySem.W.hideAll_get _ e fun hm => by
  have q : (H b).isSome = true := (List.mem_filter.mp hm).2
  rw [n] at q; simp at q
theorem of_hidT {h : Heap} {H : Hp} {b : Addr} {o : Obj} (e : (hidT h H).get? b = some o) : h.get? b = some o /\ H b = none := by
 have e' : h.get? b = some o := PySem.W.of_hideAll (trk h H) e
 refine ⟨e', ?_⟩
 cases q : H b with
 | none => rfl
 | some x =>
  have hm : b ∈ trk h H := List.mem_filter.mpr ⟨List.mem_range.mpr (Heap.lt_size e'), by simp [q]⟩
  have z : (hidT h H).get? b = none := PySem.W.hideAll_none (trk h H) hm
  rw [z] at e; cases e
def allNews (g h : Heap) (L : Addr) : PLs := (List.range h.objs.size).filterMap fun a => if a = L ∨ (g.get? a).isSome = true then none else (h.get? a).map fun o => (a, o)
def rest (g h : Heap) (L d : Addr) : PLs := (allNews g h L).filter fun p => decide (p.1 ≠ d)
end L2
namespace L2
open PySem PySem.Spec PyProof.Rows
structure Mod (K : Fg) (mg : Str -> Option Value) (base : Heap) : Prop where
 kin : K.In base
 glob : base.Ns mainGlobals mg
 blt : ∃ mb, base.Ns builtinsNs mb /\ ∀ x : Str, x ≠ "__name__" -> mb x = bootBuiltins x
 nolimit : base.NoLimit
structure Cx where
 prog : Program
 w : World
 K : Fg
 mg : Str -> Option Value
 base : Heap
 A : Around
 N : List Str
 s₀ : Shared
 H₀ : Hp
 env : Env
 outer : List Env
 stack : List Env
 ex : List Addr
 fn : Str -> Bool
 calm : Bool
 pn : PLs
 xe : VSP
def frs (l : List Env) : List Addr := l.filterMap (·.frame)
abbrev Cx.fs (X : Cx) : List Addr := frs X.outer
def Vis (sc : Scope) (x : Str) : Prop := sc.names.lookup x = some .local ∨ sc.names.lookup x = some .cell ∨ sc.names.lookup x = some .free
def Loc (sc : Scope) (x : Str) : Prop := sc.names.lookup x = some .local ∨ sc.names.lookup x = some .cell
def Look (env : Env) (h : Heap) (m : Str -> Option Value) (x : Str) (u : Value) : Prop :=
 (env.kindOf x = some .local /\ m x = some u) ∨ ((env.kindOf x = some .cell ∨ env.kindOf x = some .free) /\ ∃ c, env.cells.lookup x = some c /\ h.IsCell c (some u))
structure Cx.Ok (X : Cx) : Prop where
 mod : Mod X.K X.mg X.base
 kind : X.env.scope.kind = .function
 glob : X.env.globals = mainGlobals
 blt : X.env.builtins = builtinsNs
 above : X.s₀.heap.objs.size ≤ X.env.locals
 inj : ∀ x y c, X.env.cells.lookup x = some c -> X.env.cells.lookup y = some c -> x = y
 has : ∀ x, (X.env.kindOf x = some .cell ∨ X.env.kindOf x = some .free) -> ∃ c, X.env.cells.lookup x = some c
 cab : ∀ x c, X.fn x = true -> X.env.cells.lookup x = some c -> X.s₀.heap.objs.size ≤ c
 hd : X.calm = true -> X.A.handled = none
 frames : X.A.frames = some X.stack
 stk : X.stack = X.outer ∨ (X.stack = X.env :: X.outer /\ X.env.frame = some X.env.locals)
 exf : ∀ b ∈ X.ex, b ≠ X.env.locals /\ ∀ x c, X.env.cells.lookup x = some c -> c ≠ b
 bs : ∀ b o, X.base.get? b = some o -> X.s₀.heap.get? b = some o /\ X.H₀ b = none
 bsz : X.base.objs.size ≤ X.s₀.heap.objs.size
 noex : ∀ b o, X.base.get? b = some o -> b ∉ X.ex
 exfs : ∀ b ∈ X.ex, b ∉ X.fs
 funs : X.s₀.heap.FunFrames X.base X.outer
 frf : ∀ b ∈ X.fs, X.H₀ b = none
structure Inv (X : Cx) (pins : PLs) (σ : List (Option V)) (H : Hp) (s : Shared) : Prop where
 ok : X.Ok
 os : s.os = X.s₀.os
 bare : AllBare s.gens
 base : Un X.fs X.ex X.H₀ H X.s₀.heap s.heap
 loc : ∃ m, s.heap.Ns X.env.locals m /\ ∀ (i : Nat) (x : Str) (v : V), X.N[i]? = some x -> σ[i]? = some (some v) -> Vis X.env.scope x -> ∃ u, RelV v u /\ Look X.env s.heap m x u
 cell : ∀ x c, X.env.cells.lookup x = some c -> ∃ v, s.heap.IsCell c v
 free : H X.env.locals = none
 freeC : ∀ x c, X.env.cells.lookup x = some c -> H c = none
 pin : ∀ p ∈ X.pn ++ pins, s.heap.get? p.1 = some p.2 /\ H p.1 = none /\ p.1 ≠ X.env.locals /\ p.1 ∉ X.fs /\ ∀ v, p.2.data ≠ .cell v
 hok : HOk X.prog X.w H s.heap
 len : σ.length = X.N.length
section
variable {X : Cx} {pins : PLs} {σ : List (Option V)} {H H' : Hp} {s : Shared} {h' : Heap}
theorem Cx.Ok.nofr (ok : X.Ok) {b : Addr} {o : Obj} (e : X.base.get? b = some o) : b ∉ X.fs := fun hb => by
 have := (ok.funs.mem hb).1
 rw [e] at this; cases this
theorem Inv.bs (I : Inv X pins σ H s) : ∀ b o, X.base.get? b = some o -> s.heap.get? b = some o /\ H b = none := fun b o e =>
 ⟨I.base.keep b o (I.ok.bs b o e).1 (I.ok.bs b o e).2 (I.ok.nofr e) (I.ok.noex b o e), I.base.free b o (I.ok.bs b o e).1 (I.ok.bs b o e).2 (I.ok.noex b o e)⟩
theorem Inv.bk (I : Inv X pins σ H s) : ∀ b o, X.base.get? b = some o -> s.heap.get? b = some o := fun b o e => (I.bs b o e).1
theorem Inv.mod (I : Inv X pins σ H s) : Mod X.K X.mg X.base := I.ok.mod
theorem Inv.kIn (I : Inv X pins σ H s) : X.K.In s.heap := I.ok.mod.kin.keeps I.bk
theorem Inv.lt (I : Inv X pins σ H s) : X.env.locals < s.heap.objs.size := let ⟨_, hn, _⟩ := I.loc; hn.lt
theorem Inv.sz (I : Inv X pins σ H s) : X.s₀.heap.objs.size ≤ s.heap.objs.size := Nat.le_trans I.ok.above (Nat.le_of_lt I.lt)
theorem Inv.nofs (I : Inv X pins σ H s) {a : Addr} (h : s.heap.objs.size ≤ a) : a ∉ X.fs := fun hb => by
 obtain ⟨_, o, ho, _⟩ := I.ok.funs.mem hb
 exact absurd (Nat.lt_of_lt_of_le (Heap.lt_size ho) (Nat.le_trans I.sz h)) (Nat.lt_irrefl _)
theorem Inv.cne (I : Inv X pins σ H s) : ∀ x c, X.env.cells.lookup x = some c -> c ≠ X.env.locals := fun x c e z => by
 obtain ⟨v, o, ho, hd⟩ := I.cell x c e
 obtain ⟨m, ⟨o', es, ep, ho', hd', _⟩, _⟩ := I.loc
 rw [z, ho'] at ho; cases ho; rw [hd'] at hd; cases hd
theorem Inv.funs (I : Inv X pins σ H s) : s.heap.FunFrames X.base X.outer := by
 have all : ∀ (l : List Env), (∀ b ∈ frs l, b ∈ X.fs) -> X.s₀.heap.FunFrames X.base l -> s.heap.FunFrames X.base l := by
  intro l
  induction l with
  | nil => intro _ _; trivial
  | cons env r ih =>
   intro hs hl
   obtain ⟨hk, ⟨L, o, hf, hn, ho, hd⟩, hr⟩ := hl
   have hL : L ∈ X.fs := hs L (by unfold frs; rw [List.filterMap_cons, hf]; exact List.mem_cons_self)
   obtain ⟨sl, e⟩ := I.base.slot L o ho (I.ok.frf L hL) hL fun z => I.ok.exfs L z hL
   exact ⟨hk, ⟨L, _, hf, hn, e, hd⟩, ih (fun b hb => hs b (by unfold frs; rw [List.filterMap_cons, hf]; exact List.mem_cons_of_mem _ hb)) hr⟩
 exact all X.outer (fun _ hb => hb) I.ok.funs
theorem Inv.stack (I : Inv X pins σ H s) : s.heap.FunFrames X.base X.stack := by
 rcases I.ok.stk with e | ⟨e, hf⟩
 ·rw [e]; exact I.funs
 ·rw [e]
  obtain ⟨m, hn, _⟩ := I.loc
  refine .cons (by rw [I.ok.kind]; decide) hf hn ?_ I.funs
  exact Heap.get?_none_of_le (Nat.le_trans I.ok.bsz I.ok.above)
theorem Inv.stkSub (I : Inv X pins σ H s) : ∀ b ∈ frs X.stack, b ∈ X.env.locals :: X.fs := fun b hb => by
 rcases I.ok.stk with e | ⟨e, hf⟩
 ·rw [e] at hb; exact List.mem_cons_of_mem _ hb
 ·rw [e] at hb
  unfold frs at hb
  rw [List.filterMap_cons, hf] at hb
  exact hb
theorem Inv.stkFree (I : Inv X pins σ H s) : ∀ b ∈ frs X.stack, H b = none := fun b hb => by
 rcases List.mem_cons.mp (I.stkSub b hb) with e | hb
 ·rw [e]; exact I.free
 ·obtain ⟨_, o, ho, _⟩ := I.ok.funs.mem hb
  exact I.base.free b o ho (I.ok.frf b hb) fun z => I.ok.exfs b z hb
theorem Inv.step {g' : Array GenState} {t' : Nat} {d' : Drawn} {ch : List Addr} (I : Inv X pins σ H s)
  (hch : ∀ b ∈ ch, (b ∈ X.ex ∨ X.s₀.heap.get? b = none) /\ b ≠ X.env.locals /\ (∀ x c, X.env.cells.lookup x = some c -> c ≠ b) /\ ∀ p ∈ X.pn ++ pins, p.1 ≠ b)
  (keep : ∀ b o, b ≠ X.env.locals -> b ∉ X.fs -> b ∉ ch -> s.heap.get? b = some o -> H b = none -> h'.get? b = some o)
  (slot : ∀ b o, b ≠ X.env.locals -> b ∈ X.fs -> b ∉ ch -> s.heap.get? b = some o -> H b = none -> ∃ sl, h'.get? b = some { o with slots := sl }) (free : ∀ b o, b ∉ ch -> s.heap.get? b = some o -> H b = none -> H' b = none)
  (there : ∀ b o, b ∉ ch -> s.heap.get? b = some o -> ∃ o', h'.get? b = some o')
  (tups : ∀ b xs, H b = some (.tup xs) -> H' b = some (.tup xs)) (frzs : ∀ b o u, H b = some (.frz o u) -> H' b = some (.frz o u)) (tbls : ∀ b ps, H b = some (.tbl ps) -> ∃ more, H' b = some (.tbl (ps ++ more)))
  (ns : ∀ m, s.heap.Ns X.env.locals m -> h'.Ns X.env.locals m) (hok : HOk X.prog X.w H' h') (hg : AllBare g') :
  Inv X pins σ H' { s with heap := h', gens := g', drawn := d', toks := t' } := by
 have neL : ∀ b o, X.s₀.heap.get? b = some o -> b ≠ X.env.locals := fun b o e => Nat.ne_of_lt (Nat.lt_of_lt_of_le (Heap.lt_size e) I.ok.above)
 have neC : ∀ b o, X.s₀.heap.get? b = some o -> b ∉ X.ex -> b ∉ ch := fun b o e hx hb => by
  rcases (hch b hb).1 with z | z
  ·exact hx z
  ·rw [e] at z; cases z
 have cellK : ∀ x c, X.env.cells.lookup x = some c -> ∀ v, s.heap.IsCell c v -> h'.IsCell c v := fun x c e v ⟨o, ho, hd⟩ => by
  have nch : c ∉ ch := fun z => (hch c z).2.2.1 x c e rfl
  by_cases hc : c ∈ X.fs
  ·obtain ⟨sl, q⟩ := slot c o (I.cne x c e) hc nch ho (I.freeC x c e)
   exact ⟨_, q, hd⟩
  ·exact ⟨o, keep c o (I.cne x c e) hc nch ho (I.freeC x c e), hd⟩
 refine ⟨I.ok, I.os, hg, ⟨fun b o e n hb hx => ?_, fun b o e n hb hx => ?_, fun b o e n hx => ?_, fun b o e hx => ?_, fun b xs e => tups b xs (I.base.tups b xs e), fun b o xs e => frzs b o xs (I.base.frzs b o xs e), fun b ps e => ?_⟩, ?_, fun x c e => ?_, ?_, fun x c e => ?_, fun p hp => ?_, hok, I.len⟩
 ·exact keep b o (neL b o e) hb (neC b o e hx) (I.base.keep b o e n hb hx) (I.base.free b o e n hx)
 ·obtain ⟨sl, e1⟩ := I.base.slot b o e n hb hx
  obtain ⟨sl', e2⟩ := slot b _ (neL b o e) hb (neC b o e hx) e1 (I.base.free b o e n hx)
  exact ⟨sl', e2⟩
 ·obtain ⟨o', e1⟩ := I.base.there b o e hx
  exact free b o' (neC b o e hx) e1 (I.base.free b o e n hx)
 ·obtain ⟨o', e1⟩ := I.base.there b o e hx
  exact there b o' (neC b o e hx) e1
 ·obtain ⟨m1, e1⟩ := I.base.tbls b ps e
  obtain ⟨m2, e2⟩ := tbls b _ e1
  exact ⟨m1 ++ m2, by rw [e2, Array.append_assoc]⟩
 ·obtain ⟨m, hn, hl⟩ := I.loc
  refine ⟨m, ns m hn, fun i x v e1 e2 e3 => ?_⟩
  obtain ⟨u, r, l⟩ := hl i x v e1 e2 e3
  refine ⟨u, r, ?_⟩
  rcases l with l | ⟨k, c, e, z⟩
  ·exact .inl l
  ·exact .inr ⟨k, c, e, cellK x c e _ z⟩
 ·obtain ⟨v, z⟩ := I.cell x c e
  exact ⟨v, cellK x c e v z⟩
 ·obtain ⟨m, ⟨o, _, _, ho, _⟩, _⟩ := I.loc
  exact free _ o (fun z => (hch _ z).2.1 rfl) ho I.free
 ·obtain ⟨v, o, ho, hd⟩ := I.cell x c e
  exact free c o (fun z => (hch c z).2.2.1 x c e rfl) ho (I.freeC x c e)
 ·obtain ⟨e, n, ne, nf, d⟩ := I.pin p hp
  have nch : p.1 ∉ ch := fun z => (hch p.1 z).2.2.2 p hp rfl
  exact ⟨keep p.1 p.2 ne nf nch e n, free p.1 p.2 nch e n, ne, nf, d⟩
theorem Inv.un {t' : Nat} (I : Inv X pins σ H s) (u : Un X.fs [] H H' s.heap h') (hok : HOk X.prog X.w H' h') : Inv X pins σ H' { s with heap := h', toks := t' } := by
 obtain ⟨m, ⟨o, es, ep, ho, r⟩, _⟩ := id I.loc
 obtain ⟨sl, hL⟩ := u.any ho I.free (by simp)
 exact I.step (g' := s.gens) (d' := s.drawn) (ch := []) (fun _ z => nomatch z) (fun b o _ hb _ e n => u.keep b o e n hb (by simp)) (fun b o _ hb _ e n => u.slot b o e n hb (by simp)) (fun b o _ e n => u.free b o e n (by simp)) (fun b o _ e => u.there b o e (by simp)) u.tups u.frzs u.tbls (fun m' hm => by
  obtain ⟨o', es', ep', ho', r'⟩ := hm
  rw [ho] at ho'; cases ho'
  exact ⟨_, es', ep', hL, r'⟩) hok I.bare
theorem Inv.call {g' : Array GenState} {t' : Nat} {d' : Drawn} {ch : List Addr} (I : Inv X pins σ H s) (u : Un (frs X.stack) ch H H' s.heap h') (hok : HOk X.prog X.w H' h') (hg : AllBare g')
  (hch : ∀ b ∈ ch, (b ∈ X.ex ∨ X.s₀.heap.get? b = none) /\ b ≠ X.env.locals /\ (∀ x c, X.env.cells.lookup x = some c -> c ≠ b) /\ ∀ p ∈ X.pn ++ pins, p.1 ≠ b) :
  Inv X pins σ H' { s with heap := h', gens := g', drawn := d', toks := t' } := by
 obtain ⟨m, ⟨o, es, ep, ho, r⟩, _⟩ := id I.loc
 obtain ⟨sl, hL⟩ := u.any ho I.free fun z => (hch _ z).2.1 rfl
 exact I.step (ch := ch) hch (fun b o hL hb hc e n => u.keep b o e n (fun z => (List.mem_cons.mp (I.stkSub b z)).elim hL hb) hc) (fun b o _ _ hc e n => u.any e n hc) (fun b o hc e n => u.free b o e n hc) (fun b o hc e => u.there b o e hc) u.tups u.frzs u.tbls (fun m' hm => by
  obtain ⟨o', es', ep', ho', r'⟩ := hm
  rw [ho] at ho'; cases ho'
  exact ⟨_, es', ep', hL, r'⟩) hok hg
theorem Inv.turned {t' : Nat} {it : Addr} (I : Inv X pins σ H s) (k : ∀ b o, b ≠ it -> s.heap.get? b = some o -> h'.get? b = some o) (hn : H it = none) (hL : it ≠ X.env.locals)
  (h1 : it ∈ X.ex ∨ X.s₀.heap.get? it = none) (h2 : ∀ x c, X.env.cells.lookup x = some c -> c ≠ it) (h3 : ∀ p ∈ X.pn ++ pins, p.1 ≠ it) : Inv X pins σ H { s with heap := h', toks := t' } := by
 have nit : ∀ b u, H b = some u -> b ≠ it := fun b u e z => by rw [z, hn] at e; cases e
 refine I.step (g' := s.gens) (d' := s.drawn) (ch := [it]) (fun b hb => ?_) (fun b o _ _ hc e _ => k b o (fun z => hc (by simp [z])) e) (fun b o _ _ hc e _ => ⟨o.slots, k b o (fun z => hc (by simp [z])) e⟩) (fun _ _ _ _ n => n)
  (fun b o hc e => ⟨o, k b o (fun z => hc (by simp [z])) e⟩) (fun _ _ e => e) (fun _ _ _ e => e) (fun b ps e => ⟨#[], by rw [e]; simp⟩) (fun m hm => ?_) (fun b u e => ?_) I.bare
 ·have e : b = it := by simpa using hb
  subst e
  exact ⟨h1, hL, h2, h3⟩
 ·obtain ⟨o, es, ep, ho, r⟩ := hm
  exact ⟨o, es, ep, k _ o (Ne.symm hL) ho, r⟩
 ·refine (I.hok b u e).stay (fun c v hc q => k c v ?_ q) (fun _ q => q) fun _ _ q => q
  rcases hc with z | z
  ·rw [z]; exact nit b u e
  ·exact nit c _ z
theorem Inv.tok (I : Inv X pins σ H s) (t : Nat) : Inv X pins σ H { s with toks := t } := I.un (h' := s.heap) (t' := t) Un.refl I.hok
theorem Inv.kept {t' : Nat} (I : Inv X pins σ H s) (k : ∀ b u, s.heap.get? b = some u -> h'.get? b = some u) : Inv X pins σ H { s with heap := h', toks := t' } := I.un (Un.kept k) (I.hok.kept k)
theorem Inv.laid {a : Addr} {o : HO} {t' : Nat} (I : Inv X pins σ H s) (k : ∀ b u, s.heap.get? b = some u -> h'.get? b = some u) (hp : s.heap.objs.size ≤ a) (new : ObjOk X.prog X.w (upd H a o) h' a o) :
  Inv X pins σ (upd H a o) { s with heap := h', toks := t' } := I.un (Un.laid k hp (I.hok.fresh hp)) (I.hok.laid k hp new)
theorem Inv.write {x e : Addr} {o : HO} {t' : Nat} (I : Inv X pins σ H s) (mu : Mut (H x)) (he : e = x ∨ H e = some (.own x)) (k : ∀ b u, b ≠ e -> s.heap.get? b = some u -> h'.get? b = some u) (heo : ∃ u, h'.get? e = some u)
  (new : ObjOk X.prog X.w (upd H x o) h' x o) : Inv X pins σ (upd H x o) { s with heap := h', toks := t' } := I.un (Un.write mu he k heo) (I.hok.write mu he k heo new)
theorem Inv.weak {σ' : List (Option V)} (I : Inv X pins σ H s) (hl : σ'.length = σ.length) (w : ∀ (i : Nat) v, σ'[i]? = some (some v) -> σ[i]? = some (some v)) : Inv X pins σ' H s :=
 ⟨I.ok, I.os, I.bare, I.base, let ⟨m, hn, hl'⟩ := I.loc; ⟨m, hn, fun i x v e1 e2 e3 => hl' i x v e1 (w i v e2) e3⟩, I.cell, I.free, I.freeC, I.pin, I.hok, hl.trans I.len⟩
theorem Inv.pins_of {pins' : PLs} (I : Inv X pins σ H s) (h : ∀ p ∈ pins', s.heap.get? p.1 = some p.2 /\ H p.1 = none /\ p.1 ≠ X.env.locals /\ p.1 ∉ X.fs /\ ∀ v, p.2.data ≠ .cell v) : Inv X pins' σ H s :=
 ⟨I.ok, I.os, I.bare, I.base, I.loc, I.cell, I.free, I.freeC, fun p hp => (List.mem_append.mp hp).elim (fun z => I.pin p (List.mem_append_left _ z)) (h p), I.hok, I.len⟩
theorem nodup_ix {N : List Str} (hN : N.Nodup) {i j : Nat} {x : Str} (a : N[i]? = some x) (b : N[j]? = some x) : i = j := by
 obtain ⟨h1, e1⟩ := List.getElem?_eq_some_iff.mp a
 obtain ⟨h2, e2⟩ := List.getElem?_eq_some_iff.mp b
 exact (List.getElem_inj hN).mp (e1.trans e2.symm)
theorem store_ok2 {M : Model} {A : Around} {E : VSP} {i : Nat} {x : Str} {v : V} {u : Value} {Q : Unit -> Shared -> Prop} (I : Inv X pins σ H s) (hN : X.N.Nodup) (hi : X.N[i]? = some x) (hx : Loc X.env.scope x) (r : RelV v u)
  (h : ∀ s', Inv X pins (σ.set i (some v)) H s' -> (∃ a, Heap.SameBut a s.heap s'.heap /\ (a = X.env.locals ∨ X.env.cells.lookup x = some a)) -> Q () s') (hf : X.fn x = true ∨ X.env.scope.names.lookup x = some .local := by first | exact .inl rfl | exact .inr rfl | assumption) : wpAny M A (storeName X.env x u) Q E s := by
 obtain ⟨m, hn, hl⟩ := id I.loc
 have hcls : (X.env.scope.kind == .class || (X.env.scope.kind == .module && X.env.locals != X.env.globals)) = false := by rw [I.ok.kind]; rfl
 have hiσ : i < σ.length := by rw [I.len]; exact (List.getElem?_eq_some_iff.mp hi).1
 have cne := I.cne
 have tracked : ∀ {a : Addr} {h' : Heap}, (∃ o, s.heap.get? a = some o /\ H a = none) -> Heap.SameBut a s.heap h' -> HOk X.prog X.w H h' := fun {a h'} ha hs b ob e => by
  obtain ⟨_, _, hfree⟩ := ha
  refine (I.hok b ob e).stay (fun c w' hc q => (hs.2 c ?_).trans q) (fun _ q => q) fun _ _ q => q
  rintro rfl
  rcases hc with rfl | hc
  ·rw [hfree] at e; cases e
  ·rw [hfree] at hc; cases hc
 rcases hx with hk | hk
 ·refine wpAny_storeName_local hk hn (fun h' hn' hs => ?_) hcls
  obtain ⟨oL, _, _, hoL, _⟩ := id hn
  refine h _ ⟨I.ok, I.os, I.bare, ⟨fun b o e n hb hx => ?_, fun b o e n hb hx => ?_, I.base.free, fun b o e hx => ?_, I.base.tups, I.base.frzs, I.base.tbls⟩, ⟨_, hn', fun j y v' e1 e2 e3 => ?_⟩, fun y c e => ?_, I.free, I.freeC, fun p hp => ?_, tracked ⟨oL, hoL, I.free⟩ hs, by simpa using I.len⟩ ⟨_, hs, .inl rfl⟩
  ·exact (hs.2 b (Nat.ne_of_lt (Nat.lt_of_lt_of_le (Heap.lt_size e) I.ok.above))).trans (I.base.keep b o e n hb hx)
  ·obtain ⟨sl, e1⟩ := I.base.slot b o e n hb hx
   exact ⟨sl, (hs.2 b (Nat.ne_of_lt (Nat.lt_of_lt_of_le (Heap.lt_size e) I.ok.above))).trans e1⟩
  ·obtain ⟨o', e1⟩ := I.base.there b o e hx
   exact ⟨o', (hs.2 b (Nat.ne_of_lt (Nat.lt_of_lt_of_le (Heap.lt_size e) I.ok.above))).trans e1⟩
  ·by_cases hj : j = i
   ·subst hj
    rw [hi] at e1; cases e1
    rw [List.getElem?_set_self hiσ] at e2
    cases e2
    exact ⟨u, r, .inl ⟨hk, by simp⟩⟩
   ·rw [List.getElem?_set_ne (Ne.symm hj)] at e2
    obtain ⟨u', r', q⟩ := hl j y v' e1 e2 e3
    refine ⟨u', r', ?_⟩
    rcases q with ⟨k, e⟩ | ⟨k, c, e, z⟩
    ·refine .inl ⟨k, ?_⟩
     have : y ≠ x := fun e => hj (nodup_ix hN e1 (e ▸ hi))
     simp [this, e]
    ·exact .inr ⟨k, c, e, z.sameBut hs (cne y c e)⟩
  ·obtain ⟨w', z⟩ := I.cell y c e
   exact ⟨w', z.sameBut hs (cne y c e)⟩
  ·obtain ⟨e, n, ne, nf, d⟩ := I.pin p hp
   exact ⟨(hs.2 p.1 ne).trans e, n, ne, nf, d⟩
 ·have hfn : X.fn x = true := by
   rcases hf with z | z
   ·exact z
   ·rw [z] at hk; cases hk
  obtain ⟨c, hc⟩ := I.ok.has x (.inl hk)
  obtain ⟨w', z⟩ := I.cell x c hc
  refine wpAny_storeName_cell I.ok.kind hk hc z (fun h' hc' hs => ?_)
  obtain ⟨oc, hoc, hocd⟩ := id z
  refine h { s with heap := h' } ⟨I.ok, I.os, I.bare, ⟨fun b o e n hb hx => ?_, fun b o e n hb hx => ?_, I.base.free, fun b o e hx => ?_, I.base.tups, I.base.frzs, I.base.tbls⟩, ⟨m, hn.sameBut hs (Ne.symm (cne x c hc)), fun j y v' e1 e2 e3 => ?_⟩, fun y c' e => ?_, I.free, I.freeC, fun p hp => ?_, tracked ⟨oc, hoc, I.freeC x c hc⟩ hs, by simpa using I.len⟩ ⟨c, hs, .inr hc⟩
  ·exact (hs.2 b (Nat.ne_of_lt (Nat.lt_of_lt_of_le (Heap.lt_size e) (I.ok.cab x c hfn hc)))).trans (I.base.keep b o e n hb hx)
  ·obtain ⟨sl, e1⟩ := I.base.slot b o e n hb hx
   exact ⟨sl, (hs.2 b (Nat.ne_of_lt (Nat.lt_of_lt_of_le (Heap.lt_size e) (I.ok.cab x c hfn hc)))).trans e1⟩
  ·obtain ⟨o', e1⟩ := I.base.there b o e hx
   exact ⟨o', (hs.2 b (Nat.ne_of_lt (Nat.lt_of_lt_of_le (Heap.lt_size e) (I.ok.cab x c hfn hc)))).trans e1⟩
  ·by_cases hj : j = i
   ·subst hj
    rw [hi] at e1; cases e1
    rw [List.getElem?_set_self hiσ] at e2
    cases e2
    exact ⟨u, r, .inr ⟨.inl hk, c, hc, hc'⟩⟩
   ·rw [List.getElem?_set_ne (Ne.symm hj)] at e2
    obtain ⟨u', r', q⟩ := hl j y v' e1 e2 e3
    refine ⟨u', r', ?_⟩
    rcases q with q | ⟨k, c', e, z'⟩
    ·exact .inl q
    ·refine .inr ⟨k, c', e, z'.sameBut hs ?_⟩
     rintro rfl
     exact hj (nodup_ix hN e1 (I.ok.inj _ _ _ e hc ▸ hi))
  ·by_cases hcc : c' = c
   ·subst hcc; exact ⟨_, hc'⟩
   ·obtain ⟨w2, z2⟩ := I.cell y c' e
    exact ⟨w2, z2.sameBut hs hcc⟩
  ·obtain ⟨e, n, ne, nf, d⟩ := I.pin p hp
   refine ⟨(hs.2 p.1 ?_).trans e, n, ne, nf, d⟩
   intro q
   rw [q, hoc] at e
   have q' : oc = p.2 := Option.some.inj e
   exact d w' (by rw [← q']; exact hocd)
theorem store_ok {M : Model} {A : Around} {E : VSP} {i : Nat} {x : Str} {v : V} {u : Value} {Q : Unit -> Shared -> Prop} (I : Inv X pins σ H s) (hN : X.N.Nodup) (hi : X.N[i]? = some x) (hx : Loc X.env.scope x) (r : RelV v u)
  (h : ∀ s', Inv X pins (σ.set i (some v)) H s' -> Q () s') (hf : X.fn x = true ∨ X.env.scope.names.lookup x = some .local := by first | exact .inl rfl | exact .inr rfl | assumption) : wpAny M A (storeName X.env x u) Q E s :=
 store_ok2 I hN hi hx r (fun s' I' _ => h s' I') hf
theorem Inv.call' {s' : Shared} {ch : List Addr} (I : Inv X pins σ H s) (ho : s'.os = s.os) (u : Un (frs X.stack) ch H H' s.heap s'.heap) (hok : HOk X.prog X.w H' s'.heap) (hg : AllBare s'.gens)
  (hch : ∀ b ∈ ch, (b ∈ X.ex ∨ X.s₀.heap.get? b = none) /\ b ≠ X.env.locals /\ (∀ x c, X.env.cells.lookup x = some c -> c ≠ b) /\ ∀ p ∈ X.pn ++ pins, p.1 ≠ b) : Inv X pins σ H' s' := by
 obtain ⟨h', g', d', t', o'⟩ := s'
 have e : o' = s.os := ho
 subst e
 exact I.call (g' := g') (t' := t') (d' := d') u hok hg hch
end
abbrev XK := Value -> Option Addr -> Hp -> Prop
abbrev St := List (Option V)
abbrev VK := V -> Hp -> Prop
abbrev TE := St -> Hp -> VK -> Prop
abbrev TT := St -> Hp -> (Bool -> Hp -> Prop) -> Prop
abbrev TA := St -> Hp -> (List V -> Hp -> Prop) -> Prop
structure Ends where
 nx : St -> Hp -> Prop
 rt : VK
 bk : St -> Hp -> Prop := fun _ _ => False
 ct : St -> Hp -> Prop := fun _ _ => False
abbrev TS := Ends -> St -> Hp -> Prop
def EP (X : Cx) (pins : PLs) (σ : St) (Q : VK) (u : Value) (s' : Shared) : Prop := ∃ v H', Inv X pins σ H' s' /\ RelV v u /\ Q v H'
def TP (X : Cx) (pins : PLs) (σ : St) (Q : Bool -> Hp -> Prop) (b : Bool) (s' : Shared) : Prop := ∃ H', Inv X pins σ H' s' /\ Q b H'
def AP (X : Cx) (pins : PLs) (σ : St) (Q : List V -> Hp -> Prop) (us : List Value) (s' : Shared) : Prop := ∃ vs H', Inv X pins σ H' s' /\ Vals vs us /\ Q vs H'
def SP (X : Cx) (pins : PLs) (D : Ends) (f : Flow) (s' : Shared) : Prop :=
 match f with
 | .next => ∃ σ' H', Inv X pins σ' H' s' /\ D.nx σ' H'
 | .brk => ∃ σ' H', Inv X pins σ' H' s' /\ D.bk σ' H'
 | .cont => ∃ σ' H', Inv X pins σ' H' s' /\ D.ct σ' H'
 | .ret u => ∃ v σ' H', Inv X pins σ' H' s' /\ RelV v u /\ D.rt v H'
def PE (X : Cx) (e : Expr) (t : TE) : Prop :=
 ∀ (pins : PLs) (s : Shared) (σ : St) (H : Hp) (Q : VK), Inv X pins σ H s -> t σ H Q -> wpAny (model X.prog X.w) X.A (eval e X.env) (EP X pins σ Q) X.xe s
def PT (X : Cx) (e : Expr) (t : TT) : Prop :=
 ∀ (pins : PLs) (s : Shared) (σ : St) (H : Hp) (Q : Bool -> Hp -> Prop), Inv X pins σ H s -> t σ H Q -> wpAny (model X.prog X.w) X.A (isTrue e X.env (eval e X.env)) (TP X pins σ Q) X.xe s
def PW (X : Cx) (e : Expr) (t : TT) : Prop :=
 ∀ (whole : Sem Value) (pins : PLs) (s : Shared) (σ : St) (H : Hp) (Q : Bool -> Hp -> Prop), Inv X pins σ H s -> t σ H Q -> wpAny (model X.prog X.w) X.A (isTrue e X.env whole) (TP X pins σ Q) X.xe s
theorem PW.pt {X : Cx} {e : Expr} {t : TT} (h : PW X e t) : PT X e t := h _
def PA (X : Cx) (es : List Expr) (t : TA) : Prop :=
 ∀ (pos : Pos) (pins : PLs) (s : Shared) (σ : St) (H : Hp) (Q : List V -> Hp -> Prop), Inv X pins σ H s -> t σ H Q -> wpAny (model X.prog X.w) X.A (spliced (backTo pos (starEach es X.env))) (AP X pins σ Q) X.xe s
def PS (X : Cx) (st : Stmt) (t : TS) : Prop :=
 ∀ (pins : PLs) (s : Shared) (σ : St) (H : Hp) (D : Ends), Inv X pins σ H s -> t D σ H -> wpAny (model X.prog X.w) X.A (exec st X.env) (SP X pins D) X.xe s
def PSs (X : Cx) (st : List Stmt) (t : TS) : Prop :=
 ∀ (pins : PLs) (s : Shared) (σ : St) (H : Hp) (D : Ends), Inv X pins σ H s -> t D σ H -> wpAny (model X.prog X.w) X.A (execs st X.env) (SP X pins D) X.xe s
theorem thn {α : Type} {t : Sem α} {Q Q' : α -> Shared -> Prop} {M : Model} {A : Around} {E : VSP} {s : Shared} (h : wpAny M A t Q E s) (hQ : ∀ a s, Q a s -> Q' a s) : wpAny M A t Q' E s := wpAny_mono h hQ fun _ _ x => x
end L2
namespace L2
open PySem PySem.Spec PyProof.Rows
section
variable {X : Cx}
def tVar (i : Nat) : TE := fun σ H Q => ∃ v, σ[i]? = some (some v) /\ Q v H
def tC (v : V) : TE := fun _ H Q => Q v H
theorem pe_var {i : Nat} {x : Str} {pos : Pos} (hN : X.N[i]? = some x) (hv : Vis X.env.scope x) (hd : (x == ("__debug__" : Str)) = false := by decide) (hcd : (x == ("__classdict__" : Str)) = false := by decide) : PE X (.Name x pos) (tVar i) := by
 intro pins s σ H Q I h
 obtain ⟨v, e, h⟩ := h
 obtain ⟨m, hn, hl⟩ := I.loc
 obtain ⟨u, r, l⟩ := hl i x v hN e hv
 have fin : EP X pins σ Q u s := ⟨v, H, I, r, h⟩
 rcases l with ⟨hk, hm⟩ | ⟨hk, c, hc, hcell⟩
 ·exact wpAny_Name (wpAny_loadName_local I.ok.kind hk hn hm fin) hd
 ·rcases hk with hk | hk
  ·exact wpAny_Name (wpAny_loadName_cell I.ok.kind hk hc hcell fin) hd
  ·exact wpAny_Name (wpAny_loadName_free I.ok.kind hk hc hcell fin hcd) hd
theorem pe_int {i j pos} : PE X (.Constant (.int i) j pos) (tC (.int i)) := fun _ _ _ H _ I h => wpAny_Constant_int ⟨.int i, H, I.tok _, ⟨_, rfl⟩, h⟩
theorem pe_bl {b j pos} : PE X (.Constant (.bool b) j pos) (tC (.bl b)) := fun _ _ _ H _ I h => Constant_bool ⟨.bl b, H, I, rfl, h⟩
theorem pe_non {j pos} : PE X (.Constant .none j pos) (tC .non) := fun _ _ _ H _ I h => Constant_none ⟨.non, H, I, rfl, h⟩
theorem pe_str {x j pos} : PE X (.Constant (.str x) j pos) (tC (.str x)) := fun _ _ _ H _ I h => Calls.Constant_str ⟨.str x, H, I.tok _, ⟨_, rfl⟩, h⟩
def Gl (X : Cx) (x : Str) : Prop := X.env.kindOf x = some .globalImplicit
theorem ld_glob {E : VSP} {pins : PLs} {s : Shared} {σ : St} {H : Hp} {x : Str} {u : Value} {pos : Pos} {Q : VSP} (I : Inv X pins σ H s) (hg : Gl X x) (hm : X.mg x = some u) (h : Q u s)
  (hd : (x == ("__debug__" : Str)) = false := by decide) : wpAny (model X.prog X.w) X.A (eval (.Name x pos) X.env) Q E s :=
 Calls.Name_function_global I.ok.kind hg (Calls.loadGlobal_global (by rw [I.ok.glob]; exact I.mod.glob.keeps I.bk) hm h) hd
theorem ld_blt {E : VSP} {pins : PLs} {s : Shared} {σ : St} {H : Hp} {x : Str} {u : Value} {pos : Pos} {Q : VSP} (I : Inv X pins σ H s) (hg : Gl X x) (hm : X.mg x = none) (hv : bootBuiltins x = some u) (h : Q u s)
  (hn : x ≠ "__name__" := by decide) (hd : (x == ("__debug__" : Str)) = false := by decide) : wpAny (model X.prog X.w) X.A (eval (.Name x pos) X.env) Q E s := by
 obtain ⟨mb, h1, h2⟩ := I.mod.blt
 exact Calls.Name_function_global I.ok.kind hg (Calls.loadGlobal_builtin (by rw [I.ok.glob]; exact I.mod.glob.keeps I.bk) hm (by rw [I.ok.blt]; exact h1.keeps I.bk) ((h2 x hn).trans hv) h) hd
theorem pe_glob {x : Str} {v : V} {u : Value} {pos : Pos} (hg : Gl X x) (hm : X.mg x = some u) (r : RelV v u) (hd : (x == ("__debug__" : Str)) = false := by decide) : PE X (.Name x pos) (tC v) :=
 fun _ _ _ H _ I h => ld_glob I hg hm ⟨v, H, I, r, h⟩ hd
theorem pe_bltn {x : Str} {v : V} {u : Value} {pos : Pos} (hg : Gl X x) (hm : X.mg x = none) (hv : bootBuiltins x = some u) (r : RelV v u) (hn : x ≠ "__name__" := by decide) (hd : (x == ("__debug__" : Str)) = false := by decide) : PE X (.Name x pos) (tC v) :=
 fun _ _ _ H _ I h => ld_blt I hg hm hv ⟨v, H, I, r, h⟩ hn hd
def t2I (ta tb : TE) (k : Int -> Int -> Hp -> Prop) : St -> Hp -> Prop := fun σ H => ta σ H fun x H1 => tb σ H1 fun y H2 => ∃ i j, x = .int i /\ y = .int j /\ k i j H2
def tAdd (ta tb : TE) : TE := fun σ H Q => t2I ta tb (fun i j H2 => Q (.int (i + j)) H2) σ H
def tSub (ta tb : TE) : TE := fun σ H Q => t2I ta tb (fun i j H2 => Q (.int (i - j)) H2) σ H
def tMul (ta tb : TE) : TE := fun σ H Q => t2I ta tb (fun i j H2 => (-(2 ^ 64) < i /\ i < 2 ^ 64) /\ Q (.int (i * j)) H2) σ H
variable {a b : Expr} {ta tb : TE} {pos : Pos}
def PC (X : Cx) (op : CmpOp) (a b : Expr) (t : TE) : Prop :=
 ∀ (pins : PLs) (s : Shared) (σ : St) (H : Hp) (Q : VK), Inv X pins σ H s -> t σ H Q →
  wpAny (model X.prog X.w) X.A (eval a X.env) (fun v s₁ => wpAny (model X.prog X.w) X.A (eval b X.env) (fun u s₂ => wpAny (model X.prog X.w) X.A (compareOp op v u) (EP X pins σ Q) X.xe s₂) X.xe s₁) X.xe s
def tCmp (p : Int -> Int -> Bool) (ta tb : TE) : TE := fun σ H Q => t2I ta tb (fun i j H2 => Q (.bl (p i j)) H2) σ H
abbrev tLt : TE -> TE -> TE := tCmp fun i j => decide (i < j)
abbrev tLe : TE -> TE -> TE := tCmp fun i j => decide (i ≤ j)
abbrev tGt : TE -> TE -> TE := tCmp fun i j => decide (j < i)
abbrev tGe : TE -> TE -> TE := tCmp fun i j => decide (j ≤ i)
abbrev tEqI : TE -> TE -> TE := tCmp fun i j => decide (i = j)
abbrev tNeI : TE -> TE -> TE := tCmp fun i j => !decide (i = j)
def tIsN (ta : TE) : TE := fun σ H Q => ta σ H fun x H1 => Q (.bl (decide (x = .non))) H1
def tNotN (ta : TE) : TE := fun σ H Q => ta σ H fun x H1 => Q (.bl (!decide (x = .non))) H1
def tB (t : TE) : TT := fun σ H Q => t σ H fun x H1 => ∃ c, x = .bl c /\ Q c H1
theorem pt_val {e : Expr} {t : TE} (h : PE X e t) (he : ∀ whole, isTrue e X.env whole = (do let v ← whole; standAt e.pos; holding [v] (truthy v)) := by intro _; rfl) : PT X e (tB t) := by
 intro pins s σ H Q I hw
 refine isTrue_plain (thn (h pins s σ H _ I hw) fun v s1 ⟨x, H1, I1, r1, q1⟩ => ?_) (he _)
 obtain ⟨d, rfl, q⟩ := q1
 cases r1
 exact wpAny_truthy_bool ⟨H1, I1, q⟩
variable {tA tB' : TT} {rest : List Expr}
def tAnd (t u : TT) : TT := fun σ H Q => t σ H fun c H1 => if c = true then u σ H1 Q else Q false H1
def tOr (t u : TT) : TT := fun σ H Q => t σ H fun c H1 => if c = true then Q true H1 else u σ H1 Q
def tNot (t : TT) : TT := fun σ H Q => t σ H fun c H1 => Q (!c) H1
theorem pw_and1 (ha : PT X a tA) : PW X (.BoolOp .And [a] pos) tA := by
 intro wh pins s σ H Q I h
 refine isTrue_and (thn (ha pins s σ H Q I h) fun c s1 e => ?_)
 cases c with
 | true => exact isTrue_and_nil e
 | false => exact e
theorem pw_or1 (ha : PT X a tA) : PW X (.BoolOp .Or [a] pos) tA := by
 intro wh pins s σ H Q I h
 refine isTrue_or (thn (ha pins s σ H Q I h) fun c s1 e => ?_)
 cases c with
 | false => exact isTrue_or_nil e
 | true => exact e
theorem pw_and (ha : PT X a tA) (hb : PW X (.BoolOp .And (b :: rest) pos) tB') : PW X (.BoolOp .And (a :: b :: rest) pos) (tAnd tA tB') := by
 intro wh pins s σ H Q I h
 refine isTrue_and (thn (ha pins s σ H _ I h) fun c s1 ⟨H1, I1, q1⟩ => ?_)
 cases c with
 | true => exact hb wh pins s1 σ H1 Q I1 q1
 | false => exact ⟨H1, I1, q1⟩
theorem pw_or (ha : PT X a tA) (hb : PW X (.BoolOp .Or (b :: rest) pos) tB') : PW X (.BoolOp .Or (a :: b :: rest) pos) (tOr tA tB') := by
 intro wh pins s σ H Q I h
 refine isTrue_or (thn (ha pins s σ H _ I h) fun c s1 ⟨H1, I1, q1⟩ => ?_)
 cases c with
 | true => exact ⟨H1, I1, q1⟩
 | false => exact hb wh pins s1 σ H1 Q I1 q1
theorem pt_not (ha : PT X a tA) : PT X (.UnaryOp .Not a pos) (tNot tA) := by
 intro pins s σ H Q I h
 exact isTrue_not (ha pins s σ H (fun c H1 => Q (!c) H1) I h)
def tAndV (ta tb : TE) : TE := fun σ H Q => ta σ H fun x H1 => ∃ c, x = .bl c /\ if c = true then tb σ H1 Q else Q (.bl false) H1
def tOrV (ta tb : TE) : TE := fun σ H Q => ta σ H fun x H1 => ∃ c, x = .bl c /\ if c = true then Q (.bl true) H1 else tb σ H1 Q
def tNotV (ta : TE) : TE := fun σ H Q => ta σ H fun x H1 => ∃ c, x = .bl c /\ Q (.bl (!c)) H1
theorem pe_one {op} {t : TE} (h : PE X a t) : PE X (.BoolOp op [a] pos) t := fun pins s σ H Q I hw => BoolOp_one (h pins s σ H Q I hw)
theorem pe_and (ha : PE X a ta) (hb : PE X (.BoolOp .And (b :: rest) pos) tb) : PE X (.BoolOp .And (a :: b :: rest) pos) (tAndV ta tb) := by
 intro pins s σ H Q I h
 refine BoolOp_and (thn (ha pins s σ H _ I h) fun v s1 ⟨x, H1, I1, r1, q1⟩ => ?_)
 obtain ⟨c, rfl, q1⟩ := q1
 cases r1
 refine wpAny_truthy_bool ?_
 cases c with
 | true => exact hb pins s1 σ H1 Q I1 q1
 | false => exact ⟨.bl false, H1, I1, rfl, q1⟩
theorem pe_not (ha : PE X a ta) : PE X (.UnaryOp .Not a pos) (tNotV ta) := by
 intro pins s σ H Q I h
 refine UnaryOp_ (thn (ha pins s σ H _ I h) fun v s1 ⟨x, H1, I1, r1, q1⟩ => ?_)
 obtain ⟨c, rfl, q1⟩ := q1
 cases r1
 exact not_of (wpAny_truthy_bool ⟨.bl (!c), H1, I1, rfl, q1⟩)
def tIf (t : TT) (ta tb : TE) : TE := fun σ H Q => t σ H fun c H1 => if c = true then ta σ H1 Q else tb σ H1 Q
theorem pe_ifExp {c : Expr} (hc : PT X c tA) (ha : PE X a ta) (hb : PE X b tb) : PE X (.IfExp c a b pos) (tIf tA ta tb) := by
 intro pins s σ H Q I h
 refine wpAny_IfExp (thn (hc pins s σ H _ I h) fun d s1 ⟨H1, I1, q1⟩ => ?_)
 cases d with
 | true => exact ha pins s1 σ H1 Q I1 q1
 | false => exact hb pins s1 σ H1 Q I1 q1
end
end L2
namespace L2
open PySem PySem.Spec PyProof.Rows
def SqL (K : Fg) (H : Hp) (a : Addr) (xs : List V) : Prop :=
 Rd H a (.lst xs) ∨
  ∃ (o : Obj) (its : Array Value) (n : Nat), K.lookup a = some o /\ o.cls = .type "list" /\ o.dict = none /\ o.data = .seq its n /\ its.size ≤ sizeLine /\ Vals xs its.toList
def SqT (K : Fg) (H : Hp) (a : Addr) (xs : List V) : Prop :=
 Rd H a (.tup xs) ∨
  ∃ (o : Obj) (its : Array Value) (n : Nat), K.lookup a = some o /\ o.cls = .type "tuple" /\ o.data = .seq its n /\ its.size ≤ sizeLine /\ Vals xs its.toList
def absV : Value -> Option V
 | .none => some .non
 | .bool b => some (.bl b)
 | .int i _ => some (.int i)
 | .str x _ => some (.str x)
 | .bytes b _ => some (.byt b)
 | .float b _ => some (.flt b)
 | .ref a => some (.ref a)
 | .type n => some (.ty n)
 | _ => none
theorem RelV.abs {x : V} {u : Value} (r : RelV x u) : absV u = some x := by
 cases x with
 | non => cases r; rfl
 | bl _ => cases r; rfl
 | int _ => obtain ⟨t, rfl⟩ := r; rfl
 | str _ => obtain ⟨t, rfl⟩ := r; rfl
 | byt _ => obtain ⟨t, rfl⟩ := r; rfl
 | flt _ => obtain ⟨t, rfl⟩ := r; rfl
 | ref _ => cases r; rfl
 | ty _ => cases r; rfl
theorem RelV.inj {x y : V} {u : Value} (r : RelV x u) (q : RelV y u) : x = y := Option.some.inj (r.abs.symm.trans q.abs)
theorem Vals.inj : ∀ {xs ys : List V} {us : List Value}, Vals xs us -> Vals ys us -> xs = ys
 | _, _, _, .nil, .nil => rfl
 | _, _, _, .cons r t, .cons r' t' => by rw [r.inj r', Vals.inj t t']
section
variable {X : Cx} {pins : PLs} {σ : St} {H : Hp} {s : Shared} {a : Addr} {xs ys : List V}
theorem SqL.of {K : Fg} (h : H a = some (.lst xs)) : SqL K H a xs := .inl (.inl h)
theorem SqT.of {K : Fg} (h : H a = some (.tup xs)) : SqT K H a xs := .inl (.inl h)
theorem Inv.list (I : Inv X pins σ H s) (h : SqL X.K H a xs) : ∃ its : List Value, Vals xs its /\ PlainL s.heap a its.toArray /\ xs.length ≤ sizeLine := by
 rcases h with h | ⟨o, its, n, hk, hc, hd, hs, hz, r⟩
 ·obtain ⟨z, its, n, r, e⟩ := h.ok I.hok
  exact ⟨its, r, ⟨_, n, e, rfl, rfl, rfl⟩, z⟩
 ·refine ⟨its.toList, r, ⟨o, n, I.kIn a o hk, hc, hd, by simpa using hs⟩, ?_⟩
  have e := r.length
  simp only [Array.length_toList] at e
  omega
theorem Inv.tuple (I : Inv X pins σ H s) (h : SqT X.K H a xs) : ∃ its : List Value, Vals xs its /\ IsTup s.heap a its.toArray /\ xs.length ≤ sizeLine := by
 rcases h with h | ⟨o, its, n, hk, hc, hs, hz, r⟩
 ·obtain ⟨z, its, r, p⟩ := h.ok I.hok
  exact ⟨its, r, p, z⟩
 ·refine ⟨its.toList, r, ⟨o, I.kIn a o hk, hc, n, by simpa using hs⟩, ?_⟩
  have e := r.length
  simp only [Array.length_toList] at e
  omega
theorem Inv.list_inj (I : Inv X pins σ H s) (h : SqL X.K H a xs) (h' : SqL X.K H a ys) : xs = ys := by
 obtain ⟨its, r, ⟨o, n, e, _, _, d⟩, _⟩ := I.list h
 obtain ⟨its', r', ⟨o', n', e', _, _, d'⟩, _⟩ := I.list h'
 rw [e] at e'; cases e'
 rw [d] at d'
 injection d' with d1 _
 have : its = its' := by simpa using congrArg Array.toList d1
 subst this
 exact r.inj r'
theorem Inv.tuple_inj (I : Inv X pins σ H s) (h : SqT X.K H a xs) (h' : SqT X.K H a ys) : xs = ys := by
 obtain ⟨its, r, ⟨o, e, _, n, d⟩, _⟩ := I.tuple h
 obtain ⟨its', r', ⟨o', e', _, n', d'⟩, _⟩ := I.tuple h'
 rw [e] at e'; cases e'
 rw [d] at d'
 injection d' with d1 _
 have : its = its' := by simpa using congrArg Array.toList d1
 subst this
 exact r.inj r'
end
abbrev Cx.wish (X : Cx) (E : VSP) : Cx := { X with xe := E }
abbrev Cx.nox (X : Cx) : Cx := X.wish fun _ _ => False
theorem Cx.Ok.wish {X : Cx} (ok : X.Ok) (E : VSP) : (X.wish E).Ok :=
 ⟨ok.mod, ok.kind, ok.glob, ok.blt, ok.above, ok.inj, ok.has, ok.cab, ok.hd, ok.frames, ok.stk, ok.exf, ok.bs, ok.bsz, ok.noex, ok.exfs, ok.funs, ok.frf⟩
theorem Cx.Ok.unwish {X : Cx} {E : VSP} (ok : (X.wish E).Ok) : X.Ok :=
 ⟨ok.mod, ok.kind, ok.glob, ok.blt, ok.above, ok.inj, ok.has, ok.cab, ok.hd, ok.frames, ok.stk, ok.exf, ok.bs, ok.bsz, ok.noex, ok.exfs, ok.funs, ok.frf⟩
section
variable {X : Cx} {pins : PLs} {σ : St} {H : Hp} {s : Shared} {E : VSP}
theorem Inv.wish (I : Inv X pins σ H s) (E : VSP) : Inv (X.wish E) pins σ H s := ⟨I.ok.wish E, I.os, I.bare, I.base, I.loc, I.cell, I.free, I.freeC, I.pin, I.hok, I.len⟩
theorem Inv.unwish (I : Inv (X.wish E) pins σ H s) : Inv X pins σ H s := ⟨I.ok.unwish, I.os, I.bare, I.base, I.loc, I.cell, I.free, I.freeC, I.pin, I.hok, I.len⟩
theorem SP.unwish {D : Ends} {f : Flow} {s' : Shared} (h : SP (X.wish E) pins D f s') : SP X pins D f s' := by
 cases f with
 | next => obtain ⟨σ', H', I, q⟩ := h; exact ⟨σ', H', I.unwish, q⟩
 | brk => obtain ⟨σ', H', I, q⟩ := h; exact ⟨σ', H', I.unwish, q⟩
 | cont => obtain ⟨σ', H', I, q⟩ := h; exact ⟨σ', H', I.unwish, q⟩
 | ret u => obtain ⟨v, σ', H', I, r, q⟩ := h; exact ⟨v, σ', H', I.unwish, r, q⟩
theorem PSs.nox {st : List Stmt} {t : TS} (h : PSs X.nox st t) : PSs X st t := fun pins s σ H D I hw =>
 wpAny_mono (h pins s σ H D (I.wish _) hw) (fun _ _ q => q.unwish) fun _ _ z => False.elim z
end
section
variable {X : Cx} {st : Stmt} {rest : List Stmt} {t u : TS} {e : Expr} {te : TE} {pos : Pos}
def tNext : TS := fun D σ H => D.nx σ H
def tSeq (t u : TS) : TS := fun D σ H => t { D with nx := u D } σ H
theorem pss_nil : PSs X [] tNext := fun _ _ σ H _ I h => wpAny_execs_nil ⟨σ, H, I, h⟩
theorem pss_cons (h1 : PS X st t) (h2 : PSs X rest u) : PSs X (st :: rest) (tSeq t u) := by
 intro pins s σ H D I h
 refine wpAny_execs_cons (thn (h1 pins s σ H { D with nx := u D } I h) fun f s1 q => ?_)
 cases f with
 | next =>
  obtain ⟨σ', H', I', q⟩ := q
  exact h2 pins s1 σ' H' D I' q
 | ret v => exact q
 | brk => exact q
 | cont => exact q
theorem pss_one (h1 : PS X st t) : PSs X [st] t := by
 intro pins s σ H D I h
 refine wpAny_execs_cons (thn (h1 pins s σ H D I h) fun f s1 q => ?_)
 cases f with
 | next => exact wpAny_execs_nil q
 | ret v => exact q
 | brk => exact q
 | cont => exact q
def tBreak : TS := fun D σ H => D.bk σ H
def tCont : TS := fun D σ H => D.ct σ H
theorem Inv.quiet {pins : PLs} {σ : St} {H : Hp} {s : Shared} (I : Inv X pins σ H s) : interactive X.env = false := by simp [interactive, I.ok.kind]
def tDrop (te : TE) : TS := fun D σ H => te σ H fun _ H1 => D.nx σ H1
theorem ps_expr (he : PE X e te) (hs : swapsWith e none pos.line X.env = pure false := by rfl) : PS X (.Expr e pos) (tDrop te) := by
 intro pins s σ H D I h
 exact wpAny_Expr_any (thn (he pins s σ H _ I h) fun v s1 ⟨x, H1, I1, r1, q1⟩ => ⟨σ, H1, I1, q1⟩) I.quiet hs
def tRet (te : TE) : TS := fun D σ H => te σ H D.rt
theorem ps_ret (he : PE X e te) : PS X (.Return (some e) pos) (tRet te) := by
 intro pins s σ H D I h
 exact wpAny_Return_some (thn (he pins s σ H _ I h) fun v s1 ⟨x, H1, I1, r1, q1⟩ => ⟨x, σ, H1, I1, r1, q1⟩)
def tRetN : TS := fun D _ H => D.rt .non H
def tIfS (c : TT) (t u : TS) : TS := fun D σ H => c σ H fun b H1 => if b = true then t D σ H1 else u D σ H1
theorem ps_if {c : Expr} {a b : List Stmt} {tc : TT} (hc : PT X c tc) (ha : PSs X a t) (hb : PSs X b u) : PS X (.If c a b pos) (tIfS tc t u) := by
 intro pins s σ H D I h
 refine wpAny_If (thn (hc pins s σ H _ I h) fun d s1 ⟨H1, I1, q1⟩ => ?_)
 cases d with
 | true => exact ha pins s1 σ H1 D I1 q1
 | false => exact hb pins s1 σ H1 D I1 q1
def tNever : TS := fun _ _ _ => False
theorem ps_never : PS X st tNever := fun _ _ _ _ _ _ h => h.elim
end
abbrev TG := V -> St -> Hp -> (St -> Hp -> Prop) -> Prop
abbrev TGs := List V -> St -> Hp -> (St -> Hp -> Prop) -> Prop
def PG (X : Cx) (target : Expr) (t : TG) : Prop :=
 ∀ (pins : PLs) (s : Shared) (σ : St) (H : Hp) (v : V) (u : Value) (Q : St -> Hp -> Prop), Inv X pins σ H s -> RelV v u -> t v σ H Q →
  wpAny (model X.prog X.w) X.A (assign target X.env u) (fun _ s' => ∃ σ' H', Inv X pins σ' H' s' /\ Q σ' H') X.xe s
def PGs (X : Cx) (ts : List Expr) (t : TGs) : Prop :=
 ∀ (pins : PLs) (s : Shared) (σ : St) (H : Hp) (vs : List V) (us : List Value) (Q : St -> Hp -> Prop), Inv X pins σ H s -> Vals vs us -> t vs σ H Q →
  wpAny (model X.prog X.w) X.A (assignInOrder ((assignEach ts X.env).map (·.2)) us) (fun _ s' => ∃ σ' H', Inv X pins σ' H' s' /\ Q σ' H') X.xe s
abbrev TSet := V -> V -> V -> Hp -> (Hp -> Prop) -> Prop
def PSet (X : Cx) (t : TSet) : Prop :=
 ∀ (pins : PLs) (s : Shared) (σ : St) (H : Hp) (o i v : V) (ov iv u : Value) (Q : Hp -> Prop), Inv X pins σ H s -> RelV o ov -> RelV i iv -> RelV v u -> t o i v H Q →
  wpAny (model X.prog X.w) X.A (setItem ov iv u) (fun _ s' => ∃ H', Inv X pins σ H' s' /\ Q H') X.xe s
abbrev TIp := V -> V -> Hp -> VK -> Prop
def PIp (X : Cx) (op : Operator) (t : TIp) : Prop :=
 ∀ (pins : PLs) (s : Shared) (σ : St) (H : Hp) (x y : V) (v u : Value) (Q : VK), Inv X pins σ H s -> RelV x v -> RelV y u -> t x y H Q →
  wpAny (model X.prog X.w) X.A (inplaceOp op v u) (EP X pins σ Q) X.xe s
section
variable {X : Cx} {pos : Pos}
def gName (i : Nat) : TG := fun v σ H Q => Q (σ.set i (some v)) H
theorem pg_name {i : Nat} {x : Str} (hN : X.N.Nodup) (hi : X.N[i]? = some x) (hx : Loc X.env.scope x) (hf : X.fn x = true ∨ X.env.scope.names.lookup x = some .local := by first | exact .inl rfl | exact .inr rfl | assumption) : PG X (.Name x pos) (gName i) := by
 intro pins s σ H v u Q I r h
 exact wpAny_assign_Name (store_ok I hN hi hx r (fun s' I' => ⟨_, H, I', h⟩) hf)
def gNil : TGs := fun vs σ H Q => vs = [] /\ Q σ H
def gCons (t : TG) (u : TGs) : TGs := fun vs σ H Q => ∃ v r, vs = v :: r /\ t v σ H fun σ' H' => u r σ' H' Q
theorem pgs_nil : PGs X [] gNil := by
 intro pins s σ H vs us Q I r h
 obtain ⟨e, h⟩ := h
 subst e
 cases r
 exact assignInOrder_nil ⟨σ, H, I, h⟩
theorem pgs_cons {e : Expr} {es : List Expr} {t : TG} {u : TGs} (h1 : PG X e t) (h2 : PGs X es u)
  (hs : (assignEach (e :: es) X.env).map (·.2) = assign e X.env :: (assignEach es X.env).map (·.2) := by rfl) : PGs X (e :: es) (gCons t u) := by
 intro pins s σ H vs us Q I r h
 obtain ⟨v, vr, e1, h⟩ := h
 subst e1
 cases r with
 | cons r rr =>
  rw [hs]
  refine assignInOrder_cons (thn (h1 pins s σ H _ _ _ I r h) fun _ s1 ⟨σ1, H1, I1, q1⟩ => ?_)
  exact h2 pins s1 σ1 H1 _ _ Q I1 rr q1
def gTup (K : Fg) (n : Nat) (t : TGs) : TG := fun v σ H Q => ∃ a xs, v = .ref a /\ SqT K H a xs /\ xs.length = n /\ t xs σ H Q
theorem pg_tup {es : List Expr} {k : Nat} {t : TGs} {n : Nat} (hc : X.calm = true) (h : PGs X es t)
  (hn : (assignEach es X.env).length = n := by rfl) (hst : (assignEach es X.env).findIdx? (·.1) = none := by rfl) : PG X (.Tuple es k pos) (gTup X.K n t) := by
 intro pins s σ H v u Q I r hw
 obtain ⟨a, xs, e1, hq, hl, hw⟩ := hw
 subst e1
 cases r
 obtain ⟨its, rv, ht, hz⟩ := I.tuple hq
 refine assign_Tuple_tuple (I.ok.hd hc) ht (by simp [hn, ← hl, rv.length]) hst fun h' hx => ?_
 have I1 : Inv X pins σ H { s with heap := h' } := I.kept (t' := s.toks) fun b o e => hx b o (Nat.ne_of_lt (Heap.lt_size e)) e
 exact h pins _ σ H xs _ Q I1 (by simpa using rv) hw
def gSub (to ti : TE) (t : TSet) : TG := fun v σ H Q => to σ H fun o H1 => ti σ H1 fun i H2 => t o i v H2 fun H3 => Q σ H3
theorem pg_sub {o i : Expr} {to ti : TE} {t : TSet} (ho : PE X o to) (hi : PE X i ti) (hs : PSet X t)
  (ha : ∀ v, assign (.Subscript o i pos) X.env v = (do
   let ov ← holding [v] (eval o X.env)
   let iv ← holding [v, ov] (eval i X.env)
   standAt pos
   holding [v, ov, iv] (setItem ov iv v)
   release [v, ov, iv] []) := by intro _; rfl) : PG X (.Subscript o i pos) (gSub to ti t) := by
 intro pins s σ H v u Q I r h
 rw [ha]
 refine wpAny_bind (wpAny_holding (thn (ho pins s σ H _ I h) fun ov s1 ⟨x, H1, I1, r1, q1⟩ => ?_))
 refine wpAny_bind (wpAny_holding (thn (hi pins s1 σ H1 _ I1 q1) fun iv s2 ⟨y, H2, I2, r2, q2⟩ => ?_))
 refine wpAny_bind (wpAny_standAt (wpAny_bind (wpAny_holding (thn (hs pins s2 σ H2 x y v ov iv u _ I2 r1 r2 r q2) fun _ s3 ⟨H3, I3, q3⟩ => ?_))))
 exact wpAny_release ⟨σ, H3, I3, q3⟩
def tAsg (te : TE) (g : TG) : TS := fun D σ H => te σ H fun x H1 => g x σ H1 D.nx
theorem ps_asg {tg e : Expr} {te : TE} {g : TG} (he : PE X e te) (hg : PG X tg g) (hs : swapsWithSole [tg] e pos.line X.env = pure false := by rfl) (hw : swappedStores [tg] e X.env = pure none := by rfl)
  (h1 : (assignEach [tg] X.env).map (·.2) = [assign tg X.env] := by rfl) : PS X (.Assign [tg] e pos) (tAsg te g) := by
 intro pins s σ H D I h
 refine wpAny_Assign_stores (thn (he pins s σ H _ I h) fun v s1 ⟨x, H1, I1, r1, q1⟩ => ?_) hs hw
 rw [h1]
 exact thn (hg pins s1 σ H1 x v _ I1 r1 q1) fun _ s2 q => q
theorem ps_set {i : Nat} {x : Str} {e : Expr} {te : TE} {pos' : Pos} (hN : X.N.Nodup) (hi : X.N[i]? = some x) (hx : Loc X.env.scope x) (he : PE X e te) (hs : swapsWith e (some (.Name x pos')) pos.line X.env = pure false := by rfl) (hf : X.fn x = true ∨ X.env.scope.names.lookup x = some .local := by first | exact .inl rfl | exact .inr rfl | assumption) :
  PS X (.Assign [.Name x pos'] e pos) (tAsg te (gName i)) := by
 intro pins s σ H D I h
 refine wpAny_Assign_Name (thn (he pins s σ H _ I h) fun v s1 ⟨y, H1, I1, r1, q1⟩ => ?_) hs
 exact store_ok I1 hN hi hx r1 (fun s2 I2 => ⟨_, H1, I2, q1⟩) hf
def tPar (i j : Nat) (ta : TA) : TS := fun D σ H => ta σ H fun vs H1 => ∃ v w, vs = [v, w] /\ D.nx ((σ.set i (some v)).set j (some w)) H1
theorem ps_par {i j : Nat} {x y : Str} {a b : Expr} {ta : TA} {px py pt : Pos} {kt k2 pt2} (hc : X.calm = true) (hN : X.N.Nodup) (hi : X.N[i]? = some x) (hj : X.N[j]? = some y) (hij : i ≠ j)
  (hx : X.env.scope.names.lookup x = some .local) (hy : X.env.scope.names.lookup y = some .local) (ha : PA X [a, b] ta)
  (hw : swappedStores [.Tuple [.Name x px, .Name y py] kt pt] (.Tuple [a, b] k2 pt2) X.env = pure (some [x, y]))
  (hs : swapsWithSole [.Tuple [.Name x px, .Name y py] kt pt] (.Tuple [a, b] k2 pt2) pos.line X.env = pure false := by rfl) :
  PS X (.Assign [.Tuple [.Name x px, .Name y py] kt pt] (.Tuple [a, b] k2 pt2) pos) (tPar i j ta) := by
 intro pins s σ H D I h
 rw [exec_Assign_arm]
 refine wpAny_bind (wpAny_standAt ?_)
 rw [hs]
 refine wpAny_bind (wpAny_pure ?_)
 rw [if_neg (by decide)]
 refine wpAny_bind (Tuple_ (thn (ha _ pins s σ H _ I h) fun us s1 ⟨vs, H1, I1, r1, q1⟩ => ?_))
 obtain ⟨v, w, e1, q1⟩ := q1
 subst e1
 obtain ⟨u1, u2, rfl, rv, rw'⟩ : ∃ u1 u2, us = [u1, u2] /\ RelV v u1 /\ RelV w u2 := by
  cases r1 with
  | cons p q =>
   cases q with
   | cons p' q' =>
    cases q'
    exact ⟨_, _, rfl, p, p'⟩
 refine wpAny_newObj_type ?_ zl2
 have I2 : Inv X pins σ H1 { s1 with heap := s1.heap.push { cls := .type "tuple", data := .seq [u1, u2].toArray } } := I1.kept (t' := s1.toks) fun b o e => Heap.get?_push_of_some _ e
 rw [hw]
 refine wpAny_bind (wpAny_pure ?_)
 show wpAny (model X.prog X.w) X.A (do rule "assign.swapped-stores"; let items ← unpackItems (.ref s1.heap.objs.size) 2 none; assignInOrder [fun v => bindName X.env y v, fun v => bindName X.env x v] items.reverse; pure Flow.next) _ _ _
 refine wpAny_bind (wpAny_rule (wpAny_bind (unpackItems_tuple (items := #[u1, u2]) (I.ok.hd hc) (IsTup.new s1.heap _) fun h' hx' => ?_)))
 have I3 := I2.kept (h' := h') (t' := s1.toks) fun b o e => hx' b o (Nat.ne_of_lt (Heap.lt_size e)) e
 show wpAny _ _ (assignInOrder [fun v => bindName X.env y v, fun v => bindName X.env x v] [u2, u1] >>= fun _ => pure Flow.next) _ _ _
 refine wpAny_bind (assignInOrder_cons (wpAny_bindName (store_ok I3 hN hj (.inl hy) rw' (fun s2 I4 => ?_) (.inr hy))))
 refine assignInOrder_cons (wpAny_bindName (store_ok I4 hN hi (.inl hx) rv (fun s3 I5 => assignInOrder_nil (wpAny_pure ?_)) (.inr hx)))
 rw [List.set_comm _ _ (Ne.symm hij)] at I5
 exact ⟨_, H1, I5, q1⟩
def tAug (i : Nat) (te : TE) (ti : TIp) : TS := fun D σ H => ∃ x, σ[i]? = some (some x) /\ te σ H fun y H1 => ti x y H1 fun z H2 => D.nx (σ.set i (some z)) H2
def tAugS (to ti te : TE) (tget : V -> V -> Hp -> VK -> Prop) (tip : TIp) (tset : TSet) : TS := fun D σ H => to σ H fun o H1 => ti σ H1 fun i H2 => tget o i H2 fun x H3 => te σ H3 fun y H4 => tip x y H4 fun z H5 => tset o i z H5 fun H6 => D.nx σ H6
def PGet (X : Cx) (t : V -> V -> Hp -> VK -> Prop) : Prop :=
 ∀ (pins : PLs) (s : Shared) (σ : St) (H : Hp) (o i : V) (ov iv : Value) (Q : VK), Inv X pins σ H s -> RelV o ov -> RelV i iv -> t o i H Q →
  wpAny (model X.prog X.w) X.A (getItem ov iv) (EP X pins σ Q) X.xe s
def ipI (f : Int -> Int -> Int) : TIp := fun x y H Q => ∃ i j, x = .int i /\ y = .int j /\ Q (.int (f i j)) H
end
section
variable {X : Cx} {pos : Pos}
def tWhile (c : TT) (tb : TS) : TS := fun D σ H => ∃ W : Nat -> St -> Hp -> Prop, (∃ m, W m σ H) /\ ∀ m σ H, W m σ H →
 c σ H fun b H1 => if b = true then ∃ N : St -> Hp -> Prop, (∀ σ' H', N σ' H' -> ∃ m', m' < m /\ W m' σ' H') /\ tb { D with nx := N, ct := N, bk := D.nx } σ H1 else D.nx σ H1
theorem ps_while {c : Expr} {body : List Stmt} {tc : TT} {tb : TS} (hp : PassesOwn (model X.prog X.w) X.A X.env X.xe) (hc : PT X c tc) (hb : PSs X body tb) : PS X (.While c body [] pos) (tWhile tc tb) := by
 intro pins s σ H D I h
 obtain ⟨W, ⟨m0, w0⟩, turn⟩ := h
 refine wpAny_While (codeAny_whileLoop (fun n s' => ∃ σ' H', Inv X pins σ' H' s' /\ W n σ' H') ?_ m0 ⟨σ, H, I, w0⟩)
 rintro n s1 ⟨σ1, H1, I1, w1⟩
 refine wpAny_passesOwn hp (thn (hc pins s1 σ1 H1 _ I1 (turn n σ1 H1 w1)) fun b s2 ⟨H2, I2, q2⟩ => ?_)
 cases b with
 | true =>
  obtain ⟨N, hN, q2⟩ := q2
  rw [if_pos rfl]
  refine wpAny_passesOwn hp (thn (hb pins s2 σ1 H2 _ I2 q2) fun f s3 q3 => ?_)
  cases f with
  | next =>
   obtain ⟨σ3, H3, I3, n3⟩ := q3
   obtain ⟨m', hm, w3⟩ := hN σ3 H3 n3
   exact ⟨m', hm, σ3, H3, I3, w3⟩
  | cont =>
   obtain ⟨σ3, H3, I3, n3⟩ := q3
   obtain ⟨m', hm, w3⟩ := hN σ3 H3 n3
   exact ⟨m', hm, σ3, H3, I3, w3⟩
  | brk => exact q3
  | ret v => exact q3
 | false =>
  rw [if_neg Bool.false_ne_true]
  exact wpAny_execs_nil ⟨σ1, H2, I2, q2⟩
end
structure It where
 go : Nat -> Hp -> Prop
 yld : Nat -> Hp -> V -> Hp -> Prop
 stop : Nat -> Hp -> Prop
def FpOk (X : Cx) (pins : PLs) (H : Hp) (b : Addr) : Prop :=
 H b = none /\ b ≠ X.env.locals /\ b ∉ X.fs /\ (b ∈ X.ex ∨ X.s₀.heap.get? b = none) /\ (∀ x c, X.env.cells.lookup x = some c -> c ≠ b) /\ ∀ p ∈ X.pn ++ pins, p.1 ≠ b
theorem Inv.fpOk {X : Cx} {pins : PLs} {σ : St} {H H' : Hp} {s : Shared} {b : Addr} (I : Inv X pins σ H s) (hb : s.heap.objs.size ≤ b) (hn : H' b = none) : FpOk X pins H' b := by
 refine ⟨hn, Nat.ne_of_gt (Nat.lt_of_lt_of_le I.lt hb), I.nofs hb, .inr (Heap.get?_none_of_le (Nat.le_trans I.sz hb)), fun x c e z => ?_, fun p hp z => ?_⟩
 ·obtain ⟨v, q⟩ := I.cell x c e
  exact absurd (Nat.lt_of_lt_of_le q.lt (by rw [z]; exact hb)) (Nat.lt_irrefl _)
 ·exact absurd (Nat.lt_of_lt_of_le (Heap.lt_size (I.pin p hp).1) (by rw [z]; exact hb)) (Nat.lt_irrefl _)
structure Turn (P : Program) (w : World) (K : Fg) (tg : Expr) (J : It) (fp : List Addr) (it : Addr) (tn : Nat -> Heap -> Prop) : Prop where
 mem : it ∈ fp
 obj : ∀ i h, tn i h -> ∀ b ∈ fp, ∃ o, h.get? b = some o /\ ∀ v, o.data ≠ .cell v
 keep : ∀ i h h', tn i h -> (∀ b ∈ fp, ∀ o, h.get? b = some o -> h'.get? b = some o) -> tn i h'
 item : ∀ (X : Cx), X.prog = P -> X.w = w -> X.K = K -> X.calm = true -> ∀ (i : Nat) (pins : PLs) (s : Shared) (σ : St) (H : Hp) (E : VSP), Inv X pins σ H s -> (∀ b ∈ fp, FpOk X pins H b) -> tn i s.heap -> J.go i H →
  wpAny (model P w) X.A (pyNext (.ref it)) (fun r s1 => ∃ u, r = some u ∧
   wpAny (model P w) X.A (letOwnedTupleGo tg (.ref it) u) (fun _ s2 => ∃ x H', Inv X pins σ H' s2 /\ RelV x u /\ J.yld i H x H' /\ tn (i + 1) s2.heap /\ ∀ b ∈ fp, H' b = none) E s1) E s
 done : ∀ (X : Cx), X.prog = P -> X.w = w -> X.K = K -> X.calm = true -> ∀ (i : Nat) (pins : PLs) (s : Shared) (σ : St) (H : Hp) (E : VSP), Inv X pins σ H s -> (∀ b ∈ fp, FpOk X pins H b) -> tn i s.heap -> J.stop i H →
  wpAny (model P w) X.A (pyNext (.ref it)) (fun r s1 => r = none /\ Inv X pins σ H s1) E s
 self : ∀ (A : Around) (i : Nat) (s : Shared) (Q : VSP) (E : VSP), tn i s.heap -> Q (.ref it) s -> wpAny (model P w) A (pyIter (.ref it)) Q E s
abbrev TI := St -> Hp -> (It -> Hp -> Prop) -> Prop
def PIE (X : Cx) (pins : PLs) (σ : St) (tg : Expr) (R : It -> Hp -> Prop) (itv : Value) (s2 : Shared) : Prop :=
 ∃ (it : Addr) (fp : List Addr) (tn : Nat -> Heap -> Prop) (J : It) (H' : Hp), itv = .ref it /\ Inv X pins σ H' s2 /\ Turn X.prog X.w X.K tg J fp it tn /\ tn 0 s2.heap /\ (∀ b ∈ fp, FpOk X pins H' b) /\ R J H'
def PI (X : Cx) (tg iter : Expr) (wi : TI) : Prop :=
 ∀ (pins : PLs) (s : Shared) (σ : St) (H : Hp) (R : It -> Hp -> Prop), Inv X pins σ H s -> wi σ H R →
  wpAny (model X.prog X.w) X.A (eval iter X.env) (fun v s1 => wpAny (model X.prog X.w) X.A (pyIter v) (PIE X pins σ tg R) X.xe s1) X.xe s
theorem go_of {M : Model} {A : Around} {E : VSP} {s : Shared} {tg : Expr} {it : Addr} {u : Value} {o : Obj} {n : String} {vs : Array Value} {Q : Unit -> Shared -> Prop} (ho : s.heap.get? it = some o) (hc : o.cls = .type n) (hd : o.data = .fields vs)
  (hn : ["enumerate", "zip", "dict_itemiterator", "dict_reverseitemiterator", "odict_iterator", "itertools.zip_longest", "itertools.pairwise"].contains n = false) (hQ : Q () s) : wpAny M A (letOwnedTupleGo tg (.ref it) u) Q E s := by
 unfold letOwnedTupleGo
 cases tg <;> first
  | exact wpAny_pure hQ
  | (cases u <;> first
    | exact wpAny_pure hQ
    | (refine wpAny_bind (wpAny_load ho ?_)
       rw [hc, hd]
       show wpAny M A (if (["enumerate", "zip", "dict_itemiterator", "dict_reverseitemiterator", "odict_iterator", "itertools.zip_longest", "itertools.pairwise"].contains n && vs[0]? == some (rawInt _)) = true then _ else _) Q E s
       rw [if_neg (by intro h; rw [hn, Bool.false_and] at h; cases h)]
       exact wpAny_pure hQ))
def Itl (K : Fg) (a : Addr) : It :=
 ⟨fun i H => ∃ xs x, SqL K H a xs /\ xs[i]? = some x, fun i H x H' => H' = H /\ ∀ xs, SqL K H a xs -> xs[i]? = some x, fun i H => ∃ xs, SqL K H a xs /\ xs.length ≤ i⟩
def Itt (K : Fg) (a : Addr) : It :=
 ⟨fun i H => ∃ xs x, SqT K H a xs /\ xs[i]? = some x, fun i H x H' => H' = H /\ ∀ xs, SqT K H a xs -> xs[i]? = some x, fun i H => ∃ xs, SqT K H a xs /\ xs.length ≤ i⟩
def Itr (lo : Int) (n : Nat) : It := ⟨fun i _ => i < n, fun i H x H' => H' = H /\ x = .int (lo + i), fun i _ => n ≤ i⟩
theorem turn_list {P : Program} {w : World} {K : Fg} {tg : Expr} (a it : Addr) : Turn P w K tg (Itl K a) [it] it (fun i h => h.IsListIter it a i) where
 mem := by simp
 obj := fun i h st b hb => by
  have e : b = it := by simpa using hb
  subst e
  obtain ⟨o, e, c, d⟩ := st
  exact ⟨o, e, fun v z => by rw [d] at z; cases z⟩
 keep := fun i h h' st k => st.at fun o e => k it (by simp) o e
 item := by
  intro X hP hw hK hc i pins s σ H E I hf st hg
  subst hP hw hK
  obtain ⟨xs, x, hq, hx⟩ := hg
  obtain ⟨its, rv, p, hz⟩ := I.list hq
  obtain ⟨u, hu, ru⟩ := rv.get hx
  obtain ⟨f0, f1, f2, f3, f4, f5⟩ := hf it (by simp)
  refine wpAny_pyNext_list_item st p.isList (x := u) (by simpa using hu) fun h' st' sb => ?_
  have I1 : Inv X pins σ H { s with heap := h' } := I.turned (t' := s.toks) (fun b o hb e => (sb.2 b hb).trans e) f0 f1 f3 f4 f5
  obtain ⟨o, e, c, d⟩ := id st'
  exact ⟨u, rfl, go_of (s := { s with heap := h' }) e c d (by decide) ⟨x, H, I1, ru, ⟨rfl, fun ys hy => by rw [I.list_inj hy hq]; exact hx⟩, st', fun b hb => (hf b hb).1⟩⟩
 done := by
  intro X hP hw hK hc i pins s σ H E I hf st hg
  subst hP hw hK
  obtain ⟨xs, hq, hx⟩ := hg
  obtain ⟨its, rv, p, hz⟩ := I.list hq
  obtain ⟨f0, f1, f2, f3, f4, f5⟩ := hf it (by simp)
  have hl := rv.length
  exact wpAny_pyNext_list_end (I.ok.hd hc) st p.isList (by simp; omega) fun h' eb => ⟨rfl, I.turned (t' := s.toks) (fun b o hb e => eb b o hb e) f0 f1 f3 f4 f5⟩
 self := fun _ _ _ _ _ st h => wpAny_pyIter_listiter st h
theorem turn_tuple {P : Program} {w : World} {K : Fg} {tg : Expr} (a it : Addr) : Turn P w K tg (Itt K a) [it] it (fun i h => h.IsTupleIter it a i) where
 mem := by simp
 obj := fun i h st b hb => by
  have e : b = it := by simpa using hb
  subst e
  obtain ⟨o, e, c, d⟩ := st
  exact ⟨o, e, fun v z => by rw [d] at z; cases z⟩
 keep := fun i h h' st k => st.at fun o e => k it (by simp) o e
 item := by
  intro X hP hw hK hc i pins s σ H E I hf st hg
  subst hP hw hK
  obtain ⟨xs, x, hq, hx⟩ := hg
  obtain ⟨its, rv, p, hz⟩ := I.tuple hq
  obtain ⟨u, hu, ru⟩ := rv.get hx
  obtain ⟨f0, f1, f2, f3, f4, f5⟩ := hf it (by simp)
  refine wpAny_pyNext_tuple_item st (show s.heap.IsTuple a its.toArray from p) (x := u) (by simpa using hu) fun h' st' sb => ?_
  have I1 : Inv X pins σ H { s with heap := h' } := I.turned (t' := s.toks) (fun b o hb e => (sb.2 b hb).trans e) f0 f1 f3 f4 f5
  obtain ⟨o, e, c, d⟩ := id st'
  exact ⟨u, rfl, go_of (s := { s with heap := h' }) e c d (by decide) ⟨x, H, I1, ru, ⟨rfl, fun ys hy => by rw [I.tuple_inj hy hq]; exact hx⟩, st', fun b hb => (hf b hb).1⟩⟩
 done := by
  intro X hP hw hK hc i pins s σ H E I hf st hg
  subst hP hw hK
  obtain ⟨xs, hq, hx⟩ := hg
  obtain ⟨its, rv, p, hz⟩ := I.tuple hq
  obtain ⟨f0, f1, f2, f3, f4, f5⟩ := hf it (by simp)
  have hl := rv.length
  exact wpAny_pyNext_tuple_end (I.ok.hd hc) st (show s.heap.IsTuple a its.toArray from p) (by simp; omega) fun h' eb => ⟨rfl, I.turned (t' := s.toks) (fun b o hb e => eb b o hb e) f0 f1 f3 f4 f5⟩
 self := fun _ _ _ _ _ st h => wpAny_pyIter_tupleiter st h
theorem turn_range {P : Program} {w : World} {K : Fg} {tg : Expr} (it : Addr) (lo : Int) (n : Nat) : Turn P w K tg (Itr lo n) [it] it (fun i h => IsRangeIter h it (lo + (i : Nat) * 1) ((n : Int) - (i : Nat)) 1) where
 mem := by simp
 obj := fun i h st b hb => by
  have e : b = it := by simpa using hb
  subst e
  exact ⟨_, st, fun v z => by
   have z' : Data.fields _ = Data.cell v := z
   cases z'⟩
 keep := fun i h h' st k => k it (by simp) _ st
 item := by
  intro X hP hw hK hc i pins s σ H E I hf st hg
  subst hP hw hK
  obtain ⟨f0, f1, f2, f3, f4, f5⟩ := hf it (by simp)
  have W := Walks.range (prog := X.prog) (w := X.w) (I.ok.hd hc) it lo 1 n
  refine W.item i s _ _ hg st fun v h' tk hv st' kk => ?_
  obtain ⟨t, rfl⟩ := hv
  have I1 : Inv X pins σ H { s with heap := h', toks := tk } := I.turned (fun b o hb e => kk b o (by simpa using hb) e) f0 f1 f3 f4 f5
  refine ⟨_, rfl, go_of (s := { s with heap := h', toks := tk }) (n := "range_iterator") st' rfl rfl (by decide) ⟨.int (lo + i), H, I1, ⟨t, ?_⟩, ⟨rfl, rfl⟩, st', fun b hb => (hf b hb).1⟩⟩
  rw [Int.mul_one]
 done := by
  intro X hP hw hK hc i pins s σ H E I hf st hg
  subst hP hw hK
  obtain ⟨f0, f1, f2, f3, f4, f5⟩ := hf it (by simp)
  exact wpAny_pyNext_range_end (I.ok.hd hc) st (by have : n ≤ i := hg; omega) fun h' eb => ⟨rfl, I.turned (t' := s.toks) (fun b o hb e => eb b o hb e) f0 f1 f3 f4 f5⟩
 self := fun _ _ _ _ _ st h => wpAny_pyIter_rangeiter st h
end L2
namespace L2
open PySem PySem.Spec PyProof.Rows
section
variable {X : Cx} {tg : Expr}
def iList (K : Fg) (tl : TE) : TI := fun σ H R => tl σ H fun x H1 => ∃ a, x = .ref a /\ (∃ xs, SqL K H1 a xs) /\ R (Itl K a) H1
def iTup (K : Fg) (tl : TE) : TI := fun σ H R => tl σ H fun x H1 => ∃ a, x = .ref a /\ (∃ xs, SqT K H1 a xs) /\ R (Itt K a) H1
theorem pi_list {l : Expr} {tl : TE} (hl : PE X l tl) : PI X tg l (iList X.K tl) := by
 intro pins s σ H R I h
 refine thn (hl pins s σ H _ I h) fun v s1 ⟨x, H1, I1, r1, q1⟩ => ?_
 obtain ⟨a, e, ⟨xs, hq⟩, q⟩ := q1
 subst e
 cases r1
 obtain ⟨its, rv, p, hz⟩ := I1.list hq
 refine wpAny_pyIter_list p.isList ?_
 refine ⟨s1.heap.objs.size, [s1.heap.objs.size], _, _, H1, rfl, I1.kept (t' := s1.toks) fun b o e => Heap.get?_push_of_some _ e, turn_list a _, ⟨_, Heap.get?_push_size _ rfl, rfl, rfl⟩, fun b hb => ?_, q⟩
 have e : b = s1.heap.objs.size := by simpa using hb
 subst e
 exact I1.fpOk (Nat.le_refl _) (I1.hok.fresh (Nat.le_refl _))
theorem pi_tup {l : Expr} {tl : TE} (hl : PE X l tl) : PI X tg l (iTup X.K tl) := by
 intro pins s σ H R I h
 refine thn (hl pins s σ H _ I h) fun v s1 ⟨x, H1, I1, r1, q1⟩ => ?_
 obtain ⟨a, e, ⟨xs, hq⟩, q⟩ := q1
 subst e
 cases r1
 obtain ⟨its, rv, p, hz⟩ := I1.tuple hq
 refine wpAny_pyIter_tuple (show s1.heap.IsTuple a its.toArray from p) ?_
 refine ⟨s1.heap.objs.size, [s1.heap.objs.size], _, _, H1, rfl, I1.kept (t' := s1.toks) fun b o e => Heap.get?_push_of_some _ e, turn_tuple a _, ⟨_, Heap.get?_push_size _ rfl, rfl, rfl⟩, fun b hb => ?_, q⟩
 have e : b = s1.heap.objs.size := by simpa using hb
 subst e
 exact I1.fpOk (Nat.le_refl _) (I1.hok.fresh (Nat.le_refl _))
theorem range_it {pins : PLs} {σ : St} {H : Hp} {s : Shared} {R : It -> Hp -> Prop} {E : VSP} {lo hi : Int} {t u v : Tok} {tk : Nat} (I : Inv X pins σ H s) (h1 : -(2 ^ 62) ≤ lo) (h2 : lo < 2 ^ 62) (h3 : -(2 ^ 62) ≤ hi) (h4 : hi < 2 ^ 62)
  (q : R (Itr lo (hi - lo).toNat) H) : wpAny (model X.prog X.w) X.A (pyIter (.ref s.heap.objs.size)) (PIE X pins σ tg R) E { s with heap := s.heap.push { cls := .type "range", data := .fields #[.int lo t, .int hi u, .int 1 v] }, toks := tk } := by
 refine wpAny_pyIter_range (IsRange.new ..) (small_one h1 h2 h3 h4) ?_
 have I1 : Inv X pins σ H { s with heap := s.heap.push { cls := .type "range", data := .fields #[.int lo t, .int hi u, .int 1 v] }, toks := tk } := I.kept fun b o e => Heap.get?_push_of_some _ e
 refine ⟨(s.heap.push { cls := .type "range", data := .fields #[.int lo t, .int hi u, .int 1 v] }).objs.size, [(s.heap.push { cls := .type "range", data := .fields #[.int lo t, .int hi u, .int 1 v] }).objs.size], _, _, H, rfl,
  I1.kept (t' := tk) fun b o e => Heap.get?_push_of_some _ e, turn_range _ lo (hi - lo).toNat, ?_, fun b hb => ?_, q⟩
 ·have e1 : lo + ((0 : Nat) : Int) * 1 = lo := by simp
  have e2 : (((hi - lo).toNat : Nat) : Int) - ((0 : Nat) : Int) = Builtin.Range.rangeSize lo hi 1 := by rw [rangeSize_one]; split <;> omega
  show IsRangeIter _ _ (lo + ((0 : Nat) : Int) * 1) ((((hi - lo).toNat : Nat) : Int) - ((0 : Nat) : Int)) 1
  rw [e1, e2]
  exact Heap.get?_push_size _ rfl
 ·have e : b = (s.heap.push { cls := .type "range", data := .fields #[.int lo t, .int hi u, .int 1 v] }).objs.size := by simpa using hb
  subst e
  exact I1.fpOk (Nat.le_refl _) (I1.hok.fresh (Nat.le_refl _))
def iRng1 (ta : TA) : TI := fun σ H R => ta σ H fun vs H1 => ∃ j : Int, vs = [.int j] /\ -(2 ^ 62) ≤ j /\ j < 2 ^ 62 /\ R (Itr 0 j.toNat) H1
def iRng2 (ta : TA) : TI := fun σ H R => ta σ H fun vs H1 => ∃ i j : Int, vs = [.int i, .int j] /\ (-(2 ^ 62) ≤ i /\ i < 2 ^ 62 /\ -(2 ^ 62) ≤ j /\ j < 2 ^ 62) /\ R (Itr i (j - i).toNat) H1
theorem pi_range1 {a : Expr} {ta : TA} {p pos : Pos} (hg : Gl X "range") (hm : X.mg "range" = none) (ha : PA X [a] ta) (hs : starEach [a] X.env = [(false, eval a X.env)] := by rfl) : PI X tg (.Call (.Name "range" p) [a] [] pos) (iRng1 ta) := by
 intro pins s σ H R I h
 refine Call_ (ld_blt I hg hm boot_range (PyProof.Rows.callWith_type1 (thn (ha pos pins s σ H _ I h) fun us s1 ⟨vs, H1, I1, r1, q1⟩ => ?_) hs rfl))
 obtain ⟨j, e, q1, q2, q⟩ := q1
 subst e
 cases r1 with
 | cons r rr =>
  cases rr
  obtain ⟨t, rfl⟩ := r
  exact call_range_1 (range_it I1 (by omega) (by omega) q1 q2 (by simpa using q))
def tFor (wi : TI) (g : TG) (tb : TS) : TS := fun D σ H => wi σ H fun J H1 => ∃ W : Nat -> Nat -> St -> Hp -> Prop, (∃ m, W 0 m σ H1) /\ ∀ i m σ H, W i m σ H →
 (J.stop i H /\ D.nx σ H) ∨ (J.go i H /\ ∃ N : St -> Hp -> Prop, (∀ σ' H', N σ' H' -> ∃ m', m' < m /\ W (i + 1) m' σ' H') /\ ∀ x H', J.yld i H x H' -> g x σ H' fun σ2 H2 => tb { D with nx := N, ct := N, bk := D.nx } σ2 H2)
def pinsAt (fp : List Addr) (h : Heap) : PLs := fp.filterMap fun b => (h.get? b).map fun o => (b, o)
theorem mem_pinsAt {fp : List Addr} {h : Heap} {b : Addr} {o : Obj} (hb : b ∈ fp) (e : h.get? b = some o) : (b, o) ∈ pinsAt fp h := List.mem_filterMap.mpr ⟨b, hb, by rw [e]; rfl⟩
theorem of_pinsAt {fp : List Addr} {h : Heap} {p : Addr × Obj} (hp : p ∈ pinsAt fp h) : p.1 ∈ fp /\ h.get? p.1 = some p.2 := by
 obtain ⟨b, hb, e⟩ := List.mem_filterMap.mp hp
 cases q : h.get? b with
 | none => rw [q] at e; cases e
 | some o =>
  rw [q] at e
  have e' : (b, o) = p := Option.some.inj e
  subst e'
  exact ⟨hb, q⟩
theorem Inv.pinned {pins : PLs} {σ : St} {H : Hp} {s : Shared} {fp : List Addr} (I : Inv X pins σ H s) (hf : ∀ b ∈ fp, FpOk X pins H b) (ho : ∀ b ∈ fp, ∃ o, s.heap.get? b = some o /\ ∀ v, o.data ≠ .cell v) : Inv X (pins ++ pinsAt fp s.heap) σ H s :=
 I.pins_of fun p hp => (List.mem_append.mp hp).elim (fun z => I.pin p (List.mem_append_right _ z)) fun z => by
  obtain ⟨hb, e⟩ := of_pinsAt z
  obtain ⟨f0, f1, f2, _⟩ := hf p.1 hb
  obtain ⟨o, e', d⟩ := ho p.1 hb
  rw [e] at e'; cases e'
  exact ⟨e, f0, f1, f2, d⟩
theorem Inv.unpinned {pins pl : PLs} {σ : St} {H : Hp} {s : Shared} (I : Inv X (pins ++ pl) σ H s) : Inv X pins σ H s := I.pins_of fun p hp => I.pin p (List.mem_append_right _ (List.mem_append_left _ hp))
theorem ps_for {iter : Expr} {body : List Stmt} {wi : TI} {g : TG} {tb : TS} {pos : Pos} (hp : PassesOwn (model X.prog X.w) X.A X.env X.xe) (hc : X.calm = true) (hi : PI X tg iter wi) (hg : PG X tg g) (hb : PSs X body tb)
  (hs : ∀ x, foldedSetIterable iter X.env x = pure x := by intro _; rfl) : PS X (.For tg iter body [] pos) (tFor wi g tb) := by
 intro pins s σ H D I h
 refine wpAny_For (thn (hi pins s σ H _ I h) fun v s1 h1 => thn h1 fun itv s2 h2 => ?_) hs
 obtain ⟨it, fp, tn, J, H2, e, I2, T, st2, f2, W, ⟨m0, w0⟩, turn⟩ := h2
 subst e
 have stat : ∀ {H' : Hp}, (∀ b ∈ fp, H' b = none) -> ∀ b ∈ fp, FpOk X pins H' b := fun hn b hb => ⟨hn b hb, (f2 b hb).2⟩
 refine codeAny_forLoop_any (fun n s' => ∃ i σ' H', Inv X pins σ' H' s' /\ tn i s'.heap /\ (∀ b ∈ fp, H' b = none) /\ W i n σ' H') ?_ m0 ⟨0, σ, H2, I2, st2, fun b hb => (f2 b hb).1, w0⟩
 rintro n s3 ⟨i, σ3, H3, I3, st3, fr3, w3⟩
 rcases turn i n σ3 H3 w3 with ⟨stop, qn⟩ | ⟨go, N, hN, step⟩
 ·refine wpAny_passesOwn hp (thn (T.done X rfl rfl rfl hc i pins s3 σ3 H3 X.xe I3 (stat fr3) st3 stop) fun r s4 ⟨hr, I4⟩ => ?_)
  subst hr
  exact wpAny_execs_nil ⟨σ3, H3, I4, qn⟩
 ·refine wpAny_passesOwn hp (thn (T.item X rfl rfl rfl hc i pins s3 σ3 H3 X.xe I3 (stat fr3) st3 go) fun r s4 ⟨u, hr, h4⟩ => ?_)
  subst hr
  refine wpAny_passesOwn hp (thn h4 fun _ s5 ⟨x, H5, I5, r5, y5, st5, fr5⟩ => ?_)
  have I5' := I5.pinned (stat fr5) (T.obj _ _ st5)
  refine wpAny_passesOwn hp (thn (hg _ s5 σ3 H5 x u _ I5' r5 (step x H5 y5)) fun _ s6 ⟨σ6, H6, I6, q6⟩ => ?_)
  refine wpAny_passesOwn hp (thn (hb _ s6 σ6 H6 _ I6 q6) fun f s7 q7 => ?_)
  have again : ∀ {σ7 : St} {H7 : Hp}, Inv X (pins ++ pinsAt fp s5.heap) σ7 H7 s7 -> N σ7 H7 -> ∃ m, m < n /\ ∃ i σ' H', Inv X pins σ' H' s7 /\ tn i s7.heap /\ (∀ b ∈ fp, H' b = none) /\ W i m σ' H' := fun {σ7 H7} I7 n7 => by
   obtain ⟨m', hm, w7⟩ := hN σ7 H7 n7
   refine ⟨m', hm, i + 1, σ7, H7, I7.unpinned, T.keep _ _ _ st5 fun b hb o e => (I7.pin (b, o) (List.mem_append_right _ (List.mem_append_right _ (mem_pinsAt hb e)))).1, fun b hb => ?_, w7⟩
   obtain ⟨o, e, d⟩ := T.obj _ _ st5 b hb
   exact (I7.pin (b, o) (List.mem_append_right _ (List.mem_append_right _ (mem_pinsAt hb e)))).2.1
  cases f with
  | next => obtain ⟨σ7, H7, I7, n7⟩ := q7; exact again I7 n7
  | cont => obtain ⟨σ7, H7, I7, n7⟩ := q7; exact again I7 n7
  | brk => obtain ⟨σ7, H7, I7, q7⟩ := q7; exact ⟨σ7, H7, I7.unpinned, q7⟩
  | ret v => obtain ⟨x7, σ7, H7, I7, r7, q7⟩ := q7; exact ⟨x7, σ7, H7, I7.unpinned, r7, q7⟩
end
theorem for_list {K : Fg} {a : Addr} {xs : List V} {g : TG} {tb : TS} {D : Ends} {σ : St} {H : Hp} (Pv : Nat -> St -> Hp -> Prop) (h0 : Pv 0 σ H) (hl : ∀ i σ H, i ≤ xs.length -> Pv i σ H -> SqL K H a xs)
  (hs : ∀ i x σ H, xs[i]? = some x -> Pv i σ H -> g x σ H fun σ2 H2 => tb { D with nx := Pv (i + 1), ct := Pv (i + 1), bk := D.nx } σ2 H2) (hd : ∀ σ H, Pv xs.length σ H -> D.nx σ H) :
  ∃ W : Nat -> Nat -> St -> Hp -> Prop, (∃ m, W 0 m σ H) /\ ∀ i m σ H, W i m σ H →
   ((Itl K a).stop i H /\ D.nx σ H) ∨ ((Itl K a).go i H /\ ∃ N : St -> Hp -> Prop, (∀ σ' H', N σ' H' -> ∃ m', m' < m /\ W (i + 1) m' σ' H') /\ ∀ x H', (Itl K a).yld i H x H' -> g x σ H' fun σ2 H2 => tb { D with nx := N, ct := N, bk := D.nx } σ2 H2) := by
 refine ⟨fun i m σ H => m = xs.length - i /\ i ≤ xs.length /\ Pv i σ H, ⟨xs.length, by simp, Nat.zero_le _, h0⟩, ?_⟩
 rintro i m σ H ⟨rfl, hi, p⟩
 have q := hl i σ H hi p
 by_cases hlt : i < xs.length
 ·refine .inr ⟨⟨xs, xs[i], q, by simp [hlt]⟩, Pv (i + 1), fun σ' H' p' => ⟨xs.length - (i + 1), by omega, rfl, hlt, p'⟩, fun x H' y => ?_⟩
  obtain ⟨e, y⟩ := y
  subst e
  exact hs i x σ _ (y xs q) p
 ·have e : i = xs.length := by omega
  subst e
  exact .inl ⟨⟨xs, q, Nat.le_refl _⟩, hd σ H p⟩
theorem for_tup {K : Fg} {a : Addr} {xs : List V} {g : TG} {tb : TS} {D : Ends} {σ : St} {H : Hp} (Pv : Nat -> St -> Hp -> Prop) (h0 : Pv 0 σ H) (hl : ∀ i σ H, i ≤ xs.length -> Pv i σ H -> SqT K H a xs)
  (hs : ∀ i x σ H, xs[i]? = some x -> Pv i σ H -> g x σ H fun σ2 H2 => tb { D with nx := Pv (i + 1), ct := Pv (i + 1), bk := D.nx } σ2 H2) (hd : ∀ σ H, Pv xs.length σ H -> D.nx σ H) :
  ∃ W : Nat -> Nat -> St -> Hp -> Prop, (∃ m, W 0 m σ H) /\ ∀ i m σ H, W i m σ H →
   ((Itt K a).stop i H /\ D.nx σ H) ∨ ((Itt K a).go i H /\ ∃ N : St -> Hp -> Prop, (∀ σ' H', N σ' H' -> ∃ m', m' < m /\ W (i + 1) m' σ' H') /\ ∀ x H', (Itt K a).yld i H x H' -> g x σ H' fun σ2 H2 => tb { D with nx := N, ct := N, bk := D.nx } σ2 H2) := by
 refine ⟨fun i m σ H => m = xs.length - i /\ i ≤ xs.length /\ Pv i σ H, ⟨xs.length, by simp, Nat.zero_le _, h0⟩, ?_⟩
 rintro i m σ H ⟨rfl, hi, p⟩
 have q := hl i σ H hi p
 by_cases hlt : i < xs.length
 ·refine .inr ⟨⟨xs, xs[i], q, by simp [hlt]⟩, Pv (i + 1), fun σ' H' p' => ⟨xs.length - (i + 1), by omega, rfl, hlt, p'⟩, fun x H' y => ?_⟩
  obtain ⟨e, y⟩ := y
  subst e
  exact hs i x σ _ (y xs q) p
 ·have e : i = xs.length := by omega
  subst e
  exact .inl ⟨⟨xs, q, Nat.le_refl _⟩, hd σ H p⟩
theorem for_range {lo : Int} {n : Nat} {g : TG} {tb : TS} {D : Ends} {σ : St} {H : Hp} (Pv : Nat -> St -> Hp -> Prop) (h0 : Pv 0 σ H)
  (hs : ∀ i σ H, i < n -> Pv i σ H -> g (.int (lo + i)) σ H fun σ2 H2 => tb { D with nx := Pv (i + 1), ct := Pv (i + 1), bk := D.nx } σ2 H2) (hd : ∀ σ H, Pv n σ H -> D.nx σ H) :
  ∃ W : Nat -> Nat -> St -> Hp -> Prop, (∃ m, W 0 m σ H) /\ ∀ i m σ H, W i m σ H →
   ((Itr lo n).stop i H /\ D.nx σ H) ∨ ((Itr lo n).go i H /\ ∃ N : St -> Hp -> Prop, (∀ σ' H', N σ' H' -> ∃ m', m' < m /\ W (i + 1) m' σ' H') /\ ∀ x H', (Itr lo n).yld i H x H' -> g x σ H' fun σ2 H2 => tb { D with nx := N, ct := N, bk := D.nx } σ2 H2) := by
 refine ⟨fun i m σ H => m = n - i /\ i ≤ n /\ Pv i σ H, ⟨n, by simp, Nat.zero_le _, h0⟩, ?_⟩
 rintro i m σ H ⟨rfl, hi, p⟩
 by_cases hlt : i < n
 ·refine .inr ⟨hlt, Pv (i + 1), fun σ' H' p' => ⟨n - (i + 1), by omega, rfl, hlt, p'⟩, fun x H' y => ?_⟩
  obtain ⟨e, y⟩ := y
  subst e y
  exact hs i σ _ hlt p
 ·have e : i = n := by omega
  subst e
  exact .inl ⟨Nat.le_refl _, hd σ H p⟩
end L2
namespace L2
open PySem PySem.Spec PyProof.Rows
abbrev R2 := V -> V -> Hp -> VK -> Prop
def OpR (X : Cx) (f : Value -> Value -> Sem Value) (r : R2) : Prop :=
 ∀ (pins : PLs) (s : Shared) (σ : St) (H : Hp) (x y : V) (v u : Value) (Q : VK), Inv X pins σ H s -> RelV x v -> RelV y u -> r x y H Q →
  wpAny (model X.prog X.w) X.A (f v u) (EP X pins σ Q) X.xe s
def UnR (X : Cx) (f : Value -> Sem Value) (r : V -> Hp -> VK -> Prop) : Prop :=
 ∀ (pins : PLs) (s : Shared) (σ : St) (H : Hp) (x : V) (v : Value) (Q : VK), Inv X pins σ H s -> RelV x v -> r x H Q →
  wpAny (model X.prog X.w) X.A (f v) (EP X pins σ Q) X.xe s
def CallR (X : Cx) (f : Value) (r : List V -> Hp -> VK -> Prop) : Prop :=
 ∀ (pins : PLs) (s : Shared) (σ : St) (H : Hp) (xs : List V) (us : List Value) (Q : VK), Inv X pins σ H s -> Vals xs us -> r xs H Q →
  wpAny (model X.prog X.w) X.A (call f us) (EP X pins σ Q) X.xe s
def TruR (X : Cx) (r : V -> Hp -> (Bool -> Hp -> Prop) -> Prop) : Prop :=
 ∀ (pins : PLs) (s : Shared) (σ : St) (H : Hp) (x : V) (v : Value) (Q : Bool -> Hp -> Prop), Inv X pins σ H s -> RelV x v -> r x H Q →
  wpAny (model X.prog X.w) X.A (truthy v) (TP X pins σ Q) X.xe s
def tOp (r : R2) (ta tb : TE) : TE := fun σ H Q => ta σ H fun x H1 => tb σ H1 fun y H2 => r x y H2 Q
def tUn (r : V -> Hp -> VK -> Prop) (ta : TE) : TE := fun σ H Q => ta σ H fun x H1 => r x H1 Q
def rI (C : Int -> Int -> Prop) (g : Int -> Int -> V) : R2 := fun x y H Q => ∃ i j, x = .int i /\ y = .int j /\ C i j /\ Q (g i j) H
def rI0 (g : Int -> Int -> V) : R2 := fun x y H Q => ∃ i j, x = .int i /\ y = .int j /\ Q (g i j) H
def rU (g : Int -> V) : V -> Hp -> VK -> Prop := fun x H Q => ∃ i, x = .int i /\ Q (g i) H
section
variable {X : Cx} {a b c : Expr} {ta tb tc : TE} {pos : Pos}
theorem binT (ha : PE X a ta) (hb : PE X b tb) {pins : PLs} {s : Shared} {σ : St} {H : Hp} {R : V -> V -> Hp -> Prop} (I : Inv X pins σ H s)
  (h : ta σ H fun x H1 => tb σ H1 fun y H2 => R x y H2) {Q : VSP} {f : Value -> Value -> Sem Value}
  (hf : ∀ v u s2 x y H2, Inv X pins σ H2 s2 -> RelV x v -> RelV y u -> R x y H2 -> wpAny (model X.prog X.w) X.A (f v u) Q X.xe s2) :
  wpAny (model X.prog X.w) X.A (eval a X.env) (fun v s₁ => wpAny (model X.prog X.w) X.A (eval b X.env) (fun u s₂ => wpAny (model X.prog X.w) X.A (f v u) Q X.xe s₂) X.xe s₁) X.xe s := by
 refine thn (ha pins s σ H _ I h) fun v s1 ⟨x, H1, I1, r1, q1⟩ => ?_
 refine thn (hb pins s1 σ H1 _ I1 q1) fun u s2 ⟨y, H2, I2, r2, q2⟩ => ?_
 exact hf v u s2 x y H2 I2 r1 r2 q2
theorem pe_op {op : Operator} {r : R2} (ho : OpR X (binaryOp op) r) (ha : PE X a ta) (hb : PE X b tb) : PE X (.BinOp a op b pos) (tOp r ta tb) := by
 intro pins s σ H Q I h
 exact wpAny_BinOp (binT ha hb I h fun v u s2 x y H2 I2 rx ry q => ho pins s2 σ H2 x y v u Q I2 rx ry q)
theorem pe_un {op : UnaryOp} {r : V -> Hp -> VK -> Prop} (ho : UnR X (unaryOp op) r) (ha : PE X a ta) : PE X (.UnaryOp op a pos) (tUn r ta) := by
 intro pins s σ H Q I h
 exact UnaryOp_ (thn (ha pins s σ H _ I h) fun v s1 ⟨x, H1, I1, r1, q1⟩ => ho pins s1 σ H1 x v Q I1 r1 q1)
theorem opI {f : Value -> Value -> Sem Value} {C : Int -> Int -> Prop} {g : Int -> Int -> Int}
  (rule : ∀ (i j : Int) (t u : Tok) (s : Shared) (Q : VSP) (E : VSP), C i j -> Q (.int (g i j) s.toks) { s with toks := s.toks + 1 } -> wpAny (model X.prog X.w) X.A (f (.int i t) (.int j u)) Q E s) :
  OpR X f (rI C fun i j => .int (g i j)) := by
 intro pins s σ H x y v u Q I rx ry h
 obtain ⟨i, j, rfl, rfl, hc, q⟩ := h
 obtain ⟨t, rfl⟩ := rx
 obtain ⟨t', rfl⟩ := ry
 exact rule i j t t' s _ _ hc ⟨.int (g i j), H, I.tok _, ⟨_, rfl⟩, q⟩
theorem opI0 {f : Value -> Value -> Sem Value} {g : Int -> Int -> Int}
  (rule : ∀ (i j : Int) (t u : Tok) (s : Shared) (Q : VSP) (E : VSP), Q (.int (g i j) s.toks) { s with toks := s.toks + 1 } -> wpAny (model X.prog X.w) X.A (f (.int i t) (.int j u)) Q E s) :
  OpR X f (rI0 fun i j => .int (g i j)) := by
 intro pins s σ H x y v u Q I rx ry h
 obtain ⟨i, j, rfl, rfl, q⟩ := h
 obtain ⟨t, rfl⟩ := rx
 obtain ⟨t', rfl⟩ := ry
 exact rule i j t t' s _ _ ⟨.int (g i j), H, I.tok _, ⟨_, rfl⟩, q⟩
theorem opB0 {f : Value -> Value -> Sem Value} {g : Int -> Int -> Bool}
  (rule : ∀ (i j : Int) (t u : Tok) (s : Shared) (Q : VSP) (E : VSP), Q (.bool (g i j)) s -> wpAny (model X.prog X.w) X.A (f (.int i t) (.int j u)) Q E s) :
  OpR X f (rI0 fun i j => .bl (g i j)) := by
 intro pins s σ H x y v u Q I rx ry h
 obtain ⟨i, j, rfl, rfl, q⟩ := h
 obtain ⟨t, rfl⟩ := rx
 obtain ⟨t', rfl⟩ := ry
 exact rule i j t t' s _ _ ⟨.bl (g i j), H, I, rfl, q⟩
def CDiv (i j : Int) : Prop := 0 < j /\ j < 1073741824
def CDivN (i j : Int) : Prop := j ≠ 0 /\ j.natAbs < 1073741824
def CPow (i j : Int) : Prop := 0 ≤ j /\ j ≤ 1000000 /\ i.natAbs < 2 ^ 64
def CMul (i j : Int) : Prop := (-(2 ^ 64) < i /\ i < 2 ^ 64) ∨ (-(2 ^ 64) < j /\ j < 2 ^ 64)
theorem CMul.ok {i j : Int} (h : CMul i j) : IntMulOk i j := by
 rcases h with ⟨h1, h2⟩ | ⟨h1, h2⟩
 ·exact .of_left (intBits_le_64 h1 h2)
 ·exact .of_right (intBits_le_64 h1 h2)
theorem op_add : OpR X (binaryOp .Add) (rI0 fun i j => .int (i + j)) := opI0 fun _ _ _ _ _ _ _ q => add_int q
theorem op_mul : OpR X (binaryOp .Mult) (rI CMul fun i j => .int (i * j)) := opI fun _ _ _ _ _ _ _ hc q => mul_int q hc.ok
theorem op_fdiv : OpR X (binaryOp .FloorDiv) (rI CDiv fun i j => .int (i / j)) := opI fun i j _ _ _ _ _ hc q => by
 have h1 : (0 : Int) < j := hc.1
 have h2 : j < 1073741824 := hc.2
 exact floordiv_int (by omega) (by rw [Int.fdiv_eq_ediv_of_nonneg i (by omega)]; exact q) (.inl (PyProof.noPylong_small (by omega)))
theorem op_mod : OpR X (binaryOp .Mod) (rI (fun _ j => 0 < j) fun i j => .int (i % j)) := opI fun i j _ _ _ _ _ hc q => by
 have h1 : (0 : Int) < j := hc
 exact mod_int' (by omega) (by rw [Int.fmod_eq_emod_of_nonneg i (by omega)]; exact q)
theorem op_pow : OpR X (binaryOp .Pow) (rI CPow fun i j => .int (i ^ j.toNat)) := opI fun _ _ _ _ _ _ _ hc q => pow_int_small hc.1 hc.2.1 hc.2.2 q
theorem unI {f : Value -> Sem Value} {g : Int -> Int}
  (rule : ∀ (i : Int) (t : Tok) (s : Shared) (Q : VSP) (E : VSP), Q (.int (g i) s.toks) { s with toks := s.toks + 1 } -> wpAny (model X.prog X.w) X.A (f (.int i t)) Q E s) :
  UnR X f (rU fun i => .int (g i)) := by
 intro pins s σ H x v Q I rx h
 obtain ⟨i, rfl, q⟩ := h
 obtain ⟨t, rfl⟩ := rx
 exact rule i t s _ _ ⟨.int (g i), H, I.tok _, ⟨_, rfl⟩, q⟩
theorem un_neg : UnR X (unaryOp .USub) (rU fun i => .int (-i)) := unI fun _ _ _ _ _ q => neg_int q
end
def scal : V -> V -> Bool
 | .non, .non => true | .non, .int _ => true | .int _, .non => true | .non, .bl _ => true | .bl _, .non => true | .non, .str _ => true | .str _, .non => true
 | .int _, .int _ => true | .bl _, .bl _ => true | .str _, .str _ => true | .byt _, .byt _ => true
 | .int _, .str _ => true | .str _, .int _ => true | .bl _, .str _ => true | .str _, .bl _ => true
 | _, _ => false
def rEq : R2 := fun x y H Q => scal x y = true /\ Q (.bl (decide (x = y))) H
def rNe : R2 := fun x y H Q => scal x y = true /\ Q (.bl (!decide (x = y))) H
theorem dec_int {i j : Int} : decide (V.int i = V.int j) = (i == j) := by
 rw [Bool.eq_iff_iff]
 simp
theorem dec_bl {i j : Bool} : decide (V.bl i = V.bl j) = (i == j) := by
 rw [Bool.eq_iff_iff]
 simp
theorem dec_str {i j : Str} : decide (V.str i = V.str j) = (i == j) := by
 rw [Bool.eq_iff_iff]
 simp
theorem dec_byt {i j : Array UInt8} : decide (V.byt i = V.byt j) = (i.toList == j.toList) := by
 rw [Bool.eq_iff_iff]
 cases i
 cases j
 simp
section
variable {X : Cx} {a b c : Expr} {ta tb tc : TE} {pos : Pos}
theorem fin_bl {pins : PLs} {σ : St} {H : Hp} {s : Shared} {Q : VK} {k k' : Bool} (I : Inv X pins σ H s) (q : Q (.bl k) H) (e : k = k') : EP X pins σ Q (.bool k') s := by
 subst e
 exact ⟨.bl k, H, I, rfl, q⟩
theorem op_eq : OpR X (compareOp .Eq) rEq := by
 intro pins s σ H x y v u Q I rx ry h
 obtain ⟨hs, q⟩ := h
 cases x with
 | non =>
  cases rx
  cases y with
  | non => cases ry; exact PySem.EqNone.eq_none_none (fin_bl I q (by simp))
  | bl j => cases ry; exact PySem.EqNone.eq_none_bool (fin_bl I q (by simp))
  | int j => obtain ⟨t', rfl⟩ := ry; exact PySem.EqNone.eq_none_int (fin_bl I q (by simp))
  | str j => obtain ⟨t', rfl⟩ := ry; exact PySem.EqNone.eq_none_str (fin_bl I q (by simp))
  | _ => exact absurd (show false = true from hs) Bool.false_ne_true
 | bl i =>
  cases rx
  cases y with
  | non => cases ry; exact PySem.EqNone.eq_bool_none (fin_bl I q (by simp))
  | bl j => cases ry; exact eq_bool (fin_bl I q dec_bl)
  | str j => obtain ⟨t', rfl⟩ := ry; exact PySem.EqMixed.eq_bool_str (fin_bl I q (by simp))
  | _ => exact absurd (show false = true from hs) Bool.false_ne_true
 | int i =>
  obtain ⟨t, rfl⟩ := rx
  cases y with
  | non => cases ry; exact PySem.EqNone.eq_int_none (fin_bl I q (by simp))
  | int j => obtain ⟨t', rfl⟩ := ry; exact eq_int (fin_bl I q dec_int)
  | str j => obtain ⟨t', rfl⟩ := ry; exact PySem.EqMixed.eq_int_str (fin_bl I q (by simp))
  | _ => exact absurd (show false = true from hs) Bool.false_ne_true
 | str i =>
  obtain ⟨t, rfl⟩ := rx
  cases y with
  | non => cases ry; exact PySem.EqNone.eq_str_none (fin_bl I q (by simp))
  | bl j => cases ry; exact PySem.EqMixed.eq_str_bool (fin_bl I q (by simp))
  | int j => obtain ⟨t', rfl⟩ := ry; exact PySem.EqMixed.eq_str_int (fin_bl I q (by simp))
  | str j => obtain ⟨t', rfl⟩ := ry; exact eq_str (fin_bl I q dec_str)
  | _ => exact absurd (show false = true from hs) Bool.false_ne_true
 | byt i =>
  obtain ⟨t, rfl⟩ := rx
  cases y with
  | byt j => obtain ⟨t', rfl⟩ := ry; exact PySem.W.eq_bytes (fin_bl I q dec_byt)
  | _ => exact absurd (show false = true from hs) Bool.false_ne_true
 | _ => cases y <;> exact absurd (show false = true from hs) Bool.false_ne_true
theorem op_ne : OpR X (compareOp .NotEq) rNe := by
 intro pins s σ H x y v u Q I rx ry h
 obtain ⟨hs, q⟩ := h
 cases x with
 | non =>
  cases rx
  cases y with
  | non => cases ry; exact PySem.EqNone.ne_none_none (fin_bl I q (by simp))
  | bl j => cases ry; exact PySem.EqNone.ne_none_bool (fin_bl I q (by simp))
  | int j => obtain ⟨t', rfl⟩ := ry; exact PySem.EqNone.ne_none_int (fin_bl I q (by simp))
  | str j => obtain ⟨t', rfl⟩ := ry; exact PySem.EqNone.ne_none_str (fin_bl I q (by simp))
  | _ => exact absurd (show false = true from hs) Bool.false_ne_true
 | bl i =>
  cases rx
  cases y with
  | non => cases ry; exact PySem.EqNone.ne_bool_none (fin_bl I q (by simp))
  | bl j => cases ry; exact ne_bool (fin_bl I q (congrArg not dec_bl))
  | str j => obtain ⟨t', rfl⟩ := ry; exact PySem.EqMixed.ne_bool_str (fin_bl I q (by simp))
  | _ => exact absurd (show false = true from hs) Bool.false_ne_true
 | int i =>
  obtain ⟨t, rfl⟩ := rx
  cases y with
  | non => cases ry; exact PySem.EqNone.ne_int_none (fin_bl I q (by simp))
  | int j => obtain ⟨t', rfl⟩ := ry; exact ne_int (fin_bl I q (congrArg not dec_int))
  | str j => obtain ⟨t', rfl⟩ := ry; exact PySem.EqMixed.ne_int_str (fin_bl I q (by simp))
  | _ => exact absurd (show false = true from hs) Bool.false_ne_true
 | str i =>
  obtain ⟨t, rfl⟩ := rx
  cases y with
  | non => cases ry; exact PySem.EqNone.ne_str_none (fin_bl I q (by simp))
  | bl j => cases ry; exact PySem.EqMixed.ne_str_bool (fin_bl I q (by simp))
  | int j => obtain ⟨t', rfl⟩ := ry; exact PySem.EqMixed.ne_str_int (fin_bl I q (by simp))
  | str j => obtain ⟨t', rfl⟩ := ry; exact ne_str (fin_bl I q (congrArg not dec_str))
  | _ => exact absurd (show false = true from hs) Bool.false_ne_true
 | byt i =>
  obtain ⟨t, rfl⟩ := rx
  cases y with
  | byt j => obtain ⟨t', rfl⟩ := ry; exact PySem.W.ne_bytes (fin_bl I q (congrArg not dec_byt))
  | _ => exact absurd (show false = true from hs) Bool.false_ne_true
 | _ => cases y <;> exact absurd (show false = true from hs) Bool.false_ne_true
theorem op_lt : OpR X (compareOp .Lt) (rI0 fun i j => .bl (decide (i < j))) := opB0 fun _ _ _ _ _ _ _ q => lt_int q
theorem op_le : OpR X (compareOp .LtE) (rI0 fun i j => .bl (decide (i ≤ j))) := opB0 fun _ _ _ _ _ _ _ q => le_int q
theorem op_gt : OpR X (compareOp .Gt) (rI0 fun i j => .bl (decide (j < i))) := opB0 fun _ _ _ _ _ _ _ q => gt_int q
theorem op_ge : OpR X (compareOp .GtE) (rI0 fun i j => .bl (decide (j ≤ i))) := opB0 fun _ _ _ _ _ _ _ q => ge_int q
theorem op_in_str : OpR X (compareOp .In) (fun x y H Q => ∃ i j, x = .str i /\ y = .str j /\ Q (.bl (!(Builtin.Str.occurrences j i 0 j.length 1).isEmpty)) H) := by
 intro pins s σ H x y v u Q I rx ry h
 obtain ⟨i, j, rfl, rfl, q⟩ := h
 obtain ⟨t, rfl⟩ := rx
 obtain ⟨t', rfl⟩ := ry
 exact in_str (fin_bl I q rfl)
theorem op_isN : OpR X (compareOp .Is) (fun x y H Q => y = .non /\ Q (.bl (decide (x = .non))) H) := by
 intro pins s σ H x y v u Q I rx ry h
 obtain ⟨rfl, q⟩ := h
 cases ry
 refine is_none_gen (fin_bl I q ?_)
 cases x <;> first
  | (cases rx; rfl)
  | (obtain ⟨t, rfl⟩ := rx; rfl)
theorem op_notN : OpR X (compareOp .IsNot) (fun x y H Q => y = .non /\ Q (.bl (!decide (x = .non))) H) := by
 intro pins s σ H x y v u Q I rx ry h
 obtain ⟨rfl, q⟩ := h
 cases ry
 refine isnot_none_gen (fin_bl I q ?_)
 cases x <;> first
  | (cases rx; rfl)
  | (obtain ⟨t, rfl⟩ := rx; rfl)
def isObj : HO -> Bool
 | .lst _ => true
 | .ins _ _ _ => true
 | _ => false
theorem nomark (b : Expr) {op : CmpOp} (h : op ≠ .In := by decide) (h2 : op ≠ .NotIn := by decide) : behindInMarks op b = false := by
 have e1 : (op == CmpOp.In) = false := by cases op <;> first | rfl | exact absurd rfl h
 have e2 : (op == CmpOp.NotIn) = false := by cases op <;> first | rfl | exact absurd rfl h2
 cases b <;> simp [behindInMarks, e1, e2]
theorem pe_cmpR {op : CmpOp} {r : R2} (ho : OpR X (compareOp op) r) (ha : PE X a ta) (hb : PE X b tb) (hm : behindInMarks op b = false) : PE X (.Compare a [op] [b] pos) (tOp r ta tb) := by
 intro pins s σ H Q I h
 exact wpAny_Compare1 (binT ha hb I h fun v u s2 x y H2 I2 rx ry q => ho pins s2 σ H2 x y v u Q I2 rx ry q) hm
def tTest (t : TE) : TT := fun σ H Q => t σ H fun x H' => ∃ k, x = .bl k /\ Q k H'
theorem pt_cmpR {op : CmpOp} {r : R2} (ho : OpR X (compareOp op) r) (ha : PE X a ta) (hb : PE X b tb) (hm : behindInMarks op b = false) : PT X (.Compare a [op] [b] pos) (tTest (tOp r ta tb)) := by
 intro pins s σ H Q I h
 refine wpAny_isTrue_Compare1 (thn (ha pins s σ H _ I h) fun v s1 ⟨x, H1, I1, r1, q1⟩ => thn (hb pins s1 σ H1 _ I1 q1) fun u s2 ⟨y, H2, I2, r2, q2⟩ =>
  thn (ho pins s2 σ H2 x y v u _ I2 r1 r2 q2) fun c s3 ⟨z, H3, I3, r3, k, e, q3⟩ => ?_) hm
 subst e
 cases r3
 exact wpAny_truthy_bool ⟨H3, I3, q3⟩
def tChain (r r' : R2) (ta tb tc : TE) : TE := fun σ H Q => ta σ H fun x H1 => tb σ H1 fun y H2 => r x y H2 fun z H3 => ∃ k, z = .bl k ∧
 (if k = true then tc σ H3 fun w' H4 => r' y w' H4 Q else Q (.bl false) H3)
theorem pt_chain {op op' : CmpOp} {r r' : R2} (ho : OpR X (compareOp op) r) (ho' : OpR X (compareOp op') r') (ha : PE X a ta) (hb : PE X b tb) (hc : PE X c tc)
  (hm : lastMarks [op, op'] [b, c] = false := by with_unfolding_all rfl) : PT X (.Compare a [op, op'] [b, c] pos) (tTest (tChain r r' ta tb tc)) := by
 intro pins s σ H Q I h
 refine isTrue_chain (thn (ha pins s σ H _ I h) fun v s1 ⟨x, H1, I1, r1, q1⟩ => test_link (thn (hb pins s1 σ H1 _ I1 q1) fun u s2 ⟨y, H2, I2, r2, q2⟩ =>
  thn (ho pins s2 σ H2 x y v u _ I2 r1 r2 q2) fun d s3 ⟨z, H3, I3, r3, k, e, q3⟩ => ?_)) hm
 subst e
 cases r3
 refine wpAny_truthy_bool ?_
 cases k with
 | false =>
  obtain ⟨k', e', q'⟩ := q3
  cases e'
  exact ite_ff ⟨H3, I3, q'⟩
 | true =>
  refine ite_tt (test_last (thn (hc pins s3 σ H3 _ I3 q3) fun w' s4 ⟨z', H4, I4, r4, q4⟩ => thn (ho' pins s4 σ H4 y z' u w' _ I4 r2 r4 q4) fun d' s5 ⟨z2, H5, I5, r5, k2, e2, q5⟩ => ?_))
  subst e2
  cases r5
  exact wpAny_truthy_bool ⟨H5, I5, q5⟩
def TruV (K : Fg) (x : V) (H : Hp) (k : Bool) : Prop :=
 match x with
 | .non => k = false
 | .bl b => k = b
 | .int i => k = (i != 0)
 | .str y => y.length ≤ sizeLine /\ k = ((y.length : Int) != 0)
 | .byt y => y.size ≤ sizeLine /\ k = ((y.size : Int) != 0)
 | .ref p => (∃ xs, SqL K H p xs /\ k = !xs.isEmpty) ∨ (∃ xs, SqT K H p xs /\ k = !xs.isEmpty) ∨ ∃ kvs, H p = some (.dK kvs) /\ k = !kvs.isEmpty
 | _ => False
theorem line63 : (sizeLine : Nat) < 2 ^ 63 := by rw [sizeLine_eq]; decide
theorem op_add_str : OpR X (binaryOp .Add) (fun x y H Q => ∃ i j, x = .str i /\ y = .str j /\ i.length + j.length ≤ sizeLine /\ Q (.str (i ++ j)) H) := by
 intro pins s σ H x y v u Q I rx ry h
 obtain ⟨i, j, rfl, rfl, hz, q⟩ := h
 obtain ⟨t, rfl⟩ := rx
 obtain ⟨t', rfl⟩ := ry
 exact add_str (fun t' tk => ⟨.str (i ++ j), H, I.tok _, ⟨_, rfl⟩, q⟩) hz
def PlainIxT (b : Expr) : Prop := ∀ o i, subscripted b false o i = operate [o, i] (getItem o i)
theorem vals1 {x : V} {us : List Value} (r : Vals [x] us) : ∃ u, us = [u] /\ RelV x u := by
 cases r with
 | cons r1 r2 => cases r2; exact ⟨_, rfl, r1⟩
theorem vals2 {x y : V} {us : List Value} (r : Vals [x, y] us) : ∃ u w', us = [u, w'] /\ RelV x u /\ RelV y w' := by
 cases r with
 | cons r1 r2 =>
  cases r2 with
  | cons r3 r4 => cases r4; exact ⟨_, _, rfl, r1, r3⟩
theorem call_abs : CallR X (.builtin "abs") (fun xs H Q => ∃ i, xs = [.int i] /\ Q (.int (if i < 0 then -i else i)) H) := by
 intro pins s σ H xs us Q I r h
 obtain ⟨i, rfl, q⟩ := h
 obtain ⟨u, rfl, t, rfl⟩ := vals1 r
 exact call_abs_int fun u tk => ⟨.int (if i < 0 then -i else i), H, I.tok _, ⟨_, rfl⟩, q⟩
theorem call_str_int : CallR X (.type "str") (fun xs H Q => ∃ i, xs = [.int i] /\ i.natAbs.log2 < 1920 /\ Q (.str (toString i)) H) := by
 intro pins s σ H xs us Q I r h
 obtain ⟨i, rfl, hz, q⟩ := h
 obtain ⟨u, rfl, t, rfl⟩ := vals1 r
 exact PySem.P.str_of_int hz ⟨.str _, H, I.tok _, ⟨_, rfl⟩, q⟩
def LenV (K : Fg) (x : V) (H : Hp) (n : Nat) : Prop :=
 match x with
 | .str y => y.length ≤ sizeLine /\ n = y.length
 | .byt y => y.size ≤ sizeLine /\ n = y.size
 | .ref p => (∃ xs, SqL K H p xs /\ n = xs.length) ∨ ∃ xs, SqT K H p xs /\ n = xs.length
 | _ => False
end
end L2
namespace L2
open PySem PySem.Spec PyProof.Rows
structure ObjM (h : Heap) (x dx C : Addr) (mA : Str -> Option Value) : Prop where
 obj : h.get? x = some (PySem.W.instObj C dx)
 ns : h.Ns1 dx mA
 ne : dx ≠ x
theorem lookIn_ns {h : Heap} {dx : Addr} {mA : Str -> Option Value} (n : h.Ns1 dx mA) : ∃ od, h.get? dx = some od /\ ∀ name, PySem.W.lookIn name od = some (mA name) := by
 obtain ⟨o, es, ep, ho, hd, hk, _, hm⟩ := n
 refine ⟨o, ho, fun name => ?_⟩
 have e := hm name
 unfold nsFind findBy at e
 rw [← Array.find?_toList] at e
 unfold PySem.W.lookIn
 rw [hd]
 dsimp only
 split
 ·rename_i y q
  rw [q] at e
  exact congrArg some e
 ·rename_i q
  rw [q] at e
  have a : es.toList.any (·.refKey) = false := by
   rw [List.any_eq_false]
   intro y hy
   obtain ⟨z, t, hkey⟩ := hk y (Array.mem_toList_iff.mp hy)
   simp [DictEntry.refKey, hkey]
  have a' : ¬ es.toList.any (·.refKey) = true := by rw [a]; exact Bool.false_ne_true
  rw [if_neg a']
  exact congrArg some e
theorem ObjM.look {h : Heap} {x dx C : Addr} {mA : Str -> Option Value} (I : ObjM h x dx C mA) : ∃ od, PySem.W.InstAt h x (PySem.W.instObj C dx) C (some od) /\ ∀ name, PySem.W.lookIn name od = some (mA name) :=
 let ⟨od, ho, hl⟩ := lookIn_ns I.ns
 ⟨od, ⟨I.obj, rfl, rfl, ho⟩, hl⟩
section
variable {prog : Program} {w : World} {A : Around} {E : VSP} {s : Shared} {K : Fg} {x dx C f : Addr} {mA : Str -> Option Value} {name : Str} {v : Value}
end
def putF (f : Str) (v : V) : List (Str × V) -> List (Str × V)
 | [] => [(f, v)]
 | (g, x) :: r => if g = f then (g, v) :: r else (g, x) :: putF f v r
section
variable {P : Program} {w : World} {H H' : Hp} {h h' : Heap} {a C dx : Addr} {fs fs' : List (Str × V)}
theorem ins_get (hok : HOk P w H h) (e : H a = some (.ins C dx fs)) : ∃ mA, ObjM h a dx C mA /\ (∀ f, RelO (fs.lookup f) (mA f)) /\ PySem.Within mA (fs.map (·.1)) /\ fs.length ≤ 1000 /\ H dx = some (.own a) := by
 obtain ⟨d, z, ne, ob, mA, n, r, q⟩ := (show ObjOk P w H h a (.ins C dx fs) from hok a _ e)
 exact ⟨mA, ⟨ob, n, ne⟩, r, q, z, d⟩
end
structure Cls (K : Fg) (C : Addr) : Prop where
 pg : PySem.W.plainGet K C Str.empty = true
 hd : PySem.W.hasDictIn K C = true
 po : PySem.W.plainOver K C = true
 sa : PySem.W.findIn K (.ref C) "__setattr__" = some (some (.builtin "object.__setattr__"))
theorem Cls.get {K : Fg} {C : Addr} (c : Cls K C) (f : Str) : PySem.W.plainGet K C f = true := c.pg
def NoAttr (K : Fg) (C : Addr) (f : Str) : Prop := PySem.W.findIn K (.ref C) f = some none
structure Con (K : Fg) (C : Addr) (f : Str) (v : V) (u : Value) : Prop where
 at_ : PySem.W.findIn K (.ref C) f = some (some u)
 rel : RelV v u
 get : PySem.W.specialIn K u "__get__" = some none
 cp : PySem.W.copiedNames.contains f = false
structure Meth (K : Fg) (C : Addr) (m : Str) (f : Addr) : Prop where
 at_ : PySem.W.findIn K (.ref C) m = some (some (.ref f))
 fn : PySem.W.isFn K (.ref f) = true
 kp : PySem.W.keepIn K (.ref f) = true
section
variable {X : Cx} {pins : PLs} {σ : St} {H : Hp} {s : Shared} {a C dx : Addr} {fs : List (Str × V)} {f : Str} {v : V} {A : Around} {E : VSP}
end
def tFld (K : Fg) (ta : TE) (f : Str) : TE := fun σ H Q => ta σ H fun x H1 => ∃ a C dx fs v, x = .ref a /\ H1 a = some (.ins C dx fs) /\ Cls K C /\ NoAttr K C f /\ fs.lookup f = some v /\ Q v H1
def tCon (K : Fg) (ta : TE) (f : Str) : TE := fun σ H Q => ta σ H fun x H1 => ∃ a C dx fs v u, x = .ref a /\ H1 a = some (.ins C dx fs) /\ Cls K C /\ Con K C f v u /\ fs.lookup f = none /\ Q v H1
def sFld (K : Fg) (ta tv : TE) (f : Str) : TS := fun D σ H => tv σ H fun y H1 => ta σ H1 fun x H2 => ∃ a C dx fs, x = .ref a /\ H2 a = some (.ins C dx fs) /\ Cls K C /\ NoAttr K C f /\ fs.length < 1000 ∧
 D.nx σ (upd H2 a (.ins C dx (putF f y fs)))
def InOp (X : Cx) (op : Operator) (rd : V -> V -> Hp -> VK -> Prop) : Prop :=
 ∀ (pins : PLs) (s : Shared) (σ : St) (H : Hp) (x y : V) (u v : Value) (Q : VK), Inv X pins σ H s -> RelV x u -> RelV y v -> rd x y H Q -> wpAny (model X.prog X.w) X.A (inplaceOp op u v) (EP X pins σ Q) X.xe s
def sFldAug (K : Fg) (ta tv : TE) (rd : V -> V -> Hp -> VK -> Prop) (f : Str) : TS := fun D σ H => ta σ H fun x H1 => ∃ a C dx fs v, x = .ref a /\ H1 a = some (.ins C dx fs) /\ Cls K C /\ NoAttr K C f /\ fs.lookup f = some v ∧
 tv σ H1 fun y H2 => rd v y H2 fun z H3 => ∃ dx' fs', H3 a = some (.ins C dx' fs') /\ fs'.length < 1000 /\ D.nx σ (upd H3 a (.ins C dx' (putF f z fs')))
section
variable {X : Cx} {o e value : Expr} {f : Str} {pos pos' tpos : Pos} {ta tv : TE}
def rAdd : V -> V -> Hp -> VK -> Prop := fun x y H Q => ∃ i j, x = .int i /\ y = .int j /\ Q (.int (i + j)) H
def rSub : V -> V -> Hp -> VK -> Prop := fun x y H Q => ∃ i j, x = .int i /\ y = .int j /\ Q (.int (i - j)) H
end
section
variable {X : Cx} {pins : PLs} {σ : St} {H : Hp} {s : Shared} {A : Around} {E : VSP} {Q : VSP} {c : Value} {b : Bool}
inductive TyOf (K : Fg) (H : Hp) : V -> Value -> Prop where
 | non : TyOf K H .non (.type "NoneType")
 | bl (x : Bool) : TyOf K H (.bl x) (.type "bool")
 | int (i : Int) : TyOf K H (.int i) (.type "int")
 | str (x : Str) : TyOf K H (.str x) (.type "str")
 | flt (x : UInt64) : TyOf K H (.flt x) (.type "float")
 | lst {a : Addr} {xs : List V} (e : H a = some (.lst xs)) : TyOf K H (.ref a) (.type "list")
 | frz {a : Addr} {o : Obj} {xs : List V} (e : H a = some (.frz o (.lst xs))) : TyOf K H (.ref a) (.type "list")
 | tup {a : Addr} {xs : List V} (e : H a = some (.tup xs)) : TyOf K H (.ref a) (.type "tuple")
 | dK {a : Addr} {kvs : List (Key × V)} (e : H a = some (.dK kvs)) : TyOf K H (.ref a) (.type "dict")
 | dT {a : Addr} {kvs : List (List Key × V)} (e : H a = some (.dT kvs)) : TyOf K H (.ref a) (.type "dict")
 | ins {a C dx : Addr} {fs : List (Str × V)} (e : H a = some (.ins C dx fs)) (cl : Cls K C) (ha : PySem.W.findIn K (.ref C) "__class__" = some (some (.builtin "object.__class__")))
   (hn : PySem.W.specialIn K (.builtin "object.__class__") "__get__" = some (some (.builtin "getset_descriptor.__get__"))) (htk : PySem.W.takesIn K (.builtin "object.__class__") = some true)
   (hm : PySem.W.mroIn K C (.type "object") = some true) : TyOf K H (.ref a) (.ref C)
theorem isinst_ok {x : V} {u t : Value} (I : Inv X pins σ H s) (rx : RelV x u) (ty : TyOf X.K H x t) (e : PySem.W.kitOne X.K t c = some b) (h : ∀ tk, Q (.bool b) { s with toks := tk }) :
  wpAny (model X.prog X.w) A (call (.builtin "isinstance") [u, c]) Q E s := by
 cases ty with
 | non => cases (show u = Value.none from rx); exact PySem.W.kia_one PySem.W.kitx_none I.kIn True.intro e (fun z => nomatch z) h
 | bl y => cases (show u = Value.bool y from rx); exact PySem.W.kia_one PySem.W.kitx_bool I.kIn True.intro e (fun z => nomatch z) h
 | int i => obtain ⟨t, q⟩ := (show ∃ t, u = Value.int i t from rx); cases q; exact PySem.W.kia_one PySem.W.kitx_int I.kIn True.intro e (fun z => nomatch z) h
 | str y => obtain ⟨t, q⟩ := (show ∃ t, u = Value.str y t from rx); cases q; exact PySem.W.kia_one PySem.W.kitx_str I.kIn True.intro e (fun z => nomatch z) h
 | flt y => obtain ⟨t, q⟩ := (show ∃ t, u = Value.float y t from rx); cases q; exact PySem.W.kia_one PySem.W.kitx_float I.kIn True.intro e (fun z => nomatch z) h
 | @lst a xs ea =>
  cases (show u = Value.ref a from rx)
  obtain ⟨_, _, n, _, h1⟩ := (show ObjOk X.prog X.w H s.heap a (.lst xs) from I.hok a _ ea)
  exact PySem.W.kia_one PySem.W.kitx_list I.kIn ⟨_, h1, rfl⟩ e (fun z => nomatch z) h
 | @frz a ob xs ea =>
  cases (show u = Value.ref a from rx)
  obtain ⟨_, _, _, n, _, h1⟩ := (show ObjOk X.prog X.w H s.heap a (.frz ob (.lst xs)) from I.hok a _ ea)
  exact PySem.W.kia_one PySem.W.kitx_list I.kIn ⟨_, h1, rfl⟩ e (fun z => nomatch z) h
 | @tup a xs ea =>
  cases (show u = Value.ref a from rx)
  obtain ⟨_, _, _, p⟩ := (show ObjOk X.prog X.w H s.heap a (.tup xs) from I.hok a _ ea)
  obtain ⟨o, h1, h2, _⟩ := p
  exact PySem.W.kia_one PySem.W.kitx_tuple I.kIn ⟨o, h1, h2⟩ e (fun z => nomatch z) h
 | @dK a kvs ea =>
  cases (show u = Value.ref a from rx)
  obtain ⟨_, _, vs, _, p⟩ := (show ObjOk X.prog X.w H s.heap a (.dK kvs) from I.hok a _ ea)
  obtain ⟨o, es, ep, h1, h2, _⟩ := p
  exact PySem.W.kia_one PySem.W.kitx_dict I.kIn ⟨o, h1, h2.1⟩ e (fun z => nomatch z) h
 | @dT a kvs ea =>
  cases (show u = Value.ref a from rx)
  obtain ⟨_, _, xs, _, o, es, ep, h1, h2, _⟩ := (show ObjOk X.prog X.w H s.heap a (.dT kvs) from I.hok a _ ea)
  exact PySem.W.kia_one PySem.W.kitx_dict I.kIn ⟨o, h1, h2.1⟩ e (fun z => nomatch z) h
 | @ins a C dx fs ea cl ha hn htk hm =>
  cases (show u = Value.ref a from rx)
  obtain ⟨mA, O, _⟩ := ins_get I.hok ea
  obtain ⟨od, J, _⟩ := O.look
  exact PySem.W.kia_one (PySem.W.kitx_own (cl.get _) cl.hd ha hn htk hm) I.kIn J e (fun z => nomatch z) h
end
end L2
namespace L2
open PySem PySem.Spec PyProof.Rows
structure Room (k : Nat) (A : Around) : Prop where
 hd : A.handled = none
 dp : A.depth + 3 * k + 5 < recursionLimit
 un : A.units + 16 * k + 200 < cLine
 gd : A.guards = some []
theorem Room.mono {j k : Nat} {A : Around} (r : Room k A) (h : j ≤ k) : Room j A := ⟨r.hd, by have := r.dp; omega, by have := r.un; omega, r.gd⟩
theorem Room.deeper {k : Nat} {A : Around} (r : Room (k + 1) A) (env : Env) : Room k (A.deeper env) :=
 ⟨r.hd, by have := r.dp; show A.depth + 1 + 3 * k + 5 < _; omega, by have := r.un; show A.units + 3 + 16 * k + 200 < _; omega, r.gd⟩
theorem make_depth {A : Around} {C : Addr} {us : List Value} {kw : List (Str × Value)} : (A.under (.builtin "type.__call__" ⟨.ref C :: us, kw⟩)).depth = A.depth + 1 := by
 first | rfl | simp [Around.under, Code.weight, Code.isCreation, Code.isGuard, Code.isCaller, Code.frames, Code.isFrame, guardIds]
theorem make_units {A : Around} {C : Addr} {us : List Value} {kw : List (Str × Value)} : (A.under (.builtin "type.__call__" ⟨.ref C :: us, kw⟩)).units = A.units + 1 := by
 first | rfl | simp [Around.under, Code.cUnits, Code.frames, Code.isFrame]
theorem make_guards {A : Around} {C : Addr} {us : List Value} {kw : List (Str × Value)} : (A.under (.builtin "type.__call__" ⟨.ref C :: us, kw⟩)).guards = A.guards := by
 first | rfl | simp [Around.under, Code.guards, Code.isGuard, guardIds, pushGuards]
theorem Room.make {k : Nat} {A : Around} (r : Room (k + 1) A) (C : Addr) (us : List Value) (kw : List (Str × Value)) : Room k (A.under (.builtin "type.__call__" ⟨.ref C :: us, kw⟩)) :=
 ⟨r.hd, by have := r.dp; rw [make_depth]; omega, by have := r.un; rw [make_units]; omega, by rw [make_guards]; exact r.gd⟩
theorem Room.depth {k : Nat} {A : Around} (r : Room k A) : A.depth < recursionLimit := by have := r.dp; omega
theorem Room.units {k : Nat} {A : Around} (r : Room k A) : A.units + 64 < cLine := by have := r.un; omega
def tNil : TA := fun _ H Q => Q [] H
def tCons (ta : TE) (tr : TA) : TA := fun σ H Q => ta σ H fun x H1 => tr σ H1 fun xs H2 => Q (x :: xs) H2
section
variable {X : Cx} {e : Expr} {es : List Expr} {te : TE} {t : TA} {pos : Pos}
theorem pa_nil : PA X [] tNil := fun _ _ _ _ H Q I h => Calls.spliced_nil ⟨[], H, I, .nil, h⟩
theorem pa_cons (ha : PE X e te) (hr : PA X es t) (hs : starEach (e :: es) X.env = (false, eval e X.env) :: starEach es X.env := by rfl) : PA X (e :: es) (tCons te t) := by
 intro pos pins s σ H Q I h
 rw [hs]
 show wpAny _ _ (spliced ((false, eval e X.env) :: backTo pos (starEach es X.env))) _ _ s
 refine Calls.spliced_cons (thn (ha pins s σ H _ I h) fun u s1 ⟨x, H1, I1, r1, q1⟩ => ?_)
 exact thn (hr pos pins s1 σ H1 _ I1 q1) fun us s2 ⟨xs, H2, I2, r2, q2⟩ => ⟨x :: xs, H2, I2, .cons r1 r2, q2⟩
def tTup (t : TA) : TE := fun σ H Q => t σ H fun xs H1 => xs.length ≤ sizeLine /\ ∀ p, H1 p = none -> Q (.ref p) (upd H1 p (.tup xs))
def tLst (t : TA) : TE := fun σ H Q => t σ H fun xs H1 => xs.length ≤ sizeLine /\ ∀ p, H1 p = none -> Q (.ref p) (upd H1 p (.lst xs))
theorem pe_tup {x1} (h : PA X es t) : PE X (.Tuple es x1 pos) (tTup t) := by
 intro pins s σ H Q I hq
 refine wpAny_Tuple_spliced (thn (h pos pins s σ H _ I hq) fun us s1 ⟨xs, H1, I1, r, z, q⟩ => ⟨by rw [← r.length]; exact z, ?_⟩)
 have hf : H1 s1.heap.objs.size = none := I1.hok.fresh (Nat.le_refl _)
 refine ⟨.ref s1.heap.objs.size, upd H1 s1.heap.objs.size (.tup xs), I1.laid (t' := s1.toks) (fun b u e => Heap.get?_push_of_some _ e) (Nat.le_refl _) ?_, rfl, q _ hf⟩
 exact ⟨z, us, r, ⟨_, Heap.get?_push_size _ rfl, rfl, _, rfl⟩⟩
theorem pe_lst (h : PA X es t) : PE X (.List es pos) (tLst t) := by
 intro pins s σ H Q I hq
 refine wpAny_List_spliced (thn (h pos pins s σ H _ I hq) fun us s1 ⟨xs, H1, I1, r, z, q⟩ => ⟨by rw [← r.length]; exact z, ?_⟩)
 have hf : H1 s1.heap.objs.size = none := I1.hok.fresh (Nat.le_refl _)
 refine ⟨.ref s1.heap.objs.size, upd H1 s1.heap.objs.size (.lst xs), I1.laid (t' := s1.toks) (fun b u e => Heap.get?_push_of_some _ e) (Nat.le_refl _) ?_, rfl, q _ hf⟩
 exact ⟨z, us, 0, r, Heap.get?_push_size _ rfl⟩
end
abbrev Sp := List V -> Hp -> VK -> XK -> Prop
abbrev CXT := List Env -> Hp -> Shared -> XK -> Value -> Shared -> Prop
structure Env0 (P : Program) (w : World) (K : Fg) (mg : Str -> Option Value) (base : Heap) (A : Around) (outer : List Env) (s : Shared) (H : Hp) : Prop where
 frames : A.frames = some outer
 mod : Mod K mg base
 bs : ∀ b o, base.get? b = some o -> s.heap.get? b = some o /\ H b = none
 bsz : base.objs.size ≤ s.heap.objs.size
 funs : s.heap.FunFrames base outer
 frf : ∀ b ∈ frs outer, H b = none
 hok : HOk P w H s.heap
 bare : AllBare s.gens
def CE (outer : List Env) (P : Program) (w : World) (H : Hp) (s : Shared) (Q : VK) (u : Value) (s' : Shared) : Prop :=
 ∃ v H', s'.os = s.os /\ AllBare s'.gens /\ Un (frs outer) [] H H' s.heap s'.heap /\ HOk P w H' s'.heap /\ RelV v u /\ Q v H'
def CR (CX : CXT) (outer : List Env) (P : Program) (w : World) (H : Hp) (s : Shared) (Q : VK) (E : XK) (r : Result) (s' : Shared) : Prop :=
 match r with
 | .ok (.ret u) => CE outer P w H s Q u s'
 | .ok _ => False
 | .error e => CX outer H s E e s'
structure FnOk (P : Program) (w : World) (K : Fg) (mg : Str -> Option Value) (base : Heap) (CX : CXT) (k : Nat) (f : Addr) (fd : FuncData) (ps : List Str) (sp : Sp) : Prop where
 len : ∀ vs H Q E, sp vs H Q E -> vs.length = ps.length
 run : ∀ (A : Around) (outer : List Env) (s : Shared) (H : Hp) (args : Args) (us : List Value) (vs : List V) (Q : VK) (E : XK), Room k A -> Env0 P w K mg base A outer s H -> BindsTo s fd args (ps.zip us) -> Vals vs us -> sp vs H Q E →
  codeAny (model P w) A (.call (.ref f) args) (CR CX outer P w H s Q E) s
theorem FnOk.imp {P : Program} {w : World} {K : Fg} {mg : Str -> Option Value} {base : Heap} {CX : CXT} {k : Nat} {f : Addr} {fd : FuncData} {ps : List Str} {sp sp' : Sp} (F : FnOk P w K mg base CX k f fd ps sp)
  (h : ∀ vs H Q E, sp' vs H Q E -> sp vs H Q E) : FnOk P w K mg base CX k f fd ps sp' :=
 ⟨fun vs H Q E q => F.len vs H Q E (h _ _ _ _ q), fun A outer s H args us vs Q E hr he hb hv hs => F.run A outer s H args us vs Q E hr he hb hv (h _ _ _ _ hs)⟩
theorem Env0.make {P : Program} {w : World} {K : Fg} {mg : Str -> Option Value} {base : Heap} {A : Around} {outer : List Env} {s : Shared} {H : Hp} (e : Env0 P w K mg base A outer s H) (C : Addr) (us : List Value) (kw : List (Str × Value)) :
  Env0 P w K mg base (A.under (.builtin "type.__call__" ⟨.ref C :: us, kw⟩)) outer s H := ⟨by first | exact e.frames | (simpa [Around.under, Code.envs, Code.isFrame, pushEnvs] using e.frames), e.mod, e.bs, e.bsz, e.funs, e.frf, e.hok, e.bare⟩
section
variable {X : Cx} {pins : PLs} {σ : St} {H : Hp} {s s' : Shared}
theorem Inv.env0 (I : Inv X pins σ H s) : Env0 X.prog X.w X.K X.mg X.base X.A X.stack s H :=
 ⟨I.ok.frames, I.ok.mod, I.bs, Nat.le_trans I.ok.bsz I.sz, I.stack, I.stkFree, I.hok, I.bare⟩
theorem Inv.after {Q : VK} {u : Value} (I : Inv X pins σ H s) (h : CE X.stack X.prog X.w H s Q u s') : EP X pins σ Q u s' := by
 obtain ⟨v, H', os, bare, un, hok, r, q⟩ := h
 obtain ⟨hh, g, d, t, os'⟩ := s'
 obtain rfl : os' = s.os := os
 exact ⟨v, H', I.call (h' := hh) (g' := g) (d' := d) (t' := t) (ch := []) un hok bare (fun b z => absurd z (by simp)), r, q⟩
end
def tCall (sp : Sp) (dvs : List V) (E : XK) (t : TA) : TE := fun σ H Q => t σ H fun vs H1 => sp (vs ++ dvs) H1 Q E
def tMeth (C : Addr) (m : Str) (sp : Sp) (dvs : List V) (E : XK) (ta : TE) (t : TA) : TE := fun σ H Q => ta σ H fun x H1 => ∃ a dx fs, x = .ref a /\ H1 a = some (.ins C dx fs) /\ fs.lookup m = none ∧
 t σ H1 fun vs H2 => sp (x :: (vs ++ dvs)) H2 Q E
def tMake (C : Addr) (sp : Sp) (dvs : List V) (E : XK) (t : TA) : TE := fun σ H Q => t σ H fun vs H1 => ∀ x dx, H1 x = none -> H1 dx = none -> dx ≠ x →
 sp (.ref x :: (vs ++ dvs)) (upd (upd H1 dx (.own x)) x (.ins C dx [])) (fun v H2 => v = .non /\ Q (.ref x) H2) E
def Binds (K : Fg) (fd : FuncData) (ps : List Str) (ds : List Value) : Prop :=
 ∀ (s : Shared) (us : List Value), K.In s.heap -> (us ++ ds).length = ps.length -> BindsTo s fd ⟨us, []⟩ (ps.zip (us ++ ds))
theorem Binds.all {K : Fg} {fd : FuncData} {ps : List Str} (h : ∀ us : List Value, us.length = ps.length -> bindArgs fd ⟨us, []⟩ = pure (ps.zip us)) : Binds K fd ps [] := fun s us _ hl => by
 rw [List.append_nil] at hl ⊢
 exact .of_eq (h us hl)
def Passes (CX : CXT) (X : Cx) (E : XK) : Prop := ∀ (pins : PLs) (σ : St) (H : Hp) (s : Shared) (e : Value) (s' : Shared), Inv X pins σ H s -> CX X.stack H s E e s' -> X.xe e s'
section
variable {X : Cx} {CX : CXT} {k : Nat} {f C : Addr} {fd : FuncData} {ps : List Str} {sp : Sp} {dvs : List V} {ds : List Value} {E : XK} {x m : Str} {p pos apos : Pos} {e o : Expr} {es : List Expr} {ta : TE} {t : TA}
theorem run_fn {pins : PLs} {σ : St} {H : Hp} {s : Shared} {Q : VK} {us : List Value} {vs : List V} (F : FnOk X.prog X.w X.K X.mg X.base CX k f fd ps sp) (hr : Room k X.A) (hb : Binds X.K fd ps ds) (hd : Vals dvs ds) (hx : Passes CX X E)
  (I : Inv X pins σ H s) (r : Vals vs us) (h : sp (vs ++ dvs) H Q E) : wpAny (model X.prog X.w) X.A (call (.ref f) us) (EP X pins σ Q) X.xe s := by
 have r2 : Vals (vs ++ dvs) (us ++ ds) := r.append hd
 have hl : (us ++ ds).length = ps.length := by rw [← r2.length]; exact F.len _ _ _ _ h
 refine wpAny_call (codeAny_mono (F.run X.A X.stack s H ⟨us, []⟩ (us ++ ds) (vs ++ dvs) Q E hr I.env0 (hb s us I.kIn hl) r2 h) fun r s' hq => ?_)
 cases r with
 | error e => exact hx pins σ H s e s' I hq
 | ok fl =>
  cases fl with
  | ret u => exact I.after hq
  | next => exact False.elim hq
  | brk => exact False.elim hq
  | cont => exact False.elim hq
theorem pe_call (F : FnOk X.prog X.w X.K X.mg X.base CX k f fd ps sp) (hr : Room k X.A) (hg : Gl X x) (hm : X.mg x = some (.ref f)) (hk : PySem.W.keepIn X.K (.ref f) = true) (hb : Binds X.K fd ps ds) (hd : Vals dvs ds) (hx : Passes CX X E)
  (ha : PA X (e :: es) t) (hdb : (x == ("__debug__" : Str)) = false := by decide) (he : starEach (e :: es) X.env = (false, eval e X.env) :: starEach es X.env := by rfl) (hpl : (backTo pos (starEach es X.env)).any (·.1) = false := by rfl) :
  PE X (.Call (.Name x p) (e :: es) [] pos) (tCall sp dvs E t) := by
 intro pins s σ H Q I h
 refine wpAny_Call_Name_kw (ld_glob I hg hm ?_ hdb)
 refine PySem.W.callWith_K (h₀ := X.base) I.ok.mod.kin hk (thn (ha pos pins s σ H _ I h) fun us s1 ⟨vs, H1, I1, r, q⟩ => ⟨I1.kIn, ?_⟩) he hpl
 exact run_fn F hr hb hd hx I1 r q
structure Mk (K : Fg) (C f : Addr) : Prop where
 makes : PySem.W.makesIn K C = true
 init : PySem.W.findIn K (.ref C) "__init__" = some (some (.ref f))
 fn : PySem.W.isFn K (.ref f) = true
 kp : PySem.W.keepIn K (.ref C) = true
end
def PK (X : Cx) (kws : List Keyword) (t : TA) : Prop :=
 ∀ (pos : Pos) (pins : PLs) (s : Shared) (σ : St) (H : Hp) (Q : List V -> Hp -> Prop), Inv X pins σ H s -> t σ H Q -> wpAny (model X.prog X.w) X.A (evalAll ((backToKw pos (keywordEach kws X.env)).map (·.2))) (AP X pins σ Q) X.xe s
section
variable {X : Cx} {CX : CXT} {k : Nat} {f C : Addr} {fd : FuncData} {ps ks : List Str} {sp : Sp} {E : XK} {x m : Str} {p pos apos kpos : Pos} {e o : Expr} {es : List Expr} {kws : List Keyword} {te ta : TE} {t tk : TA} {nm : Option Str}
structure KBinds (K : Fg) (fd : FuncData) (ps ks : List Str) (g : List Value -> List Value -> List Value) (gV : List V -> List V -> List V) : Prop where
 to : ∀ (s : Shared) (us ws : List Value), K.In s.heap -> (g us ws).length = ps.length -> BindsTo s fd ⟨us, ks.zip ws⟩ (ps.zip (g us ws))
 rel : ∀ {vs : List V} {us : List Value} {zs : List V} {ws : List Value}, Vals vs us -> Vals zs ws -> Vals (gV vs zs) (g us ws)
def tCallK (sp : Sp) (gV : List V -> List V -> List V) (E : XK) (t tk : TA) : TE := fun σ H Q => t σ H fun vs H1 => tk σ H1 fun zs H2 => sp (gV vs zs) H2 Q E
variable {g : List Value -> List Value -> List Value} {gV : List V -> List V -> List V}
end
structure FnScope (N P : List Str) (sc : Scope) : Prop where
 kind : sc.kind = .function
 co : sc.isCoroutine = false
 gen : sc.isGenerator = false
 nd : N.Nodup
 pre : N.take P.length = P
 par : ∀ x ∈ P, sc.names.lookup x = some .local ∨ sc.names.lookup x = some .cell
 nofree : ∀ y ∈ sc.names, y.2 ≠ .free
theorem bindL_out {kindOf : Str -> Option NameKind} {x : Str} : ∀ {binds : List (Str × Value)} {m : Str -> Option Value}, (∀ v, (x, v) ∉ binds) -> bindL kindOf binds m x = m x
 | [], _, _ => rfl
 | (n, v) :: r, m, h => by
  unfold bindL
  rw [bindL_out fun w hw => h w (List.mem_cons_of_mem _ hw)]
  split
  ·have : x ≠ n := by rintro rfl; exact h v List.mem_cons_self
   simp [this]
  ·rfl
theorem bindC_out {kindOf : Str -> Option NameKind} {x : Str} : ∀ {binds : List (Str × Value)} {m : Str -> Option Value}, (∀ v, (x, v) ∉ binds) -> bindC kindOf binds m x = m x
 | [], _, _ => rfl
 | (n, v) :: r, m, h => by
  unfold bindC
  rw [bindC_out fun w hw => h w (List.mem_cons_of_mem _ hw)]
  split
  ·rfl
  ·have : x ≠ n := by rintro rfl; exact h v List.mem_cons_self
   simp [this]
theorem bindL_get {kindOf : Str -> Option NameKind} {x : Str} {v : Value} : ∀ {P : List Str} {vs : List Value} {i : Nat} {m : Str -> Option Value}, P.Nodup -> P[i]? = some x -> vs[i]? = some v -> kindOf x = some .local →
  bindL kindOf (P.zip vs) m x = some v
 | [], _, _, _, _, h, _, _ => by simp at h
 | _ :: _, [], _, _, _, _, h, _ => by simp at h
 | p :: P, w :: vs, 0, m, nd, h1, h2, hk => by
  simp at h1 h2; subst h1; subst h2
  show bindL kindOf ((p, w) :: P.zip vs) m p = _
  unfold bindL
  rw [bindL_out fun v hv => (List.nodup_cons.mp nd).1 (List.of_mem_zip hv).1, if_pos hk]
  simp
 | p :: P, w :: vs, i + 1, m, nd, h1, h2, hk => by
  show bindL kindOf ((p, w) :: P.zip vs) m x = _
  unfold bindL
  exact bindL_get (i := i) (List.nodup_cons.mp nd).2 (by simpa using h1) (by simpa using h2) hk
theorem bindC_get {kindOf : Str -> Option NameKind} {x : Str} {v : Value} : ∀ {P : List Str} {vs : List Value} {i : Nat} {m : Str -> Option Value}, P.Nodup -> P[i]? = some x -> vs[i]? = some v -> kindOf x ≠ some .local →
  bindC kindOf (P.zip vs) m x = some v
 | [], _, _, _, _, h, _, _ => by simp at h
 | _ :: _, [], _, _, _, _, h, _ => by simp at h
 | p :: P, w :: vs, 0, m, nd, h1, h2, hk => by
  simp at h1 h2; subst h1; subst h2
  show bindC kindOf ((p, w) :: P.zip vs) m p = _
  unfold bindC
  rw [bindC_out fun v hv => (List.nodup_cons.mp nd).1 (List.of_mem_zip hv).1, if_neg hk]
  simp
 | p :: P, w :: vs, i + 1, m, nd, h1, h2, hk => by
  show bindC kindOf ((p, w) :: P.zip vs) m x = _
  unfold bindC
  exact bindC_get (i := i) (List.nodup_cons.mp nd).2 (by simpa using h1) (by simpa using h2) hk
def start (N : List Str) (vs : List V) : St := vs.map some ++ List.replicate (N.length - vs.length) none
def cxOf (CX : CXT) (P : Program) (w : World) (K : Fg) (mg : Str -> Option Value) (base : Heap) (N : List Str) (qual : Str) (scope : Scope) (f : Addr) (cd : Value) (A : Around) (outer : List Env) (s : Shared) (H : Hp) (E : XK) : Cx where
 prog := P
 w := w
 K := K
 mg := mg
 base := base
 A := A.deeper (envOfC qual scope s.heap.objs.size f cd)
 N := N
 s₀ := s
 H₀ := H
 env := envOfC qual scope s.heap.objs.size f cd
 outer := outer
 stack := envOfC qual scope s.heap.objs.size f cd :: outer
 ex := []
 calm := true
 fn := fun _ => true
 pn := []
 xe := fun e s' => wpAny (model P w) (A.deeper (envOfC qual scope s.heap.objs.size f cd)) (leaving (envOfC qual scope s.heap.objs.size f cd) e) (fun _ s'' => CX outer H s E e s'') (fun e' s'' => CX outer H s E e' s'') s'
theorem cell_has {sc : Scope} {n : Nat} {x : Str} (h : sc.names.lookup x = some .cell) : ∃ c, (cellsFrom n sc.names []).lookup x = some c := by
 have q := PySem.W.cellsFrom_some sc.names n [] (.inl h)
 exact Option.isSome_iff_exists.mp q
theorem inv_start {CX : CXT} {P : Program} {w : World} {K : Fg} {mg : Str -> Option Value} {base : Heap} {N ps : List Str} {qual : Str} {scope : Scope} {f : Addr} {cd : Value} {A : Around} {outer : List Env} {s s1 : Shared} {H : Hp} {E : XK} {us : List Value} {vs : List V}
  (S : FnScope N ps scope) (hd : A.handled = none) (e0 : Env0 P w K mg base A outer s H) (hl : vs.length = ps.length) (r : Vals vs us)
  (x : InCallC s s.heap.objs.size (bindL (envOfC qual scope s.heap.objs.size f cd).kindOf (ps.zip us) fun _ => none) (cellsFrom (s.heap.objs.size + 1) scope.names []) (bindC (envOfC qual scope s.heap.objs.size f cd).kindOf (ps.zip us) fun _ => none) s1) :
  Inv (cxOf CX P w K mg base N qual scope f cd A outer s H E) [] (start N vs) H s1 := by
 have hpl : ps.length ≤ N.length := by have := congrArg List.length S.pre; rw [List.length_take] at this; omega
 obtain ⟨h1, tk, rfl, hk⟩ := x.done
 have noA : ∀ b : Addr, b ∉ (cxOf CX P w K mg base N qual scope f cd A outer s H E).ex := fun b z => absurd (show b ∈ ([] : List Addr) from z) (by simp)
 refine ⟨⟨e0.mod, S.kind, rfl, rfl, Nat.le_refl _, fun y z c h1 h2 => ?_, fun y hy => ?_, fun y c _ h => ?_, fun _ => hd, Around.frames_deeper e0.frames, .inr ⟨rfl, rfl⟩, fun b z => absurd z (noA b), e0.bs, e0.bsz, fun b _ _ => noA b, fun b z => absurd z (noA b), e0.funs, e0.frf⟩,
  rfl, e0.bare, Un.kept hk, ⟨_, x.toInCall.ns, fun i y v h1 h2 h3 => ?_⟩, fun y c h => ⟨_, x.cell y c h⟩, e0.hok.fresh (Nat.le_refl _), fun y c h => ?_, fun p hp => absurd (show p ∈ ([] : PLs) from hp) (by simp), e0.hok.kept hk, ?_⟩
 ·exact name_of_addr x.apart (PySem.mem_of_lookup h1) (PySem.mem_of_lookup h2)
 ·have hy : scope.names.lookup y = some .cell ∨ scope.names.lookup y = some .free := hy
  rcases hy with hy | hy
  ·exact cell_has hy
  ·exact absurd rfl (S.nofree _ (PySem.mem_of_lookup hy))
 ·exact Nat.le_of_lt (x.above y c (PySem.mem_of_lookup h))
 ·have hi : i < vs.length := by
   unfold start at h2
   by_cases hi : i < vs.length
   ·exact hi
   ·rw [List.getElem?_append_right (by simpa using hi)] at h2
    rw [List.getElem?_replicate] at h2
    split at h2 <;> cases h2
  have ha : vs[i]? = some v := by
   unfold start at h2
   rw [List.getElem?_append_left (by simpa using hi), List.getElem?_map] at h2
   cases e : vs[i]? with
   | none => rw [e] at h2; cases h2
   | some a => rw [e] at h2; cases h2; rfl
  obtain ⟨u, hu, rv⟩ := r.get ha
  have hp : ps[i]? = some y := by
   rw [← S.pre, List.getElem?_take_of_lt (by omega)]; exact h1
  have ndP : ps.Nodup := by rw [← S.pre]; exact S.nd.sublist (List.take_sublist _ _)
  refine ⟨u, rv, ?_⟩
  rcases S.par y (List.mem_of_getElem? hp) with k | k
  ·exact .inl ⟨k, bindL_get ndP hp hu k⟩
  ·obtain ⟨c, e⟩ := cell_has (n := s.heap.objs.size + 1) k
   refine .inr ⟨.inl k, c, e, ?_⟩
   have q := x.cell y c e
   rw [bindC_get ndP hp hu (by show scope.names.lookup y ≠ _; rw [k]; decide)] at q
   exact q
 ·exact e0.hok.fresh (Nat.le_of_lt (x.above y c (PySem.mem_of_lookup h)))
 ·unfold start
  show _ = N.length
  rw [List.length_append, List.length_map, List.length_replicate]
  omega
theorem fn_of {CX : CXT} {P : Program} {w : World} {K : Fg} {mg : Str -> Option Value} {base : Heap} {k : Nat} {f : Addr} {name qual : Str} {params : Arguments} {body : List Stmt} {scope : Scope} {dV kV doc pm cdv ct oc : Value} {an od : Option Addr}
  {osl : Array (Option Value)} {N ps : List Str} {sp : Sp} (lk : K.lookup f = some ⟨oc, od, .func (PySem.W.fnOf name qual params body scope dV kV doc pm an cdv ct), osl⟩) (hcd : PySem.W.codeIn K cdv qual = true) (S : FnScope N ps scope)
  (len : ∀ vs H Q E, sp vs H Q E -> vs.length = ps.length)
  (hbody : ∀ (A : Around) (outer : List Env) (s : Shared) (H : Hp) (vs : List V) (Q : VK) (E : XK), Room k (A.deeper (envOfC qual scope s.heap.objs.size f cdv)) -> sp vs H Q E →
   ∃ t, PSs (cxOf CX P w K mg base N qual scope f cdv A outer s H E) body t /\ t { nx := fun _ H' => Q .non H', rt := Q } (start N vs) H) :
  FnOk P w K mg base CX (k + 1) f (PySem.W.fnOf name qual params body scope dV kV doc pm an cdv ct) ps sp := by
 refine ⟨len, fun A outer s H args us vs Q E hr e0 hb r hsp => ?_⟩
 have hl := len _ _ _ _ hsp
 have KX : K.In s.heap := e0.mod.kin.keeps fun b o e => (e0.bs b o e).1
 have lim : s.heap.NoLimit := e0.mod.nolimit.keeps fun b o e => (e0.bs b o e).1
 have hkind : ∀ y ∈ ps.zip us, scope.names.lookup y.1 = some .local ∨ (scope.names.lookup y.1 = some .cell /\ ((cellsFrom (s.heap.objs.size + 1) scope.names []).lookup y.1).isSome = true) := fun ⟨n, v⟩ hy => by
  rcases S.par n (List.of_mem_zip hy).1 with q | q
  ·exact .inl q
  ·exact .inr ⟨q, PySem.W.cellsFrom_some _ _ _ (.inl q)⟩
 refine codeAny_call_function hr.depth (KX _ _ lk) rfl S.co S.gen rfl (PySem.W.codeRec_of KX hcd) (hb _ _ _ _ ?_)
 refine wpAny_newFunctionEnv_cells S.kind hkind fun env he s1 x => ?_
 subst he
 refine ⟨lim.keeps x.toInCall.keep, codeAny_func ?_⟩
 obtain ⟨t, ht, hq⟩ := hbody A outer s H vs Q E (hr.deeper _) hsp
 have I : Inv (cxOf CX P w K mg base N qual scope f cdv A outer s H E) [] (start N vs) H s1 := inv_start S hr.hd e0 hl r x
 refine wpAny_mono (ht [] s1 (start N vs) H _ I hq) (fun fl s' hs => ?_) fun e s' hs => hs
 have fin : ∀ {σ' : St} {H' : Hp} {v : V} {u : Value}, Inv (cxOf CX P w K mg base N qual scope f cdv A outer s H E) [] σ' H' s' -> RelV v u -> Q v H' -> CE outer P w H s Q u s' :=
  fun {σ' H' v u} J rv q => ⟨v, H', J.os, J.bare, J.base, J.hok, rv, q⟩
 cases fl with
 | ret u =>
  obtain ⟨v, σ', H', J, rv, q⟩ := hs
  exact fin J rv q
 | next =>
  obtain ⟨σ', H', J, q⟩ := hs
  exact fin (v := V.non) (u := Value.none) J rfl q
 | brk =>
  obtain ⟨_, _, _, q⟩ := hs
  exact False.elim q
 | cont =>
  obtain ⟨_, _, _, q⟩ := hs
  exact False.elim q
end L2
namespace L2
open PySem PySem.Spec PyProof.Rows
section
variable {X : Cx} {x : Str} {p pos : Pos} {e : Expr} {es : List Expr} {t : TA} {id T : String} {r : List V -> Hp -> VK -> Prop}
def tCB (r : List V -> Hp -> VK -> Prop) (t : TA) : TE := fun σ H Q => t σ H fun vs H1 => r vs H1 Q
theorem pe_callB (hc : CallR X (.builtin id) r) (hg : Gl X x) (hm : X.mg x = none) (hv : bootBuiltins x = some (.builtin id)) (ha : PA X (e :: es) t) (hn : x ≠ "__name__" := by decide) (hdb : (x == ("__debug__" : Str)) = false := by decide)
  (he : starEach (e :: es) X.env = (false, eval e X.env) :: starEach es X.env := by rfl) (hpl : (backTo pos (starEach es X.env)).any (·.1) = false := by rfl) : PE X (.Call (.Name x p) (e :: es) [] pos) (tCB r t) := by
 intro pins s σ H Q I h
 refine wpAny_Call_Name_kw (ld_blt I hg hm hv ?_ hn hdb)
 exact PyProof.Rows.callWith_builtin1 (thn (ha pos pins s σ H _ I h) fun us s1 ⟨vs, H1, I1, r1, q1⟩ => hc pins s1 σ H1 vs us Q I1 r1 q1) he hpl
theorem pe_callTy (hc : CallR X (.type T) r) (hg : Gl X x) (hm : X.mg x = none) (hv : bootBuiltins x = some (.type T)) (ha : PA X (e :: es) t) (hn : x ≠ "__name__" := by decide) (hdb : (x == ("__debug__" : Str)) = false := by decide)
  (he : starEach (e :: es) X.env = (false, eval e X.env) :: starEach es X.env := by rfl) (hpl : (backTo pos (starEach es X.env)).any (·.1) = false := by rfl) : PE X (.Call (.Name x p) (e :: es) [] pos) (tCB r t) := by
 intro pins s σ H Q I h
 refine wpAny_Call_Name_kw (ld_blt I hg hm hv ?_ hn hdb)
 exact PyProof.Rows.callWith_type1 (thn (ha pos pins s σ H _ I h) fun us s1 ⟨vs, H1, I1, r1, q1⟩ => hc pins s1 σ H1 vs us Q I1 r1 q1) he hpl
end
end L2
namespace HT
open PySem PyProof.Rows
def lexLt : List Int -> List Int -> Bool
 | [], [] => false
 | [], _ :: _ => true
 | _ :: _, [] => false
 | x :: xs, y :: ys => if x = y then lexLt xs ys else decide (x < y)
section
open PySem.SeqAt
open PySem.AutoSeq1 (wpAny_loadPart')
open PySem.MeetsSeq PySem.MeetsSeq2 PySem.MeetsSeq3
end
section
variable {prog : Program} {w : World} {A : Around} {E : VSP} {s : Shared}
def sIx (n d : Nat) : Option Int -> Nat
 | none => d
 | some v => if v < 0 then (v + (n : Int)).toNat else min v.toNat n
theorem sIx_none (n d : Nat) : sIx n d none = d := rfl
theorem sIx_nat (n d k : Nat) : sIx n d (some (k : Int)) = min k n := by
 show (if (k : Int) < 0 then ((k : Int) + (n : Int)).toNat else min (k : Int).toNat n) = min k n
 rw [if_neg (by omega), Int.toNat_natCast]
end
end HT
namespace L2
open PySem PySem.Spec PyProof.Rows
abbrev TO := St -> Hp -> (Option Int -> Hp -> Prop) -> Prop
def PO (X : Cx) (e : Option Expr) (t : TO) : Prop :=
 ∀ (pins : PLs) (s : Shared) (σ : St) (H : Hp) (Q : Option Int -> Hp -> Prop), Inv X pins σ H s -> t σ H Q →
  wpAny (model X.prog X.w) X.A (evalPart e X.env) (fun u s' => ∃ o H', Inv X pins σ H' s' /\ IsPart u o /\ Q o H') X.xe s
def tNoPart : TO := fun _ H Q => Q none H
def tPart (t : TE) : TO := fun σ H Q => t σ H fun x H1 => ∃ i, x = .int i /\ Q (some i) H1
section
variable {X : Cx} {e : Expr} {te : TE} {lo hi : Option Expr} {tl th : TO} {pos p2 : Pos}
theorem po_none : PO X none tNoPart := by
 intro pins s σ H Q I h
 rw [evalPart_none]
 exact wpAny_pure ⟨none, H, I, .none, h⟩
theorem po_some (h : PE X e te) : PO X (some e) (tPart te) := by
 intro pins s σ H Q I hw
 rw [evalPart_some]
 refine thn (h pins s σ H _ I hw) fun u s1 ⟨x, H1, I1, r1, q1⟩ => ?_
 obtain ⟨i, rfl, q⟩ := q1
 obtain ⟨t, rfl⟩ := r1
 exact ⟨some i, H1, I1, .int i t, q⟩
def SlR (X : Cx) (r : V -> Option Int -> Option Int -> Hp -> VK -> Prop) : Prop :=
 ∀ (pins : PLs) (s : Shared) (σ : St) (H : Hp) (x : V) (v vl vu : Value) (lo hi : Option Int) (sl : Addr) (Q : VK), Inv X pins σ H s -> RelV x v -> s.heap.IsSliceOf sl vl vu .none -> IsPart vl lo -> IsPart vu hi -> r x lo hi H Q →
  ∃ T id, typeLookup (.type T) "__getitem__" = pure (some (.builtin id)) /\ s.TypeIs v T /\ wpAny (model X.prog X.w) X.A (getItem v (.ref sl)) (EP X pins σ Q) X.xe s
def tSl (r : V -> Option Int -> Option Int -> Hp -> VK -> Prop) (te : TE) (tl th : TO) : TE := fun σ H Q => te σ H fun x H1 => tl σ H1 fun l H2 => th σ H2 fun u H3 => r x l u H3 Q
theorem pe_slice {r : V -> Option Int -> Option Int -> Hp -> VK -> Prop} (hr : SlR X r) (he : PE X e te) (hl : PO X lo tl) (hu : PO X hi th) : PE X (.Subscript e (.Slice lo hi none p2) pos) (tSl r te tl th) := by
 intro pins s σ H Q I h
 refine Subscript_ (thn (he pins s σ H _ I h) fun v s1 ⟨x, H1, I1, r1, q1⟩ => ?_)
 refine wpAny_Slice (thn (hl pins s1 σ H1 _ I1 q1) fun vl s2 ⟨l, H2, I2, pl, q2⟩ => thn (hu pins s2 σ H2 _ I2 q2) fun vu s3 ⟨u, H3, I3, pu, q3⟩ => ?_)
 rw [evalPart_none]
 refine wpAny_pure ?_
 have I4 : Inv X pins σ H3 { s3 with heap := s3.heap.push { cls := .type "slice", data := .fields #[vl, vu, .none] } } := I3.kept (t' := s3.toks) fun b ob q => Heap.get?_push_of_some _ q
 obtain ⟨T, id, hT, ht, hg⟩ := hr pins { s3 with heap := s3.heap.push { cls := .type "slice", data := .fields #[vl, vu, .none] } } σ H3 x v vl vu l u s3.heap.objs.size Q I4 r1 (Heap.IsSliceOf.new ..) pl pu q3
 show wpAny (model X.prog X.w) X.A (subscriptTail e (.Slice lo hi none p2) v (.ref s3.heap.objs.size)) (EP X pins σ Q) X.xe { s3 with heap := s3.heap.push { cls := .type "slice", data := .fields #[vl, vu, .none] } }
 exact tail_any (ops := [.ref s3.heap.objs.size, v]) ht hT hg (by with_unfolding_all rfl)
def cutV (xs : List V) (lo hi : Option Int) : List V := (xs.drop (HT.sIx xs.length 0 lo)).take (HT.sIx xs.length xs.length hi - HT.sIx xs.length 0 lo)
theorem cutV_length (xs : List V) (lo hi : Option Int) : (cutV xs lo hi).length ≤ xs.length := by
 unfold cutV
 rw [List.length_take, List.length_drop]
 omega
def rSlT (K : Fg) : V -> Option Int -> Option Int -> Hp -> VK -> Prop := fun x lo hi H Q => ∃ a xs, x = .ref a /\ SqT K H a xs ∧
 ¬ (HT.sIx xs.length 0 lo = 0 /\ HT.sIx xs.length xs.length hi = xs.length) /\ ∀ p, H p = none -> Q (.ref p) (upd H p (.tup (cutV xs lo hi)))
def rLtT (K : Fg) : R2 := fun x y H Q => ∃ a b ns ms, x = .ref a /\ y = .ref b /\ SqT K H a (ns.map V.int) /\ SqT K H b (ms.map V.int) /\ Q (.bl (HT.lexLt ns ms)) H
def rCatT (K : Fg) : R2 := fun x y H Q => ∃ a b xs ys, x = .ref a /\ y = .ref b /\ SqT K H a xs /\ SqT K H b ys /\ xs ≠ [] /\ xs.length + ys.length ≤ sizeLine ∧
 (ys = [] -> Q (.ref a) H) /\ (ys ≠ [] -> ∀ p, H p = none -> Q (.ref p) (upd H p (.tup (xs ++ ys))))
end
end L2
namespace L2
open PySem PySem.Spec PyProof.Rows
def ixN (n : Nat) (i : Int) : Option Nat := if 0 ≤ i then (if i < n then some i.toNat else none) else if -(n : Int) ≤ i then some (i + n).toNat else none
def atI {α : Type} (xs : List α) (i : Int) : Option α := (ixN xs.length i).bind fun j => xs[j]?
theorem ixN_seq {n : Nat} {i : Int} {j : Nat} (h : ixN n i = some j) : seqIndex? i n = some j /\ j < n /\ -(n : Int) ≤ i /\ i < n := by
 unfold ixN at h
 by_cases h0 : 0 ≤ i
 ·rw [if_pos h0] at h
  by_cases h1 : i < n
  ·rw [if_pos h1] at h
   have e : i.toNat = j := Option.some.inj h
   exact ⟨by rw [seqIndex_of h0 h1, e], by omega, by omega, h1⟩
  ·rw [if_neg h1] at h; cases h
 ·rw [if_neg h0] at h
  by_cases h1 : -(n : Int) ≤ i
  ·rw [if_pos h1] at h
   have e : (i + n).toNat = j := Option.some.inj h
   exact ⟨by rw [seqIndex_neg (by omega) h1, e], by omega, h1, by omega⟩
  ·rw [if_neg h1] at h; cases h
theorem atI_get {α : Type} {xs : List α} {i : Int} {v : α} (h : atI xs i = some v) : ∃ j, seqIndex? i xs.length = some j /\ xs[j]? = some v /\ j < xs.length /\ -(xs.length : Int) ≤ i /\ i < xs.length := by
 unfold atI at h
 cases e : ixN xs.length i with
 | none => rw [e] at h; cases h
 | some j =>
  rw [e] at h
  obtain ⟨h1, h2, h3, h4⟩ := ixN_seq e
  exact ⟨j, h1, h, h2, h3, h4⟩
theorem atI_nat {α : Type} {xs : List α} {j : Nat} {v : α} (h : xs[j]? = some v) : atI xs (j : Int) = some v := by
 have hj : j < xs.length := (List.getElem?_eq_some_iff.mp h).1
 have e : ixN xs.length (j : Int) = some j := by
  unfold ixN
  rw [if_pos (by omega), if_pos (by omega)]; simp
 unfold atI; rw [e]; exact h
def PlainIx (b : Expr) : Prop := ∀ o i, subscripted b false o i = operate [o, i] (getItem o i)
def IxR (X : Cx) (r : R2) : Prop :=
 ∀ (value slice : Expr) (pins : PLs) (s : Shared) (σ : St) (H : Hp) (x y : V) (v u : Value) (Q : VK), Inv X pins σ H s -> RelV x v -> RelV y u -> r x y H Q →
  subscripted slice false v u = operate [v, u] (getItem v u) -> wpAny (model X.prog X.w) X.A (subscriptTail value slice v u) (EP X pins σ Q) X.xe s
def MtR (X : Cx) (id : String) (r : V -> List V -> Hp -> VK -> Prop) : Prop :=
 ∀ (pins : PLs) (s : Shared) (σ : St) (H : Hp) (x : V) (xs : List V) (v : Value) (us : List Value) (Q : VK), Inv X pins σ H s -> RelV x v -> Vals xs us -> r x xs H Q →
  wpAny (model X.prog X.w) X.A (call (.builtin id) (v :: us)) (EP X pins σ Q) X.xe s
section
variable {X : Cx} {a b : Expr} {ta tb : TE} {pos : Pos}
theorem pe_ix {r : R2} (hr : IxR X r) (ha : PE X a ta) (hb : PE X b tb) (hs : PlainIx b) : PE X (.Subscript a b pos) (tOp r ta tb) := by
 intro pins s σ H Q I h
 exact Subscript_ (binT ha hb I h fun v u s2 x y H2 I2 rx ry q => hr a b pins s2 σ H2 x y v u Q I2 rx ry q (hs _ _))
def rIxL (K : Fg) : R2 := fun x y H Q => ∃ p xs i v, x = .ref p /\ y = .int i /\ SqL K H p xs /\ atI xs i = some v /\ Q v H
def rIxT (K : Fg) : R2 := fun x y H Q => ∃ p xs i v, x = .ref p /\ y = .int i /\ SqT K H p xs /\ atI xs i = some v /\ Q v H
def rIxS : R2 := fun x y H Q => ∃ z i c, x = .str z /\ y = .int i /\ z.length ≤ sizeLine /\ atI z.cps.toList i = some c /\ Q (.str ⟨#[c]⟩) H
theorem ix_list : IxR X (rIxL X.K) := by
 intro value slice pins s σ H x y v u Q I rx ry h hs
 obtain ⟨p, xs, i, z, rfl, rfl, hq, he, q⟩ := h
 cases rx
 obtain ⟨t, rfl⟩ := ry
 obtain ⟨its, r, pl, hz⟩ := I.list hq
 obtain ⟨j, h1, h2, h3, h4, h5⟩ := atI_get he
 obtain ⟨w, ew, rw'⟩ := r.get h2
 have hl := r.length
 have hn := line63
 have fin : EP X pins σ Q w s := ⟨z, H, I, rw', q⟩
 by_cases h0 : 0 ≤ i
 ·have hj : i.toNat = j := by
   rw [seqIndex_of h0 h5] at h1
   exact Option.some.inj h1
  exact item_listR pl.isList h0 (by omega) (by rw [hj]; simpa using ew) fin hs
 ·have hj : (i + (its.toArray.size : Int)).toNat = j := by
   rw [seqIndex_neg (by omega) h4] at h1
   rw [List.size_toArray, ← hl]
   exact Option.some.inj h1
  exact subscriptTail_builtinR (x := w) pl.isList.typeIs slot_list_getitem.lookup
   (wpAny_getItem_list_neg (Q := fun r s' => r = w /\ EP X pins σ Q r s') pl.isList (by omega) (by rw [List.size_toArray] <;> omega) (by omega) (by rw [hj]; simpa using ew) ⟨rfl, fin⟩) hs
theorem ix_tup : IxR X (rIxT X.K) := by
 intro value slice pins s σ H x y v u Q I rx ry h hs
 obtain ⟨p, xs, i, z, rfl, rfl, hq, he, q⟩ := h
 cases rx
 obtain ⟨t, rfl⟩ := ry
 obtain ⟨its, r, pl, hz⟩ := I.tuple hq
 obtain ⟨j, h1, h2, h3, h4, h5⟩ := atI_get he
 obtain ⟨w, ew, rw'⟩ := r.get h2
 have hl := r.length
 have hn := line63
 have fin : EP X pins σ Q w s := ⟨z, H, I, rw', q⟩
 exact subscriptTail_builtinR (x := w) pl.typeIs slot_tuple_getitem.lookup
  (getItem_tuple (j := j) (Q := fun r s' => r = w /\ EP X pins σ Q r s') pl (by omega) (by omega) (by rw [List.size_toArray, ← hl]; exact h1) (by simpa using ew) ⟨rfl, fin⟩) hs
def rIx (K : Fg) : R2 := fun x y H Q => rIxL K x y H Q ∨ rIxT K x y H Q ∨ rIxS x y H Q
theorem mapSeq_set (its : List Value) (n j : Nat) (u : Value) : Obj.mapSeq (·.setIfInBounds j u) { cls := .type "list", data := .seq its.toArray n } = { cls := .type "list", data := .seq (its.set j u).toArray n } := by
 simp [Obj.mapSeq]
theorem Inv.lst {pins : PLs} {σ : St} {H : Hp} {s : Shared} {p : Addr} {xs : List V} (I : Inv X pins σ H s) (h : H p = some (.lst xs)) :
  ∃ (its : List Value) (n : Nat), Vals xs its /\ s.heap.get? p = some { cls := .type "list", data := .seq its.toArray n } /\ xs.length ≤ sizeLine := by
 obtain ⟨z, its, n, r, e⟩ := I.hok p _ h
 exact ⟨its, n, r, e, z⟩
theorem Inv.lstUpd {pins : PLs} {σ : St} {H : Hp} {s : Shared} {p : Addr} {xs ys : List V} {its its' : List Value} {n n' : Nat} {f : Obj -> Obj} (I : Inv X pins σ H s) (h : H p = some (.lst xs))
  (ho : s.heap.get? p = some { cls := .type "list", data := .seq its.toArray n }) (hf : f { cls := .type "list", data := .seq its.toArray n } = { cls := .type "list", data := .seq its'.toArray n' }) (r : Vals ys its') (hz : ys.length ≤ sizeLine) (t : Nat) :
  Inv X pins σ (upd H p (.lst ys)) { s with heap := s.heap.update p f, toks := t } := by
 have e : (s.heap.update p f).get? p = some { cls := .type "list", data := .seq its'.toArray n' } := by
  rw [Heap.get?_update_self f ho (by rw [hf] <;> rfl), hf]
 refine I.write (x := p) (e := p) (by rw [h]; trivial) (.inl rfl) (fun b u hb q => (Heap.get?_update_other _ _ (Ne.symm hb)).trans q) ⟨_, e⟩ ?_
 exact ⟨hz, its', n', r, e⟩
def rSetL : V -> V -> V -> Hp -> (Hp -> Prop) -> Prop := fun o i v H Q => ∃ p xs k j, o = .ref p /\ i = .int k /\ H p = some (.lst xs) /\ ixN xs.length k = some j /\ Q (upd H p (.lst (xs.set j v)))
theorem set_list : PSet X rSetL := by
 intro pins s σ H o i v ov iv u Q I ro ri rv h
 obtain ⟨p, xs, k, j, rfl, rfl, hp, hj, q⟩ := h
 cases ro
 obtain ⟨t, rfl⟩ := ri
 obtain ⟨its, n, r, ho, hz⟩ := I.lst hp
 obtain ⟨h1, h2, h3, h4⟩ := ixN_seq hj
 have hl := r.length
 have hn := line63
 have I' : Inv X pins σ (upd H p (.lst (xs.set j v))) { s with heap := s.heap.update p (Obj.mapSeq (·.setIfInBounds j u)) } :=
  I.lstUpd hp ho (mapSeq_set its n j u) (r.set rv j) (by rw [List.length_set]; exact hz) s.toks
 by_cases h0 : 0 ≤ k
 ·have hk : k.toNat = j := by
   rw [seqIndex_of h0 h4] at h1
   exact Option.some.inj h1
  exact PySem.W.ki_setAt ho h0 (by omega) (by rw [List.size_toArray, ← hl]; exact h4) (by rw [hk]; exact ⟨_, I', q⟩)
 ·have hk : (k + (its.toArray.size : Int)).toNat = j := by
   rw [seqIndex_neg (by omega) h3] at h1
   rw [List.size_toArray, ← hl]
   exact Option.some.inj h1
  exact PySem.W.ki_setBack ho (by omega) (by rw [List.size_toArray, ← hl]; exact h3) (by omega) (by rw [hk]; exact ⟨_, I', q⟩)
theorem slice_bounds (lo hi : Option Int) (n : Nat) : (sliceBounds lo hi none n).1 = ((HT.sIx n 0 lo : Nat) : Int) /\ (sliceBounds lo hi none n).2.1 = ((HT.sIx n n hi : Nat) : Int) /\ (sliceBounds lo hi none n).2.2 = 1 := by
 refine ⟨?_, ?_, rfl⟩
 ·cases lo with
  | none => simp [sliceBounds, HT.sIx]
  | some i =>
   simp only [sliceBounds, HT.sIx, Option.getD_none, show (1 : Int) > 0 by decide, if_true]
   by_cases h : i < 0
   ·simp only [h, if_true] <;> omega
   ·simp only [h, if_false] <;> omega
 ·cases hi with
  | none => simp [sliceBounds, HT.sIx]
  | some i =>
   simp only [sliceBounds, HT.sIx, Option.getD_none, show (1 : Int) > 0 by decide, if_true]
   by_cases h : i < 0
   ·simp only [h, if_true] <;> omega
   ·simp only [h, if_false] <;> omega
theorem slicePick_cut (its : List Value) (lo hi : Option Int) : slicePick its.toArray lo hi none = ((its.drop (HT.sIx its.length 0 lo)).take (HT.sIx its.length its.length hi - HT.sIx its.length 0 lo)).toArray := by
 obtain ⟨h1, h2, h3⟩ := slice_bounds lo hi its.toArray.size
 unfold slicePick
 rw [h1, h2, h3]
 simp only [sliceRange_one, pick_run, List.size_toArray] <;> rfl
def rSlL (K : Fg) : V -> Option Int -> Option Int -> Hp -> VK -> Prop := fun x lo hi H Q => ∃ a xs, x = .ref a /\ SqL K H a xs /\ ∀ p, H p = none -> Q (.ref p) (upd H p (.lst (cutV xs lo hi)))
theorem sl_list : SlR X (rSlL X.K) := by
 intro pins s σ H x v vl vu lo hi sl Q I rx hs pl pu h
 obtain ⟨a, xs, rfl, hx, q⟩ := h
 cases rx
 obtain ⟨its, r, ht, hz⟩ := I.list hx
 have hlen := r.length
 refine ⟨"list", _, slot_list_getitem.lookup, ht.isList.typeIs, ?_⟩
 refine wpAny_getItem_list_slice ht.isList hs pl pu .none (by simp) ?_ (by rw [List.size_toArray] <;> omega)
 rw [slicePick_cut, ← hlen]
 refine ⟨.ref s.heap.objs.size, _, I.laid (t' := s.toks) (o := .lst (cutV xs lo hi)) (fun b ob q => Heap.get?_push_of_some _ q) (Nat.le_refl _) ?_, rfl, q _ (I.hok.fresh (Nat.le_refl _))⟩
 exact ⟨Nat.le_trans (cutV_length xs lo hi) hz, _, 0, (r.drop (HT.sIx xs.length 0 lo)).take (HT.sIx xs.length xs.length hi - HT.sIx xs.length 0 lo), Heap.get?_push_size _ rfl⟩
def flatV : V -> Bool
 | .non => true
 | .bl _ => true
 | .int _ => true
 | .str _ => true
 | _ => false
def eqV : V -> V -> Bool
 | .non, .non => true
 | .bl a, .bl b => a == b
 | .bl a, .int b => (if a then 1 else 0) == b
 | .int a, .bl b => a == (if b then 1 else 0)
 | .int a, .int b => a == b
 | .str a, .str b => a == b
 | _, _ => false
def eqU (x : V) (u : Value) : Bool := match u with
 | .none => eqV .non x
 | .bool b => eqV (.bl b) x
 | .int i _ => eqV (.int i) x
 | .str z _ => eqV (.str z) x
 | _ => false
def inV (x : V) (xs : List V) : Bool := xs.any fun y => eqV y x
def rIn (K : Fg) (neg : Bool) : R2 := fun x y H Q => ∃ p xs, y = .ref p /\ (SqL K H p xs ∨ SqT K H p xs) /\ flatV x = true /\ xs.all flatV = true /\ Q (.bl (if neg then !inV x xs else inV x xs)) H
theorem call_len_seq : CallR X (.builtin "len") (fun xs H Q => ∃ p ys, xs = [.ref p] /\ (SqL X.K H p ys ∨ SqT X.K H p ys) /\ Q (.int ys.length) H) := by
 intro pins s σ H xs us Q I r h
 obtain ⟨p, ys, rfl, hq, q⟩ := h
 obtain ⟨u, rfl, rx⟩ := vals1 r
 cases rx
 have hn := line63
 rcases hq with hq | hq
 ·obtain ⟨its, r', pl, hz⟩ := I.list hq
  have hlen := r'.length
  exact Calls.call_len_list pl.isList (by simp only [List.size_toArray] <;> omega) ⟨.int ys.length, H, I.tok _, ⟨s.toks + 1, by rw [List.size_toArray, hlen]⟩, q⟩
 ·obtain ⟨its, r', pl, hz⟩ := I.tuple hq
  have hlen := r'.length
  exact len_tuple pl (by simp only [List.size_toArray] <;> omega) ⟨.int ys.length, H, I.tok _, ⟨s.toks + 1, by rw [List.size_toArray, hlen]⟩, q⟩
theorem call_len_str : CallR X (.builtin "len") (fun xs H Q => ∃ z, xs = [.str z] /\ z.length ≤ sizeLine /\ Q (.int z.length) H) := by
 intro pins s σ H xs us Q I r h
 obtain ⟨z, rfl, hz, q⟩ := h
 obtain ⟨u, rfl, t, rfl⟩ := vals1 r
 have hn := line63
 exact len_str (by omega) ⟨.int z.length, H, I.tok _, ⟨_, rfl⟩, q⟩
theorem call_tuple_of : CallR X (.type "tuple") (fun xs H Q => ∃ p ys, xs = [.ref p] /\ ((SqL X.K H p ys /\ ∀ l, H l = none -> Q (.ref l) (upd H l (.tup ys))) ∨ (SqT X.K H p ys /\ Q (.ref p) H))) := by
 intro pins s σ H xs us Q I r h
 obtain ⟨p, ys, rfl, h⟩ := h
 obtain ⟨u, rfl, rx⟩ := vals1 r
 cases rx
 rcases h with ⟨hq, q⟩ | ⟨hq, q⟩
 ·obtain ⟨its, r', pl, hz⟩ := I.list hq
  have hlen := r'.length
  refine call_tuple_list pl.isList (fun h' kp => ?_) (by simp only [List.size_toArray] <;> omega)
  have I1 : Inv X pins σ H { s with heap := h' } := I.kept (t' := s.toks) kp
  have I2 : Inv X pins σ (upd H h'.objs.size (.tup ys)) { s with heap := h'.push { cls := .type "tuple", data := .seq its.toArray } } :=
   I1.laid (t' := s.toks) (fun b o e => Heap.get?_push_of_some _ e) (Nat.le_refl _) (show ObjOk X.prog X.w _ _ _ (.tup ys) from ⟨hz, its, r', IsTup.new _ _⟩)
  exact ⟨.ref h'.objs.size, _, I2, rfl, q _ (I1.hok.fresh (Nat.le_refl _))⟩
 ·obtain ⟨its, r', pl, hz⟩ := I.tuple hq
  exact call_tuple_same pl ⟨.ref p, H, I, rfl, q⟩
def tyV (K : Fg) (T : String) (x : V) (H : Hp) : Prop := match x with
 | .str _ => T = "str"
 | .int _ => T = "int"
 | .ref p => (T = "list" /\ ∃ xs, SqL K H p xs) ∨ (T = "tuple" /\ ∃ o, K.lookup p = some o /\ o.cls = .type "tuple" /\ o.dict = none) ∨
   (T = "dict" /\ ((∃ kvs, H p = some (.dK kvs)) ∨ ∃ kvs, H p = some (.dT kvs))) ∨ (T = "set" /\ ∃ S n, H p = some (.set S n))
 | _ => False
theorem tyV_is {pins : PLs} {σ : St} {H : Hp} {s : Shared} {T : String} {x : V} {v : Value} (I : Inv X pins σ H s) (r : RelV x v) (ty : tyV X.K T x H) :
  s.TypeIs v T /\ ∀ a, v = .ref a -> ∃ ob, s.heap.get? a = some ob /\ ob.dict = none := by
 cases x with
 | str z =>
  obtain ⟨t, rfl⟩ := r
  cases (show T = "str" from ty)
  exact ⟨typeIs_str s z t, fun _ e => nomatch e⟩
 | int i =>
  obtain ⟨t, rfl⟩ := r
  cases (show T = "int" from ty)
  exact ⟨typeIs_int s i t, fun _ e => nomatch e⟩
 | ref p =>
  cases r
  rcases ty with ⟨rfl, xs, hq⟩ | ⟨rfl, o, hk, hc, hd⟩ | ⟨rfl, hk⟩ | ⟨rfl, S, n, hk⟩
  ·obtain ⟨its, _, pl, _⟩ := I.list hq
   refine ⟨pl.isList.typeIs, fun a e => ?_⟩
   cases e
   obtain ⟨o, n, e, c, hd, _⟩ := pl
   exact ⟨o, e, hd⟩
  ·refine ⟨⟨o, I.kIn p o hk, hc⟩, fun a e => ?_⟩
   cases e
   exact ⟨o, I.kIn _ o hk, hd⟩
  ·have z : ∃ o, s.heap.get? p = some o /\ o.ExactDict := by
    rcases hk with ⟨kvs, hk⟩ | ⟨kvs, hk⟩
    ·obtain ⟨_, _, _, _, o, _, _, e, ex, _⟩ := I.hok p _ hk
     exact ⟨o, e, ex⟩
    ·obtain ⟨_, _, _, _, o, _, _, e, ex, _⟩ := I.hok p _ hk
     exact ⟨o, e, ex⟩
   obtain ⟨o, e, ex⟩ := z
   refine ⟨⟨o, e, ex.1⟩, fun a e2 => ?_⟩
   cases e2
   exact ⟨o, e, ex.2.1⟩
  ·obtain ⟨o, _, _, _, e, ex, _⟩ := I.hok p _ hk
   refine ⟨⟨o, e, ex.1⟩, fun a e2 => ?_⟩
   cases e2
   exact ⟨o, e, ex.2.1⟩
 | _ => exact False.elim ty
def tBM0 (K : Fg) (T : String) (r : V -> List V -> Hp -> VK -> Prop) (to : TE) : TE := fun σ H Q => to σ H fun x H1 => tyV K T x H1 /\ r x [] H1 Q
def tBM (K : Fg) (T : String) (r : V -> List V -> Hp -> VK -> Prop) (to : TE) (t : TA) : TE := fun σ H Q => to σ H fun x H1 => tyV K T x H1 /\ t σ H1 fun xs H2 => r x xs H2 Q
variable {o e : Expr} {es : List Expr} {to : TE} {t : TA} {name : Str} {apos cpos : Pos} {T id : String} {r : V -> List V -> Hp -> VK -> Prop}
theorem pe_bm0 (pa : PlainAttrs T) (slot : Slot T name id) (hty : typeOf (.builtin id) = pure (.type "method_descriptor")) (hm : MtR X id r) (ho : PE X o to)
  (hbase : attributeBase o name X.env (eval o X.env) = eval o X.env := by rfl) (hline : (apos.endLine == cpos.line) = true := by rfl) : PE X (.Call (.Attribute o name apos) [] [] cpos) (tBM0 X.K T r to) := by
 intro pins s σ H Q I h
 refine wpAny_Call_method0_late hbase hline (thn (ho pins s σ H _ I h) fun v s1 ⟨x, H1, I1, r1, ty, q1⟩ => ?_)
 obtain ⟨h1, h2⟩ := tyV_is I1 r1 ty
 exact ⟨T, id, pa, slot, hty, h1, h2, Calls.callWith_builtin rfl (PySem.evalArgs_none (hm pins s1 σ H1 x [] v [] Q I1 r1 .nil q1))⟩
theorem pe_bm (pa : PlainAttrs T) (slot : Slot T name id) (hty : typeOf (.builtin id) = pure (.type "method_descriptor")) (hm : MtR X id r) (ho : PE X o to) (ha : PA X (e :: es) t)
  (hbase : attributeBase o name X.env (eval o X.env) = eval o X.env := by rfl)
  (hfew : ((backTo cpos (starEach (e :: es) X.env)).all (fun x => !x.1) && (backToKw cpos (keywordEach [] X.env)).all (fun x => x.1.isSome)
   && decide ((e :: es).length + ([] : List Keyword).length + (if ([] : List Keyword).isEmpty then 0 else 1) < 30)) = true := by rfl)
  (hline : (apos.endLine == cpos.line) = true := by rfl) (hs : starEach (e :: es) X.env = (false, eval e X.env) :: starEach es X.env := by rfl) (hplain : (backTo cpos (starEach es X.env)).any (·.1) = false := by rfl) :
  PE X (.Call (.Attribute o name apos) (e :: es) [] cpos) (tBM X.K T r to t) := by
 intro pins s σ H Q I h
 refine wpAny_Call_method_late hbase hfew hline rfl (thn (ho pins s σ H _ I h) fun v s1 ⟨x, H1, I1, r1, ty, q1⟩ => ?_)
 obtain ⟨h1, h2⟩ := tyV_is I1 r1 ty
 refine ⟨T, id, pa, slot, hty, h1, h2, ?_⟩
 have hA := ha cpos pins s1 σ H1 _ I1 q1
 rw [hs] at hA ⊢
 refine Calls.callWith_builtin (by show (false || (backTo cpos (starEach es X.env)).any (·.1)) = false; rw [hplain] <;> rfl) (Calls.evalArgs_plain ?_)
 exact thn hA fun us s2 ⟨vs, H2, I2, r2, q2⟩ => hm pins s2 σ H2 x vs v us Q I2 r1 r2 q2
end
end L2
namespace L2
open PySem PySem.Spec PyProof.Rows
def MtM (X : Cx) (id : String) (r : V -> List V -> Hp -> VK -> Prop) : Prop :=
 ∀ (pins : PLs) (s : Shared) (σ : St) (H : Hp) (x : V) (xs : List V) (v : Value) (us : List Value) (Q : VK), Inv X pins σ H s -> RelV x v -> Vals xs us -> r x xs H Q →
  wpAny (model X.prog X.w) X.A (call (.builtin id) (v :: us)) (EP X pins σ Q) X.xe s
theorem Vals.one : ∀ {x : V} {us : List Value}, Vals [x] us -> ∃ u, us = [u] /\ RelV x u
 | _, _, .cons r .nil => ⟨_, rfl, r⟩
section
variable {X : Cx} {pins : PLs} {σ : St} {H : Hp} {s : Shared} {l b : Addr} {xs ys zs : List V}
theorem Inv.lset {its its' : List Value} {n : Nat} {f : Array Value -> Array Value} {t' : Nat} (I : Inv X pins σ H s) (hH : H l = some (.lst xs))
  (e : s.heap.get? l = some { cls := .type "list", data := .seq its.toArray n }) (hf : f its.toArray = its'.toArray) (hv : Vals ys its') (hz : ys.length ≤ sizeLine) :
  Inv X pins σ (upd H l (.lst ys)) { s with heap := s.heap.update l (Obj.mapSeq f), toks := t' } := by
 have q := PySem.IsL.update e f
 rw [hf] at q
 refine I.write (x := l) (e := l) (by rw [hH]; exact trivial) (.inl rfl) (fun b' u hb hu => (Heap.get?_update_other s.heap (Obj.mapSeq f) (Ne.symm hb)).trans hu) ⟨_, q⟩ ?_
 exact ⟨hz, its', _, hv, q⟩
theorem Inv.lnew {its : List Value} {t' : Nat} (I : Inv X pins σ H s) (hv : Vals ys its) (hz : ys.length ≤ sizeLine) :
  Inv X pins σ (upd H s.heap.objs.size (.lst ys)) { s with heap := s.heap.push { cls := .type "list", data := .seq its.toArray }, toks := t' } :=
 I.laid (fun _ _ q => Heap.get?_push_of_some _ q) (Nat.le_refl _) ⟨hz, its, 0, hv, Heap.get?_push_size _ rfl⟩
theorem Inv.fresh (I : Inv X pins σ H s) : H s.heap.objs.size = none := I.hok.fresh (Nat.le_refl _)
theorem Inv.lstM (I : Inv X pins σ H s) (hH : H l = some (.lst xs)) : xs.length ≤ sizeLine /\ ∃ (its : List Value) (n : Nat), Vals xs its /\ xs.length = its.length /\ s.heap.get? l = some { cls := .type "list", data := .seq its.toArray n } := by
 obtain ⟨z, its, n, r, e⟩ := I.hok l _ hH
 exact ⟨z, its, n, r, r.length, e⟩
end
section
variable {X : Cx}
def rAppend : V -> List V -> Hp -> VK -> Prop := fun x vs H Q => ∃ l xs y, x = .ref l /\ vs = [y] /\ H l = some (.lst xs) /\ xs.length < sizeLine /\ Q .non (upd H l (.lst (xs ++ [y])))
theorem mt_append : MtM X "list.append" rAppend := by
 intro pins s σ H x vs v us Q I rx rv h
 obtain ⟨l, xs, y, rfl, rfl, hH, hz, q⟩ := h
 cases rx
 obtain ⟨u, rfl, ru⟩ := rv.one
 obtain ⟨z, its, n, r, hl, e⟩ := I.lstM hH
 refine call_meets F.slot_list_append ⟨_, e, rfl⟩ F.entry_list_append (F.args_list_append_2 _ _) (PySem.list_append l its.toArray n u (by rw [List.size_toArray]; omega)) ⟨e, ?_⟩
 refine ⟨.non, _, I.lset (its' := its ++ [u]) hH e (by simp) (r.append (.cons ru .nil)) ?_, rfl, q⟩
 rw [List.length_append, List.length_singleton]
 omega
def rExtend : V -> List V -> Hp -> VK -> Prop := fun x vs H Q => ∃ l b xs zs, x = .ref l /\ vs = [.ref b] /\ H l = some (.lst xs) /\ H b = some (.lst zs) /\ xs.length + zs.length ≤ sizeLine /\ Q .non (upd H l (.lst (xs ++ zs)))
def rPop : V -> List V -> Hp -> VK -> Prop := fun x vs H Q => ∃ l xs y, x = .ref l /\ vs = [] /\ H l = some (.lst xs) /\ xs[xs.length - 1]? = some y /\ Q y (upd H l (.lst xs.dropLast))
def rPopAt : V -> List V -> Hp -> VK -> Prop := fun x vs H Q => ∃ l xs i k y, x = .ref l /\ vs = [.int i] /\ H l = some (.lst xs) /\ -(2 ^ 63) ≤ i /\ i < 2 ^ 63 /\ seqIndex? i xs.length = some k /\ xs[k]? = some y /\ Q y (upd H l (.lst (xs.eraseIdx k)))
def rReverse : V -> List V -> Hp -> VK -> Prop := fun x vs H Q => ∃ l xs, x = .ref l /\ vs = [] /\ H l = some (.lst xs) /\ Q .non (upd H l (.lst xs.reverse))
def rClear : V -> List V -> Hp -> VK -> Prop := fun x vs H Q => ∃ l xs, x = .ref l /\ vs = [] /\ H l = some (.lst xs) /\ Q .non (upd H l (.lst []))
def rCat : R2 := fun x y H Q => ∃ l b xs zs, x = .ref l /\ y = .ref b /\ H l = some (.lst xs) /\ H b = some (.lst zs) /\ xs.length + zs.length ≤ sizeLine /\ ∀ p, H p = none -> Q (.ref p) (upd H p (.lst (xs ++ zs)))
theorem op_cat : OpR X (binaryOp .Add) rCat := by
 intro pins s σ H x y v u Q I rx ry h
 obtain ⟨l, b, xs, zs, rfl, rfl, hH, hB, hz, q⟩ := h
 cases rx
 cases ry
 obtain ⟨z, its, n, r, hl, e⟩ := I.lstM hH
 obtain ⟨z2, its2, n2, r2, hl2, e2⟩ := I.lstM hB
 refine PySem.P.add_list e e2 ?_ (by rw [List.size_toArray, List.size_toArray]; omega)
 have ea : its.toArray ++ its2.toArray = (its ++ its2).toArray := by simp
 rw [ea]
 exact ⟨.ref _, _, I.lnew (t' := s.toks) (r.append r2) (by rw [List.length_append]; omega), rfl, q _ I.fresh⟩
def rRep : R2 := fun x y H Q => ∃ l k xs, x = .ref l /\ y = .int k /\ H l = some (.lst xs) /\ -(2 ^ 63) ≤ k /\ k < 2 ^ 63 /\ xs.length * k.toNat ≤ sizeLine ∧
 ∀ p, H p = none -> Q (.ref p) (upd H p (.lst (List.replicate k.toNat xs).flatten))
end
section
variable {prog : Program} {w : World} {A : Around} {E : VSP} {s : Shared}
end
section
variable {X : Cx}
end
end L2
namespace Att
open PySem PySem.W PySem.Calls PyProof.Rows
theorem ints_of_wellAll {P : Params} {h : Heap} : ∀ (ns : List Int) (vs : List Value), WellAll P h vs (ns.map WData.int) -> IntsAre vs ns := by
 intro ns
 induction ns with
 | nil =>
  intro vs w
  rw [List.map_nil] at w
  cases w
  exact .nil
 | cons n ns ih =>
  intro vs w
  rw [List.map_cons] at w
  cases w with
  | cons a b =>
   cases a
   exact .cons _ _ (ih _ b)
theorem script_of {l : OpenLaw} {n : Nat} (hn : l.most = some n) {P : Params} {h : Heap} {args : List WData} {vals : List Value}
  (hpre : l.row.toRowW.claim.pre args = true) (hwl : WellAll P h vals args) :
  ∃ a vs ns, vals = [Value.ref a] /\ args = [WData.list (ns.map WData.int)] /\ h.get? a = some { cls := .type "list", data := .seq vs.toArray } /\ IntsAre vs ns /\ ns.length ≤ n := by
 have hsh : WShape.hasAll [] args [.list .int] = true := (pre_splitW hpre).1
 have hc : l.pre.holds [] { args := args } = true := (pre_splitW hpre).2
 obtain ⟨d, r, rfl, h1, h2⟩ := hasAllW_cons hsh
 obtain rfl := hasAllW_nil h2
 obtain ⟨xs, rfl, h3⟩ := hasW_list h1
 obtain ⟨ns, rfl⟩ := items_int h3
 have hlen : ns.length ≤ n := by
  unfold OpenLaw.pre at hc
  have h4 : (WTm.not (.lt (.lit (.int (n : Int))) (.len (.arg 0)))).holds [] { args := [.list (ns.map .int)] } = true := by
   have h4 := (holds_andW hc).1
   rw [hn] at h4
   exact h4
  have h5 := condW_of h4 (w_not (w_lt w_lit (w_len_list (w_arg rfl))))
  rw [List.length_map] at h5
  refine Nat.le_of_not_lt fun q => ?_
  have q' : (n : Int) < ((ns.length : Nat) : Int) := by omega
  first
   | (rw [decide_eq_true q'] at h5; exact absurd h5 (by decide))
   | (simp at h5; omega)
 cases hwl with
 | cons w1 w2 =>
  cases w2
  cases w1 with
  | list ho hall => exact ⟨_, _, ns, rfl, rfl, ho, ints_of_wellAll ns _ hall, hlen⟩
theorem post_true (l : OpenLaw) (args : List WData) : l.row.toRowW.claim.post args (.bool true) args = true :=
 postW_of (r := l.row.toRowW) (X := (true == true))
  (show WShape.has [] (.bool true) .bool = true by first | rfl | decide | simp [WShape.has, WShape.arms, WShape.armsAll])
  (show (WTm.eq .res (.lit (.bool true))).value [] { args := args, res := some (.bool true), after := args } = some (.bool (true == true)) from w_eq_bool (w_res rfl) w_lit) rfl
theorem attach_call {l : OpenLaw} {n : Nat} {q : Program} {loose : List Str} {XP : (Str -> Option Value) -> Heap -> Prop} {YP : World -> Heap -> Prop} {d : DefRec}
  (hn : l.most = some n) (hdf : d.params.defaults = [])
  (call : ∀ (w : World) (s₀ s₁ : Shared) (mg mb : Str -> Option Value) (fa : Addr) (o : Obj) (pm cd doc : Value) (a : Addr) (vs : List Value) (ns : List Int),
   Ground q loose [] XP w s₀ mg mb s₁.heap -> YP w s₁.heap →
   s₁.heap.get? fa = some o -> o.data = .func (docDef d.name d.params d.body d.scope pm cd doc) -> s₁.heap.CodeRec cd d.name -> mg d.name = some (.ref fa) →
   s₁.heap.get? a = some { cls := .type "list", data := .seq vs.toArray } -> IntsAre vs ns -> ns.length ≤ n -> s₁.gens = #[] →
   codeAny (model l.prog w) callerA (.call (.ref fa) ⟨[.ref a], []⟩) (fun r s' => r = .ok (.ret (.bool true)) /\ OldK s₁.heap s'.heap /\ s'.os = s₁.os /\ AllBare s'.gens) s₁) :
  WalkO q loose XP YP l.row.toRowW d [] (fun f vs => PySem.call f vs) := by
 intro w s₀ s₁ mg mb G Y fa o pm cd doc dV kV ho hd hcd hD hmg hg args vals as hpre hlay hrd hwl hlo
 obtain rfl : dV = .none := Dflts.none hD hdf
 obtain rfl : kV = .none := Dflts.noKw hD
 obtain ⟨a, vs, ns, rfl, rfl, hobj, hints, hlen⟩ := script_of hn hpre hwl
 refine enter_call (codeAny_mono (call w s₀ s₁ mg mb fa o pm cd doc a vs ns G Y ho (fd_plain hd) hcd hmg hobj hints hlen hg) fun r s' hq => ?_)
 obtain ⟨rfl, h2, h3, h4⟩ := hq
 exact ⟨.inl ⟨.bool true, .bool true, [], rfl, fun _ => rfl, .bool true, post_true l _, fun _ => ⟨List.Pairwise.nil, fun _ hm => (nomatch hm)⟩⟩, h2, h3, h4⟩
section
variable {prog : Program} {w : World} {A : Around} {E : VSP} {s : Shared} {K : Frag}
def noObjs (h : Heap) : Heap := { h with objs := #[] }
def ledger (h : Heap) (L d : Addr) : PLs := (List.range h.objs.size).filterMap fun a => if a = L ∨ a = d then none else (h.get? a).map fun o => (a, o)
end
end Att
namespace L2
open PySem PySem.Spec PyProof.Rows
theorem vals_ints : ∀ {vs : List Value} {ns : List Int}, IntsAre vs ns -> Vals (ns.map V.int) vs
 | _, _, .nil => .nil
 | _, _, .cons n t h => .cons ⟨t, rfl⟩ (vals_ints h)
def Only (H : Hp) : Prop := ∀ b, H b = none ∨ ∃ o xs, H b = some (.frz o (.lst xs))
theorem law_call {P : Program} {w : World} {K : Fg} {mg mb : Str -> Option Value} {CX : CXT} {k : Nat} {fa a : Addr} {fd : FuncData} {x : Str} {sp : Sp} {s₁ : Shared} {vs : List Value} {ns : List Int}
  (KX : K.In s₁.heap) (hns : s₁.heap.Ns mainGlobals mg) (hb : s₁.heap.Ns builtinsNs mb) (hbb : ∀ x : Str, x ≠ "__name__" -> mb x = bootBuiltins x) (hlim : s₁.heap.NoLimit) (hg : s₁.gens = #[])
  (ha : s₁.heap.get? a = some { cls := .type "list", data := .seq vs.toArray }) (hi : IntsAre vs ns) (hl : ns.length ≤ sizeLine) (hr : Room k callerA)
  (F : ∀ base : Heap, K.In base -> base.Ns mainGlobals mg -> FnOk P w K mg base CX k fa fd [x] sp) (hbind : ∀ (s : Shared) (u : Value), BindsTo s fd ⟨[u], []⟩ [(x, u)])
  (hsp : ∀ H : Hp, Only H -> SqL K H a (ns.map V.int) -> sp [.ref a] H (fun v _ => v = .bl true) fun _ _ _ => False)
  (hCX : ∀ H e s', CX [] H s₁ (fun _ _ _ => False) e s' -> False) :
  codeAny (model P w) callerA (.call (.ref fa) ⟨[.ref a], []⟩) (fun r s' => r = .ok (.ret (.bool true)) /\ OldK s₁.heap s'.heap /\ s'.os = s₁.os /\ AllBare s'.gens) s₁ := by
 have rv := vals_ints hi
 have lenV := hi.length
 have core : ∀ H : Hp, Only H -> SqL K H a (ns.map V.int) -> HOk P w H s₁.heap -> (∀ b, H b ≠ none -> b = a) -> (H a ≠ none -> K.lookup a = none) →
   codeAny (model P w) callerA (.call (.ref fa) ⟨[.ref a], []⟩) (fun r s' => r = .ok (.ret (.bool true)) /\ OldK s₁.heap s'.heap /\ s'.os = s₁.os /\ AllBare s'.gens) s₁ := by
  intro H hO hS hok hA hK
  have base_of : ∀ {b : Addr} {o : Obj}, s₁.heap.get? b = some o -> H b = none -> (hidT s₁.heap H).get? b = some o := fun e n => hidT_get e n
  have noA : ∀ {b : Addr} {o : Obj} {es : Array DictEntry} {ep : Nat}, s₁.heap.get? b = some o -> o.data = .dict es ep -> H b = none := fun {b o es ep} e d => by
   cases q : H b with
   | none => rfl
   | some u =>
    have e' : b = a := hA b (by rw [q]; simp)
    subst e'
    rw [ha] at e; cases e
    have d' : Data.seq vs.toArray _ = Data.dict es ep := d
    cases d'
  have nsK : ∀ {b : Addr} {m : Str -> Option Value}, s₁.heap.Ns b m -> (hidT s₁.heap H).Ns b m := fun {b m} ⟨o, es, ep, e, d, r⟩ => ⟨o, es, ep, base_of e (noA e d), d, r⟩
  have hKb : K.In (hidT s₁.heap H) := fun b o e => base_of (KX b o e) (by
   cases q : H b with
   | none => rfl
   | some u =>
    have e' : b = a := hA b (by rw [q]; simp)
    subst e'
    rw [hK (by rw [q]; simp)] at e; cases e)
  have hM : Mod K mg (hidT s₁.heap H) := ⟨hKb, nsK hns, ⟨mb, nsK hb, hbb⟩, let ⟨mc, h1, h2⟩ := hlim; ⟨mc, nsK h1, h2⟩⟩
  have e0 : Env0 P w K mg (hidT s₁.heap H) callerA [] s₁ H := ⟨rfl, hM, fun b o e => of_hidT e, Nat.le_of_eq (hidT_size _ _), trivial, fun b hb => absurd (show b ∈ ([] : List Addr) from hb) (by simp), hok, .of_eq hg⟩
  refine codeAny_mono ((F _ hKb (nsK hns)).run callerA [] s₁ H ⟨[.ref a], []⟩ [.ref a] [.ref a] _ _ hr e0 (hbind s₁ (.ref a)) (.cons rfl .nil) (hsp H hO hS)) fun r s' h => ?_
  cases r with
  | error e => exact (hCX H e s' h).elim
  | ok fl =>
   cases fl with
   | next => exact False.elim h
   | brk => exact False.elim h
   | cont => exact False.elim h
   | ret u =>
    obtain ⟨v, H', os, bare, un, hok', r', q⟩ := h
    have q' : v = .bl true := q
    subst q'
    obtain rfl : u = Value.bool true := r'
    refine ⟨rfl, OldK.of_keep fun b o e => ?_, os, bare⟩
    cases q : H b with
    | none => exact un.keep b o e q (by intro z; exact absurd (show b ∈ ([] : List Addr) from z) (by simp)) (by simp)
    | some u =>
     rcases hO b with z | ⟨ob, xs, z⟩
     ·rw [q] at z; cases z
     ·have z2 := un.frzs b ob _ z
      obtain ⟨e1, _⟩ := hok b _ z
      obtain ⟨e2, _⟩ := hok' b _ z2
      rw [e] at e1; cases e1
      exact e2
 cases hk : K.lookup a with
 | some o =>
  have e := KX a o hk
  rw [ha] at e
  cases e
  refine core (fun _ => none) (fun _ => .inl rfl) (.inr ⟨_, vs.toArray, _, hk, rfl, rfl, rfl, by rw [List.size_toArray, lenV]; exact hl, by simpa using rv⟩) (fun b u z => by have z' : (none : Option HO) = some u := z; cases z') (fun b z => absurd rfl z) fun z => absurd rfl z
 | none =>
  refine core (fun b => if b = a then some (.frz { cls := .type "list", data := .seq vs.toArray } (.lst (ns.map V.int))) else none) (fun b => ?_) (.inl (.inr ⟨{ cls := .type "list", data := .seq vs.toArray }, if_pos rfl⟩)) (fun b u z => ?_) (fun b z => ?_) fun _ => hk
  ·by_cases hb : b = a
   ·exact .inr ⟨_, _, if_pos hb⟩
   ·exact .inl (if_neg hb)
  ·by_cases hb : b = a
   ·have z' := (if_pos hb).symm.trans z
    cases z'
    subst hb
    exact ⟨ha, by rw [List.length_map]; exact hl, vs, _, rv, ha⟩
   ·have z' := (if_neg hb).symm.trans z
    cases z'
  ·by_cases hb : b = a
   ·exact hb
   ·exact absurd (if_neg hb) z
end L2
namespace L2
open PySem PySem.Spec PyProof.Rows
abbrev KOf {K : Fg} {h : Heap} (_ : K.In h) : Fg := K
theorem walk_of {l : PySem.W.OpenLaw} {n k : Nat} {q : Program} {loose : List Str} {XP : (Str -> Option Value) -> Heap -> Prop} {YP : World -> Heap -> Prop} {d : DefRec} {K : Params -> Fg} {CX : World -> CXT} {sp : World -> Sp} {x : Str}
  (hn : l.most = some n) (hn2 : n ≤ sizeLine) (hdf : d.params.defaults = []) (hr : Room k callerA)
  (hY : ∀ (w : World) (h : Heap), YP w h -> (K w.params).In h)
  (F : ∀ (w : World) (mg : Str -> Option Value) (fa : Addr) (h : Heap), (K w.params).In h -> h.Ns mainGlobals mg -> mg d.name = some (.ref fa) →
   ∃ fd : FuncData, (∀ (s : Shared) (u : Value), BindsTo s fd ⟨[u], []⟩ [(x, u)]) ∧
    ∀ base : Heap, (K w.params).In base -> base.Ns mainGlobals mg -> FnOk l.prog w (K w.params) mg base (CX w) k fa fd [x] (sp w))
  (hsp : ∀ (w : World) (H : Hp) (a : Addr) (ns : List Int), ns.length ≤ n -> Only H -> SqL (K w.params) H a (ns.map V.int) -> sp w [.ref a] H (fun v _ => v = .bl true) fun _ _ _ => False)
  (hCX : ∀ (w : World) (H : Hp) (s : Shared) (e : Value) (s' : Shared), CX w [] H s (fun _ _ _ => False) e s' -> False) :
  PySem.W.WalkO q loose XP YP l.row.toRowW d [] (fun f vs => PySem.call f vs) := by
 refine Att.attach_call hn hdf fun w s₀ s₁ mg mb fa o pm cd doc a vs ns G Y ho hd hcd hmg hobj hints hlen hg => ?_
 have KX := hY w _ Y
 obtain ⟨fd, hb, hF⟩ := F w mg fa _ KX G.T.g hmg
 exact law_call KX G.T.g G.T.b G.T.builtins G.T.nolimit hg hobj hints (Nat.le_trans hlen hn2) hr hF hb (fun H hO hS => hsp w H a ns hlen hO hS) fun H e s' => hCX w H s₁ e s'
end L2
namespace L2
open PySem PySem.Spec PyProof.Rows
def inClass (s : Stmt) (j : Nat) : Stmt := match s with
 | .ClassDef _ _ _ body _ _ _ _ _ _ _ => body.getD j (.Pass ⟨0, 0, 0, 0⟩)
 | _ => .Pass ⟨0, 0, 0, 0⟩
def defArgs (s : Stmt) : Arguments := match s with
 | .FunctionDef _ a _ _ _ _ _ _ _ _ => a
 | _ => { posonlyargs := [], args := [], vararg := none, kwonlyargs := [], kw_defaults := [], kwarg := none, defaults := [] }
def defBody (s : Stmt) : List Stmt := match s with
 | .FunctionDef _ _ b _ _ _ _ _ _ _ => b
 | _ => []
def defScope (s : Stmt) : Scope := match s with
 | .FunctionDef _ _ _ _ _ _ sc _ _ _ => sc
 | _ => { kind := .function, names := [], isGenerator := false, isCoroutine := false }
abbrev CX0 : CXT := fun _ _ _ _ _ _ => False
abbrev E0 : XK := fun _ _ _ => False
theorem pass0 {X : Cx} : Passes CX0 X E0 := fun _ _ _ _ _ _ _ h => h.elim
structure Fun (K : Fg) (x qual : Str) (st : Stmt) (f : Addr) (fd : FuncData) : Prop where
 ex : ∃ (oc : Value) (od : Option Addr) (kV doc pm : Value) (an : Option Addr) (cdv ct : Value) (osl : Array (Option Value)),
  fd = PySem.W.fnOf x qual (defArgs st) (defBody st) (defScope st) .none kV doc pm an cdv ct /\ K.lookup f = some ⟨oc, od, .func fd, osl⟩ /\ PySem.W.codeIn K cdv qual = true
 kp : PySem.W.keepIn K (.ref f) = true
section
variable {P : Program} {w : World} {K : Fg} {mg : Str -> Option Value} {base : Heap}
theorem Fun.ok {x qual : Str} {st : Stmt} {f : Addr} {fd : FuncData} {N ps : List Str} {k : Nat} {sp : Sp} (F : Fun K x qual st f fd) (S : FnScope N ps (defScope st)) (len : ∀ vs H Q E, sp vs H Q E -> vs.length = ps.length)
  (hbody : ∀ (cdv : Value) (A : Around) (outer : List Env) (s : Shared) (H : Hp) (vs : List V) (Q : VK) (E : XK), Room k (A.deeper (envOfC qual (defScope st) s.heap.objs.size f cdv)) -> sp vs H Q E →
   ∃ t, PSs (cxOf CX0 P w K mg base N qual (defScope st) f cdv A outer s H E).nox (defBody st) t /\ t { nx := fun _ H' => Q .non H', rt := Q } (start N vs) H) : FnOk P w K mg base CX0 (k + 1) f fd ps sp := by
 obtain ⟨oc, od, kV, doc, pm, an, cdv, ct, osl, rfl, lk, hcd⟩ := F.ex
 refine fn_of lk hcd S len fun A outer s H vs Q E hr hsp => ?_
 obtain ⟨t, h, q⟩ := hbody cdv A outer s H vs Q E hr hsp
 exact ⟨t, h.nox, q⟩
theorem Fun.binds {x qual : Str} {st : Stmt} {f : Addr} {fd : FuncData} {ps : List Str} (F : Fun K x qual st f fd)
  (h : ∀ (kV doc pm : Value) (an : Option Addr) (cdv ct : Value) (us : List Value), us.length = ps.length -> bindArgs (PySem.W.fnOf x qual (defArgs st) (defBody st) (defScope st) .none kV doc pm an cdv ct) ⟨us, []⟩ = pure (ps.zip us)) : Binds K fd ps [] := by
 obtain ⟨oc, od, kV, doc, pm, an, cdv, ct, osl, rfl, lk, hcd⟩ := F.ex
 exact .all (h kV doc pm an cdv ct)
theorem fun_mk {x qual : Str} {st : Stmt} {f : Addr} {oc : Value} {od an : Option Addr} {osl : Array (Option Value)} {kV doc pm cdv ct : Value} (l : K.lookup f = some ⟨oc, od, .func (PySem.W.fnOf x qual (defArgs st) (defBody st) (defScope st) .none kV doc pm an cdv ct), osl⟩)
  (c : PySem.W.codeIn K cdv qual = true) (k : PySem.W.keepIn K (.ref f) = true) : Fun K x qual st f (PySem.W.fnOf x qual (defArgs st) (defBody st) (defScope st) .none kV doc pm an cdv ct) := ⟨⟨oc, od, kV, doc, pm, an, cdv, ct, osl, rfl, l, c⟩, k⟩
end
theorem small1000 {n : Nat} (h : n ≤ 1000) : n < sizeLine := Nat.lt_of_le_of_lt h (by decide)
section
variable {X : Cx}
theorem pv (i : Nat) {x : Str} {pos : Pos} (hN : X.N[i]? = some x := by rfl) (hv : Vis X.env.scope x := by first | exact Or.inl rfl | exact Or.inr (Or.inl rfl) | exact Or.inr (Or.inr rfl)) (hd : (x == ("__debug__" : Str)) = false := by decide)
  (hcd : (x == ("__classdict__" : Str)) = false := by decide) : PE X (.Name x pos) (tVar i) := pe_var hN hv hd hcd
end
theorem iteF {A B : Prop} (h : B) : if false = true then A else B := by
 rw [if_neg Bool.false_ne_true]
 exact h
theorem iteT {A B : Prop} (h : A) : if true = true then A else B := by
 rw [if_pos rfl]
 exact h
theorem ite2 {c A B : Prop} [Decidable c] (h1 : c -> A) (h2 : ¬ c -> B) : if c then A else B := by
 by_cases h : c
 ·rw [if_pos h]
  exact h1 h
 ·rw [if_neg h]
  exact h2 h
theorem iteNS {c A B : Prop} [Decidable c] (hc : c) (h : B) : if (!decide c) = true then A else B := by
 rw [decide_eq_true hc]
 exact iteF h
def Same (H H' : Hp) : Prop := ∀ b o, H b = some o -> H' b = some o
theorem Same.refl (H : Hp) : Same H H := fun _ _ h => h
theorem Same.trans {H H1 H2 : Hp} (a : Same H H1) (b : Same H1 H2) : Same H H2 := fun c o h => b c o (a c o h)
theorem Same.seq {K : Fg} {H H' : Hp} {a : Addr} {xs : List V} (e : Same H H') (h : SqL K H a xs) : SqL K H' a xs := by
 rcases h with (h | ⟨o, h⟩) | h
 ·exact .inl (.inl (e _ _ h))
 ·exact .inl (.inr ⟨o, e _ _ h⟩)
 ·exact .inr h
end L2
set_option maxHeartbeats 4000000
namespace B
open PySem L2 PyProof.Rows
theorem iteN1 {c A B : Prop} [Decidable c] (hc : ¬ c) (h : A) : if (!decide c) = true then A else B := by
 have e : (!decide c) = true := by rw [decide_eq_false hc]; rfl
 rw [if_pos e]; exact h
theorem iteD1 {c A B : Prop} [Decidable c] (hc : c) (h : A) : if decide c = true then A else B := by
 rw [if_pos (decide_eq_true hc)]; exact h
theorem iteD0 {c A B : Prop} [Decidable c] (hc : ¬ c) (h : B) : if decide c = true then A else B := by
 have e : ¬ decide c = true := by rw [decide_eq_false hc]; intro z; cases z
 rw [if_neg e]; exact h
theorem iteB1 {b : Bool} {A B : Prop} (hb : b = true) (h : A) : if b = true then A else B := by rw [if_pos hb]; exact h
theorem iteB0 {b : Bool} {A B : Prop} (hb : b = false) (h : B) : if b = true then A else B := by
 rw [if_neg (by rw [hb]; intro z; cases z)]; exact h
def kitTT (A B : String) : Option Bool := if (Value.type A == Value.type B) = true then some true else if PySem.W.kitMeta B = true then (fastBuiltinMro A).map (·.contains (.type B)) else none
theorem kit_of {K : Fg} {A B : String} {b : Bool} (h : kitTT A B = some b) : PySem.W.kitOne K (.type A) (.type B) = some b := h
inductive Ty (H : Hp) : V -> String -> Prop where
 | non : Ty H .non "NoneType"
 | bl (b : Bool) : Ty H (.bl b) "bool"
 | int (i : Int) : Ty H (.int i) "int"
 | str (x : Str) : Ty H (.str x) "str"
 | lst {a : Addr} {xs : List V} (e : H a = some (.lst xs)) : Ty H (.ref a) "list"
 | tup {a : Addr} {xs : List V} (e : H a = some (.tup xs)) : Ty H (.ref a) "tuple"
theorem Ty.of {H : Hp} {v : V} {n : String} (K : Fg) (h : Ty H v n) : TyOf K H v (.type n) := by
 cases h with
 | non => exact .non
 | bl b => exact .bl b
 | int i => exact .int i
 | str x => exact .str x
 | lst e => exact .lst e
 | tup e => exact .tup e
def rIsi : List V -> Hp -> VK -> Prop := fun xs H Q => ∃ x n m b, xs = [x, .ty n] /\ Ty H x m /\ kitTT m n = some b /\ Q (.bl b) H
theorem call_isi {X : Cx} : CallR X (.builtin "isinstance") rIsi := by
 intro pins s σ H xs us Q I r h
 obtain ⟨x, n, m, b, rfl, ty, e, q⟩ := h
 obtain ⟨u, u2, rfl, rx, ry⟩ := vals2 r
 obtain rfl : u2 = Value.type n := ry
 exact isinst_ok I rx (ty.of X.K) (kit_of e) fun tk => ⟨.bl b, H, I.tok tk, rfl, q⟩
def wholeV : V -> Bool
 | .int _ => true
 | _ => false
def tupV (n : String) : Bool := n == "tuple"
structure Step (t : Addr) (H H' : Hp) : Prop where
 keep : ∀ b o, b ≠ t -> H b = some o -> H' b = some o
 tp : ∃ xs, H t = some (.lst xs)
 tp' : ∃ xs, H' t = some (.lst xs)
theorem Step.trans {t : Addr} {H H1 H2 : Hp} (a : Step t H H1) (b : Step t H1 H2) : Step t H H2 := ⟨fun c o n e => b.keep c o n (a.keep c o n e), a.tp, b.tp'⟩
theorem Step.up {t : Addr} {H : Hp} {xs ys : List V} (h : H t = some (.lst xs)) : Step t H (upd H t (.lst ys)) := ⟨fun c o n e => by rw [upd_ne n]; exact e, ⟨_, h⟩, ⟨_, upd_same⟩⟩
theorem same_new {H : Hp} {p : Addr} (h : H p = none) (o : HO) : Same H (upd H p o) := fun b u q => by rw [upd_ne (ne_of_none q h)]; exact q
theorem Step.same {t : Addr} {H H' : Hp} (s : Same H H') (h : ∃ xs, H t = some (.lst xs)) : Step t H H' := ⟨fun c o _ e => s c o e, h, let ⟨xs, e⟩ := h; ⟨xs, s _ _ e⟩⟩
theorem Step.refl {t : Addr} {H : Hp} (h : ∃ xs, H t = some (.lst xs)) : Step t H H := ⟨fun _ _ _ e => e, h, h⟩
def Th (H : Hp) (v : V) : Prop := ∃ n, Ty H v n /\ ∀ a xs, v = .ref a -> H a = some (.tup xs) -> ∀ x ∈ xs, ∃ m, Ty H x m
theorem pick {xs : List V} {r : Int} (h0 : 0 ≤ r) (h1 : r < (xs.length : Int)) : ∃ v, atI xs r = some v /\ v ∈ xs := by
 have hk : r.toNat < xs.length := by omega
 have ek : r = ((r.toNat : Nat) : Int) := by omega
 have q : atI xs ((r.toNat : Nat) : Int) = some xs[r.toNat] := atI_nat (List.getElem?_eq_getElem hk)
 rw [← ek] at q
 exact ⟨_, q, List.getElem_mem hk⟩
theorem pickI {ns : List Int} {r : Int} (h0 : 0 ≤ r) (h1 : r < (ns.length : Int)) : ∃ z : Int, atI (ns.map V.int) r = some (.int z) := by
 obtain ⟨v, h, hv⟩ := pick (xs := ns.map V.int) h0 (by rw [List.length_map]; exact h1)
 obtain ⟨z, _, rfl⟩ := List.mem_map.mp hv
 exact ⟨z, h⟩
structure Tape (H : Hp) (t s : Addr) : Prop where
 ex : ∃ (ns : List Int) (p q r : Int), H t = some (.lst [.ref s, .int p, .int q, .int r]) /\ H s = some (.lst (ns.map V.int)) /\ s ≠ t /\ ns.length ≤ 63 /\ 0 ≤ p /\ 0 ≤ q /\ 0 ≤ r
theorem Tape.lst {H : Hp} {t s : Addr} (h : Tape H t s) : ∃ xs, H t = some (.lst xs) := let ⟨_, _, _, _, e, _⟩ := h.ex; ⟨_, e⟩
theorem Tape.scr {H : Hp} {t s : Addr} (h : Tape H t s) : ∃ xs, H s = some (.lst xs) := let ⟨_, _, _, _, _, e, _⟩ := h.ex; ⟨_, e⟩
theorem Tape.same {H H' : Hp} {t s : Addr} (h : Tape H t s) (z : Same H H') : Tape H' t s := by
 obtain ⟨ns, p, q, r, h1, h2, h3⟩ := h.ex
 exact ⟨ns, p, q, r, z _ _ h1, z _ _ h2, h3⟩
theorem Tape.new {H : Hp} {t s p : Addr} (h : Tape H t s) (n : H p = none) (o : HO) : Tape (upd H p o) t s := h.same (same_new n o)
theorem Tape.upl {H : Hp} {t s l : Addr} (h : Tape H t s) (a : l ≠ t) (b : l ≠ s) (o : HO) : Tape (upd H l o) t s := by
 obtain ⟨ns, p, q, r, h1, h2, h3⟩ := h.ex
 exact ⟨ns, p, q, r, by rw [upd_ne a.symm]; exact h1, by rw [upd_ne b.symm]; exact h2, h3⟩
theorem cut63 (ns : List Int) : cutV (ns.map V.int) none (some 63) = (ns.take (min 63 ns.length)).map V.int := by
 unfold cutV
 rw [show (some (63 : Int)) = some (((63 : Nat) : Int)) from rfl, HT.sIx_nat, HT.sIx_none, List.length_map, Nat.sub_zero, List.drop_zero, List.map_take]
def sp_tape (K : Fg) : Sp := fun vs H Q _ => ∃ (a : Addr) (ns : List Int), vs = [.ref a] /\ SqL K H a (ns.map V.int) /\ ∀ (t s : Addr) (H' : Hp), Same H H' -> H t = none -> H s = none -> Tape H' t s -> Q (.ref t) H'
def sp_draw : Sp := fun vs H Q _ => ∃ (t s : Addr) (m : Int), vs = [.ref t, .int m] /\ Tape H t s /\ 0 < m /\ m < 1073741824 /\ ∀ (r : Int) (xs : List V), 0 ≤ r -> r < m -> Tape (upd H t (.lst xs)) t s -> Q (.int r) (upd H t (.lst xs))
def sp_lawT (K : Fg) : Sp := fun vs H Q _ => ∃ (a : Addr) (ns : List Int), vs = [.ref a] /\ SqL K H a (ns.map V.int) /\ ns.length ≤ 63 /\ ∀ H', Q (.bl true) H'
theorem gcd_turn {a b : Int} (ha : 0 ≤ a) (hb : 0 < b) : Int.gcd b (a % b) = Int.gcd a b := by
 obtain ⟨n, rfl⟩ := Int.eq_ofNat_of_zero_le ha
 obtain ⟨m, rfl⟩ := Int.eq_ofNat_of_zero_le (Int.le_of_lt hb)
 rw [← Int.natCast_emod]
 show Nat.gcd m (n % m) = Nat.gcd n m
 rw [Nat.gcd_comm m, ← Nat.gcd_rec, Nat.gcd_comm]
theorem abs_if (i : Int) : (if i < 0 then -i else i) = (i.natAbs : Int) := by split <;> omega
end B
namespace B
open PySem PySem.Spec L2 PyProof.Rows
mutual
inductive Deep (K : Fg) (H : Hp) : V -> PyData -> Prop where
 | non : Deep K H .non .none
 | bl (b : Bool) : Deep K H (.bl b) (.bool b)
 | int (i : Int) : Deep K H (.int i) (.int i)
 | str (x : Str) : Deep K H (.str x) (.str x)
 | lst {a : Addr} {xs : List V} {ds : List PyData} (e : SqL K H a xs) (h : DeepAll K H xs ds) : Deep K H (.ref a) (.list ds)
 | tup {a : Addr} {xs : List V} {ds : List PyData} (e : SqT K H a xs) (h : DeepAll K H xs ds) : Deep K H (.ref a) (.tuple ds)
inductive DeepAll (K : Fg) (H : Hp) : List V -> List PyData -> Prop where
 | nil : DeepAll K H [] []
 | cons {x : V} {d : PyData} {xs : List V} {ds : List PyData} (h : Deep K H x d) (t : DeepAll K H xs ds) : DeepAll K H (x :: xs) (d :: ds)
end
mutual
theorem Deep.reads {X : Cx} {pins : PLs} {σ : L2.St} {H : Hp} {s : Shared} (I : Inv X pins σ H s) : ∀ {v : V} {d : PyData} {u : Value}, Deep X.K H v d -> RelV v u -> ∃ as, Reads s.heap u d as
 | _, _, u, .non, r => by cases (show u = Value.none from r); exact ⟨_, .none⟩
 | _, _, u, .bl b, r => by cases (show u = Value.bool b from r); exact ⟨_, .bool b⟩
 | _, _, u, .int i, r => by obtain ⟨t, q⟩ := (show ∃ t, u = Value.int i t from r); cases q; exact ⟨_, .int i t⟩
 | _, _, u, .str x, r => by obtain ⟨t, q⟩ := (show ∃ t, u = Value.str x t from r); cases q; exact ⟨_, .str x t⟩
 | _, _, u, .lst (a := a) e h, r => by
  cases (show u = Value.ref a from r)
  obtain ⟨its, rv, ⟨o, n, ho, hc, _, hd⟩, _⟩ := I.list e
  obtain ⟨as, q⟩ := DeepAll.reads I h rv
  exact ⟨_, .list ho hc hd (by simpa using q)⟩
 | _, _, u, .tup (a := a) e h, r => by
  cases (show u = Value.ref a from r)
  obtain ⟨its, rv, ⟨o, ho, hc, n, hd⟩, _⟩ := I.tuple e
  obtain ⟨as, q⟩ := DeepAll.reads I h rv
  exact ⟨_, .tuple ho hc hd (by simpa using q)⟩
theorem DeepAll.reads {X : Cx} {pins : PLs} {σ : L2.St} {H : Hp} {s : Shared} (I : Inv X pins σ H s) : ∀ {vs : List V} {ds : List PyData} {us : List Value}, DeepAll X.K H vs ds -> Vals vs us -> ∃ as, ReadsAll s.heap us ds as
 | _, _, _, .nil, .nil => ⟨_, .nil⟩
 | _, _, _, .cons h t, .cons r q =>
  let ⟨_, a⟩ := Deep.reads I h r
  let ⟨_, b⟩ := DeepAll.reads I t q
  ⟨_, .cons a b⟩
end
structure Shows (d : PyData) : Prop where
 sh : d.showable = true
 nd : d.hasDict = false
 sz : d.shown.length ≤ sizeLine
 dp : d.depth ≤ 16
def rRepr (K : Fg) : List V -> Hp -> VK -> Prop := fun xs H Q => ∃ v d, xs = [v] /\ Deep K H v d /\ Shows d /\ Q (.str d.shown) H
theorem call_repr {X : Cx} {k : Nat} (hr : Room k X.A) : CallR X (.builtin "repr") (rRepr X.K) := by
 intro pins s σ H xs us Q I r h
 obtain ⟨v, d, rfl, dp, sh, q⟩ := h
 obtain ⟨u, rfl, ru⟩ := vals1 r
 cases dp with
 | non => cases (show u = Value.none from ru); exact PySem.P.repr_of_none ⟨.str "None", H, I.tok _, ⟨_, rfl⟩, q⟩
 | bl b => cases (show u = Value.bool b from ru); exact PySem.P.repr_of_bool ⟨.str _, H, I.tok _, ⟨_, rfl⟩, q⟩
 | int i =>
  obtain ⟨t, e⟩ := (show ∃ t, u = Value.int i t from ru)
  cases e
  exact PySem.P.repr_of_int (of_decide_eq_true sh.sh) ⟨.str _, H, I.tok _, ⟨_, rfl⟩, q⟩
 | str x =>
  obtain ⟨t, e⟩ := (show ∃ t, u = Value.str x t from ru)
  cases e
  exact PySem.P.repr_of_str ⟨.str _, H, I.tok _, ⟨_, rfl⟩, q⟩ sh.sz
 | @lst a ys ds e h =>
  cases (show u = Value.ref a from ru)
  obtain ⟨as, rd⟩ := Deep.reads I (.lst e h) (show RelV (.ref a) (.ref a) from rfl)
  exact repr_of_reads' rd sh.sh (fun z => by rw [sh.nd] at z; cases z) hr.gd (by have := hr.units; have := sh.dp; omega) (fun _ _ z => z) (fun h' u tk hk => ⟨.str _, H, I.kept hk, ⟨_, rfl⟩, q⟩) sh.sz
 | @tup a ys ds e h =>
  cases (show u = Value.ref a from ru)
  obtain ⟨as, rd⟩ := Deep.reads I (.tup e h) (show RelV (.ref a) (.ref a) from rfl)
  exact repr_of_reads' rd sh.sh (fun z => by rw [sh.nd] at z; cases z) hr.gd (by have := hr.units; have := sh.dp; omega) (fun _ _ z => z) (fun h' u tk hk => ⟨.str _, H, I.kept hk, ⟨_, rfl⟩, q⟩) sh.sz
end B
namespace B
open PySem PySem.Spec L2 PyProof.Rows
def cxC (X : Cx) (N' : List Str) (scope : Scope) (cl : List (Str × Addr)) (C : Addr) (fp : List Addr) (pins : PLs) (s : Shared) (H : Hp) : Cx :=
 { X with N := N', s₀ := s, H₀ := H, env := compEnvC scope cl C X.env, outer := X.stack, stack := X.stack, ex := fp, fn := fun _ => false, pn := X.pn ++ pins, xe := fun _ _ => False }
def FreeOk (X : Cx) (scope : Scope) (cl : List (Str × Addr)) : List Str -> List (Option Nat) -> Prop
 | [], [] => True
 | _ :: N, none :: r => FreeOk X scope cl N r
 | x :: N, some j :: r => X.N[j]? = some x /\ X.env.kindOf x = some .cell /\ (compEnvC scope cl 0 X.env).kindOf x = some .cell /\ cl.lookup x = X.env.cells.lookup x /\ FreeOk X scope cl N r
 | _, _ => False
def frees (src : List (Option Nat)) (σ : L2.St) : L2.St := src.map fun o => o.bind fun j => (σ[j]?).getD none
theorem FreeOk.len {X : Cx} {scope : Scope} {cl : List (Str × Addr)} : ∀ {N : List Str} {src : List (Option Nat)}, FreeOk X scope cl N src -> N.length = src.length
 | [], [], _ => rfl
 | _ :: _, none :: _, h => congrArg (· + 1) (FreeOk.len (X := X) (scope := scope) (cl := cl) h)
 | _ :: _, some _ :: _, h => congrArg (· + 1) (FreeOk.len (X := X) (scope := scope) (cl := cl) h.2.2.2.2)
theorem FreeOk.at {X : Cx} {scope : Scope} {cl : List (Str × Addr)} {σ : L2.St} : ∀ {N : List Str} {src : List (Option Nat)} {i : Nat} {x : Str} {v : V}, FreeOk X scope cl N src -> N[i]? = some x -> (frees src σ)[i]? = some (some v) →
  ∃ j : Nat, X.N[j]? = some x /\ σ[j]? = some (some v) /\ X.env.kindOf x = some .cell /\ (compEnvC scope cl 0 X.env).kindOf x = some .cell /\ cl.lookup x = X.env.cells.lookup x
 | y :: N, none :: r, 0, x, v, h, e, q => by cases q
 | y :: N, none :: r, i + 1, x, v, h, e, q => FreeOk.at (N := N) (src := r) (i := i) h e q
 | y :: N, some j :: r, 0, x, v, h, e, q => by
  cases e
  refine ⟨j, h.1, ?_, h.2.1, h.2.2.1, h.2.2.2.1⟩
  have q' : some ((σ[j]?).getD none) = some (some v) := q
  injection q' with q'
  cases z : σ[j]? with
  | none => rw [z] at q'; cases q'
  | some o => rw [z] at q'; exact congrArg some q'
 | y :: N, some j :: r, i + 1, x, v, h, e, q => FreeOk.at (N := N) (src := r) (i := i) h.2.2.2.2 e q
def CellsOk (X : Cx) (scope : Scope) (cl : List (Str × Addr)) : Prop :=
 (∀ x, ((compEnvC scope cl 0 X.env).kindOf x = some .cell ∨ (compEnvC scope cl 0 X.env).kindOf x = some .free) -> ∃ c, cl.lookup x = some c) /\ ∀ x c, cl.lookup x = some c -> X.env.cells.lookup x = some c
def CellsIn (X : Cx) : List (Str × Addr) -> Prop
 | [] => True
 | y :: r => X.env.cells.lookup y.1 = some y.2 /\ CellsIn X r
theorem CellsIn.mem {X : Cx} : ∀ {cl : List (Str × Addr)}, CellsIn X cl -> ∀ y ∈ cl, X.env.cells.lookup y.1 = some y.2
 | [], _, y, h => by cases h
 | z :: r, k, y, h => by
  rcases List.mem_cons.mp h with e | h
  ·rw [e]; exact k.1
  ·exact CellsIn.mem k.2 y h
theorem mem_of_lookup {α : Type} {x : Str} {v : α} : ∀ {l : List (Str × α)}, l.lookup x = some v -> (x, v) ∈ l
 | [], h => by cases h
 | (y, w) :: r, h => by
  rw [List.lookup_cons] at h
  cases e : x == y with
  | true =>
   rw [e] at h
   have e' : x = y := eq_of_beq e
   cases h
   rw [e']; exact List.mem_cons_self
  | false =>
   rw [e] at h
   exact List.mem_cons_of_mem _ (mem_of_lookup h)
theorem cells_of {X : Cx} {scope : Scope} {cl : List (Str × Addr)} (h1 : ((relabel scope X.env).names.all fun y => !(y.2 == .cell || y.2 == .free) || (cl.lookup y.1).isSome) = true) (h2 : CellsIn X cl) : CellsOk X scope cl := by
 refine ⟨fun x h => ?_, fun x c e => h2.mem _ (mem_of_lookup e)⟩
 have h3 := List.all_eq_true.mp h1
 have key : ∀ k : NameKind, (k = .cell ∨ k = .free) -> (relabel scope X.env).names.lookup x = some k -> ∃ c, cl.lookup x = some c := fun k hk e => by
  have q := h3 _ (mem_of_lookup e)
  have z : (k == NameKind.cell || k == NameKind.free) = true := by rcases hk with rfl | rfl <;> rfl
  simp only [z, Bool.not_true, Bool.false_or] at q
  exact Option.isSome_iff_exists.mp q
 rcases h with h | h
 ·exact key _ (.inl rfl) h
 ·exact key _ (.inr rfl) h
def Ext (σ σ' : L2.St) : Prop := σ'.length = σ.length /\ ∀ (i : Nat) (v : V), σ[i]? = some (some v) -> σ'[i]? = some (some v)
theorem Ext.set {σ : L2.St} {i : Nat} {v : V} (h : σ[i]? = some none) : Ext σ (σ.set i (some v)) := by
 refine ⟨List.length_set, fun j u e => ?_⟩
 have ne : i ≠ j := fun z => by subst z; rw [h] at e; cases e
 rw [List.getElem?_set_ne ne]; exact e
theorem Ext.set' {σ τ : L2.St} {i : Nat} {v : V} (e : Ext σ τ) (h : σ[i]? = some none) : Ext σ (τ.set i (some v)) := by
 refine ⟨by rw [List.length_set]; exact e.1, fun j u q => ?_⟩
 have ne : i ≠ j := fun z => by subst z; rw [h] at q; cases q
 rw [List.getElem?_set_ne ne]; exact e.2 j u q
section
variable {X : Cx} {N' : List Str} {scope : Scope} {cl : List (Str × Addr)} {src : List (Option Nat)} {pins : PLs} {σ : L2.St} {H : Hp} {s : Shared} {fp : List Addr}
theorem Cx.comp_ok {C : Addr} (I : Inv X pins σ H s) (hC : s.heap.objs.size ≤ C) (hk : scope.kind = .function) (hf : ∀ b ∈ fp, FpOk X pins H b) (hfs : ∀ b ∈ fp, b < s.heap.objs.size) (hc : CellsOk X scope cl) :
  (cxC X N' scope cl C fp pins s H).Ok where
 mod := I.ok.mod
 kind := hk
 glob := I.ok.glob
 blt := I.ok.blt
 above := hC
 inj := fun x y c e1 e2 => I.ok.inj x y c (hc.2 x c e1) (hc.2 y c e2)
 has := fun x h => hc.1 x h
 cab := fun x c z => nomatch z
 hd := I.ok.hd
 frames := I.ok.frames
 stk := .inl rfl
 exf := fun b hb => ⟨fun z => by have := hfs b hb; rw [show b = C from z] at this; exact absurd (Nat.lt_of_lt_of_le this hC) (Nat.lt_irrefl _), fun x c e => (hf b hb).2.2.2.2.1 x c (hc.2 x c e)⟩
 bs := I.bs
 bsz := Nat.le_trans I.ok.bsz I.sz
 noex := fun b o e hb => by
  rcases (hf b hb).2.2.2.1 with z | z
  ·exact I.ok.noex b o e z
  ·rw [(I.ok.bs b o e).1] at z; cases z
 exfs := fun b hb z => by
  rcases List.mem_cons.mp (I.stkSub b z) with q | q
  ·exact (hf b hb).2.1 q
  ·exact (hf b hb).2.2.1 q
 funs := I.stack
 frf := I.stkFree
theorem Inv.comp {C : Addr} {h₁ : Heap} {m : Str -> Option Value} {tk : Nat} (I : Inv X pins σ H s) (hC : C = s.heap.objs.size) (hns : h₁.Ns C m) (keep : ∀ b o, s.heap.get? b = some o -> h₁.get? b = some o)
  (hk : scope.kind = .function) (hf : ∀ b ∈ fp, FpOk X pins H b) (hfs : ∀ b ∈ fp, b < s.heap.objs.size) (hc : CellsOk X scope cl) (hfree : FreeOk X scope cl N' src) :
  Inv (cxC X N' scope cl C fp pins s H) [] (frees src σ) H { s with heap := h₁, toks := tk } where
 ok := Cx.comp_ok I (Nat.le_of_eq hC.symm) hk hf hfs hc
 os := rfl
 bare := I.bare
 base := Un.kept keep
 loc := ⟨m, hns, fun i x v e1 e2 _ => by
  obtain ⟨j, hj, hσ, kc, kc', hl⟩ := hfree.at e1 e2
  obtain ⟨m0, hn0, hl0⟩ := I.loc
  obtain ⟨u, r, l⟩ := hl0 j x v hj hσ (Or.inr (Or.inl kc))
  rcases l with ⟨k, _⟩ | ⟨k, c, e, o, ho, hd⟩
  ·rw [kc] at k; cases k
  ·exact ⟨u, r, .inr ⟨.inl kc', c, hl.trans e, o, keep c o ho, hd⟩⟩⟩
 cell := fun x c e => let ⟨v, o, ho, hd⟩ := I.cell x c (hc.2 x c e); ⟨v, o, keep _ _ ho, hd⟩
 free := I.hok.fresh (Nat.le_of_eq hC.symm)
 freeC := fun x c e => I.freeC x c (hc.2 x c e)
 pin := fun p hp => by
  have hp' : p ∈ X.pn ++ pins := by
   have z : p ∈ (X.pn ++ pins) ++ [] := hp
   rw [List.append_nil] at z; exact z
  obtain ⟨e, n, ne, nf, d⟩ := I.pin p hp'
  refine ⟨keep _ _ e, n, fun z => ?_, fun z => ?_, d⟩
  ·have := Heap.lt_size e; rw [show p.1 = C from z, hC] at this; exact Nat.lt_irrefl _ this
  ·rcases List.mem_cons.mp (I.stkSub _ z) with q | q
   ·exact ne q
   ·exact nf q
 hok := I.hok.kept keep
 len := by show (frees src σ).length = N'.length; unfold frees; rw [List.length_map, hfree.len]
end
def PTs (X : Cx) (ifs : List Expr) (t : TT) : Prop :=
 ∀ (pins : PLs) (s : Shared) (σ : L2.St) (H : Hp) (Q : Bool -> Hp -> Prop), Inv X pins σ H s -> t σ H Q →
  wpAny (model X.prog X.w) X.A (forIn ifs true fun c r => if r = true then do let ok ← isTrue c X.env (eval c X.env); pure (ForInStep.yield ok) else pure (ForInStep.yield r)) (TP X pins σ Q) X.xe s
def tYes : TT := fun _ H Q => Q true H
theorem pts_nil {X : Cx} : PTs X [] tYes := fun _ _ _ H _ I h => wpAny_tests_nil ⟨H, I, h⟩
section
variable {prog : Program} {w : World} {A : Around} {R : Result -> Shared -> Prop} {s : Shared}
theorem comp_loop {elt target iter : Expr} {ifs : List Expr} {scope : Scope} {pos : Pos} {it acc : Value} {env : Env} (I : Nat -> Shared -> Prop)
  (turn : ∀ n s, I n s -> wpAny (model prog w) A (pyNext it) (fun r s₁ => match r with
   | none => R (.ok .next) s₁
   | some v => wpAny (model prog w) A (letOwnedTupleGo target it v) (fun _ s₁' => wpAny (model prog w) A (assign target env v) (fun _ s₂ =>
     wpAny (model prog w) A (forIn ifs true fun c r => if r = true then do let ok ← isTrue c env (eval c env); pure (ForInStep.yield ok) else pure (ForInStep.yield r)) (fun ok s₃ =>
      if ok = true then wpAny (model prog w) A (eval elt env) (fun x s₄ =>
       wpAny (model prog w) A (call (.builtin "list.append") [acc, x]) (fun _ s₅ => ∃ m, m < n /\ I m s₅) (fun _ _ => False) s₄) (fun _ _ => False) s₃
      else ∃ m, m < n /\ I m s₃) (fun _ _ => False) s₂) (fun _ _ => False) s₁') (fun _ _ => False) s₁) (fun _ _ => False) s)
  (n : Nat) (h : I n s) : codeAny (model prog w) A (.compLoop (.ListComp elt [⟨target, iter, ifs, 0⟩] scope pos) 0 it acc env) R s := by
 refine codeAny_loop rfl I (fun n s hI => ?_) n h
 show wpAny _ A ((compTurn (.ListComp elt [⟨target, iter, ifs, 0⟩] scope pos) 0 it acc env).onRaise (fun x => do noteFrame x env; theTreesLotGoes x)) _ _ s
 refine wpAny_noted ?_
 rw [compTurn_list]
 refine wpAny_bind (wpAny_standAt (wpAny_bind (wpAny_mono (turn n s hI) (fun r s₁ h₁ => ?_) fun _ _ h' => h'.elim)))
 cases r with
 | none => exact wpAny_pure h₁
 | some v =>
  refine wpAny_bind (wpAny_mono h₁ (fun _ s₁' h₁' => ?_) fun _ _ h' => h'.elim)
  refine wpAny_bind (wpAny_mono h₁' (fun _ s₂ h₂ => wpAny_bind (wpAny_mono h₂ (fun ok s₃ h₃ => ?_) fun _ _ h' => h'.elim)) fun _ _ h' => h'.elim)
  cases ok with
  | false => exact wpAny_pure ⟨rfl, h₃⟩
  | true =>
   exact wpAny_bind (wpAny_bind (wpAny_mono h₃ (fun x s₄ h₄ => wpAny_bind (wpAny_mono h₄ (fun _ s₅ h₅ => wpAny_pure (wpAny_pure ⟨rfl, h₅⟩)) fun _ _ h' => h'.elim)) fun _ _ h' => h'.elim))
end
structure OffC (X : Cx) (pins : PLs) (H : Hp) (C : Addr) : Prop where
 no : H C = none
 lo : C ≠ X.env.locals
 fs : C ∉ X.fs
 old : X.s₀.heap.get? C = none
 ce : ∀ x c, X.env.cells.lookup x = some c -> c ≠ C
 pn : ∀ p ∈ X.pn ++ pins, p.1 ≠ C
theorem OffC.turned {X : Cx} {pins : PLs} {σ : L2.St} {H : Hp} {C : Addr} {s : Shared} (o : OffC X pins H C) (I : Inv X pins σ H s) {h' : Heap} (sb : Heap.SameBut C s.heap h') : Inv X pins σ H { s with heap := h' } :=
 I.turned (it := C) (t' := s.toks) (fun b u hb e => sb.extBut b u hb e) o.no o.lo (.inr o.old) o.ce o.pn
def tComp (wi : TI) (src : List (Option Nat)) (g : TG) (tt : TT) (te : TE) : TE := fun σ H Q => wi σ H fun J H1 => ∀ D, H1 D = none -> ∃ W : Nat -> Nat -> List V -> Hp -> Prop,
 (∃ m, W 0 m [] (upd H1 D (.lst []))) /\ ∀ i m ys H, W i m ys H -> (J.stop i H /\ Q (.ref D) H) ∨ (J.go i H /\ ∀ x H', J.yld i H x H' -> g x (frees src σ) H' fun σ2 H2 => Ext (frees src σ) σ2 /\ tt σ2 H2 fun ok H3 =>
  if ok = true then te σ2 H3 fun y H4 => H4 D = some (.lst ys) /\ ys.length < sizeLine /\ ∃ m', m' < m /\ W (i + 1) m' (ys ++ [y]) (upd H4 D (.lst (ys ++ [y]))) else ∃ m', m' < m /\ W (i + 1) m' ys H3)
section
variable {X : Cx} {N' : List Str} {scope : Scope} {cl : List (Str × Addr)} {src : List (Option Nat)} {tg iter elt : Expr} {ifs : List Expr} {wi : TI} {g : TG} {tt : TT} {te : TE} {pos : Pos}
theorem comp_run (hc : X.calm = true) (hi : PI X tg iter wi) (hg : ∀ C fp pins s H, PG (cxC X N' scope cl C fp pins s H) tg g) (ht : ∀ C fp pins s H, PTs (cxC X N' scope cl C fp pins s H) ifs tt)
  (he : ∀ C fp pins s H, PE (cxC X N' scope cl C fp pins s H) elt te) (hfree : FreeOk X scope cl N' src) (hcell : ∀ x ∈ scope.names, x.2 ≠ .cell) (hkind : scope.kind = .function) (hcl : CellsOk X scope cl)
  {RR : Value -> Addr -> Result -> Shared -> Prop} {pins : PLs} {s : Shared} {σ : L2.St} {H : Hp} {Q : VK} (I : Inv X pins σ H s) (h : tComp wi src g tt te σ H Q)
  (hRR : ∀ D C H' s', Q (.ref D) H' -> (∃ m, s'.heap.Ns C m) -> Inv X pins σ H' s' -> OffC X pins H' C -> RR (.ref D) C (.ok .next) s') :
  wpAny (model X.prog X.w) X.A (eval iter X.env) (fun x s₁ => wpAny (model X.prog X.w) X.A (pyIter x) (fun itv s₂ => wpAny (model X.prog X.w) X.A (newList []) (fun acc s₃ =>
   wpAny (model X.prog X.w) X.A (newFunctionEnv scope X.env.globals cl [] X.env.qual none .none (some X.env)) (fun cenv s₄ =>
    codeAny (model X.prog X.w) X.A (.compStart (.ListComp elt [⟨tg, iter, ifs, 0⟩] scope pos) 0 itv acc { cenv with scope := relabel scope X.env }) (RR acc cenv.locals) s₄) X.xe s₃) X.xe s₂) X.xe s₁) X.xe s := by
 refine thn (hi pins s σ H _ I h) fun v s1 h1 => thn h1 fun itv s2 h2 => ?_
 obtain ⟨it, fp, tn, J, H2, e, I2, T, st2, f2, h2⟩ := h2
 subst e
 refine wpAny_newObj_type ?_ (by show 0 ≤ sizeLine; exact Nat.zero_le _)
 have hD : H2 s2.heap.objs.size = none := I2.fresh
 have I3 : Inv X pins σ (upd H2 s2.heap.objs.size (.lst [])) { s2 with heap := s2.heap.push { cls := .type "list", data := .seq ([] : List Value).toArray } } := I2.lnew (t' := s2.toks) (its := []) .nil (Nat.zero_le _)
 obtain ⟨W, ⟨m0, w0⟩, turn⟩ := h2 s2.heap.objs.size hD
 generalize hDe : s2.heap.objs.size = D at I3 turn w0 hD ⊢
 have st3 : tn 0 (s2.heap.push { cls := .type "list", data := .seq ([] : List Value).toArray }) := T.keep _ _ _ st2 fun b _ o e => Heap.get?_push_of_some _ e
 have f3 : ∀ b ∈ fp, FpOk X pins (upd H2 D (.lst [])) b /\ b < (s2.heap.push { cls := .type "list", data := .seq ([] : List Value).toArray }).objs.size := fun b hb => by
  obtain ⟨o, e, _⟩ := T.obj _ _ st2 b hb
  have l := Heap.lt_size e
  rw [hDe] at l
  refine ⟨⟨?_, (f2 b hb).2⟩, by rw [Heap.size_push, hDe]; exact Nat.lt_succ_of_lt l⟩
  rw [upd_ne (Nat.ne_of_lt l)]; exact (f2 b hb).1
 generalize (s2.heap.push { cls := .type "list", data := .seq ([] : List Value).toArray }) = h3 at I3 st3 f3 ⊢
 refine wpAny_newFunctionEnv hcell (by intro y hy; simp at hy) (fun h₄ hns₄ hsb₄ => ?_) hkind
 have keep : ∀ b o, h3.get? b = some o -> h₄.get? b = some o := fun b o e => hsb₄.extBut b o (Nat.ne_of_lt (Heap.lt_size e)) (Heap.get?_push_of_some _ e)
 have I4 := Inv.comp (C := h3.objs.size) (fp := fp) (tk := s2.toks + ([] : List (Str × Value)).length) I3 rfl hns₄ keep hkind (fun b hb => (f3 b hb).1) (fun b hb => (f3 b hb).2) hcl hfree
 have st4 : tn 0 h₄ := T.keep _ _ _ st3 fun b _ o e => keep b o e
 have fpn : ∀ b ∈ fp, (upd H2 D (.lst [])) b = none := fun b hb => (f3 b hb).1.1
 have hn3 : ∀ b ∈ fp, b ≠ h3.objs.size := fun b hb => Nat.ne_of_lt (f3 b hb).2
 have stat : ∀ {H' : Hp}, (∀ b ∈ fp, H' b = none) -> ∀ b ∈ fp, FpOk (cxC X N' scope cl h3.objs.size fp pins { s2 with heap := h3 } (upd H2 D (.lst []))) [] H' b := fun hn b hb =>
  ⟨hn b hb, hn3 b hb, I4.ok.exfs b hb, .inl hb, fun x c e => (f3 b hb).1.2.2.2.2.1 x c (hcl.2 x c e), fun p hp => (f3 b hb).1.2.2.2.2.2 p (by
   have z : p ∈ (X.pn ++ pins) ++ [] := hp
   rw [List.append_nil] at z; exact z)⟩
 have back : ∀ {H' : Hp} {s' : Shared}, Inv (cxC X N' scope cl h3.objs.size fp pins { s2 with heap := h3 } (upd H2 D (.lst []))) [] (frees src σ) H' s' -> (∃ m, s'.heap.Ns h3.objs.size m) /\ Inv X pins σ H' s' /\ OffC X pins H' h3.objs.size := fun {H' s'} I' => by
  have Ib : Inv X pins σ H' s' := I3.call' I'.os I'.base I'.hok I'.bare fun b hb => ⟨(f3 b hb).1.2.2.2.1, (f3 b hb).1.2.1, (f3 b hb).1.2.2.2.2.1, (f3 b hb).1.2.2.2.2.2⟩
  refine ⟨let ⟨m, hm, _⟩ := I'.loc; ⟨m, hm⟩, Ib, ⟨I'.free, fun z => ?_, I3.nofs (Nat.le_refl _), Heap.get?_none_of_le I3.sz, fun x c e z => ?_, fun p hp z => ?_⟩⟩
  ·have := I3.lt; rw [← z] at this; exact Nat.lt_irrefl _ this
  ·obtain ⟨v, o, ho, _⟩ := I3.cell x c e
   have := Heap.lt_size ho; rw [z] at this; exact Nat.lt_irrefl _ this
  ·obtain ⟨e, _⟩ := I3.pin p hp
   have := Heap.lt_size e; rw [z] at this; exact Nat.lt_irrefl _ this
 have loop : codeAny (model X.prog X.w) X.A (.compLoop (.ListComp elt [⟨tg, iter, ifs, 0⟩] scope pos) 0 (.ref it) (.ref D) (compEnvC scope cl h3.objs.size X.env)) (RR (.ref D) h3.objs.size) { s2 with heap := h₄, toks := s2.toks + ([] : List (Str × Value)).length } := by
  refine comp_loop (fun n s' => ∃ i ys H', Inv (cxC X N' scope cl h3.objs.size fp pins { s2 with heap := h3 } (upd H2 D (.lst []))) [] (frees src σ) H' s' /\ tn i s'.heap /\ (∀ b ∈ fp, H' b = none) /\ W i n ys H') ?_ m0 ⟨0, [], _, I4, st4, fpn, w0⟩
  rintro n s5 ⟨i, ys, H5, I5, st5, fr5, w5⟩
  rcases turn i n ys H5 w5 with ⟨stop, qn⟩ | ⟨go, step⟩
  ·refine thn (T.done (cxC X N' scope cl h3.objs.size fp pins { s2 with heap := h3 } (upd H2 D (.lst []))) rfl rfl rfl hc i [] s5 _ H5 _ I5 (stat fr5) st5 stop) fun r s6 ⟨hr, I6⟩ => ?_
   subst hr
   obtain ⟨b1, b2, b3⟩ := back I6
   exact hRR D _ H5 s6 qn b1 b2 b3
  ·refine thn (T.item (cxC X N' scope cl h3.objs.size fp pins { s2 with heap := h3 } (upd H2 D (.lst []))) rfl rfl rfl hc i [] s5 _ H5 _ I5 (stat fr5) st5 go) fun r s6 ⟨u, hr, h6⟩ => ?_
   subst hr
   refine thn h6 fun _ s7 ⟨x, H7, I7, r7, y7, st7, fr7⟩ => ?_
   have I7' := I7.pinned (stat fr7) (T.obj _ _ st7)
   refine thn (hg _ _ _ _ _ _ s7 _ H7 x u _ I7' r7 (step x H7 y7)) fun _ s8 ⟨σ8, H8, I8, ex8, q8⟩ => ?_
   refine thn (ht _ _ _ _ _ _ s8 σ8 H8 _ I8 q8) fun ok s9 ⟨H9, I9, q9⟩ => ?_
   have again : ∀ {ys' : List V} {Ha : Hp} {sa : Shared}, Inv (cxC X N' scope cl h3.objs.size fp pins { s2 with heap := h3 } (upd H2 D (.lst []))) ([] ++ pinsAt fp s7.heap) σ8 Ha sa -> (∃ m', m' < n /\ W (i + 1) m' ys' Ha) →
     ∃ m, m < n /\ ∃ i ys H', Inv (cxC X N' scope cl h3.objs.size fp pins { s2 with heap := h3 } (upd H2 D (.lst []))) [] (frees src σ) H' sa /\ tn i sa.heap /\ (∀ b ∈ fp, H' b = none) /\ W i m ys H' := fun {ys' Ha sa} Ia ⟨m', hm, wa⟩ => by
    refine ⟨m', hm, i + 1, ys', Ha, (Ia.unpinned).weak ex8.1.symm ex8.2, T.keep _ _ _ st7 fun b hb o e => (Ia.pin (b, o) (List.mem_append_right _ (List.mem_append_right _ (mem_pinsAt hb e)))).1, fun b hb => ?_, wa⟩
    obtain ⟨o, e, _⟩ := T.obj _ _ st7 b hb
    exact (Ia.pin (b, o) (List.mem_append_right _ (List.mem_append_right _ (mem_pinsAt hb e)))).2.1
   cases ok with
   | false => exact again I9 q9
   | true =>
    refine thn (he _ _ _ _ _ _ s9 σ8 H9 _ I9 q9) fun y s10 ⟨yv, H10, I10, r10, q10, hz, wn⟩ => ?_
    refine thn (mt_append _ s10 σ8 H10 (.ref D) [yv] (.ref D) [y] (fun _ Hz => ∃ m', m' < n /\ W (i + 1) m' (ys ++ [yv]) Hz) I10 rfl (.cons r10 .nil) ⟨D, ys, yv, rfl, rfl, q10, hz, wn⟩) fun _ s11 ⟨_, H11, I11, _, q11⟩ => ?_
    exact again I11 q11
 exact codeAny_compStart_list loop (T.self _ 0 _ _ _ st4 loop)
theorem pe_lcomp (hc : X.calm = true) (hi : PI X tg iter wi) (hg : ∀ C fp pins s H, PG (cxC X N' scope cl C fp pins s H) tg g) (ht : ∀ C fp pins s H, PTs (cxC X N' scope cl C fp pins s H) ifs tt)
  (he : ∀ C fp pins s H, PE (cxC X N' scope cl C fp pins s H) elt te) (hfree : FreeOk X scope cl N' src) (hclos : closureFor scope X.env = pure cl) (hcell : ∀ x ∈ scope.names, x.2 ≠ .cell) (hkind : scope.kind = .function)
  (hnames : ∀ x ∈ scope.names, x.2 = .local -> scope.names.lookup x.1 = some .local) (hcl : CellsOk X scope cl) (hs : ∀ x, foldedSetIterable iter X.env x = pure x := by intro _; rfl) :
  PE X (.ListComp elt [⟨tg, iter, ifs, 0⟩] scope pos) (tComp wi src g tt te) := by
 intro pins s σ H Q I h
 rw [eval_ListComp]
 refine wpAny_comprehension_free (use := none) rfl hs hclos hkind hnames (comp_run hc hi hg ht he hfree hcell hkind hcl (RR := fun acc C => compPost (model X.prog X.w) X.A X.xe none (EP X pins σ Q) acc C) I h fun D C H' s' q hm hI hb => ?_)
 obtain ⟨m, hm⟩ := hm
 exact ⟨m, hm, fun h' sb => ⟨.ref D, H', hb.turned hI sb, rfl, q⟩⟩
theorem ps_setC {i : Nat} {x : Str} {pos' pos2 : Pos} (hN : X.N.Nodup) (hi' : X.N[i]? = some x) (hx : Loc X.env.scope x) (hc : X.calm = true) (hi : PI X tg iter wi) (hg : ∀ C fp pins s H, PG (cxC X N' scope cl C fp pins s H) tg g) (ht : ∀ C fp pins s H, PTs (cxC X N' scope cl C fp pins s H) ifs tt)
  (he : ∀ C fp pins s H, PE (cxC X N' scope cl C fp pins s H) elt te) (hfree : FreeOk X scope cl N' src) (hclos : closureFor scope X.env = pure cl) (hcell : ∀ x ∈ scope.names, x.2 ≠ .cell) (hkind : scope.kind = .function)
  (hnames : ∀ x ∈ scope.names, x.2 = .local -> scope.names.lookup x.1 = some .local) (hcl : CellsOk X scope cl) (hs : ∀ x, foldedSetIterable iter X.env x = pure x := by intro _; rfl)
  (hsw : swapsWith (.ListComp elt [⟨tg, iter, ifs, 0⟩] scope pos) (some (.Name x pos')) pos2.line X.env = pure true := by rfl) (hf : X.fn x = true ∨ X.env.scope.names.lookup x = some .local := by first | exact .inl rfl | exact .inr rfl | assumption) :
  PS X (.Assign [.Name x pos'] (.ListComp elt [⟨tg, iter, ifs, 0⟩] scope pos) pos2) (tAsg (tComp wi src g tt te) (gName i)) := by
 intro pins s σ H D I h
 rw [exec_Assign_Name_used _ _ _ _ hsw]
 refine wpAny_bind (wpAny_standAt ?_)
 show wpAny _ _ ((comprehension (.ListComp elt [⟨tg, iter, ifs, 0⟩] scope pos) scope X.env _ (newList []) false (eval iter X.env) (some (assign (.Name x pos') X.env)) >>= fun _ => pure ()) >>= fun _ => pure Flow.next) _ _ s
 refine wpAny_bind (wpAny_bind (wpAny_mono (wpAny_comprehension_free (use := some (assign (.Name x pos') X.env)) (Q := fun _ s'' => SP X pins D .next s'') rfl hs hclos hkind hnames (comp_run hc hi hg ht he hfree hcell hkind hcl (RR := fun acc C => compPost (model X.prog X.w) X.A X.xe (some (assign (.Name x pos') X.env)) (fun _ s'' => SP X pins D .next s'') acc C) I h fun E C H' s' q hm hI hb => ?_)) (fun _ s'' h'' => wpAny_pure (wpAny_pure h'')) fun _ _ e => e))
 obtain ⟨m, o, es, ep, ho, hd, r1, r2⟩ := hm
 have I' : Inv X (pins ++ [(C, o)]) σ H' s' := hI.pins_of fun p hp => by
  rcases List.mem_append.mp hp with h | h
  ·exact hI.pin p (List.mem_append_right _ h)
  ·rw [List.mem_singleton] at h
   rw [h]
   exact ⟨ho, hb.no, hb.lo, hb.fs, fun v z => by rw [hd] at z; cases z⟩
 refine wpAny_assign_Name (store_ok I' hN hi' hx (show RelV (.ref E) (.ref E) from rfl) (fun s'' I'' => ?_) hf)
 have hC := (I''.pin (C, o) (List.mem_append_right _ (List.mem_append_right _ List.mem_cons_self))).1
 have I3 : Inv X pins (σ.set i (some (.ref E))) H' s'' := I''.pins_of fun p hp => I''.pin p (List.mem_append_right _ (List.mem_append_left _ hp))
 exact ⟨m, ⟨o, es, ep, hC, hd, r1, r2⟩, fun h' sb => ⟨_, H', hb.turned I3 sb, q⟩⟩
end
def rNeD (K : Fg) : R2 := fun x y H Q => ∃ d d', Deep K H x d /\ Deep K H y d' /\ d.canLay0 = true /\ d'.canLay0 = true /\ d.depth ≤ 32 /\ Q (.bl (!PyData.eqv d d')) H
theorem op_neD {X : Cx} {k : Nat} (hr : Room k X.A) : OpR X (compareOp .NotEq) (rNeD X.K) := by
 intro pins s σ H x y v u Q I rx ry h
 obtain ⟨d, d', hd, hd', c, c', dp, q⟩ := h
 obtain ⟨as, ra⟩ := Deep.reads I hd rx
 obtain ⟨bs, rb⟩ := Deep.reads I hd' ry
 exact SeqAt.compareNe_reads ra rb c c' (by have := hr.units; omega) ⟨.bl _, H, I, rfl, q⟩
noncomputable def hitAt (h : Heap) (x : Value) (d : PyData) (y : Value) : Bool :=
 open Classical in if y = x then true else if z : ∃ d', d'.canLay0 = true /\ d'.depth ≤ 32 /\ ∃ as, Reads h y d' as then PyData.eqv z.choose d else false
theorem hitAt_eq {A : Around} {s : Shared} {x y : Value} {d : PyData} {as : List Addr} (rx : Reads s.heap x d as) (cx : d.canLay0 = true) (hu : A.units + 32 < cLine)
  (hy : ∃ d', d'.canLay0 = true /\ d'.depth ≤ 32 /\ ∃ as, Reads s.heap y d' as) : SeqAt.EqAt A s y x (hitAt s.heap x d y) := by
 unfold hitAt
 by_cases e : y = x
 ·rw [if_pos e, e]; exact SeqAt.EqAt.same x
 ·rw [if_neg e, dif_pos hy]
  obtain ⟨c, dp, bs, r⟩ := hy.choose_spec
  exact SeqAt.eqAt_reads _ _ A s _ _ _ _ r rx c cx (by omega)
def Known (K : Fg) (H : Hp) (xs : List V) : Prop := ∀ x ∈ xs, ∃ d, Deep K H x d /\ d.canLay0 = true /\ d.depth ≤ 32
theorem known_reads {X : Cx} {pins : PLs} {σ : L2.St} {H : Hp} {s : Shared} (I : Inv X pins σ H s) : ∀ {xs : List V} {us : List Value}, Vals xs us -> Known X.K H xs -> ∀ u ∈ us, ∃ d', d'.canLay0 = true /\ d'.depth ≤ 32 /\ ∃ as, Reads s.heap u d' as
 | _, _, .nil, _, u, hu => by cases hu
 | x :: xs, w :: us, .cons r t, k, u, hu => by
  rcases List.mem_cons.mp hu with rfl | hu
  ·obtain ⟨d, hd, c, dp⟩ := k x List.mem_cons_self
   obtain ⟨as, ra⟩ := Deep.reads I hd r
   exact ⟨d, c, dp, as, ra⟩
  ·exact known_reads I t (fun y hy => k y (List.mem_cons_of_mem _ hy)) u hu
def rNotInS (K : Fg) : R2 := fun x y H Q => ∃ a p xs, x = .ref a /\ y = .ref p /\ SqL K H p xs /\ V.ref a ∈ xs /\ Known K H xs /\ Q (.bl false) H
def rIndexS (K : Fg) : V -> List V -> Hp -> VK -> Prop := fun x vs H Q => ∃ p xs a d, x = .ref p /\ vs = [.ref a] /\ SqL K H p xs /\ V.ref a ∈ xs /\ Known K H xs /\ Deep K H (.ref a) d /\ d.canLay0 = true /\ d.depth ≤ 32 ∧
 ∀ (j : Nat) (v' : V), xs[j]? = some v' -> (v' = .ref a ∨ ∀ d', Deep K H v' d' -> d'.canLay0 = true -> PyData.eqv d' d = true) -> Q (.int j) H
end B
namespace B
abbrev R := Int × Int
def mkR (a b : Int) : R := (a / (Int.gcd a b : Int), b / (Int.gcd a b : Int))
structure Wf (n : Nat) (r : R) : Prop where
 pos : 0 < r.2
 top : r.1.natAbs < 2 ^ n
 bot : r.2.natAbs < 2 ^ n
 cop : Int.gcd r.1 r.2 = 1
theorem gcd_posR {a b : Int} (hb : 0 < b) : 0 < (Int.gcd a b : Int) := by
 have h : Int.gcd a b ≠ 0 := fun z => by
  have := (Int.gcd_eq_zero_iff.mp z).2
  omega
 omega
def plusR (r q : R) : R := mkR (r.1 * q.2 + q.1 * r.2) (r.2 * q.2)
def timesR (r q : R) : R := mkR (r.1 * q.1) (r.2 * q.2)
def lessR (r q : R) : Bool := decide (r.1 * q.2 < q.1 * r.2)
end B
namespace B
open PySem L2 PyProof.Rows
def CBig (i j : Int) : Prop := i.natAbs < 2 ^ 4000 /\ j.natAbs < 2 ^ 4000
def CQuo (_ j : Int) : Prop := 0 < j /\ j.natAbs < 2 ^ 4000
section
variable {X : Cx}
end
def Tst (K : Fg) (H H' : Hp) : Prop := ∀ p xs, SqT K H p xs -> SqT K H' p xs
theorem Tst.trans {K : Fg} {H H1 H2 : Hp} (a : Tst K H H1) (b : Tst K H1 H2) : Tst K H H2 := fun p xs h => b p xs (a p xs h)
theorem Tst.same {K : Fg} {H H' : Hp} (s : Same H H') : Tst K H H' := fun p xs h => by
 rcases h with (h | ⟨o, h⟩) | h
 ·exact .inl (.inl (s _ _ h))
 ·exact .inl (.inr ⟨o, s _ _ h⟩)
 ·exact .inr h
theorem Tst.step {K : Fg} {t : Addr} {H H' : Hp} (S : Step t H H') : Tst K H H' := fun p xs h => by
 obtain ⟨ys, ht⟩ := S.tp
 rcases h with (h | ⟨o, h⟩) | h
 ·exact .inl (.inl (S.keep _ _ (fun z => by subst z; rw [h] at ht; cases ht) h))
 ·exact .inl (.inr ⟨o, S.keep _ _ (fun z => by subst z; rw [h] at ht; cases ht) h⟩)
 ·exact .inr h
theorem Tst.up {K : Fg} {H : Hp} {l : Addr} {xs : List V} (h : H l = some (.lst xs)) (ys : List V) : Tst K H (upd H l (.lst ys)) := Tst.step (Step.up h)
def RV (K : Fg) (H : Hp) (v : V) (r : R) : Prop := ∃ p, v = .ref p /\ SqT K H p [.int r.1, .int r.2]
theorem RV.mono {K : Fg} {H H' : Hp} {v : V} {r : R} (h : RV K H v r) (t : Tst K H H') : RV K H' v r := let ⟨p, e, q⟩ := h; ⟨p, e, t _ _ q⟩
theorem RV.of {K : Fg} {H : Hp} {p : Addr} {a b : Int} (h : H p = some (.tup [.int a, .int b])) : RV K H (.ref p) (a, b) := ⟨p, rfl, SqT.of h⟩
def RVs (K : Fg) (H : Hp) (xs : List V) (rs : List R) : Prop := xs.length = rs.length /\ ∀ (i : Nat) (x : V) (r : R), xs[i]? = some x -> rs[i]? = some r -> RV K H x r
def powR (r : R) : Nat -> R
 | 0 => (1, 1)
 | k + 1 => timesR (powR r k) r
def sumR (rs : List R) : R := rs.foldl plusR (0, 1)
def dR (r : R) : PyData := .tuple [.int r.1, .int r.2]
theorem RV.deep {K : Fg} {H : Hp} {v : V} {r : R} (h : RV K H v r) : Deep K H v (dR r) := by
 obtain ⟨p, rfl, q⟩ := h
 exact .tup q (.cons (.int _) (.cons (.int _) .nil))
theorem dR_depth (r : R) : (dR r).depth ≤ 32 := by show max 0 (max 0 0) + 1 ≤ 32; decide
theorem eqv_dR {r q : R} (h : PyData.eqv (dR r) (dR q) = true) : r = q := by
 have z : (r.1 == q.1 && (r.2 == q.2 && true)) = true := h
 simp only [Bool.and_true, Bool.and_eq_true, beq_iff_eq] at z
 exact Prod.ext z.1 z.2
theorem eqv_same (r : R) : PyData.eqv (dR r) (dR r) = true := by
 show (r.1 == r.1 && (r.2 == r.2 && true)) = true
 simp
end B
namespace B
open PySem L2 PyProof.Rows
def dL (rs : List R) : PyData := .list (rs.map dR)
def iSeq (K : Fg) (tl : TE) : TI := fun σ H R => tl σ H fun x H1 => (∃ a, x = .ref a /\ (∃ xs, SqL K H1 a xs) /\ R (Itl K a) H1) ∨ (∃ a, x = .ref a /\ (∃ xs, SqT K H1 a xs) /\ R (Itt K a) H1)
end B
namespace B
structure Red (r : R) : Prop where
 pos : 0 < r.2
 cop : Int.gcd r.1 r.2 = 1
theorem mkR_red {a b : Int} (hb : 0 < b) : Red (mkR a b) :=
 ⟨Int.ediv_pos_of_pos_of_dvd hb (Int.le_of_lt (gcd_posR hb)) (Int.gcd_dvd_right a b), Int.gcd_ediv_gcd_ediv_gcd (by have := gcd_posR (a := a) hb; omega)⟩
def plusG (r q : R) : R :=
 let d : Int := (Int.gcd r.2 q.2 : Nat)
 let t := r.1 * (q.2 / d) + q.1 * (r.2 / d)
 let e : Int := (Int.gcd t d : Nat)
 (t / e, r.2 / d * (q.2 / e))
def timesG (r q : R) : R :=
 let l : Int := (Int.gcd r.1 q.2 : Nat)
 let m : Int := (Int.gcd q.1 r.2 : Nat)
 (r.1 / l * (q.1 / m), r.2 / m * (q.2 / l))
end B
namespace B
open PySem L2 PyProof.Rows
def CQuoN (_ j : Int) : Prop := j ≠ 0 /\ j.natAbs < 2 ^ 4000
theorem op_quoN {X : Cx} : OpR X (binaryOp .FloorDiv) (rI CQuoN fun i j => .int (i.fdiv j)) := opI fun i j _ _ _ _ _ hc q => by
 have h1 : j ≠ 0 := hc.1
 have h2 : j.natAbs < 2 ^ 4000 := hc.2
 refine floordiv_int h1 q (.inl (PyProof.noPylong_of_log2 ?_))
 exact Nat.lt_trans ((Nat.log2_lt (show j.natAbs ≠ 0 by omega)).mpr h2) (by decide)
def mkS (a b : Int) : R := if b < 0 then mkR (-a) (-b) else mkR a b
theorem mkS_pos {a b : Int} (h : 0 < b) : mkS a b = mkR a b := by unfold mkS; rw [if_neg (by omega)]
theorem fdiv_pos {a g : Int} (h : 0 < g) : a.fdiv g = a / g := Int.fdiv_eq_ediv_of_nonneg a (by omega)
theorem fdiv_negg {a g : Int} (h : 0 < g) : a.fdiv (-g) = -a / g := by
 have e : a.fdiv (-g) = (-a).fdiv g := by
  have := Int.neg_fdiv_neg (-a) g
  rw [Int.neg_neg] at this
  exact this
 rw [e, fdiv_pos h]
theorem gcd_neg2 (a b : Int) : Int.gcd (-a) (-b) = Int.gcd a b := by simp [Int.gcd]
theorem gcd_posN {a b : Int} (hb : b ≠ 0) : 0 < (Int.gcd a b : Int) := by
 have h : Int.gcd a b ≠ 0 := fun z => hb (Int.gcd_eq_zero_iff.mp z).2
 omega
theorem gcd_big {a b : Int} (hb : b ≠ 0) (hz : b.natAbs < 2 ^ 4000) : ((Int.gcd a b : Nat) : Int).natAbs < 2 ^ 4000 := by
 have z : Int.gcd a b ≤ b.natAbs := Nat.le_of_dvd (by omega) (by have := Int.gcd_dvd_right a b; exact Int.natAbs_dvd_natAbs.mpr this)
 have e : ((Int.gcd a b : Nat) : Int).natAbs = Int.gcd a b := Int.natAbs_natCast _
 omega
theorem mkS_pos1 {a b : Int} (hb : 0 < b) : (a.fdiv (Int.gcd a b : Int), b.fdiv (Int.gcd a b : Int)) = mkS a b := by
 rw [mkS_pos hb, fdiv_pos (gcd_posR hb), fdiv_pos (gcd_posR hb)]; rfl
theorem mkS_neg1 {a b : Int} (hb : b < 0) : (a.fdiv (-(Int.gcd a b : Int)), b.fdiv (-(Int.gcd a b : Int))) = mkS a b := by
 have g := gcd_posN (a := a) (b := b) (by omega)
 unfold mkS
 rw [if_pos hb, fdiv_negg g, fdiv_negg g]
 unfold mkR
 rw [gcd_neg2]
def minusR (r q : R) : R := mkR (r.1 * q.2 - q.1 * r.2) (r.2 * q.2)
def overR (r q : R) : R := mkS (r.1 * q.2) (r.2 * q.1)
structure Small (d : PyData) : Prop where
 sh : d.showable = true
 nd : d.hasDict = false
 sz : d.shown.length ≤ 5000
 dp : d.depth ≤ 8
end B
namespace B
end B
namespace B
open PySem PySem.Spec L2 PyProof.Rows
section
variable {prog : Program} {w : World} {A : Around} {E : VSP} {h : Heap} {g : Array GenState} {d : Drawn} {t : Nat} {os : OsState} {K : Fg}
variable {nm q : Str} {C N : Addr} {bs bm bmB : List Value} {hdct : Bool} {sn : List Str} {sub : List Value} {ab : Bool} {col : Option Bool} {dd : Option Addr} {k0 k1 k2 k3 k5 : Option Value} {bN newId initId : String}
theorem exc_typecall (F : ExcBaseFacts bN newId initId bmB) (T : OwnTail h bmB bm) {rest : List Value} {fI : Addr} {Q : Fin -> Shared -> Prop} (X : K.In h)
  (hC : h.get? C = some (excClassObj nm q C N bs bm hdct sn sub ab col dd k0 k1 k2 k3 k5 newId)) (hi : PySem.W.findIn K (.ref C) "__init__" = some (some (.ref fI))) (hf : PySem.W.typeIn K (.ref fI) = some (.type "function"))
  (hq : ∀ h' e, Heap.MadeExcOf h h' e (.ref C) rest -> wpAny (model prog w) A (call (.ref fI) (.ref e :: rest)) (fun r s' => r = .none /\ Q (.done (.ret (.ref e))) s') E ⟨h', g, d, t, os⟩) (hz : rest.length ≤ sizeLine) :
  wpAny (model prog w) A (Builtin.«type.__call__» ⟨.ref C :: rest, []⟩) Q E ⟨h, g, d, t, os⟩ := by
 repeat (first
  | with_reducible refine wpAny_loadPart_at hC ?_
  | with_reducible refine wpAny_madeBy_exc hC ?_
  | wp_step)
 refine codeAny_call_builtin_code (Code.quiet_builtin _ F.quiet)
  (wpAny_check_new_subT F T hC ?_)
 refine codeAny_exc_new_subT F T hC ?_ hz
 show wpAny _ _ _ _ _ _
 have up : ∀ b o, h.get? b = some o -> ((h.push { cls := .type "tuple", data := .seq rest.toArray }).push
   { cls := .ref C, data := .fields #[.ref h.objs.size, .none, .none, .none, .bool false, .none] }).get? b = some o := fun b o e =>
  Heap.get?_push_of_some _ (Heap.get?_push_of_some _ e)
 have hC₁ := up _ _ hC
 have X₁ := X.keeps up
 have hx : ((h.push { cls := .type "tuple", data := .seq rest.toArray }).push
   { cls := .ref C, data := .fields #[.ref h.objs.size, .none, .none, .none, .bool false, .none] }).get? (h.objs.size + 1) =
   some { cls := .ref C, data := .fields #[.ref h.objs.size, .none, .none, .none, .bool false, .none] } := by heap_get
 have hcC : (Value.ref C :: bm).contains (.ref C) = true := by simp
 unfold isInstance
 repeat (first
  | with_reducible refine wpAny_loadPart_at hx ?_
  | (with_reducible refine wpAny_isSubtype_exc hC₁ ?_
     rw [hcC])
  | wp_step)
 show wpAny _ _ (typeLookup (.ref C) _) _ _ _
 refine (PySem.W.looks_findIn X₁ hi) _ _ _ _ (fun _ _ e => e) ?_
 refine wpAny_holding (wpAny_bind ?_)
 refine (PySem.W.bind_fn X₁ _ hf) _ _ _ _ (fun _ _ e => e) ?_
 refine wpAny_bind (wpAny_mono (hq _ (h.objs.size + 1)
  ⟨up, Heap.get?_none_of_le (Nat.le_succ _), h.objs.size, hx, Heap.get?_none_of_le (Nat.le_refl _), ?_⟩) (fun r s' hr => ?_) fun _ _ y => y)
 ·exact Heap.get?_push_of_some _ (Heap.get?_push_at rfl rfl)
 ·obtain ⟨rfl, hQ⟩ := hr
  wp_walk
  exact hQ
theorem exc_call (F : ExcBaseFacts bN newId initId bmB) (T : OwnTail h bmB bm) {rest : List Value} {fI : Addr} {Q : VSP} (X : K.In h)
  (hC : h.get? C = some (excClassObj nm q C N bs bm hdct sn sub ab col dd k0 k1 k2 k3 k5 newId)) (hi : PySem.W.findIn K (.ref C) "__init__" = some (some (.ref fI))) (hf : PySem.W.typeIn K (.ref fI) = some (.type "function"))
  (hq : ∀ h' e, Heap.MadeExcOf h h' e (.ref C) rest -> wpAny (model prog w) (A.under (.builtin "type.__call__" ⟨.ref C :: rest, []⟩)) (call (.ref fI) (.ref e :: rest)) (fun r s' => r = .none /\ Q (.ref e) s') E ⟨h', g, d, t, os⟩) (hz : rest.length ≤ sizeLine) :
  wpAny (model prog w) A (call (.ref C) rest) Q E ⟨h, g, d, t, os⟩ := by
 have f1 := tc_lookup
 have f2 := tc_bind (.ref C)
 have hT : (⟨h, g, d, t, os⟩ : Shared).TypeIs (.ref C) "type" := ⟨_, hC, rfl⟩
 refine wpAny_call (codeAny_of_tree ?_)
 show wpAny _ _ (callAny (.ref C) _) _ _ _
 repeat (any_goals (first
  | assumption
  | with_reducible refine wpAny_loadPart_at hC ?_
  | wp_step))
 refine ⟨rfl, ?_⟩
 refine codeAny_call_builtin_at (Code.quiet_builtin _ (by decide +kernel)) entry_typeCall
  (wpAny_check_type_call_sub hC (exc_typecall F T X hC hi hf (fun h' e hm => ?_) hz))
 exact hq h' e hm
end
def vMro : List Value := [.type "ValueError", .type "Exception", .type "BaseException", .type "object"]
structure ClsX (K : Fg) (C : Addr) (bm : List Value) : Prop where
 ob : ∃ nm q N bs hdct sn sub ab col dd k0 k1 k2 k3 k5, K.lookup C = some (excClassObj nm q C N bs bm hdct sn sub ab col dd k0 k1 k2 k3 k5 "ValueError.__new__")
 tl : ∀ h : Heap, K.In h -> OwnTail h vMro bm
 hd : PySem.W.hasDictIn K C = true
 sa : PySem.W.findIn K (.ref C) "__setattr__" = some (some (.builtin "object.__setattr__"))
theorem lets_by {h : Heap} {tl : List Value} (T : OwnTail h vMro tl) (self : Value) : refuseLoop self "__setattr__" tl = pure () := by
 induction T with
 | base => exact PySem.F.store_ValueError.passes self
 | own _ _ _ _ ih => rw [refuseLoop_ref]; exact ih
theorem clsX_cls {K : Fg} {C : Addr} {bm : List Value} (c : ClsX K C bm) : ∃ cd, PySem.W.clsIn K C = some cd /\ cd.mro = .ref C :: bm := by
 obtain ⟨nm, q, N, bs, hdct, sn, sub, ab, col, dd, k0, k1, k2, k3, k5, lk⟩ := c.ob
 unfold PySem.W.clsIn
 rw [lk]
 exact ⟨_, rfl, rfl⟩
section
variable {prog : Program} {w : World} {A : Around} {s : Shared} {K : Fg} {x C : Addr} {R : Result -> Shared -> Prop}
theorem store_err {ox : Obj} {od : Option Obj} {name : Str} {tk : Tok} {v : Value} {bm : List Value} (X : K.In s.heap) (I : PySem.W.InstAt s.heap x ox C od) (c : ClsX K C bm) (n : NoAttr K C name)
  (h : ∀ b, wpAny (model prog w) A.in1 (Builtin.ObjectAttr.storeInOwnDict (.ref x) (.ref C) (.str name tk) name v b) (fun fin s' => match fin with
   | .done f => R (.ok f) s'
   | .again c' => c'.quiet = true /\ codeAny (model prog w) A c' R s') (fun e s' => R (.error e) s') s) :
  codeAny (model prog w) A (.call (.builtin "object.__setattr__") ⟨[.ref x, .str name tk, v], []⟩) R s := by
 have sf := PySem.F.store_object
 obtain ⟨cd, hc, hm⟩ := clsX_cls c
 have T := c.tl _ X
 have hob : (Value.ref C :: bm).contains (.type "object") = true := by
  rw [List.contains_cons, T.hasType (X := "object") (b := true) (by decide +kernel), Bool.or_true]
 have isO : PySem.W.Looks (model prog w) s.heap (isInstance (.ref x) (.type "object")) true := by
  refine I.type.andThen (PySem.W.looks_mroIn X ?_)
  unfold PySem.W.mroIn
  rw [hc]
  show (if cd.mro.isEmpty = true then none else some (cd.mro.contains (.type "object"))) = some true
  rw [hm, hob]; rfl
 have ms : PySem.W.Looks (model prog w) s.heap (mroOf (.ref C)) (.ref C :: bm) := by
  rw [← hm]; exact (PySem.W.looks_clsIn X hc).andThen .now
 refine codeAny_call_builtin sf.slot.plain sf.entry (PySem.W.check_slot (i := "object.__setattr__") (owner := "object") (n := "__setattr__") sf.kind sf.split isO (sf.args _ _ _) ?_)
 rw [PySem.W.osa_eq, refuse_eq]
 refine wpAny_bind (wpAny_bind (I.type.here (wpAny_bind (ms.here ?_))))
 rw [refuseLoop_ref, lets_by T]
 refine wpAny_pure (wpAny_bind (I.type.here (wpAny_bind ((PySem.W.looks_findIn X n).here (wpAny_bind ?_)))))
 exact PySem.W.Looks.here (r := none) .now (h _)
end
def ExcO (a C : Addr) (dx : Option Addr) : Heap -> Prop := fun h => ∃ t : Addr, h.get? a = some { cls := .ref C, dict := dx, data := .fields #[.ref t, .none, .none, .none, .bool false, .none] }
def exO (a C : Addr) (dx : Option Addr) : HO := .ext (ExcO a C dx)
theorem exO_ok {P : Program} {w : World} {H : Hp} {h : Heap} {a C : Addr} {dx : Option Addr} (e : ExcO a C dx h) : ObjOk P w H h a (exO a C dx) :=
 ⟨e, let ⟨_, q⟩ := e; ⟨_, q⟩, fun _ _ ⟨t, q⟩ k => ⟨t, k _ q⟩⟩
def del (H : Hp) (a : Addr) : Hp := fun b => if b = a then none else H b
theorem del_same {H : Hp} {a : Addr} : del H a a = none := by unfold del; rw [if_pos rfl]
theorem del_ne {H : Hp} {a b : Addr} (h : b ≠ a) : del H a b = H b := by unfold del; rw [if_neg h]
section
variable {X : Cx} {pins : PLs} {σ : L2.St} {H : Hp} {s : Shared} {a C : Addr} {dx : Option Addr}
theorem Inv.forget {φ : Heap -> Prop} (I : L2.Inv X pins σ H s) (e : H a = some (.ext φ)) (new : X.s₀.heap.get? a = none) : L2.Inv X pins σ (del H a) s := by
 have none_of : ∀ b, H b = none -> del H a b = none := fun b h => by
  by_cases z : b = a
  ·rw [z]; exact del_same
  ·rw [del_ne z]; exact h
 refine ⟨I.ok, I.os, I.bare, ⟨I.base.keep, I.base.slot, fun b o q n hx => none_of b (I.base.free b o q n hx), I.base.there, fun b xs q => ?_, fun b o u q => ?_, fun b ps q => ?_⟩, I.loc, I.cell, none_of _ I.free, fun x c q => none_of _ (I.freeC x c q), fun p hp => ?_, fun b o q => ?_, I.len⟩
 ·have z := I.base.tups b xs q
  rw [del_ne (fun k => by rw [k, e] at z; cases z)]; exact z
 ·have z := I.base.frzs b o u q
  rw [del_ne (fun k => by rw [k, e] at z; cases z)]; exact z
 ·obtain ⟨m, z⟩ := I.base.tbls b ps q
  exact ⟨m, by rw [del_ne (fun k => by rw [k, e] at z; cases z)]; exact z⟩
 ·obtain ⟨p1, p2, p3⟩ := I.pin p hp
  exact ⟨p1, none_of _ p2, p3⟩
 ·have nb : b ≠ a := fun z => by rw [z, del_same] at q; cases q
  rw [del_ne nb] at q
  refine (I.hok b o q).stay (fun c u _ z => z) (fun c z => ?_) (fun c xs z => ?_)
  ·rw [del_ne (fun k => by rw [k, e] at z; cases z)]; exact z
  ·rw [del_ne (fun k => by rw [k, e] at z; cases z)]; exact z
end
theorem ObjOk.get {P : Program} {w : World} {H : Hp} {h : Heap} {a : Addr} {o : HO} (x : L2.ObjOk P w H h a o) : ∃ u, h.get? a = some u := by
 cases o with
 | lst xs => obtain ⟨_, _, _, _, e⟩ := x; exact ⟨_, e⟩
 | tup xs => obtain ⟨_, _, _, o, e, _⟩ := x; exact ⟨_, e⟩
 | dK kvs => obtain ⟨_, _, _, _, o, _, _, e, _⟩ := x; exact ⟨_, e⟩
 | dT kvs => obtain ⟨_, _, _, _, o, _, _, e, _⟩ := x; exact ⟨_, e⟩
 | set S n => obtain ⟨o, _, _, _, e, _⟩ := x; exact ⟨_, e⟩
 | ins C dx fs => obtain ⟨_, _, _, e, _⟩ := x; exact ⟨_, e⟩
 | own y => exact x
 | xd fs => obtain ⟨_, ⟨_, _, _, e, _⟩, _⟩ := x; exact ⟨_, e⟩
 | rng lo hi => obtain ⟨_, _, _, e⟩ := x; exact ⟨_, e⟩
 | frz ob u => obtain ⟨e, _⟩ := x; exact ⟨_, e⟩
 | tbl ps => exact ⟨_, show h.get? a = some _ from x⟩
 | met f y => exact ⟨_, show h.get? a = some _ from x⟩
 | ext φ => exact x.2.1
def Trc (h : Heap) (H : Hp) (x C T : Addr) (a0 : Value) : Prop :=
 ∃ oe vs oT ts, h.get? x = some oe /\ oe.cls = .ref C /\ vs[0]? = some a0 /\ oe.data = .fields vs /\ vs[1]? = some (.ref T) /\ H T = none /\ T ≠ x /\ h.get? T = some oT /\ oT.data = .fields ts /\ ts[3]? = some .none
def CXR (P : Program) (w : World) : CXT := fun outer H s E e s' => ∃ (x C T : Addr) (a0 : Value) (H' : Hp), e = .ref x /\ s'.os = s.os /\ AllBare s'.gens /\ Un (frs outer) [] H H' s.heap s'.heap /\ HOk P w H' s'.heap /\ s.heap.get? x = none /\ s.heap.get? T = none /\ H' x = none ∧
 Trc s'.heap H' x C T a0 /\ E (.ref C) none H'
structure NewAt (X : Cx) (pins : PLs) (a : Addr) : Prop where
 st : X.s₀.heap.get? a = none
 lo : a ≠ X.env.locals
 ce : ∀ x c, X.env.cells.lookup x = some c -> c ≠ a
 pi : ∀ p ∈ X.pn ++ pins, p.1 ≠ a
 fr : a ∉ frs X.stack
section
variable {X : Cx} {pins : PLs} {σ : L2.St} {H H' : Hp} {s : Shared} {a : Addr}
theorem Inv.newAt (I : L2.Inv X pins σ H s) (hex : X.ex = []) (h : s.heap.get? a = none) : NewAt X pins a where
 st := by
  cases e : X.s₀.heap.get? a with
  | none => rfl
  | some o =>
   obtain ⟨o', q⟩ := I.base.there a o e (by rw [hex]; simp)
   rw [h] at q; cases q
 lo := fun z => by
  obtain ⟨m, ⟨o, _, _, q, _⟩, _⟩ := I.loc
  rw [← z, h] at q; cases q
 ce := fun x c e z => by
  obtain ⟨v, o, q, _⟩ := I.cell x c e
  rw [z, h] at q; cases q
 pi := fun p hp z => by
  obtain ⟨q, _⟩ := I.pin p hp
  rw [z, h] at q; cases q
 fr := fun z => by
  obtain ⟨_, o, q, _⟩ := I.stack.mem z
  rw [h] at q; cases q
end
section
variable {X : Cx} {pins : PLs} {σ : L2.St} {H : Hp} {s : Shared} {a : Addr} {o : HO}
theorem Inv.adopt (I : L2.Inv X pins σ H s) (na : NewAt X pins a) (ha : H a = none) (hex : X.ex = []) (new : L2.ObjOk X.prog X.w (upd H a o) s.heap a o) : L2.Inv X pins σ (upd H a o) s := by
 have keep : ∀ b u, H b = some u -> upd H a o b = some u := fun b u q => by rw [upd_ne (ne_of_none q ha)]; exact q
 have nn : ∀ b, b ≠ a -> H b = none -> upd H a o b = none := fun b nb q => by rw [upd_ne nb]; exact q
 refine ⟨I.ok, I.os, I.bare, ⟨I.base.keep, I.base.slot, fun b u q n hx => nn b (fun z => by rw [z, na.st] at q; cases q) (I.base.free b u q n hx), I.base.there, fun b xs q => keep _ _ (I.base.tups b xs q), fun b u v q => keep _ _ (I.base.frzs b u v q), fun b ps q => ?_⟩, I.loc, I.cell, nn _ na.lo.symm I.free, fun x c q => nn _ (na.ce x c q) (I.freeC x c q), fun p hp => ?_, fun b u q => ?_, I.len⟩
 ·obtain ⟨m, z⟩ := I.base.tbls b ps q
  exact ⟨m, keep _ _ z⟩
 ·obtain ⟨p1, p2, p3⟩ := I.pin p hp
  exact ⟨p1, nn _ (na.pi p hp) p2, p3⟩
 ·by_cases z : b = a
  ·subst z
   rw [upd_same] at q; cases q
   exact new
  ·rw [upd_ne z] at q
   exact (I.hok b u q).stay (fun c v _ w => w) (fun c w => keep _ _ w) (fun c xs w => keep _ _ w)
theorem Inv.none_of (I : L2.Inv X pins σ H s) (h : s.heap.get? a = none) : H a = none := by
 cases q : H a with
 | none => rfl
 | some o => obtain ⟨u, z⟩ := ObjOk.get (I.hok a o q); rw [h] at z; cases z
end
structure XC (K : Fg) (C f : Addr) (bm : List Value) : Prop where
 ob : ∃ nm q N bs hdct sn sub ab col dd k0 k1 k2 k3 k5, K.lookup C = some (excClassObj nm q C N bs bm hdct sn sub ab col dd k0 k1 k2 k3 k5 "ValueError.__new__")
 tl : ∀ h : Heap, K.In h -> OwnTail h vMro bm
 init : PySem.W.findIn K (.ref C) "__init__" = some (some (.ref f))
 fn : PySem.W.typeIn K (.ref f) = some (.type "function")
 kp : PySem.W.keepIn K (.ref C) = true
 cl : ClsX K C bm
section
variable {X : Cx} {k : Nat} {f C : Addr} {fd : FuncData} {ps : List Str} {sp : Sp} {bm : List Value}
theorem run_exc {pins : PLs} {σ : L2.St} {H : Hp} {s : Shared} {Q : Addr -> Hp -> Prop} {us : List Value} {vs : List V} {E' : VSP} (M : XC X.K C f bm) (hex : X.ex = []) (F : FnOk X.prog X.w X.K X.mg X.base CX0 k f fd ps sp) (hr : Room (k + 1) X.A) (hb : Binds X.K fd ps [])
  (I : L2.Inv X pins σ H s) (r : Vals vs us) (hz : us.length ≤ sizeLine) (h : ∀ a, H a = none -> sp (.ref a :: vs) (upd H a (exO a C none)) (fun v H2 => v = .non /\ Q a H2) E0) :
  wpAny (model X.prog X.w) X.A (call (.ref C) us) (fun v s' => ∃ a H', v = .ref a /\ NewAt X pins a /\ L2.Inv X pins σ H' s' /\ Q a H') E' s := by
 obtain ⟨nm, q, N, bs, hdct, sn, sub, ab, col, dd, k0, k1, k2, k3, k5, lk⟩ := M.ob
 obtain ⟨hp, g, d, t, os⟩ := s
 refine exc_call PySem.F.excBase_ValueError (M.tl hp I.kIn) I.kIn (I.kIn _ _ lk) M.init M.fn (fun h' e hm => ?_) hz
 have na := B.Inv.newAt I hex hm.new
 have he := B.Inv.none_of I hm.new
 obtain ⟨tt, ho, _⟩ := hm.there
 have I1 : L2.Inv X pins σ H ⟨h', g, d, t, os⟩ := I.kept (t' := t) hm.keeps
 have I2 : L2.Inv X pins σ (upd H e (exO e C none)) ⟨h', g, d, t, os⟩ := B.Inv.adopt I1 na he hex (exO_ok ⟨tt, ho⟩)
 have hq := h e he
 have r2 : Vals (V.ref e :: vs) (Value.ref e :: us) := .cons rfl r
 have hl : (Value.ref e :: us).length = ps.length := by
  have z := r2.length
  rw [F.len _ _ _ _ hq] at z
  exact z.symm
 have hbd := hb ⟨h', g, d, t, os⟩ (Value.ref e :: us) I2.kIn (by rw [List.append_nil]; exact hl)
 rw [List.append_nil] at hbd
 refine wpAny_call (codeAny_mono (F.run _ X.stack _ _ ⟨Value.ref e :: us, []⟩ (Value.ref e :: us) _ _ E0 (hr.make C us []) (I2.env0.make C us []) hbd r2 hq) fun r s' hq' => ?_)
 cases r with
 | error e => exact False.elim hq'
 | ok fl =>
  cases fl with
  | ret u =>
   obtain ⟨v, H', I3, rv, ev, q3⟩ := I2.after hq'
   subst ev
   exact ⟨rv, e, H', rfl, na, I3, q3⟩
  | next => exact False.elim hq'
  | brk => exact False.elim hq'
  | cont => exact False.elim hq'
def Takes (X : Cx) (E : XK) : Prop := ∀ (pins : PLs) (σ : L2.St) (H : Hp) (s : Shared) (a C : Addr) (oe : Obj) (vs : Array Value) (a0 : Value), L2.Inv X pins σ H s -> H a = none -> NewAt X pins a -> s.heap.get? a = some oe -> oe.data = .fields vs →
 vs[0]? = some a0 -> vs[1]? = some .none -> oe.cls = .ref C -> E (.ref C) none H -> X.xe (.ref a) s
theorem raise_own {M : Model} {A : Around} {E : VSP} {env : Env} {nm q : Str} {N : Addr} {bs : List Value} {hdct : Bool} {sn : List Str} {sub : List Value} {ab : Bool} {col : Option Bool} {dd : Option Addr} {k0 k1 k2 k3 k5 : Option Value} {newId : String}
  {s : Shared} {x : Sem Value} {Q : Flow -> Shared -> Prop} (hbase : bm.contains (.type "BaseException") = true) (hh : A.handled = none)
  (h : wpAny M A x (fun v s₁ => ∃ e t dx, v = .ref e /\ s₁.heap.get? C = some (excClassObj nm q C N bs bm hdct sn sub ab col dd k0 k1 k2 k3 k5 newId) ∧
   s₁.heap.get? e = some { cls := .ref C, dict := dx, data := .fields #[.ref t, .none, .none, .none, .bool false, .none] } /\ E (.ref e) s₁) E s) :
  wpAny M A (raiseStmt env (some x) none) Q E s := by
 have hcB : (Value.ref C :: bm).contains (.type "BaseException") = true := by rw [List.contains_cons, hbase, Bool.or_true]
 unfold raiseStmt
 refine wpAny_bind (wpAny_mono h (fun v s₁ h₁ => ?_) fun _ _ y => y)
 obtain ⟨e, t, dx, rfl, hC, he, hE⟩ := h₁
 obtain ⟨hp, g, d, tk, os⟩ := s₁
 repeat (first
  | with_reducible refine wpAny_loadPart_at he ?_
  | with_reducible refine wpAny_loadPart_at hC ?_
  | (with_reducible refine wpAny_isSubtype_exc hC ?_
     rw [hcB])
  | wp_step)
 exact wpAny_raiseNew_none hh hE
def tRaise (C : Addr) (sp : Sp) (E : XK) (t : TA) : TS := fun _ σ H => t σ H fun vs H1 => vs.length ≤ sizeLine /\ ∀ a, H1 a = none -> sp (.ref a :: vs) (upd H1 a (exO a C none)) (fun v H2 => v = .non /\ (∃ dx, H2 a = some (exO a C dx)) /\ E (.ref C) none (del H2 a)) E0
end
section
variable {X : Cx} {pins : PLs} {σ : L2.St} {H : Hp} {s : Shared} {a C T : Addr} {a0 : Value}
end
def hid (N : List Str) : L2.St := List.replicate N.length none
theorem hid_weak {X : Cx} {pins : PLs} {σ : L2.St} {H : Hp} {s : Shared} (I : L2.Inv X pins σ H s) : L2.Inv X pins (hid X.N) H s :=
 I.weak (by rw [I.len]; exact List.length_replicate) fun i v q => by
  unfold hid at q
  rw [List.getElem?_replicate] at q
  split at q <;> cases q
def Fly (X : Cx) (pins : PLs) (R : Addr -> Hp -> Prop) : VSP := fun e s => ∃ (x C T : Addr) (a0 : Value) (H : Hp), e = .ref x /\ L2.Inv X pins (hid X.N) H s /\ H x = none /\ NewAt X pins x /\ NewAt X pins T /\ Trc s.heap H x C T a0 /\ R C H
def inTry (X : Cx) (pins : PLs) (R : Addr -> Hp -> Prop) : Cx := { X with pn := X.pn ++ pins, xe := Fly X pins R }
def inExc (X : Cx) (e : Addr) : Cx := { X with A := X.A.mark (some (.ref e)), calm := false, xe := fun _ _ => False }
section
variable {X : Cx} {pins pins' : PLs} {σ : L2.St} {H : Hp} {s : Shared} {R : Addr -> Hp -> Prop} {e : Addr}
theorem toExc (I : L2.Inv X pins σ H s) : L2.Inv (inExc X e) pins σ H s :=
 ⟨⟨I.ok.mod, I.ok.kind, I.ok.glob, I.ok.blt, I.ok.above, I.ok.inj, I.ok.has, I.ok.cab, (fun z => nomatch z), I.ok.frames, I.ok.stk, I.ok.exf, I.ok.bs, I.ok.bsz, I.ok.noex, I.ok.exfs, I.ok.funs, I.ok.frf⟩, I.os, I.bare, I.base, I.loc, I.cell, I.free, I.freeC, I.pin, I.hok, I.len⟩
theorem ofExc (ok : X.Ok) (I : L2.Inv (inExc X e) pins σ H s) : L2.Inv X pins σ H s :=
 ⟨ok, I.os, I.bare, I.base, I.loc, I.cell, I.free, I.freeC, I.pin, I.hok, I.len⟩
theorem SP.ofExc {D : Ends} {f : Flow} (ok : X.Ok) (h : SP (inExc X e) pins D f s) : SP X pins D f s := by
 cases f with
 | next => obtain ⟨σ', H', I, q⟩ := h; exact ⟨σ', H', B.ofExc ok I, q⟩
 | brk => obtain ⟨σ', H', I, q⟩ := h; exact ⟨σ', H', B.ofExc ok I, q⟩
 | cont => obtain ⟨σ', H', I, q⟩ := h; exact ⟨σ', H', B.ofExc ok I, q⟩
 | ret u => obtain ⟨v, σ', H', I, r, q⟩ := h; exact ⟨v, σ', H', B.ofExc ok I, r, q⟩
end
def tTry (N : List Str) (R : Addr -> Hp -> Prop) (Ok : Addr -> Prop) (tb : TS) (th : TS) : TS := fun D σ H => tb D σ H /\ ∀ C H', R C H' -> Ok C /\ th D (hid N) H'
section
variable {X : Cx} {R : Addr -> Hp -> Prop} {body : List Stmt} {b₀ : Stmt} {suite : List Stmt} {x : Str} {p hpos pos : Pos} {u : Value} {tb th : TS}
end
section
variable {X : Cx} {o value : Expr} {f : Str} {ta tv : TE} {pos' pos : Pos}
def sFldX (K : Fg) (ta tv : TE) (f : Str) : TS := fun D σ H => tv σ H fun _ H1 => ta σ H1 fun x H2 => ∃ a C bm, x = .ref a /\ H2 a = some (exO a C none) /\ ClsX K C bm /\ NoAttr K C f /\ ∀ d, D.nx σ (upd H2 a (exO a C (some d)))
end
def EofR (R : Addr -> Hp -> Prop) : XK := fun v _ H => ∃ C, v = .ref C /\ R C H
theorem vm_has (a : Addr) : (Value.ref a :: vMro).contains (.type "BaseException") = true := by rw [List.contains_cons, (by decide +kernel : vMro.contains (.type "BaseException") = true), Bool.or_true]
def strKeysB (es : Array DictEntry) : Bool := es.toList.all fun e => match e.key with
 | .str _ _ => true
 | _ => false
theorem strKeys_of {es : Array DictEntry} (h : strKeysB es = true) : StrKeys es := fun e he => by
 have z := List.all_eq_true.mp h e (Array.mem_toList_iff.mpr he)
 revert z
 cases e.key <;> intro z <;> first | exact ⟨_, _, rfl⟩ | (cases z)
theorem xc_mk {K : Fg} {C f B0 NB : Addr} {nm q nmB qB : Str} {N : Addr} {bs bsB : List Value} {hdct hdctB : Bool} {sn snB : List Str} {sub subB : List Value} {ab abB : Bool} {col colB : Option Bool} {dd ddB : Option Addr} {k0 k1 k2 k3 k5 j0 j1 j2 j3 j5 : Option Value}
  {oc : Value} {od : Option Addr} {es : Array DictEntry} {n : Nat} {sl : Array (Option Value)}
  (lc : K.lookup C = some (excClassObj nm q C N bs (.ref B0 :: [.type "ValueError", .type "Exception", .type "BaseException", .type "object"]) hdct sn sub ab col dd k0 k1 k2 k3 k5 "ValueError.__new__"))
  (lb : K.lookup B0 = some (excClassObj nmB qB B0 NB bsB [.type "ValueError", .type "Exception", .type "BaseException", .type "object"] hdctB snB subB abB colB ddB j0 j1 j2 j3 j5 "ValueError.__new__"))
  (ln : K.lookup NB = some ⟨oc, od, .dict es n, sl⟩) (hs : strKeysB es = true) (hn : (nsFind es "__init__").isNone = true)
  (fi : PySem.W.findIn K (.ref C) "__init__" = some (some (.ref f))) (ti : PySem.W.typeIn K (.ref f) = some (.type "function")) (kc : PySem.W.keepIn K (.ref C) = true) (hh : PySem.W.hasDictIn K C = true) (sa : PySem.W.findIn K (.ref C) "__setattr__" = some (some (.builtin "object.__setattr__"))) : XC K C f (.ref B0 :: vMro) :=
 have ob : ∃ nm q N bs hdct sn sub ab col dd k0 k1 k2 k3 k5, K.lookup C = some (excClassObj nm q C N bs (.ref B0 :: vMro) hdct sn sub ab col dd k0 k1 k2 k3 k5 "ValueError.__new__") := ⟨_, _, _, _, _, _, _, _, _, _, _, _, _, _, _, lc⟩
 have tl : ∀ h : Heap, K.In h -> OwnTail h vMro (.ref B0 :: vMro) := fun h X => .own (X _ _ lb) ⟨_, es, n, X _ _ ln, rfl, strKeys_of hs, fun _ => rfl⟩ (Option.isNone_iff_eq_none.mp hn) .base
 ⟨ob, tl, fi, ti, kc, ob, tl, hh, sa⟩
structure GetX (K : Fg) (C : Addr) : Prop where
 ga : PySem.W.findIn K (.ref C) "__getattribute__" = some (some (.builtin "BaseException.__getattribute__"))
 gn : PySem.W.findIn K (.ref C) "__getattr__" = some none
 cl : PySem.W.findIn K (.ref C) "__class__" = some (some (.builtin "object.__class__"))
 cg : PySem.W.specialIn K (.builtin "object.__class__") "__get__" = some (some (.builtin "getset_descriptor.__get__"))
 ct : PySem.W.takesIn K (.builtin "object.__class__") = some true
section
variable {prog : Program} {w : World} {A : Around} {E : VSP} {s : Shared} {K : Fg} {x C : Addr} {ox : Obj} {odo : Option Obj} {bm : List Value} {name : Str} {tk : Tok} {R : Result -> Shared -> Prop}
end
section
variable {K : Fg} {x C : Addr} {ox od : Obj} {bm : List Value}
end
structure Kept (S ch : List Addr) (h h' : Heap) : Prop where
 same : ∀ b o, b ∉ S -> b ∉ ch -> h.get? b = some o -> h'.get? b = some o
 slot : ∀ b o, b ∉ ch -> h.get? b = some o -> ∃ sl, h'.get? b = some { o with slots := sl }
theorem Kept.trans {S c1 c2 : List Addr} {h h1 h2 : Heap} (a : Kept S c1 h h1) (b : Kept S c2 h1 h2) : Kept S (c1 ++ c2) h h2 where
 same := fun x o n1 n2 q => b.same x o n1 (fun z => n2 (List.mem_append_right _ z)) (a.same x o n1 (fun z => n2 (List.mem_append_left _ z)) q)
 slot := fun x o n2 q => by
  obtain ⟨sl, z⟩ := a.slot x o (fun z => n2 (List.mem_append_left _ z)) q
  obtain ⟨sl', z'⟩ := b.slot x _ (fun z => n2 (List.mem_append_right _ z)) z
  exact ⟨sl', z'⟩
theorem Kept.upd {S : List Addr} {h : Heap} {T : Addr} {f : Obj -> Obj} : Kept S [T] h (h.update T f) where
 same := fun b o _ n q => by rw [Heap.get?_update_other _ _ (fun z => n (by rw [z]; exact List.mem_singleton.mpr rfl))]; exact q
 slot := fun b o n q => ⟨o.slots, by rw [Heap.get?_update_other _ _ (fun z => n (by rw [z]; exact List.mem_singleton.mpr rfl))]; exact q⟩
def TrcD (h : Heap) (x C T : Addr) (dx : Option Addr) (fl : Value) : Prop :=
 ∃ oe vs oT ts, h.get? x = some oe /\ oe.cls = .ref C /\ oe.dict = dx /\ oe.data = .fields vs /\ vs[1]? = some (.ref T) /\ T ≠ x /\ h.get? T = some oT /\ oT.data = .fields ts /\ ts[3]? = some fl
section
variable {M : Model} {A : Around} {E : VSP} {s : Shared} {base : Heap} {env : Env} {outer : List Env} {L e C T : Addr} {oe : Obj} {vs : Array Value} {dx : Option Addr} {fl : Value}
theorem dict_mapF (f : Array Value -> Array Value) (o : Obj) : (Obj.mapFields f o).dict = o.dict := by
 unfold Obj.mapFields; split <;> rfl
theorem entryD {hadNext : Bool} {head : Value} {Q : Unit -> Shared -> Prop} (hfr : A.frames = some (env :: outer)) (hl : s.heap.FunFrames base (env :: outer)) (hf : env.frame = some L)
  (he : s.heap.get? e = some oe) (hd : oe.data = .fields vs) (hsz : 1 < vs.size) (hc : oe.cls = .ref C) (hx : oe.dict = dx)
  (h : ∀ h' T, Kept (frs (env :: outer)) [e] s.heap h' -> s.heap.get? T = none -> TrcD h' e C T dx (rawInt L) -> Q () { s with heap := h' }) :
  wpAny M A (do let a ← frameOf env; let pl ← entryPlaceOf L hadNext; let b ← EntryCells.newEntry head a .none (rawInt L) .none pl; setField (.ref e) 1 b) Q E s := by
 have hene : e ∉ frs (env :: outer) := fun hm => by
  obtain ⟨_, o, ho, hnf⟩ := hl.mem hm
  rw [he] at ho; cases ho; exact hnf vs hd
 refine wpAny_bind (wpAny_frameOf_fun hfr hl hf fun h1 s1 => wpAny_bind (wpAny_entryPlaceOf fun pl hpl => ?_))
 unfold EntryCells.newEntry newFields
 refine wpAny_bind (wpAny_newObj_type ?_ (hpl.sizeOk5 _ _ _ _ _))
 have he1 : h1.get? e = some oe := (s1.2.1 e hene).trans he
 generalize hob : ({ cls := .type "traceback", dict := none, data := .fields ([head, .ref L, .none, rawInt L, .none] ++ (if pl.isEmpty then List.replicate 6 Value.none else pl)).toArray } : Obj) = ob
 have he2 := Heap.get?_push_of_some (h := h1) ob he1
 refine wpAny_setField he2 hd hsz (h _ h1.objs.size ⟨fun b o n1 n2 q => ?_, fun b o n2 q => ?_⟩ ?_ ?_)
 ·rw [Heap.get?_update_other _ _ (fun z => n2 (by rw [z]; exact List.mem_singleton.mpr rfl))]
  exact Heap.get?_push_of_some _ ((s1.2.1 b n1).trans q)
 ·obtain ⟨sl, z⟩ := s1.2.2 b o q
  refine ⟨sl, ?_⟩
  rw [Heap.get?_update_other _ _ (fun z => n2 (by rw [z]; exact List.mem_singleton.mpr rfl))]
  exact Heap.get?_push_of_some _ z
 ·exact Heap.get?_none_of_le (Nat.le_of_eq s1.1.symm)
 ·have nT : h1.objs.size ≠ e := Nat.ne_of_gt (Heap.lt_size he1)
  have d3 := Obj.data_mapFields hd (·.setIfInBounds 1 (Value.ref h1.objs.size))
  refine ⟨_, _, ob, _, Heap.get?_update_self _ he2 (Obj.isFreed_of_fields d3), (Obj.cls_mapFields _ _).trans hc, (dict_mapF _ _).trans hx, d3, by simp [hsz], nT, ?_, by rw [← hob], ?_⟩
  ·rw [Heap.get?_update_other _ _ (Ne.symm nT)]
   exact Heap.get?_push_size h1 (by rw [← hob]; rfl)
  ·first | (simp; done) | (rcases hpl with rfl | ⟨_, _, _, _, _, _, _, rfl⟩ <;> simp)
theorem flightD {Q : Unit -> Shared -> Prop} (t : TrcD s.heap e C T dx fl) (h : ∀ h', Kept [] [T] s.heap h' -> TrcD h' e C T dx .none -> Q () { s with heap := h' }) : wpAny M A (setFlight (.ref e) none) Q E s := by
 obtain ⟨oe, vs, oT, ts, q1, q2, q3, q4, q5, q6, q7, q8, q9⟩ := t
 have z3 : 3 < ts.size := (Array.getElem?_eq_some_iff.mp q9).1
 unfold setFlight
 refine wpAny_bind (wpAny_field q1 q4 q5 ?_)
 rw [if_pos (by simp)]
 refine wpAny_setField q7 q8 z3 (h _ Kept.upd ?_)
 have d3 := Obj.data_mapFields q8 (·.setIfInBounds 3 ((none : Option Addr).elim Value.none fun f => rawInt f))
 exact ⟨oe, vs, _, _, (Heap.get?_update_other _ _ q6).trans q1, q2, q3, q4, q5, q6, Heap.get?_update_self _ q7 (Obj.isFreed_of_fields d3), d3, by simp [z3]⟩
theorem note1 {Q : Unit -> Shared -> Prop} (hfr : A.frames = some (env :: outer)) (hl : s.heap.FunFrames base (env :: outer)) (hf : env.frame = some L) (he : s.heap.get? e = some oe) (hd : oe.data = .fields vs) (h1 : vs[1]? = some .none) (hc : oe.cls = .ref C) (hx : oe.dict = dx)
  (h : ∀ h' T, Kept (frs (env :: outer)) [e] s.heap h' -> s.heap.get? T = none -> TrcD h' e C T dx (rawInt L) -> Q () { s with heap := h' }) : wpAny M A (noteFrame (.ref e) env) Q E s := by
 unfold noteFrame
 simp only [hf]
 refine wpAny_bind (wpAny_field he hd h1 ?_)
 rw [if_neg (by decide)]
 exact entryD hfr hl hf he hd (Array.getElem?_eq_some_iff.mp h1).1 hc hx h
theorem noteN {Q : Unit -> Shared -> Prop} (hfr : A.frames = some (env :: outer)) (hl : s.heap.FunFrames base (env :: outer)) (hf : env.frame = some L) (t : TrcD s.heap e C T dx .none)
  (h : ∀ h' T', Kept (frs (env :: outer)) [T, e] s.heap h' -> s.heap.get? T' = none -> TrcD h' e C T' dx (rawInt L) -> Q () { s with heap := h' }) : wpAny M A (noteFrame (.ref e) env) Q E s := by
 obtain ⟨oe, vs, oT, ts, q1, q2, q3, q4, q5, q6, q7, q8, q9⟩ := t
 unfold noteFrame
 simp only [hf]
 refine wpAny_bind (wpAny_field q1 q4 q5 ?_)
 rw [if_pos (by simp)]
 refine wpAny_bind (wpAny_field q7 q8 q9 ?_)
 rw [if_neg (by simp [rawInt])]
 refine wpAny_bind (wpAny_setField q7 q8 (Array.getElem?_eq_some_iff.mp q9).1 ?_)
 have k1 : Kept (frs (env :: outer)) [T] s.heap (s.heap.update T (Obj.mapFields (·.setIfInBounds 3 Value.none))) := Kept.upd
 have nf : ∀ b o, s.heap.get? b = some o -> (∀ us, o.data ≠ .fields us) -> b ∉ [T] := fun b o hb hn z => by
  rw [List.mem_singleton.mp z, q7] at hb; cases hb; exact hn ts q8
 refine entryD (base := base) hfr (hl.of_keeps fun b o hb hn => ?_) hf ((Heap.get?_update_other _ _ q6).trans q1) q4 (Array.getElem?_eq_some_iff.mp q5).1 q2 q3 fun h' T' k nT t' => h h' T' (k1.trans k) ?_ t'
 ·obtain ⟨sl, z⟩ := k1.slot b o (nf b o hb hn) hb
  exact ⟨_, z, rfl⟩
 ·cases q : s.heap.get? T' with
  | none => rfl
  | some o =>
   exfalso
   by_cases z : T' = T
   ·have d3 := Obj.data_mapFields q8 (·.setIfInBounds 3 Value.none)
    rw [z, Heap.get?_update_self _ q7 (Obj.isFreed_of_fields d3)] at nT; cases nT
   ·rw [Heap.get?_update_other _ _ (Ne.symm z)] at nT; rw [q] at nT; cases nT
end
def DicO (d : Addr) (fs : List (Str × V)) : Heap -> Prop := fun h => ∃ mA, h.Ns1 d mA /\ ∀ f, RelO (fs.lookup f) (mA f)
def dO (d : Addr) (fs : List (Str × V)) : HO := .ext (DicO d fs)
theorem dO_ok {P : Program} {w : World} {H : Hp} {h : Heap} {d : Addr} {fs : List (Str × V)} (e : DicO d fs h) : ObjOk P w H h d (dO d fs) :=
 ⟨e, let ⟨_, ⟨_, _, _, q, _⟩, _⟩ := e; ⟨_, q⟩, fun _ _ ⟨mA, n, r⟩ k => ⟨mA, n.at k, r⟩⟩
theorem relO_none {a : Option V} {b : Option Value} (r : RelO a b) (h : b ≠ none) : a ≠ none := fun z => by
 subst z
 cases b with
 | none => exact h rfl
 | some _ => exact r.elim
theorem relO_cons {fs : List (Str × V)} {mA : Str -> Option Value} {f : Str} {y : V} {u : Value} (r : ∀ g, RelO (fs.lookup g) (mA g)) (q : RelV y u) : ∀ g, RelO (((f, y) :: fs).lookup g) (if g = f then some u else mA g) := fun g => by
 by_cases z : g = f
 ·subst z
  rw [if_pos rfl, List.lookup_cons_self]; exact q
 ·rw [if_neg z, List.lookup_cons, beq_eq_false_iff_ne.mpr z]; exact r g
theorem within_of {fs : List (Str × V)} {mA : Str -> Option Value} (r : ∀ g, RelO (fs.lookup g) (mA g)) : PySem.Within mA (fs.map (·.1)) := fun g hg => by
 have z := relO_none (r g) hg
 cases q : fs.lookup g with
 | none => exact absurd q z
 | some v =>
  obtain ⟨l1, l2, e, _⟩ := List.lookup_eq_some_iff.mp q
  rw [e]; simp
section
variable {X : Cx} {pins : PLs} {σ : L2.St} {H : Hp} {s : Shared} {a C : Addr}
theorem setX1 {A : Around} {E : VSP} {f : Str} {y : V} {u : Value} {bm : List Value} {Q : Unit -> Shared -> Prop} (hex : X.ex = []) (I : L2.Inv X pins σ H s) (e : H a = some (exO a C none)) (c : ClsX X.K C bm) (n : NoAttr X.K C f) (ry : RelV y u)
  (h : ∀ d s', H d = none -> d ≠ a -> L2.Inv X pins σ (upd (upd H a (exO a C (some d))) d (dO d [(f, y)])) s' -> Q () s') : wpAny (model X.prog X.w) A (setAttr (.ref a) f u) Q E s := by
 obtain ⟨t, hx⟩ := (show ObjOk X.prog X.w H s.heap a (exO a C none) from I.hok a _ e).1
 have J : PySem.W.InstAt s.heap a _ C none := ⟨hx, rfl, rfl, trivial⟩
 refine PySem.W.set_plain I.kIn J c.sa (store_err (s := { s with toks := s.toks + 1 }) I.kIn J c n fun b => ?_)
 obtain ⟨cd, hc, hd'⟩ := PySem.W.any_some c.hd
 refine wpAny_bind (wpAny_pure (wpAny_bind (wpAny_bind (wpAny_loadPart hx (wpAny_bind (PySem.W.Looks.here (s := { s with toks := s.toks + 1 }) (PySem.W.looks_clsIn I.kIn hc) ?_))))))
 rw [hd']
 show wpAny _ _ (alloc { cls := .type "dict", data := .dict #[] } >>= fun d => update a (fun o => { o with dict := some d }) >>= fun _ => dictMade (.ref C) a d) _ _ _
 have la : a < s.heap.objs.size := Heap.lt_size hx
 have nad : s.heap.objs.size ≠ a := Nat.ne_of_gt la
 have g1 := Heap.get?_push_of_some (h := s.heap) { cls := .type "dict", data := .dict #[] } hx
 refine wpAny_bind (wpAny_alloc (wpAny_bind (wpAny_update g1 ?_)))
 have g2 := Heap.get?_update_self (fun o => { o with dict := some s.heap.objs.size }) g1 rfl
 have e1 : ((s.heap.push { cls := .type "dict", data := .dict #[] }).update a fun o => { o with dict := some s.heap.objs.size }).get? s.heap.objs.size = some { cls := .type "dict", data := .dict #[] } := by
  rw [Heap.get?_update_other _ _ nad.symm]; exact Heap.get?_push_size s.heap rfl
 have e3 : ((s.heap.push { cls := .type "dict", data := .dict #[] }).update a fun o => { o with dict := some s.heap.objs.size }).Ns s.heap.objs.size (fun _ => none) :=
  ⟨_, #[], _, e1, rfl, (fun e he => absurd he (by simp)), fun _ => rfl⟩
 have keep : ∀ b o, b ≠ a -> s.heap.get? b = some o -> ((s.heap.push { cls := .type "dict", data := .dict #[] }).update a fun o => { o with dict := some s.heap.objs.size }).get? b = some o := fun b o nb q => by
  rw [Heap.get?_update_other _ _ (Ne.symm nb)]; exact Heap.get?_push_of_some _ q
 refine wpAny_pure (a := some s.heap.objs.size) (wpAny_bind (wpAny_pure (wpAny_bind ?_)))
 refine wpAny_nsSet1 (Heap.Ns1.of_empty e3) fun h' hn2 hs2 => ?_
 have rel : ∀ g, RelO ([(f, y)].lookup g) (if g = f then some u else none) := relO_cons (fs := []) (mA := fun _ => none) (fun _ => trivial) ry
 obtain ⟨oD, esD, epD, hoD, hdD, hcD⟩ := hn2.count (within_of rel)
 refine wpAny_bind (wpAny_lookBehind hoD (by rw [hdD]; exact pastItsLine_dict (Nat.le_trans hcD (Nat.le_add_left _ _))) ?_)
 have hno : s.heap.get? s.heap.objs.size = none := Heap.get?_none_of_le (Nat.le_refl _)
 have hH : H s.heap.objs.size = none := B.Inv.none_of I hno
 refine wpAny_pure (h s.heap.objs.size _ hH nad ?_)
 have ga : h'.get? a = some { cls := .ref C, dict := some s.heap.objs.size, data := .fields #[.ref t, .none, .none, .none, .bool false, .none] } := (hs2.2 a nad.symm).trans g2
 have I2 : L2.Inv X pins σ (upd H a (exO a C (some s.heap.objs.size))) { s with heap := h', toks := s.toks + 1 + 1 } := I.write (x := a) (e := a) (o := exO a C (some s.heap.objs.size)) (h' := h') (by rw [e]; trivial) (.inl rfl) (fun b o nb q => by
  have nb2 : b ≠ s.heap.objs.size := Nat.ne_of_lt (Heap.lt_size q)
  exact (hs2.2 b nb2).trans (keep b o nb q)) ⟨_, ga⟩ (exO_ok ⟨t, ga⟩)
 exact B.Inv.adopt I2 (B.Inv.newAt I hex hno) (by rw [upd_ne nad]; exact hH) hex (dO_ok ⟨_, hn2, rel⟩)
theorem setX2 {A : Around} {E : VSP} {f : Str} {y : V} {u : Value} {bm : List Value} {d : Addr} {fs : List (Str × V)} {Q : Unit -> Shared -> Prop} (I : L2.Inv X pins σ H s) (e : H a = some (exO a C (some d))) (ed : H d = some (dO d fs)) (hl : fs.length ≤ 100) (c : ClsX X.K C bm) (n : NoAttr X.K C f) (ry : RelV y u)
  (h : ∀ s', L2.Inv X pins σ (upd H d (dO d ((f, y) :: fs))) s' -> Q () s') : wpAny (model X.prog X.w) A (setAttr (.ref a) f u) Q E s := by
 obtain ⟨t, hx⟩ := (show ObjOk X.prog X.w H s.heap a (exO a C (some d)) from I.hok a _ e).1
 obtain ⟨mA, hn, rel0⟩ := (show ObjOk X.prog X.w H s.heap d (dO d fs) from I.hok d _ ed).1
 obtain ⟨od, _, _, hod, _⟩ := id hn
 have J : PySem.W.InstAt s.heap a _ C (some od) := ⟨hx, rfl, rfl, hod⟩
 refine PySem.W.set_plain I.kIn J c.sa (store_err (s := { s with toks := s.toks + 1 }) I.kIn J c n fun b => ?_)
 obtain ⟨cd, hc, hd'⟩ := PySem.W.any_some c.hd
 refine wpAny_bind (wpAny_pure (wpAny_bind (wpAny_bind (wpAny_loadPart hx (wpAny_bind (PySem.W.Looks.here (s := { s with toks := s.toks + 1 }) (PySem.W.looks_clsIn I.kIn hc) ?_))))))
 rw [hd']
 refine wpAny_pure (a := some d) (wpAny_bind (wpAny_pure (wpAny_bind ?_)))
 refine wpAny_nsSet1 (s := { s with toks := s.toks + 1 }) hn fun h' hn2 hs2 => ?_
 have rel := relO_cons (f := f) rel0 ry
 obtain ⟨oD, esD, epD, hoD, hdD, hcD⟩ := hn2.count (within_of rel)
 have hz : esD.size ≤ 101 := by rw [List.length_map, List.length_cons] at hcD; omega
 refine wpAny_bind (wpAny_lookBehind hoD (by rw [hdD]; exact pastItsLine_dict (Nat.le_trans hz (by decide))) ?_)
 refine wpAny_pure (h _ ?_)
 exact I.write (x := d) (e := d) (o := dO d ((f, y) :: fs)) (h' := h') (by rw [ed]; trivial) (.inl rfl) (fun b o nb q => (hs2.2 b nb).trans q) ⟨_, hoD⟩ (dO_ok ⟨_, hn2, rel⟩)
end
section
variable {X : Cx} {o value : Expr} {f : Str} {ta tv : TE} {pos' pos : Pos}
def sFldE (K : Fg) (ta tv : TE) (f : Str) : TS := fun D σ H => tv σ H fun y H1 => ta σ H1 fun x H2 => ∃ a C bm, x = .ref a /\ ClsX K C bm /\ NoAttr K C f ∧
 ((H2 a = some (exO a C none) /\ ∀ d, H2 d = none -> d ≠ a -> D.nx σ (upd (upd H2 a (exO a C (some d))) d (dO d [(f, y)]))) ∨
  ∃ d fs, H2 a = some (exO a C (some d)) /\ H2 d = some (dO d fs) /\ fs.length ≤ 100 /\ D.nx σ (upd H2 d (dO d ((f, y) :: fs))))
theorem ps_fldE (hex : X.ex = []) (ha : PE X o ta) (hv : PE X value tv) (hs : swapsWith value (some (.Attribute o f pos')) pos.line X.env = pure false) : PS X (.Assign [.Attribute o f pos'] value pos) (sFldE X.K ta tv f) := by
 intro pins s σ H D I h
 refine plainObj_wpAny_Assign_Attribute (thn (hv pins s σ H _ I h) fun u s1 ⟨y, H1, I1, ry, q⟩ => thn (ha pins s1 σ H1 _ I1 q) fun ov s2 ⟨x, H2, I2, rx, a, C, bm, ex, c, n, q2⟩ => ?_) hs
 subst ex
 obtain rfl : ov = Value.ref a := rx
 rcases q2 with ⟨ea, k⟩ | ⟨d, fs, ea, ed, hl, k⟩
 ·exact B.setX1 hex I2 ea c n ry fun d s' hd nd I' => ⟨σ, _, I', k d hd nd⟩
 ·exact B.setX2 I2 ea ed hl c n ry fun s' I' => ⟨σ, _, I', k⟩
end
theorem Kept.any {S ch : List Addr} {h h' : Heap} (k : Kept [] ch h h') : Kept S ch h h' := ⟨fun b o _ n q => k.same b o (fun z => by cases z) n q, k.slot⟩
section
variable {X : Cx} {pins : PLs} {σ : L2.St} {H : Hp} {s : Shared} {a C T : Addr} {dx : Option Addr} {fl : Value}
theorem Inv.leftK {ch : List Addr} {h' : Heap} {tk : Nat} (I : L2.Inv X pins σ H s) (hch : ∀ b ∈ ch, H b = none /\ NewAt X pins b) (k : Kept (frs X.stack) ch s.heap h') : L2.Inv X pins σ H { s with heap := h', toks := tk } := by
 have trk : ∀ b o, H b = some o -> b ∉ frs X.stack /\ b ∉ ch := fun b o q =>
  ⟨(fun z => by rw [I.stkFree b z] at q; cases q), (fun z => by rw [(hch b z).1] at q; cases q)⟩
 refine I.call' (s' := { s with heap := h', toks := tk }) (ch := ch) rfl ⟨fun b o q _ n1 n2 => k.same b o n1 n2 q, fun b o q _ n1 n2 => k.slot b o n2 q, fun b o _ n _ => n, fun b o q n2 => ?_, fun b xs q => q, fun b o u q => q, fun b ps q => ⟨#[], by rw [Array.append_empty]; exact q⟩⟩ (fun b o q => ?_) I.bare
  (fun b hb => ⟨.inr (hch b hb).2.st, (hch b hb).2.lo, (hch b hb).2.ce, (hch b hb).2.pi⟩)
 ·obtain ⟨sl, z⟩ := k.slot b o n2 q
  exact ⟨_, z⟩
 ·refine (I.hok b o q).stay (fun c u hc z => ?_) (fun c z => z) (fun c xs z => z)
  rcases hc with rfl | hc
  ·obtain ⟨n1, n2⟩ := trk _ _ q; exact k.same _ _ n1 n2 z
  ·obtain ⟨n1, n2⟩ := trk _ _ hc; exact k.same _ _ n1 n2 z
theorem noted1 {A : Around} {E' : VSP} {Q : Shared -> Prop} {oe : Obj} {vs : Array Value} (hA : A.frames = X.A.frames) (I : L2.Inv X pins σ H s) (hex : X.ex = []) (hst : X.stack = X.env :: X.outer) (hfr : X.env.frame = some X.env.locals)
  (ha : H a = none) (na : NewAt X pins a) (hx : s.heap.get? a = some oe) (hd : oe.data = .fields vs) (h1 : vs[1]? = some .none) (hc : oe.cls = .ref C) (hdx : oe.dict = dx)
  (h : ∀ (s' : Shared) (T : Addr), L2.Inv X pins σ H s' -> NewAt X pins T -> H T = none -> TrcD s'.heap a C T dx .none -> Q s') :
  wpAny (model X.prog X.w) A (noteFrame (.ref a) X.env) (fun _ s2 => wpAny (model X.prog X.w) A (setFlight (.ref a) none) (fun _ s3 => Q s3) E' s2) E' s := by
 have hfrm : A.frames = some (X.env :: X.outer) := by rw [hA, I.ok.frames, hst]
 refine note1 (base := X.base) hfrm (by rw [← hst]; exact I.stack) hfr hx hd h1 hc hdx fun h1 T k1 nT t1 => ?_
 refine flightD (s := { s with heap := h1 }) t1 fun h2 k2 t2 => ?_
 have nt := B.Inv.newAt I hex nT
 have hT := B.Inv.none_of I nT
 rw [← hst] at k1
 refine h { s with heap := h2 } T (B.Inv.leftK (tk := s.toks) I (fun b hb => ?_) (k1.trans k2.any)) nt hT t2
 simp only [List.cons_append, List.nil_append, List.mem_cons, List.not_mem_nil, or_false] at hb
 rcases hb with rfl | rfl
 ·exact ⟨ha, na⟩
 ·exact ⟨hT, nt⟩
theorem notedN {A : Around} {E' : VSP} {Q : Shared -> Prop} (hA : A.frames = X.A.frames) (I : L2.Inv X pins σ H s) (hex : X.ex = []) (hst : X.stack = X.env :: X.outer) (hfr : X.env.frame = some X.env.locals)
  (ha : H a = none) (na : NewAt X pins a) (hT : H T = none) (nT : NewAt X pins T) (t : TrcD s.heap a C T dx .none)
  (h : ∀ (s' : Shared) (T' : Addr), L2.Inv X pins σ H s' -> NewAt X pins T' -> H T' = none -> TrcD s'.heap a C T' dx .none -> Q s') :
  wpAny (model X.prog X.w) A (noteFrame (.ref a) X.env) (fun _ s2 => wpAny (model X.prog X.w) A (setFlight (.ref a) none) (fun _ s3 => Q s3) E' s2) E' s := by
 have hfrm : A.frames = some (X.env :: X.outer) := by rw [hA, I.ok.frames, hst]
 refine noteN (base := X.base) hfrm (by rw [← hst]; exact I.stack) hfr t fun h1 T' k1 nT' t1 => ?_
 refine flightD (s := { s with heap := h1 }) t1 fun h2 k2 t2 => ?_
 have nt := B.Inv.newAt I hex nT'
 have hT' := B.Inv.none_of I nT'
 rw [← hst] at k1
 refine h { s with heap := h2 } T' (B.Inv.leftK (tk := s.toks) I (fun b hb => ?_) (k1.trans k2.any)) nt hT' t2
 simp only [List.cons_append, List.nil_append, List.mem_cons, List.not_mem_nil, or_false] at hb
 rcases hb with rfl | rfl | rfl
 ·exact ⟨hT, nT⟩
 ·exact ⟨ha, na⟩
 ·exact ⟨hT', nt⟩
theorem flownN {A : Around} {E' : VSP} {Q : Shared -> Prop} (I : L2.Inv X pins σ H s) (hT : H T = none) (nT : NewAt X pins T) (t : TrcD s.heap a C T dx .none)
  (h : ∀ (s' : Shared), L2.Inv X pins σ H s' -> TrcD s'.heap a C T dx .none -> Q s') : wpAny (model X.prog X.w) A (setFlight (.ref a) none) (fun _ s3 => Q s3) E' s := by
 refine flightD t fun h2 k2 t2 => h _ (B.Inv.leftK (tk := s.toks) I (fun b hb => ?_) k2.any) t2
 rw [List.mem_singleton.mp hb]; exact ⟨hT, nT⟩
end
def CXD (P : Program) (w : World) : CXT := fun outer H s E e s' => ∃ (x C T : Addr) (dx : Option Addr) (H' : Hp), e = .ref x /\ s'.os = s.os /\ AllBare s'.gens /\ Un (frs outer) [] H H' s.heap s'.heap /\ HOk P w H' s'.heap /\ s.heap.get? x = none /\ s.heap.get? T = none /\ H' x = none /\ H' T = none ∧
 TrcD s'.heap x C T dx .none /\ E (.ref C) dx H'
section
variable {P : Program} {w : World} {K : Fg} {mg : Str -> Option Value} {base : Heap} {N : List Str} {qual : Str} {scope : Scope} {f : Addr} {cd : Value} {A : Around} {outer : List Env} {s : Shared} {H : Hp} {E : XK}
def TakesD (X : Cx) (E : XK) : Prop := ∀ (pins : PLs) (σ : L2.St) (H : Hp) (s : Shared) (a C : Addr) (dx : Option Addr) (oe : Obj) (vs : Array Value), L2.Inv X pins σ H s -> H a = none -> NewAt X pins a -> s.heap.get? a = some oe -> oe.data = .fields vs →
 vs[1]? = some .none -> oe.cls = .ref C -> oe.dict = dx -> E (.ref C) dx H -> X.xe (.ref a) s
theorem takesD : TakesD (cxOf (CXD P w) P w K mg base N qual scope f cd A outer s H E) E := by
 intro pins σ H1 s1 a C dx oe vs I ha na hx hd h1 hc hdx hE
 show wpAny (model P w) _ (leaving _ _) _ _ s1
 unfold leaving
 refine wpAny_bind (noted1 rfl I rfl rfl rfl ha na hx hd h1 hc hdx fun s3 T' I3 nT' hT' tr' => ?_)
 exact ⟨a, C, T', dx, H1, rfl, I3.os, I3.bare, I3.base, I3.hok, na.st, nT'.st, ha, hT', tr', hE⟩
theorem Fun.okD {x : Str} {st : Stmt} {fd : FuncData} {ps : List Str} {k : Nat} {sp : Sp} (F : Fun K x qual st f fd) (S : FnScope N ps (defScope st)) (len : ∀ vs H Q E, sp vs H Q E -> vs.length = ps.length)
  (hbody : ∀ (cdv : Value) (A : Around) (outer : List Env) (s : Shared) (H : Hp) (vs : List V) (Q : VK) (E : XK), Room k (A.deeper (envOfC qual (defScope st) s.heap.objs.size f cdv)) -> sp vs H Q E →
   ∃ t, PSs (cxOf (CXD P w) P w K mg base N qual (defScope st) f cdv A outer s H E) (defBody st) t /\ t { nx := fun _ H' => Q .non H', rt := Q } (start N vs) H) : FnOk P w K mg base (CXD P w) (k + 1) f fd ps sp := by
 obtain ⟨oc, od, kV, doc, pm, an, cdv, ct, osl, rfl, lk, hcd⟩ := F.ex
 exact fn_of lk hcd S len fun A outer s H vs Q E hr hsp => hbody cdv A outer s H vs Q E hr hsp
end
section
variable {X : Cx} {k : Nat} {f C : Addr} {fd : FuncData} {ps : List Str} {sp : Sp} {bm : List Value}
def tRaiseD (C : Addr) (sp : Sp) (E : XK) (t : TA) : TS := fun _ σ H => t σ H fun vs H1 => vs.length ≤ sizeLine /\ ∀ a, H1 a = none -> sp (.ref a :: vs) (upd H1 a (exO a C none)) (fun v H2 => v = .non /\ ∃ dx, H2 a = some (exO a C dx) /\ E (.ref C) dx (del H2 a)) E0
theorem ps_raiseD {x : Str} {p cpos pos : Pos} {e : Expr} {es : List Expr} {t : TA} {E : XK} (M : XC X.K C f bm) (hbase : bm.contains (.type "BaseException") = true) (hex : X.ex = []) (tk : TakesD X E) (F : FnOk X.prog X.w X.K X.mg X.base CX0 k f fd ps sp) (hr : Room (k + 1) X.A) (hb : Binds X.K fd ps [])
  (hg : Gl X x) (hm : X.mg x = some (.ref C)) (ha : PA X (e :: es) t) (hdb : (x == ("__debug__" : Str)) = false := by decide) (he : starEach (e :: es) X.env = (false, eval e X.env) :: starEach es X.env := by rfl) (hpl : (backTo cpos (starEach es X.env)).any (·.1) = false := by rfl) :
  PS X (.Raise (some (.Call (.Name x p) (e :: es) [] cpos)) none pos) (tRaiseD C sp E t) := by
 intro pins s σ H D I h
 obtain ⟨nm, q, N, bs, hdct, sn, sub, ab, col, dd, k0, k1, k2, k3, k5, lk⟩ := M.ob
 rw [arm_exec_Raise]
 refine wpAny_bind (wpAny_standAt (raise_own (C := C) (bm := bm) (nm := nm) (q := q) (N := N) (bs := bs) (hdct := hdct) (sn := sn) (sub := sub) (ab := ab) (col := col) (dd := dd) (k0 := k0) (k1 := k1) (k2 := k2) (k3 := k3) (k5 := k5) (newId := "ValueError.__new__") hbase hr.hd ?_))
 refine wpAny_bind (wpAny_mono (Q := fun v s' => ∃ a H', v = .ref a /\ NewAt X pins a /\ L2.Inv X pins σ H' s' /\ ∃ dx, H' a = some (exO a C dx) /\ E (.ref C) dx (del H' a)) ?_ (fun v s1 h1 => wpAny_bind (wpAny_standAt (wpAny_pure ?_))) fun _ _ y => y)
 ·refine wpAny_Call_Name_kw (ld_glob I hg hm ?_ hdb)
  refine PySem.W.callWith_K (h₀ := X.base) I.ok.mod.kin M.kp (thn (ha cpos pins s σ H _ I h) fun us s1 ⟨vs, H1, I1, r, hz, q⟩ => ⟨I1.kIn, ?_⟩) he hpl
  exact run_exc M hex F hr hb I1 (us := [] ++ us) r (by rw [List.nil_append, ← r.length]; exact hz) q
 ·obtain ⟨a, H', rfl, na, I1, dx, hx, hE⟩ := h1
  obtain ⟨tt, ho⟩ := (show L2.ObjOk X.prog X.w H' s1.heap a (exO a C dx) from I1.hok a _ hx).1
  exact ⟨a, tt, dx, rfl, I1.kIn _ _ lk, ho, tk pins σ (del H' a) s1 a C dx _ _ (B.Inv.forget I1 hx na.st) del_same na ho rfl rfl rfl rfl hE⟩
end
abbrev RX := Addr -> Option Addr -> Hp -> Prop
def FlyD (X : Cx) (pins : PLs) (R : RX) : VSP := fun e s => ∃ (x C T : Addr) (dx : Option Addr) (H : Hp), e = .ref x /\ L2.Inv X pins (hid X.N) H s /\ H x = none /\ NewAt X pins x /\ H T = none /\ NewAt X pins T /\ TrcD s.heap x C T dx .none /\ R C dx H
def inTryD (X : Cx) (pins : PLs) (R : RX) : Cx := { X with pn := X.pn ++ pins, xe := FlyD X pins R }
section
variable {X : Cx} {pins pins' : PLs} {σ : L2.St} {H : Hp} {s : Shared} {R : RX} {e : Addr}
theorem toTryD (I : L2.Inv X pins σ H s) : L2.Inv (inTryD X pins R) [] σ H s :=
 ⟨⟨I.ok.mod, I.ok.kind, I.ok.glob, I.ok.blt, I.ok.above, I.ok.inj, I.ok.has, I.ok.cab, I.ok.hd, I.ok.frames, I.ok.stk, I.ok.exf, I.ok.bs, I.ok.bsz, I.ok.noex, I.ok.exfs, I.ok.funs, I.ok.frf⟩, I.os, I.bare, I.base, I.loc, I.cell, I.free, I.freeC,
  fun p hp => I.pin p (by rw [List.append_nil] at hp; exact hp), I.hok, I.len⟩
theorem ofTryD (I : L2.Inv (inTryD X pins R) pins' σ H s) : L2.Inv X pins σ H s :=
 ⟨⟨I.ok.mod, I.ok.kind, I.ok.glob, I.ok.blt, I.ok.above, I.ok.inj, I.ok.has, I.ok.cab, I.ok.hd, I.ok.frames, I.ok.stk, I.ok.exf, I.ok.bs, I.ok.bsz, I.ok.noex, I.ok.exfs, I.ok.funs, I.ok.frf⟩, I.os, I.bare, I.base, I.loc, I.cell, I.free, I.freeC,
  fun p hp => I.pin p (List.mem_append_left _ hp), I.hok, I.len⟩
def EofD (R : RX) : XK := fun v dx H => ∃ C, v = .ref C /\ R C dx H
theorem passTD (hex : X.ex = []) : Passes (CXD X.prog X.w) (inTryD X pins R) (EofD R) := by
 intro pins' σ H1 s1 e s2 I hx
 obtain ⟨x, C, T, dx, H2, rfl, ho, hb, un, hok, nx, nT, hx2, hT2, tr, C', e', hr⟩ := hx
 cases e'
 have na := B.Inv.newAt I hex nx
 have nt := B.Inv.newAt I hex nT
 have I2 : L2.Inv (inTryD X pins R) pins' σ H2 s2 := I.call' ho un hok hb (fun b hb => by cases hb)
 exact ⟨x, C, T, dx, H2, rfl, hid_weak (ofTryD I2), hx2, ⟨na.st, na.lo, na.ce, fun p hp => na.pi p (List.mem_append_left _ hp), na.fr⟩, hT2, ⟨nt.st, nt.lo, nt.ce, fun p hp => nt.pi p (List.mem_append_left _ hp), nt.fr⟩, tr, hr⟩
theorem SP.ofTryD {D : Ends} {f : Flow} (h : SP (inTryD X pins R) [] D f s) : SP X pins D f s := by
 cases f with
 | next => obtain ⟨σ', H', I, q⟩ := h; exact ⟨σ', H', B.ofTryD I, q⟩
 | brk => obtain ⟨σ', H', I, q⟩ := h; exact ⟨σ', H', B.ofTryD I, q⟩
 | cont => obtain ⟨σ', H', I, q⟩ := h; exact ⟨σ', H', B.ofTryD I, q⟩
 | ret u => obtain ⟨v, σ', H', I, r, q⟩ := h; exact ⟨v, σ', H', B.ofTryD I, r, q⟩
end
def ErO (a C d : Addr) : Heap -> Prop := fun h => ∃ oe, h.get? a = some oe /\ oe.cls = .ref C /\ oe.dict = some d /\ PySem.W.notCls oe = true
def erO (a C d : Addr) : HO := .ext (ErO a C d)
def gone (i : Nat) (D : Ends) : Ends := { nx := fun σ H => D.nx (σ.set i none) H, rt := D.rt, bk := fun σ H => D.bk (σ.set i none) H, ct := fun σ H => D.ct (σ.set i none) H }
def tTryD (N : List Str) (R : RX) (Ok : Addr -> Prop) (tb th : TS) : TS := fun D σ H => tb D σ H /\ ∀ C dx H', R C dx H' -> Ok C /\ th D (hid N) H'
def tTryAs (N : List Str) (i : Nat) (R : RX) (Ok : Addr -> Prop) (tb th : TS) : TS := fun D σ H => tb D σ H /\ ∀ C dx H', R C dx H' -> Ok C /\ ∃ d, dx = some d /\ ∀ a, H' a = none -> th (gone i D) ((hid N).set i (some (.ref a))) (upd H' a (erO a C d))
section
variable {X : Cx} {R : RX} {body : List Stmt} {b₀ : Stmt} {suite : List Stmt} {x : Str} {p hpos pos : Pos} {u : Value} {tb th : TS}
theorem typ_of {M : Model} {h : Heap} {a C T : Addr} {dx : Option Addr} {fl : Value} (t : TrcD h a C T dx fl) : PySem.W.Looks M h (typeOf (.ref a)) (.ref C) := by
 obtain ⟨oe, _, _, _, q1, q2, _⟩ := t
 rw [← q2]
 exact (PySem.W.Looks.ld q1).andThen .now
theorem ps_tryD (hex : X.ex = []) (hst : X.stack = X.env :: X.outer) (hfr : X.env.frame = some X.env.locals) (hg : Gl X x) (hm : X.mg x = some u) (hb : ∀ pins, PSs (inTryD X pins R) body tb) (hs : ∀ e, PSs (inExc X e) (b₀ :: suite) th) (hd : (x == ("__debug__" : Str)) = false := by decide) :
  PS X (.Try body [.ExceptHandler (some (.Name x p)) none (b₀ :: suite) hpos] [] [] pos) (tTryD X.N R (fun C => PySem.W.exmOne X.K (.ref C) u = some true) tb th) := by
 intro pins s σ H D I ⟨h1, h2⟩
 refine wpAny_Try_except (wpAny_mono (hb pins [] s σ H D (toTryD I) h1) (fun f s1 q => ?_) fun e s1 q => ?_)
 ·have q' := SP.ofTryD q
  cases f with
  | next => exact wpAny_execs_nil q'
  | brk => exact q'
  | cont => exact q'
  | ret u => exact q'
 ·obtain ⟨a, C, T, dx, H1, rfl, I1, ha, na, hT, nT, tr, hR⟩ := q
  obtain ⟨hk, hth⟩ := h2 C dx H1 hR
  refine notedN rfl I1 hex hst hfr ha na hT nT tr fun s2 T2 I2 nT2 hT2 tr2 => ?_
  refine wpAny_handleBy_cons (codeAny_handlers_test ?_) (by intro z; cases z)
  refine ld_glob (X := inExc X a) (toExc I2) hg hm ?_ hd
  refine PySem.W.Looks.here (s := s2) (PySem.W.exm_one (M := model X.prog X.w) I2.kIn (typ_of tr2) hk) ?_
  refine codeAny_handlers_suite ?_
  refine flownN I2 hT2 nT2 tr2 fun s3 I3 tr3 => ?_
  refine wpAny_mono (hs a pins s3 (hid X.N) H1 D (toExc I3) hth) (fun f s4 q4 => SP.ofExc I.ok q4) fun _ _ z => z.elim
end
def rIsE (K : Fg) : List V -> Hp -> VK -> Prop := fun xs H Q => ∃ (a C d : Addr) (fs : List (Str × V)) (bm : List Value) (c : V) (b : Bool), xs = [.ref a, c] /\ H a = some (erO a C d) /\ H d = some (dO d fs) /\ ClsX K C bm /\ GetX K C ∧
 ((∃ n, c = .ty n /\ PySem.W.kitOne K (.ref C) (.type n) = some b) ∨ (∃ D, c = .ref D /\ PySem.W.kitOne K (.ref C) (.ref D) = some b) ∨
  ∃ (p : Addr) (cs : List Addr), c = .ref p /\ H p = some (.tup (cs.map V.ref)) /\ PySem.W.kitAny K (.ref C) (cs.map Value.ref) = some b) /\ Q (.bl b) H
def IsErr (H : Hp) (a C d : Addr) : Prop := H a = some (erO a C d) ∨ H a = some (exO a C (some d))
section
variable {X : Cx} {pins : PLs} {σ : L2.St} {H : Hp} {s : Shared} {a C d : Addr} {fs : List (Str × V)}
end
def tFldE (K : Fg) (ta : TE) (f : Str) : TE := fun σ H Q => ta σ H fun x H1 => ∃ a C d fs bm v, x = .ref a /\ IsErr H1 a C d /\ H1 d = some (dO d fs) /\ ClsX K C bm /\ GetX K C /\ NoAttr K C f /\ fs.lookup f = some v /\ Q v H1
def rIsX (K : Fg) : List V -> Hp -> VK -> Prop := fun xs H Q => ∃ (a C d : Addr) (fs : List (Str × V)) (bm : List Value) (c : V) (b : Bool), xs = [.ref a, c] /\ IsErr H a C d /\ H d = some (dO d fs) /\ ClsX K C bm /\ GetX K C ∧
 ((∃ n, c = .ty n /\ PySem.W.kitOne K (.ref C) (.type n) = some b) ∨ (∃ D, c = .ref D /\ PySem.W.kitOne K (.ref C) (.ref D) = some b) ∨
  ∃ (p : Addr) (cs : List Addr), c = .ref p /\ H p = some (.tup (cs.map V.ref)) /\ PySem.W.kitAny K (.ref C) (cs.map Value.ref) = some b) /\ Q (.bl b) H
def tMakeE (C : Addr) (sp : Sp) (t : TA) : TE := fun σ H Q => t σ H fun vs H1 => vs.length ≤ sizeLine /\ ∀ a, H1 a = none -> sp (.ref a :: vs) (upd H1 a (exO a C none)) (fun v H2 => v = .non /\ Q (.ref a) H2) E0
theorem turnedL {X : Cx} {pins : PLs} {σ : L2.St} {H : Hp} {s : Shared} {h' : Heap} {t' : Nat} {fp : List Addr} (I : Inv X pins σ H s)
  (k : ∀ b o, b ∉ fp -> s.heap.get? b = some o -> h'.get? b = some o) (hf : ∀ b ∈ fp, FpOk X pins H b) : Inv X pins σ H { s with heap := h', toks := t' } := by
 have off : ∀ b u, H b = some u -> b ∉ fp := fun b u e z => by rw [(hf b z).1] at e; cases e
 refine I.step (g' := s.gens) (d' := s.drawn) (ch := fp) (fun b hb => ?_) (fun b o _ _ hc e _ => k b o hc e) (fun b o _ _ hc e _ => ⟨o.slots, k b o hc e⟩) (fun _ _ _ _ n => n)
  (fun b o hc e => ⟨o, k b o hc e⟩) (fun _ _ e => e) (fun _ _ _ e => e) (fun b ps e => ⟨#[], by rw [e]; simp⟩) (fun m hm => ?_) (fun b u e => ?_) I.bare
 ·obtain ⟨_, f1, _, f3, f4, f5⟩ := hf b hb
  exact ⟨f3, f1, f4, f5⟩
 ·obtain ⟨o, es, ep, ho, r⟩ := hm
  exact ⟨o, es, ep, k _ o (fun z => (hf _ z).2.1 rfl) ho, r⟩
 ·refine (I.hok b u e).stay (fun c v hc q => k c v ?_ q) (fun _ q => q) fun _ _ q => q
  rcases hc with z | z
  ·rw [z]; exact off b u e
  ·exact off c _ z
section
variable {prog : Program} {w : World} {A : Around} {E : VSP} {s : Shared}
structure Five (z TI TO i1 i2 : Addr) : Prop where
 a1 : TI ≠ z
 a2 : TO ≠ z
 a3 : i1 ≠ z
 a4 : i2 ≠ z
 a5 : TI ≠ TO
 a6 : TI ≠ i1
 a7 : TI ≠ i2
 a8 : TO ≠ i1
 a9 : TO ≠ i2
 b1 : i1 ≠ i2
end
theorem turnedN {X : Cx} {pins : PLs} {σ : L2.St} {H : Hp} {s : Shared} {h' : Heap} {t' : Nat} {fp : List Addr} {p : Addr} {v : HO} (I : Inv X pins σ H s)
  (k : ∀ b o, b ∉ fp -> s.heap.get? b = some o -> h'.get? b = some o) (hf : ∀ b ∈ fp, FpOk X pins H b) (hp : s.heap.objs.size ≤ p) (new : ObjOk X.prog X.w (upd H p v) h' p v) :
  Inv X pins σ (upd H p v) { s with heap := h', toks := t' } := by
 have off : ∀ b u, H b = some u -> b ∉ fp := fun b u e z => by rw [(hf b z).1] at e; cases e
 have hn : H p = none := I.hok.fresh hp
 have old : ∀ b u, H b = some u -> upd H p v b = some u := fun b u e => by rw [upd_ne (ne_of_none e hn)]; exact e
 refine I.step (g' := s.gens) (d' := s.drawn) (ch := fp) (fun b hb => ?_) (fun b o _ _ hc e _ => k b o hc e) (fun b o _ _ hc e _ => ⟨o.slots, k b o hc e⟩) (fun b o _ e n => ?_)
  (fun b o hc e => ⟨o, k b o hc e⟩) (fun b xs e => old b _ e) (fun b o u e => old b _ e) (fun b ps e => ⟨#[], by rw [old b _ e]; simp⟩) (fun m hm => ?_) (fun b u e => ?_) I.bare
 ·obtain ⟨_, f1, _, f3, f4, f5⟩ := hf b hb
  exact ⟨f3, f1, f4, f5⟩
 ·rw [upd_ne (Nat.ne_of_lt (Nat.lt_of_lt_of_le (Heap.lt_size e) hp))]; exact n
 ·obtain ⟨o, es, ep, ho, r⟩ := hm
  exact ⟨o, es, ep, k _ o (fun z => (hf _ z).2.1 rfl) ho, r⟩
 ·by_cases hb : b = p
  ·subst hb; rw [upd_same] at e; cases e; exact new
  ·rw [upd_ne hb] at e
   refine (I.hok b u e).stay (fun c v hc q => k c v ?_ q) (fun c q => old c _ q) fun c xs q => old c _ q
   rcases hc with z | z
   ·rw [z]; exact off b u e
   ·exact off c _ z
def Itz (K : Fg) (a b : Addr) : It :=
 ⟨fun i H => ∃ xs ys x y, SqT K H a xs /\ SqT K H b ys /\ xs[i]? = some x /\ ys[i]? = some y,
  fun i H v H' => ∃ p x y, H p = none /\ v = .ref p /\ H' = upd H p (.tup [x, y]) /\ (∀ xs, SqT K H a xs -> xs[i]? = some x) /\ ∀ ys, SqT K H b ys -> ys[i]? = some y,
  fun i H => ∃ xs ys, SqT K H a xs /\ SqT K H b ys /\ (xs.length ≤ i ∨ ys.length ≤ i)⟩
def ZSt (z TI TO i1 i2 a b : Addr) (i : Nat) (h : Heap) : Prop := IsZip h z TI TO .none /\ IsPair h TI (.ref i1) (.ref i2) /\ (∃ u v, IsPair h TO u v) /\ h.IsTupleIter i1 a i /\ h.IsTupleIter i2 b i
abbrev zA (h : Heap) (a : Addr) : Heap := h.push { cls := .type "tuple_iterator", data := .fields #[.ref a, .int 0 0] }
abbrev zB (h : Heap) (a b : Addr) : Heap := zA (zA h a) b
abbrev zC (h : Heap) (a b : Addr) : Heap := (zB h a b).push { cls := .type "tuple", data := .seq #[.ref h.objs.size, .ref (zA h a).objs.size] }
abbrev zD (h : Heap) (a b : Addr) : Heap := (zC h a b).push { cls := .type "tuple", data := .seq #[.none, .none] }
abbrev zE (h : Heap) (a b : Addr) : Heap := (zD h a b).push { cls := .type "zip", data := .fields #[.none, .bool false, .bool false, .ref (zB h a b).objs.size, .ref (zC h a b).objs.size] }
def iZip (K : Fg) (ta : TA) : TI := fun σ H R => ta σ H fun vs H1 => ∃ a b, vs = [.ref a, .ref b] /\ (∃ xs, SqT K H1 a xs) /\ (∃ ys, SqT K H1 b ys) /\ R (Itz K a b) H1
theorem sqL_off {X : Cx} {pins : PLs} {σ : L2.St} {H : Hp} {s : Shared} {a b : Addr} {xs : List V} (I : Inv X pins σ H s) (h : SqL X.K H a xs) (f : FpOk X pins H b) : a ≠ b := fun z => by
 subst z
 rcases h with (h | ⟨o, h⟩) | ⟨o, its, n, hk, _⟩
 ·rw [f.1] at h; cases h
 ·rw [f.1] at h; cases h
 ·have e := I.ok.mod.kin a o hk
  rcases f.2.2.2.1 with z | z
  ·exact I.ok.noex a o e z
  ·rw [(I.ok.bs a o e).1] at z; cases z
theorem lstIter_at {h h' : Heap} {i a : Addr} {n : Nat} (x : h.IsListIter i a n) (k : ∀ o, h.get? i = some o -> h'.get? i = some o) : h'.IsListIter i a n := x.at k
def IteT (K : Fg) (a : Addr) : It :=
 ⟨fun i H => ∃ xs x, SqT K H a xs /\ xs[i]? = some x,
  fun i H v H' => ∃ p x, H p = none /\ v = .ref p /\ H' = upd H p (.tup [.int i, x]) /\ ∀ xs, SqT K H a xs -> xs[i]? = some x,
  fun i H => ∃ xs, SqT K H a xs /\ xs.length ≤ i⟩
def iEnT (K : Fg) (ta : TA) : TI := fun σ H R => ta σ H fun vs H1 => ∃ a, vs = [.ref a] /\ (∃ xs, SqT K H1 a xs) /\ R (IteT K a) H1
def IteL (K : Fg) (a : Addr) : It :=
 ⟨fun i H => ∃ xs x, SqL K H a xs /\ xs[i]? = some x,
  fun i H v H' => ∃ p x, H p = none /\ v = .ref p /\ H' = upd H p (.tup [.int i, x]) /\ ∀ xs, SqL K H a xs -> xs[i]? = some x,
  fun i H => ∃ xs, SqL K H a xs /\ xs.length ≤ i⟩
theorem turn_enL {P : Program} {w : World} {K : Fg} {elts : List Expr} {x1} {pos : Pos} {e it a : Addr} (hei : e ≠ it) :
  Turn P w K (.Tuple elts x1 pos) (IteL K a) [e, it] e (fun i h => (∃ old, IsEnum h e it (i : Nat) old) /\ h.IsListIter it a i) where
 mem := by simp
 obj := fun i h st c hc => by
  obtain ⟨⟨old, h1⟩, ⟨o2, h2, c2, d2⟩⟩ := st
  simp only [List.mem_cons, List.not_mem_nil, or_false] at hc
  rcases hc with rfl | rfl
  ·exact ⟨_, h1, fun v q => by cases (show Data.fields _ = Data.cell v from q)⟩
  ·exact ⟨o2, h2, fun v q => by rw [d2] at q; cases q⟩
 keep := fun i h h' st k => by
  obtain ⟨⟨old, h1⟩, h2⟩ := st
  exact ⟨⟨old, k e (by simp) _ h1⟩, lstIter_at h2 fun o q => k it (by simp) o q⟩
 item := by
  intro X hP hw hK hc i pins s σ H E I hf st hg
  subst hP hw hK
  obtain ⟨xs, x, q1, hx⟩ := hg
  obtain ⟨its, rv, p1, z1⟩ := I.list q1
  obtain ⟨u, hu, ru⟩ := rv.get hx
  have off : ∀ c ∈ [e, it], a ≠ c := fun c hc => sqL_off I q1 (hf c hc)
  obtain ⟨⟨old, h1⟩, h2⟩ := st
  have hh : X.A.in1.handled = none := I.ok.hd hc
  have na : a ≠ it := off it (by simp)
  have ne : e ∉ [it, a] := fun q => by
   simp only [List.mem_cons, List.not_mem_nil, or_false] at q
   rcases q with q | q
   ·exact hei q
   ·exact off e (by simp) q.symm
  have hi : i < its.toArray.size := by have := (List.getElem?_eq_some_iff.mp hu).1; simpa using this
  have el : e < s.heap.objs.size := Heap.lt_size h1
  have il : it < s.heap.objs.size := by obtain ⟨o2, q2, _⟩ := h2; exact Heap.lt_size q2
  refine wpAny_pyNext_enum_itemD (Draws.list hh it a na its.toArray) h1 ⟨h2, p1.isList⟩ hi hei ne fun v h' tk hv eo st' tup hz hk => ⟨_, rfl, wpAny_letOwnedTupleGo_enum eo fun h'' e2 sb => ?_⟩
  have ev : v = u := by
   have : its.toArray[i]? = some u := by simpa using hu
   rw [this] at hv
   exact (Option.some.inj hv).symm
  subst ev
  have nt : s.heap.objs.size ≠ e := Nat.ne_of_gt el
  have ni : s.heap.objs.size ≠ it := Nat.ne_of_gt il
  have P : ObjOk X.prog X.w (upd H s.heap.objs.size (.tup [.int i, x])) h'' s.heap.objs.size (.tup [.int i, x]) :=
   ⟨by show 2 ≤ sizeLine; decide, [.int i tk, v], .cons ⟨_, rfl⟩ (.cons ru .nil), ⟨_, sb.extBut _ _ nt tup, rfl, _, rfl⟩⟩
  have I2 : Inv X pins σ (upd H s.heap.objs.size (.tup [.int i, x])) { s with heap := h'', toks := tk + 1 } := turnedN I (fun c o' n q => by
   have n1 : c ≠ e := fun r => n (by simp [r])
   have n2 : c ≠ it := fun r => n (by simp [r])
   exact sb.extBut _ _ n1 (hk c o' n1 n2 q)) hf (Nat.le_refl _) P
  refine ⟨.ref s.heap.objs.size, _, I2, rfl, ⟨_, x, I.fresh, rfl, rfl, fun ys hy => by rw [I.list_inj hy q1]; exact hx⟩, ⟨⟨_, by simpa using e2⟩, lstIter_at st'.1 fun o q => sb.extBut _ _ hei.symm q⟩, fun c hc => ?_⟩
  have lt : c < s.heap.objs.size := by
   simp only [List.mem_cons, List.not_mem_nil, or_false] at hc
   rcases hc with rfl | rfl
   ·exact el
   ·exact il
  rw [upd_ne (Nat.ne_of_lt lt)]
  exact (hf c hc).1
 done := by
  intro X hP hw hK hc i pins s σ H E I hf st hg
  subst hP hw hK
  obtain ⟨xs, q1, hx⟩ := hg
  obtain ⟨its, rv, p1, z1⟩ := I.list q1
  have off : ∀ c ∈ [e, it], a ≠ c := fun c hc => sqL_off I q1 (hf c hc)
  obtain ⟨⟨old, h1⟩, h2⟩ := st
  have hh : X.A.in1.handled = none := I.ok.hd hc
  have hl := rv.length
  have nn : its.toArray[i]? = none := by rw [Array.getElem?_eq_none_iff]; simp; omega
  have hT : s.TypeIs (.ref e) "enumerate" := ⟨_, h1, rfl⟩
  unfold pyNext
  refine wpAny_bind (wpAny_attempt (wpAny_callSpecial?_slot (name := Str.ofString "__next__") hT F.slot_enumerate_next
   (wpAny_call_entry F.slot_enumerate_next hT F.entry_enumerate_next ?_ (F.args_enumerate_next_1 _))))
  show wpAny _ _ (field (.ref e) 2 >>= _) _ _ _
  refine wpAny_bind (wpAny_field h1 rfl (x := .ref it) rfl ?_)
  refine wpAny_bind (wpAny_nextOf_list_end hh h2 p1.isList nn fun h' x he' hx' => ?_)
  obtain ⟨o, ho, hcl⟩ := hx'
  refine wpAny_bind (wpAny_isInstance (T := "StopIteration") (b := true) ⟨o, ho, hcl⟩ isSubtype_stop ?_)
  refine wpAny_pure ⟨rfl, ?_⟩
  exact turnedL (t' := s.toks) I (fun c o' n q => he' c o' (fun r => n (by simp [r])) q) hf
 self := fun A i s Q E st h => by
  obtain ⟨⟨old, h1⟩, _⟩ := st
  exact wpAny_pyIter_enum h1 h
def iEnL (K : Fg) (ta : TA) : TI := fun σ H R => ta σ H fun vs H1 => ∃ a, vs = [.ref a] /\ (∃ xs, SqL K H1 a xs) /\ R (IteL K a) H1
theorem pi_enumL {X : Cx} {elts : List Expr} {x1} {tp p pos : Pos} {a : Expr} {ta : TA} (hg : Gl X "enumerate") (hm : X.mg "enumerate" = none) (ha : PA X [a] ta) (hs : starEach [a] X.env = [(false, eval a X.env)] := by rfl) :
  PI X (.Tuple elts x1 tp) (.Call (.Name "enumerate" p) [a] [] pos) (iEnL X.K ta) := by
 intro pins s σ H R I h
 refine Call_ (ld_blt I hg hm (show bootBuiltins "enumerate" = some (.type "enumerate") by kernel_rfl) (PyProof.Rows.callWith_type1 (thn (ha pos pins s σ H _ I h) fun us s1 ⟨vs, H1, I1, r1, q1⟩ => ?_) hs rfl))
 obtain ⟨a, e, ⟨xs, hx⟩, q⟩ := q1
 subst e
 obtain ⟨u, rfl, ru⟩ := r1.one
 cases ru
 obtain ⟨its, _, p1, _⟩ := I1.list hx
 refine call_enumerate_list p1.isList fun h' he hi sz kk => wpAny_pyIter_enum he ?_
 have I2 : Inv X pins σ H1 { s1 with heap := h' } := I1.kept (t' := s1.toks) kk
 refine ⟨_, [s1.heap.objs.size + 1, s1.heap.objs.size], _, _, H1, rfl, I2, turn_enL (a := a) (Nat.succ_ne_self _), ⟨⟨_, he⟩, hi⟩, fun c hc => ?_, q⟩
 have le : s1.heap.objs.size ≤ c := by
  simp only [List.mem_cons, List.not_mem_nil, or_false] at hc
  rcases hc with h | h
  ·rw [h]; exact Nat.le_succ _
  ·rw [h]; exact Nat.le_refl _
 exact I1.fpOk le (I1.hok.fresh le)
theorem for_enumL {K : Fg} {a : Addr} {xs : List V} {g : TG} {tb : TS} {D : Ends} {σ : L2.St} {H : Hp} (Pv : Nat -> L2.St -> Hp -> Prop) (h0 : Pv 0 σ H)
  (hl : ∀ i σ H, i ≤ xs.length -> Pv i σ H -> SqL K H a xs)
  (hs : ∀ i x p σ H, xs[i]? = some x -> Pv i σ H -> H p = none -> g (.ref p) σ (upd H p (.tup [.int i, x])) fun σ2 H2 => tb { D with nx := Pv (i + 1), ct := Pv (i + 1), bk := D.nx } σ2 H2) (hd : ∀ σ H, Pv xs.length σ H -> D.nx σ H) :
  ∃ W : Nat -> Nat -> L2.St -> Hp -> Prop, (∃ m, W 0 m σ H) /\ ∀ i m σ H, W i m σ H →
   ((IteL K a).stop i H /\ D.nx σ H) ∨ ((IteL K a).go i H /\ ∃ N : L2.St -> Hp -> Prop, (∀ σ' H', N σ' H' -> ∃ m', m' < m /\ W (i + 1) m' σ' H') /\ ∀ x H', (IteL K a).yld i H x H' -> g x σ H' fun σ2 H2 => tb { D with nx := N, ct := N, bk := D.nx } σ2 H2) := by
 refine ⟨fun i m σ H => m = xs.length - i /\ i ≤ xs.length /\ Pv i σ H, ⟨_, rfl, Nat.zero_le _, h0⟩, ?_⟩
 rintro i m σ H ⟨rfl, hi, p⟩
 have q := hl i σ H hi p
 by_cases hlt : i < xs.length
 ·refine .inr ⟨⟨xs, _, q, List.getElem?_eq_getElem hlt⟩, Pv (i + 1), fun σ' H' p' => ⟨xs.length - (i + 1), by omega, rfl, hlt, p'⟩, fun x H' y => ?_⟩
  obtain ⟨pp, v, hp, rfl, rfl, hv⟩ := y
  exact hs i v pp σ _ (hv xs q) p hp
 ·have e : i = xs.length := by omega
  subst e
  exact .inl ⟨⟨xs, q, Nat.le_refl _⟩, hd σ H p⟩
section
variable {prog : Program} {w : World} {A : Around} {E : VSP}
end
def gLst (K : Fg) (n : Nat) (t : TGs) : TG := fun v σ H Q => ∃ a xs, v = .ref a /\ SqL K H a xs /\ xs.length = n /\ t xs σ H Q
section
variable {prog : Program} {w : World} {A : Around} {E : VSP} {s : Shared}
end
def rSlW (K : Fg) : V -> Option Int -> Option Int -> Hp -> VK -> Prop := fun x lo hi H Q => ∃ a xs, x = .ref a /\ SqT K H a xs /\ HT.sIx xs.length 0 lo = 0 /\ HT.sIx xs.length xs.length hi = xs.length /\ Q (.ref a) H
end B
namespace B
structure Bq (D N : Nat) (r : R) : Prop where
 pos : 0 < r.2
 cop : Int.gcd r.1 r.2 = 1
 dvd : r.2 ∣ (D : Int)
 le : r.1.natAbs ≤ N * r.2.natAbs
theorem mkR_nn {a b : Int} (ha : 0 ≤ a) : 0 ≤ (mkR a b).1 := Int.ediv_nonneg ha (by omega)
end B
namespace B
open PySem PySem.Spec L2 PyProof.Rows
inductive Rl where
 | pow (k : Int)
 | tab (rows : List (R × R))
def rowD : R × R := ((0, 1), (0, 1))
def slopeR (lo hi : R × R) : R := overR (minusR hi.2 lo.2) (minusR hi.1 lo.1)
def slp (rows : List (R × R)) (k : Nat) : R := slopeR (rows.getD k rowD) (rows.getD (k + 1) rowD)
def pOf (rows : List (R × R)) (s : R) : Nat := rows.countP fun r => lessR r.1 s
def qOf (rows : List (R × R)) (s : R) : Nat := rows.countP fun r => !lessR s r.1
def leftT (rows : List (R × R)) (s : R) : R := if pOf rows s = 0 then (0, 1) else slp rows (pOf rows s - 1)
def rightT (rows : List (R × R)) (s : R) : Option R := if qOf rows s < rows.length then some (slp rows (qOf rows s - 1)) else none
def powS (k : Int) (s : R) : R := timesR (k, 1) (powR s (k - 1).toNat)
def sidesOf : Rl -> R -> R × Option R
 | .pow k, s => (powS k s, some (powS k s))
 | .tab rows, s => (leftT rows s, rightT rows s)
def Inc (rows : List (R × R)) : Prop := rows.Pairwise fun a b => lessR a.1 b.1 = true
def AllP (rows : List (R × R)) : Prop := ∀ r ∈ rows, 0 < r.1.2
abbrev D0 : Nat := 5822723907000000000
abbrev N0 : Nat := 1000000007
abbrev N1 : Nat := 17179869184
abbrev NR : Nat := 11000000077
abbrev N2 : Nat := 1180591620717411303424
structure RowsOk (rows : List (R × R)) : Prop where
 n2 : 2 ≤ rows.length
 n12 : rows.length ≤ 12
 inc : Inc rows
 zero : ∃ y, rows[0]? = some ((0, 1), y)
 sp : ∀ r ∈ rows, Bq D0 NR r.1
 pw : ∀ r ∈ rows, Bq (D0 * D0) N2 r.2
def RlOk : Rl -> Prop
 | .pow k => 2 ≤ k /\ k ≤ 4
 | .tab rows => RowsOk rows
structure SpOk (s : R) : Prop where
 bq : Bq (D0 * 2) N1 s
 nn : 0 ≤ s.1
def Below : Rl -> R -> Prop
 | .pow _, _ => True
 | .tab rows, s => ∃ r, rows[rows.length - 1]? = some r /\ lessR r.1 s = false
def lAt (rows : List (R × R)) (s : R) (i : Nat) : R := if 0 < pOf rows s /\ pOf rows s - 1 < i then slp rows (pOf rows s - 1) else (0, 1)
def rAt (rows : List (R × R)) (s : R) (i : Nat) : Option R := if 0 < qOf rows s /\ qOf rows s - 1 < i then some (slp rows (qOf rows s - 1)) else none
def powAt (k : Int) (s : R) (j : Nat) : R := mkR (k * s.1 ^ j) (s.2 ^ j)
def bearM (l : R) (r : Option R) (g : R) : Bool := !lessR g l && (match r with | none => true | some x => !lessR x g)
end B
namespace B
def val (r : R) : Rat := (r.1 : Rat) / (r.2 : Rat)
end B
namespace B
def slV (rows : List (R × R)) (i : Nat) : Rat := (val (rows.getD (i + 1) rowD).2 - val (rows.getD i rowD).2) / (val (rows.getD (i + 1) rowD).1 - val (rows.getD i rowD).1)
section
variable {s p : Nat -> Rat} {n : Nat}
def sl (s p : Nat -> Rat) (i : Nat) : Rat := (p (i + 1) - p i) / (s (i + 1) - s i)
end
end B
namespace B
open PySem PySem.Spec L2 PyProof.Rows
structure QE (X : Cx) (e : Expr) (t : TE) : Prop where
 p : PE X e t
structure QT (X : Cx) (e : Expr) (t : TT) : Prop where
 p : PT X e t
structure QW (X : Cx) (e : Expr) (t : TT) : Prop where
 p : PW X e t
structure QA (X : Cx) (es : List Expr) (t : TA) : Prop where
 p : PA X es t
structure QS (X : Cx) (st : Stmt) (t : TS) : Prop where
 p : PS X st t
structure QSs (X : Cx) (st : List Stmt) (t : TS) : Prop where
 p : PSs X st t
structure QI (X : Cx) (tg iter : Expr) (wi : TI) : Prop where
 p : PI X tg iter wi
structure QG (X : Cx) (target : Expr) (t : TG) : Prop where
 p : PG X target t
structure QGs (X : Cx) (ts : List Expr) (t : TGs) : Prop where
 p : PGs X ts t
theorem QSs.ok {X : Cx} {b : List Stmt} {t : TS} {D : Ends} {σ : L2.St} {H : Hp} (h : QSs X b t) (r : t D σ H) : ∃ t : TS, PSs X b t /\ t D σ H := ⟨t, h.p, r⟩
structure QO (X : Cx) (o : Option Expr) (t : L2.TO) : Prop where
 p : PO X o t
section
set_option autoImplicit true
set_option relaxedAutoImplicit true
theorem qv  (i : Nat) {x : Str} {pos : Pos} (hN : X.N[i]? = some x := by rfl) (hv : Vis X.env.scope x := by first | exact Or.inl rfl | exact Or.inr (Or.inl rfl) | exact Or.inr (Or.inr rfl)) (hd : (x == ("__debug__" : Str)) = false := by decide) (hcd : (x == ("__classdict__" : Str)) = false := by decide) : QE X (.Name x pos) (tVar i) := ⟨pv i hN hv hd hcd⟩
theorem qe_int  {i j pos} : QE X (.Constant (.int i) j pos) (tC (.int i)) := ⟨pe_int ⟩
theorem qe_bl  {b j pos} : QE X (.Constant (.bool b) j pos) (tC (.bl b)) := ⟨pe_bl ⟩
theorem qe_non  {j pos} : QE X (.Constant .none j pos) (tC .non) := ⟨pe_non ⟩
theorem qe_str  {x j pos} : QE X (.Constant (.str x) j pos) (tC (.str x)) := ⟨pe_str ⟩
theorem qe_glob  {x : Str} {v : V} {u : Value} {pos : Pos} (hg : Gl X x) (hm : X.mg x = some u) (r : RelV v u) (hd : (x == ("__debug__" : Str)) = false := by decide) : QE X (.Name x pos) (tC v) := ⟨pe_glob hg hm r hd⟩
theorem qe_bltn  {x : Str} {v : V} {u : Value} {pos : Pos} (hg : Gl X x) (hm : X.mg x = none) (hv : bootBuiltins x = some u) (r : RelV v u) (hn : x ≠ "__name__" := by decide) (hd : (x == ("__debug__" : Str)) = false := by decide) : QE X (.Name x pos) (tC v) := ⟨pe_bltn hg hm hv r hn hd⟩
theorem qe_un  {op : UnaryOp} {r : V -> Hp -> VK -> Prop} (ho : UnR X (unaryOp op) r) (ha : QE X a ta) : QE X (.UnaryOp op a pos) (tUn r ta) := ⟨pe_un ho ha.p⟩
theorem qe_not  (ha : QE X a ta) : QE X (.UnaryOp .Not a pos) (tNotV ta) := ⟨pe_not ha.p⟩
theorem qe_op  {op : Operator} {r : R2} (ho : OpR X (binaryOp op) r) (ha : QE X a ta) (hb : QE X b tb) : QE X (.BinOp a op b pos) (tOp r ta tb) := ⟨pe_op ho ha.p hb.p⟩
theorem qe_one  {op} {t : TE} (h : QE X a t) : QE X (.BoolOp op [a] pos) t := ⟨pe_one h.p⟩
theorem qe_and {rest : List Expr} (ha : QE X a ta) (hb : QE X (.BoolOp .And (b :: rest) pos) tb) : QE X (.BoolOp .And (a :: b :: rest) pos) (tAndV ta tb) := ⟨pe_and ha.p hb.p⟩
theorem qe_cmpR  {op : CmpOp} {r : R2} (ho : OpR X (compareOp op) r) (ha : QE X a ta) (hb : QE X b tb) (hm : behindInMarks op b = false) : QE X (.Compare a [op] [b] pos) (tOp r ta tb) := ⟨pe_cmpR ho ha.p hb.p hm⟩
theorem qe_ifExp  {c : Expr} (hc : QT X c tA) (ha : QE X a ta) (hb : QE X b tb) : QE X (.IfExp c a b pos) (tIf tA ta tb) := ⟨pe_ifExp hc.p ha.p hb.p⟩
theorem qe_lst  (h : QA X es t) : QE X (.List es pos) (tLst t) := ⟨pe_lst h.p⟩
theorem qe_tup  {x1} (h : QA X es t) : QE X (.Tuple es x1 pos) (tTup t) := ⟨pe_tup h.p⟩
theorem qe_slice {lo hi : Option Expr} {r : V -> Option Int -> Option Int -> Hp -> VK -> Prop} (hr : SlR X r) (he : QE X e te) (hl : QO X lo tl) (hu : QO X hi th) : QE X (.Subscript e (.Slice lo hi none p2) pos) (tSl r te tl th) := ⟨pe_slice hr he.p hl.p hu.p⟩
theorem qo_none   : QO X none tNoPart := ⟨po_none ⟩
theorem qo_some  (h : QE X e te) : QO X (some e) (tPart te) := ⟨po_some h.p⟩
theorem qe_ix  {r : R2} (hr : IxR X r) (ha : QE X a ta) (hb : QE X b tb) (hs : PlainIx b) : QE X (.Subscript a b pos) (tOp r ta tb) := ⟨pe_ix hr ha.p hb.p hs⟩
theorem qe_call  (F : FnOk X.prog X.w X.K X.mg X.base CX k f fd ps sp) (hr : Room k X.A) (hg : Gl X x) (hm : X.mg x = some (.ref f)) (hk : PySem.W.keepIn X.K (.ref f) = true) (hb : Binds X.K fd ps ds) (hd : Vals dvs ds) (hx : Passes CX X E) (ha : QA X (e :: es) t) (hdb : (x == ("__debug__" : Str)) = false := by decide) (he : starEach (e :: es) X.env = (false, eval e X.env) :: starEach es X.env := by rfl) (hpl : (backTo pos (starEach es X.env)).any (·.1) = false := by rfl) : QE X (.Call (.Name x p) (e :: es) [] pos) (tCall sp dvs E t) := ⟨pe_call F hr hg hm hk hb hd hx ha.p hdb he hpl⟩
theorem qe_callB {id : String} (hc : CallR X (.builtin id) r) (hg : Gl X x) (hm : X.mg x = none) (hv : bootBuiltins x = some (.builtin id)) (ha : QA X (e :: es) t) (hn : x ≠ "__name__" := by decide) (hdb : (x == ("__debug__" : Str)) = false := by decide) (he : starEach (e :: es) X.env = (false, eval e X.env) :: starEach es X.env := by rfl) (hpl : (backTo pos (starEach es X.env)).any (·.1) = false := by rfl) : QE X (.Call (.Name x p) (e :: es) [] pos) (tCB r t) := ⟨pe_callB hc hg hm hv ha.p hn hdb he hpl⟩
theorem qe_callTy  (hc : CallR X (.type T) r) (hg : Gl X x) (hm : X.mg x = none) (hv : bootBuiltins x = some (.type T)) (ha : QA X (e :: es) t) (hn : x ≠ "__name__" := by decide) (hdb : (x == ("__debug__" : Str)) = false := by decide) (he : starEach (e :: es) X.env = (false, eval e X.env) :: starEach es X.env := by rfl) (hpl : (backTo pos (starEach es X.env)).any (·.1) = false := by rfl) : QE X (.Call (.Name x p) (e :: es) [] pos) (tCB r t) := ⟨pe_callTy hc hg hm hv ha.p hn hdb he hpl⟩
theorem qe_bm {id : String} (pa : PlainAttrs T) (slot : Slot T name id) (hty : typeOf (.builtin id) = pure (.type "method_descriptor")) (hm : MtR X id r) (ho : QE X o to) (ha : QA X (e :: es) t) (hbase : attributeBase o name X.env (eval o X.env) = eval o X.env := by rfl) (hfew : ((backTo cpos (starEach (e :: es) X.env)).all (fun x => !x.1) && (backToKw cpos (keywordEach [] X.env)).all (fun x => x.1.isSome)
   && decide ((e :: es).length + ([] : List Keyword).length + (if ([] : List Keyword).isEmpty then 0 else 1) < 30)) = true := by rfl) (hline : (apos.endLine == cpos.line) = true := by rfl) (hs : starEach (e :: es) X.env = (false, eval e X.env) :: starEach es X.env := by rfl) (hplain : (backTo cpos (starEach es X.env)).any (·.1) = false := by rfl) : QE X (.Call (.Attribute o name apos) (e :: es) [] cpos) (tBM X.K T r to t) := ⟨pe_bm pa slot hty hm ho.p ha.p hbase hfew hline hs hplain⟩
theorem qe_bm0 {id : String} (pa : PlainAttrs T) (slot : Slot T name id) (hty : typeOf (.builtin id) = pure (.type "method_descriptor")) (hm : MtR X id r) (ho : QE X o to) (hbase : attributeBase o name X.env (eval o X.env) = eval o X.env := by rfl) (hline : (apos.endLine == cpos.line) = true := by rfl) : QE X (.Call (.Attribute o name apos) [] [] cpos) (tBM0 X.K T r to) := ⟨pe_bm0 pa slot hty hm ho.p hbase hline⟩
theorem qa_nil   : QA X [] tNil := ⟨pa_nil ⟩
theorem qa_cons  (ha : QE X e te) (hr : QA X es t) (hs : starEach (e :: es) X.env = (false, eval e X.env) :: starEach es X.env := by rfl) : QA X (e :: es) (tCons te t) := ⟨pa_cons ha.p hr.p hs⟩
theorem qt_cmpR  {op : CmpOp} {r : R2} (ho : OpR X (compareOp op) r) (ha : QE X a ta) (hb : QE X b tb) (hm : behindInMarks op b = false) : QT X (.Compare a [op] [b] pos) (tTest (tOp r ta tb)) := ⟨pt_cmpR ho ha.p hb.p hm⟩
theorem qt_chain  {op op' : CmpOp} {r r' : R2} (ho : OpR X (compareOp op) r) (ho' : OpR X (compareOp op') r') (ha : QE X a ta) (hb : QE X b tb) (hc : QE X c tc) (hm : lastMarks [op, op'] [b, c] = false := by with_unfolding_all rfl) : QT X (.Compare a [op, op'] [b, c] pos) (tTest (tChain r r' ta tb tc)) := ⟨pt_chain ho ho' ha.p hb.p hc.p hm⟩
theorem qt_val  {e : Expr} {t : TE} (h : QE X e t) (he : ∀ whole, isTrue e X.env whole = (do let v ← whole; standAt e.pos; holding [v] (truthy v)) := by intro _; rfl) : QT X e (tB t) := ⟨pt_val h.p he⟩
theorem qt_not  (ha : QT X a tA) : QT X (.UnaryOp .Not a pos) (tNot tA) := ⟨pt_not ha.p⟩
theorem qw_and {rest : List Expr} (ha : QT X a tA) (hb : QW X (.BoolOp .And (b :: rest) pos) tB') : QW X (.BoolOp .And (a :: b :: rest) pos) (tAnd tA tB') := ⟨pw_and ha.p hb.p⟩
theorem qw_and1  (ha : QT X a tA) : QW X (.BoolOp .And [a] pos) tA := ⟨pw_and1 ha.p⟩
theorem qw_or {rest : List Expr} (ha : QT X a tA) (hb : QW X (.BoolOp .Or (b :: rest) pos) tB') : QW X (.BoolOp .Or (a :: b :: rest) pos) (tOr tA tB') := ⟨pw_or ha.p hb.p⟩
theorem qw_or1  (ha : QT X a tA) : QW X (.BoolOp .Or [a] pos) tA := ⟨pw_or1 ha.p⟩
theorem qw_pt  {X : Cx} {e : Expr} {t : TT} (h : QW X e t) : QT X e t := ⟨PW.pt h.p⟩
theorem qs_set  {i : Nat} {x : Str} {e : Expr} {te : TE} {pos' : Pos} (hN : X.N.Nodup) (hi : X.N[i]? = some x) (hx : Loc X.env.scope x) (he : QE X e te) (hs : swapsWith e (some (.Name x pos')) pos.line X.env = pure false := by rfl) (hf : X.fn x = true ∨ X.env.scope.names.lookup x = some .local := by first | exact .inl rfl | exact .inr rfl | assumption) : QS X (.Assign [.Name x pos'] e pos) (tAsg te (gName i)) := ⟨ps_set hN hi hx he.p hs hf⟩
theorem qs_par  {i j : Nat} {x y : Str} {a b : Expr} {ta : TA} {px py pt : Pos} {kt k2 pt2} (hc : X.calm = true) (hN : X.N.Nodup) (hi : X.N[i]? = some x) (hj : X.N[j]? = some y) (hij : i ≠ j) (hx : X.env.scope.names.lookup x = some .local) (hy : X.env.scope.names.lookup y = some .local) (ha : QA X [a, b] ta) (hw : swappedStores [.Tuple [.Name x px, .Name y py] kt pt] (.Tuple [a, b] k2 pt2) X.env = pure (some [x, y])) (hs : swapsWithSole [.Tuple [.Name x px, .Name y py] kt pt] (.Tuple [a, b] k2 pt2) pos.line X.env = pure false := by rfl) : QS X (.Assign [.Tuple [.Name x px, .Name y py] kt pt] (.Tuple [a, b] k2 pt2) pos) (tPar i j ta) := ⟨ps_par hc hN hi hj hij hx hy ha.p hw hs⟩
theorem qs_asg  {tg e : Expr} {te : TE} {g : TG} (he : QE X e te) (hg : QG X tg g) (hs : swapsWithSole [tg] e pos.line X.env = pure false := by rfl) (hw : swappedStores [tg] e X.env = pure none := by rfl) (h1 : (assignEach [tg] X.env).map (·.2) = [assign tg X.env] := by rfl) : QS X (.Assign [tg] e pos) (tAsg te g) := ⟨ps_asg he.p hg.p hs hw h1⟩
theorem qs_if  {c : Expr} {a b : List Stmt} {tc : TT} (hc : QT X c tc) (ha : QSs X a t) (hb : QSs X b u) : QS X (.If c a b pos) (tIfS tc t u) := ⟨ps_if hc.p ha.p hb.p⟩
theorem qs_while  {c : Expr} {body : List Stmt} {tc : TT} {tb : TS} (hp : PassesOwn (model X.prog X.w) X.A X.env X.xe) (hc : QT X c tc) (hb : QSs X body tb) : QS X (.While c body [] pos) (tWhile tc tb) := ⟨ps_while hp hc.p hb.p⟩
theorem qs_for  {iter : Expr} {body : List Stmt} {wi : TI} {g : TG} {tb : TS} {pos : Pos} (hp : PassesOwn (model X.prog X.w) X.A X.env X.xe) (hc : X.calm = true) (hi : QI X tg iter wi) (hg : QG X tg g) (hb : QSs X body tb) (hs : ∀ x, foldedSetIterable iter X.env x = pure x := by intro _; rfl) : QS X (.For tg iter body [] pos) (tFor wi g tb) := ⟨ps_for hp hc hi.p hg.p hb.p hs⟩
theorem qs_ret  (he : QE X e te) : QS X (.Return (some e) pos) (tRet te) := ⟨ps_ret he.p⟩
theorem qs_expr  (he : QE X e te) (hs : swapsWith e none pos.line X.env = pure false := by rfl) : QS X (.Expr e pos) (tDrop te) := ⟨ps_expr he.p hs⟩
theorem qs_never {st : Stmt}  : QS X st tNever := ⟨ps_never ⟩
theorem qss_nil   : QSs X [] tNext := ⟨pss_nil ⟩
theorem qss_one {st : Stmt} (h1 : QS X st t) : QSs X [st] t := ⟨pss_one h1.p⟩
theorem qss_cons {st : Stmt} {rest : List Stmt} (h1 : QS X st t) (h2 : QSs X rest u) : QSs X (st :: rest) (tSeq t u) := ⟨pss_cons h1.p h2.p⟩
theorem qi_range1  {a : Expr} {ta : TA} {p pos : Pos} (hg : Gl X "range") (hm : X.mg "range" = none) (ha : QA X [a] ta) (hs : starEach [a] X.env = [(false, eval a X.env)] := by rfl) : QI X tg (.Call (.Name "range" p) [a] [] pos) (iRng1 ta) := ⟨pi_range1 hg hm ha.p hs⟩
theorem qi_list {tg : Expr} {l : Expr} {tl : TE} (hl : QE X l tl) : QI X tg l (iList X.K tl) := ⟨pi_list hl.p⟩
theorem qi_tup  {l : Expr} {tl : TE} (hl : QE X l tl) : QI X tg l (iTup X.K tl) := ⟨pi_tup hl.p⟩
theorem qg_name  {i : Nat} {x : Str} (hN : X.N.Nodup) (hi : X.N[i]? = some x) (hx : Loc X.env.scope x) (hf : X.fn x = true ∨ X.env.scope.names.lookup x = some .local := by first | exact .inl rfl | exact .inr rfl | assumption) : QG X (.Name x pos) (gName i) := ⟨pg_name hN hi hx hf⟩
theorem qg_tup  {es : List Expr} {k : Nat} {t : TGs} {n : Nat} (hc : X.calm = true) (h : QGs X es t) (hn : (assignEach es X.env).length = n := by rfl) (hst : (assignEach es X.env).findIdx? (·.1) = none := by rfl) : QG X (.Tuple es k pos) (gTup X.K n t) := ⟨pg_tup hc h.p hn hst⟩
theorem qg_sub  {o i : Expr} {to ti : TE} {t : TSet} (ho : QE X o to) (hi : QE X i ti) (hs : PSet X t) (ha : ∀ v, assign (.Subscript o i pos) X.env v = (do
   let ov ← holding [v] (eval o X.env)
   let iv ← holding [v, ov] (eval i X.env)
   standAt pos
   holding [v, ov, iv] (setItem ov iv v)
   release [v, ov, iv] []) := by intro _; rfl) : QG X (.Subscript o i pos) (gSub to ti t) := ⟨pg_sub ho.p hi.p hs ha⟩
theorem qgs_nil   : QGs X [] gNil := ⟨pgs_nil ⟩
theorem qgs_cons  {e : Expr} {es : List Expr} {t : TG} {u : TGs} (h1 : QG X e t) (h2 : QGs X es u) (hs : (assignEach (e :: es) X.env).map (·.2) = assign e X.env :: (assignEach es X.env).map (·.2) := by rfl) : QGs X (e :: es) (gCons t u) := ⟨pgs_cons h1.p h2.p hs⟩
end
structure QTs (X : Cx) (ifs : List Expr) (t : TT) : Prop where
 p : PTs X ifs t
section
set_option autoImplicit true
set_option relaxedAutoImplicit true
theorem qts_nil  {X : Cx} : QTs X [] tYes := ⟨pts_nil ⟩
theorem qe_lcomp  (hc : X.calm = true) (hi : QI X tg iter wi) (hg : ∀ C fp pins s H, QG (cxC X N' scope cl C fp pins s H) tg g) (ht : ∀ C fp pins s H, QTs (cxC X N' scope cl C fp pins s H) ifs tt) (he : ∀ C fp pins s H, QE (cxC X N' scope cl C fp pins s H) elt te) (hfree : FreeOk X scope cl N' src) (hclos : closureFor scope X.env = pure cl) (hcell : ∀ x ∈ scope.names, x.2 ≠ .cell) (hkind : scope.kind = .function) (hnames : ∀ x ∈ scope.names, x.2 = .local -> scope.names.lookup x.1 = some .local) (hcl : CellsOk X scope cl) (hs : ∀ x, foldedSetIterable iter X.env x = pure x := by intro _; rfl) : QE X (.ListComp elt [⟨tg, iter, ifs, 0⟩] scope pos) (tComp wi src g tt te) := ⟨pe_lcomp hc hi.p (fun z0 z1 z2 z3 z4 => (hg z0 z1 z2 z3 z4).p) (fun z0 z1 z2 z3 z4 => (ht z0 z1 z2 z3 z4).p) (fun z0 z1 z2 z3 z4 => (he z0 z1 z2 z3 z4).p) hfree hclos hcell hkind hnames hcl hs⟩
theorem qs_setC  {i : Nat} {x : Str} {pos' pos2 : Pos} (hN : X.N.Nodup) (hi' : X.N[i]? = some x) (hx : Loc X.env.scope x) (hc : X.calm = true) (hi : QI X tg iter wi) (hg : ∀ C fp pins s H, QG (cxC X N' scope cl C fp pins s H) tg g) (ht : ∀ C fp pins s H, QTs (cxC X N' scope cl C fp pins s H) ifs tt) (he : ∀ C fp pins s H, QE (cxC X N' scope cl C fp pins s H) elt te) (hfree : FreeOk X scope cl N' src) (hclos : closureFor scope X.env = pure cl) (hcell : ∀ x ∈ scope.names, x.2 ≠ .cell) (hkind : scope.kind = .function) (hnames : ∀ x ∈ scope.names, x.2 = .local -> scope.names.lookup x.1 = some .local) (hcl : CellsOk X scope cl) (hs : ∀ x, foldedSetIterable iter X.env x = pure x := by intro _; rfl) (hsw : swapsWith (.ListComp elt [⟨tg, iter, ifs, 0⟩] scope pos) (some (.Name x pos')) pos2.line X.env = pure true := by rfl) (hf : X.fn x = true ∨ X.env.scope.names.lookup x = some .local := by first | exact .inl rfl | exact .inr rfl | assumption) : QS X (.Assign [.Name x pos'] (.ListComp elt [⟨tg, iter, ifs, 0⟩] scope pos) pos2) (tAsg (tComp wi src g tt te) (gName i)) := ⟨ps_setC hN hi' hx hc hi.p (fun z0 z1 z2 z3 z4 => (hg z0 z1 z2 z3 z4).p) (fun z0 z1 z2 z3 z4 => (ht z0 z1 z2 z3 z4).p) (fun z0 z1 z2 z3 z4 => (he z0 z1 z2 z3 z4).p) hfree hclos hcell hkind hnames hcl hs hsw hf⟩
end
section
variable {X : Cx} {K : Fg}
theorem pg_tupK {es : List Expr} {k : Nat} {t : TGs} {n : Nat} {pos : Pos} (hK : X.K = K) (hc : X.calm = true) (h : PGs X es t)
  (hn : (assignEach es X.env).length = n := by rfl) (hst : (assignEach es X.env).findIdx? (·.1) = none := by rfl) : PG X (.Tuple es k pos) (gTup K n t) := hK ▸ pg_tup hc h hn hst
theorem pi_tupK {l tg : Expr} {tl : TE} (hK : X.K = K) (hl : PE X l tl) : PI X tg l (iTup K tl) := hK ▸ pi_tup hl
def rLen (K : Fg) : List V -> Hp -> VK -> Prop := fun xs H Q => ∃ p ys, xs = [.ref p] /\ (SqL K H p ys ∨ SqT K H p ys) /\ Q (.int ys.length) H
end
theorem star_bin {a b : Expr} {op : Operator} {pos : Pos} {es : List Expr} {env : Env} : starEach (.BinOp a op b pos :: es) env = (false, eval (.BinOp a op b pos) env) :: starEach es env := rfl
end B
namespace B
open PySem
section
variable {es : List Expr} {env : Env}
theorem star_tup {a b c} : starEach (.Tuple a b c :: es) env = (false, eval (.Tuple a b c) env) :: starEach es env := rfl
theorem star_lst {a b} : starEach (.List a b :: es) env = (false, eval (.List a b) env) :: starEach es env := rfl
theorem star_sub {a b c} : starEach (.Subscript a b c :: es) env = (false, eval (.Subscript a b c) env) :: starEach es env := rfl
theorem star_call {a b c d} : starEach (.Call a b c d :: es) env = (false, eval (.Call a b c d) env) :: starEach es env := rfl
theorem star_name {a b} : starEach (.Name a b :: es) env = (false, eval (.Name a b) env) :: starEach es env := rfl
theorem star_con {a b c} : starEach (.Constant a b c :: es) env = (false, eval (.Constant a b c) env) :: starEach es env := rfl
theorem star_un {a b c} : starEach (.UnaryOp a b c :: es) env = (false, eval (.UnaryOp a b c) env) :: starEach es env := rfl
theorem star_lc {a b c d} : starEach (.ListComp a b c d :: es) env = (false, eval (.ListComp a b c d) env) :: starEach es env := rfl
theorem star_if {a b c d} : starEach (.IfExp a b c d :: es) env = (false, eval (.IfExp a b c d) env) :: starEach es env := rfl
end
end B
namespace B
open PySem L2 PyProof.Rows
inductive Als {α : Type} (P : V -> α -> Prop) : List V -> List α -> Prop where
 | nil : Als P [] []
 | cons {x : V} {d : α} {xs : List V} {ds : List α} (h : P x d) (t : Als P xs ds) : Als P (x :: xs) (d :: ds)
theorem Als.len {α : Type} {P : V -> α -> Prop} : ∀ {xs : List V} {ds : List α}, Als P xs ds -> xs.length = ds.length
 | _, _, .nil => rfl
 | _, _, .cons _ t => congrArg (· + 1) t.len
theorem Als.mono {α : Type} {P P' : V -> α -> Prop} (m : ∀ v d, P v d -> P' v d) : ∀ {xs : List V} {ds : List α}, Als P xs ds -> Als P' xs ds
 | _, _, .nil => .nil
 | _, _, .cons h t => .cons (m _ _ h) (t.mono m)
theorem Als.snoc {α : Type} {P : V -> α -> Prop} {x : V} {d : α} (k : P x d) : ∀ {xs : List V} {ds : List α}, Als P xs ds -> Als P (xs ++ [x]) (ds ++ [d])
 | _, _, .nil => .cons k .nil
 | _, _, .cons h t => .cons h (t.snoc k)
theorem Als.at {α : Type} {P : V -> α -> Prop} : ∀ {xs : List V} {ds : List α}, Als P xs ds -> ∀ {i : Nat} {x : V}, xs[i]? = some x -> ∃ d, ds[i]? = some d /\ P x d
 | _, _, .cons h _, 0, x, e => by
  rw [List.getElem?_cons_zero] at e
  cases e
  exact ⟨_, rfl, h⟩
 | _, _, .cons _ t, i + 1, x, e => t.at (i := i) (by rw [List.getElem?_cons_succ] at e; exact e)
 | _, _, .nil, _, _, e => by cases e
theorem Als.deep {α : Type} {K : Fg} {H : Hp} {P : V -> α -> Prop} {f : α -> PyData} (m : ∀ v d, P v d -> Deep K H v (f d)) : ∀ {xs : List V} {ds : List α}, Als P xs ds -> DeepAll K H xs (ds.map f)
 | _, _, .nil => .nil
 | _, _, .cons h t => .cons (m _ _ h) (t.deep m)
theorem comp_txt {α : Type} {K : Fg} {H : Hp} {D a : Addr} {xs : List V} {ds : List α} {f : α -> Str} {src : List (Option Nat)} {σ : L2.St} {g : TG} {tt : TT} {te : TE} {Q : Hp -> Prop}
  (hD : H D = none) (hS : SqT K H a xs) (hl : xs.length = ds.length) (hn : ds.length ≤ 1000)
  (turn : ∀ (i : Nat) (x : V) (d : α) (H' : Hp), xs[i]? = some x -> ds[i]? = some d -> Same H H' -> ∀ (R : VK) (E : Hp -> Prop), (∀ H'', Same H' H'' -> R (.str (f d)) H'') →
   g x (frees src σ) H' fun σ2 H2 => Ext (frees src σ) σ2 /\ tt σ2 H2 fun ok H3 => if ok = true then te σ2 H3 R else E H3)
  (fin : ∀ H', Same H H' -> H' D = some (.lst ((ds.map f).map V.str)) -> Q H') :
  ∃ W : Nat -> Nat -> List V -> Hp -> Prop, (∃ m, W 0 m [] (upd H D (.lst []))) /\ ∀ i m ys H, W i m ys H -> ((Itt K a).stop i H /\ Q H) ∨ ((Itt K a).go i H /\ ∀ x H', (Itt K a).yld i H x H' →
   g x (frees src σ) H' fun σ2 H2 => Ext (frees src σ) σ2 /\ tt σ2 H2 fun ok H3 =>
    if ok = true then te σ2 H3 fun y H4 => H4 D = some (.lst ys) /\ ys.length < sizeLine /\ ∃ m', m' < m /\ W (i + 1) m' (ys ++ [y]) (upd H4 D (.lst (ys ++ [y]))) else ∃ m', m' < m /\ W (i + 1) m' ys H3) := by
 refine ⟨fun i m ys H' => i ≤ ds.length /\ m = ds.length - i /\ ys = ((ds.take i).map f).map V.str /\ Same H H' /\ H' D = some (.lst ys), ⟨_, Nat.zero_le _, rfl, rfl, same_new hD _, upd_same⟩, ?_⟩
 rintro i m ys H1 ⟨hi, rfl, rfl, s1, d1⟩
 have hS1 : SqT K H1 a xs := Tst.same s1 _ _ hS
 by_cases hix : i < ds.length
 ·have hx0 : xs[i]? = some (xs[i]'(by omega)) := List.getElem?_eq_getElem _
  refine .inr ⟨⟨xs, _, hS1, hx0⟩, ?_⟩
  rintro x H2 ⟨rfl, hy⟩
  have hx := hy xs hS1
  have hd : ds[i]? = some (ds[i]'hix) := List.getElem?_eq_getElem _
  refine turn i x _ _ hx hd s1 _ _ fun H3 s3 => ?_
  refine ⟨s3 _ _ d1, small1000 (by simp only [List.length_map, List.length_take]; omega), ds.length - (i + 1), by omega, hix, rfl, ?_, ?_, upd_same⟩
  ·rw [List.take_add_one, hd, List.map_append, List.map_append]
   rfl
  ·intro b o q
   rw [upd_ne (ne_of_none q hD)]
   exact s3 _ _ (s1 _ _ q)
 ·have e : i = ds.length := by omega
  subst e
  rw [List.take_length] at d1
  exact .inl ⟨⟨xs, hS1, by omega⟩, fin H1 s1 d1⟩
theorem comp_rng {α : Type} {K : Fg} {H : Hp} {D t s : Addr} {n : Nat} {P : Hp -> V -> α -> Prop} {Ok : α -> Prop} {src : List (Option Nat)} {σ : L2.St} {g : TG} {tt : TT} {te : TE} {Q : Hp -> Prop}
  (mono : ∀ H H' v d, Tst K H H' -> P H v d -> P H' v d) (hD : H D = none) (T : Tape H t s) (hn : n ≤ 1000)
  (turn : ∀ (i : Nat) (H' : Hp), i < n -> Tape H' t s -> ∀ (R : VK) (E : Hp -> Prop), (∀ v d H'', Step t H' H'' -> Tape H'' t s -> P H'' v d -> Ok d -> R v H'') →
   g (.int (0 + (i : Int))) (frees src σ) H' fun σ2 H2 => Ext (frees src σ) σ2 /\ tt σ2 H2 fun ok H3 => if ok = true then te σ2 H3 R else E H3)
  (fin : ∀ H' ys ds, Step t H H' -> Tape H' t s -> H' D = some (.lst ys) -> Als (P H') ys ds -> ds.length = n -> (∀ d ∈ ds, Ok d) -> Q H') :
  ∃ W : Nat -> Nat -> List V -> Hp -> Prop, (∃ m, W 0 m [] (upd H D (.lst []))) /\ ∀ i m ys H, W i m ys H -> ((Itr 0 n).stop i H /\ Q H) ∨ ((Itr 0 n).go i H /\ ∀ x H', (Itr 0 n).yld i H x H' →
   g x (frees src σ) H' fun σ2 H2 => Ext (frees src σ) σ2 /\ tt σ2 H2 fun ok H3 =>
    if ok = true then te σ2 H3 fun y H4 => H4 D = some (.lst ys) /\ ys.length < sizeLine /\ ∃ m', m' < m /\ W (i + 1) m' (ys ++ [y]) (upd H4 D (.lst (ys ++ [y]))) else ∃ m', m' < m /\ W (i + 1) m' ys H3) := by
 have nt : D ≠ t := fun z => by subst z; obtain ⟨_, e⟩ := T.lst; rw [hD] at e; cases e
 have ns : D ≠ s := fun z => by subst z; obtain ⟨_, e⟩ := T.scr; rw [hD] at e; cases e
 refine ⟨fun i m ys H' => i ≤ n /\ m = n - i /\ H' D = some (.lst ys) /\ Tape H' t s /\ (∀ b o, b ≠ t -> H b = some o -> H' b = some o) /\ ∃ ds, Als (P H') ys ds /\ ds.length = i /\ ∀ d ∈ ds, Ok d, ⟨_, Nat.zero_le _, rfl, upd_same, T.new hD _, fun b o _ q => same_new hD _ _ _ q, [], .nil, rfl, fun d hd => by cases hd⟩, ?_⟩
 rintro i m ys H1 ⟨hi, rfl, d1, T1, kp, ds, als, hlen, ok⟩
 by_cases hix : i < n
 ·refine .inr ⟨hix, ?_⟩
  rintro x H2 ⟨rfl, rfl⟩
  refine turn i _ hix T1 _ _ fun v d H3 S3 T3 p3 o3 => ?_
  have d3 : H3 D = some (.lst ys) := S3.keep _ _ nt d1
  have tm : Tst K H2 (upd H3 D (.lst (ys ++ [v]))) := (Tst.step S3).trans (Tst.up d3 _)
  refine ⟨d3, small1000 (by rw [als.len]; omega), n - (i + 1), by omega, hix, rfl, upd_same, T3.upl nt ns _, fun b o nb q => ?_, ds ++ [d], (als.mono fun v d p => mono _ _ _ _ tm p).snoc (mono _ _ _ _ (Tst.up d3 _) p3), by rw [List.length_append, hlen]; rfl, fun z hz => ?_⟩
  ·rw [upd_ne (ne_of_none q hD)]
   exact S3.keep _ _ nb (kp b o nb q)
  ·rcases List.mem_append.mp hz with h | h
   ·exact ok z h
   ·rw [List.mem_singleton] at h; rw [h]; exact o3
 ·have e : i = n := by omega
  subst e
  exact .inl ⟨Nat.le_refl _, fin H1 ys ds ⟨kp, T.lst, T1.lst⟩ T1 d1 als hlen ok⟩
end B
namespace B
open PySem PySem.Spec L2 PyProof.Rows
theorem cut_tail {xs : List V} (h : 1 ≤ xs.length) : cutV xs (some 1) none = xs.drop 1 := by
 unfold cutV
 rw [show (some (1 : Int)) = some (((1 : Nat) : Int)) from rfl, HT.sIx_nat, HT.sIx_none, Nat.min_eq_left h]
 exact List.take_of_length_le (by rw [List.length_drop]; omega)
section
set_option autoImplicit true
set_option relaxedAutoImplicit true
theorem qg_tupK {K : Fg} {es : List Expr} {k : Nat} {t : TGs} {n : Nat} {pos : Pos} (hK : X.K = K) (hc : X.calm = true) (h : QGs X es t) (hn : (assignEach es X.env).length = n := by rfl) (hst : (assignEach es X.env).findIdx? (·.1) = none := by rfl) : QG X (.Tuple es k pos) (gTup K n t) := ⟨pg_tupK hK hc h.p hn hst⟩
theorem qi_tupK {K : Fg} {l tg : Expr} {tl : TE} (hK : X.K = K) (hl : QE X l tl) : QI X tg l (iTup K tl) := ⟨pi_tupK hK hl.p⟩
end
def rEqD (K : Fg) : R2 := fun x y H Q => ∃ d d', Deep K H x d /\ Deep K H y d' /\ d.canLay0 = true /\ d'.canLay0 = true /\ d.depth ≤ 32 /\ Q (.bl (PyData.eqv d d')) H
theorem op_eqD {X : Cx} {k : Nat} (hr : Room k X.A) : OpR X (compareOp .Eq) (rEqD X.K) := by
 intro pins s σ H x y v u Q I rx ry h
 obtain ⟨d, d', hd, hd', c, c', dp, q⟩ := h
 obtain ⟨as, ra⟩ := Deep.reads I hd rx
 obtain ⟨bs, rb⟩ := Deep.reads I hd' ry
 exact SeqAt.compareEq_reads ra rb c c' (by have := hr.units; omega) ⟨.bl _, H, I, rfl, q⟩
theorem eqv_iff {r q : R} : PyData.eqv (dR r) (dR q) = decide (r = q) := by
 by_cases h : r = q
 ·rw [decide_eq_true h, h]; exact eqv_same q
 ·rw [decide_eq_false h]
  cases c : PyData.eqv (dR r) (dR q) with
  | false => rfl
  | true => exact absurd (eqv_dR c) h
def rIsiT (K : Fg) : List V -> Hp -> VK -> Prop := fun xs H Q => ∃ a ys n b, xs = [.ref a, .ty n] /\ SqT K H a ys /\ kitTT "tuple" n = some b /\ Q (.bl b) H
theorem call_isiT {X : Cx} : CallR X (.builtin "isinstance") (rIsiT X.K) := by
 intro pins s σ H xs us Q I r h
 obtain ⟨a, ys, n, b, rfl, hS, e, q⟩ := h
 obtain ⟨u, u2, rfl, rx, ry⟩ := vals2 r
 obtain rfl : u2 = Value.type n := ry
 cases (show u = Value.ref a from rx)
 obtain ⟨its, _, ⟨o, h1, h2, _⟩, _⟩ := I.tuple hS
 exact PySem.W.kia_one PySem.W.kitx_tuple I.kIn ⟨o, h1, h2⟩ (kit_of e) (fun z => nomatch z) fun tk => ⟨.bl b, H, I.tok tk, rfl, q⟩
section
set_option autoImplicit true
set_option relaxedAutoImplicit true
theorem qs_fldE  (hex : X.ex = []) (ha : QE X o ta) (hv : QE X value tv) (hs : swapsWith value (some (.Attribute o f pos')) pos.line X.env = pure false) : QS X (.Assign [.Attribute o f pos'] value pos) (sFldE X.K ta tv f) := ⟨ps_fldE hex ha.p hv.p hs⟩
theorem qs_raiseD  {x : Str} {p cpos pos : Pos} {e : Expr} {es : List Expr} {t : TA} {E : XK} (M : XC X.K C f bm) (hbase : bm.contains (.type "BaseException") = true) (hex : X.ex = []) (tk : TakesD X E) (F : FnOk X.prog X.w X.K X.mg X.base CX0 k f fd ps sp) (hr : Room (k + 1) X.A) (hb : Binds X.K fd ps []) (hg : Gl X x) (hm : X.mg x = some (.ref C)) (ha : QA X (e :: es) t) (hdb : (x == ("__debug__" : Str)) = false := by decide) (he : starEach (e :: es) X.env = (false, eval e X.env) :: starEach es X.env := by rfl) (hpl : (backTo cpos (starEach es X.env)).any (·.1) = false := by rfl) : QS X (.Raise (some (.Call (.Name x p) (e :: es) [] cpos)) none pos) (tRaiseD C sp E t) := ⟨ps_raiseD M hbase hex tk F hr hb hg hm ha.p hdb he hpl⟩
theorem qs_tryD {R : RX} {suite : List Stmt} (hex : X.ex = []) (hst : X.stack = X.env :: X.outer) (hfr : X.env.frame = some X.env.locals) (hg : Gl X x) (hm : X.mg x = some u) (hb : ∀ pins, QSs (inTryD X pins R) body tb) (hs : ∀ e, QSs (inExc X e) (b₀ :: suite) th) (hd : (x == ("__debug__" : Str)) = false := by decide) : QS X (.Try body [.ExceptHandler (some (.Name x p)) none (b₀ :: suite) hpos] [] [] pos) (tTryD X.N R (fun C => PySem.W.exmOne X.K (.ref C) u = some true) tb th) := ⟨ps_tryD hex hst hfr hg hm (fun z0 => (hb z0).p) (fun z0 => (hs z0).p) hd⟩
end
end B
namespace L2
open PySem PySem.Spec PyProof.Rows
section
variable {κ : Type} [DecidableEq κ]
def valV (kvs : List (κ × V)) (k : κ) : Option V := (kvs.find? fun kv => decide (kv.1 = k)).map (·.2)
def putK (kvs : List (κ × V)) (k : κ) (v : V) : List (κ × V) :=
 if (kvs.any fun kv => decide (kv.1 = k)) = true then kvs.map (fun kv => if kv.1 = k then (kv.1, v) else kv) else kvs ++ [(k, v)]
def dropK (kvs : List (κ × V)) (k : κ) : List (κ × V) := kvs.filter fun kv => decide (kv.1 ≠ k)
end
abbrev KT (H : Hp) : List (List Key × V) -> List (List Key × Addr × Value) -> Prop := Paired fun p q => p.1 = q.1 /\ H q.2.1 = some (.tup (p.1.map kV)) /\ RelV p.2 q.2.2
section
variable {P : Program} {w : World} {H : Hp} {h : Heap} {a : Addr}
end
def DGet (H : Hp) (a : Addr) (y : V) (r : Option V) : Prop :=
 (∃ kvs k, Rd H a (.dK kvs) /\ y = kV k /\ r = valV kvs k) ∨ ∃ kvs k b, Rd H a (.dT kvs) /\ y = .ref b /\ H b = some (.tup (k.map kV)) /\ r = valV kvs k
def DPut (H : Hp) (a : Addr) (y v : V) (H' : Hp) : Prop :=
 (∃ kvs k, H a = some (.dK kvs) /\ y = kV k /\ kvs.length < sizeLine /\ H' = upd H a (.dK (putK kvs k v))) ∨
 ∃ kvs k b, H a = some (.dT kvs) /\ y = .ref b /\ H b = some (.tup (k.map kV)) /\ kvs.length < sizeLine /\ H' = upd H a (.dT (putK kvs k v))
section
variable {X : Cx} {pins : PLs} {σ : St} {H : Hp} {s : Shared} {a : Addr} {y v : V} {u r : Value} {o : Option V} {A : Around} {E : VSP}
end
section
variable {X : Cx} {pins : PLs} {σ : St} {H : Hp} {s : Shared} {a : Addr} {kvs : List (Key × V)} {k : Key} {u : Value} {A : Around} {E : VSP}
end
def NoSl (i : Expr) : Prop := ∀ ov iv, subscripted i false ov iv = operate [ov, iv] (getItem ov iv)
def tDGet (td ty : TE) : TE := fun σ H Q => td σ H fun x H1 => ty σ H1 fun y H2 => ∃ a v, x = .ref a /\ DGet H2 a y (some v) /\ Q v H2
def tDIn (ty td : TE) : TE := fun σ H Q => ty σ H fun y H1 => td σ H1 fun x H2 => ∃ a o, x = .ref a /\ DGet H2 a y o /\ Q (.bl o.isSome) H2
def tDNotIn (ty td : TE) : TE := fun σ H Q => ty σ H fun y H1 => td σ H1 fun x H2 => ∃ a o, x = .ref a /\ DGet H2 a y o /\ Q (.bl (!o.isSome)) H2
def sDPut (td ty tv : TE) : TS := fun D σ H => tv σ H fun v H1 => td σ H1 fun x H2 => ty σ H2 fun y H3 => ∃ a H4, x = .ref a /\ DPut H3 a y v H4 /\ D.nx σ H4
def sDAug (td ty tv : TE) (rd : V -> V -> Hp -> VK -> Prop) : TS := fun D σ H => td σ H fun x H1 => ty σ H1 fun y H2 => ∃ a v, x = .ref a /\ DGet H2 a y (some v) ∧
 tv σ H2 fun y2 H3 => rd v y2 H3 fun z H4 => ∃ H5, DPut H4 a y z H5 /\ D.nx σ H5
section
variable {X : Cx} {o i e value : Expr} {pos pos' tpos : Pos} {td ty tv : TE}
end
def tDNewK : TE := fun _ H Q => ∀ p, H p = none -> Q (.ref p) (upd H p (.dK []))
section
variable {X : Cx} {pos : Pos}
end
def tPairs : List (TE × TE) -> St -> Hp -> (List (V × V) -> Hp -> Prop) -> Prop
 | [], _, H, Q => Q [] H
 | (tk, tv) :: r, σ, H, Q => tk σ H fun x H1 => tv σ H1 fun y H2 => tPairs r σ H2 fun ps H3 => Q ((x, y) :: ps) H3
abbrev VV : List (V × V) -> List (Value × Value) -> Prop := Paired fun p q => RelV p.1 q.1 /\ RelV p.2 q.2
def PPs (X : Cx) (pos : Pos) (keys : List (Option Expr)) (values : List Expr) (trs : List (TE × TE)) : Prop :=
 ∀ (pins : PLs) (s : Shared) (σ : St) (H : Hp) (Q : List (V × V) -> Hp -> Prop), Inv X pins σ H s -> tPairs trs σ H Q →
  wpAny (model X.prog X.w) X.A (evalPairs (pairTrees keys values X.env pos)) (fun vs s' => ∃ ps H', Inv X pins σ H' s' /\ VV ps vs /\ Q ps H') X.xe s
def mergeK (kvs more : List (Key × V)) : List (Key × V) := more.foldl (fun acc kv => putK acc kv.1 kv.2) kvs
def tDisp (trs : List (TE × TE)) : TE := fun σ H Q => ∀ p, H p = none -> tPairs trs σ (upd H p (.dK [])) fun ps H2 => H2 p = some (.dK []) /\ ∃ kvs : List (Key × V), ps = kvs.map (fun kv => (kV kv.1, kv.2)) /\ kvs.length ≤ 15 /\ Q (.ref p) (upd H2 p (.dK (mergeK [] kvs)))
structure M1 (X : Cx) (o : Expr) (m : Str) (apos : Pos) (e : Expr) (cpos : Pos) : Prop where
 base : attributeBase o m X.env (eval o X.env) = eval o X.env
 few : ((backTo cpos (starEach [e] X.env)).all (fun x => !x.1) && (backToKw cpos (keywordEach [] X.env)).all (fun x => x.1.isSome)
  && decide (([e] : List Expr).length + ([] : List Keyword).length + (if ([] : List Keyword).isEmpty then 0 else 1) < 30)) = true
 line : (apos.endLine == cpos.line) = true
 trees : backTo cpos (starEach [e] X.env) = [(false, eval e X.env)]
structure M2 (X : Cx) (o : Expr) (m : Str) (apos : Pos) (e f : Expr) (cpos : Pos) : Prop where
 base : attributeBase o m X.env (eval o X.env) = eval o X.env
 few : ((backTo cpos (starEach [e, f] X.env)).all (fun x => !x.1) && (backToKw cpos (keywordEach [] X.env)).all (fun x => x.1.isSome)
  && decide (([e, f] : List Expr).length + ([] : List Keyword).length + (if ([] : List Keyword).isEmpty then 0 else 1) < 30)) = true
 line : (apos.endLine == cpos.line) = true
 trees : backTo cpos (starEach [e, f] X.env) = [(false, eval e X.env), (false, eval f X.env)]
def IsD (H : Hp) (a : Addr) : Prop := (∃ kvs, Rd H a (.dK kvs)) ∨ ∃ kvs, Rd H a (.dT kvs)
section
variable {X : Cx} {pins : PLs} {σ : St} {H : Hp} {s : Shared} {a : Addr} {y d : V} {u r : Value} {o : Option V} {A : Around} {E : VSP}
end
def tDGet1 (td ty : TE) : TE := fun σ H Q => td σ H fun x H1 => ∃ a, x = .ref a /\ IsD H1 a /\ ty σ H1 fun y H2 => ∃ o, DGet H2 a y o /\ Q (o.getD .non) H2
def tDGet2 (td ty tx : TE) : TE := fun σ H Q => td σ H fun x H1 => ∃ a, x = .ref a /\ IsD H1 a /\ ty σ H1 fun y H2 => tx σ H2 fun z H3 => ∃ o, DGet H3 a y o /\ Q (o.getD z) H3
section
variable {X : Cx} {o e f : Expr} {apos cpos : Pos} {td ty tx : TE}
end
end L2
namespace B
open PySem PySem.Spec L2 PyProof.Rows
theorem comp_mapT {α β : Type} {K : Fg} {H : Hp} {D a : Addr} {xs : List V} {ds : List α} {P : Hp -> V -> β -> Prop} {f : α -> β} {src : List (Option Nat)} {σ : L2.St} {g : TG} {tt : TT} {te : TE} {Q : Hp -> Prop}
  (mono : ∀ H H' v d, Tst K H H' -> P H v d -> P H' v d) (hD : H D = none) (hS : SqT K H a xs) (hl : xs.length = ds.length) (hn : ds.length ≤ 1000)
  (turn : ∀ (i : Nat) (x : V) (d : α) (H' : Hp), xs[i]? = some x -> ds[i]? = some d -> Same H H' -> ∀ (R : VK) (E : Hp -> Prop), (∀ v H'', Same H' H'' -> P H'' v (f d) -> R v H'') →
   g x (frees src σ) H' fun σ2 H2 => Ext (frees src σ) σ2 /\ tt σ2 H2 fun ok H3 => if ok = true then te σ2 H3 R else E H3)
  (fin : ∀ H' ys, Same H H' -> H' D = some (.lst ys) -> Als (P H') ys (ds.map f) -> Q H') :
  ∃ W : Nat -> Nat -> List V -> Hp -> Prop, (∃ m, W 0 m [] (upd H D (.lst []))) /\ ∀ i m ys H, W i m ys H -> ((Itt K a).stop i H /\ Q H) ∨ ((Itt K a).go i H /\ ∀ x H', (Itt K a).yld i H x H' →
   g x (frees src σ) H' fun σ2 H2 => Ext (frees src σ) σ2 /\ tt σ2 H2 fun ok H3 =>
    if ok = true then te σ2 H3 fun y H4 => H4 D = some (.lst ys) /\ ys.length < sizeLine /\ ∃ m', m' < m /\ W (i + 1) m' (ys ++ [y]) (upd H4 D (.lst (ys ++ [y]))) else ∃ m', m' < m /\ W (i + 1) m' ys H3) := by
 refine ⟨fun i m ys H' => i ≤ ds.length /\ m = ds.length - i /\ H' D = some (.lst ys) /\ Same H H' /\ Als (P H') ys ((ds.take i).map f), ⟨_, Nat.zero_le _, rfl, upd_same, same_new hD _, .nil⟩, ?_⟩
 rintro i m ys H1 ⟨hi, rfl, d1, s1, al1⟩
 have hS1 : SqT K H1 a xs := Tst.same s1 _ _ hS
 by_cases hix : i < ds.length
 ·have hx0 : xs[i]? = some (xs[i]'(by omega)) := List.getElem?_eq_getElem _
  refine .inr ⟨⟨xs, _, hS1, hx0⟩, ?_⟩
  rintro x H2 ⟨rfl, hy⟩
  have hx := hy xs hS1
  obtain ⟨d, hd⟩ : ∃ d, ds[i]? = some d := ⟨_, List.getElem?_eq_getElem hix⟩
  refine turn i x d _ hx hd s1 _ _ fun v H3 s3 p3 => ?_
  have d3 : H3 D = some (.lst ys) := s3 _ _ d1
  have tm : Tst K H2 (upd H3 D (.lst (ys ++ [v]))) := (Tst.same s3).trans (Tst.up d3 _)
  refine ⟨d3, small1000 (by rw [al1.len, List.length_map, List.length_take]; omega), ds.length - (i + 1), by omega, hix, rfl, upd_same, fun b o q => ?_, ?_⟩
  ·rw [upd_ne (ne_of_none q hD)]
   exact s3 _ _ (s1 _ _ q)
  ·rw [List.take_add_one, hd, List.map_append]
   exact (al1.mono fun v d p => mono _ _ _ _ tm p).snoc (mono _ _ _ _ (Tst.up d3 _) p3)
 ·have e : i = ds.length := by omega
  subst e
  rw [List.take_length] at al1
  exact .inl ⟨⟨xs, hS1, by omega⟩, fin H1 ys s1 d1 al1⟩
def tyD : PyData -> String
 | .none => "NoneType"
 | .bool _ => "bool"
 | .int _ => "int"
 | .str _ => "str"
 | .list _ => "list"
 | .tuple _ => "tuple"
 | .dict _ => "dict"
def rIsiD (K : Fg) : List V -> Hp -> VK -> Prop := fun xs H Q => ∃ v d n b, xs = [v, .ty n] /\ Deep K H v d /\ kitTT (tyD d) n = some b /\ Q (.bl b) H
theorem call_isiD {X : Cx} : CallR X (.builtin "isinstance") (rIsiD X.K) := by
 intro pins s σ H xs us Q I r h
 obtain ⟨v, d, n, b, rfl, hD, e, q⟩ := h
 cases hD with
 | non => exact call_isi pins s σ H _ us Q I r ⟨_, n, _, b, rfl, .non, e, q⟩
 | bl c => exact call_isi pins s σ H _ us Q I r ⟨_, n, _, b, rfl, .bl c, e, q⟩
 | int i => exact call_isi pins s σ H _ us Q I r ⟨_, n, _, b, rfl, .int i, e, q⟩
 | str x => exact call_isi pins s σ H _ us Q I r ⟨_, n, _, b, rfl, .str x, e, q⟩
 | @tup a ys ds hS hA => exact call_isiT pins s σ H _ us Q I r ⟨a, ys, n, b, rfl, hS, e, q⟩
 | @lst a ys ds hS hA =>
  obtain ⟨u, u2, rfl, rx, ry⟩ := vals2 r
  obtain rfl : u2 = Value.type n := ry
  cases (show u = Value.ref a from rx)
  obtain ⟨its, _, ⟨o, k, h1, h2, _⟩, _⟩ := I.list hS
  exact PySem.W.kia_one PySem.W.kitx_list I.kIn ⟨o, h1, h2⟩ (kit_of e) (fun z => nomatch z) fun tk => ⟨.bl b, H, I.tok tk, rfl, q⟩
def wholeD : PyData -> Bool
 | .int _ => true
 | _ => false
def tupD (n : Nat) : PyData -> Bool
 | .tuple xs => decide (xs.length = n)
 | _ => false
def ratD : PyData -> Bool
 | .tuple [.int a, .int b] => decide (1 ≤ b) && decide (Int.gcd a b = 1)
 | _ => false
def pairD : PyData -> Bool
 | .tuple [x, y] => ratD x && ratD y
 | _ => false
theorem isi_int {K : Fg} {H : Hp} {v : V} {d : PyData} (h : Deep K H v d) : ∃ b c, kitTT (tyD d) "int" = some b /\ kitTT (tyD d) "bool" = some c /\ wholeD d = (b && !c) := by
 cases h with
 | non => exact ⟨false, false, by simp only [tyD]; decide +kernel, by simp only [tyD]; decide +kernel, rfl⟩
 | bl b => exact ⟨true, true, by simp only [tyD]; decide +kernel, by simp only [tyD]; decide +kernel, rfl⟩
 | int i => exact ⟨true, false, by simp only [tyD]; decide +kernel, by simp only [tyD]; decide +kernel, rfl⟩
 | str x => exact ⟨false, false, by simp only [tyD]; decide +kernel, by simp only [tyD]; decide +kernel, rfl⟩
 | lst e t => exact ⟨false, false, by simp only [tyD]; decide +kernel, by simp only [tyD]; decide +kernel, rfl⟩
 | tup e t => exact ⟨false, false, by simp only [tyD]; decide +kernel, by simp only [tyD]; decide +kernel, rfl⟩
theorem isi_tup {K : Fg} {H : Hp} {v : V} {d : PyData} (h : Deep K H v d) : (kitTT (tyD d) "tuple" = some true /\ ∃ a xs ds, v = .ref a /\ d = .tuple ds /\ SqT K H a xs /\ DeepAll K H xs ds) ∨ (kitTT (tyD d) "tuple" = some false /\ ∀ ds, d ≠ .tuple ds) := by
 cases h with
 | non => exact .inr ⟨by simp only [tyD]; decide +kernel, fun _ z => nomatch z⟩
 | bl b => exact .inr ⟨by simp only [tyD]; decide +kernel, fun _ z => nomatch z⟩
 | int i => exact .inr ⟨by simp only [tyD]; decide +kernel, fun _ z => nomatch z⟩
 | str x => exact .inr ⟨by simp only [tyD]; decide +kernel, fun _ z => nomatch z⟩
 | lst e t => exact .inr ⟨by simp only [tyD]; decide +kernel, fun _ z => nomatch z⟩
 | tup e t => exact .inl ⟨by simp only [tyD]; decide +kernel, _, _, _, rfl, rfl, e, t⟩
theorem tupD_no {d : PyData} {n : Nat} (h : ∀ ds, d ≠ .tuple ds) : tupD n d = false := by
 cases d <;> first | rfl | exact absurd rfl (h _)
theorem DeepAll.len {K : Fg} {H : Hp} : ∀ {xs : List V} {ds : List PyData}, DeepAll K H xs ds -> xs.length = ds.length
 | _, _, .nil => rfl
 | _, _, .cons _ t => congrArg Nat.succ t.len
theorem Deep.two {K : Fg} {H : Hp} {v : V} {d : PyData} (h : Deep K H v d) (c : tupD 2 d = true) : ∃ a x y dx dy, v = .ref a /\ d = .tuple [dx, dy] /\ SqT K H a [x, y] /\ Deep K H x dx /\ Deep K H y dy := by
 cases h with
 | @tup a xs ds e t =>
  have l : ds.length = 2 := of_decide_eq_true c
  cases t with
  | nil => cases l
  | cons hx t => cases t with
   | nil => cases l
   | cons hy t => cases t with
    | nil => exact ⟨a, _, _, _, _, rfl, rfl, e, hx, hy⟩
    | cons hz t => simp at l
 | _ => cases c
theorem ratD_no {d : PyData} (h : tupD 2 d = false) : ratD d = false := by
 cases c : ratD d with
 | false => rfl
 | true =>
  unfold ratD at c
  split at c
  ·cases h
  ·cases c
structure Sh (k n : Nat) (d : PyData) : Prop where
 sh : d.showable = true
 nd : d.hasDict = false
 dp : d.depth ≤ k
 sz : d.shown.length ≤ n
mutual
theorem Deep.same {K : Fg} {H H' : Hp} (s : Same H H') : ∀ {v : V} {d : PyData}, Deep K H v d -> Deep K H' v d
 | _, _, .non => .non
 | _, _, .bl b => .bl b
 | _, _, .int i => .int i
 | _, _, .str x => .str x
 | _, _, .lst e t => .lst (s.seq e) (DeepAll.same s t)
 | _, _, .tup e t => .tup (Tst.same s _ _ e) (DeepAll.same s t)
theorem DeepAll.same {K : Fg} {H H' : Hp} (s : Same H H') : ∀ {vs : List V} {ds : List PyData}, DeepAll K H vs ds -> DeepAll K H' vs ds
 | _, _, .nil => .nil
 | _, _, .cons h t => .cons (Deep.same s h) (DeepAll.same s t)
end
end B
namespace B
open PySem PySem.Spec L2 PyProof.Rows
def rCatU (K : Fg) : R2 := fun x y H Q => ∃ a b xs ys, x = .ref a /\ y = .ref b /\ SqT K H a xs /\ SqT K H b ys /\ xs.length + ys.length ≤ sizeLine /\ ∀ p H', Same H H' -> SqT K H' p (xs ++ ys) -> Q (.ref p) H'
def rSlU (K : Fg) : V -> Option Int -> Option Int -> Hp -> VK -> Prop := fun x lo hi H Q => ∃ a xs, x = .ref a /\ SqT K H a xs /\ ∀ p H', Same H H' -> SqT K H' p (cutV xs lo hi) -> Q (.ref p) H'
theorem cut_to {xs : List V} {n : Nat} (h : n ≤ xs.length) : cutV xs none (some (n : Int)) = xs.take n := by
 unfold cutV
 rw [HT.sIx_nat, HT.sIx_none, Nat.min_eq_left h, Nat.sub_zero, List.drop_zero]
theorem cut_from {xs : List V} {n : Nat} (h : n ≤ xs.length) : cutV xs (some (n : Int)) none = xs.drop n := by
 unfold cutV
 rw [HT.sIx_nat, HT.sIx_none, Nat.min_eq_left h]
 exact List.take_of_length_le (by rw [List.length_drop]; omega)
def Stat (K : Fg) (s : Addr) : Prop := ∃ ns : List Int, ns.length ≤ 63 /\ ∀ H : Hp, SqL K H s (ns.map V.int)
structure Tape3 (K : Fg) (H : Hp) (t s : Addr) : Prop where
 ex : ∃ (ns : List Int) (p q : Int), H t = some (.lst [.ref s, .int p, .int q]) /\ ((Rd H s (.lst (ns.map V.int)) /\ s ≠ t) ∨ ∀ H', SqL K H' s (ns.map V.int)) /\ ns.length ≤ 63 /\ 0 ≤ p /\ 0 ≤ q
def sp_tape3 (K : Fg) : Sp := fun vs H Q _ => ∃ (a : Addr) (ns : List Int), vs = [.ref a] /\ SqL K H a (ns.map V.int) /\ ns.length ≤ 63 /\ ∀ (t : Addr) (H' : Hp), Same H H' -> H t = none -> Tape3 K H' t a -> Q (.ref t) H'
def sp_draw3 (K : Fg) : Sp := fun vs H Q _ => ∃ (t s : Addr) (m : Int), vs = [.ref t, .int m] /\ Tape3 K H t s /\ 0 < m /\ m < 1073741824 /\ ∀ (r : Int) (xs : List V), 0 ≤ r -> r < m -> Tape3 K (upd H t (.lst xs)) t s -> Q (.int r) (upd H t (.lst xs))
section
set_option autoImplicit true
set_option relaxedAutoImplicit true
theorem qi_enumL  {X : Cx} {elts : List Expr} {x1} {tp p pos : Pos} {a : Expr} {ta : TA} (hg : Gl X "enumerate") (hm : X.mg "enumerate" = none) (ha : QA X [a] ta) (hs : starEach [a] X.env = [(false, eval a X.env)] := by rfl) : QI X (.Tuple elts x1 tp) (.Call (.Name "enumerate" p) [a] [] pos) (iEnL X.K ta) := ⟨pi_enumL hg hm ha.p hs⟩
end
theorem bools_at : ∀ {bs : List Bool} {us : List Value}, Vals (bs.map V.bl) us -> ∀ {i : Nat} {v : Value}, us[i]? = some v -> v = .bool (bs.getD i true)
 | [], _, .nil, i, v, e => by cases e
 | b :: bs, _, .cons r t, 0, v, e => by
  rw [List.getElem?_cons_zero] at e
  cases e
  exact (show _ = Value.bool b from r)
 | b :: bs, _, .cons r t, i + 1, v, e => by
  rw [List.getElem?_cons_succ] at e
  exact bools_at t e
theorem all_range : ∀ (bs : List Bool), (List.range bs.length).all (fun i => bs.getD i true) = bs.all id
 | [] => rfl
 | b :: bs => by
  rw [List.length_cons, List.range_succ_eq_map, List.all_cons, List.all_map, List.all_cons]
  have := all_range bs
  show (b && (List.range bs.length).all (fun i => bs.getD i true)) = (id b && bs.all id)
  rw [this]; rfl
theorem call_allL {X : Cx} (hc : X.calm = true) : CallR X (.builtin "all") (fun xs H Q => ∃ (p : Addr) (bs : List Bool), xs = [.ref p] /\ SqL X.K H p (bs.map V.bl) /\ Q (.bl (bs.all id)) H) := by
 intro pins s σ H xs us Q I r h
 obtain ⟨p, bs, rfl, hq, q⟩ := h
 obtain ⟨u, rfl, rx⟩ := vals1 r
 cases rx
 obtain ⟨its, rv, pl, hz⟩ := I.list hq
 have ne : p ≠ s.heap.objs.size := by
  obtain ⟨o, ho, _⟩ := pl.isList
  exact Nat.ne_of_lt (Heap.lt_size ho)
 have hlen : its.toArray.size = bs.length := by rw [List.size_toArray, ← rv.length, List.length_map]
 refine call_all_walk (wpAny_pyIter_list pl.isList ?_)
 refine ⟨_, _, _, _, _, _, fun i => bs.getD i true, rfl, Walks.list (A := X.A.in1) (I.ok.hd hc) _ p ne its.toArray, ⟨⟨_, Heap.get?_push_size _ rfl, rfl, rfl⟩, pl.isList.push _⟩, fun i v s' Q' E' hv hQ => ?_, fun h' tk hk => ?_⟩
 ·have e := bools_at rv (i := i) (v := v) (by simpa using hv)
  subst e
  exact wpAny_truthy_bool hQ
 ·rw [hlen, all_range]
  refine ⟨.bl _, H, I.kept (t' := tk) fun b o e => hk b o (fun z => ?_) (Heap.get?_push_of_some _ e), rfl, q⟩
  rw [List.mem_singleton.mp z] at e
  exact absurd (Heap.lt_size e) (Nat.lt_irrefl _)
section
variable {prog : Program} {w : World} {A : Around} {E : VSP} {s : Shared}
end
def upTo (n : Nat) : List Int := (List.range n).map fun i : Nat => (i : Int)
def tRng1 (ta : TA) : TE := fun σ H Q => ta σ H fun vs H1 => ∃ j : Int, vs = [.int j] /\ ∀ p, H1 p = none -> Q (.ref p) (upd H1 p (.rng 0 j))
def Itd (hi : Int) (n : Nat) : It := ⟨fun i _ => i < n, fun i H x H' => H' = H /\ x = .int (hi - i), fun i _ => n ≤ i⟩
def iRngD (ta : TA) : TI := fun σ H R => ta σ H fun vs H1 => ∃ i j : Int, vs = [.int i, .int j, .int (-1)] /\ (-1000 ≤ i /\ i ≤ 1000 /\ -1000 ≤ j /\ j ≤ 1000) /\ R (Itd i (i - j).toNat) H1
section
set_option autoImplicit true
set_option relaxedAutoImplicit true
end
structure Wlk (J : It) (H : Hp) (n : Nat) (P : Nat -> V -> Hp -> Prop) : Prop where
 go : ∀ i H', i < n -> Same H H' -> J.go i H'
 stop : ∀ H', Same H H' -> J.stop n H'
 yld : ∀ i H' x H'', i < n -> Same H H' -> J.yld i H' x H'' -> Same H' H'' /\ P i x H''
theorem comp_ix {J : It} {H : Hp} {D : Addr} {n : Nat} {P : Nat -> V -> Hp -> Prop} (w : Wlk J H n P) (c : Nat -> Bool) (f : Nat -> V) {src : List (Option Nat)} {σ : L2.St} {g : TG} {tt : TT} {te : TE} {Q : Hp -> Prop} (hD : H D = none) (hn : n ≤ 1000)
  (turn : ∀ (i : Nat) (x : V) (H' : Hp), i < n -> Same H H' -> P i x H' -> ∀ (R : VK) (E : Hp -> Prop), (c i = true -> ∀ H'', Same H' H'' -> R (f i) H'') -> (c i = false -> ∀ H'', Same H' H'' -> E H'') →
   g x (frees src σ) H' fun σ2 H2 => Ext (frees src σ) σ2 /\ tt σ2 H2 fun ok H3 => if ok = true then te σ2 H3 R else E H3)
  (fin : ∀ H', Same H H' -> H' D = some (.lst (((List.range n).filter c).map f)) -> Q H') :
  ∃ W : Nat -> Nat -> List V -> Hp -> Prop, (∃ m, W 0 m [] (upd H D (.lst []))) /\ ∀ i m ys H, W i m ys H -> (J.stop i H /\ Q H) ∨ (J.go i H /\ ∀ x H', J.yld i H x H' →
   g x (frees src σ) H' fun σ2 H2 => Ext (frees src σ) σ2 /\ tt σ2 H2 fun ok H3 =>
    if ok = true then te σ2 H3 fun y H4 => H4 D = some (.lst ys) /\ ys.length < sizeLine /\ ∃ m', m' < m /\ W (i + 1) m' (ys ++ [y]) (upd H4 D (.lst (ys ++ [y]))) else ∃ m', m' < m /\ W (i + 1) m' ys H3) := by
 refine ⟨fun i m ys H' => i ≤ n /\ m = n - i /\ ys = ((List.range i).filter c).map f /\ Same H H' /\ H' D = some (.lst ys), ⟨_, Nat.zero_le _, rfl, rfl, same_new hD _, upd_same⟩, ?_⟩
 rintro i m ys H1 ⟨hi, rfl, rfl, s1, d1⟩
 by_cases hix : i < n
 ·refine .inr ⟨w.go i H1 hix s1, fun x H2 y => ?_⟩
  obtain ⟨s2, p⟩ := w.yld i H1 x H2 hix s1 y
  have d2 := s2 _ _ d1
  have len : (((List.range i).filter c).map f).length ≤ i := by
   rw [List.length_map]
   exact Nat.le_trans (List.length_filter_le _ _) (by rw [List.length_range]; exact Nat.le_refl _)
  refine turn i x H2 hix (s1.trans s2) p _ _ (fun hc H3 s3 => ?_) fun hc H3 s3 => ?_
  ·have d3 := s3 _ _ d2
   refine ⟨d3, small1000 (by omega), n - (i + 1), by omega, hix, rfl, ?_, fun b o q => ?_, upd_same⟩
   ·rw [List.range_succ, List.filter_append, List.map_append]
    simp [hc]
   ·rw [upd_ne (ne_of_none q hD)]
    exact s3 _ _ (s2 _ _ (s1 _ _ q))
  ·refine ⟨n - (i + 1), by omega, hix, rfl, ?_, (s1.trans s2).trans s3, s3 _ _ d2⟩
   rw [List.range_succ, List.filter_append, List.map_append]
   simp [hc]
 ·have e : i = n := by omega
  subst e
  exact .inl ⟨w.stop H1 s1, fin H1 s1 d1⟩
section
variable {prog : Program} {w : World} {A : Around} {E : VSP} {s : Shared}
end
theorem hit_is {h : Heap} {x y : Value} {d e : PyData} {as bs : List Addr} (rx : Reads h x d as) (ry : Reads h y e bs) (cd : d.canLay0 = true) (ce : e.canLay0 = true) (dp : e.depth ≤ 32) (rf : PyData.eqv d d = true) : hitAt h x d y = PyData.eqv e d := by
 unfold hitAt
 by_cases q : y = x
 ·subst q
  rw [if_pos rfl, SeqAt.Reads.unique _ _ _ _ _ ce ry rx, rf]
 ·have z : ∃ d', d'.canLay0 = true /\ d'.depth ≤ 32 /\ ∃ as, Reads h y d' as := ⟨e, ce, dp, bs, ry⟩
  rw [if_neg q, dif_pos z]
  obtain ⟨c, _, cs, r⟩ := z.choose_spec
  rw [SeqAt.Reads.unique _ _ _ _ _ ce ry r]
def Lays (ds : List PyData) : Prop := ∀ e ∈ ds, e.canLay0 = true /\ e.depth ≤ 32
theorem hits_map {X : Cx} {pins : PLs} {σ : L2.St} {H : Hp} {s : Shared} (I : Inv X pins σ H s) {v : Value} {d : PyData} {as : List Addr} (rx : Reads s.heap v d as) (cd : d.canLay0 = true) (rf : PyData.eqv d d = true) :
  ∀ {xs : List V} {us : List Value} {ds : List PyData}, Vals xs us -> DeepAll X.K H xs ds -> Lays ds -> us.map (hitAt s.heap v d) = ds.map fun e => PyData.eqv e d
 | _, _, _, .nil, .nil, _ => rfl
 | _, _, _, .cons r t, .cons h k, l => by
  obtain ⟨bs, ry⟩ := Deep.reads I h r
  obtain ⟨ce, dp⟩ := l _ List.mem_cons_self
  rw [List.map_cons, List.map_cons, hit_is rx ry cd ce dp rf, hits_map I rx cd rf t k fun e he => l e (List.mem_cons_of_mem _ he)]
theorem DeepAll.known {K : Fg} {H : Hp} : ∀ {xs : List V} {ds : List PyData}, DeepAll K H xs ds -> Lays ds -> Known K H xs
 | _, _, .nil, _, x, hx => by cases hx
 | _, _, .cons h t, l, x, hx => by
  rcases List.mem_cons.mp hx with rfl | hx
  ·obtain ⟨a, b⟩ := l _ List.mem_cons_self
   exact ⟨_, h, a, b⟩
  ·exact DeepAll.known t (fun e he => l e (List.mem_cons_of_mem _ he)) x hx
def rInD (K : Fg) : R2 := fun x y H Q => ∃ p xs ds d, y = .ref p /\ SqL K H p xs /\ DeepAll K H xs ds /\ Lays ds /\ Deep K H x d /\ d.canLay0 = true /\ PyData.eqv d d = true /\ Q (.bl (ds.any fun e => PyData.eqv e d)) H
def rNotInD (K : Fg) : R2 := fun x y H Q => ∃ p xs ds d, y = .ref p /\ SqL K H p xs /\ DeepAll K H xs ds /\ Lays ds /\ Deep K H x d /\ d.canLay0 = true /\ PyData.eqv d d = true /\ Q (.bl (!ds.any fun e => PyData.eqv e d)) H
theorem any_of_map {α β : Type} {f : α -> Bool} {g : β -> Bool} : ∀ {l : List α} {m : List β}, l.map f = m.map g -> l.any f = m.any g
 | [], [], _ => rfl
 | [], _ :: _, h => by simp at h
 | _ :: _, [], h => by simp at h
 | a :: l, b :: m, h => by
  rw [List.map_cons, List.map_cons] at h
  injection h with h1 h2
  rw [List.any_cons, List.any_cons, h1, any_of_map h2]
theorem op_inD {X : Cx} {k : Nat} (hr : Room k X.A) : OpR X (compareOp .In) (rInD X.K) := by
 intro pins s σ H x y v u Q I rx ry h
 obtain ⟨p, xs, ds, d, rfl, hq, hd, ls, hx, cd, rf, q⟩ := h
 cases ry
 obtain ⟨its, r, pl, hz⟩ := I.list hq
 obtain ⟨as, ra⟩ := Deep.reads I hx rx
 refine SeqAt.in_listAt (hitAt s.heap v d) pl.isList (fun w hw => hitAt_eq ra cd (by show X.A.units + 1 + 32 < cLine; have := hr.units; omega) (known_reads I r (hd.known ls) w (by simpa using hw))) ⟨_, H, I, ?_, q⟩
 show Value.bool (its.toArray.any (hitAt s.heap v d)) = Value.bool (ds.any fun e => PyData.eqv e d)
 rw [List.any_toArray, any_of_map (hits_map I ra cd rf r hd ls)]
def rInDT (K : Fg) : R2 := fun x y H Q => ∃ p xs ds d, y = .ref p /\ SqT K H p xs /\ DeepAll K H xs ds /\ Lays ds /\ Deep K H x d /\ d.canLay0 = true /\ PyData.eqv d d = true /\ Q (.bl (ds.any fun e => PyData.eqv e d)) H
def rIndexD (K : Fg) : V -> List V -> Hp -> VK -> Prop := fun x vs H Q => ∃ p xs ds w d, x = .ref p /\ vs = [w] /\ SqL K H p xs /\ DeepAll K H xs ds /\ Lays ds /\ Deep K H w d /\ d.canLay0 = true /\ PyData.eqv d d = true /\ (∃ e ∈ ds, PyData.eqv e d = true) ∧
 ∀ (j : Nat) (e : PyData), ds[j]? = some e -> PyData.eqv e d = true -> (∀ m f, m < j -> ds[m]? = some f -> PyData.eqv f d = false) -> Q (.int j) H
def rInsert : V -> List V -> Hp -> VK -> Prop := fun x vs H Q => ∃ (l : Addr) (xs : List V) (j : Nat) (y : V), x = .ref l /\ vs = [.int j, y] /\ H l = some (.lst xs) /\ j ≤ xs.length /\ xs.length < sizeLine /\ Q .non (upd H l (.lst (xs.take j ++ y :: xs.drop j)))
mutual
def ibd : PyData -> Bool
 | .int i => decide (i.natAbs < 2 ^ 230)
 | .tuple ds => ibdAll ds
 | .list ds => ibdAll ds
 | .dict _ => false
 | _ => true
def ibdAll : List PyData -> Bool
 | [] => true
 | d :: ds => ibd d && ibdAll ds
end
structure Gd (k n : Nat) (d : PyData) : Prop where
 sh : Sh k n d
 lay : d.canLay0 = true
 bd : ibd d = true
def decR : PyData -> R
 | .tuple [.int a, .int b] => (a, b)
 | _ => (0, 1)
def decRow : PyData -> R × R
 | .tuple [x, y] => (decR x, decR y)
 | _ => rowD
end B
namespace B
open PySem PySem.Spec L2 PyProof.Rows
theorem comp_own {J : It} {H : Hp} {D : Addr} {n : Nat} (Pv : Nat -> List V -> Hp -> Prop) {src : List (Option Nat)} {σ : L2.St} {g : TG} {tt : TT} {te : TE} {Q : Hp -> Prop} (h0 : Pv 0 [] (upd H D (.lst [])))
  (go : ∀ i ys H', i < n -> Pv i ys H' -> J.go i H') (stop : ∀ ys H', Pv n ys H' -> J.stop n H' /\ Q H')
  (turn : ∀ i ys H' x H'', i < n -> Pv i ys H' -> J.yld i H' x H'' -> ∀ (R : VK) (E : Hp -> Prop), (∀ y H4, H4 D = some (.lst ys) -> ys.length < sizeLine -> Pv (i + 1) (ys ++ [y]) (upd H4 D (.lst (ys ++ [y]))) -> R y H4) -> (∀ H3, Pv (i + 1) ys H3 -> E H3) →
   g x (frees src σ) H'' fun σ2 H2 => Ext (frees src σ) σ2 /\ tt σ2 H2 fun ok H3 => if ok = true then te σ2 H3 R else E H3) :
  ∃ W : Nat -> Nat -> List V -> Hp -> Prop, (∃ m, W 0 m [] (upd H D (.lst []))) /\ ∀ i m ys H, W i m ys H -> (J.stop i H /\ Q H) ∨ (J.go i H /\ ∀ x H', J.yld i H x H' →
   g x (frees src σ) H' fun σ2 H2 => Ext (frees src σ) σ2 /\ tt σ2 H2 fun ok H3 =>
    if ok = true then te σ2 H3 fun y H4 => H4 D = some (.lst ys) /\ ys.length < sizeLine /\ ∃ m', m' < m /\ W (i + 1) m' (ys ++ [y]) (upd H4 D (.lst (ys ++ [y]))) else ∃ m', m' < m /\ W (i + 1) m' ys H3) := by
 refine ⟨fun i m ys H' => i ≤ n /\ m = n - i /\ Pv i ys H', ⟨_, Nat.zero_le _, rfl, h0⟩, ?_⟩
 rintro i m ys H1 ⟨hi, rfl, p⟩
 by_cases hix : i < n
 ·refine .inr ⟨go i ys H1 hix p, fun x H2 y => ?_⟩
  refine turn i ys H1 x H2 hix p y _ _ (fun y H4 a b c => ⟨a, b, n - (i + 1), by omega, hix, rfl, c⟩) fun H3 c => ⟨n - (i + 1), by omega, hix, rfl, c⟩
 ·have e : i = n := by omega
  subst e
  exact .inl (stop ys H1 p)
def tCut (t : TS) : TS := fun D σ H => ∃ M : L2.St -> Hp -> Prop, t { D with nx := M } σ H /\ ∀ σ' H', M σ' H' -> D.nx σ' H'
end B
namespace B
abbrev Ln := Nat × Nat
inductive Rch (es : List Ln) : Nat -> Nat -> Prop where
 | one {a b : Nat} (h : (a, b) ∈ es) : Rch es a b
 | step {a b c : Nat} (h : (a, b) ∈ es) (t : Rch es b c) : Rch es a c
def EsOk (n : Nat) (es : List Ln) : Prop := ∀ e ∈ es, e.1 < n /\ e.2 < n
def Clo (n : Nat) (es : List Ln) (L : Nat -> Nat -> Bool) : Prop := ∀ i j, i < n -> j < n -> (L i j = true ↔ Rch es j i)
def addM (L : Nat -> Nat -> Bool) (a b : Nat) : Nat -> Nat -> Bool := fun i j => L i j || ((decide (i = b) || L i b) && (decide (j = a) || L a j))
structure Rx (n : Nat) (es : List Ln) (v : Nat -> Int) (ps : Nat -> Nat) (r k : Nat) (F : Nat -> Int) : Prop where
 bas : ∀ i, i < n -> v i ≤ F i
 att : ∀ i, i < n -> ∃ j, j < n /\ (j = i ∨ Rch es j i) /\ F i = v j
 don : ∀ i, i < n -> ps i < r -> ∀ j, j < n -> (j = i ∨ Rch es j i) -> v j ≤ F i
 cur : ∀ m a b, m < k -> es[m]? = some (a, b) -> ps b ≤ r -> ∀ j, j < n -> (j = a ∨ Rch es j a) -> v j ≤ F b
def rxUp (F : Nat -> Int) (a b : Nat) : Nat -> Int := fun i => if i = b then max (F b) (F a) else F i
structure Top (n : Nat) (es : List Ln) (v : Nat -> Int) (F : Nat -> Int) : Prop where
 up : ∀ i j, i < n -> j < n -> (j = i ∨ Rch es j i) -> v j ≤ F i
 att : ∀ i, i < n -> ∃ j, j < n /\ (j = i ∨ Rch es j i) /\ F i = v j
def swp (es : List Ln) : List Ln := es.map fun e => (e.2, e.1)
end B
namespace B
open PySem PySem.Spec L2 PyProof.Rows
def tChain3 (r r' r'' : R2) (ta tb tc td : TE) : TE := fun σ H Q => ta σ H fun x H1 => tb σ H1 fun y H2 => r x y H2 fun z H3 => ∃ k, z = .bl k ∧
 (if k = true then tc σ H3 fun w' H4 => r' y w' H4 fun z' H5 => ∃ k', z' = .bl k' /\ (if k' = true then td σ H5 fun u' H6 => r'' w' u' H6 Q else Q (.bl false) H5) else Q (.bl false) H3)
section
variable {prog : Program} {w : World} {A : Around} {E : VSP} {s : Shared}
end
theorem Vals.rev : ∀ {xs : List V} {us : List Value}, Vals xs us -> Vals xs.reverse us.reverse
 | _, _, .nil => .nil
 | x :: xs, u :: us, .cons r t => by
  rw [List.reverse_cons, List.reverse_cons]
  exact (Vals.rev t).append (.cons r .nil)
def tRev (K : Fg) (te : TE) : TE := fun σ H Q => te σ H fun x H1 => ∃ a xs, x = .ref a /\ SqT K H1 a xs /\ ∀ p, H1 p = none -> Q (.ref p) (upd H1 p (.tup xs.reverse))
end B
namespace B
end B
namespace B
open PySem PySem.Spec L2 PyProof.Rows
def Ris (zs : List R) : Prop := zs.Pairwise fun a b => lessR a b = true
end B
namespace L2
open PySem PySem.Spec PyProof.Rows
structure RoomM (k : Nat) (A : Around) : Prop where
 dp : A.depth + 3 * k + 5 < recursionLimit
 un : A.units + 16 * k + 200 < cLine
 gd : A.guards = some []
structure FnOkM (P : Program) (w : World) (K : Fg) (mg : Str -> Option Value) (base : Heap) (CX : CXT) (k : Nat) (f : Addr) (fd : FuncData) (ps : List Str) (sp : Sp) : Prop where
 len : ∀ vs H Q E, sp vs H Q E -> vs.length = ps.length
 run : ∀ (A : Around) (outer : List Env) (s : Shared) (H : Hp) (args : Args) (us : List Value) (vs : List V) (Q : VK) (E : XK), RoomM k A -> Env0 P w K mg base A outer s H -> BindsTo s fd args (ps.zip us) -> Vals vs us -> sp vs H Q E →
  codeAny (model P w) A (.call (.ref f) args) (CR CX outer P w H s Q E) s
def cxM (CX : CXT) (P : Program) (w : World) (K : Fg) (mg : Str -> Option Value) (base : Heap) (N : List Str) (qual : Str) (scope : Scope) (f : Addr) (cd : Value) (A : Around) (outer : List Env) (s : Shared) (H : Hp) (E : XK) : Cx := { cxOf CX P w K mg base N qual scope f cd A outer s H E with calm := false }
section
variable {X : Cx} {CX : CXT} {k : Nat} {f C : Addr} {fd : FuncData} {ps : List Str} {sp : Sp} {dvs : List V} {ds : List Value} {E : XK} {x m : Str} {p pos apos : Pos} {e o : Expr} {es : List Expr} {ta : TE} {t : TA}
end
section
variable {P : Program} {w : World} {K : Fg} {mg : Str -> Option Value} {base : Heap}
end
end L2
namespace B
open PySem PySem.Spec L2 PyProof.Rows
section
set_option autoImplicit true
set_option relaxedAutoImplicit true
end
def Iti (d : Addr) (ob : Obj) (kvs : List (Key × V)) : It :=
 ⟨fun i H => H d = some (.frz ob (.dK kvs)) /\ i < kvs.length,
  fun i H x H' => ∃ p k v, H p = none /\ x = .ref p /\ kvs[i]? = some (k, v) /\ H' = upd H p (.tup [kV k, v]),
  fun i H => H d = some (.frz ob (.dK kvs)) /\ kvs.length ≤ i⟩
def iItems (td : TE) : TI := fun σ H R => td σ H fun x H1 => ∃ d kvs, x = .ref d /\ H1 d = some (.dK kvs) /\ ∀ ob, R (Iti d ob kvs) (upd H1 d (.frz ob (.dK kvs)))
def enc (ps : List (Int × Int)) : List (Key × V) := ps.map fun p => (Sum.inl p.1, V.int p.2)
def topP : List (Int × Int) -> Int -> Int
 | [], _ => 0
 | (c, u) :: r, b => if c = b then u else topP r b
def addP : List (Int × Int) -> Int -> Int -> List (Int × Int)
 | [], b, t => [(b, 0 + t)]
 | (c, u) :: r, b, t => if c = b then (c, u + t) :: r else (c, u) :: addP r b t
def sumv : List (Int × Int) -> Rat
 | [] => 0
 | p :: r => (p.2 : Rat) / (p.1 : Rat) + sumv r
structure PsOk (n i : Nat) (ps : List (Int × Int)) : Prop where
 nd : (ps.map (·.1)).Nodup
 len : ps.length ≤ i
 bot : ∀ p ∈ ps, 0 < p.1 /\ p.1.natAbs < 2 ^ n
 top : ∀ p ∈ ps, p.2.natAbs ≤ i * 2 ^ n
def vsum : List R -> Rat
 | [] => 0
 | r :: t => val r + vsum t
section
set_option autoImplicit true
set_option relaxedAutoImplicit true
end
end B
namespace B
abbrev Pl := Nat × Nat
def lenP (p : Pl) : Int := (p.2 : Int) - p.1 + 1
def AheadP (p q : Pl) : Prop := p.1 < q.1 ∨ (p.1 = q.1 /\ q.2 ≤ p.2)
structure Bst (S : Pl -> Prop) (L : Pl -> Int) (p : Pl) : Prop where
 inn : S p
 all : ∀ q, S q -> L q * lenP p < L p * lenP q ∨ (L q * lenP p = L p * lenP q /\ AheadP p q)
def Sec (n : Nat) (p : Pl) : Prop := p.1 ≤ p.2 /\ p.2 < n
def SeenD (n b e : Nat) (p : Pl) : Prop := Sec n p /\ (p.1 < b ∨ (p.1 = b /\ e ≤ p.2))
def SeenU (n b e : Nat) (p : Pl) : Prop := Sec n p /\ (p.1 < b ∨ (p.1 = b /\ p.2 < e))
abbrev Wn := Option (Nat × Nat)
def holdB (b e : Nat) : Wn -> Bool
 | none => false
 | some (x, y) => decide (b ≤ x) && decide (y ≤ e)
def heldM (ws : List Wn) (p : Pl) : List Nat := (List.range ws.length).filter fun i => holdB p.1 p.2 (ws.getD i none)
def loadM (ws : List Wn) (A : Nat -> Int) (p : Pl) : Int := ((heldM ws p).map A).sum
end B
namespace B
open PySem PySem.Spec L2 PyProof.Rows
def oneEach (ns : List Int) : List Int := ns.foldl step_dedup []
def rSet1 (K : Fg) : List V -> Hp -> VK -> Prop := fun xs H Q => ∃ p ns, xs = [.ref p] /\ SqL K H p (ns.map V.int) /\ ns.length ≤ 1000 /\ ∀ l, H l = none -> Q (.ref l) (upd H l (.set (fun k => (oneEach ns).any (· == k)) (oneEach ns).length))
def rLenS : List V -> Hp -> VK -> Prop := fun xs H Q => ∃ p S n, xs = [.ref p] /\ H p = some (.set S n) /\ Q (.int n) H
def Rise (xs : Array Nat) : Prop := ∀ i j (_ : i < j) (hj : j < xs.size), xs[i]'(by omega) < xs[j]
def Tidy (t : SetTable) : Prop := t.plain = true -> t.dummies = #[] /\ Rise t.place
section
variable {prog : Program} {w : World} {A : Around} {E : VSP} {s : Shared}
def vInt : Value -> Int
 | .int n _ => n
 | _ => 0
def IntSet (w : World) (h : Heap) (a : Addr) (ks : List Int) : Prop := ∃ o es ep t, h.get? a = some o /\ o.ExactSet /\ o.data = .set es ep t /\ (∀ e ∈ es.toList, ∃ n u, e = (hashInt n, Value.int n u)) ∧
 (es.toList.map fun e => vInt e.2).Perm ks /\ t.fits es.size = true /\ Tidy t /\ t.led = !w.params.followText "set-order"
end
section
variable {prog : Program} {w : World} {A : Around} {E : VSP} {s : Shared}
def newSetObj (w : World) : Obj := { cls := .type "set", dict := none, data := .set #[] 0 (.fresh 0 0 (!w.params.followText "set-order")) }
variable {R : Result -> Shared -> Prop} {I : Addr} {fp wr : List Addr} {G : Array GenState -> Array GenState -> Prop} {n : Nat} {P : Nat -> Value -> Prop} {St : Nat -> Shared -> Prop}
end
section
variable {prog : Program} {w : World} {A : Around} {E : VSP} {s : Shared}
end
namespace FS
end FS
section
variable {prog : Program} {w : World} {A : Around} {E : VSP} {s : Shared}
def sItO (first : Value) (i : Nat) (a : Addr) (n ep : Nat) : Obj := { cls := .type "set_iterator", data := .fields #[first, .int i 0, .ref a, .int n 0, .int ep 0] }
end
end B
namespace B
open PySem PySem.Spec L2 PyProof.Rows
section
variable {prog : Program} {w : World} {A : Around} {E : VSP} {s : Shared}
end
section
variable {prog : Program} {w : World} {A : Around} {E : VSP} {s : Shared}
def WalkOf (prog : Program) (w : World) (a : Addr) (ks : List Int) (s : Shared) (It : Addr) (s1 : Shared) : Prop :=
 ∃ (fp : List Addr) (items : Array Value) (St : Nat -> Shared -> Prop), (∀ A' : Around, A'.handled = none -> WalksS prog w A' It fp [It] (fun a b => b = a) items.size (fun i v => items[i]? = some v) St) /\ St 0 s1 /\ It ∈ fp /\ (∀ b ∈ fp, b < s1.heap.objs.size /\ (b = a ∨ s.heap.objs.size ≤ b)) ∧
  s.heap.objs.size ≤ It /\ ∃ ms, IntsAre items.toList ms /\ ms.Perm ks
def slotM (t : SetTable) : Nat -> Nat
 | 0 => 0
 | k + 1 => t.place.getD k 0 + 1
end
def rExtT (K : Fg) : V -> List V -> Hp -> VK -> Prop := fun x vs H Q => ∃ l b xs zs, x = .ref l /\ vs = [.ref b] /\ H l = some (.lst xs) /\ SqT K H b zs /\ xs.length + zs.length ≤ 1000 /\ Q .non (upd H l (.lst (xs ++ zs)))
def rSort (K : Fg) : List V -> Hp -> VK -> Prop := fun xs H Q => ∃ p ns, xs = [.ref p] /\ (SqL K H p (ns.map V.int) ∨ SqT K H p (ns.map V.int)) /\ ns.length < 64 /\ ∀ (l : Addr) (ms : List Int), ms.Perm ns -> ms.Pairwise (· ≤ ·) -> H l = none -> Q (.ref l) (upd H l (.lst (ms.map V.int)))
section
variable {prog : Program} {w : World} {A : Around} {E : VSP} {s : Shared}
end
def setO (w : World) (a : Addr) (ks : List Int) : HO := .ext fun h => IntSet w h a ks
def rSetO (w : World) (K : Fg) : List V -> Hp -> VK -> Prop := fun xs H Q => ∃ p ns, xs = [.ref p] /\ (SqL K H p (ns.map V.int) ∨ SqT K H p (ns.map V.int)) /\ ns.length ≤ 1000 /\ ∀ l, H l = none -> Q (.ref l) (upd H l (setO w l (oneEach ns)))
def rSortS (w : World) : List V -> Hp -> VK -> Prop := fun xs H Q => ∃ p ks, xs = [.ref p] /\ H p = some (setO w p ks) /\ ks.length < 64 /\ ∀ (l : Addr) (ms : List Int), ms.Perm ks -> ms.Pairwise (· ≤ ·) -> H l = none -> Q (.ref l) (upd H l (.lst (ms.map V.int)))
def tRng2 (ta : TA) : TE := fun σ H Q => ta σ H fun vs H1 => ∃ i j : Int, vs = [.int i, .int j] /\ ∀ p, H1 p = none -> Q (.ref p) (upd H1 p (.rng i j))
def rNotInR : R2 := fun x y H Q => ∃ (i : Int) (p : Addr) (lo hi : Int), x = .int i /\ y = .ref p /\ H p = some (.rng lo hi) /\ Q (.bl (!(decide (lo ≤ i) && decide (i < hi)))) H
section
set_option autoImplicit true
set_option relaxedAutoImplicit true
end
def frmTo (lo n : Nat) : List Nat := (List.range n).map fun i => lo + i
def rLsR : List V -> Hp -> VK -> Prop := fun xs H Q => ∃ p, ∃ lo n : Nat, xs = [.ref p] /\ H p = some (.rng (lo : Int) ((lo + n : Nat) : Int)) /\ lo + n ≤ 1000 /\ ∀ l, H l = none -> Q (.ref l) (upd H l (.lst ((frmTo lo n).map fun i : Nat => V.int i)))
theorem comp_mapL {α β : Type} {K : Fg} {H : Hp} {D a : Addr} {xs : List V} {ds : List α} {P : Hp -> V -> β -> Prop} {f : α -> β} {src : List (Option Nat)} {σ : L2.St} {g : TG} {tt : TT} {te : TE} {Q : Hp -> Prop}
  (mono : ∀ H H' v d, Tst K H H' -> P H v d -> P H' v d) (hD : H D = none) (hS : SqL K H a xs) (hl : xs.length = ds.length) (hn : ds.length ≤ 1000)
  (turn : ∀ (i : Nat) (x : V) (d : α) (H' : Hp), xs[i]? = some x -> ds[i]? = some d -> Same H H' -> ∀ (R : VK) (E : Hp -> Prop), (∀ v H'', Same H' H'' -> P H'' v (f d) -> R v H'') →
   g x (frees src σ) H' fun σ2 H2 => Ext (frees src σ) σ2 /\ tt σ2 H2 fun ok H3 => if ok = true then te σ2 H3 R else E H3)
  (fin : ∀ H' ys, Same H H' -> H' D = some (.lst ys) -> Als (P H') ys (ds.map f) -> Q H') :
  ∃ W : Nat -> Nat -> List V -> Hp -> Prop, (∃ m, W 0 m [] (upd H D (.lst []))) /\ ∀ i m ys H, W i m ys H -> ((Itl K a).stop i H /\ Q H) ∨ ((Itl K a).go i H /\ ∀ x H', (Itl K a).yld i H x H' →
   g x (frees src σ) H' fun σ2 H2 => Ext (frees src σ) σ2 /\ tt σ2 H2 fun ok H3 =>
    if ok = true then te σ2 H3 fun y H4 => H4 D = some (.lst ys) /\ ys.length < sizeLine /\ ∃ m', m' < m /\ W (i + 1) m' (ys ++ [y]) (upd H4 D (.lst (ys ++ [y]))) else ∃ m', m' < m /\ W (i + 1) m' ys H3) := by
 refine ⟨fun i m ys H' => i ≤ ds.length /\ m = ds.length - i /\ H' D = some (.lst ys) /\ Same H H' /\ Als (P H') ys ((ds.take i).map f), ⟨_, Nat.zero_le _, rfl, upd_same, same_new hD _, .nil⟩, ?_⟩
 rintro i m ys H1 ⟨hi, rfl, d1, s1, al1⟩
 have hS1 : SqL K H1 a xs := s1.seq hS
 by_cases hix : i < ds.length
 ·have hx0 : xs[i]? = some (xs[i]'(by omega)) := List.getElem?_eq_getElem _
  refine .inr ⟨⟨xs, _, hS1, hx0⟩, ?_⟩
  rintro x H2 ⟨rfl, hy⟩
  have hx := hy xs hS1
  obtain ⟨d, hd⟩ : ∃ d, ds[i]? = some d := ⟨_, List.getElem?_eq_getElem hix⟩
  refine turn i x d _ hx hd s1 _ _ fun v H3 s3 p3 => ?_
  have d3 : H3 D = some (.lst ys) := s3 _ _ d1
  have tm : Tst K H2 (upd H3 D (.lst (ys ++ [v]))) := (Tst.same s3).trans (Tst.up d3 _)
  refine ⟨d3, small1000 (by rw [al1.len, List.length_map, List.length_take]; omega), ds.length - (i + 1), by omega, hix, rfl, upd_same, fun b o q => ?_, ?_⟩
  ·rw [upd_ne (ne_of_none q hD)]
   exact s3 _ _ (s1 _ _ q)
  ·rw [List.take_add_one, hd, List.map_append]
   exact (al1.mono fun v d p => mono _ _ _ _ tm p).snoc (mono _ _ _ _ (Tst.up d3 _) p3)
 ·have e : i = ds.length := by omega
  subst e
  rw [List.take_length] at al1
  exact .inl ⟨⟨xs, hS1, by omega⟩, fin H1 ys s1 d1 al1⟩
def tAsgE (te : TE) (i : Nat) : TS := fun D σ H => te σ H fun x H1 => ∃ σ', σ.set i (some x) = σ' /\ D.nx σ' H1
section
variable {X : Cx} {K : Fg}
theorem qe_bmK {o e : Expr} {es : List Expr} {to : TE} {t : TA} {name : Str} {apos cpos : Pos} {T id : String} {r : V -> List V -> Hp -> VK -> Prop} (hK : X.K = K)
  (pa : PlainAttrs T) (slot : Slot T name id) (hty : typeOf (.builtin id) = pure (.type "method_descriptor")) (hm : MtR X id r) (ho : QE X o to) (ha : QA X (e :: es) t)
  (hbase : attributeBase o name X.env (eval o X.env) = eval o X.env := by rfl)
  (hfew : ((backTo cpos (starEach (e :: es) X.env)).all (fun x => !x.1) && (backToKw cpos (keywordEach [] X.env)).all (fun x => x.1.isSome)
   && decide ((e :: es).length + ([] : List Keyword).length + (if ([] : List Keyword).isEmpty then 0 else 1) < 30)) = true := by rfl)
  (hline : (apos.endLine == cpos.line) = true := by rfl) (hs : starEach (e :: es) X.env = (false, eval e X.env) :: starEach es X.env := by rfl) (hplain : (backTo cpos (starEach es X.env)).any (·.1) = false := by rfl) :
  QE X (.Call (.Attribute o name apos) (e :: es) [] cpos) (tBM K T r to t) := ⟨hK ▸ pe_bm pa slot hty hm ho.p ha.p hbase hfew hline hs hplain⟩
end
end B
namespace B
open PySem PySem.Spec L2 PyProof.Rows PySem.Builtin PySem.Builtin.Str
theorem vals_str : ∀ {xs : List Str} {us : List Value}, Vals (xs.map V.str) us -> ∃ l : List (Str × Tok), PySem.strValues l = us /\ l.map (·.1) = xs
 | [], _, .nil => ⟨[], rfl, rfl⟩
 | x :: xs, _, .cons r q => by
  obtain ⟨t, e⟩ := r
  obtain ⟨l, a, b⟩ := vals_str q
  subst e
  exact ⟨(x, t) :: l, by rw [← a]; rfl, by rw [← b]; rfl⟩
def JoinFits (sep : Str) (ys : List Str) : Prop := (ys.map (·.length)).sum + ys.length * sep.length ≤ 16777216
def rJoin (K : Fg) : V -> List V -> Hp -> VK -> Prop := fun x vs H Q => ∃ (sep : Str) (p : Addr) (ys : List Str), x = .str sep /\ vs = [.ref p] /\ SqL K H p (ys.map V.str) /\ JoinFits sep ys /\ Q (.str (Txt.join sep ys)) H
section
variable {X : Cx} {K : Fg}
theorem mt_join : MtR X "str.join" (rJoin X.K) := by
 intro pins s σ H x vs v us Q I rx rv h
 obtain ⟨sep, p, ys, rfl, rfl, hq, hz, q⟩ := h
 obtain ⟨t, rfl⟩ := rx
 obtain ⟨u, rfl, ru⟩ := rv.one
 cases ru
 obtain ⟨its, r', pl, _⟩ := I.list hq
 obtain ⟨l, rfl, hl⟩ := vals_str r'
 exact SC.join pl.isList hl (joinOk_of hz) fun t' k => ⟨.str _, H, I.tok _, ⟨_, rfl⟩, q⟩
theorem mt_joinK (hK : X.K = K) : MtR X "str.join" (rJoin K) := hK ▸ mt_join
def rSplit : V -> List V -> Hp -> VK -> Prop := fun x vs H Q => ∃ a b : Str, x = .str a /\ vs = [.str b] /\ (b.length == 0) = false /\ a.length + 2 ≤ sizeLine /\ ∀ l, H l = none -> Q (.ref l) (upd H l (.lst ((Txt.split a b).map V.str)))
theorem vals_of_strs : ∀ l : List (Str × Tok), Vals ((l.map (·.1)).map V.str) (strValues l)
 | [] => .nil
 | (x, t) :: l => .cons ⟨t, rfl⟩ (vals_of_strs l)
theorem mt_split : MtR X "str.split" rSplit := by
 intro pins s σ H x vs v us Q I rx rv h
 obtain ⟨a, b, rfl, rfl, hy, hsz, q⟩ := h
 obtain ⟨t, rfl⟩ := rx
 obtain ⟨_, rfl, ru⟩ := rv.one
 obtain ⟨u, rfl⟩ := ru
 have hn : (partsBetween a (occurrences a b 0 a.length (a.length + 1)) b.length).length ≤ sizeLine := by
  have e1 := StrLaws.occ_length_le a b 0 a.length (a.length + 1)
  rw [length_partsBetween]; omega
 have b0 : b.length ≠ 0 := fun z => by rw [z] at hy; cases hy
 have hw := split_weight a b (by omega)
 have fin : ∀ (l : List (Str × Tok)) (k : Nat), l.map (·.1) = Txt.split a b -> EP X pins σ Q (.ref s.heap.objs.size) { s with heap := s.heap.push { cls := .type "list", data := .seq (strValues l).toArray }, toks := k } := fun l k e => by
  have vl := vals_of_strs l
  rw [e] at vl
  exact ⟨.ref s.heap.objs.size, _, I.laid (t' := k) (fun b o e => Heap.get?_push_of_some _ e) (Nat.le_refl _) (show ObjOk X.prog X.w _ _ _ (.lst ((Txt.split a b).map V.str)) from ⟨by rw [List.length_map]; omega, strValues l, 0, vl, Heap.get?_push_size _ rfl⟩), rfl, q _ (I.hok.fresh (Nat.le_refl _))⟩
 cases h1 : (decide (a.length < b.length) || decide (strKind a < strKind b))
 ·cases hf : (occurrences a b 0 a.length (a.length + 1)).isEmpty
  ·refine call_meets F.slot_str_split (typeIs_str _ _ _) F.entry_str_split (F.args_str_split_2 _ _) (meets_str_split_sep a b t u h1 hy hf (by omega) hn) ?_
   show wants (EP X pins σ Q) X.xe _ { s with toks := _, heap := s.heap.push { cls := .type "list", data := .seq (strsFrom s.toks (partsBetween a (occurrences a b 0 a.length (a.length + 1)) b.length)).toArray } }
   rw [strsFrom_eq]
   exact fin (numbered s.toks _) _ ((numbered_texts _ _).trans ((if_neg (ne_true_of_eq_false h1)).trans (if_neg (ne_true_of_eq_false hf))).symm)
  ·exact call_meets F.slot_str_split (typeIs_str _ _ _) F.entry_str_split (F.args_str_split_2 _ _) (meets_str_split_not_found a b t u h1 hy hf) (fin [(a, t)] s.toks ((if_neg (ne_true_of_eq_false h1)).trans (if_pos hf)).symm)
 ·exact call_meets F.slot_str_split (typeIs_str _ _ _) F.entry_str_split (F.args_str_split_2 _ _) (meets_str_split_cannot_occur a b t u h1) (fin [(a, t)] s.toks (if_pos h1).symm)
def rPartn : V -> List V -> Hp -> VK -> Prop := fun x vs H Q => ∃ a b : Str, x = .str a /\ vs = [.str b] /\ (b.length == 0) = false /\ a.length ≤ sizeLine /\ ∀ p, H p = none -> Q (.ref p) (upd H p (.tup [.str (Txt.partition a b).1, .str (Txt.partition a b).2.1, .str (Txt.partition a b).2.2]))
theorem mt_partn : MtR X "str.partition" rPartn := by
 intro pins s σ H x vs v us Q I rx rv h
 obtain ⟨a, b, rfl, rfl, hy, hsz, q⟩ := h
 obtain ⟨t, rfl⟩ := rx
 obtain ⟨_, rfl, ru⟩ := rv.one
 obtain ⟨u, rfl⟩ := ru
 have fin : ∀ (x y z : Str) (tx ty tz : Tok) (k : Nat), Txt.partition a b = (x, y, z) -> EP X pins σ Q (.ref s.heap.objs.size) { s with heap := s.heap.push { cls := .type "tuple", data := .seq [.str x tx, .str y ty, .str z tz].toArray }, toks := k } := fun x y z tx ty tz k e => by
  rw [e] at q
  exact ⟨.ref s.heap.objs.size, _, I.laid (t' := k) (o := .tup [.str x, .str y, .str z]) (fun b o e => Heap.get?_push_of_some _ e) (Nat.le_refl _) ⟨by show 3 ≤ sizeLine; decide, [.str x tx, .str y ty, .str z tz], .cons ⟨tx, rfl⟩ (.cons ⟨ty, rfl⟩ (.cons ⟨tz, rfl⟩ .nil)), IsTup.new _ _⟩, rfl, q _ (I.hok.fresh (Nat.le_refl _))⟩
 refine call_meets F.slot_str_partition (typeIs_str _ _ _) F.entry_str_partition (F.args_str_partition_2 _ _) (meets_str_partition a b t u hy hsz) ?_
 cases hc : occurrences a b 0 a.length 1 with
 | nil => exact fin _ _ _ _ _ _ _ (by unfold Txt.partition; rw [hc])
 | cons i r => exact fin _ _ _ _ _ _ _ (by unfold Txt.partition; rw [hc])
def rStarts : V -> List V -> Hp -> VK -> Prop := fun x vs H Q => ∃ a b : Str, x = .str a /\ vs = [.str b] /\ Q (.bl (Txt.startswith a b)) H
theorem mt_starts : MtR X "str.startswith" rStarts := by
 intro pins s σ H x vs v us Q I rx rv h
 obtain ⟨a, b, rfl, rfl, q⟩ := h
 obtain ⟨t, rfl⟩ := rx
 obtain ⟨_, rfl, ru⟩ := rv.one
 obtain ⟨u, rfl⟩ := ru
 exact call_gives F.slot_str_startswith (typeIs_str _ _ _) F.entry_str_startswith (F.args_str_startswith_2 _ _) (gives_str_startswith a b t u) ⟨.bl _, H, I, rfl, q⟩
theorem call_intT : CallR X (.type "int") (fun xs H Q => ∃ (z : Str) (n : Int), xs = [.str z] /\ PySem.intText? z = some n /\ z.length ≤ 640 /\ Q (.int n) H) := by
 intro pins s σ H xs us Q I r h
 obtain ⟨z, n, rfl, hn, hl, q⟩ := h
 obtain ⟨_, rfl, ru⟩ := vals1 r
 obtain ⟨u, rfl⟩ := ru
 exact PySem.W.KIN.call_text hn hl ⟨.int n, H, I.tok _, ⟨_, rfl⟩, q⟩
def rSlS : V -> Option Int -> Option Int -> Hp -> VK -> Prop := fun x lo hi H Q => ∃ z : Str, x = .str z /\ z.length ≤ sizeLine /\ Q (.str (Txt.slice z lo hi)) H
theorem part_of {v : Value} {o : Option Int} (h : IsPart v o) : ∃ p : Option (Int × Tok), p.map (·.1) = o /\ v = (match p with | none => .none | some (i, t) => .int i t) := by
 cases h with
 | none => exact ⟨none, rfl, rfl⟩
 | int i t => exact ⟨some (i, t), rfl, rfl⟩
theorem sl_str : SlR X rSlS := by
 intro pins s σ H x v vl vu lo hi sl Q I rx hs pl pu h
 obtain ⟨z, rfl, hz, q⟩ := h
 obtain ⟨t, rfl⟩ := rx
 obtain ⟨l, rfl, rfl⟩ := part_of pl
 obtain ⟨u, rfl, rfl⟩ := part_of pu
 refine ⟨"str", _, F.slot_str_getitem.lookup, typeIs_str _ _ _, ?_⟩
 exact wpAny_getItem_str_slice (l := l) (u := u) (st := none) hs rfl (post_val_or_str ⟨Nat.le_trans (Txt.slice_le z _ _) hz, fun t' k => ⟨.str _, H, I.tok k, ⟨_, rfl⟩, q⟩⟩)
def Its (x : Str) : It := ⟨fun i _ => i < x.cps.size, fun i H v H' => H' = H /\ ∃ c, x.cps[i]? = some c /\ v = .str ⟨#[c]⟩, fun i _ => x.cps.size ≤ i⟩
theorem turn_str {P : Program} {w : World} {tg : Expr} (it : Addr) (x : Str) (t : Tok) : Turn P w K tg (Its x) [it] it (fun i h => h.IsStrIter it "str_ascii_iterator" x t i) where
 mem := by simp
 obj := fun i h st b hb => by
  have e : b = it := by simpa using hb
  subst e
  obtain ⟨o, e, c, d⟩ := st
  exact ⟨o, e, fun v z => by rw [d] at z; cases z⟩
 keep := fun i h h' st k => let ⟨o, ho, r⟩ := st; ⟨o, k it (by simp) o ho, r⟩
 item := by
  intro X hP hw hK hc i pins s σ H E I hf st hg
  subst hP hw hK
  obtain ⟨f0, f1, f2, f3, f4, f5⟩ := hf it (by simp)
  have W := Walks.strAscii (prog := X.prog) (w := X.w) (I.ok.hd hc) it x t
  refine W.item i s _ _ hg st fun v h' tk hv st' kk => ?_
  obtain ⟨c, u, hx, rfl⟩ := hv
  have I1 : Inv X pins σ H { s with heap := h', toks := tk } := I.turned (fun b o hb e => kk b o (by simpa using hb) e) f0 f1 f3 f4 f5
  obtain ⟨o, e, c', d⟩ := id st'
  exact ⟨_, rfl, go_of (s := { s with heap := h', toks := tk }) (n := "str_ascii_iterator") e c' d (by decide) ⟨.str ⟨#[c]⟩, H, I1, ⟨u, rfl⟩, ⟨rfl, c, hx, rfl⟩, st', fun b hb => (hf b hb).1⟩⟩
 done := by
  intro X hP hw hK hc i pins s σ H E I hf st hg
  subst hP hw hK
  obtain ⟨f0, f1, f2, f3, f4, f5⟩ := hf it (by simp)
  have e : x.cps[i]? = none := Array.getElem?_eq_none hg
  exact wpAny_pyNext_ascii_end (I.ok.hd hc) st e fun h' eb => ⟨rfl, I.turned (t' := s.toks) (fun b o hb e => eb b o hb e) f0 f1 f3 f4 f5⟩
 self := fun _ _ _ _ _ st h => wpAny_pyIter_striter_ascii st h
def iStr (tl : TE) : TI := fun σ H R => tl σ H fun v H1 => ∃ x, v = .str x /\ x.cps.all (· < 128) = true /\ R (Its x) H1
theorem pi_str {tg l : Expr} {tl : TE} (hl : PE X l tl) : PI X tg l (iStr tl) := by
 intro pins s σ H R I h
 refine thn (hl pins s σ H _ I h) fun v s1 ⟨x, H1, I1, r1, q1⟩ => ?_
 obtain ⟨z, e, ha, q⟩ := q1
 subst e
 obtain ⟨t, rfl⟩ := r1
 refine wpAny_pyIter_ascii ha ?_
 refine ⟨s1.heap.objs.size, [s1.heap.objs.size], _, _, H1, rfl, I1.kept (t' := s1.toks) fun b o e => Heap.get?_push_of_some _ e, turn_str _ z t, ⟨_, Heap.get?_push_size _ rfl, rfl, rfl⟩, fun b hb => ?_, q⟩
 have e : b = s1.heap.objs.size := by simpa using hb
 subst e
 exact I1.fpOk (Nat.le_refl _) (I1.hok.fresh (Nat.le_refl _))
theorem qi_str {tg l : Expr} {tl : TE} (hl : QE X l tl) : QI X tg l (iStr tl) := ⟨pi_str hl.p⟩
theorem wlk_str {H : Hp} {x : Str} : Wlk (Its x) H x.cps.size (fun i v _ => ∃ c, x.cps[i]? = some c /\ v = .str ⟨#[c]⟩) where
 go := fun i H' hi s => hi
 stop := fun H' s => Nat.le_refl _
 yld := fun i H' x H'' hi s y => by obtain ⟨rfl, h⟩ := y; exact ⟨Same.refl _, h⟩
end
abbrev numT (i : Int) : Str := Str.ofString (toString i)
def ratT (r : R) : Str := if r.2 = 1 then numT r.1 else numT r.1 ++ Str.ofString "/" ++ numT r.2
structure Tx (n : Nat) (x : Str) : Prop where
 len : x.length ≤ n
 ok : ∀ c ∈ x.cps.toList, c < 16 ^ 8
theorem Tx.mono {n m : Nat} {x : Str} (h : Tx n x) (l : n ≤ m) : Tx m x := ⟨Nat.le_trans h.len l, h.ok⟩
theorem Tx.app {n m : Nat} {x y : Str} (h : Tx n x) (k : Tx m y) : Tx (n + m) (x ++ y) := by
 refine ⟨by rw [Str.length_append]; exact Nat.add_le_add h.len k.len, fun c hc => ?_⟩
 rw [show (x ++ y).cps = x.cps ++ y.cps from rfl, Array.toList_append] at hc
 rcases List.mem_append.mp hc with z | z
 ·exact h.ok c z
 ·exact k.ok c z
theorem Tx.str (s : String) : Tx s.length (Str.ofString s) := by
 refine ⟨Nat.le_of_eq (PySem.ofString_length s), fun c hc => ?_⟩
 rw [signs_ofString] at hc
 obtain ⟨ch, _, rfl⟩ := List.mem_map.mp hc
 have v : ch.toNat < 1114112 := by
  have := ch.valid
  show ch.val.toNat < 1114112
  rcases this with h | h
  ·have : ch.val.toNat < 0xd800 := h
   omega
  ·have : ch.val.toNat < 0x110000 := h.2
   omega
 exact Nat.lt_of_lt_of_le v (by decide)
theorem Tx.lit {s : String} {n : Nat} (h : s.length ≤ n := by decide) : Tx n (Str.ofString s) := (Tx.str s).mono h
theorem Tx.num {i : Int} (h : i.natAbs < 2 ^ 140) : Tx 200 (numT i) := by
 refine (Tx.str _).mono ?_
 have l : i.natAbs.log2 < 141 := by
  by_cases z : i.natAbs = 0
  ·rw [z]; decide
  ·exact Nat.lt_of_lt_of_le ((Nat.log2_lt z).mpr h) (by decide)
 have := int_text_length_le (a := i) (k := 141) (by decide) l
 omega
theorem Tx.join {n k : Nat} {sep : Str} (hs : Tx k sep) : ∀ {ys : List Str}, (∀ y ∈ ys, Tx n y) -> Tx ((n + k) * ys.length) (Str.join sep ys)
 | [], _ => ⟨Nat.zero_le _, fun c hc => by cases hc⟩
 | [x], h => (h x List.mem_cons_self).mono (by show n ≤ (n + k) * 1; omega)
 | x :: y :: r, h => by
  rw [show Str.join sep (x :: y :: r) = x ++ sep ++ Str.join sep (y :: r) from rfl]
  refine (((h x List.mem_cons_self).app hs).app (Tx.join hs (ys := y :: r) fun z hz => h z (List.mem_cons_of_mem _ hz))).mono ?_
  rw [List.length_cons (as := y :: r), Nat.mul_succ]
  omega
theorem joinT (sep : Str) (ys : List Str) : Txt.join sep ys = Str.join sep ys := StrLaws.glued_eq_join sep ys
theorem fits_of {n k m : Nat} {sep : Str} {ys : List Str} (hs : Tx k sep) (h : ∀ y ∈ ys, Tx n y) (hl : ys.length ≤ m) (hb : (n + k) * m ≤ 16777216 := by decide) : JoinFits sep ys := by
 have a : (ys.map (·.length)).sum ≤ n * ys.length := by
  clear hl hb hs
  induction ys with
  | nil => exact Nat.zero_le _
  | cons y r ih =>
   rw [List.map_cons, List.sum_cons, List.length_cons, Nat.mul_succ]
   have := (h y List.mem_cons_self).len
   have := ih fun z hz => h z (List.mem_cons_of_mem _ hz)
   omega
 have b : ys.length * sep.length ≤ ys.length * k := Nat.mul_le_mul_left _ hs.len
 have c : (n + k) * ys.length ≤ (n + k) * m := Nat.mul_le_mul_left _ hl
 have d : (n + k) * ys.length = n * ys.length + ys.length * k := by rw [Nat.add_mul, Nat.mul_comm k]
 unfold JoinFits
 omega
theorem app_as (a b c : Str) : a ++ b ++ c = a ++ (b ++ c) := Str.append_assoc a b c
theorem num_neg {i : Int} (h : i < 0) : Str.ofString "-" ++ numT (-i) = numT i := by
 cases i with
 | ofNat m => exact absurd h (Int.not_lt.mpr (Int.natCast_nonneg m))
 | negSucc m =>
  have e : toString (Int.negSucc m) = "-" ++ Nat.repr (m + 1) := rfl
  have e2 : toString (-Int.negSucc m) = Nat.repr (m + 1) := rfl
  have e3 : (Str.ofString "-" ++ Str.ofString (Nat.repr (m + 1))).cps.toList = (Str.ofString ("-" ++ Nat.repr (m + 1))).cps.toList := by
   rw [show (Str.ofString "-" ++ Str.ofString (Nat.repr (m + 1))).cps = (Str.ofString "-").cps ++ (Str.ofString (Nat.repr (m + 1))).cps from rfl, Array.toList_append, signs_ofString, signs_ofString, signs_ofString, String.toList_append, List.map_append]
  show Str.ofString "-" ++ Str.ofString (toString (-Int.negSucc m)) = Str.ofString (toString (Int.negSucc m))
  rw [e, e2]
  have e4 := Array.toList_inj.mp e3
  exact congrArg Str.mk e4
structure Sz (n k : Nat) (d : PyData) : Prop where
 sh : d.showable = true
 nd : d.hasDict = false
 sz : d.shown.length ≤ n
 dp : d.depth ≤ k
theorem Sz.mono {n m k j : Nat} {d : PyData} (h : Sz n k d) (l : n ≤ m) (q : k ≤ j) : Sz m j d := ⟨h.sh, h.nd, Nat.le_trans h.sz l, Nat.le_trans h.dp q⟩
theorem Sz.shows {n k : Nat} {d : PyData} (h : Sz n k d) (l : n ≤ 16777216 := by decide) (q : k ≤ 16 := by decide) : Shows d := by
 have e : sizeLine = 16777216 := by decide
 exact ⟨h.sh, h.nd, Nat.le_trans h.sz (e ▸ l), Nat.le_trans h.dp q⟩
theorem Sz.all {n k : Nat} : ∀ {ds : List PyData}, (∀ d ∈ ds, Sz n k d) -> PyData.showableAll ds = true /\ PyData.hasDictAll ds = false /\ PyData.depthAll ds ≤ k /\ ((PyData.shownAll ds).map (·.length)).sum ≤ n * ds.length /\ (PyData.shownAll ds).length = ds.length
 | [], _ => ⟨rfl, rfl, Nat.zero_le _, Nat.zero_le _, rfl⟩
 | d :: ds, h => by
  obtain ⟨a, b, c, e, f⟩ := Sz.all (ds := ds) fun x hx => h x (List.mem_cons_of_mem _ hx)
  have z := h d List.mem_cons_self
  refine ⟨?_, ?_, ?_, ?_, ?_⟩
  ·show (d.showable && PyData.showableAll ds) = true
   rw [z.sh, a]; rfl
  ·show (d.hasDict || PyData.hasDictAll ds) = false
   rw [z.nd, b]; rfl
  ·show max d.depth (PyData.depthAll ds) ≤ k
   have := z.dp; omega
  ·show d.shown.length + ((PyData.shownAll ds).map (·.length)).sum ≤ n * (ds.length + 1)
   have := z.sz
   rw [Nat.mul_succ]; omega
  ·show (PyData.shownAll ds).length + 1 = ds.length + 1
   rw [f]
theorem Sz.tup {n k m : Nat} {ds : List PyData} (h : ∀ d ∈ ds, Sz n k d) (hl : ds.length ≤ m) : Sz ((n + 2) * m + 3) (k + 1) (.tuple ds) := by
 obtain ⟨a, b, c, e, f⟩ := Sz.all h
 have z : (n + 2) * ds.length ≤ (n + 2) * m := Nat.mul_le_mul_left _ hl
 have y : (n + 2) * ds.length = n * ds.length + 2 * ds.length := Nat.add_mul _ _ _
 refine ⟨a, b, ?_, ?_⟩
 ·show (tupleText (PyData.shownAll ds)).length ≤ _
  have q := tupleText_len_le (PyData.shownAll ds)
  omega
 ·show PyData.depthAll ds + 1 ≤ _
  omega
theorem Sz.str {n : Nat} {x : Str} (h : Tx n x) : Sz (10 * n + 2) 0 (.str x) := by
 refine ⟨rfl, rfl, ?_, Nat.le_refl _⟩
 have q := StrLaws.reprText_len x h.ok
 have := h.len
 show (reprText x).length ≤ _
 omega
theorem Sz.int {i : Int} (h : i.natAbs < 2 ^ 140) : Sz 200 0 (.int i) := by
 refine ⟨?_, rfl, (Tx.num h).len, Nat.le_refl _⟩
 show decide (i.natAbs.log2 < 1920) = true
 refine decide_eq_true ?_
 by_cases z : i.natAbs = 0
 ·rw [z]; decide
 ·exact Nat.lt_of_lt_of_le ((Nat.log2_lt z).mpr h) (by decide)
theorem log2_lt {i : Int} (h : i.natAbs < 2 ^ 140) : i.natAbs.log2 < 1920 := by
 by_cases z : i.natAbs = 0
 ·rw [z]; decide
 ·exact Nat.lt_of_lt_of_le ((Nat.log2_lt z).mpr h) (by decide)
end B
namespace B
open PySem PySem.Spec L2 PyProof.Rows PySem.Builtin PySem.Builtin.Str
abbrev cpl (x : Str) : List Nat := x.cps.toList
theorem cpl_app (x y : Str) : cpl (x ++ y) = cpl x ++ cpl y := by
 show (x.cps ++ y.cps).toList = _
 rw [Array.toList_append]
theorem cpl_inj {x y : Str} (h : cpl x = cpl y) : x = y := congrArg Str.mk (Array.toList_inj.mp h)
theorem first_cut {c : Nat} : ∀ {x y u v : List Nat}, c ∉ x -> c ∉ y -> x ++ c :: u = y ++ c :: v -> x = y /\ u = v
 | [], [], u, v, _, _, h => ⟨rfl, (List.cons.inj h).2⟩
 | [], b :: y, u, v, _, hy, h => absurd (List.cons.inj h).1 fun e => hy (by rw [e]; exact List.mem_cons_self)
 | a :: x, [], u, v, hx, _, h => absurd (List.cons.inj h).1 fun e => hx (by rw [← e]; exact List.mem_cons_self)
 | a :: x, b :: y, u, v, hx, hy, h => by
  obtain ⟨e1, e2⟩ := List.cons.inj h
  obtain ⟨e3, e4⟩ := first_cut (x := x) (y := y) (fun z => hx (List.mem_cons_of_mem _ z)) (fun z => hy (List.mem_cons_of_mem _ z)) e2
  exact ⟨by rw [e1, e3], e4⟩
theorem join_cons2 (s a b : Str) (r : List Str) : Str.join s (a :: b :: r) = a ++ s ++ Str.join s (b :: r) := rfl
theorem join_free {c : Nat} : ∀ {l m : List Str}, (∀ x ∈ l, c ∉ cpl x) -> (∀ x ∈ m, c ∉ cpl x) -> l ≠ [] -> m ≠ [] -> Str.join ⟨#[c]⟩ l = Str.join ⟨#[c]⟩ m -> l = m
 | [], _, _, _, h, _, _ => absurd rfl h
 | _, [], _, _, _, h, _ => absurd rfl h
 | [a], [b], _, _, _, _, h => by rw [show a = b from h]
 | [a], b :: d :: m, hl, _, _, _, h => by
  have e : cpl a = cpl b ++ [c] ++ cpl (Str.join ⟨#[c]⟩ (d :: m)) := by
   have := congrArg cpl (show a = _ from h)
   rw [join_cons2, cpl_app, cpl_app] at this
   exact this
  exact absurd (show c ∈ cpl a by rw [e]; simp) (hl a List.mem_cons_self)
 | a :: d :: l, [b], _, hm, _, _, h => by
  have e : cpl b = cpl a ++ [c] ++ cpl (Str.join ⟨#[c]⟩ (d :: l)) := by
   have := congrArg cpl (show _ = b from h)
   rw [join_cons2, cpl_app, cpl_app] at this
   exact this.symm
  exact absurd (show c ∈ cpl b by rw [e]; simp) (hm b List.mem_cons_self)
 | a :: d :: l, b :: e :: m, hl, hm, _, _, h => by
  have h' := congrArg cpl h
  rw [join_cons2, join_cons2, cpl_app, cpl_app, cpl_app, cpl_app] at h'
  have h2 : cpl a ++ c :: cpl (Str.join ⟨#[c]⟩ (d :: l)) = cpl b ++ c :: cpl (Str.join ⟨#[c]⟩ (e :: m)) := by
   have : cpl (⟨#[c]⟩ : Str) = [c] := rfl
   rw [this] at h'
   simpa using h'
  obtain ⟨e1, e2⟩ := first_cut (hl a List.mem_cons_self) (hm b List.mem_cons_self) h2
  have ih := join_free (c := c) (l := d :: l) (m := e :: m) (fun x hx => hl x (List.mem_cons_of_mem _ hx)) (fun x hx => hm x (List.mem_cons_of_mem _ hx)) (by simp) (by simp) (cpl_inj e2)
  rw [cpl_inj e1, ih]
theorem split_ne (x y : Str) : Txt.split x y ≠ [] := by
 unfold Txt.split
 split
 ·simp
 ·split
  ·simp
  ·rw [StrLaws.partsBetween_eq]
   obtain ⟨p, r, e⟩ := StrLaws.partsFrom_ne x y.length 0 (occurrences x y 0 x.length (x.length + 1))
   rw [e]
   simp
theorem split_join {c : Nat} {ws : List Str} (hf : ∀ x ∈ ws, c ∉ cpl x) (hn : ws ≠ []) : Txt.split (Str.join ⟨#[c]⟩ ws) ⟨#[c]⟩ = ws :=
 join_free (fun x hx => StrLaws.split_free _ c x hx) hf (split_ne _ _) hn (StrLaws.join_split _ _)
theorem part_free {x : Str} {c : Nat} (h : c ∉ cpl x) : Txt.partition x ⟨#[c]⟩ = (x, Str.empty, Str.empty) := by
 rcases partition_whole x ⟨#[c]⟩ with ⟨e, _⟩ | ⟨i, _, ha, _⟩
 ·exact e
 ·exact absurd ((mem_iff_at x c).mpr ⟨i, ha⟩) h
theorem part_cut {x z : Str} {c : Nat} (h : c ∉ cpl x) : Txt.partition (x ++ ⟨#[c]⟩ ++ z) ⟨#[c]⟩ = (x, ⟨#[c]⟩, z) := by
 have ew : cpl (x ++ ⟨#[c]⟩ ++ z) = cpl x ++ c :: cpl z := by
  rw [cpl_app, cpl_app]
  show cpl x ++ [c] ++ cpl z = _
  simp
 have ps := StrLaws.partition_sum (x ++ ⟨#[c]⟩ ++ z) ⟨#[c]⟩
 rcases partition_whole (x ++ ⟨#[c]⟩ ++ z) ⟨#[c]⟩ with ⟨_, hn⟩ | ⟨i, e, _, hn⟩
 ·have : c ∈ cpl (x ++ ⟨#[c]⟩ ++ z) := by rw [ew]; simp
  obtain ⟨i, hi⟩ := (mem_iff_at _ c).mp this
  exact absurd hi (hn i)
 ·rw [e] at ps ⊢
  have fr : c ∉ cpl (strSub (x ++ ⟨#[c]⟩ ++ z) 0 i) := fun m => by
   obtain ⟨k, hk, ek⟩ := List.mem_iff_getElem.mp m
   have e2 : cpl (strSub (x ++ ⟨#[c]⟩ ++ z) 0 i) = (cpl (x ++ ⟨#[c]⟩ ++ z)).take i := by
    show ((x ++ ⟨#[c]⟩ ++ z).cps.extract 0 i).toList = _
    simp
   have e3 : (cpl (strSub (x ++ ⟨#[c]⟩ ++ z) 0 i))[k]? = some c := by rw [List.getElem?_eq_getElem hk, ek]
   rw [e2, List.getElem?_take] at e3
   split at e3
   ·rename_i hk2
    exact hn k hk2 ((StrLaws.subAt_one _ c k).mpr e3)
   ·cases e3
  have h2 := congrArg cpl ps
  rw [ew, cpl_app, cpl_app] at h2
  have h3 : cpl (strSub (x ++ ⟨#[c]⟩ ++ z) 0 i) ++ c :: cpl (strSub (x ++ ⟨#[c]⟩ ++ z) (i + 1) (x ++ ⟨#[c]⟩ ++ z).length) = cpl x ++ c :: cpl z := by
   rw [← h2]
   show _ = cpl _ ++ [c] ++ cpl (strSub (x ++ ⟨#[c]⟩ ++ z) (i + 1) (x ++ ⟨#[c]⟩ ++ z).length)
   simp
  obtain ⟨h4, h5⟩ := first_cut fr h h3
  rw [cpl_inj h4]
  show (x, (⟨#[c]⟩ : Str), strSub (x ++ ⟨#[c]⟩ ++ z) (i + 1) (x ++ ⟨#[c]⟩ ++ z).length) = _
  rw [cpl_inj h5]
theorem cpl_num (n : Nat) : cpl (numT (n : Int)) = (Nat.toDigits 10 n).map Char.toNat := PySem.W.KIN.signs_num n
theorem num_dig (n : Nat) : PySem.NumText.AllDigits (cpl (numT (n : Int))) := by
 intro c hc
 rw [cpl_num] at hc
 obtain ⟨ch, hch, e⟩ := List.mem_map.mp hc
 have r := digit_range (Nat.isDigit_of_mem_toDigits (by decide) (by decide) hch)
 rw [← e]
 exact r
theorem dig_cons (n : Nat) (h : 10 ≤ n) : Nat.toDigits 10 n = Nat.toDigits 10 (n / 10) ++ [Nat.digitChar (n % 10)] := by
 have hm : n % 10 < 10 := Nat.mod_lt n (by decide)
 have t : Nat.toDigits 10 (n / 10) ++ Nat.toDigits 10 (n % 10) = Nat.toDigits 10 (10 * (n / 10) + n % 10) := Nat.toDigits_append_toDigits (by decide) (by omega) hm
 rw [Nat.div_add_mod, Nat.toDigits_of_lt_base hm] at t
 exact t.symm
theorem dig_len : ∀ (k n : Nat), n < 10 ^ (k + 1) -> (Nat.toDigits 10 n).length ≤ k + 1
 | 0, n, h => by
  have h' : n < 10 := by simpa using h
  rw [Nat.toDigits_of_lt_base h']
  exact Nat.le_refl _
 | k + 1, n, h => by
  by_cases c : n < 10
  ·rw [Nat.toDigits_of_lt_base c]
   exact Nat.le_trans (Nat.le_refl 1) (by omega)
  ·rw [dig_cons n (by omega), List.length_append]
   have : n / 10 < 10 ^ (k + 1) := Nat.div_lt_of_lt_mul (by rw [← Nat.pow_succ']; exact h)
   have := dig_len k (n / 10) this
   show _ + 1 ≤ _
   omega
theorem dig_ne (n : Nat) : Nat.toDigits 10 n ≠ [] := by
 by_cases c : n < 10
 ·rw [Nat.toDigits_of_lt_base c]; simp
 ·rw [dig_cons n (by omega)]; simp
theorem len_cpl (x : Str) : x.length = (cpl x).length := by show x.cps.size = _; simp
theorem num_len {n : Nat} (h : n < 10 ^ 40) : 1 ≤ (numT (n : Int)).length /\ (numT (n : Int)).length ≤ 40 := by
 rw [len_cpl, cpl_num, List.length_map]
 have := List.length_pos_iff.mpr (dig_ne n)
 exact ⟨this, dig_len 39 n h⟩
theorem num_int {n : Nat} (h : n < 10 ^ 40) : PySem.intText? (numT (n : Int)) = some (n : Int) := by
 have hl := (num_len h).2
 have hne : (numT (n : Int)).cps.toList ≠ [] := by
  show cpl _ ≠ []
  rw [cpl_num]
  intro e
  exact dig_ne n (List.map_eq_nil_iff.mp e)
 have e := PySem.intText_digits (num_dig n) hne (by omega)
 have e2 : (numT (n : Int)).cps.toList = (Nat.toDigits 10 n).map Char.toNat := cpl_num n
 rw [e2, PySem.W.KIN.val_back] at e
 exact e
theorem num_free {n : Nat} {c : Nat} (h : c < 48 ∨ 57 < c) : c ∉ cpl (numT (n : Int)) := fun m => by have := num_dig n c m; omega
structure Rg (r : R) : Prop where
 nn : 0 ≤ r.1
 pos : 0 < r.2
 cop : Int.gcd r.1 r.2 = 1
 t40 : r.1 < 10 ^ 40
 b40 : r.2 < 10 ^ 40
theorem rat_free {r : R} {c : Nat} (h : Rg r) (hc : c < 47 ∨ 57 < c) : c ∉ cpl (ratT r) := by
 have h1 := h.nn
 have h2 := h.pos
 obtain ⟨a, ha⟩ := Int.eq_ofNat_of_zero_le h1
 obtain ⟨b, hb⟩ := Int.eq_ofNat_of_zero_le (Int.le_of_lt h2)
 unfold ratT
 rw [ha, hb]
 split
 ·exact num_free (by omega)
 ·rw [cpl_app, cpl_app]
  intro m
  rcases List.mem_append.mp m with m | m
  ·rcases List.mem_append.mp m with m | m
   ·exact num_free (by omega) m
   ·have : c = 47 := by simpa using (show c ∈ [47] from m)
    omega
  ·exact num_free (by omega) m
end B
namespace Rv
open PySem
open Builtin Builtin.Str
theorem sl_next : Slot "list_reverseiterator" "__next__" "list_reverseiterator.__next__" :=
 .of (n := "__next__") (owner := "list_reverseiterator")
  (by rw [typeLookup_type, builtinLookup_eq_fast]; kernel_rfl)
  (by decide +kernel) (by decide +kernel) (by decide +kernel)
  (by first | exact .inr (by decide +kernel) | exact .inl (by decide +kernel)) (by rw [isSubtype_type]; kernel_rfl)
theorem sl_iter : Slot "list_reverseiterator" "__iter__" "list_reverseiterator.__iter__" :=
 .of (n := "__iter__") (owner := "list_reverseiterator")
  (by rw [typeLookup_type, builtinLookup_eq_fast]; kernel_rfl)
  (by decide +kernel) (by decide +kernel) (by decide +kernel)
  (by first | exact .inr (by decide +kernel) | exact .inl (by decide +kernel)) (by rw [isSubtype_type]; kernel_rfl)
theorem en_next : entryFor table "list_reverseiterator.__next__" = some Builtin.«list_reverseiterator.__next__» := entryFor_of_fast (by kernel_rfl)
theorem en_iter : entryFor table "list_reverseiterator.__iter__" = some Builtin.«dict_keyiterator.__iter__» :=
 entryFor_alias (by kernel_rfl) (by first | rfl | decide +kernel | (unfold String.splitOn; simp +decide [String.splitOnAux])) (by decide +kernel) (by kernel_rfl) (id' := "dict_keyiterator.__iter__")
theorem ar_next (a : Value) : argsOk "list_reverseiterator.__next__" ⟨[a], []⟩ := by
 unfold argsOk
 kernel_rfl
theorem ar_iter (a : Value) : argsOk "list_reverseiterator.__iter__" ⟨[a], []⟩ := by
 unfold argsOk
 kernel_rfl
theorem no_len : typeLookup (.type "list_reverseiterator") "__len__" = pure none := by
 rw [typeLookup_type, builtinLookup_eq_fast]
 kernel_rfl
theorem a_hint : typeLookup (.type "list_reverseiterator") "__length_hint__" = pure (some (.builtin "list_reverseiterator.__length_hint__")) := by
 rw [typeLookup_type, builtinLookup_eq_fast]
 kernel_rfl
theorem sl_init : Slot "reversed" "__init__" "object.__init__" :=
 .of (n := "__init__") (owner := "object")
  (by rw [typeLookup_type, builtinLookup_eq_fast]; kernel_rfl)
  (by decide +kernel) (by decide +kernel) (by decide +kernel)
  (by first | exact .inr (by decide +kernel) | exact .inl (by decide +kernel)) (by rw [isSubtype_type]; kernel_rfl)
theorem mro_rev : mroOf (.type "reversed") = pure [.type "reversed", .type "object"] := by
 rw [mroOf_type]
 kernel_rfl
theorem look_new : typeLookup (.type "reversed") "__new__" = pure (some (.builtin "reversed.__new__")) := by
 rw [typeLookup_type, builtinLookup_eq_fast]
 kernel_rfl
theorem sub_rev : isSubtype (.type "reversed") (.type "reversed") = pure true := by
 rw [isSubtype_type]
 kernel_rfl
theorem called_rev : TypeCalled "reversed" "reversed.__new__" "object.__init__" :=
 ⟨by decide +kernel, by decide +kernel, ⟨_, _, mro_rev⟩, madeBy_type mro_rev look_new (by decide +kernel), by decide +kernel, sub_rev, sl_init⟩
theorem tc_rev (a : Value) : checkTypeCall "reversed" ⟨[a], []⟩ = pure () := by kernel_rfl
theorem nc_rev (a : Value) : checkBuiltinCall "reversed.__new__" ⟨[.type "reversed", a], []⟩ = pure () := by kernel_rfl
theorem en_new : entryFor table "reversed.__new__" = some Builtin.«reversed.__new__» := entryFor_of_tree (by kernel_rfl)
def At (h : Heap) (I l : Addr) (n i : Nat) : Prop := ∃ o, h.get? I = some o /\ o.cls = .type "list_reverseiterator" /\ o.data = .fields #[.ref l, .int ((n : Int) - 1 - i) 0]
theorem At.ty {s : Shared} {I l : Addr} {n i : Nat} (x : At s.heap I l n i) : s.TypeIs (.ref I) "list_reverseiterator" :=
 let ⟨o, ho, hc, _⟩ := x
 ⟨o, ho, hc⟩
section
variable {prog : Program} {w : World} {A : Around} {E : VSP} {s : Shared}
theorem it_self {I l : Addr} {n i : Nat} {Q : VSP} (a : At s.heap I l n i) (h : Q (.ref I) s) : wpAny (model prog w) A (pyIter (.ref I)) Q E s := by
 refine wpAny_pyIter_slot a.ty sl_iter (wpAny_call_entry sl_iter a.ty en_iter ?_ (ar_iter _))
 show wpAny _ _ (ret (.ref I)) _ _ s
 exact wpAny_pure ⟨_, rfl, "list_reverseiterator", _, a.ty, sl_next.lookup, h⟩
theorem nx_item {I l : Addr} {i : Nat} {items : Array Value} {x : Value} {Q : Option Value -> Shared -> Prop} (a : At s.heap I l items.size i) (hl : s.heap.IsList l items) (hi : i < items.size) (hx : items[items.size - 1 - i]? = some x)
  (hQ : ∀ h', At h' I l items.size (i + 1) -> Heap.SameBut I s.heap h' -> Q (some x) { s with heap := h' }) : wpAny (model prog w) A (pyNext (.ref I)) Q E s := by
 obtain ⟨o, ho, hc, hd⟩ := id a
 obtain ⟨ol, hol, _, nl, hdl⟩ := hl
 unfold pyNext
 refine wpAny_bind (wpAny_attempt (wpAny_callSpecial?_slot (name := Str.ofString "__next__") a.ty sl_next (wpAny_call_entry sl_next a.ty en_next ?_ (ar_next _))))
 show wpAny _ _ (field (.ref I) 1 >>= _) _ _ s
 refine wpAny_bind (wpAny_field ho hd (x := .int ((items.size : Int) - 1 - i) 0) rfl ?_)
 dsimp only
 rw [if_neg (show ¬ ((items.size : Int) - 1 - i < 0) by omega)]
 show wpAny _ _ (field (.ref I) 0 >>= _) _ _ s
 refine wpAny_bind (wpAny_field ho hd (x := .ref l) rfl ?_)
 show wpAny _ _ (seqItems? (.ref l) >>= _) _ _ s
 refine wpAny_bind (wpAny_seqItems hol hdl ?_)
 have e : ((items.size : Int) - 1 - i).toNat = items.size - 1 - i := by omega
 simp only [e, hx]
 refine wpAny_bind (wpAny_setField ho hd (by simp) (wpAny_pure ⟨x, rfl, wpAny_pure (hQ _ ?_ (Heap.SameBut.update ..))⟩))
 refine ⟨_, Heap.get?_update_self _ ho (Obj.isFreed_of_fields (Obj.data_mapFields hd _)), (Obj.cls_mapFields ..).trans hc, ?_⟩
 rw [Obj.data_mapFields hd]
 simp [rawInt]
 omega
theorem nx_end {I l : Addr} {n : Nat} {Q : Option Value -> Shared -> Prop} (hh : A.handled = none) (a : At s.heap I l n n)
  (hQ : ∀ h', Heap.ExtBut I s.heap h' -> Q none { s with heap := h' }) : wpAny (model prog w) A (pyNext (.ref I)) Q E s := by
 obtain ⟨o, ho, hc, hd⟩ := id a
 unfold pyNext
 refine wpAny_bind (wpAny_attempt (wpAny_callSpecial?_slot (name := Str.ofString "__next__") a.ty sl_next (wpAny_call_entry sl_next a.ty en_next ?_ (ar_next _))))
 show wpAny _ _ (field (.ref I) 1 >>= _) _ _ s
 refine wpAny_bind (wpAny_field ho hd (x := .int ((n : Int) - 1 - n) 0) rfl ?_)
 dsimp only
 rw [if_pos (show (n : Int) - 1 - n < 0 by omega)]
 refine wpAny_bind (wpAny_rule ?_)
 refine wpAny_bind ?_
 show wpAny _ _ (newExc (.type "StopIteration") [] >>= _) _ _ _
 refine wpAny_bind ?_
 simp only [newExc, newTuple]
 refine wpAny_bind (wpAny_newObj_type ?_ (by size_fits))
 refine wpAny_bind (m := firstArgMember _ _) (wpAny_of_eq (a := Value.none) (by first | (simp only [firstArgMember]; rfl) | rfl) ?_)
 refine wpAny_newObj_type ?_ (by size_fits)
 simp only [raiseNew]
 refine wpAny_bind (wpAny_handled ?_)
 rw [show A.in1.handled = none from hh]
 refine wpAny_bind (wpAny_pure (wpAny_throw ?_))
 refine wpAny_bind (wpAny_isInstance (T := "StopIteration") (b := true) ⟨_, Heap.get?_push_size _ rfl, rfl⟩ isSubtype_stop ?_)
 refine wpAny_pure (hQ _ fun b o hb e => ?_)
 exact Heap.get?_push_of_some _ (Heap.get?_push_of_some _ e)
end
end Rv
namespace Rv
open PySem
open Builtin Builtin.Str
theorem new_meets (l : Addr) (items : Array Value) (n : Nat) :
  Meets (Builtin.«reversed.__new__» ⟨[.type "reversed", .ref l], []⟩) (fun _ R s => s.heap.get? l = some { cls := .type "list", dict := none, data := .seq items n, slots := #[] } ∧
   R (.ok (.ret (.ref s.heap.objs.size))) { s with heap := s.heap.push { cls := .type "list_reverseiterator", data := .fields #[.ref l, rawInt ((items.size : Int) - 1)] } }) :=
 .of_wp fun prog w A R s h => by
  obtain ⟨hp, g, d, tk, os⟩ := s
  obtain ⟨hl, h⟩ := h
  have hsub := sub_rev
  wp_walk
  refine wpAny_of_eq (show typeLookup (.type "list") (Str.ofString "__reversed__") = _ from F.slot_list_reversed.lookup) ?_
  refine wpAny_bind (wpAny_of_eq (F.slot_list_reversed.bind _) ?_)
  show wpAny _ _ (rule _ >>= fun _ => call (.builtin "list.__reversed__") [.ref l] >>= _) _ _ _
  refine wpAny_bind (wpAny_rule (wpAny_bind ?_))
  refine call_meets F.slot_list_reversed ⟨_, hl, rfl⟩ F.entry_list_reversed (F.args_list_reversed_1 _) (AutoListH.list___reversed___list_0 l items n) ⟨hl, ?_⟩
  exact wpAny_pure ⟨_, rfl, h⟩
section
variable {prog : Program} {w : World} {A : Around} {E : VSP} {s : Shared}
theorem not_sub : isSubtype (.type "list_reverseiterator") (.type "reversed") = pure false := by
 rw [isSubtype_type]
 kernel_rfl
theorem call_rev {l : Addr} {items : Array Value} {n : Nat} {Q : VSP} (hl : s.heap.get? l = some { cls := .type "list", dict := none, data := .seq items n, slots := #[] })
  (h : ∀ h', At h' s.heap.objs.size l items.size 0 -> h'.objs.size = s.heap.objs.size + 1 -> (∀ b o, s.heap.get? b = some o -> h'.get? b = some o) -> Q (.ref s.heap.objs.size) { s with heap := h' }) :
  wpAny (model prog w) A (call (.type "reversed") [.ref l]) Q E s := by
 have a : At (s.heap.push { cls := .type "list_reverseiterator", data := .fields #[.ref l, rawInt ((items.size : Int) - 1)] }) s.heap.objs.size l items.size 0 :=
  ⟨_, Heap.get?_push_size _ rfl, rfl, by
   show Data.fields #[.ref l, Value.int ((items.size : Int) - 1) 0] = _
   rw [show (items.size : Int) - 1 - ((0 : Nat) : Int) = (items.size : Int) - 1 by omega]⟩
 have hq := h _ a (Heap.size_push ..) fun b o x => Heap.get?_push_of_some _ x
 have hct := tc_rev (.ref l)
 obtain ⟨c, tl, hmro⟩ := called_rev.mro
 have hmade := called_rev.made; have hsub := called_rev.sub; have h1 := called_rev.notType; have h2 := called_rev.canCreate
 have hns := not_sub
 refine wpAny_call (codeAny_of_tree (wpAny_pure ⟨Code.quiet_builtin _ (by decide +kernel), codeAny_builtin F.entry_type_call ?_⟩))
 rw [Around.under_plain (weight_type_call_type "reversed" [.ref l] []) (units_type_call_type "reversed" [.ref l] [])]
 repeat (any_goals (first | wp_step | assumption))
 refine codeAny_mono (codeAny_call_builtin called_rev.plain en_new (wpAny_of_eq (nc_rev _) (new_meets l items n prog w A.in1 (wants (fun v s' => v = .ref s.heap.objs.size /\ s' = { s with heap := s.heap.push { cls := .type "list_reverseiterator", data := .fields #[.ref l, rawInt ((items.size : Int) - 1)] } }) E) s ⟨hl, ⟨rfl, rfl⟩⟩))) fun r s₁ hr => ?_
 cases r with
 | error e => exact hr
 | ok fl => cases fl with
  | ret obj =>
   obtain ⟨rfl, rfl⟩ := hr
   have hT : Shared.TypeIs { s with heap := s.heap.push { cls := .type "list_reverseiterator", data := .fields #[.ref l, rawInt ((items.size : Int) - 1)] } } (.ref s.heap.objs.size) "list_reverseiterator" := a.ty
   repeat (any_goals (first | wp_step | assumption))
  | _ => exact hr.elim
def Back (items : Array Value) (i : Nat) (v : Value) : Prop := items[items.size - 1 - i]? = some v
theorem walks (hh : A.handled = none) (I l : Addr) (items : Array Value) (nl : l ≠ I) :
  WalksS prog w A I [I, l] [I] (fun a b => a = b) items.size (Back items) (fun i s => At s.heap I l items.size i /\ s.heap.IsList l items) where
 sub := fun b hb => by
  have : b = I := by simpa using hb
  subst this
  exact List.mem_cons_self
 grefl := fun _ => rfl
 gtrans := fun _ _ _ x y => x.trans y
 frame := fun i s h' tk st _ hk => by
  obtain ⟨⟨o, ho, r⟩, ⟨ol, hol, r'⟩⟩ := st
  exact ⟨⟨o, hk I (by simp) o ho, r⟩, ⟨ol, hk l (by simp) ol hol, r'⟩⟩
 item := fun i s Q E hi st hQ => by
  obtain ⟨a, hl⟩ := st
  have hx : items[items.size - 1 - i]? = some (items[items.size - 1 - i]'(by omega)) := Array.getElem?_eq_getElem _
  refine nx_item a hl hi hx fun h' a' sm => ?_
  refine hQ _ _ hx ⟨a', hl.extBut sm.extBut nl⟩ ⟨fun b o hb e => sm.extBut b o (fun z => hb (by simp [z])) e, rfl, rfl, rfl, Nat.le_refl _⟩
 done := fun s Q E st hQ => by
  obtain ⟨a, hl⟩ := st
  exact nx_end hh a fun h' ex => hQ _ ⟨fun b o hb e => ex b o (fun z => hb (by simp [z])) e, rfl, rfl, rfl, Nat.le_refl _⟩
 self := fun i s Q E st hQ => it_self st.1 hQ
end
end Rv
namespace Rv
open PySem
open Builtin Builtin.Str
section
variable {prog : Program} {w : World} {A : Around} {E : VSP} {s : Shared}
theorem collect_rev {I : Addr} {fp wr : List Addr} {G : Array GenState -> Array GenState -> Prop} {n : Nat} {P : Nat -> Value -> Prop} {St : Nat -> Shared -> Prop} {Q : List Value -> Shared -> Prop}
  (W : WalksS prog w A.in1 I fp wr G n P St) (ty : ∀ i s, St i s -> s.TypeIs (.ref I) "list_reverseiterator") (st0 : St 0 s) (lo : ∀ b ∈ fp, b < s.heap.objs.size) (inI : I ∈ fp)
  (q : ∀ s' acc, Moved wr G s s' -> ItemsOf P acc n -> Q acc.toList s') (hn : n ≤ sizeLine) : wpAny (model prog w) A (collect (.ref I)) Q E s := by
 have nf : s.heap.objs.size ∉ fp := fun m => Nat.lt_irrefl _ (lo _ m)
 have nI : s.heap.objs.size ≠ I := fun e => nf (e ▸ inI)
 unfold collect
 refine wpAny_bind (wpAny_runValue (codeAny_builtin F.entry_proto_collect ?_)); rw [Around.under_plainId F.plain_proto_collect _]
 show wpAny _ A.in1 (newList [] >>= fun x => again (.builtin "list.__iadd__" ⟨[x, .ref I], []⟩)) _ _ s
 refine wpAny_bind (wpAny_newObj_type (wpAny_pure ⟨plainId_quiet F.plain_list_iadd _, codeAny_builtin F.entry_list_iadd ?_⟩)); rw [Around.under_plainId F.plain_list_iadd _]
 have st1 := W.frame 0 s (s.heap.push { cls := .type "list", data := .seq ([] : List Value).toArray }) s.toks st0 (Nat.le_refl _) fun b _ o e => Heap.get?_push_of_some _ e
 have at1 : (s.heap.push { cls := .type "list", data := .seq ([] : List Value).toArray }).get? s.heap.objs.size = some { cls := .type "list", data := .seq ([] : List Value).toArray } := Heap.get?_push_size _ rfl
 have ns : Builtin.List.listSameRef (.ref s.heap.objs.size) (.ref I) = false := by simp [Builtin.List.listSameRef, nI]
 show wpAny _ A.in1 (Builtin.List.listExtendWith (.ref s.heap.objs.size) (.ref I) (.ref s.heap.objs.size)) _ _ _; unfold Builtin.List.listExtendWith
 refine wpAny_bind (wpAny_typeOf (ty 0 _ st1) ?_)
 rw [if_neg (by rw [ns]; decide)]
 refine wpAny_bind (W.self 0 _ _ _ st1 (wpAny_bind (wpAny_holding ?_)))
 unfold Builtin.List.listLengthHint
 refine wpAny_bind (wpAny_specialOf (ty 0 _ st1) no_len ?_)
 show wpAny _ A.in1 (specialOf (Value.ref I) (Str.ofString "__length_hint__") >>= _) _ _ _; refine wpAny_bind (wpAny_specialOf (ty 0 _ st1) a_hint ?_)
 (generalize hid : ("list_reverseiterator.__length_hint__" : String) = id0; (fail_if_success (clear hid id0)); wp_delta; rw [show splitId id0 = some ("list_reverseiterator", "__length_hint__") from by subst hid; decide +kernel]; subst hid)
 refine wpAny_bind (wpAny_isInstance (b := true) (ty 0 _ st1) (by rw [isSubtype_type]; kernel_rfl) ?_)
 refine wpAny_pure ?_
 rw [if_neg (by decide)]
 refine wpAny_pure ⟨plainId_quiet F.plain_extend_loop _, codeAny_extend_loopS W hn _ nf _ n 0 _ _ _ rfl (Nat.zero_le _) st1 at1 (ItemsOf.nil P) fun s' acc' c' hm at' hacc => ?_⟩
 show wpAny _ A (load s.heap.objs.size >>= _) _ _ s'
 refine wpAny_bind (wpAny_load at' (wpAny_pure (q s' acc' (Moved.drop_new (o := { cls := .type "list", data := .seq ([] : List Value).toArray }) (tk := s.toks) hm (Nat.le_refl _)) hacc)))
theorem join_rev {I l : Addr} {items : Array Value} {x : Str} {t : Tok} {Q : VSP} (hh : A.handled = none) (nl : l ≠ I) (a : At s.heap I l items.size 0) (hl : s.heap.IsList l items) (hz : items.size ≤ sizeLine)
  (hs : ∀ v ∈ items.toList, ∃ y u, v = Value.str y u)
  (hq : ∀ (s' : Shared) (ls : List (Str × Tok)), (∀ b o, b ≠ I -> s.heap.get? b = some o -> s'.heap.get? b = some o) -> s'.gens = s.gens -> s'.drawn = s.drawn -> s'.os = s.os -> strValues ls = items.toList.reverse -> JoinOk x (ls.map (·.1)) = true /\ ∀ t' k, Q (.str (Txt.join x (ls.map (·.1))) t') { s' with toks := k }) :
  wpAny (model prog w) A (call (.builtin "str.join") [.str x t, .ref I]) Q E s := by
 refine wpAny_call (codeAny_call_builtin F.slot_str_join.plain F.entry_str_join (F.slot_str_join.check _ _ _ _ _ _ _ _ (typeIs_str _ _ _) (F.args_str_join_2 _ _) ?_)); rw [join_tree_other]
 have W : WalksS prog w A.in1.in1 I [I, l] [I] (fun a b => a = b) items.size (Back items) (fun i s => At s.heap I l items.size i /\ s.heap.IsList l items) := walks (A := A.in1.in1) hh I l items nl
 refine wpAny_bind (wpAny_typeOf a.ty ?_)
 show wpAny _ A.in1 ((pyIter (.ref I)).tryCatch _ >>= fun it => collect it >>= fun items => joinTail x items) _ _ s
 refine wpAny_bind (wpAny_tryCatch (W.of_in1.self 0 s _ _ ⟨a, hl⟩ ?_))
 refine wpAny_bind (collect_rev W (fun i s st => st.1.ty) ⟨a, hl⟩ (fun b hb => ?_) List.mem_cons_self (fun s' acc hm hacc => ?_) hz)
 ·simp only [List.mem_cons, List.not_mem_nil, or_false] at hb
  rcases hb with rfl | rfl
  ·obtain ⟨o, ho, _⟩ := a
   exact Heap.lt_size ho
  ·obtain ⟨o, ho, _⟩ := hl
   exact Heap.lt_size ho
 have hsz : acc.size = items.size := hacc.1
 have er : acc.toList = items.toList.reverse := by
  apply List.ext_getElem?
  intro j
  by_cases hj : j < items.size
  ·have e1 : acc.toList[j]? = acc[j]? := by simp
   have e2 : acc[j]? = some (acc[j]'(by omega)) := Array.getElem?_eq_getElem _
   have e3 := hacc.2 j _ e2
   unfold Back at e3
   rw [e1, e2, List.getElem?_reverse (by simpa using hj)]
   rw [← e3]
   simp
  ·rw [List.getElem?_eq_none (by simp; omega), List.getElem?_eq_none (by simp; omega)]
 obtain ⟨ls, hls⟩ := exists_strValues acc.toList fun v hv => hs v (by rw [er] at hv; exact List.mem_reverse.mp hv)
 rw [← hls]
 obtain ⟨hok, post⟩ := hq s' ls (fun b o nb e => hm.heap b o (by simpa using nb) e) hm.gens.symm hm.drawn hm.os (hls.trans er)
 unfold JoinOk at hok
 rw [Bool.not_eq_true'] at hok
 have g : Gives (joinTail x (strValues ls)) (joinMade x ls) := by
  have g0 := gives_joinTail x ls hok
  cases ls with
  | nil => exact g0
  | cons p1 r1 => cases r1 with
   | nil => exact g0
   | cons p2 r2 => exact g0
 exact g prog w A (wants Q E) s' (post_join ls ⟨joinFit_length hok, post⟩)
end
end Rv
namespace B
open PySem PySem.Spec L2 PyProof.Rows
section
variable {X : Cx}
def tJR (to te : TE) : TE := fun σ H Q => to σ H fun x H1 => ∃ sep, x = .str sep /\ te σ H1 fun v H2 => ∃ (l : Addr) (ys : List Str), [v] = [V.ref l] /\ H2 l = some (.lst (ys.map V.str)) /\ JoinFits sep ys.reverse /\ Q (.str (Txt.join sep ys.reverse)) H2
variable {o e : Expr} {to te : TE} {apos cpos npos pos : Pos}
theorem pe_joinRev (hc : X.calm = true) (hg : Gl X "reversed") (hm : X.mg "reversed" = none) (hv : bootBuiltins "reversed" = some (.type "reversed")) (ho : PE X o to) (he : PE X e te)
  (hbase : attributeBase o "join" X.env (eval o X.env) = eval o X.env := by rfl)
  (hfew : ((backTo cpos (starEach [.Call (.Name "reversed" npos) [e] [] pos] X.env)).all (fun x => !x.1) && (backToKw cpos (keywordEach [] X.env)).all (fun x => x.1.isSome)
   && decide ([Expr.Call (.Name "reversed" npos) [e] [] pos].length + ([] : List Keyword).length + (if ([] : List Keyword).isEmpty then 0 else 1) < 30)) = true := by rfl)
  (hline : (apos.endLine == cpos.line) = true := by rfl) (hs : starEach [.Call (.Name "reversed" npos) [e] [] pos] X.env = [(false, eval (.Call (.Name "reversed" npos) [e] [] pos) X.env)] := by rfl)
  (hs2 : starEach [e] X.env = [(false, eval e X.env)] := by rfl) :
  PE X (.Call (.Attribute o "join" apos) [.Call (.Name "reversed" npos) [e] [] pos] [] cpos) (tJR to te) := by
 intro pins s σ H Q I h
 refine wpAny_Call_method_late hbase hfew hline rfl (thn (ho pins s σ H _ I h) fun v s1 ⟨x, H1, I1, r1, q1⟩ => ?_)
 obtain ⟨sep, rfl, q1⟩ := q1
 obtain ⟨t, rfl⟩ := r1
 refine ⟨"str", "str.join", F.plainAttrs_str, F.slot_str_join, F.type_str_join, typeIs_str s1 sep t, (fun _ z => nomatch z), ?_⟩
 rw [hs]
 refine Calls.callWith_builtin rfl (Calls.evalArgs_plain (Calls.spliced_cons ?_))
 refine wpAny_Call_Name_kw (ld_blt I1 hg hm hv ?_ (by decide) (by decide))
 have ha : PA X [e] (tCons te tNil) := pa_cons he pa_nil hs2
 refine PyProof.Rows.callWith_type1 (thn (ha pos pins s1 σ H1 (fun vs H2 => ∃ (l : Addr) (ys : List Str), vs = [V.ref l] /\ H2 l = some (.lst (ys.map V.str)) /\ JoinFits sep ys.reverse /\ Q (.str (Txt.join sep ys.reverse)) H2) I1 q1) fun us s2 ⟨vs, H2, I2, r2, q2⟩ => ?_) hs2 rfl
 obtain ⟨l, ys, rfl, hl, hz, q⟩ := q2
 obtain ⟨u, rfl, rr⟩ := r2.one
 cases (show u = Value.ref l from rr)
 obtain ⟨z, its, n, r, _, ee⟩ := I2.lstM hl
 obtain ⟨ls, rfl, hls⟩ := vals_str r
 refine Rv.call_rev (l := l) (items := (PySem.strValues ls).toArray) (n := n) ee fun h' a sz kp => ?_
 refine Calls.spliced_nil ?_
 have nl : l ≠ s2.heap.objs.size := fun z => by
  have lt := Heap.lt_size ee
  rw [z] at lt
  exact Nat.lt_irrefl _ lt
 have hL : Heap.IsList h' l (PySem.strValues ls).toArray := ⟨_, kp _ _ ee, rfl, n, rfl⟩
 refine Rv.join_rev (A := X.A) (x := sep) (t := t) (I := s2.heap.objs.size) (l := l) (items := (PySem.strValues ls).toArray) (I2.ok.hd hc) nl a hL ?_ ?_ ?_
 ·rw [List.size_toArray]
  have e1 : (PySem.strValues ls).length = ls.length := by unfold PySem.strValues; rw [List.length_map]
  have e2 : ls.length = ys.length := by rw [← hls, List.length_map]
  have e3 : (ys.map V.str).length = ys.length := List.length_map _
  omega
 ·intro v hv
  unfold PySem.strValues at hv
  obtain ⟨p, _, rfl⟩ := List.mem_map.mp hv
  exact ⟨_, _, rfl⟩
 ·intro s' ls' kp' hg hdr hos hrev
  have e : ls'.map (·.1) = ys.reverse := by
   have : ls' = ls.reverse := by
    have inj : ∀ (a b : List (Str × Tok)), PySem.strValues a = PySem.strValues b -> a = b := by
     intro a
     induction a with
     | nil => intro b h; cases b with
      | nil => rfl
      | cons _ _ => cases h
     | cons p a ih => intro b h; cases b with
      | nil => cases h
      | cons q b =>
       unfold PySem.strValues at h
       rw [List.map_cons, List.map_cons] at h
       injection h with h1 h2
       injection h1 with h3 h4
       rw [ih b h2]
       congr 1
       exact Prod.ext h3 h4
    refine inj _ _ (hrev.trans ?_)
    unfold PySem.strValues
    rw [List.map_reverse]
   rw [this, List.map_reverse, hls]
  rw [e]
  refine ⟨joinOk_of hz, fun t' k => ⟨.str _, H2, ?_, ⟨_, rfl⟩, q⟩⟩
  have K := I2.kept (h' := s'.heap) (t' := k) fun b o eb => kp' b o (fun z => by have lt := Heap.lt_size eb; rw [z] at lt; exact Nat.lt_irrefl _ lt) (kp b o eb)
  obtain ⟨hp', g', d', tk', os'⟩ := s'
  simp only at hg hdr hos
  subst hg; subst hdr; subst hos
  exact K
theorem qe_joinRev (hc : X.calm = true) (hg : Gl X "reversed") (hm : X.mg "reversed" = none) (hv : bootBuiltins "reversed" = some (.type "reversed")) (ho : QE X o to) (he : QE X e te)
  (hbase : attributeBase o "join" X.env (eval o X.env) = eval o X.env := by rfl)
  (hfew : ((backTo cpos (starEach [.Call (.Name "reversed" npos) [e] [] pos] X.env)).all (fun x => !x.1) && (backToKw cpos (keywordEach [] X.env)).all (fun x => x.1.isSome)
   && decide ([Expr.Call (.Name "reversed" npos) [e] [] pos].length + ([] : List Keyword).length + (if ([] : List Keyword).isEmpty then 0 else 1) < 30)) = true := by rfl)
  (hline : (apos.endLine == cpos.line) = true := by rfl) (hs : starEach [.Call (.Name "reversed" npos) [e] [] pos] X.env = [(false, eval (.Call (.Name "reversed" npos) [e] [] pos) X.env)] := by rfl)
  (hs2 : starEach [e] X.env = [(false, eval e X.env)] := by rfl) :
  QE X (.Call (.Attribute o "join" apos) [.Call (.Name "reversed" npos) [e] [] pos] [] cpos) (tJR to te) := ⟨pe_joinRev hc hg hm hv ho.p he.p hbase hfew hline hs hs2⟩
end
section
variable {X : Cx} {x : Str} {p pos : Pos} {e : Expr} {es : List Expr} {t : TA}
def FnV (X : Cx) (a : Addr) (sp : Sp) (E : XK) : Prop := ∃ (CX : CXT) (k : Nat) (fd : FuncData) (ps : List Str), FnOk X.prog X.w X.K X.mg X.base CX k a fd ps sp /\ Room k X.A /\ PySem.W.keepIn X.K (.ref a) = true /\ Binds X.K fd ps [] /\ Passes CX X E
def tCallV (W : Addr -> Sp -> XK -> Prop) (tv : TE) (t : TA) : TE := fun σ H Q => tv σ H fun f H1 => ∃ a sp E, f = .ref a /\ W a sp E /\ t σ H1 fun vs H2 => sp vs H2 Q E
theorem pe_callV {W : Addr -> Sp -> XK -> Prop} {tv : TE} (hv : PE X (.Name x p) tv) (hW : ∀ a sp E, W a sp E -> FnV X a sp E) (ha : PA X (e :: es) t)
  (he : starEach (e :: es) X.env = (false, eval e X.env) :: starEach es X.env := by rfl) (hpl : (backTo pos (starEach es X.env)).any (·.1) = false := by rfl) :
  PE X (.Call (.Name x p) (e :: es) [] pos) (tCallV W tv t) := by
 intro pins s σ H Q I h
 refine wpAny_Call_Name_kw (thn (hv pins s σ H _ I h) fun u s1 ⟨f, H1, I1, r1, a, sp, E, ef, hw, q⟩ => ?_)
 subst ef
 obtain rfl : u = Value.ref a := r1
 obtain ⟨CX, k, fd, ps, F, hr, hk, hb, hx⟩ := hW a sp E hw
 refine PySem.W.callWith_K (h₀ := X.base) I.ok.mod.kin hk (thn (ha pos pins s1 σ H1 _ I1 q) fun us s2 ⟨vs, H2, I2, r, q2⟩ => ⟨I2.kIn, ?_⟩) he hpl
 exact run_fn F hr hb .nil hx I2 r (by rw [List.append_nil]; exact q2)
theorem qe_callV {W : Addr -> Sp -> XK -> Prop} {tv : TE} (hv : QE X (.Name x p) tv) (hW : ∀ a sp E, W a sp E -> FnV X a sp E) (ha : QA X (e :: es) t)
  (he : starEach (e :: es) X.env = (false, eval e X.env) :: starEach es X.env := by rfl) (hpl : (backTo pos (starEach es X.env)).any (·.1) = false := by rfl) :
  QE X (.Call (.Name x p) (e :: es) [] pos) (tCallV W tv t) := ⟨pe_callV hv.p hW ha.p he hpl⟩
def EF : XK := fun _ _ _ => False
theorem passF {P : Program} {w : World} {X : Cx} : Passes (CXD P w) X EF := by
 intro pins σ H1 s1 e s2 I hx
 obtain ⟨x, C, T, dx, H2, rfl, ho, hb, un, hok, nx, nT, hx2, hT2, tr, hE⟩ := hx
 exact hE.elim
end
section
variable {X : Cx}
def rUp : V -> List V -> Hp -> VK -> Prop := fun x vs H Q => ∃ a : Str, x = .str a /\ vs = [] /\ (Txt.upper a).length ≤ 16777216 /\ Q (.str (Txt.upper a)) H
theorem mt_upper : MtR X "str.upper" rUp := by
 intro pins s σ H x vs v us Q I rx rv h
 obtain ⟨a, rfl, rfl, hl, q⟩ := h
 obtain ⟨t, rfl⟩ := rx
 cases rv
 have hz : decide ((Txt.upper a).length > sizeLine) = false := decide_eq_false fun z => absurd (Nat.lt_of_lt_of_le (show 16777216 < (Txt.upper a).length from z) hl) (Nat.lt_irrefl _)
 exact SC.upper hz ⟨.str _, H, I.tok _, ⟨_, rfl⟩, q⟩
theorem op_mul_str : OpR X (binaryOp .Mult) (fun x y H Q => ∃ (a : Str) (n : Int), x = .str a /\ y = .int n /\ MulOk a n /\ Q (.str (Txt.mul a n)) H) := by
 intro pins s σ H x y v u Q I rx ry h
 obtain ⟨a, n, rfl, rfl, hok, q⟩ := h
 obtain ⟨t, rfl⟩ := rx
 obtain ⟨t', rfl⟩ := ry
 exact SB.mul hok fun t' k => ⟨.str _, H, I.tok _, ⟨_, rfl⟩, q⟩
def tRevL (K : Fg) (te : TE) : TE := fun σ H Q => te σ H fun x H1 => ∃ a xs, x = .ref a /\ SqL K H1 a xs /\ ∀ p, H1 p = none -> Q (.ref p) (upd H1 p (.lst xs.reverse))
theorem pe_revL {e : Expr} {te : TE} {j : Nat} {p1 p2 p3 pos : Pos} (he : PE X e te) : PE X (.Subscript e (.Slice none none (some (.UnaryOp .USub (.Constant (.int 1) j p1) p2)) p3) pos) (tRevL X.K te) := by
 intro pins s σ H Q I h
 refine Subscript_ (thn (he pins s σ H _ I h) fun v s1 ⟨x, H1, I1, r1, q1⟩ => ?_)
 refine wpAny_Slice ?_
 rw [evalPart_none]
 refine wpAny_pure (wpAny_pure ?_)
 rw [evalPart_some]
 refine thn ((pe_un (X := X) un_neg (pe_int (i := 1))) pins s1 σ H1 (fun y H2 => y = .int (-1) /\ H2 = H1) I1 ⟨1, rfl, rfl, rfl⟩) fun u s2 ⟨y, H2, I2, r2, e1, e2⟩ => ?_
 subst e1 e2
 obtain ⟨t, rfl⟩ := r2
 obtain ⟨a, xs, rfl, hx, q⟩ := q1
 cases r1
 have I4 : Inv X pins σ H2 { s2 with heap := s2.heap.push { cls := .type "slice", data := .fields #[.none, .none, .int (-1) t] } } := I2.kept (t' := s2.toks) fun b ob q => Heap.get?_push_of_some _ q
 obtain ⟨its, r, ht, hz⟩ := I4.list hx
 have hlen := r.length
 show wpAny (model X.prog X.w) X.A (subscriptTail e (.Slice none none (some (.UnaryOp .USub (.Constant (.int 1) j p1) p2)) p3) (.ref a) (.ref s2.heap.objs.size)) (EP X pins σ Q) X.xe { s2 with heap := s2.heap.push { cls := .type "slice", data := .fields #[.none, .none, .int (-1) t] } }
 refine tail_any (ops := [.ref a, .ref s2.heap.objs.size]) ht.isList.typeIs slot_list_getitem.lookup (wpAny_getItem_list_slice ht.isList (Heap.IsSliceOf.new ..) .none .none (.int (-1) t) (by simp) ?_ (by rw [List.size_toArray] <;> omega)) (by with_unfolding_all rfl)
 rw [PySem.W.krv_pick]
 refine ⟨.ref _, _, I4.laid (t' := s2.toks) (o := .lst xs.reverse) (fun b ob q => Heap.get?_push_of_some _ q) (Nat.le_refl _) ?_, rfl, q _ (I4.hok.fresh (Nat.le_refl _))⟩
 exact ⟨by rw [List.length_reverse]; exact hz, _, 0, Vals.rev r, Heap.get?_push_size _ rfl⟩
theorem qe_revL {e : Expr} {te : TE} {j : Nat} {p1 p2 p3 pos : Pos} (he : QE X e te) : QE X (.Subscript e (.Slice none none (some (.UnaryOp .USub (.Constant (.int 1) j p1) p2)) p3) pos) (tRevL X.K te) := ⟨pe_revL he.p⟩
end
end B
namespace My
open PySem L2 B PyProof.Rows
theorem qsA {X : Cx} {pos : Pos} (i : Nat) {x : Str} {e : Expr} {te : TE} {pos' : Pos} (hN : X.N.Nodup) (he : QE X e te) (hi : X.N[i]? = some x := by rfl) (hx : Loc X.env.scope x := by first | exact Or.inl rfl | exact Or.inr rfl) (hs : swapsWith e (some (.Name x pos')) pos.line X.env = pure false := by rfl) (hf : X.fn x = true ∨ X.env.scope.names.lookup x = some .local := by first | exact .inl rfl | exact .inr rfl | assumption) : QS X (.Assign [.Name x pos'] e pos) (tAsg te (gName i)) := qs_set hN hi hx he hs hf
theorem scA {N P : List Str} {sc : Scope} (a : sc.kind = .function := by rfl) (b : sc.isCoroutine = false := by rfl) (c : sc.isGenerator = false := by rfl) (d : N.Nodup := by decide +kernel) (e : N.take P.length = P := by rfl) (f : ∀ x ∈ P, sc.names.lookup x = some .local ∨ sc.names.lookup x = some .cell := by decide +kernel) (g : ∀ y ∈ sc.names, y.2 ≠ .free := by decide +kernel) : FnScope N P sc := ⟨a, b, c, d, e, f, g⟩
theorem qcA {X : Cx} {k j : Nat} {f : Addr} {fd : FuncData} {ps : List Str} {sp : Sp} {x : Str} {p pos : Pos} {e : Expr} {es : List Expr} {t : TA} (F : FnOk X.prog X.w X.K X.mg X.base CX0 k f fd ps sp) (hr : Room j X.A) (hm : X.mg x = some (.ref f)) (hk : PySem.W.keepIn X.K (.ref f) = true) (hb : Binds X.K fd ps []) (ha : QA X (e :: es) t) (hl : k ≤ j := by decide) (hg : Gl X x := by rfl) (hdb : (x == ("__debug__" : Str)) = false := by decide) (he : starEach (e :: es) X.env = (false, eval e X.env) :: starEach es X.env := by rfl) (hpl : (backTo pos (starEach es X.env)).any (·.1) = false := by rfl) : QE X (.Call (.Name x p) (e :: es) [] pos) (tCall sp [] E0 t) := qe_call F (hr.mono hl) hg hm hk hb .nil pass0 ha hdb he hpl
theorem qxA {X : Cx} {a b : Expr} {ta tb : TE} {pos : Pos} {r : R2} (hr : IxR X r) (ha : QE X a ta) (hb : QE X b tb) (hs : PlainIx b := by exact fun _ _ => rfl) : QE X (.Subscript a b pos) (tOp r ta tb) := qe_ix hr ha hb hs
theorem bdA {K : Fg} {x qual : Str} {st : Stmt} {f : Addr} {fd : FuncData} {ps : List Str} (F : Fun K x qual st f fd) (h : ∀ (kV doc pm : Value) (an : Option Addr) (cdv ct : Value) (us : List Value), us.length = ps.length -> bindArgs (PySem.W.fnOf x qual (defArgs st) (defBody st) (defScope st) .none kV doc pm an cdv ct) ⟨us, []⟩ = pure (ps.zip us) := by
 intro _ _ _ _ _ _ us hl
 match us, hl with
 | [], h2 => first | rfl | (simp at h2)
 | [_], h2 => first | rfl | (simp at h2)
 | [_, _], h2 => first | rfl | (simp at h2)
 | [_, _, _], h2 => first | rfl | (simp at h2)
 | [_, _, _, _], h2 => first | rfl | (simp at h2)
 | _ :: _ :: _ :: _ :: _ :: _, h2 => simp at h2) : Binds K fd ps [] := F.binds h
def top (i : Nat) : Stmt := PySem.Challenge.pw_paceplan_k22_whole_written_and_read.main.body.getD i (.Pass ⟨0, 0, 0, 0⟩)
abbrev s_Q29 : Stmt := top 1
abbrev s_Q13 : Stmt := top 2
abbrev s_Q42 : Stmt := top 3
abbrev s_Q0 : Stmt := top 9
abbrev s_Q30 : Stmt := top 10
abbrev s_Q21 : Stmt := top 15
abbrev s_Q31 : Stmt := top 16
abbrev s_Q7 : Stmt := top 17
abbrev s_Q38 : Stmt := top 18
abbrev s_Q39 : Stmt := top 19
abbrev s_Q32 : Stmt := top 20
abbrev s_Q43 : Stmt := top 21
abbrev s_Q22 : Stmt := top 22
abbrev s_Q40 : Stmt := top 23
abbrev s_Q16 : Stmt := top 24
abbrev s_Q17 : Stmt := top 25
abbrev s_Q23 : Stmt := top 26
abbrev s_Q24 : Stmt := top 27
abbrev s_Q14 : Stmt := top 30
abbrev s_Q18 : Stmt := top 31
abbrev s_Q25 : Stmt := top 32
abbrev s_Q26 : Stmt := top 33
abbrev s_Q15 : Stmt := top 34
abbrev s_Q19 : Stmt := top 35
abbrev s_Q20 : Stmt := top 36
abbrev s_Q33 : Stmt := top 37
abbrev s_Q27 : Stmt := top 38
abbrev s_Q34 : Stmt := top 40
abbrev s_Q35 : Stmt := top 41
abbrev s_Q41 : Stmt := top 42
abbrev s_Q28 : Stmt := top 43
abbrev s_Q3 : Stmt := top 44
abbrev s_Q1 : Stmt := top 45
abbrev s_Q8 : Stmt := top 46
abbrev s_Q4 : Stmt := top 47
abbrev s_Q2 : Stmt := top 48
abbrev s_Q9 : Stmt := top 49
abbrev s_Q5 : Stmt := top 50
abbrev s_Q10 : Stmt := top 51
abbrev s_Q11 : Stmt := top 52
abbrev s_Q12 : Stmt := top 53
abbrev s_Q36 : Stmt := top 54
abbrev s_Q6 : Stmt := top 55
abbrev s_Q37 : Stmt := top 56
abbrev s_Q45 : Stmt := top 57
abbrev s_Q44 : Stmt := inClass (top 6) 0
structure Ad where
 a_Q29 : Addr
 d_Q29 : FuncData
 a_Q13 : Addr
 d_Q13 : FuncData
 a_Q42 : Addr
 d_Q42 : FuncData
 a_Q0 : Addr
 d_Q0 : FuncData
 a_Q30 : Addr
 d_Q30 : FuncData
 a_Q21 : Addr
 d_Q21 : FuncData
 a_Q31 : Addr
 d_Q31 : FuncData
 a_Q7 : Addr
 d_Q7 : FuncData
 a_Q38 : Addr
 d_Q38 : FuncData
 a_Q39 : Addr
 d_Q39 : FuncData
 a_Q32 : Addr
 d_Q32 : FuncData
 a_Q43 : Addr
 d_Q43 : FuncData
 a_Q22 : Addr
 d_Q22 : FuncData
 a_Q40 : Addr
 d_Q40 : FuncData
 a_Q16 : Addr
 d_Q16 : FuncData
 a_Q17 : Addr
 d_Q17 : FuncData
 a_Q23 : Addr
 d_Q23 : FuncData
 a_Q24 : Addr
 d_Q24 : FuncData
 a_Q14 : Addr
 d_Q14 : FuncData
 a_Q18 : Addr
 d_Q18 : FuncData
 a_Q25 : Addr
 d_Q25 : FuncData
 a_Q26 : Addr
 d_Q26 : FuncData
 a_Q15 : Addr
 d_Q15 : FuncData
 a_Q19 : Addr
 d_Q19 : FuncData
 a_Q20 : Addr
 d_Q20 : FuncData
 a_Q33 : Addr
 d_Q33 : FuncData
 a_Q27 : Addr
 d_Q27 : FuncData
 a_Q34 : Addr
 d_Q34 : FuncData
 a_Q35 : Addr
 d_Q35 : FuncData
 a_Q41 : Addr
 d_Q41 : FuncData
 a_Q28 : Addr
 d_Q28 : FuncData
 a_Q3 : Addr
 d_Q3 : FuncData
 a_Q1 : Addr
 d_Q1 : FuncData
 a_Q8 : Addr
 d_Q8 : FuncData
 a_Q4 : Addr
 d_Q4 : FuncData
 a_Q2 : Addr
 d_Q2 : FuncData
 a_Q9 : Addr
 d_Q9 : FuncData
 a_Q5 : Addr
 d_Q5 : FuncData
 a_Q10 : Addr
 d_Q10 : FuncData
 a_Q11 : Addr
 d_Q11 : FuncData
 a_Q12 : Addr
 d_Q12 : FuncData
 a_Q36 : Addr
 d_Q36 : FuncData
 a_Q6 : Addr
 d_Q6 : FuncData
 a_Q37 : Addr
 d_Q37 : FuncData
 a_Q45 : Addr
 d_Q45 : FuncData
 c_NOUGHT : Addr
 k_POWER : Tok
 k_TABLE : Tok
 k_MOST_FIGURES : Tok
 c_base : Addr
 c_Q44 : Addr
 a_Q44 : Addr
 d_Q44 : FuncData
structure Txt (K : Fg) (mg : Str -> Option Value) (t : Ad) : Prop where
 F_Q29 : Fun K "is_whole" "is_whole" s_Q29 t.a_Q29 t.d_Q29
 b_Q29 : Binds K t.d_Q29 ["thing"] []
 m_Q29 : mg "is_whole" = some (.ref t.a_Q29)
 F_Q13 : Fun K "is_tuple_of" "is_tuple_of" s_Q13 t.a_Q13 t.d_Q13
 b_Q13 : Binds K t.d_Q13 ["thing", "length"] []
 m_Q13 : mg "is_tuple_of" = some (.ref t.a_Q13)
 F_Q42 : Fun K "copied" "copied" s_Q42 t.a_Q42 t.d_Q42
 b_Q42 : Binds K t.d_Q42 ["thing"] []
 m_Q42 : mg "copied" = some (.ref t.a_Q42)
 F_Q0 : Fun K "greatest_divisor" "greatest_divisor" s_Q0 t.a_Q0 t.d_Q0
 b_Q0 : Binds K t.d_Q0 ["one", "other"] []
 m_Q0 : mg "greatest_divisor" = some (.ref t.a_Q0)
 F_Q30 : Fun K "is_ratio" "is_ratio" s_Q30 t.a_Q30 t.d_Q30
 b_Q30 : Binds K t.d_Q30 ["thing"] []
 m_Q30 : mg "is_ratio" = some (.ref t.a_Q30)
 F_Q21 : Fun K "number_of" "number_of" s_Q21 t.a_Q21 t.d_Q21
 b_Q21 : Binds K t.d_Q21 ["text"] []
 m_Q21 : mg "number_of" = some (.ref t.a_Q21)
 F_Q31 : Fun K "ratio_of" "ratio_of" s_Q31 t.a_Q31 t.d_Q31
 b_Q31 : Binds K t.d_Q31 ["text"] []
 m_Q31 : mg "ratio_of" = some (.ref t.a_Q31)
 F_Q7 : Fun K "whole_or_none" "whole_or_none" s_Q7 t.a_Q7 t.d_Q7
 b_Q7 : Binds K t.d_Q7 ["parts"] []
 m_Q7 : mg "whole_or_none" = some (.ref t.a_Q7)
 F_Q38 : Fun K "work_of" "work_of" s_Q38 t.a_Q38 t.d_Q38
 b_Q38 : Binds K t.d_Q38 ["words"] []
 m_Q38 : mg "work_of" = some (.ref t.a_Q38)
 F_Q39 : Fun K "lean_of" "lean_of" s_Q39 t.a_Q39 t.d_Q39
 b_Q39 : Binds K t.d_Q39 ["words"] []
 m_Q39 : mg "lean_of" = some (.ref t.a_Q39)
 F_Q32 : Fun K "piece_of" "piece_of" s_Q32 t.a_Q32 t.d_Q32
 b_Q32 : Binds K t.d_Q32 ["word"] []
 m_Q32 : mg "piece_of" = some (.ref t.a_Q32)
 F_Q43 : Fun K "row_of" "row_of" s_Q43 t.a_Q43 t.d_Q43
 b_Q43 : Binds K t.d_Q43 ["word"] []
 m_Q43 : mg "row_of" = some (.ref t.a_Q43)
 F_Q22 : Fun K "pieces_of" "pieces_of" s_Q22 t.a_Q22 t.d_Q22
 b_Q22 : Binds K t.d_Q22 ["words"] []
 m_Q22 : mg "pieces_of" = some (.ref t.a_Q22)
 F_Q40 : Fun K "rule_of" "rule_of" s_Q40 t.a_Q40 t.d_Q40
 b_Q40 : Binds K t.d_Q40 ["words"] []
 m_Q40 : mg "rule_of" = some (.ref t.a_Q40)
 F_Q16 : Fun K "read_ratio" "read_ratio" s_Q16 t.a_Q16 t.d_Q16
 b_Q16 : Binds K t.d_Q16 ["text"] []
 m_Q16 : mg "read_ratio" = some (.ref t.a_Q16)
 F_Q17 : Fun K "read_sheet" "read_sheet" s_Q17 t.a_Q17 t.d_Q17
 b_Q17 : Binds K t.d_Q17 ["lines"] []
 m_Q17 : mg "read_sheet" = some (.ref t.a_Q17)
 F_Q23 : Fun K "read_plan" "read_plan" s_Q23 t.a_Q23 t.d_Q23
 b_Q23 : Binds K t.d_Q23 ["lines"] []
 m_Q23 : mg "read_plan" = some (.ref t.a_Q23)
 F_Q24 : Fun K "read_rule" "read_rule" s_Q24 t.a_Q24 t.d_Q24
 b_Q24 : Binds K t.d_Q24 ["lines"] []
 m_Q24 : mg "read_rule" = some (.ref t.a_Q24)
 F_Q14 : Fun K "number_text" "number_text" s_Q14 t.a_Q14 t.d_Q14
 b_Q14 : Binds K t.d_Q14 ["number"] []
 m_Q14 : mg "number_text" = some (.ref t.a_Q14)
 F_Q18 : Fun K "ratio_text" "ratio_text" s_Q18 t.a_Q18 t.d_Q18
 b_Q18 : Binds K t.d_Q18 ["one"] []
 m_Q18 : mg "ratio_text" = some (.ref t.a_Q18)
 F_Q25 : Fun K "work_text" "work_text" s_Q25 t.a_Q25 t.d_Q25
 b_Q25 : Binds K t.d_Q25 ["work"] []
 m_Q25 : mg "work_text" = some (.ref t.a_Q25)
 F_Q26 : Fun K "lean_text" "lean_text" s_Q26 t.a_Q26 t.d_Q26
 b_Q26 : Binds K t.d_Q26 ["lean"] []
 m_Q26 : mg "lean_text" = some (.ref t.a_Q26)
 F_Q15 : Fun K "sheet_lines" "sheet_lines" s_Q15 t.a_Q15 t.d_Q15
 b_Q15 : Binds K t.d_Q15 ["sheet"] []
 m_Q15 : mg "sheet_lines" = some (.ref t.a_Q15)
 F_Q19 : Fun K "piece_text" "piece_text" s_Q19 t.a_Q19 t.d_Q19
 b_Q19 : Binds K t.d_Q19 ["piece"] []
 m_Q19 : mg "piece_text" = some (.ref t.a_Q19)
 F_Q20 : Fun K "plan_lines" "plan_lines" s_Q20 t.a_Q20 t.d_Q20
 b_Q20 : Binds K t.d_Q20 ["plan"] []
 m_Q20 : mg "plan_lines" = some (.ref t.a_Q20)
 F_Q33 : Fun K "row_text" "row_text" s_Q33 t.a_Q33 t.d_Q33
 b_Q33 : Binds K t.d_Q33 ["row"] []
 m_Q33 : mg "row_text" = some (.ref t.a_Q33)
 F_Q27 : Fun K "rule_text" "rule_text" s_Q27 t.a_Q27 t.d_Q27
 b_Q27 : Binds K t.d_Q27 ["rule"] []
 m_Q27 : mg "rule_text" = some (.ref t.a_Q27)
 F_Q34 : Fun K "_law_tape" "_law_tape" s_Q34 t.a_Q34 t.d_Q34
 b_Q34 : Binds K t.d_Q34 ["_law_script"] []
 m_Q34 : mg "_law_tape" = some (.ref t.a_Q34)
 F_Q35 : Fun K "_law_draw" "_law_draw" s_Q35 t.a_Q35 t.d_Q35
 b_Q35 : Binds K t.d_Q35 ["_law_tape_here", "_law_many"] []
 m_Q35 : mg "_law_draw" = some (.ref t.a_Q35)
 F_Q41 : Fun K "_law_gcd" "_law_gcd" s_Q41 t.a_Q41 t.d_Q41
 b_Q41 : Binds K t.d_Q41 ["_law_one", "_law_other"] []
 m_Q41 : mg "_law_gcd" = some (.ref t.a_Q41)
 F_Q28 : Fun K "_law_ratio" "_law_ratio" s_Q28 t.a_Q28 t.d_Q28
 b_Q28 : Binds K t.d_Q28 ["_law_top", "_law_bottom"] []
 m_Q28 : mg "_law_ratio" = some (.ref t.a_Q28)
 F_Q3 : Fun K "_law_ratio_text" "_law_ratio_text" s_Q3 t.a_Q3 t.d_Q3
 b_Q3 : Binds K t.d_Q3 ["_law_one"] []
 m_Q3 : mg "_law_ratio_text" = some (.ref t.a_Q3)
 F_Q1 : Fun K "_law_sheet_lines" "_law_sheet_lines" s_Q1 t.a_Q1 t.d_Q1
 b_Q1 : Binds K t.d_Q1 ["_law_sheet"] []
 m_Q1 : mg "_law_sheet_lines" = some (.ref t.a_Q1)
 F_Q8 : Fun K "_law_rule_line" "_law_rule_line" s_Q8 t.a_Q8 t.d_Q8
 b_Q8 : Binds K t.d_Q8 ["_law_rule"] []
 m_Q8 : mg "_law_rule_line" = some (.ref t.a_Q8)
 F_Q4 : Fun K "_law_plan_lines" "_law_plan_lines" s_Q4 t.a_Q4 t.d_Q4
 b_Q4 : Binds K t.d_Q4 ["_law_plan"] []
 m_Q4 : mg "_law_plan_lines" = some (.ref t.a_Q4)
 F_Q2 : Fun K "_law_some_number" "_law_some_number" s_Q2 t.a_Q2 t.d_Q2
 b_Q2 : Binds K t.d_Q2 ["_law_tape_here"] []
 m_Q2 : mg "_law_some_number" = some (.ref t.a_Q2)
 F_Q9 : Fun K "_law_some_part" "_law_some_part" s_Q9 t.a_Q9 t.d_Q9
 b_Q9 : Binds K t.d_Q9 ["_law_tape_here"] []
 m_Q9 : mg "_law_some_part" = some (.ref t.a_Q9)
 F_Q5 : Fun K "_law_some_sheet" "_law_some_sheet" s_Q5 t.a_Q5 t.d_Q5
 b_Q5 : Binds K t.d_Q5 ["_law_tape_here"] []
 m_Q5 : mg "_law_some_sheet" = some (.ref t.a_Q5)
 F_Q10 : Fun K "_law_some_rule" "_law_some_rule" s_Q10 t.a_Q10 t.d_Q10
 b_Q10 : Binds K t.d_Q10 ["_law_tape_here"] []
 m_Q10 : mg "_law_some_rule" = some (.ref t.a_Q10)
 F_Q11 : Fun K "_law_some_plan" "_law_some_plan" s_Q11 t.a_Q11 t.d_Q11
 b_Q11 : Binds K t.d_Q11 ["_law_tape_here"] []
 m_Q11 : mg "_law_some_plan" = some (.ref t.a_Q11)
 F_Q12 : Fun K "_law_bent_line" "_law_bent_line" s_Q12 t.a_Q12 t.d_Q12
 b_Q12 : Binds K t.d_Q12 ["_law_tape_here", "_law_line"] []
 m_Q12 : mg "_law_bent_line" = some (.ref t.a_Q12)
 F_Q36 : Fun K "_law_bent" "_law_bent" s_Q36 t.a_Q36 t.d_Q36
 b_Q36 : Binds K t.d_Q36 ["_law_tape_here", "_law_lines"] []
 m_Q36 : mg "_law_bent" = some (.ref t.a_Q36)
 F_Q6 : Fun K "_law_rule_lines" "_law_rule_lines" s_Q6 t.a_Q6 t.d_Q6
 b_Q6 : Binds K t.d_Q6 ["_law_rule"] []
 m_Q6 : mg "_law_rule_lines" = some (.ref t.a_Q6)
 F_Q37 : Fun K "_law_read" "_law_read" s_Q37 t.a_Q37 t.d_Q37
 b_Q37 : Binds K t.d_Q37 ["_law_read_one", "_law_lines"] []
 m_Q37 : mg "_law_read" = some (.ref t.a_Q37)
 F_Q45 : Fun K "law" "law" s_Q45 t.a_Q45 t.d_Q45
 b_Q45 : Binds K t.d_Q45 ["_law_script"] []
 m_Q45 : mg "law" = some (.ref t.a_Q45)
 m_NOUGHT : mg "NOUGHT" = some (.ref t.c_NOUGHT)
 q_NOUGHT : ∀ H, SqT K H t.c_NOUGHT [.int (0), .int (1)]
 m_POWER : mg "POWER" = some (.str "power" t.k_POWER)
 m_TABLE : mg "TABLE" = some (.str "table" t.k_TABLE)
 m_MOST_FIGURES : mg "MOST_FIGURES" = some (.int (40) t.k_MOST_FIGURES)
 X_Q44 : XC K t.c_Q44 t.a_Q44 (.ref t.c_base :: vMro)
 F_Q44 : Fun K "__init__" "NoText.__init__" s_Q44 t.a_Q44 t.d_Q44
 b_Q44 : Binds K t.d_Q44 ["self", "at"] []
 m_Q44 : mg "NoText" = some (.ref t.c_Q44)
 n_Q44_at : NoAttr K t.c_Q44 "at"
 g_Q44 : GetX K t.c_Q44
 x_catch : PySem.W.exmOne K (.ref t.c_Q44) (.ref t.c_Q44) = some true
 z_abs : mg "abs" = none
 z_all : mg "all" = none
 z_bool : mg "bool" = none
 z_enumerate : mg "enumerate" = none
 z_int : mg "int" = none
 z_isinstance : mg "isinstance" = none
 z_len : mg "len" = none
 z_list : mg "list" = none
 z_range : mg "range" = none
 z_repr : mg "repr" = none
 z_reversed : mg "reversed" = none
 z_str : mg "str" = none
 z_tuple : mg "tuple" = none
def sp_greatest_divisor (_ : Fg) : Sp := fun vs H Q _ => ∃ a b : Int, vs = [.int a, .int b] /\ Q (.int (Int.gcd a b : Nat)) H
def sp_law_gcd (_ : Fg) : Sp := fun vs H Q _ => ∃ a b : Int, vs = [.int a, .int b] /\ 0 ≤ a /\ 0 ≤ b /\ Q (.int (Int.gcd a b : Nat)) H
abbrev sp_law_tape := sp_tape
def sp_law_draw (_ : Fg) : Sp := sp_draw
def newR (H : Hp) (Q : VK) (r : R) : Prop := ∀ p, H p = none -> Q (.ref p) (upd H p (.tup [.int r.1, .int r.2]))
def toR (K : Fg) (H : Hp) (Q : VK) (r : R) : Prop := ∀ (v : V) (H' : Hp), Same H H' -> RV K H' v r -> Q v H'
def sp_ratio (_ : Fg) : Sp := fun vs H Q _ => ∃ a b : Int, vs = [.int a, .int b] /\ b ≠ 0 /\ b.natAbs < 2 ^ 4000 /\ newR H Q (mkS a b)
abbrev sp_law_ratio := sp_ratio
def sp_is_whole (K : Fg) : Sp := fun vs H Q _ => ∃ (v : V) (d : PyData), vs = [v] /\ Deep K H v d /\ Q (.bl (wholeD d)) H
def sp_is_tuple_of (K : Fg) : Sp := fun vs H Q _ => ∃ (v : V) (d : PyData) (m : Nat), vs = [v, .int m] /\ Deep K H v d /\ Q (.bl (tupD m d)) H
def sp_is_ratio (K : Fg) : Sp := fun vs H Q _ => ∃ (v : V) (d : PyData), vs = [v] /\ Deep K H v d /\ Q (.bl (ratD d)) H
theorem wholeD_int {d : PyData} (h : wholeD d = true) : ∃ i, d = .int i := by
 cases d with
 | int i => exact ⟨i, rfl⟩
 | _ => cases h
theorem rat_x {x y : PyData} (h : wholeD x = false) : ratD (.tuple [x, y]) = false := by
 cases x with
 | int i => cases h
 | _ => rfl
theorem rat_y {x y : PyData} (h : wholeD y = false) : ratD (.tuple [x, y]) = false := by
 cases y with
 | int i => cases h
 | _ => cases x <;> rfl
structure Kp (rows : List Addr) (H H' : Hp) : Prop where
 keep : ∀ b o, b ∉ rows -> H b = some o -> H' b = some o
 ls : ∀ r ∈ rows, ∃ xs, H r = some (.lst xs)
 ls' : ∀ r ∈ rows, ∃ xs, H' r = some (.lst xs)
theorem Kp.trans {rows : List Addr} {H H1 H2 : Hp} (a : Kp rows H H1) (b : Kp rows H1 H2) : Kp rows H H2 := ⟨fun c o n e => b.keep c o n (a.keep c o n e), a.ls, b.ls'⟩
theorem Kp.same {rows : List Addr} {H H' : Hp} (s : Same H H') (h : ∀ r ∈ rows, ∃ xs, H r = some (.lst xs)) : Kp rows H H' := ⟨fun c o _ e => s _ _ e, h, fun r m => let ⟨xs, e⟩ := h r m; ⟨xs, s _ _ e⟩⟩
theorem Kp.up {rows : List Addr} {H : Hp} {r : Addr} (m : r ∈ rows) (h : ∀ r ∈ rows, ∃ xs, H r = some (.lst xs)) (ys : List V) : Kp rows H (upd H r (.lst ys)) := ⟨fun c o n e => by rw [upd_ne (show c ≠ r from fun z => n (by rw [z]; exact m))]; exact e, h, fun q mq => by
 by_cases c : q = r
 ·subst c; exact ⟨_, upd_same⟩
 ·rw [upd_ne c]; exact h q mq⟩
theorem Tst.kp {K : Fg} {rows : List Addr} {H H' : Hp} (k : Kp rows H H') : Tst K H H' := fun p xs h => by
 rcases h with h | h
 ·have n : p ∉ rows := fun m => by
   obtain ⟨ys, e⟩ := k.ls p m
   rcases h with h | ⟨o, h⟩ <;> rw [e] at h <;> cases h
  rcases h with h | ⟨o, h⟩
  ·exact .inl (.inl (k.keep _ _ n h))
  ·exact .inl (.inr ⟨o, k.keep _ _ n h⟩)
 ·exact .inr h
theorem len_rat {r : R} (h : Rg r) : (ratT r).length ≤ 81 := by
 obtain ⟨a, ha⟩ := Int.eq_ofNat_of_zero_le h.nn
 obtain ⟨b, hb⟩ := Int.eq_ofNat_of_zero_le (Int.le_of_lt h.pos)
 have t40 := h.t40
 have b40 := h.b40
 have a40 : (numT (a : Int)).length ≤ 40 := (num_len (by omega)).2
 have b40' : (numT (b : Int)).length ≤ 40 := (num_len (by omega)).2
 unfold ratT
 rw [ha, hb]
 split
 ·omega
 ·rw [Str.length_append, Str.length_append, show (Str.ofString "/").length = 1 from rfl]; omega
abbrev NG (n : Int) : Prop := 0 ≤ n /\ n < 10 ^ 40
abbrev WD := Int × Int × R
def WorkV (K : Fg) (H : Hp) (v : V) (w : WD) : Prop := ∃ p q, v = .ref p /\ SqT K H p [.int w.1, .int w.2.1, q] /\ RV K H q w.2.2
theorem WorkV.mono {K : Fg} {H H' : Hp} {v : V} {w : WD} (h : WorkV K H v w) (t : Tst K H H') : WorkV K H' v w := let ⟨p, q, a, b, c⟩ := h; ⟨p, q, a, t _ _ b, c.mono t⟩
def PieceV (K : Fg) (H : Hp) (v : V) (w : Int × R) : Prop := ∃ p q, v = .ref p /\ SqT K H p [.int w.1, q] /\ RV K H q w.2
theorem PieceV.mono {K : Fg} {H H' : Hp} {v : V} {w : Int × R} (h : PieceV K H v w) (t : Tst K H H') : PieceV K H' v w := let ⟨p, q, a, b, c⟩ := h; ⟨p, q, a, t _ _ b, c.mono t⟩
def RowV (K : Fg) (H : Hp) (v : V) (w : R × R) : Prop := ∃ p q1 q2, v = .ref p /\ SqT K H p [q1, q2] /\ RV K H q1 w.1 /\ RV K H q2 w.2
theorem RowV.mono {K : Fg} {H H' : Hp} {v : V} {w : R × R} (h : RowV K H v w) (t : Tst K H H') : RowV K H' v w := let ⟨p, q, q', a, b, c, d⟩ := h; ⟨p, q, q', a, t _ _ b, c.mono t, d.mono t⟩
def WOk (w : WD) : Prop := NG w.1 /\ NG w.2.1 /\ Rg w.2.2
def LOk (l : R) : Prop := NG l.1 /\ NG l.2
def POk (w : Int × R) : Prop := NG w.1 /\ Rg w.2
def ROk (w : R × R) : Prop := Rg w.1 /\ Rg w.2
def workW (w : WD) : List Str := [Str.ofString "work", numT w.1, numT w.2.1, ratT w.2.2]
def leanW (l : R) : List Str := [Str.ofString "lean", numT l.1, numT l.2]
def pieceT (w : Int × R) : Str := numT w.1 ++ Str.ofString ":" ++ ratT w.2
def rowT (w : R × R) : Str := ratT w.1 ++ Str.ofString ":" ++ ratT w.2
def dPi (w : Int × R) : PyData := .tuple [.int w.1, dR w.2]
def dRo (w : R × R) : PyData := .tuple [dR w.1, dR w.2]
theorem dPi_depth (w : Int × R) : (dPi w).depth ≤ 32 := by show max 0 (max (max 0 (max 0 0) + 1) 0) + 1 ≤ 32; decide
theorem dRo_depth2 (w : R × R) : (dRo w).depth ≤ 2 := by show max (max 0 (max 0 0) + 1) (max (max 0 (max 0 0) + 1) 0) + 1 ≤ 2; decide
theorem dRo_depth (w : R × R) : (dRo w).depth ≤ 32 := Nat.le_trans (dRo_depth2 w) (by decide)
theorem PieceV.deep {K : Fg} {H : Hp} {v : V} {w : Int × R} (h : PieceV K H v w) : Deep K H v (dPi w) := by
 obtain ⟨p, q, rfl, s, r⟩ := h
 exact .tup s (.cons (.int _) (.cons r.deep .nil))
theorem RowV.deep {K : Fg} {H : Hp} {v : V} {w : R × R} (h : RowV K H v w) : Deep K H v (dRo w) := by
 obtain ⟨p, q, q', rfl, s, r, r'⟩ := h
 exact .tup s (.cons r.deep (.cons r'.deep .nil))
theorem cut_one (x : Str) (ws : List Str) : cutV ((x :: ws).map V.str) (some 1) none = ws.map V.str := by
 have := cut_tail (xs := (x :: ws).map V.str) (Nat.succ_le_succ (Nat.zero_le _))
 rw [this]
 rfl
theorem lay_map {α : Type} {f : α -> PyData} {l : List α} (h : ∀ w ∈ l, (f w).canLay0 = true) : (PyData.tuple (l.map f)).canLay0 = true := by
 show PyData.canLayAll0 (l.map f) = true
 induction l with
 | nil => rfl
 | cons a l ih =>
  show ((f a).canLay0 && PyData.canLayAll0 (l.map f)) = true
  rw [h a List.mem_cons_self, ih fun w hw => h w (List.mem_cons_of_mem _ hw)]
  rfl
theorem dep_map {α : Type} {k : Nat} {f : α -> PyData} {l : List α} (h : ∀ w ∈ l, (f w).depth ≤ k) : (PyData.tuple (l.map f)).depth ≤ k + 1 := by
 show PyData.depthAll (l.map f) + 1 ≤ k + 1
 refine Nat.succ_le_succ ?_
 induction l with
 | nil => exact Nat.zero_le _
 | cons a l ih =>
  show max (f a).depth (PyData.depthAll (l.map f)) ≤ k
  have := h a List.mem_cons_self
  have := ih fun w hw => h w (List.mem_cons_of_mem _ hw)
  omega
def someD : PyData -> Bool
 | .none => false
 | _ => true
def PcsV (K : Fg) (H : Hp) (v : V) (ps : List (Int × R)) : Prop := ∃ p xs, v = .ref p /\ SqT K H p xs /\ Als (PieceV K H) xs ps
theorem PcsV.mono {K : Fg} {H H' : Hp} {v : V} {ps : List (Int × R)} (h : PcsV K H v ps) (t : Tst K H H') : PcsV K H' v ps := let ⟨p, xs, e, s, a⟩ := h; ⟨p, xs, e, t _ _ s, a.mono fun _ _ q => q.mono t⟩
inductive RuD where
 | pow : Int -> RuD
 | tab : List (R × R) -> RuD
def RuOk : RuD -> Prop
 | .pow n => NG n
 | .tab rs => (∀ w ∈ rs, ROk w) /\ rs.length ≤ 100
def ruW : RuD -> List Str
 | .pow n => [Str.ofString "power", numT n]
 | .tab rs => Str.ofString "table" :: rs.map rowT
def RuV (K : Fg) (H : Hp) (v : V) : RuD -> Prop
 | .pow n => ∃ p, v = .ref p /\ SqT K H p [.str (Str.ofString "power"), .int n]
 | .tab rs => ∃ p q xs, v = .ref p /\ SqT K H p [.str (Str.ofString "table"), .ref q] /\ SqT K H q xs /\ Als (RowV K H) xs rs
theorem RuV.mono {K : Fg} {H H' : Hp} {v : V} : ∀ {r : RuD}, RuV K H v r -> Tst K H H' -> RuV K H' v r
 | .pow _, ⟨p, e, s⟩, t => ⟨p, e, t _ _ s⟩
 | .tab _, ⟨p, q, xs, e, s, s2, a⟩, t => ⟨p, q, xs, e, t _ _ s, t _ _ s2, a.mono fun _ _ z => z.mono t⟩
def sgT (r : R) : Str := ratT r
theorem minus_rest (x : Str) : Txt.slice (Str.ofString "-" ++ x) (some 1) none = x := by
 have e := eq_of_beq (PyProof.Rows.slice_closes_fromL (x := Str.ofString "-" ++ x) (i := 1) (b := (Str.ofString "-" ++ x).length) (by decide) (by rw [Str.length_append, show (Str.ofString "-").length = 1 from rfl]; omega) rfl)
 rw [e]
 have e2 : (Str.ofString "-" ++ x).cps.toList = 45 :: cpl x := cpl_app _ _
 have e3 : (((Str.ofString "-" ++ x).length : Int) - 1).toNat = (cpl x).length := by rw [Str.length_append, show (Str.ofString "-").length = 1 from rfl, ← len_cpl]; omega
 rw [e2, e3]
 apply cpl_inj
 show ((((45 :: cpl x).drop (1 : Int).toNat)).take (cpl x).length).toArray.toList = _
 rw [show ((45 :: cpl x).drop (1 : Int).toNat) = cpl x from rfl, List.take_length]
def ShV (K : Fg) (H : Hp) (v : V) (ws : List WD) (es : List R) : Prop := ∃ p q1 q2 xs ys, v = .ref p /\ SqT K H p [.ref q1, .ref q2] /\ SqT K H q1 xs /\ SqT K H q2 ys /\ Als (WorkV K H) xs ws /\ Als (RV K H) ys es
abbrev joinS (ws : List Str) : Str := Str.join (Str.ofString " ") ws
def shL (ws : List WD) (es : List R) : List Str := ws.map (fun w => joinS (workW w)) ++ es.map fun e => joinS (leanW e)
def PlV (K : Fg) (H : Hp) (v : V) (pl : List (List (Int × R))) : Prop := ∃ p xs, v = .ref p /\ SqT K H p xs /\ Als (PcsV K H) xs pl
def turnW (ps : List (Int × R)) : List Str := Str.ofString "turn" :: ps.map pieceT
def plL (pl : List (List (Int × R))) : List Str := pl.map fun ps => joinS (turnW ps)
def PlOk (pl : List (List (Int × R))) : Prop := pl.length ≤ 100 /\ ∀ ps ∈ pl, ps.length ≤ 100 /\ ∀ w ∈ ps, POk w
theorem join_len {n : Nat} : ∀ {ws : List Str}, (∀ w ∈ ws, w.length ≤ n) -> (joinS ws).length ≤ (n + 1) * ws.length
 | [], _ => Nat.zero_le _
 | [x], h => by
  have := h x List.mem_cons_self
  show x.length ≤ (n + 1) * 1
  omega
 | x :: y :: r, h => by
  have ih := join_len (n := n) (ws := y :: r) fun w hw => h w (List.mem_cons_of_mem _ hw)
  have hx := h x List.mem_cons_self
  show (x ++ Str.ofString " " ++ joinS (y :: r)).length ≤ _
  rw [Str.length_append, Str.length_append, show (Str.ofString " ").length = 1 from rfl, List.length_cons (as := y :: r), Nat.mul_succ]
  omega
theorem len_num' {n : Int} (h : NG n) : (numT n).length ≤ 40 := by
 obtain ⟨a, rfl⟩ := Int.eq_ofNat_of_zero_le h.1
 have := h.2
 exact (num_len (by omega)).2
theorem num_free' {n : Int} {c : Nat} (h : NG n) (hc : c < 48 ∨ 57 < c) : c ∉ cpl (numT n) := by
 obtain ⟨a, rfl⟩ := Int.eq_ofNat_of_zero_le h.1
 exact num_free hc
theorem piece_len {w : Int × R} (h : POk w) : (pieceT w).length ≤ 130 := by
 have l1 := len_num' h.1
 have l2 := len_rat h.2
 unfold pieceT
 rw [Str.length_append, Str.length_append, show (Str.ofString ":").length = 1 from rfl]
 omega
theorem row_len {w : R × R} (h : ROk w) : (rowT w).length ≤ 200 := by
 have l1 := len_rat h.1
 have l2 := len_rat h.2
 unfold rowT
 rw [Str.length_append, Str.length_append, show (Str.ofString ":").length = 1 from rfl]
 omega
theorem piece_free {w : Int × R} (h : POk w) : 32 ∉ cpl (pieceT w) := by
 unfold pieceT
 rw [cpl_app, cpl_app]
 intro m
 rcases List.mem_append.mp m with m | m
 ·rcases List.mem_append.mp m with m | m
  ·exact num_free' h.1 (by decide) m
  ·exact absurd (show 32 ∈ [58] from m) (by decide)
 ·exact rat_free h.2 (by decide) m
theorem row_free {w : R × R} (h : ROk w) : 32 ∉ cpl (rowT w) := by
 unfold rowT
 rw [cpl_app, cpl_app]
 intro m
 rcases List.mem_append.mp m with m | m
 ·rcases List.mem_append.mp m with m | m
  ·exact rat_free h.1 (by decide) m
  ·exact absurd (show 32 ∈ [58] from m) (by decide)
 ·exact rat_free h.2 (by decide) m
abbrev sp_law := sp_lawT
abbrev NB (i : Int) : Prop := i.natAbs < 2 ^ 140
theorem NG.nb {n : Int} (h : NG n) : NB n := by
 have := h.1
 have := h.2
 show n.natAbs < 2 ^ 140
 omega
theorem _root_.B.Rg.nb1 {r : R} (h : Rg r) : NB r.1 := NG.nb ⟨h.nn, h.t40⟩
theorem _root_.B.Rg.nb2 {r : R} (h : Rg r) : NB r.2 := NG.nb ⟨Int.le_of_lt h.pos, h.b40⟩
theorem len_num'' {n : Int} (h : NG n) : (Str.ofString (toString n)).length ≤ 40 := len_num' h
theorem num200' {i : Int} (h : NB i) : (Str.ofString (toString i)).length ≤ 200 := (Tx.num h).len
def sp_law_ratio_text (K : Fg) : Sp := fun vs H Q _ => ∃ (v : V) (r : R), vs = [v] /\ RV K H v r /\ NB r.1 /\ NB r.2 /\ Q (.str (ratT r)) H
def sp_law_sheet_lines (K : Fg) : Sp := fun vs H Q _ => ∃ (v : V) (ws : List WD) (es : List R), vs = [v] /\ ShV K H v ws es /\ (∀ w ∈ ws, WOk w) /\ (∀ e ∈ es, LOk e) /\ ws.length ≤ 100 /\ es.length ≤ 100 /\ ∀ (l : Addr) (H' : Hp), Same H H' -> H' l = some (.lst ((shL ws es).map V.str)) -> Q (.ref l) H'
def sp_law_rule_line (K : Fg) : Sp := fun vs H Q _ => ∃ (v : V) (r : RuD), vs = [v] /\ RuV K H v r /\ RuOk r /\ ∀ H', Same H H' -> Q (.str (joinS (ruW r))) H'
def sp_law_plan_lines (K : Fg) : Sp := fun vs H Q _ => ∃ (v : V) (pl : List (List (Int × R))), vs = [v] /\ PlV K H v pl /\ PlOk pl /\ ∀ (l : Addr) (H' : Hp), Same H H' -> H' l = some (.lst ((plL pl).map V.str)) -> Q (.ref l) H'
def sp_law_some_number (_ : Fg) : Sp := fun vs H Q _ => ∃ t s : Addr, vs = [.ref t] /\ Tape H t s /\ ∀ (n : Int) (H' : Hp), NG n -> Step t H H' -> Tape H' t s -> Q (.int n) H'
def sp_law_some_part (K : Fg) : Sp := fun vs H Q _ => ∃ t s : Addr, vs = [.ref t] /\ Tape H t s /\ ∀ (v : V) (r : R) (H' : Hp), Rg r -> Step t H H' -> Tape H' t s -> RV K H' v r -> Q v H'
def sp_law_some_rule (K : Fg) : Sp := fun vs H Q _ => ∃ t s : Addr, vs = [.ref t] /\ Tape H t s /\ ∀ (v : V) (r : RuD) (H' : Hp), RuOk r -> Step t H H' -> Tape H' t s -> RuV K H' v r -> Q v H'
def sp_law_some_plan (K : Fg) : Sp := fun vs H Q _ => ∃ t s : Addr, vs = [.ref t] /\ Tape H t s /\ ∀ (v : V) (pl : List (List (Int × R))) (H' : Hp), PlOk pl -> pl.length ≤ 50 -> (∀ ps ∈ pl, ps.length ≤ 4) -> Step t H H' -> Tape H' t s -> PlV K H' v pl -> Q v H'
theorem dig_tx (n : Nat) : ∀ c ∈ cpl (numT (n : Int)), c < 16 ^ 8 := fun c hc => by have := num_dig n c hc; omega
theorem num_tx {n : Int} (h : NG n) : Tx 40 (numT n) := by
 obtain ⟨a, rfl⟩ := Int.eq_ofNat_of_zero_le h.1
 have := h.2
 exact ⟨(num_len (by omega)).2, dig_tx a⟩
theorem rat_tx {r : R} (h : Rg r) : Tx 81 (ratT r) := by
 have h1 : NG r.1 := ⟨h.nn, h.t40⟩
 have h2 : NG r.2 := ⟨Int.le_of_lt h.pos, h.b40⟩
 unfold ratT
 split
 ·exact (num_tx h1).mono (by decide)
 ·exact (((num_tx h1).app (Tx.lit (n := 1))).app (num_tx h2)).mono (by decide)
theorem row_tx {w : R × R} (h : ROk w) : Tx 200 (rowT w) := (((rat_tx h.1).app (Tx.lit (n := 1))).app (rat_tx h.2)).mono (by decide)
theorem piece_tx {w : Int × R} (h : POk w) : Tx 200 (pieceT w) := (((num_tx h.1).app (Tx.lit (n := 1))).app (rat_tx h.2)).mono (by decide)
theorem mk_rg {a b : Int} (ha : NG a) (hb : 0 < b) (h4 : b < 10 ^ 40) : Rg (mkR a b) := by
 have rd := mkR_red (a := a) hb
 have h1 := Int.ediv_le_self (Int.gcd a b : Int) ha.1
 have h2 := Int.ediv_le_self (Int.gcd a b : Int) (Int.le_of_lt hb)
 refine ⟨mkR_nn ha.1, rd.pos, rd.cop, ?_, ?_⟩
 ·have : (mkR a b).1 ≤ a := h1
  have := ha.2
  omega
 ·have : (mkR a b).2 ≤ b := h2
  omega
theorem big_of {i : Int} {n : Nat} (h : i.natAbs < 2 ^ n) (hn : n ≤ 4000) : i.natAbs < 2 ^ 4000 := Nat.lt_of_lt_of_le h (Nat.pow_le_pow_right (by decide) hn)
theorem op_powK {X : Cx} {i j z : Int} (h : i ^ j.toNat = z) (c : CPow i j) : OpR X (binaryOp .Pow) (fun x y H Q => x = .int i /\ y = .int j /\ Q (.int z) H) := by
 intro pins s σ H x y v u Q I rx ry q
 obtain ⟨rfl, rfl, q⟩ := q
 exact op_pow pins s σ H _ _ v u Q I rx ry ⟨i, j, rfl, rfl, c, by rw [← h] at q; exact q⟩
def dWo (w : WD) : PyData := .tuple [.int w.1, .int w.2.1, dR w.2.2]
def dSh (ws : List WD) (es : List R) : PyData := .tuple [.tuple (ws.map dWo), .tuple (es.map dR)]
def dRu : RuD -> PyData
 | .pow n => .tuple [.str (Str.ofString "power"), .int n]
 | .tab rs => .tuple [.str (Str.ofString "table"), .tuple (rs.map dRo)]
def dTu (ps : List (Int × R)) : PyData := .tuple (ps.map dPi)
def dPn (pl : List (List (Int × R))) : PyData := .tuple (pl.map dTu)
theorem WorkV.deep {K : Fg} {H : Hp} {v : V} {w : WD} (h : WorkV K H v w) : Deep K H v (dWo w) := by
 obtain ⟨p, q, rfl, s, r⟩ := h
 exact .tup s (.cons (.int _) (.cons (.int _) (.cons r.deep .nil)))
theorem ShV.deep {K : Fg} {H : Hp} {v : V} {ws : List WD} {es : List R} (h : ShV K H v ws es) : Deep K H v (dSh ws es) := by
 obtain ⟨p, q1, q2, xs, ys, rfl, s, s1, s2, a, b⟩ := h
 exact .tup s (.cons (.tup s1 (a.deep fun _ _ z => z.deep)) (.cons (.tup s2 (b.deep fun _ _ z => z.deep)) .nil))
theorem RuV.deep {K : Fg} {H : Hp} {v : V} {r : RuD} (h : RuV K H v r) : Deep K H v (dRu r) := by
 cases r with
 | pow n =>
  obtain ⟨p, rfl, s⟩ := h
  exact .tup s (.cons (.str _) (.cons (.int _) .nil))
 | tab rs =>
  obtain ⟨p, q, xs, rfl, s, s2, a⟩ := h
  exact .tup s (.cons (.str _) (.cons (.tup s2 (a.deep fun _ _ z => z.deep)) .nil))
theorem PcsV.deep {K : Fg} {H : Hp} {v : V} {ps : List (Int × R)} (h : PcsV K H v ps) : Deep K H v (dTu ps) := by
 obtain ⟨p, xs, rfl, s, a⟩ := h
 exact .tup s (a.deep fun _ _ z => z.deep)
theorem PlV.deep {K : Fg} {H : Hp} {v : V} {pl : List (List (Int × R))} (h : PlV K H v pl) : Deep K H v (dPn pl) := by
 obtain ⟨p, xs, rfl, s, a⟩ := h
 exact .tup s (a.deep fun _ _ z => z.deep)
theorem sz_rat {r : R} (h1 : NB r.1) (h2 : NB r.2) : Sz 500 1 (dR r) := by
 refine (Sz.tup (n := 200) (k := 0) (m := 2) (ds := [.int r.1, .int r.2]) (fun d hd => ?_) (Nat.le_refl _)).mono (by decide) (Nat.le_refl _)
 simp only [List.mem_cons, List.not_mem_nil, or_false] at hd
 rcases hd with rfl | rfl
 ·exact Sz.int h1
 ·exact Sz.int h2
theorem sz_map {α : Type} {f : α -> PyData} {l : List α} {n k m N : Nat} (h : ∀ x ∈ l, Sz n k (f x)) (hl : l.length ≤ m) (hN : (n + 2) * m + 3 ≤ N) : Sz N (k + 1) (.tuple (l.map f)) :=
 (Sz.tup (fun d hd => by obtain ⟨x, hx, rfl⟩ := List.mem_map.mp hd; exact h x hx) (by rw [List.length_map]; exact hl)).mono hN (Nat.le_refl _)
theorem sz_two {a b : PyData} {n k N : Nat} (ha : Sz n k a) (hb : Sz n k b) (hN : (n + 2) * 2 + 3 ≤ N) : Sz N (k + 1) (.tuple [a, b]) :=
 (Sz.tup (m := 2) (fun d hd => by
  simp only [List.mem_cons, List.not_mem_nil, or_false] at hd
  rcases hd with rfl | rfl
  ·exact ha
  ·exact hb) (Nat.le_refl _)).mono hN (Nat.le_refl _)
theorem sz_three {a b c : PyData} {n k N : Nat} (ha : Sz n k a) (hb : Sz n k b) (hc : Sz n k c) (hN : (n + 2) * 3 + 3 ≤ N) : Sz N (k + 1) (.tuple [a, b, c]) :=
 (Sz.tup (m := 3) (fun d hd => by
  simp only [List.mem_cons, List.not_mem_nil, or_false] at hd
  rcases hd with rfl | rfl | rfl
  ·exact ha
  ·exact hb
  ·exact hc) (Nat.le_refl _)).mono hN (Nat.le_refl _)
theorem sz_rg {r : R} (h : Rg r) : Sz 500 1 (dR r) := sz_rat h.nb1 h.nb2
theorem lays_str {xs : List Str} (h : ∀ x ∈ xs, (PyData.str x).canLay0 = true) : (PyData.list (xs.map PyData.str)).canLay0 = true := by
 show PyData.canLayAll0 (xs.map PyData.str) = true
 induction xs with
 | nil => rfl
 | cons a l ih =>
  show ((PyData.str a).canLay0 && PyData.canLayAll0 (l.map PyData.str)) = true
  rw [h a List.mem_cons_self, ih fun w hw => h w (List.mem_cons_of_mem _ hw)]
  rfl
theorem eqv_strs : ∀ xs : List Str, PyData.eqvAll (xs.map PyData.str) (xs.map PyData.str) = true
 | [] => rfl
 | x :: xs => by
  show ((x == x) && PyData.eqvAll (xs.map PyData.str) (xs.map PyData.str)) = true
  rw [eqv_strs xs, beq_self_eq_true]
  rfl
theorem deep_strs {K : Fg} {H : Hp} : ∀ xs : List Str, DeepAll K H (xs.map V.str) (xs.map PyData.str)
 | [] => .nil
 | x :: xs => .cons (.str x) (deep_strs xs)
theorem dep_strs : ∀ xs : List Str, PyData.depthAll (xs.map PyData.str) = 0
 | [] => rfl
 | x :: xs => by
  show max 0 (PyData.depthAll (xs.map PyData.str)) = 0
  rw [dep_strs xs]
  rfl
theorem rat_neg {r : R} (h : Rg r) (hz : r.1 ≠ 0) : ratT (-r.1, r.2) = Str.ofString "-" ++ ratT r := by
 have e : numT (-r.1) = Str.ofString "-" ++ numT r.1 := by
  have := num_neg (i := -r.1) (by have := h.nn; omega)
  rw [Int.neg_neg] at this
  exact this.symm
 unfold ratT
 by_cases c : r.2 = 1
 ·rw [if_pos c, if_pos c]; exact e
 ·rw [if_neg c, if_neg c]
  show numT (-r.1) ++ Str.ofString "/" ++ numT r.2 = _
  rw [e, app_as, app_as, app_as]
def Asc (x : Str) : Prop := ∀ c ∈ cpl x, c < 128
theorem Asc.app {x y : Str} (h : Asc x) (k : Asc y) : Asc (x ++ y) := fun c hc => by
 rw [cpl_app] at hc
 rcases List.mem_append.mp hc with z | z
 ·exact h c z
 ·exact k c z
theorem Asc.lay {x : Str} (h : Asc x) : (PyData.str x).canLay0 = true := by
 show x.cps.all (· < 0x110000) = true
 rw [← Array.all_toList, List.all_eq_true]
 intro c hc
 have := h c hc
 exact decide_eq_true (by omega)
theorem Asc.join {s : Str} (hs : Asc s) : ∀ {ws : List Str}, (∀ w ∈ ws, Asc w) -> Asc (Str.join s ws)
 | [], _ => fun c hc => by cases hc
 | [x], h => h x List.mem_cons_self
 | x :: y :: r, h => by
  rw [join_cons2]
  exact ((h x List.mem_cons_self).app hs).app (Asc.join hs (ws := y :: r) fun w hw => h w (List.mem_cons_of_mem _ hw))
theorem asc_num {n : Int} (h : NG n) : Asc (numT n) := by
 obtain ⟨a, rfl⟩ := Int.eq_ofNat_of_zero_le h.1
 intro c hc
 have := num_dig a c hc
 omega
theorem asc_sp : Asc (Str.ofString " ") := by show ∀ c ∈ [32], c < 128; decide
theorem asc_sl : Asc (Str.ofString "/") := by show ∀ c ∈ [47], c < 128; decide
theorem asc_co : Asc (Str.ofString ":") := by show ∀ c ∈ [58], c < 128; decide
theorem asc_rat {r : R} (h : Rg r) : Asc (ratT r) := by
 unfold ratT
 split
 ·exact asc_num ⟨h.nn, h.t40⟩
 ·exact ((asc_num ⟨h.nn, h.t40⟩).app asc_sl).app (asc_num ⟨Int.le_of_lt h.pos, h.b40⟩)
def StrV (_ : Hp) (v : V) (x : Str) : Prop := v = .str x
theorem als_str {H : Hp} : ∀ {ys : List V} {xs : List Str}, Als (StrV H) ys xs -> ys = xs.map V.str
 | _, _, .nil => rfl
 | _, _, .cons h t => by rw [show _ = V.str _ from h, als_str t]; rfl
theorem ShV.mono {K : Fg} {H H' : Hp} {v : V} {ws : List WD} {es : List R} (h : ShV K H v ws es) (t : Tst K H H') : ShV K H' v ws es := let ⟨p, q1, q2, xs, ys, e, a, b, c, d, f⟩ := h; ⟨p, q1, q2, xs, ys, e, t _ _ a, t _ _ b, t _ _ c, d.mono fun _ _ z => z.mono t, f.mono fun _ _ z => z.mono t⟩
theorem PlV.mono {K : Fg} {H H' : Hp} {v : V} {pl : List (List (Int × R))} (h : PlV K H v pl) (t : Tst K H H') : PlV K H' v pl := let ⟨p, xs, e, s, a⟩ := h; ⟨p, xs, e, t _ _ s, a.mono fun _ _ z => z.mono t⟩
theorem work_line (a b c : Str) : Str.ofString "work " ++ Txt.join (Str.ofString " ") [a, b, c] = joinS [Str.ofString "work", a, b, c] := by
 rw [joinT]
 show Str.ofString "work " ++ Str.join (Str.ofString " ") [a, b, c] = Str.ofString "work" ++ Str.ofString " " ++ Str.join (Str.ofString " ") [a, b, c]
 rfl
theorem lean_line (a b : Str) : Str.ofString "lean " ++ a ++ Str.ofString " " ++ b = joinS [Str.ofString "lean", a, b] := by
 show _ = Str.ofString "lean" ++ Str.ofString " " ++ (a ++ Str.ofString " " ++ b)
 rw [app_as, app_as, ← app_as a]
 rfl
theorem glue_line (x : Str) : ∀ ws : List Str, x ++ Str.join (Str.ofString "") (ws.map fun w => Str.ofString " " ++ w) = joinS (x :: ws)
 | [] => by
  apply cpl_inj
  show cpl (x ++ Str.join (Str.ofString "") []) = cpl x
  rw [cpl_app]
  show cpl x ++ [] = _
  rw [List.append_nil]
 | [w] => by
  show x ++ (Str.ofString " " ++ w) = x ++ Str.ofString " " ++ w
  rw [app_as]
 | w :: y :: r => by
  have ih := glue_line w (y :: r)
  show x ++ (Str.ofString " " ++ w ++ Str.ofString "" ++ Str.join (Str.ofString "") ((y :: r).map fun w => Str.ofString " " ++ w)) = x ++ Str.ofString " " ++ joinS (w :: y :: r)
  rw [← ih]
  have e : ∀ z : Str, z ++ Str.ofString "" = z := fun z => by
   apply cpl_inj
   rw [cpl_app]
   show cpl z ++ [] = _
   rw [List.append_nil]
  rw [e, app_as, app_as]
section
open PySem.Builtin PySem.Builtin.Str
def figB (c : Nat) : Bool := decide (48 ≤ c /\ c ≤ 57)
theorem figs_in {c : Nat} (h : c < 128) : (!(occurrences (Str.ofString "0123456789") ⟨#[c]⟩ 0 (Str.ofString "0123456789").length 1).isEmpty) = figB c :=
 (by decide +kernel : ∀ c, c < 128 -> (!(occurrences (Str.ofString "0123456789") ⟨#[c]⟩ 0 (Str.ofString "0123456789").length 1).isEmpty) = figB c) c h
theorem starts_one (x : Str) (c : Nat) : Txt.startswith x ⟨#[c]⟩ = true ↔ (cpl x)[0]? = some c := by
 show (decide (0 + (⟨#[c]⟩ : Str).length ≤ x.length) && subAt x ⟨#[c]⟩ 0) = true ↔ _
 rw [Bool.and_eq_true, decide_eq_true_iff]
 exact StrLaws.subAt_one x c 0
theorem dchar {m : Nat} (h : m < 10) : (Nat.digitChar m).toNat = 48 + m := (by decide : ∀ m, m < 10 -> (Nat.digitChar m).toNat = 48 + m) m h
theorem digits_back : ∀ (k : Nat) (ds : List Nat), ds.length = k + 1 -> (∀ c ∈ ds, 48 ≤ c /\ c ≤ 57) -> ds.head? ≠ some 48 -> ∃ n : Nat, 1 ≤ n /\ n < 10 ^ (k + 1) /\ (Nat.toDigits 10 n).map Char.toNat = ds
 | 0, ds, hl, hd, hh => by
  match ds, hl with
  | [c], _ =>
   have hc := hd c List.mem_cons_self
   have c0 : c ≠ 48 := fun z => hh (by rw [z]; rfl)
   refine ⟨c - 48, by omega, by rw [Nat.zero_add, Nat.pow_one]; omega, ?_⟩
   rw [Nat.toDigits_of_lt_base (by omega)]
   show [(Nat.digitChar (c - 48)).toNat] = [c]
   rw [dchar (by omega), show 48 + (c - 48) = c by omega]
 | k + 1, ds, hl, hd, hh => by
  have hne : ds ≠ [] := fun z => by rw [z] at hl; cases hl
  obtain ⟨ds', d, rfl⟩ : ∃ ds' d, ds = ds' ++ [d] := ⟨ds.dropLast, ds.getLast hne, (List.dropLast_concat_getLast hne).symm⟩
  have hl' : ds'.length = k + 1 := by
   rw [List.length_append] at hl
   have : [d].length = 1 := rfl
   omega
  have hh' : ds'.head? ≠ some 48 := by
   match ds', hl' with
   | a :: r, _ => exact hh
  obtain ⟨n, n1, n2, e⟩ := digits_back k ds' hl' (fun c hc => hd c (List.mem_append_left _ hc)) hh'
  have hdd := hd d (List.mem_append_right _ List.mem_cons_self)
  refine ⟨10 * n + (d - 48), by omega, by rw [Nat.pow_succ]; omega, ?_⟩
  rw [dig_cons _ (by omega), show (10 * n + (d - 48)) / 10 = n by omega, show (10 * n + (d - 48)) % 10 = d - 48 by omega, List.map_append, e]
  show ds' ++ [(Nat.digitChar (d - 48)).toNat] = _
  rw [dchar (by omega), show 48 + (d - 48) = d by omega]
theorem num_back {x : Str} (h1 : 1 ≤ x.length) (h2 : x.length ≤ 40) (h3 : (cpl x).all figB = true) (h4 : 1 < x.length -> Txt.startswith x (Str.ofString "0") = false) : ∃ n : Nat, n < 10 ^ 40 /\ x = numT (n : Int) := by
 have dg : ∀ c ∈ cpl x, 48 ≤ c /\ c ≤ 57 := fun c hc => of_decide_eq_true (List.all_eq_true.mp h3 c hc)
 rw [len_cpl] at h1 h2 h4
 by_cases c : (cpl x).head? = some 48
 ·have l1 : ¬ 1 < (cpl x).length := fun z => by
   have := h4 z
   rw [show Txt.startswith x (Str.ofString "0") = true from (starts_one x 48).mpr (by rw [← List.head?_eq_getElem?]; exact c)] at this
   cases this
  have e : cpl x = [48] := by
   match cpl x, c, h1, l1 with
   | [a], c, _, _ => cases c; rfl
   | a :: b :: r, _, _, l => exact absurd (show 1 < (a :: b :: r).length by simp) l
  refine ⟨0, by decide, cpl_inj ?_⟩
  rw [e, cpl_num]
  rfl
 ·obtain ⟨n, n1, n2, e⟩ := digits_back ((cpl x).length - 1) (cpl x) (by omega) dg c
  refine ⟨n, Nat.lt_of_lt_of_le n2 (Nat.pow_le_pow_right (by decide) (by omega)), cpl_inj ?_⟩
  rw [cpl_num, e]
def numM (x : Str) : Option Int := if (1 ≤ x.length /\ x.length ≤ 40) /\ (cpl x).all figB = true /\ (1 < x.length -> Txt.startswith x (Str.ofString "0") = false) then PySem.intText? x else none
theorem numM_some {x : Str} {n : Int} (h : numM x = some n) : NG n /\ x = numT n := by
 unfold numM at h
 split at h
 ·rename_i c
  obtain ⟨m, hm, e⟩ := num_back c.1.1 c.1.2 c.2.1 c.2.2
  rw [e, num_int hm] at h
  cases h
  exact ⟨⟨by omega, by omega⟩, e⟩
 ·cases h
theorem part_cases (x : Str) (c : Nat) : (Txt.partition x ⟨#[c]⟩ = (x, Str.empty, Str.empty) /\ c ∉ cpl x) ∨ ∃ a b, Txt.partition x ⟨#[c]⟩ = (a, ⟨#[c]⟩, b) /\ x = a ++ ⟨#[c]⟩ ++ b /\ c ∉ cpl a := by
 by_cases h : c ∈ cpl x
 ·obtain ⟨as, bs, e, na⟩ := List.eq_append_cons_of_mem h
  have ex : x = (⟨as.toArray⟩ : Str) ++ ⟨#[c]⟩ ++ ⟨bs.toArray⟩ := by
   apply cpl_inj
   rw [cpl_app, cpl_app, e]
   show _ = as ++ [c] ++ bs
   rw [List.append_assoc]
   rfl
  have na' : c ∉ cpl (⟨as.toArray⟩ : Str) := na
  refine .inr ⟨⟨as.toArray⟩, ⟨bs.toArray⟩, ?_, ex, na'⟩
  rw [ex]
  exact part_cut na'
 ·exact .inl ⟨part_free h, h⟩
def ratP (P : Str × Str × Str) : Option R :=
 if P.2.1 = Str.ofString "/" then
  match numM P.1, numM P.2.2 with
  | some a, some b => if b ≠ 1 /\ 1 ≤ b /\ Int.gcd a b = 1 then some (a, b) else none
  | _, _ => none
 else match numM P.1 with
  | some a => some (a, 1)
  | none => none
def ratM (x : Str) : Option R := ratP (Txt.partition x (Str.ofString "/"))
theorem ratM_some {x : Str} {r : R} (h : ratM x = some r) : Rg r /\ x = ratT r := by
 unfold ratM at h
 rcases part_cases x 47 with ⟨e, _⟩ | ⟨a, b, e, ex, _⟩
 ·rw [show Txt.partition x (Str.ofString "/") = (x, Str.empty, Str.empty) from e] at h
  unfold ratP at h
  rw [if_neg (show ¬ Str.empty = Str.ofString "/" by decide)] at h
  dsimp only at h
  cases hn : numM x with
  | none => rw [hn] at h; cases h
  | some n =>
   rw [hn] at h
   cases h
   obtain ⟨⟨g1, g2⟩, en⟩ := numM_some hn
   refine ⟨⟨g1, (show (0 : Int) < 1 by decide), (show Int.gcd n 1 = 1 by rw [Int.gcd_one_right]), g2, (show (1 : Int) < 10 ^ 40 by decide)⟩, ?_⟩
   rw [en]
   exact (if_pos rfl).symm
 ·rw [show Txt.partition x (Str.ofString "/") = (a, Str.ofString "/", b) from e] at h
  unfold ratP at h
  rw [if_pos rfl] at h
  dsimp only at h
  cases hn : numM a with
  | none => rw [hn] at h; cases h
  | some n =>
   cases hm : numM b with
   | none => rw [hn, hm] at h; cases h
   | some m =>
    rw [hn, hm] at h
    dsimp only at h
    split at h
    ·rename_i c
     cases h
     obtain ⟨⟨g1, g2⟩, en⟩ := numM_some hn
     obtain ⟨⟨g3, g4⟩, em⟩ := numM_some hm
     refine ⟨⟨g1, by show (0 : Int) < m; omega, c.2.2, g2, g4⟩, ?_⟩
     rw [ex, en, em]
     exact (if_neg c.1).symm
    ·cases h
theorem ratM_empty : ratM Str.empty = none := by decide +kernel
def workM : List Str -> Option WD
 | [a, b, c, d] => if a = Str.ofString "work" then match numM b, numM c, ratM d with
  | some i, some j, some r => some (i, j, r)
  | _, _, _ => none else none
 | _ => none
def leanM : List Str -> Option R
 | [a, b, c] => if a = Str.ofString "lean" then match numM b, numM c with
  | some i, some j => some (i, j)
  | _, _ => none else none
 | _ => none
def pieceM (x : Str) : Option (Int × R) := match numM (Txt.partition x (Str.ofString ":")).1, ratM (Txt.partition x (Str.ofString ":")).2.2 with
 | some i, some r => some (i, r)
 | _, _ => none
def rowM (x : Str) : Option (R × R) := match ratM (Txt.partition x (Str.ofString ":")).1, ratM (Txt.partition x (Str.ofString ":")).2.2 with
 | some i, some r => some (i, r)
 | _, _ => none
theorem workM_some {ws : List Str} {w : WD} (h : workM ws = some w) : WOk w /\ ws = workW w := by
 unfold workM at h
 split at h
 ·split at h
  ·rename_i e
   split at h
   ·rename_i e1 e2 e3
    cases h
    obtain ⟨g1, f1⟩ := numM_some e1
    obtain ⟨g2, f2⟩ := numM_some e2
    obtain ⟨g3, f3⟩ := ratM_some e3
    exact ⟨⟨g1, g2, g3⟩, by rw [e, f1, f2, f3]; rfl⟩
   ·cases h
  ·cases h
 ·cases h
theorem leanM_some {ws : List Str} {w : R} (h : leanM ws = some w) : LOk w /\ ws = leanW w := by
 unfold leanM at h
 split at h
 ·split at h
  ·rename_i e
   split at h
   ·rename_i e1 e2
    cases h
    obtain ⟨g1, f1⟩ := numM_some e1
    obtain ⟨g2, f2⟩ := numM_some e2
    exact ⟨⟨g1, g2⟩, by rw [e, f1, f2]; rfl⟩
   ·cases h
  ·cases h
 ·cases h
theorem pieceM_some {x : Str} {w : Int × R} (h : pieceM x = some w) : POk w /\ x = pieceT w := by
 unfold pieceM at h
 rcases part_cases x 58 with ⟨e, _⟩ | ⟨a, b, e, ex, _⟩
 ·rw [show Txt.partition x (Str.ofString ":") = (x, Str.empty, Str.empty) from e, ratM_empty] at h
  dsimp only at h
  split at h
  ·rename_i e1 e2; cases e2
  ·cases h
 ·rw [show Txt.partition x (Str.ofString ":") = (a, Str.ofString ":", b) from e] at h
  split at h
  ·rename_i e1 e2
   cases h
   obtain ⟨g1, f1⟩ := numM_some e1
   obtain ⟨g2, f2⟩ := ratM_some e2
   have f1' : a = _ := f1
   have f2' : b = _ := f2
   exact ⟨⟨g1, g2⟩, by rw [ex, f1', f2']; rfl⟩
  ·cases h
theorem rowM_some {x : Str} {w : R × R} (h : rowM x = some w) : ROk w /\ x = rowT w := by
 unfold rowM at h
 rcases part_cases x 58 with ⟨e, _⟩ | ⟨a, b, e, ex, _⟩
 ·rw [show Txt.partition x (Str.ofString ":") = (x, Str.empty, Str.empty) from e, ratM_empty] at h
  dsimp only at h
  split at h
  ·rename_i e1 e2; cases e2
  ·cases h
 ·rw [show Txt.partition x (Str.ofString ":") = (a, Str.ofString ":", b) from e] at h
  split at h
  ·rename_i e1 e2
   cases h
   obtain ⟨g1, f1⟩ := ratM_some e1
   obtain ⟨g2, f2⟩ := ratM_some e2
   have f1' : a = _ := f1
   have f2' : b = _ := f2
   exact ⟨⟨g1, g2⟩, by rw [ex, f1', f2']; rfl⟩
  ·cases h
def allM {α β : Type} (f : α -> Option β) : List α -> Option (List β)
 | [] => some []
 | x :: xs => match f x, allM f xs with
  | some a, some l => some (a :: l)
  | _, _ => none
theorem allM_some {α β : Type} {f : α -> Option β} : ∀ {xs : List α} {ys : List β}, allM f xs = some ys -> xs.map f = ys.map some
 | [], ys, h => by cases h; rfl
 | x :: xs, ys, h => by
  unfold allM at h
  split at h
  ·rename_i e1 e2
   cases h
   rw [List.map_cons, List.map_cons, e1, allM_some e2]
  ·cases h
theorem allM_of {α β : Type} {f : α -> Option β} : ∀ {xs : List α} {ys : List β}, xs.map f = ys.map some -> allM f xs = some ys
 | [], [], _ => rfl
 | [], _ :: _, h => by cases h
 | _ :: _, [], h => by cases h
 | x :: xs, y :: ys, h => by
  rw [List.map_cons, List.map_cons] at h
  obtain ⟨e1, e2⟩ := List.cons.inj h
  unfold allM
  rw [e1, allM_of e2]
theorem allM_back {α β : Type} {f : α -> Option β} {g : β -> α} {Ok : β -> Prop} (hf : ∀ x b, f x = some b -> Ok b /\ x = g b) : ∀ {xs : List α} {ys : List β}, allM f xs = some ys -> (∀ y ∈ ys, Ok y) /\ xs = ys.map g
 | [], ys, h => by cases h; exact ⟨(fun y hy => by cases hy), rfl⟩
 | x :: xs, ys, h => by
  unfold allM at h
  split at h
  ·rename_i a l e1 e2
   cases h
   obtain ⟨h1, h2⟩ := allM_back hf e2
   obtain ⟨h3, h4⟩ := hf x a e1
   refine ⟨fun y hy => ?_, by rw [List.map_cons, ← h2, ← h4]⟩
   rcases List.mem_cons.mp hy with z | z
   ·rw [z]; exact h3
   ·exact h1 y z
  ·cases h
theorem allM_snoc {α β : Type} {f : α -> Option β} {xs : List α} {ys : List β} {x : α} {y : β} (h : allM f xs = some ys) (e : f x = some y) : allM f (xs ++ [x]) = some (ys ++ [y]) := by
 refine allM_of ?_
 rw [List.map_append, List.map_append, allM_some h]
 show _ ++ [f x] = _ ++ [some y]
 rw [e]
def piecesM : List Str -> Option (List (Int × R))
 | [] => none
 | a :: r => if a = Str.ofString "turn" then allM pieceM r else none
theorem piecesM_some {ws : List Str} {ps : List (Int × R)} (h : piecesM ws = some ps) : (∀ w ∈ ps, POk w) /\ ws = turnW ps := by
 unfold piecesM at h
 split at h
 ·cases h
 ·split at h
  ·rename_i e
   obtain ⟨h1, h2⟩ := allM_back (g := pieceT) (Ok := POk) (fun x b q => pieceM_some q) h
   exact ⟨h1, by rw [e, h2]; rfl⟩
  ·cases h
def ruleM : List Str -> Option RuD
 | [] => none
 | a :: r => if a = Str.ofString "power" then match r with
   | [b] => (numM b).map RuD.pow
   | _ => none
  else if a = Str.ofString "table" then (allM rowM r).map RuD.tab else none
end
def RuG : RuD -> Prop
 | .pow n => NG n
 | .tab rs => ∀ w ∈ rs, ROk w
theorem ruleM_some : ∀ {ws : List Str} {r : RuD}, ruleM ws = some r -> ws = ruW r /\ RuG r
 | [], _, h => by cases h
 | a :: rr, r, h => by
  by_cases e : a = Str.ofString "power"
  ·unfold ruleM at h
   dsimp only at h
   rw [if_pos e] at h
   match rr, h with
   | [b], h =>
    have h' : (numM b).map RuD.pow = some r := h
    cases hb : numM b with
    | none => rw [hb] at h'; cases h'
    | some n =>
     rw [hb] at h'
     cases h'
     obtain ⟨g, f⟩ := numM_some hb
     exact ⟨by rw [e, f]; rfl, g⟩
  ·unfold ruleM at h
   dsimp only at h
   rw [if_neg e] at h
   by_cases e2 : a = Str.ofString "table"
   ·rw [if_pos e2] at h
    cases hr : allM rowM rr with
    | none => rw [hr] at h; cases h
    | some rs =>
     rw [hr] at h
     cases h
     obtain ⟨h1, h2⟩ := allM_back (g := rowT) (Ok := ROk) (fun x b q => rowM_some q) hr
     exact ⟨by rw [e2, h2]; rfl, h1⟩
   ·rw [if_neg e2] at h
    cases h
def sratM (x : Str) : Option R := if Txt.startswith x (Str.ofString "-") = true then (match ratM (Txt.slice x (some 1) none) with
  | some r => if r = (0, 1) then none else some (-r.1, r.2)
  | none => none) else ratM x
theorem sratM_some {x : Str} {r : R} (h : sratM x = some r) : x = ratT r /\ r.1.natAbs < 2 ^ 140 /\ r.2.natAbs < 2 ^ 140 := by
 unfold sratM at h
 split at h
 ·rename_i c
  have c' := (starts_one x 45).mp c
  obtain ⟨y, rfl⟩ : ∃ y, x = Str.ofString "-" ++ y := by
   cases e : cpl x with
   | nil => rw [e] at c'; cases c'
   | cons a l =>
    rw [e] at c'
    cases c'
    refine ⟨⟨l.toArray⟩, cpl_inj ?_⟩
    rw [cpl_app, e]
    rfl
  rw [minus_rest] at h
  cases hr : ratM y with
  | none => rw [hr] at h; cases h
  | some q =>
   rw [hr] at h
   dsimp only at h
   split at h
   ·cases h
   ·rename_i nz
    cases h
    obtain ⟨g, e⟩ := ratM_some hr
    have z : q.1 ≠ 0 := fun z => nz (by
     have c1 := g.cop
     rw [z, Int.gcd_zero_left] at c1
     have p1 := g.pos
     exact Prod.ext z (by show q.2 = 1; omega))
    have t := g.t40
    have b := g.b40
    have n := g.nn
    have p := g.pos
    refine ⟨by rw [rat_neg g z, e], ?_, ?_⟩
    ·show (-q.1).natAbs < 2 ^ 140
     omega
    ·show q.2.natAbs < 2 ^ 140
     omega
 ·obtain ⟨g, e⟩ := ratM_some h
  have t := g.t40
  have b := g.b40
  have n := g.nn
  have p := g.pos
  exact ⟨e, by omega, by omega⟩
abbrev spl (x : Str) : List Str := Txt.split x (Str.ofString " ")
theorem join_spl (x : Str) : joinS (spl x) = x := StrLaws.join_split _ _
def shStep (p : List WD × List R) (x : Str) : Option (List WD × List R) :=
 match workM (spl x) with
 | some w => if p.2 = [] then some (p.1 ++ [w], p.2) else (leanM (spl x)).map fun e => (p.1, p.2 ++ [e])
 | none => (leanM (spl x)).map fun e => (p.1, p.2 ++ [e])
def shF (xs : List Str) : Option (List WD × List R) := xs.foldl (fun o x => o.bind fun p => shStep p x) (some ([], []))
theorem shF_snoc (xs : List Str) (x : Str) : shF (xs ++ [x]) = (shF xs).bind fun p => shStep p x := by
 unfold shF
 rw [List.foldl_append]
 rfl
theorem shStep_some {p q : List WD × List R} {x : Str} (h : shStep p x = some q) : (∃ w, WOk w /\ x = joinS (workW w) /\ p.2 = [] /\ q = (p.1 ++ [w], p.2)) ∨ (∃ e, LOk e /\ x = joinS (leanW e) /\ q = (p.1, p.2 ++ [e])) := by
 have ln : (leanM (spl x)).map (fun e => (p.1, p.2 ++ [e])) = some q -> ∃ e, LOk e /\ x = joinS (leanW e) /\ q = (p.1, p.2 ++ [e]) := fun h => by
  cases hl : leanM (spl x) with
  | none => rw [hl] at h; cases h
  | some e =>
   rw [hl] at h
   obtain ⟨g, f⟩ := leanM_some hl
   exact ⟨e, g, by rw [← f, join_spl], (Option.some.inj h).symm⟩
 unfold shStep at h
 split at h
 ·rename_i w hw
  split at h
  ·rename_i c
   obtain ⟨g, f⟩ := workM_some hw
   exact .inl ⟨w, g, by rw [← f, join_spl], c, (Option.some.inj h).symm⟩
  ·exact .inr (ln h)
 ·exact .inr (ln h)
theorem shF_some : ∀ (n : Nat) {xs : List Str} {ws : List WD} {es : List R}, xs.length = n -> shF xs = some (ws, es) -> ((∀ w ∈ ws, WOk w) /\ ∀ e ∈ es, LOk e) /\ xs = shL ws es /\ ws.length + es.length = n
 | 0, xs, ws, es, hl, h => by
  have : xs = [] := List.length_eq_zero_iff.mp hl
  subst this
  cases h
  exact ⟨⟨(fun w hw => by cases hw), fun w hw => by cases hw⟩, rfl, rfl⟩
 | n + 1, xs, ws, es, hl, h => by
  have hne : xs ≠ [] := fun z => by rw [z] at hl; cases hl
  obtain ⟨ys, x, rfl⟩ : ∃ ys x, xs = ys ++ [x] := ⟨xs.dropLast, xs.getLast hne, (List.dropLast_concat_getLast hne).symm⟩
  rw [shF_snoc] at h
  have hl' : ys.length = n := by
   rw [List.length_append] at hl
   have : [x].length = 1 := rfl
   omega
  cases hy : shF ys with
  | none => rw [hy] at h; cases h
  | some p =>
   rw [hy] at h
   obtain ⟨⟨i1, i2⟩, i3, i4⟩ := shF_some n (ws := p.1) (es := p.2) hl' hy
   rcases shStep_some (show shStep p x = some (ws, es) from h) with ⟨w, g, ex, pe, e⟩ | ⟨w, g, ex, e⟩
   ·cases e
    refine ⟨⟨fun w' hw => ?_, i2⟩, ?_, ?_⟩
    ·rcases List.mem_append.mp hw with z | z
     ·exact i1 w' z
     ·rw [List.mem_singleton.mp z]; exact g
    ·rw [i3, ex]
     unfold shL
     rw [pe, List.map_append]
     simp
    ·rw [List.length_append]
     have : [w].length = 1 := rfl
     omega
   ·cases e
    refine ⟨⟨i1, fun w' hw => ?_⟩, ?_, ?_⟩
    ·rcases List.mem_append.mp hw with z | z
     ·exact i2 w' z
     ·rw [List.mem_singleton.mp z]; exact g
    ·rw [i3, ex]
     unfold shL
     rw [List.map_append, List.append_assoc]
     rfl
    ·rw [List.length_append]
     have : [w].length = 1 := rfl
     omega
def turnM (x : Str) : Option (List (Int × R)) := piecesM (spl x)
def ruM : List Str -> Option RuD
 | [] => none
 | x :: r => match ruleM (spl x), r with
  | some ru, [] => some ru
  | _, _ => none
def ShBad (xs : List Str) (at_ : Nat) : Prop := ∃ p x, shF (xs.take at_) = some p /\ xs[at_]? = some x /\ shStep p x = none
def PlBad (xs : List Str) (at_ : Nat) : Prop := ∃ pl x, allM turnM (xs.take at_) = some pl /\ xs[at_]? = some x /\ turnM x = none
def RuBad (xs : List Str) (at_ : Nat) : Prop := (at_ = 0 /\ (xs = [] ∨ ∃ x r, xs = x :: r /\ ruleM (spl x) = none)) ∨ (at_ = 1 /\ ∃ x r ru, xs = x :: r /\ ruleM (spl x) = some ru /\ r ≠ [])
structure Wx (x : Str) : Prop where
 asc : Asc x
 len : x.length ≤ 40000
structure Lx (x : Str) : Prop where
 asc : Asc x
 len : x.length ≤ 40000
 bl : (cpl x).count 32 ≤ 140
def LsOk (xs : List Str) : Prop := xs.length ≤ 101 /\ ∀ x ∈ xs, Lx x
theorem Lx.wx {x : Str} (h : Lx x) : Wx x := ⟨h.asc, h.len⟩
theorem join_count {c : Nat} : ∀ {ws : List Str}, ws ≠ [] -> (∀ w ∈ ws, c ∉ cpl w) -> (cpl (Str.join ⟨#[c]⟩ ws)).count c + 1 = ws.length
 | [], h, _ => absurd rfl h
 | [x], _, h => by
  show (cpl x).count c + 1 = 1
  rw [List.count_eq_zero_of_not_mem (h x List.mem_cons_self)]
 | x :: y :: r, _, h => by
  have ih := join_count (c := c) (ws := y :: r) (by simp) fun w hw => h w (List.mem_cons_of_mem _ hw)
  rw [join_cons2, cpl_app, cpl_app, List.count_append, List.count_append, List.count_eq_zero_of_not_mem (h x List.mem_cons_self)]
  have e : (cpl (⟨#[c]⟩ : Str)).count c = 1 := by show [c].count c = 1; simp
  rw [e, List.length_cons (as := y :: r)]
  omega
theorem mem_join {s : Str} : ∀ {ws : List Str} {w : Str}, w ∈ ws -> (∀ c ∈ cpl w, c ∈ cpl (Str.join s ws)) /\ w.length ≤ (Str.join s ws).length
 | [x], w, h => by rw [List.mem_singleton.mp h]; exact ⟨fun c hc => hc, Nat.le_refl _⟩
 | x :: y :: r, w, h => by
  rw [join_cons2, cpl_app, cpl_app, Str.length_append, Str.length_append]
  rcases List.mem_cons.mp h with z | z
  ·rw [z]
   exact ⟨fun c hc => List.mem_append_left _ (List.mem_append_left _ hc), by omega⟩
  ·obtain ⟨h1, h2⟩ := mem_join (s := s) z
   exact ⟨fun c hc => List.mem_append_right _ (h1 c hc), by omega⟩
theorem Lx.words {x : Str} (h : Lx x) : (spl x).length ≤ 141 /\ (∀ w ∈ spl x, Wx w) /\ spl x ≠ [] := by
 have e : Str.join ⟨#[32]⟩ (spl x) = x := StrLaws.join_split _ _
 have fr : ∀ w ∈ spl x, 32 ∉ cpl w := fun w hw => StrLaws.split_free _ 32 w hw
 have n := join_count (split_ne x (Str.ofString " ")) fr
 have hb := h.bl
 have hl := h.len
 have ha := h.asc
 refine ⟨?_, fun w hw => ?_, split_ne _ _⟩
 ·have e2 : (cpl (Str.join ⟨#[32]⟩ (Txt.split x (Str.ofString " ")))).count 32 = (cpl x).count 32 := by rw [e]
  show (Txt.split x (Str.ofString " ")).length ≤ 141
  omega
 ·obtain ⟨h1, h2⟩ := mem_join (s := ⟨#[32]⟩) hw
  rw [e] at h1 h2
  exact ⟨fun c hc => ha c (h1 c hc), by omega⟩
theorem Wx.part {x : Str} (h : Wx x) (c : Nat) : Wx (Txt.partition x ⟨#[c]⟩).1 /\ Wx (Txt.partition x ⟨#[c]⟩).2.2 := by
 have wn : Wx Str.empty := ⟨(fun c hc => by cases hc), by decide⟩
 rcases part_cases x c with ⟨e, _⟩ | ⟨a, b, e, ex, _⟩
 ·rw [e]; exact ⟨h, wn⟩
 ·rw [e]
  have hl := h.len
  have ha := h.asc
  rw [ex, Str.length_append, Str.length_append] at hl
  refine ⟨⟨fun c hc => ha c ?_, by show a.length ≤ _; omega⟩, ⟨fun c hc => ha c ?_, by show b.length ≤ _; omega⟩⟩
  ·rw [ex, cpl_app, cpl_app]; exact List.mem_append_left _ (List.mem_append_left _ hc)
  ·rw [ex, cpl_app, cpl_app]; exact List.mem_append_right _ hc
theorem Asc.all {x : Str} (h : Asc x) : x.cps.all (· < 128) = true := by
 rw [← Array.all_toList, List.all_eq_true]
 exact fun c hc => decide_eq_true (h c hc)
def OpV {α : Type} (P : Hp -> V -> α -> Prop) (H : Hp) (v : V) : Option α -> Prop
 | none => v = .non
 | some a => P H v a
theorem OpV.imp {α : Type} {P : Hp -> V -> α -> Prop} {H H' : Hp} {v : V} : ∀ {o : Option α}, OpV P H v o -> (∀ a, P H v a -> P H' v a) -> OpV P H' v o
 | none, h, _ => h
 | some a, h, f => f a h
def oD {α : Type} (f : α -> PyData) : Option α -> PyData
 | none => .none
 | some a => f a
theorem OpV.deep {α : Type} {K : Fg} {P : Hp -> V -> α -> Prop} {f : α -> PyData} {H : Hp} {v : V} (hP : ∀ v a, P H v a -> Deep K H v (f a)) : ∀ {o : Option α}, OpV P H v o -> Deep K H v (oD f o)
 | none, h => by rw [show v = .non from h]; exact .non
 | some a, h => hP v a h
def oiV : Option Int -> V
 | none => .non
 | some n => .int n
theorem oi_deep {K : Fg} {H : Hp} : ∀ o : Option Int, Deep K H (oiV o) (oD PyData.int o)
 | none => .non
 | some n => .int n
theorem oD_lay {α : Type} {f : α -> PyData} (h : ∀ a, (f a).canLay0 = true /\ (f a).depth ≤ 32) : ∀ o : Option α, (oD f o).canLay0 = true /\ (oD f o).depth ≤ 32
 | none => ⟨rfl, Nat.zero_le _⟩
 | some a => h a
theorem oi_lay (o : Option Int) : (oD PyData.int o).canLay0 = true /\ (oD PyData.int o).depth ≤ 32 := oD_lay (fun _ => ⟨rfl, Nat.zero_le _⟩) o
theorem ro_lay (o : Option R) : (oD dR o).canLay0 = true /\ (oD dR o).depth ≤ 32 := oD_lay (fun r => ⟨rfl, dR_depth r⟩) o
def sp_number_of (_ : Fg) : Sp := fun vs H Q _ => ∃ x : Str, vs = [.str x] /\ Wx x /\ ∀ H', Same H H' -> Q (oiV (numM x)) H'
def sp_ratio_of (K : Fg) : Sp := fun vs H Q _ => ∃ x : Str, vs = [.str x] /\ Wx x /\ ∀ (v : V) (H' : Hp), Same H H' -> OpV (RV K) H' v (ratM x) -> Q v H'
def sp_whole_or_none (K : Fg) : Sp := fun vs H Q _ => ∃ (l : Addr) (xs : List V) (ds : List PyData), vs = [.ref l] /\ H l = some (.lst xs) /\ DeepAll K H xs ds /\ Lays ds /\ (ds.all someD = true -> ∀ p, H p = none -> Q (.ref p) (upd H p (.tup xs))) /\ (ds.all someD = false -> Q .non H)
def sp_work_of (K : Fg) : Sp := fun vs H Q _ => ∃ (l : Addr) (ws : List Str), vs = [.ref l] /\ H l = some (.lst (ws.map V.str)) /\ (∀ w ∈ ws, Wx w) /\ ∀ (v : V) (H' : Hp), Same H H' -> OpV (WorkV K) H' v (workM ws) -> Q v H'
def sp_lean_of (K : Fg) : Sp := fun vs H Q _ => ∃ (l : Addr) (ws : List Str), vs = [.ref l] /\ H l = some (.lst (ws.map V.str)) /\ (∀ w ∈ ws, Wx w) /\ ∀ (v : V) (H' : Hp), Same H H' -> OpV (RV K) H' v (leanM ws) -> Q v H'
def sp_piece_of (K : Fg) : Sp := fun vs H Q _ => ∃ x : Str, vs = [.str x] /\ Wx x /\ ∀ (v : V) (H' : Hp), Same H H' -> OpV (PieceV K) H' v (pieceM x) -> Q v H'
def sp_row_of (K : Fg) : Sp := fun vs H Q _ => ∃ x : Str, vs = [.str x] /\ Wx x /\ ∀ (v : V) (H' : Hp), Same H H' -> OpV (RowV K) H' v (rowM x) -> Q v H'
def sp_pieces_of (K : Fg) : Sp := fun vs H Q _ => ∃ (l : Addr) (ws : List Str), vs = [.ref l] /\ H l = some (.lst (ws.map V.str)) /\ (∀ w ∈ ws, Wx w) /\ ws ≠ [] /\ ws.length ≤ 200 /\ ∀ (v : V) (H' : Hp), Same H H' -> OpV (PcsV K) H' v (piecesM ws) -> Q v H'
def sp_rule_of (K : Fg) : Sp := fun vs H Q _ => ∃ (l : Addr) (ws : List Str), vs = [.ref l] /\ H l = some (.lst (ws.map V.str)) /\ (∀ w ∈ ws, Wx w) /\ ws ≠ [] /\ ws.length ≤ 200 /\ ∀ (v : V) (H' : Hp), Same H H' -> OpV (RuV K) H' v (ruleM ws) -> Q v H'
abbrev bad (H : Hp) (E : XK) (C : Addr) (P : Nat -> Prop) : Prop := ∀ (n : Nat), P n -> ∀ (dd : Addr) (H' : Hp), Same H H' -> H' dd = some (dO dd [("at", .int (n : Nat))]) -> E (.ref C) (some dd) H'
def sp_read_ratio (K : Fg) (C : Addr) : Sp := fun vs H Q E => ∃ x : Str, vs = [.str x] /\ Wx x /\ (∀ r, sratM x = some r -> ∀ (v : V) (H' : Hp), Same H H' -> RV K H' v r -> Q v H') /\ bad H E C fun n => n = 0 /\ sratM x = none
def sp_read_sheet (K : Fg) (C : Addr) : Sp := fun vs H Q E => ∃ (l : Addr) (xs : List Str), vs = [.ref l] /\ H l = some (.lst (xs.map V.str)) /\ LsOk xs /\ (∀ ws es, shF xs = some (ws, es) -> ∀ (v : V) (H' : Hp), Same H H' -> ShV K H' v ws es -> Q v H') /\ bad H E C (ShBad xs)
def sp_read_plan (K : Fg) (C : Addr) : Sp := fun vs H Q E => ∃ (l : Addr) (xs : List Str), vs = [.ref l] /\ H l = some (.lst (xs.map V.str)) /\ LsOk xs /\ (∀ pl, allM turnM xs = some pl -> ∀ (v : V) (H' : Hp), Same H H' -> PlV K H' v pl -> Q v H') /\ bad H E C (PlBad xs)
def sp_read_rule (K : Fg) (C : Addr) : Sp := fun vs H Q E => ∃ (l : Addr) (xs : List Str), vs = [.ref l] /\ H l = some (.lst (xs.map V.str)) /\ LsOk xs /\ (∀ r, ruM xs = some r -> ∀ (v : V) (H' : Hp), Same H H' -> RuV K H' v r -> Q v H') /\ bad H E C (RuBad xs)
def sp_NoText (_ : Fg) (C : Addr) : Sp := fun vs H Q _ => ∃ (a : Addr) (n : Int), vs = [.ref a, .int n] /\ H a = some (exO a C none) /\ ∀ d, H d = none -> d ≠ a -> Q .non (upd (upd H a (exO a C (some d))) d (dO d [("at", .int n)]))
theorem del_same {H H' : Hp} {x : Addr} {o0 : HO} (hx : H x = none) (kp : ∀ b o, b ≠ x -> upd H x o0 b = some o -> H' b = some o) : Same H (del H' x) := fun b o e => by
 have nb : b ≠ x := ne_of_none e hx
 unfold del
 rw [if_neg nb]
 exact kp b o nb (by rw [upd_ne nb]; exact e)
theorem del_at {H : Hp} {x d : Addr} (n : d ≠ x) : del H x d = H d := by unfold del; rw [if_neg n]
def sp_copied (_ : Fg) : Sp := fun vs H Q _ => ∃ i : Int, vs = [.int i] /\ Q (.int i) H
theorem figs_all (x : Str) : ((List.range x.cps.size).filter fun _ => true).map (fun i => V.bl (figB (x.cps.getD i 0))) = ((cpl x).map figB).map V.bl := by
 have e : (List.range x.cps.size).filter (fun _ => true) = List.range x.cps.size := List.filter_eq_self.mpr fun _ _ => rfl
 rw [e, List.map_map]
 apply List.ext_getElem?
 intro i
 rw [List.getElem?_map, List.getElem?_map]
 by_cases h : i < x.cps.size
 ·rw [List.getElem?_range h, Array.getElem?_toList, Array.getElem?_eq_getElem h]
  show some (V.bl (figB (x.cps.getD i 0))) = some (V.bl (figB x.cps[i]))
  rw [Array.getD_eq_getD_getElem?, Array.getElem?_eq_getElem h]
  rfl
 ·rw [List.getElem?_eq_none (by rw [List.length_range]; omega), List.getElem?_eq_none (by rw [Array.length_toList]; omega)]
  rfl
theorem workM_len {ws : List Str} (h : ws.length ≠ 4) : workM ws = none := by
 unfold workM
 split
 ·exact absurd rfl h
 ·rfl
theorem leanM_len {ws : List Str} (h : ws.length ≠ 3) : leanM ws = none := by
 unfold leanM
 split
 ·exact absurd rfl h
 ·rfl
theorem len4 {ws : List Str} (h : ws.length = 4) : ∃ a b c d, ws = [a, b, c, d] := by
 match ws, h with
 | [a, b, c, d], _ => exact ⟨a, b, c, d, rfl⟩
theorem len3 {ws : List Str} (h : ws.length = 3) : ∃ a b c, ws = [a, b, c] := by
 match ws, h with
 | [a, b, c], _ => exact ⟨a, b, c, rfl⟩
theorem lays2 {a b : PyData} (ha : a.canLay0 = true /\ a.depth ≤ 32) (hb : b.canLay0 = true /\ b.depth ≤ 32) : Lays [a, b] := fun e he => by
 simp only [List.mem_cons, List.not_mem_nil, or_false] at he
 rcases he with rfl | rfl
 ·exact ha
 ·exact hb
theorem lays3 {a b c : PyData} (ha : a.canLay0 = true /\ a.depth ≤ 32) (hb : b.canLay0 = true /\ b.depth ≤ 32) (hc : c.canLay0 = true /\ c.depth ≤ 32) : Lays [a, b, c] := fun e he => by
 simp only [List.mem_cons, List.not_mem_nil, or_false] at he
 rcases he with rfl | rfl | rfl
 ·exact ha
 ·exact hb
 ·exact hc
theorem rows_lay (l : List (R × R)) : (PyData.tuple (l.map dRo)).canLay0 = true /\ (PyData.tuple (l.map dRo)).depth ≤ 32 := ⟨lay_map fun w _ => rfl, Nat.le_trans (dep_map fun w _ => dRo_depth2 w) (by decide)⟩
theorem str_lay {x : Str} (h : Asc x) : (PyData.str x).canLay0 = true /\ (PyData.str x).depth ≤ 32 := ⟨h.lay, Nat.zero_le _⟩
theorem als_all {α : Type} {P : Hp -> V -> α -> Prop} {H : Hp} : ∀ {ys : List V} {as : List α}, Als (OpV P H) ys (as.map some) -> Als (P H) ys as
 | [], [], _ => .nil
 | _ :: _, _ :: _, .cons h t => .cons h (als_all t)
theorem all_some {α : Type} {f : α -> PyData} (hf : ∀ a, someD (f a) = true) (os : List (Option α)) : (os.map (oD f)).all someD = os.all (·.isSome) := by
 rw [List.all_map]
 congr 1
 funext o
 cases o with
 | none => rfl
 | some a => exact hf a
theorem all_allM {α β : Type} {f : α -> Option β} {xs : List α} : (xs.map f).all (·.isSome) = (allM f xs).isSome := by
 induction xs with
 | nil => rfl
 | cons x xs ih =>
  rw [List.map_cons, List.all_cons, ih]
  show _ = (match f x, allM f xs with
   | some a, some l => some (a :: l)
   | _, _ => none).isSome
  cases f x with
  | none => rfl
  | some a => cases allM f xs <;> rfl
theorem ne_cons {ws : List Str} (h : ws ≠ []) : ∃ a r, ws = a :: r := by
 cases ws with
 | nil => exact absurd rfl h
 | cons a r => exact ⟨a, r, rfl⟩
theorem ab_tp : ¬ Str.ofString "table" = Str.ofString "power" := by decide
theorem minus_of {x : Str} (c : Txt.startswith x (Str.ofString "-") = true) : ∃ y, x = Str.ofString "-" ++ y := by
 have c' := (starts_one x 45).mp c
 cases e : cpl x with
 | nil => rw [e] at c'; cases c'
 | cons a l =>
  rw [e] at c'
  cases c'
  refine ⟨⟨l.toArray⟩, cpl_inj ?_⟩
  rw [cpl_app, e]
  rfl
theorem Wx.rest {y : Str} (h : Wx (Str.ofString "-" ++ y)) : Wx y := by
 have hl := h.len
 rw [Str.length_append] at hl
 exact ⟨fun c hc => h.asc c (by rw [cpl_app]; exact List.mem_append_right _ hc), by omega⟩
theorem work_not_lean {ws : List Str} {w : WD} (h : workM ws = some w) : leanM ws = none := by
 rw [(workM_some h).2]
 exact leanM_len (by show 4 ≠ 3; decide)
theorem take_succ' {xs : List Str} {i : Nat} {x : Str} (h : xs[i]? = some x) : xs.take (i + 1) = xs.take i ++ [x] := by
 rw [List.take_add_one, h]
 rfl
theorem str_at {xs : List Str} {i : Nat} {v : V} (h : (xs.map V.str)[i]? = some v) : ∃ x, xs[i]? = some x /\ v = .str x := by
 rw [List.getElem?_map] at h
 cases e : xs[i]? with
 | none => rw [e] at h; cases h
 | some x => rw [e] at h; exact ⟨x, rfl, (Option.some.inj h).symm⟩
theorem Lx.fits {x : Str} (h : Lx x) : x.length + 2 ≤ sizeLine := Nat.le_trans (m := 50000) (by have := h.len; omega) (by decide)
def sp_law_some_sheet (K : Fg) : Sp := fun vs H Q _ => ∃ t s : Addr, vs = [.ref t] /\ Tape H t s /\ ∀ (v : V) (ws : List WD) (es : List R) (H' : Hp), (∀ w ∈ ws, WOk w) -> (∀ e ∈ es, LOk e) -> ws.length ≤ 50 -> es.length ≤ 50 -> Step t H H' -> Tape H' t s -> ShV K H' v ws es -> Q v H'
abbrev txtTo (H : Hp) (Q : VK) (x : Str) : Prop := ∀ H', Same H H' -> Q (.str x) H'
abbrev linesTo (H : Hp) (Q : VK) (xs : List Str) : Prop := ∀ (l : Addr) (H' : Hp), Same H H' -> H' l = some (.lst (xs.map V.str)) -> Q (.ref l) H'
def sp_number_text0 (_ : Fg) : Sp := fun vs H Q _ => ∃ i : Int, vs = [.int i] /\ 0 ≤ i /\ NB i /\ txtTo H Q (numT i)
def sp_number_text (_ : Fg) : Sp := fun vs H Q _ => ∃ i : Int, vs = [.int i] /\ NB i /\ txtTo H Q (numT i)
def sp_ratio_text (K : Fg) : Sp := fun vs H Q _ => ∃ (v : V) (r : R), vs = [v] /\ RV K H v r /\ NB r.1 /\ NB r.2 /\ txtTo H Q (ratT r)
def sp_work_text (K : Fg) : Sp := fun vs H Q _ => ∃ (v : V) (w : WD), vs = [v] /\ WorkV K H v w /\ WOk w /\ txtTo H Q (joinS (workW w))
def sp_lean_text (K : Fg) : Sp := fun vs H Q _ => ∃ (v : V) (l : R), vs = [v] /\ RV K H v l /\ LOk l /\ txtTo H Q (joinS (leanW l))
def sp_piece_text (K : Fg) : Sp := fun vs H Q _ => ∃ (v : V) (w : Int × R), vs = [v] /\ PieceV K H v w /\ POk w /\ txtTo H Q (pieceT w)
def sp_row_text (K : Fg) : Sp := fun vs H Q _ => ∃ (v : V) (w : R × R), vs = [v] /\ RowV K H v w /\ ROk w /\ txtTo H Q (rowT w)
def sp_sheet_lines (K : Fg) : Sp := fun vs H Q _ => ∃ (v : V) (ws : List WD) (es : List R), vs = [v] /\ ShV K H v ws es /\ (∀ w ∈ ws, WOk w) /\ (∀ e ∈ es, LOk e) /\ ws.length ≤ 140 /\ es.length ≤ 140 /\ linesTo H Q (shL ws es)
def sp_plan_lines (K : Fg) : Sp := fun vs H Q _ => ∃ (v : V) (pl : List (List (Int × R))), vs = [v] /\ PlV K H v pl /\ pl.length ≤ 140 /\ (∀ ps ∈ pl, ps.length ≤ 140 /\ ∀ w ∈ ps, POk w) /\ linesTo H Q (plL pl)
def ruLen : RuD -> Nat
 | .pow _ => 0
 | .tab rs => rs.length
def sp_rule_text (K : Fg) : Sp := fun vs H Q _ => ∃ (v : V) (r : RuD), vs = [v] /\ RuV K H v r /\ RuG r /\ ruLen r ≤ 140 /\ txtTo H Q (joinS (ruW r))
def sp_law_rule_lines (K : Fg) : Sp := fun vs H Q _ => ∃ (v : V) (r : RuD), vs = [v] /\ RuV K H v r /\ RuG r /\ ruLen r ≤ 140 /\ linesTo H Q [joinS (ruW r)]
theorem lenOk {n : Nat} {x y : Str} (h : Tx n (x ++ y)) (l : n ≤ 16777216 := by decide) : x.length + y.length ≤ sizeLine := by
 have e : sizeLine = 16777216 := by decide
 have := h.len
 rw [Str.length_append] at this
 omega
theorem mem_ok {α : Type} {ds : List α} {Ok : α -> Prop} (h : ∀ d ∈ ds, Ok d) {i : Nat} {d : α} (e : ds[i]? = some d) : Ok d := h d (List.mem_of_getElem? e)
theorem als_at {α : Type} {P : V -> α -> Prop} {xs : List V} {ds : List α} (h : Als P xs ds) {i : Nat} {x : V} {d : α} (e : xs[i]? = some x) (q : ds[i]? = some d) : P x d := by
 obtain ⟨d', q', p⟩ := h.at e
 rw [q] at q'
 cases q'
 exact p
theorem le1000 {n m : Nat} (h : n ≤ m) (k : m ≤ 1000 := by decide) : n ≤ 1000 := Nat.le_trans h k
theorem txW {w : WD} (h : WOk w) : ∀ y ∈ workW w, Tx 200 y := by
 intro y hy
 simp only [workW, List.mem_cons, List.not_mem_nil, or_false] at hy
 rcases hy with rfl | rfl | rfl | rfl
 ·exact Tx.lit
 ·exact (num_tx h.1).mono (by decide)
 ·exact (num_tx h.2.1).mono (by decide)
 ·exact (rat_tx h.2.2).mono (by decide)
theorem txL {w : R} (h : LOk w) : ∀ y ∈ leanW w, Tx 200 y := by
 intro y hy
 simp only [leanW, List.mem_cons, List.not_mem_nil, or_false] at hy
 rcases hy with rfl | rfl | rfl
 ·exact Tx.lit
 ·exact (num_tx h.1).mono (by decide)
 ·exact (num_tx h.2).mono (by decide)
theorem txTurn {s : List (Int × R)} (h : ∀ w ∈ s, POk w) : ∀ y ∈ turnW s, Tx 200 y := by
 intro y hy
 rcases List.mem_cons.mp hy with rfl | hy
 ·exact Tx.lit
 ·obtain ⟨w, hw, rfl⟩ := List.mem_map.mp hy
  exact piece_tx (h w hw)
theorem txRule : ∀ {r : RuD}, RuG r -> ∀ y ∈ ruW r, Tx 200 y
 | .pow n, h, y, hy => by
  simp only [ruW, List.mem_cons, List.not_mem_nil, or_false] at hy
  rcases hy with rfl | rfl
  ·exact Tx.lit
  ·exact (num_tx h).mono (by decide)
 | .tab rs, h, y, hy => by
  rcases List.mem_cons.mp hy with rfl | hy
  ·exact Tx.lit
  ·obtain ⟨w, hw, rfl⟩ := List.mem_map.mp hy
   exact row_tx (h w hw)
structure Wd (x : Str) : Prop where
 asc : Asc x
 len : x.length ≤ 200
 fr : 32 ∉ cpl x
def Lo (x : Str) : Prop := ∃ ws : List Str, ws ≠ [] /\ ws.length ≤ 102 /\ (∀ w ∈ ws, Wd w) /\ x = joinS ws
theorem Lo.spl {x : Str} {ws : List Str} (h : ∀ w ∈ ws, Wd w) (n : ws ≠ []) (e : x = joinS ws) : spl x = ws := by
 rw [e]
 exact split_join (c := 32) (fun w hw => (h w hw).fr) n
theorem lx_join {us : List Str} (h : ∀ w ∈ us, Wd w) (n : us.length ≤ 140) : Lx (joinS us) := by
 refine ⟨Asc.join asc_sp fun w hw => (h w hw).asc, ?_, ?_⟩
 ·have a := join_len (n := 200) (ws := us) fun w hw => (h w hw).len
  have b : (200 + 1) * us.length ≤ (200 + 1) * 140 := Nat.mul_le_mul_left _ n
  omega
 ·cases us with
  | nil => decide
  | cons a r =>
   have := join_count (c := 32) (ws := a :: r) (by simp) fun w hw => (h w hw).fr
   have e : (cpl (joinS (a :: r))).count 32 + 1 = (a :: r).length := this
   omega
theorem Lo.lx {x : Str} (h : Lo x) : Asc x /\ x.length ≤ 30000 /\ (cpl x).count 32 ≤ 110 := by
 obtain ⟨ws, n, l, w, rfl⟩ := h
 refine ⟨(lx_join w (by omega)).asc, ?_, ?_⟩
 ·have a := join_len (n := 200) (ws := ws) fun w' hw => (w w' hw).len
  have b : (200 + 1) * ws.length ≤ (200 + 1) * 102 := Nat.mul_le_mul_left _ l
  omega
 ·have := join_count (c := 32) n fun w' hw => (w w' hw).fr
  have e : (cpl (joinS ws)).count 32 + 1 = ws.length := this
  omega
theorem Lo.Lx {x : Str} (h : Lo x) : Lx x := let ⟨a, b, c⟩ := h.lx; ⟨a, by omega, by omega⟩
theorem Wd.lx {x : Str} (h : Wd x) : Lx x := ⟨h.asc, by have := h.len; omega, by rw [List.count_eq_zero_of_not_mem h.fr]; omega⟩
theorem lx_app {x y : Str} {n m : Nat} (hx : Asc x /\ x.length ≤ 30000 /\ (cpl x).count 32 ≤ 110) (ha : Asc y) (hl : y.length ≤ 10) : Lx (x ++ y) := by
 refine ⟨hx.1.app ha, by rw [Str.length_append]; have := hx.2.1; omega, ?_⟩
 rw [cpl_app, List.count_append]
 have := List.count_le_length (a := 32) (l := cpl y)
 rw [← len_cpl] at this
 have := hx.2.2
 omega
theorem lx_app' {x y : Str} (hx : Asc x /\ x.length ≤ 30000 /\ (cpl x).count 32 ≤ 110) (ha : Asc y) (hl : y.length ≤ 10) : Lx (y ++ x) := by
 refine ⟨ha.app hx.1, by rw [Str.length_append]; have := hx.2.1; omega, ?_⟩
 rw [cpl_app, List.count_append]
 have := List.count_le_length (a := 32) (l := cpl y)
 rw [← len_cpl] at this
 have := hx.2.2
 omega
theorem up_one : ∀ c, c < 128 -> cpl (Txt.upper ⟨#[c]⟩) = [if 97 ≤ c /\ c ≤ 122 then c - 32 else c] := fun c h => by rw [PySem.W.KOpn.upper_one h]
theorem up_list : ∀ l : List Nat, (∀ c ∈ l, c < 128) -> cpl (Txt.upper ⟨l.toArray⟩) = l.map fun c => if 97 ≤ c /\ c ≤ 122 then c - 32 else c
 | [], _ => by decide +kernel
 | c :: l, h => by
  have e : (⟨(c :: l).toArray⟩ : Str) = (⟨#[c]⟩ : Str) ++ ⟨l.toArray⟩ := by
   apply cpl_inj
   rw [cpl_app]
   rfl
  rw [e, PySem.W.KOpn.upper_app, cpl_app, up_one c (h c List.mem_cons_self), up_list l fun d hd => h d (List.mem_cons_of_mem _ hd)]
  rfl
theorem lx_up {x : Str} (h : Lx x) : Lx (Txt.upper x) /\ (Txt.upper x).length ≤ 40000 := by
 have e : cpl (Txt.upper x) = (cpl x).map fun c => if 97 ≤ c /\ c ≤ 122 then c - 32 else c := by
  have := up_list (cpl x) h.asc
  have ex : (⟨(cpl x).toArray⟩ : Str) = x := cpl_inj rfl
  rw [ex] at this
  exact this
 have el : (Txt.upper x).length = x.length := by rw [len_cpl, len_cpl, e, List.length_map]
 have hl := h.len
 refine ⟨⟨fun c hc => ?_, by omega, ?_⟩, by omega⟩
 ·rw [e] at hc
  obtain ⟨d, hd, rfl⟩ := List.mem_map.mp hc
  have := h.asc d hd
  split <;> omega
 ·rw [e]
  refine Nat.le_trans ?_ h.bl
  have key : ∀ l : List Nat, (l.map fun c => if 97 ≤ c /\ c ≤ 122 then c - 32 else c).count 32 ≤ l.count 32 := by
   intro l
   induction l with
   | nil => exact Nat.le_refl _
   | cons a l ih =>
    rw [List.map_cons, List.count_cons, List.count_cons]
    have : ((if 97 ≤ a /\ a ≤ 122 then a - 32 else a) == 32) = true -> (a == 32) = true := fun z => by
     rw [beq_iff_eq] at z ⊢
     split at z
     ·omega
     ·exact z
    by_cases q : ((if 97 ≤ a /\ a ≤ 122 then a - 32 else a) == 32) = true
    ·rw [if_pos q, if_pos (this q)]; omega
    ·rw [if_neg q]; omega
  exact key _
theorem cutT {ws : List Str} {m : Nat} (h : m ≤ ws.length) : ∃ us : List Str, cutV (ws.map V.str) none (some (m : Int)) = us.map V.str /\ (∀ u ∈ us, u ∈ ws) /\ us.length ≤ m :=
 ⟨ws.take m, by rw [cut_to (by rw [List.length_map]; exact h), List.map_take], fun u hu => List.mem_of_mem_take hu, by rw [List.length_take]; omega⟩
theorem cutD {ws : List Str} {m : Nat} (h : m ≤ ws.length) : ∃ us : List Str, cutV (ws.map V.str) (some (m : Int)) none = us.map V.str /\ (∀ u ∈ us, u ∈ ws) /\ us.length ≤ ws.length - m :=
 ⟨ws.drop m, by rw [cut_from (by rw [List.length_map]; exact h), List.map_drop], fun u hu => List.mem_of_mem_drop hu, by rw [List.length_drop]; omega⟩
theorem cutD1 {ws : List Str} {m : Nat} (h : m < ws.length) : ∃ us : List Str, cutV (ws.map V.str) (some ((m : Int) + 1)) none = us.map V.str /\ (∀ u ∈ us, u ∈ ws) /\ us.length ≤ ws.length - (m + 1) := cutD (m := m + 1) h
def oddT : Str := Str.ofString "0 00 01 7 -0 -1 +1 1/1 2/4 1/0 0/5 3/2 -3/2 1/2/3 / 1/ /2 1: :1 1:1 0:0 1:2/4 1:2:3 1:-1" ++ Str.ofString " a A work lean turn power table Work 1.5 1e3 1_0"
theorem odd_words : (∀ w ∈ spl oddT, Wd w) /\ (spl oddT).length ≤ 141 /\ spl oddT ≠ [] := by
 have a : Asc oddT := by unfold Asc; decide +kernel
 have l : oddT.length ≤ 200 := by decide +kernel
 have b : (cpl oddT).count 32 ≤ 140 := by decide +kernel
 have h : Lx oddT := ⟨a, by omega, b⟩
 refine ⟨fun w hw => ⟨(h.words.2.1 w hw).asc, ?_, StrLaws.split_free _ 32 w hw⟩, h.words.1, h.words.2.2⟩
 have e : Str.join ⟨#[32]⟩ (spl oddT) = oddT := StrLaws.join_split _ _
 have := (mem_join (s := ⟨#[32]⟩) hw).2
 rw [e] at this
 omega
def odd5 : List Str := [Txt.mul (Str.ofString "9") 40, Txt.mul (Str.ofString "1") 41, Str.ofString "1/" ++ Txt.mul (Str.ofString "7") 41, Str.ofString "1:" ++ Txt.mul (Str.ofString "1") 41, Str.ofString ""]
theorem odd5_ok : ∀ w ∈ odd5, Wd w := by
 have h : ∀ w ∈ odd5, (∀ c ∈ cpl w, c < 128) /\ w.length ≤ 200 /\ 32 ∉ cpl w := by decide +kernel
 exact fun w hw => ⟨(h w hw).1, (h w hw).2.1, (h w hw).2.2⟩
def sp_law_bent_line (_ : Fg) : Sp := fun vs H Q _ => ∃ (t s : Addr) (x : Str), vs = [.ref t, .str x] /\ Tape H t s /\ Lo x /\ ∀ (y : Str) (H' : Hp), Lx y -> Step t H H' -> Tape H' t s -> Q (.str y) H'
def sp_law_bent (_ : Fg) : Sp := fun vs H Q _ => ∃ (t s l : Addr) (xs : List Str), vs = [.ref t, .ref l] /\ Tape H t s /\ l ≠ t /\ H l = some (.lst (xs.map V.str)) /\ (∀ x ∈ xs, Lo x) /\ xs.length ≤ 100 /\ ∀ (q : Addr) (ys : List Str) (H' : Hp), H q = none -> Step t H H' -> Tape H' t s -> q ≠ t -> H' q = some (.lst (ys.map V.str)) -> LsOk ys -> Q (.ref q) H'
theorem lx_dec {x : Str} (h : ((cpl x).all (fun c => decide (c < 128)) && (decide (x.length ≤ 40000) && decide ((cpl x).count 32 ≤ 140))) = true) : Lx x := by
 rw [Bool.and_eq_true, Bool.and_eq_true, decide_eq_true_iff, decide_eq_true_iff] at h
 exact ⟨fun c hc => of_decide_eq_true (List.all_eq_true.mp h.1 c hc), h.2.1, h.2.2⟩
theorem ls_one {x : Str} (h : Lx x) : LsOk [x] := ⟨(by decide : 1 ≤ 101), fun y hy => by rw [List.mem_singleton.mp hy]; exact h⟩
theorem ls_nil : LsOk [] := ⟨Nat.zero_le _, fun y hy => by cases hy⟩
inductive Th where
 | sh : List WD -> List R -> Th
 | ru : RuD -> Th
 | pl : List (List (Int × R)) -> Th
 | ra : R -> Th
def ThV (K : Fg) (H : Hp) (v : V) : Th -> Prop
 | .sh ws es => ShV K H v ws es
 | .ru r => RuV K H v r
 | .pl p => PlV K H v p
 | .ra r => RV K H v r
def thD : Th -> PyData
 | .sh ws es => dSh ws es
 | .ru r => dRu r
 | .pl p => dPn p
 | .ra r => dR r
def thL : Th -> List Str
 | .sh ws es => shL ws es
 | .ru r => [joinS (ruW r)]
 | .pl p => plL p
 | .ra r => [ratT r]
theorem ThV.mono {K : Fg} {H H' : Hp} {v : V} : ∀ {th : Th}, ThV K H v th -> Tst K H H' -> ThV K H' v th
 | .sh _ _, h, t => ShV.mono h t
 | .ru _, h, t => RuV.mono h t
 | .pl _, h, t => PlV.mono h t
 | .ra _, h, t => RV.mono h t
theorem ThV.deep {K : Fg} {H : Hp} {v : V} : ∀ {th : Th}, ThV K H v th -> Deep K H v (thD th)
 | .sh _ _, h => ShV.deep h
 | .ru _, h => RuV.deep h
 | .pl _, h => PlV.deep h
 | .ra _, h => RV.deep h
def readM : Nat -> List Str -> Option Th
 | 0, xs => (shF xs).map fun p => .sh p.1 p.2
 | 1, xs => (ruM xs).map .ru
 | 2, xs => (allM turnM xs).map .pl
 | _, [x] => (sratM x).map .ra
 | _, _ => none
def ThOk : Th -> Prop
 | .sh ws es => (∀ w ∈ ws, WOk w) /\ (∀ e ∈ es, LOk e) /\ ws.length ≤ 101 /\ es.length ≤ 101
 | .ru r => RuG r /\ ruLen r ≤ 140
 | .pl p => p.length ≤ 101 /\ ∀ ps ∈ p, ps.length ≤ 140 /\ ∀ w ∈ ps, POk w
 | .ra r => NB r.1 /\ NB r.2
theorem readM_some {j : Nat} {xs : List Str} {th : Th} (h : readM j xs = some th) (ok : LsOk xs) : ThOk th /\ thL th = xs := by
 have len := ok.1
 match j, h with
 | 0, h =>
  replace h : (shF xs).map (fun p => Th.sh p.1 p.2) = some th := h
  cases hs : shF xs with
  | none => rw [hs] at h; cases h
  | some p =>
   rw [hs] at h
   cases h
   obtain ⟨⟨h1, h2⟩, h3, h4⟩ := shF_some xs.length (ws := p.1) (es := p.2) rfl hs
   exact ⟨⟨h1, h2, by omega, by omega⟩, h3.symm⟩
 | 1, h =>
  replace h : (ruM xs).map Th.ru = some th := h
  cases hs : ruM xs with
  | none => rw [hs] at h; cases h
  | some r =>
   rw [hs] at h
   cases h
   cases xs with
   | nil => cases hs
   | cons x rest =>
    have lx := (ok.2 x List.mem_cons_self).words.1
    unfold ruM at hs
    dsimp only at hs
    split at hs
    ·rename_i e1
     cases hs
     obtain ⟨h1, h2⟩ := ruleM_some e1
     refine ⟨⟨h2, ?_⟩, ?_⟩
     ·have := congrArg List.length h1
      cases r with
      | pow n => exact Nat.zero_le _
      | tab rs =>
       have e : (ruW (.tab rs)).length = rs.length + 1 := by show (Str.ofString "table" :: rs.map rowT).length = _; rw [List.length_cons, List.length_map]
       show rs.length ≤ 140
       omega
     ·show [joinS (ruW r)] = _
      rw [← h1, join_spl]
    ·cases hs
 | 2, h =>
  replace h : (allM turnM xs).map Th.pl = some th := h
  cases hs : allM turnM xs with
  | none => rw [hs] at h; cases h
  | some p =>
   rw [hs] at h
   cases h
   obtain ⟨h1, h2⟩ := allM_back (g := fun ps => joinS (turnW ps)) (Ok := fun ps => ps.length ≤ 140 /\ ∀ w ∈ ps, POk w) (f := fun x => if (spl x).length ≤ 141 then turnM x else none) (fun x b q => by
    by_cases c : (spl x).length ≤ 141
    ·rw [if_pos c] at q
     obtain ⟨g1, g2⟩ := piecesM_some q
     have := congrArg List.length g2
     have e : (turnW b).length = b.length + 1 := by unfold turnW; rw [List.length_cons, List.length_map]
     exact ⟨⟨by omega, g1⟩, by rw [← g2, join_spl]⟩
    ·rw [if_neg c] at q; cases q) (xs := xs) (ys := p) (by
    refine allM_of ?_
    rw [← allM_some hs]
    exact List.map_congr_left fun x hx => if_pos (ok.2 x hx).words.1)
   refine ⟨⟨?_, h1⟩, h2.symm⟩
   have := congrArg List.length h2
   rw [List.length_map] at this
   omega
 | n + 3, h =>
  match xs, h with
  | [x], h =>
   replace h : (sratM x).map Th.ra = some th := h
   cases hs : sratM x with
   | none => rw [hs] at h; cases h
   | some r =>
    rw [hs] at h
    cases h
    obtain ⟨h1, h2, h3⟩ := sratM_some hs
    exact ⟨⟨h2, h3⟩, by rw [h1]; rfl⟩
theorem th_shows {th : Th} (ok : ThOk th) : Shows (thD th) := by
 cases th with
 | sh ws es =>
  obtain ⟨okw, oke, w100, e100⟩ := ok
  exact (sz_two (n := 152614) (k := 3) (N := 310000) (sz_map (n := 1509) (k := 2) (m := 101) (fun w hw => sz_three (n := 500) (k := 1) ((Sz.int (okw w hw).1.nb).mono (by decide) (by decide)) ((Sz.int (okw w hw).2.1.nb).mono (by decide) (by decide)) (sz_rg (okw w hw).2.2) (by decide)) w100 (by decide)) ((sz_map (n := 500) (k := 1) (m := 101) (fun e he => sz_rat (oke e he).1.nb (oke e he).2.nb) e100 (by decide)).mono (Nat.le_refl _) (by decide)) (by decide)).shows
 | ru r =>
  cases r with
  | pow n => exact (sz_two (n := 200) (k := 0) (N := 407) ((Sz.str (Tx.lit (n := 5))).mono (by decide) (Nat.le_refl _)) (Sz.int (NG.nb ok.1)) (by decide)).shows
  | tab rs => exact (sz_two (n := 141263) (k := 3) (N := 302300) ((Sz.str (Tx.lit (n := 5))).mono (by decide) (by decide)) (sz_map (n := 1007) (k := 2) (m := 140) (fun w hw => sz_two (n := 500) (k := 1) (sz_rg (ok.1 w hw).1) (sz_rg (ok.1 w hw).2) (by decide)) ok.2 (by decide)) (by decide)).shows
 | pl p => exact (sz_map (n := 141263) (k := 3) (m := 101) (N := 14267768) (fun ps hps => sz_map (n := 1007) (k := 2) (m := 140) (fun w hw => sz_two (n := 500) (k := 1) ((Sz.int ((ok.2 ps hps).2 w hw).1.nb).mono (by decide) (by decide)) (sz_rg ((ok.2 ps hps).2 w hw).2) (by decide)) (ok.2 ps hps).1 (by decide)) ok.1 (by decide)).shows
 | ra r => exact (sz_rat ok.1 ok.2).shows
def ArgV (H : Hp) (v : V) (j : Nat) (xs : List Str) : Prop := if j < 3 then ∃ l, v = .ref l /\ H l = some (.lst (xs.map V.str)) else ∃ x, v = .str x /\ xs = [x]
theorem ArgV.mono {H H' : Hp} {v : V} {j : Nat} {xs : List Str} (h : ArgV H v j xs) (s : Same H H') : ArgV H' v j xs := by
 unfold ArgV at h ⊢
 split
 ·rename_i c
  rw [if_pos c] at h
  obtain ⟨l, e, q⟩ := h
  exact ⟨l, e, s _ _ q⟩
 ·rename_i c
  rw [if_neg c] at h
  exact h
def aR (t : Ad) : Nat -> Addr
 | 0 => t.a_Q17
 | 1 => t.a_Q24
 | 2 => t.a_Q23
 | _ => t.a_Q16
def aW (t : Ad) : Nat -> Addr
 | 0 => t.a_Q15
 | 1 => t.a_Q6
 | _ => t.a_Q20
def spR (K : Fg) (C : Addr) (j : Nat) : Sp := fun vs H Q E => ∃ (v : V) (xs : List Str), vs = [v] /\ ArgV H v j xs /\ LsOk xs /\ (∀ th, readM j xs = some th -> ∀ (v : V) (H' : Hp), Same H H' -> ThV K H' v th -> Q v H') /\ (readM j xs = none -> ∀ (dd : Addr) (H' : Hp) (n : Int), Same H H' -> H' dd = some (dO dd [("at", .int n)]) -> E (.ref C) (some dd) H')
def spW (K : Fg) (j : Nat) : Sp := fun vs H Q _ => ∃ (v : V) (th : Th) (xs : List Str), vs = [v] /\ ThV K H v th /\ LsOk xs /\ readM j xs = some th /\ linesTo H Q xs
def WR (K : Fg) (t : Ad) (E0 : XK) : Addr -> Sp -> XK -> Prop := fun a sp E => ∃ j, j < 4 /\ a = aR t j /\ sp = spR K t.c_Q44 j /\ E = E0
def WW (K : Fg) (t : Ad) : Addr -> Sp -> XK -> Prop := fun a sp E => ∃ j, j < 3 /\ a = aW t j /\ sp = spW K j /\ E = L2.E0
theorem shF_bad {xs : List Str} {n : Nat} (h : ShBad xs n) : shF xs = none := by
 obtain ⟨p, x, h1, h2, h3⟩ := h
 have none' : ∀ ys : List Str, ys.foldl (fun o x => o.bind fun p => shStep p x) none = none := by
  intro ys
  induction ys with
  | nil => rfl
  | cons y ys ih => exact ih
 have e : xs = xs.take n ++ x :: xs.drop (n + 1) := by
  have hn := (List.getElem?_eq_some_iff.mp h2)
  obtain ⟨hn, hx⟩ := hn
  rw [← hx, ← List.drop_eq_getElem_cons hn, List.take_append_drop]
 rw [e]
 unfold shF
 rw [List.foldl_append]
 have h1' : List.foldl (fun o x => o.bind fun p => shStep p x) (some ([], [])) (xs.take n) = some p := h1
 rw [h1', List.foldl_cons]
 show List.foldl _ (shStep p x) _ = none
 rw [h3]
 exact none' _
theorem plM_bad {xs : List Str} {n : Nat} (h : PlBad xs n) : allM turnM xs = none := by
 obtain ⟨p, x, h1, h2, h3⟩ := h
 cases e : allM turnM xs with
 | none => rfl
 | some ys =>
  have := allM_some e
  have hx : (xs.map turnM)[n]? = some none := by rw [List.getElem?_map, h2]; show some (turnM x) = _; rw [h3]
  rw [this, List.getElem?_map] at hx
  cases q : ys[n]? with
  | none => rw [q] at hx; cases hx
  | some y => rw [q] at hx; cases hx
theorem ruM_bad {xs : List Str} {n : Nat} (h : RuBad xs n) : ruM xs = none := by
 rcases h with ⟨_, rfl | ⟨x, r, rfl, e⟩⟩ | ⟨_, x, r, ru, rfl, e, ne⟩
 ·rfl
 ·unfold ruM
  dsimp only
  rw [e]
 ·unfold ruM
  dsimp only
  rw [e]
  cases r with
  | nil => exact absurd rfl ne
  | cons a b => rfl
section
variable {X : Cx} {t : Ad} {k0 k1 k2 k3 : Nat} {E0 : XK}
theorem wr_fn (T : Txt X.K X.mg t) (h0 : FnOk X.prog X.w X.K X.mg X.base (CXD X.prog X.w) k0 t.a_Q17 t.d_Q17 ["lines"] (sp_read_sheet X.K t.c_Q44)) (h1 : FnOk X.prog X.w X.K X.mg X.base (CXD X.prog X.w) k1 t.a_Q24 t.d_Q24 ["lines"] (sp_read_rule X.K t.c_Q44))
  (h2 : FnOk X.prog X.w X.K X.mg X.base (CXD X.prog X.w) k2 t.a_Q23 t.d_Q23 ["lines"] (sp_read_plan X.K t.c_Q44)) (h3 : FnOk X.prog X.w X.K X.mg X.base (CXD X.prog X.w) k3 t.a_Q16 t.d_Q16 ["text"] (sp_read_ratio X.K t.c_Q44))
  (r0 : Room k0 X.A) (r1 : Room k1 X.A) (r2 : Room k2 X.A) (r3 : Room k3 X.A) (hx : Passes (CXD X.prog X.w) X E0) : ∀ a sp E, WR X.K t E0 a sp E -> FnV X a sp E := by
 rintro a sp E ⟨j, hj, rfl, rfl, rfl⟩
 match j, hj with
 | 0, _ =>
  refine ⟨_, _, _, _, h0.imp fun vs H Q E h => ?_, r0, T.F_Q17.kp, T.b_Q17, hx⟩
  obtain ⟨v, xs, rfl, ⟨l, rfl, hl⟩, ok, k, ke⟩ := h
  exact ⟨l, xs, rfl, hl, ok, fun ws es e v H' s' q => k (.sh ws es) (by show (shF xs).map _ = _; rw [e]; rfl) v H' s' q, fun n hn dd H' s' hd => ke (by show (shF xs).map _ = _; rw [shF_bad hn]; rfl) dd H' n s' hd⟩
 | 1, _ =>
  refine ⟨_, _, _, _, h1.imp fun vs H Q E h => ?_, r1, T.F_Q24.kp, T.b_Q24, hx⟩
  obtain ⟨v, xs, rfl, ⟨l, rfl, hl⟩, ok, k, ke⟩ := h
  exact ⟨l, xs, rfl, hl, ok, fun r e v H' s' q => k (.ru r) (by show (ruM xs).map _ = _; rw [e]; rfl) v H' s' q, fun n hn dd H' s' hd => ke (by show (ruM xs).map _ = _; rw [ruM_bad hn]; rfl) dd H' n s' hd⟩
 | 2, _ =>
  refine ⟨_, _, _, _, h2.imp fun vs H Q E h => ?_, r2, T.F_Q23.kp, T.b_Q23, hx⟩
  obtain ⟨v, xs, rfl, ⟨l, rfl, hl⟩, ok, k, ke⟩ := h
  exact ⟨l, xs, rfl, hl, ok, fun r e v H' s' q => k (.pl r) (by show (allM turnM xs).map _ = _; rw [e]; rfl) v H' s' q, fun n hn dd H' s' hd => ke (by show (allM turnM xs).map _ = _; rw [plM_bad hn]; rfl) dd H' n s' hd⟩
 | 3, _ =>
  refine ⟨_, _, _, _, h3.imp fun vs H Q E h => ?_, r3, T.F_Q16.kp, T.b_Q16, hx⟩
  obtain ⟨v, xs, rfl, ⟨x, rfl, rfl⟩, ok, k, ke⟩ := h
  exact ⟨x, rfl, (ok.2 x List.mem_cons_self).wx, fun r e v H' s' q => k (.ra r) (by show (sratM x).map _ = _; rw [e]; rfl) v H' s' q, fun n hn dd H' s' hd => ke (by show (sratM x).map _ = _; rw [hn.2]; rfl) dd H' n s' hd⟩
theorem ww_fn (T : Txt X.K X.mg t) (h0 : FnOk X.prog X.w X.K X.mg X.base CX0 k0 t.a_Q15 t.d_Q15 ["sheet"] (sp_sheet_lines X.K)) (h1 : FnOk X.prog X.w X.K X.mg X.base CX0 k1 t.a_Q6 t.d_Q6 ["_law_rule"] (sp_law_rule_lines X.K))
  (h2 : FnOk X.prog X.w X.K X.mg X.base CX0 k2 t.a_Q20 t.d_Q20 ["plan"] (sp_plan_lines X.K)) (r0 : Room k0 X.A) (r1 : Room k1 X.A) (r2 : Room k2 X.A) : ∀ a sp E, WW X.K t a sp E -> FnV X a sp E := by
 rintro a sp E ⟨j, hj, rfl, rfl, rfl⟩
 match j, hj with
 | 0, _ =>
  refine ⟨_, _, _, _, h0.imp fun vs H Q E h => ?_, r0, T.F_Q15.kp, T.b_Q15, pass0⟩
  obtain ⟨v, th, xs, rfl, tv, ok, e, k⟩ := h
  obtain ⟨ho, hl⟩ := readM_some e ok
  have e' : (shF xs).map (fun p => Th.sh p.1 p.2) = some th := e
  cases hs : shF xs with
  | none => rw [hs] at e'; cases e'
  | some p =>
   rw [hs] at e'
   cases e'
   rw [← hl] at k
   obtain ⟨o1, o2, o3, o4⟩ := ho
   exact ⟨v, p.1, p.2, rfl, tv, o1, o2, by omega, by omega, k⟩
 | 1, _ =>
  refine ⟨_, _, _, _, h1.imp fun vs H Q E h => ?_, r1, T.F_Q6.kp, T.b_Q6, pass0⟩
  obtain ⟨v, th, xs, rfl, tv, ok, e, k⟩ := h
  obtain ⟨ho, hl⟩ := readM_some e ok
  have e' : (ruM xs).map Th.ru = some th := e
  cases hs : ruM xs with
  | none => rw [hs] at e'; cases e'
  | some p =>
   rw [hs] at e'
   cases e'
   rw [← hl] at k
   exact ⟨v, p, rfl, tv, ho.1, ho.2, k⟩
 | 2, _ =>
  refine ⟨_, _, _, _, h2.imp fun vs H Q E h => ?_, r2, T.F_Q20.kp, T.b_Q20, pass0⟩
  obtain ⟨v, th, xs, rfl, tv, ok, e, k⟩ := h
  obtain ⟨ho, hl⟩ := readM_some e ok
  have e' : (allM turnM xs).map Th.pl = some th := e
  cases hs : allM turnM xs with
  | none => rw [hs] at e'; cases e'
  | some p =>
   rw [hs] at e'
   cases e'
   rw [← hl] at k
   exact ⟨v, p, rfl, tv, by have := ho.1; omega, ho.2, k⟩
end
section
variable {P : Program} {w : World} {K : Fg} {mg : Str -> Option Value} {base : Heap} {X : Cx} {t : Ad} {k0 k1 k2 k3 : Nat} {E0 : XK}
theorem wr_fnX (T : Txt K mg t) (h0 : FnOk P w K mg base (CXD P w) k0 t.a_Q17 t.d_Q17 ["lines"] (sp_read_sheet K t.c_Q44)) (h1 : FnOk P w K mg base (CXD P w) k1 t.a_Q24 t.d_Q24 ["lines"] (sp_read_rule K t.c_Q44))
  (h2 : FnOk P w K mg base (CXD P w) k2 t.a_Q23 t.d_Q23 ["lines"] (sp_read_plan K t.c_Q44)) (h3 : FnOk P w K mg base (CXD P w) k3 t.a_Q16 t.d_Q16 ["text"] (sp_read_ratio K t.c_Q44))
  (e1 : X.prog = P) (e2 : X.w = w) (e3 : X.K = K) (e4 : X.mg = mg) (e5 : X.base = base)
  (r0 : Room k0 X.A) (r1 : Room k1 X.A) (r2 : Room k2 X.A) (r3 : Room k3 X.A) (hx : Passes (CXD P w) X E0) : ∀ a sp E, WR K t E0 a sp E -> FnV X a sp E := by
 subst e1 e2 e3 e4 e5
 exact wr_fn T h0 h1 h2 h3 r0 r1 r2 r3 hx
theorem ww_fnX (T : Txt K mg t) (h0 : FnOk P w K mg base CX0 k0 t.a_Q15 t.d_Q15 ["sheet"] (sp_sheet_lines K)) (h1 : FnOk P w K mg base CX0 k1 t.a_Q6 t.d_Q6 ["_law_rule"] (sp_law_rule_lines K))
  (h2 : FnOk P w K mg base CX0 k2 t.a_Q20 t.d_Q20 ["plan"] (sp_plan_lines K)) (e1 : X.prog = P) (e2 : X.w = w) (e3 : X.K = K) (e4 : X.mg = mg) (e5 : X.base = base) (r0 : Room k0 X.A) (r1 : Room k1 X.A) (r2 : Room k2 X.A) : ∀ a sp E, WW K t a sp E -> FnV X a sp E := by
 subst e1 e2 e3 e4 e5
 exact ww_fn T h0 h1 h2 r0 r1 r2
end
def sp_law_read (K : Fg) (t : Ad) : Sp := fun vs H Q _ => ∃ (j : Nat) (v : V) (xs : List Str), j < 4 /\ vs = [.ref (aR t j), v] /\ ArgV H v j xs /\ LsOk xs /\ (∀ th, readM j xs = some th -> ∀ (l : Addr) (v : V) (H' : Hp), Same H H' -> ThV K H' v th -> H' l = some (.lst [v]) -> Q (.ref l) H') /\ (∀ (l : Addr) (H' : Hp), Same H H' -> H' l = some (.lst []) -> Q (.ref l) H')
theorem wd_num {n : Int} (h : NG n) : Wd (numT n) := ⟨asc_num h, by have := len_num' h; omega, num_free' h (by decide)⟩
theorem wd_rat {r : R} (h : Rg r) : Wd (ratT r) := ⟨asc_rat h, by have := len_rat h; omega, rat_free h (by decide)⟩
theorem wd_piece {w : Int × R} (h : POk w) : Wd (pieceT w) := ⟨((asc_num h.1).app asc_co).app (asc_rat h.2), by have := piece_len h; omega, piece_free h⟩
theorem wd_row {w : R × R} (h : ROk w) : Wd (rowT w) := ⟨((asc_rat h.1).app asc_co).app (asc_rat h.2), row_len h, row_free h⟩
theorem wd_lit {x : Str} (h : ((cpl x).all (fun c => decide (c < 128)) && (decide (x.length ≤ 200) && decide (32 ∉ cpl x))) = true) : Wd x := by
 rw [Bool.and_eq_true, Bool.and_eq_true, decide_eq_true_iff, decide_eq_true_iff] at h
 exact ⟨fun c hc => of_decide_eq_true (List.all_eq_true.mp h.1 c hc), h.2.1, h.2.2⟩
theorem lo_rat {r : R} (h : Rg r) : Lo (ratT r) := ⟨[ratT r], by simp, by show 1 ≤ 102; decide, fun w hw => by rw [List.mem_singleton.mp hw]; exact wd_rat h, rfl⟩
theorem lo_sheet {ws : List WD} {es : List R} (okw : ∀ w ∈ ws, WOk w) (oke : ∀ e ∈ es, LOk e) : ∀ x ∈ shL ws es, Lo x := fun x hx => by
 rcases List.mem_append.mp hx with z | z
 ·obtain ⟨w, hw, rfl⟩ := List.mem_map.mp z
  have o := okw w hw
  refine ⟨workW w, by simp [workW], by show 4 ≤ 102; decide, fun y hy => ?_, rfl⟩
  simp only [workW, List.mem_cons, List.not_mem_nil, or_false] at hy
  rcases hy with rfl | rfl | rfl | rfl
  ·exact wd_lit (by decide)
  ·exact wd_num o.1
  ·exact wd_num o.2.1
  ·exact wd_rat o.2.2
 ·obtain ⟨w, hw, rfl⟩ := List.mem_map.mp z
  have o := oke w hw
  refine ⟨leanW w, by simp [leanW], by show 3 ≤ 102; decide, fun y hy => ?_, rfl⟩
  simp only [leanW, List.mem_cons, List.not_mem_nil, or_false] at hy
  rcases hy with rfl | rfl | rfl
  ·exact wd_lit (by decide)
  ·exact wd_num o.1
  ·exact wd_num o.2
theorem lo_rule {r : RuD} (h : RuOk r) : ∀ x ∈ [joinS (ruW r)], Lo x := fun x hx => by
 rw [List.mem_singleton.mp hx]
 cases r with
 | pow n =>
  refine ⟨ruW (.pow n), by simp [ruW], by show 2 ≤ 102; decide, fun y hy => ?_, rfl⟩
  simp only [ruW, List.mem_cons, List.not_mem_nil, or_false] at hy
  rcases hy with rfl | rfl
  ·exact wd_lit (by decide)
  ·exact wd_num h
 | tab rs =>
  refine ⟨ruW (.tab rs), by simp [ruW], ?_, fun y hy => ?_, rfl⟩
  ·show (Str.ofString "table" :: rs.map rowT).length ≤ 102
   rw [List.length_cons, List.length_map]
   have := h.2
   omega
  ·rcases List.mem_cons.mp hy with z | z
   ·rw [z]; exact wd_lit (by decide)
   ·obtain ⟨w, hw, rfl⟩ := List.mem_map.mp z
    exact wd_row (h.1 w hw)
theorem lo_plan {pl : List (List (Int × R))} (h : PlOk pl) : ∀ x ∈ plL pl, Lo x := fun x hx => by
 obtain ⟨ps, hps, rfl⟩ := List.mem_map.mp hx
 obtain ⟨l100, ok⟩ := h.2 ps hps
 refine ⟨turnW ps, by simp [turnW], ?_, fun y hy => ?_, rfl⟩
 ·unfold turnW
  rw [List.length_cons, List.length_map]
  omega
 ·rcases List.mem_cons.mp hy with z | z
  ·rw [z]; exact wd_lit (by decide)
  ·obtain ⟨w, hw, rfl⟩ := List.mem_map.mp z
   exact wd_piece (ok w hw)
theorem tape_ne {H : Hp} {t s l : Addr} {xs : List Str} (T : Tape H t s) (h : H l = some (.lst (xs.map V.str))) : l ≠ t := fun z => by
 subst z
 obtain ⟨ns, p, q, r, e, _⟩ := T.ex
 rw [h] at e
 cases xs with
 | nil => cases e
 | cons a b => cases e
def LnV (H : Hp) (v : V) : Prop := ∃ (q : Addr) (zs : List Str), v = .ref q /\ H q = some (.lst (zs.map V.str)) /\ LsOk zs
theorem LnV.same {H H' : Hp} {v : V} (h : LnV H v) (s : Same H H') : LnV H' v := let ⟨q, zs, e, hq, ok⟩ := h; ⟨q, zs, e, s _ _ hq, ok⟩
theorem eqv_ls (xs : List Str) : PyData.eqv (.list (xs.map PyData.str)) (.list (xs.map PyData.str)) = true := eqv_strs xs
theorem sc_Q29 : FnScope ["thing"] ["thing"] (defScope s_Q29) := scA
theorem sc_Q13 : FnScope ["thing", "length"] ["thing", "length"] (defScope s_Q13) := scA
theorem sc_Q42 : FnScope ["thing"] ["thing"] (defScope s_Q42) := scA
theorem sc_Q0 : FnScope ["one", "other", "high", "low", "rest"] ["one", "other"] (defScope s_Q0) := scA
theorem sc_Q30 : FnScope ["thing", "top", "bottom"] ["thing"] (defScope s_Q30) := scA
theorem sc_Q21 : FnScope ["text"] ["text"] (defScope s_Q21) := scA
theorem sc_Q31 : FnScope ["text", "parts", "top", "bottom"] ["text"] (defScope s_Q31) := scA
theorem sc_Q7 : FnScope ["parts"] ["parts"] (defScope s_Q7) := scA
theorem sc_Q38 : FnScope ["words"] ["words"] (defScope s_Q38) := scA
theorem sc_Q39 : FnScope ["words"] ["words"] (defScope s_Q39) := scA
theorem sc_Q32 : FnScope ["word", "parts"] ["word"] (defScope s_Q32) := scA
theorem sc_Q43 : FnScope ["word", "parts"] ["word"] (defScope s_Q43) := scA
theorem sc_Q22 : FnScope ["words"] ["words"] (defScope s_Q22) := scA
theorem sc_Q40 : FnScope ["words", "told"] ["words"] (defScope s_Q40) := scA
theorem sc_Q16 : FnScope ["text", "is_below", "one"] ["text"] (defScope s_Q16) := scA
theorem sc_Q17 : FnScope ["lines", "works", "leans", "at", "line", "words", "work", "lean"] ["lines"] (defScope s_Q17) := scA
theorem sc_Q23 : FnScope ["lines", "plan", "at", "line", "pieces"] ["lines"] (defScope s_Q23) := scA
theorem sc_Q24 : FnScope ["lines", "rule"] ["lines"] (defScope s_Q24) := scA
theorem sc_Q14 : FnScope ["number", "part", "texts", "rest"] ["number"] (defScope s_Q14) := scA
theorem sc_Q18 : FnScope ["one"] ["one"] (defScope s_Q18) := scA
theorem sc_Q25 : FnScope ["work"] ["work"] (defScope s_Q25) := scA
theorem sc_Q26 : FnScope ["lean"] ["lean"] (defScope s_Q26) := scA
theorem sc_Q15 : FnScope ["sheet"] ["sheet"] (defScope s_Q15) := scA
theorem sc_Q19 : FnScope ["piece"] ["piece"] (defScope s_Q19) := scA
theorem sc_Q20 : FnScope ["plan"] ["plan"] (defScope s_Q20) := scA
theorem sc_Q33 : FnScope ["row"] ["row"] (defScope s_Q33) := scA
theorem sc_Q27 : FnScope ["rule"] ["rule"] (defScope s_Q27) := scA
theorem sc_Q34 : FnScope ["_law_script"] ["_law_script"] (defScope s_Q34) := scA
theorem sc_Q35 : FnScope ["_law_tape_here", "_law_many", "_law_script", "_law_spot", "_law_left", "_law_cell", "_law_mixed"] ["_law_tape_here", "_law_many"] (defScope s_Q35) := scA
theorem sc_Q41 : FnScope ["_law_one", "_law_other"] ["_law_one", "_law_other"] (defScope s_Q41) := scA
theorem sc_Q28 : FnScope ["_law_top", "_law_bottom", "_law_by"] ["_law_top", "_law_bottom"] (defScope s_Q28) := scA
theorem sc_Q3 : FnScope ["_law_one"] ["_law_one"] (defScope s_Q3) := scA
theorem sc_Q1 : FnScope ["_law_sheet", "_law_lines"] ["_law_sheet"] (defScope s_Q1) := scA
theorem sc_Q8 : FnScope ["_law_rule"] ["_law_rule"] (defScope s_Q8) := scA
theorem sc_Q4 : FnScope ["_law_plan", "_law_lines", "_law_turn"] ["_law_plan"] (defScope s_Q4) := scA
theorem sc_Q2 : FnScope ["_law_tape_here"] ["_law_tape_here"] (defScope s_Q2) := scA
theorem sc_Q9 : FnScope ["_law_tape_here", "_law_bottom"] ["_law_tape_here"] (defScope s_Q9) := scA
theorem sc_Q5 : FnScope ["_law_tape_here", "_law_works", "_law_k", "_law_many", "_law_leans"] ["_law_tape_here"] (defScope s_Q5) := scA
theorem sc_Q10 : FnScope ["_law_tape_here", "_law_many"] ["_law_tape_here"] (defScope s_Q10) := scA
theorem sc_Q11 : FnScope ["_law_tape_here", "_law_turns", "_law_t"] ["_law_tape_here"] (defScope s_Q11) := scA
theorem sc_Q12 : FnScope ["_law_tape_here", "_law_line", "_law_words", "_law_odd", "_law_pieces", "_law_word", "_law_at", "_law_way"] ["_law_tape_here", "_law_line"] (defScope s_Q12) := scA
theorem sc_Q36 : FnScope ["_law_tape_here", "_law_lines", "_law_way", "_law_at"] ["_law_tape_here", "_law_lines"] (defScope s_Q36) := scA
theorem sc_Q6 : FnScope ["_law_rule"] ["_law_rule"] (defScope s_Q6) := scA
theorem sc_Q37 : FnScope ["_law_read_one", "_law_lines", "_law_found"] ["_law_read_one", "_law_lines"] (defScope s_Q37) := scA
theorem sc_Q45 : FnScope ["_law_script", "_law_tape_here", "_law_kinds", "_law_k", "_law_sheet", "_law_some", "_law_asked", "_law_lines", "_law_read_one", "_law_write", "_law_thing", "_law_word"] ["_law_script"] (defScope s_Q45) := scA
theorem sc_Q44 : FnScope ["self", "at"] ["self", "at"] (defScope s_Q44) := scA
end My
namespace My
open PySem L2 B PyProof.Rows
section
variable {P : Program} {w : World} {K : Fg} {mg : Str -> Option Value} {base : Heap} {t : Ad}
theorem ok_number_text0 (T : Txt K mg t) : FnOk P w K mg base CX0 1 t.a_Q14 t.d_Q14 ["number"] (sp_number_text0 K) := by
 refine T.F_Q14.ok sc_Q14 (fun vs H Q E h => ?_) (fun cdv A outer s H vs Q E hr h => ?_)
 ·obtain ⟨_, rfl, _⟩ := h; rfl
 obtain ⟨i, rfl, h0, hb, k⟩ := h
 refine QSs.ok (qss_cons (qs_if (qt_cmpR op_lt (qv 0) qe_int (nomark _)) (qss_one qs_never) qss_nil)
   (qss_cons (qsA 1 sc_Q14.nd (qe_op op_pow qe_int qe_int))
   (qss_cons (qsA 2 sc_Q14.nd (qe_lst qa_nil))
   (qss_cons (qsA 3 sc_Q14.nd (qv 0))
   (qss_cons (qs_while PassesOwn.never (qt_cmpR op_ge (qv 3) (qv 1) (nomark _))
   (qss_cons qs_never
   (qss_one qs_never)))
   (qss_cons (qs_expr (qe_bm PySem.F.plainAttrs_list PySem.F.slot_list_append PySem.F.type_list_append mt_append (qv 2) (qa_cons (qe_callTy call_str_int (by rfl) T.z_str boot_str (qa_cons (qv 3) qa_nil star_name)) qa_nil star_call)))
   (qss_one (qs_ret (qe_joinRev rfl (by rfl) T.z_reversed boot_reversed qe_str (qv 2)))))))))) ?_
 try dsimp only [Cx.nox, Cx.wish, cxOf]
 refine ⟨_, rfl, _, _, rfl, rfl, _, rfl, iteD0 (by omega) ?_⟩
 refine ⟨_, _, rfl, rfl, ⟨by decide, by decide, by decide⟩, zl0, fun l hl => ?_⟩
 refine ⟨_, rfl, fun m σ H' => σ = [some (.int i), some (.int (10 ^ (64 : Int).toNat)), some (.ref l), some (.int i)] /\ H' = upd H l (.lst []), ⟨0, rfl, rfl⟩, ?_⟩
 rintro m σ H' ⟨rfl, rfl⟩
 have hlt : ¬ (i ≥ 10 ^ (64 : Int).toNat) := by
  have e : (10 : Int) ^ (64 : Int).toNat = 10 ^ 64 := rfl
  rw [e]
  have e2 : (2 : Nat) ^ 140 ≤ 10 ^ 64 := by decide
  omega
 refine ⟨_, rfl, _, rfl, _, _, rfl, rfl, _, rfl, iteD0 hlt ?_⟩
 refine ⟨_, rfl, .inl ⟨rfl, _, SqL.of upd_same⟩, _, rfl, i, rfl, log2_lt hb, l, [], _, rfl, rfl, upd_same, by decide, ?_⟩
 refine ⟨_, rfl, _, rfl, l, [numT i], rfl, by rw [upd_same]; rfl, fits_of (n := 200) (k := 0) (m := 1) Tx.lit (fun y hy => by rw [show y = numT i by simpa using hy]; exact Tx.num hb) (Nat.le_refl _), ?_⟩
 rw [joinT]
 refine k _ ?_
 rw [upd_upd]
 exact same_new hl _
theorem ok_Q29 (T : Txt K mg t) : FnOk P w K mg base CX0 1 t.a_Q29 t.d_Q29 ["thing"] (sp_is_whole K) := by
 refine T.F_Q29.ok sc_Q29 (fun vs H Q E h => ?_) (fun cdv A outer s H vs Q E hr h => ?_)
 ·obtain ⟨_, _, rfl, _⟩ := h; rfl
 obtain ⟨v, d, rfl, hD, k⟩ := h
 obtain ⟨b, c, e1, e2, e3⟩ := isi_int hD
 refine QSs.ok (qss_one (qs_ret (qe_and (qe_callB call_isiD (by rfl) T.z_isinstance boot_isinstance (qa_cons (qv 0) (qa_cons (qe_bltn (v := V.ty "int") rfl T.z_int boot_int rfl) qa_nil star_name) star_name)) (qe_one (qe_not (qe_callB call_isiD (by rfl) T.z_isinstance boot_isinstance (qa_cons (qv 0) (qa_cons (qe_bltn (v := V.ty "bool") rfl T.z_bool boot_bool rfl) qa_nil star_name) star_name))))))) ?_
 try dsimp only [Cx.nox, Cx.wish, cxOf]
 rw [e3] at k
 refine ⟨_, rfl, _, _, _, _, rfl, hD, e1, _, rfl, ?_⟩
 cases b with
 | false => exact k
 | true => exact ⟨_, rfl, _, _, _, _, rfl, hD, e2, _, rfl, k⟩
theorem ok_Q13 (T : Txt K mg t) : FnOk P w K mg base CX0 1 t.a_Q13 t.d_Q13 ["thing", "length"] (sp_is_tuple_of K) := by
 refine T.F_Q13.ok sc_Q13 (fun vs H Q E h => ?_) (fun cdv A outer s H vs Q E hr h => ?_)
 ·obtain ⟨_, _, _, rfl, _⟩ := h; rfl
 obtain ⟨v, d, m, rfl, hD, k⟩ := h
 refine QSs.ok (qss_one (qs_ret (qe_and (qe_callB call_isiD (by rfl) T.z_isinstance boot_isinstance (qa_cons (qv 0) (qa_cons (qe_bltn (v := V.ty "tuple") rfl T.z_tuple boot_tuple rfl) qa_nil star_name) star_name)) (qe_one (qe_cmpR op_eq (qe_callB call_len_seq (by rfl) T.z_len boot_len (qa_cons (qv 0) qa_nil star_name)) (qv 1) (nomark _)))))) ?_
 try dsimp only [Cx.nox, Cx.wish, cxOf]
 rcases isi_tup hD with ⟨e, p, xs, ds, rfl, rfl, hS, hA⟩ | ⟨e, no⟩
 ·refine ⟨_, rfl, _, _, _, _, rfl, hD, e, _, rfl, ?_⟩
  refine ⟨_, rfl, p, _, rfl, .inr hS, _, rfl, rfl, ?_⟩
  have q : decide ((V.int xs.length : V) = .int m) = tupD m (.tuple ds) := by
   show _ = decide (ds.length = m)
   rw [hA.len]
   refine decide_eq_decide.mpr ⟨fun z => by injection z with z; omega, fun z => by rw [z]⟩
  rw [q]
  exact k
 ·refine ⟨_, rfl, _, _, _, _, rfl, hD, e, _, rfl, ?_⟩
  rw [tupD_no no] at k
  exact k
theorem ok_Q42 (T : Txt K mg t) : FnOk P w K mg base CX0 1 t.a_Q42 t.d_Q42 ["thing"] (sp_copied K) := by
 refine T.F_Q42.ok sc_Q42 (fun vs H Q E h => ?_) (fun cdv A outer s H vs Q E hr h => ?_)
 ·obtain ⟨_, rfl, _⟩ := h; rfl
 obtain ⟨i, rfl, k⟩ := h
 refine QSs.ok (qss_cons (qs_if (qt_val (qe_callB call_isi (by rfl) T.z_isinstance boot_isinstance (qa_cons (qv 0) (qa_cons (qe_bltn (v := V.ty "list") rfl T.z_list boot_list rfl) qa_nil star_name) star_name))) (qss_one qs_never) qss_nil)
   (qss_cons (qs_if (qt_val (qe_callB call_isi (by rfl) T.z_isinstance boot_isinstance (qa_cons (qv 0) (qa_cons (qe_bltn (v := V.ty "tuple") rfl T.z_tuple boot_tuple rfl) qa_nil star_name) star_name))) (qss_one qs_never) qss_nil)
   (qss_one (qs_ret (qv 0))))) ?_
 try dsimp only [Cx.nox, Cx.wish, cxOf]
 refine ⟨_, rfl, _, _, "int", false, rfl, .int i, by decide +kernel, false, rfl, iteF ?_⟩
 refine ⟨_, rfl, _, _, "int", false, rfl, .int i, by decide +kernel, false, rfl, iteF ?_⟩
 exact ⟨_, rfl, k⟩
theorem ok_Q0 (T : Txt K mg t) : FnOk P w K mg base CX0 1 t.a_Q0 t.d_Q0 ["one", "other"] (sp_greatest_divisor K) := by
 refine T.F_Q0.ok sc_Q0 (fun vs H Q E h => ?_) (fun cdv A outer s H vs Q E hr h => ?_)
 ·obtain ⟨_, _, rfl, _⟩ := h; rfl
 obtain ⟨a, b, rfl, k⟩ := h
 refine QSs.ok (qss_cons (qsA 2 sc_Q0.nd (qe_callB call_abs (by rfl) T.z_abs boot_abs (qa_cons (qv 0) qa_nil star_name)))
   (qss_cons (qsA 3 sc_Q0.nd (qe_callB call_abs (by rfl) T.z_abs boot_abs (qa_cons (qv 1) qa_nil star_name)))
   (qss_cons (qs_while PassesOwn.never (qt_cmpR op_ne (qv 3) qe_int (nomark _))
   (qss_cons (qsA 4 sc_Q0.nd (qe_op op_mod (qv 2) (qv 3)))
   (qss_cons (qsA 2 sc_Q0.nd (qv 3))
   (qss_one (qsA 3 sc_Q0.nd (qv 4))))))
   (qss_one (qs_ret (qv 2)))))) ?_
 try dsimp only [Cx.nox, Cx.wish, cxOf]
 refine ⟨_, rfl, _, rfl, _, rfl, _, rfl, ?_⟩
 rw [abs_if, abs_if]
 refine ⟨fun m σ H' => ∃ (x y : Int) (v : Option V), σ = [some (.int a), some (.int b), some (.int x), some (.int y), v] /\ H' = H /\ 0 ≤ x /\ 0 ≤ y /\ Int.gcd x y = Int.gcd a b /\ m = y.toNat, ⟨_, _, _, _, rfl, rfl, by omega, by omega, (by simp [Int.gcd]), rfl⟩, ?_⟩
 rintro m σ H' ⟨x, y, v, rfl, rfl, hx, hy, hg, rfl⟩
 refine ⟨_, rfl, rfl, _, rfl, ?_⟩
 by_cases c : y = 0
 ·subst c
  refine iteNS rfl ?_
  rw [← hg] at k
  refine ⟨_, rfl, ?_⟩
  have e : (x : Int) = (Int.gcd x 0 : Nat) := by simp [Int.gcd]; omega
  rw [← e] at k
  exact k
 ·refine iteN1 (fun z => c (by injection z)) ?_
  refine ⟨_, fun _ _ z => z, ?_⟩
  refine ⟨_, rfl, _, rfl, _, _, rfl, rfl, (by omega), _, rfl, _, rfl, ?_⟩
  refine ⟨_, ?_, y, x % y, _, rfl, rfl, hy, Int.emod_nonneg _ c, ?_, rfl⟩
  ·have := Int.emod_lt_of_pos x (show 0 < y by omega)
   have := Int.emod_nonneg x c
   omega
  ·rw [gcd_turn hx (by omega), hg]
theorem ok_Q30 (T : Txt K mg t) : FnOk P w K mg base CX0 2 t.a_Q30 t.d_Q30 ["thing"] (sp_is_ratio K) := by
 refine T.F_Q30.ok sc_Q30 (fun vs H Q E h => ?_) (fun cdv A outer s H vs Q E hr h => ?_)
 ·obtain ⟨_, _, rfl, _⟩ := h; rfl
 obtain ⟨v, d, rfl, hD, k⟩ := h
 refine QSs.ok (qss_cons (qs_if (qt_not (qt_val (qcA (ok_Q13 T) hr T.m_Q13 T.F_Q13.kp T.b_Q13 (qa_cons (qv 0) (qa_cons qe_int qa_nil star_con) star_name)))) (qss_one (qs_ret qe_bl)) qss_nil)
   (qss_cons (qsA 1 sc_Q30.nd (qxA ix_tup (qv 0) qe_int))
   (qss_cons (qsA 2 sc_Q30.nd (qxA ix_tup (qv 0) qe_int))
   (qss_cons (qs_if (qw_pt (qw_or (qt_not (qt_val (qcA (ok_Q29 T) hr T.m_Q29 T.F_Q29.kp T.b_Q29 (qa_cons (qv 1) qa_nil star_name)))) (qw_or (qt_not (qt_val (qcA (ok_Q29 T) hr T.m_Q29 T.F_Q29.kp T.b_Q29 (qa_cons (qv 2) qa_nil star_name)))) (qw_or1 (qt_cmpR op_lt (qv 2) qe_int (nomark _)))))) (qss_one (qs_ret qe_bl)) qss_nil)
   (qss_one (qs_ret (qe_cmpR op_eq (qcA (ok_Q0 T) hr T.m_Q0 T.F_Q0.kp T.b_Q0 (qa_cons (qv 1) (qa_cons (qv 2) qa_nil star_name) star_name)) qe_int (nomark _)))))))) ?_
 try dsimp only [Cx.nox, Cx.wish, cxOf]
 refine ⟨_, rfl, v, d, 2, rfl, hD, ⟨_, rfl, ?_⟩⟩
 cases c2 : tupD 2 d with
 | false =>
  refine iteT ?_
  rw [ratD_no c2] at k
  exact k
 | true =>
  refine iteF ?_
  obtain ⟨p, x, y, dx, dy, rfl, rfl, hS, hx, hy⟩ := hD.two c2
  refine ⟨_, rfl, p, _, _, _, rfl, rfl, hS, rfl, _, rfl, p, _, _, _, rfl, rfl, hS, rfl, ?_⟩
  refine ⟨_, rfl, x, dx, rfl, hx, _, rfl, ?_⟩
  cases cx : wholeD dx with
  | false =>
   refine iteT (iteT ?_)
   rw [rat_x cx] at k
   exact k
  | true =>
   refine iteF ?_
   refine ⟨_, rfl, y, dy, rfl, hy, _, rfl, ?_⟩
   cases cy : wholeD dy with
   | false =>
    refine iteT (iteT ?_)
    rw [rat_y cy] at k
    exact k
   | true =>
    refine iteF ?_
    obtain ⟨i, rfl⟩ := wholeD_int cx
    obtain ⟨j, rfl⟩ := wholeD_int cy
    cases hx
    cases hy
    have kk : Q (.bl (decide (1 ≤ j) && decide (Int.gcd i j = 1))) H := k
    refine ⟨_, rfl, _, _, rfl, rfl, _, rfl, ?_⟩
    by_cases c : j < 1
    ·refine iteD1 c ?_
     rw [decide_eq_false (show ¬ 1 ≤ j by omega)] at kk
     exact kk
    ·refine iteD0 c ?_
     refine ⟨_, rfl, _, rfl, i, j, rfl, rfl, ?_⟩
     rw [decide_eq_true (show 1 ≤ j by omega), Bool.true_and] at kk
     have q : decide ((V.int (Int.gcd i j : Nat) : V) = .int 1) = decide (Int.gcd i j = 1) := decide_eq_decide.mpr ⟨fun z => by injection z with z; omega, fun z => by rw [z]; rfl⟩
     rw [q]
     exact kk
theorem ok_Q21 (T : Txt K mg t) : FnOk P w K mg base CX0 1 t.a_Q21 t.d_Q21 ["text"] (sp_number_of K) := by
 refine T.F_Q21.ok sc_Q21 (fun vs H Q E h => ?_) (fun cdv A outer s H vs Q E hr h => ?_)
 ·obtain ⟨_, rfl, _⟩ := h; rfl
 obtain ⟨x, rfl, wx, k⟩ := h
 refine QSs.ok (qss_cons (qs_if (qt_not (qt_chain op_le op_le qe_int (qe_callB call_len_str (by rfl) T.z_len boot_len (qa_cons (qv 0) qa_nil star_name)) (qe_glob (v := .int (40)) rfl T.m_MOST_FIGURES ⟨_, rfl⟩))) (qss_one (qs_ret qe_non)) qss_nil)
   (qss_cons (qs_if (qt_not (qt_val (qe_callB (call_allL rfl) (by rfl) T.z_all boot_all (qa_cons (qe_lcomp (N' := ["sign"]) (src := [none]) rfl (by exact (qi_str (qv 0))) (fun _ _ _ _ _ => (by exact (by exact qg_name (i := 0) (by show List.Nodup (["sign"] : List Str); decide +kernel) (by exact rfl) (by first | exact Or.inl rfl | exact Or.inr rfl)))) (fun _ _ _ _ _ => qts_nil) (fun _ _ _ _ _ => (by exact (by exact (qe_cmpR op_in_str (by exact (qv 0)) qe_str (by with_unfolding_all rfl))))) (by exact trivial) rfl (by decide +kernel) rfl (by decide +kernel) (by exact cells_of rfl trivial)) qa_nil star_lc)))) (qss_one (qs_ret qe_non)) qss_nil)
   (qss_cons (qs_if (qw_pt (qw_and (qt_cmpR op_gt (qe_callB call_len_str (by rfl) T.z_len boot_len (qa_cons (qv 0) qa_nil star_name)) qe_int (nomark _)) (qw_and1 (qt_val (qe_bm PySem.F.plainAttrs_str PySem.F.slot_str_startswith PySem.F.type_str_startswith mt_starts (qv 0) (qa_cons qe_str qa_nil star_con)))))) (qss_one (qs_ret qe_non)) qss_nil)
   (qss_one (qs_ret (qe_callTy call_intT (by rfl) T.z_int boot_int (qa_cons (qv 0) qa_nil star_name))))))) ?_
 try dsimp only [Cx.nox, Cx.wish, cxOf]
 have l4 := wx.len
 have lS : x.length ≤ sizeLine := Nat.le_trans wx.len (by decide)
 have fail : numM x = none -> ∀ H', Same H H' -> Q .non H' := fun e H' s' => by
  have := k H' s'
  rw [e] at this
  exact this
 refine ⟨_, rfl, _, rfl, lS, _, _, rfl, rfl, _, rfl, ?_⟩
 by_cases c1 : 1 ≤ x.length
 case neg =>
  refine iteD0 (by omega) ?_
  exact ⟨_, rfl, iteT (fail (if_neg fun z => c1 z.1.1) _ (Same.refl _))⟩
 refine iteD1 (by omega) ?_
 refine ⟨_, _, rfl, rfl, _, rfl, ?_⟩
 by_cases c2 : x.length ≤ 40
 case neg =>
  refine iteN1 (by omega) ?_
  exact fail (if_neg fun z => c2 z.1.2) _ (Same.refl _)
 refine iteNS (by omega) ?_
 refine ⟨_, rfl, _, rfl, wx.asc.all, fun D hD => comp_ix wlk_str (fun _ => true) (fun i => V.bl (figB (x.cps.getD i 0))) hD (by rw [show x.cps.size = x.length from rfl]; omega) (fun i y H' hi sm hx Rk E kR _ => ?_) fun H1 s1 h1 => ?_⟩
 ·obtain ⟨c, hc, rfl⟩ := hx
  have ac := wx.asc c (by
   have : x.cps.toList[i]? = some c := by rw [Array.getElem?_toList]; exact hc
   exact List.mem_of_getElem? this)
  refine ⟨Ext.set rfl, _, rfl, _, _, rfl, rfl, ?_⟩
  rw [figs_in ac]
  have e : x.cps.getD i 0 = c := by rw [Array.getD_eq_getD_getElem?, hc]; rfl
  have q := kR rfl _ (Same.refl _)
  rw [e] at q
  exact q
 have eb := figs_all x
 refine ⟨D, (cpl x).map figB, rfl, SqL.of (by rw [h1, eb]), _, rfl, ?_⟩
 have e3 : ((cpl x).map figB).all id = (cpl x).all figB := by rw [List.all_map]; rfl
 cases c3 : (cpl x).all figB with
 | false =>
  refine iteB1 (b := !((cpl x).map figB).all id) (by rw [e3, c3]; rfl) ?_
  exact fail (if_neg fun z => by rw [c3] at z; exact Bool.false_ne_true z.2.1) _ s1
 | true =>
  refine iteB0 (b := !((cpl x).map figB).all id) (by rw [e3, c3]; rfl) ?_
  refine ⟨_, rfl, _, rfl, lS, _, _, rfl, rfl, _, rfl, ?_⟩
  have fin : (1 < x.length -> Txt.startswith x (Str.ofString "0") = false) -> ∃ n : Int, PySem.intText? x = some n /\ Q (.int n) H1 := fun c4 => by
   obtain ⟨n, n40, e⟩ := num_back c1 c2 c3 c4
   have ei : PySem.intText? x = some (n : Int) := by rw [e]; exact num_int n40
   have em : numM x = some (n : Int) := by unfold numM; rw [if_pos ⟨⟨c1, c2⟩, c3, c4⟩]; exact ei
   refine ⟨n, ei, ?_⟩
   have := k H1 s1
   rw [em] at this
   exact this
  by_cases c : 1 < x.length
  ·refine iteD1 (by omega) ?_
   refine ⟨_, rfl, rfl, _, _, rfl, rfl, _, rfl, ?_⟩
   cases c5 : Txt.startswith x (Str.ofString "0") with
   | true =>
    refine iteT ?_
    exact fail (if_neg fun z => by rw [z.2.2 c] at c5; exact Bool.false_ne_true c5) _ s1
   | false =>
    refine iteF ?_
    obtain ⟨n, ei, q⟩ := fin fun _ => c5
    exact ⟨_, rfl, _, _, rfl, ei, by omega, q⟩
  ·refine iteD0 (by omega) (iteF ?_)
   obtain ⟨n, ei, q⟩ := fin fun z => absurd z c
   exact ⟨_, rfl, _, _, rfl, ei, by omega, q⟩
theorem ok_Q31 (T : Txt K mg t) : FnOk P w K mg base CX0 3 t.a_Q31 t.d_Q31 ["text"] (sp_ratio_of K) := by
 refine T.F_Q31.ok sc_Q31 (fun vs H Q E h => ?_) (fun cdv A outer s H vs Q E hr h => ?_)
 ·obtain ⟨_, rfl, _⟩ := h; rfl
 obtain ⟨x, rfl, wx, k⟩ := h
 refine QSs.ok (qss_cons (qsA 1 sc_Q31.nd (qe_bm PySem.F.plainAttrs_str PySem.F.slot_str_partition PySem.F.type_str_partition mt_partn (qv 0) (qa_cons qe_str qa_nil star_con)))
   (qss_cons (qsA 2 sc_Q31.nd (qcA (ok_Q21 T) hr T.m_Q21 T.F_Q21.kp T.b_Q21 (qa_cons (qxA ix_tup (qv 1) qe_int) qa_nil star_sub)))
   (qss_cons (qsA 3 sc_Q31.nd qe_int)
   (qss_cons (qs_if (qt_cmpR op_eq (qxA ix_tup (qv 1) qe_int) qe_str (nomark _)) (qss_cons (qsA 3 sc_Q31.nd (qcA (ok_Q21 T) hr T.m_Q21 T.F_Q21.kp T.b_Q21 (qa_cons (qxA ix_tup (qv 1) qe_int) qa_nil star_sub)))
   (qss_one (qs_if (qt_cmpR op_eq (qv 3) qe_int (nomark _)) (qss_one (qs_ret qe_non)) qss_nil))) qss_nil)
   (qss_cons (qs_if (qt_val (qcA (ok_Q30 T) hr T.m_Q30 T.F_Q30.kp T.b_Q30 (qa_cons (qe_tup (qa_cons (qv 2) (qa_cons (qv 3) qa_nil star_name) star_name)) qa_nil star_tup))) (qss_one (qs_ret (qe_tup (qa_cons (qv 2) (qa_cons (qv 3) qa_nil star_name) star_name)))) qss_nil)
   (qss_one (qs_ret qe_non))))))) ?_
 try dsimp only [Cx.nox, Cx.wish, cxOf]
 have lS : x.length ≤ sizeLine := Nat.le_trans wx.len (by decide)
 have wp : Wx (Txt.partition x (Str.ofString "/")).1 /\ Wx (Txt.partition x (Str.ofString "/")).2.2 := wx.part 47
 rw [show ratM x = ratP (Txt.partition x (Str.ofString "/")) from rfl] at k
 refine ⟨_, rfl, rfl, _, _, rfl, rfl, rfl, lS, fun p hp => ?_⟩
 generalize Txt.partition x (Str.ofString "/") = P at k wp ⊢
 obtain ⟨pa, pm, pb⟩ := P
 dsimp only at wp ⊢
 have s1 := same_new hp (.tup [.str pa, .str pm, .str pb])
 have hS : SqT K (upd H p (.tup [.str pa, .str pm, .str pb])) p [.str pa, .str pm, .str pb] := SqT.of upd_same
 generalize upd H p (.tup [.str pa, .str pm, .str pb]) = H1 at s1 hS ⊢
 refine ⟨_, rfl, p, _, _, _, rfl, rfl, hS, rfl, _, rfl, wp.1, fun H2 s2 => ?_⟩
 have s12 := s1.trans s2
 have hS2 := Tst.same (K := K) s2 _ _ hS
 refine ⟨_, rfl, p, _, _, _, rfl, rfl, hS2, rfl, rfl, _, rfl, ?_⟩
 have good : ∀ {b : Option Int} {H3 : Hp}, Same H H3 -> ratP (pa, pm, pb) = (match numM pa, b with
   | some a, some b => if 1 ≤ b /\ Int.gcd a b = 1 then some (a, b) else none
   | _, _ => none) -> ratD (.tuple [oD PyData.int (numM pa), oD PyData.int b]) = true -> ∀ p3, H3 p3 = none -> Q (.ref p3) (upd H3 p3 (.tup [oiV (numM pa), oiV b])) := by
  intro b H3 s3 em hd p3 hp3
  cases ha : numM pa with
  | none => rw [ha] at hd; cases b <;> cases hd
  | some a =>
   cases b with
   | none => rw [ha] at hd; cases hd
   | some b =>
    rw [ha] at hd em
    dsimp only at em
    have hd' : (decide (1 ≤ b) && decide (Int.gcd a b = 1)) = true := hd
    rw [Bool.and_eq_true, decide_eq_true_iff, decide_eq_true_iff] at hd'
    rw [if_pos hd'] at em
    refine k _ _ (s3.trans (same_new hp3 _)) ?_
    rw [em]
    exact RV.of upd_same
 have fail : ∀ {b : Option Int} {H3 : Hp}, Same H H3 -> ratP (pa, pm, pb) = (match numM pa, b with
   | some a, some b => if 1 ≤ b /\ Int.gcd a b = 1 then some (a, b) else none
   | _, _ => none) -> ratD (.tuple [oD PyData.int (numM pa), oD PyData.int b]) = false -> Q .non H3 := by
  intro b H3 s3 em hd
  refine k _ _ s3 ?_
  have e0 : ratP (pa, pm, pb) = none := by
   rw [em]
   cases ha : numM pa with
   | none => rfl
   | some a =>
    cases b with
    | none => rfl
    | some b =>
     rw [ha] at hd
     have hd' : (decide (1 ≤ b) && decide (Int.gcd a b = 1)) = false := hd
     refine if_neg fun z => ?_
     rw [decide_eq_true z.1, decide_eq_true z.2] at hd'
     cases hd'
  rw [e0]
  rfl
 by_cases c : pm = Str.ofString "/"
 ·refine iteD1 (by rw [c]) ?_
  refine ⟨_, rfl, p, _, _, _, rfl, rfl, hS2, rfl, _, rfl, wp.2, fun H3 s3 => ?_⟩
  have s13 := s12.trans s3
  have em : numM pb ≠ some 1 -> ratP (pa, pm, pb) = (match numM pa, numM pb with
   | some a, some b => if 1 ≤ b /\ Int.gcd a b = 1 then some (a, b) else none
   | _, _ => none) := fun n1 => by
   unfold ratP
   rw [if_pos c]
   dsimp only
   cases ha : numM pa with
   | none => rfl
   | some a =>
    cases hb : numM pb with
    | none => rfl
    | some b =>
     dsimp only
     have nb : b ≠ 1 := fun z => n1 (by rw [hb, z])
     by_cases q : 1 ≤ b /\ Int.gcd a b = 1
     ·rw [if_pos q, if_pos ⟨nb, q⟩]
     ·rw [if_neg q, if_neg fun z => q z.2]
  have e1 : numM pb = some 1 -> ratP (pa, pm, pb) = none := fun hb => by
   unfold ratP
   rw [if_pos c]
   dsimp only
   rw [hb]
   cases ha : numM pa with
   | none => rfl
   | some a => exact if_neg fun z => z.1 rfl
  cases hb : numM pb with
  | none =>
   refine ⟨_, rfl, rfl, _, rfl, iteD0 (fun z => by cases z) ?_⟩
   rw [hb] at em
   refine ⟨_, rfl, _, rfl, zl2, fun p2 hp2 => ⟨.ref p2, _, rfl, .tup (SqT.of upd_same) (.cons (oi_deep (numM pa)) (.cons (oi_deep none) .nil)), _, rfl, ?_⟩⟩
   have s4 := same_new hp2 (.tup [oiV (numM pa), oiV none])
   cases hd : ratD (.tuple [oD PyData.int (numM pa), oD PyData.int none]) with
   | true => exact iteT ⟨_, rfl, _, rfl, zl2, fun p3 hp3 => good (s13.trans s4) (em (by rintro ⟨⟩)) hd p3 hp3⟩
   | false => exact iteF (fail (s13.trans s4) (em (by rintro ⟨⟩)) hd)
  | some b =>
   by_cases b1 : b = 1
   ·refine ⟨_, rfl, rfl, _, rfl, iteD1 (by rw [b1]; rfl) ?_⟩
    refine k _ _ s13 ?_
    rw [e1 (by rw [hb, b1])]
    rfl
   ·refine ⟨_, rfl, rfl, _, rfl, iteD0 (fun z => b1 (by injection z)) ?_⟩
    rw [hb] at em
    refine ⟨_, rfl, _, rfl, zl2, fun p2 hp2 => ⟨.ref p2, _, rfl, .tup (SqT.of upd_same) (.cons (oi_deep (numM pa)) (.cons (oi_deep (some b)) .nil)), _, rfl, ?_⟩⟩
    have s4 := same_new hp2 (.tup [oiV (numM pa), oiV (some b)])
    cases hd : ratD (.tuple [oD PyData.int (numM pa), oD PyData.int (some b)]) with
    | true => exact iteT ⟨_, rfl, _, rfl, zl2, fun p3 hp3 => good (s13.trans s4) (em (fun z => b1 (by injection z))) hd p3 hp3⟩
    | false => exact iteF (fail (s13.trans s4) (em (fun z => b1 (by injection z))) hd)
 ·refine iteD0 (fun z => c (by injection z)) ?_
  have em : ∀ _ : True, ratP (pa, pm, pb) = (match numM pa, some (1 : Int) with
   | some a, some b => if 1 ≤ b /\ Int.gcd a b = 1 then some (a, b) else none
   | _, _ => none) := fun _ => by
   unfold ratP
   rw [if_neg c]
   dsimp only
   cases ha : numM pa with
   | none => rfl
   | some a => exact (if_pos ⟨by decide, Int.gcd_one_right _⟩).symm
  have s13 := s12
  refine ⟨_, rfl, _, rfl, zl2, fun p2 hp2 => ⟨.ref p2, _, rfl, .tup (SqT.of upd_same) (.cons (oi_deep (numM pa)) (.cons (oi_deep (some 1)) .nil)), _, rfl, ?_⟩⟩
  have s4 := same_new hp2 (.tup [oiV (numM pa), oiV (some 1)])
  cases hd : ratD (.tuple [oD PyData.int (numM pa), oD PyData.int (some 1)]) with
  | true => exact iteT ⟨_, rfl, _, rfl, zl2, fun p3 hp3 => good (s13.trans s4) (em trivial) hd p3 hp3⟩
  | false => exact iteF (fail (s13.trans s4) (em trivial) hd)
theorem ok_Q7 (T : Txt K mg t) : FnOk P w K mg base CX0 1 t.a_Q7 t.d_Q7 ["parts"] (sp_whole_or_none K) := by
 refine T.F_Q7.ok sc_Q7 (fun vs H Q E h => ?_) (fun cdv A outer s H vs Q E hr h => ?_)
 ·obtain ⟨_, _, _, rfl, _⟩ := h; rfl
 obtain ⟨l, xs, ds, rfl, hl, dp, ly, k, ke⟩ := h
 refine QSs.ok (qss_cons (qs_if (qt_cmpR (op_inD hr) qe_non (qv 0) (by with_unfolding_all rfl)) (qss_one (qs_ret qe_non)) qss_nil)
   (qss_one (qs_ret (qe_callTy call_tuple_of (by rfl) T.z_tuple boot_tuple (qa_cons (qv 0) qa_nil star_name))))) ?_
 try dsimp only [Cx.nox, Cx.wish, cxOf]
 refine ⟨_, rfl, l, xs, ds, .none, rfl, SqL.of hl, dp, ly, .non, rfl, rfl, _, rfl, ?_⟩
 have e : ds.any (fun d => PyData.eqv d .none) = !ds.all someD := by
  rw [List.not_all_eq_any_not]
  congr 1
  funext d
  cases d <;> rfl
 cases c : ds.all someD with
 | true => exact iteB0 (by rw [e, c]; rfl) ⟨_, rfl, l, _, rfl, .inl ⟨SqL.of hl, k c⟩⟩
 | false => exact iteB1 (by rw [e, c]; rfl) (ke c)
theorem ok_Q38 (T : Txt K mg t) : FnOk P w K mg base CX0 4 t.a_Q38 t.d_Q38 ["words"] (sp_work_of K) := by
 refine T.F_Q38.ok sc_Q38 (fun vs H Q E h => ?_) (fun cdv A outer s H vs Q E hr h => ?_)
 ·obtain ⟨_, _, rfl, _⟩ := h; rfl
 obtain ⟨l, ws, rfl, hl, wx, k⟩ := h
 refine QSs.ok (qss_cons (qs_if (qw_pt (qw_or (qt_cmpR op_ne (qe_callB call_len_seq (by rfl) T.z_len boot_len (qa_cons (qv 0) qa_nil star_name)) qe_int (nomark _)) (qw_or1 (qt_cmpR op_ne (qxA ix_list (qv 0) qe_int) qe_str (nomark _))))) (qss_one (qs_ret qe_non)) qss_nil)
   (qss_one (qs_ret (qcA (ok_Q7 T) hr T.m_Q7 T.F_Q7.kp T.b_Q7 (qa_cons (qe_lst (qa_cons (qcA (ok_Q21 T) hr T.m_Q21 T.F_Q21.kp T.b_Q21 (qa_cons (qxA ix_list (qv 0) qe_int) qa_nil star_sub)) (qa_cons (qcA (ok_Q21 T) hr T.m_Q21 T.F_Q21.kp T.b_Q21 (qa_cons (qxA ix_list (qv 0) qe_int) qa_nil star_sub)) (qa_cons (qcA (ok_Q31 T) hr T.m_Q31 T.F_Q31.kp T.b_Q31 (qa_cons (qxA ix_list (qv 0) qe_int) qa_nil star_sub)) qa_nil star_call) star_call) star_call)) qa_nil star_lst))))) ?_
 try dsimp only [Cx.nox, Cx.wish, cxOf]
 have len : (ws.map V.str).length = ws.length := List.length_map _
 have fail : workM ws = none -> ∀ H', Same H H' -> Q .non H' := fun e H' s' => k _ _ s' (by rw [e]; rfl)
 refine ⟨_, rfl, l, _, rfl, .inl (SqL.of hl), rfl, _, rfl, ?_⟩
 by_cases c4 : ws.length = 4
 case neg => exact iteN1 (fun z => by injection z with z; rw [len] at z; exact c4 (by omega)) (iteT (fail (workM_len c4) _ (Same.refl _)))
 obtain ⟨a, b, c, d, rfl⟩ := len4 c4
 refine iteNS rfl ?_
 refine ⟨_, rfl, l, _, _, _, rfl, rfl, SqL.of hl, rfl, rfl, _, rfl, ?_⟩
 by_cases ca : a = Str.ofString "work"
 case neg => exact iteN1 (fun z => ca (by injection z)) (fail (if_neg ca) _ (Same.refl _))
 refine iteNS (by rw [ca]) ?_
 refine ⟨_, rfl, l, _, _, _, rfl, rfl, SqL.of hl, rfl, b, rfl, wx b (by simp), fun H1 s1 => ?_⟩
 have hl1 := s1 _ _ hl
 refine ⟨_, rfl, l, _, _, _, rfl, rfl, SqL.of hl1, rfl, c, rfl, wx c (by simp), fun H2 s2 => ?_⟩
 have hl2 := s2 _ _ hl1
 refine ⟨_, rfl, l, _, _, _, rfl, rfl, SqL.of hl2, rfl, d, rfl, wx d (by simp), fun v H3 s3 q3 => ?_⟩
 refine ⟨zl3, fun l4 h4 => ?_⟩
 have s4 := same_new h4 (.lst [oiV (numM b), oiV (numM c), v])
 have q4 := q3.imp fun _ z => z.mono (Tst.same s4)
 have s04 := ((s1.trans s2).trans s3).trans s4
 refine ⟨l4, _, [oD PyData.int (numM b), oD PyData.int (numM c), oD dR (ratM d)], rfl, upd_same, .cons (oi_deep _) (.cons (oi_deep _) (.cons (q4.deep fun _ _ z => z.deep) .nil)), lays3 (oi_lay _) (oi_lay _) (ro_lay _), fun ha p hp => ?_, fun ha => ?_⟩
 ·have s5 := same_new hp (.tup [oiV (numM b), oiV (numM c), v])
  refine k _ _ (s04.trans s5) ?_
  have e : workM [a, b, c, d] = (match numM b, numM c, ratM d with
   | some i, some j, some r => some (i, j, r)
   | _, _, _ => none) := if_pos ca
  rw [e]
  cases hb : numM b with
  | none => rw [hb] at ha; cases ha
  | some i =>
   cases hc : numM c with
   | none => rw [hb, hc] at ha; cases ha
   | some j =>
    cases hd : ratM d with
    | none => rw [hb, hc, hd] at ha; cases ha
    | some r =>
     rw [hd] at q4
     rw [hb, hc] at q4 s5
     have q5 : RV K _ v r := RV.mono q4 (Tst.same (K := K) s5)
     exact ⟨p, v, rfl, SqT.of upd_same, q5⟩
 ·refine fail ?_ _ s04
  have e : workM [a, b, c, d] = (match numM b, numM c, ratM d with
   | some i, some j, some r => some (i, j, r)
   | _, _, _ => none) := if_pos ca
  rw [e]
  cases hb : numM b with
  | none => rfl
  | some i =>
   cases hc : numM c with
   | none => rfl
   | some j =>
    cases hd : ratM d with
    | none => rfl
    | some r => rw [hb, hc, hd] at ha; cases ha
theorem ok_Q39 (T : Txt K mg t) : FnOk P w K mg base CX0 2 t.a_Q39 t.d_Q39 ["words"] (sp_lean_of K) := by
 refine T.F_Q39.ok sc_Q39 (fun vs H Q E h => ?_) (fun cdv A outer s H vs Q E hr h => ?_)
 ·obtain ⟨_, _, rfl, _⟩ := h; rfl
 obtain ⟨l, ws, rfl, hl, wx, k⟩ := h
 refine QSs.ok (qss_cons (qs_if (qw_pt (qw_or (qt_cmpR op_ne (qe_callB call_len_seq (by rfl) T.z_len boot_len (qa_cons (qv 0) qa_nil star_name)) qe_int (nomark _)) (qw_or1 (qt_cmpR op_ne (qxA ix_list (qv 0) qe_int) qe_str (nomark _))))) (qss_one (qs_ret qe_non)) qss_nil)
   (qss_one (qs_ret (qcA (ok_Q7 T) hr T.m_Q7 T.F_Q7.kp T.b_Q7 (qa_cons (qe_lst (qa_cons (qcA (ok_Q21 T) hr T.m_Q21 T.F_Q21.kp T.b_Q21 (qa_cons (qxA ix_list (qv 0) qe_int) qa_nil star_sub)) (qa_cons (qcA (ok_Q21 T) hr T.m_Q21 T.F_Q21.kp T.b_Q21 (qa_cons (qxA ix_list (qv 0) qe_int) qa_nil star_sub)) qa_nil star_call) star_call)) qa_nil star_lst))))) ?_
 try dsimp only [Cx.nox, Cx.wish, cxOf]
 have len : (ws.map V.str).length = ws.length := List.length_map _
 have fail : leanM ws = none -> ∀ H', Same H H' -> Q .non H' := fun e H' s' => k _ _ s' (by rw [e]; rfl)
 refine ⟨_, rfl, l, _, rfl, .inl (SqL.of hl), rfl, _, rfl, ?_⟩
 by_cases c4 : ws.length = 3
 case neg => exact iteN1 (fun z => by injection z with z; rw [len] at z; exact c4 (by omega)) (iteT (fail (leanM_len c4) _ (Same.refl _)))
 obtain ⟨a, b, c, rfl⟩ := len3 c4
 refine iteNS rfl ?_
 refine ⟨_, rfl, l, _, _, _, rfl, rfl, SqL.of hl, rfl, rfl, _, rfl, ?_⟩
 by_cases ca : a = Str.ofString "lean"
 case neg => exact iteN1 (fun z => ca (by injection z)) (fail (if_neg ca) _ (Same.refl _))
 refine iteNS (by rw [ca]) ?_
 refine ⟨_, rfl, l, _, _, _, rfl, rfl, SqL.of hl, rfl, b, rfl, wx b (by simp), fun H1 s1 => ?_⟩
 have hl1 := s1 _ _ hl
 refine ⟨_, rfl, l, _, _, _, rfl, rfl, SqL.of hl1, rfl, c, rfl, wx c (by simp), fun H2 s2 => ?_⟩
 refine ⟨zl2, fun l4 h4 => ?_⟩
 have s4 := same_new h4 (.lst [oiV (numM b), oiV (numM c)])
 have s04 := (s1.trans s2).trans s4
 have e : leanM [a, b, c] = (match numM b, numM c with
   | some i, some j => some (i, j)
   | _, _ => none) := if_pos ca
 refine ⟨l4, _, [oD PyData.int (numM b), oD PyData.int (numM c)], rfl, upd_same, .cons (oi_deep _) (.cons (oi_deep _) .nil), lays2 (oi_lay _) (oi_lay _), fun ha p hp => ?_, fun ha => ?_⟩
 ·have s5 := same_new hp (.tup [oiV (numM b), oiV (numM c)])
  refine k _ _ (s04.trans s5) ?_
  rw [e]
  cases hb : numM b with
  | none => rw [hb] at ha; cases ha
  | some i =>
   cases hc : numM c with
   | none => rw [hb, hc] at ha; cases ha
   | some j => exact RV.of upd_same
 ·refine fail ?_ _ s04
  rw [e]
  cases hb : numM b with
  | none => rfl
  | some i =>
   cases hc : numM c with
   | none => rfl
   | some j => rw [hb, hc] at ha; cases ha
theorem ok_Q32 (T : Txt K mg t) : FnOk P w K mg base CX0 4 t.a_Q32 t.d_Q32 ["word"] (sp_piece_of K) := by
 refine T.F_Q32.ok sc_Q32 (fun vs H Q E h => ?_) (fun cdv A outer s H vs Q E hr h => ?_)
 ·obtain ⟨_, rfl, _⟩ := h; rfl
 obtain ⟨x, rfl, wx, k⟩ := h
 refine QSs.ok (qss_cons (qsA 1 sc_Q32.nd (qe_bm PySem.F.plainAttrs_str PySem.F.slot_str_partition PySem.F.type_str_partition mt_partn (qv 0) (qa_cons qe_str qa_nil star_con)))
   (qss_one (qs_ret (qcA (ok_Q7 T) hr T.m_Q7 T.F_Q7.kp T.b_Q7 (qa_cons (qe_lst (qa_cons (qcA (ok_Q21 T) hr T.m_Q21 T.F_Q21.kp T.b_Q21 (qa_cons (qxA ix_tup (qv 1) qe_int) qa_nil star_sub)) (qa_cons (qcA (ok_Q31 T) hr T.m_Q31 T.F_Q31.kp T.b_Q31 (qa_cons (qxA ix_tup (qv 1) qe_int) qa_nil star_sub)) qa_nil star_call) star_call)) qa_nil star_lst))))) ?_
 try dsimp only [Cx.nox, Cx.wish, cxOf]
 have lS : x.length ≤ sizeLine := Nat.le_trans wx.len (by decide)
 have wp : Wx (Txt.partition x (Str.ofString ":")).1 /\ Wx (Txt.partition x (Str.ofString ":")).2.2 := wx.part 58
 rw [show pieceM x = (match numM (Txt.partition x (Str.ofString ":")).1, ratM (Txt.partition x (Str.ofString ":")).2.2 with
   | some i, some r => some (i, r)
   | _, _ => none) from rfl] at k
 refine ⟨_, rfl, rfl, _, _, rfl, rfl, rfl, lS, fun p hp => ?_⟩
 generalize Txt.partition x (Str.ofString ":") = P at k wp ⊢
 obtain ⟨pa, pm, pb⟩ := P
 dsimp only at k wp ⊢
 have s1 := same_new hp (.tup [.str pa, .str pm, .str pb])
 have hS : SqT K (upd H p (.tup [.str pa, .str pm, .str pb])) p [.str pa, .str pm, .str pb] := SqT.of upd_same
 generalize upd H p (.tup [.str pa, .str pm, .str pb]) = H1 at s1 hS ⊢
 refine ⟨_, rfl, p, _, _, _, rfl, rfl, hS, rfl, pa, rfl, wp.1, fun H2 s2 => ?_⟩
 refine ⟨_, rfl, p, _, _, _, rfl, rfl, Tst.same s2 _ _ hS, rfl, pb, rfl, wp.2, fun v H3 s3 q3 => ?_⟩
 refine ⟨zl2, fun l4 h4 => ?_⟩
 have s4 := same_new h4 (.lst [oiV (numM pa), v])
 have q4 := q3.imp fun _ z => z.mono (Tst.same s4)
 have s04 := ((s1.trans s2).trans s3).trans s4
 refine ⟨l4, _, [oD PyData.int (numM pa), oD dR (ratM pb)], rfl, upd_same, .cons (oi_deep _) (.cons (q4.deep fun _ _ z => z.deep) .nil), lays2 (oi_lay _) (ro_lay _), fun ha p5 hp5 => ?_, fun ha => ?_⟩
 ·have s5 := same_new hp5 (.tup [oiV (numM pa), v])
  refine k _ _ (s04.trans s5) ?_
  cases hb : numM pa with
  | none => rw [hb] at ha; cases ha
  | some i =>
   cases hd : ratM pb with
   | none => rw [hb, hd] at ha; cases ha
   | some r =>
    rw [hd] at q4
    rw [hb] at q4 s5
    have q5 : RV K _ v r := RV.mono q4 (Tst.same (K := K) s5)
    exact ⟨p5, v, rfl, SqT.of upd_same, q5⟩
 ·refine k _ _ s04 ?_
  cases hb : numM pa with
  | none => rfl
  | some i =>
   cases hd : ratM pb with
   | none => rfl
   | some r => rw [hb, hd] at ha; cases ha
theorem ok_Q43 (T : Txt K mg t) : FnOk P w K mg base CX0 4 t.a_Q43 t.d_Q43 ["word"] (sp_row_of K) := by
 refine T.F_Q43.ok sc_Q43 (fun vs H Q E h => ?_) (fun cdv A outer s H vs Q E hr h => ?_)
 ·obtain ⟨_, rfl, _⟩ := h; rfl
 obtain ⟨x, rfl, wx, k⟩ := h
 refine QSs.ok (qss_cons (qsA 1 sc_Q43.nd (qe_bm PySem.F.plainAttrs_str PySem.F.slot_str_partition PySem.F.type_str_partition mt_partn (qv 0) (qa_cons qe_str qa_nil star_con)))
   (qss_one (qs_ret (qcA (ok_Q7 T) hr T.m_Q7 T.F_Q7.kp T.b_Q7 (qa_cons (qe_lst (qa_cons (qcA (ok_Q31 T) hr T.m_Q31 T.F_Q31.kp T.b_Q31 (qa_cons (qxA ix_tup (qv 1) qe_int) qa_nil star_sub)) (qa_cons (qcA (ok_Q31 T) hr T.m_Q31 T.F_Q31.kp T.b_Q31 (qa_cons (qxA ix_tup (qv 1) qe_int) qa_nil star_sub)) qa_nil star_call) star_call)) qa_nil star_lst))))) ?_
 try dsimp only [Cx.nox, Cx.wish, cxOf]
 have lS : x.length ≤ sizeLine := Nat.le_trans wx.len (by decide)
 have wp : Wx (Txt.partition x (Str.ofString ":")).1 /\ Wx (Txt.partition x (Str.ofString ":")).2.2 := wx.part 58
 rw [show rowM x = (match ratM (Txt.partition x (Str.ofString ":")).1, ratM (Txt.partition x (Str.ofString ":")).2.2 with
   | some i, some r => some (i, r)
   | _, _ => none) from rfl] at k
 refine ⟨_, rfl, rfl, _, _, rfl, rfl, rfl, lS, fun p hp => ?_⟩
 generalize Txt.partition x (Str.ofString ":") = P at k wp ⊢
 obtain ⟨pa, pm, pb⟩ := P
 dsimp only at k wp ⊢
 have s1 := same_new hp (.tup [.str pa, .str pm, .str pb])
 have hS : SqT K (upd H p (.tup [.str pa, .str pm, .str pb])) p [.str pa, .str pm, .str pb] := SqT.of upd_same
 generalize upd H p (.tup [.str pa, .str pm, .str pb]) = H1 at s1 hS ⊢
 refine ⟨_, rfl, p, _, _, _, rfl, rfl, hS, rfl, pa, rfl, wp.1, fun u H2 s2 q2 => ?_⟩
 refine ⟨_, rfl, p, _, _, _, rfl, rfl, Tst.same s2 _ _ hS, rfl, pb, rfl, wp.2, fun v H3 s3 q3 => ?_⟩
 refine ⟨zl2, fun l4 h4 => ?_⟩
 have s4 := same_new h4 (.lst [u, v])
 have q4 := q3.imp fun _ z => z.mono (Tst.same s4)
 have q2 := (q2.imp fun _ z => z.mono (Tst.same s3)).imp fun _ z => z.mono (Tst.same s4)
 have s04 := ((s1.trans s2).trans s3).trans s4
 refine ⟨l4, _, [oD dR (ratM pa), oD dR (ratM pb)], rfl, upd_same, .cons (q2.deep fun _ _ z => z.deep) (.cons (q4.deep fun _ _ z => z.deep) .nil), lays2 (ro_lay _) (ro_lay _), fun ha p5 hp5 => ?_, fun ha => ?_⟩
 ·have s5 := same_new hp5 (.tup [u, v])
  refine k _ _ (s04.trans s5) ?_
  cases hb : ratM pa with
  | none => rw [hb] at ha; cases ha
  | some i =>
   cases hd : ratM pb with
   | none => rw [hb, hd] at ha; cases ha
   | some r =>
    rw [hd] at q4
    rw [hb] at q2
    have q5 : RV K _ v r := RV.mono q4 (Tst.same (K := K) s5)
    exact ⟨p5, u, v, rfl, SqT.of upd_same, RV.mono q2 (Tst.same (K := K) s5), q5⟩
 ·refine k _ _ s04 ?_
  cases hb : ratM pa with
  | none => rfl
  | some i =>
   cases hd : ratM pb with
   | none => rfl
   | some r => rw [hb, hd] at ha; cases ha
theorem ok_Q22 (T : Txt K mg t) : FnOk P w K mg base CX0 5 t.a_Q22 t.d_Q22 ["words"] (sp_pieces_of K) := by
 refine T.F_Q22.ok sc_Q22 (fun vs H Q E h => ?_) (fun cdv A outer s H vs Q E hr h => ?_)
 ·obtain ⟨_, _, rfl, _⟩ := h; rfl
 obtain ⟨l, ws, rfl, hl, wx, ne, lw, k⟩ := h
 refine QSs.ok (qss_cons (qs_if (qt_cmpR op_ne (qxA ix_list (qv 0) qe_int) qe_str (nomark _)) (qss_one (qs_ret qe_non)) qss_nil)
   (qss_one (qs_ret (qcA (ok_Q7 T) hr T.m_Q7 T.F_Q7.kp T.b_Q7 (qa_cons (qe_lcomp (N' := ["word"]) (src := [none]) rfl (by exact (qi_list (qe_slice sl_list (qv 0) (qo_some qe_int) qo_none))) (fun _ _ _ _ _ => (by exact (by exact qg_name (i := 0) (by show List.Nodup (["word"] : List Str); decide +kernel) (by exact rfl) (by first | exact Or.inl rfl | exact Or.inr rfl)))) (fun _ _ _ _ _ => qts_nil) (fun _ _ _ _ _ => (by exact (by exact (qe_call (ok_Q32 T) (by exact hr.mono (by decide)) (by exact rfl) T.m_Q32 T.F_Q32.kp T.b_Q32 (by exact .nil) (by exact pass0) (qa_cons (by exact (qv 0)) qa_nil star_name))))) (by exact trivial) rfl (by decide +kernel) rfl (by decide +kernel) (by exact cells_of rfl trivial)) qa_nil star_lc))))) ?_
 try dsimp only [Cx.nox, Cx.wish, cxOf]
 obtain ⟨a, rest, rfl⟩ := ne_cons ne
 have lr : rest.length ≤ 199 := by rw [List.length_cons] at lw; omega
 refine ⟨_, rfl, l, _, _, _, rfl, rfl, SqL.of hl, atI_nat (j := 0) rfl, rfl, _, rfl, ?_⟩
 by_cases ca : a = Str.ofString "turn"
 ·refine iteNS (by rw [ca]) ?_
  refine ⟨_, rfl, _, rfl, l, _, rfl, SqL.of hl, fun l2 h2 => ?_⟩
  rw [show cutV ((a :: rest).map V.str) (some 1) none = rest.map V.str from cut_one _ _]
  have s2 := same_new h2 (.lst (rest.map V.str))
  have hl2 : upd H l2 (.lst (rest.map V.str)) l2 = some (.lst (rest.map V.str)) := upd_same
  generalize upd H l2 (.lst (rest.map V.str)) = H2 at s2 hl2 ⊢
  have len : (rest.map V.str).length = rest.length := List.length_map _
  refine ⟨l2, rfl, ⟨_, SqL.of hl2⟩, fun D hD => comp_mapL (K := K) (P := OpV (PieceV K)) (ds := rest) (f := pieceM) (fun _ _ _ _ t z => z.imp fun _ q => q.mono t) hD (SqL.of hl2) len (by omega) (fun i x d H' hx hd sm Rk E kR => ?_) fun H3 ys s3 hD3 al3 => ?_⟩
  ·have hx' : x = .str d := by
    rw [List.getElem?_map, hd] at hx
    exact (Option.some.inj hx).symm
   subst hx'
   exact ⟨Ext.set rfl, _, rfl, d, rfl, wx d (List.mem_cons_of_mem _ (List.mem_of_getElem? hd)), fun v H' s' q => kR v H' s' q⟩
  have s03 := s2.trans s3
  have dp3 : DeepAll K H3 ys ((rest.map pieceM).map (oD dPi)) := al3.deep fun _ _ z => z.deep fun _ _ q => q.deep
  have ly3 : Lays ((rest.map pieceM).map (oD dPi)) := fun e he => by
   obtain ⟨o, _, rfl⟩ := List.mem_map.mp he
   exact oD_lay (fun w => ⟨rfl, dPi_depth w⟩) o
  have ea : ((rest.map pieceM).map (oD dPi)).all someD = (allM pieceM rest).isSome := by rw [all_some (fun _ => rfl), all_allM]
  have em : piecesM (a :: rest) = allM pieceM rest := if_pos ca
  rw [em] at k
  refine ⟨D, ys, _, rfl, hD3, dp3, ly3, fun ha p hp => ?_, fun ha => ?_⟩
  ·rw [ea] at ha
   have s4 := same_new hp (.tup ys)
   refine k _ _ (s03.trans s4) ?_
   cases he : allM pieceM rest with
   | none => rw [he] at ha; cases ha
   | some ps =>
    rw [allM_some he] at al3
    exact ⟨p, ys, rfl, SqT.of upd_same, (als_all al3).mono fun _ _ z => z.mono (Tst.same s4)⟩
  ·rw [ea] at ha
   refine k _ _ s03 ?_
   cases he : allM pieceM rest with
   | none => rfl
   | some ps => rw [he] at ha; cases ha
 ·refine iteN1 (fun z => ca (by injection z)) ?_
  refine k _ _ (Same.refl _) ?_
  rw [show piecesM (a :: rest) = none from if_neg ca]
  rfl
theorem ok_Q40 (T : Txt K mg t) : FnOk P w K mg base CX0 5 t.a_Q40 t.d_Q40 ["words"] (sp_rule_of K) := by
 refine T.F_Q40.ok sc_Q40 (fun vs H Q E h => ?_) (fun cdv A outer s H vs Q E hr h => ?_)
 ·obtain ⟨_, _, rfl, _⟩ := h; rfl
 obtain ⟨l, ws, rfl, hl, wx, ne, lw, k⟩ := h
 refine QSs.ok (qss_cons (qsA 1 sc_Q40.nd qe_non)
   (qss_cons (qs_if (qw_pt (qw_and (qt_cmpR op_eq (qxA ix_list (qv 0) qe_int) (qe_glob (v := .str "power") rfl T.m_POWER ⟨_, rfl⟩) (nomark _)) (qw_and1 (qt_cmpR op_eq (qe_callB call_len_seq (by rfl) T.z_len boot_len (qa_cons (qv 0) qa_nil star_name)) qe_int (nomark _))))) (qss_one (qsA 1 sc_Q40.nd (qcA (ok_Q21 T) hr T.m_Q21 T.F_Q21.kp T.b_Q21 (qa_cons (qxA ix_list (qv 0) qe_int) qa_nil star_sub)))) qss_nil)
   (qss_cons (qs_if (qt_cmpR op_eq (qxA ix_list (qv 0) qe_int) (qe_glob (v := .str "table") rfl T.m_TABLE ⟨_, rfl⟩) (nomark _)) (qss_one (qsA 1 sc_Q40.nd (qcA (ok_Q7 T) hr T.m_Q7 T.F_Q7.kp T.b_Q7 (qa_cons (qe_lcomp (N' := ["word"]) (src := [none]) rfl (by exact (qi_list (qe_slice sl_list (qv 0) (qo_some qe_int) qo_none))) (fun _ _ _ _ _ => (by exact (by exact qg_name (i := 0) (by show List.Nodup (["word"] : List Str); decide +kernel) (by exact rfl) (by first | exact Or.inl rfl | exact Or.inr rfl)))) (fun _ _ _ _ _ => qts_nil) (fun _ _ _ _ _ => (by exact (by exact (qe_call (ok_Q43 T) (by exact hr.mono (by decide)) (by exact rfl) T.m_Q43 T.F_Q43.kp T.b_Q43 (by exact .nil) (by exact pass0) (qa_cons (by exact (qv 0)) qa_nil star_name))))) (by exact trivial) rfl (by decide +kernel) rfl (by decide +kernel) (by exact cells_of rfl trivial)) qa_nil star_lc)))) qss_nil)
   (qss_one (qs_ret (qcA (ok_Q7 T) hr T.m_Q7 T.F_Q7.kp T.b_Q7 (qa_cons (qe_lst (qa_cons (qxA ix_list (qv 0) qe_int) (qa_cons (qv 1) qa_nil star_name) star_sub)) qa_nil star_lst))))))) ?_
 try dsimp only [Cx.nox, Cx.wish, cxOf]
 obtain ⟨a, rest, rfl⟩ := ne_cons ne
 have lr : rest.length ≤ 199 := by rw [List.length_cons] at lw; omega
 have wa := wx a List.mem_cons_self
 refine ⟨_, rfl, l, _, _, _, rfl, rfl, SqL.of hl, atI_nat (j := 0) rfl, rfl, _, rfl, ?_⟩
 have fin : ∀ (H4 : Hp) (v : V) (d : PyData), Same H H4 -> Deep K H4 v d -> (d.canLay0 = true /\ d.depth ≤ 32) -> (someD d = false -> ruleM (a :: rest) = none) -> (someD d = true -> ∀ (p : Addr) (H' : Hp), Same H4 H' -> H' p = some (.tup [.str a, v]) -> OpV (RuV K) H' (.ref p) (ruleM (a :: rest))) →
   ∀ l5, H4 l5 = none -> sp_whole_or_none K [.ref l5] (upd H4 l5 (.lst [.str a, v])) Q E := by
  intro H4 v d s4 dd ly no yes l5 h5
  have s5 := same_new h5 (.lst [.str a, v])
  refine ⟨l5, _, [.str a, d], rfl, upd_same, .cons (.str _) (.cons (dd.same s5) .nil), lays2 (str_lay wa.asc) ly, fun ha p hp => ?_, fun ha => ?_⟩
  ·have hs : someD d = true := by
    have e : [PyData.str a, d].all someD = (true && (someD d && true)) := rfl
    rw [e] at ha
    cases hd : someD d with
    | true => rfl
    | false => rw [hd] at ha; cases ha
   have s6 := same_new hp (.tup [.str a, v])
   exact k _ _ ((s4.trans s5).trans s6) (yes hs p _ (s5.trans s6) upd_same)
  ·have hs : someD d = false := by
    have e : [PyData.str a, d].all someD = (true && (someD d && true)) := rfl
    rw [e] at ha
    cases hd : someD d with
    | false => rfl
    | true => rw [hd] at ha; cases ha
   refine k _ _ (s4.trans s5) ?_
   rw [no hs]
   rfl
 by_cases cp : a = Str.ofString "power"
 ·refine iteD1 (by rw [cp]) ?_
  refine ⟨_, rfl, l, _, rfl, .inl (SqL.of hl), rfl, _, rfl, ?_⟩
  have ct : ¬ V.str a = V.str (Str.ofString "table") := fun z => ab_tp (by rw [← cp]; injection z with z; exact z.symm)
  by_cases c2 : rest.length = 1
  ·obtain ⟨b, rfl⟩ : ∃ b, rest = [b] := by
    match rest, c2 with
    | [b], _ => exact ⟨b, rfl⟩
   refine iteD1 rfl ?_
   refine ⟨_, rfl, l, _, _, _, rfl, rfl, SqL.of hl, rfl, b, rfl, wx b (by simp), fun H1 s1 => ?_⟩
   have hl1 := s1 _ _ hl
   refine ⟨_, rfl, l, _, _, _, rfl, rfl, SqL.of hl1, atI_nat (j := 0) rfl, rfl, _, rfl, iteD0 ct ?_⟩
   refine ⟨_, rfl, l, _, _, _, rfl, rfl, SqL.of hl1, atI_nat (j := 0) rfl, _, rfl, zl2, fun l5 h5 => ?_⟩
   have em : ruleM [a, b] = (numM b).map RuD.pow := if_pos cp
   refine fin H1 _ (oD PyData.int (numM b)) s1 (oi_deep _) (oi_lay _) (fun hd => ?_) (fun hd p H' s' hp => ?_) l5 h5
   ·rw [em]
    cases hb : numM b with
    | none => rfl
    | some n => rw [hb] at hd; cases hd
   ·rw [em]
    cases hb : numM b with
    | none => rw [hb] at hd; cases hd
    | some n =>
     rw [hb, cp] at hp
     exact ⟨p, rfl, SqT.of hp⟩
  ·refine iteD0 (fun z => by injection z with z; rw [List.length_map, List.length_cons] at z; exact c2 (by omega)) ?_
   refine ⟨_, rfl, l, _, _, _, rfl, rfl, SqL.of hl, atI_nat (j := 0) rfl, rfl, _, rfl, iteD0 ct ?_⟩
   refine ⟨_, rfl, l, _, _, _, rfl, rfl, SqL.of hl, atI_nat (j := 0) rfl, _, rfl, zl2, fun l5 h5 => ?_⟩
   refine fin H _ .none (Same.refl _) .non ⟨rfl, Nat.zero_le _⟩ (fun _ => ?_) (fun hd => by cases hd) l5 h5
   refine (if_pos cp).trans ?_
   match rest, c2 with
   | [], _ => rfl
   | _ :: _ :: _, _ => rfl
 ·refine iteD0 (fun z => cp (by injection z)) (iteF ?_)
  refine ⟨_, rfl, l, _, _, _, rfl, rfl, SqL.of hl, atI_nat (j := 0) rfl, rfl, _, rfl, ?_⟩
  by_cases ct : a = Str.ofString "table"
  case neg =>
   refine iteD0 (fun z => ct (by injection z)) ?_
   refine ⟨_, rfl, l, _, _, _, rfl, rfl, SqL.of hl, atI_nat (j := 0) rfl, _, rfl, zl2, fun l5 h5 => ?_⟩
   exact fin H _ .none (Same.refl _) .non ⟨rfl, Nat.zero_le _⟩ (fun _ => (if_neg cp).trans (if_neg ct)) (fun hd => by cases hd) l5 h5
  refine iteD1 (by rw [ct]) ?_
  refine ⟨_, rfl, _, rfl, l, _, rfl, SqL.of hl, fun l2 h2 => ?_⟩
  rw [show cutV ((a :: rest).map V.str) (some 1) none = rest.map V.str from cut_one _ _]
  have s2 := same_new h2 (.lst (rest.map V.str))
  have hl2 : upd H l2 (.lst (rest.map V.str)) l2 = some (.lst (rest.map V.str)) := upd_same
  generalize upd H l2 (.lst (rest.map V.str)) = H2 at s2 hl2 ⊢
  have len : (rest.map V.str).length = rest.length := List.length_map _
  refine ⟨l2, rfl, ⟨_, SqL.of hl2⟩, fun D hD => comp_mapL (K := K) (P := OpV (RowV K)) (ds := rest) (f := rowM) (fun _ _ _ _ t z => z.imp fun _ q => q.mono t) hD (SqL.of hl2) len (by omega) (fun i x d H' hx hd sm Rk E kR => ?_) fun H3 ys s3 hD3 al3 => ?_⟩
  ·have hx' : x = .str d := by
    rw [List.getElem?_map, hd] at hx
    exact (Option.some.inj hx).symm
   subst hx'
   exact ⟨Ext.set rfl, _, rfl, d, rfl, wx d (List.mem_cons_of_mem _ (List.mem_of_getElem? hd)), fun v H' s' q => kR v H' s' q⟩
  have s03 := s2.trans s3
  have dp3 : DeepAll K H3 ys ((rest.map rowM).map (oD dRo)) := al3.deep fun _ _ z => z.deep fun _ _ q => q.deep
  have ly3 : Lays ((rest.map rowM).map (oD dRo)) := fun e he => by
   obtain ⟨o, _, rfl⟩ := List.mem_map.mp he
   exact oD_lay (fun w => ⟨rfl, dRo_depth w⟩) o
  have ea : ((rest.map rowM).map (oD dRo)).all someD = (allM rowM rest).isSome := by rw [all_some (fun _ => rfl), all_allM]
  have em : ruleM (a :: rest) = (allM rowM rest).map RuD.tab := (if_neg cp).trans (if_pos ct)
  have hl3 := s03 _ _ hl
  refine ⟨D, ys, _, rfl, hD3, dp3, ly3, fun ha p hp => ?_, fun ha => ?_⟩
  ·rw [ea] at ha
   have s4 := same_new hp (.tup ys)
   cases he : allM rowM rest with
   | none => rw [he] at ha; cases ha
   | some rs =>
    rw [allM_some he] at al3
    have al4 := (als_all al3).mono fun _ _ z => z.mono (Tst.same s4)
    have hp4 : SqT K (upd H3 p (.tup ys)) p ys := SqT.of upd_same
    have hl4 := s4 _ _ hl3
    generalize upd H3 p (.tup ys) = H4 at s4 al4 hp4 hl4 ⊢
    refine ⟨_, rfl, l, _, _, _, rfl, rfl, SqL.of hl4, atI_nat (j := 0) rfl, _, rfl, zl2, fun l5 h5 => ?_⟩
    refine fin H4 _ (.tuple (rs.map dRo)) (s03.trans s4) (.tup hp4 (al4.deep fun _ _ z => z.deep)) (rows_lay rs) (fun hd => by cases hd) (fun hd p6 H' s' hp6 => ?_) l5 h5
    rw [em, he]
    rw [ct] at hp6
    have t' := Tst.same (K := K) s'
    exact ⟨p6, p, ys, rfl, SqT.of hp6, t' _ _ hp4, al4.mono fun _ _ z => z.mono t'⟩
  ·rw [ea] at ha
   refine ⟨_, rfl, l, _, _, _, rfl, rfl, SqL.of hl3, atI_nat (j := 0) rfl, _, rfl, zl2, fun l5 h5 => ?_⟩
   refine fin H3 _ .none s03 .non ⟨rfl, Nat.zero_le _⟩ (fun _ => ?_) (fun hd => by cases hd) l5 h5
   rw [em]
   cases he : allM rowM rest with
   | none => rfl
   | some ps => rw [he] at ha; cases ha
theorem ok_Q14 (T : Txt K mg t) : FnOk P w K mg base CX0 2 t.a_Q14 t.d_Q14 ["number"] (sp_number_text K) := by
 refine T.F_Q14.ok sc_Q14 (fun vs H Q E h => ?_) (fun cdv A outer s H vs Q E hr h => ?_)
 ·obtain ⟨_, rfl, _⟩ := h; rfl
 obtain ⟨i, rfl, hb, k⟩ := h
 refine QSs.ok (qss_cons (qs_if (qt_cmpR op_lt (qv 0) qe_int (nomark _)) (qss_one (qs_ret (qe_op op_add_str qe_str (qcA (ok_number_text0 T) hr T.m_Q14 T.F_Q14.kp T.b_Q14 (qa_cons (qe_un un_neg (qv 0)) qa_nil star_un))))) qss_nil)
   (qss_cons (qsA 1 sc_Q14.nd (qe_op op_pow qe_int qe_int))
   (qss_cons (qsA 2 sc_Q14.nd (qe_lst qa_nil))
   (qss_cons (qsA 3 sc_Q14.nd (qv 0))
   (qss_cons (qs_while PassesOwn.never (qt_cmpR op_ge (qv 3) (qv 1) (nomark _))
   (qss_cons qs_never
   (qss_one qs_never)))
   (qss_cons (qs_expr (qe_bm PySem.F.plainAttrs_list PySem.F.slot_list_append PySem.F.type_list_append mt_append (qv 2) (qa_cons (qe_callTy call_str_int (by rfl) T.z_str boot_str (qa_cons (qv 3) qa_nil star_name)) qa_nil star_call)))
   (qss_one (qs_ret (qe_joinRev rfl (by rfl) T.z_reversed boot_reversed qe_str (qv 2)))))))))) ?_
 try dsimp only [Cx.nox, Cx.wish, cxOf]
 by_cases hi : i < 0
 ·refine ⟨_, rfl, _, _, rfl, rfl, _, rfl, iteD1 hi ?_⟩
  refine ⟨_, rfl, _, rfl, -i, rfl, by omega, by show (-i).natAbs < _; rw [Int.natAbs_neg]; exact hb, fun H1 s1 => ⟨_, _, rfl, rfl, ?_, ?_⟩⟩
  ·have := (Tx.num (i := -i) (by rw [Int.natAbs_neg]; exact hb)).len
   have e : sizeLine = 16777216 := by decide
   have e1 : (Str.ofString "-").length = 1 := by decide
   omega
  ·have e := num_neg hi
   have q := k H1 s1
   rw [← e] at q
   exact q
 refine ⟨_, rfl, _, _, rfl, rfl, _, rfl, iteD0 hi ?_⟩
 have h0 : 0 ≤ i := by omega
 refine ⟨_, _, rfl, rfl, ⟨by decide, by decide, by decide⟩, zl0, fun l hl => ?_⟩
 refine ⟨_, rfl, fun m σ H' => σ = [some (.int i), some (.int (10 ^ (64 : Int).toNat)), some (.ref l), some (.int i)] /\ H' = upd H l (.lst []), ⟨0, rfl, rfl⟩, ?_⟩
 rintro m σ H' ⟨rfl, rfl⟩
 have hlt : ¬ (i ≥ 10 ^ (64 : Int).toNat) := by
  have e : (10 : Int) ^ (64 : Int).toNat = 10 ^ 64 := rfl
  rw [e]
  have e2 : (2 : Nat) ^ 140 ≤ 10 ^ 64 := by decide
  omega
 refine ⟨_, rfl, _, rfl, _, _, rfl, rfl, _, rfl, iteD0 hlt ?_⟩
 refine ⟨_, rfl, .inl ⟨rfl, _, SqL.of upd_same⟩, _, rfl, i, rfl, log2_lt hb, l, [], _, rfl, rfl, upd_same, by decide, ?_⟩
 refine ⟨_, rfl, _, rfl, l, [numT i], rfl, by rw [upd_same]; rfl, fits_of (n := 200) (k := 0) (m := 1) Tx.lit (fun y hy => by rw [show y = numT i by simpa using hy]; exact Tx.num hb) (Nat.le_refl _), ?_⟩
 rw [joinT]
 refine k _ ?_
 rw [upd_upd]
 exact same_new hl _
theorem ok_Q18 (T : Txt K mg t) : FnOk P w K mg base CX0 3 t.a_Q18 t.d_Q18 ["one"] (sp_ratio_text K) := by
 refine T.F_Q18.ok sc_Q18 (fun vs H Q E h => ?_) (fun cdv A outer s H vs Q E hr h => ?_)
 ·obtain ⟨_, _, rfl, _⟩ := h; rfl
 obtain ⟨v, r, rfl, hv, n1, n2, k⟩ := h
 refine QSs.ok (qss_cons (qs_if (qt_cmpR op_eq (qxA ix_tup (qv 0) qe_int) qe_int (nomark _)) (qss_one (qs_ret (qcA (ok_Q14 T) hr T.m_Q14 T.F_Q14.kp T.b_Q14 (qa_cons (qxA ix_tup (qv 0) qe_int) qa_nil star_sub)))) qss_nil)
   (qss_one (qs_ret (qe_op op_add_str (qe_op op_add_str (qcA (ok_Q14 T) hr T.m_Q14 T.F_Q14.kp T.b_Q14 (qa_cons (qxA ix_tup (qv 0) qe_int) qa_nil star_sub)) qe_str) (qcA (ok_Q14 T) hr T.m_Q14 T.F_Q14.kp T.b_Q14 (qa_cons (qxA ix_tup (qv 0) qe_int) qa_nil star_sub)))))) ?_
 try dsimp only [Cx.nox, Cx.wish, cxOf]
 obtain ⟨p, rfl, hv⟩ := hv
 by_cases h1 : r.2 = 1
 ·refine ⟨_, rfl, p, _, _, _, rfl, rfl, hv, rfl, rfl, _, rfl, iteD1 (by rw [h1]) ?_⟩
  refine ⟨_, rfl, p, _, _, _, rfl, rfl, hv, rfl, r.1, rfl, n1, fun H1 s1 => ?_⟩
  have q := k H1 s1
  rw [show ratT r = numT r.1 from if_pos h1] at q
  exact q
 ·refine ⟨_, rfl, p, _, _, _, rfl, rfl, hv, rfl, rfl, _, rfl, iteD0 (fun z => h1 (by injection z)) ?_⟩
  refine ⟨_, rfl, p, _, _, _, rfl, rfl, hv, rfl, r.1, rfl, n1, fun H1 s1 => ⟨_, _, rfl, rfl, lenOk ((Tx.num n1).app (Tx.lit (n := 1))) , ?_⟩⟩
  refine ⟨_, rfl, p, _, _, _, rfl, rfl, Tst.same s1 _ _ hv, rfl, r.2, rfl, n2, fun H2 s2 => ⟨_, _, rfl, rfl, lenOk (((Tx.num n1).app (Tx.lit (n := 1))).app (Tx.num n2)), ?_⟩⟩
  have q := k H2 (s1.trans s2)
  rw [show ratT r = _ from if_neg h1] at q
  exact q
theorem ok_Q25 (T : Txt K mg t) : FnOk P w K mg base CX0 4 t.a_Q25 t.d_Q25 ["work"] (sp_work_text K) := by
 refine T.F_Q25.ok sc_Q25 (fun vs H Q E h => ?_) (fun cdv A outer s H vs Q E hr h => ?_)
 ·obtain ⟨_, _, rfl, _⟩ := h; rfl
 obtain ⟨v, w, rfl, hv, ok, k⟩ := h
 refine QSs.ok (qss_one (qs_ret (qe_bm PySem.F.plainAttrs_str PySem.F.slot_str_join PySem.F.type_str_join mt_join qe_str (qa_cons (qe_lst (qa_cons qe_str (qa_cons (qcA (ok_Q14 T) hr T.m_Q14 T.F_Q14.kp T.b_Q14 (qa_cons (qxA ix_tup (qv 0) qe_int) qa_nil star_sub)) (qa_cons (qcA (ok_Q14 T) hr T.m_Q14 T.F_Q14.kp T.b_Q14 (qa_cons (qxA ix_tup (qv 0) qe_int) qa_nil star_sub)) (qa_cons (qcA (ok_Q18 T) hr T.m_Q18 T.F_Q18.kp T.b_Q18 (qa_cons (qxA ix_tup (qv 0) qe_int) qa_nil star_sub)) qa_nil star_call) star_call) star_call) star_con)) qa_nil star_lst)))) ?_
 try dsimp only [Cx.nox, Cx.wish, cxOf]
 obtain ⟨p, q, rfl, hv, hq⟩ := hv
 refine ⟨rfl, _, rfl, p, _, _, _, rfl, rfl, hv, rfl, w.1, rfl, ok.1.nb, fun H1 s1 => ?_⟩
 refine ⟨_, rfl, p, _, _, _, rfl, rfl, Tst.same s1 _ _ hv, rfl, w.2.1, rfl, ok.2.1.nb, fun H2 s2 => ?_⟩
 have s12 := s1.trans s2
 refine ⟨_, rfl, p, _, _, _, rfl, rfl, Tst.same s12 _ _ hv, rfl, q, w.2.2, rfl, hq.mono (Tst.same s12), ok.2.2.nb1, ok.2.2.nb2, fun H3 s3 => ?_⟩
 refine ⟨zl4, fun l hl => ?_⟩
 refine ⟨_, l, workW w, rfl, rfl, SqL.of upd_same, fits_of (n := 200) (k := 1) (m := 4) Tx.lit (txW ok) (Nat.le_refl _), ?_⟩
 rw [joinT]
 exact k _ ((s12.trans s3).trans (same_new hl _))
theorem ok_Q26 (T : Txt K mg t) : FnOk P w K mg base CX0 3 t.a_Q26 t.d_Q26 ["lean"] (sp_lean_text K) := by
 refine T.F_Q26.ok sc_Q26 (fun vs H Q E h => ?_) (fun cdv A outer s H vs Q E hr h => ?_)
 ·obtain ⟨_, _, rfl, _⟩ := h; rfl
 obtain ⟨v, w, rfl, hv, ok, k⟩ := h
 refine QSs.ok (qss_one (qs_ret (qe_bm PySem.F.plainAttrs_str PySem.F.slot_str_join PySem.F.type_str_join mt_join qe_str (qa_cons (qe_lst (qa_cons qe_str (qa_cons (qcA (ok_Q14 T) hr T.m_Q14 T.F_Q14.kp T.b_Q14 (qa_cons (qxA ix_tup (qv 0) qe_int) qa_nil star_sub)) (qa_cons (qcA (ok_Q14 T) hr T.m_Q14 T.F_Q14.kp T.b_Q14 (qa_cons (qxA ix_tup (qv 0) qe_int) qa_nil star_sub)) qa_nil star_call) star_call) star_con)) qa_nil star_lst)))) ?_
 try dsimp only [Cx.nox, Cx.wish, cxOf]
 obtain ⟨p, rfl, hv⟩ := hv
 refine ⟨rfl, _, rfl, p, _, _, _, rfl, rfl, hv, rfl, w.1, rfl, ok.1.nb, fun H1 s1 => ?_⟩
 refine ⟨_, rfl, p, _, _, _, rfl, rfl, Tst.same s1 _ _ hv, rfl, w.2, rfl, ok.2.nb, fun H2 s2 => ?_⟩
 refine ⟨zl3, fun l hl => ?_⟩
 refine ⟨_, l, leanW w, rfl, rfl, SqL.of upd_same, fits_of (n := 200) (k := 1) (m := 3) Tx.lit (txL ok) (Nat.le_refl _), ?_⟩
 rw [joinT]
 exact k _ ((s1.trans s2).trans (same_new hl _))
theorem ok_Q15 (T : Txt K mg t) : FnOk P w K mg base CX0 5 t.a_Q15 t.d_Q15 ["sheet"] (sp_sheet_lines K) := by
 refine T.F_Q15.ok sc_Q15 (fun vs H Q E h => ?_) (fun cdv A outer s H vs Q E hr h => ?_)
 ·obtain ⟨_, _, _, rfl, _⟩ := h; rfl
 obtain ⟨v, ws, es, rfl, hv, okw, oke, nw, nl, k⟩ := h
 refine QSs.ok (qss_one (qs_ret (qe_op op_cat (qe_lcomp (N' := ["work"]) (src := [none]) rfl (by exact (qi_tup (qxA ix_tup (qv 0) qe_int))) (fun _ _ _ _ _ => (by exact (by exact qg_name (i := 0) (by show List.Nodup (["work"] : List Str); decide +kernel) (by exact rfl) (by first | exact Or.inl rfl | exact Or.inr rfl)))) (fun _ _ _ _ _ => qts_nil) (fun _ _ _ _ _ => (by exact (by exact (qe_call (ok_Q25 T) (by exact hr.mono (by decide)) (by exact rfl) T.m_Q25 T.F_Q25.kp T.b_Q25 (by exact .nil) (by exact pass0) (qa_cons (by exact (qv 0)) qa_nil star_name))))) (by exact trivial) rfl (by decide +kernel) rfl (by decide +kernel) (by exact cells_of rfl trivial)) (qe_lcomp (N' := ["lean"]) (src := [none]) rfl (by exact (qi_tup (qxA ix_tup (qv 0) qe_int))) (fun _ _ _ _ _ => (by exact (by exact qg_name (i := 0) (by show List.Nodup (["lean"] : List Str); decide +kernel) (by exact rfl) (by first | exact Or.inl rfl | exact Or.inr rfl)))) (fun _ _ _ _ _ => qts_nil) (fun _ _ _ _ _ => (by exact (by exact (qe_call (ok_Q26 T) (by exact hr.mono (by decide)) (by exact rfl) T.m_Q26 T.F_Q26.kp T.b_Q26 (by exact .nil) (by exact pass0) (qa_cons (by exact (qv 0)) qa_nil star_name))))) (by exact trivial) rfl (by decide +kernel) rfl (by decide +kernel) (by exact cells_of rfl trivial))))) ?_
 try dsimp only [Cx.nox, Cx.wish, cxOf]
 obtain ⟨p, pw, pl, xs, ys, rfl, hS, hw, hl, aw, al⟩ := hv
 refine ⟨_, rfl, p, _, _, _, rfl, rfl, hS, rfl, pw, rfl, ⟨_, hw⟩, fun D hD => comp_txt (K := K) (f := fun w => joinS (workW w)) hD hw aw.len (le1000 nw) (fun i x d H' hx hd s' R E kR => ?_) fun H1 s1 d1 => ?_⟩
 ·exact ⟨Ext.set rfl, _, rfl, x, d, rfl, (als_at aw hx hd).mono (Tst.same s'), mem_ok okw hd, kR⟩
 refine ⟨_, rfl, p, _, _, _, rfl, rfl, Tst.same s1 _ _ hS, rfl, pl, rfl, ⟨_, Tst.same s1 _ _ hl⟩, fun D2 hD2 => comp_txt (K := K) (f := fun w => joinS (leanW w)) hD2 (Tst.same s1 _ _ hl) al.len (le1000 nl) (fun i x d H' hx hd s' R E kR => ?_) fun H2 s2 d2 => ?_⟩
 ·exact ⟨Ext.set rfl, _, rfl, x, d, rfl, ((als_at al hx hd).mono (Tst.same s1)).mono (Tst.same s'), mem_ok oke hd, kR⟩
 refine ⟨D, D2, _, _, rfl, rfl, s2 _ _ d1, d2, ?_, fun l hl2 => ?_⟩
 ·have e : sizeLine = 16777216 := by decide
  simp only [List.length_map]
  omega
 refine k l _ ((s1.trans s2).trans (same_new hl2 _)) ?_
 rw [upd_same, ← List.map_append]
 rfl
theorem ok_Q19 (T : Txt K mg t) : FnOk P w K mg base CX0 4 t.a_Q19 t.d_Q19 ["piece"] (sp_piece_text K) := by
 refine T.F_Q19.ok sc_Q19 (fun vs H Q E h => ?_) (fun cdv A outer s H vs Q E hr h => ?_)
 ·obtain ⟨_, _, rfl, _⟩ := h; rfl
 obtain ⟨v, w, rfl, hv, ok, k⟩ := h
 refine QSs.ok (qss_one (qs_ret (qe_op op_add_str (qe_op op_add_str (qcA (ok_Q14 T) hr T.m_Q14 T.F_Q14.kp T.b_Q14 (qa_cons (qxA ix_tup (qv 0) qe_int) qa_nil star_sub)) qe_str) (qcA (ok_Q18 T) hr T.m_Q18 T.F_Q18.kp T.b_Q18 (qa_cons (qxA ix_tup (qv 0) qe_int) qa_nil star_sub))))) ?_
 try dsimp only [Cx.nox, Cx.wish, cxOf]
 obtain ⟨p, q, rfl, hv, hq⟩ := hv
 refine ⟨_, rfl, p, _, _, _, rfl, rfl, hv, rfl, w.1, rfl, ok.1.nb, fun H1 s1 => ⟨_, _, rfl, rfl, lenOk ((num_tx ok.1).app (Tx.lit (n := 1))), ?_⟩⟩
 refine ⟨_, rfl, p, _, _, _, rfl, rfl, Tst.same s1 _ _ hv, rfl, q, w.2, rfl, hq.mono (Tst.same s1), ok.2.nb1, ok.2.nb2, fun H2 s2 => ⟨_, _, rfl, rfl, lenOk (piece_tx ok), ?_⟩⟩
 exact k _ (s1.trans s2)
theorem ok_Q20 (T : Txt K mg t) : FnOk P w K mg base CX0 5 t.a_Q20 t.d_Q20 ["plan"] (sp_plan_lines K) := by
 refine T.F_Q20.ok sc_Q20 (fun vs H Q E h => ?_) (fun cdv A outer s H vs Q E hr h => ?_)
 ·obtain ⟨_, _, rfl, _⟩ := h; rfl
 obtain ⟨v, pl, rfl, hv, n140, ok, k⟩ := h
 refine QSs.ok (qss_one (qs_ret (qe_lcomp (N' := ["pieces"]) (src := [none]) rfl (by exact (qi_tup (qv 0))) (fun _ _ _ _ _ => (by exact (by exact qg_name (i := 0) (by show List.Nodup (["pieces"] : List Str); decide +kernel) (by exact rfl) (by first | exact Or.inl rfl | exact Or.inr rfl)))) (fun _ _ _ _ _ => qts_nil) (fun _ _ _ _ _ => (by exact (by exact (qe_bmK (K := K) (by exact rfl) PySem.F.plainAttrs_str PySem.F.slot_str_join PySem.F.type_str_join (mt_joinK (K := K) (by exact rfl)) qe_str (qa_cons (by exact (qe_op op_cat (by exact (qe_lst (qa_cons qe_str qa_nil star_con))) (by exact (qe_lcomp (N' := ["piece"]) (src := [none]) (by exact rfl) (by exact (qi_tupK (K := K) (by exact rfl) (by exact (qv 0)))) (by exact fun _ _ _ _ _ => (by exact (by exact qg_name (i := 0) (by show List.Nodup (["piece"] : List Str); decide +kernel) (by exact rfl) (by first | exact Or.inl rfl | exact Or.inr rfl)))) (by exact fun _ _ _ _ _ => qts_nil) (by exact fun _ _ _ _ _ => (by exact (by exact (qe_call (ok_Q19 T) (by exact hr.mono (by decide)) (by exact rfl) T.m_Q19 T.F_Q19.kp T.b_Q19 (by exact .nil) (by exact pass0) (qa_cons (by exact (qv 0)) qa_nil star_name))))) (by exact trivial) (by exact rfl) (by decide +kernel) (by exact rfl) (by decide +kernel) (by exact cells_of rfl trivial))))) qa_nil star_bin))))) (by exact trivial) rfl (by decide +kernel) rfl (by decide +kernel) (by exact cells_of rfl trivial)))) ?_
 try dsimp only [Cx.nox, Cx.wish, cxOf]
 obtain ⟨p, xs, rfl, hS, al⟩ := hv
 refine ⟨_, rfl, p, rfl, ⟨_, hS⟩, fun D hD => comp_txt (K := K) (f := fun ps => joinS (turnW ps)) hD hS al.len (le1000 n140) (fun i x d H' hx hd s' R E kR => ?_) fun H1 s1 d1 => ?_⟩
 ·obtain ⟨q, ys, rfl, hq, aq⟩ := (als_at al hx hd).mono (Tst.same s')
  obtain ⟨on, o⟩ := mem_ok ok hd
  refine ⟨Ext.set rfl, rfl, zl1, fun l1 h1 => ?_⟩
  have n1 := same_new h1 (.lst [.str (Str.ofString "turn")])
  refine ⟨_, rfl, q, rfl, ⟨_, Tst.same n1 _ _ hq⟩, fun D2 hD2 => comp_txt (K := K) (f := pieceT) hD2 (Tst.same n1 _ _ hq) aq.len (le1000 on) (fun j y w H2 hy hw s2 R2 E2 kR2 => ?_) fun H2 s2 d2 => ?_⟩
  ·exact ⟨Ext.set rfl, _, rfl, y, w, rfl, ((als_at aq hy hw).mono (Tst.same n1)).mono (Tst.same s2), mem_ok o hw, kR2⟩
  refine ⟨l1, D2, _, _, rfl, rfl, s2 _ _ upd_same, d2, ?_, fun l2 h2 => ?_⟩
  ·have e : sizeLine = 16777216 := by decide
   simp only [List.length_map, List.length_cons, List.length_nil]
   omega
  refine ⟨_, l2, turnW d, rfl, rfl, SqL.of upd_same, fits_of (n := 200) (k := 1) (m := 141) Tx.lit (txTurn o) (by unfold turnW; simp only [List.length_cons, List.length_map]; omega), ?_⟩
  rw [joinT]
  exact kR _ ((n1.trans s2).trans (same_new h2 _))
 ·exact k D H1 s1 (by rw [d1]; unfold plL; rfl)
theorem ok_Q33 (T : Txt K mg t) : FnOk P w K mg base CX0 4 t.a_Q33 t.d_Q33 ["row"] (sp_row_text K) := by
 refine T.F_Q33.ok sc_Q33 (fun vs H Q E h => ?_) (fun cdv A outer s H vs Q E hr h => ?_)
 ·obtain ⟨_, _, rfl, _⟩ := h; rfl
 obtain ⟨v, w, rfl, hv, ok, k⟩ := h
 refine QSs.ok (qss_one (qs_ret (qe_op op_add_str (qe_op op_add_str (qcA (ok_Q18 T) hr T.m_Q18 T.F_Q18.kp T.b_Q18 (qa_cons (qxA ix_tup (qv 0) qe_int) qa_nil star_sub)) qe_str) (qcA (ok_Q18 T) hr T.m_Q18 T.F_Q18.kp T.b_Q18 (qa_cons (qxA ix_tup (qv 0) qe_int) qa_nil star_sub))))) ?_
 try dsimp only [Cx.nox, Cx.wish, cxOf]
 obtain ⟨p, q1, q2, rfl, hv, h1, h2⟩ := hv
 refine ⟨_, rfl, p, _, _, _, rfl, rfl, hv, rfl, q1, w.1, rfl, h1, ok.1.nb1, ok.1.nb2, fun H1 s1 => ⟨_, _, rfl, rfl, lenOk ((rat_tx ok.1).app (Tx.lit (n := 1))), ?_⟩⟩
 refine ⟨_, rfl, p, _, _, _, rfl, rfl, Tst.same s1 _ _ hv, rfl, q2, w.2, rfl, h2.mono (Tst.same s1), ok.2.nb1, ok.2.nb2, fun H2 s2 => ⟨_, _, rfl, rfl, lenOk (row_tx ok), ?_⟩⟩
 exact k _ (s1.trans s2)
theorem ok_Q27 (T : Txt K mg t) : FnOk P w K mg base CX0 5 t.a_Q27 t.d_Q27 ["rule"] (sp_rule_text K) := by
 refine T.F_Q27.ok sc_Q27 (fun vs H Q E h => ?_) (fun cdv A outer s H vs Q E hr h => ?_)
 ·obtain ⟨_, _, rfl, _⟩ := h; rfl
 obtain ⟨v, s, rfl, hv, ok, n140, k⟩ := h
 refine QSs.ok (qss_cons (qs_if (qt_cmpR op_eq (qxA ix_tup (qv 0) qe_int) (qe_glob (v := .str "power") rfl T.m_POWER ⟨_, rfl⟩) (nomark _)) (qss_one (qs_ret (qe_bm PySem.F.plainAttrs_str PySem.F.slot_str_join PySem.F.type_str_join mt_join qe_str (qa_cons (qe_lst (qa_cons (qe_glob (v := .str "power") rfl T.m_POWER ⟨_, rfl⟩) (qa_cons (qcA (ok_Q14 T) hr T.m_Q14 T.F_Q14.kp T.b_Q14 (qa_cons (qxA ix_tup (qv 0) qe_int) qa_nil star_sub)) qa_nil star_call) star_name)) qa_nil star_lst)))) qss_nil)
   (qss_one (qs_ret (qe_bm PySem.F.plainAttrs_str PySem.F.slot_str_join PySem.F.type_str_join mt_join qe_str (qa_cons (qe_op op_cat (qe_lst (qa_cons (qxA ix_tup (qv 0) qe_int) qa_nil star_sub)) (qe_lcomp (N' := ["row"]) (src := [none]) rfl (by exact (qi_tup (qxA ix_tup (qv 0) qe_int))) (fun _ _ _ _ _ => (by exact (by exact qg_name (i := 0) (by show List.Nodup (["row"] : List Str); decide +kernel) (by exact rfl) (by first | exact Or.inl rfl | exact Or.inr rfl)))) (fun _ _ _ _ _ => qts_nil) (fun _ _ _ _ _ => (by exact (by exact (qe_call (ok_Q33 T) (by exact hr.mono (by decide)) (by exact rfl) T.m_Q33 T.F_Q33.kp T.b_Q33 (by exact .nil) (by exact pass0) (qa_cons (by exact (qv 0)) qa_nil star_name))))) (by exact trivial) rfl (by decide +kernel) rfl (by decide +kernel) (by exact cells_of rfl trivial))) qa_nil star_bin))))) ?_
 try dsimp only [Cx.nox, Cx.wish, cxOf]
 cases s with
 | pow kk =>
  obtain ⟨p, rfl, hS⟩ := hv
  refine ⟨_, rfl, p, _, _, _, rfl, rfl, hS, rfl, rfl, _, rfl, iteD1 rfl ?_⟩
  refine ⟨rfl, _, rfl, p, _, _, _, rfl, rfl, hS, rfl, kk, rfl, NG.nb ok, fun H1 s1 => ⟨zl2, fun l hl => ?_⟩⟩
  refine ⟨_, l, ruW (.pow kk), rfl, rfl, SqL.of upd_same, fits_of (n := 200) (k := 1) (m := 2) Tx.lit (txRule (r := .pow kk) ok) (Nat.le_refl _), ?_⟩
  rw [joinT]
  exact k _ (s1.trans (same_new hl _))
 | tab rows =>
  obtain ⟨p, q, xs, rfl, hS, hq, al⟩ := hv
  have n140' : rows.length ≤ 140 := n140
  refine ⟨_, rfl, p, _, _, _, rfl, rfl, hS, rfl, rfl, _, rfl, iteD0 (by decide) ?_⟩
  refine ⟨rfl, _, rfl, p, _, _, _, rfl, rfl, hS, rfl, zl1, fun l1 h1 => ?_⟩
  have n1 := same_new h1 (.lst [.str (Str.ofString "table")])
  refine ⟨_, rfl, p, _, _, _, rfl, rfl, Tst.same n1 _ _ hS, rfl, q, rfl, ⟨_, Tst.same n1 _ _ hq⟩, fun D hD => comp_txt (K := K) (f := rowT) hD (Tst.same n1 _ _ hq) al.len (le1000 n140') (fun i x d H' hx hd s' R E kR => ?_) fun H2 s2 d2 => ?_⟩
  ·exact ⟨Ext.set rfl, _, rfl, x, d, rfl, ((als_at al hx hd).mono (Tst.same n1)).mono (Tst.same s'), mem_ok ok hd, kR⟩
  refine ⟨l1, D, _, _, rfl, rfl, s2 _ _ upd_same, d2, ?_, fun l2 h2 => ?_⟩
  ·have e : sizeLine = 16777216 := by decide
   simp only [List.length_map, List.length_cons, List.length_nil]
   omega
  refine ⟨_, l2, ruW (.tab rows), rfl, rfl, SqL.of upd_same, fits_of (n := 200) (k := 1) (m := 141) Tx.lit (txRule (r := .tab rows) ok) (by show (Str.ofString "table" :: rows.map rowT).length ≤ 141; simp only [List.length_cons, List.length_map]; omega), ?_⟩
  rw [joinT]
  exact k _ ((n1.trans s2).trans (same_new h2 _))
theorem ok_Q34 (T : Txt K mg t) : FnOk P w K mg base CX0 1 t.a_Q34 t.d_Q34 ["_law_script"] (sp_law_tape K) := by
 refine T.F_Q34.ok sc_Q34 (fun vs H Q E h => ?_) (fun cdv A outer s H vs Q E hr h => ?_)
 ·obtain ⟨_, _, rfl, _⟩ := h; rfl
 obtain ⟨a, ns, rfl, hS, k⟩ := h
 refine QSs.ok (qss_one (qs_ret (qe_lst (qa_cons (qe_slice sl_list (qv 0) qo_none (qo_some qe_int)) (qa_cons qe_int (qa_cons qe_int (qa_cons qe_int qa_nil star_con) star_con) star_con) star_sub)))) ?_
 try dsimp only [Cx.nox, Cx.wish, cxOf]
 refine ⟨_, rfl, 63, rfl, a, _, rfl, hS, fun p hp => ⟨zl4, fun t ht => ?_⟩⟩
 have npt : p ≠ t := fun z => by subst z; rw [upd_same] at ht; cases ht
 have h0 : H t = none := by rw [upd_ne npt.symm] at ht; exact ht
 refine k t p _ ((same_new hp _).trans (same_new ht _)) h0 hp ⟨ns.take (min 63 ns.length), 0, 0, 0, upd_same, ?_, npt, ?_, by decide, by decide, by decide⟩
 ·rw [upd_ne npt, upd_same, cut63]
 ·rw [List.length_take]; omega
theorem ok_Q35 (T : Txt K mg t) : FnOk P w K mg base CX0 1 t.a_Q35 t.d_Q35 ["_law_tape_here", "_law_many"] (sp_law_draw K) := by
 refine T.F_Q35.ok sc_Q35 (fun vs H Q E h => ?_) (fun cdv A outer s H vs Q E hr h => ?_)
 ·obtain ⟨_, _, _, rfl, _⟩ := h; rfl
 obtain ⟨t₁, s₁, m, rfl, tp, hm0, hm1, k⟩ := h
 obtain ⟨ns, p, q₀, r₀, ht, hs, hne, hlen, hp0, hq0, hr0⟩ := tp.ex
 refine QSs.ok (qss_cons (qsA 2 sc_Q35.nd (qxA ix_list (qv 0) qe_int))
   (qss_cons (qsA 3 sc_Q35.nd (qxA ix_list (qv 0) qe_int))
   (qss_cons (qs_asg (qe_op op_add (qv 3) qe_int) (qg_sub (qv 0) qe_int set_list))
   (qss_cons (qs_while PassesOwn.never (qw_pt (qw_and (qt_cmpR op_eq (qxA ix_list (qv 0) qe_int) qe_int (nomark _)) (qw_and1 (qt_cmpR op_lt (qxA ix_list (qv 0) qe_int) (qe_callB call_len_seq (by rfl) T.z_len boot_len (qa_cons (qv 2) qa_nil star_name)) (nomark _)))))
   (qss_cons (qs_if (qt_cmpR op_ge (qe_callB call_abs (by rfl) T.z_abs boot_abs (qa_cons (qxA ix_list (qv 2) (qxA ix_list (qv 0) qe_int)) qa_nil star_sub)) (qe_op op_pow qe_int qe_int) (nomark _)) (qss_one (qs_asg (qe_callB call_abs (by rfl) T.z_abs boot_abs (qa_cons (qxA ix_list (qv 2) (qxA ix_list (qv 0) qe_int)) qa_nil star_sub)) (qg_sub (qv 0) qe_int set_list))) qss_nil)
   (qss_one (qs_asg (qe_op op_add (qxA ix_list (qv 0) qe_int) qe_int) (qg_sub (qv 0) qe_int set_list)))))
   (qss_cons (qs_if (qt_cmpR op_gt (qxA ix_list (qv 0) qe_int) qe_int (nomark _)) (qss_cons (qsA 4 sc_Q35.nd (qxA ix_list (qv 0) qe_int))
   (qss_cons (qs_asg (qe_op op_fdiv (qv 4) (qv 1)) (qg_sub (qv 0) qe_int set_list))
   (qss_one (qs_ret (qe_op op_mod (qv 4) (qv 1)))))) qss_nil)
   (qss_cons (qsA 5 sc_Q35.nd qe_int)
   (qss_cons (qs_if (qt_cmpR op_gt (qe_callB call_len_seq (by rfl) T.z_len boot_len (qa_cons (qv 2) qa_nil star_name)) qe_int (nomark _)) (qss_one (qsA 5 sc_Q35.nd (qxA ix_list (qv 2) (qe_op op_mod (qv 3) (qe_callB call_len_seq (by rfl) T.z_len boot_len (qa_cons (qv 2) qa_nil star_name)))))) qss_nil)
   (qss_cons (qsA 6 sc_Q35.nd (qe_op op_mod (qe_op op_mul (qe_op op_add (qe_op op_mod (qv 5) qe_int) qe_int) (qe_op op_add (qe_op op_add (qe_op op_mul (qe_op op_mod (qv 3) qe_int) qe_int) qe_int) (qv 3))) qe_int))
   (qss_cons (qsA 6 sc_Q35.nd (qe_op op_mod (qe_op op_add (qe_op op_add (qe_op op_mul (qv 6) (qv 6)) (qe_op op_mul qe_int (qv 6))) (qv 3)) qe_int))
   (qss_one (qs_ret (qe_op op_mod (qe_op op_mod (qe_op op_mul (qv 6) qe_int) qe_int) (qv 1))))))))))))) ?_
 try dsimp only [Cx.nox, Cx.wish, cxOf]
 have tap : ∀ (q r : Int), 0 ≤ q -> 0 ≤ r -> Tape (upd H t₁ (.lst [.ref s₁, .int (p + 1), .int q, .int r])) t₁ s₁ := fun q r hq hr => ⟨ns, p + 1, q, r, upd_same, by rw [upd_ne hne]; exact hs, hne, hlen, by omega, hq, hr⟩
 have hs' : ∀ o, (upd H t₁ o) s₁ = some (.lst (ns.map V.int)) := fun o => by rw [upd_ne hne]; exact hs
 have hl : ((ns.map V.int).length : Int) = (ns.length : Int) := by rw [List.length_map]
 refine ⟨_, rfl, t₁, _, _, _, rfl, rfl, SqL.of ht, rfl, ?_⟩
 refine ⟨_, rfl, t₁, _, _, _, rfl, rfl, SqL.of ht, rfl, ?_⟩
 refine ⟨_, rfl, _, _, rfl, rfl, _, rfl, t₁, _, _, _, rfl, rfl, ht, rfl, ?_⟩
 refine ⟨fun μ σ H' => ∃ q r : Int, σ = [some (.ref t₁), some (.int m), some (.ref s₁), some (.int p), none, none, none] /\ H' = upd H t₁ (.lst [.ref s₁, .int (p + 1), .int q, .int r]) /\ 0 ≤ q /\ 0 ≤ r /\ μ = ns.length - r.toNat, ⟨_, q₀, r₀, rfl, rfl, hq0, hr0, rfl⟩, ?_⟩
 rintro μ σ H' ⟨q, r, rfl, rfl, hq, hr', rfl⟩
 refine ⟨_, rfl, t₁, _, _, _, rfl, rfl, SqL.of upd_same, rfl, rfl, _, rfl, ?_⟩
 by_cases c : q = 0 /\ r < (ns.length : Int)
 ·obtain ⟨c1, c2⟩ := c
  subst c1
  refine iteD1 rfl ?_
  refine ⟨_, rfl, t₁, _, _, _, rfl, rfl, SqL.of upd_same, rfl, _, rfl, s₁, _, rfl, .inl (SqL.of (hs' _)), _, _, rfl, rfl, _, rfl, ?_⟩
  refine iteD1 (by rw [hl]; exact c2) ?_
  refine ⟨_, fun _ _ z => z, ?_⟩
  obtain ⟨z, hz⟩ := pickI (ns := ns) hr' c2
  refine ⟨_, rfl, _, rfl, t₁, _, _, _, rfl, rfl, SqL.of upd_same, rfl, s₁, _, _, _, rfl, rfl, SqL.of (hs' _), hz, _, rfl, _, _, rfl, rfl, ⟨by decide, by decide, by decide⟩, _, _, rfl, rfl, _, rfl, ?_⟩
  refine ite2 (fun _ => ?_) (fun _ => ?_)
  ·refine ⟨_, rfl, _, rfl, t₁, _, _, _, rfl, rfl, SqL.of upd_same, rfl, s₁, _, _, _, rfl, rfl, SqL.of (hs' _), hz, _, rfl, _, rfl, t₁, _, _, _, rfl, rfl, upd_same, rfl, ?_⟩
   rw [upd_upd]
   refine ⟨_, rfl, t₁, _, _, _, rfl, rfl, SqL.of upd_same, rfl, _, _, rfl, rfl, _, rfl, t₁, _, _, _, rfl, rfl, upd_same, rfl, ?_⟩
   rw [upd_upd]
   exact ⟨_, by omega, _, r + 1, rfl, rfl, by split <;> omega, by omega, rfl⟩
  ·refine ⟨_, rfl, t₁, _, _, _, rfl, rfl, SqL.of upd_same, rfl, _, _, rfl, rfl, _, rfl, t₁, _, _, _, rfl, rfl, upd_same, rfl, ?_⟩
   rw [upd_upd]
   exact ⟨_, by omega, 0, r + 1, rfl, rfl, by omega, by omega, rfl⟩
 by_cases c1 : q = 0
 ·refine iteD1 (by rw [c1]) ?_
  refine ⟨_, rfl, t₁, _, _, _, rfl, rfl, SqL.of upd_same, rfl, _, rfl, s₁, _, rfl, .inl (SqL.of (hs' _)), _, _, rfl, rfl, _, rfl, ?_⟩
  refine iteD0 (by rw [hl]; exact fun z => c ⟨c1, z⟩) ?_
  refine ⟨_, rfl, t₁, _, _, _, rfl, rfl, SqL.of upd_same, rfl, _, _, rfl, rfl, _, rfl, ?_⟩
  refine ite2 (fun _ => ?_) (fun _ => ?_)
  ·refine ⟨_, rfl, t₁, _, _, _, rfl, rfl, SqL.of upd_same, rfl, ?_⟩
   refine ⟨_, rfl, _, rfl, _, _, rfl, rfl, ⟨hm0, hm1⟩, _, rfl, t₁, _, _, _, rfl, rfl, upd_same, rfl, ?_⟩
   refine ⟨_, rfl, _, rfl, _, _, rfl, rfl, hm0, ?_⟩
   rw [upd_upd]
   exact k _ _ (Int.emod_nonneg _ (by omega)) (Int.emod_lt_of_pos _ hm0) (tap (q / m) r (Int.ediv_nonneg hq (by omega)) hr')
  ·refine ⟨_, rfl, s₁, _, rfl, .inl (SqL.of (hs' _)), _, _, rfl, rfl, _, rfl, ?_⟩
   refine ite2 (fun c9 => ?_) (fun _ => ?_)
   ·have c8 : (0 : Int) < (ns.length : Int) := by
     have c7 : (0 : Int) < ((ns.map V.int).length : Int) := of_decide_eq_true c9
     rw [hl] at c7; exact c7
    obtain ⟨z, hz⟩ := pickI (ns := ns) (r := p % (ns.length : Int)) (Int.emod_nonneg _ (by omega)) (Int.emod_lt_of_pos _ c8)
    rw [← hl] at hz c8
    refine ⟨_, rfl, _, rfl, _, rfl, s₁, _, rfl, .inl (SqL.of (hs' _)), _, _, rfl, rfl, c8, s₁, _, _, _, rfl, rfl, SqL.of (hs' _), hz, ?_⟩
    refine ⟨_, rfl, _, _, rfl, rfl, (by show (0 : Int) < _; decide), _, _, rfl, rfl, _, rfl, _, _, rfl, rfl, (by show (0 : Int) < _; decide), _, _, rfl, rfl, .inl ⟨by omega, by omega⟩, _, _, rfl, rfl, _, rfl, _, _, rfl, rfl, _, _, rfl, rfl, .inl ⟨by omega, by omega⟩, _, _, rfl, rfl, (by show (0 : Int) < _; decide), ?_⟩
    refine ⟨_, rfl, _, rfl, _, _, rfl, rfl, .inl ⟨by omega, by omega⟩, _, rfl, _, _, rfl, rfl, .inl ⟨by omega, by omega⟩, _, _, rfl, rfl, _, rfl, _, _, rfl, rfl, _, _, rfl, rfl, (by show (0 : Int) < _; decide), ?_⟩
    refine ⟨_, rfl, _, _, rfl, rfl, .inl ⟨by omega, by omega⟩, _, _, rfl, rfl, (by show (0 : Int) < _; decide), _, rfl, _, _, rfl, rfl, hm0, ?_⟩
    exact k _ _ (Int.emod_nonneg _ (by omega)) (Int.emod_lt_of_pos _ hm0) (tap q r hq hr')
   ·refine ⟨_, rfl, _, _, rfl, rfl, (by show (0 : Int) < _; decide), _, _, rfl, rfl, _, rfl, _, _, rfl, rfl, (by show (0 : Int) < _; decide), _, _, rfl, rfl, .inl ⟨by omega, by omega⟩, _, _, rfl, rfl, _, rfl, _, _, rfl, rfl, _, _, rfl, rfl, .inl ⟨by omega, by omega⟩, _, _, rfl, rfl, (by show (0 : Int) < _; decide), ?_⟩
    refine ⟨_, rfl, _, rfl, _, _, rfl, rfl, .inl ⟨by omega, by omega⟩, _, rfl, _, _, rfl, rfl, .inl ⟨by omega, by omega⟩, _, _, rfl, rfl, _, rfl, _, _, rfl, rfl, _, _, rfl, rfl, (by show (0 : Int) < _; decide), ?_⟩
    refine ⟨_, rfl, _, _, rfl, rfl, .inl ⟨by omega, by omega⟩, _, _, rfl, rfl, (by show (0 : Int) < _; decide), _, rfl, _, _, rfl, rfl, hm0, ?_⟩
    exact k _ _ (Int.emod_nonneg _ (by omega)) (Int.emod_lt_of_pos _ hm0) (tap q r hq hr')
 ·refine iteD0 (fun z => c1 (by injection z)) (iteF ?_)
  refine ⟨_, rfl, t₁, _, _, _, rfl, rfl, SqL.of upd_same, rfl, _, _, rfl, rfl, _, rfl, ?_⟩
  refine ite2 (fun _ => ?_) (fun _ => ?_)
  ·refine ⟨_, rfl, t₁, _, _, _, rfl, rfl, SqL.of upd_same, rfl, ?_⟩
   refine ⟨_, rfl, _, rfl, _, _, rfl, rfl, ⟨hm0, hm1⟩, _, rfl, t₁, _, _, _, rfl, rfl, upd_same, rfl, ?_⟩
   refine ⟨_, rfl, _, rfl, _, _, rfl, rfl, hm0, ?_⟩
   rw [upd_upd]
   exact k _ _ (Int.emod_nonneg _ (by omega)) (Int.emod_lt_of_pos _ hm0) (tap (q / m) r (Int.ediv_nonneg hq (by omega)) hr')
  ·refine ⟨_, rfl, s₁, _, rfl, .inl (SqL.of (hs' _)), _, _, rfl, rfl, _, rfl, ?_⟩
   refine ite2 (fun c9 => ?_) (fun _ => ?_)
   ·have c8 : (0 : Int) < (ns.length : Int) := by
     have c7 : (0 : Int) < ((ns.map V.int).length : Int) := of_decide_eq_true c9
     rw [hl] at c7; exact c7
    obtain ⟨z, hz⟩ := pickI (ns := ns) (r := p % (ns.length : Int)) (Int.emod_nonneg _ (by omega)) (Int.emod_lt_of_pos _ c8)
    rw [← hl] at hz c8
    refine ⟨_, rfl, _, rfl, _, rfl, s₁, _, rfl, .inl (SqL.of (hs' _)), _, _, rfl, rfl, c8, s₁, _, _, _, rfl, rfl, SqL.of (hs' _), hz, ?_⟩
    refine ⟨_, rfl, _, _, rfl, rfl, (by show (0 : Int) < _; decide), _, _, rfl, rfl, _, rfl, _, _, rfl, rfl, (by show (0 : Int) < _; decide), _, _, rfl, rfl, .inl ⟨by omega, by omega⟩, _, _, rfl, rfl, _, rfl, _, _, rfl, rfl, _, _, rfl, rfl, .inl ⟨by omega, by omega⟩, _, _, rfl, rfl, (by show (0 : Int) < _; decide), ?_⟩
    refine ⟨_, rfl, _, rfl, _, _, rfl, rfl, .inl ⟨by omega, by omega⟩, _, rfl, _, _, rfl, rfl, .inl ⟨by omega, by omega⟩, _, _, rfl, rfl, _, rfl, _, _, rfl, rfl, _, _, rfl, rfl, (by show (0 : Int) < _; decide), ?_⟩
    refine ⟨_, rfl, _, _, rfl, rfl, .inl ⟨by omega, by omega⟩, _, _, rfl, rfl, (by show (0 : Int) < _; decide), _, rfl, _, _, rfl, rfl, hm0, ?_⟩
    exact k _ _ (Int.emod_nonneg _ (by omega)) (Int.emod_lt_of_pos _ hm0) (tap q r hq hr')
   ·refine ⟨_, rfl, _, _, rfl, rfl, (by show (0 : Int) < _; decide), _, _, rfl, rfl, _, rfl, _, _, rfl, rfl, (by show (0 : Int) < _; decide), _, _, rfl, rfl, .inl ⟨by omega, by omega⟩, _, _, rfl, rfl, _, rfl, _, _, rfl, rfl, _, _, rfl, rfl, .inl ⟨by omega, by omega⟩, _, _, rfl, rfl, (by show (0 : Int) < _; decide), ?_⟩
    refine ⟨_, rfl, _, rfl, _, _, rfl, rfl, .inl ⟨by omega, by omega⟩, _, rfl, _, _, rfl, rfl, .inl ⟨by omega, by omega⟩, _, _, rfl, rfl, _, rfl, _, _, rfl, rfl, _, _, rfl, rfl, (by show (0 : Int) < _; decide), ?_⟩
    refine ⟨_, rfl, _, _, rfl, rfl, .inl ⟨by omega, by omega⟩, _, _, rfl, rfl, (by show (0 : Int) < _; decide), _, rfl, _, _, rfl, rfl, hm0, ?_⟩
    exact k _ _ (Int.emod_nonneg _ (by omega)) (Int.emod_lt_of_pos _ hm0) (tap q r hq hr')
theorem ok_Q41 (T : Txt K mg t) : FnOk P w K mg base CX0 1 t.a_Q41 t.d_Q41 ["_law_one", "_law_other"] (sp_law_gcd K) := by
 refine T.F_Q41.ok sc_Q41 (fun vs H Q E h => ?_) (fun cdv A outer s H vs Q E hr h => ?_)
 ·obtain ⟨_, _, rfl, _⟩ := h; rfl
 obtain ⟨a, b, rfl, ha, hb, k⟩ := h
 refine QSs.ok (qss_cons (qs_while PassesOwn.never (qt_cmpR op_ne (qv 1) qe_int (nomark _))
   (qss_one (qs_par (i := 0) (j := 1) rfl sc_Q41.nd rfl rfl (by decide) rfl rfl (qa_cons (qv 1) (qa_cons (qe_op op_mod (qv 0) (qv 1)) qa_nil star_bin) star_name) rfl)))
   (qss_one (qs_ret (qv 0)))) ?_
 try dsimp only [Cx.nox, Cx.wish, cxOf]
 refine ⟨fun m σ H' => ∃ (x y : Int), σ = [some (.int x), some (.int y)] /\ H' = H /\ 0 ≤ x /\ 0 ≤ y /\ Int.gcd x y = Int.gcd a b /\ m = y.toNat, ⟨_, _, _, rfl, rfl, ha, hb, rfl, rfl⟩, ?_⟩
 rintro m σ H' ⟨x, y, rfl, rfl, hx, hy, hg, rfl⟩
 refine ⟨_, rfl, rfl, _, rfl, ?_⟩
 by_cases c : y = 0
 ·subst c
  refine iteNS rfl ?_
  rw [← hg] at k
  refine ⟨_, rfl, ?_⟩
  have e : (x : Int) = (Int.gcd x 0 : Nat) := by simp [Int.gcd]; omega
  rw [← e] at k
  exact k
 ·refine iteN1 (fun z => c (by injection z)) ?_
  refine ⟨_, fun _ _ z => z, ?_⟩
  refine ⟨_, rfl, _, rfl, _, rfl, _, _, rfl, rfl, (by omega), _, _, rfl, ?_⟩
  refine ⟨_, ?_, y, x % y, rfl, rfl, hy, Int.emod_nonneg _ c, ?_, rfl⟩
  ·have := Int.emod_lt_of_pos x (show 0 < y by omega)
   have := Int.emod_nonneg x c
   omega
  ·rw [gcd_turn hx (by omega), hg]
theorem ok_Q28 (T : Txt K mg t) : FnOk P w K mg base CX0 2 t.a_Q28 t.d_Q28 ["_law_top", "_law_bottom"] (sp_law_ratio K) := by
 refine T.F_Q28.ok sc_Q28 (fun vs H Q E h => ?_) (fun cdv A outer s H vs Q E hr h => ?_)
 ·obtain ⟨_, _, rfl, _⟩ := h; rfl
 obtain ⟨a, b, rfl, hb, hz, k⟩ := h
 refine QSs.ok (qss_cons (qsA 2 sc_Q28.nd (qcA (ok_Q41 T) hr T.m_Q41 T.F_Q41.kp T.b_Q41 (qa_cons (qe_callB call_abs (by rfl) T.z_abs boot_abs (qa_cons (qv 0) qa_nil star_name)) (qa_cons (qe_callB call_abs (by rfl) T.z_abs boot_abs (qa_cons (qv 1) qa_nil star_name)) qa_nil star_call) star_call)))
   (qss_cons (qs_if (qt_cmpR op_lt (qv 1) qe_int (nomark _)) (qss_one (qsA 2 sc_Q28.nd (qe_un un_neg (qv 2)))) qss_nil)
   (qss_one (qs_ret (qe_tup (qa_cons (qe_op op_quoN (qv 0) (qv 2)) (qa_cons (qe_op op_quoN (qv 1) (qv 2)) qa_nil star_bin) star_bin)))))) ?_
 try dsimp only [Cx.nox, Cx.wish, cxOf]
 have gp := gcd_posN (a := a) hb
 have gb := gcd_big (a := a) hb hz
 refine ⟨_, rfl, _, rfl, _, rfl, _, rfl, _, _, rfl, (by split <;> omega), (by split <;> omega), ?_⟩
 rw [abs_if, abs_if]
 have eg : Int.gcd (a.natAbs : Int) (b.natAbs : Int) = Int.gcd a b := by simp [Int.gcd]
 rw [eg]
 refine ⟨_, rfl, _, _, rfl, rfl, _, rfl, ?_⟩
 by_cases hn : b < 0
 ·refine iteD1 hn ?_
  rw [← mkS_neg1 hn] at k
  have gm : (-((Int.gcd a b : Nat) : Int)).natAbs < 2 ^ 4000 := by rw [Int.natAbs_neg]; exact gb
  refine ⟨_, rfl, _, rfl, ?_⟩
  refine ⟨_, rfl, _, rfl, _, _, rfl, rfl, ⟨by omega, gm⟩, _, rfl, _, rfl, _, _, rfl, rfl, ⟨by omega, gm⟩, zl2, fun p hp => ?_⟩
  exact k p hp
 ·refine iteD0 hn ?_
  rw [← mkS_pos1 (by omega : 0 < b)] at k
  refine ⟨_, rfl, _, rfl, _, _, rfl, rfl, ⟨by omega, gb⟩, _, rfl, _, rfl, _, _, rfl, rfl, ⟨by omega, gb⟩, zl2, fun p hp => ?_⟩
  exact k p hp
theorem ok_Q3 (T : Txt K mg t) : FnOk P w K mg base CX0 1 t.a_Q3 t.d_Q3 ["_law_one"] (sp_law_ratio_text K) := by
 refine T.F_Q3.ok sc_Q3 (fun vs H Q E h => ?_) (fun cdv A outer s H vs Q E hr h => ?_)
 ·obtain ⟨_, _, rfl, _⟩ := h; rfl
 obtain ⟨v, r, rfl, ⟨p, rfl, hp⟩, n1, n2, k⟩ := h
 refine QSs.ok (qss_one (qs_ret (qe_ifExp (qt_cmpR op_eq (qxA ix_tup (qv 0) qe_int) qe_int (nomark _)) (qe_callTy call_str_int (by rfl) T.z_str boot_str (qa_cons (qxA ix_tup (qv 0) qe_int) qa_nil star_sub)) (qe_op op_add_str (qe_op op_add_str (qe_callTy call_str_int (by rfl) T.z_str boot_str (qa_cons (qxA ix_tup (qv 0) qe_int) qa_nil star_sub)) qe_str) (qe_callTy call_str_int (by rfl) T.z_str boot_str (qa_cons (qxA ix_tup (qv 0) qe_int) qa_nil star_sub)))))) ?_
 try dsimp only [Cx.nox, Cx.wish, cxOf]
 have l1 := num200' n1
 have l2 := num200' n2
 refine ⟨_, rfl, p, _, _, _, rfl, rfl, hp, rfl, rfl, _, rfl, ?_⟩
 by_cases c : r.2 = 1
 ·refine iteD1 (by rw [c]) ?_
  have e : ratT r = numT r.1 := if_pos c
  rw [e] at k
  exact ⟨_, rfl, p, _, _, _, rfl, rfl, hp, rfl, _, rfl, log2_lt n1, k⟩
 ·refine iteD0 (fun z => by injection z with z; exact c z) ?_
  have e : ratT r = numT r.1 ++ Str.ofString "/" ++ numT r.2 := if_neg c
  rw [e] at k
  exact ⟨_, rfl, p, _, _, _, rfl, rfl, hp, rfl, _, rfl, log2_lt n1, _, _, rfl, rfl, Nat.le_trans (m := 300) (by rw [show (Str.ofString "/").length = 1 from rfl]; omega) (by decide), _, rfl, p, _, _, _, rfl, rfl, hp, rfl, _, rfl, log2_lt n2, _, _, rfl, rfl, Nat.le_trans (m := 500) (by rw [Str.length_append, show (Str.ofString "/").length = 1 from rfl]; omega) (by decide), k⟩
theorem ok_Q1 (T : Txt K mg t) : FnOk P w K mg base CX0 2 t.a_Q1 t.d_Q1 ["_law_sheet"] (sp_law_sheet_lines K) := by
 refine T.F_Q1.ok sc_Q1 (fun vs H Q E h => ?_) (fun cdv A outer s H vs Q E hr h => ?_)
 ·obtain ⟨_, _, _, rfl, _⟩ := h; rfl
 obtain ⟨v, ws, es, rfl, ⟨p, q1, q2, xs, ys, rfl, hp, h1, h2, aw, ae⟩, okw, oke, w100, e100, k⟩ := h
 refine QSs.ok (qss_cons (qs_setC (i := 1) (N' := ["_law_one", "_law_two", "_law_part"]) (src := [none, none, none]) sc_Q1.nd rfl (by first | exact Or.inl rfl | exact Or.inr rfl) rfl (by exact (qi_tup (qxA ix_tup (qv 0) qe_int))) (fun _ _ _ _ _ => (by exact (by exact qg_tupK (K := K) (n := 3) (by exact rfl) (by exact rfl) (by exact qgs_cons (by exact qg_name (i := 0) (by show List.Nodup (["_law_one", "_law_two", "_law_part"] : List Str); decide +kernel) (by exact rfl) (by first | exact Or.inl rfl | exact Or.inr rfl)) (by exact qgs_cons (by exact qg_name (i := 1) (by show List.Nodup (["_law_one", "_law_two", "_law_part"] : List Str); decide +kernel) (by exact rfl) (by first | exact Or.inl rfl | exact Or.inr rfl)) (by exact qgs_cons (by exact qg_name (i := 2) (by show List.Nodup (["_law_one", "_law_two", "_law_part"] : List Str); decide +kernel) (by exact rfl) (by first | exact Or.inl rfl | exact Or.inr rfl)) qgs_nil)))))) (fun _ _ _ _ _ => qts_nil) (fun _ _ _ _ _ => (by exact (by exact (qe_op op_add_str qe_str (by exact (qe_bmK (K := K) (by exact rfl) PySem.F.plainAttrs_str PySem.F.slot_str_join PySem.F.type_str_join (mt_joinK (K := K) (by exact rfl)) qe_str (qa_cons (by exact (qe_lst (qa_cons (by exact (qe_callTy call_str_int (by exact rfl) T.z_str boot_str (qa_cons (by exact (qv 0)) qa_nil star_name))) (qa_cons (by exact (qe_callTy call_str_int (by exact rfl) T.z_str boot_str (qa_cons (by exact (qv 1)) qa_nil star_name))) (qa_cons (by exact (qe_call (ok_Q3 T) (by exact hr.mono (by decide)) (by exact rfl) T.m_Q3 T.F_Q3.kp T.b_Q3 (by exact .nil) (by exact pass0) (qa_cons (by exact (qv 2)) qa_nil star_name))) qa_nil star_call) star_call) star_call))) qa_nil star_lst))))))) (by exact trivial) rfl (by decide +kernel) rfl (by decide +kernel) (by exact cells_of rfl trivial))
   (qss_one (qs_ret (qe_op op_cat (qv 1) (qe_lcomp (N' := ["_law_one", "_law_other"]) (src := [none, none]) rfl (by exact (qi_tup (qxA ix_tup (qv 0) qe_int))) (fun _ _ _ _ _ => (by exact (by exact qg_tupK (K := K) (n := 2) (by exact rfl) (by exact rfl) (by exact qgs_cons (by exact qg_name (i := 0) (by show List.Nodup (["_law_one", "_law_other"] : List Str); decide +kernel) (by exact rfl) (by first | exact Or.inl rfl | exact Or.inr rfl)) (by exact qgs_cons (by exact qg_name (i := 1) (by show List.Nodup (["_law_one", "_law_other"] : List Str); decide +kernel) (by exact rfl) (by first | exact Or.inl rfl | exact Or.inr rfl)) qgs_nil))))) (fun _ _ _ _ _ => qts_nil) (fun _ _ _ _ _ => (by exact (by exact (qe_op op_add_str (by exact (qe_op op_add_str (by exact (qe_op op_add_str qe_str (by exact (qe_callTy call_str_int (by exact rfl) T.z_str boot_str (qa_cons (by exact (qv 0)) qa_nil star_name))))) qe_str)) (by exact (qe_callTy call_str_int (by exact rfl) T.z_str boot_str (qa_cons (by exact (qv 1)) qa_nil star_name))))))) (by exact trivial) rfl (by decide +kernel) rfl (by decide +kernel) (by exact cells_of rfl trivial)))))) ?_
 try dsimp only [Cx.nox, Cx.wish, cxOf]
 have lx := aw.len
 have ly := ae.len
 refine ⟨_, rfl, p, _, _, _, rfl, rfl, hp, rfl, q1, rfl, ⟨_, h1⟩, fun D1 hD1 => comp_mapT (K := K) (P := StrV) (ds := ws) (f := fun w => joinS (workW w)) (fun _ _ _ _ _ z => z) hD1 h1 lx (by omega) (fun i x d H' hx hd sm Rk E kR => ?_) fun H1 zs s1 hz1 al1 => ?_⟩
 ·obtain ⟨d', hd', pw, am, rfl, hpw, ram⟩ := aw.at hx
  rw [hd] at hd'
  cases hd'
  have t' := Tst.same (K := K) sm
  have ok := okw d (List.mem_of_getElem? hd)
  have l1 := len_num' ok.1
  have l2 := len_num' ok.2.1
  have l3 := len_rat ok.2.2
  refine ⟨pw, _, rfl, t' _ _ hpw, rfl, _, _, rfl, _, _, rfl, _, _, rfl, rfl, ((Ext.set rfl).set' rfl).set' rfl, ?_⟩
  refine ⟨rfl, _, rfl, _, rfl, log2_lt ok.1.nb, _, rfl, _, rfl, log2_lt ok.2.1.nb, _, rfl, am, d.2.2, rfl, ram.mono t', ok.2.2.nb1, ok.2.2.nb2, zl3, fun lj hlj => ?_⟩
  have sj := same_new hlj (.lst [.str (numT d.1), .str (numT d.2.1), .str (ratT d.2.2)])
  have fits : JoinFits (Str.ofString " ") [numT d.1, numT d.2.1, ratT d.2.2] := by
   show ((numT d.1).length + ((numT d.2.1).length + ((ratT d.2.2).length + 0))) + 3 * 1 ≤ 16777216
   omega
  refine ⟨_, lj, [numT d.1, numT d.2.1, ratT d.2.2], rfl, rfl, SqL.of upd_same, fits, _, _, rfl, rfl, ?_, kR _ _ sj ?_⟩
  ·refine Nat.le_trans (m := 1000) ?_ (by decide)
   have := join_len (n := 130) (ws := [numT d.1, numT d.2.1, ratT d.2.2]) fun x hx => by
    simp only [List.mem_cons, List.not_mem_nil, or_false] at hx
    rcases hx with rfl | rfl | rfl <;> omega
   have this' : (Str.join (Str.ofString " ") [numT d.1, numT d.2.1, ratT d.2.2]).length ≤ _ := this
   rw [joinT, show (Str.ofString "work ").length = 5 from rfl]
   have e : (130 + 1) * [numT d.1, numT d.2.1, ratT d.2.2].length = 393 := rfl
   omega
  ·show V.str _ = V.str _
   rw [work_line]
   rfl
 have ez := als_str al1
 have t1 := Tst.same (K := K) s1
 refine ⟨_, rfl, _, rfl, p, _, _, _, rfl, rfl, t1 _ _ hp, rfl, q2, rfl, ⟨_, t1 _ _ h2⟩, fun D2 hD2 => comp_mapT (K := K) (P := StrV) (ds := es) (f := fun e => joinS (leanW e)) (fun _ _ _ _ _ z => z) hD2 (t1 _ _ h2) ly (by omega) (fun i x d H' hx hd sm Rk E kR => ?_) fun H2 zs2 s2 hz2 al2 => ?_⟩
 ·obtain ⟨d', hd', pw, rfl, hpw⟩ := ae.at hx
  rw [hd] at hd'
  cases hd'
  have t' := Tst.same (K := K) (s1.trans sm)
  have ok := oke d (List.mem_of_getElem? hd)
  have l1 := len_num'' ok.1
  have l2 := len_num'' ok.2
  refine ⟨pw, _, rfl, t' _ _ hpw, rfl, _, _, rfl, _, _, rfl, rfl, (Ext.set rfl).set' rfl, ?_⟩
  refine ⟨_, rfl, _, rfl, log2_lt ok.1.nb, _, _, rfl, rfl, Nat.le_trans (m := 100) (by rw [show (Str.ofString "lean ").length = 5 from rfl]; omega) (by decide), _, _, rfl, rfl, Nat.le_trans (m := 100) (by rw [Str.length_append, show (Str.ofString "lean ").length = 5 from rfl, show (Str.ofString " ").length = 1 from rfl]; omega) (by decide), _, rfl, _, rfl, log2_lt ok.2.nb, _, _, rfl, rfl, Nat.le_trans (m := 200) (by rw [Str.length_append, Str.length_append, show (Str.ofString "lean ").length = 5 from rfl, show (Str.ofString " ").length = 1 from rfl]; omega) (by decide), kR _ _ (Same.refl _) ?_⟩
  show V.str _ = V.str _
  rw [lean_line]
  rfl
 have ez2 := als_str al2
 have l1 : zs.length = ws.length := by rw [ez, List.length_map, List.length_map]
 have l2 : zs2.length = es.length := by rw [ez2, List.length_map, List.length_map]
 refine ⟨D1, D2, _, _, rfl, rfl, s2 _ _ hz1, hz2, Nat.le_of_lt (small1000 (by omega)), fun q hq => ?_⟩
 refine k q _ ((s1.trans s2).trans (same_new hq _)) ?_
 rw [upd_same, ez, ez2]
 unfold shL
 rw [List.map_append]
theorem ok_Q8 (T : Txt K mg t) : FnOk P w K mg base CX0 2 t.a_Q8 t.d_Q8 ["_law_rule"] (sp_law_rule_line K) := by
 refine T.F_Q8.ok sc_Q8 (fun vs H Q E h => ?_) (fun cdv A outer s H vs Q E hr h => ?_)
 ·obtain ⟨_, _, rfl, _⟩ := h; rfl
 obtain ⟨v, r, rfl, rv, ok, k⟩ := h
 refine QSs.ok (qss_cons (qs_if (qt_cmpR op_eq (qxA ix_tup (qv 0) qe_int) qe_str (nomark _)) (qss_one (qs_ret (qe_op op_add_str qe_str (qe_callTy call_str_int (by rfl) T.z_str boot_str (qa_cons (qxA ix_tup (qv 0) qe_int) qa_nil star_sub))))) qss_nil)
   (qss_one (qs_ret (qe_op op_add_str qe_str (qe_bm PySem.F.plainAttrs_str PySem.F.slot_str_join PySem.F.type_str_join mt_join qe_str (qa_cons (qe_lcomp (N' := ["_law_one", "_law_two"]) (src := [none, none]) rfl (by exact (qi_tup (qxA ix_tup (qv 0) qe_int))) (fun _ _ _ _ _ => (by exact (by exact qg_tupK (K := K) (n := 2) (by exact rfl) (by exact rfl) (by exact qgs_cons (by exact qg_name (i := 0) (by show List.Nodup (["_law_one", "_law_two"] : List Str); decide +kernel) (by exact rfl) (by first | exact Or.inl rfl | exact Or.inr rfl)) (by exact qgs_cons (by exact qg_name (i := 1) (by show List.Nodup (["_law_one", "_law_two"] : List Str); decide +kernel) (by exact rfl) (by first | exact Or.inl rfl | exact Or.inr rfl)) qgs_nil))))) (fun _ _ _ _ _ => qts_nil) (fun _ _ _ _ _ => (by exact (by exact (qe_op op_add_str (by exact (qe_op op_add_str (by exact (qe_op op_add_str qe_str (by exact (qe_call (ok_Q3 T) (by exact hr.mono (by decide)) (by exact rfl) T.m_Q3 T.F_Q3.kp T.b_Q3 (by exact .nil) (by exact pass0) (qa_cons (by exact (qv 0)) qa_nil star_name))))) qe_str)) (by exact (qe_call (ok_Q3 T) (by exact hr.mono (by decide)) (by exact rfl) T.m_Q3 T.F_Q3.kp T.b_Q3 (by exact .nil) (by exact pass0) (qa_cons (by exact (qv 1)) qa_nil star_name))))))) (by exact trivial) rfl (by decide +kernel) rfl (by decide +kernel) (by exact cells_of rfl trivial)) qa_nil star_lc)))))) ?_
 try dsimp only [Cx.nox, Cx.wish, cxOf]
 cases r with
 | pow n =>
  obtain ⟨p, rfl, hp⟩ := rv
  have l1 := len_num'' ok
  refine ⟨_, rfl, p, _, _, _, rfl, rfl, hp, rfl, rfl, _, rfl, iteD1 rfl ?_⟩
  refine ⟨_, rfl, p, _, _, _, rfl, rfl, hp, rfl, _, rfl, log2_lt (NG.nb ok), _, _, rfl, rfl, Nat.le_trans (m := 100) (by rw [show (Str.ofString "power ").length = 6 from rfl]; omega) (by decide), ?_⟩
  exact k _ (Same.refl _)
 | tab rs =>
  obtain ⟨p, q, xs, rfl, hp, hq, al⟩ := rv
  obtain ⟨okr, l100⟩ := ok
  have lx := al.len
  refine ⟨_, rfl, p, _, _, _, rfl, rfl, hp, rfl, rfl, _, rfl, iteD0 (fun z => by injection z with z; exact absurd (congrArg (fun x : Str => cpl x) z) (by decide)) ?_⟩
  refine ⟨rfl, _, rfl, p, _, _, _, rfl, rfl, hp, rfl, q, rfl, ⟨_, hq⟩, fun D1 hD1 => comp_mapT (K := K) (P := StrV) (ds := rs) (f := fun w => Str.ofString " " ++ rowT w) (fun _ _ _ _ _ z => z) hD1 hq lx (by omega) (fun i x d H' hx hd sm Rk E kR => ?_) fun H1 zs s1 hz1 al1 => ?_⟩
  ·obtain ⟨d', hd', pw, a, b, rfl, hpw, ra, rb⟩ := al.at hx
   rw [hd] at hd'
   cases hd'
   have t' := Tst.same (K := K) sm
   have ok := okr d (List.mem_of_getElem? hd)
   have l1 := len_rat ok.1
   have l2 := len_rat ok.2
   refine ⟨pw, _, rfl, t' _ _ hpw, rfl, _, _, rfl, _, _, rfl, rfl, (Ext.set rfl).set' rfl, ?_⟩
   refine ⟨_, rfl, a, d.1, rfl, ra.mono t', ok.1.nb1, ok.1.nb2, _, _, rfl, rfl, Nat.le_trans (m := 300) (by rw [show (Str.ofString " ").length = 1 from rfl]; omega) (by decide), _, _, rfl, rfl, Nat.le_trans (m := 300) (by rw [Str.length_append, show (Str.ofString " ").length = 1 from rfl, show (Str.ofString ":").length = 1 from rfl]; omega) (by decide), _, rfl, b, d.2, rfl, rb.mono t', ok.2.nb1, ok.2.nb2, _, _, rfl, rfl, Nat.le_trans (m := 300) (by rw [Str.length_append, Str.length_append, show (Str.ofString " ").length = 1 from rfl, show (Str.ofString ":").length = 1 from rfl]; omega) (by decide), kR _ _ (Same.refl _) ?_⟩
   show V.str _ = V.str _
   unfold rowT
   rw [app_as, app_as, app_as]
  have ez := als_str al1
  rw [ez] at hz1
  have fits : JoinFits (Str.ofString "") (rs.map fun w => Str.ofString " " ++ rowT w) := fits_of (n := 300) (k := 0) (m := 100) (Tx.lit (n := 0)) (fun y hy => by
   obtain ⟨w, hw, rfl⟩ := List.mem_map.mp hy
   have o := okr w hw
   exact (Tx.app (Tx.lit (n := 1)) (row_tx o)).mono (by decide)) (by rw [List.length_map]; exact l100)
  refine ⟨_, D1, _, rfl, rfl, SqL.of hz1, fits, _, _, rfl, rfl, ?_, ?_⟩
  ·rw [joinT, show (Str.ofString "table").length = 5 from rfl]
   have a := (Tx.join (n := 300) (k := 0) (sep := Str.ofString "") (Tx.lit (n := 0)) (ys := rs.map fun w => Str.ofString " " ++ rowT w) (fun y hy => by
    obtain ⟨w, hw, rfl⟩ := List.mem_map.mp hy
    exact (Tx.app (Tx.lit (n := 1)) (row_tx (okr w hw))).mono (by decide))).len
   rw [List.length_map] at a
   have b : (300 + 0) * rs.length ≤ 300 * 100 := Nat.mul_le_mul_left _ l100
   exact Nat.le_trans (by omega : _ ≤ 40000) (by decide)
  ·have e := glue_line (Str.ofString "table") (rs.map rowT)
   rw [List.map_map] at e
   have q := k H1 s1
   have e2 : joinS (ruW (.tab rs)) = Str.ofString "table" ++ Txt.join (Str.ofString "") (rs.map fun w => Str.ofString " " ++ rowT w) := by rw [joinT]; exact e.symm
   rw [e2] at q
   exact q
theorem ok_Q4 (T : Txt K mg t) : FnOk P w K mg base CX0 2 t.a_Q4 t.d_Q4 ["_law_plan"] (sp_law_plan_lines K) := by
 refine T.F_Q4.ok sc_Q4 (fun vs H Q E h => ?_) (fun cdv A outer s H vs Q E hr h => ?_)
 ·obtain ⟨_, _, rfl, _⟩ := h; rfl
 obtain ⟨v, pl, rfl, ⟨p, xs, rfl, hp, al⟩, ⟨l100, ok⟩, k⟩ := h
 refine QSs.ok (qss_cons (qsA 1 sc_Q4.nd (qe_lst qa_nil))
   (qss_cons (qs_for PassesOwn.never rfl (qi_tup (qv 0)) (qg_name (i := 2) sc_Q4.nd rfl (by first | exact Or.inl rfl | exact Or.inr rfl))
   (qss_one (qs_expr (qe_bm PySem.F.plainAttrs_list PySem.F.slot_list_append PySem.F.type_list_append mt_append (qv 1) (qa_cons (qe_op op_add_str qe_str (qe_bm PySem.F.plainAttrs_str PySem.F.slot_str_join PySem.F.type_str_join mt_join qe_str (qa_cons (qe_lcomp (N' := ["_law_number", "_law_part"]) (src := [none, none]) rfl (by exact (qi_tup (qv 2))) (fun _ _ _ _ _ => (by exact (by exact qg_tupK (K := K) (n := 2) (by exact rfl) (by exact rfl) (by exact qgs_cons (by exact qg_name (i := 0) (by show List.Nodup (["_law_number", "_law_part"] : List Str); decide +kernel) (by exact rfl) (by first | exact Or.inl rfl | exact Or.inr rfl)) (by exact qgs_cons (by exact qg_name (i := 1) (by show List.Nodup (["_law_number", "_law_part"] : List Str); decide +kernel) (by exact rfl) (by first | exact Or.inl rfl | exact Or.inr rfl)) qgs_nil))))) (fun _ _ _ _ _ => qts_nil) (fun _ _ _ _ _ => (by exact (by exact (qe_op op_add_str (by exact (qe_op op_add_str (by exact (qe_op op_add_str qe_str (by exact (qe_callTy call_str_int (by exact rfl) T.z_str boot_str (qa_cons (by exact (qv 0)) qa_nil star_name))))) qe_str)) (by exact (qe_call (ok_Q3 T) (by exact hr.mono (by decide)) (by exact rfl) T.m_Q3 T.F_Q3.kp T.b_Q3 (by exact .nil) (by exact pass0) (qa_cons (by exact (qv 1)) qa_nil star_name))))))) (by exact trivial) rfl (by decide +kernel) rfl (by decide +kernel) (by exact cells_of rfl trivial)) qa_nil star_lc))) qa_nil star_bin)))))
   (qss_one (qs_ret (qv 1))))) ?_
 try dsimp only [Cx.nox, Cx.wish, cxOf]
 have lx := al.len
 refine ⟨(by show 0 ≤ sizeLine; exact Nat.zero_le _), fun D hD => ?_⟩
 have s1 := same_new hD (.lst [])
 have hD1 : upd H D (.lst []) D = some (.lst []) := upd_same
 generalize upd H D (.lst []) = H1 at s1 hD1 ⊢
 have sk : ∀ H', Step D H1 H' -> Same H H' := fun H' S b o e => S.keep b o (fun z => by subst z; rw [hD] at e; cases e) (s1 _ _ e)
 have t1 := Tst.same (K := K) s1
 refine ⟨_, rfl, p, rfl, ⟨_, t1 _ _ hp⟩, for_tup (K := K) (a := p) (xs := xs) (fun i σ H' => ∃ x3 : Option V, σ = [some (.ref p), some (.ref D), x3] /\ Step D H1 H' /\ H' D = some (.lst ((plL (pl.take i)).map V.str))) ⟨none, rfl, Step.refl ⟨_, hD1⟩, hD1⟩ (fun i σ H' _ ⟨_, _, S, _⟩ => Tst.step (K := K) S _ _ (t1 _ _ hp)) ?_ ?_⟩
 ·rintro i x σ H2 hx ⟨x3, rfl, S2, hD2⟩
  obtain ⟨ps, hps, q, zs, rfl, hq, az⟩ := al.at hx
  have il : i < pl.length := (List.getElem?_eq_some_iff.mp hps).1
  obtain ⟨p100, okp⟩ := ok ps (List.mem_of_getElem? hps)
  have t2 := t1.trans (Tst.step (K := K) S2)
  have lz := az.len
  refine ⟨_, rfl, .inl ⟨rfl, _, SqL.of hD2⟩, rfl, _, rfl, q, rfl, ⟨_, t2 _ _ hq⟩, fun D1 hD1' => comp_mapT (K := K) (P := StrV) (ds := ps) (f := fun w => Str.ofString " " ++ pieceT w) (fun _ _ _ _ _ z => z) hD1' (t2 _ _ hq) lz (by omega) (fun i x d H' hx hd sm Rk E kR => ?_) fun H3 us s3 hu3 al3 => ?_⟩
  ·obtain ⟨d', hd', pw, b, rfl, hpw, rb⟩ := az.at hx
   rw [hd] at hd'
   cases hd'
   have t' := t2.trans (Tst.same (K := K) sm)
   have ok := okp d (List.mem_of_getElem? hd)
   have l1 := len_num'' ok.1
   have l2 := len_rat ok.2
   refine ⟨pw, _, rfl, t' _ _ hpw, rfl, _, _, rfl, _, _, rfl, rfl, (Ext.set rfl).set' rfl, ?_⟩
   refine ⟨_, rfl, _, rfl, log2_lt ok.1.nb, _, _, rfl, rfl, Nat.le_trans (m := 300) (by rw [show (Str.ofString " ").length = 1 from rfl]; omega) (by decide), _, _, rfl, rfl, Nat.le_trans (m := 300) (by rw [Str.length_append, show (Str.ofString " ").length = 1 from rfl, show (Str.ofString ":").length = 1 from rfl]; omega) (by decide), _, rfl, b, d.2, rfl, rb.mono t', ok.2.nb1, ok.2.nb2, _, _, rfl, rfl, Nat.le_trans (m := 300) (by rw [Str.length_append, Str.length_append, show (Str.ofString " ").length = 1 from rfl, show (Str.ofString ":").length = 1 from rfl]; omega) (by decide), kR _ _ (Same.refl _) ?_⟩
   show V.str _ = V.str _
   unfold pieceT
   rw [app_as, app_as, app_as]
  have ez := als_str al3
  rw [ez] at hu3
  have fits : JoinFits (Str.ofString "") (ps.map fun w => Str.ofString " " ++ pieceT w) := fits_of (n := 300) (k := 0) (m := 100) (Tx.lit (n := 0)) (fun y hy => by
   obtain ⟨w, hw, rfl⟩ := List.mem_map.mp hy
   exact (Tx.app (Tx.lit (n := 1)) (piece_tx (okp w hw))).mono (by decide)) (by rw [List.length_map]; exact p100)
  refine ⟨_, D1, _, rfl, rfl, SqL.of hu3, fits, _, _, rfl, rfl, ?_, ?_⟩
  ·rw [joinT, show (Str.ofString "turn").length = 4 from rfl]
   have a := (Tx.join (n := 300) (k := 0) (sep := Str.ofString "") (Tx.lit (n := 0)) (ys := ps.map fun w => Str.ofString " " ++ pieceT w) (fun y hy => by
    obtain ⟨w, hw, rfl⟩ := List.mem_map.mp hy
    exact (Tx.app (Tx.lit (n := 1)) (piece_tx (okp w hw))).mono (by decide))).len
   rw [List.length_map] at a
   have b : (300 + 0) * ps.length ≤ 300 * 100 := Nat.mul_le_mul_left _ p100
   exact Nat.le_trans (by omega : _ ≤ 40000) (by decide)
  ·have e := glue_line (Str.ofString "turn") (ps.map pieceT)
   rw [List.map_map] at e
   have e2 : Str.ofString "turn" ++ Txt.join (Str.ofString "") (ps.map fun w => Str.ofString " " ++ pieceT w) = joinS (turnW ps) := by rw [joinT]; exact e
   rw [e2]
   have hD3 := s3 _ _ hD2
   refine ⟨D, _, _, rfl, rfl, hD3, small1000 (by unfold plL; rw [List.length_map, List.length_map, List.length_take]; omega), ?_⟩
   refine ⟨_, rfl, (S2.trans (Step.same s3 ⟨_, hD2⟩)).trans (Step.up hD3), ?_⟩
   rw [upd_same, List.take_add_one, hps]
   unfold plL
   rw [List.map_append, List.map_append]
   rfl
 ·rintro σ H2 ⟨x3, rfl, S2, hD2⟩
  rw [lx, List.take_length] at hD2
  exact ⟨_, rfl, k D H2 (sk _ S2) hD2⟩
theorem ok_Q2 (T : Txt K mg t) : FnOk P w K mg base CX0 2 t.a_Q2 t.d_Q2 ["_law_tape_here"] (sp_law_some_number K) := by
 refine T.F_Q2.ok sc_Q2 (fun vs H Q E h => ?_) (fun cdv A outer s H vs Q E hr h => ?_)
 ·obtain ⟨_, _, rfl, _⟩ := h; rfl
 obtain ⟨t₁, s₀, rfl, T0, k⟩ := h
 refine QSs.ok (qss_one (qs_ret (qxA ix_list (qe_lst (qa_cons qe_int (qa_cons qe_int (qa_cons qe_int (qa_cons qe_int (qa_cons qe_int (qa_cons qe_int (qa_cons (qcA (ok_Q35 T) hr T.m_Q35 T.F_Q35.kp T.b_Q35 (qa_cons (qv 0) (qa_cons qe_int qa_nil star_con) star_name)) (qa_cons (qcA (ok_Q35 T) hr T.m_Q35 T.F_Q35.kp T.b_Q35 (qa_cons (qv 0) (qa_cons qe_int qa_nil star_con) star_name)) (qa_cons (qe_op (op_powK (i := 10) (j := 39) (z := 1000000000000000000000000000000000000000) (by decide +kernel) ⟨by decide, by decide, by decide⟩) qe_int qe_int) qa_nil star_bin) star_call) star_call) star_con) star_con) star_con) star_con) star_con) star_con)) (qcA (ok_Q35 T) hr T.m_Q35 T.F_Q35.kp T.b_Q35 (qa_cons (qv 0) (qa_cons qe_int qa_nil star_con) star_name))))) ?_
 try dsimp only [Cx.nox, Cx.wish, cxOf]
 obtain ⟨y0, e0⟩ := T0.lst
 refine ⟨_, rfl, t₁, s₀, 60, rfl, T0, by decide, by decide, fun r1 x1 a1 b1 T1 => ?_⟩
 have S1 : Step t₁ H _ := Step.up (ys := x1) e0
 generalize upd H t₁ (.lst x1) = H1 at T1 S1 ⊢
 obtain ⟨y1, e1⟩ := T1.lst
 refine ⟨_, rfl, t₁, s₀, 60000, rfl, T1, by decide, by decide, fun r2 x2 a2 b2 T2 => ?_⟩
 have S2 := S1.trans (Step.up (ys := x2) e1)
 generalize upd H1 t₁ (.lst x2) = H2 at T2 S2 ⊢
 refine ⟨rfl, rfl, zl9, fun l1 g1 => ?_⟩
 have s3 := same_new g1 (.lst [.int 0, .int 1, .int 9, .int 10, .int 23, .int 24, .int r1, .int r2, .int 1000000000000000000000000000000000000000])
 have h3 : upd H2 l1 (.lst [.int 0, .int 1, .int 9, .int 10, .int 23, .int 24, .int r1, .int r2, .int 1000000000000000000000000000000000000000]) l1 = some (.lst [.int 0, .int 1, .int 9, .int 10, .int 23, .int 24, .int r1, .int r2, .int 1000000000000000000000000000000000000000]) := upd_same
 obtain ⟨y2, e2⟩ := T2.lst
 have n1 : l1 ≠ t₁ := fun z => by subst z; rw [g1] at e2; cases e2
 have T3 := T2.same s3
 have S3 := S2.trans (Step.same s3 T2.lst)
 have h3' : ∀ v, atI [V.int 0, .int 1, .int 9, .int 10, .int 23, .int 24, .int r1, .int r2, .int 1000000000000000000000000000000000000000] v = atI [V.int 0, .int 1, .int 9, .int 10, .int 23, .int 24, .int r1, .int r2, .int 1000000000000000000000000000000000000000] v := fun _ => rfl
 generalize upd H2 l1 (.lst [.int 0, .int 1, .int 9, .int 10, .int 23, .int 24, .int r1, .int r2, .int 1000000000000000000000000000000000000000]) = H3 at T3 S3 h3 ⊢
 obtain ⟨y3, e3⟩ := T3.lst
 refine ⟨_, rfl, t₁, s₀, 9, rfl, T3, by decide, by decide, fun r4 x4 a4 b4 T4 => ?_⟩
 have S4' : Step t₁ H3 _ := Step.up (ys := x4) e3
 have S4 := S3.trans S4'
 generalize upd H3 t₁ (.lst x4) = H4 at T4 S4 S4' ⊢
 obtain ⟨v1, hv1, m1⟩ := pick (xs := [.int 0, .int 1, .int 9, .int 10, .int 23, .int 24, .int r1, .int r2, .int 1000000000000000000000000000000000000000]) a4 b4
 refine ⟨l1, _, _, v1, rfl, rfl, SqL.of (S4'.keep _ _ n1 h3), hv1, ?_⟩
 obtain ⟨z1, rfl, ng⟩ : ∃ z : Int, v1 = .int z /\ NG z := by
  simp only [List.mem_cons, List.not_mem_nil, or_false] at m1
  rcases m1 with e | e | e | e | e | e | e | e | e
  all_goals exact ⟨_, e, by omega, by omega⟩
 exact k z1 H4 ng S4 T4
theorem ok_Q9 (T : Txt K mg t) : FnOk P w K mg base CX0 3 t.a_Q9 t.d_Q9 ["_law_tape_here"] (sp_law_some_part K) := by
 refine T.F_Q9.ok sc_Q9 (fun vs H Q E h => ?_) (fun cdv A outer s H vs Q E hr h => ?_)
 ·obtain ⟨_, _, rfl, _⟩ := h; rfl
 obtain ⟨t₁, s₀, rfl, T0, k⟩ := h
 refine QSs.ok (qss_cons (qsA 1 sc_Q9.nd (qxA ix_list (qe_lst (qa_cons qe_int (qa_cons qe_int (qa_cons qe_int (qa_cons qe_int (qa_cons qe_int (qa_cons (qe_op (op_powK (i := 10) (j := 39) (z := 1000000000000000000000000000000000000000) (by decide +kernel) ⟨by decide, by decide, by decide⟩) qe_int qe_int) (qa_cons (qe_op op_add qe_int (qcA (ok_Q35 T) hr T.m_Q35 T.F_Q35.kp T.b_Q35 (qa_cons (qv 0) (qa_cons qe_int qa_nil star_con) star_name))) qa_nil star_bin) star_bin) star_con) star_con) star_con) star_con) star_con)) (qcA (ok_Q35 T) hr T.m_Q35 T.F_Q35.kp T.b_Q35 (qa_cons (qv 0) (qa_cons qe_int qa_nil star_con) star_name))))
   (qss_one (qs_ret (qcA (ok_Q28 T) hr T.m_Q28 T.F_Q28.kp T.b_Q28 (qa_cons (qcA (ok_Q2 T) hr T.m_Q2 T.F_Q2.kp T.b_Q2 (qa_cons (qv 0) qa_nil star_name)) (qa_cons (qv 1) qa_nil star_name) star_call))))) ?_
 try dsimp only [Cx.nox, Cx.wish, cxOf]
 obtain ⟨y0, e0⟩ := T0.lst
 refine ⟨rfl, rfl, _, rfl, t₁, s₀, 60, rfl, T0, by decide, by decide, fun r1 x1 a1 b1 T1 => ?_⟩
 have S1 : Step t₁ H _ := Step.up (ys := x1) e0
 generalize upd H t₁ (.lst x1) = H1 at T1 S1 ⊢
 refine ⟨_, _, rfl, rfl, zl7, fun l1 g1 => ?_⟩
 dsimp only
 have s3 := same_new g1 (.lst [.int 1, .int 1, .int 2, .int 7, .int 10, .int 1000000000000000000000000000000000000000, .int (1 + r1)])
 have h3 : upd H1 l1 (.lst [.int 1, .int 1, .int 2, .int 7, .int 10, .int 1000000000000000000000000000000000000000, .int (1 + r1)]) l1 = some (.lst [.int 1, .int 1, .int 2, .int 7, .int 10, .int 1000000000000000000000000000000000000000, .int (1 + r1)]) := upd_same
 obtain ⟨y2, e2⟩ := T1.lst
 have n1 : l1 ≠ t₁ := fun z => by subst z; rw [g1] at e2; cases e2
 have T3 := T1.same s3
 have S3 := S1.trans (Step.same s3 T1.lst)
 generalize upd H1 l1 (.lst [.int 1, .int 1, .int 2, .int 7, .int 10, .int 1000000000000000000000000000000000000000, .int (1 + r1)]) = H3 at T3 S3 h3 ⊢
 obtain ⟨y3, e3⟩ := T3.lst
 refine ⟨_, rfl, t₁, s₀, 7, rfl, T3, by decide, by decide, fun r4 x4 a4 b4 T4 => ?_⟩
 have S4' : Step t₁ H3 _ := Step.up (ys := x4) e3
 have S4 := S3.trans S4'
 generalize upd H3 t₁ (.lst x4) = H4 at T4 S4 S4' ⊢
 obtain ⟨v1, hv1, m1⟩ := pick (xs := [.int 1, .int 1, .int 2, .int 7, .int 10, .int 1000000000000000000000000000000000000000, .int (1 + r1)]) a4 b4
 refine ⟨l1, _, _, v1, rfl, rfl, SqL.of (S4'.keep _ _ n1 h3), hv1, ?_⟩
 obtain ⟨b, rfl, bp, b4⟩ : ∃ z : Int, v1 = .int z /\ 0 < z /\ z < 10 ^ 40 := by
  simp only [List.mem_cons, List.not_mem_nil, or_false] at m1
  rcases m1 with e | e | e | e | e | e | e
  all_goals exact ⟨_, e, by omega, by omega⟩
 refine ⟨_, rfl, t₁, s₀, rfl, T4, fun n H5 ng S5 T5 => ?_⟩
 have w2 : b.natAbs < 2 ^ 140 := by omega
 refine ⟨_, rfl, n, b, rfl, by omega, big_of w2 (by decide), ?_⟩
 rw [mkS_pos bp]
 intro p hp
 have s6 := same_new hp (.tup [.int (mkR n b).1, .int (mkR n b).2])
 exact k _ (mkR n b) _ (mk_rg ng bp b4) ((S4.trans S5).trans (Step.same s6 T5.lst)) (T5.same s6) (RV.of upd_same)
theorem ok_Q5 (T : Txt K mg t) : FnOk P w K mg base CX0 4 t.a_Q5 t.d_Q5 ["_law_tape_here"] (sp_law_some_sheet K) := by
 refine T.F_Q5.ok sc_Q5 (fun vs H Q E h => ?_) (fun cdv A outer s H vs Q E hr h => ?_)
 ·obtain ⟨_, _, rfl, _⟩ := h; rfl
 obtain ⟨t₁, s₀, rfl, T0, k⟩ := h
 refine QSs.ok (qss_cons (qsA 1 sc_Q5.nd (qe_lst qa_nil))
   (qss_cons (qs_for PassesOwn.never rfl (qi_range1 rfl T.z_range (qa_cons (qcA (ok_Q35 T) hr T.m_Q35 T.F_Q35.kp T.b_Q35 (qa_cons (qv 0) (qa_cons (qxA ix_list (qe_lst (qa_cons qe_int (qa_cons qe_int (qa_cons qe_int qa_nil star_con) star_con) star_con)) (qcA (ok_Q35 T) hr T.m_Q35 T.F_Q35.kp T.b_Q35 (qa_cons (qv 0) (qa_cons qe_int qa_nil star_con) star_name))) qa_nil star_sub) star_name)) qa_nil star_call)) (qg_name (i := 2) sc_Q5.nd rfl (by first | exact Or.inl rfl | exact Or.inr rfl))
   (qss_one (qs_expr (qe_bm PySem.F.plainAttrs_list PySem.F.slot_list_append PySem.F.type_list_append mt_append (qv 1) (qa_cons (qe_tup (qa_cons (qcA (ok_Q2 T) hr T.m_Q2 T.F_Q2.kp T.b_Q2 (qa_cons (qv 0) qa_nil star_name)) (qa_cons (qcA (ok_Q2 T) hr T.m_Q2 T.F_Q2.kp T.b_Q2 (qa_cons (qv 0) qa_nil star_name)) (qa_cons (qcA (ok_Q9 T) hr T.m_Q9 T.F_Q9.kp T.b_Q9 (qa_cons (qv 0) qa_nil star_name)) qa_nil star_call) star_call) star_call)) qa_nil star_tup)))))
   (qss_cons (qsA 3 sc_Q5.nd (qcA (ok_Q35 T) hr T.m_Q35 T.F_Q35.kp T.b_Q35 (qa_cons (qv 0) (qa_cons (qxA ix_list (qe_lst (qa_cons qe_int (qa_cons qe_int (qa_cons qe_int qa_nil star_con) star_con) star_con)) (qcA (ok_Q35 T) hr T.m_Q35 T.F_Q35.kp T.b_Q35 (qa_cons (qv 0) (qa_cons qe_int qa_nil star_con) star_name))) qa_nil star_sub) star_name)))
   (qss_cons (qs_setC (i := 4) (N' := ["_law_k", "_law_tape_here"]) (src := [none, some 0]) sc_Q5.nd rfl (by first | exact Or.inl rfl | exact Or.inr rfl) rfl (by exact (qi_range1 rfl T.z_range (qa_cons (qv 3) qa_nil star_name))) (fun _ _ _ _ _ => (by exact (by exact qg_name (i := 0) (by show List.Nodup (["_law_k", "_law_tape_here"] : List Str); decide +kernel) (by exact rfl) (by first | exact Or.inl rfl | exact Or.inr rfl)))) (fun _ _ _ _ _ => qts_nil) (fun _ _ _ _ _ => (by exact (by exact (qe_tup (qa_cons (by exact (qe_call (ok_Q2 T) (by exact hr.mono (by decide)) (by exact rfl) T.m_Q2 T.F_Q2.kp T.b_Q2 (by exact .nil) (by exact pass0) (qa_cons (by exact (qv 1)) qa_nil star_name))) (qa_cons (by exact (qe_call (ok_Q2 T) (by exact hr.mono (by decide)) (by exact rfl) T.m_Q2 T.F_Q2.kp T.b_Q2 (by exact .nil) (by exact pass0) (qa_cons (by exact (qv 1)) qa_nil star_name))) qa_nil star_call) star_call))))) (by exact ⟨rfl, rfl, rfl, rfl, trivial⟩) rfl (by decide +kernel) rfl (by decide +kernel) (by exact cells_of rfl ⟨rfl, trivial⟩))
   (qss_one (qs_ret (qe_tup (qa_cons (qe_callTy call_tuple_of (by rfl) T.z_tuple boot_tuple (qa_cons (qv 1) qa_nil star_name)) (qa_cons (qe_callTy call_tuple_of (by rfl) T.z_tuple boot_tuple (qa_cons (qv 4) qa_nil star_name)) qa_nil star_call) star_call)))))))) ?_
 try dsimp only [Cx.nox, Cx.wish, cxOf]
 refine ⟨(by show 0 ≤ sizeLine; exact Nat.zero_le _), fun lw hlw => ?_⟩
 have s1 := same_new hlw (.lst [])
 have hw1 : upd H lw (.lst []) lw = some (.lst []) := upd_same
 obtain ⟨y0, e0⟩ := T0.lst
 obtain ⟨y0', e0'⟩ := T0.scr
 have nt : lw ≠ t₁ := fun z => by subst z; rw [e0] at hlw; cases hlw
 have ns : lw ≠ s₀ := fun z => by subst z; rw [e0'] at hlw; cases hlw
 have T1 := T0.same s1
 have Sr : Step t₁ (upd H lw (.lst [])) (upd H lw (.lst [])) := Step.refl T1.lst
 generalize upd H lw (.lst []) = H1 at s1 hw1 T1 Sr ⊢
 refine ⟨_, rfl, zl3, fun ml2 mg2 => ?_⟩
 have ms2 := same_new mg2 (.lst [.int 7, .int 7, .int 30])
 have mh2 : upd H1 ml2 (.lst [.int 7, .int 7, .int 30]) ml2 = some (.lst [.int 7, .int 7, .int 30]) := upd_same
 have mT2 := T1.same ms2
 have mS2 := Sr.trans (Step.same ms2 T1.lst)
 have mn2 : ml2 ≠ t₁ := fun z => by subst z; obtain ⟨_, e⟩ := T1.lst; rw [mg2] at e; cases e
 generalize upd H1 ml2 (.lst [.int 7, .int 7, .int 30]) = mA2 at ms2 mh2 mT2 mS2 ⊢
 obtain ⟨my2, me2⟩ := mT2.lst
 refine ⟨_, rfl, t₁, s₀, 3, rfl, mT2, by decide, by decide, fun mr2 mx2 ma2 mb2 mU2 => ?_⟩
 have mV2 : Step t₁ mA2 _ := Step.up (ys := mx2) me2
 have mW2 := mS2.trans mV2
 generalize upd mA2 t₁ (.lst mx2) = mB2 at mU2 mV2 mW2 ⊢
 obtain ⟨e2, he2, el2, eu2⟩ : ∃ e : Int, atI [V.int 7, .int 7, .int 30] mr2 = some (.int e) /\ 1 ≤ e /\ e ≤ 50 := by
  rcases (show mr2 = 0 ∨ mr2 = 1 ∨ mr2 = 2 by omega) with rfl | rfl | rfl
  ·exact ⟨7, rfl, by decide, by decide⟩
  ·exact ⟨7, rfl, by decide, by decide⟩
  ·exact ⟨30, rfl, by decide, by decide⟩
 obtain ⟨mq2, mz2⟩ := mU2.lst
 refine ⟨ml2, _, _, _, rfl, rfl, SqL.of (mV2.keep _ _ mn2 mh2), he2, t₁, s₀, e2, rfl, mU2, by omega, by omega, fun r2 rx2 ra2 rb2 T2 => ?_⟩
 have S2 := mW2.trans (Step.up (ys := rx2) mz2)
 generalize upd mB2 t₁ (.lst rx2) = H2 at T2 S2 ⊢
 obtain ⟨c2, rfl⟩ := Int.eq_ofNat_of_zero_le ra2
 have hw2 := S2.keep _ _ nt hw1
 have kp2 : ∀ b o, b ≠ t₁ -> b ≠ lw -> H1 b = some o -> H2 b = some o := fun b o nb _ e => S2.keep b o nb e
 refine ⟨(c2 : Int), rfl, by omega, by omega, for_range (lo := 0) (n := (c2 : Int).toNat) (fun i σ H' => ∃ (ys : List V) (ws : List WD) (x3 : Option V), σ = [some (.ref t₁), some (.ref lw), x3, none, none] /\ Tape H' t₁ s₀ /\ (∀ b o, b ≠ t₁ -> b ≠ lw -> H1 b = some o -> H' b = some o) /\ H' lw = some (.lst ys) /\ Als (WorkV K H') ys ws /\ ws.length = i /\ ∀ w ∈ ws, WOk w) ⟨[], [], none, rfl, T2, kp2, hw2, .nil, rfl, fun w hw => by cases hw⟩ ?_ ?_⟩
 ·rintro i σ H3 hi ⟨ys, ws, x3, rfl, T3, kp3, hw3, aw, lws, okw⟩
  have ly := aw.len
  refine ⟨_, rfl, .inl ⟨rfl, _, SqL.of hw3⟩, _, rfl, t₁, s₀, rfl, T3, fun n1 H4 g1 S4 T4 => ?_⟩
  refine ⟨_, rfl, t₁, s₀, rfl, T4, fun n2 H5 g2 S5 T5 => ?_⟩
  refine ⟨_, rfl, t₁, s₀, rfl, T5, fun v r H6 rg S6 T6 rv => ?_⟩
  have S36 := (S4.trans S5).trans S6
  refine ⟨zl3, fun p hp => ?_⟩
  have s7 := same_new hp (.tup [.int n1, .int n2, v])
  have wv : WorkV K (upd H6 p (.tup [.int n1, .int n2, v])) (.ref p) (n1, n2, r) := ⟨p, v, rfl, SqT.of upd_same, rv.mono (Tst.same s7)⟩
  have S37 := S36.trans (Step.same s7 T6.lst)
  have T7 := T6.same s7
  generalize upd H6 p (.tup [.int n1, .int n2, v]) = H7 at wv S37 T7 ⊢
  have hw7 := S37.keep _ _ nt hw3
  refine ⟨lw, ys, _, rfl, rfl, hw7, small1000 (by omega), ?_⟩
  have t8 := Tst.up (K := K) hw7 (ys ++ [.ref p])
  refine ⟨_, ws ++ [(n1, n2, r)], _, rfl, T7.upl nt ns _, fun b o nb nl e => ?_, upd_same, Als.snoc (wv.mono t8) (aw.mono fun _ _ z => (z.mono (Tst.step (K := K) S37)).mono t8), by rw [List.length_append, lws]; rfl, fun w hw => ?_⟩
  ·rw [upd_ne nl]
   exact S37.keep b o nb (kp3 b o nb nl e)
  ·rcases List.mem_append.mp hw with z | z
   ·exact okw w z
   ·rw [List.mem_singleton.mp z]; exact ⟨g1, g2, rg⟩
 ·rintro σ H3 ⟨ys, ws, x3, rfl, T3, kp3, hw3, aw, lws, okw⟩
  have Sq : Step t₁ H3 H3 := Step.refl T3.lst
  refine ⟨_, rfl, zl3, fun ml4 mg4 => ?_⟩
  have ms4 := same_new mg4 (.lst [.int 5, .int 5, .int 50])
  have mh4 : upd H3 ml4 (.lst [.int 5, .int 5, .int 50]) ml4 = some (.lst [.int 5, .int 5, .int 50]) := upd_same
  have mT4 := T3.same ms4
  have mS4 := Sq.trans (Step.same ms4 T3.lst)
  have mn4 : ml4 ≠ t₁ := fun z => by subst z; obtain ⟨_, e⟩ := T3.lst; rw [mg4] at e; cases e
  generalize upd H3 ml4 (.lst [.int 5, .int 5, .int 50]) = mA4 at ms4 mh4 mT4 mS4 ⊢
  obtain ⟨my4, me4⟩ := mT4.lst
  refine ⟨_, rfl, t₁, s₀, 3, rfl, mT4, by decide, by decide, fun mr4 mx4 ma4 mb4 mU4 => ?_⟩
  have mV4 : Step t₁ mA4 _ := Step.up (ys := mx4) me4
  have mW4 := mS4.trans mV4
  generalize upd mA4 t₁ (.lst mx4) = mB4 at mU4 mV4 mW4 ⊢
  obtain ⟨e4, he4, el4, eu4⟩ : ∃ e : Int, atI [V.int 5, .int 5, .int 50] mr4 = some (.int e) /\ 1 ≤ e /\ e ≤ 50 := by
   rcases (show mr4 = 0 ∨ mr4 = 1 ∨ mr4 = 2 by omega) with rfl | rfl | rfl
   ·exact ⟨5, rfl, by decide, by decide⟩
   ·exact ⟨5, rfl, by decide, by decide⟩
   ·exact ⟨50, rfl, by decide, by decide⟩
  obtain ⟨mq4, mz4⟩ := mU4.lst
  refine ⟨ml4, _, _, _, rfl, rfl, SqL.of (mV4.keep _ _ mn4 mh4), he4, t₁, s₀, e4, rfl, mU4, by omega, by omega, fun r4 rx4 ra4 rb4 T4 => ?_⟩
  have S4 := mW4.trans (Step.up (ys := rx4) mz4)
  generalize upd mB4 t₁ (.lst rx4) = H4 at T4 S4 ⊢
  obtain ⟨c4, rfl⟩ := Int.eq_ofNat_of_zero_le ra4
  have hw4 := S4.keep _ _ nt hw3
  have aw4 := aw.mono fun _ _ z => z.mono (Tst.step (K := K) S4)
  refine ⟨_, rfl, (c4 : Int), rfl, by omega, by omega, fun D hD => comp_rng (K := K) (P := RV K) (Ok := LOk) (n := (c4 : Int).toNat) (fun _ _ _ _ t z => z.mono t) hD T4 (by omega) (fun i H' hi T' R E kR => ?_) fun H5 zs es S5 T5 hz5 ae les oke => ?_⟩
  ·refine ⟨Ext.set rfl, _, rfl, t₁, s₀, rfl, T', fun n1 Ha g1 Sa Ta => ⟨_, rfl, t₁, s₀, rfl, Ta, fun n2 Hb g2 Sb Tb => ⟨zl2, fun p hp => ?_⟩⟩⟩
   have sp := same_new hp (.tup [.int n1, .int n2])
   exact kR _ (n1, n2) _ ((Sa.trans Sb).trans (Step.same sp Tb.lst)) (Tb.same sp) (RV.of upd_same) ⟨g1, g2⟩
  have hw5 := S5.keep _ _ nt hw4
  have aw5 := aw4.mono fun _ _ z => z.mono (Tst.step (K := K) S5)
  refine ⟨_, rfl, lw, _, rfl, .inl ⟨SqL.of hw5, fun p1 hp1 => ?_⟩⟩
  have s6 := same_new hp1 (.tup ys)
  have h6 : upd H5 p1 (.tup ys) p1 = some (.tup ys) := upd_same
  have hz6 := s6 _ _ hz5
  generalize upd H5 p1 (.tup ys) = H6 at s6 h6 hz6 ⊢
  refine ⟨_, rfl, D, _, rfl, .inl ⟨SqL.of hz6, fun p2 hp2 => ?_⟩⟩
  have s7 := same_new hp2 (.tup zs)
  have h7 : upd H6 p2 (.tup zs) p2 = some (.tup zs) := upd_same
  have h67 := s7 _ _ h6
  generalize upd H6 p2 (.tup zs) = H7 at s7 h7 h67 ⊢
  refine ⟨zl2, fun p3 hp3 => ?_⟩
  have s8 := same_new hp3 (.tup [.ref p1, .ref p2])
  have s58 := (s6.trans s7).trans s8
  have t58 := Tst.same (K := K) s58
  have S05 : Step t₁ H H5 := ⟨fun b o nb e => S5.keep b o nb (S4.keep b o nb (kp3 b o nb (ne_of_none e hlw) (s1 _ _ e))), ⟨_, e0⟩, T5.lst⟩
  exact k _ ws es _ okw oke (by omega) (by omega) (S05.trans (Step.same s58 T5.lst)) (T5.same s58) ⟨p3, p1, p2, ys, zs, rfl, SqT.of upd_same, SqT.of (s8 _ _ h67), SqT.of (s8 _ _ h7), aw5.mono fun _ _ z => z.mono t58, ae.mono fun _ _ z => z.mono t58⟩
theorem ok_Q10 (T : Txt K mg t) : FnOk P w K mg base CX0 4 t.a_Q10 t.d_Q10 ["_law_tape_here"] (sp_law_some_rule K) := by
 refine T.F_Q10.ok sc_Q10 (fun vs H Q E h => ?_) (fun cdv A outer s H vs Q E hr h => ?_)
 ·obtain ⟨_, _, rfl, _⟩ := h; rfl
 obtain ⟨t₁, s₀, rfl, T0, k⟩ := h
 refine QSs.ok (qss_cons (qs_if (qt_cmpR op_eq (qcA (ok_Q35 T) hr T.m_Q35 T.F_Q35.kp T.b_Q35 (qa_cons (qv 0) (qa_cons qe_int qa_nil star_con) star_name)) qe_int (nomark _)) (qss_one (qs_ret (qe_tup (qa_cons qe_str (qa_cons (qcA (ok_Q2 T) hr T.m_Q2 T.F_Q2.kp T.b_Q2 (qa_cons (qv 0) qa_nil star_name)) qa_nil star_call) star_con)))) qss_nil)
   (qss_cons (qsA 1 sc_Q10.nd (qcA (ok_Q35 T) hr T.m_Q35 T.F_Q35.kp T.b_Q35 (qa_cons (qv 0) (qa_cons (qxA ix_list (qe_lst (qa_cons qe_int (qa_cons qe_int (qa_cons qe_int qa_nil star_con) star_con) star_con)) (qcA (ok_Q35 T) hr T.m_Q35 T.F_Q35.kp T.b_Q35 (qa_cons (qv 0) (qa_cons qe_int qa_nil star_con) star_name))) qa_nil star_sub) star_name)))
   (qss_one (qs_ret (qe_tup (qa_cons qe_str (qa_cons (qe_callTy call_tuple_of (by rfl) T.z_tuple boot_tuple (qa_cons (qe_lcomp (N' := ["_law_k", "_law_tape_here"]) (src := [none, some 0]) rfl (by exact (qi_range1 rfl T.z_range (qa_cons (qv 1) qa_nil star_name))) (fun _ _ _ _ _ => (by exact (by exact qg_name (i := 0) (by show List.Nodup (["_law_k", "_law_tape_here"] : List Str); decide +kernel) (by exact rfl) (by first | exact Or.inl rfl | exact Or.inr rfl)))) (fun _ _ _ _ _ => qts_nil) (fun _ _ _ _ _ => (by exact (by exact (qe_tup (qa_cons (by exact (qe_call (ok_Q9 T) (by exact hr.mono (by decide)) (by exact rfl) T.m_Q9 T.F_Q9.kp T.b_Q9 (by exact .nil) (by exact pass0) (qa_cons (by exact (qv 1)) qa_nil star_name))) (qa_cons (by exact (qe_call (ok_Q9 T) (by exact hr.mono (by decide)) (by exact rfl) T.m_Q9 T.F_Q9.kp T.b_Q9 (by exact .nil) (by exact pass0) (qa_cons (by exact (qv 1)) qa_nil star_name))) qa_nil star_call) star_call))))) (by exact ⟨rfl, rfl, rfl, rfl, trivial⟩) rfl (by decide +kernel) rfl (by decide +kernel) (by exact cells_of rfl ⟨rfl, trivial⟩)) qa_nil star_lc)) qa_nil star_call) star_con)))))) ?_
 try dsimp only [Cx.nox, Cx.wish, cxOf]
 obtain ⟨y0, e0⟩ := T0.lst
 refine ⟨_, rfl, t₁, s₀, 3, rfl, T0, by decide, by decide, fun r1 x1 a1 b1 T1 => ?_⟩
 have S1 : Step t₁ H _ := Step.up (ys := x1) e0
 generalize upd H t₁ (.lst x1) = H1 at T1 S1 ⊢
 refine ⟨rfl, _, rfl, ite2 (fun _ => ?_) (fun _ => ?_)⟩
 ·refine ⟨_, rfl, t₁, s₀, rfl, T1, fun n H2 g S2 T2 => ⟨zl2, fun p hp => ?_⟩⟩
  have s3 := same_new hp (.tup [.str (Str.ofString "power"), .int n])
  exact k _ (.pow n) _ g ((S1.trans S2).trans (Step.same s3 T2.lst)) (T2.same s3) ⟨p, rfl, SqT.of upd_same⟩
 refine ⟨_, rfl, zl3, fun ml4 mg4 => ?_⟩
 have ms4 := same_new mg4 (.lst [.int 5, .int 5, .int 20])
 have mh4 : upd H1 ml4 (.lst [.int 5, .int 5, .int 20]) ml4 = some (.lst [.int 5, .int 5, .int 20]) := upd_same
 have mT4 := T1.same ms4
 have mS4 := S1.trans (Step.same ms4 T1.lst)
 have mn4 : ml4 ≠ t₁ := fun z => by subst z; obtain ⟨_, e⟩ := T1.lst; rw [mg4] at e; cases e
 generalize upd H1 ml4 (.lst [.int 5, .int 5, .int 20]) = mA4 at ms4 mh4 mT4 mS4 ⊢
 obtain ⟨my4, me4⟩ := mT4.lst
 refine ⟨_, rfl, t₁, s₀, 3, rfl, mT4, by decide, by decide, fun mr4 mx4 ma4 mb4 mU4 => ?_⟩
 have mV4 : Step t₁ mA4 _ := Step.up (ys := mx4) me4
 have mW4 := mS4.trans mV4
 generalize upd mA4 t₁ (.lst mx4) = mB4 at mU4 mV4 mW4 ⊢
 obtain ⟨e4, he4, el4, eu4⟩ : ∃ e : Int, atI [V.int 5, .int 5, .int 20] mr4 = some (.int e) /\ 1 ≤ e /\ e ≤ 50 := by
  rcases (show mr4 = 0 ∨ mr4 = 1 ∨ mr4 = 2 by omega) with rfl | rfl | rfl
  ·exact ⟨5, rfl, by decide, by decide⟩
  ·exact ⟨5, rfl, by decide, by decide⟩
  ·exact ⟨20, rfl, by decide, by decide⟩
 obtain ⟨mq4, mz4⟩ := mU4.lst
 refine ⟨ml4, _, _, _, rfl, rfl, SqL.of (mV4.keep _ _ mn4 mh4), he4, t₁, s₀, e4, rfl, mU4, by omega, by omega, fun r4 rx4 ra4 rb4 T4 => ?_⟩
 have S4 := mW4.trans (Step.up (ys := rx4) mz4)
 generalize upd mB4 t₁ (.lst rx4) = H4 at T4 S4 ⊢
 obtain ⟨c4, rfl⟩ := Int.eq_ofNat_of_zero_le ra4
 refine ⟨_, rfl, (c4 : Int), rfl, by omega, by omega, fun D hD => comp_rng (K := K) (P := RowV K) (Ok := ROk) (n := (c4 : Int).toNat) (fun _ _ _ _ t z => z.mono t) hD T4 (by omega) (fun i H' hi T' R E kR => ?_) fun H5 zs rs S5 T5 hz5 ae les okr => ?_⟩
 ·refine ⟨Ext.set rfl, _, rfl, t₁, s₀, rfl, T', fun u ra Ha ga Sa Ta va => ⟨_, rfl, t₁, s₀, rfl, Ta, fun v rb Hb gb Sb Tb vb => ⟨zl2, fun p hp => ?_⟩⟩⟩
  have sp := same_new hp (.tup [u, v])
  have tp := Tst.same (K := K) sp
  exact kR _ (ra, rb) _ ((Sa.trans Sb).trans (Step.same sp Tb.lst)) (Tb.same sp) ⟨p, u, v, rfl, SqT.of upd_same, (va.mono (Tst.step (K := K) Sb)).mono tp, vb.mono tp⟩ ⟨ga, gb⟩
 refine ⟨D, _, rfl, .inl ⟨SqL.of hz5, fun p1 hp1 => ?_⟩⟩
 have s6 := same_new hp1 (.tup zs)
 have h6 : upd H5 p1 (.tup zs) p1 = some (.tup zs) := upd_same
 generalize upd H5 p1 (.tup zs) = H6 at s6 h6 ⊢
 refine ⟨zl2, fun p3 hp3 => ?_⟩
 have s8 := same_new hp3 (.tup [.str (Str.ofString "table"), .ref p1])
 have s58 := s6.trans s8
 exact k _ (.tab rs) _ ⟨okr, by omega⟩ ((S4.trans S5).trans (Step.same s58 T5.lst)) (T5.same s58) ⟨p3, p1, zs, rfl, SqT.of upd_same, SqT.of (s8 _ _ h6), ae.mono fun _ _ z => z.mono (Tst.same s58)⟩
theorem ok_Q11 (T : Txt K mg t) : FnOk P w K mg base CX0 4 t.a_Q11 t.d_Q11 ["_law_tape_here"] (sp_law_some_plan K) := by
 refine T.F_Q11.ok sc_Q11 (fun vs H Q E h => ?_) (fun cdv A outer s H vs Q E hr h => ?_)
 ·obtain ⟨_, _, rfl, _⟩ := h; rfl
 obtain ⟨t₁, s₀, rfl, T0, k⟩ := h
 refine QSs.ok (qss_cons (qsA 1 sc_Q11.nd (qe_lst qa_nil))
   (qss_cons (qs_for PassesOwn.never rfl (qi_range1 rfl T.z_range (qa_cons (qcA (ok_Q35 T) hr T.m_Q35 T.F_Q35.kp T.b_Q35 (qa_cons (qv 0) (qa_cons (qxA ix_list (qe_lst (qa_cons qe_int (qa_cons qe_int (qa_cons qe_int qa_nil star_con) star_con) star_con)) (qcA (ok_Q35 T) hr T.m_Q35 T.F_Q35.kp T.b_Q35 (qa_cons (qv 0) (qa_cons qe_int qa_nil star_con) star_name))) qa_nil star_sub) star_name)) qa_nil star_call)) (qg_name (i := 2) sc_Q11.nd rfl (by first | exact Or.inl rfl | exact Or.inr rfl))
   (qss_one (qs_expr (qe_bm PySem.F.plainAttrs_list PySem.F.slot_list_append PySem.F.type_list_append mt_append (qv 1) (qa_cons (qe_callTy call_tuple_of (by rfl) T.z_tuple boot_tuple (qa_cons (qe_lcomp (N' := ["_law_k", "_law_tape_here"]) (src := [none, some 0]) rfl (by exact (qi_range1 rfl T.z_range (qa_cons (qcA (ok_Q35 T) hr T.m_Q35 T.F_Q35.kp T.b_Q35 (qa_cons (qv 0) (qa_cons qe_int qa_nil star_con) star_name)) qa_nil star_call))) (fun _ _ _ _ _ => (by exact (by exact qg_name (i := 0) (by show List.Nodup (["_law_k", "_law_tape_here"] : List Str); decide +kernel) (by exact rfl) (by first | exact Or.inl rfl | exact Or.inr rfl)))) (fun _ _ _ _ _ => qts_nil) (fun _ _ _ _ _ => (by exact (by exact (qe_tup (qa_cons (by exact (qe_call (ok_Q2 T) (by exact hr.mono (by decide)) (by exact rfl) T.m_Q2 T.F_Q2.kp T.b_Q2 (by exact .nil) (by exact pass0) (qa_cons (by exact (qv 1)) qa_nil star_name))) (qa_cons (by exact (qe_call (ok_Q9 T) (by exact hr.mono (by decide)) (by exact rfl) T.m_Q9 T.F_Q9.kp T.b_Q9 (by exact .nil) (by exact pass0) (qa_cons (by exact (qv 1)) qa_nil star_name))) qa_nil star_call) star_call))))) (by exact ⟨rfl, rfl, rfl, rfl, trivial⟩) rfl (by decide +kernel) rfl (by decide +kernel) (by exact cells_of rfl ⟨rfl, trivial⟩)) qa_nil star_lc)) qa_nil star_call)))))
   (qss_one (qs_ret (qe_callTy call_tuple_of (by rfl) T.z_tuple boot_tuple (qa_cons (qv 1) qa_nil star_name)))))) ?_
 try dsimp only [Cx.nox, Cx.wish, cxOf]
 refine ⟨(by show 0 ≤ sizeLine; exact Nat.zero_le _), fun lw hlw => ?_⟩
 have s1 := same_new hlw (.lst [])
 have hw1 : upd H lw (.lst []) lw = some (.lst []) := upd_same
 obtain ⟨y0, e0⟩ := T0.lst
 obtain ⟨y0', e0'⟩ := T0.scr
 have nt : lw ≠ t₁ := fun z => by subst z; rw [e0] at hlw; cases hlw
 have ns : lw ≠ s₀ := fun z => by subst z; rw [e0'] at hlw; cases hlw
 have T1 := T0.same s1
 have Sr : Step t₁ (upd H lw (.lst [])) (upd H lw (.lst [])) := Step.refl T1.lst
 generalize upd H lw (.lst []) = H1 at s1 hw1 T1 Sr ⊢
 refine ⟨_, rfl, zl3, fun ml2 mg2 => ?_⟩
 have ms2 := same_new mg2 (.lst [.int 7, .int 7, .int 40])
 have mh2 : upd H1 ml2 (.lst [.int 7, .int 7, .int 40]) ml2 = some (.lst [.int 7, .int 7, .int 40]) := upd_same
 have mT2 := T1.same ms2
 have mS2 := Sr.trans (Step.same ms2 T1.lst)
 have mn2 : ml2 ≠ t₁ := fun z => by subst z; obtain ⟨_, e⟩ := T1.lst; rw [mg2] at e; cases e
 generalize upd H1 ml2 (.lst [.int 7, .int 7, .int 40]) = mA2 at ms2 mh2 mT2 mS2 ⊢
 obtain ⟨my2, me2⟩ := mT2.lst
 refine ⟨_, rfl, t₁, s₀, 3, rfl, mT2, by decide, by decide, fun mr2 mx2 ma2 mb2 mU2 => ?_⟩
 have mV2 : Step t₁ mA2 _ := Step.up (ys := mx2) me2
 have mW2 := mS2.trans mV2
 generalize upd mA2 t₁ (.lst mx2) = mB2 at mU2 mV2 mW2 ⊢
 obtain ⟨e2, he2, el2, eu2⟩ : ∃ e : Int, atI [V.int 7, .int 7, .int 40] mr2 = some (.int e) /\ 1 ≤ e /\ e ≤ 50 := by
  rcases (show mr2 = 0 ∨ mr2 = 1 ∨ mr2 = 2 by omega) with rfl | rfl | rfl
  ·exact ⟨7, rfl, by decide, by decide⟩
  ·exact ⟨7, rfl, by decide, by decide⟩
  ·exact ⟨40, rfl, by decide, by decide⟩
 obtain ⟨mq2, mz2⟩ := mU2.lst
 refine ⟨ml2, _, _, _, rfl, rfl, SqL.of (mV2.keep _ _ mn2 mh2), he2, t₁, s₀, e2, rfl, mU2, by omega, by omega, fun r2 rx2 ra2 rb2 T2 => ?_⟩
 have S2 := mW2.trans (Step.up (ys := rx2) mz2)
 generalize upd mB2 t₁ (.lst rx2) = H2 at T2 S2 ⊢
 obtain ⟨c2, rfl⟩ := Int.eq_ofNat_of_zero_le ra2
 have hw2 := S2.keep _ _ nt hw1
 have kp2 : ∀ b o, b ≠ t₁ -> b ≠ lw -> H1 b = some o -> H2 b = some o := fun b o nb _ e => S2.keep b o nb e
 refine ⟨(c2 : Int), rfl, by omega, by omega, for_range (lo := 0) (n := (c2 : Int).toNat) (fun i σ H' => ∃ (ys : List V) (pl : List (List (Int × R))) (x3 : Option V), σ = [some (.ref t₁), some (.ref lw), x3] /\ Tape H' t₁ s₀ /\ (∀ b o, b ≠ t₁ -> b ≠ lw -> H1 b = some o -> H' b = some o) /\ H' lw = some (.lst ys) /\ Als (PcsV K H') ys pl /\ pl.length = i /\ ∀ ps ∈ pl, ps.length ≤ 4 /\ ∀ w ∈ ps, POk w) ⟨[], [], none, rfl, T2, kp2, hw2, .nil, rfl, fun w hw => by cases hw⟩ ?_ ?_⟩
 ·rintro i σ H3 hi ⟨ys, pl, x3, rfl, T3, kp3, hw3, aw, lws, okp⟩
  have ly := aw.len
  obtain ⟨y3, e3⟩ := T3.lst
  refine ⟨_, rfl, .inl ⟨rfl, _, SqL.of hw3⟩, _, rfl, t₁, s₀, 4, rfl, T3, by decide, by decide, fun r4 x4 a4 b4 T4 => ?_⟩
  have S4 : Step t₁ H3 _ := Step.up (ys := x4) e3
  generalize upd H3 t₁ (.lst x4) = H4 at T4 S4 ⊢
  obtain ⟨c4, rfl⟩ := Int.eq_ofNat_of_zero_le a4
  have hw4 := S4.keep _ _ nt hw3
  refine ⟨(c4 : Int), rfl, by omega, by omega, fun D hD => comp_rng (K := K) (P := PieceV K) (Ok := POk) (n := (c4 : Int).toNat) (fun _ _ _ _ t z => z.mono t) hD T4 (by omega) (fun i H' hi T' R E kR => ?_) fun H5 zs ps S5 T5 hz5 ae les oke => ?_⟩
  ·refine ⟨Ext.set rfl, _, rfl, t₁, s₀, rfl, T', fun n1 Ha g1 Sa Ta => ⟨_, rfl, t₁, s₀, rfl, Ta, fun v r Hb g2 Sb Tb vb => ⟨zl2, fun p hp => ?_⟩⟩⟩
   have sp := same_new hp (.tup [.int n1, v])
   exact kR _ (n1, r) _ ((Sa.trans Sb).trans (Step.same sp Tb.lst)) (Tb.same sp) ⟨p, v, rfl, SqT.of upd_same, vb.mono (Tst.same sp)⟩ ⟨g1, g2⟩
  refine ⟨D, _, rfl, .inl ⟨SqL.of hz5, fun p1 hp1 => ?_⟩⟩
  have s6 := same_new hp1 (.tup zs)
  have pv : PcsV K (upd H5 p1 (.tup zs)) (.ref p1) ps := ⟨p1, zs, rfl, SqT.of upd_same, ae.mono fun _ _ z => z.mono (Tst.same s6)⟩
  have S36 := (S4.trans S5).trans (Step.same s6 T5.lst)
  have T6 := T5.same s6
  generalize upd H5 p1 (.tup zs) = H6 at pv S36 T6 ⊢
  have hw6 := S36.keep _ _ nt hw3
  refine ⟨lw, ys, _, rfl, rfl, hw6, small1000 (by omega), ?_⟩
  have t8 := Tst.up (K := K) hw6 (ys ++ [.ref p1])
  refine ⟨_, pl ++ [ps], _, rfl, T6.upl nt ns _, fun b o nb nl e => ?_, upd_same, Als.snoc (pv.mono t8) (aw.mono fun _ _ z => (z.mono (Tst.step (K := K) S36)).mono t8), by rw [List.length_append, lws]; rfl, fun w hw => ?_⟩
  ·rw [upd_ne nl]
   exact S36.keep b o nb (kp3 b o nb nl e)
  ·rcases List.mem_append.mp hw with z | z
   ·exact okp w z
   ·rw [List.mem_singleton.mp z]; exact ⟨by omega, oke⟩
 ·rintro σ H3 ⟨ys, pl, x3, rfl, T3, kp3, hw3, aw, lws, okp⟩
  refine ⟨_, rfl, lw, _, rfl, .inl ⟨SqL.of hw3, fun p1 hp1 => ?_⟩⟩
  have s6 := same_new hp1 (.tup ys)
  have S03 : Step t₁ H H3 := ⟨fun b o nb e => kp3 b o nb (ne_of_none e hlw) (s1 _ _ e), ⟨_, e0⟩, T3.lst⟩
  exact k _ pl _ ⟨by omega, fun ps h => ⟨by have := (okp ps h).1; omega, (okp ps h).2⟩⟩ (by omega) (fun ps h => (okp ps h).1) (S03.trans (Step.same s6 T3.lst)) (T3.same s6) ⟨p1, ys, rfl, SqT.of upd_same, aw.mono fun _ _ z => z.mono (Tst.same s6)⟩
theorem ok_Q12 (T : Txt K mg t) : FnOk P w K mg base CX0 2 t.a_Q12 t.d_Q12 ["_law_tape_here", "_law_line"] (sp_law_bent_line K) := by
 refine T.F_Q12.ok sc_Q12 (fun vs H Q E h => ?_) (fun cdv A outer s H vs Q E hr h => ?_)
 ·obtain ⟨_, _, _, rfl, _⟩ := h; rfl
 obtain ⟨t₁, s₀, x, rfl, T0, lo, k⟩ := h
 refine QSs.ok (qss_cons (qsA 2 sc_Q12.nd (qe_bm PySem.F.plainAttrs_str PySem.F.slot_str_split PySem.F.type_str_split mt_split (qv 1) (qa_cons qe_str qa_nil star_con)))
   (qss_cons (qsA 3 sc_Q12.nd qe_str)
   (qss_cons (qsA 3 sc_Q12.nd (qe_op op_add_str (qv 3) qe_str))
   (qss_cons (qsA 4 sc_Q12.nd (qe_op op_cat (qe_bm PySem.F.plainAttrs_str PySem.F.slot_str_split PySem.F.type_str_split mt_split (qv 3) (qa_cons qe_str qa_nil star_con)) (qe_lst (qa_cons (qe_op op_mul_str qe_str qe_int) (qa_cons (qe_op op_mul_str qe_str qe_int) (qa_cons (qe_op op_add_str qe_str (qe_op op_mul_str qe_str qe_int)) (qa_cons (qe_op op_add_str qe_str (qe_op op_mul_str qe_str qe_int)) (qa_cons qe_str qa_nil star_con) star_bin) star_bin) star_bin) star_bin))))
   (qss_cons (qsA 5 sc_Q12.nd (qxA ix_list (qv 4) (qcA (ok_Q35 T) hr T.m_Q35 T.F_Q35.kp T.b_Q35 (qa_cons (qv 0) (qa_cons (qe_callB call_len_seq (by rfl) T.z_len boot_len (qa_cons (qv 4) qa_nil star_name)) qa_nil star_call) star_name))))
   (qss_cons (qsA 6 sc_Q12.nd (qcA (ok_Q35 T) hr T.m_Q35 T.F_Q35.kp T.b_Q35 (qa_cons (qv 0) (qa_cons (qe_callB call_len_seq (by rfl) T.z_len boot_len (qa_cons (qv 2) qa_nil star_name)) qa_nil star_call) star_name)))
   (qss_cons (qsA 7 sc_Q12.nd (qcA (ok_Q35 T) hr T.m_Q35 T.F_Q35.kp T.b_Q35 (qa_cons (qv 0) (qa_cons qe_int qa_nil star_con) star_name)))
   (qss_cons (qs_if (qt_cmpR op_eq (qv 7) qe_int (nomark _)) (qss_one (qs_ret (qe_bm PySem.F.plainAttrs_str PySem.F.slot_str_join PySem.F.type_str_join mt_join qe_str (qa_cons (qe_op op_cat (qe_slice sl_list (qv 2) qo_none (qo_some (qv 6))) (qe_slice sl_list (qv 2) (qo_some (qe_op op_add (qv 6) qe_int)) qo_none)) qa_nil star_bin)))) qss_nil)
   (qss_cons (qs_if (qt_cmpR op_eq (qv 7) qe_int (nomark _)) (qss_one (qs_ret (qe_bm PySem.F.plainAttrs_str PySem.F.slot_str_join PySem.F.type_str_join mt_join qe_str (qa_cons (qe_op op_cat (qe_op op_cat (qe_slice sl_list (qv 2) qo_none (qo_some (qv 6))) (qe_lst (qa_cons (qv 5) qa_nil star_name))) (qe_slice sl_list (qv 2) (qo_some (qv 6)) qo_none)) qa_nil star_bin)))) qss_nil)
   (qss_cons (qs_if (qt_cmpR op_eq (qv 7) qe_int (nomark _)) (qss_one (qs_ret (qxA ix_list (qe_lst (qa_cons (qe_op op_add_str (qv 1) qe_str) (qa_cons (qe_op op_add_str qe_str (qv 1)) (qa_cons qe_str (qa_cons (qe_op op_add_str (qv 1) qe_str) (qa_cons (qe_bm0 PySem.F.plainAttrs_str PySem.F.slot_str_upper PySem.F.type_str_upper mt_upper (qv 1)) (qa_cons (qv 5) qa_nil star_name) star_call) star_bin) star_con) star_bin) star_bin)) (qcA (ok_Q35 T) hr T.m_Q35 T.F_Q35.kp T.b_Q35 (qa_cons (qv 0) (qa_cons qe_int qa_nil star_con) star_name))))) qss_nil)
   (qss_one (qs_ret (qe_bm PySem.F.plainAttrs_str PySem.F.slot_str_join PySem.F.type_str_join mt_join qe_str (qa_cons (qe_op op_cat (qe_op op_cat (qe_slice sl_list (qv 2) qo_none (qo_some (qv 6))) (qe_lst (qa_cons (qv 5) qa_nil star_name))) (qe_slice sl_list (qv 2) (qo_some (qe_op op_add (qv 6) qe_int)) qo_none)) qa_nil star_bin)))))))))))))) ?_
 try dsimp only [Cx.nox, Cx.wish, cxOf]
 obtain ⟨ws, wn, wl, wd, ex⟩ := id lo
 have lx := lo.Lx
 have l3 := lo.lx
 obtain ⟨y0, e0⟩ := T0.lst
 refine ⟨_, rfl, rfl, _, _, rfl, rfl, rfl, lx.fits, fun lw hlw => ?_⟩
 rw [show Txt.split x (Str.ofString " ") = ws from Lo.spl wd wn ex]
 have nt : lw ≠ t₁ := fun z => by subst z; rw [e0] at hlw; cases hlw
 have s1 := same_new hlw (.lst (ws.map V.str))
 have hw1 : upd H lw (.lst (ws.map V.str)) lw = some (.lst (ws.map V.str)) := upd_same
 have T1 := T0.same s1
 have S1 := Step.same s1 T0.lst
 generalize upd H lw (.lst (ws.map V.str)) = H1 at s1 hw1 T1 S1 ⊢
 refine ⟨_, rfl, _, _, rfl, rfl, by decide, ?_⟩
 refine ⟨_, rfl, rfl, _, _, rfl, rfl, rfl, (by decide +kernel), fun lp hlp => ?_⟩
 obtain ⟨od1, od2, od3⟩ := odd_words
 have s2 := same_new hlp (.lst ((spl oddT).map V.str))
 have hp2 : upd H1 lp (.lst ((spl oddT).map V.str)) lp = some (.lst ((spl oddT).map V.str)) := upd_same
 have T2 := T1.same s2
 have S2 := S1.trans (Step.same s2 T1.lst)
 have hw2 := s2 _ _ hw1
 rw [show Txt.split (Str.ofString "0 00 01 7 -0 -1 +1 1/1 2/4 1/0 0/5 3/2 -3/2 1/2/3 / 1/ /2 1: :1 1:1 0:0 1:2/4 1:2:3 1:-1" ++ Str.ofString " a A work lean turn power table Work 1.5 1e3 1_0") (Str.ofString " ") = spl oddT from rfl]
 generalize upd H1 lp (.lst ((spl oddT).map V.str)) = H2 at s2 hp2 T2 S2 hw2 ⊢
 refine ⟨_, _, rfl, rfl, ⟨by decide, fun _ _ => by decide, fun _ _ => by decide⟩, _, _, rfl, rfl, ⟨by decide, fun _ _ => by decide, fun _ _ => by decide⟩, _, _, rfl, rfl, ⟨by decide, fun _ _ => by decide, fun _ _ => by decide⟩, _, _, rfl, rfl, (by decide +kernel), _, _, rfl, rfl, ⟨by decide, fun _ _ => by decide, fun _ _ => by decide⟩, _, _, rfl, rfl, (by decide +kernel), zl5, fun l5 h5 => ?_⟩
 have l5' : odd5.length = 5 := rfl
 have s3 := same_new h5 (.lst (odd5.map V.str))
 have h53 : upd H2 l5 (.lst (odd5.map V.str)) l5 = some (.lst (odd5.map V.str)) := upd_same
 have T3 := T2.same s3
 have S3 := S2.trans (Step.same s3 T2.lst)
 have hw3 := s3 _ _ hw2
 have hp3 := s3 _ _ hp2
 rw [show [V.str (Txt.mul (Str.ofString "9") 40), V.str (Txt.mul (Str.ofString "1") 41), V.str (Str.ofString "1/" ++ Txt.mul (Str.ofString "7") 41), V.str (Str.ofString "1:" ++ Txt.mul (Str.ofString "1") 41), V.str (Str.ofString "")] = odd5.map V.str from rfl]
 generalize upd H2 l5 (.lst (odd5.map V.str)) = H3 at s3 h53 T3 S3 hw3 hp3 ⊢
 refine ⟨lp, l5, _, _, rfl, rfl, hp3, h53, (by rw [List.length_map, List.length_map]; exact Nat.le_of_lt (small1000 (by omega))), fun q4 g4 => ?_⟩
 rw [← List.map_append]
 have s4 := same_new g4 (.lst ((spl oddT ++ odd5).map V.str))
 have h4 : upd H3 q4 (.lst ((spl oddT ++ odd5).map V.str)) q4 = some (.lst ((spl oddT ++ odd5).map V.str)) := upd_same
 generalize upd H3 q4 (.lst ((spl oddT ++ odd5).map V.str)) = G4 at s4 h4 ⊢
 have T4 := T3.same s4
 have S4 := S3.trans (Step.same s4 T3.lst)
 have hw4 := s4 _ _ hw3
 have pw : ∀ w ∈ spl oddT ++ odd5, Wd w := fun w hw => by
  rcases List.mem_append.mp hw with z | z
  ·exact od1 w z
  ·exact odd5_ok w z
 have lpz : (spl oddT ++ odd5).length = (spl oddT).length + 5 := List.length_append
 generalize spl oddT ++ odd5 = ps at h4 pw lpz
 have lps : (ps.map V.str).length = ps.length := List.length_map _
 have n4 : q4 ≠ t₁ := fun z => by subst z; obtain ⟨_, e⟩ := T3.lst; rw [g4] at e; cases e
 obtain ⟨y6, e6⟩ := T4.lst
 refine ⟨_, rfl, _, rfl, _, rfl, q4, _, rfl, .inl (SqL.of h4), t₁, s₀, _, rfl, T4, by omega, by omega, fun r6 x6 a6 b6 T6 => ?_⟩
 have V6 : Step t₁ G4 _ := Step.up (ys := x6) e6
 have S6 := S4.trans V6
 generalize upd G4 t₁ (.lst x6) = H6 at T6 V6 S6 ⊢
 have hw6 := V6.keep _ _ nt hw4
 obtain ⟨v6, hv6, m6⟩ := pick (xs := ps.map V.str) a6 b6
 refine ⟨q4, _, _, v6, rfl, rfl, SqL.of (V6.keep _ _ n4 h4), hv6, ?_⟩
 obtain ⟨ow, how, rfl⟩ := List.mem_map.mp m6
 have wow := pw ow how
 have lws : (ws.map V.str).length = ws.length := List.length_map _
 have lwp := List.length_pos_iff.mpr wn
 obtain ⟨y7, e7⟩ := T6.lst
 refine ⟨_, rfl, _, rfl, lw, _, rfl, .inl (SqL.of hw6), t₁, s₀, _, rfl, T6, by omega, by omega, fun r7 x7 a7 b7 T7 => ?_⟩
 obtain ⟨m7, rfl⟩ := Int.eq_ofNat_of_zero_le a7
 have ml : m7 < ws.length := by omega
 have V7 : Step t₁ H6 _ := Step.up (ys := x7) e7
 have S7 := S6.trans V7
 generalize upd H6 t₁ (.lst x7) = H7 at T7 V7 S7 ⊢
 have hw7 := V7.keep _ _ nt hw6
 obtain ⟨y8, e8⟩ := T7.lst
 refine ⟨_, rfl, t₁, s₀, 7, rfl, T7, by decide, by decide, fun r8 x8 a8 b8 T8 => ?_⟩
 have V8 : Step t₁ H7 _ := Step.up (ys := x8) e8
 have S8 := S7.trans V8
 generalize upd H7 t₁ (.lst x8) = H8 at T8 V8 S8 ⊢
 have hw8 := V8.keep _ _ nt hw7
 have fin : ∀ (us : List Str) (H9 : Hp) (q : Addr), (∀ u ∈ us, Wd u) -> us.length ≤ 140 -> Same H8 H9 -> H9 q = some (.lst (us.map V.str)) -> ∃ (sep : Str) (p : Addr) (zs : List Str), V.str (Str.ofString " ") = .str sep /\ [V.ref q] = [.ref p] /\ SqL K H9 p (zs.map V.str) /\ JoinFits sep zs /\ Q (.str (Txt.join sep zs)) H9 := fun us H9 q hu hl sm hq => by
  refine ⟨_, q, us, rfl, rfl, SqL.of hq, fits_of (n := 200) (k := 1) (m := 140) Tx.lit (fun y hy => ⟨(hu y hy).len, fun c hc => Nat.lt_trans ((hu y hy).asc c hc) (by decide)⟩) hl, ?_⟩
  rw [joinT]
  exact k _ _ (lx_join hu hl) (S8.trans (Step.same sm T8.lst)) (T8.same sm)
 refine ⟨_, rfl, rfl, _, rfl, ite2 (fun _ => ?_) (fun _ => ?_)⟩
 ·refine ⟨rfl, ?_⟩
  refine ⟨_, rfl, _, rfl, _, rfl, lw, _, rfl, SqL.of hw8, fun c1 k1 => ?_⟩
  obtain ⟨u1, eu1, mu1, lu1⟩ := cutT (ws := ws) (m := m7) (Nat.le_of_lt ml)
  rw [eu1]
  have sc1 := same_new k1 (.lst (u1.map V.str))
  have hc1 : upd H8 c1 (.lst (u1.map V.str)) c1 = some (.lst (u1.map V.str)) := upd_same
  generalize upd H8 c1 (.lst (u1.map V.str)) = C1 at sc1 hc1 ⊢
  refine ⟨_, rfl, _, rfl, _, _, rfl, rfl, _, rfl, lw, _, rfl, SqL.of (sc1 _ _ hw8), fun c2 k2 => ?_⟩
  obtain ⟨u2, eu2, mu2, lu2⟩ := cutD1 (ws := ws) (m := m7) ml
  rw [eu2]
  have sc2 := same_new k2 (.lst (u2.map V.str))
  have hc2 : upd C1 c2 (.lst (u2.map V.str)) c2 = some (.lst (u2.map V.str)) := upd_same
  generalize upd C1 c2 (.lst (u2.map V.str)) = C2 at sc2 hc2 ⊢
  refine ⟨c1, c2, _, _, rfl, rfl, (sc2 _ _ hc1), hc2, (by rw [List.length_map, List.length_map]; exact Nat.le_of_lt (small1000 (by omega))), fun q9 g9 => ?_⟩
  rw [← List.map_append]
  have s9 := same_new g9 (.lst ((u1 ++ u2).map V.str))
  have h9 : upd C2 q9 (.lst ((u1 ++ u2).map V.str)) q9 = some (.lst ((u1 ++ u2).map V.str)) := upd_same
  generalize upd C2 q9 (.lst ((u1 ++ u2).map V.str)) = G9 at s9 h9 ⊢
  refine fin _ _ _ (fun u hu => ?_) (by rw [List.length_append]; omega) ((sc1.trans sc2).trans s9) h9
  rcases List.mem_append.mp hu with z | z
  ·exact wd u (mu1 u z)
  ·exact wd u (mu2 u z)
 refine ⟨_, rfl, rfl, _, rfl, ite2 (fun _ => ?_) (fun _ => ?_)⟩
 ·refine ⟨rfl, ?_⟩
  refine ⟨_, rfl, _, rfl, _, rfl, lw, _, rfl, SqL.of hw8, fun c1 k1 => ?_⟩
  obtain ⟨u1, eu1, mu1, lu1⟩ := cutT (ws := ws) (m := m7) (Nat.le_of_lt ml)
  rw [eu1]
  have sc1 := same_new k1 (.lst (u1.map V.str))
  have hc1 : upd H8 c1 (.lst (u1.map V.str)) c1 = some (.lst (u1.map V.str)) := upd_same
  generalize upd H8 c1 (.lst (u1.map V.str)) = C1 at sc1 hc1 ⊢
  refine ⟨_, rfl, zl1, fun lo1 ho1 => ?_⟩
  have so1 := same_new ho1 (.lst [.str ow])
  have hoo : upd C1 lo1 (.lst [.str ow]) lo1 = some (.lst ([ow].map V.str)) := upd_same
  generalize upd C1 lo1 (.lst [.str ow]) = O1 at so1 hoo ⊢
  refine ⟨c1, lo1, _, _, rfl, rfl, (so1 _ _ hc1), hoo, (by rw [List.length_map, List.length_map]; exact Nat.le_of_lt (small1000 (by show _ + 1 ≤ _; omega))), fun q9 g9 => ?_⟩
  rw [← List.map_append]
  have s9 := same_new g9 (.lst ((u1 ++ [ow]).map V.str))
  have h9 : upd O1 q9 (.lst ((u1 ++ [ow]).map V.str)) q9 = some (.lst ((u1 ++ [ow]).map V.str)) := upd_same
  generalize upd O1 q9 (.lst ((u1 ++ [ow]).map V.str)) = G9 at s9 h9 ⊢
  refine ⟨_, rfl, _, rfl, _, rfl, lw, _, rfl, SqL.of (s9 _ _ (so1 _ _ (sc1 _ _ hw8))), fun c2 k2 => ?_⟩
  obtain ⟨u2, eu2, mu2, lu2⟩ := cutD (ws := ws) (m := m7) (Nat.le_of_lt ml)
  rw [eu2]
  have sc2 := same_new k2 (.lst (u2.map V.str))
  have hc2 : upd G9 c2 (.lst (u2.map V.str)) c2 = some (.lst (u2.map V.str)) := upd_same
  generalize upd G9 c2 (.lst (u2.map V.str)) = C2 at sc2 hc2 ⊢
  refine ⟨q9, c2, _, _, rfl, rfl, (sc2 _ _ h9), hc2, (by rw [List.length_map, List.length_map, List.length_append]; exact Nat.le_of_lt (small1000 (by show _ + 1 + _ ≤ _; omega))), fun q10 g10 => ?_⟩
  rw [← List.map_append]
  have s10 := same_new g10 (.lst (((u1 ++ [ow]) ++ u2).map V.str))
  have h10 : upd C2 q10 (.lst (((u1 ++ [ow]) ++ u2).map V.str)) q10 = some (.lst (((u1 ++ [ow]) ++ u2).map V.str)) := upd_same
  generalize upd C2 q10 (.lst (((u1 ++ [ow]) ++ u2).map V.str)) = G10 at s10 h10 ⊢
  refine fin _ _ _ (fun u hu => ?_) (by rw [List.length_append, List.length_append]; show _ + 1 + _ ≤ _; omega) ((((sc1.trans so1).trans s9).trans sc2).trans s10) h10
  rcases List.mem_append.mp hu with z | z
  ·rcases List.mem_append.mp z with z | z
   ·exact wd u (mu1 u z)
   ·rw [List.mem_singleton.mp z]; exact wow
  ·exact wd u (mu2 u z)
 refine ⟨_, rfl, rfl, _, rfl, ite2 (fun _ => ?_) (fun _ => ?_)⟩
 ·have a1 : Asc (Str.ofString " ") := asc_sp
  have a2 : Asc (Str.ofString "x") := by show ∀ c ∈ [120], c < 128; decide
  have lu := lx_up lx
  have lxx := l3.2.1
  refine ⟨_, rfl, _, _, rfl, rfl, Nat.le_trans (m := 40000) (by show x.length + 1 ≤ _; omega) (by decide), _, rfl, _, _, rfl, rfl, Nat.le_trans (m := 40000) (by show 1 + x.length ≤ _; omega) (by decide), _, rfl, _, _, rfl, rfl, Nat.le_trans (m := 40000) (by show x.length + 1 ≤ _; omega) (by decide), _, rfl, rfl, _, rfl, rfl, Nat.le_trans lu.2 (by decide), _, rfl, zl6, fun l6 g6 => ?_⟩
  have s9 := same_new g6 (.lst [.str (x ++ Str.ofString " "), .str (Str.ofString " " ++ x), .str (Str.ofString ""), .str (x ++ Str.ofString "x"), .str (Txt.upper x), .str ow])
  have h9 : upd H8 l6 (.lst [.str (x ++ Str.ofString " "), .str (Str.ofString " " ++ x), .str (Str.ofString ""), .str (x ++ Str.ofString "x"), .str (Txt.upper x), .str ow]) l6 = some (.lst [.str (x ++ Str.ofString " "), .str (Str.ofString " " ++ x), .str (Str.ofString ""), .str (x ++ Str.ofString "x"), .str (Txt.upper x), .str ow]) := upd_same
  have n6 : l6 ≠ t₁ := fun z => by subst z; obtain ⟨_, e⟩ := T8.lst; rw [g6] at e; cases e
  have T9 := T8.same s9
  have S9 := S8.trans (Step.same s9 T8.lst)
  generalize upd H8 l6 (.lst [.str (x ++ Str.ofString " "), .str (Str.ofString " " ++ x), .str (Str.ofString ""), .str (x ++ Str.ofString "x"), .str (Txt.upper x), .str ow]) = H9 at s9 h9 T9 S9 ⊢
  obtain ⟨y10, e10⟩ := T9.lst
  refine ⟨_, rfl, t₁, s₀, 6, rfl, T9, by decide, by decide, fun r10 x10 a10 b10 T10 => ?_⟩
  have V10 : Step t₁ H9 _ := Step.up (ys := x10) e10
  have S10 := S9.trans V10
  generalize upd H9 t₁ (.lst x10) = H10 at T10 V10 S10 ⊢
  obtain ⟨v10, hv10, m10⟩ := pick (xs := [.str (x ++ Str.ofString " "), .str (Str.ofString " " ++ x), .str (Str.ofString ""), .str (x ++ Str.ofString "x"), .str (Txt.upper x), .str ow]) a10 b10
  refine ⟨l6, _, _, v10, rfl, rfl, SqL.of (V10.keep _ _ n6 h9), hv10, ?_⟩
  obtain ⟨z, rfl, lz⟩ : ∃ z : Str, v10 = .str z /\ Lx z := by
   simp only [List.mem_cons, List.not_mem_nil, or_false] at m10
   rcases m10 with e | e | e | e | e | e
   ·exact ⟨_, e, lx_app (n := 0) (m := 0) l3 a1 (by decide)⟩
   ·exact ⟨_, e, lx_app' l3 a1 (by decide)⟩
   ·exact ⟨_, e, ⟨(fun c hc => by cases hc), by decide, by decide⟩⟩
   ·exact ⟨_, e, lx_app (n := 0) (m := 0) l3 a2 (by decide)⟩
   ·exact ⟨_, e, lu.1⟩
   ·exact ⟨_, e, wow.lx⟩
  exact k z _ lz S10 T10
 ·refine ⟨rfl, ?_⟩
  refine ⟨_, rfl, _, rfl, _, rfl, lw, _, rfl, SqL.of hw8, fun c1 k1 => ?_⟩
  obtain ⟨u1, eu1, mu1, lu1⟩ := cutT (ws := ws) (m := m7) (Nat.le_of_lt ml)
  rw [eu1]
  have sc1 := same_new k1 (.lst (u1.map V.str))
  have hc1 : upd H8 c1 (.lst (u1.map V.str)) c1 = some (.lst (u1.map V.str)) := upd_same
  generalize upd H8 c1 (.lst (u1.map V.str)) = C1 at sc1 hc1 ⊢
  refine ⟨_, rfl, zl1, fun lo1 ho1 => ?_⟩
  have so1 := same_new ho1 (.lst [.str ow])
  have hoo : upd C1 lo1 (.lst [.str ow]) lo1 = some (.lst ([ow].map V.str)) := upd_same
  generalize upd C1 lo1 (.lst [.str ow]) = O1 at so1 hoo ⊢
  refine ⟨c1, lo1, _, _, rfl, rfl, (so1 _ _ hc1), hoo, (by rw [List.length_map, List.length_map]; exact Nat.le_of_lt (small1000 (by show _ + 1 ≤ _; omega))), fun q9 g9 => ?_⟩
  rw [← List.map_append]
  have s9 := same_new g9 (.lst ((u1 ++ [ow]).map V.str))
  have h9 : upd O1 q9 (.lst ((u1 ++ [ow]).map V.str)) q9 = some (.lst ((u1 ++ [ow]).map V.str)) := upd_same
  generalize upd O1 q9 (.lst ((u1 ++ [ow]).map V.str)) = G9 at s9 h9 ⊢
  refine ⟨_, rfl, _, rfl, _, _, rfl, rfl, _, rfl, lw, _, rfl, SqL.of (s9 _ _ (so1 _ _ (sc1 _ _ hw8))), fun c2 k2 => ?_⟩
  obtain ⟨u2, eu2, mu2, lu2⟩ := cutD1 (ws := ws) (m := m7) ml
  rw [eu2]
  have sc2 := same_new k2 (.lst (u2.map V.str))
  have hc2 : upd G9 c2 (.lst (u2.map V.str)) c2 = some (.lst (u2.map V.str)) := upd_same
  generalize upd G9 c2 (.lst (u2.map V.str)) = C2 at sc2 hc2 ⊢
  refine ⟨q9, c2, _, _, rfl, rfl, (sc2 _ _ h9), hc2, (by rw [List.length_map, List.length_map, List.length_append]; exact Nat.le_of_lt (small1000 (by show _ + 1 + _ ≤ _; omega))), fun q10 g10 => ?_⟩
  rw [← List.map_append]
  have s10 := same_new g10 (.lst (((u1 ++ [ow]) ++ u2).map V.str))
  have h10 : upd C2 q10 (.lst (((u1 ++ [ow]) ++ u2).map V.str)) q10 = some (.lst (((u1 ++ [ow]) ++ u2).map V.str)) := upd_same
  generalize upd C2 q10 (.lst (((u1 ++ [ow]) ++ u2).map V.str)) = G10 at s10 h10 ⊢
  refine fin _ _ _ (fun u hu => ?_) (by rw [List.length_append, List.length_append]; show _ + 1 + _ ≤ _; omega) ((((sc1.trans so1).trans s9).trans sc2).trans s10) h10
  rcases List.mem_append.mp hu with z | z
  ·rcases List.mem_append.mp z with z | z
   ·exact wd u (mu1 u z)
   ·rw [List.mem_singleton.mp z]; exact wow
  ·exact wd u (mu2 u z)
theorem ok_Q36 (T : Txt K mg t) : FnOk P w K mg base CX0 3 t.a_Q36 t.d_Q36 ["_law_tape_here", "_law_lines"] (sp_law_bent K) := by
 refine T.F_Q36.ok sc_Q36 (fun vs H Q E h => ?_) (fun cdv A outer s H vs Q E hr h => ?_)
 ·obtain ⟨_, _, _, _, rfl, _⟩ := h; rfl
 obtain ⟨t₁, s₀, l, xs, rfl, T0, nl, hl, lo, l100, k⟩ := h
 refine QSs.ok (qss_cons (qsA 2 sc_Q36.nd (qcA (ok_Q35 T) hr T.m_Q35 T.F_Q35.kp T.b_Q35 (qa_cons (qv 0) (qa_cons qe_int qa_nil star_con) star_name)))
   (qss_cons (qs_if (qt_cmpR (op_eqD hr) (qv 1) (qe_lst qa_nil) (nomark _)) (qss_one (qs_ret (qxA ix_list (qe_lst (qa_cons (qe_lst (qa_cons qe_str qa_nil star_con)) (qa_cons (qe_lst (qa_cons qe_str qa_nil star_con)) (qa_cons (qe_lst (qa_cons qe_str qa_nil star_con)) (qa_cons (qe_lst (qa_cons qe_str qa_nil star_con)) (qa_cons (qe_lst (qa_cons qe_str qa_nil star_con)) (qa_cons (qe_lst (qa_cons qe_str qa_nil star_con)) (qa_cons (qe_lst qa_nil) qa_nil star_lst) star_lst) star_lst) star_lst) star_lst) star_lst) star_lst)) (qv 2)))) qss_nil)
   (qss_cons (qsA 3 sc_Q36.nd (qcA (ok_Q35 T) hr T.m_Q35 T.F_Q35.kp T.b_Q35 (qa_cons (qv 0) (qa_cons (qe_callB call_len_seq (by rfl) T.z_len boot_len (qa_cons (qv 1) qa_nil star_name)) qa_nil star_call) star_name)))
   (qss_cons (qs_if (qt_cmpR op_eq (qv 2) qe_int (nomark _)) (qss_one (qs_ret (qe_op op_cat (qe_slice sl_list (qv 1) qo_none (qo_some (qv 3))) (qe_slice sl_list (qv 1) (qo_some (qe_op op_add (qv 3) qe_int)) qo_none)))) qss_nil)
   (qss_cons (qs_if (qt_cmpR op_eq (qv 2) qe_int (nomark _)) (qss_one (qs_ret (qe_op op_cat (qe_op op_cat (qe_slice sl_list (qv 1) qo_none (qo_some (qv 3))) (qe_lst (qa_cons (qxA ix_list (qv 1) (qv 3)) qa_nil star_sub))) (qe_slice sl_list (qv 1) (qo_some (qv 3)) qo_none)))) qss_nil)
   (qss_cons (qs_if (qt_cmpR op_eq (qv 2) qe_int (nomark _)) (qss_one (qs_ret (qe_revL (qv 1)))) qss_nil)
   (qss_one (qs_ret (qe_op op_cat (qe_op op_cat (qe_slice sl_list (qv 1) qo_none (qo_some (qv 3))) (qe_lst (qa_cons (qcA (ok_Q12 T) hr T.m_Q12 T.F_Q12.kp T.b_Q12 (qa_cons (qv 0) (qa_cons (qxA ix_list (qv 1) (qv 3)) qa_nil star_sub) star_name)) qa_nil star_call))) (qe_slice sl_list (qv 1) (qo_some (qe_op op_add (qv 3) qe_int)) qo_none)))))))))) ?_
 try dsimp only [Cx.nox, Cx.wish, cxOf]
 have len : (xs.map V.str).length = xs.length := List.length_map _
 obtain ⟨y1, e1⟩ := T0.lst
 have frs : ∀ {H8 : Hp} {q : Addr}, Step t₁ H H8 -> q ≠ t₁ -> H8 q = none -> H q = none := fun S n g => by
  rename_i H8 q
  cases e : H q with
  | none => rfl
  | some o => rw [S.keep q o n e] at g; cases g
 refine ⟨_, rfl, t₁, s₀, 7, rfl, T0, by decide, by decide, fun r1 x1 a1 b1 T1 => ?_⟩
 have S1 : Step t₁ H _ := Step.up (ys := x1) e1
 have hl1 := S1.keep _ _ nl hl
 generalize upd H t₁ (.lst x1) = H1 at T1 S1 hl1 ⊢
 refine ⟨_, rfl, (by show 0 ≤ sizeLine; exact Nat.zero_le _), fun l0 h0 => ?_⟩
 have sl := same_new h0 (.lst [])
 have hl0 : upd H1 l0 (.lst []) l0 = some (.lst []) := upd_same
 have Tl := T1.same sl
 have Sl := S1.trans (Step.same sl T1.lst)
 have hlM := sl _ _ hl1
 generalize upd H1 l0 (.lst []) = M0 at sl hl0 Tl Sl hlM ⊢
 refine ⟨.list (xs.map PyData.str), .list [], .lst (SqL.of hlM) (deep_strs xs), .lst (SqL.of hl0) .nil, lays_str fun x hx => (lo x hx).Lx.asc.lay, rfl, (by show PyData.depthAll (xs.map PyData.str) + 1 ≤ _; rw [dep_strs]; decide), _, rfl, ?_⟩
 by_cases cn : xs = []
 ·subst cn
  refine iteB1 rfl ?_
  have Z0 : Step t₁ H M0 := Sl
  refine ⟨zl1, fun m0 g0 => ?_⟩
  have sm0 := same_new g0 (.lst [.str (Str.ofString "work 0 0 1")])
  have hm0 : upd M0 m0 (.lst [.str (Str.ofString "work 0 0 1")]) m0 = some (.lst [.str (Str.ofString "work 0 0 1")]) := upd_same
  have Tm0 := Tl.same sm0
  have nm0 : m0 ≠ t₁ := fun z => by subst z; obtain ⟨_, e⟩ := Tl.lst; rw [g0] at e; cases e
  have Z1 := Z0.trans (Step.same sm0 Tl.lst)
  generalize upd M0 m0 (.lst [.str (Str.ofString "work 0 0 1")]) = M1 at sm0 hm0 Tm0 Z1 ⊢
  refine ⟨zl1, fun m1 g1 => ?_⟩
  have sm1 := same_new g1 (.lst [.str (Str.ofString "turn")])
  have hm1 : upd M1 m1 (.lst [.str (Str.ofString "turn")]) m1 = some (.lst [.str (Str.ofString "turn")]) := upd_same
  have Tm1 := Tm0.same sm1
  have nm1 : m1 ≠ t₁ := fun z => by subst z; obtain ⟨_, e⟩ := Tm0.lst; rw [g1] at e; cases e
  have Z2 := Z1.trans (Step.same sm1 Tm0.lst)
  generalize upd M1 m1 (.lst [.str (Str.ofString "turn")]) = M2 at sm1 hm1 Tm1 Z2 ⊢
  refine ⟨zl1, fun m2 g2 => ?_⟩
  have sm2 := same_new g2 (.lst [.str (Str.ofString "power 2")])
  have hm2 : upd M2 m2 (.lst [.str (Str.ofString "power 2")]) m2 = some (.lst [.str (Str.ofString "power 2")]) := upd_same
  have Tm2 := Tm1.same sm2
  have nm2 : m2 ≠ t₁ := fun z => by subst z; obtain ⟨_, e⟩ := Tm1.lst; rw [g2] at e; cases e
  have Z3 := Z2.trans (Step.same sm2 Tm1.lst)
  generalize upd M2 m2 (.lst [.str (Str.ofString "power 2")]) = M3 at sm2 hm2 Tm2 Z3 ⊢
  refine ⟨zl1, fun m3 g3 => ?_⟩
  have sm3 := same_new g3 (.lst [.str (Str.ofString "")])
  have hm3 : upd M3 m3 (.lst [.str (Str.ofString "")]) m3 = some (.lst [.str (Str.ofString "")]) := upd_same
  have Tm3 := Tm2.same sm3
  have nm3 : m3 ≠ t₁ := fun z => by subst z; obtain ⟨_, e⟩ := Tm2.lst; rw [g3] at e; cases e
  have Z4 := Z3.trans (Step.same sm3 Tm2.lst)
  generalize upd M3 m3 (.lst [.str (Str.ofString "")]) = M4 at sm3 hm3 Tm3 Z4 ⊢
  refine ⟨zl1, fun m4 g4 => ?_⟩
  have sm4 := same_new g4 (.lst [.str (Str.ofString "lean 0 1")])
  have hm4 : upd M4 m4 (.lst [.str (Str.ofString "lean 0 1")]) m4 = some (.lst [.str (Str.ofString "lean 0 1")]) := upd_same
  have Tm4 := Tm3.same sm4
  have nm4 : m4 ≠ t₁ := fun z => by subst z; obtain ⟨_, e⟩ := Tm3.lst; rw [g4] at e; cases e
  have Z5 := Z4.trans (Step.same sm4 Tm3.lst)
  generalize upd M4 m4 (.lst [.str (Str.ofString "lean 0 1")]) = M5 at sm4 hm4 Tm4 Z5 ⊢
  refine ⟨zl1, fun m5 g5 => ?_⟩
  have sm5 := same_new g5 (.lst [.str (Str.ofString "table")])
  have hm5 : upd M5 m5 (.lst [.str (Str.ofString "table")]) m5 = some (.lst [.str (Str.ofString "table")]) := upd_same
  have Tm5 := Tm4.same sm5
  have nm5 : m5 ≠ t₁ := fun z => by subst z; obtain ⟨_, e⟩ := Tm4.lst; rw [g5] at e; cases e
  have Z6 := Z5.trans (Step.same sm5 Tm4.lst)
  generalize upd M5 m5 (.lst [.str (Str.ofString "table")]) = M6 at sm5 hm5 Tm5 Z6 ⊢
  refine ⟨zl0, fun m6 g6 => ?_⟩
  have sm6 := same_new g6 (.lst [])
  have hm6 : upd M6 m6 (.lst []) m6 = some (.lst []) := upd_same
  have Tm6 := Tm5.same sm6
  have nm6 : m6 ≠ t₁ := fun z => by subst z; obtain ⟨_, e⟩ := Tm5.lst; rw [g6] at e; cases e
  have Z7 := Z6.trans (Step.same sm6 Tm5.lst)
  generalize upd M6 m6 (.lst []) = M7 at sm6 hm6 Tm6 Z7 ⊢
  refine ⟨zl7, fun lo_ go_ => ?_⟩
  have so := same_new go_ (.lst [.ref m0, .ref m1, .ref m2, .ref m3, .ref m4, .ref m5, .ref m6])
  have hlo : upd M7 lo_ (.lst [.ref m0, .ref m1, .ref m2, .ref m3, .ref m4, .ref m5, .ref m6]) lo_ = some (.lst [.ref m0, .ref m1, .ref m2, .ref m3, .ref m4, .ref m5, .ref m6]) := upd_same
  have Tf := Tm6.same so
  have sf := ((((((sm0.trans sm1).trans sm2).trans sm3).trans sm4).trans sm5).trans sm6).trans so
  have Sf := Sl.trans (Step.same sf Tl.lst)
  generalize upd M7 lo_ (.lst [.ref m0, .ref m1, .ref m2, .ref m3, .ref m4, .ref m5, .ref m6]) = M8 at so hlo Tf sf Sf ⊢
  refine ⟨_, rfl, ?_⟩
  rcases (show r1 = 0 ∨ r1 = 1 ∨ r1 = 2 ∨ r1 = 3 ∨ r1 = 4 ∨ r1 = 5 ∨ r1 = 6 by omega) with rfl | rfl | rfl | rfl | rfl | rfl | rfl
  ·refine ⟨lo_, _, _, _, rfl, rfl, SqL.of hlo, rfl, ?_⟩
   exact k m0 [Str.ofString "work 0 0 1"] _ (frs Z0 nm0 g0) Sf Tf nm0 (so _ _ (sm6 _ _ (sm5 _ _ (sm4 _ _ (sm3 _ _ (sm2 _ _ (sm1 _ _ (hm0)))))))) (ls_one (lx_dec (by decide +kernel)))
  ·refine ⟨lo_, _, _, _, rfl, rfl, SqL.of hlo, rfl, ?_⟩
   exact k m1 [Str.ofString "turn"] _ (frs Z1 nm1 g1) Sf Tf nm1 (so _ _ (sm6 _ _ (sm5 _ _ (sm4 _ _ (sm3 _ _ (sm2 _ _ (hm1))))))) (ls_one (lx_dec (by decide +kernel)))
  ·refine ⟨lo_, _, _, _, rfl, rfl, SqL.of hlo, rfl, ?_⟩
   exact k m2 [Str.ofString "power 2"] _ (frs Z2 nm2 g2) Sf Tf nm2 (so _ _ (sm6 _ _ (sm5 _ _ (sm4 _ _ (sm3 _ _ (hm2)))))) (ls_one (lx_dec (by decide +kernel)))
  ·refine ⟨lo_, _, _, _, rfl, rfl, SqL.of hlo, rfl, ?_⟩
   exact k m3 [Str.ofString ""] _ (frs Z3 nm3 g3) Sf Tf nm3 (so _ _ (sm6 _ _ (sm5 _ _ (sm4 _ _ (hm3))))) (ls_one (lx_dec (by decide +kernel)))
  ·refine ⟨lo_, _, _, _, rfl, rfl, SqL.of hlo, rfl, ?_⟩
   exact k m4 [Str.ofString "lean 0 1"] _ (frs Z4 nm4 g4) Sf Tf nm4 (so _ _ (sm6 _ _ (sm5 _ _ (hm4)))) (ls_one (lx_dec (by decide +kernel)))
  ·refine ⟨lo_, _, _, _, rfl, rfl, SqL.of hlo, rfl, ?_⟩
   exact k m5 [Str.ofString "table"] _ (frs Z5 nm5 g5) Sf Tf nm5 (so _ _ (sm6 _ _ (hm5))) (ls_one (lx_dec (by decide +kernel)))
  ·refine ⟨lo_, _, _, _, rfl, rfl, SqL.of hlo, rfl, ?_⟩
   exact k m6 [] _ (frs Z6 nm6 g6) Sf Tf nm6 (so _ _ (hm6)) ls_nil
 have lp := List.length_pos_iff.mpr cn
 refine iteB0 (by cases xs with
  | nil => exact absurd rfl cn
  | cons a r => rfl) ?_
 have loL : ∀ x ∈ xs, Lx x := fun x hx => (lo x hx).Lx
 obtain ⟨y7, e7⟩ := Tl.lst
 refine ⟨_, rfl, _, rfl, l, _, rfl, .inl (SqL.of hlM), t₁, s₀, _, rfl, Tl, by omega, by omega, fun r7 x7 a7 b7 T7 => ?_⟩
 obtain ⟨m7, rfl⟩ := Int.eq_ofNat_of_zero_le a7
 have ml : m7 < xs.length := by omega
 have V7 : Step t₁ M0 _ := Step.up (ys := x7) e7
 have S7 := Sl.trans V7
 generalize upd M0 t₁ (.lst x7) = H7 at T7 V7 S7 ⊢
 have hl7 := V7.keep _ _ nl hlM
 obtain ⟨xm, hxm⟩ : ∃ x, xs[m7]? = some x := ⟨_, List.getElem?_eq_getElem ml⟩
 have mxm := List.mem_of_getElem? hxm
 have hatm : atI (xs.map V.str) (m7 : Int) = some (.str xm) := atI_nat (by rw [List.getElem?_map, hxm]; rfl)
 have nof : ∀ {H8 : Hp} {q : Addr}, Tape H8 t₁ s₀ -> H8 q = none -> q ≠ t₁ := fun T8 g z => by subst z; obtain ⟨_, e⟩ := T8.lst; rw [g] at e; cases e
 refine ⟨_, rfl, rfl, _, rfl, ite2 (fun _ => ?_) (fun _ => ?_)⟩
 ·refine ⟨_, rfl, _, rfl, _, rfl, l, _, rfl, SqL.of hl7, fun c1 k1 => ?_⟩
  obtain ⟨u1, eu1, mu1, lu1⟩ := cutT (ws := xs) (m := m7) (Nat.le_of_lt ml)
  rw [eu1]
  have sc1 := same_new k1 (.lst (u1.map V.str))
  have hc1 : upd H7 c1 (.lst (u1.map V.str)) c1 = some (.lst (u1.map V.str)) := upd_same
  generalize upd H7 c1 (.lst (u1.map V.str)) = C1 at sc1 hc1 ⊢
  refine ⟨_, rfl, _, rfl, _, _, rfl, rfl, _, rfl, l, _, rfl, SqL.of (sc1 _ _ hl7), fun c2 k2 => ?_⟩
  obtain ⟨u2, eu2, mu2, lu2⟩ := cutD1 (ws := xs) (m := m7) ml
  rw [eu2]
  have sc2 := same_new k2 (.lst (u2.map V.str))
  have hc2 : upd C1 c2 (.lst (u2.map V.str)) c2 = some (.lst (u2.map V.str)) := upd_same
  generalize upd C1 c2 (.lst (u2.map V.str)) = C2 at sc2 hc2 ⊢
  have Tc := (T7.same sc1).same sc2
  have Zc := S7.trans (Step.same (sc1.trans sc2) T7.lst)
  refine ⟨c1, c2, _, _, rfl, rfl, (sc2 _ _ hc1), hc2, (by rw [List.length_map, List.length_map]; exact Nat.le_of_lt (small1000 (by omega))), fun q9 g9 => ?_⟩
  rw [← List.map_append]
  have s9 := same_new g9 (.lst ((u1 ++ u2).map V.str))
  have h9 : upd C2 q9 (.lst ((u1 ++ u2).map V.str)) q9 = some (.lst ((u1 ++ u2).map V.str)) := upd_same
  generalize upd C2 q9 (.lst ((u1 ++ u2).map V.str)) = G9 at s9 h9 ⊢
  refine k q9 _ _ (frs Zc (nof Tc g9) g9) (S7.trans (Step.same ((sc1.trans sc2).trans s9) T7.lst)) (Tc.same s9) (nof Tc g9) h9 ⟨by rw [List.length_append]; omega, fun x hx => ?_⟩
  rcases List.mem_append.mp hx with z | z
  ·exact loL x (mu1 x z)
  ·exact loL x (mu2 x z)
 refine ⟨_, rfl, rfl, _, rfl, ite2 (fun _ => ?_) (fun _ => ?_)⟩
 ·refine ⟨_, rfl, _, rfl, _, rfl, l, _, rfl, SqL.of hl7, fun c1 k1 => ?_⟩
  obtain ⟨u1, eu1, mu1, lu1⟩ := cutT (ws := xs) (m := m7) (Nat.le_of_lt ml)
  rw [eu1]
  have sc1 := same_new k1 (.lst (u1.map V.str))
  have hc1 : upd H7 c1 (.lst (u1.map V.str)) c1 = some (.lst (u1.map V.str)) := upd_same
  generalize upd H7 c1 (.lst (u1.map V.str)) = C1 at sc1 hc1 ⊢
  refine ⟨_, rfl, _, rfl, l, _, _, _, rfl, rfl, SqL.of (sc1 _ _ hl7), hatm, zl1, fun lo1 ho1 => ?_⟩
  have so1 := same_new ho1 (.lst [.str xm])
  have hoo : upd C1 lo1 (.lst [.str xm]) lo1 = some (.lst ([xm].map V.str)) := upd_same
  generalize upd C1 lo1 (.lst [.str xm]) = O1 at so1 hoo ⊢
  refine ⟨c1, lo1, _, _, rfl, rfl, (so1 _ _ hc1), hoo, (by rw [List.length_map, List.length_map]; exact Nat.le_of_lt (small1000 (by show _ + 1 ≤ _; omega))), fun q9 g9 => ?_⟩
  rw [← List.map_append]
  have s9 := same_new g9 (.lst ((u1 ++ [xm]).map V.str))
  have h9 : upd O1 q9 (.lst ((u1 ++ [xm]).map V.str)) q9 = some (.lst ((u1 ++ [xm]).map V.str)) := upd_same
  generalize upd O1 q9 (.lst ((u1 ++ [xm]).map V.str)) = G9 at s9 h9 ⊢
  refine ⟨_, rfl, _, rfl, _, rfl, l, _, rfl, SqL.of (s9 _ _ (so1 _ _ (sc1 _ _ hl7))), fun c2 k2 => ?_⟩
  obtain ⟨u2, eu2, mu2, lu2⟩ := cutD (ws := xs) (m := m7) (Nat.le_of_lt ml)
  rw [eu2]
  have sc2 := same_new k2 (.lst (u2.map V.str))
  have hc2 : upd G9 c2 (.lst (u2.map V.str)) c2 = some (.lst (u2.map V.str)) := upd_same
  generalize upd G9 c2 (.lst (u2.map V.str)) = C2 at sc2 hc2 ⊢
  have Tc := (((T7.same sc1).same so1).same s9).same sc2
  have Zc := S7.trans (Step.same (((sc1.trans so1).trans s9).trans sc2) T7.lst)
  refine ⟨q9, c2, _, _, rfl, rfl, (sc2 _ _ h9), hc2, (by rw [List.length_map, List.length_map, List.length_append]; exact Nat.le_of_lt (small1000 (by show _ + 1 + _ ≤ _; omega))), fun q10 g10 => ?_⟩
  rw [← List.map_append]
  have s10 := same_new g10 (.lst (((u1 ++ [xm]) ++ u2).map V.str))
  have h10 : upd C2 q10 (.lst (((u1 ++ [xm]) ++ u2).map V.str)) q10 = some (.lst (((u1 ++ [xm]) ++ u2).map V.str)) := upd_same
  generalize upd C2 q10 (.lst (((u1 ++ [xm]) ++ u2).map V.str)) = G10 at s10 h10 ⊢
  refine k q10 _ _ (frs Zc (nof Tc g10) g10) (S7.trans (Step.same ((((sc1.trans so1).trans s9).trans sc2).trans s10) T7.lst)) (Tc.same s10) (nof Tc g10) h10 ⟨by rw [List.length_append, List.length_append]; show _ + 1 + _ ≤ _; omega, fun x hx => ?_⟩
  rcases List.mem_append.mp hx with z | z
  ·rcases List.mem_append.mp z with z | z
   ·exact loL x (mu1 x z)
   ·rw [List.mem_singleton.mp z]; exact loL xm mxm
  ·exact loL x (mu2 x z)
 refine ⟨_, rfl, rfl, _, rfl, ite2 (fun _ => ?_) (fun _ => ?_)⟩
 ·refine ⟨_, rfl, l, _, rfl, SqL.of hl7, fun p hp => ?_⟩
  have sp := same_new hp (.lst (xs.map V.str).reverse)
  refine k p xs.reverse _ (frs S7 (nof T7 hp) hp) (S7.trans (Step.same sp T7.lst)) (T7.same sp) (nof T7 hp) (by rw [upd_same, List.map_reverse]) ⟨by rw [List.length_reverse]; omega, fun x hx => loL x (List.mem_reverse.mp hx)⟩
 ·refine ⟨_, rfl, _, rfl, _, rfl, l, _, rfl, SqL.of hl7, fun c1 k1 => ?_⟩
  obtain ⟨u1, eu1, mu1, lu1⟩ := cutT (ws := xs) (m := m7) (Nat.le_of_lt ml)
  rw [eu1]
  have sc1 := same_new k1 (.lst (u1.map V.str))
  have hc1 : upd H7 c1 (.lst (u1.map V.str)) c1 = some (.lst (u1.map V.str)) := upd_same
  generalize upd H7 c1 (.lst (u1.map V.str)) = C1 at sc1 hc1 ⊢
  have T1c := T7.same sc1
  have n1c := nof T7 k1
  refine ⟨_, rfl, _, rfl, _, rfl, l, _, _, _, rfl, rfl, SqL.of (sc1 _ _ hl7), hatm, t₁, s₀, xm, rfl, T1c, lo xm mxm, fun yb H9 ly S9 T9 => ?_⟩
  have hl9 := S9.keep _ _ nl (sc1 _ _ hl7)
  have hc9 := S9.keep _ _ n1c hc1
  refine ⟨zl1, fun lo1 ho1 => ?_⟩
  have so1 := same_new ho1 (.lst [.str yb])
  have hoo : upd H9 lo1 (.lst [.str yb]) lo1 = some (.lst ([yb].map V.str)) := upd_same
  generalize upd H9 lo1 (.lst [.str yb]) = O1 at so1 hoo ⊢
  refine ⟨c1, lo1, _, _, rfl, rfl, (so1 _ _ hc9), hoo, (by rw [List.length_map, List.length_map]; exact Nat.le_of_lt (small1000 (by show _ + 1 ≤ _; omega))), fun q9 g9 => ?_⟩
  rw [← List.map_append]
  have s9 := same_new g9 (.lst ((u1 ++ [yb]).map V.str))
  have h9 : upd O1 q9 (.lst ((u1 ++ [yb]).map V.str)) q9 = some (.lst ((u1 ++ [yb]).map V.str)) := upd_same
  generalize upd O1 q9 (.lst ((u1 ++ [yb]).map V.str)) = G9 at s9 h9 ⊢
  refine ⟨_, rfl, _, rfl, _, _, rfl, rfl, _, rfl, l, _, rfl, SqL.of (s9 _ _ (so1 _ _ hl9)), fun c2 k2 => ?_⟩
  obtain ⟨u2, eu2, mu2, lu2⟩ := cutD1 (ws := xs) (m := m7) ml
  rw [eu2]
  have sc2 := same_new k2 (.lst (u2.map V.str))
  have hc2 : upd G9 c2 (.lst (u2.map V.str)) c2 = some (.lst (u2.map V.str)) := upd_same
  generalize upd G9 c2 (.lst (u2.map V.str)) = C2 at sc2 hc2 ⊢
  have Tc := ((T9.same so1).same s9).same sc2
  have Zc := ((S7.trans (Step.same sc1 T7.lst)).trans S9).trans (Step.same ((so1.trans s9).trans sc2) T9.lst)
  refine ⟨q9, c2, _, _, rfl, rfl, (sc2 _ _ h9), hc2, (by rw [List.length_map, List.length_map, List.length_append]; exact Nat.le_of_lt (small1000 (by show _ + 1 + _ ≤ _; omega))), fun q10 g10 => ?_⟩
  rw [← List.map_append]
  have s10 := same_new g10 (.lst (((u1 ++ [yb]) ++ u2).map V.str))
  have h10 : upd C2 q10 (.lst (((u1 ++ [yb]) ++ u2).map V.str)) q10 = some (.lst (((u1 ++ [yb]) ++ u2).map V.str)) := upd_same
  generalize upd C2 q10 (.lst (((u1 ++ [yb]) ++ u2).map V.str)) = G10 at s10 h10 ⊢
  refine k q10 _ _ (frs Zc (nof Tc g10) g10) (((S7.trans (Step.same sc1 T7.lst)).trans S9).trans (Step.same (((so1.trans s9).trans sc2).trans s10) T9.lst)) (Tc.same s10) (nof Tc g10) h10 ⟨by rw [List.length_append, List.length_append]; show _ + 1 + _ ≤ _; omega, fun x hx => ?_⟩
  rcases List.mem_append.mp hx with z | z
  ·rcases List.mem_append.mp z with z | z
   ·exact loL x (mu1 x z)
   ·rw [List.mem_singleton.mp z]; exact ly
  ·exact loL x (mu2 x z)
theorem ok_Q6 (T : Txt K mg t) : FnOk P w K mg base CX0 6 t.a_Q6 t.d_Q6 ["_law_rule"] (sp_law_rule_lines K) := by
 refine T.F_Q6.ok sc_Q6 (fun vs H Q E h => ?_) (fun cdv A outer s H vs Q E hr h => ?_)
 ·obtain ⟨_, _, rfl, _⟩ := h; rfl
 obtain ⟨v, s, rfl, hv, ok, n140, k⟩ := h
 refine QSs.ok (qss_one (qs_ret (qe_lst (qa_cons (qcA (ok_Q27 T) hr T.m_Q27 T.F_Q27.kp T.b_Q27 (qa_cons (qv 0) qa_nil star_name)) qa_nil star_call)))) ?_
 try dsimp only [Cx.nox, Cx.wish, cxOf]
 refine ⟨_, rfl, v, s, rfl, hv, ok, n140, fun H1 s1 => ⟨zl1, fun l hl => ?_⟩⟩
 exact k l _ (s1.trans (same_new hl _)) upd_same
theorem ok_Q44 (T : Txt K mg t) : FnOk P w K mg base CX0 2 t.a_Q44 t.d_Q44 ["self", "at"] (sp_NoText K t.c_Q44) := by
 refine T.F_Q44.ok sc_Q44 (fun vs H Q E h => ?_) (fun cdv A outer s H vs Q E hr h => ?_)
 ·obtain ⟨_, _, rfl, _⟩ := h; rfl
 obtain ⟨a, n, rfl, ha, k⟩ := h
 refine QSs.ok (qss_one (qs_fldE rfl (qv 0) (qcA (ok_Q42 T) hr T.m_Q42 T.F_Q42.kp T.b_Q42 (qa_cons (qv 1) qa_nil star_name)) rfl)) ?_
 try dsimp only [Cx.nox, Cx.wish, cxOf]
 exact ⟨_, rfl, n, rfl, _, rfl, a, _, _, rfl, T.X_Q44.cl, T.n_Q44_at, .inl ⟨ha, fun d hd nd => k d hd nd⟩⟩
theorem ok_Q16 (T : Txt K mg t) : FnOk P w K mg base (CXD P w) 4 t.a_Q16 t.d_Q16 ["text"] (sp_read_ratio K t.c_Q44) := by
 refine B.Fun.okD T.F_Q16 sc_Q16 (fun vs H Q E h => ?_) (fun cdv A outer s H vs Q E hr h => ?_)
 ·obtain ⟨_, rfl, _⟩ := h; rfl
 obtain ⟨x, rfl, wx, k, ke⟩ := h
 refine QSs.ok (qss_cons (qsA 1 sc_Q16.nd (qe_bm PySem.F.plainAttrs_str PySem.F.slot_str_startswith PySem.F.type_str_startswith mt_starts (qv 0) (qa_cons qe_str qa_nil star_con)))
   (qss_cons (qsA 2 sc_Q16.nd (qcA (ok_Q31 T) hr T.m_Q31 T.F_Q31.kp T.b_Q31 (qa_cons (qe_ifExp (qt_val (qv 1)) (qe_slice sl_str (qv 0) (qo_some qe_int) qo_none) (qv 0)) qa_nil star_if)))
   (qss_cons (qs_if (qw_pt (qw_or (qt_cmpR op_isN (qv 2) qe_non (nomark _)) (qw_or1 (qw_pt (qw_and (qt_val (qv 1)) (qw_and1 (qt_cmpR (op_eqD hr) (qv 2) (qe_glob (v := .ref t.c_NOUGHT) rfl T.m_NOUGHT rfl) (nomark _)))))))) (qss_one (qs_raiseD T.X_Q44 (vm_has _) rfl takesD (ok_Q44 T) (hr.mono (by decide)) T.b_Q44 rfl T.m_Q44 (qa_cons qe_int qa_nil star_con))) qss_nil)
   (qss_one (qs_ret (qe_ifExp (qt_val (qv 1)) (qe_tup (qa_cons (qe_un un_neg (qxA ix_tup (qv 2) qe_int)) (qa_cons (qxA ix_tup (qv 2) qe_int) qa_nil star_sub) star_un)) (qv 2))))))) ?_
 try dsimp only [Cx.nox, Cx.wish, cxOf]
 have lS : x.length ≤ sizeLine := Nat.le_trans wx.len (by decide)
 refine ⟨_, rfl, rfl, _, _, rfl, rfl, ?_⟩
 cases c : Txt.startswith x (Str.ofString "-") with
 | false =>
  have em : sratM x = ratM x := if_neg (by rw [c]; exact Bool.false_ne_true)
  rw [em] at k ke
  refine ⟨_, rfl, _, rfl, iteF ⟨_, rfl, x, rfl, wx, fun v H1 s1 rv => ?_⟩⟩
  cases hr_ : ratM x with
  | none =>
   rw [hr_] at rv
   obtain rfl : v = .non := rv
   refine ⟨_, rfl, rfl, _, rfl, iteT ?_⟩
   refine ⟨zl1, fun xx hxx => ⟨xx, _, rfl, upd_same, fun d hd nd => ⟨rfl, some d, by rw [upd_ne nd.symm, upd_same], ?_⟩⟩⟩
   refine ke 0 ⟨rfl, hr_⟩ d _ (s1.trans (del_same (o0 := exO xx t.c_Q44 none) hxx fun b' o' nb q' => ?_)) (by rw [del_at nd, upd_same]; first | done | rfl)
   have hd' : upd H1 xx (exO xx t.c_Q44 none) d = none := hd
   rw [upd_ne (ne_of_none q' hd'), upd_ne nb]
   exact q'
  | some r =>
   rw [hr_] at rv
   obtain ⟨p, rfl, hp⟩ := id rv
   refine ⟨_, rfl, rfl, _, rfl, iteF ⟨_, rfl, _, rfl, iteF (iteF ?_)⟩⟩
   exact ⟨_, rfl, _, rfl, iteF ⟨_, rfl, k r hr_ _ _ s1 rv⟩⟩
 | true =>
  obtain ⟨y, rfl⟩ := minus_of c
  have em : sratM (Str.ofString "-" ++ y) = (match ratM y with
   | some r => if r = (0, 1) then none else some (-r.1, r.2)
   | none => none) := by
   unfold sratM
   rw [if_pos c, minus_rest]
   try (cases ratM y <;> rfl)
  refine ⟨_, rfl, _, rfl, iteT ⟨_, rfl, _, rfl, _, rfl, lS, ?_⟩⟩
  rw [minus_rest]
  refine ⟨y, rfl, wx.rest, fun v H1 s1 rv => ?_⟩
  cases hr_ : ratM y with
  | none =>
   rw [hr_] at rv em
   obtain rfl : v = .non := rv
   refine ⟨_, rfl, rfl, _, rfl, iteT ?_⟩
   refine ⟨zl1, fun xx hxx => ⟨xx, _, rfl, upd_same, fun d hd nd => ⟨rfl, some d, by rw [upd_ne nd.symm, upd_same], ?_⟩⟩⟩
   refine ke 0 ⟨rfl, em⟩ d _ (s1.trans (del_same (o0 := exO xx t.c_Q44 none) hxx fun b' o' nb q' => ?_)) (by rw [del_at nd, upd_same]; first | done | rfl)
   have hd' : upd H1 xx (exO xx t.c_Q44 none) d = none := hd
   rw [upd_ne (ne_of_none q' hd'), upd_ne nb]
   exact q'
  | some r =>
   rw [hr_] at rv em
   obtain ⟨p, rfl, hp⟩ := id rv
   refine ⟨_, rfl, rfl, _, rfl, iteF ⟨_, rfl, _, rfl, iteT ?_⟩⟩
   refine ⟨_, rfl, dR r, dR (0, 1), RV.deep rv, RV.deep ⟨_, rfl, T.q_NOUGHT _⟩, rfl, rfl, dR_depth _, _, rfl, ?_⟩
   rw [eqv_iff]
   by_cases z : r = (0, 1)
   ·refine iteD1 z ?_
    have em' : sratM (Str.ofString "-" ++ y) = none := by rw [em]; exact if_pos z
    refine ⟨zl1, fun xx hxx => ⟨xx, _, rfl, upd_same, fun d hd nd => ⟨rfl, some d, by rw [upd_ne nd.symm, upd_same], ?_⟩⟩⟩
    refine ke 0 ⟨rfl, em'⟩ d _ (s1.trans (del_same (o0 := exO xx t.c_Q44 none) hxx fun b' o' nb q' => ?_)) (by rw [del_at nd, upd_same]; first | done | rfl)
    have hd' : upd H1 xx (exO xx t.c_Q44 none) d = none := hd
    rw [upd_ne (ne_of_none q' hd'), upd_ne nb]
    exact q'
   ·refine iteD0 z ?_
    have em' : sratM (Str.ofString "-" ++ y) = some (-r.1, r.2) := by rw [em]; exact if_neg z
    refine ⟨_, rfl, _, rfl, iteT ⟨_, rfl, p, _, _, _, rfl, rfl, hp, rfl, _, rfl, _, rfl, p, _, _, _, rfl, rfl, hp, rfl, zl2, fun p2 hp2 => ?_⟩⟩
    exact k _ em' _ _ (s1.trans (same_new hp2 _)) (RV.of upd_same)
theorem ok_Q17 (T : Txt K mg t) : FnOk P w K mg base (CXD P w) 5 t.a_Q17 t.d_Q17 ["lines"] (sp_read_sheet K t.c_Q44) := by
 refine B.Fun.okD T.F_Q17 sc_Q17 (fun vs H Q E h => ?_) (fun cdv A outer s H vs Q E hr h => ?_)
 ·obtain ⟨_, _, rfl, _⟩ := h; rfl
 obtain ⟨l, xs, rfl, hl, ⟨x101, okx⟩, k, ke⟩ := h
 refine QSs.ok (qss_cons (qsA 1 sc_Q17.nd (qe_lst qa_nil))
   (qss_cons (qsA 2 sc_Q17.nd (qe_lst qa_nil))
   (qss_cons (qs_for PassesOwn.leaving rfl (qi_enumL rfl T.z_enumerate (qa_cons (qv 0) qa_nil star_name)) (qg_tup rfl (qgs_cons (qg_name (i := 3) sc_Q17.nd rfl (by first | exact Or.inl rfl | exact Or.inr rfl)) (qgs_cons (qg_name (i := 4) sc_Q17.nd rfl (by first | exact Or.inl rfl | exact Or.inr rfl)) qgs_nil)))
   (qss_cons (qsA 5 sc_Q17.nd (qe_bm PySem.F.plainAttrs_str PySem.F.slot_str_split PySem.F.type_str_split mt_split (qv 4) (qa_cons qe_str qa_nil star_con)))
   (qss_cons (qsA 6 sc_Q17.nd (qcA (ok_Q38 T) hr T.m_Q38 T.F_Q38.kp T.b_Q38 (qa_cons (qv 5) qa_nil star_name)))
   (qss_cons (qsA 7 sc_Q17.nd (qcA (ok_Q39 T) hr T.m_Q39 T.F_Q39.kp T.b_Q39 (qa_cons (qv 5) qa_nil star_name)))
   (qss_one (qs_if (qw_pt (qw_and (qt_cmpR op_notN (qv 6) qe_non (nomark _)) (qw_and1 (qt_cmpR op_eq (qe_callB call_len_seq (by rfl) T.z_len boot_len (qa_cons (qv 2) qa_nil star_name)) qe_int (nomark _))))) (qss_one (qs_expr (qe_bm PySem.F.plainAttrs_list PySem.F.slot_list_append PySem.F.type_list_append mt_append (qv 1) (qa_cons (qv 6) qa_nil star_name)))) (qss_one (qs_if (qt_cmpR op_notN (qv 7) qe_non (nomark _)) (qss_one (qs_expr (qe_bm PySem.F.plainAttrs_list PySem.F.slot_list_append PySem.F.type_list_append mt_append (qv 2) (qa_cons (qv 7) qa_nil star_name)))) (qss_one (qs_raiseD T.X_Q44 (vm_has _) rfl takesD (ok_Q44 T) (hr.mono (by decide)) T.b_Q44 rfl T.m_Q44 (qa_cons (qv 3) qa_nil star_name)))))))))))
   (qss_one (qs_ret (qe_tup (qa_cons (qe_callTy call_tuple_of (by rfl) T.z_tuple boot_tuple (qa_cons (qv 1) qa_nil star_name)) (qa_cons (qe_callTy call_tuple_of (by rfl) T.z_tuple boot_tuple (qa_cons (qv 2) qa_nil star_name)) qa_nil star_call) star_call))))))) ?_
 try dsimp only [Cx.nox, Cx.wish, cxOf]
 refine ⟨(by show 0 ≤ sizeLine; exact Nat.zero_le _), fun wl hwl0 => ?_⟩
 have s1 := same_new hwl0 (.lst [])
 have hw1 : upd H wl (.lst []) wl = some (.lst []) := upd_same
 generalize upd H wl (.lst []) = H0 at s1 hw1 ⊢
 refine ⟨(by show 0 ≤ sizeLine; exact Nat.zero_le _), fun el hel0 => ?_⟩
 have s2 := same_new hel0 (.lst [])
 have he2 : upd H0 el (.lst []) el = some (.lst []) := upd_same
 have hw2 := s2 _ _ hw1
 have hl2 := s2 _ _ (s1 _ _ hl)
 have nwe : wl ≠ el := fun z => by subst z; rw [hw1] at hel0; cases hel0
 have elN : H el = none := by
  cases e : H el with
  | none => rfl
  | some o => rw [s1 _ _ e] at hel0; cases hel0
 have nwl : wl ≠ l := fun z => by subst z; rw [hl] at hwl0; cases hwl0
 have nel : el ≠ l := fun z => by subst z; rw [hl] at elN; cases elN
 have s02 := s1.trans s2
 generalize upd H0 el (.lst []) = H1 at s02 he2 hw2 hl2 ⊢
 have len : (xs.map V.str).length = xs.length := List.length_map _
 have l12 : ∀ r ∈ [wl, el], ∃ xs, H1 r = some (.lst xs) := fun r m => by
  rcases List.mem_cons.mp m with z | z
  ·exact ⟨_, by rw [z]; exact hw2⟩
  ·exact ⟨_, by rw [List.mem_singleton.mp z]; exact he2⟩
 have lnot : l ∉ [wl, el] := fun m => by
  rcases List.mem_cons.mp m with z | z
  ·exact nwl z.symm
  ·exact nel (List.mem_singleton.mp z).symm
 have mw : wl ∈ [wl, el] := List.mem_cons_self
 have me : el ∈ [wl, el] := List.mem_cons_of_mem _ List.mem_cons_self
 have sk : ∀ H', Kp [wl, el] H1 H' -> Same H H' := fun H' kp b o e => kp.keep b o (fun m => by
  rcases List.mem_cons.mp m with z | z
  ·rw [z, hwl0] at e; cases e
  ·rw [List.mem_singleton.mp z, elN] at e; cases e) (s02 _ _ e)
 refine ⟨_, rfl, l, rfl, ⟨_, SqL.of hl2⟩, for_enumL (K := K) (a := l) (xs := xs.map V.str) (fun i σ H' => ∃ (ys zs : List V) (ws : List WD) (es : List R) (x4 x5 x6 x7 x8 : Option V), σ = [some (.ref l), some (.ref wl), some (.ref el), x4, x5, x6, x7, x8] /\ Kp [wl, el] H1 H' /\ H' wl = some (.lst ys) /\ H' el = some (.lst zs) /\ Als (WorkV K H') ys ws /\ Als (RV K H') zs es /\ shF (xs.take i) = some (ws, es)) ⟨[], [], [], [], none, none, none, none, none, rfl, Kp.same (Same.refl _) l12, hw2, he2, .nil, .nil, rfl⟩ (fun i σ H' _ ⟨_, _, _, _, _, _, _, _, _, _, kp, _⟩ => SqL.of (kp.keep _ _ lnot hl2)) ?_ ?_⟩
 ·rintro i xv pe σ H2 hx ⟨ys, zs, ws, es, x4, x5, x6, x7, x8, rfl, kp, hw, he, aw, ae, inv⟩ hpe
  obtain ⟨x, hxi, rfl⟩ := str_at hx
  have il : i < xs.length := (List.getElem?_eq_some_iff.mp hxi).1
  have lx := okx x (List.mem_of_getElem? hxi)
  obtain ⟨w141, wdx, wne⟩ := lx.words
  have ln := (shF_some i (by rw [List.length_take]; omega) inv).2.2
  have lys := aw.len
  have lzs := ae.len
  have s3 := same_new hpe (.tup [.int i, .str x])
  have hp3 : upd H2 pe (.tup [.int i, .str x]) pe = some (.tup [.int i, .str x]) := upd_same
  generalize upd H2 pe (.tup [.int i, .str x]) = H3 at s3 hp3 ⊢
  refine ⟨pe, _, rfl, SqT.of hp3, rfl, _, _, rfl, _, _, rfl, rfl, ?_⟩
  refine ⟨_, rfl, rfl, _, _, rfl, rfl, rfl, lx.fits, fun lw hlw => ?_⟩
  have s4 := same_new hlw (.lst ((spl x).map V.str))
  have hl4 : upd H3 lw (.lst ((spl x).map V.str)) lw = some (.lst ((spl x).map V.str)) := upd_same
  generalize upd H3 lw (.lst ((Txt.split x (Str.ofString " ")).map V.str)) = H4 at s4 hl4 ⊢
  refine ⟨_, rfl, lw, spl x, rfl, hl4, wdx, fun v1 H5 s5 wv => ?_⟩
  refine ⟨_, rfl, lw, spl x, rfl, s5 _ _ hl4, wdx, fun v2 H6 s6 ev => ?_⟩
  have s36 := ((s3.trans s4).trans s5).trans s6
  have hw6 := s36 _ _ hw
  have he6 := s36 _ _ he
  have kp6 := kp.trans (Kp.same s36 kp.ls')
  have t36 := Tst.same (K := K) s36
  have e6 := sk _ kp6
  cases hW : workM (spl x) with
  | some w =>
   rw [hW] at wv
   have wv6 : WorkV K H6 v1 w := WorkV.mono wv (Tst.same s6)
   rw [work_not_lean hW] at ev
   obtain rfl : v2 = .non := ev
   obtain ⟨pv, qv, rfl, hpv, rqv⟩ := id wv6
   refine ⟨_, rfl, rfl, _, rfl, iteT ?_⟩
   refine ⟨_, rfl, el, _, rfl, .inl (SqL.of he6), rfl, _, rfl, ?_⟩
   by_cases c : es = []
   ·refine iteD1 (by rw [lzs, c]; rfl) ?_
    refine ⟨_, rfl, .inl ⟨rfl, _, SqL.of hw6⟩, _, rfl, wl, ys, _, rfl, rfl, hw6, small1000 (by omega), ?_⟩
    have kp7 := Kp.up mw kp6.ls' (ys ++ [.ref pv])
    have t7 := Tst.kp (K := K) kp7
    refine ⟨_, zs, ws ++ [w], es, _, _, _, _, _, rfl, kp6.trans kp7, upd_same, by rw [upd_ne (Ne.symm nwe)]; exact he6, Als.snoc (wv6.mono t7) (aw.mono fun _ _ z => (z.mono t36).mono t7), ae.mono fun _ _ z => (z.mono t36).mono t7, ?_⟩
    rw [take_succ' hxi, shF_snoc, inv]
    show shStep (ws, es) x = _
    unfold shStep
    rw [hW]
    exact if_pos c
   ·refine iteD0 (fun z => by injection z with z; rw [lzs] at z; exact c (List.length_eq_zero_iff.mp (by omega))) ?_
    refine ⟨_, rfl, rfl, _, rfl, iteF ?_⟩
    have bd : ShBad xs i := ⟨(ws, es), x, inv, hxi, by unfold shStep; rw [hW]; refine (if_neg c).trans ?_; rw [work_not_lean hW]; rfl⟩
    refine ⟨_, rfl, zl1, fun xx hxx => ⟨xx, _, rfl, upd_same, fun d hd nd => ⟨rfl, some d, by rw [upd_ne nd.symm, upd_same], ?_⟩⟩⟩
    refine ke i bd d _ (e6.trans (del_same (o0 := exO xx t.c_Q44 none) hxx fun b' o' nb q' => ?_)) (by rw [del_at nd, upd_same]; first | done | rfl)
    have hd' : upd H6 xx (exO xx t.c_Q44 none) d = none := hd
    rw [upd_ne (ne_of_none q' hd'), upd_ne nb]
    exact q'
  | none =>
   rw [hW] at wv
   obtain rfl : v1 = .non := wv
   refine ⟨_, rfl, rfl, _, rfl, iteF (iteF ?_)⟩
   cases hL : leanM (spl x) with
   | none =>
    rw [hL] at ev
    obtain rfl : v2 = .non := ev
    refine ⟨_, rfl, rfl, _, rfl, iteF ?_⟩
    have bd : ShBad xs i := ⟨(ws, es), x, inv, hxi, by unfold shStep; rw [hW, hL]; rfl⟩
    refine ⟨_, rfl, zl1, fun xx hxx => ⟨xx, _, rfl, upd_same, fun d hd nd => ⟨rfl, some d, by rw [upd_ne nd.symm, upd_same], ?_⟩⟩⟩
    refine ke i bd d _ (e6.trans (del_same (o0 := exO xx t.c_Q44 none) hxx fun b' o' nb q' => ?_)) (by rw [del_at nd, upd_same]; first | done | rfl)
    have hd' : upd H6 xx (exO xx t.c_Q44 none) d = none := hd
    rw [upd_ne (ne_of_none q' hd'), upd_ne nb]
    exact q'
   | some e =>
    rw [hL] at ev
    obtain ⟨pv, rfl, hpv⟩ := id ev
    refine ⟨_, rfl, rfl, _, rfl, iteT ?_⟩
    refine ⟨_, rfl, .inl ⟨rfl, _, SqL.of he6⟩, _, rfl, el, zs, _, rfl, rfl, he6, small1000 (by omega), ?_⟩
    have kp7 := Kp.up me kp6.ls' (zs ++ [.ref pv])
    have t7 := Tst.kp (K := K) kp7
    refine ⟨ys, _, ws, es ++ [e], _, _, _, _, _, rfl, kp6.trans kp7, by rw [upd_ne nwe]; exact hw6, upd_same, aw.mono fun _ _ z => (z.mono t36).mono t7, Als.snoc (RV.mono ev t7) (ae.mono fun _ _ z => (z.mono t36).mono t7), ?_⟩
    rw [take_succ' hxi, shF_snoc, inv]
    show shStep (ws, es) x = _
    unfold shStep
    rw [hW, hL]
    rfl
 ·rintro σ H2 ⟨ys, zs, ws, es, x4, x5, x6, x7, x8, rfl, kp, hw, he, aw, ae, inv⟩
  rw [len, List.take_length] at inv
  refine ⟨_, rfl, wl, _, rfl, .inl ⟨SqL.of hw, fun p1 hp1 => ?_⟩⟩
  have s3 := same_new hp1 (.tup ys)
  have h3 : upd H2 p1 (.tup ys) p1 = some (.tup ys) := upd_same
  have he3 := s3 _ _ he
  generalize upd H2 p1 (.tup ys) = H3 at s3 h3 he3 ⊢
  refine ⟨_, rfl, el, _, rfl, .inl ⟨SqL.of he3, fun p2 hp2 => ?_⟩⟩
  have s4 := same_new hp2 (.tup zs)
  have h4 : upd H3 p2 (.tup zs) p2 = some (.tup zs) := upd_same
  have h34 := s4 _ _ h3
  generalize upd H3 p2 (.tup zs) = H4 at s4 h4 h34 ⊢
  refine ⟨zl2, fun p3 hp3 => ?_⟩
  have s5 := same_new hp3 (.tup [.ref p1, .ref p2])
  have t25 := Tst.same (K := K) ((s3.trans s4).trans s5)
  exact k ws es inv _ _ ((sk _ kp).trans ((s3.trans s4).trans s5)) ⟨p3, p1, p2, ys, zs, rfl, SqT.of upd_same, SqT.of (s5 _ _ h34), SqT.of (s5 _ _ h4), aw.mono fun _ _ z => z.mono t25, ae.mono fun _ _ z => z.mono t25⟩
theorem ok_Q23 (T : Txt K mg t) : FnOk P w K mg base (CXD P w) 6 t.a_Q23 t.d_Q23 ["lines"] (sp_read_plan K t.c_Q44) := by
 refine B.Fun.okD T.F_Q23 sc_Q23 (fun vs H Q E h => ?_) (fun cdv A outer s H vs Q E hr h => ?_)
 ·obtain ⟨_, _, rfl, _⟩ := h; rfl
 obtain ⟨l, xs, rfl, hl, ⟨x101, okx⟩, k, ke⟩ := h
 refine QSs.ok (qss_cons (qsA 1 sc_Q23.nd (qe_lst qa_nil))
   (qss_cons (qs_for PassesOwn.leaving rfl (qi_enumL rfl T.z_enumerate (qa_cons (qv 0) qa_nil star_name)) (qg_tup rfl (qgs_cons (qg_name (i := 2) sc_Q23.nd rfl (by first | exact Or.inl rfl | exact Or.inr rfl)) (qgs_cons (qg_name (i := 3) sc_Q23.nd rfl (by first | exact Or.inl rfl | exact Or.inr rfl)) qgs_nil)))
   (qss_cons (qsA 4 sc_Q23.nd (qcA (ok_Q22 T) hr T.m_Q22 T.F_Q22.kp T.b_Q22 (qa_cons (qe_bm PySem.F.plainAttrs_str PySem.F.slot_str_split PySem.F.type_str_split mt_split (qv 3) (qa_cons qe_str qa_nil star_con)) qa_nil star_call)))
   (qss_cons (qs_if (qt_cmpR op_isN (qv 4) qe_non (nomark _)) (qss_one (qs_raiseD T.X_Q44 (vm_has _) rfl takesD (ok_Q44 T) (hr.mono (by decide)) T.b_Q44 rfl T.m_Q44 (qa_cons (qv 2) qa_nil star_name))) qss_nil)
   (qss_one (qs_expr (qe_bm PySem.F.plainAttrs_list PySem.F.slot_list_append PySem.F.type_list_append mt_append (qv 1) (qa_cons (qv 4) qa_nil star_name)))))))
   (qss_one (qs_ret (qe_callTy call_tuple_of (by rfl) T.z_tuple boot_tuple (qa_cons (qv 1) qa_nil star_name)))))) ?_
 try dsimp only [Cx.nox, Cx.wish, cxOf]
 refine ⟨(by show 0 ≤ sizeLine; exact Nat.zero_le _), fun D hD => ?_⟩
 have s1 := same_new hD (.lst [])
 have hD1 : upd H D (.lst []) D = some (.lst []) := upd_same
 have nDl : D ≠ l := fun z => by subst z; rw [hl] at hD; cases hD
 have hl1 := s1 _ _ hl
 generalize upd H D (.lst []) = H1 at s1 hD1 hl1 ⊢
 have len : (xs.map V.str).length = xs.length := List.length_map _
 have sk : ∀ H', Step D H1 H' -> Same H H' := fun H' S b o e => S.keep b o (fun z => by subst z; rw [hD] at e; cases e) (s1 _ _ e)
 refine ⟨_, rfl, l, rfl, ⟨_, SqL.of hl1⟩, for_enumL (K := K) (a := l) (xs := xs.map V.str) (fun i σ H' => ∃ (ys : List V) (pl : List (List (Int × R))) (x3 x4 x5 : Option V), σ = [some (.ref l), some (.ref D), x3, x4, x5] /\ Step D H1 H' /\ H' D = some (.lst ys) /\ Als (PcsV K H') ys pl /\ allM turnM (xs.take i) = some pl) ⟨[], [], none, none, none, rfl, Step.refl ⟨_, hD1⟩, hD1, .nil, rfl⟩ (fun i σ H' _ ⟨_, _, _, _, _, _, S, _⟩ => SqL.of (S.keep _ _ (Ne.symm nDl) hl1)) ?_ ?_⟩
 ·rintro i xv pe σ H2 hx ⟨ys, pl, x3, x4, x5, rfl, S2, hD2, al, inv⟩ hpe
  obtain ⟨x, hxi, rfl⟩ := str_at hx
  have il : i < xs.length := (List.getElem?_eq_some_iff.mp hxi).1
  have lx := okx x (List.mem_of_getElem? hxi)
  obtain ⟨w141, wdx, wne⟩ := lx.words
  have ln : pl.length = (xs.take i).length := by
   have := congrArg List.length (allM_some inv)
   rw [List.length_map, List.length_map] at this
   exact this.symm
  rw [List.length_take] at ln
  have ly := al.len
  have s3 := same_new hpe (.tup [.int i, .str x])
  have hp3 : upd H2 pe (.tup [.int i, .str x]) pe = some (.tup [.int i, .str x]) := upd_same
  generalize upd H2 pe (.tup [.int i, .str x]) = H3 at s3 hp3 ⊢
  have S3 := S2.trans (Step.same s3 ⟨_, hD2⟩)
  have hD3 := s3 _ _ hD2
  refine ⟨pe, _, rfl, SqT.of hp3, rfl, _, _, rfl, _, _, rfl, rfl, ?_⟩
  refine ⟨_, rfl, rfl, _, _, rfl, rfl, rfl, lx.fits, fun lw hlw => ?_⟩
  have s4 := same_new hlw (.lst ((spl x).map V.str))
  have hl4 : upd H3 lw (.lst ((spl x).map V.str)) lw = some (.lst ((spl x).map V.str)) := upd_same
  generalize upd H3 lw (.lst ((Txt.split x (Str.ofString " ")).map V.str)) = H4 at s4 hl4 ⊢
  refine ⟨lw, spl x, rfl, hl4, wdx, wne, by omega, fun v H5 s5 pv => ?_⟩
  have s35 := s4.trans s5
  have hD5 := s35 _ _ hD3
  have S5 := S3.trans (Step.same s35 ⟨_, hD3⟩)
  have e5 := sk _ S5
  cases hT : piecesM (spl x) with
  | none =>
   rw [hT] at pv
   obtain rfl : v = .non := pv
   refine ⟨_, rfl, rfl, _, rfl, iteT ?_⟩
   have bd : PlBad xs i := ⟨pl, x, inv, hxi, hT⟩
   refine ⟨_, rfl, zl1, fun xx hxx => ⟨xx, _, rfl, upd_same, fun d hd nd => ⟨rfl, some d, by rw [upd_ne nd.symm, upd_same], ?_⟩⟩⟩
   refine ke i bd d _ (e5.trans (del_same (o0 := exO xx t.c_Q44 none) hxx fun b' o' nb q' => ?_)) (by rw [del_at nd, upd_same]; first | done | rfl)
   have hd' : upd H5 xx (exO xx t.c_Q44 none) d = none := hd
   rw [upd_ne (ne_of_none q' hd'), upd_ne nb]
   exact q'
  | some ps =>
   rw [hT] at pv
   obtain ⟨pv_, xv, rfl, hpv, alv⟩ := id pv
   refine ⟨_, rfl, rfl, _, rfl, iteF ?_⟩
   refine ⟨_, rfl, .inl ⟨rfl, _, SqL.of hD5⟩, _, rfl, D, ys, _, rfl, rfl, hD5, small1000 (by omega), ?_⟩
   have t6 := Tst.up (K := K) hD5 (ys ++ [.ref pv_])
   refine ⟨_, pl ++ [ps], _, _, _, rfl, S5.trans (Step.up hD5), upd_same, Als.snoc (PcsV.mono pv t6) (al.mono fun _ _ z => ((z.mono (Tst.same s3)).mono (Tst.same s35)).mono t6), ?_⟩
   rw [take_succ' hxi]
   exact allM_snoc inv hT
 ·rintro σ H2 ⟨ys, pl, x3, x4, x5, rfl, S2, hD2, al, inv⟩
  rw [len, List.take_length] at inv
  refine ⟨_, rfl, D, _, rfl, .inl ⟨SqL.of hD2, fun p hp => ?_⟩⟩
  have s3 := same_new hp (.tup ys)
  exact k pl inv _ _ ((sk _ S2).trans s3) ⟨p, ys, rfl, SqT.of upd_same, al.mono fun _ _ z => z.mono (Tst.same s3)⟩
theorem ok_Q24 (T : Txt K mg t) : FnOk P w K mg base (CXD P w) 6 t.a_Q24 t.d_Q24 ["lines"] (sp_read_rule K t.c_Q44) := by
 refine B.Fun.okD T.F_Q24 sc_Q24 (fun vs H Q E h => ?_) (fun cdv A outer s H vs Q E hr h => ?_)
 ·obtain ⟨_, _, rfl, _⟩ := h; rfl
 obtain ⟨l, xs, rfl, hl, ⟨x101, okx⟩, k, ke⟩ := h
 refine QSs.ok (qss_cons (qs_if (qt_cmpR op_eq (qe_callB call_len_seq (by rfl) T.z_len boot_len (qa_cons (qv 0) qa_nil star_name)) qe_int (nomark _)) (qss_one (qs_raiseD T.X_Q44 (vm_has _) rfl takesD (ok_Q44 T) (hr.mono (by decide)) T.b_Q44 rfl T.m_Q44 (qa_cons qe_int qa_nil star_con))) qss_nil)
   (qss_cons (qsA 1 sc_Q24.nd (qcA (ok_Q40 T) hr T.m_Q40 T.F_Q40.kp T.b_Q40 (qa_cons (qe_bm PySem.F.plainAttrs_str PySem.F.slot_str_split PySem.F.type_str_split mt_split (qxA ix_list (qv 0) qe_int) (qa_cons qe_str qa_nil star_con)) qa_nil star_call)))
   (qss_cons (qs_if (qt_cmpR op_isN (qv 1) qe_non (nomark _)) (qss_one (qs_raiseD T.X_Q44 (vm_has _) rfl takesD (ok_Q44 T) (hr.mono (by decide)) T.b_Q44 rfl T.m_Q44 (qa_cons qe_int qa_nil star_con))) qss_nil)
   (qss_cons (qs_if (qt_cmpR op_gt (qe_callB call_len_seq (by rfl) T.z_len boot_len (qa_cons (qv 0) qa_nil star_name)) qe_int (nomark _)) (qss_one (qs_raiseD T.X_Q44 (vm_has _) rfl takesD (ok_Q44 T) (hr.mono (by decide)) T.b_Q44 rfl T.m_Q44 (qa_cons qe_int qa_nil star_con))) qss_nil)
   (qss_one (qs_ret (qv 1))))))) ?_
 try dsimp only [Cx.nox, Cx.wish, cxOf]
 have len : (xs.map V.str).length = xs.length := List.length_map _
 refine ⟨_, rfl, l, _, rfl, .inl (SqL.of hl), rfl, _, rfl, ?_⟩
 cases xs with
 | nil =>
  refine iteD1 rfl ?_
  have sr : Same H H := Same.refl _
  refine ⟨zl1, fun xx hxx => ⟨xx, _, rfl, upd_same, fun d hd nd => ⟨rfl, some d, by rw [upd_ne nd.symm, upd_same], ?_⟩⟩⟩
  refine ke 0 (.inl ⟨rfl, .inl rfl⟩) d _ (sr.trans (del_same (o0 := exO xx t.c_Q44 none) hxx fun b' o' nb q' => ?_)) (by rw [del_at nd, upd_same]; first | done | rfl)
  have hd' : upd H xx (exO xx t.c_Q44 none) d = none := hd
  rw [upd_ne (ne_of_none q' hd'), upd_ne nb]
  exact q'
 | cons x rest =>
  have lx := okx x List.mem_cons_self
  obtain ⟨w141, wdx, wne⟩ := lx.words
  refine iteD0 (fun z => by injection z with z; rw [len, List.length_cons] at z; omega) ?_
  refine ⟨_, rfl, l, _, _, _, rfl, rfl, SqL.of hl, atI_nat (j := 0) rfl, rfl, _, _, rfl, rfl, rfl, lx.fits, fun lw hlw => ?_⟩
  have s4 := same_new hlw (.lst ((spl x).map V.str))
  have hl4 : upd H lw (.lst ((spl x).map V.str)) lw = some (.lst ((spl x).map V.str)) := upd_same
  have hl' := s4 _ _ hl
  generalize upd H lw (.lst ((Txt.split x (Str.ofString " ")).map V.str)) = H4 at s4 hl4 hl' ⊢
  refine ⟨lw, spl x, rfl, hl4, wdx, wne, by omega, fun v H5 s5 rv => ?_⟩
  have e5 := s4.trans s5
  cases hR : ruleM (spl x) with
  | none =>
   rw [hR] at rv
   obtain rfl : v = .non := rv
   refine ⟨_, rfl, rfl, _, rfl, iteT ?_⟩
   have bd : RuBad (x :: rest) 0 := .inl ⟨rfl, .inr ⟨x, rest, rfl, hR⟩⟩
   refine ⟨zl1, fun xx hxx => ⟨xx, _, rfl, upd_same, fun d hd nd => ⟨rfl, some d, by rw [upd_ne nd.symm, upd_same], ?_⟩⟩⟩
   refine ke 0 bd d _ (e5.trans (del_same (o0 := exO xx t.c_Q44 none) hxx fun b' o' nb q' => ?_)) (by rw [del_at nd, upd_same]; first | done | rfl)
   have hd' : upd H5 xx (exO xx t.c_Q44 none) d = none := hd
   rw [upd_ne (ne_of_none q' hd'), upd_ne nb]
   exact q'
  | some r =>
   rw [hR] at rv
   have rv' : RuV K H5 v r := rv
   have e : ∃ p, v = .ref p := by
    cases r with
    | pow n => exact ⟨_, rv'.choose_spec.1⟩
    | tab rs => obtain ⟨p, _, _, e, _⟩ := rv'; exact ⟨p, e⟩
   obtain ⟨p, rfl⟩ := e
   refine ⟨_, rfl, rfl, _, rfl, iteF ?_⟩
   refine ⟨_, rfl, l, _, rfl, .inl (SqL.of (s5 _ _ hl')), _, _, rfl, rfl, _, rfl, ?_⟩
   by_cases c : rest = []
   ·subst c
    refine iteD0 (by show ¬ ((1 : Int) < ((1 : Nat) : Int)); decide) ?_
    exact ⟨_, rfl, k r (by unfold ruM; dsimp only; rw [hR]) _ _ e5 rv'⟩
   ·refine iteD1 (by rw [len, List.length_cons]; have := List.length_pos_iff.mpr c; omega) ?_
    have bd : RuBad (x :: rest) 1 := .inr ⟨rfl, x, rest, r, rfl, hR, c⟩
    refine ⟨zl1, fun xx hxx => ⟨xx, _, rfl, upd_same, fun d hd nd => ⟨rfl, some d, by rw [upd_ne nd.symm, upd_same], ?_⟩⟩⟩
    refine ke 1 bd d _ (e5.trans (del_same (o0 := exO xx t.c_Q44 none) hxx fun b' o' nb q' => ?_)) (by rw [del_at nd, upd_same]; first | done | rfl)
    have hd' : upd H5 xx (exO xx t.c_Q44 none) d = none := hd
    rw [upd_ne (ne_of_none q' hd'), upd_ne nb]
    exact q'
theorem ok_Q37 (T : Txt K mg t) : FnOk P w K mg base CX0 12 t.a_Q37 t.d_Q37 ["_law_read_one", "_law_lines"] (sp_law_read K t) := by
 refine T.F_Q37.ok sc_Q37 (fun vs H Q E h => ?_) (fun cdv A outer s H vs Q E hr h => ?_)
 ·obtain ⟨_, _, _, _, rfl, _⟩ := h; rfl
 obtain ⟨j, v, xs, hj, rfl, av, ok, k, kn⟩ := h
 refine QSs.ok (qss_cons (qsA 2 sc_Q37.nd (qe_lst qa_nil))
   (qss_cons (qs_tryD (R := (fun C dx H' => C = t.c_Q44 /\ Same H H')) rfl rfl rfl rfl T.m_Q44 (fun _ => (qss_one (qsA 2 sc_Q37.nd (qe_lst (qa_cons (qe_callV (W := WR K t (EofD (fun C dx H' => C = t.c_Q44 /\ Same H H'))) (qv 0) (by refine wr_fnX (P := P) (w := w) (base := base) T (ok_Q17 T) (ok_Q24 T) (ok_Q23 T) (ok_Q16 T) ?_ ?_ ?_ ?_ ?_ ?_ ?_ ?_ ?_ ?_ <;> first | rfl | exact hr.mono (by decide) | exact passTD rfl) (qa_cons (qv 1) qa_nil star_name)) qa_nil star_call)))))
   (fun _ => (qss_one (qsA 2 sc_Q37.nd (qe_lst qa_nil)))))
   (qss_one (qs_ret (qv 2))))) ?_
 try dsimp only [Cx.nox, Cx.wish, cxOf]
 refine ⟨(by show 0 ≤ sizeLine; exact Nat.zero_le _), fun l0 h0 => ?_⟩
 have s0 := same_new h0 (.lst [])
 generalize upd H l0 (.lst []) = H0 at s0 ⊢
 refine ⟨⟨_, rfl, _, _, _, rfl, ⟨j, hj, rfl, rfl, rfl⟩, _, rfl, v, xs, rfl, av.mono s0, ok, fun th e u H1 s1 tv => ⟨zl1, fun l1 h1 => ?_⟩, fun _ dd H1 n s1 hd => ⟨_, rfl, rfl, s0.trans s1⟩⟩, ?_⟩
 ·have s2 := same_new h1 (.lst [u])
  exact ⟨_, rfl, k th e l1 u _ ((s0.trans s1).trans s2) (tv.mono (Tst.same s2)) upd_same⟩
 ·rintro C dx H' ⟨rfl, s1⟩
  refine ⟨T.x_catch, (by show 0 ≤ sizeLine; exact Nat.zero_le _), fun l1 h1 => ?_⟩
  exact ⟨_, rfl, kn l1 _ (s1.trans (same_new h1 _)) upd_same⟩
theorem ok_Q45 (T : Txt K mg t) : FnOk P w K mg base CX0 14 t.a_Q45 t.d_Q45 ["_law_script"] (sp_law K) := by
 refine T.F_Q45.ok sc_Q45 (fun vs H Q E h => ?_) (fun cdv A outer s H vs Q E hr h => ?_)
 ·obtain ⟨_, _, rfl, _⟩ := h; rfl
 obtain ⟨a, ns, rfl, hS, hl63, k⟩ := h
 refine QSs.ok (qss_cons (qsA 1 sc_Q45.nd (qcA (ok_Q34 T) hr T.m_Q34 T.F_Q34.kp T.b_Q34 (qa_cons (qv 0) qa_nil star_name)))
   (qss_cons (qsA 2 sc_Q45.nd (qe_lst (qa_cons (qe_tup (qa_cons (qe_glob (v := .ref t.a_Q17) rfl T.m_Q17 rfl) (qa_cons (qe_glob (v := .ref t.a_Q15) rfl T.m_Q15 rfl) qa_nil star_name) star_name)) (qa_cons (qe_tup (qa_cons (qe_glob (v := .ref t.a_Q24) rfl T.m_Q24 rfl) (qa_cons (qe_glob (v := .ref t.a_Q6) rfl T.m_Q6 rfl) qa_nil star_name) star_name)) (qa_cons (qe_tup (qa_cons (qe_glob (v := .ref t.a_Q23) rfl T.m_Q23 rfl) (qa_cons (qe_glob (v := .ref t.a_Q20) rfl T.m_Q20 rfl) qa_nil star_name) star_name)) (qa_cons (qe_tup (qa_cons (qe_glob (v := .ref t.a_Q16) rfl T.m_Q16 rfl) (qa_cons (qe_glob (v := .ref t.a_Q18) rfl T.m_Q18 rfl) qa_nil star_name) star_name)) qa_nil star_tup) star_tup) star_tup) star_tup)))
   (qss_cons (qs_for PassesOwn.never rfl (qi_range1 rfl T.z_range (qa_cons qe_int qa_nil star_con)) (qg_name (i := 3) sc_Q45.nd rfl (by first | exact Or.inl rfl | exact Or.inr rfl))
   (qss_cons (qsA 4 sc_Q45.nd (qcA (ok_Q1 T) hr T.m_Q1 T.F_Q1.kp T.b_Q1 (qa_cons (qcA (ok_Q5 T) hr T.m_Q5 T.F_Q5.kp T.b_Q5 (qa_cons (qv 1) qa_nil star_name)) qa_nil star_call)))
   (qss_cons (qsA 5 sc_Q45.nd (qe_lst (qa_cons (qv 4) (qa_cons (qe_lst (qa_cons (qcA (ok_Q8 T) hr T.m_Q8 T.F_Q8.kp T.b_Q8 (qa_cons (qcA (ok_Q10 T) hr T.m_Q10 T.F_Q10.kp T.b_Q10 (qa_cons (qv 1) qa_nil star_name)) qa_nil star_call)) qa_nil star_call)) (qa_cons (qcA (ok_Q4 T) hr T.m_Q4 T.F_Q4.kp T.b_Q4 (qa_cons (qcA (ok_Q11 T) hr T.m_Q11 T.F_Q11.kp T.b_Q11 (qa_cons (qv 1) qa_nil star_name)) qa_nil star_call)) qa_nil star_call) star_lst) star_name)))
   (qss_cons (qs_setC (i := 6) (N' := ["_law_lines", "_law_tape_here"]) (src := [none, some 1]) sc_Q45.nd rfl (by first | exact Or.inl rfl | exact Or.inr rfl) rfl (by exact (qi_list (qe_op op_cat (qe_op op_cat (qv 5) (qv 5)) (qv 5)))) (fun _ _ _ _ _ => (by exact (by exact qg_name (i := 0) (by show List.Nodup (["_law_lines", "_law_tape_here"] : List Str); decide +kernel) (by exact rfl) (by first | exact Or.inl rfl | exact Or.inr rfl)))) (fun _ _ _ _ _ => qts_nil) (fun _ _ _ _ _ => (by exact (by exact (qe_call (ok_Q36 T) (by exact hr.mono (by decide)) (by exact rfl) T.m_Q36 T.F_Q36.kp T.b_Q36 (by exact .nil) (by exact pass0) (qa_cons (by exact (qv 1)) (qa_cons (by exact (qv 0)) qa_nil star_name) star_name))))) (by exact ⟨rfl, rfl, rfl, rfl, trivial⟩) rfl (by decide +kernel) rfl (by decide +kernel) (by exact cells_of rfl ⟨rfl, trivial⟩))
   (qss_cons (qs_for PassesOwn.never rfl (qi_list (qe_op op_cat (qv 5) (qv 6))) (qg_name (i := 7) sc_Q45.nd rfl (by first | exact Or.inl rfl | exact Or.inr rfl))
   (qss_one (qs_for PassesOwn.never rfl (qi_list (qe_slice sl_list (qv 2) qo_none (qo_some qe_int))) (qg_tup rfl (qgs_cons (qg_name (i := 8) sc_Q45.nd rfl (by first | exact Or.inl rfl | exact Or.inr rfl)) (qgs_cons (qg_name (i := 9) sc_Q45.nd rfl (by first | exact Or.inl rfl | exact Or.inr rfl)) qgs_nil)))
   (qss_one (qs_for PassesOwn.never rfl (qi_list (qcA (ok_Q37 T) hr T.m_Q37 T.F_Q37.kp T.b_Q37 (qa_cons (qv 8) (qa_cons (qv 7) qa_nil star_name) star_name))) (qg_name (i := 10) sc_Q45.nd rfl (by first | exact Or.inl rfl | exact Or.inr rfl))
   (qss_one (qs_if (qw_pt (qw_or (qt_cmpR (op_neD hr) (qe_callV (W := WW K t) (qv 9) (by refine ww_fnX (P := P) (w := w) (base := base) T (ok_Q15 T) (ok_Q6 T) (ok_Q20 T) ?_ ?_ ?_ ?_ ?_ ?_ ?_ ?_ <;> first | rfl | exact hr.mono (by decide)) (qa_cons (qv 10) qa_nil star_name)) (qv 7) (nomark _)) (qw_or1 (qt_cmpR op_ne (qe_callB (call_repr hr) (by rfl) T.z_repr boot_repr (qa_cons (qe_callV (W := WR K t EF) (qv 8) (by refine wr_fnX (P := P) (w := w) (base := base) T (ok_Q17 T) (ok_Q24 T) (ok_Q23 T) (ok_Q16 T) ?_ ?_ ?_ ?_ ?_ ?_ ?_ ?_ ?_ ?_ <;> first | rfl | exact hr.mono (by decide) | exact passF) (qa_cons (qe_callV (W := WW K t) (qv 9) (by refine ww_fnX (P := P) (w := w) (base := base) T (ok_Q15 T) (ok_Q6 T) (ok_Q20 T) ?_ ?_ ?_ ?_ ?_ ?_ ?_ ?_ <;> first | rfl | exact hr.mono (by decide)) (qa_cons (qv 10) qa_nil star_name)) qa_nil star_call)) qa_nil star_call)) (qe_callB (call_repr hr) (by rfl) T.z_repr boot_repr (qa_cons (qv 10) qa_nil star_name)) (nomark _))))) (qss_one (qs_ret qe_bl)) qss_nil)))))))
   (qss_one (qs_for PassesOwn.never rfl (qi_list (qe_lcomp (N' := ["_law_j", "_law_tape_here"]) (src := [none, some 1]) rfl (by exact (qi_range1 rfl T.z_range (qa_cons qe_int qa_nil star_con))) (fun _ _ _ _ _ => (by exact (by exact qg_name (i := 0) (by show List.Nodup (["_law_j", "_law_tape_here"] : List Str); decide +kernel) (by exact rfl) (by first | exact Or.inl rfl | exact Or.inr rfl)))) (fun _ _ _ _ _ => qts_nil) (fun _ _ _ _ _ => (by exact (by exact (qe_call (ok_Q12 T) (by exact hr.mono (by decide)) (by exact rfl) T.m_Q12 T.F_Q12.kp T.b_Q12 (by exact .nil) (by exact pass0) (qa_cons (by exact (qv 1)) (qa_cons (by exact (qe_call (ok_Q3 T) (by exact hr.mono (by decide)) (by exact rfl) T.m_Q3 T.F_Q3.kp T.b_Q3 (by exact .nil) (by exact pass0) (qa_cons (by exact (qe_call (ok_Q9 T) (by exact hr.mono (by decide)) (by exact rfl) T.m_Q9 T.F_Q9.kp T.b_Q9 (by exact .nil) (by exact pass0) (qa_cons (by exact (qv 1)) qa_nil star_name))) qa_nil star_call))) qa_nil star_call) star_name))))) (by exact ⟨rfl, rfl, rfl, rfl, trivial⟩) rfl (by decide +kernel) rfl (by decide +kernel) (by exact cells_of rfl ⟨rfl, trivial⟩))) (qg_name (i := 11) sc_Q45.nd rfl (by first | exact Or.inl rfl | exact Or.inr rfl))
   (qss_one (qs_for PassesOwn.never rfl (qi_list (qcA (ok_Q37 T) hr T.m_Q37 T.F_Q37.kp T.b_Q37 (qa_cons (qe_glob (v := .ref t.a_Q16) rfl T.m_Q16 rfl) (qa_cons (qv 11) qa_nil star_name) star_name))) (qg_name (i := 10) sc_Q45.nd rfl (by first | exact Or.inl rfl | exact Or.inr rfl))
   (qss_one (qs_if (qw_pt (qw_or (qt_cmpR op_ne (qcA (ok_Q18 T) hr T.m_Q18 T.F_Q18.kp T.b_Q18 (qa_cons (qv 10) qa_nil star_name)) (qv 11) (nomark _)) (qw_or1 (qt_cmpR op_ne (qe_callB (call_repr hr) (by rfl) T.z_repr boot_repr (qa_cons (qe_call (E := EF) (ok_Q16 T) (hr.mono (by decide)) rfl T.m_Q16 T.F_Q16.kp T.b_Q16 .nil passF (qa_cons (qcA (ok_Q18 T) hr T.m_Q18 T.F_Q18.kp T.b_Q18 (qa_cons (qv 10) qa_nil star_name)) qa_nil star_call)) qa_nil star_call)) (qe_callB (call_repr hr) (by rfl) T.z_repr boot_repr (qa_cons (qv 10) qa_nil star_name)) (nomark _))))) (qss_one (qs_ret qe_bl)) qss_nil)))))))))))
   (qss_one (qs_ret qe_bl))))) ?_
 try dsimp only [Cx.nox, Cx.wish, cxOf]
 refine ⟨_, rfl, a, ns, rfl, hS, fun t₁ s₀ H1 s1 ht hs T1 => ?_⟩
 refine ⟨zl2, fun p1 g1 => ?_⟩
 have sp1 := same_new g1 (.tup [.ref t.a_Q17, .ref t.a_Q15])
 have hp1 : SqT K (upd H1 p1 (.tup [.ref t.a_Q17, .ref t.a_Q15])) p1 [.ref t.a_Q17, .ref t.a_Q15] := SqT.of upd_same
 generalize upd H1 p1 (.tup [.ref t.a_Q17, .ref t.a_Q15]) = K1 at sp1 hp1 ⊢
 refine ⟨zl2, fun p2 g2 => ?_⟩
 have sp2 := same_new g2 (.tup [.ref t.a_Q24, .ref t.a_Q6])
 have hp2 : SqT K (upd K1 p2 (.tup [.ref t.a_Q24, .ref t.a_Q6])) p2 [.ref t.a_Q24, .ref t.a_Q6] := SqT.of upd_same
 generalize upd K1 p2 (.tup [.ref t.a_Q24, .ref t.a_Q6]) = K2 at sp2 hp2 ⊢
 refine ⟨zl2, fun p3 g3 => ?_⟩
 have sp3 := same_new g3 (.tup [.ref t.a_Q23, .ref t.a_Q20])
 have hp3 : SqT K (upd K2 p3 (.tup [.ref t.a_Q23, .ref t.a_Q20])) p3 [.ref t.a_Q23, .ref t.a_Q20] := SqT.of upd_same
 generalize upd K2 p3 (.tup [.ref t.a_Q23, .ref t.a_Q20]) = K3 at sp3 hp3 ⊢
 refine ⟨zl2, fun p4 g4 => ?_⟩
 have sp4 := same_new g4 (.tup [.ref t.a_Q16, .ref t.a_Q18])
 have hp4 : SqT K (upd K3 p4 (.tup [.ref t.a_Q16, .ref t.a_Q18])) p4 [.ref t.a_Q16, .ref t.a_Q18] := SqT.of upd_same
 generalize upd K3 p4 (.tup [.ref t.a_Q16, .ref t.a_Q18]) = K4 at sp4 hp4 ⊢
 have s14 := ((sp1.trans sp2).trans sp3).trans sp4
 have T4 := T1.same s14
 refine ⟨zl4, fun kl gk => ?_⟩
 have sk := same_new gk (.lst [.ref p1, .ref p2, .ref p3, .ref p4])
 have hk : upd K4 kl (.lst [.ref p1, .ref p2, .ref p3, .ref p4]) kl = some (.lst [.ref p1, .ref p2, .ref p3, .ref p4]) := upd_same
 have nk : kl ≠ t₁ := fun z => by subst z; obtain ⟨_, e⟩ := T4.lst; rw [gk] at e; cases e
 have T5 := T4.same sk
 have hp1' := Tst.same (K := K) (((sp2.trans sp3).trans sp4).trans sk) _ _ hp1
 have hp2' := Tst.same (K := K) ((sp3.trans sp4).trans sk) _ _ hp2
 have hp3' := Tst.same (K := K) (sp4.trans sk) _ _ hp3
 generalize upd K4 kl (.lst [.ref p1, .ref p2, .ref p3, .ref p4]) = K5 at sk hk T5 hp1' hp2' hp3' ⊢
 refine ⟨4, rfl, by decide, by decide, for_range (lo := 0) (n := 4) (fun i σ H' => ∃ (x3 x4 x5 x6 x7 x8 x9 xA xB : Option V), σ = [some (.ref a), some (.ref t₁), some (.ref kl), x3, x4, x5, x6, x7, x8, x9, xA, xB] /\ Tape H' t₁ s₀ /\ H' kl = some (.lst [.ref p1, .ref p2, .ref p3, .ref p4]) /\ SqT K H' p1 [.ref (aR t 0), .ref (aW t 0)] /\ SqT K H' p2 [.ref (aR t 1), .ref (aW t 1)] /\ SqT K H' p3 [.ref (aR t 2), .ref (aW t 2)]) ⟨none, none, none, none, none, none, none, none, none, rfl, T5, hk, hp1', hp2', hp3'⟩ ?_ ?_⟩
 ·rintro i σ H2 hi ⟨x3, x4, x5, x6, x7, x8, x9, xA, xB, rfl, T2, hk2, q1, q2, q3⟩
  refine ⟨_, rfl, t₁, s₀, rfl, T2, fun v1 ws es H3 okw oke w40 e55 S3 T3 sh => ?_⟩
  refine ⟨v1, ws, es, rfl, sh, okw, oke, by omega, by omega, fun l1 H4 s4 h1 => ?_⟩
  have T4 := T3.same s4
  have n1 := tape_ne T4 h1
  refine ⟨_, rfl, _, rfl, t₁, s₀, rfl, T4, fun v2 r H5 okr S5 T5 ru => ?_⟩
  refine ⟨v2, r, rfl, ru, okr, fun H6 s6 => ⟨zl1, fun l2 g2 => ?_⟩⟩
  have s7 := same_new g2 (.lst [.str (joinS (ruW r))])
  have h2 : upd H6 l2 (.lst [.str (joinS (ruW r))]) l2 = some (.lst ([joinS (ruW r)].map V.str)) := upd_same
  have T7 := (T5.same s6).same s7
  have h17 := s7 _ _ (s6 _ _ (S5.keep _ _ n1 h1))
  generalize upd H6 l2 (.lst [.str (joinS (ruW r))]) = H7 at s7 h2 T7 h17 ⊢
  have n2 := tape_ne T7 h2
  refine ⟨_, rfl, t₁, s₀, rfl, T7, fun v3 pl H8 okp p50 p4' S8 T8 pv => ?_⟩
  refine ⟨v3, pl, rfl, pv, okp, fun l3 H9 s9 h3 => ⟨zl3, fun L gL => ?_⟩⟩
  have T9 := T8.same s9
  have n3 := tape_ne T9 h3
  have h19 := s9 _ _ (S8.keep _ _ n1 h17)
  have h29 := s9 _ _ (S8.keep _ _ n2 h2)
  have S29 : Step t₁ H2 H9 := ((((S3.trans (Step.same s4 T3.lst)).trans S5).trans (Step.same (s6.trans s7) T5.lst)).trans S8).trans (Step.same s9 T8.lst)
  have sL := same_new gL (.lst [.ref l1, .ref l2, .ref l3])
  have hL : upd H9 L (.lst [.ref l1, .ref l2, .ref l3]) L = some (.lst [.ref l1, .ref l2, .ref l3]) := upd_same
  have TL := T9.same sL
  have nL : L ≠ t₁ := fun z => by subst z; obtain ⟨_, e⟩ := T9.lst; rw [gL] at e; cases e
  have S2L := S29.trans (Step.same sL T9.lst)
  have h1L := sL _ _ h19
  have h2L := sL _ _ h29
  have h3L := sL _ _ h3
  generalize upd H9 L (.lst [.ref l1, .ref l2, .ref l3]) = HL at sL hL TL S2L h1L h2L h3L ⊢
  refine ⟨_, rfl, _, rfl, L, L, _, _, rfl, rfl, hL, hL, zl6, fun L2 g2' => ?_⟩
  have sL2 := same_new g2' (.lst ([.ref l1, .ref l2, .ref l3] ++ [.ref l1, .ref l2, .ref l3]))
  have hL2 : upd HL L2 (.lst ([.ref l1, .ref l2, .ref l3] ++ [.ref l1, .ref l2, .ref l3])) L2 = some (.lst ([.ref l1, .ref l2, .ref l3] ++ [.ref l1, .ref l2, .ref l3])) := upd_same
  generalize upd HL L2 (.lst ([.ref l1, .ref l2, .ref l3] ++ [.ref l1, .ref l2, .ref l3])) = HM at sL2 hL2 ⊢
  refine ⟨_, rfl, L2, L, _, _, rfl, rfl, hL2, sL2 _ _ hL, zl9, fun L3 g3' => ?_⟩
  have sL3 := same_new g3' (.lst ([.ref l1, .ref l2, .ref l3] ++ [.ref l1, .ref l2, .ref l3] ++ [.ref l1, .ref l2, .ref l3]))
  have hL3 : upd HM L3 (.lst ([.ref l1, .ref l2, .ref l3] ++ [.ref l1, .ref l2, .ref l3] ++ [.ref l1, .ref l2, .ref l3])) L3 = some (.lst ([.ref l1, .ref l2, .ref l3, .ref l1, .ref l2, .ref l3, .ref l1, .ref l2, .ref l3])) := upd_same
  have TN := (TL.same sL2).same sL3
  have nL3 : L3 ≠ t₁ := fun z => by subst z; obtain ⟨_, e⟩ := (TL.same sL2).lst; rw [g3'] at e; cases e
  have S2N := S2L.trans (Step.same (sL2.trans sL3) TL.lst)
  have hLN := sL3 _ _ (sL2 _ _ hL)
  have h1N := sL3 _ _ (sL2 _ _ h1L)
  have h2N := sL3 _ _ (sL2 _ _ h2L)
  have h3N := sL3 _ _ (sL2 _ _ h3L)
  generalize upd HM L3 (.lst ([.ref l1, .ref l2, .ref l3] ++ [.ref l1, .ref l2, .ref l3] ++ [.ref l1, .ref l2, .ref l3])) = HN at sL3 hL3 TN S2N hLN h1N h2N h3N ⊢
  refine ⟨L3, rfl, ⟨_, SqL.of hL3⟩, fun D hD => ?_⟩
  have src : ∀ x ∈ ([V.ref l1, .ref l2, .ref l3, .ref l1, .ref l2, .ref l3, .ref l1, .ref l2, .ref l3]), ∃ (q : Addr) (zs : List Str), x = .ref q /\ q ≠ t₁ /\ HN q = some (.lst (zs.map V.str)) /\ (∀ z ∈ zs, Lo z) /\ zs.length ≤ 100 := by
   have lsh : (shL ws es).length ≤ 100 := by unfold shL; rw [List.length_append, List.length_map, List.length_map]; omega
   have a1 : ∃ (q : Addr) (zs : List Str), V.ref l1 = .ref q /\ q ≠ t₁ /\ HN q = some (.lst (zs.map V.str)) /\ (∀ z ∈ zs, Lo z) /\ zs.length ≤ 100 := ⟨l1, _, rfl, n1, h1N, lo_sheet okw oke, lsh⟩
   have a2 : ∃ (q : Addr) (zs : List Str), V.ref l2 = .ref q /\ q ≠ t₁ /\ HN q = some (.lst (zs.map V.str)) /\ (∀ z ∈ zs, Lo z) /\ zs.length ≤ 100 := ⟨l2, _, rfl, n2, h2N, lo_rule okr, by show 1 ≤ 100; decide⟩
   have a3 : ∃ (q : Addr) (zs : List Str), V.ref l3 = .ref q /\ q ≠ t₁ /\ HN q = some (.lst (zs.map V.str)) /\ (∀ z ∈ zs, Lo z) /\ zs.length ≤ 100 := ⟨l3, _, rfl, n3, h3N, lo_plan okp, by unfold plL; rw [List.length_map]; omega⟩
   intro x hx
   simp only [List.mem_cons, List.not_mem_nil, or_false] at hx
   rcases hx with rfl | rfl | rfl | rfl | rfl | rfl | rfl | rfl | rfl
   all_goals first | exact a1 | exact a2 | exact a3
  have nD : D ≠ t₁ := fun z => by subst z; obtain ⟨_, e⟩ := TN.lst; rw [hD] at e; cases e
  have nDs : D ≠ s₀ := fun z => by subst z; obtain ⟨_, e⟩ := TN.scr; rw [hD] at e; cases e
  refine comp_own (J := Itl K L3) (n := 9) (fun i ys H' => ys.length = i /\ (∀ b o, b ≠ t₁ -> HN b = some o -> H' b = some o) /\ Tape H' t₁ s₀ /\ H' D = some (.lst ys) /\ ∀ y ∈ ys, ∃ (q : Addr) (zs : List Str), y = .ref q /\ q ≠ D /\ q ≠ t₁ /\ H' q = some (.lst (zs.map V.str)) /\ LsOk zs) ⟨rfl, (fun b o nb e => same_new hD _ _ _ e), TN.same (same_new hD _), upd_same, fun y hy => by cases hy⟩ (fun i ys H' hi ⟨_, kp, _⟩ => ⟨_, _, SqL.of (kp _ _ nL3 hL3), List.getElem?_eq_getElem hi⟩) (fun ys HC ⟨e1, e2, e3, e4, e5⟩ => ⟨⟨_, SqL.of (e2 _ _ nL3 hL3), Nat.le_refl 9⟩, ?_⟩) ?_
  ·have S2C : Step t₁ H2 HC := ⟨fun b o nb e => e2 b o nb (S2N.keep b o nb e), T2.lst, e3.lst⟩
   have hkC := S2C.keep _ _ nk hk2
   have t2C := Tst.step (K := K) S2C
   have qC : ∀ j : Nat, j < 3 -> ∃ p, [V.ref p1, .ref p2, .ref p3][j]? = some (.ref p) /\ SqT K HC p [.ref (aR t j), .ref (aW t j)] := by
    intro j hj
    match j, hj with
    | 0, _ => exact ⟨p1, rfl, t2C _ _ q1⟩
    | 1, _ => exact ⟨p2, rfl, t2C _ _ q2⟩
    | 2, _ => exact ⟨p3, rfl, t2C _ _ q3⟩
   have hLC := e2 _ _ nL hLN
   have srcC : ∀ y ∈ [V.ref l1, .ref l2, .ref l3] ++ ys, LnV HC y := fun y hy => by
    rcases List.mem_append.mp hy with z | z
    ·obtain ⟨q, zs, e, nq, hq, lo, l100⟩ := src y (List.mem_append_left ([.ref l1, .ref l2, .ref l3, .ref l1, .ref l2, .ref l3] : List V) z)
     exact ⟨q, zs, e, e2 _ _ nq hq, by omega, fun x hx => (lo x hx).Lx⟩
    ·obtain ⟨q, zs, e, _, _, hq, ok⟩ := e5 y z
     exact ⟨q, zs, e, hq, ok⟩
   refine ⟨_, rfl, _, rfl, L, D, _, _, rfl, rfl, hLC, e4, (by show 3 + ys.length ≤ _; exact Nat.le_of_lt (small1000 (by omega))), fun L4 g4' => ?_⟩
   have sB := same_new g4' (.lst ([.ref l1, .ref l2, .ref l3] ++ ys))
   have hB : upd HC L4 (.lst ([.ref l1, .ref l2, .ref l3] ++ ys)) L4 = some (.lst ([.ref l1, .ref l2, .ref l3] ++ ys)) := upd_same
   generalize upd HC L4 (.lst ([.ref l1, .ref l2, .ref l3] ++ ys)) = HB at sB hB ⊢
   refine ⟨L4, rfl, ⟨_, SqL.of hB⟩, for_list (K := K) (a := L4) (xs := [.ref l1, .ref l2, .ref l3] ++ ys) (fun _ σ H' => ∃ (x3 x4 x5 x6 x7 x8 x9 xA xB : Option V), σ = [some (.ref a), some (.ref t₁), some (.ref kl), x3, x4, x5, x6, x7, x8, x9, xA, xB] /\ Same HB H') ⟨_, _, _, _, _, _, _, _, _, rfl, Same.refl _⟩ (fun _ σ H' _ ⟨_, _, _, _, _, _, _, _, _, _, sm⟩ => SqL.of (sm _ _ hB)) ?_ ?_⟩
   ·rintro _ x σ H3 hx ⟨x3, x4, x5, x6, x7, x8, x9, xA, xB, rfl, s3⟩
    obtain ⟨q, zs, rfl, hq, okz⟩ := (srcC x (List.mem_of_getElem? hx)).same (sB.trans s3)
    refine ⟨_, rfl, _, rfl, kl, _, rfl, SqL.of (s3 _ _ (sB _ _ hkC)), fun l5 g5 => ?_⟩
    rw [show cutV [V.ref p1, .ref p2, .ref p3, .ref p4] none (some 3) = [.ref p1, .ref p2, .ref p3] from rfl]
    have s5 := same_new g5 (.lst [.ref p1, .ref p2, .ref p3])
    have h5 : upd H3 l5 (.lst [.ref p1, .ref p2, .ref p3]) l5 = some (.lst [.ref p1, .ref p2, .ref p3]) := upd_same
    have hq5 := s5 _ _ hq
    generalize upd H3 l5 (.lst [.ref p1, .ref p2, .ref p3]) = H5 at s5 h5 hq5 ⊢
    have sC5 := (sB.trans s3).trans s5
    refine ⟨l5, rfl, ⟨_, SqL.of h5⟩, for_list (K := K) (a := l5) (xs := [.ref p1, .ref p2, .ref p3]) (fun _ σ H' => ∃ (x3 x4 x5 x6 x8 x9 xA xB : Option V), σ = [some (.ref a), some (.ref t₁), some (.ref kl), x3, x4, x5, x6, some (.ref q), x8, x9, xA, xB] /\ Same H5 H') ⟨_, _, _, _, _, _, _, _, rfl, Same.refl _⟩ (fun _ σ H' _ ⟨_, _, _, _, _, _, _, _, _, sm⟩ => SqL.of (sm _ _ h5)) ?_ ?_⟩
    ·rintro j x σ H6 hx ⟨x3, x4, x5, x6, x8, x9, xA, xB, rfl, s6⟩
     have j3 : j < 3 := (List.getElem?_eq_some_iff.mp hx).1
     obtain ⟨pj, ep, hpj⟩ := qC j j3
     rw [ep] at hx
     cases hx
     have hpj6 := Tst.same (K := K) (sC5.trans s6) _ _ hpj
     have hq6 := s6 _ _ hq5
     refine ⟨pj, _, rfl, hpj6, rfl, _, _, rfl, _, _, rfl, rfl, ?_⟩
     refine ⟨_, rfl, _, rfl, j, .ref q, zs, by omega, rfl, (by unfold ArgV; rw [if_pos j3]; exact ⟨q, rfl, hq6⟩), okz, fun th e lt v H7 s7 tv hlt => ?_, fun lt H7 s7 hlt => ?_⟩
     ·obtain ⟨tok, tl⟩ := readM_some e okz
      have shows := th_shows tok
      have hq7 := s7 _ _ hq6
      refine ⟨lt, rfl, ⟨_, SqL.of hlt⟩, for_list (K := K) (a := lt) (xs := [v]) (fun _ σ H' => ∃ (x3 x4 x5 x6 xA xB : Option V), σ = [some (.ref a), some (.ref t₁), some (.ref kl), x3, x4, x5, x6, some (.ref q), some (.ref (aR t j)), some (.ref (aW t j)), xA, xB] /\ Same H7 H') ⟨_, _, _, _, _, _, rfl, Same.refl _⟩ (fun _ σ H' _ ⟨_, _, _, _, _, _, _, sm⟩ => SqL.of (sm _ _ hlt)) ?_ ?_⟩
      ·rintro i0 x σ H8 hx ⟨x3, x4, x5, x6, xA, xB, rfl, s8⟩
       have i00 : i0 = 0 := by have := (List.getElem?_eq_some_iff.mp hx).1; have e1 : [v].length = 1 := rfl; omega
       subst i00
       cases hx
       have tv8 := tv.mono (Tst.same s8)
       refine ⟨_, rfl, _, _, _, rfl, ⟨j, j3, rfl, rfl, rfl⟩, _, rfl, v, th, zs, rfl, tv8, okz, e, fun lw H9 s9 hw => ?_⟩
       have hq9 := s9 _ _ (s8 _ _ hq7)
       refine ⟨_, rfl, .list (zs.map PyData.str), .list (zs.map PyData.str), .lst (SqL.of hw) (deep_strs zs), .lst (SqL.of hq9) (deep_strs zs), lays_str fun x hx => (okz.2 x hx).asc.lay, lays_str fun x hx => (okz.2 x hx).asc.lay, (by show PyData.depthAll (zs.map PyData.str) + 1 ≤ _; rw [dep_strs]; decide), _, rfl, iteB0 (by rw [eqv_ls]; rfl) ?_⟩
       refine ⟨_, rfl, _, _, _, rfl, ⟨j, by omega, rfl, rfl, rfl⟩, ?_⟩
       refine ⟨_, rfl, _, _, _, rfl, ⟨j, j3, rfl, rfl, rfl⟩, _, rfl, v, th, zs, rfl, tv8.mono (Tst.same s9), okz, e, fun lw2 HX sX hw2 => ?_⟩
       refine ⟨.ref lw2, zs, rfl, (by unfold ArgV; rw [if_pos j3]; exact ⟨lw2, rfl, hw2⟩), okz, fun th' e' u HY sY tu => ?_, fun en => by rw [e] at en; cases en⟩
       rw [e] at e'
       cases e'
       refine ⟨u, thD th, rfl, tu.deep, shows, ?_⟩
       refine ⟨_, rfl, v, thD th, rfl, (tv8.mono (Tst.same ((s9.trans sX).trans sY))).deep, shows, rfl, _, rfl, iteNS rfl ?_⟩
       exact ⟨_, _, _, _, _, _, rfl, ((s8.trans s9).trans sX).trans sY⟩
      ·rintro σ H8 ⟨x3, x4, x5, x6, xA, xB, rfl, s8⟩
       exact ⟨_, _, _, _, _, _, _, _, rfl, (s6.trans s7).trans s8⟩
     ·refine ⟨lt, rfl, ⟨_, SqL.of hlt⟩, for_list (K := K) (a := lt) (xs := []) (fun _ σ H' => ∃ (x3 x4 x5 x6 xA xB : Option V), σ = [some (.ref a), some (.ref t₁), some (.ref kl), x3, x4, x5, x6, some (.ref q), some (.ref (aR t j)), some (.ref (aW t j)), xA, xB] /\ Same H7 H') ⟨_, _, _, _, _, _, rfl, Same.refl _⟩ (fun _ σ H' _ ⟨_, _, _, _, _, _, _, sm⟩ => SqL.of (sm _ _ hlt)) ?_ ?_⟩
      ·rintro i0 x σ H8 hx
       cases hx
      ·rintro σ H8 ⟨x3, x4, x5, x6, xA, xB, rfl, s8⟩
       exact ⟨_, _, _, _, _, _, _, _, rfl, (s6.trans s7).trans s8⟩
    ·rintro σ H6 ⟨x3, x4, x5, x6, x8, x9, xA, xB, rfl, s6⟩
     exact ⟨_, _, _, _, _, _, _, _, _, rfl, (s3.trans s5).trans s6⟩
   ·rintro σ H3 ⟨x3, x4, x5, x6, x7, x8, x9, xA, xB, rfl, s3⟩
    have T3' := (e3.same sB).same s3
    have hk3 := s3 _ _ (sB _ _ hkC)
    have t23 := t2C.trans ((Tst.same (K := K) sB).trans (Tst.same s3))
    have q1' := t23 _ _ q1
    have q2' := t23 _ _ q2
    have q3' := t23 _ _ q3
    refine ⟨4, rfl, by decide, by decide, fun D2 hD2 => comp_rng (K := K) (P := fun _ v (x : Str) => v = .str x) (Ok := Lx) (n := 4) (fun _ _ _ _ _ z => z) hD2 T3' (by decide) (fun i H' hi T' Rk E kR => ?_) fun H7 zs ds S7 T7 hz al len okd => ?_⟩
    ·refine ⟨Ext.set rfl, _, rfl, _, rfl, t₁, s₀, rfl, T', fun v r Ha rg Sa Ta rv => ?_⟩
     refine ⟨v, r, rfl, rv, rg.nb1, rg.nb2, t₁, s₀, ratT r, rfl, Ta, lo_rat rg, fun y Hb ly Sb Tb => ?_⟩
     exact kR _ y _ (Sa.trans Sb) Tb rfl ly
    have hk7 := S7.keep _ _ nk hk3
    have t7 := Tst.step (K := K) S7
    refine ⟨D2, rfl, ⟨_, SqL.of hz⟩, for_list (K := K) (a := D2) (xs := zs) (fun _ σ H' => ∃ (x3 x4 x5 x6 x7 x8 x9 xA xB : Option V), σ = [some (.ref a), some (.ref t₁), some (.ref kl), x3, x4, x5, x6, x7, x8, x9, xA, xB] /\ Same H7 H') ⟨_, _, _, _, _, _, _, _, _, rfl, Same.refl _⟩ (fun _ σ H' _ ⟨_, _, _, _, _, _, _, _, _, _, sm⟩ => SqL.of (sm _ _ hz)) ?_ ?_⟩
    ·rintro _ x σ H8 hx ⟨x3, x4, x5, x6, x7, x8, x9, xA, xB, rfl, s8⟩
     obtain ⟨d, hd, rfl⟩ := al.at hx
     have lxd := okd d (List.mem_of_getElem? hd)
     have okz := ls_one lxd
     refine ⟨_, rfl, 3, .str d, [d], by decide, rfl, ⟨d, rfl, rfl⟩, okz, fun th e lt v H9 s9 tv hlt => ?_, fun lt H9 s9 hlt => ?_⟩
     ·obtain ⟨tok, tl⟩ := readM_some e okz
      have e' : (sratM d).map Th.ra = some th := e
      cases hr_ : sratM d with
      | none => rw [hr_] at e'; cases e'
      | some r =>
       rw [hr_] at e'
       cases e'
       have shows := th_shows tok
       have et : ratT r = d := (List.cons.inj tl).1
       refine ⟨lt, rfl, ⟨_, SqL.of hlt⟩, for_list (K := K) (a := lt) (xs := [v]) (fun _ σ H' => ∃ (x3 x4 x5 x6 x7 x8 x9 xA : Option V), σ = [some (.ref a), some (.ref t₁), some (.ref kl), x3, x4, x5, x6, x7, x8, x9, xA, some (.str d)] /\ Same H9 H') ⟨_, _, _, _, _, _, _, _, rfl, Same.refl _⟩ (fun _ σ H' _ ⟨_, _, _, _, _, _, _, _, _, sm⟩ => SqL.of (sm _ _ hlt)) ?_ ?_⟩
       ·rintro i0 x σ HX hx ⟨x3, x4, x5, x6, x7, x8, x9, xA, rfl, sX⟩
        have i00 : i0 = 0 := by have := (List.getElem?_eq_some_iff.mp hx).1; have e1 : [v].length = 1 := rfl; omega
        subst i00
        cases hx
        have tvX : RV K HX v r := RV.mono tv (Tst.same (K := K) sX)
        refine ⟨_, rfl, v, r, rfl, tvX, tok.1, tok.2, fun HY sY => ?_⟩
        refine ⟨_, rfl, rfl, _, rfl, iteNS (by rw [et]) ?_⟩
        refine ⟨_, rfl, v, r, rfl, tvX.mono (Tst.same sY), tok.1, tok.2, fun HZ sZ => ?_⟩
        refine ⟨ratT r, rfl, (by rw [et]; exact lxd.wx), fun r' er u HW sW ru => ?_, fun n hn => by rw [et, hr_] at hn; cases hn.2⟩
        rw [et, hr_] at er
        cases er
        refine ⟨u, dR r, rfl, ru.deep, shows, ?_⟩
        refine ⟨_, rfl, v, dR r, rfl, (tvX.mono (Tst.same ((sY.trans sZ).trans sW))).deep, shows, rfl, _, rfl, iteNS rfl ?_⟩
        exact ⟨_, _, _, _, _, _, _, _, rfl, ((sX.trans sY).trans sZ).trans sW⟩
       ·rintro σ HX ⟨x3, x4, x5, x6, x7, x8, x9, xA, rfl, sX⟩
        exact ⟨_, _, _, _, _, _, _, _, _, rfl, (s8.trans s9).trans sX⟩
     ·refine ⟨lt, rfl, ⟨_, SqL.of hlt⟩, for_list (K := K) (a := lt) (xs := []) (fun _ σ H' => ∃ (x3 x4 x5 x6 x7 x8 x9 xA xB : Option V), σ = [some (.ref a), some (.ref t₁), some (.ref kl), x3, x4, x5, x6, x7, x8, x9, xA, xB] /\ Same H9 H') ⟨_, _, _, _, _, _, _, _, _, rfl, Same.refl _⟩ (fun _ σ H' _ ⟨_, _, _, _, _, _, _, _, _, _, sm⟩ => SqL.of (sm _ _ hlt)) ?_ ?_⟩
      ·rintro i0 x σ HX hx
       cases hx
      ·rintro σ HX ⟨x3, x4, x5, x6, x7, x8, x9, xA, xB, rfl, sX⟩
       exact ⟨_, _, _, _, _, _, _, _, _, rfl, (s8.trans s9).trans sX⟩
    ·rintro σ H8 ⟨x3, x4, x5, x6, x7, x8, x9, xA, xB, rfl, s8⟩
     have t78 := t7.trans (Tst.same (K := K) s8)
     exact ⟨_, _, _, _, _, _, _, _, _, rfl, T7.same s8, s8 _ _ hk7, t78 _ _ q1', t78 _ _ q2', t78 _ _ q3'⟩
  ·rintro i ys H' x H'' hi ⟨e1, e2, e3, e4, e5⟩ ⟨eH, hy⟩ Rk E kR kE
   subst eH
   obtain ⟨q, zs, rfl, nq, hq, lo, l100⟩ := src x (List.mem_of_getElem? (hy _ (SqL.of (e2 _ _ nL3 hL3))))
   refine ⟨Ext.set rfl, _, rfl, _, rfl, t₁, s₀, q, zs, rfl, e3, nq, e2 _ _ nq hq, lo, l100, fun q' us HB fr SB TB nq' hq' okq => ?_⟩
   have hDB := SB.keep _ _ nD e4
   have nqD : q' ≠ D := fun z => by subst z; rw [e4] at fr; cases fr
   refine kR _ _ hDB (small1000 (by omega)) ⟨by rw [List.length_append, e1]; rfl, fun b o nb e => ?_, TB.upl nD nDs _, upd_same, fun y hy => ?_⟩
   ·rw [upd_ne (ne_of_none e hD)]
    exact SB.keep b o nb (e2 b o nb e)
   ·rcases List.mem_append.mp hy with z | z
    ·obtain ⟨q0, z0, rfl, n0, n0', h0, o0⟩ := e5 y z
     exact ⟨q0, z0, rfl, n0, n0', by rw [upd_ne n0]; exact SB.keep _ _ n0' h0, o0⟩
    ·rw [List.mem_singleton.mp z]
     exact ⟨q', us, rfl, nqD, nq', by rw [upd_ne nqD]; exact hq', okq⟩
 ·rintro σ H2 ⟨x3, x4, x5, x6, x7, x8, x9, xA, xB, rfl, T2, _⟩
  exact k H2
end
set_option autoImplicit true in
set_option relaxedAutoImplicit true in
open PySem.W in
theorem all_mk {l : OpenLaw} {w : World} {K : Frag} {h : Heap} {mg : Str -> Option Value} {fa : Addr} (X : K.In h) (G : h.Ns mainGlobals mg) (hfa : mg "law" = some (.ref fa))
  (p_Q29 : nsIn K mainGlobals "is_whole" = some (some (.ref f_Q29))) (l_Q29 : K.lookup f_Q29 = some ⟨oc_Q29, od_Q29, .func (fnOf "is_whole" "is_whole" (defArgs s_Q29) (defBody s_Q29) (defScope s_Q29) .none kV_Q29 dc_Q29 pm_Q29 an_Q29 cd_Q29 ct_Q29), sl_Q29⟩) (c_Q29 : codeIn K cd_Q29 "is_whole" = true) (k_Q29 : keepIn K (.ref f_Q29) = true)
  (p_Q13 : nsIn K mainGlobals "is_tuple_of" = some (some (.ref f_Q13))) (l_Q13 : K.lookup f_Q13 = some ⟨oc_Q13, od_Q13, .func (fnOf "is_tuple_of" "is_tuple_of" (defArgs s_Q13) (defBody s_Q13) (defScope s_Q13) .none kV_Q13 dc_Q13 pm_Q13 an_Q13 cd_Q13 ct_Q13), sl_Q13⟩) (c_Q13 : codeIn K cd_Q13 "is_tuple_of" = true) (k_Q13 : keepIn K (.ref f_Q13) = true)
  (p_Q42 : nsIn K mainGlobals "copied" = some (some (.ref f_Q42))) (l_Q42 : K.lookup f_Q42 = some ⟨oc_Q42, od_Q42, .func (fnOf "copied" "copied" (defArgs s_Q42) (defBody s_Q42) (defScope s_Q42) .none kV_Q42 dc_Q42 pm_Q42 an_Q42 cd_Q42 ct_Q42), sl_Q42⟩) (c_Q42 : codeIn K cd_Q42 "copied" = true) (k_Q42 : keepIn K (.ref f_Q42) = true)
  (p_Q0 : nsIn K mainGlobals "greatest_divisor" = some (some (.ref f_Q0))) (l_Q0 : K.lookup f_Q0 = some ⟨oc_Q0, od_Q0, .func (fnOf "greatest_divisor" "greatest_divisor" (defArgs s_Q0) (defBody s_Q0) (defScope s_Q0) .none kV_Q0 dc_Q0 pm_Q0 an_Q0 cd_Q0 ct_Q0), sl_Q0⟩) (c_Q0 : codeIn K cd_Q0 "greatest_divisor" = true) (k_Q0 : keepIn K (.ref f_Q0) = true)
  (p_Q30 : nsIn K mainGlobals "is_ratio" = some (some (.ref f_Q30))) (l_Q30 : K.lookup f_Q30 = some ⟨oc_Q30, od_Q30, .func (fnOf "is_ratio" "is_ratio" (defArgs s_Q30) (defBody s_Q30) (defScope s_Q30) .none kV_Q30 dc_Q30 pm_Q30 an_Q30 cd_Q30 ct_Q30), sl_Q30⟩) (c_Q30 : codeIn K cd_Q30 "is_ratio" = true) (k_Q30 : keepIn K (.ref f_Q30) = true)
  (p_Q21 : nsIn K mainGlobals "number_of" = some (some (.ref f_Q21))) (l_Q21 : K.lookup f_Q21 = some ⟨oc_Q21, od_Q21, .func (fnOf "number_of" "number_of" (defArgs s_Q21) (defBody s_Q21) (defScope s_Q21) .none kV_Q21 dc_Q21 pm_Q21 an_Q21 cd_Q21 ct_Q21), sl_Q21⟩) (c_Q21 : codeIn K cd_Q21 "number_of" = true) (k_Q21 : keepIn K (.ref f_Q21) = true)
  (p_Q31 : nsIn K mainGlobals "ratio_of" = some (some (.ref f_Q31))) (l_Q31 : K.lookup f_Q31 = some ⟨oc_Q31, od_Q31, .func (fnOf "ratio_of" "ratio_of" (defArgs s_Q31) (defBody s_Q31) (defScope s_Q31) .none kV_Q31 dc_Q31 pm_Q31 an_Q31 cd_Q31 ct_Q31), sl_Q31⟩) (c_Q31 : codeIn K cd_Q31 "ratio_of" = true) (k_Q31 : keepIn K (.ref f_Q31) = true)
  (p_Q7 : nsIn K mainGlobals "whole_or_none" = some (some (.ref f_Q7))) (l_Q7 : K.lookup f_Q7 = some ⟨oc_Q7, od_Q7, .func (fnOf "whole_or_none" "whole_or_none" (defArgs s_Q7) (defBody s_Q7) (defScope s_Q7) .none kV_Q7 dc_Q7 pm_Q7 an_Q7 cd_Q7 ct_Q7), sl_Q7⟩) (c_Q7 : codeIn K cd_Q7 "whole_or_none" = true) (k_Q7 : keepIn K (.ref f_Q7) = true)
  (p_Q38 : nsIn K mainGlobals "work_of" = some (some (.ref f_Q38))) (l_Q38 : K.lookup f_Q38 = some ⟨oc_Q38, od_Q38, .func (fnOf "work_of" "work_of" (defArgs s_Q38) (defBody s_Q38) (defScope s_Q38) .none kV_Q38 dc_Q38 pm_Q38 an_Q38 cd_Q38 ct_Q38), sl_Q38⟩) (c_Q38 : codeIn K cd_Q38 "work_of" = true) (k_Q38 : keepIn K (.ref f_Q38) = true)
  (p_Q39 : nsIn K mainGlobals "lean_of" = some (some (.ref f_Q39))) (l_Q39 : K.lookup f_Q39 = some ⟨oc_Q39, od_Q39, .func (fnOf "lean_of" "lean_of" (defArgs s_Q39) (defBody s_Q39) (defScope s_Q39) .none kV_Q39 dc_Q39 pm_Q39 an_Q39 cd_Q39 ct_Q39), sl_Q39⟩) (c_Q39 : codeIn K cd_Q39 "lean_of" = true) (k_Q39 : keepIn K (.ref f_Q39) = true)
  (p_Q32 : nsIn K mainGlobals "piece_of" = some (some (.ref f_Q32))) (l_Q32 : K.lookup f_Q32 = some ⟨oc_Q32, od_Q32, .func (fnOf "piece_of" "piece_of" (defArgs s_Q32) (defBody s_Q32) (defScope s_Q32) .none kV_Q32 dc_Q32 pm_Q32 an_Q32 cd_Q32 ct_Q32), sl_Q32⟩) (c_Q32 : codeIn K cd_Q32 "piece_of" = true) (k_Q32 : keepIn K (.ref f_Q32) = true)
  (p_Q43 : nsIn K mainGlobals "row_of" = some (some (.ref f_Q43))) (l_Q43 : K.lookup f_Q43 = some ⟨oc_Q43, od_Q43, .func (fnOf "row_of" "row_of" (defArgs s_Q43) (defBody s_Q43) (defScope s_Q43) .none kV_Q43 dc_Q43 pm_Q43 an_Q43 cd_Q43 ct_Q43), sl_Q43⟩) (c_Q43 : codeIn K cd_Q43 "row_of" = true) (k_Q43 : keepIn K (.ref f_Q43) = true)
  (p_Q22 : nsIn K mainGlobals "pieces_of" = some (some (.ref f_Q22))) (l_Q22 : K.lookup f_Q22 = some ⟨oc_Q22, od_Q22, .func (fnOf "pieces_of" "pieces_of" (defArgs s_Q22) (defBody s_Q22) (defScope s_Q22) .none kV_Q22 dc_Q22 pm_Q22 an_Q22 cd_Q22 ct_Q22), sl_Q22⟩) (c_Q22 : codeIn K cd_Q22 "pieces_of" = true) (k_Q22 : keepIn K (.ref f_Q22) = true)
  (p_Q40 : nsIn K mainGlobals "rule_of" = some (some (.ref f_Q40))) (l_Q40 : K.lookup f_Q40 = some ⟨oc_Q40, od_Q40, .func (fnOf "rule_of" "rule_of" (defArgs s_Q40) (defBody s_Q40) (defScope s_Q40) .none kV_Q40 dc_Q40 pm_Q40 an_Q40 cd_Q40 ct_Q40), sl_Q40⟩) (c_Q40 : codeIn K cd_Q40 "rule_of" = true) (k_Q40 : keepIn K (.ref f_Q40) = true)
  (p_Q16 : nsIn K mainGlobals "read_ratio" = some (some (.ref f_Q16))) (l_Q16 : K.lookup f_Q16 = some ⟨oc_Q16, od_Q16, .func (fnOf "read_ratio" "read_ratio" (defArgs s_Q16) (defBody s_Q16) (defScope s_Q16) .none kV_Q16 dc_Q16 pm_Q16 an_Q16 cd_Q16 ct_Q16), sl_Q16⟩) (c_Q16 : codeIn K cd_Q16 "read_ratio" = true) (k_Q16 : keepIn K (.ref f_Q16) = true)
  (p_Q17 : nsIn K mainGlobals "read_sheet" = some (some (.ref f_Q17))) (l_Q17 : K.lookup f_Q17 = some ⟨oc_Q17, od_Q17, .func (fnOf "read_sheet" "read_sheet" (defArgs s_Q17) (defBody s_Q17) (defScope s_Q17) .none kV_Q17 dc_Q17 pm_Q17 an_Q17 cd_Q17 ct_Q17), sl_Q17⟩) (c_Q17 : codeIn K cd_Q17 "read_sheet" = true) (k_Q17 : keepIn K (.ref f_Q17) = true)
  (p_Q23 : nsIn K mainGlobals "read_plan" = some (some (.ref f_Q23))) (l_Q23 : K.lookup f_Q23 = some ⟨oc_Q23, od_Q23, .func (fnOf "read_plan" "read_plan" (defArgs s_Q23) (defBody s_Q23) (defScope s_Q23) .none kV_Q23 dc_Q23 pm_Q23 an_Q23 cd_Q23 ct_Q23), sl_Q23⟩) (c_Q23 : codeIn K cd_Q23 "read_plan" = true) (k_Q23 : keepIn K (.ref f_Q23) = true)
  (p_Q24 : nsIn K mainGlobals "read_rule" = some (some (.ref f_Q24))) (l_Q24 : K.lookup f_Q24 = some ⟨oc_Q24, od_Q24, .func (fnOf "read_rule" "read_rule" (defArgs s_Q24) (defBody s_Q24) (defScope s_Q24) .none kV_Q24 dc_Q24 pm_Q24 an_Q24 cd_Q24 ct_Q24), sl_Q24⟩) (c_Q24 : codeIn K cd_Q24 "read_rule" = true) (k_Q24 : keepIn K (.ref f_Q24) = true)
  (p_Q14 : nsIn K mainGlobals "number_text" = some (some (.ref f_Q14))) (l_Q14 : K.lookup f_Q14 = some ⟨oc_Q14, od_Q14, .func (fnOf "number_text" "number_text" (defArgs s_Q14) (defBody s_Q14) (defScope s_Q14) .none kV_Q14 dc_Q14 pm_Q14 an_Q14 cd_Q14 ct_Q14), sl_Q14⟩) (c_Q14 : codeIn K cd_Q14 "number_text" = true) (k_Q14 : keepIn K (.ref f_Q14) = true)
  (p_Q18 : nsIn K mainGlobals "ratio_text" = some (some (.ref f_Q18))) (l_Q18 : K.lookup f_Q18 = some ⟨oc_Q18, od_Q18, .func (fnOf "ratio_text" "ratio_text" (defArgs s_Q18) (defBody s_Q18) (defScope s_Q18) .none kV_Q18 dc_Q18 pm_Q18 an_Q18 cd_Q18 ct_Q18), sl_Q18⟩) (c_Q18 : codeIn K cd_Q18 "ratio_text" = true) (k_Q18 : keepIn K (.ref f_Q18) = true)
  (p_Q25 : nsIn K mainGlobals "work_text" = some (some (.ref f_Q25))) (l_Q25 : K.lookup f_Q25 = some ⟨oc_Q25, od_Q25, .func (fnOf "work_text" "work_text" (defArgs s_Q25) (defBody s_Q25) (defScope s_Q25) .none kV_Q25 dc_Q25 pm_Q25 an_Q25 cd_Q25 ct_Q25), sl_Q25⟩) (c_Q25 : codeIn K cd_Q25 "work_text" = true) (k_Q25 : keepIn K (.ref f_Q25) = true)
  (p_Q26 : nsIn K mainGlobals "lean_text" = some (some (.ref f_Q26))) (l_Q26 : K.lookup f_Q26 = some ⟨oc_Q26, od_Q26, .func (fnOf "lean_text" "lean_text" (defArgs s_Q26) (defBody s_Q26) (defScope s_Q26) .none kV_Q26 dc_Q26 pm_Q26 an_Q26 cd_Q26 ct_Q26), sl_Q26⟩) (c_Q26 : codeIn K cd_Q26 "lean_text" = true) (k_Q26 : keepIn K (.ref f_Q26) = true)
  (p_Q15 : nsIn K mainGlobals "sheet_lines" = some (some (.ref f_Q15))) (l_Q15 : K.lookup f_Q15 = some ⟨oc_Q15, od_Q15, .func (fnOf "sheet_lines" "sheet_lines" (defArgs s_Q15) (defBody s_Q15) (defScope s_Q15) .none kV_Q15 dc_Q15 pm_Q15 an_Q15 cd_Q15 ct_Q15), sl_Q15⟩) (c_Q15 : codeIn K cd_Q15 "sheet_lines" = true) (k_Q15 : keepIn K (.ref f_Q15) = true)
  (p_Q19 : nsIn K mainGlobals "piece_text" = some (some (.ref f_Q19))) (l_Q19 : K.lookup f_Q19 = some ⟨oc_Q19, od_Q19, .func (fnOf "piece_text" "piece_text" (defArgs s_Q19) (defBody s_Q19) (defScope s_Q19) .none kV_Q19 dc_Q19 pm_Q19 an_Q19 cd_Q19 ct_Q19), sl_Q19⟩) (c_Q19 : codeIn K cd_Q19 "piece_text" = true) (k_Q19 : keepIn K (.ref f_Q19) = true)
  (p_Q20 : nsIn K mainGlobals "plan_lines" = some (some (.ref f_Q20))) (l_Q20 : K.lookup f_Q20 = some ⟨oc_Q20, od_Q20, .func (fnOf "plan_lines" "plan_lines" (defArgs s_Q20) (defBody s_Q20) (defScope s_Q20) .none kV_Q20 dc_Q20 pm_Q20 an_Q20 cd_Q20 ct_Q20), sl_Q20⟩) (c_Q20 : codeIn K cd_Q20 "plan_lines" = true) (k_Q20 : keepIn K (.ref f_Q20) = true)
  (p_Q33 : nsIn K mainGlobals "row_text" = some (some (.ref f_Q33))) (l_Q33 : K.lookup f_Q33 = some ⟨oc_Q33, od_Q33, .func (fnOf "row_text" "row_text" (defArgs s_Q33) (defBody s_Q33) (defScope s_Q33) .none kV_Q33 dc_Q33 pm_Q33 an_Q33 cd_Q33 ct_Q33), sl_Q33⟩) (c_Q33 : codeIn K cd_Q33 "row_text" = true) (k_Q33 : keepIn K (.ref f_Q33) = true)
  (p_Q27 : nsIn K mainGlobals "rule_text" = some (some (.ref f_Q27))) (l_Q27 : K.lookup f_Q27 = some ⟨oc_Q27, od_Q27, .func (fnOf "rule_text" "rule_text" (defArgs s_Q27) (defBody s_Q27) (defScope s_Q27) .none kV_Q27 dc_Q27 pm_Q27 an_Q27 cd_Q27 ct_Q27), sl_Q27⟩) (c_Q27 : codeIn K cd_Q27 "rule_text" = true) (k_Q27 : keepIn K (.ref f_Q27) = true)
  (p_Q34 : nsIn K mainGlobals "_law_tape" = some (some (.ref f_Q34))) (l_Q34 : K.lookup f_Q34 = some ⟨oc_Q34, od_Q34, .func (fnOf "_law_tape" "_law_tape" (defArgs s_Q34) (defBody s_Q34) (defScope s_Q34) .none kV_Q34 dc_Q34 pm_Q34 an_Q34 cd_Q34 ct_Q34), sl_Q34⟩) (c_Q34 : codeIn K cd_Q34 "_law_tape" = true) (k_Q34 : keepIn K (.ref f_Q34) = true)
  (p_Q35 : nsIn K mainGlobals "_law_draw" = some (some (.ref f_Q35))) (l_Q35 : K.lookup f_Q35 = some ⟨oc_Q35, od_Q35, .func (fnOf "_law_draw" "_law_draw" (defArgs s_Q35) (defBody s_Q35) (defScope s_Q35) .none kV_Q35 dc_Q35 pm_Q35 an_Q35 cd_Q35 ct_Q35), sl_Q35⟩) (c_Q35 : codeIn K cd_Q35 "_law_draw" = true) (k_Q35 : keepIn K (.ref f_Q35) = true)
  (p_Q41 : nsIn K mainGlobals "_law_gcd" = some (some (.ref f_Q41))) (l_Q41 : K.lookup f_Q41 = some ⟨oc_Q41, od_Q41, .func (fnOf "_law_gcd" "_law_gcd" (defArgs s_Q41) (defBody s_Q41) (defScope s_Q41) .none kV_Q41 dc_Q41 pm_Q41 an_Q41 cd_Q41 ct_Q41), sl_Q41⟩) (c_Q41 : codeIn K cd_Q41 "_law_gcd" = true) (k_Q41 : keepIn K (.ref f_Q41) = true)
  (p_Q28 : nsIn K mainGlobals "_law_ratio" = some (some (.ref f_Q28))) (l_Q28 : K.lookup f_Q28 = some ⟨oc_Q28, od_Q28, .func (fnOf "_law_ratio" "_law_ratio" (defArgs s_Q28) (defBody s_Q28) (defScope s_Q28) .none kV_Q28 dc_Q28 pm_Q28 an_Q28 cd_Q28 ct_Q28), sl_Q28⟩) (c_Q28 : codeIn K cd_Q28 "_law_ratio" = true) (k_Q28 : keepIn K (.ref f_Q28) = true)
  (p_Q3 : nsIn K mainGlobals "_law_ratio_text" = some (some (.ref f_Q3))) (l_Q3 : K.lookup f_Q3 = some ⟨oc_Q3, od_Q3, .func (fnOf "_law_ratio_text" "_law_ratio_text" (defArgs s_Q3) (defBody s_Q3) (defScope s_Q3) .none kV_Q3 dc_Q3 pm_Q3 an_Q3 cd_Q3 ct_Q3), sl_Q3⟩) (c_Q3 : codeIn K cd_Q3 "_law_ratio_text" = true) (k_Q3 : keepIn K (.ref f_Q3) = true)
  (p_Q1 : nsIn K mainGlobals "_law_sheet_lines" = some (some (.ref f_Q1))) (l_Q1 : K.lookup f_Q1 = some ⟨oc_Q1, od_Q1, .func (fnOf "_law_sheet_lines" "_law_sheet_lines" (defArgs s_Q1) (defBody s_Q1) (defScope s_Q1) .none kV_Q1 dc_Q1 pm_Q1 an_Q1 cd_Q1 ct_Q1), sl_Q1⟩) (c_Q1 : codeIn K cd_Q1 "_law_sheet_lines" = true) (k_Q1 : keepIn K (.ref f_Q1) = true)
  (p_Q8 : nsIn K mainGlobals "_law_rule_line" = some (some (.ref f_Q8))) (l_Q8 : K.lookup f_Q8 = some ⟨oc_Q8, od_Q8, .func (fnOf "_law_rule_line" "_law_rule_line" (defArgs s_Q8) (defBody s_Q8) (defScope s_Q8) .none kV_Q8 dc_Q8 pm_Q8 an_Q8 cd_Q8 ct_Q8), sl_Q8⟩) (c_Q8 : codeIn K cd_Q8 "_law_rule_line" = true) (k_Q8 : keepIn K (.ref f_Q8) = true)
  (p_Q4 : nsIn K mainGlobals "_law_plan_lines" = some (some (.ref f_Q4))) (l_Q4 : K.lookup f_Q4 = some ⟨oc_Q4, od_Q4, .func (fnOf "_law_plan_lines" "_law_plan_lines" (defArgs s_Q4) (defBody s_Q4) (defScope s_Q4) .none kV_Q4 dc_Q4 pm_Q4 an_Q4 cd_Q4 ct_Q4), sl_Q4⟩) (c_Q4 : codeIn K cd_Q4 "_law_plan_lines" = true) (k_Q4 : keepIn K (.ref f_Q4) = true)
  (p_Q2 : nsIn K mainGlobals "_law_some_number" = some (some (.ref f_Q2))) (l_Q2 : K.lookup f_Q2 = some ⟨oc_Q2, od_Q2, .func (fnOf "_law_some_number" "_law_some_number" (defArgs s_Q2) (defBody s_Q2) (defScope s_Q2) .none kV_Q2 dc_Q2 pm_Q2 an_Q2 cd_Q2 ct_Q2), sl_Q2⟩) (c_Q2 : codeIn K cd_Q2 "_law_some_number" = true) (k_Q2 : keepIn K (.ref f_Q2) = true)
  (p_Q9 : nsIn K mainGlobals "_law_some_part" = some (some (.ref f_Q9))) (l_Q9 : K.lookup f_Q9 = some ⟨oc_Q9, od_Q9, .func (fnOf "_law_some_part" "_law_some_part" (defArgs s_Q9) (defBody s_Q9) (defScope s_Q9) .none kV_Q9 dc_Q9 pm_Q9 an_Q9 cd_Q9 ct_Q9), sl_Q9⟩) (c_Q9 : codeIn K cd_Q9 "_law_some_part" = true) (k_Q9 : keepIn K (.ref f_Q9) = true)
  (p_Q5 : nsIn K mainGlobals "_law_some_sheet" = some (some (.ref f_Q5))) (l_Q5 : K.lookup f_Q5 = some ⟨oc_Q5, od_Q5, .func (fnOf "_law_some_sheet" "_law_some_sheet" (defArgs s_Q5) (defBody s_Q5) (defScope s_Q5) .none kV_Q5 dc_Q5 pm_Q5 an_Q5 cd_Q5 ct_Q5), sl_Q5⟩) (c_Q5 : codeIn K cd_Q5 "_law_some_sheet" = true) (k_Q5 : keepIn K (.ref f_Q5) = true)
  (p_Q10 : nsIn K mainGlobals "_law_some_rule" = some (some (.ref f_Q10))) (l_Q10 : K.lookup f_Q10 = some ⟨oc_Q10, od_Q10, .func (fnOf "_law_some_rule" "_law_some_rule" (defArgs s_Q10) (defBody s_Q10) (defScope s_Q10) .none kV_Q10 dc_Q10 pm_Q10 an_Q10 cd_Q10 ct_Q10), sl_Q10⟩) (c_Q10 : codeIn K cd_Q10 "_law_some_rule" = true) (k_Q10 : keepIn K (.ref f_Q10) = true)
  (p_Q11 : nsIn K mainGlobals "_law_some_plan" = some (some (.ref f_Q11))) (l_Q11 : K.lookup f_Q11 = some ⟨oc_Q11, od_Q11, .func (fnOf "_law_some_plan" "_law_some_plan" (defArgs s_Q11) (defBody s_Q11) (defScope s_Q11) .none kV_Q11 dc_Q11 pm_Q11 an_Q11 cd_Q11 ct_Q11), sl_Q11⟩) (c_Q11 : codeIn K cd_Q11 "_law_some_plan" = true) (k_Q11 : keepIn K (.ref f_Q11) = true)
  (p_Q12 : nsIn K mainGlobals "_law_bent_line" = some (some (.ref f_Q12))) (l_Q12 : K.lookup f_Q12 = some ⟨oc_Q12, od_Q12, .func (fnOf "_law_bent_line" "_law_bent_line" (defArgs s_Q12) (defBody s_Q12) (defScope s_Q12) .none kV_Q12 dc_Q12 pm_Q12 an_Q12 cd_Q12 ct_Q12), sl_Q12⟩) (c_Q12 : codeIn K cd_Q12 "_law_bent_line" = true) (k_Q12 : keepIn K (.ref f_Q12) = true)
  (p_Q36 : nsIn K mainGlobals "_law_bent" = some (some (.ref f_Q36))) (l_Q36 : K.lookup f_Q36 = some ⟨oc_Q36, od_Q36, .func (fnOf "_law_bent" "_law_bent" (defArgs s_Q36) (defBody s_Q36) (defScope s_Q36) .none kV_Q36 dc_Q36 pm_Q36 an_Q36 cd_Q36 ct_Q36), sl_Q36⟩) (c_Q36 : codeIn K cd_Q36 "_law_bent" = true) (k_Q36 : keepIn K (.ref f_Q36) = true)
  (p_Q6 : nsIn K mainGlobals "_law_rule_lines" = some (some (.ref f_Q6))) (l_Q6 : K.lookup f_Q6 = some ⟨oc_Q6, od_Q6, .func (fnOf "_law_rule_lines" "_law_rule_lines" (defArgs s_Q6) (defBody s_Q6) (defScope s_Q6) .none kV_Q6 dc_Q6 pm_Q6 an_Q6 cd_Q6 ct_Q6), sl_Q6⟩) (c_Q6 : codeIn K cd_Q6 "_law_rule_lines" = true) (k_Q6 : keepIn K (.ref f_Q6) = true)
  (p_Q37 : nsIn K mainGlobals "_law_read" = some (some (.ref f_Q37))) (l_Q37 : K.lookup f_Q37 = some ⟨oc_Q37, od_Q37, .func (fnOf "_law_read" "_law_read" (defArgs s_Q37) (defBody s_Q37) (defScope s_Q37) .none kV_Q37 dc_Q37 pm_Q37 an_Q37 cd_Q37 ct_Q37), sl_Q37⟩) (c_Q37 : codeIn K cd_Q37 "_law_read" = true) (k_Q37 : keepIn K (.ref f_Q37) = true)
  {f_Q45 : Addr} {od_Q45 an_Q45 : Option Addr} {sl_Q45 : Array (Option Value)} {oc_Q45 kV_Q45 dc_Q45 pm_Q45 cd_Q45 ct_Q45 : Value}
  (p_Q45 : nsIn K mainGlobals "law" = some (some (.ref f_Q45))) (l_Q45 : K.lookup f_Q45 = some ⟨oc_Q45, od_Q45, .func (fnOf "law" "law" (defArgs s_Q45) (defBody s_Q45) (defScope s_Q45) .none kV_Q45 dc_Q45 pm_Q45 an_Q45 cd_Q45 ct_Q45), sl_Q45⟩) (c_Q45 : codeIn K cd_Q45 "law" = true) (k_Q45 : keepIn K (.ref f_Q45) = true)
  {f_NOUGHT : Addr} {od_NOUGHT : Option Addr} {sl_NOUGHT : Array (Option Value)} {tkNOUGHT0 tkNOUGHT1 : Tok} {n_NOUGHT : Nat} (p_NOUGHT : nsIn K mainGlobals "NOUGHT" = some (some (.ref f_NOUGHT))) (l_NOUGHT : K.lookup f_NOUGHT = some ⟨.type "tuple", od_NOUGHT, .seq #[.int (0) tkNOUGHT0, .int (1) tkNOUGHT1] n_NOUGHT, sl_NOUGHT⟩)
  {tkPOWER : Tok} (p_POWER : nsIn K mainGlobals "POWER" = some (some (.str "power" tkPOWER)))
  {tkTABLE : Tok} (p_TABLE : nsIn K mainGlobals "TABLE" = some (some (.str "table" tkTABLE)))
  {tkMOST_FIGURES : Tok} (p_MOST_FIGURES : nsIn K mainGlobals "MOST_FIGURES" = some (some (.int (40) tkMOST_FIGURES)))
  {cB NB : Addr} {nmB qB : Str} {bsB : List Value} {hdB : Bool} {snB : List Str} {suB : List Value} {abB : Bool} {coB : Option Bool} {ddB : Option Addr} {j0 j1 j2 j3 j5 : Option Value} {ocB : Value} {odB : Option Addr} {esB : Array DictEntry} {nB : Nat} {slB : Array (Option Value)}
  (pB : nsIn K mainGlobals "PaceError" = some (some (.ref cB))) (lB : K.lookup cB = some (excClassObj nmB qB cB NB bsB [.type "ValueError", .type "Exception", .type "BaseException", .type "object"] hdB snB suB abB coB ddB j0 j1 j2 j3 j5 "ValueError.__new__")) (lnB : K.lookup NB = some ⟨ocB, odB, .dict esB nB, slB⟩) (hsB : strKeysB esB = true) (hnB : (nsFind esB "__init__").isNone = true)
  (cgB : specialIn K (.builtin "object.__class__") "__get__" = some (some (.builtin "getset_descriptor.__get__"))) (ctB : takesIn K (.builtin "object.__class__") = some true)
  {c_Q44 N_Q44 i_Q44 : Addr} {nm_Q44 q_Q44 : Str} {bs_Q44 : List Value} {hd_Q44 : Bool} {sn_Q44 : List Str} {su_Q44 : List Value} {ab_Q44 : Bool} {co_Q44 : Option Bool} {dd_Q44 : Option Addr} {k0_Q44 k1_Q44 k2_Q44 k3_Q44 k5_Q44 : Option Value} {od_Q44 an_Q44 : Option Addr} {sl_Q44 : Array (Option Value)} {oc_Q44 kV_Q44 dc_Q44 pm_Q44 cd_Q44 ct_Q44 : Value}
  (p_Q44 : nsIn K mainGlobals "NoText" = some (some (.ref c_Q44))) (lc_Q44 : K.lookup c_Q44 = some (excClassObj nm_Q44 q_Q44 c_Q44 N_Q44 bs_Q44 (.ref cB :: [.type "ValueError", .type "Exception", .type "BaseException", .type "object"]) hd_Q44 sn_Q44 su_Q44 ab_Q44 co_Q44 dd_Q44 k0_Q44 k1_Q44 k2_Q44 k3_Q44 k5_Q44 "ValueError.__new__")) (fi_Q44 : findIn K (.ref c_Q44) "__init__" = some (some (.ref i_Q44)))
  (l_Q44 : K.lookup i_Q44 = some ⟨oc_Q44, od_Q44, .func (fnOf "__init__" "NoText.__init__" (defArgs s_Q44) (defBody s_Q44) (defScope s_Q44) .none kV_Q44 dc_Q44 pm_Q44 an_Q44 cd_Q44 ct_Q44), sl_Q44⟩) (cd_Q44_ : codeIn K cd_Q44 "NoText.__init__" = true) (ki_Q44 : keepIn K (.ref i_Q44) = true) (ti_Q44 : typeIn K (.ref i_Q44) = some (.type "function")) (kc_Q44 : keepIn K (.ref c_Q44) = true)
  (hh_Q44 : hasDictIn K c_Q44 = true) (sa_Q44 : findIn K (.ref c_Q44) "__setattr__" = some (some (.builtin "object.__setattr__")))
  (na_Q44_at : findIn K (.ref c_Q44) "at" = some none) (ga_Q44 : findIn K (.ref c_Q44) "__getattribute__" = some (some (.builtin "BaseException.__getattribute__"))) (gn_Q44 : findIn K (.ref c_Q44) "__getattr__" = some none) (cl_Q44 : findIn K (.ref c_Q44) "__class__" = some (some (.builtin "object.__class__")))
  (w_x_catch : exmOne K (.ref c_Q44) (.ref c_Q44) = some true)
  (z_abs : nsIn K mainGlobals "abs" = some none)
  (z_all : nsIn K mainGlobals "all" = some none)
  (z_bool : nsIn K mainGlobals "bool" = some none)
  (z_enumerate : nsIn K mainGlobals "enumerate" = some none)
  (z_int : nsIn K mainGlobals "int" = some none)
  (z_isinstance : nsIn K mainGlobals "isinstance" = some none)
  (z_len : nsIn K mainGlobals "len" = some none)
  (z_list : nsIn K mainGlobals "list" = some none)
  (z_range : nsIn K mainGlobals "range" = some none)
  (z_repr : nsIn K mainGlobals "repr" = some none)
  (z_reversed : nsIn K mainGlobals "reversed" = some none)
  (z_str : nsIn K mainGlobals "str" = some none)
  (z_tuple : nsIn K mainGlobals "tuple" = some none)
  : ∃ fd : FuncData, (∀ (s : Shared) (v : Value), BindsTo s fd ⟨[v], []⟩ [("_law_script", v)]) /\ ∀ base : Heap, K.In base -> base.Ns mainGlobals mg -> FnOk l.prog w K mg base CX0 14 fa fd ["_law_script"] (sp_law K) := by
 have e := hfa.symm.trans (mg_of X G p_Q45)
 cases e
 obtain ⟨d_Q29, F_Q29⟩ : ∃ d, Fun K "is_whole" "is_whole" s_Q29 f_Q29 d := ⟨_, fun_mk l_Q29 c_Q29 k_Q29⟩
 obtain ⟨d_Q13, F_Q13⟩ : ∃ d, Fun K "is_tuple_of" "is_tuple_of" s_Q13 f_Q13 d := ⟨_, fun_mk l_Q13 c_Q13 k_Q13⟩
 obtain ⟨d_Q42, F_Q42⟩ : ∃ d, Fun K "copied" "copied" s_Q42 f_Q42 d := ⟨_, fun_mk l_Q42 c_Q42 k_Q42⟩
 obtain ⟨d_Q0, F_Q0⟩ : ∃ d, Fun K "greatest_divisor" "greatest_divisor" s_Q0 f_Q0 d := ⟨_, fun_mk l_Q0 c_Q0 k_Q0⟩
 obtain ⟨d_Q30, F_Q30⟩ : ∃ d, Fun K "is_ratio" "is_ratio" s_Q30 f_Q30 d := ⟨_, fun_mk l_Q30 c_Q30 k_Q30⟩
 obtain ⟨d_Q21, F_Q21⟩ : ∃ d, Fun K "number_of" "number_of" s_Q21 f_Q21 d := ⟨_, fun_mk l_Q21 c_Q21 k_Q21⟩
 obtain ⟨d_Q31, F_Q31⟩ : ∃ d, Fun K "ratio_of" "ratio_of" s_Q31 f_Q31 d := ⟨_, fun_mk l_Q31 c_Q31 k_Q31⟩
 obtain ⟨d_Q7, F_Q7⟩ : ∃ d, Fun K "whole_or_none" "whole_or_none" s_Q7 f_Q7 d := ⟨_, fun_mk l_Q7 c_Q7 k_Q7⟩
 obtain ⟨d_Q38, F_Q38⟩ : ∃ d, Fun K "work_of" "work_of" s_Q38 f_Q38 d := ⟨_, fun_mk l_Q38 c_Q38 k_Q38⟩
 obtain ⟨d_Q39, F_Q39⟩ : ∃ d, Fun K "lean_of" "lean_of" s_Q39 f_Q39 d := ⟨_, fun_mk l_Q39 c_Q39 k_Q39⟩
 obtain ⟨d_Q32, F_Q32⟩ : ∃ d, Fun K "piece_of" "piece_of" s_Q32 f_Q32 d := ⟨_, fun_mk l_Q32 c_Q32 k_Q32⟩
 obtain ⟨d_Q43, F_Q43⟩ : ∃ d, Fun K "row_of" "row_of" s_Q43 f_Q43 d := ⟨_, fun_mk l_Q43 c_Q43 k_Q43⟩
 obtain ⟨d_Q22, F_Q22⟩ : ∃ d, Fun K "pieces_of" "pieces_of" s_Q22 f_Q22 d := ⟨_, fun_mk l_Q22 c_Q22 k_Q22⟩
 obtain ⟨d_Q40, F_Q40⟩ : ∃ d, Fun K "rule_of" "rule_of" s_Q40 f_Q40 d := ⟨_, fun_mk l_Q40 c_Q40 k_Q40⟩
 obtain ⟨d_Q16, F_Q16⟩ : ∃ d, Fun K "read_ratio" "read_ratio" s_Q16 f_Q16 d := ⟨_, fun_mk l_Q16 c_Q16 k_Q16⟩
 obtain ⟨d_Q17, F_Q17⟩ : ∃ d, Fun K "read_sheet" "read_sheet" s_Q17 f_Q17 d := ⟨_, fun_mk l_Q17 c_Q17 k_Q17⟩
 obtain ⟨d_Q23, F_Q23⟩ : ∃ d, Fun K "read_plan" "read_plan" s_Q23 f_Q23 d := ⟨_, fun_mk l_Q23 c_Q23 k_Q23⟩
 obtain ⟨d_Q24, F_Q24⟩ : ∃ d, Fun K "read_rule" "read_rule" s_Q24 f_Q24 d := ⟨_, fun_mk l_Q24 c_Q24 k_Q24⟩
 obtain ⟨d_Q14, F_Q14⟩ : ∃ d, Fun K "number_text" "number_text" s_Q14 f_Q14 d := ⟨_, fun_mk l_Q14 c_Q14 k_Q14⟩
 obtain ⟨d_Q18, F_Q18⟩ : ∃ d, Fun K "ratio_text" "ratio_text" s_Q18 f_Q18 d := ⟨_, fun_mk l_Q18 c_Q18 k_Q18⟩
 obtain ⟨d_Q25, F_Q25⟩ : ∃ d, Fun K "work_text" "work_text" s_Q25 f_Q25 d := ⟨_, fun_mk l_Q25 c_Q25 k_Q25⟩
 obtain ⟨d_Q26, F_Q26⟩ : ∃ d, Fun K "lean_text" "lean_text" s_Q26 f_Q26 d := ⟨_, fun_mk l_Q26 c_Q26 k_Q26⟩
 obtain ⟨d_Q15, F_Q15⟩ : ∃ d, Fun K "sheet_lines" "sheet_lines" s_Q15 f_Q15 d := ⟨_, fun_mk l_Q15 c_Q15 k_Q15⟩
 obtain ⟨d_Q19, F_Q19⟩ : ∃ d, Fun K "piece_text" "piece_text" s_Q19 f_Q19 d := ⟨_, fun_mk l_Q19 c_Q19 k_Q19⟩
 obtain ⟨d_Q20, F_Q20⟩ : ∃ d, Fun K "plan_lines" "plan_lines" s_Q20 f_Q20 d := ⟨_, fun_mk l_Q20 c_Q20 k_Q20⟩
 obtain ⟨d_Q33, F_Q33⟩ : ∃ d, Fun K "row_text" "row_text" s_Q33 f_Q33 d := ⟨_, fun_mk l_Q33 c_Q33 k_Q33⟩
 obtain ⟨d_Q27, F_Q27⟩ : ∃ d, Fun K "rule_text" "rule_text" s_Q27 f_Q27 d := ⟨_, fun_mk l_Q27 c_Q27 k_Q27⟩
 obtain ⟨d_Q34, F_Q34⟩ : ∃ d, Fun K "_law_tape" "_law_tape" s_Q34 f_Q34 d := ⟨_, fun_mk l_Q34 c_Q34 k_Q34⟩
 obtain ⟨d_Q35, F_Q35⟩ : ∃ d, Fun K "_law_draw" "_law_draw" s_Q35 f_Q35 d := ⟨_, fun_mk l_Q35 c_Q35 k_Q35⟩
 obtain ⟨d_Q41, F_Q41⟩ : ∃ d, Fun K "_law_gcd" "_law_gcd" s_Q41 f_Q41 d := ⟨_, fun_mk l_Q41 c_Q41 k_Q41⟩
 obtain ⟨d_Q28, F_Q28⟩ : ∃ d, Fun K "_law_ratio" "_law_ratio" s_Q28 f_Q28 d := ⟨_, fun_mk l_Q28 c_Q28 k_Q28⟩
 obtain ⟨d_Q3, F_Q3⟩ : ∃ d, Fun K "_law_ratio_text" "_law_ratio_text" s_Q3 f_Q3 d := ⟨_, fun_mk l_Q3 c_Q3 k_Q3⟩
 obtain ⟨d_Q1, F_Q1⟩ : ∃ d, Fun K "_law_sheet_lines" "_law_sheet_lines" s_Q1 f_Q1 d := ⟨_, fun_mk l_Q1 c_Q1 k_Q1⟩
 obtain ⟨d_Q8, F_Q8⟩ : ∃ d, Fun K "_law_rule_line" "_law_rule_line" s_Q8 f_Q8 d := ⟨_, fun_mk l_Q8 c_Q8 k_Q8⟩
 obtain ⟨d_Q4, F_Q4⟩ : ∃ d, Fun K "_law_plan_lines" "_law_plan_lines" s_Q4 f_Q4 d := ⟨_, fun_mk l_Q4 c_Q4 k_Q4⟩
 obtain ⟨d_Q2, F_Q2⟩ : ∃ d, Fun K "_law_some_number" "_law_some_number" s_Q2 f_Q2 d := ⟨_, fun_mk l_Q2 c_Q2 k_Q2⟩
 obtain ⟨d_Q9, F_Q9⟩ : ∃ d, Fun K "_law_some_part" "_law_some_part" s_Q9 f_Q9 d := ⟨_, fun_mk l_Q9 c_Q9 k_Q9⟩
 obtain ⟨d_Q5, F_Q5⟩ : ∃ d, Fun K "_law_some_sheet" "_law_some_sheet" s_Q5 f_Q5 d := ⟨_, fun_mk l_Q5 c_Q5 k_Q5⟩
 obtain ⟨d_Q10, F_Q10⟩ : ∃ d, Fun K "_law_some_rule" "_law_some_rule" s_Q10 f_Q10 d := ⟨_, fun_mk l_Q10 c_Q10 k_Q10⟩
 obtain ⟨d_Q11, F_Q11⟩ : ∃ d, Fun K "_law_some_plan" "_law_some_plan" s_Q11 f_Q11 d := ⟨_, fun_mk l_Q11 c_Q11 k_Q11⟩
 obtain ⟨d_Q12, F_Q12⟩ : ∃ d, Fun K "_law_bent_line" "_law_bent_line" s_Q12 f_Q12 d := ⟨_, fun_mk l_Q12 c_Q12 k_Q12⟩
 obtain ⟨d_Q36, F_Q36⟩ : ∃ d, Fun K "_law_bent" "_law_bent" s_Q36 f_Q36 d := ⟨_, fun_mk l_Q36 c_Q36 k_Q36⟩
 obtain ⟨d_Q6, F_Q6⟩ : ∃ d, Fun K "_law_rule_lines" "_law_rule_lines" s_Q6 f_Q6 d := ⟨_, fun_mk l_Q6 c_Q6 k_Q6⟩
 obtain ⟨d_Q37, F_Q37⟩ : ∃ d, Fun K "_law_read" "_law_read" s_Q37 f_Q37 d := ⟨_, fun_mk l_Q37 c_Q37 k_Q37⟩
 have F_Q45 := fun_mk (st := s_Q45) l_Q45 c_Q45 k_Q45
 have F_Q44 := fun_mk (st := s_Q44) l_Q44 cd_Q44_ ki_Q44
 have T : Txt K mg ⟨f_Q29, d_Q29, f_Q13, d_Q13, f_Q42, d_Q42, f_Q0, d_Q0, f_Q30, d_Q30, f_Q21, d_Q21, f_Q31, d_Q31, f_Q7, d_Q7, f_Q38, d_Q38, f_Q39, d_Q39, f_Q32, d_Q32, f_Q43, d_Q43, f_Q22, d_Q22, f_Q40, d_Q40, f_Q16, d_Q16, f_Q17, d_Q17, f_Q23, d_Q23, f_Q24, d_Q24, f_Q14, d_Q14, f_Q18, d_Q18, f_Q25, d_Q25, f_Q26, d_Q26, f_Q15, d_Q15, f_Q19, d_Q19, f_Q20, d_Q20, f_Q33, d_Q33, f_Q27, d_Q27, f_Q34, d_Q34, f_Q35, d_Q35, f_Q41, d_Q41, f_Q28, d_Q28, f_Q3, d_Q3, f_Q1, d_Q1, f_Q8, d_Q8, f_Q4, d_Q4, f_Q2, d_Q2, f_Q9, d_Q9, f_Q5, d_Q5, f_Q10, d_Q10, f_Q11, d_Q11, f_Q12, d_Q12, f_Q36, d_Q36, f_Q6, d_Q6, f_Q37, d_Q37, fa, fnOf "law" "law" (defArgs s_Q45) (defBody s_Q45) (defScope s_Q45) .none kV_Q45 dc_Q45 pm_Q45 an_Q45 cd_Q45 ct_Q45, f_NOUGHT, tkPOWER, tkTABLE, tkMOST_FIGURES, cB, c_Q44, i_Q44, fnOf "__init__" "NoText.__init__" (defArgs s_Q44) (defBody s_Q44) (defScope s_Q44) .none kV_Q44 dc_Q44 pm_Q44 an_Q44 cd_Q44 ct_Q44⟩ := {
  F_Q29 := F_Q29, b_Q29 := bdA F_Q29, m_Q29 := mg_of X G p_Q29,
  F_Q13 := F_Q13, b_Q13 := bdA F_Q13, m_Q13 := mg_of X G p_Q13,
  F_Q42 := F_Q42, b_Q42 := bdA F_Q42, m_Q42 := mg_of X G p_Q42,
  F_Q0 := F_Q0, b_Q0 := bdA F_Q0, m_Q0 := mg_of X G p_Q0,
  F_Q30 := F_Q30, b_Q30 := bdA F_Q30, m_Q30 := mg_of X G p_Q30,
  F_Q21 := F_Q21, b_Q21 := bdA F_Q21, m_Q21 := mg_of X G p_Q21,
  F_Q31 := F_Q31, b_Q31 := bdA F_Q31, m_Q31 := mg_of X G p_Q31,
  F_Q7 := F_Q7, b_Q7 := bdA F_Q7, m_Q7 := mg_of X G p_Q7,
  F_Q38 := F_Q38, b_Q38 := bdA F_Q38, m_Q38 := mg_of X G p_Q38,
  F_Q39 := F_Q39, b_Q39 := bdA F_Q39, m_Q39 := mg_of X G p_Q39,
  F_Q32 := F_Q32, b_Q32 := bdA F_Q32, m_Q32 := mg_of X G p_Q32,
  F_Q43 := F_Q43, b_Q43 := bdA F_Q43, m_Q43 := mg_of X G p_Q43,
  F_Q22 := F_Q22, b_Q22 := bdA F_Q22, m_Q22 := mg_of X G p_Q22,
  F_Q40 := F_Q40, b_Q40 := bdA F_Q40, m_Q40 := mg_of X G p_Q40,
  F_Q16 := F_Q16, b_Q16 := bdA F_Q16, m_Q16 := mg_of X G p_Q16,
  F_Q17 := F_Q17, b_Q17 := bdA F_Q17, m_Q17 := mg_of X G p_Q17,
  F_Q23 := F_Q23, b_Q23 := bdA F_Q23, m_Q23 := mg_of X G p_Q23,
  F_Q24 := F_Q24, b_Q24 := bdA F_Q24, m_Q24 := mg_of X G p_Q24,
  F_Q14 := F_Q14, b_Q14 := bdA F_Q14, m_Q14 := mg_of X G p_Q14,
  F_Q18 := F_Q18, b_Q18 := bdA F_Q18, m_Q18 := mg_of X G p_Q18,
  F_Q25 := F_Q25, b_Q25 := bdA F_Q25, m_Q25 := mg_of X G p_Q25,
  F_Q26 := F_Q26, b_Q26 := bdA F_Q26, m_Q26 := mg_of X G p_Q26,
  F_Q15 := F_Q15, b_Q15 := bdA F_Q15, m_Q15 := mg_of X G p_Q15,
  F_Q19 := F_Q19, b_Q19 := bdA F_Q19, m_Q19 := mg_of X G p_Q19,
  F_Q20 := F_Q20, b_Q20 := bdA F_Q20, m_Q20 := mg_of X G p_Q20,
  F_Q33 := F_Q33, b_Q33 := bdA F_Q33, m_Q33 := mg_of X G p_Q33,
  F_Q27 := F_Q27, b_Q27 := bdA F_Q27, m_Q27 := mg_of X G p_Q27,
  F_Q34 := F_Q34, b_Q34 := bdA F_Q34, m_Q34 := mg_of X G p_Q34,
  F_Q35 := F_Q35, b_Q35 := bdA F_Q35, m_Q35 := mg_of X G p_Q35,
  F_Q41 := F_Q41, b_Q41 := bdA F_Q41, m_Q41 := mg_of X G p_Q41,
  F_Q28 := F_Q28, b_Q28 := bdA F_Q28, m_Q28 := mg_of X G p_Q28,
  F_Q3 := F_Q3, b_Q3 := bdA F_Q3, m_Q3 := mg_of X G p_Q3,
  F_Q1 := F_Q1, b_Q1 := bdA F_Q1, m_Q1 := mg_of X G p_Q1,
  F_Q8 := F_Q8, b_Q8 := bdA F_Q8, m_Q8 := mg_of X G p_Q8,
  F_Q4 := F_Q4, b_Q4 := bdA F_Q4, m_Q4 := mg_of X G p_Q4,
  F_Q2 := F_Q2, b_Q2 := bdA F_Q2, m_Q2 := mg_of X G p_Q2,
  F_Q9 := F_Q9, b_Q9 := bdA F_Q9, m_Q9 := mg_of X G p_Q9,
  F_Q5 := F_Q5, b_Q5 := bdA F_Q5, m_Q5 := mg_of X G p_Q5,
  F_Q10 := F_Q10, b_Q10 := bdA F_Q10, m_Q10 := mg_of X G p_Q10,
  F_Q11 := F_Q11, b_Q11 := bdA F_Q11, m_Q11 := mg_of X G p_Q11,
  F_Q12 := F_Q12, b_Q12 := bdA F_Q12, m_Q12 := mg_of X G p_Q12,
  F_Q36 := F_Q36, b_Q36 := bdA F_Q36, m_Q36 := mg_of X G p_Q36,
  F_Q6 := F_Q6, b_Q6 := bdA F_Q6, m_Q6 := mg_of X G p_Q6,
  F_Q37 := F_Q37, b_Q37 := bdA F_Q37, m_Q37 := mg_of X G p_Q37,
  F_Q45 := F_Q45, b_Q45 := bdA F_Q45, m_Q45 := mg_of X G p_Q45,
  m_NOUGHT := mg_of X G p_NOUGHT, q_NOUGHT := fun H => .inr ⟨_, _, _, l_NOUGHT, rfl, rfl, zl2, (.cons ⟨_, rfl⟩ (.cons ⟨_, rfl⟩ .nil))⟩,
  m_POWER := mg_of X G p_POWER,
  m_TABLE := mg_of X G p_TABLE,
  m_MOST_FIGURES := mg_of X G p_MOST_FIGURES,
  X_Q44 := xc_mk lc_Q44 lB lnB hsB hnB fi_Q44 ti_Q44 kc_Q44 hh_Q44 sa_Q44, F_Q44 := F_Q44, b_Q44 := bdA F_Q44, m_Q44 := mg_of X G p_Q44, n_Q44_at := na_Q44_at, g_Q44 := ⟨ga_Q44, gn_Q44, cl_Q44, cgB, ctB⟩,
  x_catch := w_x_catch,
  z_abs := mg_none_of X G z_abs, z_all := mg_none_of X G z_all, z_bool := mg_none_of X G z_bool, z_enumerate := mg_none_of X G z_enumerate, z_int := mg_none_of X G z_int, z_isinstance := mg_none_of X G z_isinstance, z_len := mg_none_of X G z_len, z_list := mg_none_of X G z_list, z_range := mg_none_of X G z_range, z_repr := mg_none_of X G z_repr, z_reversed := mg_none_of X G z_reversed, z_str := mg_none_of X G z_str, z_tuple := mg_none_of X G z_tuple }
 exact ⟨_, fun s v => .of_eq rfl, fun base _ _ => ok_Q45 T⟩
theorem walk {l : PySem.W.OpenLaw} {q : Program} {loose : List Str} {XP : (Str -> Option Value) -> Heap -> Prop} {YP : World -> Heap -> Prop} {d : DefRec} {K : Params -> Fg} (hn : l.most = some 63) (hdf : d.params.defaults = [])
  (hY : ∀ (w : World) (h : Heap), YP w h -> (K w.params).In h)
  (F : ∀ (w : World) (mg : Str -> Option Value) (fa : Addr) (h : Heap), (K w.params).In h -> h.Ns mainGlobals mg -> mg d.name = some (.ref fa) →
   ∃ fd : FuncData, (∀ (s : Shared) (u : Value), BindsTo s fd ⟨[u], []⟩ [("_law_script", u)]) /\ ∀ base : Heap, (K w.params).In base -> base.Ns mainGlobals mg -> FnOk l.prog w (K w.params) mg base CX0 14 fa fd ["_law_script"] (sp_law (K w.params))) :
  PySem.W.WalkO q loose XP YP l.row.toRowW d [] (fun f vs => PySem.call f vs) :=
 L2.walk_of (n := 63) (k := 14) (x := "_law_script") (CX := fun _ => CX0) (sp := fun w => sp_law (K w.params)) hn (by decide) hdf ⟨rfl, by decide, by decide, rfl⟩ hY F (fun _ _ a ns hl _ hS => ⟨a, ns, rfl, hS, hl, fun _ => rfl⟩) fun _ _ _ _ _ z => z
end My
open PySem PySem.W PyProof.Rows
set_option maxRecDepth 100000 in
set_option maxHeartbeats 0 in
theorem PySem.Challenge.cw_paceplan_k22_whole_written_and_read_holds : PySem.Challenge.rw_paceplan_k22_whole_written_and_read.Holds := by
 w_on; refine HWtop ?_
 k_fill
 refine My.walk (l := PySem.Challenge.rw_paceplan_k22_whole_written_and_read) rfl rfl (fun w h Y => PySem.W.kIn_of Y) ?F
 case F =>
  intro w mg fa h KX G hmg
  refine' My.all_mk KX G hmg ?p_Q29 ?l_Q29 ?c_Q29 ?k_Q29 ?p_Q13 ?l_Q13 ?c_Q13 ?k_Q13 ?p_Q42 ?l_Q42 ?c_Q42 ?k_Q42 ?p_Q0 ?l_Q0 ?c_Q0 ?k_Q0 ?p_Q30 ?l_Q30 ?c_Q30 ?k_Q30 ?p_Q21 ?l_Q21 ?c_Q21 ?k_Q21 ?p_Q31 ?l_Q31 ?c_Q31 ?k_Q31 ?p_Q7 ?l_Q7 ?c_Q7 ?k_Q7 ?p_Q38 ?l_Q38 ?c_Q38 ?k_Q38 ?p_Q39 ?l_Q39 ?c_Q39 ?k_Q39 ?p_Q32 ?l_Q32 ?c_Q32 ?k_Q32 ?p_Q43 ?l_Q43 ?c_Q43 ?k_Q43 ?p_Q22 ?l_Q22 ?c_Q22 ?k_Q22 ?p_Q40 ?l_Q40 ?c_Q40 ?k_Q40 ?p_Q16 ?l_Q16 ?c_Q16 ?k_Q16 ?p_Q17 ?l_Q17 ?c_Q17 ?k_Q17 ?p_Q23 ?l_Q23 ?c_Q23 ?k_Q23 ?p_Q24 ?l_Q24 ?c_Q24 ?k_Q24 ?p_Q14 ?l_Q14 ?c_Q14 ?k_Q14 ?p_Q18 ?l_Q18 ?c_Q18 ?k_Q18 ?p_Q25 ?l_Q25 ?c_Q25 ?k_Q25 ?p_Q26 ?l_Q26 ?c_Q26 ?k_Q26 ?p_Q15 ?l_Q15 ?c_Q15 ?k_Q15 ?p_Q19 ?l_Q19 ?c_Q19 ?k_Q19 ?p_Q20 ?l_Q20 ?c_Q20 ?k_Q20 ?p_Q33 ?l_Q33 ?c_Q33 ?k_Q33 ?p_Q27 ?l_Q27 ?c_Q27 ?k_Q27 ?p_Q34 ?l_Q34 ?c_Q34 ?k_Q34 ?p_Q35 ?l_Q35 ?c_Q35 ?k_Q35 ?p_Q41 ?l_Q41 ?c_Q41 ?k_Q41 ?p_Q28 ?l_Q28 ?c_Q28 ?k_Q28 ?p_Q3 ?l_Q3 ?c_Q3 ?k_Q3 ?p_Q1 ?l_Q1 ?c_Q1 ?k_Q1 ?p_Q8 ?l_Q8 ?c_Q8 ?k_Q8 ?p_Q4 ?l_Q4 ?c_Q4 ?k_Q4 ?p_Q2 ?l_Q2 ?c_Q2 ?k_Q2 ?p_Q9 ?l_Q9 ?c_Q9 ?k_Q9 ?p_Q5 ?l_Q5 ?c_Q5 ?k_Q5 ?p_Q10 ?l_Q10 ?c_Q10 ?k_Q10 ?p_Q11 ?l_Q11 ?c_Q11 ?k_Q11 ?p_Q12 ?l_Q12 ?c_Q12 ?k_Q12 ?p_Q36 ?l_Q36 ?c_Q36 ?k_Q36 ?p_Q6 ?l_Q6 ?c_Q6 ?k_Q6 ?p_Q37 ?l_Q37 ?c_Q37 ?k_Q37 ?p_Q45 ?l_Q45 ?c_Q45 ?k_Q45 ?p_NOUGHT ?l_NOUGHT ?p_POWER ?p_TABLE ?p_MOST_FIGURES ?pB ?lB ?lnB ?hsB ?hnB ?cgB ?ctB ?p_Q44 ?lc_Q44 ?fi_Q44 ?l_Q44 ?cd_Q44_ ?ki_Q44 ?ti_Q44 ?kc_Q44 ?hh_Q44 ?sa_Q44 ?na_Q44_at ?ga_Q44 ?gn_Q44 ?cl_Q44 ?w_x_catch ?z_abs ?z_all ?z_bool ?z_enumerate ?z_int ?z_isinstance ?z_len ?z_list ?z_range ?z_repr ?z_reversed ?z_str ?z_tuple
  (case p_Q29 => k_is)
  (case l_Q29 => k_is)
  (case c_Q29 => k_is)
  (case k_Q29 => k_is)
  (case p_Q13 => k_is)
  (case l_Q13 => k_is)
  (case c_Q13 => k_is)
  (case k_Q13 => k_is)
  (case p_Q42 => k_is)
  (case l_Q42 => k_is)
  (case c_Q42 => k_is)
  (case k_Q42 => k_is)
  (case p_Q0 => k_is)
  (case l_Q0 => k_is)
  (case c_Q0 => k_is)
  (case k_Q0 => k_is)
  (case p_Q30 => k_is)
  (case l_Q30 => k_is)
  (case c_Q30 => k_is)
  (case k_Q30 => k_is)
  (case p_Q21 => k_is)
  (case l_Q21 => k_is)
  (case c_Q21 => k_is)
  (case k_Q21 => k_is)
  (case p_Q31 => k_is)
  (case l_Q31 => k_is)
  (case c_Q31 => k_is)
  (case k_Q31 => k_is)
  (case p_Q7 => k_is)
  (case l_Q7 => k_is)
  (case c_Q7 => k_is)
  (case k_Q7 => k_is)
  (case p_Q38 => k_is)
  (case l_Q38 => k_is)
  (case c_Q38 => k_is)
  (case k_Q38 => k_is)
  (case p_Q39 => k_is)
  (case l_Q39 => k_is)
  (case c_Q39 => k_is)
  (case k_Q39 => k_is)
  (case p_Q32 => k_is)
  (case l_Q32 => k_is)
  (case c_Q32 => k_is)
  (case k_Q32 => k_is)
  (case p_Q43 => k_is)
  (case l_Q43 => k_is)
  (case c_Q43 => k_is)
  (case k_Q43 => k_is)
  (case p_Q22 => k_is)
  (case l_Q22 => k_is)
  (case c_Q22 => k_is)
  (case k_Q22 => k_is)
  (case p_Q40 => k_is)
  (case l_Q40 => k_is)
  (case c_Q40 => k_is)
  (case k_Q40 => k_is)
  (case p_Q16 => k_is)
  (case l_Q16 => k_is)
  (case c_Q16 => k_is)
  (case k_Q16 => k_is)
  (case p_Q17 => k_is)
  (case l_Q17 => k_is)
  (case c_Q17 => k_is)
  (case k_Q17 => k_is)
  (case p_Q23 => k_is)
  (case l_Q23 => k_is)
  (case c_Q23 => k_is)
  (case k_Q23 => k_is)
  (case p_Q24 => k_is)
  (case l_Q24 => k_is)
  (case c_Q24 => k_is)
  (case k_Q24 => k_is)
  (case p_Q14 => k_is)
  (case l_Q14 => k_is)
  (case c_Q14 => k_is)
  (case k_Q14 => k_is)
  (case p_Q18 => k_is)
  (case l_Q18 => k_is)
  (case c_Q18 => k_is)
  (case k_Q18 => k_is)
  (case p_Q25 => k_is)
  (case l_Q25 => k_is)
  (case c_Q25 => k_is)
  (case k_Q25 => k_is)
  (case p_Q26 => k_is)
  (case l_Q26 => k_is)
  (case c_Q26 => k_is)
  (case k_Q26 => k_is)
  (case p_Q15 => k_is)
  (case l_Q15 => k_is)
  (case c_Q15 => k_is)
  (case k_Q15 => k_is)
  (case p_Q19 => k_is)
  (case l_Q19 => k_is)
  (case c_Q19 => k_is)
  (case k_Q19 => k_is)
  (case p_Q20 => k_is)
  (case l_Q20 => k_is)
  (case c_Q20 => k_is)
  (case k_Q20 => k_is)
  (case p_Q33 => k_is)
  (case l_Q33 => k_is)
  (case c_Q33 => k_is)
  (case k_Q33 => k_is)
  (case p_Q27 => k_is)
  (case l_Q27 => k_is)
  (case c_Q27 => k_is)
  (case k_Q27 => k_is)
  (case p_Q34 => k_is)
  (case l_Q34 => k_is)
  (case c_Q34 => k_is)
  (case k_Q34 => k_is)
  (case p_Q35 => k_is)
  (case l_Q35 => k_is)
  (case c_Q35 => k_is)
  (case k_Q35 => k_is)
  (case p_Q41 => k_is)
  (case l_Q41 => k_is)
  (case c_Q41 => k_is)
  (case k_Q41 => k_is)
  (case p_Q28 => k_is)
  (case l_Q28 => k_is)
  (case c_Q28 => k_is)
  (case k_Q28 => k_is)
  (case p_Q3 => k_is)
  (case l_Q3 => k_is)
  (case c_Q3 => k_is)
  (case k_Q3 => k_is)
  (case p_Q1 => k_is)
  (case l_Q1 => k_is)
  (case c_Q1 => k_is)
  (case k_Q1 => k_is)
  (case p_Q8 => k_is)
  (case l_Q8 => k_is)
  (case c_Q8 => k_is)
  (case k_Q8 => k_is)
  (case p_Q4 => k_is)
  (case l_Q4 => k_is)
  (case c_Q4 => k_is)
  (case k_Q4 => k_is)
  (case p_Q2 => k_is)
  (case l_Q2 => k_is)
  (case c_Q2 => k_is)
  (case k_Q2 => k_is)
  (case p_Q9 => k_is)
  (case l_Q9 => k_is)
  (case c_Q9 => k_is)
  (case k_Q9 => k_is)
  (case p_Q5 => k_is)
  (case l_Q5 => k_is)
  (case c_Q5 => k_is)
  (case k_Q5 => k_is)
  (case p_Q10 => k_is)
  (case l_Q10 => k_is)
  (case c_Q10 => k_is)
  (case k_Q10 => k_is)
  (case p_Q11 => k_is)
  (case l_Q11 => k_is)
  (case c_Q11 => k_is)
  (case k_Q11 => k_is)
  (case p_Q12 => k_is)
  (case l_Q12 => k_is)
  (case c_Q12 => k_is)
  (case k_Q12 => k_is)
  (case p_Q36 => k_is)
  (case l_Q36 => k_is)
  (case c_Q36 => k_is)
  (case k_Q36 => k_is)
  (case p_Q6 => k_is)
  (case l_Q6 => k_is)
  (case c_Q6 => k_is)
  (case k_Q6 => k_is)
  (case p_Q37 => k_is)
  (case l_Q37 => k_is)
  (case c_Q37 => k_is)
  (case k_Q37 => k_is)
  (case p_Q45 => k_is)
  (case l_Q45 => k_is)
  (case c_Q45 => k_is)
  (case k_Q45 => k_is)
  (case p_NOUGHT => k_is)
  (case l_NOUGHT => k_is)
  (case p_POWER => k_is)
  (case p_TABLE => k_is)
  (case p_MOST_FIGURES => k_is)
  (case pB => k_is)
  (case lB => k_is)
  (case lnB => k_is)
  (case hsB => rfl)
  (case hnB => rfl)
  (case cgB => k_is)
  (case ctB => k_is)
  (case p_Q44 => k_is)
  (case lc_Q44 => k_is)
  (case fi_Q44 => k_is)
  (case l_Q44 => k_is)
  (case cd_Q44_ => k_is)
  (case ki_Q44 => k_is)
  (case ti_Q44 => k_is)
  (case kc_Q44 => k_is)
  (case hh_Q44 => k_is)
  (case sa_Q44 => k_is)
  (case na_Q44_at => k_is)
  (case ga_Q44 => k_is)
  (case gn_Q44 => k_is)
  (case cl_Q44 => k_is)
  (case w_x_catch => kts_exm)
  (case z_abs => k_is)
  (case z_all => k_is)
  (case z_bool => k_is)
  (case z_enumerate => k_is)
  (case z_int => k_is)
  (case z_isinstance => k_is)
  (case z_len => k_is)
  (case z_list => k_is)
  (case z_range => k_is)
  (case z_repr => k_is)
  (case z_reversed => k_is)
  (case z_str => k_is)
  (case z_tuple => k_is)
