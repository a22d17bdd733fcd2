import PyProof.Rows.All
import KE.RegKIsAll
import KE.RegKTryMore
import KE.KSortKey
import PySem.Challenge.RW_paceplan_k33_works_dealt
set_option Elab.async false
set_option linter.all false
set_option maxRecDepth 100000
theorem uZ {α β γ : Type} {o : Option α} {f : α -> β} {g : α -> γ} {a : β} {b : γ} (h1 : o.map f = some a) (h2 : o.map g = some b) : o.map (fun s => (f s, g s)) = some (a, b) := by
 cases o with
 | none => cases h1
 | some x => cases h1; cases h2; rfl
namespace HW
open PySem
def keep : List Nat := [1, 3, 4, 5, 6, 7, 8, 9, 10, 11, 13, 14, 15, 16, 17, 18, 20, 21, 22, 23, 24, 26, 27, 28, 29, 31, 32, 33, 34, 35, 36, 37, 38, 39, 40, 41, 42, 43, 44, 45, 46, 47, 48, 49, 50, 51, 52, 53]
def V : Program := PySem.W.view PySem.Challenge.pw_paceplan_k33_works_dealt keep
end HW
section HWs
open PySem PySem.W PyProof.Rows
set_option maxHeartbeats 0 in
theorem HWa : ∀ w : World, (openEnds treeTable PySem.Challenge.rw_paceplan_k33_works_dealt.row.prog w 6760).map (fun s => openSeen HW.V [] (importedModules PySem.Challenge.rw_paceplan_k33_works_dealt.row.prog.main.body) (fun s => xlAt HW.V [] s && recOk PySem.Challenge.rw_paceplan_k33_works_dealt.row.records s) true s) = some (openGood HW.V []) := by
 intro w
 delta openEnds fencedOpening topFrom
 rw [PySem.W.Fast.te14364793385576792824, PySem.W.Fast.te14082659384304107361, PySem.W.Fast.te10274390034422433532, PySem.W.Fast.te1435165496053646825, PySem.W.Fast.te14289696077712309145, PySem.W.Fast.te4187177175401517315]
 kernel_rfl
local macro_rules
 | `(tactic| o_head $H:term) => `(tactic| (
   refine holds_open (q := HW.V) (loose := []) (N := 6760)
    (Xt := fun s => xlAt HW.V [] s && recOk (RowW.records (OpenRow.toRowW (OpenLaw.row PySem.Challenge.rw_paceplan_k33_works_dealt))) s)
    (XP := XL HW.V []) (Yf := Hook.obs $H) (Ya := Hook.val $H) (YP := Hook.says $H)
    ?hl (Hook.of $H) (Hook.keeps $H)
    (fun s e => xl_of s (Bool.and_eq_true_iff.mp e).1) XL.keeps
    (by rfl) (by rfl) (by rfl)
    (fun s e => recFacts_of (Bool.and_eq_true_iff.mp e).2) (by rfl) (by assumption) (by decide +kernel)
    ⟨rfl, rfl, rfl, rfl, rfl, by decide +kernel⟩ ?hw ?hc
   (case hl =>
    intro w
    refine uZ (HWa w) ?_
    delta openEnds fencedOpening topFrom
    rw [PySem.W.Fast.te14364793385576792824, PySem.W.Fast.te14082659384304107361, PySem.W.Fast.te10274390034422433532, PySem.W.Fast.te1435165496053646825, PySem.W.Fast.te14289696077712309145]
    kernel_rfl)))
set_option maxHeartbeats 0 in
open_top HWtop for PySem.Challenge.rw_paceplan_k33_works_dealt
end HWs
abbrev Fg := PySem.W.Frag
abbrev bL := List (PySem.Addr × PySem.Obj)
abbrev cS := PySem.Value -> PySem.Shared -> Prop
theorem AB : 1 ≤ PySem.sizeLine := by decide
theorem km : 2 ≤ PySem.sizeLine := by decide
theorem qQ : 3 ≤ PySem.sizeLine := by decide
theorem yQ : 4 ≤ PySem.sizeLine := by decide
theorem yY : 6 ≤ PySem.sizeLine := by decide
theorem CH : 7 ≤ PySem.sizeLine := by decide
namespace L2
open PySem PySem.Spec PyProof.Rows
abbrev hG := Sum Int Str
def vV : hG -> Value -> Bool
 | .inl k, v => Value.isInt k v
 | .inr x, v => Value.isStrOf x v
def Bw (w : World) : hG -> Int
 | .inl k => hashInt k
 | .inr x => hashStr w x
theorem cj : ∀ {k : hG} {v : Value}, vV k v = true -> (∃ i t, k = Sum.inl i /\ v = Value.int i t) ∨ (∃ x t, k = Sum.inr x /\ v = Value.str x t)
 | .inl i, v, h => by
  obtain ⟨t, e⟩ := Value.isInt_shape (k := i) (v := v) h
  exact .inl ⟨i, t, rfl, e⟩
 | .inr x, v, h => by
  obtain ⟨t, e⟩ := Value.isStrOf_shape (x := x) (v := v) h
  exact .inr ⟨x, t, rfl, e⟩
theorem yk (a b : Int) : decide ((Sum.inl a : hG) = Sum.inl b) = (a == b) := by
 by_cases e : a = b
 ·subst e; simp
 ·have h : ¬ (Sum.inl a : hG) = Sum.inl b := fun q => e (Sum.inl.inj q)
  rw [decide_eq_false h]
  exact (beq_eq_false_iff_ne.mpr e).symm
theorem yh (a b : Str) : decide ((Sum.inr a : hG) = Sum.inr b) = decide (a = b) := by
 by_cases e : a = b
 ·subst e; simp
 ·have h : ¬ (Sum.inr a : hG) = Sum.inr b := fun q => e (Sum.inr.inj q)
  rw [decide_eq_false h, decide_eq_false e]
theorem yj (a : Int) (b : Str) : decide ((Sum.inl a : hG) = Sum.inr b) = false := decide_eq_false (fun q => nomatch q)
theorem yi (a : Str) (b : Int) : decide ((Sum.inr a : hG) = Sum.inl b) = false := decide_eq_false (fun q => nomatch q)
def oJ (prog : Program) (w : World) : PySem.KeyKind prog w hG where
 is := vV
 hash := Bw w
 inj := fun v a b ha hb => by
  rcases cj ha with ⟨i, t, rfl, rfl⟩ | ⟨x, t, rfl, rfl⟩
  ·rcases cj hb with ⟨j, u, rfl, e⟩ | ⟨y, u, rfl, e⟩
   ·injection e with e1 _; rw [e1]
   ·exact nomatch e
  ·rcases cj hb with ⟨j, u, rfl, e⟩ | ⟨y, u, rfl, e⟩
   ·exact nomatch e
   ·injection e with e1 _; rw [e1]
 byValue := fun k v h => by
  rcases cj h with ⟨i, t, rfl, rfl⟩ | ⟨x, t, rfl, rfl⟩ <;> rfl
 pyHash := fun hv h => by
  rcases cj hv with ⟨i, t, rfl, rfl⟩ | ⟨x, t, rfl, rfl⟩
  ·exact wpAny_pyHash_int h
  ·exact wpAny_pyHash_str h
 eqBool := fun hu hv h => by
  rcases cj hu with ⟨i, t, rfl, rfl⟩ | ⟨x, t, rfl, rfl⟩
  ·rcases cj hv with ⟨j, u, rfl, rfl⟩ | ⟨y, u, rfl, rfl⟩
   ·rw [yk] at h; exact wpAny_eqBool_int h
   ·rw [yj] at h; exact SeqAt.EqAt.int_str i t y u _ _ _ _ h
  ·rcases cj hv with ⟨j, u, rfl, rfl⟩ | ⟨y, u, rfl, rfl⟩
   ·rw [yi] at h; exact SeqAt.EqAt.str_int x t j u _ _ _ _ h
   ·rw [yh] at h; exact wpAny_eqBool_str h
 «strs» := fun k x t v h => by
  rcases cj h with ⟨i, u, rfl, e⟩ | ⟨y, u, rfl, e⟩
  ·exact nomatch e
  ·injection e with e1 _
   subst e1
   cases v <;> rfl
end L2
namespace L2
open PySem PySem.Spec PyProof.Rows
inductive V where
 | non | bl (b : Bool) | int (i : Int) | str (x : Str) | byt (b : Array UInt8) | flt (b : UInt64) | ref (a : Addr) | ty (n : String)
 deriving DecidableEq
def bn : V -> Value -> Prop
 | .non, u => u = Value.none
 | .bl b, u => u = Value.bool b
 | .int i, u => ∃ t, u = Value.int i t
 | .str x, u => ∃ t, u = Value.str x t
 | .byt b, u => ∃ t, u = Value.bytes b t
 | .flt b, u => ∃ t, u = Value.float b t
 | .ref a, u => u = Value.ref a
 | .ty n, u => u = Value.type n
abbrev aW : List V -> List Value -> Prop := Paired bn
theorem aW.length {xs : List V} {us : List Value} (r : aW xs us) : xs.length = us.length := Paired.length r
theorem aW.get : ∀ {xs : List V} {us : List Value} {i : Nat} {x : V}, aW xs us -> xs[i]? = some x -> ∃ u, us[i]? = some u /\ bn x u
 | _, _, _, _, .nil, e => by simp at e
 | _, _, 0, _, .cons r _, e => by simp at e; subst e; exact ⟨_, rfl, r⟩
 | _, _, i + 1, x, .cons _ t, e => by
  obtain ⟨u, h1, h2⟩ := aW.get (i := i) (x := x) t (by simpa using e)
  exact ⟨u, by simpa using h1, h2⟩
theorem aW.set {x : V} {u : Value} (r : bn x u) : ∀ {xs : List V} {us : List Value} (i : Nat), aW xs us -> aW (xs.set i x) (us.set i u)
 | _, _, _, .nil => .nil
 | _, _, 0, .cons _ t => .cons r t
 | _, _, i + 1, .cons q t => .cons q (aW.set r i t)
theorem aW.append : ∀ {xs ys : List V} {us ws : List Value}, aW xs us -> aW ys ws -> aW (xs ++ ys) (us ++ ws)
 | _, _, _, _, .nil, s => s
 | _, _, _, _, .cons r t, s => .cons r (aW.append t s)
theorem aW.take : ∀ {xs : List V} {us : List Value} (n : Nat), aW xs us -> aW (xs.take n) (us.take n)
 | _, _, 0, _ => .nil
 | _, _, _ + 1, .nil => .nil
 | _, _, n + 1, .cons r t => .cons r (aW.take n t)
theorem aW.drop : ∀ {xs : List V} {us : List Value} (n : Nat), aW xs us -> aW (xs.drop n) (us.drop n)
 | _, _, 0, r => r
 | _, _, _ + 1, .nil => .nil
 | _, _, n + 1, .cons _ t => aW.drop n t
def g9 : Option V -> Option Value -> Prop
 | some v, some u => bn v u
 | none, none => True
 | _, _ => False
def KV {κ : Type} : List (κ × V) -> List (κ × Value) -> Prop := Paired fun (p : κ × V) (q : κ × Value) => p.1 = q.1 /\ bn p.2 q.2
def kV : hG -> V
 | .inl i => .int i
 | .inr x => .str x
inductive HO where
 | lst (xs : List V)
 | tup (xs : List V)
 | dK (kvs : List (hG × V)) | dT (kvs : List (List hG × V))
 | set (S : Int -> Bool) (n : Nat)
 | ins (C dx : Addr) (fs : List (Str × V))
 | own (x : Addr)
 | xd (fs : List (Str × V))
 | met (f x : Addr)
 | rng (lo hi : Int)
 | frz (o : Obj) (u : HO)
 | tbl (ps : Array Value)
 | ext (φ : Heap -> Prop)
abbrev Hp := Addr -> Option HO
def upd (H : Hp) (a : Addr) (o : HO) : Hp := fun b => if b = a then some o else H b
theorem ah {H : Hp} {a : Addr} {o : HO} : upd H a o a = some o := by unfold upd; rw [if_pos rfl]
theorem aC {H : Hp} {a b : Addr} {o : HO} (h : b ≠ a) : upd H a o b = H b := by unfold upd; rw [if_neg h]
theorem ik {H : Hp} {a : Addr} {o u : HO} : upd (upd H a o) a u = upd H a u := by
 funext b; unfold upd; split <;> rfl
theorem aQ {H : Hp} {a b : Addr} {o : HO} (h : H a = some o) (h' : H b = none) : a ≠ b := by
 intro e; subst e; rw [h] at h'; cases h'
section
variable (P : Program) (w : World)
def ObjOk (H : Hp) (h : Heap) (a : Addr) : HO -> Prop
 | .lst xs => xs.length ≤ sizeLine /\ ∃ (its : List Value) (n : Nat), aW xs its /\ h.get? a = some { cls := .type "list", data := .seq its.toArray n }
 | .tup xs => xs.length ≤ sizeLine /\ ∃ its : List Value, aW xs its /\ IsTup h a its.toArray
 | .dK kvs => kvs.length ≤ sizeLine /\ (a == sysModules) = false /\ ∃ vs, KV kvs vs /\ h.DictOf (oJ P w) a vs
 | .dT kvs => kvs.length ≤ sizeLine /\ (a == sysModules) = false /\ ∃ xs : List (List hG × Addr × Value),
   Paired (fun (p : List hG × V) (q : List hG × Addr × Value) => p.1 = q.1 /\ H q.2.1 = some (.tup (p.1.map kV)) /\ bn p.2 q.2.2) kvs xs ∧
   ∃ o es ep, h.get? a = some o /\ o.ExactDict /\ o.data = .dict es ep /\ es.toList = xs.map (entryOfKey (tupleKind (oJ P w))) /\ (xs.map (·.1)).Nodup
 | .set S n => h.SetOf (intKind P w) a S n
 | .ins C dx fs => H dx = some (.own a) /\ fs.length ≤ 1000 /\ dx ≠ a /\ h.get? a = some (PySem.W.instObj C dx) ∧
   ∃ mA, h.Ns1 dx mA /\ (∀ f, g9 (fs.lookup f) (mA f)) /\ PySem.Within mA (fs.map (·.1))
 | .own _ => ∃ o, h.get? a = some o
 | .xd fs => ∃ mA, h.Ns1 a mA /\ ∀ f, g9 (fs.lookup f) (mA f)
 | .rng lo hi => ∃ t u v, h.get? a = some { cls := .type "range", data := .fields #[.int lo t, .int hi u, .int 1 v] }
 | .frz o u => h.get? a = some o /\ ObjOk H h a u
 | .tbl ps => h.get? a = some { cls := .none, data := .fields ps }
 | .met f x => h.get? a = some (PySem.W.methodObj (.ref f) (.ref x))
 | .ext φ => φ h /\ (∃ o, h.get? a = some o) /\ ∀ h1 h2 : Heap, φ h1 -> (∀ o, h1.get? a = some o -> h2.get? a = some o) -> φ h2
def h7 (H : Hp) (h : Heap) : Prop := ∀ a o, H a = some o -> ObjOk P w H h a o
end
section
variable {P : Program} {w : World} {H H' : Hp} {h h' : Heap} {a : Addr} {o : HO}
theorem ObjOk.lt (x : ObjOk P w H h a o) : a < h.objs.size := by
 cases o with
 | lst xs => obtain ⟨_, _, _, _, e⟩ := x; exact Heap.lt_size e
 | tup xs => obtain ⟨_, _, _, p⟩ := x; exact p.lt
 | dK kvs => obtain ⟨_, _, _, _, o, _, _, e, _⟩ := x; exact Heap.lt_size e
 | dT kvs => obtain ⟨_, _, _, _, o, _, _, e, _⟩ := x; exact Heap.lt_size e
 | set S n => obtain ⟨o, _, _, _, e, _⟩ := x; exact Heap.lt_size e
 | ins C dx fs => obtain ⟨_, _, _, e, _⟩ := x; exact Heap.lt_size e
 | own y => obtain ⟨_, e⟩ := x; exact Heap.lt_size e
 | xd fs => obtain ⟨_, ⟨_, _, _, e, _⟩, _⟩ := x; exact Heap.lt_size e
 | rng lo hi => obtain ⟨_, _, _, e⟩ := x; exact Heap.lt_size e
 | frz ob u => obtain ⟨e, _⟩ := x; exact Heap.lt_size e
 | tbl ps => exact Heap.lt_size (show h.get? a = some _ from x)
 | met f y => exact Heap.lt_size (show h.get? a = some _ from x)
 | ext φ => obtain ⟨_, ⟨_, e⟩, _⟩ := x; exact Heap.lt_size e
theorem Paired.mapP {α β : Type} {F G : α -> β -> Prop} : ∀ {l₁ : List α} {l₂ : List β}, Paired F l₁ l₂ -> (∀ a b, F a b -> G a b) -> Paired G l₁ l₂
 | _, _, .nil, _ => .nil
 | _, _, .cons r t, f => .cons (f _ _ r) (Paired.mapP t f)
theorem ObjOk.stay (x : ObjOk P w H h a o) (k : ∀ b u, (b = a ∨ H b = some (.own a)) -> h.get? b = some u -> h'.get? b = some u)
  (ho : ∀ b, H b = some (.own a) -> H' b = some (.own a)) (ht : ∀ b xs, H b = some (.tup xs) -> H' b = some (.tup xs)) : ObjOk P w H' h' a o := by
 induction o with
 | lst xs => obtain ⟨z, its, n, r, e⟩ := x; exact ⟨z, its, n, r, k _ _ (.inl rfl) e⟩
 | tup xs => obtain ⟨z, its, r, ob, e, c⟩ := x; exact ⟨z, its, r, ob, k _ _ (.inl rfl) e, c⟩
 | dK kvs => obtain ⟨z, y, vs, r, ob, es, ep, e, c⟩ := x; exact ⟨z, y, vs, r, ob, es, ep, k _ _ (.inl rfl) e, c⟩
 | dT kvs =>
  obtain ⟨z, y, xs, r, ob, es, ep, e, c⟩ := x
  exact ⟨z, y, xs, Paired.mapP r fun p q z => ⟨z.1, ht _ _ z.2.1, z.2.2⟩, ob, es, ep, k _ _ (.inl rfl) e, c⟩
 | set S n => obtain ⟨ob, es, ep, t, e, c⟩ := x; exact ⟨ob, es, ep, t, k _ _ (.inl rfl) e, c⟩
 | ins C dx fs =>
  obtain ⟨d, z, ne, e, mA, ⟨od, es, ep, e2, c⟩, r⟩ := x
  exact ⟨ho _ d, z, ne, k _ _ (.inl rfl) e, mA, ⟨od, es, ep, k _ _ (.inr d) e2, c⟩, r⟩
 | own y => obtain ⟨ob, e⟩ := x; exact ⟨ob, k _ _ (.inl rfl) e⟩
 | xd fs => obtain ⟨mA, ⟨od, es, ep, e, c⟩, r⟩ := x; exact ⟨mA, ⟨od, es, ep, k _ _ (.inl rfl) e, c⟩, r⟩
 | rng lo hi => obtain ⟨t, u, v, e⟩ := x; exact ⟨t, u, v, k _ _ (.inl rfl) e⟩
 | frz ob u ih => obtain ⟨e, q⟩ := x; exact ⟨k _ _ (.inl rfl) e, ih q⟩
 | tbl ps =>
  have e : h.get? a = some { cls := .none, data := .fields ps } := x
  show h'.get? a = some { cls := .none, data := .fields ps }
  exact k a _ (.inl rfl) e
 | met f y =>
  have e : h.get? a = some (PySem.W.methodObj (.ref f) (.ref y)) := x
  show h'.get? a = some (PySem.W.methodObj (.ref f) (.ref y))
  exact k a _ (.inl rfl) e
 | ext φ => obtain ⟨p, ⟨o, e⟩, st⟩ := x; exact ⟨st _ _ p fun o q => k _ _ (.inl rfl) q, ⟨o, k _ _ (.inl rfl) e⟩, st⟩
theorem h7.lt (x : h7 P w H h) (e : H a = some o) : a < h.objs.size := (x a o e).lt
theorem h7.fresh (x : h7 P w H h) (e : h.objs.size ≤ a) : H a = none := by
 cases q : H a with
 | none => rfl
 | some u => exact absurd (Nat.lt_of_lt_of_le (x.lt q) e) (Nat.lt_irrefl _)
theorem h7.kept (x : h7 P w H h) (k : ∀ b u, h.get? b = some u -> h'.get? b = some u) : h7 P w H h' := fun a o e =>
 (x a o e).stay (fun b u _ q => k b u q) (fun _ q => q) fun _ _ q => q
theorem h7.laid (x : h7 P w H h) (k : ∀ b u, h.get? b = some u -> h'.get? b = some u) (hp : h.objs.size ≤ a) (new : ObjOk P w (upd H a o) h' a o) : h7 P w (upd H a o) h' := fun b u e => by
 have hn := x.fresh hp
 by_cases hb : b = a
 ·subst hb; rw [ah] at e; cases e; exact new
 ·rw [aC hb] at e
  exact (x b u e).stay (fun c v _ q => k c v q) (fun c q => by rw [aC (aQ q hn)]; exact q) fun c xs q => by rw [aC (aQ q hn)]; exact q
end
def Rd (H : Hp) (a : Addr) (u : HO) : Prop := H a = some u ∨ ∃ o, H a = some (.frz o u)
theorem Rd.ok {P : Program} {w : World} {H : Hp} {h : Heap} {a : Addr} {u : HO} (r : Rd H a u) (x : h7 P w H h) : ObjOk P w H h a u := by
 rcases r with r | ⟨o, r⟩
 ·exact x a u r
 ·obtain ⟨_, q⟩ := x a _ r
  exact q
def A3 : Option HO -> Prop
 | some (.lst _) => True
 | some (.dK _) => True
 | some (.dT _) => True
 | some (.set _ _) => True
 | some (.ins _ _ _) => True
 | some (.ext _) => True
 | _ => False
section
variable {P : Program} {w : World} {H : Hp} {h h' : Heap} {x e : Addr} {o' : HO}
theorem h7.write (ok : h7 P w H h) (mu : A3 (H x)) (he : e = x ∨ H e = some (.own x)) (k : ∀ b u, b ≠ e -> h.get? b = some u -> h'.get? b = some u) (heo : ∃ u, h'.get? e = some u)
  (new : ObjOk P w (upd H x o') h' x o') : h7 P w (upd H x o') h' := fun b u q => by
 have nown : ∀ c y, H c = some (.own y) -> c ≠ x := fun c y r z => by subst z; rw [r] at mu; exact mu
 have ntup : ∀ c xs, H c = some (.tup xs) -> c ≠ x := fun c xs r z => by subst z; rw [r] at mu; exact mu
 by_cases hb : b = x
 ·subst hb; rw [ah] at q; cases q; exact new
 ·rw [aC hb] at q
  by_cases hbe : b = e
  ·have q' : H b = some (.own x) := by
    rcases he with z | z
    ·exact absurd (hbe.trans z) hb
    ·rw [hbe]; exact z
   rw [q] at q'; cases q'
   obtain ⟨v, hv⟩ := heo
   exact ⟨v, by rw [hbe]; exact hv⟩
  ·refine (ok b u q).stay (fun c v hc r => k c v ?_ r) (fun c r => by rw [aC (nown c b r)]; exact r) fun c xs r => by rw [aC (ntup c xs r)]; exact r
   rcases hc with rfl | hc
   ·exact hbe
   ·rintro rfl
    rcases he with z | z
    ·exact nown c b hc z
    ·rw [hc] at z; cases z; exact hb rfl
end
structure Un (fs ex : List Addr) (H H' : Hp) (h h' : Heap) : Prop where
 keep : ∀ b o, h.get? b = some o -> H b = none -> b ∉ fs -> b ∉ ex -> h'.get? b = some o
 slot : ∀ b o, h.get? b = some o -> H b = none -> b ∈ fs -> b ∉ ex -> ∃ sl, h'.get? b = some { o with slots := sl }
 free : ∀ b o, h.get? b = some o -> H b = none -> b ∉ ex -> H' b = none
 there : ∀ b o, h.get? b = some o -> b ∉ ex -> ∃ o', h'.get? b = some o'
 tups : ∀ b xs, H b = some (.tup xs) -> H' b = some (.tup xs)
 frzs : ∀ b o u, H b = some (.frz o u) -> H' b = some (.frz o u)
 tbls : ∀ b ps, H b = some (.tbl ps) -> ∃ more, H' b = some (.tbl (ps ++ more))
section
variable {fs fs' ex ex' : List Addr} {H H1 H2 : Hp} {h h1 h2 h' : Heap} {a x e : Addr} {o : HO}
theorem Un.any (u : Un fs ex H H1 h h1) {b : Addr} {ob : Obj} (q : h.get? b = some ob) (n : H b = none) (hx : b ∉ ex) : ∃ sl, h1.get? b = some { ob with slots := sl } := by
 by_cases hb : b ∈ fs
 ·exact u.slot b ob q n hb hx
 ·exact ⟨ob.slots, u.keep b ob q n hb hx⟩
theorem Un.kept (k : ∀ b u, h.get? b = some u -> h'.get? b = some u) : Un fs ex H H h h' :=
 ⟨fun b ob q _ _ _ => k b ob q, fun b ob q _ _ _ => ⟨ob.slots, k b ob q⟩, fun _ _ _ n _ => n, fun b ob q _ => ⟨ob, k b ob q⟩, fun _ _ q => q, fun _ _ _ q => q, fun _ ps q => ⟨#[], by rw [q]; simp⟩⟩
theorem Un.refl : Un fs ex H H h h := Un.kept fun _ _ q => q
theorem Un.laid (k : ∀ b u, h.get? b = some u -> h'.get? b = some u) (hp : h.objs.size ≤ a) (hn : H a = none) : Un fs ex H (upd H a o) h h' where
 keep := fun b u q _ _ _ => k b u q
 slot := fun b u q _ _ _ => ⟨u.slots, k b u q⟩
 free := fun b u q n _ => by rw [aC (Nat.ne_of_lt (Nat.lt_of_lt_of_le (Heap.lt_size q) hp))]; exact n
 there := fun b u q _ => ⟨u, k b u q⟩
 tups := fun b xs q => by rw [aC (aQ q hn)]; exact q
 frzs := fun b u xs q => by rw [aC (aQ q hn)]; exact q
 tbls := fun b ps q => ⟨#[], by rw [aC (aQ q hn), q]; simp⟩
theorem Un.write (mu : A3 (H x)) (he : e = x ∨ H e = some (.own x)) (k : ∀ b u, b ≠ e -> h.get? b = some u -> h'.get? b = some u) (heo : ∃ u, h'.get? e = some u) : Un fs ex H (upd H x o) h h' := by
 have hx : ∀ b, H b = none -> b ≠ x := fun b n z => by subst z; rw [n] at mu; exact mu
 have hb : ∀ b, H b = none -> b ≠ e := fun b n z => by
  subst z
  rcases he with r | r
  ·exact hx b n r
  ·rw [n] at r; cases r
 have hm : ∀ b u, H b = some u -> ¬ A3 (some u) -> b ≠ x := fun b u q nm z => by subst z; rw [q] at mu; exact nm mu
 refine ⟨fun b u q n _ _ => k b u (hb b n) q, fun b u q n _ _ => ⟨u.slots, k b u (hb b n) q⟩, fun b u q n _ => by rw [aC (hx b n)]; exact n, fun b u q _ => ?_,
  fun b xs q => by rw [aC (hm b _ q fun z => z)]; exact q, fun b u xs q => by rw [aC (hm b _ q fun z => z)]; exact q, fun b ps q => ⟨#[], by rw [aC (hm b _ q fun z => z), q]; simp⟩⟩
 by_cases hbe : b = e
 ·subst hbe; exact heo
 ·exact ⟨u, k b u hbe q⟩
end
def wg (h : Heap) (H : Hp) : List Addr := (List.range h.objs.size).filter fun a => (H a).isSome
def k9 (h : Heap) (H : Hp) : Heap := PySem.W.hideAll h (wg h H)
theorem qx (h : Heap) (H : Hp) : (k9 h H).objs.size = h.objs.size := PySem.W.hideAll_size _ _
theorem tJ {h : Heap} {H : Hp} {b : Addr} {o : Obj} (e : h.get? b = some o) (n : H b = none) : (k9 h H).get? b = some o :=
 PySem.W.hideAll_get _ e fun hm => by
  have q : (H b).isSome = true := (List.mem_filter.mp hm).2
  rw [n] at q; simp at q
theorem u5 {h : Heap} {H : Hp} {b : Addr} {o : Obj} (e : (k9 h H).get? b = some o) : h.get? b = some o /\ H b = none := by
 have e' : h.get? b = some o := PySem.W.of_hideAll (wg h H) e
 refine ⟨e', ?_⟩
 cases q : H b with
 | none => rfl
 | some x =>
  have hm : b ∈ wg h H := List.mem_filter.mpr ⟨List.mem_range.mpr (Heap.lt_size e'), by simp [q]⟩
  have z : (k9 h H).get? b = none := PySem.W.hideAll_none (wg h H) hm
  rw [z] at e; cases e
def gN (g h : Heap) (L : Addr) : bL := (List.range h.objs.size).filterMap fun a => if a = L ∨ (g.get? a).isSome = true then none else (h.get? a).map fun o => (a, o)
theorem mF {g h : Heap} {L a : Addr} {o : Obj} (h1 : a ≠ L) (h2 : g.get? a = none) (h3 : h.get? a = some o) : (a, o) ∈ gN g h L :=
 List.mem_filterMap.mpr ⟨a, List.mem_range.mpr (Heap.lt_size h3), by simp [h1, h2, h3]⟩
theorem iV {g h : Heap} {L : Addr} {p : Addr × Obj} (hp : p ∈ gN g h L) : p.1 ≠ L /\ g.get? p.1 = none /\ h.get? p.1 = some p.2 := by
 obtain ⟨b, _, e⟩ := List.mem_filterMap.mp hp
 split at e
 ·cases e
 ·rename_i hn
  cases q : h.get? b with
  | none => rw [q] at e; simp at e
  | some u =>
   rw [q] at e
   simp only [Option.map_some, Option.some.injEq] at e
   subst e
   refine ⟨fun z => hn (.inl z), ?_, q⟩
   show g.get? b = none
   cases r : g.get? b with
   | none => rfl
   | some v => exact (hn (.inr (by simp [r]))).elim
def cT (g h : Heap) (L d : Addr) : bL := (gN g h L).filter fun p => decide (p.1 ≠ d)
end L2
namespace L2
open PySem PySem.Spec PyProof.Rows
structure Mod (K : Fg) (mg : Str -> Option Value) (base : Heap) : Prop where
 kin : K.In base
 glob : base.Ns mainGlobals mg
 blt : ∃ mb, base.Ns builtinsNs mb /\ ∀ x : Str, x ≠ "__name__" -> mb x = bootBuiltins x
 nolimit : base.NoLimit
structure Cx where
 prog : Program
 w : World
 K : Fg
 mg : Str -> Option Value
 base : Heap
 A : Around
 N : List Str
 s₀ : Shared
 H₀ : Hp
 env : Env
 outer : List Env
 stack : List Env
 ex : List Addr
 fn : Str -> Bool
 calm : Bool
 pn : bL
 xe : cS
def jg (l : List Env) : List Addr := l.filterMap (·.frame)
abbrev Cx.fs (X : Cx) : List Addr := jg X.outer
def AY (sc : Scope) (x : Str) : Prop := sc.names.lookup x = some .local ∨ sc.names.lookup x = some .cell ∨ sc.names.lookup x = some .free
def ub (sc : Scope) (x : Str) : Prop := sc.names.lookup x = some .local ∨ sc.names.lookup x = some .cell
def BJ (env : Env) (h : Heap) (m : Str -> Option Value) (x : Str) (u : Value) : Prop :=
 (env.kindOf x = some .local /\ m x = some u) ∨ ((env.kindOf x = some .cell ∨ env.kindOf x = some .free) /\ ∃ c, env.cells.lookup x = some c /\ h.IsCell c (some u))
structure Cx.Ok (X : Cx) : Prop where
 mod : Mod X.K X.mg X.base
 kind : X.env.scope.kind = .function
 glob : X.env.globals = mainGlobals
 blt : X.env.builtins = builtinsNs
 above : X.s₀.heap.objs.size ≤ X.env.locals
 inj : ∀ x y c, X.env.cells.lookup x = some c -> X.env.cells.lookup y = some c -> x = y
 has : ∀ x, (X.env.kindOf x = some .cell ∨ X.env.kindOf x = some .free) -> ∃ c, X.env.cells.lookup x = some c
 cab : ∀ x c, X.fn x = true -> X.env.cells.lookup x = some c -> X.s₀.heap.objs.size ≤ c
 hd : X.calm = true -> X.A.handled = none
 frames : X.A.frames = some X.stack
 stk : X.stack = X.outer ∨ (X.stack = X.env :: X.outer /\ X.env.frame = some X.env.locals)
 exf : ∀ b ∈ X.ex, b ≠ X.env.locals /\ ∀ x c, X.env.cells.lookup x = some c -> c ≠ b
 bs : ∀ b o, X.base.get? b = some o -> X.s₀.heap.get? b = some o /\ X.H₀ b = none
 bsz : X.base.objs.size ≤ X.s₀.heap.objs.size
 noex : ∀ b o, X.base.get? b = some o -> b ∉ X.ex
 exfs : ∀ b ∈ X.ex, b ∉ X.fs
 funs : X.s₀.heap.FunFrames X.base X.outer
 frf : ∀ b ∈ X.fs, X.H₀ b = none
structure Inv (X : Cx) (pins : bL) (σ : List (Option V)) (H : Hp) (s : Shared) : Prop where
 ok : X.Ok
 os : s.os = X.s₀.os
 bare : AllBare s.gens
 base : Un X.fs X.ex X.H₀ H X.s₀.heap s.heap
 loc : ∃ m, s.heap.Ns X.env.locals m /\ ∀ (i : Nat) (x : Str) (v : V), X.N[i]? = some x -> σ[i]? = some (some v) -> AY X.env.scope x -> ∃ u, bn v u /\ BJ X.env s.heap m x u
 cell : ∀ x c, X.env.cells.lookup x = some c -> ∃ v, s.heap.IsCell c v
 free : H X.env.locals = none
 freeC : ∀ x c, X.env.cells.lookup x = some c -> H c = none
 pin : ∀ p ∈ X.pn ++ pins, s.heap.get? p.1 = some p.2 /\ H p.1 = none /\ p.1 ≠ X.env.locals /\ p.1 ∉ X.fs /\ ∀ v, p.2.data ≠ .cell v
 hok : h7 X.prog X.w H s.heap
 len : σ.length = X.N.length
section
variable {X : Cx} {pins : bL} {σ : List (Option V)} {H H' : Hp} {s : Shared} {h' : Heap}
theorem Cx.Ok.nofr (ok : X.Ok) {b : Addr} {o : Obj} (e : X.base.get? b = some o) : b ∉ X.fs := fun hb => by
 have := (ok.funs.mem hb).1
 rw [e] at this; cases this
theorem Inv.bs (I : Inv X pins σ H s) : ∀ b o, X.base.get? b = some o -> s.heap.get? b = some o /\ H b = none := fun b o e =>
 ⟨I.base.keep b o (I.ok.bs b o e).1 (I.ok.bs b o e).2 (I.ok.nofr e) (I.ok.noex b o e), I.base.free b o (I.ok.bs b o e).1 (I.ok.bs b o e).2 (I.ok.noex b o e)⟩
theorem Inv.bk (I : Inv X pins σ H s) : ∀ b o, X.base.get? b = some o -> s.heap.get? b = some o := fun b o e => (I.bs b o e).1
theorem Inv.mod (I : Inv X pins σ H s) : Mod X.K X.mg X.base := I.ok.mod
theorem Inv.kIn (I : Inv X pins σ H s) : X.K.In s.heap := I.ok.mod.kin.keeps I.bk
theorem Inv.lt (I : Inv X pins σ H s) : X.env.locals < s.heap.objs.size := let ⟨_, hn, _⟩ := I.loc; hn.lt
theorem Inv.sz (I : Inv X pins σ H s) : X.s₀.heap.objs.size ≤ s.heap.objs.size := Nat.le_trans I.ok.above (Nat.le_of_lt I.lt)
theorem Inv.nofs (I : Inv X pins σ H s) {a : Addr} (h : s.heap.objs.size ≤ a) : a ∉ X.fs := fun hb => by
 obtain ⟨_, o, ho, _⟩ := I.ok.funs.mem hb
 exact absurd (Nat.lt_of_lt_of_le (Heap.lt_size ho) (Nat.le_trans I.sz h)) (Nat.lt_irrefl _)
theorem Inv.cne (I : Inv X pins σ H s) : ∀ x c, X.env.cells.lookup x = some c -> c ≠ X.env.locals := fun x c e z => by
 obtain ⟨v, o, ho, hd⟩ := I.cell x c e
 obtain ⟨m, ⟨o', es, ep, ho', hd', _⟩, _⟩ := I.loc
 rw [z, ho'] at ho; cases ho; rw [hd'] at hd; cases hd
theorem Inv.funs (I : Inv X pins σ H s) : s.heap.FunFrames X.base X.outer := by
 have all : ∀ (l : List Env), (∀ b ∈ jg l, b ∈ X.fs) -> X.s₀.heap.FunFrames X.base l -> s.heap.FunFrames X.base l := by
  intro l
  induction l with
  | nil => intro _ _; trivial
  | cons env r ih =>
   intro hs hl
   obtain ⟨hk, ⟨L, o, hf, hn, ho, hd⟩, hr⟩ := hl
   have hL : L ∈ X.fs := hs L (by unfold jg; rw [List.filterMap_cons, hf]; exact List.mem_cons_self)
   obtain ⟨sl, e⟩ := I.base.slot L o ho (I.ok.frf L hL) hL fun z => I.ok.exfs L z hL
   exact ⟨hk, ⟨L, _, hf, hn, e, hd⟩, ih (fun b hb => hs b (by unfold jg; rw [List.filterMap_cons, hf]; exact List.mem_cons_of_mem _ hb)) hr⟩
 exact all X.outer (fun _ hb => hb) I.ok.funs
theorem Inv.stack (I : Inv X pins σ H s) : s.heap.FunFrames X.base X.stack := by
 rcases I.ok.stk with e | ⟨e, hf⟩
 ·rw [e]; exact I.funs
 ·rw [e]
  obtain ⟨m, hn, _⟩ := I.loc
  refine .cons (by rw [I.ok.kind]; decide) hf hn ?_ I.funs
  exact Heap.get?_none_of_le (Nat.le_trans I.ok.bsz I.ok.above)
theorem Inv.stkSub (I : Inv X pins σ H s) : ∀ b ∈ jg X.stack, b ∈ X.env.locals :: X.fs := fun b hb => by
 rcases I.ok.stk with e | ⟨e, hf⟩
 ·rw [e] at hb; exact List.mem_cons_of_mem _ hb
 ·rw [e] at hb
  unfold jg at hb
  rw [List.filterMap_cons, hf] at hb
  exact hb
theorem Inv.stkFree (I : Inv X pins σ H s) : ∀ b ∈ jg X.stack, H b = none := fun b hb => by
 rcases List.mem_cons.mp (I.stkSub b hb) with e | hb
 ·rw [e]; exact I.free
 ·obtain ⟨_, o, ho, _⟩ := I.ok.funs.mem hb
  exact I.base.free b o ho (I.ok.frf b hb) fun z => I.ok.exfs b z hb
theorem Inv.step {g' : Array GenState} {t' : Nat} {d' : Drawn} {ch : List Addr} (I : Inv X pins σ H s)
  (hch : ∀ b ∈ ch, (b ∈ X.ex ∨ X.s₀.heap.get? b = none) /\ b ≠ X.env.locals /\ (∀ x c, X.env.cells.lookup x = some c -> c ≠ b) /\ ∀ p ∈ X.pn ++ pins, p.1 ≠ b)
  (keep : ∀ b o, b ≠ X.env.locals -> b ∉ X.fs -> b ∉ ch -> s.heap.get? b = some o -> H b = none -> h'.get? b = some o)
  (slot : ∀ b o, b ≠ X.env.locals -> b ∈ X.fs -> b ∉ ch -> s.heap.get? b = some o -> H b = none -> ∃ sl, h'.get? b = some { o with slots := sl }) (free : ∀ b o, b ∉ ch -> s.heap.get? b = some o -> H b = none -> H' b = none)
  (there : ∀ b o, b ∉ ch -> s.heap.get? b = some o -> ∃ o', h'.get? b = some o')
  (tups : ∀ b xs, H b = some (.tup xs) -> H' b = some (.tup xs)) (frzs : ∀ b o u, H b = some (.frz o u) -> H' b = some (.frz o u)) (tbls : ∀ b ps, H b = some (.tbl ps) -> ∃ more, H' b = some (.tbl (ps ++ more)))
  (ns : ∀ m, s.heap.Ns X.env.locals m -> h'.Ns X.env.locals m) (hok : h7 X.prog X.w H' h') (hg : AllBare g') :
  Inv X pins σ H' { s with heap := h', gens := g', drawn := d', toks := t' } := by
 have neL : ∀ b o, X.s₀.heap.get? b = some o -> b ≠ X.env.locals := fun b o e => Nat.ne_of_lt (Nat.lt_of_lt_of_le (Heap.lt_size e) I.ok.above)
 have neC : ∀ b o, X.s₀.heap.get? b = some o -> b ∉ X.ex -> b ∉ ch := fun b o e hx hb => by
  rcases (hch b hb).1 with z | z
  ·exact hx z
  ·rw [e] at z; cases z
 have cellK : ∀ x c, X.env.cells.lookup x = some c -> ∀ v, s.heap.IsCell c v -> h'.IsCell c v := fun x c e v ⟨o, ho, hd⟩ => by
  have nch : c ∉ ch := fun z => (hch c z).2.2.1 x c e rfl
  by_cases hc : c ∈ X.fs
  ·obtain ⟨sl, q⟩ := slot c o (I.cne x c e) hc nch ho (I.freeC x c e)
   exact ⟨_, q, hd⟩
  ·exact ⟨o, keep c o (I.cne x c e) hc nch ho (I.freeC x c e), hd⟩
 refine ⟨I.ok, I.os, hg, ⟨fun b o e n hb hx => ?_, fun b o e n hb hx => ?_, fun b o e n hx => ?_, fun b o e hx => ?_, fun b xs e => tups b xs (I.base.tups b xs e), fun b o xs e => frzs b o xs (I.base.frzs b o xs e), fun b ps e => ?_⟩, ?_, fun x c e => ?_, ?_, fun x c e => ?_, fun p hp => ?_, hok, I.len⟩
 ·exact keep b o (neL b o e) hb (neC b o e hx) (I.base.keep b o e n hb hx) (I.base.free b o e n hx)
 ·obtain ⟨sl, e1⟩ := I.base.slot b o e n hb hx
  obtain ⟨sl', e2⟩ := slot b _ (neL b o e) hb (neC b o e hx) e1 (I.base.free b o e n hx)
  exact ⟨sl', e2⟩
 ·obtain ⟨o', e1⟩ := I.base.there b o e hx
  exact free b o' (neC b o e hx) e1 (I.base.free b o e n hx)
 ·obtain ⟨o', e1⟩ := I.base.there b o e hx
  exact there b o' (neC b o e hx) e1
 ·obtain ⟨m1, e1⟩ := I.base.tbls b ps e
  obtain ⟨m2, e2⟩ := tbls b _ e1
  exact ⟨m1 ++ m2, by rw [e2, Array.append_assoc]⟩
 ·obtain ⟨m, hn, hl⟩ := I.loc
  refine ⟨m, ns m hn, fun i x v e1 e2 e3 => ?_⟩
  obtain ⟨u, r, l⟩ := hl i x v e1 e2 e3
  refine ⟨u, r, ?_⟩
  rcases l with l | ⟨k, c, e, z⟩
  ·exact .inl l
  ·exact .inr ⟨k, c, e, cellK x c e _ z⟩
 ·obtain ⟨v, z⟩ := I.cell x c e
  exact ⟨v, cellK x c e v z⟩
 ·obtain ⟨m, ⟨o, _, _, ho, _⟩, _⟩ := I.loc
  exact free _ o (fun z => (hch _ z).2.1 rfl) ho I.free
 ·obtain ⟨v, o, ho, hd⟩ := I.cell x c e
  exact free c o (fun z => (hch c z).2.2.1 x c e rfl) ho (I.freeC x c e)
 ·obtain ⟨e, n, ne, nf, d⟩ := I.pin p hp
  have nch : p.1 ∉ ch := fun z => (hch p.1 z).2.2.2 p hp rfl
  exact ⟨keep p.1 p.2 ne nf nch e n, free p.1 p.2 nch e n, ne, nf, d⟩
theorem Inv.un {t' : Nat} (I : Inv X pins σ H s) (u : Un X.fs [] H H' s.heap h') (hok : h7 X.prog X.w H' h') : Inv X pins σ H' { s with heap := h', toks := t' } := by
 obtain ⟨m, ⟨o, es, ep, ho, r⟩, _⟩ := id I.loc
 obtain ⟨sl, hL⟩ := u.any ho I.free (by simp)
 exact I.step (g' := s.gens) (d' := s.drawn) (ch := []) (fun _ z => nomatch z) (fun b o _ hb _ e n => u.keep b o e n hb (by simp)) (fun b o _ hb _ e n => u.slot b o e n hb (by simp)) (fun b o _ e n => u.free b o e n (by simp)) (fun b o _ e => u.there b o e (by simp)) u.tups u.frzs u.tbls (fun m' hm => by
  obtain ⟨o', es', ep', ho', r'⟩ := hm
  rw [ho] at ho'; cases ho'
  exact ⟨_, es', ep', hL, r'⟩) hok I.bare
theorem Inv.call {g' : Array GenState} {t' : Nat} {d' : Drawn} {ch : List Addr} (I : Inv X pins σ H s) (u : Un (jg X.stack) ch H H' s.heap h') (hok : h7 X.prog X.w H' h') (hg : AllBare g')
  (hch : ∀ b ∈ ch, (b ∈ X.ex ∨ X.s₀.heap.get? b = none) /\ b ≠ X.env.locals /\ (∀ x c, X.env.cells.lookup x = some c -> c ≠ b) /\ ∀ p ∈ X.pn ++ pins, p.1 ≠ b) :
  Inv X pins σ H' { s with heap := h', gens := g', drawn := d', toks := t' } := by
 obtain ⟨m, ⟨o, es, ep, ho, r⟩, _⟩ := id I.loc
 obtain ⟨sl, hL⟩ := u.any ho I.free fun z => (hch _ z).2.1 rfl
 exact I.step (ch := ch) hch (fun b o hL hb hc e n => u.keep b o e n (fun z => (List.mem_cons.mp (I.stkSub b z)).elim hL hb) hc) (fun b o _ _ hc e n => u.any e n hc) (fun b o hc e n => u.free b o e n hc) (fun b o hc e => u.there b o e hc) u.tups u.frzs u.tbls (fun m' hm => by
  obtain ⟨o', es', ep', ho', r'⟩ := hm
  rw [ho] at ho'; cases ho'
  exact ⟨_, es', ep', hL, r'⟩) hok hg
theorem Inv.turned {t' : Nat} {it : Addr} (I : Inv X pins σ H s) (k : ∀ b o, b ≠ it -> s.heap.get? b = some o -> h'.get? b = some o) (hn : H it = none) (hL : it ≠ X.env.locals)
  (h1 : it ∈ X.ex ∨ X.s₀.heap.get? it = none) (h2 : ∀ x c, X.env.cells.lookup x = some c -> c ≠ it) (h3 : ∀ p ∈ X.pn ++ pins, p.1 ≠ it) : Inv X pins σ H { s with heap := h', toks := t' } := by
 have nit : ∀ b u, H b = some u -> b ≠ it := fun b u e z => by rw [z, hn] at e; cases e
 refine I.step (g' := s.gens) (d' := s.drawn) (ch := [it]) (fun b hb => ?_) (fun b o _ _ hc e _ => k b o (fun z => hc (by simp [z])) e) (fun b o _ _ hc e _ => ⟨o.slots, k b o (fun z => hc (by simp [z])) e⟩) (fun _ _ _ _ n => n)
  (fun b o hc e => ⟨o, k b o (fun z => hc (by simp [z])) e⟩) (fun _ _ e => e) (fun _ _ _ e => e) (fun b ps e => ⟨#[], by rw [e]; simp⟩) (fun m hm => ?_) (fun b u e => ?_) I.bare
 ·have e : b = it := by simpa using hb
  subst e
  exact ⟨h1, hL, h2, h3⟩
 ·obtain ⟨o, es, ep, ho, r⟩ := hm
  exact ⟨o, es, ep, k _ o (Ne.symm hL) ho, r⟩
 ·refine (I.hok b u e).stay (fun c v hc q => k c v ?_ q) (fun _ q => q) fun _ _ q => q
  rcases hc with z | z
  ·rw [z]; exact nit b u e
  ·exact nit c _ z
theorem Inv.tok (I : Inv X pins σ H s) (t : Nat) : Inv X pins σ H { s with toks := t } := I.un (h' := s.heap) (t' := t) Un.refl I.hok
theorem Inv.kept {t' : Nat} (I : Inv X pins σ H s) (k : ∀ b u, s.heap.get? b = some u -> h'.get? b = some u) : Inv X pins σ H { s with heap := h', toks := t' } := I.un (Un.kept k) (I.hok.kept k)
theorem Inv.laid {a : Addr} {o : HO} {t' : Nat} (I : Inv X pins σ H s) (k : ∀ b u, s.heap.get? b = some u -> h'.get? b = some u) (hp : s.heap.objs.size ≤ a) (new : ObjOk X.prog X.w (upd H a o) h' a o) :
  Inv X pins σ (upd H a o) { s with heap := h', toks := t' } := I.un (Un.laid k hp (I.hok.fresh hp)) (I.hok.laid k hp new)
theorem Inv.write {x e : Addr} {o : HO} {t' : Nat} (I : Inv X pins σ H s) (mu : A3 (H x)) (he : e = x ∨ H e = some (.own x)) (k : ∀ b u, b ≠ e -> s.heap.get? b = some u -> h'.get? b = some u) (heo : ∃ u, h'.get? e = some u)
  (new : ObjOk X.prog X.w (upd H x o) h' x o) : Inv X pins σ (upd H x o) { s with heap := h', toks := t' } := I.un (Un.write mu he k heo) (I.hok.write mu he k heo new)
theorem Inv.weak {σ' : List (Option V)} (I : Inv X pins σ H s) (hl : σ'.length = σ.length) (w : ∀ (i : Nat) v, σ'[i]? = some (some v) -> σ[i]? = some (some v)) : Inv X pins σ' H s :=
 ⟨I.ok, I.os, I.bare, I.base, let ⟨m, hn, hl'⟩ := I.loc; ⟨m, hn, fun i x v e1 e2 e3 => hl' i x v e1 (w i v e2) e3⟩, I.cell, I.free, I.freeC, I.pin, I.hok, hl.trans I.len⟩
theorem Inv.pins_of {pins' : bL} (I : Inv X pins σ H s) (h : ∀ p ∈ pins', s.heap.get? p.1 = some p.2 /\ H p.1 = none /\ p.1 ≠ X.env.locals /\ p.1 ∉ X.fs /\ ∀ v, p.2.data ≠ .cell v) : Inv X pins' σ H s :=
 ⟨I.ok, I.os, I.bare, I.base, I.loc, I.cell, I.free, I.freeC, fun p hp => (List.mem_append.mp hp).elim (fun z => I.pin p (List.mem_append_left _ z)) (h p), I.hok, I.len⟩
theorem iW {N : List Str} (hN : N.Nodup) {i j : Nat} {x : Str} (a : N[i]? = some x) (b : N[j]? = some x) : i = j := by
 obtain ⟨h1, e1⟩ := List.getElem?_eq_some_iff.mp a
 obtain ⟨h2, e2⟩ := List.getElem?_eq_some_iff.mp b
 exact (List.getElem_inj hN).mp (e1.trans e2.symm)
theorem pF {M : Model} {A : Around} {E : cS} {i : Nat} {x : Str} {v : V} {u : Value} {Q : Unit -> Shared -> Prop} (I : Inv X pins σ H s) (hN : X.N.Nodup) (hi : X.N[i]? = some x) (hx : ub X.env.scope x) (r : bn v u)
  (h : ∀ s', Inv X pins (σ.set i (some v)) H s' -> (∃ a, Heap.SameBut a s.heap s'.heap /\ (a = X.env.locals ∨ X.env.cells.lookup x = some a)) -> Q () s') (hf : X.fn x = true ∨ X.env.scope.names.lookup x = some .local := by first | exact .inl rfl | exact .inr rfl | assumption) : wpAny M A (storeName X.env x u) Q E s := by
 obtain ⟨m, hn, hl⟩ := id I.loc
 have hcls : (X.env.scope.kind == .class || (X.env.scope.kind == .module && X.env.locals != X.env.globals)) = false := by rw [I.ok.kind]; rfl
 have hiσ : i < σ.length := by rw [I.len]; exact (List.getElem?_eq_some_iff.mp hi).1
 have cne := I.cne
 have tracked : ∀ {a : Addr} {h' : Heap}, (∃ o, s.heap.get? a = some o /\ H a = none) -> Heap.SameBut a s.heap h' -> h7 X.prog X.w H h' := fun {a h'} ha hs b ob e => by
  obtain ⟨_, _, hfree⟩ := ha
  refine (I.hok b ob e).stay (fun c w' hc q => (hs.2 c ?_).trans q) (fun _ q => q) fun _ _ q => q
  rintro rfl
  rcases hc with rfl | hc
  ·rw [hfree] at e; cases e
  ·rw [hfree] at hc; cases hc
 rcases hx with hk | hk
 ·refine wpAny_storeName_local hk hn (fun h' hn' hs => ?_) hcls
  obtain ⟨oL, _, _, hoL, _⟩ := id hn
  refine h _ ⟨I.ok, I.os, I.bare, ⟨fun b o e n hb hx => ?_, fun b o e n hb hx => ?_, I.base.free, fun b o e hx => ?_, I.base.tups, I.base.frzs, I.base.tbls⟩, ⟨_, hn', fun j y v' e1 e2 e3 => ?_⟩, fun y c e => ?_, I.free, I.freeC, fun p hp => ?_, tracked ⟨oL, hoL, I.free⟩ hs, by simpa using I.len⟩ ⟨_, hs, .inl rfl⟩
  ·exact (hs.2 b (Nat.ne_of_lt (Nat.lt_of_lt_of_le (Heap.lt_size e) I.ok.above))).trans (I.base.keep b o e n hb hx)
  ·obtain ⟨sl, e1⟩ := I.base.slot b o e n hb hx
   exact ⟨sl, (hs.2 b (Nat.ne_of_lt (Nat.lt_of_lt_of_le (Heap.lt_size e) I.ok.above))).trans e1⟩
  ·obtain ⟨o', e1⟩ := I.base.there b o e hx
   exact ⟨o', (hs.2 b (Nat.ne_of_lt (Nat.lt_of_lt_of_le (Heap.lt_size e) I.ok.above))).trans e1⟩
  ·by_cases hj : j = i
   ·subst hj
    rw [hi] at e1; cases e1
    rw [List.getElem?_set_self hiσ] at e2
    cases e2
    exact ⟨u, r, .inl ⟨hk, by simp⟩⟩
   ·rw [List.getElem?_set_ne (Ne.symm hj)] at e2
    obtain ⟨u', r', q⟩ := hl j y v' e1 e2 e3
    refine ⟨u', r', ?_⟩
    rcases q with ⟨k, e⟩ | ⟨k, c, e, z⟩
    ·refine .inl ⟨k, ?_⟩
     have : y ≠ x := fun e => hj (iW hN e1 (e ▸ hi))
     simp [this, e]
    ·exact .inr ⟨k, c, e, z.sameBut hs (cne y c e)⟩
  ·obtain ⟨w', z⟩ := I.cell y c e
   exact ⟨w', z.sameBut hs (cne y c e)⟩
  ·obtain ⟨e, n, ne, nf, d⟩ := I.pin p hp
   exact ⟨(hs.2 p.1 ne).trans e, n, ne, nf, d⟩
 ·have hfn : X.fn x = true := by
   rcases hf with z | z
   ·exact z
   ·rw [z] at hk; cases hk
  obtain ⟨c, hc⟩ := I.ok.has x (.inl hk)
  obtain ⟨w', z⟩ := I.cell x c hc
  refine wpAny_storeName_cell I.ok.kind hk hc z (fun h' hc' hs => ?_)
  obtain ⟨oc, hoc, hocd⟩ := id z
  refine h { s with heap := h' } ⟨I.ok, I.os, I.bare, ⟨fun b o e n hb hx => ?_, fun b o e n hb hx => ?_, I.base.free, fun b o e hx => ?_, I.base.tups, I.base.frzs, I.base.tbls⟩, ⟨m, hn.sameBut hs (Ne.symm (cne x c hc)), fun j y v' e1 e2 e3 => ?_⟩, fun y c' e => ?_, I.free, I.freeC, fun p hp => ?_, tracked ⟨oc, hoc, I.freeC x c hc⟩ hs, by simpa using I.len⟩ ⟨c, hs, .inr hc⟩
  ·exact (hs.2 b (Nat.ne_of_lt (Nat.lt_of_lt_of_le (Heap.lt_size e) (I.ok.cab x c hfn hc)))).trans (I.base.keep b o e n hb hx)
  ·obtain ⟨sl, e1⟩ := I.base.slot b o e n hb hx
   exact ⟨sl, (hs.2 b (Nat.ne_of_lt (Nat.lt_of_lt_of_le (Heap.lt_size e) (I.ok.cab x c hfn hc)))).trans e1⟩
  ·obtain ⟨o', e1⟩ := I.base.there b o e hx
   exact ⟨o', (hs.2 b (Nat.ne_of_lt (Nat.lt_of_lt_of_le (Heap.lt_size e) (I.ok.cab x c hfn hc)))).trans e1⟩
  ·by_cases hj : j = i
   ·subst hj
    rw [hi] at e1; cases e1
    rw [List.getElem?_set_self hiσ] at e2
    cases e2
    exact ⟨u, r, .inr ⟨.inl hk, c, hc, hc'⟩⟩
   ·rw [List.getElem?_set_ne (Ne.symm hj)] at e2
    obtain ⟨u', r', q⟩ := hl j y v' e1 e2 e3
    refine ⟨u', r', ?_⟩
    rcases q with q | ⟨k, c', e, z'⟩
    ·exact .inl q
    ·refine .inr ⟨k, c', e, z'.sameBut hs ?_⟩
     rintro rfl
     exact hj (iW hN e1 (I.ok.inj _ _ _ e hc ▸ hi))
  ·by_cases hcc : c' = c
   ·subst hcc; exact ⟨_, hc'⟩
   ·obtain ⟨w2, z2⟩ := I.cell y c' e
    exact ⟨w2, z2.sameBut hs hcc⟩
  ·obtain ⟨e, n, ne, nf, d⟩ := I.pin p hp
   refine ⟨(hs.2 p.1 ?_).trans e, n, ne, nf, d⟩
   intro q
   rw [q, hoc] at e
   have q' : oc = p.2 := Option.some.inj e
   exact d w' (by rw [← q']; exact hocd)
theorem d8 {M : Model} {A : Around} {E : cS} {i : Nat} {x : Str} {v : V} {u : Value} {Q : Unit -> Shared -> Prop} (I : Inv X pins σ H s) (hN : X.N.Nodup) (hi : X.N[i]? = some x) (hx : ub X.env.scope x) (r : bn v u)
  (h : ∀ s', Inv X pins (σ.set i (some v)) H s' -> Q () s') (hf : X.fn x = true ∨ X.env.scope.names.lookup x = some .local := by first | exact .inl rfl | exact .inr rfl | assumption) : wpAny M A (storeName X.env x u) Q E s :=
 pF I hN hi hx r (fun s' I' _ => h s' I') hf
theorem Inv.call' {s' : Shared} {ch : List Addr} (I : Inv X pins σ H s) (ho : s'.os = s.os) (u : Un (jg X.stack) ch H H' s.heap s'.heap) (hok : h7 X.prog X.w H' s'.heap) (hg : AllBare s'.gens)
  (hch : ∀ b ∈ ch, (b ∈ X.ex ∨ X.s₀.heap.get? b = none) /\ b ≠ X.env.locals /\ (∀ x c, X.env.cells.lookup x = some c -> c ≠ b) /\ ∀ p ∈ X.pn ++ pins, p.1 ≠ b) : Inv X pins σ H' s' := by
 obtain ⟨h', g', d', t', o'⟩ := s'
 have e : o' = s.os := ho
 subst e
 exact I.call (g' := g') (t' := t') (d' := d') u hok hg hch
end
abbrev XK := Value -> Option Addr -> Hp -> Prop
abbrev St := List (Option V)
abbrev VK := V -> Hp -> Prop
abbrev TE := St -> Hp -> VK -> Prop
abbrev TT := St -> Hp -> (Bool -> Hp -> Prop) -> Prop
abbrev TA := St -> Hp -> (List V -> Hp -> Prop) -> Prop
structure hU where
 nx : St -> Hp -> Prop
 rt : VK
 bk : St -> Hp -> Prop := fun _ _ => False
 ct : St -> Hp -> Prop := fun _ _ => False
abbrev TS := hU -> St -> Hp -> Prop
def EP (X : Cx) (pins : bL) (σ : St) (Q : VK) (u : Value) (s' : Shared) : Prop := ∃ v H', Inv X pins σ H' s' /\ bn v u /\ Q v H'
def TP (X : Cx) (pins : bL) (σ : St) (Q : Bool -> Hp -> Prop) (b : Bool) (s' : Shared) : Prop := ∃ H', Inv X pins σ H' s' /\ Q b H'
def AP (X : Cx) (pins : bL) (σ : St) (Q : List V -> Hp -> Prop) (us : List Value) (s' : Shared) : Prop := ∃ vs H', Inv X pins σ H' s' /\ aW vs us /\ Q vs H'
def SP (X : Cx) (pins : bL) (D : hU) (f : Flow) (s' : Shared) : Prop :=
 match f with
 | .next => ∃ σ' H', Inv X pins σ' H' s' /\ D.nx σ' H'
 | .brk => ∃ σ' H', Inv X pins σ' H' s' /\ D.bk σ' H'
 | .cont => ∃ σ' H', Inv X pins σ' H' s' /\ D.ct σ' H'
 | .ret u => ∃ v σ' H', Inv X pins σ' H' s' /\ bn v u /\ D.rt v H'
def PE (X : Cx) (e : Expr) (t : TE) : Prop :=
 ∀ (pins : bL) (s : Shared) (σ : St) (H : Hp) (Q : VK), Inv X pins σ H s -> t σ H Q -> wpAny (model X.prog X.w) X.A (eval e X.env) (EP X pins σ Q) X.xe s
def PT (X : Cx) (e : Expr) (t : TT) : Prop :=
 ∀ (pins : bL) (s : Shared) (σ : St) (H : Hp) (Q : Bool -> Hp -> Prop), Inv X pins σ H s -> t σ H Q -> wpAny (model X.prog X.w) X.A (isTrue e X.env (eval e X.env)) (TP X pins σ Q) X.xe s
def PW (X : Cx) (e : Expr) (t : TT) : Prop :=
 ∀ (whole : Sem Value) (pins : bL) (s : Shared) (σ : St) (H : Hp) (Q : Bool -> Hp -> Prop), Inv X pins σ H s -> t σ H Q -> wpAny (model X.prog X.w) X.A (isTrue e X.env whole) (TP X pins σ Q) X.xe s
theorem PW.pt {X : Cx} {e : Expr} {t : TT} (h : PW X e t) : PT X e t := h _
def PA (X : Cx) (es : List Expr) (t : TA) : Prop :=
 ∀ (pos : Pos) (pins : bL) (s : Shared) (σ : St) (H : Hp) (Q : List V -> Hp -> Prop), Inv X pins σ H s -> t σ H Q -> wpAny (model X.prog X.w) X.A (spliced (backTo pos (starEach es X.env))) (AP X pins σ Q) X.xe s
def PS (X : Cx) (st : Stmt) (t : TS) : Prop :=
 ∀ (pins : bL) (s : Shared) (σ : St) (H : Hp) (D : hU), Inv X pins σ H s -> t D σ H -> wpAny (model X.prog X.w) X.A (exec st X.env) (SP X pins D) X.xe s
def kh (X : Cx) (st : List Stmt) (t : TS) : Prop :=
 ∀ (pins : bL) (s : Shared) (σ : St) (H : Hp) (D : hU), Inv X pins σ H s -> t D σ H -> wpAny (model X.prog X.w) X.A (execs st X.env) (SP X pins D) X.xe s
theorem bZ {α : Type} {t : Sem α} {Q Q' : α -> Shared -> Prop} {M : Model} {A : Around} {E : cS} {s : Shared} (h : wpAny M A t Q E s) (hQ : ∀ a s, Q a s -> Q' a s) : wpAny M A t Q' E s := wpAny_mono h hQ fun _ _ x => x
end L2
namespace L2
open PySem PySem.Spec PyProof.Rows
section
variable {X : Cx}
def wm (i : Nat) : TE := fun σ H Q => ∃ v, σ[i]? = some (some v) /\ Q v H
def tC (v : V) : TE := fun _ H Q => Q v H
theorem xh {i : Nat} {x : Str} {pos : Pos} (hN : X.N[i]? = some x) (hv : AY X.env.scope x) (hd : (x == ("__debug__" : Str)) = false := by decide) (hcd : (x == ("__classdict__" : Str)) = false := by decide) : PE X (.Name x pos) (wm i) := by
 intro pins s σ H Q I h
 obtain ⟨v, e, h⟩ := h
 obtain ⟨m, hn, hl⟩ := I.loc
 obtain ⟨u, r, l⟩ := hl i x v hN e hv
 have fin : EP X pins σ Q u s := ⟨v, H, I, r, h⟩
 rcases l with ⟨hk, hm⟩ | ⟨hk, c, hc, hcell⟩
 ·exact wpAny_Name (wpAny_loadName_local I.ok.kind hk hn hm fin) hd
 ·rcases hk with hk | hk
  ·exact wpAny_Name (wpAny_loadName_cell I.ok.kind hk hc hcell fin) hd
  ·exact wpAny_Name (wpAny_loadName_free I.ok.kind hk hc hcell fin hcd) hd
theorem xo {i j pos} : PE X (.Constant (.int i) j pos) (tC (.int i)) := fun _ _ _ H _ I h => wpAny_Constant_int ⟨.int i, H, I.tok _, ⟨_, rfl⟩, h⟩
theorem zX {b j pos} : PE X (.Constant (.bool b) j pos) (tC (.bl b)) := fun _ _ _ H _ I h => Constant_bool ⟨.bl b, H, I, rfl, h⟩
theorem xm {j pos} : PE X (.Constant .none j pos) (tC .non) := fun _ _ _ H _ I h => Constant_none ⟨.non, H, I, rfl, h⟩
def Gl (X : Cx) (x : Str) : Prop := X.env.kindOf x = some .globalImplicit
theorem fP {E : cS} {pins : bL} {s : Shared} {σ : St} {H : Hp} {x : Str} {u : Value} {pos : Pos} {Q : cS} (I : Inv X pins σ H s) (hg : Gl X x) (hm : X.mg x = some u) (h : Q u s)
  (hd : (x == ("__debug__" : Str)) = false := by decide) : wpAny (model X.prog X.w) X.A (eval (.Name x pos) X.env) Q E s :=
 Calls.Name_function_global I.ok.kind hg (Calls.loadGlobal_global (by rw [I.ok.glob]; exact I.mod.glob.keeps I.bk) hm h) hd
theorem fF {E : cS} {pins : bL} {s : Shared} {σ : St} {H : Hp} {x : Str} {u : Value} {pos : Pos} {Q : cS} (I : Inv X pins σ H s) (hg : Gl X x) (hm : X.mg x = none) (hv : bootBuiltins x = some u) (h : Q u s)
  (hn : x ≠ "__name__" := by decide) (hd : (x == ("__debug__" : Str)) = false := by decide) : wpAny (model X.prog X.w) X.A (eval (.Name x pos) X.env) Q E s := by
 obtain ⟨mb, h1, h2⟩ := I.mod.blt
 exact Calls.Name_function_global I.ok.kind hg (Calls.loadGlobal_builtin (by rw [I.ok.glob]; exact I.mod.glob.keeps I.bk) hm (by rw [I.ok.blt]; exact h1.keeps I.bk) ((h2 x hn).trans hv) h) hd
theorem uT {x : Str} {v : V} {u : Value} {pos : Pos} (hg : Gl X x) (hm : X.mg x = some u) (r : bn v u) (hd : (x == ("__debug__" : Str)) = false := by decide) : PE X (.Name x pos) (tC v) :=
 fun _ _ _ H _ I h => fP I hg hm ⟨v, H, I, r, h⟩ hd
theorem uX {x : Str} {v : V} {u : Value} {pos : Pos} (hg : Gl X x) (hm : X.mg x = none) (hv : bootBuiltins x = some u) (r : bn v u) (hn : x ≠ "__name__" := by decide) (hd : (x == ("__debug__" : Str)) = false := by decide) : PE X (.Name x pos) (tC v) :=
 fun _ _ _ H _ I h => fF I hg hm hv ⟨v, H, I, r, h⟩ hn hd
def AF (ta tb : TE) (k : Int -> Int -> Hp -> Prop) : St -> Hp -> Prop := fun σ H => ta σ H fun x H1 => tb σ H1 fun y H2 => ∃ i j, x = .int i /\ y = .int j /\ k i j H2
def C0 (ta tb : TE) : TE := fun σ H Q => AF ta tb (fun i j H2 => Q (.int (i + j)) H2) σ H
def CN (ta tb : TE) : TE := fun σ H Q => AF ta tb (fun i j H2 => Q (.int (i - j)) H2) σ H
def CS (ta tb : TE) : TE := fun σ H Q => AF ta tb (fun i j H2 => (-(2 ^ 64) < i /\ i < 2 ^ 64) /\ Q (.int (i * j)) H2) σ H
variable {a b : Expr} {ta tb : TE} {pos : Pos}
def PC (X : Cx) (op : CmpOp) (a b : Expr) (t : TE) : Prop :=
 ∀ (pins : bL) (s : Shared) (σ : St) (H : Hp) (Q : VK), Inv X pins σ H s -> t σ H Q →
  wpAny (model X.prog X.w) X.A (eval a X.env) (fun v s₁ => wpAny (model X.prog X.w) X.A (eval b X.env) (fun u s₂ => wpAny (model X.prog X.w) X.A (compareOp op v u) (EP X pins σ Q) X.xe s₂) X.xe s₁) X.xe s
def pE (p : Int -> Int -> Bool) (ta tb : TE) : TE := fun σ H Q => AF ta tb (fun i j H2 => Q (.bl (p i j)) H2) σ H
abbrev DG : TE -> TE -> TE := pE fun i j => decide (i < j)
abbrev DH : TE -> TE -> TE := pE fun i j => decide (i ≤ j)
abbrev DI : TE -> TE -> TE := pE fun i j => decide (j < i)
abbrev DJ : TE -> TE -> TE := pE fun i j => decide (j ≤ i)
abbrev CV : TE -> TE -> TE := pE fun i j => decide (i = j)
abbrev CQ : TE -> TE -> TE := pE fun i j => !decide (i = j)
def CT (ta : TE) : TE := fun σ H Q => ta σ H fun x H1 => Q (.bl (decide (x = .non))) H1
def B2 (ta : TE) : TE := fun σ H Q => ta σ H fun x H1 => Q (.bl (!decide (x = .non))) H1
def tB (t : TE) : TT := fun σ H Q => t σ H fun x H1 => ∃ c, x = .bl c /\ Q c H1
theorem wY {e : Expr} {t : TE} (h : PE X e t) (he : ∀ whole, isTrue e X.env whole = (do let v ← whole; standAt e.pos; holding [v] (truthy v)) := by intro _; rfl) : PT X e (tB t) := by
 intro pins s σ H Q I hw
 refine isTrue_plain (bZ (h pins s σ H _ I hw) fun v s1 ⟨x, H1, I1, r1, q1⟩ => ?_) (he _)
 obtain ⟨d, rfl, q⟩ := q1
 cases r1
 exact wpAny_truthy_bool ⟨H1, I1, q⟩
variable {tA tB' : TT} {cT : List Expr}
def zo (t u : TT) : TT := fun σ H Q => t σ H fun c H1 => if c = true then u σ H1 Q else Q false H1
def B1 (t u : TT) : TT := fun σ H Q => t σ H fun c H1 => if c = true then Q true H1 else u σ H1 Q
def zh (t : TT) : TT := fun σ H Q => t σ H fun c H1 => Q (!c) H1
theorem uC (ha : PT X a tA) : PW X (.BoolOp .And [a] pos) tA := by
 intro wh pins s σ H Q I h
 refine isTrue_and (bZ (ha pins s σ H Q I h) fun c s1 e => ?_)
 cases c with
 | true => exact isTrue_and_nil e
 | false => exact e
theorem wU (ha : PT X a tA) : PW X (.BoolOp .Or [a] pos) tA := by
 intro wh pins s σ H Q I h
 refine isTrue_or (bZ (ha pins s σ H Q I h) fun c s1 e => ?_)
 cases c with
 | false => exact isTrue_or_nil e
 | true => exact e
theorem wV (ha : PT X a tA) (hb : PW X (.BoolOp .And (b :: cT) pos) tB') : PW X (.BoolOp .And (a :: b :: cT) pos) (zo tA tB') := by
 intro wh pins s σ H Q I h
 refine isTrue_and (bZ (ha pins s σ H _ I h) fun c s1 ⟨H1, I1, q1⟩ => ?_)
 cases c with
 | true => exact hb wh pins s1 σ H1 Q I1 q1
 | false => exact ⟨H1, I1, q1⟩
theorem zO (ha : PT X a tA) (hb : PW X (.BoolOp .Or (b :: cT) pos) tB') : PW X (.BoolOp .Or (a :: b :: cT) pos) (B1 tA tB') := by
 intro wh pins s σ H Q I h
 refine isTrue_or (bZ (ha pins s σ H _ I h) fun c s1 ⟨H1, I1, q1⟩ => ?_)
 cases c with
 | true => exact ⟨H1, I1, q1⟩
 | false => exact hb wh pins s1 σ H1 Q I1 q1
theorem wZ (ha : PT X a tA) : PT X (.UnaryOp .Not a pos) (zh tA) := by
 intro pins s σ H Q I h
 exact isTrue_not (ha pins s σ H (fun c H1 => Q (!c) H1) I h)
def vP (ta tb : TE) : TE := fun σ H Q => ta σ H fun x H1 => ∃ c, x = .bl c /\ if c = true then tb σ H1 Q else Q (.bl false) H1
def CP (ta tb : TE) : TE := fun σ H Q => ta σ H fun x H1 => ∃ c, x = .bl c /\ if c = true then Q (.bl true) H1 else tb σ H1 Q
def vJ (ta : TE) : TE := fun σ H Q => ta σ H fun x H1 => ∃ c, x = .bl c /\ Q (.bl (!c)) H1
theorem xj {op} {t : TE} (h : PE X a t) : PE X (.BoolOp op [a] pos) t := fun pins s σ H Q I hw => BoolOp_one (h pins s σ H Q I hw)
theorem xq (ha : PE X a ta) (hb : PE X (.BoolOp .And (b :: cT) pos) tb) : PE X (.BoolOp .And (a :: b :: cT) pos) (vP ta tb) := by
 intro pins s σ H Q I h
 refine BoolOp_and (bZ (ha pins s σ H _ I h) fun v s1 ⟨x, H1, I1, r1, q1⟩ => ?_)
 obtain ⟨c, rfl, q1⟩ := q1
 cases r1
 refine wpAny_truthy_bool ?_
 cases c with
 | true => exact hb pins s1 σ H1 Q I1 q1
 | false => exact ⟨.bl false, H1, I1, rfl, q1⟩
theorem xk (ha : PE X a ta) : PE X (.UnaryOp .Not a pos) (vJ ta) := by
 intro pins s σ H Q I h
 refine UnaryOp_ (bZ (ha pins s σ H _ I h) fun v s1 ⟨x, H1, I1, r1, q1⟩ => ?_)
 obtain ⟨c, rfl, q1⟩ := q1
 cases r1
 exact not_of (wpAny_truthy_bool ⟨.bl (!c), H1, I1, rfl, q1⟩)
def B5 (t : TT) (ta tb : TE) : TE := fun σ H Q => t σ H fun c H1 => if c = true then ta σ H1 Q else tb σ H1 Q
theorem sO {c : Expr} (hc : PT X c tA) (ha : PE X a ta) (hb : PE X b tb) : PE X (.IfExp c a b pos) (B5 tA ta tb) := by
 intro pins s σ H Q I h
 refine wpAny_IfExp (bZ (hc pins s σ H _ I h) fun d s1 ⟨H1, I1, q1⟩ => ?_)
 cases d with
 | true => exact ha pins s1 σ H1 Q I1 q1
 | false => exact hb pins s1 σ H1 Q I1 q1
end
end L2
namespace L2
open PySem PySem.Spec PyProof.Rows
def aO (K : Fg) (H : Hp) (a : Addr) (xs : List V) : Prop :=
 Rd H a (.lst xs) ∨
  ∃ (o : Obj) (its : Array Value) (n : Nat), K.lookup a = some o /\ o.cls = .type "list" /\ o.dict = none /\ o.data = .seq its n /\ its.size ≤ sizeLine /\ aW xs its.toList
def bt (K : Fg) (H : Hp) (a : Addr) (xs : List V) : Prop :=
 Rd H a (.tup xs) ∨
  ∃ (o : Obj) (its : Array Value) (n : Nat), K.lookup a = some o /\ o.cls = .type "tuple" /\ o.data = .seq its n /\ its.size ≤ sizeLine /\ aW xs its.toList
def BD : Value -> Option V
 | .none => some .non
 | .bool b => some (.bl b)
 | .int i _ => some (.int i)
 | .str x _ => some (.str x)
 | .bytes b _ => some (.byt b)
 | .float b _ => some (.flt b)
 | .ref a => some (.ref a)
 | .type n => some (.ty n)
 | _ => none
theorem bn.abs {x : V} {u : Value} (r : bn x u) : BD u = some x := by
 cases x with
 | non => cases r; rfl
 | bl _ => cases r; rfl
 | int _ => obtain ⟨t, rfl⟩ := r; rfl
 | str _ => obtain ⟨t, rfl⟩ := r; rfl
 | byt _ => obtain ⟨t, rfl⟩ := r; rfl
 | flt _ => obtain ⟨t, rfl⟩ := r; rfl
 | ref _ => cases r; rfl
 | ty _ => cases r; rfl
theorem bn.inj {x y : V} {u : Value} (r : bn x u) (q : bn y u) : x = y := Option.some.inj (r.abs.symm.trans q.abs)
theorem aW.inj : ∀ {xs ys : List V} {us : List Value}, aW xs us -> aW ys us -> xs = ys
 | _, _, _, .nil, .nil => rfl
 | _, _, _, .cons r t, .cons r' t' => by rw [r.inj r', aW.inj t t']
section
variable {X : Cx} {pins : bL} {σ : St} {H : Hp} {s : Shared} {a : Addr} {xs ys : List V}
theorem aO.of {K : Fg} (h : H a = some (.lst xs)) : aO K H a xs := .inl (.inl h)
theorem bt.of {K : Fg} (h : H a = some (.tup xs)) : bt K H a xs := .inl (.inl h)
theorem Inv.list (I : Inv X pins σ H s) (h : aO X.K H a xs) : ∃ its : List Value, aW xs its /\ PlainL s.heap a its.toArray /\ xs.length ≤ sizeLine := by
 rcases h with h | ⟨o, its, n, hk, hc, hd, hs, hz, r⟩
 ·obtain ⟨z, its, n, r, e⟩ := h.ok I.hok
  exact ⟨its, r, ⟨_, n, e, rfl, rfl, rfl⟩, z⟩
 ·refine ⟨its.toList, r, ⟨o, n, I.kIn a o hk, hc, hd, by simpa using hs⟩, ?_⟩
  have e := r.length
  simp only [Array.length_toList] at e
  omega
theorem Inv.tuple (I : Inv X pins σ H s) (h : bt X.K H a xs) : ∃ its : List Value, aW xs its /\ IsTup s.heap a its.toArray /\ xs.length ≤ sizeLine := by
 rcases h with h | ⟨o, its, n, hk, hc, hs, hz, r⟩
 ·obtain ⟨z, its, r, p⟩ := h.ok I.hok
  exact ⟨its, r, p, z⟩
 ·refine ⟨its.toList, r, ⟨o, I.kIn a o hk, hc, n, by simpa using hs⟩, ?_⟩
  have e := r.length
  simp only [Array.length_toList] at e
  omega
theorem Inv.list_inj (I : Inv X pins σ H s) (h : aO X.K H a xs) (h' : aO X.K H a ys) : xs = ys := by
 obtain ⟨its, r, ⟨o, n, e, _, _, d⟩, _⟩ := I.list h
 obtain ⟨its', r', ⟨o', n', e', _, _, d'⟩, _⟩ := I.list h'
 rw [e] at e'; cases e'
 rw [d] at d'
 injection d' with d1 _
 have : its = its' := by simpa using congrArg Array.toList d1
 subst this
 exact r.inj r'
theorem Inv.tuple_inj (I : Inv X pins σ H s) (h : bt X.K H a xs) (h' : bt X.K H a ys) : xs = ys := by
 obtain ⟨its, r, ⟨o, e, _, n, d⟩, _⟩ := I.tuple h
 obtain ⟨its', r', ⟨o', e', _, n', d'⟩, _⟩ := I.tuple h'
 rw [e] at e'; cases e'
 rw [d] at d'
 injection d' with d1 _
 have : its = its' := by simpa using congrArg Array.toList d1
 subst this
 exact r.inj r'
end
abbrev Cx.wish (X : Cx) (E : cS) : Cx := { X with xe := E }
abbrev Cx.nox (X : Cx) : Cx := X.wish fun _ _ => False
theorem Cx.Ok.wish {X : Cx} (ok : X.Ok) (E : cS) : (X.wish E).Ok :=
 ⟨ok.mod, ok.kind, ok.glob, ok.blt, ok.above, ok.inj, ok.has, ok.cab, ok.hd, ok.frames, ok.stk, ok.exf, ok.bs, ok.bsz, ok.noex, ok.exfs, ok.funs, ok.frf⟩
theorem Cx.Ok.unwish {X : Cx} {E : cS} (ok : (X.wish E).Ok) : X.Ok :=
 ⟨ok.mod, ok.kind, ok.glob, ok.blt, ok.above, ok.inj, ok.has, ok.cab, ok.hd, ok.frames, ok.stk, ok.exf, ok.bs, ok.bsz, ok.noex, ok.exfs, ok.funs, ok.frf⟩
section
variable {X : Cx} {pins : bL} {σ : St} {H : Hp} {s : Shared} {E : cS}
theorem Inv.wish (I : Inv X pins σ H s) (E : cS) : Inv (X.wish E) pins σ H s := ⟨I.ok.wish E, I.os, I.bare, I.base, I.loc, I.cell, I.free, I.freeC, I.pin, I.hok, I.len⟩
theorem Inv.unwish (I : Inv (X.wish E) pins σ H s) : Inv X pins σ H s := ⟨I.ok.unwish, I.os, I.bare, I.base, I.loc, I.cell, I.free, I.freeC, I.pin, I.hok, I.len⟩
theorem SP.unwish {D : hU} {f : Flow} {s' : Shared} (h : SP (X.wish E) pins D f s') : SP X pins D f s' := by
 cases f with
 | next => obtain ⟨σ', H', I, q⟩ := h; exact ⟨σ', H', I.unwish, q⟩
 | brk => obtain ⟨σ', H', I, q⟩ := h; exact ⟨σ', H', I.unwish, q⟩
 | cont => obtain ⟨σ', H', I, q⟩ := h; exact ⟨σ', H', I.unwish, q⟩
 | ret u => obtain ⟨v, σ', H', I, r, q⟩ := h; exact ⟨v, σ', H', I.unwish, r, q⟩
theorem kh.nox {st : List Stmt} {t : TS} (h : kh X.nox st t) : kh X st t := fun pins s σ H D I hw =>
 wpAny_mono (h pins s σ H D (I.wish _) hw) (fun _ _ q => q.unwish) fun _ _ z => False.elim z
end
section
variable {X : Cx} {st : Stmt} {cT : List Stmt} {t u : TS} {e : Expr} {te : TE} {pos : Pos}
def vK : TS := fun D σ H => D.nx σ H
def ze (t u : TS) : TS := fun D σ H => t { D with nx := u D } σ H
theorem uH : kh X [] vK := fun _ _ σ H _ I h => wpAny_execs_nil ⟨σ, H, I, h⟩
theorem so (h1 : PS X st t) (h2 : kh X cT u) : kh X (st :: cT) (ze t u) := by
 intro pins s σ H D I h
 refine wpAny_execs_cons (bZ (h1 pins s σ H { D with nx := u D } I h) fun f s1 q => ?_)
 cases f with
 | next =>
  obtain ⟨σ', H', I', q⟩ := q
  exact h2 pins s1 σ' H' D I' q
 | ret v => exact q
 | brk => exact q
 | cont => exact q
theorem uG (h1 : PS X st t) : kh X [st] t := by
 intro pins s σ H D I h
 refine wpAny_execs_cons (bZ (h1 pins s σ H D I h) fun f s1 q => ?_)
 cases f with
 | next => exact wpAny_execs_nil q
 | ret v => exact q
 | brk => exact q
 | cont => exact q
def Bj : TS := fun D σ H => D.bk σ H
def vN : TS := fun D σ H => D.ct σ H
theorem mD : PS X (.Continue pos) vN := fun _ _ σ H _ I h => wpAny_Continue ⟨σ, H, I, h⟩
theorem Inv.quiet {pins : bL} {σ : St} {H : Hp} {s : Shared} (I : Inv X pins σ H s) : interactive X.env = false := by simp [interactive, I.ok.kind]
def vM (te : TE) : TS := fun D σ H => te σ H fun _ H1 => D.nx σ H1
theorem uK (he : PE X e te) (hs : swapsWith e none pos.line X.env = pure false := by rfl) : PS X (.Expr e pos) (vM te) := by
 intro pins s σ H D I h
 exact wpAny_Expr_any (bZ (he pins s σ H _ I h) fun v s1 ⟨x, H1, I1, r1, q1⟩ => ⟨σ, H1, I1, q1⟩) I.quiet hs
def zf (te : TE) : TS := fun D σ H => te σ H D.rt
theorem w6 (he : PE X e te) : PS X (.Return (some e) pos) (zf te) := by
 intro pins s σ H D I h
 exact wpAny_Return_some (bZ (he pins s σ H _ I h) fun v s1 ⟨x, H1, I1, r1, q1⟩ => ⟨x, σ, H1, I1, r1, q1⟩)
def BZ : TS := fun D _ H => D.rt .non H
def zk (c : TT) (t u : TS) : TS := fun D σ H => c σ H fun b H1 => if b = true then t D σ H1 else u D σ H1
theorem zP {c : Expr} {a b : List Stmt} {tc : TT} (hc : PT X c tc) (ha : kh X a t) (hb : kh X b u) : PS X (.If c a b pos) (zk tc t u) := by
 intro pins s σ H D I h
 refine wpAny_If (bZ (hc pins s σ H _ I h) fun d s1 ⟨H1, I1, q1⟩ => ?_)
 cases d with
 | true => exact ha pins s1 σ H1 D I1 q1
 | false => exact hb pins s1 σ H1 D I1 q1
def rB : TS := fun _ _ _ => False
theorem sw : PS X st rB := fun _ _ _ _ _ _ h => h.elim
end
abbrev TG := V -> St -> Hp -> (St -> Hp -> Prop) -> Prop
abbrev qN := List V -> St -> Hp -> (St -> Hp -> Prop) -> Prop
def PG (X : Cx) (target : Expr) (t : TG) : Prop :=
 ∀ (pins : bL) (s : Shared) (σ : St) (H : Hp) (v : V) (u : Value) (Q : St -> Hp -> Prop), Inv X pins σ H s -> bn v u -> t v σ H Q →
  wpAny (model X.prog X.w) X.A (assign target X.env u) (fun _ s' => ∃ σ' H', Inv X pins σ' H' s' /\ Q σ' H') X.xe s
def yV (X : Cx) (ts : List Expr) (t : qN) : Prop :=
 ∀ (pins : bL) (s : Shared) (σ : St) (H : Hp) (vs : List V) (us : List Value) (Q : St -> Hp -> Prop), Inv X pins σ H s -> aW vs us -> t vs σ H Q →
  wpAny (model X.prog X.w) X.A (assignInOrder ((assignEach ts X.env).map (·.2)) us) (fun _ s' => ∃ σ' H', Inv X pins σ' H' s' /\ Q σ' H') X.xe s
abbrev t8 := V -> V -> V -> Hp -> (Hp -> Prop) -> Prop
def yH (X : Cx) (t : t8) : Prop :=
 ∀ (pins : bL) (s : Shared) (σ : St) (H : Hp) (o i v : V) (ov iv u : Value) (Q : Hp -> Prop), Inv X pins σ H s -> bn o ov -> bn i iv -> bn v u -> t o i v H Q →
  wpAny (model X.prog X.w) X.A (setItem ov iv u) (fun _ s' => ∃ H', Inv X pins σ H' s' /\ Q H') X.xe s
abbrev A1 := V -> V -> Hp -> VK -> Prop
def DZ (X : Cx) (op : Operator) (t : A1) : Prop :=
 ∀ (pins : bL) (s : Shared) (σ : St) (H : Hp) (x y : V) (v u : Value) (Q : VK), Inv X pins σ H s -> bn x v -> bn y u -> t x y H Q →
  wpAny (model X.prog X.w) X.A (inplaceOp op v u) (EP X pins σ Q) X.xe s
section
variable {X : Cx} {pos : Pos}
def gF (i : Nat) : TG := fun v σ H Q => Q (σ.set i (some v)) H
theorem uR {i : Nat} {x : Str} (hN : X.N.Nodup) (hi : X.N[i]? = some x) (hx : ub X.env.scope x) (hf : X.fn x = true ∨ X.env.scope.names.lookup x = some .local := by first | exact .inl rfl | exact .inr rfl | assumption) : PG X (.Name x pos) (gF i) := by
 intro pins s σ H v u Q I r h
 exact wpAny_assign_Name (d8 I hN hi hx r (fun s' I' => ⟨_, H, I', h⟩) hf)
def Ao : qN := fun vs σ H Q => vs = [] /\ Q σ H
def vZ (t : TG) (u : qN) : qN := fun vs σ H Q => ∃ v r, vs = v :: r /\ t v σ H fun σ' H' => u r σ' H' Q
theorem uP : yV X [] Ao := by
 intro pins s σ H vs us Q I r h
 obtain ⟨e, h⟩ := h
 subst e
 cases r
 exact assignInOrder_nil ⟨σ, H, I, h⟩
theorem sI {e : Expr} {es : List Expr} {t : TG} {u : qN} (h1 : PG X e t) (h2 : yV X es u)
  (hs : (assignEach (e :: es) X.env).map (·.2) = assign e X.env :: (assignEach es X.env).map (·.2) := by rfl) : yV X (e :: es) (vZ t u) := by
 intro pins s σ H vs us Q I r h
 obtain ⟨v, vr, e1, h⟩ := h
 subst e1
 cases r with
 | cons r rr =>
  rw [hs]
  refine assignInOrder_cons (bZ (h1 pins s σ H _ _ _ I r h) fun _ s1 ⟨σ1, H1, I1, q1⟩ => ?_)
  exact h2 pins s1 σ1 H1 _ _ Q I1 rr q1
def vi (K : Fg) (n : Nat) (t : qN) : TG := fun v σ H Q => ∃ a xs, v = .ref a /\ bt K H a xs /\ xs.length = n /\ t xs σ H Q
theorem sJ {es : List Expr} {k : Nat} {t : qN} {n : Nat} (hc : X.calm = true) (h : yV X es t)
  (hn : (assignEach es X.env).length = n := by rfl) (hst : (assignEach es X.env).findIdx? (·.1) = none := by rfl) : PG X (.Tuple es k pos) (vi X.K n t) := by
 intro pins s σ H v u Q I r hw
 obtain ⟨a, xs, e1, hq, hl, hw⟩ := hw
 subst e1
 cases r
 obtain ⟨its, rv, ht, hz⟩ := I.tuple hq
 refine assign_Tuple_tuple (I.ok.hd hc) ht (by simp [hn, ← hl, rv.length]) hst fun h' hx => ?_
 have I1 : Inv X pins σ H { s with heap := h' } := I.kept (t' := s.toks) fun b o e => hx b o (Nat.ne_of_lt (Heap.lt_size e)) e
 exact h pins _ σ H xs _ Q I1 (by simpa using rv) hw
def An (to ti : TE) (t : t8) : TG := fun v σ H Q => to σ H fun o H1 => ti σ H1 fun i H2 => t o i v H2 fun H3 => Q σ H3
theorem xg {o i : Expr} {to ti : TE} {t : t8} (ho : PE X o to) (hi : PE X i ti) (hs : yH X t)
  (ha : ∀ v, assign (.Subscript o i pos) X.env v = (do
   let ov ← holding [v] (eval o X.env)
   let iv ← holding [v, ov] (eval i X.env)
   standAt pos
   holding [v, ov, iv] (setItem ov iv v)
   release [v, ov, iv] []) := by intro _; rfl) : PG X (.Subscript o i pos) (An to ti t) := by
 intro pins s σ H v u Q I r h
 rw [ha]
 refine wpAny_bind (wpAny_holding (bZ (ho pins s σ H _ I h) fun ov s1 ⟨x, H1, I1, r1, q1⟩ => ?_))
 refine wpAny_bind (wpAny_holding (bZ (hi pins s1 σ H1 _ I1 q1) fun iv s2 ⟨y, H2, I2, r2, q2⟩ => ?_))
 refine wpAny_bind (wpAny_standAt (wpAny_bind (wpAny_holding (bZ (hs pins s2 σ H2 x y v ov iv u _ I2 r1 r2 r q2) fun _ s3 ⟨H3, I3, q3⟩ => ?_))))
 exact wpAny_release ⟨σ, H3, I3, q3⟩
def kr (te : TE) (g : TG) : TS := fun D σ H => te σ H fun x H1 => g x σ H1 D.nx
theorem xc {tg e : Expr} {te : TE} {g : TG} (he : PE X e te) (hg : PG X tg g) (hs : swapsWithSole [tg] e pos.line X.env = pure false := by rfl) (hw : swappedStores [tg] e X.env = pure none := by rfl)
  (h1 : (assignEach [tg] X.env).map (·.2) = [assign tg X.env] := by rfl) : PS X (.Assign [tg] e pos) (kr te g) := by
 intro pins s σ H D I h
 refine wpAny_Assign_stores (bZ (he pins s σ H _ I h) fun v s1 ⟨x, H1, I1, r1, q1⟩ => ?_) hs hw
 rw [h1]
 exact bZ (hg pins s1 σ H1 x v _ I1 r1 q1) fun _ s2 q => q
theorem w4 {i : Nat} {x : Str} {e : Expr} {te : TE} {pos' : Pos} (hN : X.N.Nodup) (hi : X.N[i]? = some x) (hx : ub X.env.scope x) (he : PE X e te) (hs : swapsWith e (some (.Name x pos')) pos.line X.env = pure false := by rfl) (hf : X.fn x = true ∨ X.env.scope.names.lookup x = some .local := by first | exact .inl rfl | exact .inr rfl | assumption) :
  PS X (.Assign [.Name x pos'] e pos) (kr te (gF i)) := by
 intro pins s σ H D I h
 refine wpAny_Assign_Name (bZ (he pins s σ H _ I h) fun v s1 ⟨y, H1, I1, r1, q1⟩ => ?_) hs
 exact d8 I1 hN hi hx r1 (fun s2 I2 => ⟨_, H1, I2, q1⟩) hf
def zg (i j : Nat) (ta : TA) : TS := fun D σ H => ta σ H fun vs H1 => ∃ v w, vs = [v, w] /\ D.nx ((σ.set i (some v)).set j (some w)) H1
theorem w9 {i j : Nat} {x y : Str} {a b : Expr} {ta : TA} {px py pt : Pos} {kt k2 pt2} (hc : X.calm = true) (hN : X.N.Nodup) (hi : X.N[i]? = some x) (hj : X.N[j]? = some y) (hij : i ≠ j)
  (hx : X.env.scope.names.lookup x = some .local) (hy : X.env.scope.names.lookup y = some .local) (ha : PA X [a, b] ta)
  (hw : swappedStores [.Tuple [.Name x px, .Name y py] kt pt] (.Tuple [a, b] k2 pt2) X.env = pure (some [x, y]))
  (hs : swapsWithSole [.Tuple [.Name x px, .Name y py] kt pt] (.Tuple [a, b] k2 pt2) pos.line X.env = pure false := by rfl) :
  PS X (.Assign [.Tuple [.Name x px, .Name y py] kt pt] (.Tuple [a, b] k2 pt2) pos) (zg i j ta) := by
 intro pins s σ H D I h
 rw [exec_Assign_arm]
 refine wpAny_bind (wpAny_standAt ?_)
 rw [hs]
 refine wpAny_bind (wpAny_pure ?_)
 rw [if_neg (by decide)]
 refine wpAny_bind (Tuple_ (bZ (ha _ pins s σ H _ I h) fun us s1 ⟨vs, H1, I1, r1, q1⟩ => ?_))
 obtain ⟨v, w, e1, q1⟩ := q1
 subst e1
 obtain ⟨u1, u2, rfl, rv, rw'⟩ : ∃ u1 u2, us = [u1, u2] /\ bn v u1 /\ bn w u2 := by
  cases r1 with
  | cons p q =>
   cases q with
   | cons p' q' =>
    cases q'
    exact ⟨_, _, rfl, p, p'⟩
 refine wpAny_newObj_type ?_ km
 have I2 : Inv X pins σ H1 { s1 with heap := s1.heap.push { cls := .type "tuple", data := .seq [u1, u2].toArray } } := I1.kept (t' := s1.toks) fun b o e => Heap.get?_push_of_some _ e
 rw [hw]
 refine wpAny_bind (wpAny_pure ?_)
 show wpAny (model X.prog X.w) X.A (do rule "assign.swapped-stores"; let items ← unpackItems (.ref s1.heap.objs.size) 2 none; assignInOrder [fun v => bindName X.env y v, fun v => bindName X.env x v] items.reverse; pure Flow.next) _ _ _
 refine wpAny_bind (wpAny_rule (wpAny_bind (unpackItems_tuple (items := #[u1, u2]) (I.ok.hd hc) (IsTup.new s1.heap _) fun h' hx' => ?_)))
 have I3 := I2.kept (h' := h') (t' := s1.toks) fun b o e => hx' b o (Nat.ne_of_lt (Heap.lt_size e)) e
 show wpAny _ _ (assignInOrder [fun v => bindName X.env y v, fun v => bindName X.env x v] [u2, u1] >>= fun _ => pure Flow.next) _ _ _
 refine wpAny_bind (assignInOrder_cons (wpAny_bindName (d8 I3 hN hj (.inl hy) rw' (fun s2 I4 => ?_) (.inr hy))))
 refine assignInOrder_cons (wpAny_bindName (d8 I4 hN hi (.inl hx) rv (fun s3 I5 => assignInOrder_nil (wpAny_pure ?_)) (.inr hx)))
 rw [List.set_comm _ _ (Ne.symm hij)] at I5
 exact ⟨_, H1, I5, q1⟩
def CZ (i : Nat) (te : TE) (ti : A1) : TS := fun D σ H => ∃ x, σ[i]? = some (some x) /\ te σ H fun y H1 => ti x y H1 fun z H2 => D.nx (σ.set i (some z)) H2
def B9 (to ti te : TE) (tget : V -> V -> Hp -> VK -> Prop) (tip : A1) (tset : t8) : TS := fun D σ H => to σ H fun o H1 => ti σ H1 fun i H2 => tget o i H2 fun x H3 => te σ H3 fun y H4 => tip x y H4 fun z H5 => tset o i z H5 fun H6 => D.nx σ H6
def Ds (X : Cx) (t : V -> V -> Hp -> VK -> Prop) : Prop :=
 ∀ (pins : bL) (s : Shared) (σ : St) (H : Hp) (o i : V) (ov iv : Value) (Q : VK), Inv X pins σ H s -> bn o ov -> bn i iv -> t o i H Q →
  wpAny (model X.prog X.w) X.A (getItem ov iv) (EP X pins σ Q) X.xe s
def DQ (f : Int -> Int -> Int) : A1 := fun x y H Q => ∃ i j, x = .int i /\ y = .int j /\ Q (.int (f i j)) H
end
section
variable {X : Cx} {pos : Pos}
def rj (c : TT) (tb : TS) : TS := fun D σ H => ∃ W : Nat -> St -> Hp -> Prop, (∃ m, W m σ H) /\ ∀ m σ H, W m σ H →
 c σ H fun b H1 => if b = true then ∃ N : St -> Hp -> Prop, (∀ σ' H', N σ' H' -> ∃ m', m' < m /\ W m' σ' H') /\ tb { D with nx := N, ct := N, bk := D.nx } σ H1 else D.nx σ H1
theorem sq {c : Expr} {body : List Stmt} {tc : TT} {tb : TS} (hp : PassesOwn (model X.prog X.w) X.A X.env X.xe) (hc : PT X c tc) (hb : kh X body tb) : PS X (.While c body [] pos) (rj tc tb) := by
 intro pins s σ H D I h
 obtain ⟨W, ⟨m0, w0⟩, turn⟩ := h
 refine wpAny_While (codeAny_whileLoop (fun n s' => ∃ σ' H', Inv X pins σ' H' s' /\ W n σ' H') ?_ m0 ⟨σ, H, I, w0⟩)
 rintro n s1 ⟨σ1, H1, I1, w1⟩
 refine wpAny_passesOwn hp (bZ (hc pins s1 σ1 H1 _ I1 (turn n σ1 H1 w1)) fun b s2 ⟨H2, I2, q2⟩ => ?_)
 cases b with
 | true =>
  obtain ⟨N, hN, q2⟩ := q2
  rw [if_pos rfl]
  refine wpAny_passesOwn hp (bZ (hb pins s2 σ1 H2 _ I2 q2) fun f s3 q3 => ?_)
  cases f with
  | next =>
   obtain ⟨σ3, H3, I3, n3⟩ := q3
   obtain ⟨m', hm, w3⟩ := hN σ3 H3 n3
   exact ⟨m', hm, σ3, H3, I3, w3⟩
  | cont =>
   obtain ⟨σ3, H3, I3, n3⟩ := q3
   obtain ⟨m', hm, w3⟩ := hN σ3 H3 n3
   exact ⟨m', hm, σ3, H3, I3, w3⟩
  | brk => exact q3
  | ret v => exact q3
 | false =>
  rw [if_neg Bool.false_ne_true]
  exact wpAny_execs_nil ⟨σ1, H2, I2, q2⟩
end
structure It where
 go : Nat -> Hp -> Prop
 yld : Nat -> Hp -> V -> Hp -> Prop
 stop : Nat -> Hp -> Prop
def d0 (X : Cx) (pins : bL) (H : Hp) (b : Addr) : Prop :=
 H b = none /\ b ≠ X.env.locals /\ b ∉ X.fs /\ (b ∈ X.ex ∨ X.s₀.heap.get? b = none) /\ (∀ x c, X.env.cells.lookup x = some c -> c ≠ b) /\ ∀ p ∈ X.pn ++ pins, p.1 ≠ b
theorem Inv.fpOk {X : Cx} {pins : bL} {σ : St} {H H' : Hp} {s : Shared} {b : Addr} (I : Inv X pins σ H s) (hb : s.heap.objs.size ≤ b) (hn : H' b = none) : d0 X pins H' b := by
 refine ⟨hn, Nat.ne_of_gt (Nat.lt_of_lt_of_le I.lt hb), I.nofs hb, .inr (Heap.get?_none_of_le (Nat.le_trans I.sz hb)), fun x c e z => ?_, fun p hp z => ?_⟩
 ·obtain ⟨v, q⟩ := I.cell x c e
  exact absurd (Nat.lt_of_lt_of_le q.lt (by rw [z]; exact hb)) (Nat.lt_irrefl _)
 ·exact absurd (Nat.lt_of_lt_of_le (Heap.lt_size (I.pin p hp).1) (by rw [z]; exact hb)) (Nat.lt_irrefl _)
structure t7 (P : Program) (w : World) (K : Fg) (tg : Expr) (J : It) (fp : List Addr) (it : Addr) (tn : Nat -> Heap -> Prop) : Prop where
 mem : it ∈ fp
 obj : ∀ i h, tn i h -> ∀ b ∈ fp, ∃ o, h.get? b = some o /\ ∀ v, o.data ≠ .cell v
 keep : ∀ i h h', tn i h -> (∀ b ∈ fp, ∀ o, h.get? b = some o -> h'.get? b = some o) -> tn i h'
 item : ∀ (X : Cx), X.prog = P -> X.w = w -> X.K = K -> X.calm = true -> ∀ (i : Nat) (pins : bL) (s : Shared) (σ : St) (H : Hp) (E : cS), Inv X pins σ H s -> (∀ b ∈ fp, d0 X pins H b) -> tn i s.heap -> J.go i H →
  wpAny (model P w) X.A (pyNext (.ref it)) (fun r s1 => ∃ u, r = some u ∧
   wpAny (model P w) X.A (letOwnedTupleGo tg (.ref it) u) (fun _ s2 => ∃ x H', Inv X pins σ H' s2 /\ bn x u /\ J.yld i H x H' /\ tn (i + 1) s2.heap /\ ∀ b ∈ fp, H' b = none) E s1) E s
 done : ∀ (X : Cx), X.prog = P -> X.w = w -> X.K = K -> X.calm = true -> ∀ (i : Nat) (pins : bL) (s : Shared) (σ : St) (H : Hp) (E : cS), Inv X pins σ H s -> (∀ b ∈ fp, d0 X pins H b) -> tn i s.heap -> J.stop i H →
  wpAny (model P w) X.A (pyNext (.ref it)) (fun r s1 => r = none /\ Inv X pins σ H s1) E s
 self : ∀ (A : Around) (i : Nat) (s : Shared) (Q : cS) (E : cS), tn i s.heap -> Q (.ref it) s -> wpAny (model P w) A (pyIter (.ref it)) Q E s
abbrev TI := St -> Hp -> (It -> Hp -> Prop) -> Prop
def CB (X : Cx) (pins : bL) (σ : St) (tg : Expr) (R : It -> Hp -> Prop) (itv : Value) (s2 : Shared) : Prop :=
 ∃ (it : Addr) (fp : List Addr) (tn : Nat -> Heap -> Prop) (J : It) (H' : Hp), itv = .ref it /\ Inv X pins σ H' s2 /\ t7 X.prog X.w X.K tg J fp it tn /\ tn 0 s2.heap /\ (∀ b ∈ fp, d0 X pins H' b) /\ R J H'
def PI (X : Cx) (tg iter : Expr) (wi : TI) : Prop :=
 ∀ (pins : bL) (s : Shared) (σ : St) (H : Hp) (R : It -> Hp -> Prop), Inv X pins σ H s -> wi σ H R →
  wpAny (model X.prog X.w) X.A (eval iter X.env) (fun v s1 => wpAny (model X.prog X.w) X.A (pyIter v) (CB X pins σ tg R) X.xe s1) X.xe s
theorem tK {M : Model} {A : Around} {E : cS} {s : Shared} {tg : Expr} {it : Addr} {u : Value} {o : Obj} {n : String} {vs : Array Value} {Q : Unit -> Shared -> Prop} (ho : s.heap.get? it = some o) (hc : o.cls = .type n) (hd : o.data = .fields vs)
  (hn : ["enumerate", "zip", "dict_itemiterator", "dict_reverseitemiterator", "odict_iterator", "itertools.zip_longest", "itertools.pairwise"].contains n = false) (hQ : Q () s) : wpAny M A (letOwnedTupleGo tg (.ref it) u) Q E s := by
 unfold letOwnedTupleGo
 cases tg <;> first
  | exact wpAny_pure hQ
  | (cases u <;> first
    | exact wpAny_pure hQ
    | (refine wpAny_bind (wpAny_load ho ?_)
       rw [hc, hd]
       show wpAny M A (if (["enumerate", "zip", "dict_itemiterator", "dict_reverseitemiterator", "odict_iterator", "itertools.zip_longest", "itertools.pairwise"].contains n && vs[0]? == some (rawInt _)) = true then _ else _) Q E s
       rw [if_neg (by intro h; rw [hn, Bool.false_and] at h; cases h)]
       exact wpAny_pure hQ))
def uc (K : Fg) (a : Addr) : It :=
 ⟨fun i H => ∃ xs x, aO K H a xs /\ xs[i]? = some x, fun i H x H' => H' = H /\ ∀ xs, aO K H a xs -> xs[i]? = some x, fun i H => ∃ xs, aO K H a xs /\ xs.length ≤ i⟩
def ue (K : Fg) (a : Addr) : It :=
 ⟨fun i H => ∃ xs x, bt K H a xs /\ xs[i]? = some x, fun i H x H' => H' = H /\ ∀ xs, bt K H a xs -> xs[i]? = some x, fun i H => ∃ xs, bt K H a xs /\ xs.length ≤ i⟩
def vC (lo : Int) (n : Nat) : It := ⟨fun i _ => i < n, fun i H x H' => H' = H /\ x = .int (lo + i), fun i _ => n ≤ i⟩
theorem pC {P : Program} {w : World} {K : Fg} {tg : Expr} (a it : Addr) : t7 P w K tg (uc K a) [it] it (fun i h => h.IsListIter it a i) where
 mem := by simp
 obj := fun i h st b hb => by
  have e : b = it := by simpa using hb
  subst e
  obtain ⟨o, e, c, d⟩ := st
  exact ⟨o, e, fun v z => by rw [d] at z; cases z⟩
 keep := fun i h h' st k => st.at fun o e => k it (by simp) o e
 item := by
  intro X hP hw hK hc i pins s σ H E I hf st hg
  subst hP hw hK
  obtain ⟨xs, x, hq, hx⟩ := hg
  obtain ⟨its, rv, p, hz⟩ := I.list hq
  obtain ⟨u, hu, ru⟩ := rv.get hx
  obtain ⟨f0, f1, f2, f3, f4, f5⟩ := hf it (by simp)
  refine wpAny_pyNext_list_item st p.isList (x := u) (by simpa using hu) fun h' st' sb => ?_
  have I1 : Inv X pins σ H { s with heap := h' } := I.turned (t' := s.toks) (fun b o hb e => (sb.2 b hb).trans e) f0 f1 f3 f4 f5
  obtain ⟨o, e, c, d⟩ := id st'
  exact ⟨u, rfl, tK (s := { s with heap := h' }) e c d (by decide) ⟨x, H, I1, ru, ⟨rfl, fun ys hy => by rw [I.list_inj hy hq]; exact hx⟩, st', fun b hb => (hf b hb).1⟩⟩
 done := by
  intro X hP hw hK hc i pins s σ H E I hf st hg
  subst hP hw hK
  obtain ⟨xs, hq, hx⟩ := hg
  obtain ⟨its, rv, p, hz⟩ := I.list hq
  obtain ⟨f0, f1, f2, f3, f4, f5⟩ := hf it (by simp)
  have hl := rv.length
  exact wpAny_pyNext_list_end (I.ok.hd hc) st p.isList (by simp; omega) fun h' eb => ⟨rfl, I.turned (t' := s.toks) (fun b o hb e => eb b o hb e) f0 f1 f3 f4 f5⟩
 self := fun _ _ _ _ _ st h => wpAny_pyIter_listiter st h
theorem m7 {P : Program} {w : World} {K : Fg} {tg : Expr} (a it : Addr) : t7 P w K tg (ue K a) [it] it (fun i h => h.IsTupleIter it a i) where
 mem := by simp
 obj := fun i h st b hb => by
  have e : b = it := by simpa using hb
  subst e
  obtain ⟨o, e, c, d⟩ := st
  exact ⟨o, e, fun v z => by rw [d] at z; cases z⟩
 keep := fun i h h' st k => st.at fun o e => k it (by simp) o e
 item := by
  intro X hP hw hK hc i pins s σ H E I hf st hg
  subst hP hw hK
  obtain ⟨xs, x, hq, hx⟩ := hg
  obtain ⟨its, rv, p, hz⟩ := I.tuple hq
  obtain ⟨u, hu, ru⟩ := rv.get hx
  obtain ⟨f0, f1, f2, f3, f4, f5⟩ := hf it (by simp)
  refine wpAny_pyNext_tuple_item st (show s.heap.IsTuple a its.toArray from p) (x := u) (by simpa using hu) fun h' st' sb => ?_
  have I1 : Inv X pins σ H { s with heap := h' } := I.turned (t' := s.toks) (fun b o hb e => (sb.2 b hb).trans e) f0 f1 f3 f4 f5
  obtain ⟨o, e, c, d⟩ := id st'
  exact ⟨u, rfl, tK (s := { s with heap := h' }) e c d (by decide) ⟨x, H, I1, ru, ⟨rfl, fun ys hy => by rw [I.tuple_inj hy hq]; exact hx⟩, st', fun b hb => (hf b hb).1⟩⟩
 done := by
  intro X hP hw hK hc i pins s σ H E I hf st hg
  subst hP hw hK
  obtain ⟨xs, hq, hx⟩ := hg
  obtain ⟨its, rv, p, hz⟩ := I.tuple hq
  obtain ⟨f0, f1, f2, f3, f4, f5⟩ := hf it (by simp)
  have hl := rv.length
  exact wpAny_pyNext_tuple_end (I.ok.hd hc) st (show s.heap.IsTuple a its.toArray from p) (by simp; omega) fun h' eb => ⟨rfl, I.turned (t' := s.toks) (fun b o hb e => eb b o hb e) f0 f1 f3 f4 f5⟩
 self := fun _ _ _ _ _ st h => wpAny_pyIter_tupleiter st h
theorem m8 {P : Program} {w : World} {K : Fg} {tg : Expr} (it : Addr) (lo : Int) (n : Nat) : t7 P w K tg (vC lo n) [it] it (fun i h => IsRangeIter h it (lo + (i : Nat) * 1) ((n : Int) - (i : Nat)) 1) where
 mem := by simp
 obj := fun i h st b hb => by
  have e : b = it := by simpa using hb
  subst e
  exact ⟨_, st, fun v z => by
   have z' : Data.fields _ = Data.cell v := z
   cases z'⟩
 keep := fun i h h' st k => k it (by simp) _ st
 item := by
  intro X hP hw hK hc i pins s σ H E I hf st hg
  subst hP hw hK
  obtain ⟨f0, f1, f2, f3, f4, f5⟩ := hf it (by simp)
  have W := Walks.range (prog := X.prog) (w := X.w) (I.ok.hd hc) it lo 1 n
  refine W.item i s _ _ hg st fun v h' tk hv st' kk => ?_
  obtain ⟨t, rfl⟩ := hv
  have I1 : Inv X pins σ H { s with heap := h', toks := tk } := I.turned (fun b o hb e => kk b o (by simpa using hb) e) f0 f1 f3 f4 f5
  refine ⟨_, rfl, tK (s := { s with heap := h', toks := tk }) (n := "range_iterator") st' rfl rfl (by decide) ⟨.int (lo + i), H, I1, ⟨t, ?_⟩, ⟨rfl, rfl⟩, st', fun b hb => (hf b hb).1⟩⟩
  rw [Int.mul_one]
 done := by
  intro X hP hw hK hc i pins s σ H E I hf st hg
  subst hP hw hK
  obtain ⟨f0, f1, f2, f3, f4, f5⟩ := hf it (by simp)
  exact wpAny_pyNext_range_end (I.ok.hd hc) st (by have : n ≤ i := hg; omega) fun h' eb => ⟨rfl, I.turned (t' := s.toks) (fun b o hb e => eb b o hb e) f0 f1 f3 f4 f5⟩
 self := fun _ _ _ _ _ st h => wpAny_pyIter_rangeiter st h
end L2
namespace L2
open PySem PySem.Spec PyProof.Rows
section
variable {X : Cx} {tg : Expr}
def tG (K : Fg) (tl : TE) : TI := fun σ H R => tl σ H fun x H1 => ∃ a, x = .ref a /\ (∃ xs, aO K H1 a xs) /\ R (uc K a) H1
def Ak (K : Fg) (tl : TE) : TI := fun σ H R => tl σ H fun x H1 => ∃ a, x = .ref a /\ (∃ xs, bt K H1 a xs) /\ R (ue K a) H1
theorem uO {l : Expr} {tl : TE} (hl : PE X l tl) : PI X tg l (tG X.K tl) := by
 intro pins s σ H R I h
 refine bZ (hl pins s σ H _ I h) fun v s1 ⟨x, H1, I1, r1, q1⟩ => ?_
 obtain ⟨a, e, ⟨xs, hq⟩, q⟩ := q1
 subst e
 cases r1
 obtain ⟨its, rv, p, hz⟩ := I1.list hq
 refine wpAny_pyIter_list p.isList ?_
 refine ⟨s1.heap.objs.size, [s1.heap.objs.size], _, _, H1, rfl, I1.kept (t' := s1.toks) fun b o e => Heap.get?_push_of_some _ e, pC a _, ⟨_, Heap.get?_push_size _ rfl, rfl, rfl⟩, fun b hb => ?_, q⟩
 have e : b = s1.heap.objs.size := by simpa using hb
 subst e
 exact I1.fpOk (Nat.le_refl _) (I1.hok.fresh (Nat.le_refl _))
theorem xf {l : Expr} {tl : TE} (hl : PE X l tl) : PI X tg l (Ak X.K tl) := by
 intro pins s σ H R I h
 refine bZ (hl pins s σ H _ I h) fun v s1 ⟨x, H1, I1, r1, q1⟩ => ?_
 obtain ⟨a, e, ⟨xs, hq⟩, q⟩ := q1
 subst e
 cases r1
 obtain ⟨its, rv, p, hz⟩ := I1.tuple hq
 refine wpAny_pyIter_tuple (show s1.heap.IsTuple a its.toArray from p) ?_
 refine ⟨s1.heap.objs.size, [s1.heap.objs.size], _, _, H1, rfl, I1.kept (t' := s1.toks) fun b o e => Heap.get?_push_of_some _ e, m7 a _, ⟨_, Heap.get?_push_size _ rfl, rfl, rfl⟩, fun b hb => ?_, q⟩
 have e : b = s1.heap.objs.size := by simpa using hb
 subst e
 exact I1.fpOk (Nat.le_refl _) (I1.hok.fresh (Nat.le_refl _))
theorem mx {pins : bL} {σ : St} {H : Hp} {s : Shared} {R : It -> Hp -> Prop} {E : cS} {lo hi : Int} {t u v : Tok} {tk : Nat} (I : Inv X pins σ H s) (h1 : -(2 ^ 62) ≤ lo) (h2 : lo < 2 ^ 62) (h3 : -(2 ^ 62) ≤ hi) (h4 : hi < 2 ^ 62)
  (q : R (vC lo (hi - lo).toNat) H) : wpAny (model X.prog X.w) X.A (pyIter (.ref s.heap.objs.size)) (CB X pins σ tg R) E { s with heap := s.heap.push { cls := .type "range", data := .fields #[.int lo t, .int hi u, .int 1 v] }, toks := tk } := by
 refine wpAny_pyIter_range (IsRange.new ..) (small_one h1 h2 h3 h4) ?_
 have I1 : Inv X pins σ H { s with heap := s.heap.push { cls := .type "range", data := .fields #[.int lo t, .int hi u, .int 1 v] }, toks := tk } := I.kept fun b o e => Heap.get?_push_of_some _ e
 refine ⟨(s.heap.push { cls := .type "range", data := .fields #[.int lo t, .int hi u, .int 1 v] }).objs.size, [(s.heap.push { cls := .type "range", data := .fields #[.int lo t, .int hi u, .int 1 v] }).objs.size], _, _, H, rfl,
  I1.kept (t' := tk) fun b o e => Heap.get?_push_of_some _ e, m8 _ lo (hi - lo).toNat, ?_, fun b hb => ?_, q⟩
 ·have e1 : lo + ((0 : Nat) : Int) * 1 = lo := by simp
  have e2 : (((hi - lo).toNat : Nat) : Int) - ((0 : Nat) : Int) = Builtin.Range.rangeSize lo hi 1 := by rw [rangeSize_one]; split <;> omega
  show IsRangeIter _ _ (lo + ((0 : Nat) : Int) * 1) ((((hi - lo).toNat : Nat) : Int) - ((0 : Nat) : Int)) 1
  rw [e1, e2]
  exact Heap.get?_push_size _ rfl
 ·have e : b = (s.heap.push { cls := .type "range", data := .fields #[.int lo t, .int hi u, .int 1 v] }).objs.size := by simpa using hb
  subst e
  exact I1.fpOk (Nat.le_refl _) (I1.hok.fresh (Nat.le_refl _))
def vX (ta : TA) : TI := fun σ H R => ta σ H fun vs H1 => ∃ j : Int, vs = [.int j] /\ -(2 ^ 62) ≤ j /\ j < 2 ^ 62 /\ R (vC 0 j.toNat) H1
def vW (ta : TA) : TI := fun σ H R => ta σ H fun vs H1 => ∃ i j : Int, vs = [.int i, .int j] /\ (-(2 ^ 62) ≤ i /\ i < 2 ^ 62 /\ -(2 ^ 62) ≤ j /\ j < 2 ^ 62) /\ R (vC i (j - i).toNat) H1
theorem qg {a : Expr} {ta : TA} {p pos : Pos} (hg : Gl X "range") (hm : X.mg "range" = none) (ha : PA X [a] ta) (hs : starEach [a] X.env = [(false, eval a X.env)] := by rfl) : PI X tg (.Call (.Name "range" p) [a] [] pos) (vX ta) := by
 intro pins s σ H R I h
 refine Call_ (fF I hg hm boot_range (PyProof.Rows.callWith_type1 (bZ (ha pos pins s σ H _ I h) fun us s1 ⟨vs, H1, I1, r1, q1⟩ => ?_) hs rfl))
 obtain ⟨j, e, q1, q2, q⟩ := q1
 subst e
 cases r1 with
 | cons r rr =>
  cases rr
  obtain ⟨t, rfl⟩ := r
  exact call_range_1 (mx I1 (by omega) (by omega) q1 q2 (by simpa using q))
theorem qf {a b : Expr} {ta : TA} {p pos : Pos} (hg : Gl X "range") (hm : X.mg "range" = none) (ha : PA X [a, b] ta) (hs : starEach [a, b] X.env = [(false, eval a X.env), (false, eval b X.env)] := by rfl) (hs2 : starEach [b] X.env = [(false, eval b X.env)] := by rfl) :
  PI X tg (.Call (.Name "range" p) [a, b] [] pos) (vW ta) := by
 intro pins s σ H R I h
 refine Call_ (fF I hg hm boot_range (PyProof.Rows.callWith_type1 (bZ (ha pos pins s σ H _ I h) fun us s1 ⟨vs, H1, I1, r1, q1⟩ => ?_) (by rw [hs, hs2]) (by rw [hs2]; rfl)))
 obtain ⟨i, j, e, ⟨q1, q2, q3, q4⟩, q⟩ := q1
 subst e
 cases r1 with
 | cons r rr =>
  cases rr with
  | cons r' rr =>
   cases rr
   obtain ⟨t, rfl⟩ := r
   obtain ⟨t', rfl⟩ := r'
   exact call_range_2 (mx I1 q1 q2 q3 q4 q)
def zm (wi : TI) (g : TG) (tb : TS) : TS := fun D σ H => wi σ H fun J H1 => ∃ W : Nat -> Nat -> St -> Hp -> Prop, (∃ m, W 0 m σ H1) /\ ∀ i m σ H, W i m σ H →
 (J.stop i H /\ D.nx σ H) ∨ (J.go i H /\ ∃ N : St -> Hp -> Prop, (∀ σ' H', N σ' H' -> ∃ m', m' < m /\ W (i + 1) m' σ' H') /\ ∀ x H', J.yld i H x H' -> g x σ H' fun σ2 H2 => tb { D with nx := N, ct := N, bk := D.nx } σ2 H2)
def gZ (fp : List Addr) (h : Heap) : bL := fp.filterMap fun b => (h.get? b).map fun o => (b, o)
theorem dJ {fp : List Addr} {h : Heap} {b : Addr} {o : Obj} (hb : b ∈ fp) (e : h.get? b = some o) : (b, o) ∈ gZ fp h := List.mem_filterMap.mpr ⟨b, hb, by rw [e]; rfl⟩
theorem qo {fp : List Addr} {h : Heap} {p : Addr × Obj} (hp : p ∈ gZ fp h) : p.1 ∈ fp /\ h.get? p.1 = some p.2 := by
 obtain ⟨b, hb, e⟩ := List.mem_filterMap.mp hp
 cases q : h.get? b with
 | none => rw [q] at e; cases e
 | some o =>
  rw [q] at e
  have e' : (b, o) = p := Option.some.inj e
  subst e'
  exact ⟨hb, q⟩
theorem Inv.pinned {pins : bL} {σ : St} {H : Hp} {s : Shared} {fp : List Addr} (I : Inv X pins σ H s) (hf : ∀ b ∈ fp, d0 X pins H b) (ho : ∀ b ∈ fp, ∃ o, s.heap.get? b = some o /\ ∀ v, o.data ≠ .cell v) : Inv X (pins ++ gZ fp s.heap) σ H s :=
 I.pins_of fun p hp => (List.mem_append.mp hp).elim (fun z => I.pin p (List.mem_append_right _ z)) fun z => by
  obtain ⟨hb, e⟩ := qo z
  obtain ⟨f0, f1, f2, _⟩ := hf p.1 hb
  obtain ⟨o, e', d⟩ := ho p.1 hb
  rw [e] at e'; cases e'
  exact ⟨e, f0, f1, f2, d⟩
theorem Inv.unpinned {pins pl : bL} {σ : St} {H : Hp} {s : Shared} (I : Inv X (pins ++ pl) σ H s) : Inv X pins σ H s := I.pins_of fun p hp => I.pin p (List.mem_append_right _ (List.mem_append_left _ hp))
theorem xb {iter : Expr} {body : List Stmt} {wi : TI} {g : TG} {tb : TS} {pos : Pos} (hp : PassesOwn (model X.prog X.w) X.A X.env X.xe) (hc : X.calm = true) (hi : PI X tg iter wi) (hg : PG X tg g) (hb : kh X body tb)
  (hs : ∀ x, foldedSetIterable iter X.env x = pure x := by intro _; rfl) : PS X (.For tg iter body [] pos) (zm wi g tb) := by
 intro pins s σ H D I h
 refine wpAny_For (bZ (hi pins s σ H _ I h) fun v s1 h1 => bZ h1 fun itv s2 h2 => ?_) hs
 obtain ⟨it, fp, tn, J, H2, e, I2, T, st2, f2, W, ⟨m0, w0⟩, turn⟩ := h2
 subst e
 have stat : ∀ {H' : Hp}, (∀ b ∈ fp, H' b = none) -> ∀ b ∈ fp, d0 X pins H' b := fun hn b hb => ⟨hn b hb, (f2 b hb).2⟩
 refine codeAny_forLoop_any (fun n s' => ∃ i σ' H', Inv X pins σ' H' s' /\ tn i s'.heap /\ (∀ b ∈ fp, H' b = none) /\ W i n σ' H') ?_ m0 ⟨0, σ, H2, I2, st2, fun b hb => (f2 b hb).1, w0⟩
 rintro n s3 ⟨i, σ3, H3, I3, st3, fr3, w3⟩
 rcases turn i n σ3 H3 w3 with ⟨stop, qn⟩ | ⟨go, N, hN, step⟩
 ·refine wpAny_passesOwn hp (bZ (T.done X rfl rfl rfl hc i pins s3 σ3 H3 X.xe I3 (stat fr3) st3 stop) fun r s4 ⟨hr, I4⟩ => ?_)
  subst hr
  exact wpAny_execs_nil ⟨σ3, H3, I4, qn⟩
 ·refine wpAny_passesOwn hp (bZ (T.item X rfl rfl rfl hc i pins s3 σ3 H3 X.xe I3 (stat fr3) st3 go) fun r s4 ⟨u, hr, h4⟩ => ?_)
  subst hr
  refine wpAny_passesOwn hp (bZ h4 fun _ s5 ⟨x, H5, I5, r5, y5, st5, fr5⟩ => ?_)
  have I5' := I5.pinned (stat fr5) (T.obj _ _ st5)
  refine wpAny_passesOwn hp (bZ (hg _ s5 σ3 H5 x u _ I5' r5 (step x H5 y5)) fun _ s6 ⟨σ6, H6, I6, q6⟩ => ?_)
  refine wpAny_passesOwn hp (bZ (hb _ s6 σ6 H6 _ I6 q6) fun f s7 q7 => ?_)
  have again : ∀ {σ7 : St} {H7 : Hp}, Inv X (pins ++ gZ fp s5.heap) σ7 H7 s7 -> N σ7 H7 -> ∃ m, m < n /\ ∃ i σ' H', Inv X pins σ' H' s7 /\ tn i s7.heap /\ (∀ b ∈ fp, H' b = none) /\ W i m σ' H' := fun {σ7 H7} I7 n7 => by
   obtain ⟨m', hm, w7⟩ := hN σ7 H7 n7
   refine ⟨m', hm, i + 1, σ7, H7, I7.unpinned, T.keep _ _ _ st5 fun b hb o e => (I7.pin (b, o) (List.mem_append_right _ (List.mem_append_right _ (dJ hb e)))).1, fun b hb => ?_, w7⟩
   obtain ⟨o, e, d⟩ := T.obj _ _ st5 b hb
   exact (I7.pin (b, o) (List.mem_append_right _ (List.mem_append_right _ (dJ hb e)))).2.1
  cases f with
  | next => obtain ⟨σ7, H7, I7, n7⟩ := q7; exact again I7 n7
  | cont => obtain ⟨σ7, H7, I7, n7⟩ := q7; exact again I7 n7
  | brk => obtain ⟨σ7, H7, I7, q7⟩ := q7; exact ⟨σ7, H7, I7.unpinned, q7⟩
  | ret v => obtain ⟨x7, σ7, H7, I7, r7, q7⟩ := q7; exact ⟨x7, σ7, H7, I7.unpinned, r7, q7⟩
end
theorem em {K : Fg} {a : Addr} {xs : List V} {g : TG} {tb : TS} {D : hU} {σ : St} {H : Hp} (Pv : Nat -> St -> Hp -> Prop) (h0 : Pv 0 σ H) (hl : ∀ i σ H, i ≤ xs.length -> Pv i σ H -> aO K H a xs)
  (hs : ∀ i x σ H, xs[i]? = some x -> Pv i σ H -> g x σ H fun σ2 H2 => tb { D with nx := Pv (i + 1), ct := Pv (i + 1), bk := D.nx } σ2 H2) (hd : ∀ σ H, Pv xs.length σ H -> D.nx σ H) :
  ∃ W : Nat -> Nat -> St -> Hp -> Prop, (∃ m, W 0 m σ H) /\ ∀ i m σ H, W i m σ H →
   ((uc K a).stop i H /\ D.nx σ H) ∨ ((uc K a).go i H /\ ∃ N : St -> Hp -> Prop, (∀ σ' H', N σ' H' -> ∃ m', m' < m /\ W (i + 1) m' σ' H') /\ ∀ x H', (uc K a).yld i H x H' -> g x σ H' fun σ2 H2 => tb { D with nx := N, ct := N, bk := D.nx } σ2 H2) := by
 refine ⟨fun i m σ H => m = xs.length - i /\ i ≤ xs.length /\ Pv i σ H, ⟨xs.length, by simp, Nat.zero_le _, h0⟩, ?_⟩
 rintro i m σ H ⟨rfl, hi, p⟩
 have q := hl i σ H hi p
 by_cases hlt : i < xs.length
 ·refine .inr ⟨⟨xs, xs[i], q, by simp [hlt]⟩, Pv (i + 1), fun σ' H' p' => ⟨xs.length - (i + 1), by omega, rfl, hlt, p'⟩, fun x H' y => ?_⟩
  obtain ⟨e, y⟩ := y
  subst e
  exact hs i x σ _ (y xs q) p
 ·have e : i = xs.length := by omega
  subst e
  exact .inl ⟨⟨xs, q, Nat.le_refl _⟩, hd σ H p⟩
theorem oW {K : Fg} {a : Addr} {xs : List V} {g : TG} {tb : TS} {D : hU} {σ : St} {H : Hp} (Pv : Nat -> St -> Hp -> Prop) (h0 : Pv 0 σ H) (hl : ∀ i σ H, i ≤ xs.length -> Pv i σ H -> bt K H a xs)
  (hs : ∀ i x σ H, xs[i]? = some x -> Pv i σ H -> g x σ H fun σ2 H2 => tb { D with nx := Pv (i + 1), ct := Pv (i + 1), bk := D.nx } σ2 H2) (hd : ∀ σ H, Pv xs.length σ H -> D.nx σ H) :
  ∃ W : Nat -> Nat -> St -> Hp -> Prop, (∃ m, W 0 m σ H) /\ ∀ i m σ H, W i m σ H →
   ((ue K a).stop i H /\ D.nx σ H) ∨ ((ue K a).go i H /\ ∃ N : St -> Hp -> Prop, (∀ σ' H', N σ' H' -> ∃ m', m' < m /\ W (i + 1) m' σ' H') /\ ∀ x H', (ue K a).yld i H x H' -> g x σ H' fun σ2 H2 => tb { D with nx := N, ct := N, bk := D.nx } σ2 H2) := by
 refine ⟨fun i m σ H => m = xs.length - i /\ i ≤ xs.length /\ Pv i σ H, ⟨xs.length, by simp, Nat.zero_le _, h0⟩, ?_⟩
 rintro i m σ H ⟨rfl, hi, p⟩
 have q := hl i σ H hi p
 by_cases hlt : i < xs.length
 ·refine .inr ⟨⟨xs, xs[i], q, by simp [hlt]⟩, Pv (i + 1), fun σ' H' p' => ⟨xs.length - (i + 1), by omega, rfl, hlt, p'⟩, fun x H' y => ?_⟩
  obtain ⟨e, y⟩ := y
  subst e
  exact hs i x σ _ (y xs q) p
 ·have e : i = xs.length := by omega
  subst e
  exact .inl ⟨⟨xs, q, Nat.le_refl _⟩, hd σ H p⟩
theorem dm {lo : Int} {n : Nat} {g : TG} {tb : TS} {D : hU} {σ : St} {H : Hp} (Pv : Nat -> St -> Hp -> Prop) (h0 : Pv 0 σ H)
  (hs : ∀ i σ H, i < n -> Pv i σ H -> g (.int (lo + i)) σ H fun σ2 H2 => tb { D with nx := Pv (i + 1), ct := Pv (i + 1), bk := D.nx } σ2 H2) (hd : ∀ σ H, Pv n σ H -> D.nx σ H) :
  ∃ W : Nat -> Nat -> St -> Hp -> Prop, (∃ m, W 0 m σ H) /\ ∀ i m σ H, W i m σ H →
   ((vC lo n).stop i H /\ D.nx σ H) ∨ ((vC lo n).go i H /\ ∃ N : St -> Hp -> Prop, (∀ σ' H', N σ' H' -> ∃ m', m' < m /\ W (i + 1) m' σ' H') /\ ∀ x H', (vC lo n).yld i H x H' -> g x σ H' fun σ2 H2 => tb { D with nx := N, ct := N, bk := D.nx } σ2 H2) := by
 refine ⟨fun i m σ H => m = n - i /\ i ≤ n /\ Pv i σ H, ⟨n, by simp, Nat.zero_le _, h0⟩, ?_⟩
 rintro i m σ H ⟨rfl, hi, p⟩
 by_cases hlt : i < n
 ·refine .inr ⟨hlt, Pv (i + 1), fun σ' H' p' => ⟨n - (i + 1), by omega, rfl, hlt, p'⟩, fun x H' y => ?_⟩
  obtain ⟨e, y⟩ := y
  subst e y
  exact hs i σ _ hlt p
 ·have e : i = n := by omega
  subst e
  exact .inl ⟨Nat.le_refl _, hd σ H p⟩
end L2
namespace L2
open PySem PySem.Spec PyProof.Rows
abbrev R2 := V -> V -> Hp -> VK -> Prop
def e9 (X : Cx) (f : Value -> Value -> Sem Value) (r : R2) : Prop :=
 ∀ (pins : bL) (s : Shared) (σ : St) (H : Hp) (x y : V) (v u : Value) (Q : VK), Inv X pins σ H s -> bn x v -> bn y u -> r x y H Q →
  wpAny (model X.prog X.w) X.A (f v u) (EP X pins σ Q) X.xe s
def AZ (X : Cx) (f : Value -> Sem Value) (r : V -> Hp -> VK -> Prop) : Prop :=
 ∀ (pins : bL) (s : Shared) (σ : St) (H : Hp) (x : V) (v : Value) (Q : VK), Inv X pins σ H s -> bn x v -> r x H Q →
  wpAny (model X.prog X.w) X.A (f v) (EP X pins σ Q) X.xe s
def df (X : Cx) (f : Value) (r : List V -> Hp -> VK -> Prop) : Prop :=
 ∀ (pins : bL) (s : Shared) (σ : St) (H : Hp) (xs : List V) (us : List Value) (Q : VK), Inv X pins σ H s -> aW xs us -> r xs H Q →
  wpAny (model X.prog X.w) X.A (call f us) (EP X pins σ Q) X.xe s
def Dn (X : Cx) (r : V -> Hp -> (Bool -> Hp -> Prop) -> Prop) : Prop :=
 ∀ (pins : bL) (s : Shared) (σ : St) (H : Hp) (x : V) (v : Value) (Q : Bool -> Hp -> Prop), Inv X pins σ H s -> bn x v -> r x H Q →
  wpAny (model X.prog X.w) X.A (truthy v) (TP X pins σ Q) X.xe s
def uj (r : R2) (ta tb : TE) : TE := fun σ H Q => ta σ H fun x H1 => tb σ H1 fun y H2 => r x y H2 Q
def BV (r : V -> Hp -> VK -> Prop) (ta : TE) : TE := fun σ H Q => ta σ H fun x H1 => r x H1 Q
def rI (C : Int -> Int -> Prop) (g : Int -> Int -> V) : R2 := fun x y H Q => ∃ i j, x = .int i /\ y = .int j /\ C i j /\ Q (g i j) H
def vS (g : Int -> Int -> V) : R2 := fun x y H Q => ∃ i j, x = .int i /\ y = .int j /\ Q (g i j) H
def rU (g : Int -> V) : V -> Hp -> VK -> Prop := fun x H Q => ∃ i, x = .int i /\ Q (g i) H
section
variable {X : Cx} {a b c : Expr} {ta tb tc : TE} {pos : Pos}
theorem yB (ha : PE X a ta) (hb : PE X b tb) {pins : bL} {s : Shared} {σ : St} {H : Hp} {R : V -> V -> Hp -> Prop} (I : Inv X pins σ H s)
  (h : ta σ H fun x H1 => tb σ H1 fun y H2 => R x y H2) {Q : cS} {f : Value -> Value -> Sem Value}
  (hf : ∀ v u s2 x y H2, Inv X pins σ H2 s2 -> bn x v -> bn y u -> R x y H2 -> wpAny (model X.prog X.w) X.A (f v u) Q X.xe s2) :
  wpAny (model X.prog X.w) X.A (eval a X.env) (fun v s₁ => wpAny (model X.prog X.w) X.A (eval b X.env) (fun u s₂ => wpAny (model X.prog X.w) X.A (f v u) Q X.xe s₂) X.xe s₁) X.xe s := by
 refine bZ (ha pins s σ H _ I h) fun v s1 ⟨x, H1, I1, r1, q1⟩ => ?_
 refine bZ (hb pins s1 σ H1 _ I1 q1) fun u s2 ⟨y, H2, I2, r2, q2⟩ => ?_
 exact hf v u s2 x y H2 I2 r1 r2 q2
theorem zU {op : Operator} {r : R2} (ho : e9 X (binaryOp op) r) (ha : PE X a ta) (hb : PE X b tb) : PE X (.BinOp a op b pos) (uj r ta tb) := by
 intro pins s σ H Q I h
 exact wpAny_BinOp (yB ha hb I h fun v u s2 x y H2 I2 rx ry q => ho pins s2 σ H2 x y v u Q I2 rx ry q)
theorem zT {op : UnaryOp} {r : V -> Hp -> VK -> Prop} (ho : AZ X (unaryOp op) r) (ha : PE X a ta) : PE X (.UnaryOp op a pos) (BV r ta) := by
 intro pins s σ H Q I h
 exact UnaryOp_ (bZ (ha pins s σ H _ I h) fun v s1 ⟨x, H1, I1, r1, q1⟩ => ho pins s1 σ H1 x v Q I1 r1 q1)
theorem yS {f : Value -> Value -> Sem Value} {C : Int -> Int -> Prop} {g : Int -> Int -> Int}
  (rule : ∀ (i j : Int) (t u : Tok) (s : Shared) (Q : cS) (E : cS), C i j -> Q (.int (g i j) s.toks) { s with toks := s.toks + 1 } -> wpAny (model X.prog X.w) X.A (f (.int i t) (.int j u)) Q E s) :
  e9 X f (rI C fun i j => .int (g i j)) := by
 intro pins s σ H x y v u Q I rx ry h
 obtain ⟨i, j, rfl, rfl, hc, q⟩ := h
 obtain ⟨t, rfl⟩ := rx
 obtain ⟨t', rfl⟩ := ry
 exact rule i j t t' s _ _ hc ⟨.int (g i j), H, I.tok _, ⟨_, rfl⟩, q⟩
theorem z7 {f : Value -> Value -> Sem Value} {g : Int -> Int -> Int}
  (rule : ∀ (i j : Int) (t u : Tok) (s : Shared) (Q : cS) (E : cS), Q (.int (g i j) s.toks) { s with toks := s.toks + 1 } -> wpAny (model X.prog X.w) X.A (f (.int i t) (.int j u)) Q E s) :
  e9 X f (vS fun i j => .int (g i j)) := by
 intro pins s σ H x y v u Q I rx ry h
 obtain ⟨i, j, rfl, rfl, q⟩ := h
 obtain ⟨t, rfl⟩ := rx
 obtain ⟨t', rfl⟩ := ry
 exact rule i j t t' s _ _ ⟨.int (g i j), H, I.tok _, ⟨_, rfl⟩, q⟩
theorem u4 {f : Value -> Value -> Sem Value} {g : Int -> Int -> Bool}
  (rule : ∀ (i j : Int) (t u : Tok) (s : Shared) (Q : cS) (E : cS), Q (.bool (g i j)) s -> wpAny (model X.prog X.w) X.A (f (.int i t) (.int j u)) Q E s) :
  e9 X f (vS fun i j => .bl (g i j)) := by
 intro pins s σ H x y v u Q I rx ry h
 obtain ⟨i, j, rfl, rfl, q⟩ := h
 obtain ⟨t, rfl⟩ := rx
 obtain ⟨t', rfl⟩ := ry
 exact rule i j t t' s _ _ ⟨.bl (g i j), H, I, rfl, q⟩
def BR (i j : Int) : Prop := 0 < j /\ j < 1073741824
def CF (i j : Int) : Prop := j ≠ 0 /\ j.natAbs < 1073741824
def BQ (i j : Int) : Prop := 0 ≤ j /\ j ≤ 1000000 /\ i.natAbs < 2 ^ 64
def yP (i j : Int) : Prop := (-(2 ^ 64) < i /\ i < 2 ^ 64) ∨ (-(2 ^ 64) < j /\ j < 2 ^ 64)
theorem yP.ok {i j : Int} (h : yP i j) : IntMulOk i j := by
 rcases h with ⟨h1, h2⟩ | ⟨h1, h2⟩
 ·exact .of_left (intBits_le_64 h1 h2)
 ·exact .of_right (intBits_le_64 h1 h2)
theorem dj : e9 X (binaryOp .Add) (vS fun i j => .int (i + j)) := z7 fun _ _ _ _ _ _ _ q => add_int q
theorem gc : e9 X (binaryOp .Sub) (vS fun i j => .int (i - j)) := z7 fun _ _ _ _ _ _ _ q => sub_int q
theorem fA : e9 X (binaryOp .Mult) (rI yP fun i j => .int (i * j)) := yS fun _ _ _ _ _ _ _ hc q => mul_int q hc.ok
theorem kY : e9 X (binaryOp .FloorDiv) (rI BR fun i j => .int (i / j)) := yS fun i j _ _ _ _ _ hc q => by
 have h1 : (0 : Int) < j := hc.1
 have h2 : j < 1073741824 := hc.2
 exact floordiv_int (by omega) (by rw [Int.fdiv_eq_ediv_of_nonneg i (by omega)]; exact q) (.inl (PyProof.noPylong_small (by omega)))
theorem eM : e9 X (binaryOp .Mod) (rI (fun _ j => 0 < j) fun i j => .int (i % j)) := yS fun i j _ _ _ _ _ hc q => by
 have h1 : (0 : Int) < j := hc
 exact mod_int' (by omega) (by rw [Int.fmod_eq_emod_of_nonneg i (by omega)]; exact q)
theorem xu : e9 X (binaryOp .Pow) (rI BQ fun i j => .int (i ^ j.toNat)) := yS fun _ _ _ _ _ _ _ hc q => pow_int_small hc.1 hc.2.1 hc.2.2 q
theorem CI {f : Value -> Sem Value} {g : Int -> Int}
  (rule : ∀ (i : Int) (t : Tok) (s : Shared) (Q : cS) (E : cS), Q (.int (g i) s.toks) { s with toks := s.toks + 1 } -> wpAny (model X.prog X.w) X.A (f (.int i t)) Q E s) :
  AZ X f (rU fun i => .int (g i)) := by
 intro pins s σ H x v Q I rx h
 obtain ⟨i, rfl, q⟩ := h
 obtain ⟨t, rfl⟩ := rx
 exact rule i t s _ _ ⟨.int (g i), H, I.tok _, ⟨_, rfl⟩, q⟩
theorem ko : AZ X (unaryOp .USub) (rU fun i => .int (-i)) := CI fun _ _ _ _ _ q => neg_int q
end
def zr : V -> V -> Bool
 | .non, .non => true | .non, .int _ => true | .int _, .non => true | .non, .bl _ => true | .bl _, .non => true | .non, .str _ => true | .str _, .non => true
 | .int _, .int _ => true | .bl _, .bl _ => true | .str _, .str _ => true | .byt _, .byt _ => true
 | .int _, .str _ => true | .str _, .int _ => true | .bl _, .str _ => true | .str _, .bl _ => true
 | _, _ => false
def De : R2 := fun x y H Q => zr x y = true /\ Q (.bl (decide (x = y))) H
def C7 : R2 := fun x y H Q => zr x y = true /\ Q (.bl (!decide (x = y))) H
theorem oZ {i j : Int} : decide (V.int i = V.int j) = (i == j) := by
 rw [Bool.eq_iff_iff]
 simp
theorem tR {i j : Bool} : decide (V.bl i = V.bl j) = (i == j) := by
 rw [Bool.eq_iff_iff]
 simp
theorem oY {i j : Str} : decide (V.str i = V.str j) = (i == j) := by
 rw [Bool.eq_iff_iff]
 simp
theorem o3 {i j : Array UInt8} : decide (V.byt i = V.byt j) = (i.toList == j.toList) := by
 rw [Bool.eq_iff_iff]
 cases i
 cases j
 simp
section
variable {X : Cx} {a b c : Expr} {ta tb tc : TE} {pos : Pos}
theorem br {pins : bL} {σ : St} {H : Hp} {s : Shared} {Q : VK} {k k' : Bool} (I : Inv X pins σ H s) (q : Q (.bl k) H) (e : k = k') : EP X pins σ Q (.bool k') s := by
 subst e
 exact ⟨.bl k, H, I, rfl, q⟩
theorem bF : e9 X (compareOp .Eq) De := by
 intro pins s σ H x y v u Q I rx ry h
 obtain ⟨hs, q⟩ := h
 cases x with
 | non =>
  cases rx
  cases y with
  | non => cases ry; exact PySem.EqNone.eq_none_none (br I q (by simp))
  | bl j => cases ry; exact PySem.EqNone.eq_none_bool (br I q (by simp))
  | int j => obtain ⟨t', rfl⟩ := ry; exact PySem.EqNone.eq_none_int (br I q (by simp))
  | str j => obtain ⟨t', rfl⟩ := ry; exact PySem.EqNone.eq_none_str (br I q (by simp))
  | _ => exact absurd (show false = true from hs) Bool.false_ne_true
 | bl i =>
  cases rx
  cases y with
  | non => cases ry; exact PySem.EqNone.eq_bool_none (br I q (by simp))
  | bl j => cases ry; exact eq_bool (br I q tR)
  | str j => obtain ⟨t', rfl⟩ := ry; exact PySem.EqMixed.eq_bool_str (br I q (by simp))
  | _ => exact absurd (show false = true from hs) Bool.false_ne_true
 | int i =>
  obtain ⟨t, rfl⟩ := rx
  cases y with
  | non => cases ry; exact PySem.EqNone.eq_int_none (br I q (by simp))
  | int j => obtain ⟨t', rfl⟩ := ry; exact eq_int (br I q oZ)
  | str j => obtain ⟨t', rfl⟩ := ry; exact PySem.EqMixed.eq_int_str (br I q (by simp))
  | _ => exact absurd (show false = true from hs) Bool.false_ne_true
 | str i =>
  obtain ⟨t, rfl⟩ := rx
  cases y with
  | non => cases ry; exact PySem.EqNone.eq_str_none (br I q (by simp))
  | bl j => cases ry; exact PySem.EqMixed.eq_str_bool (br I q (by simp))
  | int j => obtain ⟨t', rfl⟩ := ry; exact PySem.EqMixed.eq_str_int (br I q (by simp))
  | str j => obtain ⟨t', rfl⟩ := ry; exact eq_str (br I q oY)
  | _ => exact absurd (show false = true from hs) Bool.false_ne_true
 | byt i =>
  obtain ⟨t, rfl⟩ := rx
  cases y with
  | byt j => obtain ⟨t', rfl⟩ := ry; exact PySem.W.eq_bytes (br I q o3)
  | _ => exact absurd (show false = true from hs) Bool.false_ne_true
 | _ => cases y <;> exact absurd (show false = true from hs) Bool.false_ne_true
theorem dG : e9 X (compareOp .NotEq) C7 := by
 intro pins s σ H x y v u Q I rx ry h
 obtain ⟨hs, q⟩ := h
 cases x with
 | non =>
  cases rx
  cases y with
  | non => cases ry; exact PySem.EqNone.ne_none_none (br I q (by simp))
  | bl j => cases ry; exact PySem.EqNone.ne_none_bool (br I q (by simp))
  | int j => obtain ⟨t', rfl⟩ := ry; exact PySem.EqNone.ne_none_int (br I q (by simp))
  | str j => obtain ⟨t', rfl⟩ := ry; exact PySem.EqNone.ne_none_str (br I q (by simp))
  | _ => exact absurd (show false = true from hs) Bool.false_ne_true
 | bl i =>
  cases rx
  cases y with
  | non => cases ry; exact PySem.EqNone.ne_bool_none (br I q (by simp))
  | bl j => cases ry; exact ne_bool (br I q (congrArg not tR))
  | str j => obtain ⟨t', rfl⟩ := ry; exact PySem.EqMixed.ne_bool_str (br I q (by simp))
  | _ => exact absurd (show false = true from hs) Bool.false_ne_true
 | int i =>
  obtain ⟨t, rfl⟩ := rx
  cases y with
  | non => cases ry; exact PySem.EqNone.ne_int_none (br I q (by simp))
  | int j => obtain ⟨t', rfl⟩ := ry; exact ne_int (br I q (congrArg not oZ))
  | str j => obtain ⟨t', rfl⟩ := ry; exact PySem.EqMixed.ne_int_str (br I q (by simp))
  | _ => exact absurd (show false = true from hs) Bool.false_ne_true
 | str i =>
  obtain ⟨t, rfl⟩ := rx
  cases y with
  | non => cases ry; exact PySem.EqNone.ne_str_none (br I q (by simp))
  | bl j => cases ry; exact PySem.EqMixed.ne_str_bool (br I q (by simp))
  | int j => obtain ⟨t', rfl⟩ := ry; exact PySem.EqMixed.ne_str_int (br I q (by simp))
  | str j => obtain ⟨t', rfl⟩ := ry; exact ne_str (br I q (congrArg not oY))
  | _ => exact absurd (show false = true from hs) Bool.false_ne_true
 | byt i =>
  obtain ⟨t, rfl⟩ := rx
  cases y with
  | byt j => obtain ⟨t', rfl⟩ := ry; exact PySem.W.ne_bytes (br I q (congrArg not o3))
  | _ => exact absurd (show false = true from hs) Bool.false_ne_true
 | _ => cases y <;> exact absurd (show false = true from hs) Bool.false_ne_true
theorem jT : e9 X (compareOp .Lt) (vS fun i j => .bl (decide (i < j))) := u4 fun _ _ _ _ _ _ _ q => lt_int q
theorem hW : e9 X (compareOp .LtE) (vS fun i j => .bl (decide (i ≤ j))) := u4 fun _ _ _ _ _ _ _ q => le_int q
theorem iS : e9 X (compareOp .Gt) (vS fun i j => .bl (decide (j < i))) := u4 fun _ _ _ _ _ _ _ q => gt_int q
theorem z5 : e9 X (compareOp .GtE) (vS fun i j => .bl (decide (j ≤ i))) := u4 fun _ _ _ _ _ _ _ q => ge_int q
theorem eN : e9 X (compareOp .Is) (fun x y H Q => y = .non /\ Q (.bl (decide (x = .non))) H) := by
 intro pins s σ H x y v u Q I rx ry h
 obtain ⟨rfl, q⟩ := h
 cases ry
 refine is_none_gen (br I q ?_)
 cases x <;> first
  | (cases rx; rfl)
  | (obtain ⟨t, rfl⟩ := rx; rfl)
theorem u0 : e9 X (compareOp .IsNot) (fun x y H Q => y = .non /\ Q (.bl (!decide (x = .non))) H) := by
 intro pins s σ H x y v u Q I rx ry h
 obtain ⟨rfl, q⟩ := h
 cases ry
 refine isnot_none_gen (br I q ?_)
 cases x <;> first
  | (cases rx; rfl)
  | (obtain ⟨t, rfl⟩ := rx; rfl)
def Cp : HO -> Bool
 | .lst _ => true
 | .ins _ _ _ => true
 | _ => false
theorem ax (b : Expr) {op : CmpOp} (h : op ≠ .In := by decide) (h2 : op ≠ .NotIn := by decide) : behindInMarks op b = false := by
 have e1 : (op == CmpOp.In) = false := by cases op <;> first | rfl | exact absurd rfl h
 have e2 : (op == CmpOp.NotIn) = false := by cases op <;> first | rfl | exact absurd rfl h2
 cases b <;> simp [behindInMarks, e1, e2]
theorem uV {op : CmpOp} {r : R2} (ho : e9 X (compareOp op) r) (ha : PE X a ta) (hb : PE X b tb) (hm : behindInMarks op b = false) : PE X (.Compare a [op] [b] pos) (uj r ta tb) := by
 intro pins s σ H Q I h
 exact wpAny_Compare1 (yB ha hb I h fun v u s2 x y H2 I2 rx ry q => ho pins s2 σ H2 x y v u Q I2 rx ry q) hm
def ol (t : TE) : TT := fun σ H Q => t σ H fun x H' => ∃ k, x = .bl k /\ Q k H'
theorem uF {op : CmpOp} {r : R2} (ho : e9 X (compareOp op) r) (ha : PE X a ta) (hb : PE X b tb) (hm : behindInMarks op b = false) : PT X (.Compare a [op] [b] pos) (ol (uj r ta tb)) := by
 intro pins s σ H Q I h
 refine wpAny_isTrue_Compare1 (bZ (ha pins s σ H _ I h) fun v s1 ⟨x, H1, I1, r1, q1⟩ => bZ (hb pins s1 σ H1 _ I1 q1) fun u s2 ⟨y, H2, I2, r2, q2⟩ =>
  bZ (ho pins s2 σ H2 x y v u _ I2 r1 r2 q2) fun c s3 ⟨z, H3, I3, r3, k, e, q3⟩ => ?_) hm
 subst e
 cases r3
 exact wpAny_truthy_bool ⟨H3, I3, q3⟩
def kq (r r' : R2) (ta tb tc : TE) : TE := fun σ H Q => ta σ H fun x H1 => tb σ H1 fun y H2 => r x y H2 fun z H3 => ∃ k, z = .bl k ∧
 (if k = true then tc σ H3 fun w' H4 => r' y w' H4 Q else Q (.bl false) H3)
theorem sP {op op' : CmpOp} {r r' : R2} (ho : e9 X (compareOp op) r) (ho' : e9 X (compareOp op') r') (ha : PE X a ta) (hb : PE X b tb) (hc : PE X c tc)
  (hm : lastMarks [op, op'] [b, c] = false := by with_unfolding_all rfl) : PE X (.Compare a [op, op'] [b, c] pos) (kq r r' ta tb tc) := by
 intro pins s σ H Q I h
 refine Compare_chain (bZ (ha pins s σ H _ I h) fun v s1 ⟨x, H1, I1, r1, q1⟩ => chain_link (bZ (hb pins s1 σ H1 _ I1 q1) fun u s2 ⟨y, H2, I2, r2, q2⟩ =>
  bZ (ho pins s2 σ H2 x y v u _ I2 r1 r2 q2) fun d s3 ⟨z, H3, I3, r3, k, e, q3⟩ => ?_)) hm
 subst e
 cases r3
 refine wpAny_truthy_bool ?_
 cases k with
 | false => exact ite_ff ⟨.bl false, H3, I3, rfl, q3⟩
 | true => exact ite_tt (chain_last (bZ (hc pins s3 σ H3 _ I3 q3) fun w' s4 ⟨z', H4, I4, r4, q4⟩ => ho' pins s4 σ H4 y z' u w' Q I4 r2 r4 q4))
theorem sj {op op' : CmpOp} {r r' : R2} (ho : e9 X (compareOp op) r) (ho' : e9 X (compareOp op') r') (ha : PE X a ta) (hb : PE X b tb) (hc : PE X c tc)
  (hm : lastMarks [op, op'] [b, c] = false := by with_unfolding_all rfl) : PT X (.Compare a [op, op'] [b, c] pos) (ol (kq r r' ta tb tc)) := by
 intro pins s σ H Q I h
 refine isTrue_chain (bZ (ha pins s σ H _ I h) fun v s1 ⟨x, H1, I1, r1, q1⟩ => test_link (bZ (hb pins s1 σ H1 _ I1 q1) fun u s2 ⟨y, H2, I2, r2, q2⟩ =>
  bZ (ho pins s2 σ H2 x y v u _ I2 r1 r2 q2) fun d s3 ⟨z, H3, I3, r3, k, e, q3⟩ => ?_)) hm
 subst e
 cases r3
 refine wpAny_truthy_bool ?_
 cases k with
 | false =>
  obtain ⟨k', e', q'⟩ := q3
  cases e'
  exact ite_ff ⟨H3, I3, q'⟩
 | true =>
  refine ite_tt (test_last (bZ (hc pins s3 σ H3 _ I3 q3) fun w' s4 ⟨z', H4, I4, r4, q4⟩ => bZ (ho' pins s4 σ H4 y z' u w' _ I4 r2 r4 q4) fun d' s5 ⟨z2, H5, I5, r5, k2, e2, q5⟩ => ?_))
  subst e2
  cases r5
  exact wpAny_truthy_bool ⟨H5, I5, q5⟩
def Dm (K : Fg) (x : V) (H : Hp) (k : Bool) : Prop :=
 match x with
 | .non => k = false
 | .bl b => k = b
 | .int i => k = (i != 0)
 | .str y => y.length ≤ sizeLine /\ k = ((y.length : Int) != 0)
 | .byt y => y.size ≤ sizeLine /\ k = ((y.size : Int) != 0)
 | .ref p => (∃ xs, aO K H p xs /\ k = !xs.isEmpty) ∨ (∃ xs, bt K H p xs /\ k = !xs.isEmpty) ∨ ∃ kvs, H p = some (.dK kvs) /\ k = !kvs.isEmpty
 | _ => False
theorem k6 : (sizeLine : Nat) < 2 ^ 63 := by rw [sizeLine_eq]; decide
def Aw (b : Expr) : Prop := ∀ o i, subscripted b false o i = operate [o, i] (getItem o i)
theorem fg {x : V} {us : List Value} (r : aW [x] us) : ∃ u, us = [u] /\ bn x u := by
 cases r with
 | cons r1 r2 => cases r2; exact ⟨_, rfl, r1⟩
theorem lR {x y : V} {us : List Value} (r : aW [x, y] us) : ∃ u w', us = [u, w'] /\ bn x u /\ bn y w' := by
 cases r with
 | cons r1 r2 =>
  cases r2 with
  | cons r3 r4 => cases r4; exact ⟨_, _, rfl, r1, r3⟩
theorem jb : df X (.builtin "abs") (fun xs H Q => ∃ i, xs = [.int i] /\ Q (.int (if i < 0 then -i else i)) H) := by
 intro pins s σ H xs us Q I r h
 obtain ⟨i, rfl, q⟩ := h
 obtain ⟨u, rfl, t, rfl⟩ := fg r
 exact call_abs_int fun u tk => ⟨.int (if i < 0 then -i else i), H, I.tok _, ⟨_, rfl⟩, q⟩
theorem qK (hc : X.calm = true) : df X (.builtin "max") (fun xs H Q => ∃ i j, xs = [.int i, .int j] /\ Q (.int (if j > i then j else i)) H) := by
 intro pins s σ H xs us Q I r h
 obtain ⟨i, j, rfl, q⟩ := h
 obtain ⟨u, w', rfl, ⟨t, rfl⟩, ⟨t', rfl⟩⟩ := lR r
 refine max_two_ints (I.ok.hd hc) fun h' tk k => ⟨_, H, I.kept k, ?_, q⟩
 by_cases hj : j > i
 ·rw [if_pos hj, if_pos hj]; exact ⟨_, rfl⟩
 ·rw [if_neg hj, if_neg hj]; exact ⟨_, rfl⟩
def Dv (K : Fg) (x : V) (H : Hp) (n : Nat) : Prop :=
 match x with
 | .str y => y.length ≤ sizeLine /\ n = y.length
 | .byt y => y.size ≤ sizeLine /\ n = y.size
 | .ref p => (∃ xs, aO K H p xs /\ n = xs.length) ∨ ∃ xs, bt K H p xs /\ n = xs.length
 | _ => False
end
end L2
namespace L2
open PySem PySem.Spec PyProof.Rows
structure yL (h : Heap) (x dx C : Addr) (mA : Str -> Option Value) : Prop where
 obj : h.get? x = some (PySem.W.instObj C dx)
 ns : h.Ns1 dx mA
 ne : dx ≠ x
theorem jV {h : Heap} {dx : Addr} {mA : Str -> Option Value} (n : h.Ns1 dx mA) : ∃ od, h.get? dx = some od /\ ∀ name, PySem.W.lookIn name od = some (mA name) := by
 obtain ⟨o, es, ep, ho, hd, hk, _, hm⟩ := n
 refine ⟨o, ho, fun name => ?_⟩
 have e := hm name
 unfold nsFind findBy at e
 rw [← Array.find?_toList] at e
 unfold PySem.W.lookIn
 rw [hd]
 dsimp only
 split
 ·rename_i y q
  rw [q] at e
  exact congrArg some e
 ·rename_i q
  rw [q] at e
  have a : es.toList.any (·.refKey) = false := by
   rw [List.any_eq_false]
   intro y hy
   obtain ⟨z, t, hkey⟩ := hk y (Array.mem_toList_iff.mp hy)
   simp [DictEntry.refKey, hkey]
  have a' : ¬ es.toList.any (·.refKey) = true := by rw [a]; exact Bool.false_ne_true
  rw [if_neg a']
  exact congrArg some e
theorem yL.look {h : Heap} {x dx C : Addr} {mA : Str -> Option Value} (I : yL h x dx C mA) : ∃ od, PySem.W.InstAt h x (PySem.W.instObj C dx) C (some od) /\ ∀ name, PySem.W.lookIn name od = some (mA name) :=
 let ⟨od, ho, hl⟩ := jV I.ns
 ⟨od, ⟨I.obj, rfl, rfl, ho⟩, hl⟩
section
variable {prog : Program} {w : World} {A : Around} {E : cS} {s : Shared} {K : Fg} {x dx C f : Addr} {mA : Str -> Option Value} {name : Str} {v : Value}
end
def wX (f : Str) (v : V) : List (Str × V) -> List (Str × V)
 | [] => [(f, v)]
 | (g, x) :: r => if g = f then (g, v) :: r else (g, x) :: wX f v r
theorem g9.some_of {v : V} {o : Option Value} (r : g9 (some v) o) : ∃ u, o = some u /\ bn v u := by
 cases o with
 | none => exact (show False from r).elim
 | some u => exact ⟨u, rfl, r⟩
theorem qy {v : V} {u : Value} (r : bn v u) : PySem.W.handedIn u = true := by
 cases v with
 | non => cases (show u = Value.none from r); rfl
 | bl b => cases (show u = Value.bool b from r); rfl
 | int i => obtain ⟨t, e⟩ := (show ∃ t, u = Value.int i t from r); cases e; rfl
 | str x => obtain ⟨t, e⟩ := (show ∃ t, u = Value.str x t from r); cases e; rfl
 | byt b => obtain ⟨t, e⟩ := (show ∃ t, u = Value.bytes b t from r); cases e; rfl
 | flt b => obtain ⟨t, e⟩ := (show ∃ t, u = Value.float b t from r); cases e; rfl
 | ref a => cases (show u = Value.ref a from r); rfl
 | ty n => cases (show u = Value.type n from r); rfl
section
variable {P : Program} {w : World} {H H' : Hp} {h h' : Heap} {a C dx : Addr} {fs fs' : List (Str × V)}
theorem vg (hok : h7 P w H h) (e : H a = some (.ins C dx fs)) : ∃ mA, yL h a dx C mA /\ (∀ f, g9 (fs.lookup f) (mA f)) /\ PySem.Within mA (fs.map (·.1)) /\ fs.length ≤ 1000 /\ H dx = some (.own a) := by
 obtain ⟨d, z, ne, ob, mA, n, r, q⟩ := (show ObjOk P w H h a (.ins C dx fs) from hok a _ e)
 exact ⟨mA, ⟨ob, n, ne⟩, r, q, z, d⟩
end
structure yO (K : Fg) (C : Addr) : Prop where
 pg : PySem.W.plainGet K C Str.empty = true
 hd : PySem.W.hasDictIn K C = true
 po : PySem.W.plainOver K C = true
 sa : PySem.W.findIn K (.ref C) "__setattr__" = some (some (.builtin "object.__setattr__"))
theorem yO.get {K : Fg} {C : Addr} (c : yO K C) (f : Str) : PySem.W.plainGet K C f = true := c.pg
def eR (K : Fg) (C : Addr) (f : Str) : Prop := PySem.W.findIn K (.ref C) f = some none
structure DE (K : Fg) (C : Addr) (f : Str) (v : V) (u : Value) : Prop where
 at_ : PySem.W.findIn K (.ref C) f = some (some u)
 rel : bn v u
 get : PySem.W.specialIn K u "__get__" = some none
 cp : PySem.W.copiedNames.contains f = false
structure Du (K : Fg) (C : Addr) (m : Str) (f : Addr) : Prop where
 at_ : PySem.W.findIn K (.ref C) m = some (some (.ref f))
 fn : PySem.W.isFn K (.ref f) = true
 kp : PySem.W.keepIn K (.ref f) = true
section
variable {X : Cx} {pins : bL} {σ : St} {H : Hp} {s : Shared} {a C dx : Addr} {fs : List (Str × V)} {f : Str} {v : V} {A : Around} {E : cS}
theorem vw {prog : Program} {w : World} {env : Env} {e : Expr} {f : Str} {pos : Pos} {s : Shared} {Q : cS} (hb : attributeBase e f env (eval e env) = eval e env)
  (h : wpAny (model prog w) A (eval e env) (fun o s₁ => wpAny (model prog w) A (getAttr o f true) Q E s₁) E s) : wpAny (model prog w) A (eval (.Attribute e f pos) env) Q E s :=
 Attribute_any_ h (by rw [arm_eval_Attribute, hb])
end
def CU (K : Fg) (ta : TE) (f : Str) : TE := fun σ H Q => ta σ H fun x H1 => ∃ a C dx fs v, x = .ref a /\ H1 a = some (.ins C dx fs) /\ yO K C /\ eR K C f /\ fs.lookup f = some v /\ Q v H1
def CY (K : Fg) (ta : TE) (f : Str) : TE := fun σ H Q => ta σ H fun x H1 => ∃ a C dx fs v u, x = .ref a /\ H1 a = some (.ins C dx fs) /\ yO K C /\ DE K C f v u /\ fs.lookup f = none /\ Q v H1
def C2 (K : Fg) (ta tv : TE) (f : Str) : TS := fun D σ H => tv σ H fun y H1 => ta σ H1 fun x H2 => ∃ a C dx fs, x = .ref a /\ H2 a = some (.ins C dx fs) /\ yO K C /\ eR K C f /\ fs.length < 1000 ∧
 D.nx σ (upd H2 a (.ins C dx (wX f y fs)))
def DA (X : Cx) (op : Operator) (rd : V -> V -> Hp -> VK -> Prop) : Prop :=
 ∀ (pins : bL) (s : Shared) (σ : St) (H : Hp) (x y : V) (u v : Value) (Q : VK), Inv X pins σ H s -> bn x u -> bn y v -> rd x y H Q -> wpAny (model X.prog X.w) X.A (inplaceOp op u v) (EP X pins σ Q) X.xe s
def AM (K : Fg) (ta tv : TE) (rd : V -> V -> Hp -> VK -> Prop) (f : Str) : TS := fun D σ H => ta σ H fun x H1 => ∃ a C dx fs v, x = .ref a /\ H1 a = some (.ins C dx fs) /\ yO K C /\ eR K C f /\ fs.lookup f = some v ∧
 tv σ H1 fun y H2 => rd v y H2 fun z H3 => ∃ dx' fs', H3 a = some (.ins C dx' fs') /\ fs'.length < 1000 /\ D.nx σ (upd H3 a (.ins C dx' (wX f z fs')))
section
variable {X : Cx} {o e value : Expr} {f : Str} {pos pos' tpos : Pos} {ta tv : TE}
def Df : V -> V -> Hp -> VK -> Prop := fun x y H Q => ∃ i j, x = .int i /\ y = .int j /\ Q (.int (i + j)) H
def C4 : V -> V -> Hp -> VK -> Prop := fun x y H Q => ∃ i j, x = .int i /\ y = .int j /\ Q (.int (i - j)) H
end
section
variable {X : Cx} {pins : bL} {σ : St} {H : Hp} {s : Shared} {A : Around} {E : cS} {Q : cS} {c : Value} {b : Bool}
inductive g8 (K : Fg) (H : Hp) : V -> Value -> Prop where
 | non : g8 K H .non (.type "NoneType")
 | bl (x : Bool) : g8 K H (.bl x) (.type "bool")
 | int (i : Int) : g8 K H (.int i) (.type "int")
 | str (x : Str) : g8 K H (.str x) (.type "str")
 | flt (x : UInt64) : g8 K H (.flt x) (.type "float")
 | lst {a : Addr} {xs : List V} (e : H a = some (.lst xs)) : g8 K H (.ref a) (.type "list")
 | frz {a : Addr} {o : Obj} {xs : List V} (e : H a = some (.frz o (.lst xs))) : g8 K H (.ref a) (.type "list")
 | tup {a : Addr} {xs : List V} (e : H a = some (.tup xs)) : g8 K H (.ref a) (.type "tuple")
 | dK {a : Addr} {kvs : List (hG × V)} (e : H a = some (.dK kvs)) : g8 K H (.ref a) (.type "dict")
 | dT {a : Addr} {kvs : List (List hG × V)} (e : H a = some (.dT kvs)) : g8 K H (.ref a) (.type "dict")
 | ins {a C dx : Addr} {fs : List (Str × V)} (e : H a = some (.ins C dx fs)) (cl : yO K C) (ha : PySem.W.findIn K (.ref C) "__class__" = some (some (.builtin "object.__class__")))
   (hn : PySem.W.specialIn K (.builtin "object.__class__") "__get__" = some (some (.builtin "getset_descriptor.__get__"))) (htk : PySem.W.takesIn K (.builtin "object.__class__") = some true)
   (hm : PySem.W.mroIn K C (.type "object") = some true) : g8 K H (.ref a) (.ref C)
theorem qw {x : V} {u t : Value} (I : Inv X pins σ H s) (rx : bn x u) (ty : g8 X.K H x t) (e : PySem.W.kitOne X.K t c = some b) (h : ∀ tk, Q (.bool b) { s with toks := tk }) :
  wpAny (model X.prog X.w) A (call (.builtin "isinstance") [u, c]) Q E s := by
 cases ty with
 | non => cases (show u = Value.none from rx); exact PySem.W.kia_one PySem.W.kitx_none I.kIn True.intro e (fun z => nomatch z) h
 | bl y => cases (show u = Value.bool y from rx); exact PySem.W.kia_one PySem.W.kitx_bool I.kIn True.intro e (fun z => nomatch z) h
 | int i => obtain ⟨t, q⟩ := (show ∃ t, u = Value.int i t from rx); cases q; exact PySem.W.kia_one PySem.W.kitx_int I.kIn True.intro e (fun z => nomatch z) h
 | str y => obtain ⟨t, q⟩ := (show ∃ t, u = Value.str y t from rx); cases q; exact PySem.W.kia_one PySem.W.kitx_str I.kIn True.intro e (fun z => nomatch z) h
 | flt y => obtain ⟨t, q⟩ := (show ∃ t, u = Value.float y t from rx); cases q; exact PySem.W.kia_one PySem.W.kitx_float I.kIn True.intro e (fun z => nomatch z) h
 | @lst a xs ea =>
  cases (show u = Value.ref a from rx)
  obtain ⟨_, _, n, _, h1⟩ := (show ObjOk X.prog X.w H s.heap a (.lst xs) from I.hok a _ ea)
  exact PySem.W.kia_one PySem.W.kitx_list I.kIn ⟨_, h1, rfl⟩ e (fun z => nomatch z) h
 | @frz a ob xs ea =>
  cases (show u = Value.ref a from rx)
  obtain ⟨_, _, _, n, _, h1⟩ := (show ObjOk X.prog X.w H s.heap a (.frz ob (.lst xs)) from I.hok a _ ea)
  exact PySem.W.kia_one PySem.W.kitx_list I.kIn ⟨_, h1, rfl⟩ e (fun z => nomatch z) h
 | @tup a xs ea =>
  cases (show u = Value.ref a from rx)
  obtain ⟨_, _, _, p⟩ := (show ObjOk X.prog X.w H s.heap a (.tup xs) from I.hok a _ ea)
  obtain ⟨o, h1, h2, _⟩ := p
  exact PySem.W.kia_one PySem.W.kitx_tuple I.kIn ⟨o, h1, h2⟩ e (fun z => nomatch z) h
 | @dK a kvs ea =>
  cases (show u = Value.ref a from rx)
  obtain ⟨_, _, vs, _, p⟩ := (show ObjOk X.prog X.w H s.heap a (.dK kvs) from I.hok a _ ea)
  obtain ⟨o, es, ep, h1, h2, _⟩ := p
  exact PySem.W.kia_one PySem.W.kitx_dict I.kIn ⟨o, h1, h2.1⟩ e (fun z => nomatch z) h
 | @dT a kvs ea =>
  cases (show u = Value.ref a from rx)
  obtain ⟨_, _, xs, _, o, es, ep, h1, h2, _⟩ := (show ObjOk X.prog X.w H s.heap a (.dT kvs) from I.hok a _ ea)
  exact PySem.W.kia_one PySem.W.kitx_dict I.kIn ⟨o, h1, h2.1⟩ e (fun z => nomatch z) h
 | @ins a C dx fs ea cl ha hn htk hm =>
  cases (show u = Value.ref a from rx)
  obtain ⟨mA, O, _⟩ := vg I.hok ea
  obtain ⟨od, J, _⟩ := O.look
  exact PySem.W.kia_one (PySem.W.kitx_own (cl.get _) cl.hd ha hn htk hm) I.kIn J e (fun z => nomatch z) h
end
end L2
namespace L2
open PySem PySem.Spec PyProof.Rows
structure cQ (k : Nat) (A : Around) : Prop where
 hd : A.handled = none
 dp : A.depth + 3 * k + 5 < recursionLimit
 un : A.units + 16 * k + 200 < cLine
 gd : A.guards = some []
theorem cQ.mono {j k : Nat} {A : Around} (r : cQ k A) (h : j ≤ k) : cQ j A := ⟨r.hd, by have := r.dp; omega, by have := r.un; omega, r.gd⟩
theorem cQ.deeper {k : Nat} {A : Around} (r : cQ (k + 1) A) (env : Env) : cQ k (A.deeper env) :=
 ⟨r.hd, by have := r.dp; show A.depth + 1 + 3 * k + 5 < _; omega, by have := r.un; show A.units + 3 + 16 * k + 200 < _; omega, r.gd⟩
theorem cQ.in1 {k : Nat} {A : Around} (r : cQ (k + 1) A) : cQ k A.in1 :=
 ⟨r.hd, by have := r.dp; show A.depth + 3 * k + 5 < _; omega, by have := r.un; show A.units + 1 + 16 * k + 200 < _; omega, r.gd⟩
theorem nM {A : Around} {C : Addr} {us : List Value} {kw : List (Str × Value)} : (A.under (.builtin "type.__call__" ⟨.ref C :: us, kw⟩)).depth = A.depth + 1 := by
 first | rfl | simp [Around.under, Code.weight, Code.isCreation, Code.isGuard, Code.isCaller, Code.frames, Code.isFrame, guardIds]
theorem nL {A : Around} {C : Addr} {us : List Value} {kw : List (Str × Value)} : (A.under (.builtin "type.__call__" ⟨.ref C :: us, kw⟩)).units = A.units + 1 := by
 first | rfl | simp [Around.under, Code.cUnits, Code.frames, Code.isFrame]
theorem mG {A : Around} {C : Addr} {us : List Value} {kw : List (Str × Value)} : (A.under (.builtin "type.__call__" ⟨.ref C :: us, kw⟩)).guards = A.guards := by
 first | rfl | simp [Around.under, Code.guards, Code.isGuard, guardIds, pushGuards]
theorem cQ.make {k : Nat} {A : Around} (r : cQ (k + 1) A) (C : Addr) (us : List Value) (kw : List (Str × Value)) : cQ k (A.under (.builtin "type.__call__" ⟨.ref C :: us, kw⟩)) :=
 ⟨r.hd, by have := r.dp; rw [nM]; omega, by have := r.un; rw [nL]; omega, by rw [mG]; exact r.gd⟩
theorem cQ.depth {k : Nat} {A : Around} (r : cQ k A) : A.depth < recursionLimit := by have := r.dp; omega
theorem cQ.units {k : Nat} {A : Around} (r : cQ k A) : A.units + 64 < cLine := by have := r.un; omega
def zi : TA := fun _ H Q => Q [] H
def vO (ta : TE) (tr : TA) : TA := fun σ H Q => ta σ H fun x H1 => tr σ H1 fun xs H2 => Q (x :: xs) H2
section
variable {X : Cx} {e : Expr} {es : List Expr} {te : TE} {t : TA} {pos : Pos}
theorem xt : PA X [] zi := fun _ _ _ _ H Q I h => Calls.spliced_nil ⟨[], H, I, .nil, h⟩
theorem uY (ha : PE X e te) (hr : PA X es t) (hs : starEach (e :: es) X.env = (false, eval e X.env) :: starEach es X.env := by rfl) : PA X (e :: es) (vO te t) := by
 intro pos pins s σ H Q I h
 rw [hs]
 show wpAny _ _ (spliced ((false, eval e X.env) :: backTo pos (starEach es X.env))) _ _ s
 refine Calls.spliced_cons (bZ (ha pins s σ H _ I h) fun u s1 ⟨x, H1, I1, r1, q1⟩ => ?_)
 exact bZ (hr pos pins s1 σ H1 _ I1 q1) fun us s2 ⟨xs, H2, I2, r2, q2⟩ => ⟨x :: xs, H2, I2, .cons r1 r2, q2⟩
def zd (t : TA) : TE := fun σ H Q => t σ H fun xs H1 => xs.length ≤ sizeLine /\ ∀ p, H1 p = none -> Q (.ref p) (upd H1 p (.tup xs))
def zj (t : TA) : TE := fun σ H Q => t σ H fun xs H1 => xs.length ≤ sizeLine /\ ∀ p, H1 p = none -> Q (.ref p) (upd H1 p (.lst xs))
theorem xi {x1} (h : PA X es t) : PE X (.Tuple es x1 pos) (zd t) := by
 intro pins s σ H Q I hq
 refine wpAny_Tuple_spliced (bZ (h pos pins s σ H _ I hq) fun us s1 ⟨xs, H1, I1, r, z, q⟩ => ⟨by rw [← r.length]; exact z, ?_⟩)
 have hf : H1 s1.heap.objs.size = none := I1.hok.fresh (Nat.le_refl _)
 refine ⟨.ref s1.heap.objs.size, upd H1 s1.heap.objs.size (.tup xs), I1.laid (t' := s1.toks) (fun b u e => Heap.get?_push_of_some _ e) (Nat.le_refl _) ?_, rfl, q _ hf⟩
 exact ⟨z, us, r, ⟨_, Heap.get?_push_size _ rfl, rfl, _, rfl⟩⟩
theorem xn (h : PA X es t) : PE X (.List es pos) (zj t) := by
 intro pins s σ H Q I hq
 refine wpAny_List_spliced (bZ (h pos pins s σ H _ I hq) fun us s1 ⟨xs, H1, I1, r, z, q⟩ => ⟨by rw [← r.length]; exact z, ?_⟩)
 have hf : H1 s1.heap.objs.size = none := I1.hok.fresh (Nat.le_refl _)
 refine ⟨.ref s1.heap.objs.size, upd H1 s1.heap.objs.size (.lst xs), I1.laid (t' := s1.toks) (fun b u e => Heap.get?_push_of_some _ e) (Nat.le_refl _) ?_, rfl, q _ hf⟩
 exact ⟨z, us, 0, r, Heap.get?_push_size _ rfl⟩
end
abbrev Sp := List V -> Hp -> VK -> XK -> Prop
abbrev lJ := List Env -> Hp -> Shared -> XK -> Value -> Shared -> Prop
structure hJ (P : Program) (w : World) (K : Fg) (mg : Str -> Option Value) (base : Heap) (A : Around) (outer : List Env) (s : Shared) (H : Hp) : Prop where
 frames : A.frames = some outer
 mod : Mod K mg base
 bs : ∀ b o, base.get? b = some o -> s.heap.get? b = some o /\ H b = none
 bsz : base.objs.size ≤ s.heap.objs.size
 funs : s.heap.FunFrames base outer
 frf : ∀ b ∈ jg outer, H b = none
 hok : h7 P w H s.heap
 bare : AllBare s.gens
def CE (outer : List Env) (P : Program) (w : World) (H : Hp) (s : Shared) (Q : VK) (u : Value) (s' : Shared) : Prop :=
 ∃ v H', s'.os = s.os /\ AllBare s'.gens /\ Un (jg outer) [] H H' s.heap s'.heap /\ h7 P w H' s'.heap /\ bn v u /\ Q v H'
def CR (CX : lJ) (outer : List Env) (P : Program) (w : World) (H : Hp) (s : Shared) (Q : VK) (E : XK) (r : Result) (s' : Shared) : Prop :=
 match r with
 | .ok (.ret u) => CE outer P w H s Q u s'
 | .ok _ => False
 | .error e => CX outer H s E e s'
structure bB (P : Program) (w : World) (K : Fg) (mg : Str -> Option Value) (base : Heap) (CX : lJ) (k : Nat) (f : Addr) (fd : FuncData) (ps : List Str) (sp : Sp) : Prop where
 len : ∀ vs H Q E, sp vs H Q E -> vs.length = ps.length
 run : ∀ (A : Around) (outer : List Env) (s : Shared) (H : Hp) (args : Args) (us : List Value) (vs : List V) (Q : VK) (E : XK), cQ k A -> hJ P w K mg base A outer s H -> BindsTo s fd args (ps.zip us) -> aW vs us -> sp vs H Q E →
  codeAny (model P w) A (.call (.ref f) args) (CR CX outer P w H s Q E) s
theorem hJ.make {P : Program} {w : World} {K : Fg} {mg : Str -> Option Value} {base : Heap} {A : Around} {outer : List Env} {s : Shared} {H : Hp} (e : hJ P w K mg base A outer s H) (C : Addr) (us : List Value) (kw : List (Str × Value)) :
  hJ P w K mg base (A.under (.builtin "type.__call__" ⟨.ref C :: us, kw⟩)) outer s H := ⟨by first | exact e.frames | (simpa [Around.under, Code.envs, Code.isFrame, pushEnvs] using e.frames), e.mod, e.bs, e.bsz, e.funs, e.frf, e.hok, e.bare⟩
theorem hJ.in1 {P : Program} {w : World} {K : Fg} {mg : Str -> Option Value} {base : Heap} {A : Around} {outer : List Env} {s : Shared} {H : Hp} (e : hJ P w K mg base A outer s H) :
  hJ P w K mg base A.in1 outer s H := ⟨e.frames, e.mod, e.bs, e.bsz, e.funs, e.frf, e.hok, e.bare⟩
section
variable {X : Cx} {pins : bL} {σ : St} {H : Hp} {s s' : Shared}
theorem Inv.env0 (I : Inv X pins σ H s) : hJ X.prog X.w X.K X.mg X.base X.A X.stack s H :=
 ⟨I.ok.frames, I.ok.mod, I.bs, Nat.le_trans I.ok.bsz I.sz, I.stack, I.stkFree, I.hok, I.bare⟩
theorem Inv.after {Q : VK} {u : Value} (I : Inv X pins σ H s) (h : CE X.stack X.prog X.w H s Q u s') : EP X pins σ Q u s' := by
 obtain ⟨v, H', os, bare, un, hok, r, q⟩ := h
 obtain ⟨hh, g, d, t, os'⟩ := s'
 obtain rfl : os' = s.os := os
 exact ⟨v, H', I.call (h' := hh) (g' := g) (d' := d) (t' := t) (ch := []) un hok bare (fun b z => absurd z (by simp)), r, q⟩
end
def lV (sp : Sp) (dvs : List V) (E : XK) (t : TA) : TE := fun σ H Q => t σ H fun vs H1 => sp (vs ++ dvs) H1 Q E
def B3 (C : Addr) (m : Str) (sp : Sp) (dvs : List V) (E : XK) (ta : TE) (t : TA) : TE := fun σ H Q => ta σ H fun x H1 => ∃ a dx fs, x = .ref a /\ H1 a = some (.ins C dx fs) /\ fs.lookup m = none ∧
 t σ H1 fun vs H2 => sp (x :: (vs ++ dvs)) H2 Q E
def B4 (C : Addr) (sp : Sp) (dvs : List V) (E : XK) (t : TA) : TE := fun σ H Q => t σ H fun vs H1 => ∀ x dx, H1 x = none -> H1 dx = none -> dx ≠ x →
 sp (.ref x :: (vs ++ dvs)) (upd (upd H1 dx (.own x)) x (.ins C dx [])) (fun v H2 => v = .non /\ Q (.ref x) H2) E
def aZ (K : Fg) (fd : FuncData) (ps : List Str) (ds : List Value) : Prop :=
 ∀ (s : Shared) (us : List Value), K.In s.heap -> (us ++ ds).length = ps.length -> BindsTo s fd ⟨us, []⟩ (ps.zip (us ++ ds))
theorem aZ.all {K : Fg} {fd : FuncData} {ps : List Str} (h : ∀ us : List Value, us.length = ps.length -> bindArgs fd ⟨us, []⟩ = pure (ps.zip us)) : aZ K fd ps [] := fun s us _ hl => by
 rw [List.append_nil] at hl ⊢
 exact .of_eq (h us hl)
def fK (CX : lJ) (X : Cx) (E : XK) : Prop := ∀ (pins : bL) (σ : St) (H : Hp) (s : Shared) (e : Value) (s' : Shared), Inv X pins σ H s -> CX X.stack H s E e s' -> X.xe e s'
section
variable {X : Cx} {CX : lJ} {k : Nat} {f C : Addr} {fd : FuncData} {ps : List Str} {sp : Sp} {dvs : List V} {ds : List Value} {E : XK} {x m : Str} {p pos apos : Pos} {e o : Expr} {es : List Expr} {ta : TE} {t : TA}
theorem wM {pins : bL} {σ : St} {H : Hp} {s : Shared} {Q : VK} {us : List Value} {vs : List V} (F : bB X.prog X.w X.K X.mg X.base CX k f fd ps sp) (hr : cQ k X.A) (hb : aZ X.K fd ps ds) (hd : aW dvs ds) (hx : fK CX X E)
  (I : Inv X pins σ H s) (r : aW vs us) (h : sp (vs ++ dvs) H Q E) : wpAny (model X.prog X.w) X.A (call (.ref f) us) (EP X pins σ Q) X.xe s := by
 have r2 : aW (vs ++ dvs) (us ++ ds) := r.append hd
 have hl : (us ++ ds).length = ps.length := by rw [← r2.length]; exact F.len _ _ _ _ h
 refine wpAny_call (codeAny_mono (F.run X.A X.stack s H ⟨us, []⟩ (us ++ ds) (vs ++ dvs) Q E hr I.env0 (hb s us I.kIn hl) r2 h) fun r s' hq => ?_)
 cases r with
 | error e => exact hx pins σ H s e s' I hq
 | ok fl =>
  cases fl with
  | ret u => exact I.after hq
  | next => exact False.elim hq
  | brk => exact False.elim hq
  | cont => exact False.elim hq
theorem uW (F : bB X.prog X.w X.K X.mg X.base CX k f fd ps sp) (hr : cQ k X.A) (hg : Gl X x) (hm : X.mg x = some (.ref f)) (hk : PySem.W.keepIn X.K (.ref f) = true) (hb : aZ X.K fd ps ds) (hd : aW dvs ds) (hx : fK CX X E)
  (ha : PA X (e :: es) t) (hdb : (x == ("__debug__" : Str)) = false := by decide) (he : starEach (e :: es) X.env = (false, eval e X.env) :: starEach es X.env := by rfl) (hpl : (backTo pos (starEach es X.env)).any (·.1) = false := by rfl) :
  PE X (.Call (.Name x p) (e :: es) [] pos) (lV sp dvs E t) := by
 intro pins s σ H Q I h
 refine wpAny_Call_Name_kw (fP I hg hm ?_ hdb)
 refine PySem.W.callWith_K (h₀ := X.base) I.ok.mod.kin hk (bZ (ha pos pins s σ H _ I h) fun us s1 ⟨vs, H1, I1, r, q⟩ => ⟨I1.kIn, ?_⟩) he hpl
 exact wM F hr hb hd hx I1 r q
structure Mk (K : Fg) (C f : Addr) : Prop where
 makes : PySem.W.makesIn K C = true
 init : PySem.W.findIn K (.ref C) "__init__" = some (some (.ref f))
 fn : PySem.W.isFn K (.ref f) = true
 kp : PySem.W.keepIn K (.ref C) = true
end
def PK (X : Cx) (kws : List Keyword) (t : TA) : Prop :=
 ∀ (pos : Pos) (pins : bL) (s : Shared) (σ : St) (H : Hp) (Q : List V -> Hp -> Prop), Inv X pins σ H s -> t σ H Q -> wpAny (model X.prog X.w) X.A (evalAll ((backToKw pos (keywordEach kws X.env)).map (·.2))) (AP X pins σ Q) X.xe s
section
variable {X : Cx} {CX : lJ} {k : Nat} {f C : Addr} {fd : FuncData} {ps ks : List Str} {sp : Sp} {E : XK} {x m : Str} {p pos apos kpos : Pos} {e o : Expr} {es : List Expr} {kws : List Keyword} {te ta : TE} {t tk : TA} {nm : Option Str}
structure BK (K : Fg) (fd : FuncData) (ps ks : List Str) (g : List Value -> List Value -> List Value) (gV : List V -> List V -> List V) : Prop where
 to : ∀ (s : Shared) (us ws : List Value), K.In s.heap -> (g us ws).length = ps.length -> BindsTo s fd ⟨us, ks.zip ws⟩ (ps.zip (g us ws))
 rel : ∀ {vs : List V} {us : List Value} {zs : List V} {ws : List Value}, aW vs us -> aW zs ws -> aW (gV vs zs) (g us ws)
def Bi (sp : Sp) (gV : List V -> List V -> List V) (E : XK) (t tk : TA) : TE := fun σ H Q => t σ H fun vs H1 => tk σ H1 fun zs H2 => sp (gV vs zs) H2 Q E
variable {g : List Value -> List Value -> List Value} {gV : List V -> List V -> List V}
end
structure aJ (N P : List Str) (sc : Scope) : Prop where
 kind : sc.kind = .function
 co : sc.isCoroutine = false
 gen : sc.isGenerator = false
 nd : N.Nodup
 pre : N.take P.length = P
 par : ∀ x ∈ P, sc.names.lookup x = some .local ∨ sc.names.lookup x = some .cell
 nofree : ∀ y ∈ sc.names, y.2 ≠ .free
theorem j8 {kindOf : Str -> Option NameKind} {x : Str} : ∀ {binds : List (Str × Value)} {m : Str -> Option Value}, (∀ v, (x, v) ∉ binds) -> bindL kindOf binds m x = m x
 | [], _, _ => rfl
 | (n, v) :: r, m, h => by
  unfold bindL
  rw [j8 fun w hw => h w (List.mem_cons_of_mem _ hw)]
  split
  ·have : x ≠ n := by rintro rfl; exact h v List.mem_cons_self
   simp [this]
  ·rfl
theorem ka {kindOf : Str -> Option NameKind} {x : Str} : ∀ {binds : List (Str × Value)} {m : Str -> Option Value}, (∀ v, (x, v) ∉ binds) -> bindC kindOf binds m x = m x
 | [], _, _ => rfl
 | (n, v) :: r, m, h => by
  unfold bindC
  rw [ka fun w hw => h w (List.mem_cons_of_mem _ hw)]
  split
  ·rfl
  ·have : x ≠ n := by rintro rfl; exact h v List.mem_cons_self
   simp [this]
theorem j9 {kindOf : Str -> Option NameKind} {x : Str} {v : Value} : ∀ {P : List Str} {vs : List Value} {i : Nat} {m : Str -> Option Value}, P.Nodup -> P[i]? = some x -> vs[i]? = some v -> kindOf x = some .local →
  bindL kindOf (P.zip vs) m x = some v
 | [], _, _, _, _, h, _, _ => by simp at h
 | _ :: _, [], _, _, _, _, h, _ => by simp at h
 | p :: P, w :: vs, 0, m, nd, h1, h2, hk => by
  simp at h1 h2; subst h1; subst h2
  show bindL kindOf ((p, w) :: P.zip vs) m p = _
  unfold bindL
  rw [j8 fun v hv => (List.nodup_cons.mp nd).1 (List.of_mem_zip hv).1, if_pos hk]
  simp
 | p :: P, w :: vs, i + 1, m, nd, h1, h2, hk => by
  show bindL kindOf ((p, w) :: P.zip vs) m x = _
  unfold bindL
  exact j9 (i := i) (List.nodup_cons.mp nd).2 (by simpa using h1) (by simpa using h2) hk
theorem kb {kindOf : Str -> Option NameKind} {x : Str} {v : Value} : ∀ {P : List Str} {vs : List Value} {i : Nat} {m : Str -> Option Value}, P.Nodup -> P[i]? = some x -> vs[i]? = some v -> kindOf x ≠ some .local →
  bindC kindOf (P.zip vs) m x = some v
 | [], _, _, _, _, h, _, _ => by simp at h
 | _ :: _, [], _, _, _, _, h, _ => by simp at h
 | p :: P, w :: vs, 0, m, nd, h1, h2, hk => by
  simp at h1 h2; subst h1; subst h2
  show bindC kindOf ((p, w) :: P.zip vs) m p = _
  unfold bindC
  rw [ka fun v hv => (List.nodup_cons.mp nd).1 (List.of_mem_zip hv).1, if_neg hk]
  simp
 | p :: P, w :: vs, i + 1, m, nd, h1, h2, hk => by
  show bindC kindOf ((p, w) :: P.zip vs) m x = _
  unfold bindC
  exact kb (i := i) (List.nodup_cons.mp nd).2 (by simpa using h1) (by simpa using h2) hk
def eG (N : List Str) (vs : List V) : St := vs.map some ++ List.replicate (N.length - vs.length) none
def bO (CX : lJ) (P : Program) (w : World) (K : Fg) (mg : Str -> Option Value) (base : Heap) (N : List Str) (qual : Str) (scope : Scope) (f : Addr) (cd : Value) (A : Around) (outer : List Env) (s : Shared) (H : Hp) (E : XK) : Cx where
 prog := P
 w := w
 K := K
 mg := mg
 base := base
 A := A.deeper (envOfC qual scope s.heap.objs.size f cd)
 N := N
 s₀ := s
 H₀ := H
 env := envOfC qual scope s.heap.objs.size f cd
 outer := outer
 stack := envOfC qual scope s.heap.objs.size f cd :: outer
 ex := []
 calm := true
 fn := fun _ => true
 pn := []
 xe := fun e s' => wpAny (model P w) (A.deeper (envOfC qual scope s.heap.objs.size f cd)) (leaving (envOfC qual scope s.heap.objs.size f cd) e) (fun _ s'' => CX outer H s E e s'') (fun e' s'' => CX outer H s E e' s'') s'
theorem mT {sc : Scope} {n : Nat} {x : Str} (h : sc.names.lookup x = some .cell) : ∃ c, (cellsFrom n sc.names []).lookup x = some c := by
 have q := PySem.W.cellsFrom_some sc.names n [] (.inl h)
 exact Option.isSome_iff_exists.mp q
theorem jW {CX : lJ} {P : Program} {w : World} {K : Fg} {mg : Str -> Option Value} {base : Heap} {N ps : List Str} {qual : Str} {scope : Scope} {f : Addr} {cd : Value} {A : Around} {outer : List Env} {s s1 : Shared} {H : Hp} {E : XK} {us : List Value} {vs : List V}
  (S : aJ N ps scope) (hd : A.handled = none) (e0 : hJ P w K mg base A outer s H) (hl : vs.length = ps.length) (r : aW vs us)
  (x : InCallC s s.heap.objs.size (bindL (envOfC qual scope s.heap.objs.size f cd).kindOf (ps.zip us) fun _ => none) (cellsFrom (s.heap.objs.size + 1) scope.names []) (bindC (envOfC qual scope s.heap.objs.size f cd).kindOf (ps.zip us) fun _ => none) s1) :
  Inv (bO CX P w K mg base N qual scope f cd A outer s H E) [] (eG N vs) H s1 := by
 have hpl : ps.length ≤ N.length := by have := congrArg List.length S.pre; rw [List.length_take] at this; omega
 obtain ⟨h1, tk, rfl, hk⟩ := x.done
 have noA : ∀ b : Addr, b ∉ (bO CX P w K mg base N qual scope f cd A outer s H E).ex := fun b z => absurd (show b ∈ ([] : List Addr) from z) (by simp)
 refine ⟨⟨e0.mod, S.kind, rfl, rfl, Nat.le_refl _, fun y z c h1 h2 => ?_, fun y hy => ?_, fun y c _ h => ?_, fun _ => hd, Around.frames_deeper e0.frames, .inr ⟨rfl, rfl⟩, fun b z => absurd z (noA b), e0.bs, e0.bsz, fun b _ _ => noA b, fun b z => absurd z (noA b), e0.funs, e0.frf⟩,
  rfl, e0.bare, Un.kept hk, ⟨_, x.toInCall.ns, fun i y v h1 h2 h3 => ?_⟩, fun y c h => ⟨_, x.cell y c h⟩, e0.hok.fresh (Nat.le_refl _), fun y c h => ?_, fun p hp => absurd (show p ∈ ([] : bL) from hp) (by simp), e0.hok.kept hk, ?_⟩
 ·exact name_of_addr x.apart (PySem.mem_of_lookup h1) (PySem.mem_of_lookup h2)
 ·have hy : scope.names.lookup y = some .cell ∨ scope.names.lookup y = some .free := hy
  rcases hy with hy | hy
  ·exact mT hy
  ·exact absurd rfl (S.nofree _ (PySem.mem_of_lookup hy))
 ·exact Nat.le_of_lt (x.above y c (PySem.mem_of_lookup h))
 ·have hi : i < vs.length := by
   unfold eG at h2
   by_cases hi : i < vs.length
   ·exact hi
   ·rw [List.getElem?_append_right (by simpa using hi)] at h2
    rw [List.getElem?_replicate] at h2
    split at h2 <;> cases h2
  have ha : vs[i]? = some v := by
   unfold eG at h2
   rw [List.getElem?_append_left (by simpa using hi), List.getElem?_map] at h2
   cases e : vs[i]? with
   | none => rw [e] at h2; cases h2
   | some a => rw [e] at h2; cases h2; rfl
  obtain ⟨u, hu, rv⟩ := r.get ha
  have hp : ps[i]? = some y := by
   rw [← S.pre, List.getElem?_take_of_lt (by omega)]; exact h1
  have ndP : ps.Nodup := by rw [← S.pre]; exact S.nd.sublist (List.take_sublist _ _)
  refine ⟨u, rv, ?_⟩
  rcases S.par y (List.mem_of_getElem? hp) with k | k
  ·exact .inl ⟨k, j9 ndP hp hu k⟩
  ·obtain ⟨c, e⟩ := mT (n := s.heap.objs.size + 1) k
   refine .inr ⟨.inl k, c, e, ?_⟩
   have q := x.cell y c e
   rw [kb ndP hp hu (by show scope.names.lookup y ≠ _; rw [k]; decide)] at q
   exact q
 ·exact e0.hok.fresh (Nat.le_of_lt (x.above y c (PySem.mem_of_lookup h)))
 ·unfold eG
  show _ = N.length
  rw [List.length_append, List.length_map, List.length_replicate]
  omega
theorem v0 {CX : lJ} {P : Program} {w : World} {K : Fg} {mg : Str -> Option Value} {base : Heap} {k : Nat} {f : Addr} {name qual : Str} {params : Arguments} {body : List Stmt} {scope : Scope} {dV kV doc pm cdv ct oc : Value} {an od : Option Addr}
  {osl : Array (Option Value)} {N ps : List Str} {sp : Sp} (lk : K.lookup f = some ⟨oc, od, .func (PySem.W.fnOf name qual params body scope dV kV doc pm an cdv ct), osl⟩) (hcd : PySem.W.codeIn K cdv qual = true) (S : aJ N ps scope)
  (len : ∀ vs H Q E, sp vs H Q E -> vs.length = ps.length)
  (hbody : ∀ (A : Around) (outer : List Env) (s : Shared) (H : Hp) (vs : List V) (Q : VK) (E : XK), cQ k (A.deeper (envOfC qual scope s.heap.objs.size f cdv)) -> sp vs H Q E →
   ∃ t, kh (bO CX P w K mg base N qual scope f cdv A outer s H E) body t /\ t { nx := fun _ H' => Q .non H', rt := Q } (eG N vs) H) :
  bB P w K mg base CX (k + 1) f (PySem.W.fnOf name qual params body scope dV kV doc pm an cdv ct) ps sp := by
 refine ⟨len, fun A outer s H args us vs Q E hr e0 hb r hsp => ?_⟩
 have hl := len _ _ _ _ hsp
 have KX : K.In s.heap := e0.mod.kin.keeps fun b o e => (e0.bs b o e).1
 have lim : s.heap.NoLimit := e0.mod.nolimit.keeps fun b o e => (e0.bs b o e).1
 have hkind : ∀ y ∈ ps.zip us, scope.names.lookup y.1 = some .local ∨ (scope.names.lookup y.1 = some .cell /\ ((cellsFrom (s.heap.objs.size + 1) scope.names []).lookup y.1).isSome = true) := fun ⟨n, v⟩ hy => by
  rcases S.par n (List.of_mem_zip hy).1 with q | q
  ·exact .inl q
  ·exact .inr ⟨q, PySem.W.cellsFrom_some _ _ _ (.inl q)⟩
 refine codeAny_call_function hr.depth (KX _ _ lk) rfl S.co S.gen rfl (PySem.W.codeRec_of KX hcd) (hb _ _ _ _ ?_)
 refine wpAny_newFunctionEnv_cells S.kind hkind fun env he s1 x => ?_
 subst he
 refine ⟨lim.keeps x.toInCall.keep, codeAny_func ?_⟩
 obtain ⟨t, ht, hq⟩ := hbody A outer s H vs Q E (hr.deeper _) hsp
 have I : Inv (bO CX P w K mg base N qual scope f cdv A outer s H E) [] (eG N vs) H s1 := jW S hr.hd e0 hl r x
 refine wpAny_mono (ht [] s1 (eG N vs) H _ I hq) (fun fl s' hs => ?_) fun e s' hs => hs
 have fin : ∀ {σ' : St} {H' : Hp} {v : V} {u : Value}, Inv (bO CX P w K mg base N qual scope f cdv A outer s H E) [] σ' H' s' -> bn v u -> Q v H' -> CE outer P w H s Q u s' :=
  fun {σ' H' v u} J rv q => ⟨v, H', J.os, J.bare, J.base, J.hok, rv, q⟩
 cases fl with
 | ret u =>
  obtain ⟨v, σ', H', J, rv, q⟩ := hs
  exact fin J rv q
 | next =>
  obtain ⟨σ', H', J, q⟩ := hs
  exact fin (v := V.non) (u := Value.none) J rfl q
 | brk =>
  obtain ⟨_, _, _, q⟩ := hs
  exact False.elim q
 | cont =>
  obtain ⟨_, _, _, q⟩ := hs
  exact False.elim q
end L2
namespace L2
open PySem PySem.Spec PyProof.Rows
section
variable {X : Cx} {x : Str} {p pos : Pos} {e : Expr} {es : List Expr} {t : TA} {id T : String} {r : List V -> Hp -> VK -> Prop}
def AE (r : List V -> Hp -> VK -> Prop) (t : TA) : TE := fun σ H Q => t σ H fun vs H1 => r vs H1 Q
theorem sS (hc : df X (.builtin id) r) (hg : Gl X x) (hm : X.mg x = none) (hv : bootBuiltins x = some (.builtin id)) (ha : PA X (e :: es) t) (hn : x ≠ "__name__" := by decide) (hdb : (x == ("__debug__" : Str)) = false := by decide)
  (he : starEach (e :: es) X.env = (false, eval e X.env) :: starEach es X.env := by rfl) (hpl : (backTo pos (starEach es X.env)).any (·.1) = false := by rfl) : PE X (.Call (.Name x p) (e :: es) [] pos) (AE r t) := by
 intro pins s σ H Q I h
 refine wpAny_Call_Name_kw (fF I hg hm hv ?_ hn hdb)
 exact PyProof.Rows.callWith_builtin1 (bZ (ha pos pins s σ H _ I h) fun us s1 ⟨vs, H1, I1, r1, q1⟩ => hc pins s1 σ H1 vs us Q I1 r1 q1) he hpl
theorem qh (hc : df X (.type T) r) (hg : Gl X x) (hm : X.mg x = none) (hv : bootBuiltins x = some (.type T)) (ha : PA X (e :: es) t) (hn : x ≠ "__name__" := by decide) (hdb : (x == ("__debug__" : Str)) = false := by decide)
  (he : starEach (e :: es) X.env = (false, eval e X.env) :: starEach es X.env := by rfl) (hpl : (backTo pos (starEach es X.env)).any (·.1) = false := by rfl) : PE X (.Call (.Name x p) (e :: es) [] pos) (AE r t) := by
 intro pins s σ H Q I h
 refine wpAny_Call_Name_kw (fF I hg hm hv ?_ hn hdb)
 exact PyProof.Rows.callWith_type1 (bZ (ha pos pins s σ H _ I h) fun us s1 ⟨vs, H1, I1, r1, q1⟩ => hc pins s1 σ H1 vs us Q I1 r1 q1) he hpl
end
end L2
namespace HT
open PySem PyProof.Rows
def lexLt : List Int -> List Int -> Bool
 | [], [] => false
 | [], _ :: _ => true
 | _ :: _, [] => false
 | x :: xs, y :: ys => if x = y then lexLt xs ys else decide (x < y)
section
open PySem.SeqAt
open PySem.AutoSeq1 (wpAny_loadPart')
open PySem.MeetsSeq PySem.MeetsSeq2 PySem.MeetsSeq3
end
section
variable {prog : Program} {w : World} {A : Around} {E : cS} {s : Shared}
def sIx (n d : Nat) : Option Int -> Nat
 | none => d
 | some v => if v < 0 then (v + (n : Int)).toNat else min v.toNat n
theorem sIx_none (n d : Nat) : sIx n d none = d := rfl
theorem sIx_nat (n d k : Nat) : sIx n d (some (k : Int)) = min k n := by
 show (if (k : Int) < 0 then ((k : Int) + (n : Int)).toNat else min (k : Int).toNat n) = min k n
 rw [if_neg (by omega), Int.toNat_natCast]
theorem wL (n d : Nat) (hd : d ≤ n) (o : Option Int) : sIx n d o ≤ n := by
 cases o with
 | none => exact hd
 | some v =>
  show (if v < 0 then (v + (n : Int)).toNat else min v.toNat n) ≤ n
  by_cases hv : v < 0
  ·rw [if_pos hv]; omega
  ·rw [if_neg hv]; exact Nat.min_le_right _ _
theorem o4 (v : Int) (n d : Nat) : (if v < 0 then max (v + (n : Int)) 0 else min v (n : Int)) = ((sIx n d (some v) : Nat) : Int) := by
 show (if v < 0 then max (v + (n : Int)) 0 else min v (n : Int)) = (((if v < 0 then (v + (n : Int)).toNat else min v.toNat n) : Nat) : Int)
 by_cases hv : v < 0
 ·simp only [if_pos hv]; omega
 ·simp only [if_neg hv]; omega
theorem nX (lo hi : Option Int) (n : Nat) : Builtin.Slice.sliceAdjust lo hi 1 (n : Int) = (((sIx n 0 lo : Nat) : Int), ((sIx n n hi : Nat) : Int)) := by
 have h1 : ¬ ((1 : Int) < 0) := by omega
 unfold Builtin.Slice.sliceAdjust
 simp only [h1, if_false]
 refine Prod.ext ?_ ?_
 ·cases lo with
  | none => rfl
  | some v => exact o4 v n 0
 ·cases hi with
  | none => rfl
  | some v => exact o4 v n n
theorem nG (i j : Nat) : Builtin.Slice.slicePlaces (i : Int) (j : Int) 1 = j - i := by
 unfold Builtin.Slice.slicePlaces
 have h1 : (1 : Int) > 0 := by omega
 simp only [h1, if_true, Int.ediv_one]
 split <;> omega
theorem iG {v : Value} {o : Option Int} {Q : Option Int -> Shared -> Prop} (p : IsPart v o) (h : Q o s) : wpAny (model prog w) A (Builtin.Slice.slicePartIndex v) Q E s := by
 cases p with
 | none => exact slicePart_none h
 | int i t => exact slicePart_int h
theorem eS {sl : Addr} {vl vu : Value} {lo hi : Option Int} {n : Nat} {Q : Int × Int × Nat -> Shared -> Prop} (hs : s.heap.IsSliceOf sl vl vu .none) (pl : IsPart vl lo) (pu : IsPart vu hi)
  (h : Q (((sIx n 0 lo : Nat) : Int), 1, sIx n n hi - sIx n 0 lo) s) : wpAny (model prog w) A (Builtin.Slice.sliceApplied (.ref sl) (pure (n : Int))) Q E s := by
 obtain ⟨os, hos, hcs, hds⟩ := id hs
 unfold Builtin.Slice.sliceApplied Builtin.Slice.sliceFields
 refine wpAny_bind (wpAny_bind (wpAny_field hos hds (x := vl) rfl (wpAny_bind (wpAny_field hos hds (x := vu) rfl (wpAny_bind (wpAny_field hos hds (x := .none) rfl (wpAny_pure ?_)))))))
 refine wpAny_bind (slicePart_none ?_)
 show wpAny _ _ (if ((1 : Int) == 0) = true then _ else _) _ _ s
 rw [if_neg (by decide)]
 refine wpAny_bind (iG pl (wpAny_bind (iG pu (wpAny_bind (wpAny_pure ?_)))))
 show wpAny _ _ (match Builtin.Slice.sliceAdjust lo hi 1 (n : Int) with | (lo, hi) => pure (lo, (1 : Int), Builtin.Slice.slicePlaces lo hi 1)) _ _ s
 rw [nX lo hi n]
 show wpAny _ _ (pure (((sIx n 0 lo : Nat) : Int), (1 : Int), Builtin.Slice.slicePlaces ((sIx n 0 lo : Nat) : Int) ((sIx n n hi : Nat) : Int) 1)) _ _ s
 rw [nG]
 exact wpAny_pure h
theorem sG (xs : Array Value) (i k : Nat) : ((List.range k).filterMap fun (m : Nat) => xs[((i : Int) + (m : Int) * 1).toNat]?).toArray = ((xs.toList.drop i).take k).toArray := by
 have e : (fun (m : Nat) => xs[((i : Int) + (m : Int) * 1).toNat]?) = fun m => xs[i + m]? := by
  funext m
  have : ((i : Int) + (m : Int) * 1).toNat = i + m := by omega
  rw [this]
 rw [e]
 have := pick_run xs i k
 rw [List.filterMap_map] at this
 have e2 : ((fun x => xs[x]?) ∘ fun x => i + x) = fun m => xs[i + m]? := rfl
 rw [e2] at this
 rw [this]
theorem getItem_tuple_cut {t sl : Addr} {items : Array Value} {vl vu : Value} {lo hi : Option Int} {Q : cS} (ht : IsTup s.heap t items) (hs : s.heap.IsSliceOf sl vl vu .none) (pl : IsPart vl lo) (pu : IsPart vu hi)
  (hw : ¬ (sIx items.size 0 lo = 0 /\ sIx items.size items.size hi = items.size))
  (h : Q (.ref s.heap.objs.size) { s with heap := s.heap.push { cls := .type "tuple", data := .seq ((items.toList.drop (sIx items.size 0 lo)).take (sIx items.size items.size hi - sIx items.size 0 lo)).toArray } })
  (hsz : items.size ≤ sizeLine) : wpAny (model prog w) A (getItem (.ref t) (.ref sl)) Q E s := by
 have htake : sizeOk (.seq ((items.toList.drop (sIx items.size 0 lo)).take (sIx items.size items.size hi - sIx items.size 0 lo)).toArray) := by
  show ((items.toList.drop (sIx items.size 0 lo)).take (sIx items.size items.size hi - sIx items.size 0 lo)).toArray.size ≤ sizeLine
  rw [List.size_toArray, List.length_take, List.length_drop, Array.length_toList]
  omega
 have hj : sIx items.size items.size hi ≤ items.size := wL _ _ (Nat.le_refl _) hi
 obtain ⟨os, hos, hcs, hds⟩ := id hs
 have hTs : s.TypeIs (.ref sl) "slice" := ⟨os, hos, hcs⟩
 unfold getItem
 try with_reducible refine wpAny_holding ?_
 first | refine wpAny_bind (wpAny_pure ?_) | skip
 refine wpAny_bind (wpAny_sequenceKey ht.typeIs (by decide) ?_)
 refine wpAny_bind (wpAny_callSpecial?_slot (name := Str.ofString "__getitem__") ht.typeIs PyProof.Rows.slot_tuple_getitem
  (wpAny_call_entry PyProof.Rows.slot_tuple_getitem ht.typeIs entry_tuple_getitem ?_ (args_tuple_getitem _ _)))
 show wpAny _ _ (Builtin.Tuple.tupleItemsOf (.ref t) >>= _) _ _ s
 refine wpAny_bind (tupleItemsOf_ ht ?_)
 refine wpAny_bind (wpAny_typeOf hTs ?_)
 rw [if_pos (by decide)]
 refine wpAny_bind (eS hs pl pu ?_)
 have hno : ¬ ((((sIx items.size 0 lo : Nat) : Int) == 0 && (1 : Int) == 1 && (sIx items.size items.size hi - sIx items.size 0 lo) == items.size) = true) := by
  intro q
  rw [Bool.and_eq_true, Bool.and_eq_true] at q
  have q1 : ((sIx items.size 0 lo : Nat) : Int) = 0 := eq_of_beq q.1.1
  have q2 : sIx items.size items.size hi - sIx items.size 0 lo = items.size := eq_of_beq q.2
  exact hw ⟨by omega, by omega⟩
 show wpAny _ _ (if (((sIx items.size 0 lo : Nat) : Int) == 0 && (1 : Int) == 1 && (sIx items.size items.size hi - sIx items.size 0 lo) == items.size) = true then _ else _) _ _ s
 rw [if_neg hno, sG]
 first
  | exact wpAny_bind (m := Builtin.Tuple.tupleExact _) (wpAny_newObj_type (wpAny_pure ⟨_, rfl, wpAny_pure h⟩) htake)
  | exact wpAny_bind (m := Builtin.Tuple.tupleExact _) (wpAny_newObj_type (wpAny_bind (wpAny_pure (wpAny_pure ⟨_, rfl, wpAny_pure h⟩))) htake)
  | exact wpAny_bind (wpAny_bind (m := Builtin.Tuple.tupleExact _) (wpAny_newObj_type (wpAny_pure (wpAny_pure ⟨_, rfl, wpAny_pure h⟩)) htake))
  | exact wpAny_bind (wpAny_bind (m := Builtin.Tuple.tupleExact _) (wpAny_newObj_type (wpAny_pure ⟨_, rfl, wpAny_pure h⟩) htake))
end
end HT
namespace L2
open PySem PySem.Spec PyProof.Rows
abbrev TO := St -> Hp -> (Option Int -> Hp -> Prop) -> Prop
def PO (X : Cx) (e : Option Expr) (t : TO) : Prop :=
 ∀ (pins : bL) (s : Shared) (σ : St) (H : Hp) (Q : Option Int -> Hp -> Prop), Inv X pins σ H s -> t σ H Q →
  wpAny (model X.prog X.w) X.A (evalPart e X.env) (fun u s' => ∃ o H', Inv X pins σ H' s' /\ IsPart u o /\ Q o H') X.xe s
def on : TO := fun _ H Q => Q none H
def vI (t : TE) : TO := fun σ H Q => t σ H fun x H1 => ∃ i, x = .int i /\ Q (some i) H1
section
variable {X : Cx} {e : Expr} {te : TE} {lo hi : Option Expr} {tl th : TO} {pos p2 : Pos}
theorem uM : PO X none on := by
 intro pins s σ H Q I h
 rw [evalPart_none]
 exact wpAny_pure ⟨none, H, I, .none, h⟩
theorem uL (h : PE X e te) : PO X (some e) (vI te) := by
 intro pins s σ H Q I hw
 rw [evalPart_some]
 refine bZ (h pins s σ H _ I hw) fun u s1 ⟨x, H1, I1, r1, q1⟩ => ?_
 obtain ⟨i, rfl, q⟩ := q1
 obtain ⟨t, rfl⟩ := r1
 exact ⟨some i, H1, I1, .int i t, q⟩
def qV (X : Cx) (r : V -> Option Int -> Option Int -> Hp -> VK -> Prop) : Prop :=
 ∀ (pins : bL) (s : Shared) (σ : St) (H : Hp) (x : V) (v vl vu : Value) (lo hi : Option Int) (sl : Addr) (Q : VK), Inv X pins σ H s -> bn x v -> s.heap.IsSliceOf sl vl vu .none -> IsPart vl lo -> IsPart vu hi -> r x lo hi H Q →
  ∃ T id, typeLookup (.type T) "__getitem__" = pure (some (.builtin id)) /\ s.TypeIs v T /\ wpAny (model X.prog X.w) X.A (getItem v (.ref sl)) (EP X pins σ Q) X.xe s
theorem qV.or {r r' : V -> Option Int -> Option Int -> Hp -> VK -> Prop} (h : qV X r) (h' : qV X r') : qV X (fun x lo hi H Q => r x lo hi H Q ∨ r' x lo hi H Q) := by
 intro pins s σ H x v vl vu lo hi sl Q I rx hs pl pu q
 rcases q with q | q
 ·exact h pins s σ H x v vl vu lo hi sl Q I rx hs pl pu q
 ·exact h' pins s σ H x v vl vu lo hi sl Q I rx hs pl pu q
def BX (r : V -> Option Int -> Option Int -> Hp -> VK -> Prop) (te : TE) (tl th : TO) : TE := fun σ H Q => te σ H fun x H1 => tl σ H1 fun l H2 => th σ H2 fun u H3 => r x l u H3 Q
theorem sM {r : V -> Option Int -> Option Int -> Hp -> VK -> Prop} (hr : qV X r) (he : PE X e te) (hl : PO X lo tl) (hu : PO X hi th) : PE X (.Subscript e (.Slice lo hi none p2) pos) (BX r te tl th) := by
 intro pins s σ H Q I h
 refine Subscript_ (bZ (he pins s σ H _ I h) fun v s1 ⟨x, H1, I1, r1, q1⟩ => ?_)
 refine wpAny_Slice (bZ (hl pins s1 σ H1 _ I1 q1) fun vl s2 ⟨l, H2, I2, pl, q2⟩ => bZ (hu pins s2 σ H2 _ I2 q2) fun vu s3 ⟨u, H3, I3, pu, q3⟩ => ?_)
 rw [evalPart_none]
 refine wpAny_pure ?_
 have I4 : Inv X pins σ H3 { s3 with heap := s3.heap.push { cls := .type "slice", data := .fields #[vl, vu, .none] } } := I3.kept (t' := s3.toks) fun b ob q => Heap.get?_push_of_some _ q
 obtain ⟨T, id, hT, ht, hg⟩ := hr pins { s3 with heap := s3.heap.push { cls := .type "slice", data := .fields #[vl, vu, .none] } } σ H3 x v vl vu l u s3.heap.objs.size Q I4 r1 (Heap.IsSliceOf.new ..) pl pu q3
 show wpAny (model X.prog X.w) X.A (subscriptTail e (.Slice lo hi none p2) v (.ref s3.heap.objs.size)) (EP X pins σ Q) X.xe { s3 with heap := s3.heap.push { cls := .type "slice", data := .fields #[vl, vu, .none] } }
 exact tail_any (ops := [.ref s3.heap.objs.size, v]) ht hT hg (by with_unfolding_all rfl)
def gJ (xs : List V) (lo hi : Option Int) : List V := (xs.drop (HT.sIx xs.length 0 lo)).take (HT.sIx xs.length xs.length hi - HT.sIx xs.length 0 lo)
theorem hZ (xs : List V) (lo hi : Option Int) : (gJ xs lo hi).length ≤ xs.length := by
 unfold gJ
 rw [List.length_take, List.length_drop]
 omega
def zF (K : Fg) : V -> Option Int -> Option Int -> Hp -> VK -> Prop := fun x lo hi H Q => ∃ a xs, x = .ref a /\ bt K H a xs ∧
 ¬ (HT.sIx xs.length 0 lo = 0 /\ HT.sIx xs.length xs.length hi = xs.length) /\ ∀ p, H p = none -> Q (.ref p) (upd H p (.tup (gJ xs lo hi)))
theorem ww : qV X (zF X.K) := by
 intro pins s σ H x v vl vu lo hi sl Q I rx hs pl pu h
 obtain ⟨a, xs, rfl, hx, hw, q⟩ := h
 cases rx
 obtain ⟨its, r, ht, hz⟩ := I.tuple hx
 have hlen : its.toArray.size = xs.length := by rw [List.size_toArray]; exact r.length.symm
 refine ⟨"tuple", _, PyProof.Rows.slot_tuple_getitem.lookup, ht.typeIs, ?_⟩
 refine HT.getItem_tuple_cut ht hs pl pu (by rw [hlen]; exact hw) ?_ (by rw [hlen]; exact hz)
 rw [hlen]
 refine ⟨.ref s.heap.objs.size, _, I.laid (t' := s.toks) (o := .tup (gJ xs lo hi)) (fun b ob q => Heap.get?_push_of_some _ q) (Nat.le_refl _) ?_, rfl, q _ (I.hok.fresh (Nat.le_refl _))⟩
 exact ⟨Nat.le_trans (hZ xs lo hi) hz, _, (r.drop (HT.sIx xs.length 0 lo)).take (HT.sIx xs.length xs.length hi - HT.sIx xs.length 0 lo), IsTup.new _ _⟩
def C8 (K : Fg) : R2 := fun x y H Q => ∃ a b ns ms, x = .ref a /\ y = .ref b /\ bt K H a (ns.map V.int) /\ bt K H b (ms.map V.int) /\ Q (.bl (HT.lexLt ns ms)) H
def Cm (K : Fg) : R2 := fun x y H Q => ∃ a b xs ys, x = .ref a /\ y = .ref b /\ bt K H a xs /\ bt K H b ys /\ xs ≠ [] /\ xs.length + ys.length ≤ sizeLine ∧
 (ys = [] -> Q (.ref a) H) /\ (ys ≠ [] -> ∀ p, H p = none -> Q (.ref p) (upd H p (.tup (xs ++ ys))))
end
end L2
namespace L2
open PySem PySem.Spec PyProof.Rows
def tF (n : Nat) (i : Int) : Option Nat := if 0 ≤ i then (if i < n then some i.toNat else none) else if -(n : Int) ≤ i then some (i + n).toNat else none
def kd {α : Type} (xs : List α) (i : Int) : Option α := (tF xs.length i).bind fun j => xs[j]?
theorem oO {n : Nat} {i : Int} {j : Nat} (h : tF n i = some j) : seqIndex? i n = some j /\ j < n /\ -(n : Int) ≤ i /\ i < n := by
 unfold tF at h
 by_cases h0 : 0 ≤ i
 ·rw [if_pos h0] at h
  by_cases h1 : i < n
  ·rw [if_pos h1] at h
   have e : i.toNat = j := Option.some.inj h
   exact ⟨by rw [seqIndex_of h0 h1, e], by omega, by omega, h1⟩
  ·rw [if_neg h1] at h; cases h
 ·rw [if_neg h0] at h
  by_cases h1 : -(n : Int) ≤ i
  ·rw [if_pos h1] at h
   have e : (i + n).toNat = j := Option.some.inj h
   exact ⟨by rw [seqIndex_neg (by omega) h1, e], by omega, h1, by omega⟩
  ·rw [if_neg h1] at h; cases h
theorem o6 {α : Type} {xs : List α} {i : Int} {v : α} (h : kd xs i = some v) : ∃ j, seqIndex? i xs.length = some j /\ xs[j]? = some v /\ j < xs.length /\ -(xs.length : Int) ≤ i /\ i < xs.length := by
 unfold kd at h
 cases e : tF xs.length i with
 | none => rw [e] at h; cases h
 | some j =>
  rw [e] at h
  obtain ⟨h1, h2, h3, h4⟩ := oO e
  exact ⟨j, h1, h, h2, h3, h4⟩
theorem aL {α : Type} {xs : List α} {j : Nat} {v : α} (h : xs[j]? = some v) : kd xs (j : Int) = some v := by
 have hj : j < xs.length := (List.getElem?_eq_some_iff.mp h).1
 have e : tF xs.length (j : Int) = some j := by
  unfold tF
  rw [if_pos (by omega), if_pos (by omega)]; simp
 unfold kd; rw [e]; exact h
theorem tY {α : Type} (xs : List α) (v : α) : kd (xs ++ [v]) (-1) = some v := by
 have hl : (xs ++ [v]).length = xs.length + 1 := by simp
 have e : tF (xs ++ [v]).length (-1) = some xs.length := by
  unfold tF
  rw [hl, if_neg (by decide), if_pos (by omega)]
  congr 1
  omega
 unfold kd
 rw [e]
 show (xs ++ [v])[xs.length]? = some v
 simp
def lG (b : Expr) : Prop := ∀ o i, subscripted b false o i = operate [o, i] (getItem o i)
def yM (X : Cx) (r : R2) : Prop :=
 ∀ (value slice : Expr) (pins : bL) (s : Shared) (σ : St) (H : Hp) (x y : V) (v u : Value) (Q : VK), Inv X pins σ H s -> bn x v -> bn y u -> r x y H Q →
  subscripted slice false v u = operate [v, u] (getItem v u) -> wpAny (model X.prog X.w) X.A (subscriptTail value slice v u) (EP X pins σ Q) X.xe s
def A4 (X : Cx) (id : String) (r : V -> List V -> Hp -> VK -> Prop) : Prop :=
 ∀ (pins : bL) (s : Shared) (σ : St) (H : Hp) (x : V) (xs : List V) (v : Value) (us : List Value) (Q : VK), Inv X pins σ H s -> bn x v -> aW xs us -> r x xs H Q →
  wpAny (model X.prog X.w) X.A (call (.builtin id) (v :: us)) (EP X pins σ Q) X.xe s
section
variable {X : Cx} {a b : Expr} {ta tb : TE} {pos : Pos}
theorem zV {r : R2} (hr : yM X r) (ha : PE X a ta) (hb : PE X b tb) (hs : lG b) : PE X (.Subscript a b pos) (uj r ta tb) := by
 intro pins s σ H Q I h
 exact Subscript_ (yB ha hb I h fun v u s2 x y H2 I2 rx ry q => hr a b pins s2 σ H2 x y v u Q I2 rx ry q (hs _ _))
def wR (K : Fg) : R2 := fun x y H Q => ∃ p xs i v, x = .ref p /\ y = .int i /\ aO K H p xs /\ kd xs i = some v /\ Q v H
def wQ (K : Fg) : R2 := fun x y H Q => ∃ p xs i v, x = .ref p /\ y = .int i /\ bt K H p xs /\ kd xs i = some v /\ Q v H
def Bp : R2 := fun x y H Q => ∃ z i c, x = .str z /\ y = .int i /\ z.length ≤ sizeLine /\ kd z.cps.toList i = some c /\ Q (.str ⟨#[c]⟩) H
theorem bo : yM X (wR X.K) := by
 intro value slice pins s σ H x y v u Q I rx ry h hs
 obtain ⟨p, xs, i, z, rfl, rfl, hq, he, q⟩ := h
 cases rx
 obtain ⟨t, rfl⟩ := ry
 obtain ⟨its, r, pl, hz⟩ := I.list hq
 obtain ⟨j, h1, h2, h3, h4, h5⟩ := o6 he
 obtain ⟨w, ew, rw'⟩ := r.get h2
 have hl := r.length
 have hn := k6
 have fin : EP X pins σ Q w s := ⟨z, H, I, rw', q⟩
 by_cases h0 : 0 ≤ i
 ·have hj : i.toNat = j := by
   rw [seqIndex_of h0 h5] at h1
   exact Option.some.inj h1
  exact item_listR pl.isList h0 (by omega) (by rw [hj]; simpa using ew) fin hs
 ·have hj : (i + (its.toArray.size : Int)).toNat = j := by
   rw [seqIndex_neg (by omega) h4] at h1
   rw [List.size_toArray, ← hl]
   exact Option.some.inj h1
  exact subscriptTail_builtinR (x := w) pl.isList.typeIs slot_list_getitem.lookup
   (wpAny_getItem_list_neg (Q := fun r s' => r = w /\ EP X pins σ Q r s') pl.isList (by omega) (by rw [List.size_toArray] <;> omega) (by omega) (by rw [hj]; simpa using ew) ⟨rfl, fin⟩) hs
theorem aM : yM X (wQ X.K) := by
 intro value slice pins s σ H x y v u Q I rx ry h hs
 obtain ⟨p, xs, i, z, rfl, rfl, hq, he, q⟩ := h
 cases rx
 obtain ⟨t, rfl⟩ := ry
 obtain ⟨its, r, pl, hz⟩ := I.tuple hq
 obtain ⟨j, h1, h2, h3, h4, h5⟩ := o6 he
 obtain ⟨w, ew, rw'⟩ := r.get h2
 have hl := r.length
 have hn := k6
 have fin : EP X pins σ Q w s := ⟨z, H, I, rw', q⟩
 exact subscriptTail_builtinR (x := w) pl.typeIs slot_tuple_getitem.lookup
  (getItem_tuple (j := j) (Q := fun r s' => r = w /\ EP X pins σ Q r s') pl (by omega) (by omega) (by rw [List.size_toArray, ← hl]; exact h1) (by simpa using ew) ⟨rfl, fin⟩) hs
def DM (K : Fg) : R2 := fun x y H Q => wR K x y H Q ∨ wQ K x y H Q ∨ Bp x y H Q
theorem nK (its : List Value) (n j : Nat) (u : Value) : Obj.mapSeq (·.setIfInBounds j u) { cls := .type "list", data := .seq its.toArray n } = { cls := .type "list", data := .seq (its.set j u).toArray n } := by
 simp [Obj.mapSeq]
theorem Inv.lst {pins : bL} {σ : St} {H : Hp} {s : Shared} {p : Addr} {xs : List V} (I : Inv X pins σ H s) (h : H p = some (.lst xs)) :
  ∃ (its : List Value) (n : Nat), aW xs its /\ s.heap.get? p = some { cls := .type "list", data := .seq its.toArray n } /\ xs.length ≤ sizeLine := by
 obtain ⟨z, its, n, r, e⟩ := I.hok p _ h
 exact ⟨its, n, r, e, z⟩
theorem Inv.lstUpd {pins : bL} {σ : St} {H : Hp} {s : Shared} {p : Addr} {xs ys : List V} {its its' : List Value} {n n' : Nat} {f : Obj -> Obj} (I : Inv X pins σ H s) (h : H p = some (.lst xs))
  (ho : s.heap.get? p = some { cls := .type "list", data := .seq its.toArray n }) (hf : f { cls := .type "list", data := .seq its.toArray n } = { cls := .type "list", data := .seq its'.toArray n' }) (r : aW ys its') (hz : ys.length ≤ sizeLine) (t : Nat) :
  Inv X pins σ (upd H p (.lst ys)) { s with heap := s.heap.update p f, toks := t } := by
 have e : (s.heap.update p f).get? p = some { cls := .type "list", data := .seq its'.toArray n' } := by
  rw [Heap.get?_update_self f ho (by rw [hf] <;> rfl), hf]
 refine I.write (x := p) (e := p) (by rw [h]; trivial) (.inl rfl) (fun b u hb q => (Heap.get?_update_other _ _ (Ne.symm hb)).trans q) ⟨_, e⟩ ?_
 exact ⟨hz, its', n', r, e⟩
def zG : V -> V -> V -> Hp -> (Hp -> Prop) -> Prop := fun o i v H Q => ∃ p xs k j, o = .ref p /\ i = .int k /\ H p = some (.lst xs) /\ tF xs.length k = some j /\ Q (upd H p (.lst (xs.set j v)))
theorem dq : yH X zG := by
 intro pins s σ H o i v ov iv u Q I ro ri rv h
 obtain ⟨p, xs, k, j, rfl, rfl, hp, hj, q⟩ := h
 cases ro
 obtain ⟨t, rfl⟩ := ri
 obtain ⟨its, n, r, ho, hz⟩ := I.lst hp
 obtain ⟨h1, h2, h3, h4⟩ := oO hj
 have hl := r.length
 have hn := k6
 have I' : Inv X pins σ (upd H p (.lst (xs.set j v))) { s with heap := s.heap.update p (Obj.mapSeq (·.setIfInBounds j u)) } :=
  I.lstUpd hp ho (nK its n j u) (r.set rv j) (by rw [List.length_set]; exact hz) s.toks
 by_cases h0 : 0 ≤ k
 ·have hk : k.toNat = j := by
   rw [seqIndex_of h0 h4] at h1
   exact Option.some.inj h1
  exact PySem.W.ki_setAt ho h0 (by omega) (by rw [List.size_toArray, ← hl]; exact h4) (by rw [hk]; exact ⟨_, I', q⟩)
 ·have hk : (k + (its.toArray.size : Int)).toNat = j := by
   rw [seqIndex_neg (by omega) h3] at h1
   rw [List.size_toArray, ← hl]
   exact Option.some.inj h1
  exact PySem.W.ki_setBack ho (by omega) (by rw [List.size_toArray, ← hl]; exact h3) (by omega) (by rw [hk]; exact ⟨_, I', q⟩)
theorem kM (lo hi : Option Int) (n : Nat) : (sliceBounds lo hi none n).1 = ((HT.sIx n 0 lo : Nat) : Int) /\ (sliceBounds lo hi none n).2.1 = ((HT.sIx n n hi : Nat) : Int) /\ (sliceBounds lo hi none n).2.2 = 1 := by
 refine ⟨?_, ?_, rfl⟩
 ·cases lo with
  | none => simp [sliceBounds, HT.sIx]
  | some i =>
   simp only [sliceBounds, HT.sIx, Option.getD_none, show (1 : Int) > 0 by decide, if_true]
   by_cases h : i < 0
   ·simp only [h, if_true] <;> omega
   ·simp only [h, if_false] <;> omega
 ·cases hi with
  | none => simp [sliceBounds, HT.sIx]
  | some i =>
   simp only [sliceBounds, HT.sIx, Option.getD_none, show (1 : Int) > 0 by decide, if_true]
   by_cases h : i < 0
   ·simp only [h, if_true] <;> omega
   ·simp only [h, if_false] <;> omega
theorem jf (its : List Value) (lo hi : Option Int) : slicePick its.toArray lo hi none = ((its.drop (HT.sIx its.length 0 lo)).take (HT.sIx its.length its.length hi - HT.sIx its.length 0 lo)).toArray := by
 obtain ⟨h1, h2, h3⟩ := kM lo hi its.toArray.size
 unfold slicePick
 rw [h1, h2, h3]
 simp only [sliceRange_one, pick_run, List.size_toArray] <;> rfl
def Bn (K : Fg) : V -> Option Int -> Option Int -> Hp -> VK -> Prop := fun x lo hi H Q => ∃ a xs, x = .ref a /\ aO K H a xs /\ ∀ p, H p = none -> Q (.ref p) (upd H p (.lst (gJ xs lo hi)))
theorem ur : qV X (Bn X.K) := by
 intro pins s σ H x v vl vu lo hi sl Q I rx hs pl pu h
 obtain ⟨a, xs, rfl, hx, q⟩ := h
 cases rx
 obtain ⟨its, r, ht, hz⟩ := I.list hx
 have hlen := r.length
 refine ⟨"list", _, slot_list_getitem.lookup, ht.isList.typeIs, ?_⟩
 refine wpAny_getItem_list_slice ht.isList hs pl pu .none (by simp) ?_ (by rw [List.size_toArray] <;> omega)
 rw [jf, ← hlen]
 refine ⟨.ref s.heap.objs.size, _, I.laid (t' := s.toks) (o := .lst (gJ xs lo hi)) (fun b ob q => Heap.get?_push_of_some _ q) (Nat.le_refl _) ?_, rfl, q _ (I.hok.fresh (Nat.le_refl _))⟩
 exact ⟨Nat.le_trans (hZ xs lo hi) hz, _, 0, (r.drop (HT.sIx xs.length 0 lo)).take (HT.sIx xs.length xs.length hi - HT.sIx xs.length 0 lo), Heap.get?_push_size _ rfl⟩
def gG : V -> Bool
 | .non => true
 | .bl _ => true
 | .int _ => true
 | .str _ => true
 | _ => false
def v1 : V -> V -> Bool
 | .non, .non => true
 | .bl a, .bl b => a == b
 | .bl a, .int b => (if a then 1 else 0) == b
 | .int a, .bl b => a == (if b then 1 else 0)
 | .int a, .int b => a == b
 | .str a, .str b => a == b
 | _, _ => false
theorem yq {A : Around} {s : Shared} {y x : V} {u v : Value} (ry : bn y u) (rx : bn x v) (fy : gG y = true) (fx : gG x = true) : SeqAt.EqAt A s u v (v1 y x) := by
 cases y with
 | non =>
  cases ry
  cases x with
  | non => cases rx; exact SeqAt.EqAt.same _
  | bl b => cases rx; exact SeqAt.EqAt.none_bool b
  | int b => obtain ⟨t, rfl⟩ := rx; exact SeqAt.EqAt.none_int b t
  | str b => obtain ⟨t, rfl⟩ := rx; exact SeqAt.EqAt.none_str b t
  | _ => exact absurd (show false = true from fx) Bool.false_ne_true
 | bl a =>
  cases ry
  cases x with
  | non => cases rx; exact SeqAt.EqAt.bool_none a
  | bl b => cases rx; exact SeqAt.EqAt.bool_bool a b
  | int b => obtain ⟨t, rfl⟩ := rx; exact SeqAt.EqAt.bool_int a b t
  | str b => obtain ⟨t, rfl⟩ := rx; exact SeqAt.EqAt.bool_str a b t
  | _ => exact absurd (show false = true from fx) Bool.false_ne_true
 | int a =>
  obtain ⟨t', rfl⟩ := ry
  cases x with
  | non => cases rx; exact SeqAt.EqAt.int_none a t'
  | bl b => cases rx; exact SeqAt.EqAt.int_bool a t' b
  | int b => obtain ⟨t, rfl⟩ := rx; exact SeqAt.EqAt.int_int a t' b t
  | str b => obtain ⟨t, rfl⟩ := rx; exact SeqAt.EqAt.int_str a t' b t
  | _ => exact absurd (show false = true from fx) Bool.false_ne_true
 | str a =>
  obtain ⟨t', rfl⟩ := ry
  cases x with
  | non => cases rx; exact SeqAt.EqAt.str_none a t'
  | bl b => cases rx; exact SeqAt.EqAt.str_bool a t' b
  | int b => obtain ⟨t, rfl⟩ := rx; exact SeqAt.EqAt.str_int a t' b t
  | str b => obtain ⟨t, rfl⟩ := rx; exact SeqAt.EqAt.str_str a t' b t
  | _ => exact absurd (show false = true from fx) Bool.false_ne_true
 | _ => exact absurd (show false = true from fy) Bool.false_ne_true
def nU (x : V) (u : Value) : Bool := match u with
 | .none => v1 .non x
 | .bool b => v1 (.bl b) x
 | .int i _ => v1 (.int i) x
 | .str z _ => v1 (.str z) x
 | _ => false
theorem tP {x y : V} {u : Value} (r : bn y u) (f : gG y = true) : nU x u = v1 y x := by
 cases y with
 | non => cases r; rfl
 | bl b => cases r; rfl
 | int i => obtain ⟨t, rfl⟩ := r; rfl
 | str z => obtain ⟨t, rfl⟩ := r; rfl
 | _ => exact absurd (show false = true from f) Bool.false_ne_true
theorem gL {x : V} : ∀ {xs : List V} {us : List Value}, aW xs us -> xs.all gG = true -> us.any (nU x) = xs.any fun y => v1 y x
 | _, _, .nil, _ => rfl
 | y :: xs, u :: us, .cons r t, f => by
  rw [List.all_cons, Bool.and_eq_true] at f
  rw [List.any_cons, List.any_cons, tP r f.1, gL t f.2]
theorem fC {A : Around} {s : Shared} {x : V} {v : Value} (rx : bn x v) (fx : gG x = true) : ∀ {xs : List V} {us : List Value}, aW xs us -> xs.all gG = true -> ∀ u ∈ us, SeqAt.EqAt A s u v (nU x u)
 | _, _, .nil, _ => fun u hu => by cases hu
 | y :: xs, u :: us, .cons r t, f => fun u' hu => by
  rw [List.all_cons, Bool.and_eq_true] at f
  rcases List.mem_cons.mp hu with rfl | hu
  ·rw [tP r f.1]; exact yq r rx f.1 fx
  ·exact fC rx fx t f.2 u' hu
def k8 (x : V) (xs : List V) : Bool := xs.any fun y => v1 y x
def AU (K : Fg) (neg : Bool) : R2 := fun x y H Q => ∃ p xs, y = .ref p /\ (aO K H p xs ∨ bt K H p xs) /\ gG x = true /\ xs.all gG = true /\ Q (.bl (if neg then !k8 x xs else k8 x xs)) H
theorem qi : e9 X (compareOp .In) (AU X.K false) := by
 intro pins s σ H x y v u Q I rx ry h
 obtain ⟨p, xs, rfl, hq, fx, fs, q⟩ := h
 cases ry
 rcases hq with hq | hq
 ·obtain ⟨its, r, pl, hz⟩ := I.list hq
  refine SeqAt.in_listAt (nU x) pl.isList (fun w hw => fC rx fx r fs w (by simpa using hw)) ⟨.bl _, H, I, rfl, ?_⟩
  rw [show its.toArray.any (nU x) = its.any (nU x) by simp, gL r fs]
  exact q
 ·obtain ⟨its, r, pl, hz⟩ := I.tuple hq
  refine SeqAt.in_tupleAt (nU x) pl (fun w hw => fC rx fx r fs w (by simpa using hw)) ⟨.bl _, H, I, rfl, ?_⟩
  rw [show its.toArray.any (nU x) = its.any (nU x) by simp, gL r fs]
  exact q
theorem kX : e9 X (compareOp .NotIn) (AU X.K true) := by
 intro pins s σ H x y v u Q I rx ry h
 obtain ⟨p, xs, rfl, hq, fx, fs, q⟩ := h
 cases ry
 rcases hq with hq | hq
 ·obtain ⟨its, r, pl, hz⟩ := I.list hq
  refine SeqAt.notIn_listAt (nU x) pl.isList (fun w hw => fC rx fx r fs w (by simpa using hw)) ⟨.bl _, H, I, rfl, ?_⟩
  rw [show its.toArray.any (nU x) = its.any (nU x) by simp, gL r fs]
  exact q
 ·obtain ⟨its, r, pl, hz⟩ := I.tuple hq
  refine SeqAt.notIn_tupleAt (nU x) pl (fun w hw => fC rx fx r fs w (by simpa using hw)) ⟨.bl _, H, I, rfl, ?_⟩
  rw [show its.toArray.any (nU x) = its.any (nU x) by simp, gL r fs]
  exact q
theorem aw : df X (.builtin "len") (fun xs H Q => ∃ p ys, xs = [.ref p] /\ (aO X.K H p ys ∨ bt X.K H p ys) /\ Q (.int ys.length) H) := by
 intro pins s σ H xs us Q I r h
 obtain ⟨p, ys, rfl, hq, q⟩ := h
 obtain ⟨u, rfl, rx⟩ := fg r
 cases rx
 have hn := k6
 rcases hq with hq | hq
 ·obtain ⟨its, r', pl, hz⟩ := I.list hq
  have hlen := r'.length
  exact Calls.call_len_list pl.isList (by simp only [List.size_toArray] <;> omega) ⟨.int ys.length, H, I.tok _, ⟨s.toks + 1, by rw [List.size_toArray, hlen]⟩, q⟩
 ·obtain ⟨its, r', pl, hz⟩ := I.tuple hq
  have hlen := r'.length
  exact len_tuple pl (by simp only [List.size_toArray] <;> omega) ⟨.int ys.length, H, I.tok _, ⟨s.toks + 1, by rw [List.size_toArray, hlen]⟩, q⟩
theorem lE : df X (.type "list") (fun xs H Q => ∃ p ys, xs = [.ref p] /\ (aO X.K H p ys ∨ bt X.K H p ys) /\ ∀ l, H l = none -> Q (.ref l) (upd H l (.lst ys))) := by
 intro pins s σ H xs us Q I r h
 obtain ⟨p, ys, rfl, hq, q⟩ := h
 obtain ⟨u, rfl, rx⟩ := fg r
 cases rx
 have fin : ∀ (its : List Value), aW ys its -> ys.length ≤ sizeLine -> ∀ (h' : Heap) (c' : Nat), (∀ b o', s.heap.get? b = some o' -> h'.get? b = some o') →
   h'.get? s.heap.objs.size = some { cls := .type "list", dict := none, data := .seq its.toArray c', slots := #[] } -> EP X pins σ Q (.ref s.heap.objs.size) { s with heap := h' } := fun its r' hz h' c' kp e =>
  ⟨.ref s.heap.objs.size, _, I.laid (t' := s.toks) kp (Nat.le_refl _) (show ObjOk X.prog X.w _ h' _ (.lst ys) from ⟨hz, its, c', r', e⟩), rfl, q _ (I.hok.fresh (Nat.le_refl _))⟩
 rcases hq with hq | hq
 ·obtain ⟨its, r', pl, hz⟩ := I.list hq
  have hlen := r'.length
  obtain ⟨o, ho, hc, n, hd⟩ := pl.isList
  exact call_list_seq p (.inl rfl) ho hc hd (fun h' c' kp e => fin its r' hz h' c' kp e) (by simp only [List.size_toArray] <;> omega)
 ·obtain ⟨its, r', pl, hz⟩ := I.tuple hq
  have hlen := r'.length
  obtain ⟨o, ho, hc, n, hd⟩ := pl
  exact call_list_seq p (.inr rfl) ho hc hd (fun h' c' kp e => fin its r' hz h' c' kp e) (by simp only [List.size_toArray] <;> omega)
theorem bw : df X (.type "tuple") (fun xs H Q => ∃ p ys, xs = [.ref p] /\ ((aO X.K H p ys /\ ∀ l, H l = none -> Q (.ref l) (upd H l (.tup ys))) ∨ (bt X.K H p ys /\ Q (.ref p) H))) := by
 intro pins s σ H xs us Q I r h
 obtain ⟨p, ys, rfl, h⟩ := h
 obtain ⟨u, rfl, rx⟩ := fg r
 cases rx
 rcases h with ⟨hq, q⟩ | ⟨hq, q⟩
 ·obtain ⟨its, r', pl, hz⟩ := I.list hq
  have hlen := r'.length
  refine call_tuple_list pl.isList (fun h' kp => ?_) (by simp only [List.size_toArray] <;> omega)
  have I1 : Inv X pins σ H { s with heap := h' } := I.kept (t' := s.toks) kp
  have I2 : Inv X pins σ (upd H h'.objs.size (.tup ys)) { s with heap := h'.push { cls := .type "tuple", data := .seq its.toArray } } :=
   I1.laid (t' := s.toks) (fun b o e => Heap.get?_push_of_some _ e) (Nat.le_refl _) (show ObjOk X.prog X.w _ _ _ (.tup ys) from ⟨hz, its, r', IsTup.new _ _⟩)
  exact ⟨.ref h'.objs.size, _, I2, rfl, q _ (I1.hok.fresh (Nat.le_refl _))⟩
 ·obtain ⟨its, r', pl, hz⟩ := I.tuple hq
  exact call_tuple_same pl ⟨.ref p, H, I, rfl, q⟩
def A9 (K : Fg) (T : String) (x : V) (H : Hp) : Prop := match x with
 | .str _ => T = "str"
 | .int _ => T = "int"
 | .ref p => (T = "list" /\ ∃ xs, aO K H p xs) ∨ (T = "tuple" /\ ∃ o, K.lookup p = some o /\ o.cls = .type "tuple" /\ o.dict = none) ∨
   (T = "dict" /\ ((∃ kvs, H p = some (.dK kvs)) ∨ ∃ kvs, H p = some (.dT kvs))) ∨ (T = "set" /\ ∃ S n, H p = some (.set S n))
 | _ => False
theorem re {pins : bL} {σ : St} {H : Hp} {s : Shared} {T : String} {x : V} {v : Value} (I : Inv X pins σ H s) (r : bn x v) (ty : A9 X.K T x H) :
  s.TypeIs v T /\ ∀ a, v = .ref a -> ∃ ob, s.heap.get? a = some ob /\ ob.dict = none := by
 cases x with
 | str z =>
  obtain ⟨t, rfl⟩ := r
  cases (show T = "str" from ty)
  exact ⟨typeIs_str s z t, fun _ e => nomatch e⟩
 | int i =>
  obtain ⟨t, rfl⟩ := r
  cases (show T = "int" from ty)
  exact ⟨typeIs_int s i t, fun _ e => nomatch e⟩
 | ref p =>
  cases r
  rcases ty with ⟨rfl, xs, hq⟩ | ⟨rfl, o, hk, hc, hd⟩ | ⟨rfl, hk⟩ | ⟨rfl, S, n, hk⟩
  ·obtain ⟨its, _, pl, _⟩ := I.list hq
   refine ⟨pl.isList.typeIs, fun a e => ?_⟩
   cases e
   obtain ⟨o, n, e, c, hd, _⟩ := pl
   exact ⟨o, e, hd⟩
  ·refine ⟨⟨o, I.kIn p o hk, hc⟩, fun a e => ?_⟩
   cases e
   exact ⟨o, I.kIn _ o hk, hd⟩
  ·have z : ∃ o, s.heap.get? p = some o /\ o.ExactDict := by
    rcases hk with ⟨kvs, hk⟩ | ⟨kvs, hk⟩
    ·obtain ⟨_, _, _, _, o, _, _, e, ex, _⟩ := I.hok p _ hk
     exact ⟨o, e, ex⟩
    ·obtain ⟨_, _, _, _, o, _, _, e, ex, _⟩ := I.hok p _ hk
     exact ⟨o, e, ex⟩
   obtain ⟨o, e, ex⟩ := z
   refine ⟨⟨o, e, ex.1⟩, fun a e2 => ?_⟩
   cases e2
   exact ⟨o, e, ex.2.1⟩
  ·obtain ⟨o, _, _, _, e, ex, _⟩ := I.hok p _ hk
   refine ⟨⟨o, e, ex.1⟩, fun a e2 => ?_⟩
   cases e2
   exact ⟨o, e, ex.2.1⟩
 | _ => exact False.elim ty
def zn (K : Fg) (T : String) (r : V -> List V -> Hp -> VK -> Prop) (to : TE) : TE := fun σ H Q => to σ H fun x H1 => A9 K T x H1 /\ r x [] H1 Q
def B8 (K : Fg) (T : String) (r : V -> List V -> Hp -> VK -> Prop) (to : TE) (t : TA) : TE := fun σ H Q => to σ H fun x H1 => A9 K T x H1 /\ t σ H1 fun xs H2 => r x xs H2 Q
variable {o e : Expr} {es : List Expr} {to : TE} {t : TA} {name : Str} {apos cpos : Pos} {T id : String} {r : V -> List V -> Hp -> VK -> Prop}
theorem xp (pa : PlainAttrs T) (slot : Slot T name id) (hty : typeOf (.builtin id) = pure (.type "method_descriptor")) (hm : A4 X id r) (ho : PE X o to)
  (hbase : attributeBase o name X.env (eval o X.env) = eval o X.env := by rfl) (hline : (apos.endLine == cpos.line) = true := by rfl) : PE X (.Call (.Attribute o name apos) [] [] cpos) (zn X.K T r to) := by
 intro pins s σ H Q I h
 refine wpAny_Call_method0_late hbase hline (bZ (ho pins s σ H _ I h) fun v s1 ⟨x, H1, I1, r1, ty, q1⟩ => ?_)
 obtain ⟨h1, h2⟩ := re I1 r1 ty
 exact ⟨T, id, pa, slot, hty, h1, h2, Calls.callWith_builtin rfl (PySem.evalArgs_none (hm pins s1 σ H1 x [] v [] Q I1 r1 .nil q1))⟩
theorem zW (pa : PlainAttrs T) (slot : Slot T name id) (hty : typeOf (.builtin id) = pure (.type "method_descriptor")) (hm : A4 X id r) (ho : PE X o to) (ha : PA X (e :: es) t)
  (hbase : attributeBase o name X.env (eval o X.env) = eval o X.env := by rfl)
  (hfew : ((backTo cpos (starEach (e :: es) X.env)).all (fun x => !x.1) && (backToKw cpos (keywordEach [] X.env)).all (fun x => x.1.isSome)
   && decide ((e :: es).length + ([] : List Keyword).length + (if ([] : List Keyword).isEmpty then 0 else 1) < 30)) = true := by rfl)
  (hline : (apos.endLine == cpos.line) = true := by rfl) (hs : starEach (e :: es) X.env = (false, eval e X.env) :: starEach es X.env := by rfl) (hplain : (backTo cpos (starEach es X.env)).any (·.1) = false := by rfl) :
  PE X (.Call (.Attribute o name apos) (e :: es) [] cpos) (B8 X.K T r to t) := by
 intro pins s σ H Q I h
 refine wpAny_Call_method_late hbase hfew hline rfl (bZ (ho pins s σ H _ I h) fun v s1 ⟨x, H1, I1, r1, ty, q1⟩ => ?_)
 obtain ⟨h1, h2⟩ := re I1 r1 ty
 refine ⟨T, id, pa, slot, hty, h1, h2, ?_⟩
 have hA := ha cpos pins s1 σ H1 _ I1 q1
 rw [hs] at hA ⊢
 refine Calls.callWith_builtin (by show (false || (backTo cpos (starEach es X.env)).any (·.1)) = false; rw [hplain] <;> rfl) (Calls.evalArgs_plain ?_)
 exact bZ hA fun us s2 ⟨vs, H2, I2, r2, q2⟩ => hm pins s2 σ H2 x vs v us Q I2 r1 r2 q2
end
end L2
namespace L2
open PySem PySem.Spec PyProof.Rows
def BH (X : Cx) (id : String) (r : V -> List V -> Hp -> VK -> Prop) : Prop :=
 ∀ (pins : bL) (s : Shared) (σ : St) (H : Hp) (x : V) (xs : List V) (v : Value) (us : List Value) (Q : VK), Inv X pins σ H s -> bn x v -> aW xs us -> r x xs H Q →
  wpAny (model X.prog X.w) X.A (call (.builtin id) (v :: us)) (EP X pins σ Q) X.xe s
theorem aW.one : ∀ {x : V} {us : List Value}, aW [x] us -> ∃ u, us = [u] /\ bn x u
 | _, _, .cons r .nil => ⟨_, rfl, r⟩
theorem aW.zero : ∀ {us : List Value}, aW [] us -> us = []
 | _, .nil => rfl
theorem aW.eraseIdx : ∀ {xs : List V} {us : List Value} (i : Nat), aW xs us -> aW (xs.eraseIdx i) (us.eraseIdx i)
 | _, _, _, .nil => .nil
 | _, _, 0, .cons _ t => t
 | _, _, i + 1, .cons r t => .cons r (aW.eraseIdx i t)
theorem aW.reverse {xs : List V} {us : List Value} (h : aW xs us) : aW xs.reverse us.reverse := by
 induction h with
 | nil => exact .nil
 | cons r t ih => rw [List.reverse_cons, List.reverse_cons]; exact aW.append ih (.cons r .nil)
section
variable {X : Cx} {pins : bL} {σ : St} {H : Hp} {s : Shared} {l b : Addr} {xs ys zs : List V}
theorem Inv.lset {its its' : List Value} {n : Nat} {f : Array Value -> Array Value} {t' : Nat} (I : Inv X pins σ H s) (hH : H l = some (.lst xs))
  (e : s.heap.get? l = some { cls := .type "list", data := .seq its.toArray n }) (hf : f its.toArray = its'.toArray) (hv : aW ys its') (hz : ys.length ≤ sizeLine) :
  Inv X pins σ (upd H l (.lst ys)) { s with heap := s.heap.update l (Obj.mapSeq f), toks := t' } := by
 have q := PySem.IsL.update e f
 rw [hf] at q
 refine I.write (x := l) (e := l) (by rw [hH]; exact trivial) (.inl rfl) (fun b' u hb hu => (Heap.get?_update_other s.heap (Obj.mapSeq f) (Ne.symm hb)).trans hu) ⟨_, q⟩ ?_
 exact ⟨hz, its', _, hv, q⟩
theorem Inv.lnew {its : List Value} {t' : Nat} (I : Inv X pins σ H s) (hv : aW ys its) (hz : ys.length ≤ sizeLine) :
  Inv X pins σ (upd H s.heap.objs.size (.lst ys)) { s with heap := s.heap.push { cls := .type "list", data := .seq its.toArray }, toks := t' } :=
 I.laid (fun _ _ q => Heap.get?_push_of_some _ q) (Nat.le_refl _) ⟨hz, its, 0, hv, Heap.get?_push_size _ rfl⟩
theorem Inv.fresh (I : Inv X pins σ H s) : H s.heap.objs.size = none := I.hok.fresh (Nat.le_refl _)
theorem Inv.lstM (I : Inv X pins σ H s) (hH : H l = some (.lst xs)) : xs.length ≤ sizeLine /\ ∃ (its : List Value) (n : Nat), aW xs its /\ xs.length = its.length /\ s.heap.get? l = some { cls := .type "list", data := .seq its.toArray n } := by
 obtain ⟨z, its, n, r, e⟩ := I.hok l _ hH
 exact ⟨z, its, n, r, r.length, e⟩
end
section
variable {X : Cx}
def uy : V -> List V -> Hp -> VK -> Prop := fun x vs H Q => ∃ l xs y, x = .ref l /\ vs = [y] /\ H l = some (.lst xs) /\ xs.length < sizeLine /\ Q .non (upd H l (.lst (xs ++ [y])))
theorem b8 : BH X "list.append" uy := by
 intro pins s σ H x vs v us Q I rx rv h
 obtain ⟨l, xs, y, rfl, rfl, hH, hz, q⟩ := h
 cases rx
 obtain ⟨u, rfl, ru⟩ := rv.one
 obtain ⟨z, its, n, r, hl, e⟩ := I.lstM hH
 refine call_meets F.slot_list_append ⟨_, e, rfl⟩ F.entry_list_append (F.args_list_append_2 _ _) (PySem.list_append l its.toArray n u (by rw [List.size_toArray]; omega)) ⟨e, ?_⟩
 refine ⟨.non, _, I.lset (its' := its ++ [u]) hH e (by simp) (r.append (.cons ru .nil)) ?_, rfl, q⟩
 rw [List.length_append, List.length_singleton]
 omega
def AV : V -> List V -> Hp -> VK -> Prop := fun x vs H Q => ∃ l b xs zs, x = .ref l /\ vs = [.ref b] /\ H l = some (.lst xs) /\ H b = some (.lst zs) /\ xs.length + zs.length ≤ sizeLine /\ Q .non (upd H l (.lst (xs ++ zs)))
def C6 : V -> List V -> Hp -> VK -> Prop := fun x vs H Q => ∃ l xs y, x = .ref l /\ vs = [] /\ H l = some (.lst xs) /\ xs[xs.length - 1]? = some y /\ Q y (upd H l (.lst xs.dropLast))
def Bo : V -> List V -> Hp -> VK -> Prop := fun x vs H Q => ∃ l xs i k y, x = .ref l /\ vs = [.int i] /\ H l = some (.lst xs) /\ -(2 ^ 63) ≤ i /\ i < 2 ^ 63 /\ seqIndex? i xs.length = some k /\ xs[k]? = some y /\ Q y (upd H l (.lst (xs.eraseIdx k)))
def rW : V -> List V -> Hp -> VK -> Prop := fun x vs H Q => ∃ l xs, x = .ref l /\ vs = [] /\ H l = some (.lst xs) /\ Q .non (upd H l (.lst xs.reverse))
theorem nI : BH X "list.reverse" rW := by
 intro pins s σ H x vs v us Q I rx rv h
 obtain ⟨l, xs, rfl, rfl, hH, q⟩ := h
 cases rx
 have hus := rv.zero
 subst hus
 obtain ⟨z, its, n, r, hl, e⟩ := I.lstM hH
 refine call_meets F.slot_list_reverse ⟨_, e, rfl⟩ F.entry_list_reverse (F.args_list_reverse_1 _) (AutoSeq1.list_reverse_list_0 l its.toArray n (by rw [List.size_toArray]; omega)) ⟨e, ?_⟩
 refine ⟨.non, _, I.lset (its' := its.reverse) hH e (by simp) r.reverse ?_, rfl, q⟩
 rw [List.length_reverse]
 omega
def Bs : V -> List V -> Hp -> VK -> Prop := fun x vs H Q => ∃ l xs, x = .ref l /\ vs = [] /\ H l = some (.lst xs) /\ Q .non (upd H l (.lst []))
def Bt : R2 := fun x y H Q => ∃ l b xs zs, x = .ref l /\ y = .ref b /\ H l = some (.lst xs) /\ H b = some (.lst zs) /\ xs.length + zs.length ≤ sizeLine /\ ∀ p, H p = none -> Q (.ref p) (upd H p (.lst (xs ++ zs)))
theorem sV : e9 X (binaryOp .Add) Bt := by
 intro pins s σ H x y v u Q I rx ry h
 obtain ⟨l, b, xs, zs, rfl, rfl, hH, hB, hz, q⟩ := h
 cases rx
 cases ry
 obtain ⟨z, its, n, r, hl, e⟩ := I.lstM hH
 obtain ⟨z2, its2, n2, r2, hl2, e2⟩ := I.lstM hB
 refine PySem.P.add_list e e2 ?_ (by rw [List.size_toArray, List.size_toArray]; omega)
 have ea : its.toArray ++ its2.toArray = (its ++ its2).toArray := by simp
 rw [ea]
 exact ⟨.ref _, _, I.lnew (t' := s.toks) (r.append r2) (by rw [List.length_append]; omega), rfl, q _ I.fresh⟩
def C5 : R2 := fun x y H Q => ∃ l k xs, x = .ref l /\ y = .int k /\ H l = some (.lst xs) /\ -(2 ^ 63) ≤ k /\ k < 2 ^ 63 /\ xs.length * k.toNat ≤ sizeLine ∧
 ∀ p, H p = none -> Q (.ref p) (upd H p (.lst (List.replicate k.toNat xs).flatten))
end
section
variable {prog : Program} {w : World} {A : Around} {E : cS} {s : Shared}
end
section
variable {X : Cx}
end
end L2
namespace Att
open PySem PySem.W PySem.Calls PyProof.Rows
theorem ig {P : Params} {h : Heap} : ∀ (ns : List Int) (vs : List Value), WellAll P h vs (ns.map WData.int) -> IntsAre vs ns := by
 intro ns
 induction ns with
 | nil =>
  intro vs w
  rw [List.map_nil] at w
  cases w
  exact .nil
 | cons n ns ih =>
  intro vs w
  rw [List.map_cons] at w
  cases w with
  | cons a b =>
   cases a
   exact .cons _ _ (ih _ b)
theorem pP {l : OpenLaw} {n : Nat} (hn : l.most = some n) {P : Params} {h : Heap} {args : List WData} {vals : List Value}
  (hpre : l.row.toRowW.claim.pre args = true) (hwl : WellAll P h vals args) :
  ∃ a vs ns, vals = [Value.ref a] /\ args = [WData.list (ns.map WData.int)] /\ h.get? a = some { cls := .type "list", data := .seq vs.toArray } /\ IntsAre vs ns /\ ns.length ≤ n := by
 have hsh : WShape.hasAll [] args [.list .int] = true := (pre_splitW hpre).1
 have hc : l.pre.holds [] { args := args } = true := (pre_splitW hpre).2
 obtain ⟨d, r, rfl, h1, h2⟩ := hasAllW_cons hsh
 obtain rfl := hasAllW_nil h2
 obtain ⟨xs, rfl, h3⟩ := hasW_list h1
 obtain ⟨ns, rfl⟩ := items_int h3
 have hlen : ns.length ≤ n := by
  unfold OpenLaw.pre at hc
  have h4 : (WTm.not (.lt (.lit (.int (n : Int))) (.len (.arg 0)))).holds [] { args := [.list (ns.map .int)] } = true := by
   have h4 := (holds_andW hc).1
   rw [hn] at h4
   exact h4
  have h5 := condW_of h4 (w_not (w_lt w_lit (w_len_list (w_arg rfl))))
  rw [List.length_map] at h5
  refine Nat.le_of_not_lt fun q => ?_
  have q' : (n : Int) < ((ns.length : Nat) : Int) := by omega
  first
   | (rw [decide_eq_true q'] at h5; exact absurd h5 (by decide))
   | (simp at h5; omega)
 cases hwl with
 | cons w1 w2 =>
  cases w2
  cases w1 with
  | list ho hall => exact ⟨_, _, ns, rfl, rfl, ho, ig ns _ hall, hlen⟩
theorem qd (l : OpenLaw) (args : List WData) : l.row.toRowW.claim.post args (.bool true) args = true :=
 postW_of (r := l.row.toRowW) (X := (true == true))
  (show WShape.has [] (.bool true) .bool = true by first | rfl | decide | simp [WShape.has, WShape.arms, WShape.armsAll])
  (show (WTm.eq .res (.lit (.bool true))).value [] { args := args, res := some (.bool true), after := args } = some (.bool (true == true)) from w_eq_bool (w_res rfl) w_lit) rfl
theorem attach_call {l : OpenLaw} {n : Nat} {q : Program} {loose : List Str} {XP : (Str -> Option Value) -> Heap -> Prop} {YP : World -> Heap -> Prop} {d : DefRec}
  (hn : l.most = some n) (hdf : d.params.defaults = [])
  (call : ∀ (w : World) (s₀ s₁ : Shared) (mg mb : Str -> Option Value) (fa : Addr) (o : Obj) (pm cd doc : Value) (a : Addr) (vs : List Value) (ns : List Int),
   Ground q loose [] XP w s₀ mg mb s₁.heap -> YP w s₁.heap →
   s₁.heap.get? fa = some o -> o.data = .func (docDef d.name d.params d.body d.scope pm cd doc) -> s₁.heap.CodeRec cd d.name -> mg d.name = some (.ref fa) →
   s₁.heap.get? a = some { cls := .type "list", data := .seq vs.toArray } -> IntsAre vs ns -> ns.length ≤ n -> s₁.gens = #[] →
   codeAny (model l.prog w) callerA (.call (.ref fa) ⟨[.ref a], []⟩) (fun r s' => r = .ok (.ret (.bool true)) /\ OldK s₁.heap s'.heap /\ s'.os = s₁.os /\ AllBare s'.gens) s₁) :
  WalkO q loose XP YP l.row.toRowW d [] (fun f vs => PySem.call f vs) := by
 intro w s₀ s₁ mg mb G Y fa o pm cd doc dV kV ho hd hcd hD hmg hg args vals as hpre hlay hrd hwl hlo
 obtain rfl : dV = .none := Dflts.none hD hdf
 obtain rfl : kV = .none := Dflts.noKw hD
 obtain ⟨a, vs, ns, rfl, rfl, hobj, hints, hlen⟩ := pP hn hpre hwl
 refine enter_call (codeAny_mono (call w s₀ s₁ mg mb fa o pm cd doc a vs ns G Y ho (fd_plain hd) hcd hmg hobj hints hlen hg) fun r s' hq => ?_)
 obtain ⟨rfl, h2, h3, h4⟩ := hq
 exact ⟨.inl ⟨.bool true, .bool true, [], rfl, fun _ => rfl, .bool true, qd l _, fun _ => ⟨List.Pairwise.nil, fun _ hm => (nomatch hm)⟩⟩, h2, h3, h4⟩
section
variable {prog : Program} {w : World} {A : Around} {E : cS} {s : Shared} {K : Frag}
def noObjs (h : Heap) : Heap := { h with objs := #[] }
theorem noObjs_get (h : Heap) (b : Addr) : (noObjs h).get? b = none := by
 cases e : (noObjs h).get? b with
 | none => rfl
 | some o => exact absurd (Heap.lt_size e) (Nat.not_lt_zero _)
def Bv (h : Heap) (L d : Addr) : bL := (List.range h.objs.size).filterMap fun a => if a = L ∨ a = d then none else (h.get? a).map fun o => (a, o)
theorem fr_all {h : Heap} {L : Addr} {m : Str -> Option Value} (n : h.Ns L m) : Fr (noObjs h) L h m :=
 ⟨n, fun b o e => (by rw [noObjs_get] at e; cases e), Nat.zero_le _⟩
end
end Att
namespace L2
open PySem PySem.Spec PyProof.Rows
theorem jk : ∀ {vs : List Value} {ns : List Int}, IntsAre vs ns -> aW (ns.map V.int) vs
 | _, _, .nil => .nil
 | _, _, .cons n t h => .cons ⟨t, rfl⟩ (jk h)
def yK (H : Hp) : Prop := ∀ b, H b = none ∨ ∃ o xs, H b = some (.frz o (.lst xs))
theorem tw {P : Program} {w : World} {K : Fg} {mg mb : Str -> Option Value} {CX : lJ} {k : Nat} {fa a : Addr} {fd : FuncData} {x : Str} {sp : Sp} {s₁ : Shared} {vs : List Value} {ns : List Int}
  (KX : K.In s₁.heap) (hns : s₁.heap.Ns mainGlobals mg) (hb : s₁.heap.Ns builtinsNs mb) (hbb : ∀ x : Str, x ≠ "__name__" -> mb x = bootBuiltins x) (hlim : s₁.heap.NoLimit) (hg : s₁.gens = #[])
  (ha : s₁.heap.get? a = some { cls := .type "list", data := .seq vs.toArray }) (hi : IntsAre vs ns) (hl : ns.length ≤ sizeLine) (hr : cQ k callerA)
  (F : ∀ base : Heap, K.In base -> base.Ns mainGlobals mg -> bB P w K mg base CX k fa fd [x] sp) (hbind : ∀ (s : Shared) (u : Value), BindsTo s fd ⟨[u], []⟩ [(x, u)])
  (hsp : ∀ H : Hp, yK H -> aO K H a (ns.map V.int) -> sp [.ref a] H (fun v _ => v = .bl true) fun _ _ _ => False)
  (hCX : ∀ H e s', CX [] H s₁ (fun _ _ _ => False) e s' -> False) :
  codeAny (model P w) callerA (.call (.ref fa) ⟨[.ref a], []⟩) (fun r s' => r = .ok (.ret (.bool true)) /\ OldK s₁.heap s'.heap /\ s'.os = s₁.os /\ AllBare s'.gens) s₁ := by
 have rv := jk hi
 have lenV := hi.length
 have core : ∀ H : Hp, yK H -> aO K H a (ns.map V.int) -> h7 P w H s₁.heap -> (∀ b, H b ≠ none -> b = a) -> (H a ≠ none -> K.lookup a = none) →
   codeAny (model P w) callerA (.call (.ref fa) ⟨[.ref a], []⟩) (fun r s' => r = .ok (.ret (.bool true)) /\ OldK s₁.heap s'.heap /\ s'.os = s₁.os /\ AllBare s'.gens) s₁ := by
  intro H hO hS hok hA hK
  have base_of : ∀ {b : Addr} {o : Obj}, s₁.heap.get? b = some o -> H b = none -> (k9 s₁.heap H).get? b = some o := fun e n => tJ e n
  have noA : ∀ {b : Addr} {o : Obj} {es : Array DictEntry} {ep : Nat}, s₁.heap.get? b = some o -> o.data = .dict es ep -> H b = none := fun {b o es ep} e d => by
   cases q : H b with
   | none => rfl
   | some u =>
    have e' : b = a := hA b (by rw [q]; simp)
    subst e'
    rw [ha] at e; cases e
    have d' : Data.seq vs.toArray _ = Data.dict es ep := d
    cases d'
  have nsK : ∀ {b : Addr} {m : Str -> Option Value}, s₁.heap.Ns b m -> (k9 s₁.heap H).Ns b m := fun {b m} ⟨o, es, ep, e, d, r⟩ => ⟨o, es, ep, base_of e (noA e d), d, r⟩
  have hKb : K.In (k9 s₁.heap H) := fun b o e => base_of (KX b o e) (by
   cases q : H b with
   | none => rfl
   | some u =>
    have e' : b = a := hA b (by rw [q]; simp)
    subst e'
    rw [hK (by rw [q]; simp)] at e; cases e)
  have hM : Mod K mg (k9 s₁.heap H) := ⟨hKb, nsK hns, ⟨mb, nsK hb, hbb⟩, let ⟨mc, h1, h2⟩ := hlim; ⟨mc, nsK h1, h2⟩⟩
  have e0 : hJ P w K mg (k9 s₁.heap H) callerA [] s₁ H := ⟨rfl, hM, fun b o e => u5 e, Nat.le_of_eq (qx _ _), trivial, fun b hb => absurd (show b ∈ ([] : List Addr) from hb) (by simp), hok, .of_eq hg⟩
  refine codeAny_mono ((F _ hKb (nsK hns)).run callerA [] s₁ H ⟨[.ref a], []⟩ [.ref a] [.ref a] _ _ hr e0 (hbind s₁ (.ref a)) (.cons rfl .nil) (hsp H hO hS)) fun r s' h => ?_
  cases r with
  | error e => exact (hCX H e s' h).elim
  | ok fl =>
   cases fl with
   | next => exact False.elim h
   | brk => exact False.elim h
   | cont => exact False.elim h
   | ret u =>
    obtain ⟨v, H', os, bare, un, hok', r', q⟩ := h
    have q' : v = .bl true := q
    subst q'
    obtain rfl : u = Value.bool true := r'
    refine ⟨rfl, OldK.of_keep fun b o e => ?_, os, bare⟩
    cases q : H b with
    | none => exact un.keep b o e q (by intro z; exact absurd (show b ∈ ([] : List Addr) from z) (by simp)) (by simp)
    | some u =>
     rcases hO b with z | ⟨ob, xs, z⟩
     ·rw [q] at z; cases z
     ·have z2 := un.frzs b ob _ z
      obtain ⟨e1, _⟩ := hok b _ z
      obtain ⟨e2, _⟩ := hok' b _ z2
      rw [e] at e1; cases e1
      exact e2
 cases hk : K.lookup a with
 | some o =>
  have e := KX a o hk
  rw [ha] at e
  cases e
  refine core (fun _ => none) (fun _ => .inl rfl) (.inr ⟨_, vs.toArray, _, hk, rfl, rfl, rfl, by rw [List.size_toArray, lenV]; exact hl, by simpa using rv⟩) (fun b u z => by have z' : (none : Option HO) = some u := z; cases z') (fun b z => absurd rfl z) fun z => absurd rfl z
 | none =>
  refine core (fun b => if b = a then some (.frz { cls := .type "list", data := .seq vs.toArray } (.lst (ns.map V.int))) else none) (fun b => ?_) (.inl (.inr ⟨{ cls := .type "list", data := .seq vs.toArray }, if_pos rfl⟩)) (fun b u z => ?_) (fun b z => ?_) fun _ => hk
  ·by_cases hb : b = a
   ·exact .inr ⟨_, _, if_pos hb⟩
   ·exact .inl (if_neg hb)
  ·by_cases hb : b = a
   ·have z' := (if_pos hb).symm.trans z
    cases z'
    subst hb
    exact ⟨ha, by rw [List.length_map]; exact hl, vs, _, rv, ha⟩
   ·have z' := (if_neg hb).symm.trans z
    cases z'
  ·by_cases hb : b = a
   ·exact hb
   ·exact absurd (if_neg hb) z
end L2
namespace L2
open PySem PySem.Spec PyProof.Rows
abbrev D6 {K : Fg} {h : Heap} (_ : K.In h) : Fg := K
theorem walk_of {l : PySem.W.OpenLaw} {n k : Nat} {q : Program} {loose : List Str} {XP : (Str -> Option Value) -> Heap -> Prop} {YP : World -> Heap -> Prop} {d : DefRec} {K : Params -> Fg} {CX : World -> lJ} {sp : World -> Sp} {x : Str}
  (hn : l.most = some n) (hn2 : n ≤ sizeLine) (hdf : d.params.defaults = []) (hr : cQ k callerA)
  (hY : ∀ (w : World) (h : Heap), YP w h -> (K w.params).In h)
  (F : ∀ (w : World) (mg : Str -> Option Value) (fa : Addr) (h : Heap), (K w.params).In h -> h.Ns mainGlobals mg -> mg d.name = some (.ref fa) →
   ∃ fd : FuncData, (∀ (s : Shared) (u : Value), BindsTo s fd ⟨[u], []⟩ [(x, u)]) ∧
    ∀ base : Heap, (K w.params).In base -> base.Ns mainGlobals mg -> bB l.prog w (K w.params) mg base (CX w) k fa fd [x] (sp w))
  (hsp : ∀ (w : World) (H : Hp) (a : Addr) (ns : List Int), ns.length ≤ n -> yK H -> aO (K w.params) H a (ns.map V.int) -> sp w [.ref a] H (fun v _ => v = .bl true) fun _ _ _ => False)
  (hCX : ∀ (w : World) (H : Hp) (s : Shared) (e : Value) (s' : Shared), CX w [] H s (fun _ _ _ => False) e s' -> False) :
  PySem.W.WalkO q loose XP YP l.row.toRowW d [] (fun f vs => PySem.call f vs) := by
 refine Att.attach_call hn hdf fun w s₀ s₁ mg mb fa o pm cd doc a vs ns G Y ho hd hcd hmg hobj hints hlen hg => ?_
 have KX := hY w _ Y
 obtain ⟨fd, hb, hF⟩ := F w mg fa _ KX G.T.g hmg
 exact tw KX G.T.g G.T.b G.T.builtins G.T.nolimit hg hobj hints (Nat.le_trans hlen hn2) hr hF hb (fun H hO hS => hsp w H a ns hlen hO hS) fun H e s' => hCX w H s₁ e s'
end L2
namespace L2
open PySem PySem.Spec PyProof.Rows
def vh (s : Stmt) (j : Nat) : Stmt := match s with
 | .ClassDef _ _ _ body _ _ _ _ _ _ _ => body.getD j (.Pass ⟨0, 0, 0, 0⟩)
 | _ => .Pass ⟨0, 0, 0, 0⟩
def aK (s : Stmt) : Arguments := match s with
 | .FunctionDef _ a _ _ _ _ _ _ _ _ => a
 | _ => { posonlyargs := [], args := [], vararg := none, kwonlyargs := [], kw_defaults := [], kwarg := none, defaults := [] }
def aI (s : Stmt) : List Stmt := match s with
 | .FunctionDef _ _ b _ _ _ _ _ _ _ => b
 | _ => []
def au (s : Stmt) : Scope := match s with
 | .FunctionDef _ _ _ _ _ _ sc _ _ _ => sc
 | _ => { kind := .function, names := [], isGenerator := false, isCoroutine := false }
abbrev dI : lJ := fun _ _ _ _ _ _ => False
abbrev E0 : XK := fun _ _ _ => False
theorem fY {X : Cx} : fK dI X E0 := fun _ _ _ _ _ _ _ h => h.elim
structure Fun (K : Fg) (x qual : Str) (st : Stmt) (f : Addr) (fd : FuncData) : Prop where
 ex : ∃ (oc : Value) (od : Option Addr) (kV doc pm : Value) (an : Option Addr) (cdv ct : Value) (osl : Array (Option Value)),
  fd = PySem.W.fnOf x qual (aK st) (aI st) (au st) .none kV doc pm an cdv ct /\ K.lookup f = some ⟨oc, od, .func fd, osl⟩ /\ PySem.W.codeIn K cdv qual = true
 kp : PySem.W.keepIn K (.ref f) = true
section
variable {P : Program} {w : World} {K : Fg} {mg : Str -> Option Value} {base : Heap}
theorem Fun.ok {x qual : Str} {st : Stmt} {f : Addr} {fd : FuncData} {N ps : List Str} {k : Nat} {sp : Sp} (F : Fun K x qual st f fd) (S : aJ N ps (au st)) (len : ∀ vs H Q E, sp vs H Q E -> vs.length = ps.length)
  (hbody : ∀ (cdv : Value) (A : Around) (outer : List Env) (s : Shared) (H : Hp) (vs : List V) (Q : VK) (E : XK), cQ k (A.deeper (envOfC qual (au st) s.heap.objs.size f cdv)) -> sp vs H Q E →
   ∃ t, kh (bO dI P w K mg base N qual (au st) f cdv A outer s H E).nox (aI st) t /\ t { nx := fun _ H' => Q .non H', rt := Q } (eG N vs) H) : bB P w K mg base dI (k + 1) f fd ps sp := by
 obtain ⟨oc, od, kV, doc, pm, an, cdv, ct, osl, rfl, lk, hcd⟩ := F.ex
 refine v0 lk hcd S len fun A outer s H vs Q E hr hsp => ?_
 obtain ⟨t, h, q⟩ := hbody cdv A outer s H vs Q E hr hsp
 exact ⟨t, h.nox, q⟩
theorem Fun.binds {x qual : Str} {st : Stmt} {f : Addr} {fd : FuncData} {ps : List Str} (F : Fun K x qual st f fd)
  (h : ∀ (kV doc pm : Value) (an : Option Addr) (cdv ct : Value) (us : List Value), us.length = ps.length -> bindArgs (PySem.W.fnOf x qual (aK st) (aI st) (au st) .none kV doc pm an cdv ct) ⟨us, []⟩ = pure (ps.zip us)) : aZ K fd ps [] := by
 obtain ⟨oc, od, kV, doc, pm, an, cdv, ct, osl, rfl, lk, hcd⟩ := F.ex
 exact .all (h kV doc pm an cdv ct)
theorem bf {x qual : Str} {st : Stmt} {f : Addr} {oc : Value} {od an : Option Addr} {osl : Array (Option Value)} {kV doc pm cdv ct : Value} (l : K.lookup f = some ⟨oc, od, .func (PySem.W.fnOf x qual (aK st) (aI st) (au st) .none kV doc pm an cdv ct), osl⟩)
  (c : PySem.W.codeIn K cdv qual = true) (k : PySem.W.keepIn K (.ref f) = true) : Fun K x qual st f (PySem.W.fnOf x qual (aK st) (aI st) (au st) .none kV doc pm an cdv ct) := ⟨⟨oc, od, kV, doc, pm, an, cdv, ct, osl, rfl, l, c⟩, k⟩
end
theorem bh {n : Nat} (h : n ≤ 1000) : n < sizeLine := Nat.lt_of_le_of_lt h (by decide)
section
variable {X : Cx}
theorem pv (i : Nat) {x : Str} {pos : Pos} (hN : X.N[i]? = some x := by rfl) (hv : AY X.env.scope x := by first | exact Or.inl rfl | exact Or.inr (Or.inl rfl) | exact Or.inr (Or.inr rfl)) (hd : (x == ("__debug__" : Str)) = false := by decide)
  (hcd : (x == ("__classdict__" : Str)) = false := by decide) : PE X (.Name x pos) (wm i) := xh hN hv hd hcd
end
theorem bi {A B : Prop} (h : B) : if false = true then A else B := by
 rw [if_neg Bool.false_ne_true]
 exact h
theorem bM {A B : Prop} (h : A) : if true = true then A else B := by
 rw [if_pos rfl]
 exact h
theorem qu {c A B : Prop} [Decidable c] (h1 : c -> A) (h2 : ¬ c -> B) : if c then A else B := by
 by_cases h : c
 ·rw [if_pos h]
  exact h1 h
 ·rw [if_neg h]
  exact h2 h
theorem dH {c A B : Prop} [Decidable c] (hc : c) (h : B) : if (!decide c) = true then A else B := by
 rw [decide_eq_true hc]
 exact bi h
def aA (H H' : Hp) : Prop := ∀ b o, H b = some o -> H' b = some o
theorem aA.refl (H : Hp) : aA H H := fun _ _ h => h
theorem aA.trans {H H1 H2 : Hp} (a : aA H H1) (b : aA H1 H2) : aA H H2 := fun c o h => b c o (a c o h)
theorem aA.seq {K : Fg} {H H' : Hp} {a : Addr} {xs : List V} (e : aA H H') (h : aO K H a xs) : aO K H' a xs := by
 rcases h with (h | ⟨o, h⟩) | h
 ·exact .inl (.inl (e _ _ h))
 ·exact .inl (.inr ⟨o, e _ _ h⟩)
 ·exact .inr h
end L2
set_option maxHeartbeats 4000000
namespace B
open PySem L2 PyProof.Rows
theorem oP {c A B : Prop} [Decidable c] (hc : ¬ c) (h : A) : if (!decide c) = true then A else B := by
 have e : (!decide c) = true := by rw [decide_eq_false hc]; rfl
 rw [if_pos e]; exact h
theorem bQ {c A B : Prop} [Decidable c] (hc : c) (h : A) : if decide c = true then A else B := by
 rw [if_pos (decide_eq_true hc)]; exact h
theorem aV {c A B : Prop} [Decidable c] (hc : ¬ c) (h : B) : if decide c = true then A else B := by
 have e : ¬ decide c = true := by rw [decide_eq_false hc]; intro z; cases z
 rw [if_neg e]; exact h
theorem fG {b : Bool} {A B : Prop} (hb : b = true) (h : A) : if b = true then A else B := by rw [if_pos hb]; exact h
theorem ei {b : Bool} {A B : Prop} (hb : b = false) (h : B) : if b = true then A else B := by
 rw [if_neg (by rw [hb]; intro z; cases z)]; exact h
def dk (A B : String) : Option Bool := if (Value.type A == Value.type B) = true then some true else if PySem.W.kitMeta B = true then (fastBuiltinMro A).map (·.contains (.type B)) else none
theorem nP {K : Fg} {A B : String} {b : Bool} (h : dk A B = some b) : PySem.W.kitOne K (.type A) (.type B) = some b := h
inductive Ty (H : Hp) : V -> String -> Prop where
 | non : Ty H .non "NoneType"
 | bl (b : Bool) : Ty H (.bl b) "bool"
 | int (i : Int) : Ty H (.int i) "int"
 | str (x : Str) : Ty H (.str x) "str"
 | lst {a : Addr} {xs : List V} (e : H a = some (.lst xs)) : Ty H (.ref a) "list"
 | tup {a : Addr} {xs : List V} (e : H a = some (.tup xs)) : Ty H (.ref a) "tuple"
theorem Ty.of {H : Hp} {v : V} {n : String} (K : Fg) (h : Ty H v n) : g8 K H v (.type n) := by
 cases h with
 | non => exact .non
 | bl b => exact .bl b
 | int i => exact .int i
 | str x => exact .str x
 | lst e => exact .lst e
 | tup e => exact .tup e
def Br : List V -> Hp -> VK -> Prop := fun xs H Q => ∃ x n m b, xs = [x, .ty n] /\ Ty H x m /\ dk m n = some b /\ Q (.bl b) H
theorem eZ {X : Cx} : df X (.builtin "isinstance") Br := by
 intro pins s σ H xs us Q I r h
 obtain ⟨x, n, m, b, rfl, ty, e, q⟩ := h
 obtain ⟨u, u2, rfl, rx, ry⟩ := lR r
 obtain rfl : u2 = Value.type n := ry
 exact qw I rx (ty.of X.K) (nP e) fun tk => ⟨.bl b, H, I.tok tk, rfl, q⟩
def A5 : V -> Bool
 | .int _ => true
 | _ => false
def CK (n : String) : Bool := n == "tuple"
structure aT (t : Addr) (H H' : Hp) : Prop where
 keep : ∀ b o, b ≠ t -> H b = some o -> H' b = some o
 tp : ∃ xs, H t = some (.lst xs)
 tp' : ∃ xs, H' t = some (.lst xs)
theorem aT.trans {t : Addr} {H H1 H2 : Hp} (a : aT t H H1) (b : aT t H1 H2) : aT t H H2 := ⟨fun c o n e => b.keep c o n (a.keep c o n e), a.tp, b.tp'⟩
theorem aT.up {t : Addr} {H : Hp} {xs ys : List V} (h : H t = some (.lst xs)) : aT t H (upd H t (.lst ys)) := ⟨fun c o n e => by rw [aC n]; exact e, ⟨_, h⟩, ⟨_, ah⟩⟩
theorem ap {H : Hp} {p : Addr} (h : H p = none) (o : HO) : aA H (upd H p o) := fun b u q => by rw [aC (aQ q h)]; exact q
theorem aT.same {t : Addr} {H H' : Hp} (s : aA H H') (h : ∃ xs, H t = some (.lst xs)) : aT t H H' := ⟨fun c o _ e => s c o e, h, let ⟨xs, e⟩ := h; ⟨xs, s _ _ e⟩⟩
theorem aT.new {t p : Addr} {H : Hp} (h : ∃ xs, H t = some (.lst xs)) (n : H p = none) (o : HO) : aT t H (upd H p o) := aT.same (ap n o) h
theorem aT.refl {t : Addr} {H : Hp} (h : ∃ xs, H t = some (.lst xs)) : aT t H H := ⟨fun _ _ _ e => e, h, h⟩
def Th (H : Hp) (v : V) : Prop := ∃ n, Ty H v n /\ ∀ a xs, v = .ref a -> H a = some (.tup xs) -> ∀ x ∈ xs, ∃ m, Ty H x m
theorem Bu {xs : List V} {r : Int} (h0 : 0 ≤ r) (h1 : r < (xs.length : Int)) : ∃ v, kd xs r = some v /\ v ∈ xs := by
 have hk : r.toNat < xs.length := by omega
 have ek : r = ((r.toNat : Nat) : Int) := by omega
 have q : kd xs ((r.toNat : Nat) : Int) = some xs[r.toNat] := aL (List.getElem?_eq_getElem hk)
 rw [← ek] at q
 exact ⟨_, q, List.getElem_mem hk⟩
theorem zS {ns : List Int} {r : Int} (h0 : 0 ≤ r) (h1 : r < (ns.length : Int)) : ∃ z : Int, kd (ns.map V.int) r = some (.int z) := by
 obtain ⟨v, h, hv⟩ := Bu (xs := ns.map V.int) h0 (by rw [List.length_map]; exact h1)
 obtain ⟨z, _, rfl⟩ := List.mem_map.mp hv
 exact ⟨z, h⟩
structure yE (H : Hp) (t s : Addr) : Prop where
 ex : ∃ (ns : List Int) (p q r : Int), H t = some (.lst [.ref s, .int p, .int q, .int r]) /\ H s = some (.lst (ns.map V.int)) /\ s ≠ t /\ ns.length ≤ 63 /\ 0 ≤ p /\ 0 ≤ q /\ 0 ≤ r
def AG (K : Fg) : Sp := fun vs H Q _ => ∃ (a : Addr) (ns : List Int), vs = [.ref a] /\ aO K H a (ns.map V.int) /\ ∀ (t s : Addr) (H' : Hp), aA H H' -> H t = none -> H s = none -> yE H' t s -> Q (.ref t) H'
def AJ : Sp := fun vs H Q _ => ∃ (t s : Addr) (m : Int), vs = [.ref t, .int m] /\ yE H t s /\ 0 < m /\ m < 1073741824 /\ ∀ (r : Int) (xs : List V), 0 ≤ r -> r < m -> yE (upd H t (.lst xs)) t s -> Q (.int r) (upd H t (.lst xs))
def AH (K : Fg) : Sp := fun vs H Q _ => ∃ (a : Addr) (ns : List Int), vs = [.ref a] /\ aO K H a (ns.map V.int) /\ ns.length ≤ 63 /\ ∀ H', Q (.bl true) H'
theorem mK {a b : Int} (ha : 0 ≤ a) (hb : 0 < b) : Int.gcd b (a % b) = Int.gcd a b := by
 obtain ⟨n, rfl⟩ := Int.eq_ofNat_of_zero_le ha
 obtain ⟨m, rfl⟩ := Int.eq_ofNat_of_zero_le (Int.le_of_lt hb)
 rw [← Int.natCast_emod]
 show Nat.gcd m (n % m) = Nat.gcd n m
 rw [Nat.gcd_comm m, ← Nat.gcd_rec, Nat.gcd_comm]
theorem nY (i : Int) : (if i < 0 then -i else i) = (i.natAbs : Int) := by split <;> omega
end B
namespace B
open PySem PySem.Spec L2 PyProof.Rows
mutual
inductive bJ (K : Fg) (H : Hp) : V -> PyData -> Prop where
 | non : bJ K H .non .none
 | bl (b : Bool) : bJ K H (.bl b) (.bool b)
 | int (i : Int) : bJ K H (.int i) (.int i)
 | str (x : Str) : bJ K H (.str x) (.str x)
 | lst {a : Addr} {xs : List V} {ds : List PyData} (e : aO K H a xs) (h : bA K H xs ds) : bJ K H (.ref a) (.list ds)
 | tup {a : Addr} {xs : List V} {ds : List PyData} (e : bt K H a xs) (h : bA K H xs ds) : bJ K H (.ref a) (.tuple ds)
inductive bA (K : Fg) (H : Hp) : List V -> List PyData -> Prop where
 | nil : bA K H [] []
 | cons {x : V} {d : PyData} {xs : List V} {ds : List PyData} (h : bJ K H x d) (t : bA K H xs ds) : bA K H (x :: xs) (d :: ds)
end
mutual
theorem bJ.reads {X : Cx} {pins : bL} {σ : L2.St} {H : Hp} {s : Shared} (I : Inv X pins σ H s) : ∀ {v : V} {d : PyData} {u : Value}, bJ X.K H v d -> bn v u -> ∃ as, Reads s.heap u d as
 | _, _, u, .non, r => by cases (show u = Value.none from r); exact ⟨_, .none⟩
 | _, _, u, .bl b, r => by cases (show u = Value.bool b from r); exact ⟨_, .bool b⟩
 | _, _, u, .int i, r => by obtain ⟨t, q⟩ := (show ∃ t, u = Value.int i t from r); cases q; exact ⟨_, .int i t⟩
 | _, _, u, .str x, r => by obtain ⟨t, q⟩ := (show ∃ t, u = Value.str x t from r); cases q; exact ⟨_, .str x t⟩
 | _, _, u, .lst (a := a) e h, r => by
  cases (show u = Value.ref a from r)
  obtain ⟨its, rv, ⟨o, n, ho, hc, _, hd⟩, _⟩ := I.list e
  obtain ⟨as, q⟩ := bA.reads I h rv
  exact ⟨_, .list ho hc hd (by simpa using q)⟩
 | _, _, u, .tup (a := a) e h, r => by
  cases (show u = Value.ref a from r)
  obtain ⟨its, rv, ⟨o, ho, hc, n, hd⟩, _⟩ := I.tuple e
  obtain ⟨as, q⟩ := bA.reads I h rv
  exact ⟨_, .tuple ho hc hd (by simpa using q)⟩
theorem bA.reads {X : Cx} {pins : bL} {σ : L2.St} {H : Hp} {s : Shared} (I : Inv X pins σ H s) : ∀ {vs : List V} {ds : List PyData} {us : List Value}, bA X.K H vs ds -> aW vs us -> ∃ as, ReadsAll s.heap us ds as
 | _, _, _, .nil, .nil => ⟨_, .nil⟩
 | _, _, _, .cons h t, .cons r q =>
  let ⟨_, a⟩ := bJ.reads I h r
  let ⟨_, b⟩ := bA.reads I t q
  ⟨_, .cons a b⟩
end
structure o9 (d : PyData) : Prop where
 sh : d.showable = true
 nd : d.hasDict = false
 sz : d.shown.length ≤ sizeLine
 dp : d.depth ≤ 16
def zH (K : Fg) : List V -> Hp -> VK -> Prop := fun xs H Q => ∃ v d, xs = [v] /\ bJ K H v d /\ o9 d /\ Q (.str d.shown) H
theorem j4 {X : Cx} {k : Nat} (hr : cQ k X.A) : df X (.builtin "repr") (zH X.K) := by
 intro pins s σ H xs us Q I r h
 obtain ⟨v, d, rfl, dp, sh, q⟩ := h
 obtain ⟨u, rfl, ru⟩ := fg r
 cases dp with
 | non => cases (show u = Value.none from ru); exact PySem.P.repr_of_none ⟨.str "None", H, I.tok _, ⟨_, rfl⟩, q⟩
 | bl b => cases (show u = Value.bool b from ru); exact PySem.P.repr_of_bool ⟨.str _, H, I.tok _, ⟨_, rfl⟩, q⟩
 | int i =>
  obtain ⟨t, e⟩ := (show ∃ t, u = Value.int i t from ru)
  cases e
  exact PySem.P.repr_of_int (of_decide_eq_true sh.sh) ⟨.str _, H, I.tok _, ⟨_, rfl⟩, q⟩
 | str x =>
  obtain ⟨t, e⟩ := (show ∃ t, u = Value.str x t from ru)
  cases e
  exact PySem.P.repr_of_str ⟨.str _, H, I.tok _, ⟨_, rfl⟩, q⟩ sh.sz
 | @lst a ys ds e h =>
  cases (show u = Value.ref a from ru)
  obtain ⟨as, rd⟩ := bJ.reads I (.lst e h) (show bn (.ref a) (.ref a) from rfl)
  exact repr_of_reads' rd sh.sh (fun z => by rw [sh.nd] at z; cases z) hr.gd (by have := hr.units; have := sh.dp; omega) (fun _ _ z => z) (fun h' u tk hk => ⟨.str _, H, I.kept hk, ⟨_, rfl⟩, q⟩) sh.sz
 | @tup a ys ds e h =>
  cases (show u = Value.ref a from ru)
  obtain ⟨as, rd⟩ := bJ.reads I (.tup e h) (show bn (.ref a) (.ref a) from rfl)
  exact repr_of_reads' rd sh.sh (fun z => by rw [sh.nd] at z; cases z) hr.gd (by have := hr.units; have := sh.dp; omega) (fun _ _ z => z) (fun h' u tk hk => ⟨.str _, H, I.kept hk, ⟨_, rfl⟩, q⟩) sh.sz
end B
namespace B
open PySem PySem.Spec L2 PyProof.Rows
def g7 (X : Cx) (N' : List Str) (scope : Scope) (cl : List (Str × Addr)) (C : Addr) (fp : List Addr) (pins : bL) (s : Shared) (H : Hp) : Cx :=
 { X with N := N', s₀ := s, H₀ := H, env := compEnvC scope cl C X.env, outer := X.stack, stack := X.stack, ex := fp, fn := fun _ => false, pn := X.pn ++ pins, xe := fun _ _ => False }
def cu (X : Cx) (scope : Scope) (cl : List (Str × Addr)) : List Str -> List (Option Nat) -> Prop
 | [], [] => True
 | _ :: N, none :: r => cu X scope cl N r
 | x :: N, some j :: r => X.N[j]? = some x /\ X.env.kindOf x = some .cell /\ (compEnvC scope cl 0 X.env).kindOf x = some .cell /\ cl.lookup x = X.env.cells.lookup x /\ cu X scope cl N r
 | _, _ => False
def bW (src : List (Option Nat)) (σ : L2.St) : L2.St := src.map fun o => o.bind fun j => (σ[j]?).getD none
theorem cu.len {X : Cx} {scope : Scope} {cl : List (Str × Addr)} : ∀ {N : List Str} {src : List (Option Nat)}, cu X scope cl N src -> N.length = src.length
 | [], [], _ => rfl
 | _ :: _, none :: _, h => congrArg (· + 1) (cu.len (X := X) (scope := scope) (cl := cl) h)
 | _ :: _, some _ :: _, h => congrArg (· + 1) (cu.len (X := X) (scope := scope) (cl := cl) h.2.2.2.2)
theorem cu.at {X : Cx} {scope : Scope} {cl : List (Str × Addr)} {σ : L2.St} : ∀ {N : List Str} {src : List (Option Nat)} {i : Nat} {x : Str} {v : V}, cu X scope cl N src -> N[i]? = some x -> (bW src σ)[i]? = some (some v) →
  ∃ j : Nat, X.N[j]? = some x /\ σ[j]? = some (some v) /\ X.env.kindOf x = some .cell /\ (compEnvC scope cl 0 X.env).kindOf x = some .cell /\ cl.lookup x = X.env.cells.lookup x
 | y :: N, none :: r, 0, x, v, h, e, q => by cases q
 | y :: N, none :: r, i + 1, x, v, h, e, q => cu.at (N := N) (src := r) (i := i) h e q
 | y :: N, some j :: r, 0, x, v, h, e, q => by
  cases e
  refine ⟨j, h.1, ?_, h.2.1, h.2.2.1, h.2.2.2.1⟩
  have q' : some ((σ[j]?).getD none) = some (some v) := q
  injection q' with q'
  cases z : σ[j]? with
  | none => rw [z] at q'; cases q'
  | some o => rw [z] at q'; exact congrArg some q'
 | y :: N, some j :: r, i + 1, x, v, h, e, q => cu.at (N := N) (src := r) (i := i) h.2.2.2.2 e q
def d7 (X : Cx) (scope : Scope) (cl : List (Str × Addr)) : Prop :=
 (∀ x, ((compEnvC scope cl 0 X.env).kindOf x = some .cell ∨ (compEnvC scope cl 0 X.env).kindOf x = some .free) -> ∃ c, cl.lookup x = some c) /\ ∀ x c, cl.lookup x = some c -> X.env.cells.lookup x = some c
def fU (X : Cx) : List (Str × Addr) -> Prop
 | [] => True
 | y :: r => X.env.cells.lookup y.1 = some y.2 /\ fU X r
theorem fU.mem {X : Cx} : ∀ {cl : List (Str × Addr)}, fU X cl -> ∀ y ∈ cl, X.env.cells.lookup y.1 = some y.2
 | [], _, y, h => by cases h
 | z :: r, k, y, h => by
  rcases List.mem_cons.mp h with e | h
  ·rw [e]; exact k.1
  ·exact fU.mem k.2 y h
theorem mem_of_lookup {α : Type} {x : Str} {v : α} : ∀ {l : List (Str × α)}, l.lookup x = some v -> (x, v) ∈ l
 | [], h => by cases h
 | (y, w) :: r, h => by
  rw [List.lookup_cons] at h
  cases e : x == y with
  | true =>
   rw [e] at h
   have e' : x = y := eq_of_beq e
   cases h
   rw [e']; exact List.mem_cons_self
  | false =>
   rw [e] at h
   exact List.mem_cons_of_mem _ (mem_of_lookup h)
theorem aY {X : Cx} {scope : Scope} {cl : List (Str × Addr)} (h1 : ((relabel scope X.env).names.all fun y => !(y.2 == .cell || y.2 == .free) || (cl.lookup y.1).isSome) = true) (h2 : fU X cl) : d7 X scope cl := by
 refine ⟨fun x h => ?_, fun x c e => h2.mem _ (mem_of_lookup e)⟩
 have h3 := List.all_eq_true.mp h1
 have key : ∀ k : NameKind, (k = .cell ∨ k = .free) -> (relabel scope X.env).names.lookup x = some k -> ∃ c, cl.lookup x = some c := fun k hk e => by
  have q := h3 _ (mem_of_lookup e)
  have z : (k == NameKind.cell || k == NameKind.free) = true := by rcases hk with rfl | rfl <;> rfl
  simp only [z, Bool.not_true, Bool.false_or] at q
  exact Option.isSome_iff_exists.mp q
 rcases h with h | h
 ·exact key _ (.inl rfl) h
 ·exact key _ (.inr rfl) h
def eJ (σ σ' : L2.St) : Prop := σ'.length = σ.length /\ ∀ (i : Nat) (v : V), σ[i]? = some (some v) -> σ'[i]? = some (some v)
theorem eJ.set {σ : L2.St} {i : Nat} {v : V} (h : σ[i]? = some none) : eJ σ (σ.set i (some v)) := by
 refine ⟨List.length_set, fun j u e => ?_⟩
 have ne : i ≠ j := fun z => by subst z; rw [h] at e; cases e
 rw [List.getElem?_set_ne ne]; exact e
theorem eJ.set' {σ τ : L2.St} {i : Nat} {v : V} (e : eJ σ τ) (h : σ[i]? = some none) : eJ σ (τ.set i (some v)) := by
 refine ⟨by rw [List.length_set]; exact e.1, fun j u q => ?_⟩
 have ne : i ≠ j := fun z => by subst z; rw [h] at q; cases q
 rw [List.getElem?_set_ne ne]; exact e.2 j u q
section
variable {X : Cx} {N' : List Str} {scope : Scope} {cl : List (Str × Addr)} {src : List (Option Nat)} {pins : bL} {σ : L2.St} {H : Hp} {s : Shared} {fp : List Addr}
theorem Cx.comp_ok {C : Addr} (I : Inv X pins σ H s) (hC : s.heap.objs.size ≤ C) (hk : scope.kind = .function) (hf : ∀ b ∈ fp, d0 X pins H b) (hfs : ∀ b ∈ fp, b < s.heap.objs.size) (hc : d7 X scope cl) :
  (g7 X N' scope cl C fp pins s H).Ok where
 mod := I.ok.mod
 kind := hk
 glob := I.ok.glob
 blt := I.ok.blt
 above := hC
 inj := fun x y c e1 e2 => I.ok.inj x y c (hc.2 x c e1) (hc.2 y c e2)
 has := fun x h => hc.1 x h
 cab := fun x c z => nomatch z
 hd := I.ok.hd
 frames := I.ok.frames
 stk := .inl rfl
 exf := fun b hb => ⟨fun z => by have := hfs b hb; rw [show b = C from z] at this; exact absurd (Nat.lt_of_lt_of_le this hC) (Nat.lt_irrefl _), fun x c e => (hf b hb).2.2.2.2.1 x c (hc.2 x c e)⟩
 bs := I.bs
 bsz := Nat.le_trans I.ok.bsz I.sz
 noex := fun b o e hb => by
  rcases (hf b hb).2.2.2.1 with z | z
  ·exact I.ok.noex b o e z
  ·rw [(I.ok.bs b o e).1] at z; cases z
 exfs := fun b hb z => by
  rcases List.mem_cons.mp (I.stkSub b z) with q | q
  ·exact (hf b hb).2.1 q
  ·exact (hf b hb).2.2.1 q
 funs := I.stack
 frf := I.stkFree
theorem Inv.comp {C : Addr} {h₁ : Heap} {m : Str -> Option Value} {tk : Nat} (I : Inv X pins σ H s) (hC : C = s.heap.objs.size) (hns : h₁.Ns C m) (keep : ∀ b o, s.heap.get? b = some o -> h₁.get? b = some o)
  (hk : scope.kind = .function) (hf : ∀ b ∈ fp, d0 X pins H b) (hfs : ∀ b ∈ fp, b < s.heap.objs.size) (hc : d7 X scope cl) (hfree : cu X scope cl N' src) :
  Inv (g7 X N' scope cl C fp pins s H) [] (bW src σ) H { s with heap := h₁, toks := tk } where
 ok := Cx.comp_ok I (Nat.le_of_eq hC.symm) hk hf hfs hc
 os := rfl
 bare := I.bare
 base := Un.kept keep
 loc := ⟨m, hns, fun i x v e1 e2 _ => by
  obtain ⟨j, hj, hσ, kc, kc', hl⟩ := hfree.at e1 e2
  obtain ⟨m0, hn0, hl0⟩ := I.loc
  obtain ⟨u, r, l⟩ := hl0 j x v hj hσ (Or.inr (Or.inl kc))
  rcases l with ⟨k, _⟩ | ⟨k, c, e, o, ho, hd⟩
  ·rw [kc] at k; cases k
  ·exact ⟨u, r, .inr ⟨.inl kc', c, hl.trans e, o, keep c o ho, hd⟩⟩⟩
 cell := fun x c e => let ⟨v, o, ho, hd⟩ := I.cell x c (hc.2 x c e); ⟨v, o, keep _ _ ho, hd⟩
 free := I.hok.fresh (Nat.le_of_eq hC.symm)
 freeC := fun x c e => I.freeC x c (hc.2 x c e)
 pin := fun p hp => by
  have hp' : p ∈ X.pn ++ pins := by
   have z : p ∈ (X.pn ++ pins) ++ [] := hp
   rw [List.append_nil] at z; exact z
  obtain ⟨e, n, ne, nf, d⟩ := I.pin p hp'
  refine ⟨keep _ _ e, n, fun z => ?_, fun z => ?_, d⟩
  ·have := Heap.lt_size e; rw [show p.1 = C from z, hC] at this; exact Nat.lt_irrefl _ this
  ·rcases List.mem_cons.mp (I.stkSub _ z) with q | q
   ·exact ne q
   ·exact nf q
 hok := I.hok.kept keep
 len := by show (bW src σ).length = N'.length; unfold bW; rw [List.length_map, hfree.len]
end
def v8 (X : Cx) (ifs : List Expr) (t : TT) : Prop :=
 ∀ (pins : bL) (s : Shared) (σ : L2.St) (H : Hp) (Q : Bool -> Hp -> Prop), Inv X pins σ H s -> t σ H Q →
  wpAny (model X.prog X.w) X.A (forIn ifs true fun c r => if r = true then do let ok ← isTrue c X.env (eval c X.env); pure (ForInStep.yield ok) else pure (ForInStep.yield r)) (TP X pins σ Q) X.xe s
def y9 : TT := fun _ H Q => Q true H
theorem uE {X : Cx} : v8 X [] y9 := fun _ _ _ H _ I h => wpAny_tests_nil ⟨H, I, h⟩
theorem uD {X : Cx} {c : Expr} {t : TT} (h : PT X c t) : v8 X [c] t := fun pins s σ H Q I q => wpAny_tests_one (h pins s σ H Q I q)
section
variable {prog : Program} {w : World} {A : Around} {R : Result -> Shared -> Prop} {s : Shared}
theorem jZ {elt target iter : Expr} {ifs : List Expr} {scope : Scope} {pos : Pos} {it acc : Value} {env : Env} (I : Nat -> Shared -> Prop)
  (turn : ∀ n s, I n s -> wpAny (model prog w) A (pyNext it) (fun r s₁ => match r with
   | none => R (.ok .next) s₁
   | some v => wpAny (model prog w) A (letOwnedTupleGo target it v) (fun _ s₁' => wpAny (model prog w) A (assign target env v) (fun _ s₂ =>
     wpAny (model prog w) A (forIn ifs true fun c r => if r = true then do let ok ← isTrue c env (eval c env); pure (ForInStep.yield ok) else pure (ForInStep.yield r)) (fun ok s₃ =>
      if ok = true then wpAny (model prog w) A (eval elt env) (fun x s₄ =>
       wpAny (model prog w) A (call (.builtin "list.append") [acc, x]) (fun _ s₅ => ∃ m, m < n /\ I m s₅) (fun _ _ => False) s₄) (fun _ _ => False) s₃
      else ∃ m, m < n /\ I m s₃) (fun _ _ => False) s₂) (fun _ _ => False) s₁') (fun _ _ => False) s₁) (fun _ _ => False) s)
  (n : Nat) (h : I n s) : codeAny (model prog w) A (.compLoop (.ListComp elt [⟨target, iter, ifs, 0⟩] scope pos) 0 it acc env) R s := by
 refine codeAny_loop rfl I (fun n s hI => ?_) n h
 show wpAny _ A ((compTurn (.ListComp elt [⟨target, iter, ifs, 0⟩] scope pos) 0 it acc env).onRaise (fun x => do noteFrame x env; theTreesLotGoes x)) _ _ s
 refine wpAny_noted ?_
 rw [compTurn_list]
 refine wpAny_bind (wpAny_standAt (wpAny_bind (wpAny_mono (turn n s hI) (fun r s₁ h₁ => ?_) fun _ _ h' => h'.elim)))
 cases r with
 | none => exact wpAny_pure h₁
 | some v =>
  refine wpAny_bind (wpAny_mono h₁ (fun _ s₁' h₁' => ?_) fun _ _ h' => h'.elim)
  refine wpAny_bind (wpAny_mono h₁' (fun _ s₂ h₂ => wpAny_bind (wpAny_mono h₂ (fun ok s₃ h₃ => ?_) fun _ _ h' => h'.elim)) fun _ _ h' => h'.elim)
  cases ok with
  | false => exact wpAny_pure ⟨rfl, h₃⟩
  | true =>
   exact wpAny_bind (wpAny_bind (wpAny_mono h₃ (fun x s₄ h₄ => wpAny_bind (wpAny_mono h₄ (fun _ s₅ h₅ => wpAny_pure (wpAny_pure ⟨rfl, h₅⟩)) fun _ _ h' => h'.elim)) fun _ _ h' => h'.elim))
end
structure qO (X : Cx) (pins : bL) (H : Hp) (C : Addr) : Prop where
 no : H C = none
 lo : C ≠ X.env.locals
 fs : C ∉ X.fs
 old : X.s₀.heap.get? C = none
 ce : ∀ x c, X.env.cells.lookup x = some c -> c ≠ C
 pn : ∀ p ∈ X.pn ++ pins, p.1 ≠ C
theorem qO.turned {X : Cx} {pins : bL} {σ : L2.St} {H : Hp} {C : Addr} {s : Shared} (o : qO X pins H C) (I : Inv X pins σ H s) {h' : Heap} (sb : Heap.SameBut C s.heap h') : Inv X pins σ H { s with heap := h' } :=
 I.turned (it := C) (t' := s.toks) (fun b u hb e => sb.extBut b u hb e) o.no o.lo (.inr o.old) o.ce o.pn
def gm (wi : TI) (src : List (Option Nat)) (g : TG) (tt : TT) (te : TE) : TE := fun σ H Q => wi σ H fun J H1 => ∀ D, H1 D = none -> ∃ W : Nat -> Nat -> List V -> Hp -> Prop,
 (∃ m, W 0 m [] (upd H1 D (.lst []))) /\ ∀ i m ys H, W i m ys H -> (J.stop i H /\ Q (.ref D) H) ∨ (J.go i H /\ ∀ x H', J.yld i H x H' -> g x (bW src σ) H' fun σ2 H2 => eJ (bW src σ) σ2 /\ tt σ2 H2 fun ok H3 =>
  if ok = true then te σ2 H3 fun y H4 => H4 D = some (.lst ys) /\ ys.length < sizeLine /\ ∃ m', m' < m /\ W (i + 1) m' (ys ++ [y]) (upd H4 D (.lst (ys ++ [y]))) else ∃ m', m' < m /\ W (i + 1) m' ys H3)
section
variable {X : Cx} {N' : List Str} {scope : Scope} {cl : List (Str × Addr)} {src : List (Option Nat)} {tg iter elt : Expr} {ifs : List Expr} {wi : TI} {g : TG} {tt : TT} {te : TE} {pos : Pos}
theorem mR (hc : X.calm = true) (hi : PI X tg iter wi) (hg : ∀ C fp pins s H, PG (g7 X N' scope cl C fp pins s H) tg g) (ht : ∀ C fp pins s H, v8 (g7 X N' scope cl C fp pins s H) ifs tt)
  (he : ∀ C fp pins s H, PE (g7 X N' scope cl C fp pins s H) elt te) (hfree : cu X scope cl N' src) (hcell : ∀ x ∈ scope.names, x.2 ≠ .cell) (hkind : scope.kind = .function) (hcl : d7 X scope cl)
  {RR : Value -> Addr -> Result -> Shared -> Prop} {pins : bL} {s : Shared} {σ : L2.St} {H : Hp} {Q : VK} (I : Inv X pins σ H s) (h : gm wi src g tt te σ H Q)
  (hRR : ∀ D C H' s', Q (.ref D) H' -> (∃ m, s'.heap.Ns C m) -> Inv X pins σ H' s' -> qO X pins H' C -> RR (.ref D) C (.ok .next) s') :
  wpAny (model X.prog X.w) X.A (eval iter X.env) (fun x s₁ => wpAny (model X.prog X.w) X.A (pyIter x) (fun itv s₂ => wpAny (model X.prog X.w) X.A (newList []) (fun acc s₃ =>
   wpAny (model X.prog X.w) X.A (newFunctionEnv scope X.env.globals cl [] X.env.qual none .none (some X.env)) (fun cenv s₄ =>
    codeAny (model X.prog X.w) X.A (.compStart (.ListComp elt [⟨tg, iter, ifs, 0⟩] scope pos) 0 itv acc { cenv with scope := relabel scope X.env }) (RR acc cenv.locals) s₄) X.xe s₃) X.xe s₂) X.xe s₁) X.xe s := by
 refine bZ (hi pins s σ H _ I h) fun v s1 h1 => bZ h1 fun itv s2 h2 => ?_
 obtain ⟨it, fp, tn, J, H2, e, I2, T, st2, f2, h2⟩ := h2
 subst e
 refine wpAny_newObj_type ?_ (by show 0 ≤ sizeLine; exact Nat.zero_le _)
 have hD : H2 s2.heap.objs.size = none := I2.fresh
 have I3 : Inv X pins σ (upd H2 s2.heap.objs.size (.lst [])) { s2 with heap := s2.heap.push { cls := .type "list", data := .seq ([] : List Value).toArray } } := I2.lnew (t' := s2.toks) (its := []) .nil (Nat.zero_le _)
 obtain ⟨W, ⟨m0, w0⟩, turn⟩ := h2 s2.heap.objs.size hD
 generalize hDe : s2.heap.objs.size = D at I3 turn w0 hD ⊢
 have st3 : tn 0 (s2.heap.push { cls := .type "list", data := .seq ([] : List Value).toArray }) := T.keep _ _ _ st2 fun b _ o e => Heap.get?_push_of_some _ e
 have f3 : ∀ b ∈ fp, d0 X pins (upd H2 D (.lst [])) b /\ b < (s2.heap.push { cls := .type "list", data := .seq ([] : List Value).toArray }).objs.size := fun b hb => by
  obtain ⟨o, e, _⟩ := T.obj _ _ st2 b hb
  have l := Heap.lt_size e
  rw [hDe] at l
  refine ⟨⟨?_, (f2 b hb).2⟩, by rw [Heap.size_push, hDe]; exact Nat.lt_succ_of_lt l⟩
  rw [aC (Nat.ne_of_lt l)]; exact (f2 b hb).1
 generalize (s2.heap.push { cls := .type "list", data := .seq ([] : List Value).toArray }) = h3 at I3 st3 f3 ⊢
 refine wpAny_newFunctionEnv hcell (by intro y hy; simp at hy) (fun h₄ hns₄ hsb₄ => ?_) hkind
 have keep : ∀ b o, h3.get? b = some o -> h₄.get? b = some o := fun b o e => hsb₄.extBut b o (Nat.ne_of_lt (Heap.lt_size e)) (Heap.get?_push_of_some _ e)
 have I4 := Inv.comp (C := h3.objs.size) (fp := fp) (tk := s2.toks + ([] : List (Str × Value)).length) I3 rfl hns₄ keep hkind (fun b hb => (f3 b hb).1) (fun b hb => (f3 b hb).2) hcl hfree
 have st4 : tn 0 h₄ := T.keep _ _ _ st3 fun b _ o e => keep b o e
 have fpn : ∀ b ∈ fp, (upd H2 D (.lst [])) b = none := fun b hb => (f3 b hb).1.1
 have hn3 : ∀ b ∈ fp, b ≠ h3.objs.size := fun b hb => Nat.ne_of_lt (f3 b hb).2
 have stat : ∀ {H' : Hp}, (∀ b ∈ fp, H' b = none) -> ∀ b ∈ fp, d0 (g7 X N' scope cl h3.objs.size fp pins { s2 with heap := h3 } (upd H2 D (.lst []))) [] H' b := fun hn b hb =>
  ⟨hn b hb, hn3 b hb, I4.ok.exfs b hb, .inl hb, fun x c e => (f3 b hb).1.2.2.2.2.1 x c (hcl.2 x c e), fun p hp => (f3 b hb).1.2.2.2.2.2 p (by
   have z : p ∈ (X.pn ++ pins) ++ [] := hp
   rw [List.append_nil] at z; exact z)⟩
 have back : ∀ {H' : Hp} {s' : Shared}, Inv (g7 X N' scope cl h3.objs.size fp pins { s2 with heap := h3 } (upd H2 D (.lst []))) [] (bW src σ) H' s' -> (∃ m, s'.heap.Ns h3.objs.size m) /\ Inv X pins σ H' s' /\ qO X pins H' h3.objs.size := fun {H' s'} I' => by
  have Ib : Inv X pins σ H' s' := I3.call' I'.os I'.base I'.hok I'.bare fun b hb => ⟨(f3 b hb).1.2.2.2.1, (f3 b hb).1.2.1, (f3 b hb).1.2.2.2.2.1, (f3 b hb).1.2.2.2.2.2⟩
  refine ⟨let ⟨m, hm, _⟩ := I'.loc; ⟨m, hm⟩, Ib, ⟨I'.free, fun z => ?_, I3.nofs (Nat.le_refl _), Heap.get?_none_of_le I3.sz, fun x c e z => ?_, fun p hp z => ?_⟩⟩
  ·have := I3.lt; rw [← z] at this; exact Nat.lt_irrefl _ this
  ·obtain ⟨v, o, ho, _⟩ := I3.cell x c e
   have := Heap.lt_size ho; rw [z] at this; exact Nat.lt_irrefl _ this
  ·obtain ⟨e, _⟩ := I3.pin p hp
   have := Heap.lt_size e; rw [z] at this; exact Nat.lt_irrefl _ this
 have loop : codeAny (model X.prog X.w) X.A (.compLoop (.ListComp elt [⟨tg, iter, ifs, 0⟩] scope pos) 0 (.ref it) (.ref D) (compEnvC scope cl h3.objs.size X.env)) (RR (.ref D) h3.objs.size) { s2 with heap := h₄, toks := s2.toks + ([] : List (Str × Value)).length } := by
  refine jZ (fun n s' => ∃ i ys H', Inv (g7 X N' scope cl h3.objs.size fp pins { s2 with heap := h3 } (upd H2 D (.lst []))) [] (bW src σ) H' s' /\ tn i s'.heap /\ (∀ b ∈ fp, H' b = none) /\ W i n ys H') ?_ m0 ⟨0, [], _, I4, st4, fpn, w0⟩
  rintro n s5 ⟨i, ys, H5, I5, st5, fr5, w5⟩
  rcases turn i n ys H5 w5 with ⟨stop, qn⟩ | ⟨go, step⟩
  ·refine bZ (T.done (g7 X N' scope cl h3.objs.size fp pins { s2 with heap := h3 } (upd H2 D (.lst []))) rfl rfl rfl hc i [] s5 _ H5 _ I5 (stat fr5) st5 stop) fun r s6 ⟨hr, I6⟩ => ?_
   subst hr
   obtain ⟨b1, b2, b3⟩ := back I6
   exact hRR D _ H5 s6 qn b1 b2 b3
  ·refine bZ (T.item (g7 X N' scope cl h3.objs.size fp pins { s2 with heap := h3 } (upd H2 D (.lst []))) rfl rfl rfl hc i [] s5 _ H5 _ I5 (stat fr5) st5 go) fun r s6 ⟨u, hr, h6⟩ => ?_
   subst hr
   refine bZ h6 fun _ s7 ⟨x, H7, I7, r7, y7, st7, fr7⟩ => ?_
   have I7' := I7.pinned (stat fr7) (T.obj _ _ st7)
   refine bZ (hg _ _ _ _ _ _ s7 _ H7 x u _ I7' r7 (step x H7 y7)) fun _ s8 ⟨σ8, H8, I8, ex8, q8⟩ => ?_
   refine bZ (ht _ _ _ _ _ _ s8 σ8 H8 _ I8 q8) fun ok s9 ⟨H9, I9, q9⟩ => ?_
   have again : ∀ {ys' : List V} {Ha : Hp} {sa : Shared}, Inv (g7 X N' scope cl h3.objs.size fp pins { s2 with heap := h3 } (upd H2 D (.lst []))) ([] ++ gZ fp s7.heap) σ8 Ha sa -> (∃ m', m' < n /\ W (i + 1) m' ys' Ha) →
     ∃ m, m < n /\ ∃ i ys H', Inv (g7 X N' scope cl h3.objs.size fp pins { s2 with heap := h3 } (upd H2 D (.lst []))) [] (bW src σ) H' sa /\ tn i sa.heap /\ (∀ b ∈ fp, H' b = none) /\ W i m ys H' := fun {ys' Ha sa} Ia ⟨m', hm, wa⟩ => by
    refine ⟨m', hm, i + 1, ys', Ha, (Ia.unpinned).weak ex8.1.symm ex8.2, T.keep _ _ _ st7 fun b hb o e => (Ia.pin (b, o) (List.mem_append_right _ (List.mem_append_right _ (dJ hb e)))).1, fun b hb => ?_, wa⟩
    obtain ⟨o, e, _⟩ := T.obj _ _ st7 b hb
    exact (Ia.pin (b, o) (List.mem_append_right _ (List.mem_append_right _ (dJ hb e)))).2.1
   cases ok with
   | false => exact again I9 q9
   | true =>
    refine bZ (he _ _ _ _ _ _ s9 σ8 H9 _ I9 q9) fun y s10 ⟨yv, H10, I10, r10, q10, hz, wn⟩ => ?_
    refine bZ (b8 _ s10 σ8 H10 (.ref D) [yv] (.ref D) [y] (fun _ Hz => ∃ m', m' < n /\ W (i + 1) m' (ys ++ [yv]) Hz) I10 rfl (.cons r10 .nil) ⟨D, ys, yv, rfl, rfl, q10, hz, wn⟩) fun _ s11 ⟨_, H11, I11, _, q11⟩ => ?_
    exact again I11 q11
 exact codeAny_compStart_list loop (T.self _ 0 _ _ _ st4 loop)
theorem sN (hc : X.calm = true) (hi : PI X tg iter wi) (hg : ∀ C fp pins s H, PG (g7 X N' scope cl C fp pins s H) tg g) (ht : ∀ C fp pins s H, v8 (g7 X N' scope cl C fp pins s H) ifs tt)
  (he : ∀ C fp pins s H, PE (g7 X N' scope cl C fp pins s H) elt te) (hfree : cu X scope cl N' src) (hclos : closureFor scope X.env = pure cl) (hcell : ∀ x ∈ scope.names, x.2 ≠ .cell) (hkind : scope.kind = .function)
  (hnames : ∀ x ∈ scope.names, x.2 = .local -> scope.names.lookup x.1 = some .local) (hcl : d7 X scope cl) (hs : ∀ x, foldedSetIterable iter X.env x = pure x := by intro _; rfl) :
  PE X (.ListComp elt [⟨tg, iter, ifs, 0⟩] scope pos) (gm wi src g tt te) := by
 intro pins s σ H Q I h
 rw [eval_ListComp]
 refine wpAny_comprehension_free (use := none) rfl hs hclos hkind hnames (mR hc hi hg ht he hfree hcell hkind hcl (RR := fun acc C => compPost (model X.prog X.w) X.A X.xe none (EP X pins σ Q) acc C) I h fun D C H' s' q hm hI hb => ?_)
 obtain ⟨m, hm⟩ := hm
 exact ⟨m, hm, fun h' sb => ⟨.ref D, H', hb.turned hI sb, rfl, q⟩⟩
theorem uI {i : Nat} {x : Str} {pos' pos2 : Pos} (hN : X.N.Nodup) (hi' : X.N[i]? = some x) (hx : ub X.env.scope x) (hc : X.calm = true) (hi : PI X tg iter wi) (hg : ∀ C fp pins s H, PG (g7 X N' scope cl C fp pins s H) tg g) (ht : ∀ C fp pins s H, v8 (g7 X N' scope cl C fp pins s H) ifs tt)
  (he : ∀ C fp pins s H, PE (g7 X N' scope cl C fp pins s H) elt te) (hfree : cu X scope cl N' src) (hclos : closureFor scope X.env = pure cl) (hcell : ∀ x ∈ scope.names, x.2 ≠ .cell) (hkind : scope.kind = .function)
  (hnames : ∀ x ∈ scope.names, x.2 = .local -> scope.names.lookup x.1 = some .local) (hcl : d7 X scope cl) (hs : ∀ x, foldedSetIterable iter X.env x = pure x := by intro _; rfl)
  (hsw : swapsWith (.ListComp elt [⟨tg, iter, ifs, 0⟩] scope pos) (some (.Name x pos')) pos2.line X.env = pure true := by rfl) (hf : X.fn x = true ∨ X.env.scope.names.lookup x = some .local := by first | exact .inl rfl | exact .inr rfl | assumption) :
  PS X (.Assign [.Name x pos'] (.ListComp elt [⟨tg, iter, ifs, 0⟩] scope pos) pos2) (kr (gm wi src g tt te) (gF i)) := by
 intro pins s σ H D I h
 rw [exec_Assign_Name_used _ _ _ _ hsw]
 refine wpAny_bind (wpAny_standAt ?_)
 show wpAny _ _ ((comprehension (.ListComp elt [⟨tg, iter, ifs, 0⟩] scope pos) scope X.env _ (newList []) false (eval iter X.env) (some (assign (.Name x pos') X.env)) >>= fun _ => pure ()) >>= fun _ => pure Flow.next) _ _ s
 refine wpAny_bind (wpAny_bind (wpAny_mono (wpAny_comprehension_free (use := some (assign (.Name x pos') X.env)) (Q := fun _ s'' => SP X pins D .next s'') rfl hs hclos hkind hnames (mR hc hi hg ht he hfree hcell hkind hcl (RR := fun acc C => compPost (model X.prog X.w) X.A X.xe (some (assign (.Name x pos') X.env)) (fun _ s'' => SP X pins D .next s'') acc C) I h fun E C H' s' q hm hI hb => ?_)) (fun _ s'' h'' => wpAny_pure (wpAny_pure h'')) fun _ _ e => e))
 obtain ⟨m, o, es, ep, ho, hd, r1, r2⟩ := hm
 have I' : Inv X (pins ++ [(C, o)]) σ H' s' := hI.pins_of fun p hp => by
  rcases List.mem_append.mp hp with h | h
  ·exact hI.pin p (List.mem_append_right _ h)
  ·rw [List.mem_singleton] at h
   rw [h]
   exact ⟨ho, hb.no, hb.lo, hb.fs, fun v z => by rw [hd] at z; cases z⟩
 refine wpAny_assign_Name (d8 I' hN hi' hx (show bn (.ref E) (.ref E) from rfl) (fun s'' I'' => ?_) hf)
 have hC := (I''.pin (C, o) (List.mem_append_right _ (List.mem_append_right _ List.mem_cons_self))).1
 have I3 : Inv X pins (σ.set i (some (.ref E))) H' s'' := I''.pins_of fun p hp => I''.pin p (List.mem_append_right _ (List.mem_append_left _ hp))
 exact ⟨m, ⟨o, es, ep, hC, hd, r1, r2⟩, fun h' sb => ⟨_, H', hb.turned I3 sb, q⟩⟩
end
def zJ (K : Fg) : R2 := fun x y H Q => ∃ d d', bJ K H x d /\ bJ K H y d' /\ d.canLay0 = true /\ d'.canLay0 = true /\ d.depth ≤ 32 /\ Q (.bl (!PyData.eqv d d')) H
theorem g3 {X : Cx} {k : Nat} (hr : cQ k X.A) : e9 X (compareOp .NotEq) (zJ X.K) := by
 intro pins s σ H x y v u Q I rx ry h
 obtain ⟨d, d', hd, hd', c, c', dp, q⟩ := h
 obtain ⟨as, ra⟩ := bJ.reads I hd rx
 obtain ⟨bs, rb⟩ := bJ.reads I hd' ry
 exact SeqAt.compareNe_reads ra rb c c' (by have := hr.units; omega) ⟨.bl _, H, I, rfl, q⟩
noncomputable def Ct (h : Heap) (x : Value) (d : PyData) (y : Value) : Bool :=
 open Classical in if y = x then true else if z : ∃ d', d'.canLay0 = true /\ d'.depth ≤ 32 /\ ∃ as, Reads h y d' as then PyData.eqv z.choose d else false
def v9 (K : Fg) (H : Hp) (xs : List V) : Prop := ∀ x ∈ xs, ∃ d, bJ K H x d /\ d.canLay0 = true /\ d.depth ≤ 32
def AN (K : Fg) : R2 := fun x y H Q => ∃ a p xs, x = .ref a /\ y = .ref p /\ aO K H p xs /\ V.ref a ∈ xs /\ v9 K H xs /\ Q (.bl false) H
def AS (K : Fg) : V -> List V -> Hp -> VK -> Prop := fun x vs H Q => ∃ p xs a d, x = .ref p /\ vs = [.ref a] /\ aO K H p xs /\ V.ref a ∈ xs /\ v9 K H xs /\ bJ K H (.ref a) d /\ d.canLay0 = true /\ d.depth ≤ 32 ∧
 ∀ (j : Nat) (v' : V), xs[j]? = some v' -> (v' = .ref a ∨ ∀ d', bJ K H v' d' -> d'.canLay0 = true -> PyData.eqv d' d = true) -> Q (.int j) H
end B
namespace B
abbrev R := Int × Int
def cy (a b : Int) : R := (a / (Int.gcd a b : Int), b / (Int.gcd a b : Int))
structure Wf (n : Nat) (r : R) : Prop where
 pos : 0 < r.2
 top : r.1.natAbs < 2 ^ n
 bot : r.2.natAbs < 2 ^ n
 cop : Int.gcd r.1 r.2 = 1
theorem Wf.mono {n m : Nat} {r : R} (h : Wf n r) (l : n ≤ m) : Wf m r := ⟨h.pos, Nat.lt_of_lt_of_le h.top (Nat.pow_le_pow_right (by decide) l), Nat.lt_of_lt_of_le h.bot (Nat.pow_le_pow_right (by decide) l), h.cop⟩
theorem cN {a b : Int} (hb : 0 < b) : 0 < (Int.gcd a b : Int) := by
 have h : Int.gcd a b ≠ 0 := fun z => by
  have := (Int.gcd_eq_zero_iff.mp z).2
  omega
 omega
theorem eO (a : Int) {g : Int} (hg : 0 < g) : (a / g).natAbs ≤ a.natAbs := by
 have h1 := Int.ediv_mul_le a (show g ≠ 0 by omega)
 have h2 := Int.lt_ediv_add_one_mul_self a hg
 rcases Int.le_total 0 a with h | h
 ·have h3 := Int.ediv_nonneg h (show 0 ≤ g by omega)
  have h4 : a / g ≤ a / g * g := by
   have : a / g * 1 ≤ a / g * g := Int.mul_le_mul_of_nonneg_left (by omega) h3
   omega
  omega
 ·have h3 : a / g ≤ 0 := by
   have := Int.ediv_le_ediv hg h
   rw [Int.zero_ediv] at this; exact this
  have h5 : a ≤ a / g := by
   have : a / 1 ≤ a / g := by
    have q : (a / g + 1) * g ≤ (a / g + 1) * 1 ∨ 0 < a / g + 1 := by
     rcases Int.le_total (a / g + 1) 0 with z | z
     ·left
      have := Int.mul_le_mul_of_nonneg_left (a := 1) (b := g) (c := -(a / g + 1)) (by omega) (by omega)
      have e1 : -(a / g + 1) * 1 = -((a / g + 1) * 1) := Int.neg_mul _ _
      have e2 : -(a / g + 1) * g = -((a / g + 1) * g) := Int.neg_mul _ _
      omega
     ·rcases Int.lt_or_eq_of_le z with z | z
      ·right; exact z
      ·left; rw [← z]; simp
    rw [Int.ediv_one]
    rcases q with q | q
    ·omega
    ·omega
   rw [Int.ediv_one] at this; exact this
  omega
theorem sZ {n : Nat} {a b : Int} (hb : 0 < b) (h1 : a.natAbs < 2 ^ n) (h2 : b.natAbs < 2 ^ n) : Wf n (cy a b) :=
 ⟨Int.ediv_pos_of_pos_of_dvd hb (Int.le_of_lt (cN hb)) (Int.gcd_dvd_right a b), Nat.lt_of_le_of_lt (eO _ (cN hb)) h1, Nat.lt_of_le_of_lt (eO _ (cN hb)) h2, Int.gcd_ediv_gcd_ediv_gcd (by have := cN (a := a) hb; omega)⟩
def bu (r q : R) : R := cy (r.1 * q.2 + q.1 * r.2) (r.2 * q.2)
def iA (r q : R) : R := cy (r.1 * q.1) (r.2 * q.2)
def cR (r q : R) : Bool := decide (r.1 * q.2 < q.1 * r.2)
theorem iX {x y : Int} {n m : Nat} (h1 : x.natAbs < 2 ^ n) (h2 : y.natAbs < 2 ^ m) : (x * y).natAbs < 2 ^ (n + m) := by
 rw [Int.natAbs_mul, Nat.pow_add]
 exact Nat.mul_lt_mul'' h1 h2
theorem sx {n m : Nat} {r q : R} (h : Wf n r) (k : Wf m q) : (r.1 * q.2 + q.1 * r.2).natAbs < 2 ^ (n + m + 1) := by
 have a := iX h.top k.bot
 have b := iX k.top h.bot
 rw [Nat.add_comm m n] at b
 have e : 2 ^ (n + m + 1) = 2 * 2 ^ (n + m) := by rw [Nat.pow_succ, Nat.mul_comm]
 have := Int.natAbs_add_le (r.1 * q.2) (q.1 * r.2)
 omega
theorem oC {n m : Nat} {r q : R} (h : Wf n r) (k : Wf m q) : Wf (n + m + 1) (bu r q) :=
 sZ (Int.mul_pos h.pos k.pos) (sx h k) (Nat.lt_of_lt_of_le (iX h.bot k.bot) (Nat.pow_le_pow_right (by decide) (Nat.le_succ _)))
end B
namespace B
open PySem L2 PyProof.Rows
def BS (i j : Int) : Prop := i.natAbs < 2 ^ 4000 /\ j.natAbs < 2 ^ 4000
def BP (_ j : Int) : Prop := 0 < j /\ j.natAbs < 2 ^ 4000
theorem o5 {i : Int} (h : i.natAbs < 2 ^ 4000) : Builtin.Int.intBits i ≤ 2 ^ 20 := by
 unfold Builtin.Int.intBits
 split
 ·exact Nat.zero_le _
 ·rename_i z
  have hz : i.natAbs ≠ 0 := fun q => z (by have : i = 0 := by omega
                                           rw [this]; rfl)
  have := (Nat.log2_lt hz).mpr h
  have e : (2 : Nat) ^ 20 = 1048576 := by decide
  omega
section
variable {X : Cx}
theorem dh : e9 X (binaryOp .Mult) (rI BS fun i j => .int (i * j)) := yS fun _ _ _ _ _ _ _ hc q => mul_int q (IntMulOk.of_bits (o5 hc.1) (o5 hc.2))
theorem ge : e9 X (binaryOp .FloorDiv) (rI BP fun i j => .int (i / j)) := yS fun i j _ _ _ _ _ hc q => by
 have h1 : (0 : Int) < j := hc.1
 have h2 : j.natAbs < 2 ^ 4000 := hc.2
 refine floordiv_int (by omega) (by rw [Int.fdiv_eq_ediv_of_nonneg i (by omega)]; exact q) (.inl (PyProof.noPylong_of_log2 ?_))
 exact Nat.lt_trans ((Nat.log2_lt (show j.natAbs ≠ 0 by omega)).mpr h2) (by decide)
end
def aN (K : Fg) (H H' : Hp) : Prop := ∀ p xs, bt K H p xs -> bt K H' p xs
theorem aN.trans {K : Fg} {H H1 H2 : Hp} (a : aN K H H1) (b : aN K H1 H2) : aN K H H2 := fun p xs h => b p xs (a p xs h)
theorem aN.same {K : Fg} {H H' : Hp} (s : aA H H') : aN K H H' := fun p xs h => by
 rcases h with (h | ⟨o, h⟩) | h
 ·exact .inl (.inl (s _ _ h))
 ·exact .inl (.inr ⟨o, s _ _ h⟩)
 ·exact .inr h
theorem aN.step {K : Fg} {t : Addr} {H H' : Hp} (S : aT t H H') : aN K H H' := fun p xs h => by
 obtain ⟨ys, ht⟩ := S.tp
 rcases h with (h | ⟨o, h⟩) | h
 ·exact .inl (.inl (S.keep _ _ (fun z => by subst z; rw [h] at ht; cases ht) h))
 ·exact .inl (.inr ⟨o, S.keep _ _ (fun z => by subst z; rw [h] at ht; cases ht) h⟩)
 ·exact .inr h
theorem aN.up {K : Fg} {H : Hp} {l : Addr} {xs : List V} (h : H l = some (.lst xs)) (ys : List V) : aN K H (upd H l (.lst ys)) := aN.step (aT.up h)
def RV (K : Fg) (H : Hp) (v : V) (r : R) : Prop := ∃ p, v = .ref p /\ bt K H p [.int r.1, .int r.2]
theorem RV.mono {K : Fg} {H H' : Hp} {v : V} {r : R} (h : RV K H v r) (t : aN K H H') : RV K H' v r := let ⟨p, e, q⟩ := h; ⟨p, e, t _ _ q⟩
theorem RV.of {K : Fg} {H : Hp} {p : Addr} {a b : Int} (h : H p = some (.tup [.int a, .int b])) : RV K H (.ref p) (a, b) := ⟨p, rfl, bt.of h⟩
def DX (K : Fg) (H : Hp) (xs : List V) (rs : List R) : Prop := xs.length = rs.length /\ ∀ (i : Nat) (x : V) (r : R), xs[i]? = some x -> rs[i]? = some r -> RV K H x r
def zR (r : R) : Nat -> R
 | 0 => (1, 1)
 | k + 1 => iA (zR r k) r
theorem n9 : Wf 1 (0, 1) := ⟨by decide, by decide, by decide, by decide⟩
def f7 (rs : List R) : R := rs.foldl bu (0, 1)
def dR (r : R) : PyData := .tuple [.int r.1, .int r.2]
theorem RV.deep {K : Fg} {H : Hp} {v : V} {r : R} (h : RV K H v r) : bJ K H v (dR r) := by
 obtain ⟨p, rfl, q⟩ := h
 exact .tup q (.cons (.int _) (.cons (.int _) .nil))
theorem gI (r : R) : (dR r).depth ≤ 32 := by show max 0 (max 0 0) + 1 ≤ 32; decide
theorem nN {i : Int} {n : Nat} (h : i.natAbs < 2 ^ n) (hn : n ≤ 1900) : i.natAbs.log2 < 1920 := by
 by_cases z : i.natAbs = 0
 ·rw [z]; decide
 ·have := (Nat.log2_lt z).mpr (Nat.lt_of_lt_of_le h (Nat.pow_le_pow_right (by decide) hn))
  omega
theorem i5 {i : Int} {n : Nat} (h : i.natAbs < 2 ^ n) (hn : n ≤ 1900) : (PyData.int i).shown.length ≤ 1921 := by
 have q := int_text_length_le (a := i) (k := 1920) (by decide) (nN h hn)
 have e : (PyData.int i).shown.length = (toString i).length := by
  show (Str.ofString (toString i)).length = _
  exact PySem.ofString_length _
 omega
theorem tT {r : R} {n : Nat} (h : Wf n r) (hn : n ≤ 1900) : o9 (dR r) where
 sh := by
  show (decide (r.1.natAbs.log2 < 1920) && (decide (r.2.natAbs.log2 < 1920) && true)) = true
  rw [decide_eq_true (nN h.top hn), decide_eq_true (nN h.bot hn)]; rfl
 nd := rfl
 sz := by
  have a := i5 h.top hn
  have b := i5 h.bot hn
  have q := tupleText_len_le [(PyData.int r.1).shown, (PyData.int r.2).shown]
  have e : (dR r).shown = tupleText [(PyData.int r.1).shown, (PyData.int r.2).shown] := rfl
  rw [e]
  simp only [List.map_cons, List.map_nil, List.sum_cons, List.sum_nil, List.length_cons, List.length_nil] at q
  have : sizeLine = 16777216 := by decide
  omega
 dp := by show max 0 (max 0 0) + 1 ≤ 16; decide
theorem yo {r q : R} (h : PyData.eqv (dR r) (dR q) = true) : r = q := by
 have z : (r.1 == q.1 && (r.2 == q.2 && true)) = true := h
 simp only [Bool.and_true, Bool.and_eq_true, beq_iff_eq] at z
 exact Prod.ext z.1 z.2
theorem tO (r : R) : PyData.eqv (dR r) (dR r) = true := by
 show (r.1 == r.1 && (r.2 == r.2 && true)) = true
 simp
end B
namespace B
open PySem L2 PyProof.Rows
def dL (rs : List R) : PyData := .list (rs.map dR)
def Dj (K : Fg) (tl : TE) : TI := fun σ H R => tl σ H fun x H1 => (∃ a, x = .ref a /\ (∃ xs, aO K H1 a xs) /\ R (uc K a) H1) ∨ (∃ a, x = .ref a /\ (∃ xs, bt K H1 a xs) /\ R (ue K a) H1)
end B
namespace B
structure ua (r : R) : Prop where
 pos : 0 < r.2
 cop : Int.gcd r.1 r.2 = 1
theorem k4 {a b : Int} (hb : 0 < b) : ua (cy a b) :=
 ⟨Int.ediv_pos_of_pos_of_dvd hb (Int.le_of_lt (cN hb)) (Int.gcd_dvd_right a b), Int.gcd_ediv_gcd_ediv_gcd (by have := cN (a := a) hb; omega)⟩
theorem fB {a b x y : Int} (hb : 0 < b) (hy : 0 < y) (g : Int.gcd x y = 1) (e : x * b = a * y) : cy a b = (x, y) := by
 have h1 : Int.gcd (a * y) (b * y) = Int.gcd a b * y.natAbs := Int.gcd_mul_right a y b
 have h2 : Int.gcd (x * b) (y * b) = Int.gcd x y * b.natAbs := Int.gcd_mul_right x b y
 rw [e, Int.mul_comm y b, h1, g, Nat.one_mul] at h2
 have h3 : (Int.gcd a b : Int) * y = b := by
  have z : ((Int.gcd a b * y.natAbs : Nat) : Int) = (b.natAbs : Int) := congrArg _ h2
  rw [Int.natCast_mul, Int.natAbs_of_nonneg (by omega), Int.natAbs_of_nonneg (by omega)] at z
  exact z
 have gp := cN (a := a) hb
 have h4 : a = x * (Int.gcd a b : Int) := by
  have z : x * (Int.gcd a b : Int) * y = a * y := by rw [Int.mul_assoc, h3]; exact e
  exact (Int.eq_of_mul_eq_mul_right (by omega) z).symm
 unfold cy
 generalize (Int.gcd a b : Int) = G at h3 h4 gp
 subst h4
 subst h3
 rw [Int.mul_ediv_cancel _ (by omega), Int.mul_ediv_cancel_left _ (by omega)]
theorem i9 {a b c : Int} (h : Int.gcd a b = 1) (d : c ∣ a) : Int.gcd c b = 1 :=
 Int.gcd_eq_one_iff.mpr fun z h1 h2 => Int.gcd_eq_one_iff.mp h z (Int.dvd_trans h1 d) h2
theorem jY {a b c : Int} (h : Int.gcd a b = 1) (d : c ∣ b) : Int.gcd a c = 1 := by
 rw [Int.gcd_comm]
 exact i9 (by rw [Int.gcd_comm]; exact h) d
theorem lD {a b c : Int} (h : Int.gcd a b = 1) (k : Int.gcd a c = 1) : Int.gcd a (b * c) = 1 := by
 rw [Int.gcd_mul_right_right_of_gcd_eq_one h]; exact k
theorem mQ {a b c : Int} (h : Int.gcd a c = 1) (k : Int.gcd b c = 1) : Int.gcd (a * b) c = 1 := by
 rw [Int.gcd_comm]
 exact lD (by rw [Int.gcd_comm]; exact h) (by rw [Int.gcd_comm]; exact k)
theorem fR {a b : Int} (hb : 0 < b) : ∃ g x y : Int, (Int.gcd a b : Int) = g /\ 0 < g /\ a = g * x /\ b = g * y /\ Int.gcd x y = 1 := by
 have gp := cN (a := a) hb
 obtain ⟨x, hx⟩ := Int.gcd_dvd_left a b
 obtain ⟨y, hy⟩ := Int.gcd_dvd_right a b
 refine ⟨_, x, y, rfl, gp, hx, hy, ?_⟩
 have z := Int.gcd_ediv_gcd_ediv_gcd (i := a) (j := b) (by omega)
 have e1 : a / (Int.gcd a b : Int) = x := by
  conv => lhs; lhs; rw [hx]
  exact Int.mul_ediv_cancel_left _ (by omega)
 have e2 : b / (Int.gcd a b : Int) = y := by
  conv => lhs; lhs; rw [hy]
  exact Int.mul_ediv_cancel_left _ (by omega)
 rw [e1, e2] at z
 exact z
theorem iR {g y b : Int} (hb : 0 < b) (hg : 0 < g) (e : b = g * y) : 0 < y := by
 rcases Int.lt_or_le 0 y with h | h
 ·exact h
 ·have := Int.mul_le_mul_of_nonneg_left h (Int.le_of_lt hg)
  rw [Int.mul_zero] at this
  omega
def mE (r q : R) : R :=
 let d : Int := (Int.gcd r.2 q.2 : Nat)
 let t := r.1 * (q.2 / d) + q.1 * (r.2 / d)
 let e : Int := (Int.gcd t d : Nat)
 (t / e, r.2 / d * (q.2 / e))
theorem sy {r q : R} (hr : ua r) (hq : ua q) : mE r q = bu r q := by
 obtain ⟨d, u, v, e0, dp, e1, e2, cuv⟩ := fR (a := r.2) hq.pos
 have up := iR hr.pos dp e1
 have vp := iR hq.pos dp e2
 obtain ⟨e, x, w, f0, ep, f1, f2, cxw⟩ := fR (a := r.1 * v + q.1 * u) dp
 have wp := iR dp ep f2
 have du : r.2 / d = u := by rw [e1]; exact Int.mul_ediv_cancel_left _ (by omega)
 have dv : q.2 / d = v := by rw [e2]; exact Int.mul_ediv_cancel_left _ (by omega)
 have te : (r.1 * v + q.1 * u) / e = x := by rw [f1]; exact Int.mul_ediv_cancel_left _ (by omega)
 have qe : q.2 / e = w * v := by rw [e2, f2, Int.mul_assoc]; exact Int.mul_ediv_cancel_left _ (by omega)
 have c1 : Int.gcd r.1 u = 1 := jY hr.cop ⟨d, by rw [e1, Int.mul_comm]⟩
 have c2 : Int.gcd q.1 v = 1 := jY hq.cop ⟨d, by rw [e2, Int.mul_comm]⟩
 have xd : x ∣ (r.1 * v + q.1 * u) := ⟨e, by rw [f1, Int.mul_comm]⟩
 have t1 : Int.gcd (r.1 * v + q.1 * u) u = 1 := by
  rw [Int.gcd_comm, Int.gcd_add_mul_right_right, Int.gcd_comm]
  exact mQ c1 (by rw [Int.gcd_comm]; exact cuv)
 have t2 : Int.gcd (r.1 * v + q.1 * u) v = 1 := by
  rw [Int.add_comm, Int.gcd_comm, Int.gcd_add_mul_right_right, Int.gcd_comm]
  exact mQ c2 cuv
 have cx : Int.gcd x (u * (w * v)) = 1 := lD (i9 t1 xd) (lD cxw (i9 t2 xd))
 have z : mE r q = (x, u * (w * v)) := by
  unfold mE
  simp only [e0, du, dv, f0, te, qe]
 rw [z]
 unfold bu
 refine (fB (Int.mul_pos hr.pos hq.pos) (Int.mul_pos up (Int.mul_pos wp vp)) cx ?_).symm
 have k : r.1 * q.2 + q.1 * r.2 = d * (e * x) := by
  rw [e1, e2, ← f1, Int.mul_add]
  rw [Int.mul_left_comm r.1 d v, Int.mul_left_comm q.1 d u]
 rw [k, e1, e2]
 have k2 : d * u * (d * v) = d * u * (e * w * v) := by rw [← f2]
 rw [k2]
 ac_rfl
def Bb (r q : R) : R :=
 let l : Int := (Int.gcd r.1 q.2 : Nat)
 let m : Int := (Int.gcd q.1 r.2 : Nat)
 (r.1 / l * (q.1 / m), r.2 / m * (q.2 / l))
end B
namespace B
open PySem L2 PyProof.Rows
def CD (_ j : Int) : Prop := j ≠ 0 /\ j.natAbs < 2 ^ 4000
def Dg (a b : Int) : R := if b < 0 then cy (-a) (-b) else cy a b
def cI (r q : R) : R := cy (r.1 * q.2 - q.1 * r.2) (r.2 * q.2)
def zZ (r q : R) : R := Dg (r.1 * q.2) (r.2 * q.1)
structure Au (d : PyData) : Prop where
 sh : d.showable = true
 nd : d.hasDict = false
 sz : d.shown.length ≤ 5000
 dp : d.depth ≤ 8
theorem mh {r : R} {n : Nat} (h : Wf n r) (hn : n ≤ 1900) : Au (dR r) where
 sh := (tT h hn).sh
 nd := rfl
 sz := by
  have a := i5 h.top hn
  have b := i5 h.bot hn
  have q := tupleText_len_le [(PyData.int r.1).shown, (PyData.int r.2).shown]
  have e : (dR r).shown = tupleText [(PyData.int r.1).shown, (PyData.int r.2).shown] := rfl
  rw [e]
  simp only [List.map_cons, List.map_nil, List.sum_cons, List.sum_nil, List.length_cons, List.length_nil] at q
  omega
 dp := by show max 0 (max 0 0) + 1 ≤ 8; decide
end B
namespace B
theorem jU {a b : Int} (hb : 0 < b) : (cy a b).1 * b = a * (cy a b).2 := by
 obtain ⟨g, x, y, _, gp, e1, e2, c⟩ := fR (a := a) hb
 have yp := iR hb gp e2
 have e : x * b = a * y := by rw [e1, e2]; ac_rfl
 rw [fB hb yp c e]
 exact e
theorem gA (r q : R) : bu r (-q.1, q.2) = cI r q := by
 unfold bu cI
 rw [Int.neg_mul, ← Int.sub_eq_add_neg]
end B
namespace B
open PySem PySem.Spec L2 PyProof.Rows
section
variable {prog : Program} {w : World} {A : Around} {E : cS} {h : Heap} {g : Array GenState} {d : Drawn} {t : Nat} {os : OsState} {K : Fg}
variable {nm q : Str} {C N : Addr} {bs bm bmB : List Value} {hdct : Bool} {sn : List Str} {sub : List Value} {ab : Bool} {col : Option Bool} {dd : Option Addr} {k0 k1 k2 k3 k5 : Option Value} {bN newId initId : String}
theorem lj (F : ExcBaseFacts bN newId initId bmB) (T : OwnTail h bmB bm) {cT : List Value} {fI : Addr} {Q : Fin -> Shared -> Prop} (X : K.In h)
  (hC : h.get? C = some (excClassObj nm q C N bs bm hdct sn sub ab col dd k0 k1 k2 k3 k5 newId)) (hi : PySem.W.findIn K (.ref C) "__init__" = some (some (.ref fI))) (hf : PySem.W.typeIn K (.ref fI) = some (.type "function"))
  (hq : ∀ h' e, Heap.MadeExcOf h h' e (.ref C) cT -> wpAny (model prog w) A (call (.ref fI) (.ref e :: cT)) (fun r s' => r = .none /\ Q (.done (.ret (.ref e))) s') E ⟨h', g, d, t, os⟩) (hz : cT.length ≤ sizeLine) :
  wpAny (model prog w) A (Builtin.«type.__call__» ⟨.ref C :: cT, []⟩) Q E ⟨h, g, d, t, os⟩ := by
 repeat (first
  | with_reducible refine wpAny_loadPart_at hC ?_
  | with_reducible refine wpAny_madeBy_exc hC ?_
  | wp_step)
 refine codeAny_call_builtin_code (Code.quiet_builtin _ F.quiet)
  (wpAny_check_new_subT F T hC ?_)
 refine codeAny_exc_new_subT F T hC ?_ hz
 show wpAny _ _ _ _ _ _
 have up : ∀ b o, h.get? b = some o -> ((h.push { cls := .type "tuple", data := .seq cT.toArray }).push
   { cls := .ref C, data := .fields #[.ref h.objs.size, .none, .none, .none, .bool false, .none] }).get? b = some o := fun b o e =>
  Heap.get?_push_of_some _ (Heap.get?_push_of_some _ e)
 have hC₁ := up _ _ hC
 have X₁ := X.keeps up
 have hx : ((h.push { cls := .type "tuple", data := .seq cT.toArray }).push
   { cls := .ref C, data := .fields #[.ref h.objs.size, .none, .none, .none, .bool false, .none] }).get? (h.objs.size + 1) =
   some { cls := .ref C, data := .fields #[.ref h.objs.size, .none, .none, .none, .bool false, .none] } := by heap_get
 have hcC : (Value.ref C :: bm).contains (.ref C) = true := by simp
 unfold isInstance
 repeat (first
  | with_reducible refine wpAny_loadPart_at hx ?_
  | (with_reducible refine wpAny_isSubtype_exc hC₁ ?_
     rw [hcC])
  | wp_step)
 show wpAny _ _ (typeLookup (.ref C) _) _ _ _
 refine (PySem.W.looks_findIn X₁ hi) _ _ _ _ (fun _ _ e => e) ?_
 refine wpAny_holding (wpAny_bind ?_)
 refine (PySem.W.bind_fn X₁ _ hf) _ _ _ _ (fun _ _ e => e) ?_
 refine wpAny_bind (wpAny_mono (hq _ (h.objs.size + 1)
  ⟨up, Heap.get?_none_of_le (Nat.le_succ _), h.objs.size, hx, Heap.get?_none_of_le (Nat.le_refl _), ?_⟩) (fun r s' hr => ?_) fun _ _ y => y)
 ·exact Heap.get?_push_of_some _ (Heap.get?_push_at rfl rfl)
 ·obtain ⟨rfl, hQ⟩ := hr
  wp_walk
  exact hQ
theorem tM (F : ExcBaseFacts bN newId initId bmB) (T : OwnTail h bmB bm) {cT : List Value} {fI : Addr} {Q : cS} (X : K.In h)
  (hC : h.get? C = some (excClassObj nm q C N bs bm hdct sn sub ab col dd k0 k1 k2 k3 k5 newId)) (hi : PySem.W.findIn K (.ref C) "__init__" = some (some (.ref fI))) (hf : PySem.W.typeIn K (.ref fI) = some (.type "function"))
  (hq : ∀ h' e, Heap.MadeExcOf h h' e (.ref C) cT -> wpAny (model prog w) (A.under (.builtin "type.__call__" ⟨.ref C :: cT, []⟩)) (call (.ref fI) (.ref e :: cT)) (fun r s' => r = .none /\ Q (.ref e) s') E ⟨h', g, d, t, os⟩) (hz : cT.length ≤ sizeLine) :
  wpAny (model prog w) A (call (.ref C) cT) Q E ⟨h, g, d, t, os⟩ := by
 have f1 := tc_lookup
 have f2 := tc_bind (.ref C)
 have hT : (⟨h, g, d, t, os⟩ : Shared).TypeIs (.ref C) "type" := ⟨_, hC, rfl⟩
 refine wpAny_call (codeAny_of_tree ?_)
 show wpAny _ _ (callAny (.ref C) _) _ _ _
 repeat (any_goals (first
  | assumption
  | with_reducible refine wpAny_loadPart_at hC ?_
  | wp_step))
 refine ⟨rfl, ?_⟩
 refine codeAny_call_builtin_at (Code.quiet_builtin _ (by decide +kernel)) entry_typeCall
  (wpAny_check_type_call_sub hC (lj F T X hC hi hf (fun h' e hm => ?_) hz))
 exact hq h' e hm
end
def iz : List Value := [.type "ValueError", .type "Exception", .type "BaseException", .type "object"]
structure gj (K : Fg) (C : Addr) (bm : List Value) : Prop where
 ob : ∃ nm q N bs hdct sn sub ab col dd k0 k1 k2 k3 k5, K.lookup C = some (excClassObj nm q C N bs bm hdct sn sub ab col dd k0 k1 k2 k3 k5 "ValueError.__new__")
 tl : ∀ h : Heap, K.In h -> OwnTail h iz bm
 hd : PySem.W.hasDictIn K C = true
 sa : PySem.W.findIn K (.ref C) "__setattr__" = some (some (.builtin "object.__setattr__"))
theorem ve {h : Heap} {tl : List Value} (T : OwnTail h iz tl) (self : Value) : refuseLoop self "__setattr__" tl = pure () := by
 induction T with
 | base => exact PySem.F.store_ValueError.passes self
 | own _ _ _ _ ih => rw [refuseLoop_ref]; exact ih
theorem ja {K : Fg} {C : Addr} {bm : List Value} (c : gj K C bm) : ∃ cd, PySem.W.clsIn K C = some cd /\ cd.mro = .ref C :: bm := by
 obtain ⟨nm, q, N, bs, hdct, sn, sub, ab, col, dd, k0, k1, k2, k3, k5, lk⟩ := c.ob
 unfold PySem.W.clsIn
 rw [lk]
 exact ⟨_, rfl, rfl⟩
section
variable {prog : Program} {w : World} {A : Around} {s : Shared} {K : Fg} {x C : Addr} {R : Result -> Shared -> Prop}
theorem jn {ox : Obj} {od : Option Obj} {name : Str} {tk : Tok} {v : Value} {bm : List Value} (X : K.In s.heap) (I : PySem.W.InstAt s.heap x ox C od) (c : gj K C bm) (n : eR K C name)
  (h : ∀ b, wpAny (model prog w) A.in1 (Builtin.ObjectAttr.storeInOwnDict (.ref x) (.ref C) (.str name tk) name v b) (fun fin s' => match fin with
   | .done f => R (.ok f) s'
   | .again c' => c'.quiet = true /\ codeAny (model prog w) A c' R s') (fun e s' => R (.error e) s') s) :
  codeAny (model prog w) A (.call (.builtin "object.__setattr__") ⟨[.ref x, .str name tk, v], []⟩) R s := by
 have sf := PySem.F.store_object
 obtain ⟨cd, hc, hm⟩ := ja c
 have T := c.tl _ X
 have hob : (Value.ref C :: bm).contains (.type "object") = true := by
  rw [List.contains_cons, T.hasType (X := "object") (b := true) (by decide +kernel), Bool.or_true]
 have isO : PySem.W.Looks (model prog w) s.heap (isInstance (.ref x) (.type "object")) true := by
  refine I.type.andThen (PySem.W.looks_mroIn X ?_)
  unfold PySem.W.mroIn
  rw [hc]
  show (if cd.mro.isEmpty = true then none else some (cd.mro.contains (.type "object"))) = some true
  rw [hm, hob]; rfl
 have ms : PySem.W.Looks (model prog w) s.heap (mroOf (.ref C)) (.ref C :: bm) := by
  rw [← hm]; exact (PySem.W.looks_clsIn X hc).andThen .now
 refine codeAny_call_builtin sf.slot.plain sf.entry (PySem.W.check_slot (i := "object.__setattr__") (owner := "object") (n := "__setattr__") sf.kind sf.split isO (sf.args _ _ _) ?_)
 rw [PySem.W.osa_eq, refuse_eq]
 refine wpAny_bind (wpAny_bind (I.type.here (wpAny_bind (ms.here ?_))))
 rw [refuseLoop_ref, ve T]
 refine wpAny_pure (wpAny_bind (I.type.here (wpAny_bind ((PySem.W.looks_findIn X n).here (wpAny_bind ?_)))))
 exact PySem.W.Looks.here (r := none) .now (h _)
end
def Ax (a C : Addr) (dx : Option Addr) : Heap -> Prop := fun h => ∃ t : Addr, h.get? a = some { cls := .ref C, dict := dx, data := .fields #[.ref t, .none, .none, .none, .bool false, .none] }
def gP (a C : Addr) (dx : Option Addr) : HO := .ext (Ax a C dx)
theorem tN {P : Program} {w : World} {H : Hp} {h : Heap} {a C : Addr} {dx : Option Addr} (e : Ax a C dx h) : ObjOk P w H h a (gP a C dx) :=
 ⟨e, let ⟨_, q⟩ := e; ⟨_, q⟩, fun _ _ ⟨t, q⟩ k => ⟨t, k _ q⟩⟩
def oX (H : Hp) (a : Addr) : Hp := fun b => if b = a then none else H b
theorem fJ {H : Hp} {a : Addr} : oX H a a = none := by unfold oX; rw [if_pos rfl]
theorem gh {H : Hp} {a b : Addr} (h : b ≠ a) : oX H a b = H b := by unfold oX; rw [if_neg h]
section
variable {X : Cx} {pins : bL} {σ : L2.St} {H : Hp} {s : Shared} {a C : Addr} {dx : Option Addr}
theorem Inv.forget {φ : Heap -> Prop} (I : L2.Inv X pins σ H s) (e : H a = some (.ext φ)) (new : X.s₀.heap.get? a = none) : L2.Inv X pins σ (oX H a) s := by
 have none_of : ∀ b, H b = none -> oX H a b = none := fun b h => by
  by_cases z : b = a
  ·rw [z]; exact fJ
  ·rw [gh z]; exact h
 refine ⟨I.ok, I.os, I.bare, ⟨I.base.keep, I.base.slot, fun b o q n hx => none_of b (I.base.free b o q n hx), I.base.there, fun b xs q => ?_, fun b o u q => ?_, fun b ps q => ?_⟩, I.loc, I.cell, none_of _ I.free, fun x c q => none_of _ (I.freeC x c q), fun p hp => ?_, fun b o q => ?_, I.len⟩
 ·have z := I.base.tups b xs q
  rw [gh (fun k => by rw [k, e] at z; cases z)]; exact z
 ·have z := I.base.frzs b o u q
  rw [gh (fun k => by rw [k, e] at z; cases z)]; exact z
 ·obtain ⟨m, z⟩ := I.base.tbls b ps q
  exact ⟨m, by rw [gh (fun k => by rw [k, e] at z; cases z)]; exact z⟩
 ·obtain ⟨p1, p2, p3⟩ := I.pin p hp
  exact ⟨p1, none_of _ p2, p3⟩
 ·have nb : b ≠ a := fun z => by rw [z, fJ] at q; cases q
  rw [gh nb] at q
  refine (I.hok b o q).stay (fun c u _ z => z) (fun c z => ?_) (fun c xs z => ?_)
  ·rw [gh (fun k => by rw [k, e] at z; cases z)]; exact z
  ·rw [gh (fun k => by rw [k, e] at z; cases z)]; exact z
end
theorem ObjOk.get {P : Program} {w : World} {H : Hp} {h : Heap} {a : Addr} {o : HO} (x : L2.ObjOk P w H h a o) : ∃ u, h.get? a = some u := by
 cases o with
 | lst xs => obtain ⟨_, _, _, _, e⟩ := x; exact ⟨_, e⟩
 | tup xs => obtain ⟨_, _, _, o, e, _⟩ := x; exact ⟨_, e⟩
 | dK kvs => obtain ⟨_, _, _, _, o, _, _, e, _⟩ := x; exact ⟨_, e⟩
 | dT kvs => obtain ⟨_, _, _, _, o, _, _, e, _⟩ := x; exact ⟨_, e⟩
 | set S n => obtain ⟨o, _, _, _, e, _⟩ := x; exact ⟨_, e⟩
 | ins C dx fs => obtain ⟨_, _, _, e, _⟩ := x; exact ⟨_, e⟩
 | own y => exact x
 | xd fs => obtain ⟨_, ⟨_, _, _, e, _⟩, _⟩ := x; exact ⟨_, e⟩
 | rng lo hi => obtain ⟨_, _, _, e⟩ := x; exact ⟨_, e⟩
 | frz ob u => obtain ⟨e, _⟩ := x; exact ⟨_, e⟩
 | tbl ps => exact ⟨_, show h.get? a = some _ from x⟩
 | met f y => exact ⟨_, show h.get? a = some _ from x⟩
 | ext φ => exact x.2.1
def Cy (h : Heap) (H : Hp) (x C T : Addr) (a0 : Value) : Prop :=
 ∃ oe vs oT ts, h.get? x = some oe /\ oe.cls = .ref C /\ vs[0]? = some a0 /\ oe.data = .fields vs /\ vs[1]? = some (.ref T) /\ H T = none /\ T ≠ x /\ h.get? T = some oT /\ oT.data = .fields ts /\ ts[3]? = some .none
def D7 (P : Program) (w : World) : lJ := fun outer H s E e s' => ∃ (x C T : Addr) (a0 : Value) (H' : Hp), e = .ref x /\ s'.os = s.os /\ AllBare s'.gens /\ Un (jg outer) [] H H' s.heap s'.heap /\ h7 P w H' s'.heap /\ s.heap.get? x = none /\ s.heap.get? T = none /\ H' x = none ∧
 Cy s'.heap H' x C T a0 /\ E (.ref C) none H'
structure dX (X : Cx) (pins : bL) (a : Addr) : Prop where
 st : X.s₀.heap.get? a = none
 lo : a ≠ X.env.locals
 ce : ∀ x c, X.env.cells.lookup x = some c -> c ≠ a
 pi : ∀ p ∈ X.pn ++ pins, p.1 ≠ a
 fr : a ∉ jg X.stack
section
variable {X : Cx} {pins : bL} {σ : L2.St} {H H' : Hp} {s : Shared} {a : Addr}
theorem Inv.newAt (I : L2.Inv X pins σ H s) (hex : X.ex = []) (h : s.heap.get? a = none) : dX X pins a where
 st := by
  cases e : X.s₀.heap.get? a with
  | none => rfl
  | some o =>
   obtain ⟨o', q⟩ := I.base.there a o e (by rw [hex]; simp)
   rw [h] at q; cases q
 lo := fun z => by
  obtain ⟨m, ⟨o, _, _, q, _⟩, _⟩ := I.loc
  rw [← z, h] at q; cases q
 ce := fun x c e z => by
  obtain ⟨v, o, q, _⟩ := I.cell x c e
  rw [z, h] at q; cases q
 pi := fun p hp z => by
  obtain ⟨q, _⟩ := I.pin p hp
  rw [z, h] at q; cases q
 fr := fun z => by
  obtain ⟨_, o, q, _⟩ := I.stack.mem z
  rw [h] at q; cases q
end
section
variable {X : Cx} {pins : bL} {σ : L2.St} {H : Hp} {s : Shared} {a : Addr} {o : HO}
theorem Inv.adopt (I : L2.Inv X pins σ H s) (na : dX X pins a) (ha : H a = none) (hex : X.ex = []) (new : L2.ObjOk X.prog X.w (upd H a o) s.heap a o) : L2.Inv X pins σ (upd H a o) s := by
 have keep : ∀ b u, H b = some u -> upd H a o b = some u := fun b u q => by rw [aC (aQ q ha)]; exact q
 have nn : ∀ b, b ≠ a -> H b = none -> upd H a o b = none := fun b nb q => by rw [aC nb]; exact q
 refine ⟨I.ok, I.os, I.bare, ⟨I.base.keep, I.base.slot, fun b u q n hx => nn b (fun z => by rw [z, na.st] at q; cases q) (I.base.free b u q n hx), I.base.there, fun b xs q => keep _ _ (I.base.tups b xs q), fun b u v q => keep _ _ (I.base.frzs b u v q), fun b ps q => ?_⟩, I.loc, I.cell, nn _ na.lo.symm I.free, fun x c q => nn _ (na.ce x c q) (I.freeC x c q), fun p hp => ?_, fun b u q => ?_, I.len⟩
 ·obtain ⟨m, z⟩ := I.base.tbls b ps q
  exact ⟨m, keep _ _ z⟩
 ·obtain ⟨p1, p2, p3⟩ := I.pin p hp
  exact ⟨p1, nn _ (na.pi p hp) p2, p3⟩
 ·by_cases z : b = a
  ·subst z
   rw [ah] at q; cases q
   exact new
  ·rw [aC z] at q
   exact (I.hok b u q).stay (fun c v _ w => w) (fun c w => keep _ _ w) (fun c xs w => keep _ _ w)
theorem Inv.none_of (I : L2.Inv X pins σ H s) (h : s.heap.get? a = none) : H a = none := by
 cases q : H a with
 | none => rfl
 | some o => obtain ⟨u, z⟩ := ObjOk.get (I.hok a o q); rw [h] at z; cases z
end
structure XC (K : Fg) (C f : Addr) (bm : List Value) : Prop where
 ob : ∃ nm q N bs hdct sn sub ab col dd k0 k1 k2 k3 k5, K.lookup C = some (excClassObj nm q C N bs bm hdct sn sub ab col dd k0 k1 k2 k3 k5 "ValueError.__new__")
 tl : ∀ h : Heap, K.In h -> OwnTail h iz bm
 init : PySem.W.findIn K (.ref C) "__init__" = some (some (.ref f))
 fn : PySem.W.typeIn K (.ref f) = some (.type "function")
 kp : PySem.W.keepIn K (.ref C) = true
 cl : gj K C bm
section
variable {X : Cx} {k : Nat} {f C : Addr} {fd : FuncData} {ps : List Str} {sp : Sp} {bm : List Value}
theorem uv {pins : bL} {σ : L2.St} {H : Hp} {s : Shared} {Q : Addr -> Hp -> Prop} {us : List Value} {vs : List V} {E' : cS} (M : XC X.K C f bm) (hex : X.ex = []) (F : bB X.prog X.w X.K X.mg X.base dI k f fd ps sp) (hr : cQ (k + 1) X.A) (hb : aZ X.K fd ps [])
  (I : L2.Inv X pins σ H s) (r : aW vs us) (hz : us.length ≤ sizeLine) (h : ∀ a, H a = none -> sp (.ref a :: vs) (upd H a (gP a C none)) (fun v H2 => v = .non /\ Q a H2) E0) :
  wpAny (model X.prog X.w) X.A (call (.ref C) us) (fun v s' => ∃ a H', v = .ref a /\ dX X pins a /\ L2.Inv X pins σ H' s' /\ Q a H') E' s := by
 obtain ⟨nm, q, N, bs, hdct, sn, sub, ab, col, dd, k0, k1, k2, k3, k5, lk⟩ := M.ob
 obtain ⟨hp, g, d, t, os⟩ := s
 refine tM PySem.F.excBase_ValueError (M.tl hp I.kIn) I.kIn (I.kIn _ _ lk) M.init M.fn (fun h' e hm => ?_) hz
 have na := B.Inv.newAt I hex hm.new
 have he := B.Inv.none_of I hm.new
 obtain ⟨tt, ho, _⟩ := hm.there
 have I1 : L2.Inv X pins σ H ⟨h', g, d, t, os⟩ := I.kept (t' := t) hm.keeps
 have I2 : L2.Inv X pins σ (upd H e (gP e C none)) ⟨h', g, d, t, os⟩ := B.Inv.adopt I1 na he hex (tN ⟨tt, ho⟩)
 have hq := h e he
 have r2 : aW (V.ref e :: vs) (Value.ref e :: us) := .cons rfl r
 have hl : (Value.ref e :: us).length = ps.length := by
  have z := r2.length
  rw [F.len _ _ _ _ hq] at z
  exact z.symm
 have hbd := hb ⟨h', g, d, t, os⟩ (Value.ref e :: us) I2.kIn (by rw [List.append_nil]; exact hl)
 rw [List.append_nil] at hbd
 refine wpAny_call (codeAny_mono (F.run _ X.stack _ _ ⟨Value.ref e :: us, []⟩ (Value.ref e :: us) _ _ E0 (hr.make C us []) (I2.env0.make C us []) hbd r2 hq) fun r s' hq' => ?_)
 cases r with
 | error e => exact False.elim hq'
 | ok fl =>
  cases fl with
  | ret u =>
   obtain ⟨v, H', I3, rv, ev, q3⟩ := I2.after hq'
   subst ev
   exact ⟨rv, e, H', rfl, na, I3, q3⟩
  | next => exact False.elim hq'
  | brk => exact False.elim hq'
  | cont => exact False.elim hq'
def Cz (X : Cx) (E : XK) : Prop := ∀ (pins : bL) (σ : L2.St) (H : Hp) (s : Shared) (a C : Addr) (oe : Obj) (vs : Array Value) (a0 : Value), L2.Inv X pins σ H s -> H a = none -> dX X pins a -> s.heap.get? a = some oe -> oe.data = .fields vs →
 vs[0]? = some a0 -> vs[1]? = some .none -> oe.cls = .ref C -> E (.ref C) none H -> X.xe (.ref a) s
theorem p8 {M : Model} {A : Around} {E : cS} {env : Env} {nm q : Str} {N : Addr} {bs : List Value} {hdct : Bool} {sn : List Str} {sub : List Value} {ab : Bool} {col : Option Bool} {dd : Option Addr} {k0 k1 k2 k3 k5 : Option Value} {newId : String}
  {s : Shared} {x : Sem Value} {Q : Flow -> Shared -> Prop} (hbase : bm.contains (.type "BaseException") = true) (hh : A.handled = none)
  (h : wpAny M A x (fun v s₁ => ∃ e t dx, v = .ref e /\ s₁.heap.get? C = some (excClassObj nm q C N bs bm hdct sn sub ab col dd k0 k1 k2 k3 k5 newId) ∧
   s₁.heap.get? e = some { cls := .ref C, dict := dx, data := .fields #[.ref t, .none, .none, .none, .bool false, .none] } /\ E (.ref e) s₁) E s) :
  wpAny M A (raiseStmt env (some x) none) Q E s := by
 have hcB : (Value.ref C :: bm).contains (.type "BaseException") = true := by rw [List.contains_cons, hbase, Bool.or_true]
 unfold raiseStmt
 refine wpAny_bind (wpAny_mono h (fun v s₁ h₁ => ?_) fun _ _ y => y)
 obtain ⟨e, t, dx, rfl, hC, he, hE⟩ := h₁
 obtain ⟨hp, g, d, tk, os⟩ := s₁
 repeat (first
  | with_reducible refine wpAny_loadPart_at he ?_
  | with_reducible refine wpAny_loadPart_at hC ?_
  | (with_reducible refine wpAny_isSubtype_exc hC ?_
     rw [hcB])
  | wp_step)
 exact wpAny_raiseNew_none hh hE
def Bc (C : Addr) (sp : Sp) (E : XK) (t : TA) : TS := fun _ σ H => t σ H fun vs H1 => vs.length ≤ sizeLine /\ ∀ a, H1 a = none -> sp (.ref a :: vs) (upd H1 a (gP a C none)) (fun v H2 => v = .non /\ (∃ dx, H2 a = some (gP a C dx)) /\ E (.ref C) none (oX H2 a)) E0
end
section
variable {X : Cx} {pins : bL} {σ : L2.St} {H : Hp} {s : Shared} {a C T : Addr} {a0 : Value}
end
def vY (N : List Str) : L2.St := List.replicate N.length none
theorem tI {X : Cx} {pins : bL} {σ : L2.St} {H : Hp} {s : Shared} (I : L2.Inv X pins σ H s) : L2.Inv X pins (vY X.N) H s :=
 I.weak (by rw [I.len]; exact List.length_replicate) fun i v q => by
  unfold vY at q
  rw [List.getElem?_replicate] at q
  split at q <;> cases q
def DB (X : Cx) (pins : bL) (R : Addr -> Hp -> Prop) : cS := fun e s => ∃ (x C T : Addr) (a0 : Value) (H : Hp), e = .ref x /\ L2.Inv X pins (vY X.N) H s /\ H x = none /\ dX X pins x /\ dX X pins T /\ Cy s.heap H x C T a0 /\ R C H
def Cq (X : Cx) (pins : bL) (R : Addr -> Hp -> Prop) : Cx := { X with pn := X.pn ++ pins, xe := DB X pins R }
def jX (X : Cx) (e : Addr) : Cx := { X with A := X.A.mark (some (.ref e)), calm := false, xe := fun _ _ => False }
section
variable {X : Cx} {pins pins' : bL} {σ : L2.St} {H : Hp} {s : Shared} {R : Addr -> Hp -> Prop} {e : Addr}
theorem vG (I : L2.Inv X pins σ H s) : L2.Inv (jX X e) pins σ H s :=
 ⟨⟨I.ok.mod, I.ok.kind, I.ok.glob, I.ok.blt, I.ok.above, I.ok.inj, I.ok.has, I.ok.cab, (fun z => nomatch z), I.ok.frames, I.ok.stk, I.ok.exf, I.ok.bs, I.ok.bsz, I.ok.noex, I.ok.exfs, I.ok.funs, I.ok.frf⟩, I.os, I.bare, I.base, I.loc, I.cell, I.free, I.freeC, I.pin, I.hok, I.len⟩
theorem oG (ok : X.Ok) (I : L2.Inv (jX X e) pins σ H s) : L2.Inv X pins σ H s :=
 ⟨ok, I.os, I.bare, I.base, I.loc, I.cell, I.free, I.freeC, I.pin, I.hok, I.len⟩
end
def CM (N : List Str) (R : Addr -> Hp -> Prop) (Ok : Addr -> Prop) (tb : TS) (th : TS) : TS := fun D σ H => tb D σ H /\ ∀ C H', R C H' -> Ok C /\ th D (vY N) H'
section
variable {X : Cx} {R : Addr -> Hp -> Prop} {body : List Stmt} {b₀ : Stmt} {suite : List Stmt} {x : Str} {p hpos pos : Pos} {u : Value} {tb th : TS}
end
section
variable {X : Cx} {o value : Expr} {f : Str} {ta tv : TE} {pos' pos : Pos}
def Cc (K : Fg) (ta tv : TE) (f : Str) : TS := fun D σ H => tv σ H fun _ H1 => ta σ H1 fun x H2 => ∃ a C bm, x = .ref a /\ H2 a = some (gP a C none) /\ gj K C bm /\ eR K C f /\ ∀ d, D.nx σ (upd H2 a (gP a C (some d)))
end
def DD (R : Addr -> Hp -> Prop) : XK := fun v _ H => ∃ C, v = .ref C /\ R C H
theorem wb (a : Addr) : (Value.ref a :: iz).contains (.type "BaseException") = true := by rw [List.contains_cons, (by decide +kernel : iz.contains (.type "BaseException") = true), Bool.or_true]
def iC (es : Array DictEntry) : Bool := es.toList.all fun e => match e.key with
 | .str _ _ => true
 | _ => false
theorem nc {es : Array DictEntry} (h : iC es = true) : StrKeys es := fun e he => by
 have z := List.all_eq_true.mp h e (Array.mem_toList_iff.mpr he)
 revert z
 cases e.key <;> intro z <;> first | exact ⟨_, _, rfl⟩ | (cases z)
theorem yZ {K : Fg} {C f B0 NB : Addr} {nm q nmB qB : Str} {N : Addr} {bs bsB : List Value} {hdct hdctB : Bool} {sn snB : List Str} {sub subB : List Value} {ab abB : Bool} {col colB : Option Bool} {dd ddB : Option Addr} {k0 k1 k2 k3 k5 j0 j1 j2 j3 j5 : Option Value}
  {oc : Value} {od : Option Addr} {es : Array DictEntry} {n : Nat} {sl : Array (Option Value)}
  (lc : K.lookup C = some (excClassObj nm q C N bs (.ref B0 :: [.type "ValueError", .type "Exception", .type "BaseException", .type "object"]) hdct sn sub ab col dd k0 k1 k2 k3 k5 "ValueError.__new__"))
  (lb : K.lookup B0 = some (excClassObj nmB qB B0 NB bsB [.type "ValueError", .type "Exception", .type "BaseException", .type "object"] hdctB snB subB abB colB ddB j0 j1 j2 j3 j5 "ValueError.__new__"))
  (ln : K.lookup NB = some ⟨oc, od, .dict es n, sl⟩) (hs : iC es = true) (hn : (nsFind es "__init__").isNone = true)
  (fi : PySem.W.findIn K (.ref C) "__init__" = some (some (.ref f))) (ti : PySem.W.typeIn K (.ref f) = some (.type "function")) (kc : PySem.W.keepIn K (.ref C) = true) (hh : PySem.W.hasDictIn K C = true) (sa : PySem.W.findIn K (.ref C) "__setattr__" = some (some (.builtin "object.__setattr__"))) : XC K C f (.ref B0 :: iz) :=
 have ob : ∃ nm q N bs hdct sn sub ab col dd k0 k1 k2 k3 k5, K.lookup C = some (excClassObj nm q C N bs (.ref B0 :: iz) hdct sn sub ab col dd k0 k1 k2 k3 k5 "ValueError.__new__") := ⟨_, _, _, _, _, _, _, _, _, _, _, _, _, _, _, lc⟩
 have tl : ∀ h : Heap, K.In h -> OwnTail h iz (.ref B0 :: iz) := fun h X => .own (X _ _ lb) ⟨_, es, n, X _ _ ln, rfl, nc hs, fun _ => rfl⟩ (Option.isNone_iff_eq_none.mp hn) .base
 ⟨ob, tl, fi, ti, kc, ob, tl, hh, sa⟩
structure n4 (K : Fg) (C : Addr) : Prop where
 ga : PySem.W.findIn K (.ref C) "__getattribute__" = some (some (.builtin "BaseException.__getattribute__"))
 gn : PySem.W.findIn K (.ref C) "__getattr__" = some none
 cl : PySem.W.findIn K (.ref C) "__class__" = some (some (.builtin "object.__class__"))
 cg : PySem.W.specialIn K (.builtin "object.__class__") "__get__" = some (some (.builtin "getset_descriptor.__get__"))
 ct : PySem.W.takesIn K (.builtin "object.__class__") = some true
section
variable {prog : Program} {w : World} {A : Around} {E : cS} {s : Shared} {K : Fg} {x C : Addr} {ox : Obj} {odo : Option Obj} {bm : List Value} {name : Str} {tk : Tok} {R : Result -> Shared -> Prop}
theorem mM {fill ex : Bool} {Q : cS} (X : K.In s.heap) (I : PySem.W.InstAt s.heap x ox C odo) (g : n4 K C)
  (h : codeAny (model prog w) A (.call (.builtin "BaseException.__getattribute__") ⟨[.ref x, .str name tk], []⟩) (fun r s' => ∃ v, r = .ok (.ret v) /\ PySem.W.handedIn v = true /\ Q v s') s) :
  wpAny (model prog w) A (getAttrBy (.ref x) (.str name tk) fill ex) Q E s := by
 have FB := PySem.F.attrBase_ValueError
 unfold getAttrBy
 refine wpAny_holding (wpAny_bind (I.type.here (wpAny_bind ((PySem.W.looks_findIn X g.ga).here ?_))))
 have e2 : (Value.builtin "BaseException.__getattribute__" == Value.builtin "object.__getattribute__") = false := by decide +kernel
 dsimp only
 rw [e2, Bool.and_false, if_neg Bool.false_ne_true]
 unfold getAttrByItsOwn hookBefore
 rw [if_pos (show onTheHeap (Value.ref C) = true from rfl)]
 refine wpAny_bind ((PySem.W.looks_findIn X g.gn).here (wpAny_bind (wpAny_attempt (wpAny_holding ?_))))
 unfold callGetattribute
 rw [if_neg (by cases ex <;> decide)]
 unfold boundAndCalled
 rw [FB.ga.bind (.ref x)]
 refine wpAny_bind (wpAny_pure (wpAny_call (codeAny_mono h fun r s' hq => ?_)))
 obtain ⟨v, rfl, hh, q⟩ := hq
 exact PySem.W.handed_on hh q
theorem Dh {X : K.In s.heap} (I : PySem.W.InstAt s.heap x ox C odo) (c : gj K C bm) (T : String) (hT : iz.contains (.type T) = true) : PySem.W.Looks (model prog w) s.heap (isInstance (.ref x) (.type T)) true := by
 obtain ⟨cd, hc, hm⟩ := ja c
 have hob : (Value.ref C :: bm).contains (.type T) = true := by
  rw [List.contains_cons, (c.tl _ X).hasType (X := T) (b := true) hT, Bool.or_true]
 refine I.type.andThen (PySem.W.looks_mroIn X ?_)
 unfold PySem.W.mroIn
 rw [hc]
 show (if cd.mro.isEmpty = true then none else some (cd.mro.contains (.type T))) = some true
 rw [hm, hob]; rfl
theorem mN (X : K.In s.heap) (I : PySem.W.InstAt s.heap x ox C odo) (c : gj K C bm)
  (h : wpAny (model prog w) A.in1 (Builtin.«object.__getattribute__» ⟨[.ref x, .str name tk], []⟩) (fun fin s' => match fin with
   | .done f => R (.ok f) s'
   | .again c' => c'.quiet = true /\ codeAny (model prog w) A c' R s') (fun e s' => R (.error e) s') s) :
  codeAny (model prog w) A (.call (.builtin "BaseException.__getattribute__") ⟨[.ref x, .str name tk], []⟩) R s := by
 have FB := PySem.F.attrBase_ValueError
 exact codeAny_call_builtin FB.ga.plain PySem.F.entry_bexc_ga (PySem.W.check_slot (i := "BaseException.__getattribute__") (owner := "BaseException") (n := "__getattribute__") (by decide +kernel) (by decide +kernel) (Dh (X := X) I c "BaseException" (by decide +kernel)) (PySem.F.args_bexc_ga _ _) h)
theorem vj {v : Value} (X : K.In s.heap) (I : PySem.W.InstAt s.heap x ox C odo) (c : gj K C bm) (hf : PySem.W.findObj K C odo name = some (.value v)) (h : R (.ok (.ret v)) s) :
  codeAny (model prog w) A (.call (.builtin "BaseException.__getattribute__") ⟨[.ref x, .str name tk], []⟩) R s := by
 refine mN X I c ?_
 unfold Builtin.«object.__getattribute__»
 have L := PySem.W.looks_find (M := model prog w) X I hf
 refine wpAny_bind (wpAny_pure (wpAny_bind (wpAny_pure (wpAny_bind (I.type.here (wpAny_bind (L.here ?_)))))))
 exact wpAny_pure h
theorem qA {od : Obj} (X : K.In s.heap) (I : PySem.W.InstAt s.heap x ox C (some od)) (c : gj K C bm) (g : n4 K C) (h : R (.ok (.ret (.ref C))) s) :
  codeAny (model prog w) A (.call (.builtin "BaseException.__getattribute__") ⟨[.ref x, .str "__class__" tk], []⟩) R s := by
 refine mN X I c ?_
 unfold Builtin.«object.__getattribute__»
 obtain ⟨cd, hc, hm⟩ := ja c
 have hf := PySem.W.findObj_data (K := K) (C := C) (od := od) (name := "__class__") (by rw [hc]; rfl) g.cl g.cg g.ct
 have L := PySem.W.looks_find (M := model prog w) X I hf
 have mo : PySem.W.mroIn K C (.type "object") = some true := by
  unfold PySem.W.mroIn
  rw [hc]
  show (if cd.mro.isEmpty = true then none else some (cd.mro.contains (.type "object"))) = some true
  rw [hm, List.contains_cons, (c.tl _ X).hasType (X := "object") (b := true) (by decide +kernel), Bool.or_true]; rfl
 refine wpAny_bind (wpAny_pure (wpAny_bind (wpAny_pure (wpAny_bind (I.type.here (wpAny_bind (L.here ?_)))))))
 show wpAny _ _ (holding [Value.builtin "object.__class__"] (call (.builtin "getset_descriptor.__get__") [.builtin "object.__class__", .ref x, .ref C]) >>= ret) _ _ _
 exact wpAny_bind (wpAny_holding (wpAny_call (PySem.W.class_get X I mo (wpAny_pure h))))
end
section
variable {K : Fg} {x C : Addr} {ox od : Obj} {bm : List Value}
theorem i7 (c : gj K C bm) (g : n4 K C) : PySem.W.KitX K (.ref x) (.ref C) (fun h => PySem.W.InstAt h x ox C (some od)) where
 ty := fun _ _ _ I => I.type
 it := fun _ _ X _ => by
  obtain ⟨nm, q, N, bs, hdct, sn, sub, ab, col, dd, k0, k1, k2, k3, k5, lk⟩ := c.ob
  intro A' Q' E' s' k q
  unfold isType loadHead
  exact wpAny_bind (wpAny_loadPart (k _ _ (X _ _ lk)) (wpAny_pure q))
 ne := fun h tp dd its n sl X htp => by
  obtain ⟨nm, q, N, bs, hdct, sn, sub, ab, col, dd', k0, k1, k2, k3, k5, lk⟩ := c.ob
  refine Bool.eq_false_iff.mpr fun z => ?_
  have e : C = tp := Value.ref.inj (beq_iff_eq.mp z)
  subst e
  have z2 := congrArg Obj.cls (Option.some.inj ((X _ _ lk).symm.trans htp))
  exact absurd (show Value.type "type" = Value.type "tuple" from z2) (by decide +kernel)
 ca := fun {prog w A E Q s} X I k => by
  unfold getAttr? getAttrBy?
  refine wpAny_bind (wpAny_mkText (wpAny_bind (wpAny_attempt ?_)))
  exact mM (s := { s with toks := s.toks + 1 }) X I g (qA (s := { s with toks := s.toks + 1 }) X I c g ⟨_, rfl, rfl, wpAny_pure k⟩)
end
structure fL (S ch : List Addr) (h h' : Heap) : Prop where
 same : ∀ b o, b ∉ S -> b ∉ ch -> h.get? b = some o -> h'.get? b = some o
 slot : ∀ b o, b ∉ ch -> h.get? b = some o -> ∃ sl, h'.get? b = some { o with slots := sl }
theorem fL.trans {S c1 c2 : List Addr} {h h1 h2 : Heap} (a : fL S c1 h h1) (b : fL S c2 h1 h2) : fL S (c1 ++ c2) h h2 where
 same := fun x o n1 n2 q => b.same x o n1 (fun z => n2 (List.mem_append_right _ z)) (a.same x o n1 (fun z => n2 (List.mem_append_left _ z)) q)
 slot := fun x o n2 q => by
  obtain ⟨sl, z⟩ := a.slot x o (fun z => n2 (List.mem_append_left _ z)) q
  obtain ⟨sl', z'⟩ := b.slot x _ (fun z => n2 (List.mem_append_right _ z)) z
  exact ⟨sl', z'⟩
theorem fL.upd {S : List Addr} {h : Heap} {T : Addr} {f : Obj -> Obj} : fL S [T] h (h.update T f) where
 same := fun b o _ n q => by rw [Heap.get?_update_other _ _ (fun z => n (by rw [z]; exact List.mem_singleton.mpr rfl))]; exact q
 slot := fun b o n q => ⟨o.slots, by rw [Heap.get?_update_other _ _ (fun z => n (by rw [z]; exact List.mem_singleton.mpr rfl))]; exact q⟩
def fX (h : Heap) (x C T : Addr) (dx : Option Addr) (fl : Value) : Prop :=
 ∃ oe vs oT ts, h.get? x = some oe /\ oe.cls = .ref C /\ oe.dict = dx /\ oe.data = .fields vs /\ vs[1]? = some (.ref T) /\ T ≠ x /\ h.get? T = some oT /\ oT.data = .fields ts /\ ts[3]? = some fl
section
variable {M : Model} {A : Around} {E : cS} {s : Shared} {base : Heap} {env : Env} {outer : List Env} {L e C T : Addr} {oe : Obj} {vs : Array Value} {dx : Option Addr} {fl : Value}
theorem qC (f : Array Value -> Array Value) (o : Obj) : (Obj.mapFields f o).dict = o.dict := by
 unfold Obj.mapFields; split <;> rfl
theorem tQ {hadNext : Bool} {head : Value} {Q : Unit -> Shared -> Prop} (hfr : A.frames = some (env :: outer)) (hl : s.heap.FunFrames base (env :: outer)) (hf : env.frame = some L)
  (he : s.heap.get? e = some oe) (hd : oe.data = .fields vs) (hsz : 1 < vs.size) (hc : oe.cls = .ref C) (hx : oe.dict = dx)
  (h : ∀ h' T, fL (jg (env :: outer)) [e] s.heap h' -> s.heap.get? T = none -> fX h' e C T dx (rawInt L) -> Q () { s with heap := h' }) :
  wpAny M A (do let a ← frameOf env; let pl ← entryPlaceOf L hadNext; let b ← EntryCells.newEntry head a .none (rawInt L) .none pl; setField (.ref e) 1 b) Q E s := by
 have hene : e ∉ jg (env :: outer) := fun hm => by
  obtain ⟨_, o, ho, hnf⟩ := hl.mem hm
  rw [he] at ho; cases ho; exact hnf vs hd
 refine wpAny_bind (wpAny_frameOf_fun hfr hl hf fun h1 s1 => wpAny_bind (wpAny_entryPlaceOf fun pl hpl => ?_))
 unfold EntryCells.newEntry newFields
 refine wpAny_bind (wpAny_newObj_type ?_ (hpl.sizeOk5 _ _ _ _ _))
 have he1 : h1.get? e = some oe := (s1.2.1 e hene).trans he
 generalize hob : ({ cls := .type "traceback", dict := none, data := .fields ([head, .ref L, .none, rawInt L, .none] ++ (if pl.isEmpty then List.replicate 6 Value.none else pl)).toArray } : Obj) = ob
 have he2 := Heap.get?_push_of_some (h := h1) ob he1
 refine wpAny_setField he2 hd hsz (h _ h1.objs.size ⟨fun b o n1 n2 q => ?_, fun b o n2 q => ?_⟩ ?_ ?_)
 ·rw [Heap.get?_update_other _ _ (fun z => n2 (by rw [z]; exact List.mem_singleton.mpr rfl))]
  exact Heap.get?_push_of_some _ ((s1.2.1 b n1).trans q)
 ·obtain ⟨sl, z⟩ := s1.2.2 b o q
  refine ⟨sl, ?_⟩
  rw [Heap.get?_update_other _ _ (fun z => n2 (by rw [z]; exact List.mem_singleton.mpr rfl))]
  exact Heap.get?_push_of_some _ z
 ·exact Heap.get?_none_of_le (Nat.le_of_eq s1.1.symm)
 ·have nT : h1.objs.size ≠ e := Nat.ne_of_gt (Heap.lt_size he1)
  have d3 := Obj.data_mapFields hd (·.setIfInBounds 1 (Value.ref h1.objs.size))
  refine ⟨_, _, ob, _, Heap.get?_update_self _ he2 (Obj.isFreed_of_fields d3), (Obj.cls_mapFields _ _).trans hc, (qC _ _).trans hx, d3, by simp [hsz], nT, ?_, by rw [← hob], ?_⟩
  ·rw [Heap.get?_update_other _ _ (Ne.symm nT)]
   exact Heap.get?_push_size h1 (by rw [← hob]; rfl)
  ·first | (simp; done) | (rcases hpl with rfl | ⟨_, _, _, _, _, _, _, rfl⟩ <;> simp)
theorem li {Q : Unit -> Shared -> Prop} (t : fX s.heap e C T dx fl) (h : ∀ h', fL [] [T] s.heap h' -> fX h' e C T dx .none -> Q () { s with heap := h' }) : wpAny M A (setFlight (.ref e) none) Q E s := by
 obtain ⟨oe, vs, oT, ts, q1, q2, q3, q4, q5, q6, q7, q8, q9⟩ := t
 have z3 : 3 < ts.size := (Array.getElem?_eq_some_iff.mp q9).1
 unfold setFlight
 refine wpAny_bind (wpAny_field q1 q4 q5 ?_)
 rw [if_pos (by simp)]
 refine wpAny_setField q7 q8 z3 (h _ fL.upd ?_)
 have d3 := Obj.data_mapFields q8 (·.setIfInBounds 3 ((none : Option Addr).elim Value.none fun f => rawInt f))
 exact ⟨oe, vs, _, _, (Heap.get?_update_other _ _ q6).trans q1, q2, q3, q4, q5, q6, Heap.get?_update_self _ q7 (Obj.isFreed_of_fields d3), d3, by simp [z3]⟩
theorem Ai {Q : Unit -> Shared -> Prop} (hfr : A.frames = some (env :: outer)) (hl : s.heap.FunFrames base (env :: outer)) (hf : env.frame = some L) (he : s.heap.get? e = some oe) (hd : oe.data = .fields vs) (h1 : vs[1]? = some .none) (hc : oe.cls = .ref C) (hx : oe.dict = dx)
  (h : ∀ h' T, fL (jg (env :: outer)) [e] s.heap h' -> s.heap.get? T = none -> fX h' e C T dx (rawInt L) -> Q () { s with heap := h' }) : wpAny M A (noteFrame (.ref e) env) Q E s := by
 unfold noteFrame
 simp only [hf]
 refine wpAny_bind (wpAny_field he hd h1 ?_)
 rw [if_neg (by decide)]
 exact tQ hfr hl hf he hd (Array.getElem?_eq_some_iff.mp h1).1 hc hx h
theorem Ah {Q : Unit -> Shared -> Prop} (hfr : A.frames = some (env :: outer)) (hl : s.heap.FunFrames base (env :: outer)) (hf : env.frame = some L) (t : fX s.heap e C T dx .none)
  (h : ∀ h' T', fL (jg (env :: outer)) [T, e] s.heap h' -> s.heap.get? T' = none -> fX h' e C T' dx (rawInt L) -> Q () { s with heap := h' }) : wpAny M A (noteFrame (.ref e) env) Q E s := by
 obtain ⟨oe, vs, oT, ts, q1, q2, q3, q4, q5, q6, q7, q8, q9⟩ := t
 unfold noteFrame
 simp only [hf]
 refine wpAny_bind (wpAny_field q1 q4 q5 ?_)
 rw [if_pos (by simp)]
 refine wpAny_bind (wpAny_field q7 q8 q9 ?_)
 rw [if_neg (by simp [rawInt])]
 refine wpAny_bind (wpAny_setField q7 q8 (Array.getElem?_eq_some_iff.mp q9).1 ?_)
 have k1 : fL (jg (env :: outer)) [T] s.heap (s.heap.update T (Obj.mapFields (·.setIfInBounds 3 Value.none))) := fL.upd
 have nf : ∀ b o, s.heap.get? b = some o -> (∀ us, o.data ≠ .fields us) -> b ∉ [T] := fun b o hb hn z => by
  rw [List.mem_singleton.mp z, q7] at hb; cases hb; exact hn ts q8
 refine tQ (base := base) hfr (hl.of_keeps fun b o hb hn => ?_) hf ((Heap.get?_update_other _ _ q6).trans q1) q4 (Array.getElem?_eq_some_iff.mp q5).1 q2 q3 fun h' T' k nT t' => h h' T' (k1.trans k) ?_ t'
 ·obtain ⟨sl, z⟩ := k1.slot b o (nf b o hb hn) hb
  exact ⟨_, z, rfl⟩
 ·cases q : s.heap.get? T' with
  | none => rfl
  | some o =>
   exfalso
   by_cases z : T' = T
   ·have d3 := Obj.data_mapFields q8 (·.setIfInBounds 3 Value.none)
    rw [z, Heap.get?_update_self _ q7 (Obj.isFreed_of_fields d3)] at nT; cases nT
   ·rw [Heap.get?_update_other _ _ (Ne.symm z)] at nT; rw [q] at nT; cases nT
end
def Ay (d : Addr) (fs : List (Str × V)) : Heap -> Prop := fun h => ∃ mA, h.Ns1 d mA /\ ∀ f, g9 (fs.lookup f) (mA f)
def dO (d : Addr) (fs : List (Str × V)) : HO := .ext (Ay d fs)
theorem v3 {P : Program} {w : World} {H : Hp} {h : Heap} {d : Addr} {fs : List (Str × V)} (e : Ay d fs h) : ObjOk P w H h d (dO d fs) :=
 ⟨e, let ⟨_, ⟨_, _, _, q, _⟩, _⟩ := e; ⟨_, q⟩, fun _ _ ⟨mA, n, r⟩ k => ⟨mA, n.at k, r⟩⟩
theorem p6 {a : Option V} {b : Option Value} (r : g9 a b) (h : b ≠ none) : a ≠ none := fun z => by
 subst z
 cases b with
 | none => exact h rfl
 | some _ => exact r.elim
theorem jS {fs : List (Str × V)} {mA : Str -> Option Value} {f : Str} {y : V} {u : Value} (r : ∀ g, g9 (fs.lookup g) (mA g)) (q : bn y u) : ∀ g, g9 (((f, y) :: fs).lookup g) (if g = f then some u else mA g) := fun g => by
 by_cases z : g = f
 ·subst z
  rw [if_pos rfl, List.lookup_cons_self]; exact q
 ·rw [if_neg z, List.lookup_cons, beq_eq_false_iff_ne.mpr z]; exact r g
theorem ji {fs : List (Str × V)} {mA : Str -> Option Value} (r : ∀ g, g9 (fs.lookup g) (mA g)) : PySem.Within mA (fs.map (·.1)) := fun g hg => by
 have z := p6 (r g) hg
 cases q : fs.lookup g with
 | none => exact absurd q z
 | some v =>
  obtain ⟨l1, l2, e, _⟩ := List.lookup_eq_some_iff.mp q
  rw [e]; simp
section
variable {X : Cx} {pins : bL} {σ : L2.St} {H : Hp} {s : Shared} {a C : Addr}
theorem setX1 {A : Around} {E : cS} {f : Str} {y : V} {u : Value} {bm : List Value} {Q : Unit -> Shared -> Prop} (hex : X.ex = []) (I : L2.Inv X pins σ H s) (e : H a = some (gP a C none)) (c : gj X.K C bm) (n : eR X.K C f) (ry : bn y u)
  (h : ∀ d s', H d = none -> d ≠ a -> L2.Inv X pins σ (upd (upd H a (gP a C (some d))) d (dO d [(f, y)])) s' -> Q () s') : wpAny (model X.prog X.w) A (setAttr (.ref a) f u) Q E s := by
 obtain ⟨t, hx⟩ := (show ObjOk X.prog X.w H s.heap a (gP a C none) from I.hok a _ e).1
 have J : PySem.W.InstAt s.heap a _ C none := ⟨hx, rfl, rfl, trivial⟩
 refine PySem.W.set_plain I.kIn J c.sa (jn (s := { s with toks := s.toks + 1 }) I.kIn J c n fun b => ?_)
 obtain ⟨cd, hc, hd'⟩ := PySem.W.any_some c.hd
 refine wpAny_bind (wpAny_pure (wpAny_bind (wpAny_bind (wpAny_loadPart hx (wpAny_bind (PySem.W.Looks.here (s := { s with toks := s.toks + 1 }) (PySem.W.looks_clsIn I.kIn hc) ?_))))))
 rw [hd']
 show wpAny _ _ (alloc { cls := .type "dict", data := .dict #[] } >>= fun d => update a (fun o => { o with dict := some d }) >>= fun _ => dictMade (.ref C) a d) _ _ _
 have la : a < s.heap.objs.size := Heap.lt_size hx
 have nad : s.heap.objs.size ≠ a := Nat.ne_of_gt la
 have g1 := Heap.get?_push_of_some (h := s.heap) { cls := .type "dict", data := .dict #[] } hx
 refine wpAny_bind (wpAny_alloc (wpAny_bind (wpAny_update g1 ?_)))
 have g2 := Heap.get?_update_self (fun o => { o with dict := some s.heap.objs.size }) g1 rfl
 have e1 : ((s.heap.push { cls := .type "dict", data := .dict #[] }).update a fun o => { o with dict := some s.heap.objs.size }).get? s.heap.objs.size = some { cls := .type "dict", data := .dict #[] } := by
  rw [Heap.get?_update_other _ _ nad.symm]; exact Heap.get?_push_size s.heap rfl
 have e3 : ((s.heap.push { cls := .type "dict", data := .dict #[] }).update a fun o => { o with dict := some s.heap.objs.size }).Ns s.heap.objs.size (fun _ => none) :=
  ⟨_, #[], _, e1, rfl, (fun e he => absurd he (by simp)), fun _ => rfl⟩
 have keep : ∀ b o, b ≠ a -> s.heap.get? b = some o -> ((s.heap.push { cls := .type "dict", data := .dict #[] }).update a fun o => { o with dict := some s.heap.objs.size }).get? b = some o := fun b o nb q => by
  rw [Heap.get?_update_other _ _ (Ne.symm nb)]; exact Heap.get?_push_of_some _ q
 refine wpAny_pure (a := some s.heap.objs.size) (wpAny_bind (wpAny_pure (wpAny_bind ?_)))
 refine wpAny_nsSet1 (Heap.Ns1.of_empty e3) fun h' hn2 hs2 => ?_
 have rel : ∀ g, g9 ([(f, y)].lookup g) (if g = f then some u else none) := jS (fs := []) (mA := fun _ => none) (fun _ => trivial) ry
 obtain ⟨oD, esD, epD, hoD, hdD, hcD⟩ := hn2.count (ji rel)
 refine wpAny_bind (wpAny_lookBehind hoD (by rw [hdD]; exact pastItsLine_dict (Nat.le_trans hcD (Nat.le_add_left _ _))) ?_)
 have hno : s.heap.get? s.heap.objs.size = none := Heap.get?_none_of_le (Nat.le_refl _)
 have hH : H s.heap.objs.size = none := B.Inv.none_of I hno
 refine wpAny_pure (h s.heap.objs.size _ hH nad ?_)
 have ga : h'.get? a = some { cls := .ref C, dict := some s.heap.objs.size, data := .fields #[.ref t, .none, .none, .none, .bool false, .none] } := (hs2.2 a nad.symm).trans g2
 have I2 : L2.Inv X pins σ (upd H a (gP a C (some s.heap.objs.size))) { s with heap := h', toks := s.toks + 1 + 1 } := I.write (x := a) (e := a) (o := gP a C (some s.heap.objs.size)) (h' := h') (by rw [e]; trivial) (.inl rfl) (fun b o nb q => by
  have nb2 : b ≠ s.heap.objs.size := Nat.ne_of_lt (Heap.lt_size q)
  exact (hs2.2 b nb2).trans (keep b o nb q)) ⟨_, ga⟩ (tN ⟨t, ga⟩)
 exact B.Inv.adopt I2 (B.Inv.newAt I hex hno) (by rw [aC nad]; exact hH) hex (v3 ⟨_, hn2, rel⟩)
theorem setX2 {A : Around} {E : cS} {f : Str} {y : V} {u : Value} {bm : List Value} {d : Addr} {fs : List (Str × V)} {Q : Unit -> Shared -> Prop} (I : L2.Inv X pins σ H s) (e : H a = some (gP a C (some d))) (ed : H d = some (dO d fs)) (hl : fs.length ≤ 100) (c : gj X.K C bm) (n : eR X.K C f) (ry : bn y u)
  (h : ∀ s', L2.Inv X pins σ (upd H d (dO d ((f, y) :: fs))) s' -> Q () s') : wpAny (model X.prog X.w) A (setAttr (.ref a) f u) Q E s := by
 obtain ⟨t, hx⟩ := (show ObjOk X.prog X.w H s.heap a (gP a C (some d)) from I.hok a _ e).1
 obtain ⟨mA, hn, rel0⟩ := (show ObjOk X.prog X.w H s.heap d (dO d fs) from I.hok d _ ed).1
 obtain ⟨od, _, _, hod, _⟩ := id hn
 have J : PySem.W.InstAt s.heap a _ C (some od) := ⟨hx, rfl, rfl, hod⟩
 refine PySem.W.set_plain I.kIn J c.sa (jn (s := { s with toks := s.toks + 1 }) I.kIn J c n fun b => ?_)
 obtain ⟨cd, hc, hd'⟩ := PySem.W.any_some c.hd
 refine wpAny_bind (wpAny_pure (wpAny_bind (wpAny_bind (wpAny_loadPart hx (wpAny_bind (PySem.W.Looks.here (s := { s with toks := s.toks + 1 }) (PySem.W.looks_clsIn I.kIn hc) ?_))))))
 rw [hd']
 refine wpAny_pure (a := some d) (wpAny_bind (wpAny_pure (wpAny_bind ?_)))
 refine wpAny_nsSet1 (s := { s with toks := s.toks + 1 }) hn fun h' hn2 hs2 => ?_
 have rel := jS (f := f) rel0 ry
 obtain ⟨oD, esD, epD, hoD, hdD, hcD⟩ := hn2.count (ji rel)
 have hz : esD.size ≤ 101 := by rw [List.length_map, List.length_cons] at hcD; omega
 refine wpAny_bind (wpAny_lookBehind hoD (by rw [hdD]; exact pastItsLine_dict (Nat.le_trans hz (by decide))) ?_)
 refine wpAny_pure (h _ ?_)
 exact I.write (x := d) (e := d) (o := dO d ((f, y) :: fs)) (h' := h') (by rw [ed]; trivial) (.inl rfl) (fun b o nb q => (hs2.2 b nb).trans q) ⟨_, hoD⟩ (v3 ⟨_, hn2, rel⟩)
end
section
variable {X : Cx} {o value : Expr} {f : Str} {ta tv : TE} {pos' pos : Pos}
def vR (K : Fg) (ta tv : TE) (f : Str) : TS := fun D σ H => tv σ H fun y H1 => ta σ H1 fun x H2 => ∃ a C bm, x = .ref a /\ gj K C bm /\ eR K C f ∧
 ((H2 a = some (gP a C none) /\ ∀ d, H2 d = none -> d ≠ a -> D.nx σ (upd (upd H2 a (gP a C (some d))) d (dO d [(f, y)]))) ∨
  ∃ d fs, H2 a = some (gP a C (some d)) /\ H2 d = some (dO d fs) /\ fs.length ≤ 100 /\ D.nx σ (upd H2 d (dO d ((f, y) :: fs))))
theorem uJ (hex : X.ex = []) (ha : PE X o ta) (hv : PE X value tv) (hs : swapsWith value (some (.Attribute o f pos')) pos.line X.env = pure false) : PS X (.Assign [.Attribute o f pos'] value pos) (vR X.K ta tv f) := by
 intro pins s σ H D I h
 refine plainObj_wpAny_Assign_Attribute (bZ (hv pins s σ H _ I h) fun u s1 ⟨y, H1, I1, ry, q⟩ => bZ (ha pins s1 σ H1 _ I1 q) fun ov s2 ⟨x, H2, I2, rx, a, C, bm, ex, c, n, q2⟩ => ?_) hs
 subst ex
 obtain rfl : ov = Value.ref a := rx
 rcases q2 with ⟨ea, k⟩ | ⟨d, fs, ea, ed, hl, k⟩
 ·exact B.setX1 hex I2 ea c n ry fun d s' hd nd I' => ⟨σ, _, I', k d hd nd⟩
 ·exact B.setX2 I2 ea ed hl c n ry fun s' I' => ⟨σ, _, I', k⟩
end
theorem fL.any {S ch : List Addr} {h h' : Heap} (k : fL [] ch h h') : fL S ch h h' := ⟨fun b o _ n q => k.same b o (fun z => by cases z) n q, k.slot⟩
section
variable {X : Cx} {pins : bL} {σ : L2.St} {H : Hp} {s : Shared} {a C T : Addr} {dx : Option Addr} {fl : Value}
theorem Inv.leftK {ch : List Addr} {h' : Heap} {tk : Nat} (I : L2.Inv X pins σ H s) (hch : ∀ b ∈ ch, H b = none /\ dX X pins b) (k : fL (jg X.stack) ch s.heap h') : L2.Inv X pins σ H { s with heap := h', toks := tk } := by
 have wg : ∀ b o, H b = some o -> b ∉ jg X.stack /\ b ∉ ch := fun b o q =>
  ⟨(fun z => by rw [I.stkFree b z] at q; cases q), (fun z => by rw [(hch b z).1] at q; cases q)⟩
 refine I.call' (s' := { s with heap := h', toks := tk }) (ch := ch) rfl ⟨fun b o q _ n1 n2 => k.same b o n1 n2 q, fun b o q _ n1 n2 => k.slot b o n2 q, fun b o _ n _ => n, fun b o q n2 => ?_, fun b xs q => q, fun b o u q => q, fun b ps q => ⟨#[], by rw [Array.append_empty]; exact q⟩⟩ (fun b o q => ?_) I.bare
  (fun b hb => ⟨.inr (hch b hb).2.st, (hch b hb).2.lo, (hch b hb).2.ce, (hch b hb).2.pi⟩)
 ·obtain ⟨sl, z⟩ := k.slot b o n2 q
  exact ⟨_, z⟩
 ·refine (I.hok b o q).stay (fun c u hc z => ?_) (fun c z => z) (fun c xs z => z)
  rcases hc with rfl | hc
  ·obtain ⟨n1, n2⟩ := wg _ _ q; exact k.same _ _ n1 n2 z
  ·obtain ⟨n1, n2⟩ := wg _ _ hc; exact k.same _ _ n1 n2 z
theorem xZ {A : Around} {E' : cS} {Q : Shared -> Prop} {oe : Obj} {vs : Array Value} (hA : A.frames = X.A.frames) (I : L2.Inv X pins σ H s) (hex : X.ex = []) (hst : X.stack = X.env :: X.outer) (hfr : X.env.frame = some X.env.locals)
  (ha : H a = none) (na : dX X pins a) (hx : s.heap.get? a = some oe) (hd : oe.data = .fields vs) (h1 : vs[1]? = some .none) (hc : oe.cls = .ref C) (hdx : oe.dict = dx)
  (h : ∀ (s' : Shared) (T : Addr), L2.Inv X pins σ H s' -> dX X pins T -> H T = none -> fX s'.heap a C T dx .none -> Q s') :
  wpAny (model X.prog X.w) A (noteFrame (.ref a) X.env) (fun _ s2 => wpAny (model X.prog X.w) A (setFlight (.ref a) none) (fun _ s3 => Q s3) E' s2) E' s := by
 have hfrm : A.frames = some (X.env :: X.outer) := by rw [hA, I.ok.frames, hst]
 refine Ai (base := X.base) hfrm (by rw [← hst]; exact I.stack) hfr hx hd h1 hc hdx fun h1 T k1 nT t1 => ?_
 refine li (s := { s with heap := h1 }) t1 fun h2 k2 t2 => ?_
 have nt := B.Inv.newAt I hex nT
 have hT := B.Inv.none_of I nT
 rw [← hst] at k1
 refine h { s with heap := h2 } T (B.Inv.leftK (tk := s.toks) I (fun b hb => ?_) (k1.trans k2.any)) nt hT t2
 simp only [List.cons_append, List.nil_append, List.mem_cons, List.not_mem_nil, or_false] at hb
 rcases hb with rfl | rfl
 ·exact ⟨ha, na⟩
 ·exact ⟨hT, nt⟩
theorem xY {A : Around} {E' : cS} {Q : Shared -> Prop} (hA : A.frames = X.A.frames) (I : L2.Inv X pins σ H s) (hex : X.ex = []) (hst : X.stack = X.env :: X.outer) (hfr : X.env.frame = some X.env.locals)
  (ha : H a = none) (na : dX X pins a) (hT : H T = none) (nT : dX X pins T) (t : fX s.heap a C T dx .none)
  (h : ∀ (s' : Shared) (T' : Addr), L2.Inv X pins σ H s' -> dX X pins T' -> H T' = none -> fX s'.heap a C T' dx .none -> Q s') :
  wpAny (model X.prog X.w) A (noteFrame (.ref a) X.env) (fun _ s2 => wpAny (model X.prog X.w) A (setFlight (.ref a) none) (fun _ s3 => Q s3) E' s2) E' s := by
 have hfrm : A.frames = some (X.env :: X.outer) := by rw [hA, I.ok.frames, hst]
 refine Ah (base := X.base) hfrm (by rw [← hst]; exact I.stack) hfr t fun h1 T' k1 nT' t1 => ?_
 refine li (s := { s with heap := h1 }) t1 fun h2 k2 t2 => ?_
 have nt := B.Inv.newAt I hex nT'
 have hT' := B.Inv.none_of I nT'
 rw [← hst] at k1
 refine h { s with heap := h2 } T' (B.Inv.leftK (tk := s.toks) I (fun b hb => ?_) (k1.trans k2.any)) nt hT' t2
 simp only [List.cons_append, List.nil_append, List.mem_cons, List.not_mem_nil, or_false] at hb
 rcases hb with rfl | rfl | rfl
 ·exact ⟨hT, nT⟩
 ·exact ⟨ha, na⟩
 ·exact ⟨hT', nt⟩
theorem ym {A : Around} {E' : cS} {Q : Shared -> Prop} (I : L2.Inv X pins σ H s) (hT : H T = none) (nT : dX X pins T) (t : fX s.heap a C T dx .none)
  (h : ∀ (s' : Shared), L2.Inv X pins σ H s' -> fX s'.heap a C T dx .none -> Q s') : wpAny (model X.prog X.w) A (setFlight (.ref a) none) (fun _ s3 => Q s3) E' s := by
 refine li t fun h2 k2 t2 => h _ (B.Inv.leftK (tk := s.toks) I (fun b hb => ?_) k2.any) t2
 rw [List.mem_singleton.mp hb]; exact ⟨hT, nT⟩
end
def AA (P : Program) (w : World) : lJ := fun outer H s E e s' => ∃ (x C T : Addr) (dx : Option Addr) (H' : Hp), e = .ref x /\ s'.os = s.os /\ AllBare s'.gens /\ Un (jg outer) [] H H' s.heap s'.heap /\ h7 P w H' s'.heap /\ s.heap.get? x = none /\ s.heap.get? T = none /\ H' x = none /\ H' T = none ∧
 fX s'.heap x C T dx .none /\ E (.ref C) dx H'
section
variable {P : Program} {w : World} {K : Fg} {mg : Str -> Option Value} {base : Heap} {N : List Str} {qual : Str} {scope : Scope} {f : Addr} {cd : Value} {A : Around} {outer : List Env} {s : Shared} {H : Hp} {E : XK}
def nZ (X : Cx) (E : XK) : Prop := ∀ (pins : bL) (σ : L2.St) (H : Hp) (s : Shared) (a C : Addr) (dx : Option Addr) (oe : Obj) (vs : Array Value), L2.Inv X pins σ H s -> H a = none -> dX X pins a -> s.heap.get? a = some oe -> oe.data = .fields vs →
 vs[1]? = some .none -> oe.cls = .ref C -> oe.dict = dx -> E (.ref C) dx H -> X.xe (.ref a) s
theorem wk : nZ (bO (AA P w) P w K mg base N qual scope f cd A outer s H E) E := by
 intro pins σ H1 s1 a C dx oe vs I ha na hx hd h1 hc hdx hE
 show wpAny (model P w) _ (leaving _ _) _ _ s1
 unfold leaving
 refine wpAny_bind (xZ rfl I rfl rfl rfl ha na hx hd h1 hc hdx fun s3 T' I3 nT' hT' tr' => ?_)
 exact ⟨a, C, T', dx, H1, rfl, I3.os, I3.bare, I3.base, I3.hok, na.st, nT'.st, ha, hT', tr', hE⟩
theorem Fun.okD {x : Str} {st : Stmt} {fd : FuncData} {ps : List Str} {k : Nat} {sp : Sp} (F : Fun K x qual st f fd) (S : aJ N ps (au st)) (len : ∀ vs H Q E, sp vs H Q E -> vs.length = ps.length)
  (hbody : ∀ (cdv : Value) (A : Around) (outer : List Env) (s : Shared) (H : Hp) (vs : List V) (Q : VK) (E : XK), cQ k (A.deeper (envOfC qual (au st) s.heap.objs.size f cdv)) -> sp vs H Q E →
   ∃ t, kh (bO (AA P w) P w K mg base N qual (au st) f cdv A outer s H E) (aI st) t /\ t { nx := fun _ H' => Q .non H', rt := Q } (eG N vs) H) : bB P w K mg base (AA P w) (k + 1) f fd ps sp := by
 obtain ⟨oc, od, kV, doc, pm, an, cdv, ct, osl, rfl, lk, hcd⟩ := F.ex
 exact v0 lk hcd S len fun A outer s H vs Q E hr hsp => hbody cdv A outer s H vs Q E hr hsp
end
section
variable {X : Cx} {k : Nat} {f C : Addr} {fd : FuncData} {ps : List Str} {sp : Sp} {bm : List Value}
def om (C : Addr) (sp : Sp) (E : XK) (t : TA) : TS := fun _ σ H => t σ H fun vs H1 => vs.length ≤ sizeLine /\ ∀ a, H1 a = none -> sp (.ref a :: vs) (upd H1 a (gP a C none)) (fun v H2 => v = .non /\ ∃ dx, H2 a = some (gP a C dx) /\ E (.ref C) dx (oX H2 a)) E0
theorem qc {x : Str} {p cpos pos : Pos} {e : Expr} {es : List Expr} {t : TA} {E : XK} (M : XC X.K C f bm) (hbase : bm.contains (.type "BaseException") = true) (hex : X.ex = []) (tk : nZ X E) (F : bB X.prog X.w X.K X.mg X.base dI k f fd ps sp) (hr : cQ (k + 1) X.A) (hb : aZ X.K fd ps [])
  (hg : Gl X x) (hm : X.mg x = some (.ref C)) (ha : PA X (e :: es) t) (hdb : (x == ("__debug__" : Str)) = false := by decide) (he : starEach (e :: es) X.env = (false, eval e X.env) :: starEach es X.env := by rfl) (hpl : (backTo cpos (starEach es X.env)).any (·.1) = false := by rfl) :
  PS X (.Raise (some (.Call (.Name x p) (e :: es) [] cpos)) none pos) (om C sp E t) := by
 intro pins s σ H D I h
 obtain ⟨nm, q, N, bs, hdct, sn, sub, ab, col, dd, k0, k1, k2, k3, k5, lk⟩ := M.ob
 rw [arm_exec_Raise]
 refine wpAny_bind (wpAny_standAt (p8 (C := C) (bm := bm) (nm := nm) (q := q) (N := N) (bs := bs) (hdct := hdct) (sn := sn) (sub := sub) (ab := ab) (col := col) (dd := dd) (k0 := k0) (k1 := k1) (k2 := k2) (k3 := k3) (k5 := k5) (newId := "ValueError.__new__") hbase hr.hd ?_))
 refine wpAny_bind (wpAny_mono (Q := fun v s' => ∃ a H', v = .ref a /\ dX X pins a /\ L2.Inv X pins σ H' s' /\ ∃ dx, H' a = some (gP a C dx) /\ E (.ref C) dx (oX H' a)) ?_ (fun v s1 h1 => wpAny_bind (wpAny_standAt (wpAny_pure ?_))) fun _ _ y => y)
 ·refine wpAny_Call_Name_kw (fP I hg hm ?_ hdb)
  refine PySem.W.callWith_K (h₀ := X.base) I.ok.mod.kin M.kp (bZ (ha cpos pins s σ H _ I h) fun us s1 ⟨vs, H1, I1, r, hz, q⟩ => ⟨I1.kIn, ?_⟩) he hpl
  exact uv M hex F hr hb I1 (us := [] ++ us) r (by rw [List.nil_append, ← r.length]; exact hz) q
 ·obtain ⟨a, H', rfl, na, I1, dx, hx, hE⟩ := h1
  obtain ⟨tt, ho⟩ := (show L2.ObjOk X.prog X.w H' s1.heap a (gP a C dx) from I1.hok a _ hx).1
  exact ⟨a, tt, dx, rfl, I1.kIn _ _ lk, ho, tk pins σ (oX H' a) s1 a C dx _ _ (B.Inv.forget I1 hx na.st) fJ na ho rfl rfl rfl rfl hE⟩
end
abbrev RX := Addr -> Option Addr -> Hp -> Prop
def BM (X : Cx) (pins : bL) (R : RX) : cS := fun e s => ∃ (x C T : Addr) (dx : Option Addr) (H : Hp), e = .ref x /\ L2.Inv X pins (vY X.N) H s /\ H x = none /\ dX X pins x /\ H T = none /\ dX X pins T /\ fX s.heap x C T dx .none /\ R C dx H
def gg (X : Cx) (pins : bL) (R : RX) : Cx := { X with pn := X.pn ++ pins, xe := BM X pins R }
section
variable {X : Cx} {pins pins' : bL} {σ : L2.St} {H : Hp} {s : Shared} {R : RX} {e : Addr}
theorem wj (I : L2.Inv X pins σ H s) : L2.Inv (gg X pins R) [] σ H s :=
 ⟨⟨I.ok.mod, I.ok.kind, I.ok.glob, I.ok.blt, I.ok.above, I.ok.inj, I.ok.has, I.ok.cab, I.ok.hd, I.ok.frames, I.ok.stk, I.ok.exf, I.ok.bs, I.ok.bsz, I.ok.noex, I.ok.exfs, I.ok.funs, I.ok.frf⟩, I.os, I.bare, I.base, I.loc, I.cell, I.free, I.freeC,
  fun p hp => I.pin p (by rw [List.append_nil] at hp; exact hp), I.hok, I.len⟩
theorem ofTryD (I : L2.Inv (gg X pins R) pins' σ H s) : L2.Inv X pins σ H s :=
 ⟨⟨I.ok.mod, I.ok.kind, I.ok.glob, I.ok.blt, I.ok.above, I.ok.inj, I.ok.has, I.ok.cab, I.ok.hd, I.ok.frames, I.ok.stk, I.ok.exf, I.ok.bs, I.ok.bsz, I.ok.noex, I.ok.exfs, I.ok.funs, I.ok.frf⟩, I.os, I.bare, I.base, I.loc, I.cell, I.free, I.freeC,
  fun p hp => I.pin p (List.mem_append_left _ hp), I.hok, I.len⟩
def BO (R : RX) : XK := fun v dx H => ∃ C, v = .ref C /\ R C dx H
theorem xr (hex : X.ex = []) : fK (AA X.prog X.w) (gg X pins R) (BO R) := by
 intro pins' σ H1 s1 e s2 I hx
 obtain ⟨x, C, T, dx, H2, rfl, ho, hb, un, hok, nx, nT, hx2, hT2, tr, C', e', hr⟩ := hx
 cases e'
 have na := B.Inv.newAt I hex nx
 have nt := B.Inv.newAt I hex nT
 have I2 : L2.Inv (gg X pins R) pins' σ H2 s2 := I.call' ho un hok hb (fun b hb => by cases hb)
 exact ⟨x, C, T, dx, H2, rfl, tI (ofTryD I2), hx2, ⟨na.st, na.lo, na.ce, fun p hp => na.pi p (List.mem_append_left _ hp), na.fr⟩, hT2, ⟨nt.st, nt.lo, nt.ce, fun p hp => nt.pi p (List.mem_append_left _ hp), nt.fr⟩, tr, hr⟩
theorem SP.ofTryD {D : hU} {f : Flow} (h : SP (gg X pins R) [] D f s) : SP X pins D f s := by
 cases f with
 | next => obtain ⟨σ', H', I, q⟩ := h; exact ⟨σ', H', B.ofTryD I, q⟩
 | brk => obtain ⟨σ', H', I, q⟩ := h; exact ⟨σ', H', B.ofTryD I, q⟩
 | cont => obtain ⟨σ', H', I, q⟩ := h; exact ⟨σ', H', B.ofTryD I, q⟩
 | ret u => obtain ⟨v, σ', H', I, r, q⟩ := h; exact ⟨v, σ', H', B.ofTryD I, r, q⟩
end
theorem fN {X : Cx} {pins : bL} {σ : L2.St} {H : Hp} {s : Shared} {M : Model} {A : Around} {E : cS} {i : Nat} {x : Str} {pos : Pos} {Q : Unit -> Shared -> Prop} (I : L2.Inv X pins σ H s) (hN : X.N.Nodup) (hi : X.N[i]? = some x) (hk : X.env.scope.names.lookup x = some .local)
  (h : ∀ s', L2.Inv X pins (σ.set i none) H s' -> Q () s') : wpAny M A (do bindName X.env x .none; unbindBehindTheSuite X.env x pos) Q E s := by
 obtain ⟨m, hn, hl⟩ := id I.loc
 have hiσ : i < σ.length := by rw [I.len]; exact (List.getElem?_eq_some_iff.mp hi).1
 have lt : ∀ b o, X.s₀.heap.get? b = some o -> b ≠ X.env.locals := fun b o e => Nat.ne_of_lt (Nat.lt_of_lt_of_le (Heap.lt_size e) I.ok.above)
 refine wpAny_nameGoes_keeps hk hn (by rw [I.ok.kind]; rfl) fun h' v hn' hs => h _ ?_
 refine ⟨I.ok, I.os, I.bare, ⟨fun b o e n hb hx => (hs.2 b (lt b o e)).trans (I.base.keep b o e n hb hx), fun b o e n hb hx => ?_, I.base.free, fun b o e hx => ?_, I.base.tups, I.base.frzs, I.base.tbls⟩, ⟨_, hn', fun j y v' e1 e2 e3 => ?_⟩, fun y c e => ?_, I.free, I.freeC, fun p hp => ?_, fun b ob e => ?_, by simpa using I.len⟩
 ·obtain ⟨sl, e1⟩ := I.base.slot b o e n hb hx
  exact ⟨sl, (hs.2 b (lt b o e)).trans e1⟩
 ·obtain ⟨o', e1⟩ := I.base.there b o e hx
  exact ⟨o', (hs.2 b (lt b o e)).trans e1⟩
 ·have hj : j ≠ i := fun z => by subst z; rw [List.getElem?_set_self hiσ] at e2; cases e2
  rw [List.getElem?_set_ne (Ne.symm hj)] at e2
  obtain ⟨u', r', q⟩ := hl j y v' e1 e2 e3
  refine ⟨u', r', ?_⟩
  rcases q with ⟨k, e⟩ | ⟨k, c, e, z⟩
  ·refine .inl ⟨k, ?_⟩
   have ny : y ≠ x := fun e => hj (iW hN e1 (e ▸ hi))
   show (if y = x then v else m y) = some u'
   rw [if_neg ny]; exact e
  ·exact .inr ⟨k, c, e, z.sameBut hs (I.cne y c e)⟩
 ·obtain ⟨w', z⟩ := I.cell y c e
  exact ⟨w', z.sameBut hs (I.cne y c e)⟩
 ·obtain ⟨e, n, ne, nf, d⟩ := I.pin p hp
  exact ⟨(hs.2 p.1 ne).trans e, n, ne, nf, d⟩
 ·refine (I.hok b ob e).stay (fun c w' hc q => (hs.2 c ?_).trans q) (fun _ q => q) fun _ _ q => q
  rintro rfl
  rcases hc with rfl | hc
  ·rw [I.free] at e; cases e
  ·rw [I.free] at hc; cases hc
def BN (a C d : Addr) : Heap -> Prop := fun h => ∃ oe, h.get? a = some oe /\ oe.cls = .ref C /\ oe.dict = some d /\ PySem.W.notCls oe = true
def qU (a C d : Addr) : HO := .ext (BN a C d)
theorem yn {P : Program} {w : World} {H : Hp} {h : Heap} {a C d : Addr} (e : BN a C d h) : ObjOk P w H h a (qU a C d) :=
 ⟨e, let ⟨_, q, _⟩ := e; ⟨_, q⟩, fun _ _ ⟨o, q, r⟩ k => ⟨o, k _ q, r⟩⟩
theorem fX.er {h : Heap} {x C T d : Addr} {fl : Value} (t : fX h x C T (some d) fl) : BN x C d h := by
 obtain ⟨oe, vs, oT, ts, q1, q2, q3, q4, _⟩ := t
 exact ⟨oe, q1, q2, q3, by unfold PySem.W.notCls; rw [q4]⟩
def Am (i : Nat) (D : hU) : hU := { nx := fun σ H => D.nx (σ.set i none) H, rt := D.rt, bk := fun σ H => D.bk (σ.set i none) H, ct := fun σ H => D.ct (σ.set i none) H }
def BW (N : List Str) (R : RX) (Ok : Addr -> Prop) (tb th : TS) : TS := fun D σ H => tb D σ H /\ ∀ C dx H', R C dx H' -> Ok C /\ th D (vY N) H'
def rp (N : List Str) (i : Nat) (R : RX) (Ok : Addr -> Prop) (tb th : TS) : TS := fun D σ H => tb D σ H /\ ∀ C dx H', R C dx H' -> Ok C /\ ∃ d, dx = some d /\ ∀ a, H' a = none -> th (Am i D) ((vY N).set i (some (.ref a))) (upd H' a (qU a C d))
section
variable {X : Cx} {R : RX} {body : List Stmt} {b₀ : Stmt} {suite : List Stmt} {x : Str} {p hpos pos : Pos} {u : Value} {tb th : TS}
theorem we {M : Model} {h : Heap} {a C T : Addr} {dx : Option Addr} {fl : Value} (t : fX h a C T dx fl) : PySem.W.Looks M h (typeOf (.ref a)) (.ref C) := by
 obtain ⟨oe, _, _, _, q1, q2, _⟩ := t
 rw [← q2]
 exact (PySem.W.Looks.ld q1).andThen .now
theorem sr {i : Nat} {n : Str} (hex : X.ex = []) (hst : X.stack = X.env :: X.outer) (hfr : X.env.frame = some X.env.locals) (hg : Gl X x) (hm : X.mg x = some u) (hN : X.N.Nodup) (hi : X.N[i]? = some n) (hn : X.env.scope.names.lookup n = some .local)
  (hb : ∀ pins, kh (gg X pins R) body tb) (hs : ∀ e, kh (jX X e) (b₀ :: suite) th) (hd : (x == ("__debug__" : Str)) = false := by decide) :
  PS X (.Try body [.ExceptHandler (some (.Name x p)) (some n) (b₀ :: suite) hpos] [] [] pos) (rp X.N i R (fun C => PySem.W.exmOne X.K (.ref C) u = some true) tb th) := by
 intro pins s σ H D I ⟨h1, h2⟩
 refine wpAny_Try_except (wpAny_mono (hb pins [] s σ H D (wj I) h1) (fun f s1 q => ?_) fun e s1 q => ?_)
 ·have q' := SP.ofTryD q
  cases f with
  | next => exact wpAny_execs_nil q'
  | brk => exact q'
  | cont => exact q'
  | ret u => exact q'
 ·obtain ⟨a, C, T, dx, H1, rfl, I1, ha, na, hT, nT, tr, hR⟩ := q
  obtain ⟨hk, d, rfl, hth⟩ := h2 C dx H1 hR
  refine xY rfl I1 hex hst hfr ha na hT nT tr fun s2 T2 I2 nT2 hT2 tr2 => ?_
  refine wpAny_handleBy_cons (codeAny_handlers_test ?_) (by intro z; cases z)
  refine fP (X := jX X a) (vG I2) hg hm ?_ hd
  refine PySem.W.Looks.here (s := s2) (PySem.W.exm_one (M := model X.prog X.w) I2.kIn (we tr2) hk) ?_
  refine codeAny_handlers_suite_as ?_
  refine ym I2 hT2 nT2 tr2 fun s3 I3 tr3 => ?_
  have I4 : L2.Inv X pins (vY X.N) (upd H1 a (qU a C d)) s3 := B.Inv.adopt I3 na ha hex (yn tr3.er)
  refine d8 (X := jX X a) (vG I4) hN hi (.inl hn) (v := .ref a) (u := .ref a) rfl (fun s5 I5 => ?_) (.inr hn)
  refine wpAny_mono (hs a pins s5 _ _ (Am i D) I5 (hth a ha)) (fun f s6 q6 => ?_) fun _ _ z => z.elim
  cases f with
  | next => obtain ⟨σ', H', J, q⟩ := q6; exact fN (oG I.ok J) hN hi hn fun s' J' => ⟨_, _, J', q⟩
  | brk => obtain ⟨σ', H', J, q⟩ := q6; exact fN (oG I.ok J) hN hi hn fun s' J' => ⟨_, _, J', q⟩
  | cont => obtain ⟨σ', H', J, q⟩ := q6; exact fN (oG I.ok J) hN hi hn fun s' J' => ⟨_, _, J', q⟩
  | ret u => obtain ⟨v, σ', H', J, r, q⟩ := q6; exact fN (oG I.ok J) hN hi hn fun s' J' => ⟨v, _, _, J', r, q⟩
end
def zM (K : Fg) : List V -> Hp -> VK -> Prop := fun xs H Q => ∃ (a C d : Addr) (fs : List (Str × V)) (bm : List Value) (c : V) (b : Bool), xs = [.ref a, c] /\ H a = some (qU a C d) /\ H d = some (dO d fs) /\ gj K C bm /\ n4 K C ∧
 ((∃ n, c = .ty n /\ PySem.W.kitOne K (.ref C) (.type n) = some b) ∨ (∃ D, c = .ref D /\ PySem.W.kitOne K (.ref C) (.ref D) = some b) ∨
  ∃ (p : Addr) (cs : List Addr), c = .ref p /\ H p = some (.tup (cs.map V.ref)) /\ PySem.W.kitAny K (.ref C) (cs.map Value.ref) = some b) /\ Q (.bl b) H
theorem jj : ∀ {cs : List Addr} {us : List Value}, aW (cs.map V.ref) us -> us = cs.map Value.ref
 | [], _, .nil => rfl
 | c :: cs, _, .cons r q => by
  rw [List.map_cons, jj q, (show _ = Value.ref c from r)]
theorem tV {X : Cx} : df X (.builtin "isinstance") (zM X.K) := by
 intro pins s σ H xs us Q I r h
 obtain ⟨a, C, d, fs, bm, c, b, rfl, ea, ed, cl, gx, k, q⟩ := h
 obtain ⟨u, u2, rfl, rx, ry⟩ := lR r
 obtain rfl : u = Value.ref a := rx
 obtain ⟨oe, h1, h2, h3, h4⟩ := (show ObjOk X.prog X.w H s.heap a (qU a C d) from I.hok a _ ea).1
 obtain ⟨mA, ⟨od, es, ep, h5, _⟩, _⟩ := (show ObjOk X.prog X.w H s.heap d (dO d fs) from I.hok d _ ed).1
 have J : PySem.W.InstAt s.heap a oe C (some od) := ⟨h1, h2, h4, by rw [h3]; exact h5⟩
 rcases k with ⟨n, rfl, e⟩ | ⟨D, rfl, e⟩ | ⟨p, cs, rfl, hp, e⟩
 ·obtain rfl : u2 = Value.type n := ry
  exact PySem.W.kia_one (i7 cl gx) I.kIn J e (fun z => nomatch z) fun tk => ⟨.bl b, H, I.tok tk, rfl, q⟩
 ·obtain rfl : u2 = Value.ref D := ry
  exact PySem.W.kia_one (i7 cl gx) I.kIn J e (fun z => nomatch z) fun tk => ⟨.bl b, H, I.tok tk, rfl, q⟩
 ·obtain rfl : u2 = Value.ref p := ry
  obtain ⟨_, its, rv, o, ho, hc, n, hd⟩ := (show ObjOk X.prog X.w H s.heap p (.tup (cs.map V.ref)) from I.hok p _ hp)
  rw [jj rv] at hd
  obtain ⟨oc, odd, oda, osl⟩ := o
  dsimp only at hc hd
  subst hc; subst hd
  exact PySem.W.kia_tup (i7 cl gx) I.kIn J ho e (fun z => nomatch z) fun tk => ⟨.bl b, H, I.tok tk, rfl, q⟩
theorem gK {X : Cx} {K : Fg} (h : X.K = K) : df X (.builtin "isinstance") (zM K) := by
 subst h; exact tV
def mW (H : Hp) (a C d : Addr) : Prop := H a = some (qU a C d) ∨ H a = some (gP a C (some d))
section
variable {X : Cx} {pins : bL} {σ : L2.St} {H : Hp} {s : Shared} {a C d : Addr} {fs : List (Str × V)}
theorem mW.inst (I : L2.Inv X pins σ H s) (h : mW H a C d) (ed : H d = some (dO d fs)) : ∃ (oe od : Obj) (mA : Str -> Option Value), PySem.W.InstAt s.heap a oe C (some od) /\ (∀ name, PySem.W.lookIn name od = some (mA name)) /\ ∀ f, g9 (fs.lookup f) (mA f) := by
 obtain ⟨mA, hn, r⟩ := (show ObjOk X.prog X.w H s.heap d (dO d fs) from I.hok d _ ed).1
 obtain ⟨od, ho, hl⟩ := jV hn
 rcases h with h | h
 ·obtain ⟨oe, h1, h2, h3, h4⟩ := (show ObjOk X.prog X.w H s.heap a (qU a C d) from I.hok a _ h).1
  exact ⟨oe, od, mA, ⟨h1, h2, h4, by rw [h3]; exact ho⟩, hl, r⟩
 ·obtain ⟨t, h1⟩ := (show ObjOk X.prog X.w H s.heap a (gP a C (some d)) from I.hok a _ h).1
  exact ⟨_, od, mA, ⟨h1, rfl, rfl, ho⟩, hl, r⟩
end
def vL (K : Fg) (ta : TE) (f : Str) : TE := fun σ H Q => ta σ H fun x H1 => ∃ a C d fs bm v, x = .ref a /\ mW H1 a C d /\ H1 d = some (dO d fs) /\ gj K C bm /\ n4 K C /\ eR K C f /\ fs.lookup f = some v /\ Q v H1
theorem uU {X : Cx} {e : Expr} {f : Str} {pos : Pos} {ta : TE} {K : Fg} (hK : X.K = K) (he : PE X e ta) (hb : attributeBase e f X.env (eval e X.env) = eval e X.env) : PE X (.Attribute e f pos) (vL K ta f) := by
 subst hK
 intro pins s σ H Q I h
 refine vw hb (bZ (he pins s σ H _ I h) fun u s1 ⟨x, H1, I1, rx, a, C, d, fs, bm, v, ex, ea, ed, c, g, n, l, q⟩ => ?_)
 subst ex
 obtain rfl : u = Value.ref a := rx
 obtain ⟨oe, od, mA, J, hl, r⟩ := mW.inst I1 ea ed
 obtain ⟨u', hu, ru⟩ := g9.some_of (v := v) (o := mA f) (by rw [← l]; exact r f)
 unfold getAttr
 refine wpAny_bind (wpAny_mkText ?_)
 refine mM (s := { s1 with toks := s1.toks + 1 }) I1.kIn J g ?_
 refine vj (s := { s1 with toks := s1.toks + 1 }) I1.kIn J c (PySem.W.findObj_own c.hd n rfl (by rw [hl, hu])) ?_
 exact ⟨u', rfl, qy ru, v, H1, I1.tok _, ru, q⟩
def Db (K : Fg) : List V -> Hp -> VK -> Prop := fun xs H Q => ∃ (a C d : Addr) (fs : List (Str × V)) (bm : List Value) (c : V) (b : Bool), xs = [.ref a, c] /\ mW H a C d /\ H d = some (dO d fs) /\ gj K C bm /\ n4 K C ∧
 ((∃ n, c = .ty n /\ PySem.W.kitOne K (.ref C) (.type n) = some b) ∨ (∃ D, c = .ref D /\ PySem.W.kitOne K (.ref C) (.ref D) = some b) ∨
  ∃ (p : Addr) (cs : List Addr), c = .ref p /\ H p = some (.tup (cs.map V.ref)) /\ PySem.W.kitAny K (.ref C) (cs.map Value.ref) = some b) /\ Q (.bl b) H
def Bd (C : Addr) (sp : Sp) (t : TA) : TE := fun σ H Q => t σ H fun vs H1 => vs.length ≤ sizeLine /\ ∀ a, H1 a = none -> sp (.ref a :: vs) (upd H1 a (gP a C none)) (fun v H2 => v = .non /\ Q (.ref a) H2) E0
theorem ui {X : Cx} {pins : bL} {σ : L2.St} {H : Hp} {s : Shared} {h' : Heap} {t' : Nat} {fp : List Addr} (I : Inv X pins σ H s)
  (k : ∀ b o, b ∉ fp -> s.heap.get? b = some o -> h'.get? b = some o) (hf : ∀ b ∈ fp, d0 X pins H b) : Inv X pins σ H { s with heap := h', toks := t' } := by
 have off : ∀ b u, H b = some u -> b ∉ fp := fun b u e z => by rw [(hf b z).1] at e; cases e
 refine I.step (g' := s.gens) (d' := s.drawn) (ch := fp) (fun b hb => ?_) (fun b o _ _ hc e _ => k b o hc e) (fun b o _ _ hc e _ => ⟨o.slots, k b o hc e⟩) (fun _ _ _ _ n => n)
  (fun b o hc e => ⟨o, k b o hc e⟩) (fun _ _ e => e) (fun _ _ _ e => e) (fun b ps e => ⟨#[], by rw [e]; simp⟩) (fun m hm => ?_) (fun b u e => ?_) I.bare
 ·obtain ⟨_, f1, _, f3, f4, f5⟩ := hf b hb
  exact ⟨f3, f1, f4, f5⟩
 ·obtain ⟨o, es, ep, ho, r⟩ := hm
  exact ⟨o, es, ep, k _ o (fun z => (hf _ z).2.1 rfl) ho, r⟩
 ·refine (I.hok b u e).stay (fun c v hc q => k c v ?_ q) (fun _ q => q) fun _ _ q => q
  rcases hc with z | z
  ·rw [z]; exact off b u e
  ·exact off c _ z
section
variable {prog : Program} {w : World} {A : Around} {E : cS} {s : Shared}
structure DC (z TI TO i1 i2 : Addr) : Prop where
 a1 : TI ≠ z
 a2 : TO ≠ z
 a3 : i1 ≠ z
 a4 : i2 ≠ z
 a5 : TI ≠ TO
 a6 : TI ≠ i1
 a7 : TI ≠ i2
 a8 : TO ≠ i1
 a9 : TO ≠ i2
 b1 : i1 ≠ i2
end
theorem uh {X : Cx} {pins : bL} {σ : L2.St} {H : Hp} {s : Shared} {h' : Heap} {t' : Nat} {fp : List Addr} {p : Addr} {v : HO} (I : Inv X pins σ H s)
  (k : ∀ b o, b ∉ fp -> s.heap.get? b = some o -> h'.get? b = some o) (hf : ∀ b ∈ fp, d0 X pins H b) (hp : s.heap.objs.size ≤ p) (new : ObjOk X.prog X.w (upd H p v) h' p v) :
  Inv X pins σ (upd H p v) { s with heap := h', toks := t' } := by
 have off : ∀ b u, H b = some u -> b ∉ fp := fun b u e z => by rw [(hf b z).1] at e; cases e
 have hn : H p = none := I.hok.fresh hp
 have old : ∀ b u, H b = some u -> upd H p v b = some u := fun b u e => by rw [aC (aQ e hn)]; exact e
 refine I.step (g' := s.gens) (d' := s.drawn) (ch := fp) (fun b hb => ?_) (fun b o _ _ hc e _ => k b o hc e) (fun b o _ _ hc e _ => ⟨o.slots, k b o hc e⟩) (fun b o _ e n => ?_)
  (fun b o hc e => ⟨o, k b o hc e⟩) (fun b xs e => old b _ e) (fun b o u e => old b _ e) (fun b ps e => ⟨#[], by rw [old b _ e]; simp⟩) (fun m hm => ?_) (fun b u e => ?_) I.bare
 ·obtain ⟨_, f1, _, f3, f4, f5⟩ := hf b hb
  exact ⟨f3, f1, f4, f5⟩
 ·rw [aC (Nat.ne_of_lt (Nat.lt_of_lt_of_le (Heap.lt_size e) hp))]; exact n
 ·obtain ⟨o, es, ep, ho, r⟩ := hm
  exact ⟨o, es, ep, k _ o (fun z => (hf _ z).2.1 rfl) ho, r⟩
 ·by_cases hb : b = p
  ·subst hb; rw [ah] at e; cases e; exact new
  ·rw [aC hb] at e
   refine (I.hok b u e).stay (fun c v hc q => k c v ?_ q) (fun c q => old c _ q) fun c xs q => old c _ q
   rcases hc with z | z
   ·rw [z]; exact off b u e
   ·exact off c _ z
def Dw (K : Fg) (a b : Addr) : It :=
 ⟨fun i H => ∃ xs ys x y, bt K H a xs /\ bt K H b ys /\ xs[i]? = some x /\ ys[i]? = some y,
  fun i H v H' => ∃ p x y, H p = none /\ v = .ref p /\ H' = upd H p (.tup [x, y]) /\ (∀ xs, bt K H a xs -> xs[i]? = some x) /\ ∀ ys, bt K H b ys -> ys[i]? = some y,
  fun i H => ∃ xs ys, bt K H a xs /\ bt K H b ys /\ (xs.length ≤ i ∨ ys.length ≤ i)⟩
def DT (z TI TO i1 i2 a b : Addr) (i : Nat) (h : Heap) : Prop := IsZip h z TI TO .none /\ IsPair h TI (.ref i1) (.ref i2) /\ (∃ u v, IsPair h TO u v) /\ h.IsTupleIter i1 a i /\ h.IsTupleIter i2 b i
abbrev zA (h : Heap) (a : Addr) : Heap := h.push { cls := .type "tuple_iterator", data := .fields #[.ref a, .int 0 0] }
abbrev zB (h : Heap) (a b : Addr) : Heap := zA (zA h a) b
abbrev zC (h : Heap) (a b : Addr) : Heap := (zB h a b).push { cls := .type "tuple", data := .seq #[.ref h.objs.size, .ref (zA h a).objs.size] }
abbrev zD (h : Heap) (a b : Addr) : Heap := (zC h a b).push { cls := .type "tuple", data := .seq #[.none, .none] }
abbrev zE (h : Heap) (a b : Addr) : Heap := (zD h a b).push { cls := .type "zip", data := .fields #[.none, .bool false, .bool false, .ref (zB h a b).objs.size, .ref (zC h a b).objs.size] }
def Di (K : Fg) (ta : TA) : TI := fun σ H R => ta σ H fun vs H1 => ∃ a b, vs = [.ref a, .ref b] /\ (∃ xs, bt K H1 a xs) /\ (∃ ys, bt K H1 b ys) /\ R (Dw K a b) H1
theorem oq {X : Cx} {pins : bL} {σ : L2.St} {H : Hp} {s : Shared} {a b : Addr} {xs : List V} (I : Inv X pins σ H s) (h : aO X.K H a xs) (f : d0 X pins H b) : a ≠ b := fun z => by
 subst z
 rcases h with (h | ⟨o, h⟩) | ⟨o, its, n, hk, _⟩
 ·rw [f.1] at h; cases h
 ·rw [f.1] at h; cases h
 ·have e := I.ok.mod.kin a o hk
  rcases f.2.2.2.1 with z | z
  ·exact I.ok.noex a o e z
  ·rw [(I.ok.bs a o e).1] at z; cases z
theorem i3 {h h' : Heap} {i a : Addr} {n : Nat} (x : h.IsListIter i a n) (k : ∀ o, h.get? i = some o -> h'.get? i = some o) : h'.IsListIter i a n := x.at k
def BL (K : Fg) (a : Addr) : It :=
 ⟨fun i H => ∃ xs x, bt K H a xs /\ xs[i]? = some x,
  fun i H v H' => ∃ p x, H p = none /\ v = .ref p /\ H' = upd H p (.tup [.int i, x]) /\ ∀ xs, bt K H a xs -> xs[i]? = some x,
  fun i H => ∃ xs, bt K H a xs /\ xs.length ≤ i⟩
def Dk (K : Fg) (ta : TA) : TI := fun σ H R => ta σ H fun vs H1 => ∃ a, vs = [.ref a] /\ (∃ xs, bt K H1 a xs) /\ R (BL K a) H1
def ud (K : Fg) (a : Addr) : It :=
 ⟨fun i H => ∃ xs x, aO K H a xs /\ xs[i]? = some x,
  fun i H v H' => ∃ p x, H p = none /\ v = .ref p /\ H' = upd H p (.tup [.int i, x]) /\ ∀ xs, aO K H a xs -> xs[i]? = some x,
  fun i H => ∃ xs, aO K H a xs /\ xs.length ≤ i⟩
theorem rg {P : Program} {w : World} {K : Fg} {elts : List Expr} {x1} {pos : Pos} {e it a : Addr} (hei : e ≠ it) :
  t7 P w K (.Tuple elts x1 pos) (ud K a) [e, it] e (fun i h => (∃ old, IsEnum h e it (i : Nat) old) /\ h.IsListIter it a i) where
 mem := by simp
 obj := fun i h st c hc => by
  obtain ⟨⟨old, h1⟩, ⟨o2, h2, c2, d2⟩⟩ := st
  simp only [List.mem_cons, List.not_mem_nil, or_false] at hc
  rcases hc with rfl | rfl
  ·exact ⟨_, h1, fun v q => by cases (show Data.fields _ = Data.cell v from q)⟩
  ·exact ⟨o2, h2, fun v q => by rw [d2] at q; cases q⟩
 keep := fun i h h' st k => by
  obtain ⟨⟨old, h1⟩, h2⟩ := st
  exact ⟨⟨old, k e (by simp) _ h1⟩, i3 h2 fun o q => k it (by simp) o q⟩
 item := by
  intro X hP hw hK hc i pins s σ H E I hf st hg
  subst hP hw hK
  obtain ⟨xs, x, q1, hx⟩ := hg
  obtain ⟨its, rv, p1, z1⟩ := I.list q1
  obtain ⟨u, hu, ru⟩ := rv.get hx
  have off : ∀ c ∈ [e, it], a ≠ c := fun c hc => oq I q1 (hf c hc)
  obtain ⟨⟨old, h1⟩, h2⟩ := st
  have hh : X.A.in1.handled = none := I.ok.hd hc
  have na : a ≠ it := off it (by simp)
  have ne : e ∉ [it, a] := fun q => by
   simp only [List.mem_cons, List.not_mem_nil, or_false] at q
   rcases q with q | q
   ·exact hei q
   ·exact off e (by simp) q.symm
  have hi : i < its.toArray.size := by have := (List.getElem?_eq_some_iff.mp hu).1; simpa using this
  have el : e < s.heap.objs.size := Heap.lt_size h1
  have il : it < s.heap.objs.size := by obtain ⟨o2, q2, _⟩ := h2; exact Heap.lt_size q2
  refine wpAny_pyNext_enum_itemD (Draws.list hh it a na its.toArray) h1 ⟨h2, p1.isList⟩ hi hei ne fun v h' tk hv eo st' tup hz hk => ⟨_, rfl, wpAny_letOwnedTupleGo_enum eo fun h'' e2 sb => ?_⟩
  have ev : v = u := by
   have : its.toArray[i]? = some u := by simpa using hu
   rw [this] at hv
   exact (Option.some.inj hv).symm
  subst ev
  have nt : s.heap.objs.size ≠ e := Nat.ne_of_gt el
  have ni : s.heap.objs.size ≠ it := Nat.ne_of_gt il
  have P : ObjOk X.prog X.w (upd H s.heap.objs.size (.tup [.int i, x])) h'' s.heap.objs.size (.tup [.int i, x]) :=
   ⟨by show 2 ≤ sizeLine; decide, [.int i tk, v], .cons ⟨_, rfl⟩ (.cons ru .nil), ⟨_, sb.extBut _ _ nt tup, rfl, _, rfl⟩⟩
  have I2 : Inv X pins σ (upd H s.heap.objs.size (.tup [.int i, x])) { s with heap := h'', toks := tk + 1 } := uh I (fun c o' n q => by
   have n1 : c ≠ e := fun r => n (by simp [r])
   have n2 : c ≠ it := fun r => n (by simp [r])
   exact sb.extBut _ _ n1 (hk c o' n1 n2 q)) hf (Nat.le_refl _) P
  refine ⟨.ref s.heap.objs.size, _, I2, rfl, ⟨_, x, I.fresh, rfl, rfl, fun ys hy => by rw [I.list_inj hy q1]; exact hx⟩, ⟨⟨_, by simpa using e2⟩, i3 st'.1 fun o q => sb.extBut _ _ hei.symm q⟩, fun c hc => ?_⟩
  have lt : c < s.heap.objs.size := by
   simp only [List.mem_cons, List.not_mem_nil, or_false] at hc
   rcases hc with rfl | rfl
   ·exact el
   ·exact il
  rw [aC (Nat.ne_of_lt lt)]
  exact (hf c hc).1
 done := by
  intro X hP hw hK hc i pins s σ H E I hf st hg
  subst hP hw hK
  obtain ⟨xs, q1, hx⟩ := hg
  obtain ⟨its, rv, p1, z1⟩ := I.list q1
  have off : ∀ c ∈ [e, it], a ≠ c := fun c hc => oq I q1 (hf c hc)
  obtain ⟨⟨old, h1⟩, h2⟩ := st
  have hh : X.A.in1.handled = none := I.ok.hd hc
  have hl := rv.length
  have nn : its.toArray[i]? = none := by rw [Array.getElem?_eq_none_iff]; simp; omega
  have hT : s.TypeIs (.ref e) "enumerate" := ⟨_, h1, rfl⟩
  unfold pyNext
  refine wpAny_bind (wpAny_attempt (wpAny_callSpecial?_slot (name := Str.ofString "__next__") hT F.slot_enumerate_next
   (wpAny_call_entry F.slot_enumerate_next hT F.entry_enumerate_next ?_ (F.args_enumerate_next_1 _))))
  show wpAny _ _ (field (.ref e) 2 >>= _) _ _ _
  refine wpAny_bind (wpAny_field h1 rfl (x := .ref it) rfl ?_)
  refine wpAny_bind (wpAny_nextOf_list_end hh h2 p1.isList nn fun h' x he' hx' => ?_)
  obtain ⟨o, ho, hcl⟩ := hx'
  refine wpAny_bind (wpAny_isInstance (T := "StopIteration") (b := true) ⟨o, ho, hcl⟩ isSubtype_stop ?_)
  refine wpAny_pure ⟨rfl, ?_⟩
  exact ui (t' := s.toks) I (fun c o' n q => he' c o' (fun r => n (by simp [r])) q) hf
 self := fun A i s Q E st h => by
  obtain ⟨⟨old, h1⟩, _⟩ := st
  exact wpAny_pyIter_enum h1 h
def Al (K : Fg) (ta : TA) : TI := fun σ H R => ta σ H fun vs H1 => ∃ a, vs = [.ref a] /\ (∃ xs, aO K H1 a xs) /\ R (ud K a) H1
theorem sH {X : Cx} {elts : List Expr} {x1} {tp p pos : Pos} {a : Expr} {ta : TA} (hg : Gl X "enumerate") (hm : X.mg "enumerate" = none) (ha : PA X [a] ta) (hs : starEach [a] X.env = [(false, eval a X.env)] := by rfl) :
  PI X (.Tuple elts x1 tp) (.Call (.Name "enumerate" p) [a] [] pos) (Al X.K ta) := by
 intro pins s σ H R I h
 refine Call_ (fF I hg hm (show bootBuiltins "enumerate" = some (.type "enumerate") by kernel_rfl) (PyProof.Rows.callWith_type1 (bZ (ha pos pins s σ H _ I h) fun us s1 ⟨vs, H1, I1, r1, q1⟩ => ?_) hs rfl))
 obtain ⟨a, e, ⟨xs, hx⟩, q⟩ := q1
 subst e
 obtain ⟨u, rfl, ru⟩ := r1.one
 cases ru
 obtain ⟨its, _, p1, _⟩ := I1.list hx
 refine call_enumerate_list p1.isList fun h' he hi sz kk => wpAny_pyIter_enum he ?_
 have I2 : Inv X pins σ H1 { s1 with heap := h' } := I1.kept (t' := s1.toks) kk
 refine ⟨_, [s1.heap.objs.size + 1, s1.heap.objs.size], _, _, H1, rfl, I2, rg (a := a) (Nat.succ_ne_self _), ⟨⟨_, he⟩, hi⟩, fun c hc => ?_, q⟩
 have le : s1.heap.objs.size ≤ c := by
  simp only [List.mem_cons, List.not_mem_nil, or_false] at hc
  rcases hc with h | h
  ·rw [h]; exact Nat.le_succ _
  ·rw [h]; exact Nat.le_refl _
 exact I1.fpOk le (I1.hok.fresh le)
theorem qz {K : Fg} {a : Addr} {xs : List V} {g : TG} {tb : TS} {D : hU} {σ : L2.St} {H : Hp} (Pv : Nat -> L2.St -> Hp -> Prop) (h0 : Pv 0 σ H)
  (hl : ∀ i σ H, i ≤ xs.length -> Pv i σ H -> aO K H a xs)
  (hs : ∀ i x p σ H, xs[i]? = some x -> Pv i σ H -> H p = none -> g (.ref p) σ (upd H p (.tup [.int i, x])) fun σ2 H2 => tb { D with nx := Pv (i + 1), ct := Pv (i + 1), bk := D.nx } σ2 H2) (hd : ∀ σ H, Pv xs.length σ H -> D.nx σ H) :
  ∃ W : Nat -> Nat -> L2.St -> Hp -> Prop, (∃ m, W 0 m σ H) /\ ∀ i m σ H, W i m σ H →
   ((ud K a).stop i H /\ D.nx σ H) ∨ ((ud K a).go i H /\ ∃ N : L2.St -> Hp -> Prop, (∀ σ' H', N σ' H' -> ∃ m', m' < m /\ W (i + 1) m' σ' H') /\ ∀ x H', (ud K a).yld i H x H' -> g x σ H' fun σ2 H2 => tb { D with nx := N, ct := N, bk := D.nx } σ2 H2) := by
 refine ⟨fun i m σ H => m = xs.length - i /\ i ≤ xs.length /\ Pv i σ H, ⟨_, rfl, Nat.zero_le _, h0⟩, ?_⟩
 rintro i m σ H ⟨rfl, hi, p⟩
 have q := hl i σ H hi p
 by_cases hlt : i < xs.length
 ·refine .inr ⟨⟨xs, _, q, List.getElem?_eq_getElem hlt⟩, Pv (i + 1), fun σ' H' p' => ⟨xs.length - (i + 1), by omega, rfl, hlt, p'⟩, fun x H' y => ?_⟩
  obtain ⟨pp, v, hp, rfl, rfl, hv⟩ := y
  exact hs i v pp σ _ (hv xs q) p hp
 ·have e : i = xs.length := by omega
  subst e
  exact .inl ⟨⟨xs, q, Nat.le_refl _⟩, hd σ H p⟩
section
variable {prog : Program} {w : World} {A : Around} {E : cS}
end
def Dl (K : Fg) (n : Nat) (t : qN) : TG := fun v σ H Q => ∃ a xs, v = .ref a /\ aO K H a xs /\ xs.length = n /\ t xs σ H Q
section
variable {prog : Program} {w : World} {A : Around} {E : cS} {s : Shared}
open HT in
theorem lU {t sl : Addr} {items : Array Value} {vl vu : Value} {lo hi : Option Int} {Q : cS} (ht : IsTup s.heap t items) (hs : s.heap.IsSliceOf sl vl vu .none) (pl : IsPart vl lo) (pu : IsPart vu hi)
  (h1 : sIx items.size 0 lo = 0) (h2 : sIx items.size items.size hi = items.size) (h : Q (.ref t) s) : wpAny (model prog w) A (getItem (.ref t) (.ref sl)) Q E s := by
 obtain ⟨os, hos, hcs, hds⟩ := id hs
 have hTs : s.TypeIs (.ref sl) "slice" := ⟨os, hos, hcs⟩
 unfold getItem
 try with_reducible refine wpAny_holding ?_
 first | refine wpAny_bind (wpAny_pure ?_) | skip
 refine wpAny_bind (wpAny_sequenceKey ht.typeIs (by decide) ?_)
 refine wpAny_bind (wpAny_callSpecial?_slot (name := Str.ofString "__getitem__") ht.typeIs PyProof.Rows.slot_tuple_getitem
  (wpAny_call_entry PyProof.Rows.slot_tuple_getitem ht.typeIs entry_tuple_getitem ?_ (args_tuple_getitem _ _)))
 show wpAny _ _ (Builtin.Tuple.tupleItemsOf (.ref t) >>= _) _ _ s
 refine wpAny_bind (tupleItemsOf_ ht ?_)
 refine wpAny_bind (wpAny_typeOf hTs ?_)
 rw [if_pos (by decide)]
 refine wpAny_bind (eS hs pl pu ?_)
 have hyes : ((((sIx items.size 0 lo : Nat) : Int) == 0 && (1 : Int) == 1 && (sIx items.size items.size hi - sIx items.size 0 lo) == items.size) = true) := by
  rw [h1, h2]; simp
 show wpAny _ _ (if (((sIx items.size 0 lo : Nat) : Int) == 0 && (1 : Int) == 1 && (sIx items.size items.size hi - sIx items.size 0 lo) == items.size) = true then _ else _) _ _ s
 rw [if_pos hyes]
 refine wpAny_bind ?_
 unfold Builtin.Tuple.tupleIsExact
 refine wpAny_bind (wpAny_typeOf ht.typeIs ?_)
 refine wpAny_pure ?_
 rw [if_pos (by decide)]
 exact wpAny_bind (wpAny_rule (wpAny_pure ⟨_, rfl, wpAny_pure h⟩))
end
def zy (K : Fg) : V -> Option Int -> Option Int -> Hp -> VK -> Prop := fun x lo hi H Q => ∃ a xs, x = .ref a /\ bt K H a xs /\ HT.sIx xs.length 0 lo = 0 /\ HT.sIx xs.length xs.length hi = xs.length /\ Q (.ref a) H
theorem um {X : Cx} : qV X (zy X.K) := by
 intro pins s σ H x v vl vu lo hi sl Q I rx hs pl pu h
 obtain ⟨a, xs, rfl, hx, h1, h2, q⟩ := h
 cases rx
 obtain ⟨its, r, ht, hz⟩ := I.tuple hx
 have hlen : its.toArray.size = xs.length := by rw [List.size_toArray]; exact r.length.symm
 refine ⟨"tuple", _, PyProof.Rows.slot_tuple_getitem.lookup, ht.typeIs, ?_⟩
 exact lU ht hs pl pu (by rw [hlen]; exact h1) (by rw [hlen]; exact h2) ⟨.ref a, H, I, rfl, q⟩
theorem uq {X : Cx} : qV X (fun x lo hi H Q => zy X.K x lo hi H Q ∨ zF X.K x lo hi H Q) := qV.or um ww
end B
namespace B
theorem ye {a b c d : Int} (hb : 0 < b) (hd : 0 < d) (e : a * d = c * b) : cy a b = cy c d := by
 have hr := k4 (a := c) hd
 have hc := jU (a := c) hd
 generalize cy c d = m at hr hc ⊢
 refine fB hb hr.pos hr.cop ?_
 refine Int.eq_of_mul_eq_mul_right (show d ≠ 0 by omega) ?_
 have e1 : m.1 * b * d = m.1 * d * b := by ac_rfl
 have e2 : a * m.2 * d = a * d * m.2 := by ac_rfl
 rw [e1, hc, e2, e]
 ac_rfl
structure Bq (D N : Nat) (r : R) : Prop where
 pos : 0 < r.2
 cop : Int.gcd r.1 r.2 = 1
 dvd : r.2 ∣ (D : Int)
 le : r.1.natAbs ≤ N * r.2.natAbs
theorem Bq.red {D N : Nat} {r : R} (h : Bq D N r) : ua r := ⟨h.pos, h.cop⟩
theorem tX {D N : Nat} {a b : Int} (hb : 0 < b) (hd : b ∣ (D : Int)) (hl : a.natAbs ≤ N * b.natAbs) : Bq D N (cy a b) := by
 obtain ⟨g, x, y, e0, gp, e1, e2, c⟩ := fR (a := a) hb
 have yp := iR hb gp e2
 have e : cy a b = (x, y) := by
  unfold cy
  rw [e0, show a / g = x by rw [e1]; exact Int.mul_ediv_cancel_left _ (by omega), show b / g = y by rw [e2]; exact Int.mul_ediv_cancel_left _ (by omega)]
 rw [e]
 refine ⟨yp, c, Int.dvd_trans ⟨g, by rw [e2, Int.mul_comm]⟩ hd, ?_⟩
 rw [e1, e2, Int.natAbs_mul, Int.natAbs_mul] at hl
 have gn : 0 < g.natAbs := by omega
 refine Nat.le_of_mul_le_mul_left (c := g.natAbs) ?_ gn
 show g.natAbs * x.natAbs ≤ g.natAbs * (N * y.natAbs)
 rw [Nat.mul_left_comm]
 exact hl
theorem Bq.mono {D N D' N' : Nat} {r : R} (h : Bq D N r) (hd : D ∣ D') (hn : N ≤ N') : Bq D' N' r :=
 ⟨h.pos, h.cop, Int.dvd_trans h.dvd (Int.ofNat_dvd.mpr hd), Nat.le_trans h.le (Nat.mul_le_mul_right _ hn)⟩
theorem Bq.plus {D N M : Nat} {r q : R} (hD : 0 < D) (h : Bq D N r) (k : Bq D M q) : Bq D (N + M) (bu r q) := by
 obtain ⟨y, ey⟩ := h.dvd
 obtain ⟨v, ev⟩ := k.dvd
 have dp : (0 : Int) < (D : Int) := by omega
 have e : bu r q = cy (r.1 * y + q.1 * v) (D : Int) := by
  unfold bu
  refine ye (Int.mul_pos h.pos k.pos) dp ?_
  rw [Int.add_mul, Int.add_mul]
  have a1 : r.1 * q.2 * (D : Int) = r.1 * y * (r.2 * q.2) := by rw [ey]; ac_rfl
  have a2 : q.1 * r.2 * (D : Int) = q.1 * v * (r.2 * q.2) := by rw [ev]; ac_rfl
  rw [a1, a2]
 rw [e]
 refine tX dp (Int.dvd_refl _) ?_
 have b1 : (r.1 * y).natAbs ≤ N * D := by
  have : (D : Int).natAbs = r.2.natAbs * y.natAbs := by rw [ey, Int.natAbs_mul]
  rw [Int.natAbs_mul]
  have z := Nat.mul_le_mul_right y.natAbs h.le
  rw [Nat.mul_assoc, ← this] at z
  simpa using z
 have b2 : (q.1 * v).natAbs ≤ M * D := by
  have : (D : Int).natAbs = q.2.natAbs * v.natAbs := by rw [ev, Int.natAbs_mul]
  rw [Int.natAbs_mul]
  have z := Nat.mul_le_mul_right v.natAbs k.le
  rw [Nat.mul_assoc, ← this] at z
  simpa using z
 have b3 := Int.natAbs_add_le (r.1 * y) (q.1 * v)
 have b4 : (D : Int).natAbs = D := Int.natAbs_natCast D
 rw [b4, Nat.add_mul]
 omega
theorem Bq.neg {D N : Nat} {r : R} (h : Bq D N r) : Bq D N (-r.1, r.2) := ⟨h.pos, by show Int.gcd (-r.1) r.2 = 1; rw [Int.neg_gcd]; exact h.cop, h.dvd, by show (-r.1).natAbs ≤ _; rw [Int.natAbs_neg]; exact h.le⟩
theorem Bq.minus {D N M : Nat} {r q : R} (hD : 0 < D) (h : Bq D N r) (k : Bq D M q) : Bq D (N + M) (cI r q) := by
 rw [← gA]
 exact h.plus hD k.neg
theorem Bq.times {D N E M : Nat} {r q : R} (h : Bq D N r) (k : Bq E M q) : Bq (D * E) (N * M) (iA r q) := by
 refine tX (Int.mul_pos h.pos k.pos) ?_ ?_
 ·rw [Int.natCast_mul]; exact Int.mul_dvd_mul h.dvd k.dvd
 ·rw [Int.natAbs_mul, Int.natAbs_mul]
  have z := Nat.mul_le_mul h.le k.le
  calc r.1.natAbs * q.1.natAbs ≤ N * r.2.natAbs * (M * q.2.natAbs) := z
   _ = N * M * (r.2.natAbs * q.2.natAbs) := by ac_rfl
theorem Bq.bot {D N : Nat} {r : R} (hD : 0 < D) (h : Bq D N r) : r.2.natAbs ≤ D := by
 have := Int.natAbs_dvd_natAbs.mpr h.dvd
 rw [Int.natAbs_natCast] at this
 exact Nat.le_of_dvd hD this
theorem Bq.wf {D N n : Nat} {r : R} (h : Bq D N r) (hD : 0 < D) (h1 : D < 2 ^ n) (h2 : N * D < 2 ^ n) : Wf n r :=
 ⟨h.pos, Nat.lt_of_le_of_lt (Nat.le_trans h.le (Nat.mul_le_mul_left _ (h.bot hD))) h2, Nat.lt_of_le_of_lt (h.bot hD) h1, h.cop⟩
theorem mH {r q : R} : cR r q = true ↔ r.1 * q.2 < q.1 * r.2 := by unfold cR; exact decide_eq_true_iff
theorem i4 {r q : R} : cR r q = false ↔ q.1 * r.2 ≤ r.1 * q.2 := by unfold cR; rw [decide_eq_false_iff_not, Int.not_lt]
theorem qp {a b : R} (h : cR a b = true) : cR b a = false := by
 rw [mH] at h
 rw [i4]
 omega
theorem nJ {a b : Int} (ha : 0 ≤ a) : 0 ≤ (cy a b).1 := Int.ediv_nonneg ha (by omega)
theorem oE {r q : R} (hr : ua r) (hq : ua q) (h1 : 0 ≤ r.1) (h2 : 0 ≤ q.1) : 0 ≤ (bu r q).1 :=
 nJ (Int.add_nonneg (Int.mul_nonneg h1 (Int.le_of_lt hq.pos)) (Int.mul_nonneg h2 (Int.le_of_lt hr.pos)))
end B
namespace B
open PySem PySem.Spec L2 PyProof.Rows
inductive Rl where
 | pow (k : Int)
 | tab (rows : List (R × R))
def nA : R × R := ((0, 1), (0, 1))
def wt (lo hi : R × R) : R := zZ (cI hi.2 lo.2) (cI hi.1 lo.1)
def AK (rows : List (R × R)) (k : Nat) : R := wt (rows.getD k nA) (rows.getD (k + 1) nA)
def zY (rows : List (R × R)) (s : R) : Nat := rows.countP fun r => cR r.1 s
def zN (rows : List (R × R)) (s : R) : Nat := rows.countP fun r => !cR s r.1
def Aj (rows : List (R × R)) (s : R) : R := if zY rows s = 0 then (0, 1) else AK rows (zY rows s - 1)
def wO (rows : List (R × R)) (s : R) : Option R := if zN rows s < rows.length then some (AK rows (zN rows s - 1)) else none
def zQ (k : Int) (s : R) : R := iA (k, 1) (zR s (k - 1).toNat)
def AL : Rl -> R -> R × Option R
 | .pow k, s => (zQ k s, some (zQ k s))
 | .tab rows, s => (Aj rows s, wO rows s)
def Dz (rows : List (R × R)) : Prop := rows.Pairwise fun a b => cR a.1 b.1 = true
def DF (rows : List (R × R)) : Prop := ∀ r ∈ rows, 0 < r.1.2
abbrev D0 : Nat := 5822723907000000000
abbrev N0 : Nat := 1000000007
abbrev N1 : Nat := 17179869184
abbrev NR : Nat := 11000000077
abbrev N2 : Nat := 1180591620717411303424
structure yG (rows : List (R × R)) : Prop where
 n2 : 2 ≤ rows.length
 n12 : rows.length ≤ 12
 inc : Dz rows
 zero : ∃ y, rows[0]? = some ((0, 1), y)
 sp : ∀ r ∈ rows, Bq D0 NR r.1
 pw : ∀ r ∈ rows, Bq (D0 * D0) N2 r.2
def Dp : Rl -> Prop
 | .pow k => 2 ≤ k /\ k ≤ 4
 | .tab rows => yG rows
structure Do (s : R) : Prop where
 bq : Bq (D0 * 2) N1 s
 nn : 0 ≤ s.1
def CG : Rl -> R -> Prop
 | .pow _, _ => True
 | .tab rows, s => ∃ r, rows[rows.length - 1]? = some r /\ cR r.1 s = false
def DP (rows : List (R × R)) (s : R) (i : Nat) : R := if 0 < zY rows s /\ zY rows s - 1 < i then AK rows (zY rows s - 1) else (0, 1)
def DO (rows : List (R × R)) (s : R) (i : Nat) : Option R := if 0 < zN rows s /\ zN rows s - 1 < i then some (AK rows (zN rows s - 1)) else none
def Cn (k : Int) (s : R) (j : Nat) : R := cy (k * s.1 ^ j) (s.2 ^ j)
def Cw (l : R) (r : Option R) (g : R) : Bool := !cR g l && (match r with | none => true | some x => !cR x g)
end B
namespace B
def val (r : R) : Rat := (r.1 : Rat) / (r.2 : Rat)
theorem d6 {b : Int} (h : 0 < b) : (b : Rat) ≠ 0 := fun z => by
 have : b = 0 := Rat.intCast_inj.mp (by rw [z]; rfl)
 omega
theorem wc {r : R} {a b : Int} (hr : 0 < r.2) (hb : (b : Rat) ≠ 0) (h : r.1 * b = a * r.2) : val r = (a : Rat) / (b : Rat) := by
 have h2 : (r.1 : Rat) * (b : Rat) = (a : Rat) * (r.2 : Rat) := by rw [← Rat.intCast_mul, ← Rat.intCast_mul, h]
 have h1 := d6 hr
 unfold val
 generalize (r.1 : Rat) = x at *
 generalize (r.2 : Rat) = y at *
 generalize (a : Rat) = u at *
 generalize (b : Rat) = v at *
 grind
theorem wd {a b : Int} (hb : 0 < b) : val (cy a b) = (a : Rat) / (b : Rat) := wc (k4 hb).pos (d6 hb) (jU hb)
theorem pj {r q : R} (hr : 0 < r.2) (hq : 0 < q.2) : val (cI r q) = val r - val q := by
 unfold cI
 rw [wd (Int.mul_pos hr hq)]
 have h1 := d6 hr
 have h2 := d6 hq
 unfold val
 rw [Rat.intCast_sub, Rat.intCast_mul, Rat.intCast_mul, Rat.intCast_mul]
 generalize (r.1 : Rat) = x at *
 generalize (r.2 : Rat) = y at *
 generalize (q.1 : Rat) = u at *
 generalize (q.2 : Rat) = v at *
 grind
theorem ug {r q : R} (hr : ua r) (hq : ua q) (h : val r = val q) : r = q := by
 have h1 := d6 hr.pos
 have h2 := d6 hq.pos
 have e : r.1 * q.2 = q.1 * r.2 := by
  refine Rat.intCast_inj.mp ?_
  rw [Rat.intCast_mul, Rat.intCast_mul]
  unfold val at h
  generalize (r.1 : Rat) = x at *
  generalize (r.2 : Rat) = y at *
  generalize (q.1 : Rat) = u at *
  generalize (q.2 : Rat) = v at *
  grind
 have e1 : cy r.1 r.2 = (r.1, r.2) := fB hr.pos hr.pos hr.cop rfl
 have e2 : cy r.1 r.2 = (q.1, q.2) := fB hr.pos hq.pos hq.cop e.symm
 exact e1.symm.trans e2
theorem qX {r : R} (hr : 0 < r.2) : val r = 0 ↔ r.1 = 0 := by
 have h1 := d6 hr
 unfold val
 constructor
 ·intro h
  refine Rat.intCast_inj.mp ?_
  show (r.1 : Rat) = ((0 : Int) : Rat)
  rw [show ((0 : Int) : Rat) = 0 from rfl]
  generalize (r.1 : Rat) = x at *
  generalize (r.2 : Rat) = y at *
  grind
 ·intro h
  rw [h]
  show ((0 : Int) : Rat) / _ = 0
  rw [show ((0 : Int) : Rat) = 0 from rfl]
  generalize (r.2 : Rat) = y at *
  grind
end B
namespace B
def DL (rows : List (R × R)) (i : Nat) : Rat := (val (rows.getD (i + 1) nA).2 - val (rows.getD i nA).2) / (val (rows.getD (i + 1) nA).1 - val (rows.getD i nA).1)
section
variable {s p : Nat -> Rat} {n : Nat}
def sl (s p : Nat -> Rat) (i : Nat) : Rat := (p (i + 1) - p i) / (s (i + 1) - s i)
end
end B
namespace B
open PySem PySem.Spec L2 PyProof.Rows
structure QE (X : Cx) (e : Expr) (t : TE) : Prop where
 p : PE X e t
structure QT (X : Cx) (e : Expr) (t : TT) : Prop where
 p : PT X e t
structure QW (X : Cx) (e : Expr) (t : TT) : Prop where
 p : PW X e t
structure QA (X : Cx) (es : List Expr) (t : TA) : Prop where
 p : PA X es t
structure QS (X : Cx) (st : Stmt) (t : TS) : Prop where
 p : PS X st t
structure dN (X : Cx) (st : List Stmt) (t : TS) : Prop where
 p : kh X st t
structure QI (X : Cx) (tg iter : Expr) (wi : TI) : Prop where
 p : PI X tg iter wi
structure QG (X : Cx) (target : Expr) (t : TG) : Prop where
 p : PG X target t
structure Av (X : Cx) (ts : List Expr) (t : qN) : Prop where
 p : yV X ts t
theorem dN.ok {X : Cx} {b : List Stmt} {t : TS} {D : hU} {σ : L2.St} {H : Hp} (h : dN X b t) (r : t D σ H) : ∃ t : TS, kh X b t /\ t D σ H := ⟨t, h.p, r⟩
structure QO (X : Cx) (o : Option Expr) (t : L2.TO) : Prop where
 p : PO X o t
section
set_option autoImplicit true
set_option relaxedAutoImplicit true
theorem qv  (i : Nat) {x : Str} {pos : Pos} (hN : X.N[i]? = some x := by rfl) (hv : AY X.env.scope x := by first | exact Or.inl rfl | exact Or.inr (Or.inl rfl) | exact Or.inr (Or.inr rfl)) (hd : (x == ("__debug__" : Str)) = false := by decide) (hcd : (x == ("__classdict__" : Str)) = false := by decide) : QE X (.Name x pos) (wm i) := ⟨pv i hN hv hd hcd⟩
theorem ai  {i j pos} : QE X (.Constant (.int i) j pos) (tC (.int i)) := ⟨xo ⟩
theorem cL  {b j pos} : QE X (.Constant (.bool b) j pos) (tC (.bl b)) := ⟨zX ⟩
theorem dr  {j pos} : QE X (.Constant .none j pos) (tC .non) := ⟨xm ⟩
theorem dg  {x : Str} {v : V} {u : Value} {pos : Pos} (hg : Gl X x) (hm : X.mg x = some u) (r : bn v u) (hd : (x == ("__debug__" : Str)) = false := by decide) : QE X (.Name x pos) (tC v) := ⟨uT hg hm r hd⟩
theorem aB  {x : Str} {v : V} {u : Value} {pos : Pos} (hg : Gl X x) (hm : X.mg x = none) (hv : bootBuiltins x = some u) (r : bn v u) (hn : x ≠ "__name__" := by decide) (hd : (x == ("__debug__" : Str)) = false := by decide) : QE X (.Name x pos) (tC v) := ⟨uX hg hm hv r hn hd⟩
theorem oB  {op : UnaryOp} {r : V -> Hp -> VK -> Prop} (ho : AZ X (unaryOp op) r) (ha : QE X a ta) : QE X (.UnaryOp op a pos) (BV r ta) := ⟨zT ho ha.p⟩
theorem iQ  (ha : QE X a ta) : QE X (.UnaryOp .Not a pos) (vJ ta) := ⟨xk ha.p⟩
theorem aS  {op : Operator} {r : R2} (ho : e9 X (binaryOp op) r) (ha : QE X a ta) (hb : QE X b tb) : QE X (.BinOp a op b pos) (uj r ta tb) := ⟨zU ho ha.p hb.p⟩
theorem di  {op} {t : TE} (h : QE X a t) : QE X (.BoolOp op [a] pos) t := ⟨xj h.p⟩
theorem cE {cT : List Expr} (ha : QE X a ta) (hb : QE X (.BoolOp .And (b :: cT) pos) tb) : QE X (.BoolOp .And (a :: b :: cT) pos) (vP ta tb) := ⟨xq ha.p hb.p⟩
theorem bC  {op : CmpOp} {r : R2} (ho : e9 X (compareOp op) r) (ha : QE X a ta) (hb : QE X b tb) (hm : behindInMarks op b = false) : QE X (.Compare a [op] [b] pos) (uj r ta tb) := ⟨uV ho ha.p hb.p hm⟩
theorem mC  {op op' : CmpOp} {r r' : R2} (ho : e9 X (compareOp op) r) (ho' : e9 X (compareOp op') r') (ha : QE X a ta) (hb : QE X b tb) (hc : QE X c tc) (hm : lastMarks [op, op'] [b, c] = false := by with_unfolding_all rfl) : QE X (.Compare a [op, op'] [b, c] pos) (kq r r' ta tb tc) := ⟨sP ho ho' ha.p hb.p hc.p hm⟩
theorem mB  {c : Expr} (hc : QT X c tA) (ha : QE X a ta) (hb : QE X b tb) : QE X (.IfExp c a b pos) (B5 tA ta tb) := ⟨sO hc.p ha.p hb.p⟩
theorem bY  (h : QA X es t) : QE X (.List es pos) (zj t) := ⟨xn h.p⟩
theorem bI  {x1} (h : QA X es t) : QE X (.Tuple es x1 pos) (zd t) := ⟨xi h.p⟩
theorem mz {lo hi : Option Expr} {r : V -> Option Int -> Option Int -> Hp -> VK -> Prop} (hr : qV X r) (he : QE X e te) (hl : QO X lo tl) (hu : QO X hi th) : QE X (.Subscript e (.Slice lo hi none p2) pos) (BX r te tl th) := ⟨sM hr he.p hl.p hu.p⟩
theorem uA   : QO X none on := ⟨uM ⟩
theorem kW  (h : QE X e te) : QO X (some e) (vI te) := ⟨uL h.p⟩
theorem bj  {r : R2} (hr : yM X r) (ha : QE X a ta) (hb : QE X b tb) (hs : lG b) : QE X (.Subscript a b pos) (uj r ta tb) := ⟨zV hr ha.p hb.p hs⟩
theorem dM  (F : bB X.prog X.w X.K X.mg X.base CX k f fd ps sp) (hr : cQ k X.A) (hg : Gl X x) (hm : X.mg x = some (.ref f)) (hk : PySem.W.keepIn X.K (.ref f) = true) (hb : aZ X.K fd ps ds) (hd : aW dvs ds) (hx : fK CX X E) (ha : QA X (e :: es) t) (hdb : (x == ("__debug__" : Str)) = false := by decide) (he : starEach (e :: es) X.env = (false, eval e X.env) :: starEach es X.env := by rfl) (hpl : (backTo pos (starEach es X.env)).any (·.1) = false := by rfl) : QE X (.Call (.Name x p) (e :: es) [] pos) (lV sp dvs E t) := ⟨uW F hr hg hm hk hb hd hx ha.p hdb he hpl⟩
theorem aj {id : String} (hc : df X (.builtin id) r) (hg : Gl X x) (hm : X.mg x = none) (hv : bootBuiltins x = some (.builtin id)) (ha : QA X (e :: es) t) (hn : x ≠ "__name__" := by decide) (hdb : (x == ("__debug__" : Str)) = false := by decide) (he : starEach (e :: es) X.env = (false, eval e X.env) :: starEach es X.env := by rfl) (hpl : (backTo pos (starEach es X.env)).any (·.1) = false := by rfl) : QE X (.Call (.Name x p) (e :: es) [] pos) (AE r t) := ⟨sS hc hg hm hv ha.p hn hdb he hpl⟩
theorem bK  (hc : df X (.type T) r) (hg : Gl X x) (hm : X.mg x = none) (hv : bootBuiltins x = some (.type T)) (ha : QA X (e :: es) t) (hn : x ≠ "__name__" := by decide) (hdb : (x == ("__debug__" : Str)) = false := by decide) (he : starEach (e :: es) X.env = (false, eval e X.env) :: starEach es X.env := by rfl) (hpl : (backTo pos (starEach es X.env)).any (·.1) = false := by rfl) : QE X (.Call (.Name x p) (e :: es) [] pos) (AE r t) := ⟨qh hc hg hm hv ha.p hn hdb he hpl⟩
theorem fz {id : String} (pa : PlainAttrs T) (slot : Slot T name id) (hty : typeOf (.builtin id) = pure (.type "method_descriptor")) (hm : A4 X id r) (ho : QE X o to) (ha : QA X (e :: es) t) (hbase : attributeBase o name X.env (eval o X.env) = eval o X.env := by rfl) (hfew : ((backTo cpos (starEach (e :: es) X.env)).all (fun x => !x.1) && (backToKw cpos (keywordEach [] X.env)).all (fun x => x.1.isSome)
   && decide ((e :: es).length + ([] : List Keyword).length + (if ([] : List Keyword).isEmpty then 0 else 1) < 30)) = true := by rfl) (hline : (apos.endLine == cpos.line) = true := by rfl) (hs : starEach (e :: es) X.env = (false, eval e X.env) :: starEach es X.env := by rfl) (hplain : (backTo cpos (starEach es X.env)).any (·.1) = false := by rfl) : QE X (.Call (.Attribute o name apos) (e :: es) [] cpos) (B8 X.K T r to t) := ⟨zW pa slot hty hm ho.p ha.p hbase hfew hline hs hplain⟩
theorem wT {id : String} (pa : PlainAttrs T) (slot : Slot T name id) (hty : typeOf (.builtin id) = pure (.type "method_descriptor")) (hm : A4 X id r) (ho : QE X o to) (hbase : attributeBase o name X.env (eval o X.env) = eval o X.env := by rfl) (hline : (apos.endLine == cpos.line) = true := by rfl) : QE X (.Call (.Attribute o name apos) [] [] cpos) (zn X.K T r to) := ⟨xp pa slot hty hm ho.p hbase hline⟩
theorem af   : QA X [] zi := ⟨xt ⟩
theorem ad  (ha : QE X e te) (hr : QA X es t) (hs : starEach (e :: es) X.env = (false, eval e X.env) :: starEach es X.env := by rfl) : QA X (e :: es) (vO te t) := ⟨uY ha.p hr.p hs⟩
theorem ay  {op : CmpOp} {r : R2} (ho : e9 X (compareOp op) r) (ha : QE X a ta) (hb : QE X b tb) (hm : behindInMarks op b = false) : QT X (.Compare a [op] [b] pos) (ol (uj r ta tb)) := ⟨uF ho ha.p hb.p hm⟩
theorem rX  {op op' : CmpOp} {r r' : R2} (ho : e9 X (compareOp op) r) (ho' : e9 X (compareOp op') r') (ha : QE X a ta) (hb : QE X b tb) (hc : QE X c tc) (hm : lastMarks [op, op'] [b, c] = false := by with_unfolding_all rfl) : QT X (.Compare a [op, op'] [b, c] pos) (ol (kq r r' ta tb tc)) := ⟨sj ho ho' ha.p hb.p hc.p hm⟩
theorem bp  {e : Expr} {t : TE} (h : QE X e t) (he : ∀ whole, isTrue e X.env whole = (do let v ← whole; standAt e.pos; holding [v] (truthy v)) := by intro _; rfl) : QT X e (tB t) := ⟨wY h.p he⟩
theorem kT  (ha : QT X a tA) : QT X (.UnaryOp .Not a pos) (zh tA) := ⟨wZ ha.p⟩
theorem gY {cT : List Expr} (ha : QT X a tA) (hb : QW X (.BoolOp .And (b :: cT) pos) tB') : QW X (.BoolOp .And (a :: b :: cT) pos) (zo tA tB') := ⟨wV ha.p hb.p⟩
theorem gv  (ha : QT X a tA) : QW X (.BoolOp .And [a] pos) tA := ⟨uC ha.p⟩
theorem fw {cT : List Expr} (ha : QT X a tA) (hb : QW X (.BoolOp .Or (b :: cT) pos) tB') : QW X (.BoolOp .Or (a :: b :: cT) pos) (B1 tA tB') := ⟨zO ha.p hb.p⟩
theorem ee  (ha : QT X a tA) : QW X (.BoolOp .Or [a] pos) tA := ⟨wU ha.p⟩
theorem d4  {X : Cx} {e : Expr} {t : TT} (h : QW X e t) : QT X e t := ⟨PW.pt h.p⟩
theorem wS  {i : Nat} {x : Str} {e : Expr} {te : TE} {pos' : Pos} (hN : X.N.Nodup) (hi : X.N[i]? = some x) (hx : ub X.env.scope x) (he : QE X e te) (hs : swapsWith e (some (.Name x pos')) pos.line X.env = pure false := by rfl) (hf : X.fn x = true ∨ X.env.scope.names.lookup x = some .local := by first | exact .inl rfl | exact .inr rfl | assumption) : QS X (.Assign [.Name x pos'] e pos) (kr te (gF i)) := ⟨w4 hN hi hx he.p hs hf⟩
theorem nC  {i j : Nat} {x y : Str} {a b : Expr} {ta : TA} {px py pt : Pos} {kt k2 pt2} (hc : X.calm = true) (hN : X.N.Nodup) (hi : X.N[i]? = some x) (hj : X.N[j]? = some y) (hij : i ≠ j) (hx : X.env.scope.names.lookup x = some .local) (hy : X.env.scope.names.lookup y = some .local) (ha : QA X [a, b] ta) (hw : swappedStores [.Tuple [.Name x px, .Name y py] kt pt] (.Tuple [a, b] k2 pt2) X.env = pure (some [x, y])) (hs : swapsWithSole [.Tuple [.Name x px, .Name y py] kt pt] (.Tuple [a, b] k2 pt2) pos.line X.env = pure false := by rfl) : QS X (.Assign [.Tuple [.Name x px, .Name y py] kt pt] (.Tuple [a, b] k2 pt2) pos) (zg i j ta) := ⟨w9 hc hN hi hj hij hx hy ha.p hw hs⟩
theorem ef  {tg e : Expr} {te : TE} {g : TG} (he : QE X e te) (hg : QG X tg g) (hs : swapsWithSole [tg] e pos.line X.env = pure false := by rfl) (hw : swappedStores [tg] e X.env = pure none := by rfl) (h1 : (assignEach [tg] X.env).map (·.2) = [assign tg X.env] := by rfl) : QS X (.Assign [tg] e pos) (kr te g) := ⟨xc he.p hg.p hs hw h1⟩
theorem aU  {c : Expr} {a b : List Stmt} {tc : TT} (hc : QT X c tc) (ha : dN X a t) (hb : dN X b u) : QS X (.If c a b pos) (zk tc t u) := ⟨zP hc.p ha.p hb.p⟩
theorem eU  {c : Expr} {body : List Stmt} {tc : TT} {tb : TS} (hp : PassesOwn (model X.prog X.w) X.A X.env X.xe) (hc : QT X c tc) (hb : dN X body tb) : QS X (.While c body [] pos) (rj tc tb) := ⟨sq hp hc.p hb.p⟩
theorem cP  {iter : Expr} {body : List Stmt} {wi : TI} {g : TG} {tb : TS} {pos : Pos} (hp : PassesOwn (model X.prog X.w) X.A X.env X.xe) (hc : X.calm = true) (hi : QI X tg iter wi) (hg : QG X tg g) (hb : dN X body tb) (hs : ∀ x, foldedSetIterable iter X.env x = pure x := by intro _; rfl) : QS X (.For tg iter body [] pos) (zm wi g tb) := ⟨xb hp hc hi.p hg.p hb.p hs⟩
theorem az  (he : QE X e te) : QS X (.Return (some e) pos) (zf te) := ⟨w6 he.p⟩
theorem cX  (he : QE X e te) (hs : swapsWith e none pos.line X.env = pure false := by rfl) : QS X (.Expr e pos) (vM te) := ⟨uK he.p hs⟩
theorem my   : QS X (.Continue pos) vN := ⟨mD ⟩
theorem iP {st : Stmt}  : QS X st rB := ⟨sw ⟩
theorem aD   : dN X [] vK := ⟨uH ⟩
theorem ao {st : Stmt} (h1 : QS X st t) : dN X [st] t := ⟨uG h1.p⟩
theorem ag {st : Stmt} {cT : List Stmt} (h1 : QS X st t) (h2 : dN X cT u) : dN X (st :: cT) (ze t u) := ⟨so h1.p h2.p⟩
theorem bD  {a : Expr} {ta : TA} {p pos : Pos} (hg : Gl X "range") (hm : X.mg "range" = none) (ha : QA X [a] ta) (hs : starEach [a] X.env = [(false, eval a X.env)] := by rfl) : QI X tg (.Call (.Name "range" p) [a] [] pos) (vX ta) := ⟨qg hg hm ha.p hs⟩
theorem qa  {a b : Expr} {ta : TA} {p pos : Pos} (hg : Gl X "range") (hm : X.mg "range" = none) (ha : QA X [a, b] ta) (hs : starEach [a, b] X.env = [(false, eval a X.env), (false, eval b X.env)] := by rfl) (hs2 : starEach [b] X.env = [(false, eval b X.env)] := by rfl) : QI X tg (.Call (.Name "range" p) [a, b] [] pos) (vW ta) := ⟨qf hg hm ha.p hs hs2⟩
theorem bG {tg : Expr} {l : Expr} {tl : TE} (hl : QE X l tl) : QI X tg l (tG X.K tl) := ⟨uO hl.p⟩
theorem fc  {l : Expr} {tl : TE} (hl : QE X l tl) : QI X tg l (Ak X.K tl) := ⟨xf hl.p⟩
theorem aH  {i : Nat} {x : Str} (hN : X.N.Nodup) (hi : X.N[i]? = some x) (hx : ub X.env.scope x) (hf : X.fn x = true ∨ X.env.scope.names.lookup x = some .local := by first | exact .inl rfl | exact .inr rfl | assumption) : QG X (.Name x pos) (gF i) := ⟨uR hN hi hx hf⟩
theorem nE  {es : List Expr} {k : Nat} {t : qN} {n : Nat} (hc : X.calm = true) (h : Av X es t) (hn : (assignEach es X.env).length = n := by rfl) (hst : (assignEach es X.env).findIdx? (·.1) = none := by rfl) : QG X (.Tuple es k pos) (vi X.K n t) := ⟨sJ hc h.p hn hst⟩
theorem fe  {o i : Expr} {to ti : TE} {t : t8} (ho : QE X o to) (hi : QE X i ti) (hs : yH X t) (ha : ∀ v, assign (.Subscript o i pos) X.env v = (do
   let ov ← holding [v] (eval o X.env)
   let iv ← holding [v, ov] (eval i X.env)
   standAt pos
   holding [v, ov, iv] (setItem ov iv v)
   release [v, ov, iv] []) := by intro _; rfl) : QG X (.Subscript o i pos) (An to ti t) := ⟨xg ho.p hi.p hs ha⟩
theorem gw   : Av X [] Ao := ⟨uP ⟩
theorem cZ  {e : Expr} {es : List Expr} {t : TG} {u : qN} (h1 : QG X e t) (h2 : Av X es u) (hs : (assignEach (e :: es) X.env).map (·.2) = assign e X.env :: (assignEach es X.env).map (·.2) := by rfl) : Av X (e :: es) (vZ t u) := ⟨sI h1.p h2.p hs⟩
end
structure yU (X : Cx) (ifs : List Expr) (t : TT) : Prop where
 p : v8 X ifs t
section
set_option autoImplicit true
set_option relaxedAutoImplicit true
theorem cA  {X : Cx} : yU X [] y9 := ⟨uE ⟩
theorem cW  {X : Cx} {c : Expr} {t : TT} (h : QT X c t) : yU X [c] t := ⟨uD h.p⟩
theorem bx  (hc : X.calm = true) (hi : QI X tg iter wi) (hg : ∀ C fp pins s H, QG (g7 X N' scope cl C fp pins s H) tg g) (ht : ∀ C fp pins s H, yU (g7 X N' scope cl C fp pins s H) ifs tt) (he : ∀ C fp pins s H, QE (g7 X N' scope cl C fp pins s H) elt te) (hfree : cu X scope cl N' src) (hclos : closureFor scope X.env = pure cl) (hcell : ∀ x ∈ scope.names, x.2 ≠ .cell) (hkind : scope.kind = .function) (hnames : ∀ x ∈ scope.names, x.2 = .local -> scope.names.lookup x.1 = some .local) (hcl : d7 X scope cl) (hs : ∀ x, foldedSetIterable iter X.env x = pure x := by intro _; rfl) : QE X (.ListComp elt [⟨tg, iter, ifs, 0⟩] scope pos) (gm wi src g tt te) := ⟨sN hc hi.p (fun z0 z1 z2 z3 z4 => (hg z0 z1 z2 z3 z4).p) (fun z0 z1 z2 z3 z4 => (ht z0 z1 z2 z3 z4).p) (fun z0 z1 z2 z3 z4 => (he z0 z1 z2 z3 z4).p) hfree hclos hcell hkind hnames hcl hs⟩
theorem d5  {i : Nat} {x : Str} {pos' pos2 : Pos} (hN : X.N.Nodup) (hi' : X.N[i]? = some x) (hx : ub X.env.scope x) (hc : X.calm = true) (hi : QI X tg iter wi) (hg : ∀ C fp pins s H, QG (g7 X N' scope cl C fp pins s H) tg g) (ht : ∀ C fp pins s H, yU (g7 X N' scope cl C fp pins s H) ifs tt) (he : ∀ C fp pins s H, QE (g7 X N' scope cl C fp pins s H) elt te) (hfree : cu X scope cl N' src) (hclos : closureFor scope X.env = pure cl) (hcell : ∀ x ∈ scope.names, x.2 ≠ .cell) (hkind : scope.kind = .function) (hnames : ∀ x ∈ scope.names, x.2 = .local -> scope.names.lookup x.1 = some .local) (hcl : d7 X scope cl) (hs : ∀ x, foldedSetIterable iter X.env x = pure x := by intro _; rfl) (hsw : swapsWith (.ListComp elt [⟨tg, iter, ifs, 0⟩] scope pos) (some (.Name x pos')) pos2.line X.env = pure true := by rfl) (hf : X.fn x = true ∨ X.env.scope.names.lookup x = some .local := by first | exact .inl rfl | exact .inr rfl | assumption) : QS X (.Assign [.Name x pos'] (.ListComp elt [⟨tg, iter, ifs, 0⟩] scope pos) pos2) (kr (gm wi src g tt te) (gF i)) := ⟨uI hN hi' hx hc hi.p (fun z0 z1 z2 z3 z4 => (hg z0 z1 z2 z3 z4).p) (fun z0 z1 z2 z3 z4 => (ht z0 z1 z2 z3 z4).p) (fun z0 z1 z2 z3 z4 => (he z0 z1 z2 z3 z4).p) hfree hclos hcell hkind hnames hcl hs hsw hf⟩
end
section
variable {X : Cx} {K : Fg}
theorem uQ {es : List Expr} {k : Nat} {t : qN} {n : Nat} {pos : Pos} (hK : X.K = K) (hc : X.calm = true) (h : yV X es t)
  (hn : (assignEach es X.env).length = n := by rfl) (hst : (assignEach es X.env).findIdx? (·.1) = none := by rfl) : PG X (.Tuple es k pos) (vi K n t) := hK ▸ sJ hc h hn hst
theorem aX (hK : X.K = K) : yM X (wQ K) := hK ▸ aM
theorem c6 (hK : X.K = K) : yM X (wR K) := hK ▸ bo
def Da (K : Fg) : List V -> Hp -> VK -> Prop := fun xs H Q => ∃ p ys, xs = [.ref p] /\ (aO K H p ys ∨ bt K H p ys) /\ Q (.int ys.length) H
end
theorem bP {a b : Expr} {op : Operator} {pos : Pos} {es : List Expr} {env : Env} : starEach (.BinOp a op b pos :: es) env = (false, eval (.BinOp a op b pos) env) :: starEach es env := rfl
end B
namespace B
open PySem
section
variable {es : List Expr} {env : Env}
theorem cC {a b c} : starEach (.Tuple a b c :: es) env = (false, eval (.Tuple a b c) env) :: starEach es env := rfl
theorem iD {a b} : starEach (.List a b :: es) env = (false, eval (.List a b) env) :: starEach es env := rfl
theorem aP {a b c} : starEach (.Subscript a b c :: es) env = (false, eval (.Subscript a b c) env) :: starEach es env := rfl
theorem aG {a b c d} : starEach (.Call a b c d :: es) env = (false, eval (.Call a b c d) env) :: starEach es env := rfl
theorem ae {a b} : starEach (.Name a b :: es) env = (false, eval (.Name a b) env) :: starEach es env := rfl
theorem aE {a b c} : starEach (.Constant a b c :: es) env = (false, eval (.Constant a b c) env) :: starEach es env := rfl
theorem ku {a b c} : starEach (.UnaryOp a b c :: es) env = (false, eval (.UnaryOp a b c) env) :: starEach es env := rfl
theorem rE {a b c} : starEach (.Attribute a b c :: es) env = (false, eval (.Attribute a b c) env) :: starEach es env := rfl
theorem dn {a b c d} : starEach (.ListComp a b c d :: es) env = (false, eval (.ListComp a b c d) env) :: starEach es env := rfl
end
end B
namespace B
open PySem L2 PyProof.Rows
inductive cO {α : Type} (P : V -> α -> Prop) : List V -> List α -> Prop where
 | nil : cO P [] []
 | cons {x : V} {d : α} {xs : List V} {ds : List α} (h : P x d) (t : cO P xs ds) : cO P (x :: xs) (d :: ds)
theorem cO.len {α : Type} {P : V -> α -> Prop} : ∀ {xs : List V} {ds : List α}, cO P xs ds -> xs.length = ds.length
 | _, _, .nil => rfl
 | _, _, .cons _ t => congrArg (· + 1) t.len
theorem cO.mono {α : Type} {P P' : V -> α -> Prop} (m : ∀ v d, P v d -> P' v d) : ∀ {xs : List V} {ds : List α}, cO P xs ds -> cO P' xs ds
 | _, _, .nil => .nil
 | _, _, .cons h t => .cons (m _ _ h) (t.mono m)
theorem cO.snoc {α : Type} {P : V -> α -> Prop} {x : V} {d : α} (k : P x d) : ∀ {xs : List V} {ds : List α}, cO P xs ds -> cO P (xs ++ [x]) (ds ++ [d])
 | _, _, .nil => .cons k .nil
 | _, _, .cons h t => .cons h (t.snoc k)
theorem cO.at {α : Type} {P : V -> α -> Prop} : ∀ {xs : List V} {ds : List α}, cO P xs ds -> ∀ {i : Nat} {x : V}, xs[i]? = some x -> ∃ d, ds[i]? = some d /\ P x d
 | _, _, .cons h _, 0, x, e => by
  rw [List.getElem?_cons_zero] at e
  cases e
  exact ⟨_, rfl, h⟩
 | _, _, .cons _ t, i + 1, x, e => t.at (i := i) (by rw [List.getElem?_cons_succ] at e; exact e)
 | _, _, .nil, _, _, e => by cases e
theorem cO.deep {α : Type} {K : Fg} {H : Hp} {P : V -> α -> Prop} {f : α -> PyData} (m : ∀ v d, P v d -> bJ K H v (f d)) : ∀ {xs : List V} {ds : List α}, cO P xs ds -> bA K H xs (ds.map f)
 | _, _, .nil => .nil
 | _, _, .cons h t => .cons (m _ _ h) (t.deep m)
end B
namespace B
open PySem PySem.Spec L2 PyProof.Rows
section
set_option autoImplicit true
set_option relaxedAutoImplicit true
theorem oA {K : Fg} {es : List Expr} {k : Nat} {t : qN} {n : Nat} {pos : Pos} (hK : X.K = K) (hc : X.calm = true) (h : Av X es t) (hn : (assignEach es X.env).length = n := by rfl) (hst : (assignEach es X.env).findIdx? (·.1) = none := by rfl) : QG X (.Tuple es k pos) (vi K n t) := ⟨uQ hK hc h.p hn hst⟩
end
def Dd (K : Fg) : R2 := fun x y H Q => ∃ d d', bJ K H x d /\ bJ K H y d' /\ d.canLay0 = true /\ d'.canLay0 = true /\ d.depth ≤ 32 /\ Q (.bl (PyData.eqv d d')) H
theorem ix {r q : R} : PyData.eqv (dR r) (dR q) = decide (r = q) := by
 by_cases h : r = q
 ·rw [decide_eq_true h, h]; exact tO q
 ·rw [decide_eq_false h]
  cases c : PyData.eqv (dR r) (dR q) with
  | false => rfl
  | true => exact absurd (yo c) h
def zK (K : Fg) : List V -> Hp -> VK -> Prop := fun xs H Q => ∃ a ys n b, xs = [.ref a, .ty n] /\ bt K H a ys /\ dk "tuple" n = some b /\ Q (.bl b) H
theorem qL {X : Cx} : df X (.builtin "isinstance") (zK X.K) := by
 intro pins s σ H xs us Q I r h
 obtain ⟨a, ys, n, b, rfl, hS, e, q⟩ := h
 obtain ⟨u, u2, rfl, rx, ry⟩ := lR r
 obtain rfl : u2 = Value.type n := ry
 cases (show u = Value.ref a from rx)
 obtain ⟨its, _, ⟨o, h1, h2, _⟩, _⟩ := I.tuple hS
 exact PySem.W.kia_one PySem.W.kitx_tuple I.kIn ⟨o, h1, h2⟩ (nP e) (fun z => nomatch z) fun tk => ⟨.bl b, H, I.tok tk, rfl, q⟩
section
set_option autoImplicit true
set_option relaxedAutoImplicit true
theorem uB  {X : Cx} {e : Expr} {f : Str} {pos : Pos} {ta : TE} {K : Fg} (hK : X.K = K) (he : QE X e ta) (hb : attributeBase e f X.env (eval e X.env) = eval e X.env) : QE X (.Attribute e f pos) (vL K ta f) := ⟨uU hK he.p hb⟩
theorem uz  (hex : X.ex = []) (ha : QE X o ta) (hv : QE X value tv) (hs : swapsWith value (some (.Attribute o f pos')) pos.line X.env = pure false) : QS X (.Assign [.Attribute o f pos'] value pos) (vR X.K ta tv f) := ⟨uJ hex ha.p hv.p hs⟩
theorem p9  {x : Str} {p cpos pos : Pos} {e : Expr} {es : List Expr} {t : TA} {E : XK} (M : XC X.K C f bm) (hbase : bm.contains (.type "BaseException") = true) (hex : X.ex = []) (tk : nZ X E) (F : bB X.prog X.w X.K X.mg X.base dI k f fd ps sp) (hr : cQ (k + 1) X.A) (hb : aZ X.K fd ps []) (hg : Gl X x) (hm : X.mg x = some (.ref C)) (ha : QA X (e :: es) t) (hdb : (x == ("__debug__" : Str)) = false := by decide) (he : starEach (e :: es) X.env = (false, eval e X.env) :: starEach es X.env := by rfl) (hpl : (backTo cpos (starEach es X.env)).any (·.1) = false := by rfl) : QS X (.Raise (some (.Call (.Name x p) (e :: es) [] cpos)) none pos) (om C sp E t) := ⟨qc M hbase hex tk F hr hb hg hm ha.p hdb he hpl⟩
theorem rY {R : RX} {suite : List Stmt} {i : Nat} {n : Str} (hex : X.ex = []) (hst : X.stack = X.env :: X.outer) (hfr : X.env.frame = some X.env.locals) (hg : Gl X x) (hm : X.mg x = some u) (hN : X.N.Nodup) (hi : X.N[i]? = some n) (hn : X.env.scope.names.lookup n = some .local) (hb : ∀ pins, dN (gg X pins R) body tb) (hs : ∀ e, dN (jX X e) (b₀ :: suite) th) (hd : (x == ("__debug__" : Str)) = false := by decide) : QS X (.Try body [.ExceptHandler (some (.Name x p)) (some n) (b₀ :: suite) hpos] [] [] pos) (rp X.N i R (fun C => PySem.W.exmOne X.K (.ref C) u = some true) tb th) := ⟨sr hex hst hfr hg hm hN hi hn (fun z0 => (hb z0).p) (fun z0 => (hs z0).p) hd⟩
end
end B
namespace L2
open PySem PySem.Spec PyProof.Rows
section
variable {κ : Type} [DecidableEq κ]
def y8 (kvs : List (κ × V)) (k : κ) : Option V := (kvs.find? fun kv => decide (kv.1 = k)).map (·.2)
def wW (kvs : List (κ × V)) (k : κ) (v : V) : List (κ × V) :=
 if (kvs.any fun kv => decide (kv.1 = k)) = true then kvs.map (fun kv => if kv.1 = k then (kv.1, v) else kv) else kvs ++ [(k, v)]
def Cu (kvs : List (κ × V)) (k : κ) : List (κ × V) := kvs.filter fun kv => decide (kv.1 ≠ k)
end
abbrev KT (H : Hp) : List (List hG × V) -> List (List hG × Addr × Value) -> Prop := Paired fun p q => p.1 = q.1 /\ H q.2.1 = some (.tup (p.1.map kV)) /\ bn p.2 q.2.2
section
variable {P : Program} {w : World} {H : Hp} {h : Heap} {a : Addr}
end
def qP (H : Hp) (a : Addr) (y : V) (r : Option V) : Prop :=
 (∃ kvs k, Rd H a (.dK kvs) /\ y = kV k /\ r = y8 kvs k) ∨ ∃ kvs k b, Rd H a (.dT kvs) /\ y = .ref b /\ H b = some (.tup (k.map kV)) /\ r = y8 kvs k
def Az (H : Hp) (a : Addr) (y v : V) (H' : Hp) : Prop :=
 (∃ kvs k, H a = some (.dK kvs) /\ y = kV k /\ kvs.length < sizeLine /\ H' = upd H a (.dK (wW kvs k v))) ∨
 ∃ kvs k b, H a = some (.dT kvs) /\ y = .ref b /\ H b = some (.tup (k.map kV)) /\ kvs.length < sizeLine /\ H' = upd H a (.dT (wW kvs k v))
section
variable {X : Cx} {pins : bL} {σ : St} {H : Hp} {s : Shared} {a : Addr} {y v : V} {u r : Value} {o : Option V} {A : Around} {E : cS}
end
section
variable {X : Cx} {pins : bL} {σ : St} {H : Hp} {s : Shared} {a : Addr} {kvs : List (hG × V)} {k : hG} {u : Value} {A : Around} {E : cS}
end
def Dt (i : Expr) : Prop := ∀ ov iv, subscripted i false ov iv = operate [ov, iv] (getItem ov iv)
def B7 (td ty : TE) : TE := fun σ H Q => td σ H fun x H1 => ty σ H1 fun y H2 => ∃ a v, x = .ref a /\ qP H2 a y (some v) /\ Q v H2
def CW (ty td : TE) : TE := fun σ H Q => ty σ H fun y H1 => td σ H1 fun x H2 => ∃ a o, x = .ref a /\ qP H2 a y o /\ Q (.bl o.isSome) H2
def AC (ty td : TE) : TE := fun σ H Q => ty σ H fun y H1 => td σ H1 fun x H2 => ∃ a o, x = .ref a /\ qP H2 a y o /\ Q (.bl (!o.isSome)) H2
def Cd (td ty tv : TE) : TS := fun D σ H => tv σ H fun v H1 => td σ H1 fun x H2 => ty σ H2 fun y H3 => ∃ a H4, x = .ref a /\ Az H3 a y v H4 /\ D.nx σ H4
def Ce (td ty tv : TE) (rd : V -> V -> Hp -> VK -> Prop) : TS := fun D σ H => td σ H fun x H1 => ty σ H1 fun y H2 => ∃ a v, x = .ref a /\ qP H2 a y (some v) ∧
 tv σ H2 fun y2 H3 => rd v y2 H3 fun z H4 => ∃ H5, Az H4 a y z H5 /\ D.nx σ H5
section
variable {X : Cx} {o i e value : Expr} {pos pos' tpos : Pos} {td ty tv : TE}
end
def Be : TE := fun _ H Q => ∀ p, H p = none -> Q (.ref p) (upd H p (.dK []))
section
variable {X : Cx} {pos : Pos}
end
def m9 : List (TE × TE) -> St -> Hp -> (List (V × V) -> Hp -> Prop) -> Prop
 | [], _, H, Q => Q [] H
 | (tk, tv) :: r, σ, H, Q => tk σ H fun x H1 => tv σ H1 fun y H2 => m9 r σ H2 fun ps H3 => Q ((x, y) :: ps) H3
abbrev VV : List (V × V) -> List (Value × Value) -> Prop := Paired fun p q => bn p.1 q.1 /\ bn p.2 q.2
def DY (X : Cx) (pos : Pos) (keys : List (Option Expr)) (values : List Expr) (trs : List (TE × TE)) : Prop :=
 ∀ (pins : bL) (s : Shared) (σ : St) (H : Hp) (Q : List (V × V) -> Hp -> Prop), Inv X pins σ H s -> m9 trs σ H Q →
  wpAny (model X.prog X.w) X.A (evalPairs (pairTrees keys values X.env pos)) (fun vs s' => ∃ ps H', Inv X pins σ H' s' /\ VV ps vs /\ Q ps H') X.xe s
def yf (kvs more : List (hG × V)) : List (hG × V) := more.foldl (fun acc kv => wW acc kv.1 kv.2) kvs
def B6 (trs : List (TE × TE)) : TE := fun σ H Q => ∀ p, H p = none -> m9 trs σ (upd H p (.dK [])) fun ps H2 => H2 p = some (.dK []) /\ ∃ kvs : List (hG × V), ps = kvs.map (fun kv => (kV kv.1, kv.2)) /\ kvs.length ≤ 15 /\ Q (.ref p) (upd H2 p (.dK (yf [] kvs)))
structure M1 (X : Cx) (o : Expr) (m : Str) (apos : Pos) (e : Expr) (cpos : Pos) : Prop where
 base : attributeBase o m X.env (eval o X.env) = eval o X.env
 few : ((backTo cpos (starEach [e] X.env)).all (fun x => !x.1) && (backToKw cpos (keywordEach [] X.env)).all (fun x => x.1.isSome)
  && decide (([e] : List Expr).length + ([] : List Keyword).length + (if ([] : List Keyword).isEmpty then 0 else 1) < 30)) = true
 line : (apos.endLine == cpos.line) = true
 trees : backTo cpos (starEach [e] X.env) = [(false, eval e X.env)]
structure M2 (X : Cx) (o : Expr) (m : Str) (apos : Pos) (e f : Expr) (cpos : Pos) : Prop where
 base : attributeBase o m X.env (eval o X.env) = eval o X.env
 few : ((backTo cpos (starEach [e, f] X.env)).all (fun x => !x.1) && (backToKw cpos (keywordEach [] X.env)).all (fun x => x.1.isSome)
  && decide (([e, f] : List Expr).length + ([] : List Keyword).length + (if ([] : List Keyword).isEmpty then 0 else 1) < 30)) = true
 line : (apos.endLine == cpos.line) = true
 trees : backTo cpos (starEach [e, f] X.env) = [(false, eval e X.env), (false, eval f X.env)]
def CC (H : Hp) (a : Addr) : Prop := (∃ kvs, Rd H a (.dK kvs)) ∨ ∃ kvs, Rd H a (.dT kvs)
section
variable {X : Cx} {pins : bL} {σ : St} {H : Hp} {s : Shared} {a : Addr} {y d : V} {u r : Value} {o : Option V} {A : Around} {E : cS}
end
def Bg (td ty : TE) : TE := fun σ H Q => td σ H fun x H1 => ∃ a, x = .ref a /\ CC H1 a /\ ty σ H1 fun y H2 => ∃ o, qP H2 a y o /\ Q (o.getD .non) H2
def Bf (td ty tx : TE) : TE := fun σ H Q => td σ H fun x H1 => ∃ a, x = .ref a /\ CC H1 a /\ ty σ H1 fun y H2 => tx σ H2 fun z H3 => ∃ o, qP H3 a y o /\ Q (o.getD z) H3
section
variable {X : Cx} {o e f : Expr} {apos cpos : Pos} {td ty tx : TE}
end
end L2
namespace B
open PySem PySem.Spec L2 PyProof.Rows
theorem fS {α β : Type} {K : Fg} {H : Hp} {D a : Addr} {xs : List V} {ds : List α} {P : Hp -> V -> β -> Prop} {f : α -> β} {src : List (Option Nat)} {σ : L2.St} {g : TG} {tt : TT} {te : TE} {Q : Hp -> Prop}
  (mono : ∀ H H' v d, aN K H H' -> P H v d -> P H' v d) (hD : H D = none) (hS : bt K H a xs) (hl : xs.length = ds.length) (hn : ds.length ≤ 1000)
  (turn : ∀ (i : Nat) (x : V) (d : α) (H' : Hp), xs[i]? = some x -> ds[i]? = some d -> aA H H' -> ∀ (R : VK) (E : Hp -> Prop), (∀ v H'', aA H' H'' -> P H'' v (f d) -> R v H'') →
   g x (bW src σ) H' fun σ2 H2 => eJ (bW src σ) σ2 /\ tt σ2 H2 fun ok H3 => if ok = true then te σ2 H3 R else E H3)
  (fin : ∀ H' ys, aA H H' -> H' D = some (.lst ys) -> cO (P H') ys (ds.map f) -> Q H') :
  ∃ W : Nat -> Nat -> List V -> Hp -> Prop, (∃ m, W 0 m [] (upd H D (.lst []))) /\ ∀ i m ys H, W i m ys H -> ((ue K a).stop i H /\ Q H) ∨ ((ue K a).go i H /\ ∀ x H', (ue K a).yld i H x H' →
   g x (bW src σ) H' fun σ2 H2 => eJ (bW src σ) σ2 /\ tt σ2 H2 fun ok H3 =>
    if ok = true then te σ2 H3 fun y H4 => H4 D = some (.lst ys) /\ ys.length < sizeLine /\ ∃ m', m' < m /\ W (i + 1) m' (ys ++ [y]) (upd H4 D (.lst (ys ++ [y]))) else ∃ m', m' < m /\ W (i + 1) m' ys H3) := by
 refine ⟨fun i m ys H' => i ≤ ds.length /\ m = ds.length - i /\ H' D = some (.lst ys) /\ aA H H' /\ cO (P H') ys ((ds.take i).map f), ⟨_, Nat.zero_le _, rfl, ah, ap hD _, .nil⟩, ?_⟩
 rintro i m ys H1 ⟨hi, rfl, d1, s1, al1⟩
 have hS1 : bt K H1 a xs := aN.same s1 _ _ hS
 by_cases hix : i < ds.length
 ·have hx0 : xs[i]? = some (xs[i]'(by omega)) := List.getElem?_eq_getElem _
  refine .inr ⟨⟨xs, _, hS1, hx0⟩, ?_⟩
  rintro x H2 ⟨rfl, hy⟩
  have hx := hy xs hS1
  obtain ⟨d, hd⟩ : ∃ d, ds[i]? = some d := ⟨_, List.getElem?_eq_getElem hix⟩
  refine turn i x d _ hx hd s1 _ _ fun v H3 s3 p3 => ?_
  have d3 : H3 D = some (.lst ys) := s3 _ _ d1
  have tm : aN K H2 (upd H3 D (.lst (ys ++ [v]))) := (aN.same s3).trans (aN.up d3 _)
  refine ⟨d3, bh (by rw [al1.len, List.length_map, List.length_take]; omega), ds.length - (i + 1), by omega, hix, rfl, ah, fun b o q => ?_, ?_⟩
  ·rw [aC (aQ q hD)]
   exact s3 _ _ (s1 _ _ q)
  ·rw [List.take_add_one, hd, List.map_append]
   exact (al1.mono fun v d p => mono _ _ _ _ tm p).snoc (mono _ _ _ _ (aN.up d3 _) p3)
 ·have e : i = ds.length := by omega
  subst e
  rw [List.take_length] at al1
  exact .inl ⟨⟨xs, hS1, by omega⟩, fin H1 ys s1 d1 al1⟩
def CJ : PyData -> String
 | .none => "NoneType"
 | .bool _ => "bool"
 | .int _ => "int"
 | .str _ => "str"
 | .list _ => "list"
 | .tuple _ => "tuple"
 | .dict _ => "dict"
def zL (K : Fg) : List V -> Hp -> VK -> Prop := fun xs H Q => ∃ v d n b, xs = [v, .ty n] /\ bJ K H v d /\ dk (CJ d) n = some b /\ Q (.bl b) H
theorem av {X : Cx} : df X (.builtin "isinstance") (zL X.K) := by
 intro pins s σ H xs us Q I r h
 obtain ⟨v, d, n, b, rfl, hD, e, q⟩ := h
 cases hD with
 | non => exact eZ pins s σ H _ us Q I r ⟨_, n, _, b, rfl, .non, e, q⟩
 | bl c => exact eZ pins s σ H _ us Q I r ⟨_, n, _, b, rfl, .bl c, e, q⟩
 | int i => exact eZ pins s σ H _ us Q I r ⟨_, n, _, b, rfl, .int i, e, q⟩
 | str x => exact eZ pins s σ H _ us Q I r ⟨_, n, _, b, rfl, .str x, e, q⟩
 | @tup a ys ds hS hA => exact qL pins s σ H _ us Q I r ⟨a, ys, n, b, rfl, hS, e, q⟩
 | @lst a ys ds hS hA =>
  obtain ⟨u, u2, rfl, rx, ry⟩ := lR r
  obtain rfl : u2 = Value.type n := ry
  cases (show u = Value.ref a from rx)
  obtain ⟨its, _, ⟨o, k, h1, h2, _⟩, _⟩ := I.list hS
  exact PySem.W.kia_one PySem.W.kitx_list I.kIn ⟨o, h1, h2⟩ (nP e) (fun z => nomatch z) fun tk => ⟨.bl b, H, I.tok tk, rfl, q⟩
def A6 : PyData -> Bool
 | .int _ => true
 | _ => false
def CL (n : Nat) : PyData -> Bool
 | .tuple xs => decide (xs.length = n)
 | _ => false
def zw : PyData -> Bool
 | .tuple [.int a, .int b] => decide (1 ≤ b) && decide (Int.gcd a b = 1)
 | _ => false
def Co : PyData -> Bool
 | .tuple [x, y] => zw x && zw y
 | _ => false
structure Sh (k n : Nat) (d : PyData) : Prop where
 sh : d.showable = true
 nd : d.hasDict = false
 dp : d.depth ≤ k
 sz : d.shown.length ≤ n
theorem Sh.mono {k n k' n' : Nat} {d : PyData} (h : Sh k n d) (hk : k ≤ k') (hn : n ≤ n') : Sh k' n' d := ⟨h.sh, h.nd, Nat.le_trans h.dp hk, Nat.le_trans h.sz hn⟩
theorem Sh.all {k n : Nat} : ∀ {ds : List PyData}, (∀ d ∈ ds, Sh k n d) -> PyData.showableAll ds = true /\ PyData.hasDictAll ds = false /\ PyData.depthAll ds ≤ k /\ ((PyData.shownAll ds).map (·.length)).sum ≤ n * ds.length /\ (PyData.shownAll ds).length = ds.length
 | [], _ => ⟨rfl, rfl, Nat.zero_le _, Nat.zero_le _, rfl⟩
 | d :: ds, h => by
  obtain ⟨a, b, c, e, f⟩ := Sh.all (ds := ds) fun x hx => h x (List.mem_cons_of_mem _ hx)
  have z := h d List.mem_cons_self
  refine ⟨?_, ?_, ?_, ?_, ?_⟩
  ·show (d.showable && PyData.showableAll ds) = true
   rw [z.sh, a]; rfl
  ·show (d.hasDict || PyData.hasDictAll ds) = false
   rw [z.nd, b]; rfl
  ·show max d.depth (PyData.depthAll ds) ≤ k
   exact Nat.max_le.mpr ⟨z.dp, c⟩
  ·show d.shown.length + ((PyData.shownAll ds).map (·.length)).sum ≤ n * (ds.length + 1)
   have := z.sz
   rw [Nat.mul_succ]; omega
  ·show (PyData.shownAll ds).length + 1 = ds.length + 1
   rw [f]
theorem Sh.tup {k n m N : Nat} {ds : List PyData} (h : ∀ d ∈ ds, Sh k n d) (hm : ds.length ≤ m) (hN : (n + 3) * m + 8 ≤ N) : Sh (k + 1) N (.tuple ds) := by
 obtain ⟨a, b, c, e, f⟩ := Sh.all h
 refine ⟨a, b, Nat.succ_le_succ c, ?_⟩
 show (tupleText (PyData.shownAll ds)).length ≤ N
 have q := tupleText_len_le (PyData.shownAll ds)
 have l : n * ds.length + 3 * ds.length ≤ (n + 3) * m := by
  rw [← Nat.add_mul]
  exact Nat.mul_le_mul_left _ hm
 omega
theorem Sh.shows {k n : Nat} {d : PyData} (h : Sh k n d) (hk : k ≤ 16) (hn : n ≤ 16777216) : o9 d := ⟨h.sh, h.nd, Nat.le_trans h.sz (Nat.le_trans hn (by decide)), Nat.le_trans h.dp hk⟩
theorem zp {r : R} {n : Nat} (h : Wf n r) (hn : n ≤ 1900) : Sh 1 5000 (dR r) := ⟨(mh h hn).sh, rfl, (by show max 0 (max 0 0) + 1 ≤ 1; decide), (mh h hn).sz⟩
mutual
theorem bJ.same {K : Fg} {H H' : Hp} (s : aA H H') : ∀ {v : V} {d : PyData}, bJ K H v d -> bJ K H' v d
 | _, _, .non => .non
 | _, _, .bl b => .bl b
 | _, _, .int i => .int i
 | _, _, .str x => .str x
 | _, _, .lst e t => .lst (s.seq e) (bA.same s t)
 | _, _, .tup e t => .tup (aN.same s _ _ e) (bA.same s t)
theorem bA.same {K : Fg} {H H' : Hp} (s : aA H H') : ∀ {vs : List V} {ds : List PyData}, bA K H vs ds -> bA K H' vs ds
 | _, _, .nil => .nil
 | _, _, .cons h t => .cons (bJ.same s h) (bA.same s t)
end
end B
namespace B
open PySem PySem.Spec L2 PyProof.Rows
def Cl (K : Fg) : R2 := fun x y H Q => ∃ a b xs ys, x = .ref a /\ y = .ref b /\ bt K H a xs /\ bt K H b ys /\ xs.length + ys.length ≤ sizeLine /\ ∀ p H', aA H H' -> bt K H' p (xs ++ ys) -> Q (.ref p) H'
def Bm (K : Fg) : V -> Option Int -> Option Int -> Hp -> VK -> Prop := fun x lo hi H Q => ∃ a xs, x = .ref a /\ bt K H a xs /\ ∀ p H', aA H H' -> bt K H' p (gJ xs lo hi) -> Q (.ref p) H'
theorem uo {X : Cx} : qV X (Bm X.K) := by
 intro pins s σ H x v vl vu lo hi sl Q I rx hs pl pu h
 obtain ⟨a, xs, rfl, hx, q⟩ := h
 refine uq pins s σ H _ v vl vu lo hi sl Q I rx hs pl pu ?_
 by_cases c : HT.sIx xs.length 0 lo = 0 /\ HT.sIx xs.length xs.length hi = xs.length
 ·refine .inl ⟨a, xs, rfl, hx, c.1, c.2, q a H (aA.refl H) ?_⟩
  have e : gJ xs lo hi = xs := by
   unfold gJ
   rw [c.1, c.2, List.drop_zero, Nat.sub_zero, List.take_length]
  rw [e]
  exact hx
 ·exact .inr ⟨a, xs, rfl, hx, c, fun p hp => q p _ (ap hp _) (bt.of ah)⟩
theorem yx {xs : List V} {n : Nat} (h : n ≤ xs.length) : gJ xs none (some (n : Int)) = xs.take n := by
 unfold gJ
 rw [HT.sIx_nat, HT.sIx_none, Nat.min_eq_left h, Nat.sub_zero, List.drop_zero]
def At (K : Fg) (s : Addr) : Prop := ∃ ns : List Int, ns.length ≤ 63 /\ ∀ H : Hp, aO K H s (ns.map V.int)
structure bR (K : Fg) (H : Hp) (t s : Addr) : Prop where
 ex : ∃ (ns : List Int) (p q : Int), H t = some (.lst [.ref s, .int p, .int q]) /\ ((Rd H s (.lst (ns.map V.int)) /\ s ≠ t) ∨ ∀ H', aO K H' s (ns.map V.int)) /\ ns.length ≤ 63 /\ 0 ≤ p /\ 0 ≤ q
theorem uw {H H' : Hp} {a : Addr} {u : HO} (h : Rd H a u) (z : aA H H') : Rd H' a u := by
 rcases h with h | ⟨o, h⟩
 ·exact .inl (z _ _ h)
 ·exact .inr ⟨o, z _ _ h⟩
theorem kQ {H : Hp} {a l : Addr} {u o : HO} (h : Rd H a u) (n : l ≠ a) : Rd (upd H l o) a u := by
 unfold Rd
 rw [aC n.symm]
 exact h
theorem rT {H : Hp} {a l : Addr} {u : HO} (h : Rd H a u) (n : H l = none) : l ≠ a := fun e => by
 subst e
 rcases h with h | ⟨o, h⟩
 ·rw [n] at h; cases h
 ·rw [n] at h; cases h
theorem bR.lst {K : Fg} {H : Hp} {t s : Addr} (h : bR K H t s) : ∃ xs, H t = some (.lst xs) := let ⟨_, _, _, e, _⟩ := h.ex; ⟨_, e⟩
theorem bR.same {K : Fg} {H H' : Hp} {t s : Addr} (h : bR K H t s) (z : aA H H') : bR K H' t s := by
 obtain ⟨ns, p, q, h1, h2, h3⟩ := h.ex
 refine ⟨ns, p, q, z _ _ h1, ?_, h3⟩
 rcases h2 with ⟨a, b⟩ | a
 ·exact .inl ⟨uw a z, b⟩
 ·exact .inr a
theorem bR.new {K : Fg} {H : Hp} {t s p : Addr} (h : bR K H t s) (n : H p = none) (o : HO) : bR K (upd H p o) t s := h.same (ap n o)
theorem bR.off {K : Fg} {H : Hp} {t s D : Addr} (h : bR K H t s) (n : H D = none) : D ≠ s ∨ At K s := by
 obtain ⟨ns, p, q, _, h2, h3, _⟩ := h.ex
 rcases h2 with ⟨a, _⟩ | a
 ·exact .inl (rT a n)
 ·exact .inr ⟨ns, h3, a⟩
theorem bR.upl {K : Fg} {H : Hp} {t s l : Addr} (h : bR K H t s) (a : l ≠ t) (b : l ≠ s ∨ At K s) (o : HO) : bR K (upd H l o) t s := by
 obtain ⟨ns, p, q, h1, h2, h3⟩ := h.ex
 rcases b with b | ⟨ms, m3, m⟩
 ·refine ⟨ns, p, q, by rw [aC a.symm]; exact h1, ?_, h3⟩
  rcases h2 with ⟨c, d⟩ | c
  ·exact .inl ⟨kQ c b, d⟩
  ·exact .inr c
 ·exact ⟨ms, p, q, by rw [aC a.symm]; exact h1, .inr m, m3, h3.2⟩
def rJ (K : Fg) : Sp := fun vs H Q _ => ∃ (a : Addr) (ns : List Int), vs = [.ref a] /\ aO K H a (ns.map V.int) /\ ns.length ≤ 63 /\ ∀ (t : Addr) (H' : Hp), aA H H' -> H t = none -> bR K H' t a -> Q (.ref t) H'
def rL (K : Fg) : Sp := fun vs H Q _ => ∃ (t s : Addr) (m : Int), vs = [.ref t, .int m] /\ bR K H t s /\ 0 < m /\ m < 1073741824 /\ ∀ (r : Int) (xs : List V), 0 ≤ r -> r < m -> bR K (upd H t (.lst xs)) t s -> Q (.int r) (upd H t (.lst xs))
theorem bR.mk3 {K : Fg} {H : Hp} {t a : Addr} {ns : List Int} (hS : aO K H a (ns.map V.int)) (hl : ns.length ≤ 63) (ht : H t = none) : bR K (upd H t (.lst [.ref a, .int 0, .int 0])) t a := by
 refine ⟨ns, 0, 0, ah, ?_, hl, Int.le_refl _, Int.le_refl _⟩
 rcases hS with h | h
 ·exact .inl ⟨kQ h (rT h ht), (rT h ht).symm⟩
 ·exact .inr fun _ => .inr h
section
set_option autoImplicit true
set_option relaxedAutoImplicit true
theorem se  {X : Cx} {elts : List Expr} {x1} {tp p pos : Pos} {a : Expr} {ta : TA} (hg : Gl X "enumerate") (hm : X.mg "enumerate" = none) (ha : QA X [a] ta) (hs : starEach [a] X.env = [(false, eval a X.env)] := by rfl) : QI X (.Tuple elts x1 tp) (.Call (.Name "enumerate" p) [a] [] pos) (Al X.K ta) := ⟨sH hg hm ha.p hs⟩
end
theorem k7 : ∀ {ns : List Int} {us : List Value}, aW (ns.map V.int) us -> IntsAre us ns
 | [], _, .nil => .nil
 | n :: ns, _, .cons r t => by
  obtain ⟨tk, rfl⟩ := (show ∃ t, _ = Value.int n t from r)
  exact .cons _ _ (k7 t)
theorem qJ {X : Cx} (hc : X.calm = true) : df X (.builtin "sum") (fun xs H Q => ∃ (p : Addr) (ns : List Int), xs = [.ref p] /\ aO X.K H p (ns.map V.int) /\ Q (.int ns.sum) H) := by
 intro pins s σ H xs us Q I r h
 obtain ⟨p, ns, rfl, hq, q⟩ := h
 obtain ⟨u, rfl, rx⟩ := fg r
 cases rx
 obtain ⟨its, rv, pl, hz⟩ := I.list hq
 have hi := k7 rv
 obtain ⟨zs, ez⟩ := hi.allInts.items
 have hl := pl.isList
 rw [ez] at hl
 have en : numsOf its = ns := hi.numsOf
 rw [show its = its.toArray.toList from rfl, ez, nums_intItems] at en
 refine sum_intListG (I.ok.hd hc) hl fun h' tk t' hk => ?_
 rw [preSum_eq, List.take_of_length_le (by simp), en]
 exact ⟨.int ns.sum, H, I.kept (t' := tk) hk, ⟨_, rfl⟩, q⟩
theorem mV : ∀ {bs : List Bool} {us : List Value}, aW (bs.map V.bl) us -> ∀ {i : Nat} {v : Value}, us[i]? = some v -> v = .bool (bs.getD i true)
 | [], _, .nil, i, v, e => by cases e
 | b :: bs, _, .cons r t, 0, v, e => by
  rw [List.getElem?_cons_zero] at e
  cases e
  exact (show _ = Value.bool b from r)
 | b :: bs, _, .cons r t, i + 1, v, e => by
  rw [List.getElem?_cons_succ] at e
  exact mV t e
theorem kg : ∀ (bs : List Bool), (List.range bs.length).all (fun i => bs.getD i true) = bs.all id
 | [] => rfl
 | b :: bs => by
  rw [List.length_cons, List.range_succ_eq_map, List.all_cons, List.all_map, List.all_cons]
  have := kg bs
  show (b && (List.range bs.length).all (fun i => bs.getD i true)) = (id b && bs.all id)
  rw [this]; rfl
theorem fT {X : Cx} (hc : X.calm = true) : df X (.builtin "all") (fun xs H Q => ∃ (p : Addr) (bs : List Bool), xs = [.ref p] /\ aO X.K H p (bs.map V.bl) /\ Q (.bl (bs.all id)) H) := by
 intro pins s σ H xs us Q I r h
 obtain ⟨p, bs, rfl, hq, q⟩ := h
 obtain ⟨u, rfl, rx⟩ := fg r
 cases rx
 obtain ⟨its, rv, pl, hz⟩ := I.list hq
 have ne : p ≠ s.heap.objs.size := by
  obtain ⟨o, ho, _⟩ := pl.isList
  exact Nat.ne_of_lt (Heap.lt_size ho)
 have hlen : its.toArray.size = bs.length := by rw [List.size_toArray, ← rv.length, List.length_map]
 refine call_all_walk (wpAny_pyIter_list pl.isList ?_)
 refine ⟨_, _, _, _, _, _, fun i => bs.getD i true, rfl, Walks.list (A := X.A.in1) (I.ok.hd hc) _ p ne its.toArray, ⟨⟨_, Heap.get?_push_size _ rfl, rfl, rfl⟩, pl.isList.push _⟩, fun i v s' Q' E' hv hQ => ?_, fun h' tk hk => ?_⟩
 ·have e := mV rv (i := i) (v := v) (by simpa using hv)
  subst e
  exact wpAny_truthy_bool hQ
 ·rw [hlen, kg]
  refine ⟨.bl _, H, I.kept (t' := tk) fun b o e => hk b o (fun z => ?_) (Heap.get?_push_of_some _ e), rfl, q⟩
  rw [List.mem_singleton.mp z] at e
  exact absurd (Heap.lt_size e) (Nat.lt_irrefl _)
section
variable {prog : Program} {w : World} {A : Around} {E : cS} {s : Shared}
end
def upTo (n : Nat) : List Int := (List.range n).map fun i : Nat => (i : Int)
theorem mZ {acc : Array Value} {n : Nat} (h : ItemsOf (fun i v => ∃ t, v = .int ((0 : Int) + i * 1) t) acc n) : aW ((upTo n).map V.int) acc.toList := by
 obtain ⟨hl, ha⟩ := h
 have key : ∀ m, m ≤ n -> aW ((upTo m).map V.int) (acc.toList.take m) := by
  intro m
  induction m with
  | zero => intro _; rw [List.take_zero]; exact .nil
  | succ m ih =>
   intro hm
   have hlt : m < acc.size := by omega
   have e1 : acc.toList.take (m + 1) = acc.toList.take m ++ [acc[m]] := by
    rw [List.take_add_one]; simp [hlt]
   have e2 : (upTo (m + 1)).map V.int = (upTo m).map V.int ++ [V.int m] := by
    unfold upTo; rw [List.range_succ]; simp
   rw [e1, e2]
   refine (ih (by omega)).append (.cons ?_ .nil)
   obtain ⟨t, e⟩ := ha m acc[m] (by simp [hlt])
   exact ⟨t, by rw [e]; simp⟩
 have := key n (Nat.le_refl _)
 rwa [List.take_of_length_le (by simp [hl])] at this
def vH (ta : TA) : TE := fun σ H Q => ta σ H fun vs H1 => ∃ j : Int, vs = [.int j] /\ ∀ p, H1 p = none -> Q (.ref p) (upd H1 p (.rng 0 j))
theorem uS {X : Cx} {a : Expr} {ta : TA} {p pos : Pos} (hg : Gl X "range") (hm : X.mg "range" = none) (ha : PA X [a] ta) (hs : starEach [a] X.env = [(false, eval a X.env)] := by rfl) :
  PE X (.Call (.Name "range" p) [a] [] pos) (vH ta) := by
 intro pins s σ H Q I h
 refine Call_ (fF I hg hm boot_range (PyProof.Rows.callWith_type1 (bZ (ha pos pins s σ H _ I h) fun us s1 ⟨vs, H1, I1, r1, q1⟩ => ?_) hs rfl))
 obtain ⟨j, e, q⟩ := q1
 subst e
 obtain ⟨u, rfl, t, rfl⟩ := fg r1
 refine call_range_1 ?_
 exact ⟨.ref s1.heap.objs.size, _, I1.laid (o := .rng 0 j) (fun b o e => Heap.get?_push_of_some _ e) (Nat.le_refl _) ⟨_, t, _, Heap.get?_push_size _ rfl⟩, rfl, q _ (I1.hok.fresh (Nat.le_refl _))⟩
theorem ut (n : Nat) : Builtin.Range.rangeSize 0 n 1 = n := by rw [rangeSize_one]; split <;> omega
def Dy (hi : Int) (n : Nat) : It := ⟨fun i _ => i < n, fun i H x H' => H' = H /\ x = .int (hi - i), fun i _ => n ≤ i⟩
def Cs (ta : TA) : TI := fun σ H R => ta σ H fun vs H1 => ∃ i j : Int, vs = [.int i, .int j, .int (-1)] /\ (-1000 ≤ i /\ i ≤ 1000 /\ -1000 ≤ j /\ j ≤ 1000) /\ R (Dy i (i - j).toNat) H1
section
set_option autoImplicit true
set_option relaxedAutoImplicit true
theorem im  {X : Cx} {a : Expr} {ta : TA} {p pos : Pos} (hg : Gl X "range") (hm : X.mg "range" = none) (ha : QA X [a] ta) (hs : starEach [a] X.env = [(false, eval a X.env)] := by rfl) : QE X (.Call (.Name "range" p) [a] [] pos) (vH ta) := ⟨uS hg hm ha.p hs⟩
end
structure AX (J : It) (H : Hp) (n : Nat) (P : Nat -> V -> Hp -> Prop) : Prop where
 go : ∀ i H', i < n -> aA H H' -> J.go i H'
 stop : ∀ H', aA H H' -> J.stop n H'
 yld : ∀ i H' x H'', i < n -> aA H H' -> J.yld i H' x H'' -> aA H' H'' /\ P i x H''
theorem cV {K : Fg} {H : Hp} {a : Addr} {xs : List V} (h : aO K H a xs) : AX (uc K a) H xs.length (fun i x _ => xs[i]? = some x) where
 go := fun i H' hi s => ⟨xs, _, s.seq h, List.getElem?_eq_getElem hi⟩
 stop := fun H' s => ⟨xs, s.seq h, Nat.le_refl _⟩
 yld := fun i H' x H'' hi s y => by obtain ⟨rfl, hy⟩ := y; exact ⟨aA.refl _, hy xs (s.seq h)⟩
theorem kn {K : Fg} {H : Hp} {a : Addr} {xs : List V} (h : bt K H a xs) : AX (ue K a) H xs.length (fun i x _ => xs[i]? = some x) where
 go := fun i H' hi s => ⟨xs, _, aN.same s _ _ h, List.getElem?_eq_getElem hi⟩
 stop := fun H' s => ⟨xs, aN.same s _ _ h, Nat.le_refl _⟩
 yld := fun i H' x H'' hi s y => by obtain ⟨rfl, hy⟩ := y; exact ⟨aA.refl _, hy xs (aN.same s _ _ h)⟩
theorem fb {H : Hp} {lo : Int} {n : Nat} : AX (vC lo n) H n (fun i x _ => x = .int (lo + i)) where
 go := fun i H' hi s => hi
 stop := fun H' s => Nat.le_refl _
 yld := fun i H' x H'' hi s y => by obtain ⟨rfl, rfl⟩ := y; exact ⟨aA.refl _, rfl⟩
theorem bz {J : It} {H : Hp} {D : Addr} {n : Nat} {P : Nat -> V -> Hp -> Prop} (w : AX J H n P) (c : Nat -> Bool) (f : Nat -> V) {src : List (Option Nat)} {σ : L2.St} {g : TG} {tt : TT} {te : TE} {Q : Hp -> Prop} (hD : H D = none) (hn : n ≤ 1000)
  (turn : ∀ (i : Nat) (x : V) (H' : Hp), i < n -> aA H H' -> P i x H' -> ∀ (R : VK) (E : Hp -> Prop), (c i = true -> ∀ H'', aA H' H'' -> R (f i) H'') -> (c i = false -> ∀ H'', aA H' H'' -> E H'') →
   g x (bW src σ) H' fun σ2 H2 => eJ (bW src σ) σ2 /\ tt σ2 H2 fun ok H3 => if ok = true then te σ2 H3 R else E H3)
  (fin : ∀ H', aA H H' -> H' D = some (.lst (((List.range n).filter c).map f)) -> Q H') :
  ∃ W : Nat -> Nat -> List V -> Hp -> Prop, (∃ m, W 0 m [] (upd H D (.lst []))) /\ ∀ i m ys H, W i m ys H -> (J.stop i H /\ Q H) ∨ (J.go i H /\ ∀ x H', J.yld i H x H' →
   g x (bW src σ) H' fun σ2 H2 => eJ (bW src σ) σ2 /\ tt σ2 H2 fun ok H3 =>
    if ok = true then te σ2 H3 fun y H4 => H4 D = some (.lst ys) /\ ys.length < sizeLine /\ ∃ m', m' < m /\ W (i + 1) m' (ys ++ [y]) (upd H4 D (.lst (ys ++ [y]))) else ∃ m', m' < m /\ W (i + 1) m' ys H3) := by
 refine ⟨fun i m ys H' => i ≤ n /\ m = n - i /\ ys = ((List.range i).filter c).map f /\ aA H H' /\ H' D = some (.lst ys), ⟨_, Nat.zero_le _, rfl, rfl, ap hD _, ah⟩, ?_⟩
 rintro i m ys H1 ⟨hi, rfl, rfl, s1, d1⟩
 by_cases hix : i < n
 ·refine .inr ⟨w.go i H1 hix s1, fun x H2 y => ?_⟩
  obtain ⟨s2, p⟩ := w.yld i H1 x H2 hix s1 y
  have d2 := s2 _ _ d1
  have len : (((List.range i).filter c).map f).length ≤ i := by
   rw [List.length_map]
   exact Nat.le_trans (List.length_filter_le _ _) (by rw [List.length_range]; exact Nat.le_refl _)
  refine turn i x H2 hix (s1.trans s2) p _ _ (fun hc H3 s3 => ?_) fun hc H3 s3 => ?_
  ·have d3 := s3 _ _ d2
   refine ⟨d3, bh (by omega), n - (i + 1), by omega, hix, rfl, ?_, fun b o q => ?_, ah⟩
   ·rw [List.range_succ, List.filter_append, List.map_append]
    simp [hc]
   ·rw [aC (aQ q hD)]
    exact s3 _ _ (s2 _ _ (s1 _ _ q))
  ·refine ⟨n - (i + 1), by omega, hix, rfl, ?_, (s1.trans s2).trans s3, s3 _ _ d2⟩
   rw [List.range_succ, List.filter_append, List.map_append]
   simp [hc]
 ·have e : i = n := by omega
  subst e
  exact .inl ⟨w.stop H1 s1, fin H1 s1 d1⟩
theorem de {α β : Type} (d : α) (p : α -> Bool) (f : α -> β) : ∀ l : List α, ((List.range l.length).filter fun i => p (l.getD i d)).map (fun i => f (l.getD i d)) = (l.filter p).map f
 | [] => rfl
 | x :: l => by
  have ih := de d p f l
  rw [List.length_cons, List.range_succ_eq_map, List.filter_cons, List.filter_cons]
  have e : (((List.range l.length).map Nat.succ).filter fun i => p ((x :: l).getD i d)).map (fun i => f ((x :: l).getD i d)) = (l.filter p).map f := by
   rw [List.filter_map, List.map_map]
   exact ih
  show (if p x = true then _ else _ : List Nat).map _ = _
  cases hp : p x with
  | true =>
   simp only [if_true, List.map_cons]
   rw [e]; rfl
  | false =>
   simp only [Bool.false_eq_true, if_false]
   exact e
theorem dF {α β : Type} (d : α) (f : α -> β) (l : List α) : ((List.range l.length).filter fun _ => true).map (fun i => f (l.getD i d)) = l.map f := by
 have := de d (fun _ => true) f l
 rw [this, List.filter_eq_self.mpr (by intros; rfl)]
theorem aR {α : Type} {l : List α} {i : Nat} {x : α} (d : α) (h : l[i]? = some x) : l.getD i d = x := by rw [List.getD_eq_getElem?_getD, h]; rfl
section
variable {prog : Program} {w : World} {A : Around} {E : cS} {s : Shared}
theorem rS {l : Addr} {items : Array Value} {k : Nat} {x : Int} {u : Tok} {Q : cS} (hl : s.heap.get? l = some { cls := .type "list", dict := none, data := .seq items k, slots := #[] })
  (hlo : -(2 ^ 63 : Int) ≤ x) (hhi : x < 2 ^ 63) (hsz : items.size * x.toNat ≤ 2 ^ 24)
  (h : Q (.ref s.heap.objs.size) { s with heap := s.heap.push { cls := .type "list", data := .seq (List.foldl (fun x1 x2 => x1 ++ x2) #[] (List.replicate (if items.isEmpty = true then 0 else x.toNat) items)) } }) :
  wpAny (model prog w) A (binaryOp .Mult (.ref l) (.int x u)) Q E s :=
 wpAny_binaryOp_repeat_ref (T := "list") (U := "int") (by decide) ⟨_, hl, rfl⟩ (fun s' => typeIs_int s' x u) noFill_list_mul F.fills_int_mul F.slot_int_rmul repeat_list F.slot_int_index.lookup
  (call_meets F.slot_int_rmul (typeIs_int s x u) F.entry_int_rmul (F.args_int_rmul_2 _ _) (int___rmul___int_list x u l items k)
   ⟨hl, rfl, ⟨_, hl, rfl⟩, call_meets F.slot_list_mul ⟨_, hl, rfl⟩ F.entry_list_mul (F.args_list_mul_2 _ _)
    (AutoListH.list___mul___list_int_3 l items k x u (by simp [Builtin.List.listFitsIndex]; omega) (by omega) (by simp [Builtin.List.listTooLong, sizeLine]; omega))
    ⟨hl, h⟩⟩)
end
theorem mL (u : Value) : ∀ (n : Nat) (acc : Array Value), (List.foldl (fun x1 x2 => x1 ++ x2) acc (List.replicate n #[u])).toList = acc.toList ++ List.replicate n u
 | 0, acc => by simp
 | n + 1, acc => by
  rw [List.replicate_succ, List.foldl_cons, mL u n, List.replicate_succ]
  simp
theorem lQ {v : V} {u : Value} (r : bn v u) : ∀ n : Nat, aW (List.replicate n v) (List.replicate n u)
 | 0 => .nil
 | n + 1 => .cons r (lQ r n)
theorem oF {X : Cx} : e9 X (binaryOp .Mult) (fun x y H Q => ∃ (p : Addr) (v : V) (n : Nat), x = .ref p /\ y = .int n /\ H p = some (.lst [v]) /\ n ≤ 1000 /\ ∀ l, H l = none -> Q (.ref l) (upd H l (.lst (List.replicate n v)))) := by
 intro pins s σ H x y xv yv Q I rx ry h
 obtain ⟨p, v, n, rfl, rfl, hp, hn, q⟩ := h
 cases (show xv = Value.ref p from rx)
 obtain ⟨t, rfl⟩ := (show ∃ t, yv = Value.int n t from ry)
 obtain ⟨_, its, c, rv, e⟩ := (show ObjOk X.prog X.w H s.heap p (.lst [v]) from I.hok p _ hp)
 cases rv with
 | @cons _ u _ _ r0 rr =>
 cases rr
 refine rS e (by omega) (by omega) (by simp; omega) ?_
 have el : (List.foldl (fun x1 x2 => x1 ++ x2) #[] (List.replicate (if ([u] : List Value).toArray.isEmpty = true then 0 else (n : Int).toNat) [u].toArray)) = (List.replicate n u).toArray := by
  apply Array.ext'
  have := mL u n #[]
  simpa using this
 rw [el]
 have I2 : Inv X pins σ (upd H s.heap.objs.size (.lst (List.replicate n v))) { s with heap := s.heap.push { cls := .type "list", data := .seq (List.replicate n u).toArray } } :=
  I.laid (t' := s.toks) (fun b o e => Heap.get?_push_of_some _ e) (Nat.le_refl _) (show ObjOk X.prog X.w _ _ _ (.lst (List.replicate n v)) from ⟨by rw [List.length_replicate, sizeLine_eq]; omega, List.replicate n u, _, lQ r0 n, Heap.get?_push_size _ rfl⟩)
 exact ⟨.ref s.heap.objs.size, _, I2, rfl, q _ (I.hok.fresh (Nat.le_refl _))⟩
theorem gi {X : Cx} (hc : X.calm = true) : df X (.type "list") (fun xs H Q => ∃ p, ∃ n : Nat, xs = [.ref p] /\ H p = some (.rng 0 n) /\ n ≤ 1000 /\ ∀ l, H l = none -> Q (.ref l) (upd H l (.lst ((upTo n).map V.int)))) := by
 intro pins s σ H xs us Q I r h
 obtain ⟨p, n, rfl, hp, hn, q⟩ := h
 obtain ⟨u, rfl, rx⟩ := fg r
 cases rx
 obtain ⟨t, u, w, e⟩ := (show ObjOk X.prog X.w H s.heap p (.rng 0 n) from I.hok p _ hp)
 refine call_list_range (I.ok.hd hc) (show IsRange s.heap p 0 n 1 t u w from e) (small_one (by omega) (by omega) (by omega) (by omega)) (ut n) (by omega) fun h' tk acc c' hk hS hi => ?_
 have rv := mZ hi
 have hl : (upTo n).length = n := by unfold upTo; simp
 have I2 : Inv X pins σ (upd H s.heap.objs.size (.lst ((upTo n).map V.int))) { s with heap := h', toks := tk } :=
  I.laid (t' := tk) hk (Nat.le_refl _) (show ObjOk X.prog X.w _ _ _ (.lst ((upTo n).map V.int)) from ⟨by rw [List.length_map, hl, sizeLine_eq]; omega, acc.toList, c', rv, by simpa using hS⟩)
 exact ⟨.ref s.heap.objs.size, _, I2, rfl, q _ (I.hok.fresh (Nat.le_refl _))⟩
theorem eK {X : Cx} {K : Fg} (hK : X.K = K) : e9 X (compareOp .NotIn) (AU K true) := hK ▸ kX
theorem nH {X : Cx} {K : Fg} (hK : X.K = K) : e9 X (compareOp .In) (AU K false) := hK ▸ qi
theorem gE (t : Nat) (ls : List Nat) : k8 (.int t) (ls.map fun n : Nat => V.int n) = ls.contains t := by
 unfold k8
 rw [List.any_map]
 induction ls with
 | nil => rfl
 | cons a r ih =>
  rw [List.any_cons, List.contains_cons, ih]
  congr 1
  show decide (((a : Nat) : Int) = (t : Nat)) = (t == a)
  by_cases h : t = a
  ·subst h; simp
  ·rw [beq_eq_false_iff_ne.mpr h]
   exact decide_eq_false (by omega)
theorem fH (ls : List Nat) : (ls.map fun n : Nat => V.int n).all gG = true := by
 rw [List.all_map, List.all_eq_true]
 intro x _
 rfl
def vB (ds : List PyData) : Prop := ∀ e ∈ ds, e.canLay0 = true /\ e.depth ≤ 32
def Dc (K : Fg) : R2 := fun x y H Q => ∃ p xs ds d, y = .ref p /\ aO K H p xs /\ bA K H xs ds /\ vB ds /\ bJ K H x d /\ d.canLay0 = true /\ PyData.eqv d d = true /\ Q (.bl (ds.any fun e => PyData.eqv e d)) H
def AQ (K : Fg) : R2 := fun x y H Q => ∃ p xs ds d, y = .ref p /\ aO K H p xs /\ bA K H xs ds /\ vB ds /\ bJ K H x d /\ d.canLay0 = true /\ PyData.eqv d d = true /\ Q (.bl (!ds.any fun e => PyData.eqv e d)) H
def Cj (K : Fg) : R2 := fun x y H Q => ∃ p xs ds d, y = .ref p /\ bt K H p xs /\ bA K H xs ds /\ vB ds /\ bJ K H x d /\ d.canLay0 = true /\ PyData.eqv d d = true /\ Q (.bl (ds.any fun e => PyData.eqv e d)) H
def AT (K : Fg) : V -> List V -> Hp -> VK -> Prop := fun x vs H Q => ∃ p xs ds w d, x = .ref p /\ vs = [w] /\ aO K H p xs /\ bA K H xs ds /\ vB ds /\ bJ K H w d /\ d.canLay0 = true /\ PyData.eqv d d = true /\ (∃ e ∈ ds, PyData.eqv e d = true) ∧
 ∀ (j : Nat) (e : PyData), ds[j]? = some e -> PyData.eqv e d = true -> (∀ m f, m < j -> ds[m]? = some f -> PyData.eqv f d = false) -> Q (.int j) H
def AR : V -> List V -> Hp -> VK -> Prop := fun x vs H Q => ∃ (l : Addr) (xs : List V) (j : Nat) (y : V), x = .ref l /\ vs = [.int j, y] /\ H l = some (.lst xs) /\ j ≤ xs.length /\ xs.length < sizeLine /\ Q .non (upd H l (.lst (xs.take j ++ y :: xs.drop j)))
mutual
def Cr : PyData -> Bool
 | .int i => decide (i.natAbs < 2 ^ 230)
 | .tuple ds => nR ds
 | .list ds => nR ds
 | .dict _ => false
 | _ => true
def nR : List PyData -> Bool
 | [] => true
 | d :: ds => Cr d && nR ds
end
structure Gd (k n : Nat) (d : PyData) : Prop where
 sh : Sh k n d
 lay : d.canLay0 = true
 bd : Cr d = true
def Aq : PyData -> R
 | .tuple [.int a, .int b] => (a, b)
 | _ => (0, 1)
def Bz : PyData -> R × R
 | .tuple [x, y] => (Aq x, Aq y)
 | _ => nA
end B
namespace B
open PySem PySem.Spec L2 PyProof.Rows
theorem j6 {X : Cx} (hc : X.calm = true) : df X (.builtin "min") (fun xs H Q => ∃ (p : Addr) (ns : List Int), xs = [.ref p] /\ aO X.K H p (ns.map V.int) /\ 0 < ns.length /\ ∀ M, M ∈ ns -> (∀ a ∈ ns, M ≤ a) -> Q (.int M) H) := by
 intro pins s σ H xs us Q I r h
 obtain ⟨p, ns, rfl, hq, hne, q⟩ := h
 obtain ⟨u, rfl, rx⟩ := fg r
 cases rx
 obtain ⟨its, rv, pl, hz⟩ := I.list hq
 have hi := k7 rv
 obtain ⟨zs, ez⟩ := hi.allInts.items
 have hl := pl.isList
 rw [ez] at hl
 have en : numsOf its = ns := hi.numsOf
 rw [show its = its.toArray.toList from rfl, ez, nums_intItems] at en
 have hlen : zs.size = ns.length := by rw [← en, List.length_map, Array.length_toList]
 refine min_intList (I.ok.hd hc) hl (by omega) fun v h' tk hv hk => ?_
 obtain ⟨t, rfl⟩ := intItems_at hv
 obtain ⟨h1, h2⟩ := argBest_lt (numAt zs) (zs.size - 1)
 refine ⟨.int _, H, I.kept (t' := tk) hk, ⟨_, rfl⟩, q _ ?_ fun a ha => ?_⟩
 ·rw [numAt_eq, en]; exact getD_mem (by omega)
 ·rw [← en] at ha
  obtain ⟨j, hj, rfl⟩ := mem_getD ha
  rw [List.length_map, Array.length_toList] at hj
  rw [← numAt_eq]; exact h2 j (by omega)
theorem mS {J : It} {H : Hp} {D : Addr} {n : Nat} (Pv : Nat -> List V -> Hp -> Prop) {src : List (Option Nat)} {σ : L2.St} {g : TG} {tt : TT} {te : TE} {Q : Hp -> Prop} (h0 : Pv 0 [] (upd H D (.lst [])))
  (go : ∀ i ys H', i < n -> Pv i ys H' -> J.go i H') (stop : ∀ ys H', Pv n ys H' -> J.stop n H' /\ Q H')
  (turn : ∀ i ys H' x H'', i < n -> Pv i ys H' -> J.yld i H' x H'' -> ∀ (R : VK) (E : Hp -> Prop), (∀ y H4, H4 D = some (.lst ys) -> ys.length < sizeLine -> Pv (i + 1) (ys ++ [y]) (upd H4 D (.lst (ys ++ [y]))) -> R y H4) -> (∀ H3, Pv (i + 1) ys H3 -> E H3) →
   g x (bW src σ) H'' fun σ2 H2 => eJ (bW src σ) σ2 /\ tt σ2 H2 fun ok H3 => if ok = true then te σ2 H3 R else E H3) :
  ∃ W : Nat -> Nat -> List V -> Hp -> Prop, (∃ m, W 0 m [] (upd H D (.lst []))) /\ ∀ i m ys H, W i m ys H -> (J.stop i H /\ Q H) ∨ (J.go i H /\ ∀ x H', J.yld i H x H' →
   g x (bW src σ) H' fun σ2 H2 => eJ (bW src σ) σ2 /\ tt σ2 H2 fun ok H3 =>
    if ok = true then te σ2 H3 fun y H4 => H4 D = some (.lst ys) /\ ys.length < sizeLine /\ ∃ m', m' < m /\ W (i + 1) m' (ys ++ [y]) (upd H4 D (.lst (ys ++ [y]))) else ∃ m', m' < m /\ W (i + 1) m' ys H3) := by
 refine ⟨fun i m ys H' => i ≤ n /\ m = n - i /\ Pv i ys H', ⟨_, Nat.zero_le _, rfl, h0⟩, ?_⟩
 rintro i m ys H1 ⟨hi, rfl, p⟩
 by_cases hix : i < n
 ·refine .inr ⟨go i ys H1 hix p, fun x H2 y => ?_⟩
  refine turn i ys H1 x H2 hix p y _ _ (fun y H4 a b c => ⟨a, b, n - (i + 1), by omega, hix, rfl, c⟩) fun H3 c => ⟨n - (i + 1), by omega, hix, rfl, c⟩
 ·have e : i = n := by omega
  subst e
  exact .inl (stop ys H1 p)
def Bh (t : TS) : TS := fun D σ H => ∃ M : L2.St -> Hp -> Prop, t { D with nx := M } σ H /\ ∀ σ' H', M σ' H' -> D.nx σ' H'
theorem kU {X : Cx} {st : Stmt} {t : TS} (h : QS X st t) : QS X st (Bh t) := ⟨by
 intro pins s σ H D I q
 obtain ⟨M, q, k⟩ := q
 refine bZ (h.p pins s σ H _ I q) fun f s' z => ?_
 cases f with
 | next => obtain ⟨σ', H', I', m⟩ := z; exact ⟨σ', H', I', k _ _ m⟩
 | brk => exact z
 | cont => exact z
 | ret u => exact z⟩
end B
namespace B
abbrev Ln := Nat × Nat
inductive gQ (es : List Ln) : Nat -> Nat -> Prop where
 | one {a b : Nat} (h : (a, b) ∈ es) : gQ es a b
 | step {a b c : Nat} (h : (a, b) ∈ es) (t : gQ es b c) : gQ es a c
theorem gQ.trans {es : List Ln} {a b c : Nat} (x : gQ es a b) (y : gQ es b c) : gQ es a c := by
 induction x with
 | one h => exact .step h y
 | step h _ ih => exact .step h (ih y)
theorem gQ.mono {es fs : List Ln} (s : ∀ e ∈ es, e ∈ fs) {a b : Nat} (x : gQ es a b) : gQ fs a b := by
 induction x with
 | one h => exact .one (s _ h)
 | step h _ ih => exact .step (s _ h) ih
def mX (n : Nat) (es : List Ln) : Prop := ∀ e ∈ es, e.1 < n /\ e.2 < n
theorem gQ.lt {n : Nat} {es : List Ln} (ok : mX n es) {a b : Nat} (x : gQ es a b) : a < n /\ b < n := by
 induction x with
 | one h => exact ok _ h
 | step h _ ih => exact ⟨(ok _ h).1, ih.2⟩
def yX (n : Nat) (es : List Ln) (L : Nat -> Nat -> Bool) : Prop := ∀ i j, i < n -> j < n -> (L i j = true ↔ gQ es j i)
def lF (L : Nat -> Nat -> Bool) (a b : Nat) : Nat -> Nat -> Bool := fun i j => L i j || ((decide (i = b) || L i b) && (decide (j = a) || L a j))
theorem vq (n : Nat) : yX n [] (fun _ _ => false) := fun i j _ _ => by
 constructor
 ·intro h; cases h
 ·intro h
  cases h with
  | one m => cases m
  | step m _ => cases m
theorem vt {n : Nat} {es : List Ln} {L : Nat -> Nat -> Bool} (ok : mX n es) (h : yX n es L) {a b : Nat} (ha : a < n) (hb : b < n) : yX n (es ++ [(a, b)]) (lF L a b) := by
 have ok' : mX n (es ++ [(a, b)]) := fun e he => by
  rcases List.mem_append.mp he with z | z
  ·exact ok e z
  ·rw [List.mem_singleton.mp z]; exact ⟨ha, hb⟩
 have sub : ∀ e ∈ es, e ∈ es ++ [(a, b)] := fun e he => List.mem_append_left _ he
 have new : (a, b) ∈ es ++ [(a, b)] := List.mem_append_right _ List.mem_cons_self
 have D : ∀ i j, lF L a b i j = true ↔ L i j = true ∨ ((i = b ∨ L i b = true) /\ (j = a ∨ L a j = true)) := fun i j => by
  unfold lF
  rw [Bool.or_eq_true, Bool.and_eq_true, Bool.or_eq_true, Bool.or_eq_true, decide_eq_true_iff, decide_eq_true_iff]
 have tr : ∀ i j k, i < n -> j < n -> k < n -> lF L a b i j = true -> lF L a b j k = true -> lF L a b i k = true := by
  intro i j k hi hj hk x y
  have T : ∀ u v w, u < n -> v < n -> w < n -> L u v = true -> L v w = true -> L u w = true := fun u v w hu hv hw p q => (h u w hu hw).mpr (((h v w hv hw).mp q).trans ((h u v hu hv).mp p))
  rw [D] at x y ⊢
  rcases x with x | ⟨x1, x2⟩
  ·rcases y with y | ⟨y1, y2⟩
   ·exact .inl (T i j k hi hj hk x y)
   ·refine .inr ⟨.inr ?_, y2⟩
    rcases y1 with y1 | y1
    ·subst y1; exact x
    ·exact T i j b hi hj hb x y1
  ·rcases y with y | ⟨_, y2⟩
   ·refine .inr ⟨x1, .inr ?_⟩
    rcases x2 with x2 | x2
    ·subst x2; exact y
    ·exact T a j k ha hj hk x2 y
   ·exact .inr ⟨x1, y2⟩
 intro i j hi hj
 constructor
 ·intro x
  rw [D] at x
  rcases x with x | ⟨x1, x2⟩
  ·exact ((h i j hi hj).mp x).mono sub
  ·have s1 : gQ (es ++ [(a, b)]) j b := by
    rcases x2 with x2 | x2
    ·subst x2; exact .one new
    ·exact (((h a j ha hj).mp x2).mono sub).trans (.one new)
   rcases x1 with x1 | x1
   ·subst x1; exact s1
   ·exact s1.trans (((h i b hi hb).mp x1).mono sub)
 ·intro x
  have E : ∀ u v, (u, v) ∈ es ++ [(a, b)] -> lF L a b v u = true := fun u v m => by
   rw [D]
   rcases List.mem_append.mp m with z | z
   ·have := ok _ z
    exact .inl ((h v u this.2 this.1).mpr (.one z))
   ·cases List.mem_singleton.mp z
    exact .inr ⟨.inl rfl, .inl rfl⟩
  clear hi hj
  induction x with
  | one m => exact E _ _ m
  | @step u v w m t ih =>
   have l1 := ok' _ m
   have l2 := t.lt ok'
   exact tr w v u l2.2 l1.2 l1.1 ih (E _ _ m)
structure Rx (n : Nat) (es : List Ln) (v : Nat -> Int) (ps : Nat -> Nat) (r k : Nat) (F : Nat -> Int) : Prop where
 bas : ∀ i, i < n -> v i ≤ F i
 att : ∀ i, i < n -> ∃ j, j < n /\ (j = i ∨ gQ es j i) /\ F i = v j
 don : ∀ i, i < n -> ps i < r -> ∀ j, j < n -> (j = i ∨ gQ es j i) -> v j ≤ F i
 cur : ∀ m a b, m < k -> es[m]? = some (a, b) -> ps b ≤ r -> ∀ j, j < n -> (j = a ∨ gQ es j a) -> v j ≤ F b
def C3 (F : Nat -> Int) (a b : Nat) : Nat -> Int := fun i => if i = b then max (F b) (F a) else F i
structure DU (n : Nat) (es : List Ln) (v : Nat -> Int) (F : Nat -> Int) : Prop where
 up : ∀ i j, i < n -> j < n -> (j = i ∨ gQ es j i) -> v j ≤ F i
 att : ∀ i, i < n -> ∃ j, j < n /\ (j = i ∨ gQ es j i) /\ F i = v j
def DK (es : List Ln) : List Ln := es.map fun e => (e.2, e.1)
end B
namespace B
open PySem PySem.Spec L2 PyProof.Rows
def AD (r r' r'' : R2) (ta tb tc td : TE) : TE := fun σ H Q => ta σ H fun x H1 => tb σ H1 fun y H2 => r x y H2 fun z H3 => ∃ k, z = .bl k ∧
 (if k = true then tc σ H3 fun w' H4 => r' y w' H4 fun z' H5 => ∃ k', z' = .bl k' /\ (if k' = true then td σ H5 fun u' H6 => r'' w' u' H6 Q else Q (.bl false) H5) else Q (.bl false) H3)
section
variable {prog : Program} {w : World} {A : Around} {E : cS} {s : Shared}
end
def CO (K : Fg) (te : TE) : TE := fun σ H Q => te σ H fun x H1 => ∃ a xs, x = .ref a /\ bt K H1 a xs /\ ∀ p, H1 p = none -> Q (.ref p) (upd H1 p (.tup xs.reverse))
end B
namespace B
theorem mU {b : Int} (h : 0 < b) : (0 : Rat) < (b : Rat) := by
 have := Rat.intCast_lt_intCast.mpr h
 exact this
theorem lS {r q : R} (hr : 0 < r.2) (hq : 0 < q.2) : cR r q = true ↔ val r < val q := by
 rw [mH, ← Rat.intCast_lt_intCast, Rat.intCast_mul, Rat.intCast_mul]
 have h1 := mU hr
 have h2 := mU hq
 have e1 : (r.1 : Rat) = val r * (r.2 : Rat) := by
  have := d6 hr
  unfold val
  generalize (r.1 : Rat) = x at *
  generalize (r.2 : Rat) = y at *
  grind
 have e2 : (q.1 : Rat) = val q * (q.2 : Rat) := by
  have := d6 hq
  unfold val
  generalize (q.1 : Rat) = x at *
  generalize (q.2 : Rat) = y at *
  grind
 rw [e1, e2]
 generalize val r = x at *
 generalize val q = y at *
 generalize (r.2 : Rat) = u at *
 generalize (q.2 : Rat) = v at *
 have c : 0 < u * v := Rat.mul_pos h1 h2
 constructor
 ·intro h
  have h' : x * (u * v) < y * (u * v) := by grind
  by_cases w : x < y
  ·exact w
  ·have z : y ≤ x := Rat.not_lt.mp w
   have := Rat.mul_le_mul_of_nonneg_right z (Rat.le_of_lt c)
   grind
 ·intro h
  have := Rat.mul_lt_mul_of_pos_right h c
  grind
theorem gk {r q : R} (hr : 0 < r.2) (hq : 0 < q.2) : cR r q = false ↔ val q ≤ val r := by
 have a := lS hr hq
 cases c : cR r q with
 | true =>
  have := a.mp c
  constructor
  ·intro z; cases z
  ·intro z; grind
 | false =>
  constructor
  ·intro _
   by_cases w : val r < val q
   ·rw [a.mpr w] at c; cases c
   ·exact Rat.not_lt.mp w
  ·intro _; rfl
end B
namespace B
open PySem PySem.Spec L2 PyProof.Rows
def DW (zs : List R) : Prop := zs.Pairwise fun a b => cR a b = true
end B
namespace L2
open PySem PySem.Spec PyProof.Rows
structure fo (k : Nat) (A : Around) : Prop where
 dp : A.depth + 3 * k + 5 < recursionLimit
 un : A.units + 16 * k + 200 < cLine
 gd : A.guards = some []
theorem fo.depth {k : Nat} {A : Around} (r : fo k A) : A.depth < recursionLimit := by have := r.dp; omega
theorem fo.deeper {k : Nat} {A : Around} (r : fo (k + 1) A) (env : Env) : fo k (A.deeper env) :=
 ⟨by have := r.dp; show A.depth + 1 + 3 * k + 5 < _; omega, by have := r.un; show A.units + 3 + 16 * k + 200 < _; omega, r.gd⟩
theorem cQ.inM {j k : Nat} {A : Around} {v : Option Value} (r : cQ k A) (h : j ≤ k) : fo j (A.mark v) :=
 ⟨by have := r.dp; show A.depth + 3 * j + 5 < _; omega, by have := r.un; show A.units + 16 * j + 200 < _; omega, r.gd⟩
structure kj (P : Program) (w : World) (K : Fg) (mg : Str -> Option Value) (base : Heap) (CX : lJ) (k : Nat) (f : Addr) (fd : FuncData) (ps : List Str) (sp : Sp) : Prop where
 len : ∀ vs H Q E, sp vs H Q E -> vs.length = ps.length
 run : ∀ (A : Around) (outer : List Env) (s : Shared) (H : Hp) (args : Args) (us : List Value) (vs : List V) (Q : VK) (E : XK), fo k A -> hJ P w K mg base A outer s H -> BindsTo s fd args (ps.zip us) -> aW vs us -> sp vs H Q E →
  codeAny (model P w) A (.call (.ref f) args) (CR CX outer P w H s Q E) s
def As (CX : lJ) (P : Program) (w : World) (K : Fg) (mg : Str -> Option Value) (base : Heap) (N : List Str) (qual : Str) (scope : Scope) (f : Addr) (cd : Value) (A : Around) (outer : List Env) (s : Shared) (H : Hp) (E : XK) : Cx := { bO CX P w K mg base N qual scope f cd A outer s H E with calm := false }
theorem nQ {CX : lJ} {P : Program} {w : World} {K : Fg} {mg : Str -> Option Value} {base : Heap} {N ps : List Str} {qual : Str} {scope : Scope} {f : Addr} {cd : Value} {A : Around} {outer : List Env} {s s1 : Shared} {H : Hp} {E : XK} {us : List Value} {vs : List V}
  (S : aJ N ps scope) (e0 : hJ P w K mg base A outer s H) (hl : vs.length = ps.length) (r : aW vs us)
  (x : InCallC s s.heap.objs.size (bindL (envOfC qual scope s.heap.objs.size f cd).kindOf (ps.zip us) fun _ => none) (cellsFrom (s.heap.objs.size + 1) scope.names []) (bindC (envOfC qual scope s.heap.objs.size f cd).kindOf (ps.zip us) fun _ => none) s1) :
  Inv (As CX P w K mg base N qual scope f cd A outer s H E) [] (eG N vs) H s1 := by
 have e1 : hJ P w K mg base { A with handled := none } outer s H := ⟨e0.frames, e0.mod, e0.bs, e0.bsz, e0.funs, e0.frf, e0.hok, e0.bare⟩
 have I := jW (CX := CX) (E := E) S rfl e1 hl r x
 exact ⟨⟨I.ok.mod, I.ok.kind, I.ok.glob, I.ok.blt, I.ok.above, I.ok.inj, I.ok.has, I.ok.cab, (fun z => nomatch z), I.ok.frames, I.ok.stk, I.ok.exf, I.ok.bs, I.ok.bsz, I.ok.noex, I.ok.exfs, I.ok.funs, I.ok.frf⟩, I.os, I.bare, I.base, I.loc, I.cell, I.free, I.freeC, I.pin, I.hok, I.len⟩
theorem yl {CX : lJ} {P : Program} {w : World} {K : Fg} {mg : Str -> Option Value} {base : Heap} {k : Nat} {f : Addr} {name qual : Str} {params : Arguments} {body : List Stmt} {scope : Scope} {dV kV doc pm cdv ct oc : Value} {an od : Option Addr}
  {osl : Array (Option Value)} {N ps : List Str} {sp : Sp} (lk : K.lookup f = some ⟨oc, od, .func (PySem.W.fnOf name qual params body scope dV kV doc pm an cdv ct), osl⟩) (hcd : PySem.W.codeIn K cdv qual = true) (S : aJ N ps scope)
  (len : ∀ vs H Q E, sp vs H Q E -> vs.length = ps.length)
  (hbody : ∀ (A : Around) (outer : List Env) (s : Shared) (H : Hp) (vs : List V) (Q : VK) (E : XK), fo k (A.deeper (envOfC qual scope s.heap.objs.size f cdv)) -> sp vs H Q E →
   ∃ t, kh (As CX P w K mg base N qual scope f cdv A outer s H E) body t /\ t { nx := fun _ H' => Q .non H', rt := Q } (eG N vs) H) :
  kj P w K mg base CX (k + 1) f (PySem.W.fnOf name qual params body scope dV kV doc pm an cdv ct) ps sp := by
 refine ⟨len, fun A outer s H args us vs Q E hr e0 hb r hsp => ?_⟩
 have hl := len _ _ _ _ hsp
 have KX : K.In s.heap := e0.mod.kin.keeps fun b o e => (e0.bs b o e).1
 have lim : s.heap.NoLimit := e0.mod.nolimit.keeps fun b o e => (e0.bs b o e).1
 have hkind : ∀ y ∈ ps.zip us, scope.names.lookup y.1 = some .local ∨ (scope.names.lookup y.1 = some .cell /\ ((cellsFrom (s.heap.objs.size + 1) scope.names []).lookup y.1).isSome = true) := fun ⟨n, v⟩ hy => by
  rcases S.par n (List.of_mem_zip hy).1 with q | q
  ·exact .inl q
  ·exact .inr ⟨q, PySem.W.cellsFrom_some _ _ _ (.inl q)⟩
 refine codeAny_call_function hr.depth (KX _ _ lk) rfl S.co S.gen rfl (PySem.W.codeRec_of KX hcd) (hb _ _ _ _ ?_)
 refine wpAny_newFunctionEnv_cells S.kind hkind fun env he s1 x => ?_
 subst he
 refine ⟨lim.keeps x.toInCall.keep, codeAny_func ?_⟩
 obtain ⟨t, ht, hq⟩ := hbody A outer s H vs Q E (hr.deeper _) hsp
 have I : Inv (As CX P w K mg base N qual scope f cdv A outer s H E) [] (eG N vs) H s1 := nQ S e0 hl r x
 refine wpAny_mono (ht [] s1 (eG N vs) H _ I hq) (fun fl s' hs => ?_) fun e s' hs => hs
 have fin : ∀ {σ' : St} {H' : Hp} {v : V} {u : Value}, Inv (As CX P w K mg base N qual scope f cdv A outer s H E) [] σ' H' s' -> bn v u -> Q v H' -> CE outer P w H s Q u s' :=
  fun {σ' H' v u} J rv q => ⟨v, H', J.os, J.bare, J.base, J.hok, rv, q⟩
 cases fl with
 | ret u =>
  obtain ⟨v, σ', H', J, rv, q⟩ := hs
  exact fin J rv q
 | next =>
  obtain ⟨σ', H', J, q⟩ := hs
  exact fin (v := V.non) (u := Value.none) J rfl q
 | brk =>
  obtain ⟨_, _, _, q⟩ := hs
  exact False.elim q
 | cont =>
  obtain ⟨_, _, _, q⟩ := hs
  exact False.elim q
section
variable {X : Cx} {CX : lJ} {k : Nat} {f C : Addr} {fd : FuncData} {ps : List Str} {sp : Sp} {dvs : List V} {ds : List Value} {E : XK} {x m : Str} {p pos apos : Pos} {e o : Expr} {es : List Expr} {ta : TE} {t : TA}
theorem uu {pins : bL} {σ : St} {H : Hp} {s : Shared} {Q : VK} {us : List Value} {vs : List V} (F : kj X.prog X.w X.K X.mg X.base CX k f fd ps sp) (hr : fo k X.A) (hb : aZ X.K fd ps ds) (hd : aW dvs ds) (hx : fK CX X E)
  (I : Inv X pins σ H s) (r : aW vs us) (h : sp (vs ++ dvs) H Q E) : wpAny (model X.prog X.w) X.A (call (.ref f) us) (EP X pins σ Q) X.xe s := by
 have r2 : aW (vs ++ dvs) (us ++ ds) := r.append hd
 have hl : (us ++ ds).length = ps.length := by rw [← r2.length]; exact F.len _ _ _ _ h
 refine wpAny_call (codeAny_mono (F.run X.A X.stack s H ⟨us, []⟩ (us ++ ds) (vs ++ dvs) Q E hr I.env0 (hb s us I.kIn hl) r2 h) fun r s' hq => ?_)
 cases r with
 | error e => exact hx pins σ H s e s' I hq
 | ok fl =>
  cases fl with
  | ret u => exact I.after hq
  | next => exact False.elim hq
  | brk => exact False.elim hq
  | cont => exact False.elim hq
theorem sR (F : kj X.prog X.w X.K X.mg X.base CX k f fd ps sp) (hr : fo k X.A) (hg : Gl X x) (hm : X.mg x = some (.ref f)) (hk : PySem.W.keepIn X.K (.ref f) = true) (hb : aZ X.K fd ps ds) (hd : aW dvs ds) (hx : fK CX X E)
  (ha : PA X (e :: es) t) (hdb : (x == ("__debug__" : Str)) = false := by decide) (he : starEach (e :: es) X.env = (false, eval e X.env) :: starEach es X.env := by rfl) (hpl : (backTo pos (starEach es X.env)).any (·.1) = false := by rfl) :
  PE X (.Call (.Name x p) (e :: es) [] pos) (lV sp dvs E t) := by
 intro pins s σ H Q I h
 refine wpAny_Call_Name_kw (fP I hg hm ?_ hdb)
 refine PySem.W.callWith_K (h₀ := X.base) I.ok.mod.kin hk (bZ (ha pos pins s σ H _ I h) fun us s1 ⟨vs, H1, I1, r, q⟩ => ⟨I1.kIn, ?_⟩) he hpl
 exact uu F hr hb hd hx I1 r q
end
section
variable {P : Program} {w : World} {K : Fg} {mg : Str -> Option Value} {base : Heap}
theorem Fun.okM {x qual : Str} {st : Stmt} {f : Addr} {fd : FuncData} {N ps : List Str} {k : Nat} {sp : Sp} (F : Fun K x qual st f fd) (S : aJ N ps (au st)) (len : ∀ vs H Q E, sp vs H Q E -> vs.length = ps.length)
  (hbody : ∀ (cdv : Value) (A : Around) (outer : List Env) (s : Shared) (H : Hp) (vs : List V) (Q : VK) (E : XK), fo k (A.deeper (envOfC qual (au st) s.heap.objs.size f cdv)) -> sp vs H Q E →
   ∃ t, kh (As dI P w K mg base N qual (au st) f cdv A outer s H E).nox (aI st) t /\ t { nx := fun _ H' => Q .non H', rt := Q } (eG N vs) H) : kj P w K mg base dI (k + 1) f fd ps sp := by
 obtain ⟨oc, od, kV, doc, pm, an, cdv, ct, osl, rfl, lk, hcd⟩ := F.ex
 refine yl lk hcd S len fun A outer s H vs Q E hr hsp => ?_
 obtain ⟨t, h, q⟩ := hbody cdv A outer s H vs Q E hr hsp
 exact ⟨t, h.nox, q⟩
end
end L2
namespace B
open PySem PySem.Spec L2 PyProof.Rows
section
set_option autoImplicit true
set_option relaxedAutoImplicit true
theorem si {X : Cx} {CX : lJ} {k : Nat} {f : Addr} {fd : FuncData} {ps : List Str} {sp : Sp} {dvs : List V} {ds : List Value} {E : XK} {x : Str} {p pos : Pos} {e : Expr} {es : List Expr} {t : TA} (F : kj X.prog X.w X.K X.mg X.base CX k f fd ps sp) (hr : fo k X.A) (hg : Gl X x) (hm : X.mg x = some (.ref f)) (hk : PySem.W.keepIn X.K (.ref f) = true) (hb : aZ X.K fd ps ds) (hd : aW dvs ds) (hx : fK CX X E) (ha : QA X (e :: es) t) (hdb : (x == ("__debug__" : Str)) = false := by decide) (he : starEach (e :: es) X.env = (false, eval e X.env) :: starEach es X.env := by rfl) (hpl : (backTo pos (starEach es X.env)).any (·.1) = false := by rfl) : QE X (.Call (.Name x p) (e :: es) [] pos) (lV sp dvs E t) := ⟨sR F hr hg hm hk hb hd hx ha.p hdb he hpl⟩
end
def Dx (d : Addr) (ob : Obj) (kvs : List (hG × V)) : It :=
 ⟨fun i H => H d = some (.frz ob (.dK kvs)) /\ i < kvs.length,
  fun i H x H' => ∃ p k v, H p = none /\ x = .ref p /\ kvs[i]? = some (k, v) /\ H' = upd H p (.tup [kV k, v]),
  fun i H => H d = some (.frz ob (.dK kvs)) /\ kvs.length ≤ i⟩
def By (td : TE) : TI := fun σ H R => td σ H fun x H1 => ∃ d kvs, x = .ref d /\ H1 d = some (.dK kvs) /\ ∀ ob, R (Dx d ob kvs) (upd H1 d (.frz ob (.dK kvs)))
def DR (ps : List (Int × Int)) : List (hG × V) := ps.map fun p => (Sum.inl p.1, V.int p.2)
def Ba : List (Int × Int) -> Int -> Int
 | [], _ => 0
 | (c, u) :: r, b => if c = b then u else Ba r b
def BC : List (Int × Int) -> Int -> Int -> List (Int × Int)
 | [], b, t => [(b, 0 + t)]
 | (c, u) :: r, b, t => if c = b then (c, u + t) :: r else (c, u) :: BC r b t
def Bk : List (Int × Int) -> Rat
 | [] => 0
 | p :: r => (p.2 : Rat) / (p.1 : Rat) + Bk r
structure Dq (n i : Nat) (ps : List (Int × Int)) : Prop where
 nd : (ps.map (·.1)).Nodup
 len : ps.length ≤ i
 bot : ∀ p ∈ ps, 0 < p.1 /\ p.1.natAbs < 2 ^ n
 top : ∀ p ∈ ps, p.2.natAbs ≤ i * 2 ^ n
def A7 : List R -> Rat
 | [] => 0
 | r :: t => val r + A7 t
theorem oo (n : Nat) : ∀ (rs : List R) (m : Nat) (acc : R), Wf m acc -> (∀ r ∈ rs, Wf n r) -> Wf (m + (n + 1) * rs.length) (rs.foldl bu acc)
 | [], m, acc, ha, _ => ha
 | r :: t, m, acc, ha, h => by
  refine (oo n t (m + n + 1) (bu acc r) (oC ha (h r List.mem_cons_self)) fun q hq => h q (List.mem_cons_of_mem _ hq)).mono ?_
  rw [List.length_cons, Nat.mul_succ]
  omega
theorem uk {n : Nat} {rs : List R} (h : ∀ r ∈ rs, Wf n r) : Wf (1 + (n + 1) * rs.length) (f7 rs) := oo n rs 1 (0, 1) n9 h
section
set_option autoImplicit true
set_option relaxedAutoImplicit true
end
end B
namespace B
abbrev Pl := Nat × Nat
def cU (p : Pl) : Int := (p.2 : Int) - p.1 + 1
def lK (p q : Pl) : Prop := p.1 < q.1 ∨ (p.1 = q.1 /\ q.2 ≤ p.2)
structure lO (S : Pl -> Prop) (L : Pl -> Int) (p : Pl) : Prop where
 inn : S p
 all : ∀ q, S q -> L q * cU p < L p * cU q ∨ (L q * cU p = L p * cU q /\ lK p q)
def ij (n : Nat) (p : Pl) : Prop := p.1 ≤ p.2 /\ p.2 < n
theorem ij.pos {n : Nat} {p : Pl} (h : ij n p) : 0 < cU p := by unfold cU; have := h.1; omega
theorem vk {l p q lr lp lq : Int} (hr : 0 < lr) (hp : 0 < lp) (hq : 0 < lq) (h1 : l * lp ≤ p * lr) (h2 : p * lq < q * lp) : l * lq < q * lr := by
 refine Int.lt_of_mul_lt_mul_right (a := lp) ?_ (Int.le_of_lt hp)
 have a1 : l * lq * lp = l * lp * lq := Int.mul_right_comm _ _ _
 have a2 : q * lr * lp = q * lp * lr := Int.mul_right_comm _ _ _
 have b1 : l * lp * lq ≤ p * lr * lq := Int.mul_le_mul_of_nonneg_right h1 (Int.le_of_lt hq)
 have b2 : p * lr * lq = p * lq * lr := Int.mul_right_comm _ _ _
 have b3 : p * lq * lr < q * lp * lr := Int.mul_lt_mul_of_pos_right h2 hr
 omega
theorem vm {l p q lr lp lq : Int} (hr : 0 < lr) (hp : 0 < lp) (hq : 0 < lq) (h1 : l * lp < p * lr) (h2 : p * lq ≤ q * lp) : l * lq < q * lr := by
 refine Int.lt_of_mul_lt_mul_right (a := lp) ?_ (Int.le_of_lt hp)
 have a1 : l * lq * lp = l * lp * lq := Int.mul_right_comm _ _ _
 have a2 : q * lr * lp = q * lp * lr := Int.mul_right_comm _ _ _
 have b1 : l * lp * lq < p * lr * lq := Int.mul_lt_mul_of_pos_right h1 hq
 have b2 : p * lr * lq = p * lq * lr := Int.mul_right_comm _ _ _
 have b3 : p * lq * lr ≤ q * lp * lr := Int.mul_le_mul_of_nonneg_right h2 (Int.le_of_lt hr)
 omega
theorem vn {l p q lr lp lq : Int} (hp : 0 < lp) (h1 : l * lp = p * lr) (h2 : p * lq = q * lp) : l * lq = q * lr := by
 refine Int.eq_of_mul_eq_mul_right (a := lp) (Int.ne_of_gt hp) ?_
 have a1 : l * lq * lp = l * lp * lq := Int.mul_right_comm _ _ _
 have a2 : q * lr * lp = q * lp * lr := Int.mul_right_comm _ _ _
 have b2 : p * lr * lq = p * lq * lr := Int.mul_right_comm _ _ _
 rw [a1, a2, h1, b2, h2]
theorem lO.more {n : Nat} {S S' : Pl -> Prop} {L : Pl -> Int} {p q : Pl} (h : lO S L p) (st : ∀ r, S' r -> ij n r) (e : ∀ r, S' r ↔ S r ∨ r = q) (gt : L p * cU q < L q * cU p) : lO S' L q := by
 have iq : S' q := (e q).mpr (.inr rfl)
 have ip : S' p := (e p).mpr (.inl h.inn)
 refine ⟨iq, fun r hr => ?_⟩
 rcases (e r).mp hr with z | z
 ·refine .inl (vk (st r hr).pos (st p ip).pos (st q iq).pos ?_ gt)
  rcases h.all r z with z | ⟨z, _⟩
  ·exact Int.le_of_lt z
  ·exact Int.le_of_eq z
 ·subst z
  exact .inr ⟨rfl, .inr ⟨rfl, Nat.le_refl _⟩⟩
theorem lO.stay {S S' : Pl -> Prop} {L : Pl -> Int} {p q : Pl} (h : lO S L p) (e : ∀ r, S' r ↔ S r ∨ r = q) (le : L q * cU p ≤ L p * cU q) (o : lK p q ∨ L q * cU p ≠ L p * cU q) : lO S' L p := by
 refine ⟨(e p).mpr (.inl h.inn), fun r hr => ?_⟩
 rcases (e r).mp hr with z | z
 ·exact h.all r z
 ·subst z
  by_cases c : L r * cU p = L p * cU r
  ·rcases o with o | o
   ·exact .inr ⟨c, o⟩
   ·exact absurd c o
  ·exact .inl (by omega)
theorem lO.longer {n : Nat} {S S' : Pl -> Prop} {L : Pl -> Int} {p q : Pl} (h : lO S L p) (st : ∀ r, S' r -> ij n r) (e : ∀ r, S' r ↔ S r ∨ r = q) (eq : L q * cU p = L p * cU q) (b : q.1 = p.1) (l : p.2 ≤ q.2) : lO S' L q := by
 have iq : S' q := (e q).mpr (.inr rfl)
 have ip : S' p := (e p).mpr (.inl h.inn)
 refine ⟨iq, fun r hr => ?_⟩
 rcases (e r).mp hr with z | z
 ·rcases h.all r z with z | ⟨z, o⟩
  ·exact .inl (vm (st r hr).pos (st p ip).pos (st q iq).pos z (Int.le_of_eq eq.symm))
  ·refine .inr ⟨vn (st p ip).pos z eq.symm, ?_⟩
   unfold lK at o ⊢
   omega
 ·subst z
  exact .inr ⟨rfl, .inr ⟨rfl, Nat.le_refl _⟩⟩
theorem lO.congr {S S' : Pl -> Prop} {L : Pl -> Int} {p : Pl} (h : lO S L p) (e : ∀ r, S' r ↔ S r) : lO S' L p := ⟨(e p).mpr h.inn, fun q hq => h.all q ((e q).mp hq)⟩
def CA (n b e : Nat) (p : Pl) : Prop := ij n p /\ (p.1 < b ∨ (p.1 = b /\ e ≤ p.2))
def et (n b e : Nat) (p : Pl) : Prop := ij n p /\ (p.1 < b ∨ (p.1 = b /\ p.2 < e))
theorem nv {n b e : Nat} (h1 : b ≤ e) (h2 : e < n) (r : Pl) : et n b (e + 1) r ↔ et n b e r ∨ r = (b, e) := by
 obtain ⟨x, y⟩ := r
 unfold et ij
 rw [Prod.mk.injEq]
 simp only
 omega
theorem nw {n b : Nat} (r : Pl) : et n (b + 1) (b + 1) r ↔ et n b n r := by
 obtain ⟨x, y⟩ := r
 unfold et ij
 simp only
 omega
theorem jo {n : Nat} (r : Pl) : ij n r ↔ et n n n r := by
 obtain ⟨x, y⟩ := r
 unfold et ij
 simp only
 omega
abbrev Wn := Option (Nat × Nat)
def eV (b e : Nat) : Wn -> Bool
 | none => false
 | some (x, y) => decide (b ≤ x) && decide (y ≤ e)
def cn (ws : List Wn) (p : Pl) : List Nat := (List.range ws.length).filter fun i => eV p.1 p.2 (ws.getD i none)
def fD (ws : List Wn) (A : Nat -> Int) (p : Pl) : Int := ((cn ws p).map A).sum
theorem iB {A : Nat -> Int} (h : ∀ i, 0 ≤ A i) : ∀ l : List Nat, 0 ≤ (l.map A).sum
 | [] => Int.le_refl _
 | x :: l => by
  rw [List.map_cons, List.sum_cons]
  have := h x
  have := iB h l
  omega
end B
namespace B
open PySem PySem.Spec L2 PyProof.Rows
def kZ (ns : List Int) : List Int := ns.foldl step_dedup []
def Ch (K : Fg) : List V -> Hp -> VK -> Prop := fun xs H Q => ∃ p ns, xs = [.ref p] /\ aO K H p (ns.map V.int) /\ ns.length ≤ 1000 /\ ∀ l, H l = none -> Q (.ref l) (upd H l (.set (fun k => (kZ ns).any (· == k)) (kZ ns).length))
def Ci : List V -> Hp -> VK -> Prop := fun xs H Q => ∃ p S n, xs = [.ref p] /\ H p = some (.set S n) /\ Q (.int n) H
def BG (xs : Array Nat) : Prop := ∀ i j (_ : i < j) (hj : j < xs.size), xs[i]'(by omega) < xs[j]
def BF (t : SetTable) : Prop := t.plain = true -> t.dummies = #[] /\ BG t.place
section
variable {prog : Program} {w : World} {A : Around} {E : cS} {s : Shared}
def A8 : Value -> Int
 | .int n _ => n
 | _ => 0
def yN (w : World) (h : Heap) (a : Addr) (ks : List Int) : Prop := ∃ o es ep t, h.get? a = some o /\ o.ExactSet /\ o.data = .set es ep t /\ (∀ e ∈ es.toList, ∃ n u, e = (hashInt n, Value.int n u)) ∧
 (es.toList.map fun e => A8 e.2).Perm ks /\ t.fits es.size = true /\ BF t /\ t.led = !w.params.followText "set-order"
end
section
variable {prog : Program} {w : World} {A : Around} {E : cS} {s : Shared}
def yT (w : World) : Obj := { cls := .type "set", dict := none, data := .set #[] 0 (.fresh 0 0 (!w.params.followText "set-order")) }
variable {R : Result -> Shared -> Prop} {I : Addr} {fp wr : List Addr} {G : Array GenState -> Array GenState -> Prop} {n : Nat} {P : Nat -> Value -> Prop} {St : Nat -> Shared -> Prop}
end
section
variable {prog : Program} {w : World} {A : Around} {E : cS} {s : Shared}
end
namespace FS
end FS
section
variable {prog : Program} {w : World} {A : Around} {E : cS} {s : Shared}
def C1 (first : Value) (i : Nat) (a : Addr) (n ep : Nat) : Obj := { cls := .type "set_iterator", data := .fields #[first, .int i 0, .ref a, .int n 0, .int ep 0] }
end
end B
namespace B
open PySem PySem.Spec L2 PyProof.Rows
section
variable {prog : Program} {w : World} {A : Around} {E : cS} {s : Shared}
end
section
variable {prog : Program} {w : World} {A : Around} {E : cS} {s : Shared}
def BE (prog : Program) (w : World) (a : Addr) (ks : List Int) (s : Shared) (It : Addr) (s1 : Shared) : Prop :=
 ∃ (fp : List Addr) (items : Array Value) (St : Nat -> Shared -> Prop), (∀ A' : Around, A'.handled = none -> WalksS prog w A' It fp [It] (fun a b => b = a) items.size (fun i v => items[i]? = some v) St) /\ St 0 s1 /\ It ∈ fp /\ (∀ b ∈ fp, b < s1.heap.objs.size /\ (b = a ∨ s.heap.objs.size ≤ b)) ∧
  s.heap.objs.size ≤ It /\ ∃ ms, IntsAre items.toList ms /\ ms.Perm ks
def Cb (t : SetTable) : Nat -> Nat
 | 0 => 0
 | k + 1 => t.place.getD k 0 + 1
end
def Ck (K : Fg) : V -> List V -> Hp -> VK -> Prop := fun x vs H Q => ∃ l b xs zs, x = .ref l /\ vs = [.ref b] /\ H l = some (.lst xs) /\ bt K H b zs /\ xs.length + zs.length ≤ 1000 /\ Q .non (upd H l (.lst (xs ++ zs)))
def Cf (K : Fg) : List V -> Hp -> VK -> Prop := fun xs H Q => ∃ p ns, xs = [.ref p] /\ (aO K H p (ns.map V.int) ∨ bt K H p (ns.map V.int)) /\ ns.length < 64 /\ ∀ (l : Addr) (ms : List Int), ms.Perm ns -> ms.Pairwise (· ≤ ·) -> H l = none -> Q (.ref l) (upd H l (.lst (ms.map V.int)))
section
variable {prog : Program} {w : World} {A : Around} {E : cS} {s : Shared}
end
def zq (w : World) (a : Addr) (ks : List Int) : HO := .ext fun h => yN w h a ks
def Cg (w : World) (K : Fg) : List V -> Hp -> VK -> Prop := fun xs H Q => ∃ p ns, xs = [.ref p] /\ (aO K H p (ns.map V.int) ∨ bt K H p (ns.map V.int)) /\ ns.length ≤ 1000 /\ ∀ l, H l = none -> Q (.ref l) (upd H l (zq w l (kZ ns)))
def Bl (w : World) : List V -> Hp -> VK -> Prop := fun xs H Q => ∃ p ks, xs = [.ref p] /\ H p = some (zq w p ks) /\ ks.length < 64 /\ ∀ (l : Addr) (ms : List Int), ms.Perm ks -> ms.Pairwise (· ≤ ·) -> H l = none -> Q (.ref l) (upd H l (.lst (ms.map V.int)))
def BY (ta : TA) : TE := fun σ H Q => ta σ H fun vs H1 => ∃ i j : Int, vs = [.int i, .int j] /\ ∀ p, H1 p = none -> Q (.ref p) (upd H1 p (.rng i j))
def AO : R2 := fun x y H Q => ∃ (i : Int) (p : Addr) (lo hi : Int), x = .int i /\ y = .ref p /\ H p = some (.rng lo hi) /\ Q (.bl (!(decide (lo ≤ i) && decide (i < hi)))) H
section
set_option autoImplicit true
set_option relaxedAutoImplicit true
end
def Ap (lo n : Nat) : List Nat := (List.range n).map fun i => lo + i
def C9 : List V -> Hp -> VK -> Prop := fun xs H Q => ∃ p, ∃ lo n : Nat, xs = [.ref p] /\ H p = some (.rng (lo : Int) ((lo + n : Nat) : Int)) /\ lo + n ≤ 1000 /\ ∀ l, H l = none -> Q (.ref l) (upd H l (.lst ((Ap lo n).map fun i : Nat => V.int i)))
theorem qH {α β : Type} {K : Fg} {H : Hp} {D a : Addr} {xs : List V} {ds : List α} {P : Hp -> V -> β -> Prop} {f : α -> β} {src : List (Option Nat)} {σ : L2.St} {g : TG} {tt : TT} {te : TE} {Q : Hp -> Prop}
  (mono : ∀ H H' v d, aN K H H' -> P H v d -> P H' v d) (hD : H D = none) (hS : aO K H a xs) (hl : xs.length = ds.length) (hn : ds.length ≤ 1000)
  (turn : ∀ (i : Nat) (x : V) (d : α) (H' : Hp), xs[i]? = some x -> ds[i]? = some d -> aA H H' -> ∀ (R : VK) (E : Hp -> Prop), (∀ v H'', aA H' H'' -> P H'' v (f d) -> R v H'') →
   g x (bW src σ) H' fun σ2 H2 => eJ (bW src σ) σ2 /\ tt σ2 H2 fun ok H3 => if ok = true then te σ2 H3 R else E H3)
  (fin : ∀ H' ys, aA H H' -> H' D = some (.lst ys) -> cO (P H') ys (ds.map f) -> Q H') :
  ∃ W : Nat -> Nat -> List V -> Hp -> Prop, (∃ m, W 0 m [] (upd H D (.lst []))) /\ ∀ i m ys H, W i m ys H -> ((uc K a).stop i H /\ Q H) ∨ ((uc K a).go i H /\ ∀ x H', (uc K a).yld i H x H' →
   g x (bW src σ) H' fun σ2 H2 => eJ (bW src σ) σ2 /\ tt σ2 H2 fun ok H3 =>
    if ok = true then te σ2 H3 fun y H4 => H4 D = some (.lst ys) /\ ys.length < sizeLine /\ ∃ m', m' < m /\ W (i + 1) m' (ys ++ [y]) (upd H4 D (.lst (ys ++ [y]))) else ∃ m', m' < m /\ W (i + 1) m' ys H3) := by
 refine ⟨fun i m ys H' => i ≤ ds.length /\ m = ds.length - i /\ H' D = some (.lst ys) /\ aA H H' /\ cO (P H') ys ((ds.take i).map f), ⟨_, Nat.zero_le _, rfl, ah, ap hD _, .nil⟩, ?_⟩
 rintro i m ys H1 ⟨hi, rfl, d1, s1, al1⟩
 have hS1 : aO K H1 a xs := s1.seq hS
 by_cases hix : i < ds.length
 ·have hx0 : xs[i]? = some (xs[i]'(by omega)) := List.getElem?_eq_getElem _
  refine .inr ⟨⟨xs, _, hS1, hx0⟩, ?_⟩
  rintro x H2 ⟨rfl, hy⟩
  have hx := hy xs hS1
  obtain ⟨d, hd⟩ : ∃ d, ds[i]? = some d := ⟨_, List.getElem?_eq_getElem hix⟩
  refine turn i x d _ hx hd s1 _ _ fun v H3 s3 p3 => ?_
  have d3 : H3 D = some (.lst ys) := s3 _ _ d1
  have tm : aN K H2 (upd H3 D (.lst (ys ++ [v]))) := (aN.same s3).trans (aN.up d3 _)
  refine ⟨d3, bh (by rw [al1.len, List.length_map, List.length_take]; omega), ds.length - (i + 1), by omega, hix, rfl, ah, fun b o q => ?_, ?_⟩
  ·rw [aC (aQ q hD)]
   exact s3 _ _ (s1 _ _ q)
  ·rw [List.take_add_one, hd, List.map_append]
   exact (al1.mono fun v d p => mono _ _ _ _ tm p).snoc (mono _ _ _ _ (aN.up d3 _) p3)
 ·have e : i = ds.length := by omega
  subst e
  rw [List.take_length] at al1
  exact .inl ⟨⟨xs, hS1, by omega⟩, fin H1 ys s1 d1 al1⟩
theorem j7 : ∀ {bs : List Bool} {us : List Value}, aW (bs.map V.bl) us -> ∀ {i : Nat} {v : Value}, us[i]? = some v -> v = .bool (bs.getD i false)
 | [], _, .nil, i, v, e => by cases e
 | b :: bs, _, .cons r t, 0, v, e => by
  rw [List.getElem?_cons_zero] at e
  cases e
  exact (show _ = Value.bool b from r)
 | b :: bs, _, .cons r t, i + 1, v, e => by
  rw [List.getElem?_cons_succ] at e
  exact j7 t e
theorem kf : ∀ (bs : List Bool), (List.range bs.length).any (fun i => bs.getD i false) = bs.any id
 | [] => rfl
 | b :: bs => by
  rw [List.length_cons, List.range_succ_eq_map, List.any_cons, List.any_map, List.any_cons]
  have := kf bs
  show (b || (List.range bs.length).any (fun i => bs.getD i false)) = (id b || bs.any id)
  rw [this]; rfl
theorem qM {X : Cx} (hc : X.calm = true) : df X (.builtin "any") (fun xs H Q => ∃ (p : Addr) (bs : List Bool), xs = [.ref p] /\ aO X.K H p (bs.map V.bl) /\ Q (.bl (bs.any id)) H) := by
 intro pins s σ H xs us Q I r h
 obtain ⟨p, bs, rfl, hq, q⟩ := h
 obtain ⟨u, rfl, rx⟩ := fg r
 cases rx
 obtain ⟨its, rv, pl, hz⟩ := I.list hq
 have ne : p ≠ s.heap.objs.size := by
  obtain ⟨o, ho, _⟩ := pl.isList
  exact Nat.ne_of_lt (Heap.lt_size ho)
 have hlen : its.toArray.size = bs.length := by rw [List.size_toArray, ← rv.length, List.length_map]
 refine call_any_walk (wpAny_pyIter_list pl.isList ?_)
 refine ⟨_, _, _, _, _, _, fun i => bs.getD i false, rfl, Walks.list (A := X.A.in1) (I.ok.hd hc) _ p ne its.toArray, ⟨⟨_, Heap.get?_push_size _ rfl, rfl, rfl⟩, pl.isList.push _⟩, fun i v s' Q' E' hv hQ => ?_, fun h' tk hk => ?_⟩
 ·have e := j7 rv (i := i) (v := v) (by simpa using hv)
  subst e
  exact wpAny_truthy_bool hQ
 ·rw [hlen, kf]
  refine ⟨.bl _, H, I.kept (t' := tk) fun b o e => hk b o (fun z => ?_) (Heap.get?_push_of_some _ e), rfl, q⟩
  rw [List.mem_singleton.mp z] at e
  exact absurd (Heap.lt_size e) (Nat.lt_irrefl _)
def Ca (te : TE) (i : Nat) : TS := fun D σ H => te σ H fun x H1 => ∃ σ', σ.set i (some x) = σ' /\ D.nx σ' H1
theorem xX {h : Heap} {a : Addr} {m m' : Str -> Option Value} (x : h.Ns a m) (y : h.Ns a m') : m = m' := by
 obtain ⟨o, es, ep, e1, e2, _, e3⟩ := x
 obtain ⟨o', es', ep', f1, f2, _, f3⟩ := y
 rw [e1] at f1; cases f1
 rw [e2] at f2; cases f2
 funext n
 rw [← e3, ← f3]
theorem yy {X : Cx} {pins : bL} {σ : L2.St} {H : Hp} {s : Shared} {h' : Heap} {t' : Nat} {ch : List Addr} (I : Inv X pins σ H s) (hch : ∀ b ∈ ch, d0 X pins H b)
  (k : ∀ b o, b ≠ X.env.locals -> b ∉ ch -> s.heap.get? b = some o -> h'.get? b = some o) (ns : ∃ m, s.heap.Ns X.env.locals m /\ h'.Ns X.env.locals m) : Inv X pins σ H { s with heap := h', toks := t' } := by
 have nch : ∀ b u, H b = some u -> b ∉ ch := fun b u e z => by rw [(hch b z).1] at e; cases e
 have nl : ∀ b u, H b = some u -> b ≠ X.env.locals := fun b u e z => by rw [z, I.free] at e; cases e
 refine I.step (g' := s.gens) (d' := s.drawn) (ch := ch) (fun b hb => ?_) (fun b o hL _ hc e _ => k b o hL hc e) (fun b o hL _ hc e _ => ⟨o.slots, k b o hL hc e⟩) (fun _ _ _ _ n => n) (fun b o hc e => ?_) (fun _ _ e => e) (fun _ _ _ e => e) (fun b ps e => ⟨#[], by rw [e]; simp⟩) (fun m hm => ?_) (fun b u e => ?_) I.bare
 ·obtain ⟨_, f2, _, f4, f5, f6⟩ := hch b hb
  exact ⟨f4, f2, f5, f6⟩
 ·by_cases z : b = X.env.locals
  ·obtain ⟨m, _, o', es, ep, ho, _⟩ := ns
   exact ⟨o', by rw [z]; exact ho⟩
  ·exact ⟨o, k b o z hc e⟩
 ·obtain ⟨m0, n1, n2⟩ := ns
  rw [xX hm n1]
  exact n2
 ·refine (I.hok b u e).stay (fun c v hc q => ?_) (fun _ q => q) fun _ _ q => q
  rcases hc with z | z
  ·exact k c v (by rw [z]; exact nl b u e) (by rw [z]; exact nch b u e) q
  ·exact k c v (nl c _ z) (nch c _ z) q
section
variable {prog : Program} {w : World} {A : Around} {E : cS} {s : Shared}
theorem lg {Q : List Value -> Shared -> Prop} {r : Addr} {a b c : Int} {t u v : Tok} {n : Nat} (hh : A.handled = none) (hr : IsRange s.heap r a b c t u v) (hs : Builtin.Range.small a b c = true) (hn : Builtin.Range.rangeSize a b c = n) (hl : n ≤ 2 ^ 24)
  (hQ : ∀ h' tk acc, (∀ b o, s.heap.get? b = some o -> h'.get? b = some o) -> ItemsOf (fun i v => ∃ t, v = .int (a + i * c) t) acc n -> Q acc.toList { s with heap := h', toks := tk }) :
  wpAny (model prog w) A (collect (.ref r)) Q E s := by
 unfold collect
 refine wpAny_bind (wpAny_runValue (codeAny_builtin F.entry_proto_collect ?_))
 rw [Around.under_plainId F.plain_proto_collect _]
 show wpAny (model prog w) A.in1 (newList [] >>= fun l => again (.builtin "list.__iadd__" ⟨[l, .ref r], []⟩)) _ _ s
 refine wpAny_bind (wpAny_newObj_type (wpAny_pure ⟨plainId_quiet F.plain_list_iadd _, codeAny_builtin F.entry_list_iadd ?_⟩))
 rw [Around.under_plainId F.plain_list_iadd _]
 show wpAny (model prog w) A.in1 (Builtin.List.listExtendWith (.ref s.heap.objs.size) (.ref r) (.ref s.heap.objs.size)) _ _ _
 have hS : (s.heap.push { cls := .type "list", data := .seq ([] : List Value).toArray }).get? s.heap.objs.size = some { cls := .type "list", data := .seq #[] } := Heap.get?_push_size _ rfl
 refine wpAny_extend_range (R := fun r s' => match r with | .ok (.ret v) => wpAny (model prog w) A (match v with | .ref a => (do let o ← load a; match o.data with | .seq xs _ => pure xs.toList | _ => unsupported "internal:collect") | _ => unsupported "internal:collect") Q E s' | .ok _ => False | .error e => E e s') (s := { s with heap := s.heap.push { cls := .type "list", data := .seq ([] : List Value).toArray } }) hh (Heap.get?_push_of_some _ hr) hs hn hl s.heap.objs.size (.ref s.heap.objs.size) _ hS fun h' tk acc' c' hk hS' hacc => ?_
 show wpAny (model prog w) A (load s.heap.objs.size >>= _) _ _ _
 refine wpAny_bind (wpAny_load hS' (wpAny_pure (hQ h' tk acc' (fun b o e => hk b o (Nat.ne_of_lt (Heap.lt_size e)) (Heap.get?_push_of_some _ e)) hacc)))
end
section
variable {X : Cx} {pins : bL} {σ : L2.St} {H : Hp} {A : Around} {E : cS} {a kS : Addr} {vs : List Value} {kz : List Int} {f : Value} {e1 : Nat}
theorem uN {s : Shared} {oa ok : Obj} (I : Inv X pins σ H s) (fa : d0 X pins H a) (fk : d0 X pins H kS) (ha : s.heap.get? a = some oa) (hk : s.heap.get? kS = some ok) (ca : ∀ v, oa.data ≠ .cell v) (ck : ∀ v, ok.data ≠ .cell v) : Inv X ((a, oa) :: (kS, ok) :: pins) σ H s := by
 refine I.pins_of fun p hp => ?_
 rcases List.mem_cons.mp hp with rfl | hp
 ·exact ⟨ha, fa.1, fa.2.1, fa.2.2.1, ca⟩
 rcases List.mem_cons.mp hp with rfl | hp
 ·exact ⟨hk, fk.1, fk.2.1, fk.2.2.1, ck⟩
 ·exact I.pin p (List.mem_append_right _ hp)
theorem pA {s : Shared} {oa ok : Obj} (I : Inv X ((a, oa) :: (kS, ok) :: pins) σ H s) : Inv X pins σ H s /\ s.heap.get? a = some oa /\ s.heap.get? kS = some ok := by
 refine ⟨I.pins_of fun p hp => I.pin p (List.mem_append_right _ (List.mem_cons_of_mem _ (List.mem_cons_of_mem _ hp))), (I.pin (a, oa) ?_).1, (I.pin (kS, ok) ?_).1⟩
 ·exact List.mem_append_right _ List.mem_cons_self
 ·exact List.mem_append_right _ (List.mem_cons_of_mem _ List.mem_cons_self)
def pd (X : Cx) (σ : L2.St) (H : Hp) (A : Around) (f : Value) (vs : List Value) (kz : List Int) : Prop :=
 ∀ (i : Nat) (v : Value) (k : Int), vs[i]? = some v -> kz[i]? = some k -> ∀ (pins : bL) (s : Shared), Inv X pins σ H s →
  wpAny (model X.prog X.w) A (call f [v]) (fun u s2 => (∃ t, u = .int k t) /\ Inv X pins σ H s2) (fun _ _ => False) s
theorem tE {s : Shared} {P : Fin -> Shared -> Prop} (I : Inv X pins σ H s) (fa : d0 X pins H a) (fk : d0 X pins H kS) (hka : kS ≠ a) (ha : s.heap.get? a = some (seqObj "list" #[] e1)) (hk : s.heap.get? kS = some (seqObj "list" #[] 0))
  (hlen : kz.length = vs.length) (h64 : vs.length < 64) (turn : pd X σ H A f vs kz)
  (h : ∀ s' out c, Inv X pins σ H s' -> s'.heap.get? a = some (seqObj "list" out c) -> KskOut false kz vs out.toList -> P (.done (.ret .none)) s') :
  wpAny (model X.prog X.w) A (ksk_rest a f false vs.toArray e1 (.ref kS)) P E s := by
 unfold ksk_rest
 refine wpAny_bind (wpAny_rule ?_)
 rw [List.forIn_toArray]
 refine wpAny_bind (ksk_fold (fun i s' => ∃ kA e, Inv X pins σ H s' /\ s'.heap.get? kS = some (seqObj "list" kA e) /\ s'.heap.get? a = some (seqObj "list" #[] e1) /\ IntsAre kA.toList (kz.take i)) vs 0 s ⟨#[], 0, I, hk, ha, by simpa using IntsAre.nil⟩ ?_ ?_)
 ·rintro j x s' hx ⟨kA, e, I', k', a', hi⟩
  simp only [Nat.zero_add] at hi ⊢
  have hj : j < vs.length := (List.getElem?_eq_some_iff.mp hx).1
  obtain ⟨k, hkj⟩ : ∃ k, kz[j]? = some k := ⟨_, List.getElem?_eq_getElem (by omega)⟩
  have hz : kA.size ≤ vs.length := by
   have := hi.length
   rw [Array.length_toList, List.length_take] at this
   omega
  refine wpAny_bind (wpAny_attempt (wpAny_mono (turn j x k hx hkj _ s' (uN I' fa fk a' k' (fun v q => nomatch q) fun v q => nomatch q)) (fun u s2 he => ?_) fun _ _ hF => hF.elim))
  obtain ⟨⟨t2, rfl⟩, I2⟩ := he
  obtain ⟨I3, a3, k3⟩ := pA I2
  obtain ⟨c2, hc2⟩ : ∃ c2, (s2.heap.update kS (Obj.mapSeq (·.push (.int k t2)))).get? kS = some (seqObj "list" (kA.push (.int k t2)) c2) := ⟨_, get?_update_seq k3 (·.push (.int k t2))⟩
  have ek : kz.take (j + 1) = kz.take j ++ [k] := by rw [List.take_add_one, hkj]; rfl
  have ea : (kA.push (Value.int k t2)).toList = kA.toList ++ [.int k t2] := by simp
  refine wpAny_bind (listUpdate_at k3 rfl (wpAny_pure ⟨rfl, kA.push (.int k t2), c2, ?_, hc2, ?_, by rw [ek, ea]; exact ksk_snoc hi⟩) (by rw [sizeLine_eq]; omega) (Nat.le_trans (Nat.le_of_eq (Array.size_push ..)) (by rw [sizeLine_eq]; omega)))
  ·exact I3.turned (t' := s2.toks) (it := kS) (fun b o n q => (Heap.get?_update_other _ _ (Ne.symm n)).trans q) fk.1 fk.2.1 fk.2.2.2.1 fk.2.2.2.2.1 fk.2.2.2.2.2
  ·exact (Heap.get?_update_other _ _ hka).trans a3
 ·rintro s' ⟨kA, e, I', k', a', hi⟩
  have hi' : IntsAre kA.toList kz := by
   have e3 : kz.take (0 + vs.length) = kz := List.take_of_length_le (by omega)
   rw [e3] at hi
   exact hi
  refine wpAny_bind (listItems_at k' rfl ?_)
  obtain ⟨m, hm, _⟩ := id I'.loc
  have hmem : ∀ p, p ∈ (gN (Att.noObjs s'.heap) s'.heap X.env.locals).filter (fun p => decide (p.1 ≠ kS /\ p.1 ≠ a)) ↔ p.1 ≠ X.env.locals /\ s'.heap.get? p.1 = some p.2 /\ p.1 ≠ kS /\ p.1 ≠ a := fun p => by
   rw [List.mem_filter]
   constructor
   ·rintro ⟨x, y⟩
    obtain ⟨z1, _, z3⟩ := iV x
    exact ⟨z1, z3, of_decide_eq_true y⟩
   ·rintro ⟨x, y, z⟩
    exact ⟨mF x (Att.noObjs_get _ _) y, decide_eq_true z⟩
  refine ksk_end_ (h₀ := Att.noObjs s'.heap) (L := X.env.locals) (m := m) (e := e) (news := (gN (Att.noObjs s'.heap) s'.heap X.env.locals).filter (fun p => decide (p.1 ≠ kS /\ p.1 ≠ a))) (Att.fr_all hm) (fun p hp => ?_) hka (fun p hp => ((hmem p).mp hp).2.2.1) (fun p hp => ((hmem p).mp hp).2.2.2) hi' hlen h64 fun h3 tk3 out c F3 N3 k3 => ?_
  ·rcases List.mem_append.mp hp with hp | hp
   ·obtain ⟨z1, z2, _⟩ := (hmem p).mp hp
    exact ⟨z2, z1, Att.noObjs_get _ _⟩
   rcases List.mem_cons.mp hp with rfl | hp
   ·exact ⟨k', fk.2.1, Att.noObjs_get _ _⟩
   ·rw [List.mem_singleton.mp hp]
    exact ⟨a', fa.2.1, Att.noObjs_get _ _⟩
  ·refine h _ out c (yy (ch := [kS, a]) I' (fun b hb => ?_) (fun b o hL hb e => ?_) ⟨m, hm, F3.ns⟩) (N3.get List.mem_cons_self) k3
   ·rcases List.mem_cons.mp hb with z | z
    ·rw [z]; exact fk
    ·rw [List.mem_singleton.mp z]; exact fa
   ·refine N3.get (List.mem_cons_of_mem _ ((hmem (b, o)).mpr ⟨hL, e, fun z => hb (by simp [show b = kS from z]), fun z => hb (by simp [show b = a from z])⟩))
theorem tD {s : Shared} {n : Nat} {P : Fin -> Shared -> Prop} (I : Inv X pins σ H s) (fa : d0 X pins H a) (ho : s.heap.get? a = some (seqObj "list" vs.toArray n)) (hlen : kz.length = vs.length) (h64 : vs.length < 64) (turn : pd X σ H A f vs kz)
  (h : ∀ s' out c, Inv X pins σ H s' -> s'.heap.get? a = some (seqObj "list" out c) -> KskOut false kz vs out.toList -> P (.done (.ret .none)) s') :
  wpAny (model X.prog X.w) A (ksk_tree a f false) P E s := by
 obtain ⟨e1, ho1⟩ : ∃ e1, (s.heap.update a (Obj.mapSeq fun _ => (#[] : Array Value))).get? a = some (seqObj "list" #[] e1) := ⟨_, get?_update_seq ho fun _ => #[]⟩
 have I1 : Inv X pins σ H { s with heap := s.heap.update a (Obj.mapSeq fun _ => (#[] : Array Value)), toks := s.toks } := I.turned (it := a) (fun b o n q => (Heap.get?_update_other _ _ (Ne.symm n)).trans q) fa.1 fa.2.1 fa.2.2.2.1 fa.2.2.2.2.1 fa.2.2.2.2.2
 unfold ksk_tree
 refine wpAny_bind (listItems_at ho rfl (wpAny_bind (listUpdate_at ho rfl ?_ (by rw [List.size_toArray, sizeLine_eq]; omega) (Nat.zero_le _))))
 refine wpAny_bind (seqEpoch_at ho1 rfl (wpAny_bind (wpAny_newTuple (wpAny_bind (wpAny_newList (wpAny_holding ?_) (Nat.zero_le _))) (by show vs.length ≤ sizeLine; rw [sizeLine_eq]; omega))))
 generalize s.heap.update a (Obj.mapSeq fun _ => (#[] : Array Value)) = h1 at ho1 I1 ⊢
 have la : a < h1.objs.size := Heap.lt_size ho1
 have I2 := I1.kept (t' := s.toks) (h' := (h1.push (seqObj "tuple" vs.toArray 0)).push (seqObj "list" #[] 0)) fun b o e => Heap.get?_push_of_some _ (Heap.get?_push_of_some _ e)
 have sz : (h1.push (seqObj "tuple" vs.toArray 0)).objs.size = h1.objs.size + 1 := Heap.size_push ..
 exact tE (kS := (h1.push (seqObj "tuple" vs.toArray 0)).objs.size) I2 fa (I1.fpOk (by rw [sz]; exact Nat.le_succ _) (I1.hok.fresh (by rw [sz]; exact Nat.le_succ _))) (by rw [sz]; exact Nat.ne_of_gt (Nat.lt_succ_of_lt la)) (Heap.get?_push_of_some _ (Heap.get?_push_of_some _ ho1)) (Heap.get?_push_size _ rfl) hlen h64 turn h
end
theorem yD {X : Cx} {pins : bL} {σ : L2.St} {H : Hp} {s : Shared} {p : Addr} {v : HO} (I : Inv X pins σ H s) (f : d0 X pins H p) (new : ObjOk X.prog X.w (upd H p v) s.heap p v) : Inv X pins σ (upd H p v) s := by
 have old : ∀ b u, H b = some u -> upd H p v b = some u := fun b u e => by rw [aC (aQ e f.1)]; exact e
 refine I.step (h' := s.heap) (t' := s.toks) (g' := s.gens) (d' := s.drawn) (ch := [p]) (fun b hb => ?_) (fun b o _ _ hc e _ => e) (fun b o _ _ hc e _ => ⟨o.slots, e⟩) (fun b o hc e n => ?_)
  (fun b o hc e => ⟨o, e⟩) (fun b xs e => old b _ e) (fun b o u e => old b _ e) (fun b ps e => ⟨#[], by rw [old b _ e]; simp⟩) (fun m hm => hm) (fun b u e => ?_) I.bare
 ·rw [List.mem_singleton] at hb
  subst hb
  obtain ⟨_, f1, _, f3, f4, f5⟩ := f
  exact ⟨f3, f1, f4, f5⟩
 ·rw [aC (fun z => hc (by simp [z]))]; exact n
 ·by_cases hb : b = p
  ·subst hb; rw [ah] at e; cases e; exact new
  ·rw [aC hb] at e
   exact (I.hok b u e).stay (fun c v hc q => q) (fun c q => old c _ q) fun c xs q => old c _ q
theorem sK {α β : Type} {g : α -> β} : ∀ {ps l2 : List β}, ps.Perm l2 -> ∀ l : List α, l2 = l.map g -> ∃ ms : List α, ms.Perm l /\ ps = ms.map g := by
 intro ps l2 h
 induction h with
 | nil =>
  intro l e
  cases l with
  | nil => exact ⟨[], .nil, rfl⟩
  | cons a l => simp at e
 | cons x p ih =>
  intro l e
  cases l with
  | nil => simp at e
  | cons a l =>
   rw [List.map_cons] at e
   injection e with e1 e2
   obtain ⟨ms, h1, h2⟩ := ih l e2
   exact ⟨a :: ms, h1.cons a, by rw [List.map_cons, ← e1, h2]⟩
 | swap x y t =>
  intro l e
  match l, e with
  | a :: b :: l, e =>
   rw [List.map_cons, List.map_cons] at e
   injection e with e1 e2
   injection e2 with e2 e3
   exact ⟨b :: a :: l, .swap a b l, by rw [List.map_cons, List.map_cons, ← e1, ← e2, ← e3]⟩
 | trans p1 p2 ih1 ih2 =>
  intro l e
  obtain ⟨m2, h1, h2⟩ := ih2 l e
  obtain ⟨ms, h3, h4⟩ := ih1 m2 h2
  exact ⟨ms, h3.trans h1, h4⟩
def rV (sp : Sp) (key : Nat -> Int) : List V -> Hp -> VK -> Prop := fun xs H Q => ∃ (p : Addr) (n : Nat), xs = [.ref p] /\ H p = some (.rng 0 n) /\ n < 64 /\ (∀ i < n, ∀ (Qk : VK), Qk (.int (key i)) H -> sp [.int (i : Nat)] H Qk fun _ _ _ => False) ∧
 ∀ (l : Addr) (ms : List Nat), ms.Perm (List.range n) -> ms.Pairwise (fun a b => key a ≤ key b) -> H l = none -> Q (.ref l) (upd H l (.lst (ms.map fun i : Nat => V.int i)))
theorem nV {X : Cx} {k : Nat} {f : Addr} {fd : FuncData} {x : Str} {sp : Sp} {key : Nat -> Int} {pins : bL} {s : Shared} {σ : L2.St} {H : Hp} {xs : List V} {us : List Value} {Q : VK} (F : bB X.prog X.w X.K X.mg X.base dI k f fd [x] sp) (hr : cQ (k + 2) X.A) (hb : aZ X.K fd [x] []) (hc : X.calm = true)
  (I : Inv X pins σ H s) (r : aW xs us) (h : rV sp key xs H Q) : wpAny (model X.prog X.w) X.A (call (.builtin "sorted") us [(Str.ofString "key", .ref f)]) (EP X pins σ Q) X.xe s := by
 obtain ⟨p, n, rfl, hp, h64, hsp, q⟩ := h
 obtain ⟨u, rfl, rx⟩ := fg r
 cases rx
 obtain ⟨t, u, w, e⟩ := (show ObjOk X.prog X.w H s.heap p (.rng 0 n) from I.hok p _ hp)
 have hh : X.A.in1.handled = none := I.ok.hd hc
 refine call_function_entry_kw kind_sorted plain_sorted entry_sorted (ksk_s1 _ _) ?_
 unfold Builtin.«sorted»
 refine wpAny_bind (m := checkCount "sorted" 1 1 _) (wpAny_pure (wpAny_bind (lg (n := n) hh (show IsRange s.heap p 0 (n : Int) 1 t u w from e) (small_one (by omega) (by omega) (by omega) (by omega)) (by rw [rangeSize_one]; split <;> omega) (by omega) fun h1 tk acc kp hi => ?_)))
 obtain ⟨hl, ha⟩ := hi
 have ll : acc.toList.length = n := by rw [Array.length_toList, hl]
 have ha' : ∀ (i : Nat) (v : Value), acc.toList[i]? = some v -> ∃ t, v = .int (0 + (i : Int)) t := fun i v e => by
  obtain ⟨t, q⟩ := ha i v (by rw [← Array.getElem?_toList]; exact e)
  exact ⟨t, by rw [q, Int.mul_one]⟩
 refine wpAny_bind (wpAny_newList ?_ (by rw [ll, sizeLine_eq]; omega))
 have I1 : L2.Inv X pins σ H { s with heap := h1, toks := tk } := I.kept kp
 have I2 : L2.Inv X pins σ H { s with heap := h1.push (seqObj "list" acc.toList.toArray 0), toks := tk } := I1.kept (t' := tk) fun b o e => Heap.get?_push_of_some _ e
 have hoL : (h1.push (seqObj "list" acc.toList.toArray 0)).get? h1.objs.size = some (seqObj "list" acc.toList.toArray 0) := Heap.get?_push_size _ rfl
 have fp : d0 X pins H h1.objs.size := I1.fpOk (Nat.le_refl _) I1.fresh
 show wpAny _ _ _ _ _ { s with heap := h1.push (seqObj "list" acc.toList.toArray 0), toks := tk }
 refine wpAny_bind (wpAny_holding (wpAny_call_entry_kw slot_list_sort ⟨_, hoL, rfl⟩ entry_list_sort ?_ (ksk_l1 _ _)))
 show wpAny _ X.A.in1.in1 (Builtin.«list.sort» ⟨[.ref h1.objs.size], [(Str.ofString "key", .ref f)]⟩) _ _ _
 rw [ksk_t1]
 refine tD (kz := (List.range n).map key) I2 fp hoL (by rw [List.length_map, List.length_range, ll]) (by rw [ll]; exact h64) (fun i v kk hv hk pins' s' I' => ?_) fun s' out c I' ho hout => ⟨_, rfl, wpAny_pure ⟨_, rfl, ?_⟩⟩
 ·have hi : i < n := by rw [← ll]; exact (List.getElem?_eq_some_iff.mp hv).1
  obtain ⟨t', rfl⟩ := ha' i v hv
  rw [List.getElem?_map, List.getElem?_range hi] at hk
  have ek : key i = kk := Option.some.inj hk
  have rv : aW [V.int (i : Nat)] [Value.int (0 + (i : Int)) t'] := .cons ⟨t', by rw [Int.zero_add]⟩ .nil
  have hl' : ([Value.int (0 + (i : Int)) t'] ++ []).length = [x].length := rfl
  refine wpAny_call (codeAny_mono (F.run X.A.in1.in1 X.stack s' H ⟨[.int (0 + (i : Int)) t'], []⟩ _ [V.int (i : Nat)] (fun v H' => v = .int (key i) /\ H' = H) (fun _ _ _ => False) hr.in1.in1 I'.env0.in1.in1 (hb s' _ I'.kIn hl') rv (hsp i hi _ ⟨rfl, rfl⟩)) fun r s2 hq => ?_)
  cases r with
  | error e => exact hq.elim
  | ok fl =>
   cases fl with
   | ret u =>
    obtain ⟨v2, H2, I3, rv2, rfl, rfl⟩ := I'.after hq
    obtain ⟨t3, rfl⟩ := rv2
    exact ⟨⟨t3, by rw [ek]⟩, I3⟩
   | next => exact False.elim hq
   | brk => exact False.elim hq
   | cont => exact False.elim hq
 ·obtain ⟨ps, hperm, eout, hsort⟩ := hout
  have zl : ((List.range n).map key).zip acc.toList = (List.range n).map fun i => (key i, acc.toList.getD i .none) := by
   refine List.ext_getElem (by rw [List.length_zip, List.length_map, List.length_map, List.length_range, ll, Nat.min_self]) fun i h1 h2 => ?_
   rw [List.length_map, List.length_range] at h2
   rw [List.getElem_zip, List.getElem_map, List.getElem_map, List.getElem_range]
   rw [List.getD_eq_getElem?_getD, List.getElem?_eq_getElem (by omega)]
   rfl
  rw [zl] at hperm
  obtain ⟨ms, hms, eps⟩ : ∃ ms : List Nat, ms.Perm (List.range n) /\ ps = ms.map fun i => (key i, acc.toList.getD i .none) := by
   exact sK hperm _ rfl
  have inr : ∀ i ∈ ms, i < n := fun i hi => List.mem_range.mp (hms.mem_iff.mp hi)
  have hv : aW (ms.map fun i : Nat => V.int i) out.toList := by
   rw [eout, eps, List.map_map]
   have go : ∀ l : List Nat, (∀ i ∈ l, i < n) -> aW (l.map fun i : Nat => V.int i) (l.map (Prod.snd ∘ fun i => (key i, acc.toList.getD i Value.none))) := by
    intro l
    induction l with
    | nil => intro _; exact .nil
    | cons i l ih =>
     intro hl
     have hi := hl i List.mem_cons_self
     have e : acc.toList[i]? = some (acc.toList[i]'(by omega)) := List.getElem?_eq_getElem _
     obtain ⟨t, q⟩ := ha' i _ e
     refine .cons ⟨t, ?_⟩ (ih fun j hj => hl j (List.mem_cons_of_mem _ hj))
     show acc.toList.getD i Value.none = _
     rw [List.getD_eq_getElem?_getD, e, Option.getD_some, q, Int.zero_add]
   exact go ms inr
  have hso : ms.Pairwise (fun a b => key a ≤ key b) := by
   rw [eps, List.pairwise_map] at hsort
   exact hsort.imp fun {a b} h => h
  have hsz : (ms.map fun i : Nat => V.int i).length ≤ sizeLine := by rw [List.length_map, hms.length_eq, List.length_range, sizeLine_eq]; omega
  have hf : H h1.objs.size = none := fp.1
  have I4 : L2.Inv X pins σ (upd H h1.objs.size (.lst (ms.map fun i : Nat => V.int i))) s' := yD I' fp ⟨hsz, out.toList, c, hv, by simpa using ho⟩
  exact ⟨.ref h1.objs.size, _, I4, rfl, q _ ms hms hso hf⟩
def rA (sp : Sp) (key : Nat -> Int) (t : TA) : TE := fun σ H Q => t σ H fun vs H1 => rV sp key vs H1 Q
theorem sL {X : Cx} {k : Nat} {f : Addr} {fd : FuncData} {x fn : Str} {sp : Sp} {key : Nat -> Int} {p p2 kp pos : Pos} {e : Expr} {t : TA} (F : bB X.prog X.w X.K X.mg X.base dI k f fd [x] sp) (hr : cQ (k + 2) X.A) (hb : aZ X.K fd [x] []) (hc : X.calm = true) (hgf : Gl X fn) (hmf : X.mg fn = some (.ref f))
  (hg : Gl X "sorted") (hm : X.mg "sorted" = none) (ha : PA X [e] t) (hdf : (fn == ("__debug__" : Str)) = false := by decide) (hs : starEach [e] X.env = [(false, eval e X.env)] := by rfl) :
  PE X (.Call (.Name "sorted" p) [e] [⟨some "key", .Name fn p2, kp⟩] pos) (rA sp key t) := by
 intro pins s σ H Q I h
 refine wpAny_Call_Name_kw (fF I hg hm PyProof.Rows.boot_sorted ?_)
 refine callWith_kw (bZ (ha pos pins s σ H _ I h) fun us s1 ⟨vs, H1, I1, r1, q1⟩ => ?_) (by rw [hs]; rfl) (by rw [hs]; rfl)
 refine kws_cons (fP I1 hgf hmf (kws_nil ?_) hdf)
 exact nV F hr hb hc I1 r1 q1
theorem sg {X : Cx} {k : Nat} {f : Addr} {fd : FuncData} {x fn : Str} {sp : Sp} {key : Nat -> Int} {p p2 kp pos : Pos} {e : Expr} {t : TA} (F : bB X.prog X.w X.K X.mg X.base dI k f fd [x] sp) (hr : cQ (k + 2) X.A) (hb : aZ X.K fd [x] []) (hc : X.calm = true) (hgf : Gl X fn) (hmf : X.mg fn = some (.ref f))
  (hg : Gl X "sorted") (hm : X.mg "sorted" = none) (ha : QA X [e] t) (hdf : (fn == ("__debug__" : Str)) = false := by decide) (hs : starEach [e] X.env = [(false, eval e X.env)] := by rfl) :
  QE X (.Call (.Name "sorted" p) [e] [⟨some "key", .Name fn p2, kp⟩] pos) (rA sp key t) := ⟨sL F hr hb hc hgf hmf hg hm ha.p hdf hs⟩
def zI : V -> List V -> Hp -> VK -> Prop := fun x vs H Q => ∃ (l : Addr) (ns : List Nat) (j k : Nat), x = .ref l /\ vs = [.int (k : Int)] /\ H l = some (.lst (ns.map fun i : Nat => V.int i)) /\ ns[j]? = some k /\ (∀ m, m < j -> ns[m]? ≠ some k) /\ Q .non (upd H l (.lst ((ns.eraseIdx j).map fun i : Nat => V.int i)))
def Bx (k : Int) : Value -> Bool
 | .int i _ => i == k
 | _ => false
theorem u9 {X : Cx} : BH X "list.remove" zI := by
 intro pins s σ H x vs v us Q I rx rv h
 obtain ⟨l, ns, j, k, rfl, rfl, hH, hj, hno, q⟩ := h
 cases rx
 obtain ⟨u, rfl, ru⟩ := rv.one
 obtain ⟨t, rfl⟩ := ru
 obtain ⟨z, its, n, r, hl, e⟩ := I.lstM hH
 rw [List.length_map] at z hl
 have at_ : ∀ (m : Nat) (w : Value), its[m]? = some w -> ∃ i t', ns[m]? = some i /\ w = .int (i : Int) t' := fun m w hw => by
  have hm : m < its.length := (List.getElem?_eq_some_iff.mp hw).1
  obtain ⟨i, hi⟩ : ∃ i, ns[m]? = some i := ⟨_, List.getElem?_eq_getElem (by omega)⟩
  obtain ⟨w', hw', t', e'⟩ := r.get (show (ns.map fun i : Nat => V.int i)[m]? = some (V.int i) by rw [List.getElem?_map, hi]; rfl)
  rw [hw] at hw'
  cases hw'
  exact ⟨i, t', hi, e'⟩
 have jl : j < ns.length := (List.getElem?_eq_some_iff.mp hj).1
 have mem : ∀ y, y ∈ its.toArray -> MeetsSeq.EqGives y (.int (k : Int) t) (Bx k y) := fun y hy => by
  obtain ⟨m, hm⟩ := List.getElem?_of_mem (by simpa using hy)
  obtain ⟨i, t', _, rfl⟩ := at_ m y hm
  exact MeetsSeq.EqGives.int _ _ _ _
 have val : ∀ m (hm : m < its.toArray.size) (i : Nat), ns[m]? = some i -> Bx k its.toArray[m] = ((i : Int) == (k : Int)) := fun m hm i hi => by
  have e1 : its[m]? = some (its.toArray[m]) := by simp only [List.getElem_toArray]; exact List.getElem?_eq_getElem (by simpa using hm)
  obtain ⟨i', t', h1, h2⟩ := at_ m _ e1
  rw [hi] at h1
  cases h1
  rw [h2]
  rfl
 refine call_meets F.slot_list_remove ⟨_, e, rfl⟩ F.entry_list_remove (F.args_list_remove_2 _ _)
  (MeetsSeq.list_remove l its.toArray n _ (Bx k) mem j (by simpa [← hl] using jl) (by rw [val j _ k hj]; simp) (fun m hm lt => ?_) (by rw [List.size_toArray]; omega)) ⟨e, ?_⟩
 ·obtain ⟨i, hi⟩ : ∃ i, ns[m]? = some i := ⟨_, List.getElem?_eq_getElem (by omega)⟩
  rw [val m hm i hi]
  refine beq_eq_false_iff_ne.mpr fun z => hno m lt ?_
  rw [hi]
  exact congrArg some (by omega)
 refine ⟨.non, _, I.lset (its' := its.eraseIdx j) hH e ?_ ?_ ?_, rfl, q⟩
 ·show its.toArray.eraseIdxIfInBounds j = (its.eraseIdx j).toArray
  rw [List.eraseIdxIfInBounds_toArray]
 ·have := r.eraseIdx j
  have e2 : ∀ (l : List Nat) (j : Nat), (l.map fun i : Nat => V.int i).eraseIdx j = (l.eraseIdx j).map fun i : Nat => V.int i := by
   intro l
   induction l with
   | nil => intro j; rfl
   | cons a l ih =>
    intro j
    cases j with
    | zero => rfl
    | succ j => simp only [List.map_cons, List.eraseIdx_cons_succ, ih]
  rw [e2] at this
  exact this
 ·rw [List.length_map]
  have := List.length_eraseIdx_le ns j
  omega
def lM (X : Cx) (N' : List Str) (scope : Scope) (y : Str) (cl : List (Str × Addr)) (C : Addr) (fp : List Addr) (pins : bL) (s : Shared) (H : Hp) : Cx :=
 { X with N := N', s₀ := s, H₀ := H, env := compEnvC scope ((y, C + 1) :: cl) C X.env, outer := X.stack, stack := X.stack, ex := fp, fn := fun z => z == y, pn := X.pn ++ pins, xe := fun _ _ => False }
structure hV (X : Cx) (scope : Scope) (y : Str) (cl : List (Str × Addr)) : Prop where
 has : ∀ x, ((compEnvC scope cl 0 X.env).kindOf x = some .cell ∨ (compEnvC scope cl 0 X.env).kindOf x = some .free) -> x = y ∨ ∃ c, cl.lookup x = some c
 up : ∀ x c, cl.lookup x = some c -> X.env.cells.lookup x = some c
 no : cl.lookup y = none
theorem qI {X : Cx} {scope : Scope} {y : Str} {cl : List (Str × Addr)} (h1 : ((relabel scope X.env).names.all fun z => !(z.2 == .cell || z.2 == .free) || (z.1 == y) || (cl.lookup z.1).isSome) = true) (h2 : fU X cl) (h3 : cl.lookup y = none) : hV X scope y cl := by
 refine ⟨fun x h => ?_, fun x c e => h2.mem _ (mem_of_lookup e), h3⟩
 have h4 := List.all_eq_true.mp h1
 have key : ∀ k : NameKind, (k = .cell ∨ k = .free) -> (relabel scope X.env).names.lookup x = some k -> x = y ∨ ∃ c, cl.lookup x = some c := fun k hk e => by
  have q := h4 _ (mem_of_lookup e)
  have z : (k == NameKind.cell || k == NameKind.free) = true := by rcases hk with rfl | rfl <;> rfl
  simp only [z, Bool.not_true, Bool.false_or, Bool.or_eq_true] at q
  rcases q with q | q
  ·exact .inl (eq_of_beq q)
  ·exact .inr (Option.isSome_iff_exists.mp q)
 rcases h with h | h
 ·exact key _ (.inl rfl) h
 ·exact key _ (.inr rfl) h
theorem dP {y x : Str} {a c : Addr} {cl : List (Str × Addr)} (h : ((y, a) :: cl).lookup x = some c) : (x = y /\ c = a) ∨ (x ≠ y /\ cl.lookup x = some c) := by
 rw [List.lookup_cons] at h
 cases e : x == y with
 | true =>
  rw [e] at h
  injection h with h
  exact .inl ⟨eq_of_beq e, h.symm⟩
 | false =>
  rw [e] at h
  refine .inr ⟨fun z => ?_, h⟩
  rw [z, beq_self_eq_true] at e
  cases e
theorem oM {y x : Str} {a c : Addr} {cl : List (Str × Addr)} (n : cl.lookup y = none) (h : cl.lookup x = some c) : ((y, a) :: cl).lookup x = some c := by
 have ne : (x == y) = false := by
  cases e : x == y with
  | true => rw [eq_of_beq e, n] at h; cases h
  | false => rfl
 rw [List.lookup_cons, ne]
 exact h
section
variable {M : Model} {A : Around} {E : cS} {s : Shared}
theorem u7 {scope : Scope} {globals : Addr} {cl : List (Str × Addr)} {qual : Str} {outer : Env} {y : Str} {Q : Env -> Shared -> Prop} (hs : ∀ n : Nat, cellsFrom n scope.names cl = (y, n) :: cl) (hp : ∀ h : Heap, pushCells h scope.names = h.push { cls := .type "cell", data := .cell none })
  (hQ : Q { scope, locals := s.heap.objs.size, globals, cells := (y, s.heap.objs.size + 1) :: cl, qual, func := none, code := outer.code, frame := outer.frame, builtins := outer.builtins } { s with heap := (s.heap.push { cls := .type "dict", data := .dict #[] }).push { cls := .type "cell", data := .cell none } }) :
  wpAny M A (newFunctionEnv scope globals cl [] qual none .none (some outer)) Q E s := by
 simp only [newFunctionEnv, Option.isSome_some, if_true]
 refine wpAny_bind (wpAny_alloc (wpAny_bind (wpAny_layCells _ (fun name kind cells => by cases hkc : kind == NameKind.cell <;> simp [hkc]) _ _ _ _ ?_)))
 rw [hs, hp]
 refine wpAny_bind (wpAny_pure (wpAny_pure ?_))
 rw [show ({ s with heap := s.heap.push { cls := .type "dict", data := .dict #[] } } : Shared).heap.objs.size = s.heap.objs.size + 1 from Heap.size_push ..]
 exact hQ
end
section
variable {X : Cx} {N' : List Str} {scope : Scope} {y : Str} {cl : List (Str × Addr)} {src : List (Option Nat)} {pins : bL} {σ : L2.St} {H : Hp} {s : Shared} {fp : List Addr}
theorem Cx.compD_ok {C : Addr} (I : Inv X pins σ H s) (hC : s.heap.objs.size ≤ C) (hk : scope.kind = .function) (hf : ∀ b ∈ fp, d0 X pins H b) (hfs : ∀ b ∈ fp, b < s.heap.objs.size) (hc : hV X scope y cl) :
  (lM X N' scope y cl C fp pins s H).Ok where
 mod := I.ok.mod
 kind := hk
 glob := I.ok.glob
 blt := I.ok.blt
 above := hC
 inj := fun a b c e1 e2 => by
  have old : ∀ z, cl.lookup z = some (C + 1) -> False := fun z e => by
   obtain ⟨v, o, ho, _⟩ := I.cell z _ (hc.up z _ e)
   have q := Heap.lt_size ho
   exact Nat.lt_irrefl _ (Nat.lt_of_lt_of_le (Nat.lt_of_le_of_lt (Nat.le_succ C) q) hC)
  rcases dP e1 with ⟨h1, h2⟩ | ⟨_, h2⟩
  ·rcases dP e2 with ⟨h3, _⟩ | ⟨_, h4⟩
   ·rw [h1, h3]
   ·rw [h2] at h4; exact (old b h4).elim
  ·rcases dP e2 with ⟨_, h4⟩ | ⟨_, h4⟩
   ·rw [h4] at h2; exact (old a h2).elim
   ·exact I.ok.inj a b c (hc.up a c h2) (hc.up b c h4)
 has := fun x h => by
  rcases hc.has x h with z | ⟨c, z⟩
  ·exact ⟨C + 1, by show ((y, C + 1) :: cl).lookup x = _; rw [z, List.lookup_cons, beq_self_eq_true]⟩
  ·exact ⟨c, oM hc.no z⟩
 cab := fun x c z e => by
  have zx : x = y := eq_of_beq z
  rcases dP e with ⟨_, h2⟩ | ⟨h1, _⟩
  ·rw [h2]; exact Nat.le_trans hC (Nat.le_succ C)
  ·exact absurd zx h1
 hd := I.ok.hd
 frames := I.ok.frames
 stk := .inl rfl
 exf := fun b hb => ⟨fun z => by have := hfs b hb; rw [show b = C from z] at this; exact absurd (Nat.lt_of_lt_of_le this hC) (Nat.lt_irrefl _), fun x c e => by
  rcases dP e with ⟨_, h2⟩ | ⟨_, h2⟩
  ·have q := hfs b hb
   intro z
   rw [show b = C + 1 from z.symm.trans h2] at q
   exact Nat.lt_irrefl _ (Nat.lt_of_lt_of_le (Nat.lt_of_le_of_lt (Nat.le_succ C) q) hC)
  ·exact (hf b hb).2.2.2.2.1 x c (hc.up x c h2)⟩
 bs := I.bs
 bsz := Nat.le_trans I.ok.bsz I.sz
 noex := fun b o e hb => by
  rcases (hf b hb).2.2.2.1 with z | z
  ·exact I.ok.noex b o e z
  ·rw [(I.ok.bs b o e).1] at z; cases z
 exfs := fun b hb z => by
  rcases List.mem_cons.mp (I.stkSub b z) with q | q
  ·exact (hf b hb).2.1 q
  ·exact (hf b hb).2.2.1 q
 funs := I.stack
 frf := I.stkFree
theorem Inv.compD {C : Addr} {h₁ : Heap} {m : Str -> Option Value} {tk : Nat} (I : Inv X pins σ H s) (hC : C = s.heap.objs.size) (hns : h₁.Ns C m) (hcl1 : h₁.IsCell (C + 1) none) (keep : ∀ b o, s.heap.get? b = some o -> h₁.get? b = some o)
  (hk : scope.kind = .function) (hf : ∀ b ∈ fp, d0 X pins H b) (hfs : ∀ b ∈ fp, b < s.heap.objs.size) (hc : hV X scope y cl) (hfree : cu X scope cl N' src) :
  Inv (lM X N' scope y cl C fp pins s H) [] (bW src σ) H { s with heap := h₁, toks := tk } where
 ok := Cx.compD_ok I (Nat.le_of_eq hC.symm) hk hf hfs hc
 os := rfl
 bare := I.bare
 base := Un.kept keep
 loc := ⟨m, hns, fun i x v e1 e2 _ => by
  obtain ⟨j, hj, hσ, kc, kc', hl⟩ := hfree.at e1 e2
  obtain ⟨m0, hn0, hl0⟩ := I.loc
  obtain ⟨u, r, l⟩ := hl0 j x v hj hσ (Or.inr (Or.inl kc))
  rcases l with ⟨k, _⟩ | ⟨k, c, e, o, ho, hd⟩
  ·rw [kc] at k; cases k
  ·exact ⟨u, r, .inr ⟨.inl kc', c, oM hc.no (hl.trans e), o, keep c o ho, hd⟩⟩⟩
 cell := fun x c e => by
  rcases dP e with ⟨_, h2⟩ | ⟨_, h2⟩
  ·rw [h2]; exact ⟨none, hcl1⟩
  ·obtain ⟨v, o, ho, hd⟩ := I.cell x c (hc.up x c h2)
   exact ⟨v, o, keep _ _ ho, hd⟩
 free := I.hok.fresh (Nat.le_of_eq hC.symm)
 freeC := fun x c e => by
  rcases dP e with ⟨_, h2⟩ | ⟨_, h2⟩
  ·rw [h2]; exact I.hok.fresh (by rw [hC]; exact Nat.le_succ _)
  ·exact I.freeC x c (hc.up x c h2)
 pin := fun p hp => by
  have hp' : p ∈ X.pn ++ pins := by
   have z : p ∈ (X.pn ++ pins) ++ [] := hp
   rw [List.append_nil] at z; exact z
  obtain ⟨e, n, ne, nf, d⟩ := I.pin p hp'
  refine ⟨keep _ _ e, n, fun z => ?_, fun z => ?_, d⟩
  ·have := Heap.lt_size e; rw [show p.1 = C from z, hC] at this; exact Nat.lt_irrefl _ this
  ·rcases List.mem_cons.mp (I.stkSub _ z) with q | q
   ·exact ne q
   ·exact nf q
 hok := I.hok.kept keep
 len := by show (bW src σ).length = N'.length; unfold bW; rw [List.length_map, hfree.len]
end
section
variable {X : Cx} {N' : List Str} {scope : Scope} {y : Str} {cl : List (Str × Addr)} {src : List (Option Nat)} {tg iter elt : Expr} {ifs : List Expr} {wi : TI} {g : TG} {tt : TT} {te : TE} {pos : Pos}
theorem qG (hc : X.calm = true) (hi : PI X tg iter wi) (hg : ∀ C fp pins s H, PG (lM X N' scope y cl C fp pins s H) tg g) (ht : ∀ C fp pins s H, v8 (lM X N' scope y cl C fp pins s H) ifs tt)
  (he : ∀ C fp pins s H, PE (lM X N' scope y cl C fp pins s H) elt te) (hfree : cu X scope cl N' src) (hcf : ∀ n : Nat, cellsFrom n scope.names cl = (y, n) :: cl) (hcp : ∀ h : Heap, pushCells h scope.names = h.push { cls := .type "cell", data := .cell none }) (hkind : scope.kind = .function) (hcl : hV X scope y cl)
  {RR : Value -> Addr -> Result -> Shared -> Prop} {pins : bL} {s : Shared} {σ : L2.St} {H : Hp} {Q : VK} (I : Inv X pins σ H s) (h : gm wi src g tt te σ H Q)
  (hRR : ∀ D C H' s', Q (.ref D) H' -> (∃ m, s'.heap.Ns C m) -> Inv X pins σ H' s' -> qO X pins H' C -> RR (.ref D) C (.ok .next) s') :
  wpAny (model X.prog X.w) X.A (eval iter X.env) (fun x s₁ => wpAny (model X.prog X.w) X.A (pyIter x) (fun itv s₂ => wpAny (model X.prog X.w) X.A (newList []) (fun acc s₃ =>
   wpAny (model X.prog X.w) X.A (newFunctionEnv scope X.env.globals cl [] X.env.qual none .none (some X.env)) (fun cenv s₄ =>
    codeAny (model X.prog X.w) X.A (.compStart (.ListComp elt [⟨tg, iter, ifs, 0⟩] scope pos) 0 itv acc { cenv with scope := relabel scope X.env }) (RR acc cenv.locals) s₄) X.xe s₃) X.xe s₂) X.xe s₁) X.xe s := by
 refine bZ (hi pins s σ H _ I h) fun v s1 h1 => bZ h1 fun itv s2 h2 => ?_
 obtain ⟨it, fp, tn, J, H2, e, I2, T, st2, f2, h2⟩ := h2
 subst e
 refine wpAny_newObj_type ?_ (by show 0 ≤ sizeLine; exact Nat.zero_le _)
 have hD : H2 s2.heap.objs.size = none := I2.fresh
 have I3 : Inv X pins σ (upd H2 s2.heap.objs.size (.lst [])) { s2 with heap := s2.heap.push { cls := .type "list", data := .seq ([] : List Value).toArray } } := I2.lnew (t' := s2.toks) (its := []) .nil (Nat.zero_le _)
 obtain ⟨W, ⟨m0, w0⟩, turn⟩ := h2 s2.heap.objs.size hD
 generalize hDe : s2.heap.objs.size = D at I3 turn w0 hD ⊢
 have st3 : tn 0 (s2.heap.push { cls := .type "list", data := .seq ([] : List Value).toArray }) := T.keep _ _ _ st2 fun b _ o e => Heap.get?_push_of_some _ e
 have f3 : ∀ b ∈ fp, d0 X pins (upd H2 D (.lst [])) b /\ b < (s2.heap.push { cls := .type "list", data := .seq ([] : List Value).toArray }).objs.size := fun b hb => by
  obtain ⟨o, e, _⟩ := T.obj _ _ st2 b hb
  have l := Heap.lt_size e
  rw [hDe] at l
  refine ⟨⟨?_, (f2 b hb).2⟩, by rw [Heap.size_push, hDe]; exact Nat.lt_succ_of_lt l⟩
  rw [aC (Nat.ne_of_lt l)]; exact (f2 b hb).1
 generalize (s2.heap.push { cls := .type "list", data := .seq ([] : List Value).toArray }) = h3 at I3 st3 f3 ⊢
 refine u7 hcf hcp ?_
 have sz : (h3.push { cls := .type "dict", data := .dict #[] }).objs.size = h3.objs.size + 1 := Heap.size_push ..
 have hns₄ := (Heap.Ns.new h3 (.type "dict")).keeps fun b o e => Heap.get?_push_of_some { cls := .type "cell", data := .cell none } e
 have hce₄ : ((h3.push { cls := .type "dict", data := .dict #[] }).push { cls := .type "cell", data := .cell none }).IsCell (h3.objs.size + 1) none := ⟨_, by rw [← sz]; exact Heap.get?_push_size _ rfl, rfl⟩
 have keep : ∀ b o, h3.get? b = some o -> ((h3.push { cls := .type "dict", data := .dict #[] }).push { cls := .type "cell", data := .cell none }).get? b = some o := fun b o e => Heap.get?_push_of_some _ (Heap.get?_push_of_some _ e)
 generalize (h3.push { cls := .type "dict", data := .dict #[] }).push { cls := .type "cell", data := .cell none } = h₄ at hns₄ hce₄ keep ⊢
 have I4 := Inv.compD (C := h3.objs.size) (fp := fp) (tk := s2.toks) I3 rfl hns₄ hce₄ keep hkind (fun b hb => (f3 b hb).1) (fun b hb => (f3 b hb).2) hcl hfree
 have st4 : tn 0 h₄ := T.keep _ _ _ st3 fun b _ o e => keep b o e
 have fpn : ∀ b ∈ fp, (upd H2 D (.lst [])) b = none := fun b hb => (f3 b hb).1.1
 have hn3 : ∀ b ∈ fp, b ≠ h3.objs.size := fun b hb => Nat.ne_of_lt (f3 b hb).2
 have stat : ∀ {H' : Hp}, (∀ b ∈ fp, H' b = none) -> ∀ b ∈ fp, d0 (lM X N' scope y cl h3.objs.size fp pins { s2 with heap := h3 } (upd H2 D (.lst []))) [] H' b := fun hn b hb =>
  ⟨hn b hb, hn3 b hb, I4.ok.exfs b hb, .inl hb, fun x c e => (by
   rcases dP e with ⟨_, h2⟩ | ⟨_, h2⟩
   ·intro z
    have q := (f3 b hb).2
    rw [show b = h3.objs.size + 1 from z.symm.trans h2] at q
    exact Nat.lt_irrefl _ (Nat.lt_of_le_of_lt (Nat.le_succ _) q)
   ·exact (f3 b hb).1.2.2.2.2.1 x c (hcl.up x c h2)), fun p hp => (f3 b hb).1.2.2.2.2.2 p (by
   have z : p ∈ (X.pn ++ pins) ++ [] := hp
   rw [List.append_nil] at z; exact z)⟩
 have back : ∀ {H' : Hp} {s' : Shared}, Inv (lM X N' scope y cl h3.objs.size fp pins { s2 with heap := h3 } (upd H2 D (.lst []))) [] (bW src σ) H' s' -> (∃ m, s'.heap.Ns h3.objs.size m) /\ Inv X pins σ H' s' /\ qO X pins H' h3.objs.size := fun {H' s'} I' => by
  have Ib : Inv X pins σ H' s' := I3.call' I'.os I'.base I'.hok I'.bare fun b hb => ⟨(f3 b hb).1.2.2.2.1, (f3 b hb).1.2.1, (f3 b hb).1.2.2.2.2.1, (f3 b hb).1.2.2.2.2.2⟩
  refine ⟨let ⟨m, hm, _⟩ := I'.loc; ⟨m, hm⟩, Ib, ⟨I'.free, fun z => ?_, I3.nofs (Nat.le_refl _), Heap.get?_none_of_le I3.sz, fun x c e z => ?_, fun p hp z => ?_⟩⟩
  ·have := I3.lt; rw [← z] at this; exact Nat.lt_irrefl _ this
  ·obtain ⟨v, o, ho, _⟩ := I3.cell x c e
   have := Heap.lt_size ho; rw [z] at this; exact Nat.lt_irrefl _ this
  ·obtain ⟨e, _⟩ := I3.pin p hp
   have := Heap.lt_size e; rw [z] at this; exact Nat.lt_irrefl _ this
 have loop : codeAny (model X.prog X.w) X.A (.compLoop (.ListComp elt [⟨tg, iter, ifs, 0⟩] scope pos) 0 (.ref it) (.ref D) (compEnvC scope ((y, h3.objs.size + 1) :: cl) h3.objs.size X.env)) (RR (.ref D) h3.objs.size) { s2 with heap := h₄, toks := s2.toks } := by
  refine jZ (fun n s' => ∃ i ys H', Inv (lM X N' scope y cl h3.objs.size fp pins { s2 with heap := h3 } (upd H2 D (.lst []))) [] (bW src σ) H' s' /\ tn i s'.heap /\ (∀ b ∈ fp, H' b = none) /\ W i n ys H') ?_ m0 ⟨0, [], _, I4, st4, fpn, w0⟩
  rintro n s5 ⟨i, ys, H5, I5, st5, fr5, w5⟩
  rcases turn i n ys H5 w5 with ⟨stop, qn⟩ | ⟨go, step⟩
  ·refine bZ (T.done (lM X N' scope y cl h3.objs.size fp pins { s2 with heap := h3 } (upd H2 D (.lst []))) rfl rfl rfl hc i [] s5 _ H5 _ I5 (stat fr5) st5 stop) fun r s6 ⟨hr, I6⟩ => ?_
   subst hr
   obtain ⟨b1, b2, b3⟩ := back I6
   exact hRR D _ H5 s6 qn b1 b2 b3
  ·refine bZ (T.item (lM X N' scope y cl h3.objs.size fp pins { s2 with heap := h3 } (upd H2 D (.lst []))) rfl rfl rfl hc i [] s5 _ H5 _ I5 (stat fr5) st5 go) fun r s6 ⟨u, hr, h6⟩ => ?_
   subst hr
   refine bZ h6 fun _ s7 ⟨x, H7, I7, r7, y7, st7, fr7⟩ => ?_
   have I7' := I7.pinned (stat fr7) (T.obj _ _ st7)
   refine bZ (hg _ _ _ _ _ _ s7 _ H7 x u _ I7' r7 (step x H7 y7)) fun _ s8 ⟨σ8, H8, I8, ex8, q8⟩ => ?_
   refine bZ (ht _ _ _ _ _ _ s8 σ8 H8 _ I8 q8) fun ok s9 ⟨H9, I9, q9⟩ => ?_
   have again : ∀ {ys' : List V} {Ha : Hp} {sa : Shared}, Inv (lM X N' scope y cl h3.objs.size fp pins { s2 with heap := h3 } (upd H2 D (.lst []))) ([] ++ gZ fp s7.heap) σ8 Ha sa -> (∃ m', m' < n /\ W (i + 1) m' ys' Ha) →
     ∃ m, m < n /\ ∃ i ys H', Inv (lM X N' scope y cl h3.objs.size fp pins { s2 with heap := h3 } (upd H2 D (.lst []))) [] (bW src σ) H' sa /\ tn i sa.heap /\ (∀ b ∈ fp, H' b = none) /\ W i m ys H' := fun {ys' Ha sa} Ia ⟨m', hm, wa⟩ => by
    refine ⟨m', hm, i + 1, ys', Ha, (Ia.unpinned).weak ex8.1.symm ex8.2, T.keep _ _ _ st7 fun b hb o e => (Ia.pin (b, o) (List.mem_append_right _ (List.mem_append_right _ (dJ hb e)))).1, fun b hb => ?_, wa⟩
    obtain ⟨o, e, _⟩ := T.obj _ _ st7 b hb
    exact (Ia.pin (b, o) (List.mem_append_right _ (List.mem_append_right _ (dJ hb e)))).2.1
   cases ok with
   | false => exact again I9 q9
   | true =>
    refine bZ (he _ _ _ _ _ _ s9 σ8 H9 _ I9 q9) fun y s10 ⟨yv, H10, I10, r10, q10, hz, wn⟩ => ?_
    refine bZ (b8 _ s10 σ8 H10 (.ref D) [yv] (.ref D) [y] (fun _ Hz => ∃ m', m' < n /\ W (i + 1) m' (ys ++ [yv]) Hz) I10 rfl (.cons r10 .nil) ⟨D, ys, yv, rfl, rfl, q10, hz, wn⟩) fun _ s11 ⟨_, H11, I11, _, q11⟩ => ?_
    exact again I11 q11
 exact codeAny_compStart_list loop (T.self _ 0 _ _ _ st4 loop)
theorem su {i : Nat} {x : Str} {pos' pos2 : Pos} (hN : X.N.Nodup) (hi' : X.N[i]? = some x) (hx : ub X.env.scope x) (hc : X.calm = true) (hi : PI X tg iter wi) (hg : ∀ C fp pins s H, PG (lM X N' scope y cl C fp pins s H) tg g) (ht : ∀ C fp pins s H, v8 (lM X N' scope y cl C fp pins s H) ifs tt)
  (he : ∀ C fp pins s H, PE (lM X N' scope y cl C fp pins s H) elt te) (hfree : cu X scope cl N' src) (hclos : closureFor scope X.env = pure cl) (hcf : ∀ n : Nat, cellsFrom n scope.names cl = (y, n) :: cl) (hcp : ∀ h : Heap, pushCells h scope.names = h.push { cls := .type "cell", data := .cell none }) (hkind : scope.kind = .function)
  (hnames : ∀ x ∈ scope.names, x.2 = .local -> scope.names.lookup x.1 = some .local) (hcl : hV X scope y cl) (hs : ∀ x, foldedSetIterable iter X.env x = pure x := by intro _; rfl)
  (hsw : swapsWith (.ListComp elt [⟨tg, iter, ifs, 0⟩] scope pos) (some (.Name x pos')) pos2.line X.env = pure true := by rfl) (hf : X.fn x = true ∨ X.env.scope.names.lookup x = some .local := by first | exact .inl rfl | exact .inr rfl | assumption) :
  PS X (.Assign [.Name x pos'] (.ListComp elt [⟨tg, iter, ifs, 0⟩] scope pos) pos2) (kr (gm wi src g tt te) (gF i)) := by
 intro pins s σ H D I h
 rw [exec_Assign_Name_used _ _ _ _ hsw]
 refine wpAny_bind (wpAny_standAt ?_)
 show wpAny _ _ ((comprehension (.ListComp elt [⟨tg, iter, ifs, 0⟩] scope pos) scope X.env _ (newList []) false (eval iter X.env) (some (assign (.Name x pos') X.env)) >>= fun _ => pure ()) >>= fun _ => pure Flow.next) _ _ s
 refine wpAny_bind (wpAny_bind (wpAny_mono (wpAny_comprehension_free (use := some (assign (.Name x pos') X.env)) (Q := fun _ s'' => SP X pins D .next s'') rfl hs hclos hkind hnames (qG hc hi hg ht he hfree hcf hcp hkind hcl (RR := fun acc C => compPost (model X.prog X.w) X.A X.xe (some (assign (.Name x pos') X.env)) (fun _ s'' => SP X pins D .next s'') acc C) I h fun E C H' s' q hm hI hb => ?_)) (fun _ s'' h'' => wpAny_pure (wpAny_pure h'')) fun _ _ e => e))
 obtain ⟨m, o, es, ep, ho, hd, r1, r2⟩ := hm
 have I' : Inv X (pins ++ [(C, o)]) σ H' s' := hI.pins_of fun p hp => by
  rcases List.mem_append.mp hp with h | h
  ·exact hI.pin p (List.mem_append_right _ h)
  ·rw [List.mem_singleton] at h
   rw [h]
   exact ⟨ho, hb.no, hb.lo, hb.fs, fun v z => by rw [hd] at z; cases z⟩
 refine wpAny_assign_Name (d8 I' hN hi' hx (show bn (.ref E) (.ref E) from rfl) (fun s'' I'' => ?_) hf)
 have hC := (I''.pin (C, o) (List.mem_append_right _ (List.mem_append_right _ List.mem_cons_self))).1
 have I3 : Inv X pins (σ.set i (some (.ref E))) H' s'' := I''.pins_of fun p hp => I''.pin p (List.mem_append_right _ (List.mem_append_left _ hp))
 exact ⟨m, ⟨o, es, ep, hC, hd, r1, r2⟩, fun h' sb => ⟨_, H', hb.turned I3 sb, q⟩⟩
end
section
variable {X : Cx} {N' : List Str} {scope : Scope} {y : Str} {cl : List (Str × Addr)} {src : List (Option Nat)} {tg iter elt : Expr} {ifs : List Expr} {wi : TI} {g : TG} {tt : TT} {te : TE} {pos : Pos}
theorem rZ {i : Nat} {x : Str} {pos' pos2 : Pos} (hN : X.N.Nodup) (hi' : X.N[i]? = some x) (hx : ub X.env.scope x) (hc : X.calm = true) (hi : QI X tg iter wi) (hg : ∀ C fp pins s H, QG (lM X N' scope y cl C fp pins s H) tg g) (ht : ∀ C fp pins s H, yU (lM X N' scope y cl C fp pins s H) ifs tt) (he : ∀ C fp pins s H, QE (lM X N' scope y cl C fp pins s H) elt te) (hfree : cu X scope cl N' src) (hclos : closureFor scope X.env = pure cl) (hcf : ∀ n : Nat, cellsFrom n scope.names cl = (y, n) :: cl) (hcp : ∀ h : Heap, pushCells h scope.names = h.push { cls := .type "cell", data := .cell none }) (hkind : scope.kind = .function) (hnames : ∀ x ∈ scope.names, x.2 = .local -> scope.names.lookup x.1 = some .local) (hcl : hV X scope y cl) (hs : ∀ x, foldedSetIterable iter X.env x = pure x := by intro _; rfl) (hsw : swapsWith (.ListComp elt [⟨tg, iter, ifs, 0⟩] scope pos) (some (.Name x pos')) pos2.line X.env = pure true := by rfl) (hf : X.fn x = true ∨ X.env.scope.names.lookup x = some .local := by first | exact .inl rfl | exact .inr rfl | assumption) : QS X (.Assign [.Name x pos'] (.ListComp elt [⟨tg, iter, ifs, 0⟩] scope pos) pos2) (kr (gm wi src g tt te) (gF i)) := ⟨su hN hi' hx hc hi.p (fun z0 z1 z2 z3 z4 => (hg z0 z1 z2 z3 z4).p) (fun z0 z1 z2 z3 z4 => (ht z0 z1 z2 z3 z4).p) (fun z0 z1 z2 z3 z4 => (he z0 z1 z2 z3 z4).p) hfree hclos hcf hcp hkind hnames hcl hs hsw hf⟩
theorem qb (hclos : closureFor scope X.env = pure cl) (hc : X.calm = true) (hi : QI X tg iter wi) (hg : ∀ C fp pins s H, QG (g7 X N' scope cl C fp pins s H) tg g) (ht : ∀ C fp pins s H, yU (g7 X N' scope cl C fp pins s H) ifs tt) (he : ∀ C fp pins s H, QE (g7 X N' scope cl C fp pins s H) elt te) (hfree : cu X scope cl N' src) (hcell : ∀ x ∈ scope.names, x.2 ≠ .cell) (hkind : scope.kind = .function) (hnames : ∀ x ∈ scope.names, x.2 = .local -> scope.names.lookup x.1 = some .local) (hcl : d7 X scope cl) (hs : ∀ x, foldedSetIterable iter X.env x = pure x := by intro _; rfl) : QE X (.ListComp elt [⟨tg, iter, ifs, 0⟩] scope pos) (gm wi src g tt te) := bx hc hi hg ht he hfree hclos hcell hkind hnames hcl hs
theorem r8 {K : Fg} {l tg : Expr} {tl : TE} (hK : X.K = K) (hl : QE X l tl) : QI X tg l (tG K tl) := by subst hK; exact bG hl
theorem u3 {K : Fg} {k : Nat} (hK : X.K = K) (hr : cQ k X.A) : e9 X (compareOp .NotEq) (zJ K) := hK ▸ g3 hr
theorem nW {X : Cx} {K : Fg} (hK : X.K = K) (hc : X.calm = true) : df X (.builtin "any") (fun xs H Q => ∃ p bs, xs = [V.ref p] /\ aO K H p (List.map V.bl bs) /\ Q (V.bl (bs.any id)) H) := by subst hK; exact qM hc
end
end B
namespace My
open PySem L2 B PyProof.Rows
theorem cD {X : Cx} {pos : Pos} (i : Nat) {x : Str} {e : Expr} {te : TE} {pos' : Pos} (hN : X.N.Nodup) (he : QE X e te) (hi : X.N[i]? = some x := by rfl) (hx : ub X.env.scope x := by first | exact Or.inl rfl | exact Or.inr rfl) (hs : swapsWith e (some (.Name x pos')) pos.line X.env = pure false := by rfl) (hf : X.fn x = true ∨ X.env.scope.names.lookup x = some .local := by first | exact .inl rfl | exact .inr rfl | assumption) : QS X (.Assign [.Name x pos'] e pos) (kr te (gF i)) := wS hN hi hx he hs hf
theorem fj {N P : List Str} {sc : Scope} (a : sc.kind = .function := by rfl) (b : sc.isCoroutine = false := by rfl) (c : sc.isGenerator = false := by rfl) (d : N.Nodup := by decide +kernel) (e : N.take P.length = P := by rfl) (f : ∀ x ∈ P, sc.names.lookup x = some .local ∨ sc.names.lookup x = some .cell := by decide +kernel) (g : ∀ y ∈ sc.names, y.2 ≠ .free := by decide +kernel) : aJ N P sc := ⟨a, b, c, d, e, f, g⟩
theorem dt {X : Cx} {k j : Nat} {f : Addr} {fd : FuncData} {ps : List Str} {sp : Sp} {x : Str} {p pos : Pos} {e : Expr} {es : List Expr} {t : TA} (F : bB X.prog X.w X.K X.mg X.base dI k f fd ps sp) (hr : cQ j X.A) (hm : X.mg x = some (.ref f)) (hk : PySem.W.keepIn X.K (.ref f) = true) (hb : aZ X.K fd ps []) (ha : QA X (e :: es) t) (hl : k ≤ j := by decide) (hg : Gl X x := by rfl) (hdb : (x == ("__debug__" : Str)) = false := by decide) (he : starEach (e :: es) X.env = (false, eval e X.env) :: starEach es X.env := by rfl) (hpl : (backTo pos (starEach es X.env)).any (·.1) = false := by rfl) : QE X (.Call (.Name x p) (e :: es) [] pos) (lV sp [] E0 t) := dM F (hr.mono hl) hg hm hk hb .nil fY ha hdb he hpl
theorem cK {X : Cx} {a b : Expr} {ta tb : TE} {pos : Pos} {r : R2} (hr : yM X r) (ha : QE X a ta) (hb : QE X b tb) (hs : lG b := by exact fun _ _ => rfl) : QE X (.Subscript a b pos) (uj r ta tb) := bj hr ha hb hs
theorem ft {K : Fg} {x qual : Str} {st : Stmt} {f : Addr} {fd : FuncData} {ps : List Str} (F : Fun K x qual st f fd) (h : ∀ (kV doc pm : Value) (an : Option Addr) (cdv ct : Value) (us : List Value), us.length = ps.length -> bindArgs (PySem.W.fnOf x qual (aK st) (aI st) (au st) .none kV doc pm an cdv ct) ⟨us, []⟩ = pure (ps.zip us) := by
 intro _ _ _ _ _ _ us hl
 match us, hl with
 | [], h2 => first | rfl | (simp at h2)
 | [_], h2 => first | rfl | (simp at h2)
 | [_, _], h2 => first | rfl | (simp at h2)
 | [_, _, _], h2 => first | rfl | (simp at h2)
 | [_, _, _, _], h2 => first | rfl | (simp at h2)
 | _ :: _ :: _ :: _ :: _ :: _, h2 => simp at h2) : aZ K fd ps [] := F.binds h
def top (i : Nat) : Stmt := PySem.Challenge.pw_paceplan_k33_works_dealt.main.body.getD i (.Pass ⟨0, 0, 0, 0⟩)
abbrev jw : Stmt := top 1
abbrev pZ : Stmt := top 14
abbrev js : Stmt := top 15
abbrev ju : Stmt := top 16
abbrev jB : Stmt := top 17
abbrev jv : Stmt := top 18
abbrev pR : Stmt := top 21
abbrev pU : Stmt := top 22
abbrev jJ : Stmt := top 23
abbrev pW : Stmt := top 24
abbrev pX : Stmt := top 26
abbrev jI : Stmt := top 27
abbrev pQ : Stmt := top 28
abbrev jt : Stmt := top 29
abbrev jH : Stmt := top 31
abbrev jG : Stmt := top 32
abbrev jR : Stmt := top 33
abbrev jF : Stmt := top 34
abbrev jA : Stmt := top 35
abbrev jz : Stmt := top 36
abbrev jE : Stmt := top 37
abbrev jy : Stmt := top 38
abbrev jQ : Stmt := top 39
abbrev jP : Stmt := top 40
abbrev pV : Stmt := top 41
abbrev pT : Stmt := top 42
abbrev jD : Stmt := top 43
abbrev pS : Stmt := top 44
abbrev jO : Stmt := top 45
abbrev jN : Stmt := top 46
abbrev jx : Stmt := top 47
abbrev jC : Stmt := top 48
abbrev jM : Stmt := top 49
abbrev jL : Stmt := top 50
abbrev pY : Stmt := top 51
abbrev jK : Stmt := top 52
abbrev gq : Stmt := top 53
abbrev gr : Stmt := vh (top 5) 0
structure Ad where
 a_Q37 : Addr
 d_Q37 : FuncData
 a_Q0 : Addr
 d_Q0 : FuncData
 a_Q44 : Addr
 d_Q44 : FuncData
 a_Q42 : Addr
 d_Q42 : FuncData
 a_Q28 : Addr
 d_Q28 : FuncData
 a_Q38 : Addr
 d_Q38 : FuncData
 a_Q8 : Addr
 d_Q8 : FuncData
 a_Q5 : Addr
 d_Q5 : FuncData
 a_Q20 : Addr
 d_Q20 : FuncData
 a_Q3 : Addr
 d_Q3 : FuncData
 a_Q2 : Addr
 d_Q2 : FuncData
 a_Q21 : Addr
 d_Q21 : FuncData
 a_Q9 : Addr
 d_Q9 : FuncData
 a_Q43 : Addr
 d_Q43 : FuncData
 a_Q22 : Addr
 d_Q22 : FuncData
 a_Q23 : Addr
 d_Q23 : FuncData
 a_Q10 : Addr
 d_Q10 : FuncData
 a_Q24 : Addr
 d_Q24 : FuncData
 a_Q29 : Addr
 d_Q29 : FuncData
 a_Q30 : Addr
 d_Q30 : FuncData
 a_Q25 : Addr
 d_Q25 : FuncData
 a_Q31 : Addr
 d_Q31 : FuncData
 a_Q11 : Addr
 d_Q11 : FuncData
 a_Q12 : Addr
 d_Q12 : FuncData
 a_Q4 : Addr
 d_Q4 : FuncData
 a_Q6 : Addr
 d_Q6 : FuncData
 a_Q26 : Addr
 d_Q26 : FuncData
 a_Q7 : Addr
 d_Q7 : FuncData
 a_Q13 : Addr
 d_Q13 : FuncData
 a_Q14 : Addr
 d_Q14 : FuncData
 a_Q32 : Addr
 d_Q32 : FuncData
 a_Q27 : Addr
 d_Q27 : FuncData
 a_Q15 : Addr
 d_Q15 : FuncData
 a_Q16 : Addr
 d_Q16 : FuncData
 a_Q1 : Addr
 d_Q1 : FuncData
 a_Q17 : Addr
 d_Q17 : FuncData
 a_Q45 : Addr
 d_Q45 : FuncData
 c_NOUGHT : Addr
 k_TURNS : Tok
 c_base : Addr
 c_Q39 : Addr
 a_Q39 : Addr
 d_Q39 : FuncData
 c_Q18 : Addr
 c_Q33 : Addr
 c_Q40 : Addr
 c_Q34 : Addr
 c_Q41 : Addr
 c_Q35 : Addr
 c_Q36 : Addr
 c_Q19 : Addr
structure eQ (K : Fg) (mg : Str -> Option Value) (t : Ad) : Prop where
 F_Q37 : Fun K "copied" "copied" jw t.a_Q37 t.d_Q37
 b_Q37 : aZ K t.d_Q37 ["thing"] []
 m_Q37 : mg "copied" = some (.ref t.a_Q37)
 F_Q0 : Fun K "greatest_divisor" "greatest_divisor" pZ t.a_Q0 t.d_Q0
 b_Q0 : aZ K t.d_Q0 ["one", "other"] []
 m_Q0 : mg "greatest_divisor" = some (.ref t.a_Q0)
 F_Q44 : Fun K "plus" "plus" js t.a_Q44 t.d_Q44
 b_Q44 : aZ K t.d_Q44 ["one", "other"] []
 m_Q44 : mg "plus" = some (.ref t.a_Q44)
 F_Q42 : Fun K "minus" "minus" ju t.a_Q42 t.d_Q42
 b_Q42 : aZ K t.d_Q42 ["one", "other"] []
 m_Q42 : mg "minus" = some (.ref t.a_Q42)
 F_Q28 : Fun K "is_less" "is_less" jB t.a_Q28 t.d_Q28
 b_Q28 : aZ K t.d_Q28 ["one", "other"] []
 m_Q28 : mg "is_less" = some (.ref t.a_Q28)
 F_Q38 : Fun K "lesser" "lesser" jv t.a_Q38 t.d_Q38
 b_Q38 : aZ K t.d_Q38 ["one", "other"] []
 m_Q38 : mg "lesser" = some (.ref t.a_Q38)
 F_Q8 : Fun K "in_window" "in_window" pR t.a_Q8 t.d_Q8
 b_Q8 : aZ K t.d_Q8 ["work", "turn"] []
 m_Q8 : mg "in_window" = some (.ref t.a_Q8)
 F_Q5 : Fun K "no_leanings" "no_leanings" pU t.a_Q5 t.d_Q5
 b_Q5 : aZ K t.d_Q5 ["count"] []
 m_Q5 : mg "no_leanings" = some (.ref t.a_Q5)
 F_Q20 : Fun K "add_lean" "add_lean" jJ t.a_Q20 t.d_Q20
 b_Q20 : aZ K t.d_Q20 ["leanings", "lean"] []
 m_Q20 : mg "add_lean" = some (.ref t.a_Q20)
 F_Q3 : Fun K "all_leanings" "all_leanings" pW t.a_Q3 t.d_Q3
 b_Q3 : aZ K t.d_Q3 ["count", "leans"] []
 m_Q3 : mg "all_leanings" = some (.ref t.a_Q3)
 F_Q2 : Fun K "first_to_come" "first_to_come" pX t.a_Q2 t.d_Q2
 b_Q2 : aZ K t.d_Q2 ["works", "leanings", "waiting"] []
 m_Q2 : mg "first_to_come" = some (.ref t.a_Q2)
 F_Q21 : Fun K "order_of" "order_of" jI t.a_Q21 t.d_Q21
 b_Q21 : aZ K t.d_Q21 ["works", "leans"] []
 m_Q21 : mg "order_of" = some (.ref t.a_Q21)
 F_Q9 : Fun K "deal_turn" "deal_turn" pQ t.a_Q9 t.d_Q9
 b_Q9 : aZ K t.d_Q9 ["works", "order", "left", "turn", "speed"] []
 m_Q9 : mg "deal_turn" = some (.ref t.a_Q9)
 F_Q43 : Fun K "dealt" "dealt" jt t.a_Q43 t.d_Q43
 b_Q43 : aZ K t.d_Q43 ["works", "leans", "speeds"] []
 m_Q43 : mg "dealt" = some (.ref t.a_Q43)
 F_Q22 : Fun K "_law_tape" "_law_tape" jH t.a_Q22 t.d_Q22
 b_Q22 : aZ K t.d_Q22 ["_law_script"] []
 m_Q22 : mg "_law_tape" = some (.ref t.a_Q22)
 F_Q23 : Fun K "_law_draw" "_law_draw" jG t.a_Q23 t.d_Q23
 b_Q23 : aZ K t.d_Q23 ["_law_tape_here", "_law_many"] []
 m_Q23 : mg "_law_draw" = some (.ref t.a_Q23)
 F_Q10 : Fun K "_law_alike" "_law_alike" jR t.a_Q10 t.d_Q10
 b_Q10 : aZ K t.d_Q10 ["_law_due", "_law_found"] []
 m_Q10 : mg "_law_alike" = some (.ref t.a_Q10)
 F_Q24 : Fun K "_law_frac" "_law_frac" jF t.a_Q24 t.d_Q24
 b_Q24 : aZ K t.d_Q24 ["_law_top", "_law_bottom"] []
 m_Q24 : mg "_law_frac" = some (.ref t.a_Q24)
 F_Q29 : Fun K "_law_add" "_law_add" jA t.a_Q29 t.d_Q29
 b_Q29 : aZ K t.d_Q29 ["_law_one", "_law_other"] []
 m_Q29 : mg "_law_add" = some (.ref t.a_Q29)
 F_Q30 : Fun K "_law_mul" "_law_mul" jz t.a_Q30 t.d_Q30
 b_Q30 : aZ K t.d_Q30 ["_law_one", "_law_other"] []
 m_Q30 : mg "_law_mul" = some (.ref t.a_Q30)
 F_Q25 : Fun K "_law_less" "_law_less" jE t.a_Q25 t.d_Q25
 b_Q25 : aZ K t.d_Q25 ["_law_one", "_law_other"] []
 m_Q25 : mg "_law_less" = some (.ref t.a_Q25)
 F_Q31 : Fun K "_law_sum" "_law_sum" jy t.a_Q31 t.d_Q31
 b_Q31 : aZ K t.d_Q31 ["_law_some"] []
 m_Q31 : mg "_law_sum" = some (.ref t.a_Q31)
 F_Q11 : Fun K "_law_works" "_law_works" jQ t.a_Q11 t.d_Q11
 b_Q11 : aZ K t.d_Q11 ["_law_tape_here", "_law_many"] []
 m_Q11 : mg "_law_works" = some (.ref t.a_Q11)
 F_Q12 : Fun K "_law_units" "_law_units" jP t.a_Q12 t.d_Q12
 b_Q12 : aZ K t.d_Q12 ["_law_works_here"] []
 m_Q12 : mg "_law_units" = some (.ref t.a_Q12)
 F_Q4 : Fun K "_law_tightest" "_law_tightest" pV t.a_Q4 t.d_Q4
 b_Q4 : aZ K t.d_Q4 ["_law_works_here", "_law_left"] []
 m_Q4 : mg "_law_tightest" = some (.ref t.a_Q4)
 F_Q6 : Fun K "_law_layers" "_law_layers" pT t.a_Q6 t.d_Q6
 b_Q6 : aZ K t.d_Q6 ["_law_works_here"] []
 m_Q6 : mg "_law_layers" = some (.ref t.a_Q6)
 F_Q26 : Fun K "_law_pace" "_law_pace" jD t.a_Q26 t.d_Q26
 b_Q26 : aZ K t.d_Q26 ["_law_works_here", "_law_layer"] []
 m_Q26 : mg "_law_pace" = some (.ref t.a_Q26)
 F_Q7 : Fun K "_law_speeds" "_law_speeds" pS t.a_Q7 t.d_Q7
 b_Q7 : aZ K t.d_Q7 ["_law_works_here"] []
 m_Q7 : mg "_law_speeds" = some (.ref t.a_Q7)
 F_Q13 : Fun K "_law_above" "_law_above" jO t.a_Q13 t.d_Q13
 b_Q13 : aZ K t.d_Q13 ["_law_leans_here", "_law_work"] []
 m_Q13 : mg "_law_above" = some (.ref t.a_Q13)
 F_Q14 : Fun K "_law_leans" "_law_leans" jN t.a_Q14 t.d_Q14
 b_Q14 : aZ K t.d_Q14 ["_law_tape_here", "_law_many"] []
 m_Q14 : mg "_law_leans" = some (.ref t.a_Q14)
 F_Q32 : Fun K "_law_key" "_law_key" jx t.a_Q32 t.d_Q32
 b_Q32 : aZ K t.d_Q32 ["_law_number"] []
 m_Q32 : mg "_law_key" = some (.ref t.a_Q32)
 F_Q27 : Fun K "_law_next" "_law_next" jC t.a_Q27 t.d_Q27
 b_Q27 : aZ K t.d_Q27 ["_law_works_here", "_law_leans_here", "_law_come"] []
 m_Q27 : mg "_law_next" = some (.ref t.a_Q27)
 F_Q15 : Fun K "_law_dealt" "_law_dealt" jM t.a_Q15 t.d_Q15
 b_Q15 : aZ K t.d_Q15 ["_law_works_here", "_law_leans_here", "_law_speeds_here"] []
 m_Q15 : mg "_law_dealt" = some (.ref t.a_Q15)
 F_Q16 : Fun K "_law_marks" "_law_marks" jL t.a_Q16 t.d_Q16
 b_Q16 : aZ K t.d_Q16 ["_law_e"] []
 m_Q16 : mg "_law_marks" = some (.ref t.a_Q16)
 F_Q1 : Fun K "_law_some_speeds" "_law_some_speeds" pY t.a_Q1 t.d_Q1
 b_Q1 : aZ K t.d_Q1 ["_law_tape_here", "_law_works_here"] []
 m_Q1 : mg "_law_some_speeds" = some (.ref t.a_Q1)
 F_Q17 : Fun K "_law_tried" "_law_tried" jK t.a_Q17 t.d_Q17
 b_Q17 : aZ K t.d_Q17 ["_law_works_here", "_law_leans_here", "_law_speeds_here"] []
 m_Q17 : mg "_law_tried" = some (.ref t.a_Q17)
 F_Q45 : Fun K "law" "law" gq t.a_Q45 t.d_Q45
 b_Q45 : aZ K t.d_Q45 ["_law_script"] []
 m_Q45 : mg "law" = some (.ref t.a_Q45)
 m_NOUGHT : mg "NOUGHT" = some (.ref t.c_NOUGHT)
 q_NOUGHT : ∀ H, bt K H t.c_NOUGHT [.int (0), .int (1)]
 m_TURNS : mg "TURNS" = some (.int (24) t.k_TURNS)
 X_Q39 : XC K t.c_Q39 t.a_Q39 (.ref t.c_base :: iz)
 F_Q39 : Fun K "__init__" "NoRoom.__init__" gr t.a_Q39 t.d_Q39
 b_Q39 : aZ K t.d_Q39 ["self", "work"] []
 m_Q39 : mg "NoRoom" = some (.ref t.c_Q39)
 n_Q39_work : eR K t.c_Q39 "work"
 g_Q39 : n4 K t.c_Q39
 m_Q18 : mg "PaceError" = some (.ref t.c_Q18)
 m_Q33 : mg "NoLeast" = some (.ref t.c_Q33)
 m_Q40 : mg "NoPlan" = some (.ref t.c_Q40)
 m_Q34 : mg "NoPrice" = some (.ref t.c_Q34)
 m_Q41 : mg "NoMuch" = some (.ref t.c_Q41)
 m_Q35 : mg "NoSheet" = some (.ref t.c_Q35)
 m_Q36 : mg "NoSpeed" = some (.ref t.c_Q36)
 m_Q19 : mg "NoStretch" = some (.ref t.c_Q19)
 x_catch : PySem.W.exmOne K (.ref t.c_Q39) (.ref t.c_Q18) = some true
 y_self : PySem.W.kitOne K (.ref t.c_Q39) (.ref t.c_Q39) = some true
 y_base : PySem.W.kitOne K (.ref t.c_Q39) (.ref t.c_Q18) = some true
 y_val : PySem.W.kitOne K (.ref t.c_Q39) (.type "ValueError") = some true
 y_not : PySem.W.kitAny K (.ref t.c_Q39) [.ref t.c_Q33, .ref t.c_Q41, .ref t.c_Q40, .ref t.c_Q34, .ref t.c_Q35, .ref t.c_Q36, .ref t.c_Q19] = some false
 z_ValueError : mg "ValueError" = none
 z_abs : mg "abs" = none
 z_all : mg "all" = none
 z_any : mg "any" = none
 z_bool : mg "bool" = none
 z_enumerate : mg "enumerate" = none
 z_int : mg "int" = none
 z_isinstance : mg "isinstance" = none
 z_len : mg "len" = none
 z_list : mg "list" = none
 z_max : mg "max" = none
 z_min : mg "min" = none
 z_range : mg "range" = none
 z_repr : mg "repr" = none
 z_sorted : mg "sorted" = none
 z_str : mg "str" = none
 z_sum : mg "sum" = none
 z_tuple : mg "tuple" = none
abbrev lX := rJ
abbrev ma := rL
def fV (_ : Fg) : Sp := fun vs H Q _ => ∃ a b : Int, vs = [.int a, .int b] /\ Q (.int (Int.gcd a b : Nat)) H
def l9 (_ : Fg) : Sp := fun vs H Q _ => ∃ a b : Int, vs = [.int a, .int b] /\ 0 < b /\ b.natAbs < 2 ^ 4000 /\ (∀ p, H p = none -> Q (.ref p) (upd H p (.tup [.int (cy a b).1, .int (cy a b).2])))
def yc (H : Hp) (Q : VK) (r : R) : Prop := ∀ p, H p = none -> Q (.ref p) (upd H p (.tup [.int r.1, .int r.2]))
def BU (K : Fg) (H : Hp) (Q : VK) (r : R) : Prop := ∀ (v : V) (H' : Hp), aA H H' -> RV K H' v r -> Q v H'
def ot (K : Fg) : Sp := fun vs H Q _ => ∃ (v w : V) (r q : R) (n m : Nat), vs = [v, w] /\ RV K H v r /\ RV K H w q /\ Wf n r /\ Wf m q /\ n + m + 1 ≤ 3000 /\ yc H Q (bu r q)
def rH (K : Fg) : Sp := fun vs H Q _ => ∃ (v w : V) (r q : R) (n m : Nat), vs = [v, w] /\ RV K H v r /\ RV K H w q /\ Wf n r /\ Wf m q /\ n + m + 1 ≤ 3000 /\ yc H Q (iA r q)
def DV (K : Fg) (H : Hp) (a : Addr) (xs : List V) : Prop := aO K H a xs ∨ bt K H a xs
theorem lA {a g : Int} (hg : 0 < g) (h : a.natAbs < 2 ^ 4000) : (a / g).natAbs < 2 ^ 4000 := Nat.lt_of_le_of_lt (eO a hg) h
theorem nS {a b : Int} (hb : 0 < b) (h : b.natAbs < 2 ^ 4000) : ((Int.gcd a b : Nat) : Int).natAbs < 2 ^ 4000 := by
 have z : Int.gcd a b ≤ b.natAbs := Nat.le_of_dvd (by omega) (by have := Int.gcd_dvd_right a b; exact Int.natAbs_dvd_natAbs.mpr this)
 have e : ((Int.gcd a b : Nat) : Int).natAbs = Int.gcd a b := Int.natAbs_natCast _
 omega
theorem bE {i : Int} {n : Nat} (h : i.natAbs < 2 ^ n) (hn : n ≤ 4000) : i.natAbs < 2 ^ 4000 := Nat.lt_of_lt_of_le h (Nat.pow_le_pow_right (by decide) hn)
abbrev np := ot
abbrev nj := rH
def nh (K : Fg) : Sp := fun vs H Q _ => ∃ (a : Addr) (xs : List V) (rs : List R), vs = [.ref a] /\ aO K H a xs /\ cO (RV K H) xs rs /\ (∀ r ∈ rs, Wf 4 r) /\ rs.length ≤ 64 /\ ∀ (v' : V) (H' : Hp), aA H H' -> RV K H' v' (f7 rs) -> Q v' H'
theorem xy {m : Nat} (h : 0 < m) (h' : m ≤ 24) : Wf 5 ((1, (m : Int)) : R) := ⟨by show (0 : Int) < m; omega, by show (1 : Int).natAbs < 2 ^ 5; decide, by show ((m : Int)).natAbs < 32; omega, by simp⟩
theorem cO.setI {α : Type} {P : V -> α -> Prop} {v : V} {d : α} (k : P v d) : ∀ {xs : List V} {ds : List α} (i : Nat), cO P xs ds -> cO P (xs.set i v) (ds.set i d)
 | _, _, _, .nil => .nil
 | _, _, 0, .cons _ t => .cons k t
 | _, _, i + 1, .cons h t => .cons h (cO.setI k i t)
theorem cO.rep {α : Type} {P : V -> α -> Prop} {v : V} {d : α} (k : P v d) : ∀ n : Nat, cO P (List.replicate n v) (List.replicate n d)
 | 0 => .nil
 | n + 1 => .cons k (cO.rep k n)
theorem fQ {n t : Nat} (h : t < n) : tF n (t : Int) = some t := by
 unfold tF
 simp
 omega
abbrev Wk := Nat × Nat × R
def vy (K : Fg) (H : Hp) (v : V) (w : Wk) : Prop := ∃ p x, v = .ref p /\ bt K H p [.int w.1, .int w.2.1, x] /\ RV K H x w.2.2
theorem vy.mono {K : Fg} {H H' : Hp} {v : V} {w : Wk} (h : vy K H v w) (t : aN K H H') : vy K H' v w := let ⟨p, x, e, s, r⟩ := h; ⟨p, x, e, t _ _ s, r.mono t⟩
structure vF (r : R) : Prop where
 top : 1 ≤ r.1
 top' : r.1 ≤ 12
 bot : 1 ≤ r.2
 bot' : r.2 ≤ 7
 dvd : r.2 ∣ 84
 wf : Wf 4 r
structure dZ (w : Wk) : Prop where
 le : w.1 ≤ w.2.1
 lt : w.2.1 < 24
 am : vF w.2.2
def eP (K : Fg) (H : Hp) (v : V) (ws : List Wk) : Prop := ∃ p xs, v = .ref p /\ bt K H p xs /\ cO (vy K H) xs ws
theorem eP.mono {K : Fg} {H H' : Hp} {v : V} {ws : List Wk} (h : eP K H v ws) (t : aN K H H') : eP K H' v ws := let ⟨p, xs, e, s, a⟩ := h; ⟨p, xs, e, t _ _ s, a.mono fun _ _ q => q.mono t⟩
def aF (ls : List Nat) : List V := ls.map fun n : Nat => V.int n
theorem gM {a b : Int} (h1 : 1 ≤ a) (h2 : a ≤ 12) (h3 : 1 ≤ b) (h4 : b ≤ 7) (h5 : b ∣ 84) : vF (cy a b) := by
 have g0 : 0 < (Int.gcd a b : Int) := cN (by omega)
 have da : (Int.gcd a b : Int) ∣ a := Int.gcd_dvd_left a b
 have db : (Int.gcd a b : Int) ∣ b := Int.gcd_dvd_right a b
 have p1 : 0 < a / (Int.gcd a b : Int) := Int.ediv_pos_of_pos_of_dvd (by omega) (Int.le_of_lt g0) da
 have p2 : 0 < b / (Int.gcd a b : Int) := Int.ediv_pos_of_pos_of_dvd (by omega) (Int.le_of_lt g0) db
 have q1 : a / (Int.gcd a b : Int) ≤ a := Int.ediv_le_self _ (by omega)
 have q2 : b / (Int.gcd a b : Int) ≤ b := Int.ediv_le_self _ (by omega)
 refine ⟨p1, by show a / (Int.gcd a b : Int) ≤ 12; omega, p2, by show b / (Int.gcd a b : Int) ≤ 7; omega, Int.dvd_trans ?_ h5, sZ (by omega) (by show a.natAbs < 16; omega) (by show b.natAbs < 16; omega)⟩
 exact ⟨(Int.gcd a b : Int), (Int.ediv_mul_cancel db).symm⟩
def ky (K : Fg) : Sp := fun vs H Q _ => ∃ (t s : Addr) (m : Nat), vs = [.ref t, .int m] /\ bR K H t s /\ m ≤ 64 /\ ∀ (v : V) (ws : List Wk) (H' : Hp), aT t H H' -> bR K H' t s -> eP K H' v ws -> ws.length = m -> (∀ w ∈ ws, dZ w) -> Q v H'
def bV (ws : List Wk) : List Int := ws.map fun w => w.2.2.1 * 84 / w.2.2.2
def sT (B : Int) (ws : List Wk) : List Int := ws.map fun w => w.2.2.1 * (B / w.2.2.2)
def kB (K : Fg) : Sp := fun vs H Q _ => ∃ (v : V) (ws : List Wk), vs = [v] /\ eP K H v ws /\ ws.length ≤ 64 /\ (∀ w ∈ ws, dZ w) /\ ∀ (l : Addr) (H' : Hp), aA H H' -> H l = none -> H' l = some (.lst ((bV ws).map V.int)) -> Q (.ref l) H'
def rG (K : Fg) : Sp := fun vs H Q _ => ∃ (a : Addr) (xs : List V) (ws : List Wk), vs = [.ref a] /\ aO K H a xs /\ cO (RV K H) xs (ws.map fun w => w.2.2) /\ ws.length ≤ 64 /\ (∀ w ∈ ws, dZ w) /\ ∀ (l : Addr) (B : Int) (H' : Hp), aA H H' -> H l = none -> 0 < B -> B ∣ 84 -> (∀ w ∈ ws, w.2.2.2 ∣ B) -> H' l = some (.lst ((sT B ws).map V.int)) -> Q (.ref l) H'
def ii (w : Wk) (t : Nat) : Bool := decide (w.1 ≤ t) && decide (t ≤ w.2.1)
def kK (K : Fg) : Sp := fun vs H Q _ => ∃ (v : V) (w : Wk) (t : Nat), vs = [v, .int t] /\ vy K H v w /\ Q (.bl (ii w t)) H
def fW (ls : List Nat) (w : Wk) : List Nat := (List.range ls.length).filter fun i => ii w (ls.getD i 0)
def bU (ls : List Nat) (w : Wk) : Wn := match fW ls w with
 | [] => none
 | x :: r => some (x, (x :: r).getLast (by simp))
def yJ (K : Fg) (H : Hp) (v : V) : Wn -> Prop
 | none => v = .non
 | some q => ∃ p, v = .ref p /\ bt K H p [.int q.1, .int q.2]
def qS (K : Fg) : Sp := fun vs H Q _ => ∃ (v : V) (q : Addr) (ws : List Wk) (ls : List Nat), vs = [v, .ref q] /\ eP K H v ws /\ ws.length ≤ 64 /\ bt K H q (aF ls) /\ ls.length ≤ 24 /\ ∀ (l : Addr) (xs : List V) (H' : Hp), aA H H' -> H l = none -> H' l = some (.lst xs) -> cO (yJ K H') xs (ws.map (bU ls)) -> Q (.ref l) H'
def AI (K : Fg) : Sp := fun vs H Q _ => ∃ (l : Addr) (xs : List V) (os : List Wn) (p : Pl), vs = [.ref l, .int p.1, .int p.2] /\ aO K H l xs /\ cO (yJ K H) xs os /\ os.length ≤ 64 /\ ∀ (D : Addr) (H' : Hp), aA H H' -> H D = none -> H' D = some (.lst (aF (cn os p))) -> Q (.ref D) H'
def jh (as : List Int) (i : Nat) : Int := as.getD i 0
theorem vc {os : List Wn} {as : List Int} (hb : ∀ x ∈ as, 0 ≤ x /\ x ≤ 1008) (hn : os.length ≤ 64) (q : Pl) : 0 ≤ fD os (jh as) q /\ fD os (jh as) q ≤ 64512 := by
 have h0 : ∀ i, 0 ≤ jh as i /\ jh as i ≤ 1008 := fun i => by
  unfold jh
  rw [List.getD_eq_getElem?_getD]
  cases e : as[i]? with
  | none => exact ⟨by decide, by decide⟩
  | some x => exact hb x (List.mem_of_getElem? e)
 have key : ∀ l : List Nat, 0 ≤ (l.map (jh as)).sum /\ (l.map (jh as)).sum ≤ 1008 * (l.length : Int) := by
  intro l
  induction l with
  | nil => exact ⟨by simp, by simp⟩
  | cons x l ih =>
   rw [List.map_cons, List.sum_cons, List.length_cons]
   have := h0 x
   omega
 have k := key (cn os q)
 have l : (cn os q).length ≤ os.length := by
  unfold cn
  exact Nat.le_trans (List.length_filter_le _ _) (by rw [List.length_range]; exact Nat.le_refl _)
 unfold fD
 omega
def BT (K : Fg) (H : Hp) (S : Pl -> Prop) (L : Pl -> Int) (vb : Addr) (ld ln : Int) : Prop := (ld = -1 /\ ln = 1 /\ ∀ r, ¬ S r) ∨ ∃ q : Pl, bt K H vb [.int q.1, .int q.2] /\ ld = L q /\ ln = cU q /\ lO S L q
def ng (K : Fg) : Sp := fun vs H Q _ => ∃ (l a : Addr) (xs : List V) (os : List Wn) (as : List Int) (n : Nat), vs = [.ref l, .ref a, .int n] /\ aO K H l xs /\ cO (yJ K H) xs os /\ os.length ≤ 64 /\ aO K H a (as.map V.int) /\ as.length = os.length /\ (∀ x ∈ as, 0 ≤ x /\ x ≤ 1008) /\ 1 ≤ n /\ n ≤ 24 /\ ∀ (p : Addr) (q : Pl) (H' : Hp), aA H H' -> bt K H' p [.int q.1, .int q.2] -> lO (ij n) (fD os (jh as)) q -> Q (.ref p) H'
def u8 (ls : List Nat) : PyData := .tuple (ls.map fun n : Nat => PyData.int n)
def BB (ls : List Nat) (os : List Wn) (q : Pl) : PyData := .tuple [u8 ((ls.drop q.1).take (q.2 + 1 - q.1)), u8 (cn os q)]
theorem lT {ws : List Wk} (ok : ∀ w ∈ ws, dZ w) : ∀ x ∈ bV ws, 0 ≤ x /\ x ≤ 1008 := by
 intro x hx
 obtain ⟨w, hw, rfl⟩ := List.mem_map.mp hx
 have o := (ok w hw).am
 have t1 := o.top
 have t2 := o.top'
 refine ⟨Int.ediv_nonneg (by omega) (by have := o.bot; omega), ?_⟩
 have := Int.ediv_le_self (a := w.2.2.1 * 84) w.2.2.2 (by omega)
 omega
theorem vo {ls : List Nat} {a b : Nat} (h1 : a ≤ b) (h2 : b ≤ ls.length) : gJ (aF ls) (some (a : Int)) (some (b : Int)) = aF ((ls.drop a).take (b - a)) := by
 unfold gJ aF
 rw [HT.sIx_nat, HT.sIx_nat, List.length_map, show min b ls.length = b from Nat.min_eq_left h2, show min a ls.length = a from Nat.min_eq_left (by omega), List.map_take, List.map_drop]
def ki (K : Fg) (H : Hp) (v : V) (y : List Nat × List Nat) : Prop := ∃ p a b, v = .ref p /\ bt K H p [.ref a, .ref b] /\ bt K H a (aF y.1) /\ bt K H b (aF y.2)
theorem ki.mono {K : Fg} {H H' : Hp} {v : V} {y : List Nat × List Nat} (h : ki K H v y) (t : aN K H H') : ki K H' v y := let ⟨p, a, b, e, h1, h2, h3⟩ := h; ⟨p, a, b, e, t _ _ h1, t _ _ h2, t _ _ h3⟩
def eY (ls : List Nat) (q : Pl) : List Nat := (ls.drop q.1).take (q.2 + 1 - q.1)
def cG (ls : List Nat) (q : Pl) : List Nat := ls.filter fun t => !(eY ls q).contains t
def ie (ws : List Wk) (ls : List Nat) : Nat := ws.countP fun w => (bU ls w).isSome
theorem iu {ls : List Nat} {w : Wk} {i : Nat} : i ∈ fW ls w ↔ i < ls.length /\ ii w (ls.getD i 0) = true := by
 unfold fW
 rw [List.mem_filter, List.mem_range]
theorem og {ls : List Nat} {w : Wk} (h : fW ls w = []) : bU ls w = none := by unfold bU; rw [h]
theorem lP {ls : List Nat} {w : Wk} {x : Nat} {r : List Nat} (h : fW ls w = x :: r) : bU ls w = some (x, (x :: r).getLast (by simp)) := by unfold bU; rw [h]
theorem iy {ls : List Nat} {w : Wk} : (bU ls w).isSome = true ↔ ∃ t ∈ ls, ii w t = true := by
 cases c : fW ls w with
 | nil =>
  rw [og c]
  refine ⟨fun h => (by cases h), fun ⟨t, ht, e⟩ => ?_⟩
  obtain ⟨i, hi, rfl⟩ := List.mem_iff_getElem.mp ht
  have m : i ∈ fW ls w := iu.mpr ⟨hi, by rw [aR 0 (List.getElem?_eq_getElem hi)]; exact e⟩
  rw [c] at m
  cases m
 | cons x r =>
  rw [lP c]
  refine ⟨fun _ => ?_, fun _ => rfl⟩
  have m : x ∈ fW ls w := by rw [c]; exact List.mem_cons_self
  obtain ⟨hi, e⟩ := iu.mp m
  rw [aR 0 (List.getElem?_eq_getElem hi)] at e
  exact ⟨_, List.getElem_mem hi, e⟩
theorem nF (ls : List Nat) (w : Wk) : (fW ls w).Pairwise (· < ·) := List.Pairwise.filter _ List.pairwise_lt_range
theorem oh {ls : List Nat} {w : Wk} {a b : Nat} (h : bU ls w = some (a, b)) : a ∈ fW ls w /\ b ∈ fW ls w /\ ∀ i ∈ fW ls w, a ≤ i /\ i ≤ b := by
 cases c : fW ls w with
 | nil => rw [og c] at h; cases h
 | cons x r =>
  rw [lP c] at h
  have srt := nF ls w
  rw [c] at srt
  injection h with h
  injection h with h1 h2
  subst h1 h2
  refine ⟨List.mem_cons_self, List.getLast_mem _, fun i hi => ⟨?_, ?_⟩⟩
  ·rcases List.mem_cons.mp hi with z | z
   ·omega
   ·have := (List.pairwise_cons.mp srt).1 i z
    omega
  ·have e := List.dropLast_concat_getLast (show (x :: r) ≠ [] by simp)
   rw [← e] at srt hi
   rcases List.mem_append.mp hi with z | z
   ·have := (List.pairwise_append.mp srt).2.2 i z _ (List.mem_singleton.mpr rfl)
    omega
   ·have := List.mem_singleton.mp z
    omega
theorem yd {ls : List Nat} (nd : ls.Nodup) {i j : Nat} {hi : i < ls.length} {hj : j < ls.length} (e : ls[i] = ls[j]) : i = j := by
 have h := List.pairwise_iff_getElem.mp nd
 rcases Nat.lt_trichotomy i j with z | z | z
 ·exact absurd e (h i j hi hj z)
 ·exact z
 ·exact absurd e.symm (h j i hj hi z)
theorem oK {ls : List Nat} {p : Pl} (nd : ls.Nodup) (hp : ij ls.length p) {i : Nat} (hi : i < ls.length) : ls[i] ∈ eY ls p ↔ p.1 ≤ i /\ i ≤ p.2 := by
 have h1 := hp.1
 have h2 := hp.2
 unfold eY
 constructor
 ·intro h
  obtain ⟨j, hj, e⟩ := List.mem_iff_getElem.mp h
  rw [List.length_take, List.length_drop] at hj
  rw [List.getElem_take, List.getElem_drop] at e
  have := yd nd e
  omega
 ·rintro ⟨a, b⟩
  refine List.mem_iff_getElem.mpr ⟨i - p.1, by rw [List.length_take, List.length_drop]; omega, ?_⟩
  rw [List.getElem_take, List.getElem_drop]
  congr 1
  omega
theorem p5 {ls : List Nat} {p : Pl} {w : Wk} (nd : ls.Nodup) (hp : ij ls.length p) : (bU (cG ls p) w).isSome = ((bU ls w).isSome && !eV p.1 p.2 (bU ls w)) := by
 have key : (bU (cG ls p) w).isSome = true ↔ ∃ i, ∃ hi : i < ls.length, ii w ls[i] = true /\ ¬ (p.1 ≤ i /\ i ≤ p.2) := by
  rw [iy]
  constructor
  ·rintro ⟨t, ht, e⟩
   unfold cG at ht
   obtain ⟨m, c⟩ := List.mem_filter.mp ht
   obtain ⟨i, hi, rfl⟩ := List.mem_iff_getElem.mp m
   refine ⟨i, hi, e, fun z => ?_⟩
   rw [List.contains_iff_mem.mpr ((oK nd hp hi).mpr z)] at c
   cases c
  ·rintro ⟨i, hi, e, n⟩
   refine ⟨ls[i], List.mem_filter.mpr ⟨List.getElem_mem hi, ?_⟩, e⟩
   cases c : (eY ls p).contains ls[i] with
   | false => rfl
   | true => exact absurd ((oK nd hp hi).mp (List.contains_iff_mem.mp c)) n
 have pm : ∀ i, i ∈ fW ls w ↔ ∃ hi : i < ls.length, ii w ls[i] = true := fun i => by
  rw [iu]
  constructor
  ·rintro ⟨hi, e⟩
   rw [aR 0 (List.getElem?_eq_getElem hi)] at e
   exact ⟨hi, e⟩
  ·rintro ⟨hi, e⟩
   exact ⟨hi, by rw [aR 0 (List.getElem?_eq_getElem hi)]; exact e⟩
 cases c : bU ls w with
 | none =>
  have n : ¬ (bU (cG ls p) w).isSome = true := fun h => by
   obtain ⟨i, hi, e, _⟩ := key.mp h
   have := iy.mpr ⟨ls[i], List.getElem_mem hi, e⟩
   rw [c] at this
   cases this
  simpa using n
 | some q =>
  obtain ⟨a, b⟩ := q
  obtain ⟨m1, m2, bd⟩ := oh c
  show (bU (cG ls p) w).isSome = (true && !(decide (p.1 ≤ a) && decide (b ≤ p.2)))
  by_cases h : p.1 ≤ a /\ b ≤ p.2
  ·rw [decide_eq_true h.1, decide_eq_true h.2]
   have n : ¬ (bU (cG ls p) w).isSome = true := fun h' => by
    obtain ⟨i, hi, e, n⟩ := key.mp h'
    have := bd i ((pm i).mpr ⟨hi, e⟩)
    exact n (by omega)
   simpa using n
  ·have y : (bU (cG ls p) w).isSome = true := key.mpr (by
    by_cases z : p.1 ≤ a
    ·obtain ⟨hi, e⟩ := (pm b).mp m2
     exact ⟨b, hi, e, by omega⟩
    ·obtain ⟨hi, e⟩ := (pm a).mp m1
     exact ⟨a, hi, e, by omega⟩)
   rw [y]
   by_cases z : p.1 ≤ a
   ·rw [decide_eq_false (show ¬ b ≤ p.2 from fun q => h ⟨z, q⟩), Bool.and_false]; rfl
   ·rw [decide_eq_false z]; rfl
theorem mJ (os : List Wn) (p : Pl) : (cn os p).length = os.countP (eV p.1 p.2) := by
 have := congrArg List.length (de (none : Wn) (eV p.1 p.2) id os)
 rw [List.length_map, List.length_map] at this
 rw [List.countP_eq_length_filter]
 exact this
theorem oH {ws : List Wk} {ls : List Nat} {p : Pl} (nd : ls.Nodup) (hp : ij ls.length p) : ie ws (cG ls p) + (cn (ws.map (bU ls)) p).length = ie ws ls := by
 rw [mJ, List.countP_map]
 unfold ie
 induction ws with
 | nil => rfl
 | cons w ws ih =>
  rw [List.countP_cons, List.countP_cons, List.countP_cons, p5 nd hp, show (eV p.1 p.2 ∘ bU ls) w = eV p.1 p.2 (bU ls w) from rfl]
  cases c : bU ls w with
  | none =>
   have : eV p.1 p.2 none = false := rfl
   rw [this]
   simp only [Option.isSome_none, Bool.false_and, Bool.false_eq_true, if_false, Nat.add_zero]
   exact ih
  | some q =>
   cases eV p.1 p.2 (some q) with
   | true =>
    simp only [Option.isSome_some, Bool.not_true, Bool.and_false, Bool.false_eq_true, if_false, if_true, Nat.add_zero]
    omega
   | false =>
    simp only [Option.isSome_some, Bool.not_false, Bool.and_true, Bool.false_eq_true, if_false, if_true, Nat.add_zero]
    omega
theorem oz {ls : List Nat} (nd : ls.Nodup) (p : Pl) : (cG ls p).Nodup := List.Pairwise.filter _ nd
theorem tj {A : Nat -> Int} (h : ∀ i, 0 ≤ A i) : ∀ {l : List Nat} {i : Nat}, i ∈ l -> A i ≤ (l.map A).sum
 | x :: l, i, hi => by
  rw [List.map_cons, List.sum_cons]
  rcases List.mem_cons.mp hi with z | z
  ·subst z
   have := iB h l
   omega
  ·have := tj h z
   have := h x
   omega
theorem qZ {ws : List Wk} (ok : ∀ w ∈ ws, dZ w) (i : Nat) : 0 ≤ jh (bV ws) i := by
 unfold jh
 rw [List.getD_eq_getElem?_getD]
 cases e : (bV ws)[i]? with
 | none => decide
 | some x => exact (lT ok x (List.mem_of_getElem? e)).1
theorem va {ws : List Wk} {ls : List Nat} (ok : ∀ w ∈ ws, dZ w) (h : ∀ r, ij ls.length r -> fD (ws.map (bU ls)) (jh (bV ws)) r = 0) : ie ws ls = 0 := by
 refine List.countP_eq_zero.mpr fun w hw n => ?_
 obtain ⟨q, hq⟩ := Option.isSome_iff_exists.mp n
 obtain ⟨a, b⟩ := q
 obtain ⟨m1, m2, bd⟩ := oh hq
 have sec : ij ls.length (a, b) := ⟨(bd b m2).1, (iu.mp m2).1⟩
 obtain ⟨i, hi, rfl⟩ := List.mem_iff_getElem.mp hw
 have mi : i ∈ cn (ws.map (bU ls)) (a, b) := by
  unfold cn
  refine List.mem_filter.mpr ⟨List.mem_range.mpr (by rw [List.length_map]; exact hi), ?_⟩
  rw [aR none (show (ws.map (bU ls))[i]? = some (some (a, b)) by rw [List.getElem?_map, List.getElem?_eq_getElem hi]; exact congrArg some hq)]
  show (decide (a ≤ a) && decide (b ≤ b)) = true
  simp
 have l := tj (qZ ok) mi
 have z := h _ sec
 unfold fD at z
 rw [z] at l
 have o := (ok _ hw).am
 have eu : jh (bV ws) i = ws[i].2.2.1 * 84 / ws[i].2.2.2 := aR 0 (by unfold bV; rw [List.getElem?_map, List.getElem?_eq_getElem hi]; rfl)
 rw [eu] at l
 have t1 := o.top
 have b1 := o.bot
 have b2 := o.bot'
 have : 1 ≤ ws[i].2.2.1 * 84 / ws[i].2.2.2 := (Int.le_ediv_iff_mul_le (by omega)).mpr (by omega)
 omega
def qW (ws : List Wk) (ls : List Nat) (p : Pl) : Prop := lO (ij ls.length) (fD (ws.map (bU ls)) (jh (bV ws))) p /\ 0 < fD (ws.map (bU ls)) (jh (bV ws)) p
theorem qW.held {ws : List Wk} {ls : List Nat} {p : Pl} (h : qW ws ls p) : 0 < (cn (ws.map (bU ls)) p).length := by
 have := h.2
 unfold fD at this
 cases c : cn (ws.map (bU ls)) p with
 | nil => rw [c] at this; exact absurd this (by simp)
 | cons x r => exact Nat.succ_pos _
abbrev Ly := List Nat × List Nat
def iw (ws : List Wk) (ls : List Nat) (p : Pl) : Ly := (eY ls p, cn (ws.map (bU ls)) p)
inductive mY (ws : List Wk) : List Nat -> List Ly -> Prop where
 | nil {ls : List Nat} (h : ie ws ls = 0) : mY ws ls []
 | cons {ls : List Nat} {p : Pl} {r : List Ly} (h : qW ws ls p) (t : mY ws (cG ls p) r) : mY ws ls (iw ws ls p :: r)
structure gO (n : Nat) (y : Ly) : Prop where
 pos : 0 < y.1.length
 few : y.1.length ≤ 24
 lt : ∀ t ∈ y.1, t < 24
 num : ∀ i ∈ y.2, i < n
 len : y.2.length ≤ n
theorem tf {ws : List Wk} {ls : List Nat} {p : Pl} (hp : ij ls.length p) (hl : ls.length ≤ 24) (hb : ∀ t ∈ ls, t < 24) : gO ws.length (iw ws ls p) := by
 have h1 := hp.1
 have h2 := hp.2
 have e : (eY ls p).length = min (p.2 + 1 - p.1) (ls.length - p.1) := by unfold eY; rw [List.length_take, List.length_drop]
 refine ⟨by show 0 < (eY ls p).length; omega, by show (eY ls p).length ≤ 24; omega, fun t ht => hb t (List.mem_of_mem_drop (List.mem_of_mem_take ht)), fun i hi => ?_, ?_⟩
 ·have : i ∈ cn (ws.map (bU ls)) p := hi
  unfold cn at this
  have := List.mem_range.mp (List.mem_filter.mp this).1
  rw [List.length_map] at this
  exact this
 ·show (cn (ws.map (bU ls)) p).length ≤ ws.length
  rw [mJ]
  exact Nat.le_trans List.countP_le_length (by rw [List.length_map]; exact Nat.le_refl _)
def vQ (K : Fg) : Sp := fun vs H Q _ => ∃ (v : V) (q : Addr) (ws : List Wk) (ls : List Nat), vs = [v, .ref q] /\ eP K H v ws /\ ws.length ≤ 64 /\ (∀ w ∈ ws, dZ w) /\ bt K H q (aF ls) /\ 1 ≤ ls.length /\ ls.length ≤ 24 /\ ∀ (x : V) (B : Int) (p : Pl) (H' : Hp), aA H H' -> 0 < B -> B ∣ 84 -> (∀ w ∈ ws, w.2.2.2 ∣ B) -> lO (ij ls.length) (fD (ws.map (bU ls)) (jh (sT B ws))) p -> ki K H' x (iw ws ls p) -> Q x H'
theorem vv {n i e : Nat} {S S' : Pl -> Prop} {L : Pl -> Int} (st : ∀ r, S' r ↔ S r ∨ r = (i, e)) (sec : ∀ r, S' r -> ij n r) (z : ∀ r, S r -> L r = 0) (c : 0 < L (i, e)) : lO S' L (i, e) := by
 refine ⟨(st _).mpr (.inr rfl), fun r hr => ?_⟩
 rcases (st r).mp hr with h | h
 ·rw [z r h, Int.zero_mul]
  exact .inl (Int.mul_pos c (sec r hr).pos)
 ·rw [h]; exact .inr ⟨rfl, .inr ⟨rfl, Nat.le_refl _⟩⟩
theorem tW {L : Int} {ln mn len : Int} (h0 : 0 ≤ L) (hm : 0 < mn) (hl : 0 < len) (c : mn * len ≤ L * ln) : 0 < L := by
 have := Int.mul_pos hm hl
 by_cases e : L = 0
 ·rw [e, Int.zero_mul] at c; omega
 ·omega
def A2 (K : Fg) (H : Hp) (v : V) (s : Nat × Nat × Nat) : Prop := ∃ p, v = .ref p /\ bt K H p [.int s.1, .int s.2.1, .int s.2.2]
theorem A2.mono {K : Fg} {H H' : Hp} {v : V} {s : Nat × Nat × Nat} (h : A2 K H v s) (t : aN K H H') : A2 K H' v s := let ⟨p, e, q⟩ := h; ⟨p, e, t _ _ q⟩
def qT (os : List Wn) (i : Nat) : List (Nat × Nat × Nat) := (List.range i).filterMap fun j => (os.getD j none).map fun q => (q.1, q.2, j)
theorem ou (os : List Wn) (i : Nat) : (qT os i).length ≤ i := by
 have := List.length_filterMap_le (fun j => (os.getD j none).map fun q => (q.1, q.2, j)) (List.range i)
 rw [List.length_range] at this
 exact this
theorem rO {os : List Wn} {i : Nat} (h : os.getD i none = none) : qT os (i + 1) = qT os i := by
 unfold qT
 rw [List.range_succ, List.filterMap_append, List.filterMap_cons, h]
 simp
theorem rN {os : List Wn} {i : Nat} {q : Nat × Nat} (h : os.getD i none = some q) : qT os (i + 1) = qT os i ++ [(q.1, q.2, i)] := by
 unfold qT
 rw [List.range_succ, List.filterMap_append, List.filterMap_cons, h]
 simp
def mI (p : Pl) (s : Nat × Nat × Nat) : Bool := decide (p.1 ≤ s.1) && decide (s.2.1 ≤ p.2)
theorem nu (os : List Wn) (p : Pl) : ((qT os os.length).filter (mI p)).map (fun s => s.2.2) = cn os p := by
 unfold qT cn
 generalize List.range os.length = l
 induction l with
 | nil => rfl
 | cons j l ih =>
  rw [List.filterMap_cons, List.filter_cons]
  cases e : os.getD j none with
  | none =>
   simp only [Option.map_none, eV, Bool.false_eq_true, if_false]
   exact ih
  | some q =>
   simp only [Option.map_some, List.filter_cons]
   show (if mI p (q.1, q.2, j) = true then _ else _ : List (Nat × Nat × Nat)).map _ = if eV p.1 p.2 (some q) = true then _ else _
   have hb : mI p (q.1, q.2, j) = eV p.1 p.2 (some q) := rfl
   rw [hb]
   cases eV p.1 p.2 (some q) with
   | true => simp only [if_true, List.map_cons]; rw [ih]
   | false => simp only [Bool.false_eq_true, if_false]; exact ih
def kl (K : Fg) (H : Hp) (os : List Wn) (S : Pl -> Prop) (L : Pl -> Int) (pb : Addr) : Prop := ∃ (mn ln bg : Int) (lb : Addr), bt K H pb [.int mn, .int ln, .int bg, .ref lb] /\ ((mn = 0 /\ ln = 1 /\ bg = 0 /\ ∀ r, S r -> L r = 0) ∨ ∃ q : Pl, 0 < L q /\ mn = L q /\ ln = cU q /\ bg = (q.1 : Int) /\ aO K H lb (aF (cn os q)) /\ lO S L q)
theorem kl.mono {K : Fg} {H H' : Hp} {os : List Wn} {S S' : Pl -> Prop} {L : Pl -> Int} {pb : Addr} (h : kl K H os S L pb) (s : aA H H') (e : ∀ r, S' r ↔ S r) : kl K H' os S' L pb := by
 obtain ⟨mn, ln, bg, lb, hp, h⟩ := h
 refine ⟨mn, ln, bg, lb, aN.same s _ _ hp, ?_⟩
 rcases h with ⟨a, b, c, d⟩ | ⟨q, a, b, c, d, f, g⟩
 ·exact .inl ⟨a, b, c, fun r hr => d r ((e r).mp hr)⟩
 ·exact .inr ⟨q, a, b, c, d, s.seq f, g.congr e⟩
def ib (K : Fg) : Sp := fun vs H Q _ => ∃ (v : V) (q : Addr) (ws : List Wk) (ls : List Nat), vs = [v, .ref q] /\ eP K H v ws /\ ws.length ≤ 64 /\ (∀ w ∈ ws, dZ w) /\ aO K H q (aF ls) /\ ls.length ≤ 24 /\ (∀ H', aA H H' -> ie ws ls = 0 -> Q .non H') /\ ∀ (x : V) (p : Pl) (H' : Hp), x ≠ .non -> aA H H' -> qW ws ls p -> ki K H' x (iw ws ls p) -> Q x H'
mutual
def pO : PyData -> Bool
 | .int _ => true
 | .str _ => true
 | .bool _ => true
 | .none => true
 | .tuple ds => decide (ds.length ≤ 1000) && fh ds
 | _ => false
def fh : List PyData -> Bool
 | [] => true
 | d :: ds => pO d && fh ds
end
theorem fu : ∀ {ds : List PyData} {i : Nat} {d : PyData}, fh ds = true -> ds[i]? = some d -> pO d = true
 | e :: ds, 0, d, h, q => by
  rw [List.getElem?_cons_zero] at q
  cases q
  have h' : (pO e && fh ds) = true := h
  rw [Bool.and_eq_true] at h'
  exact h'.1
 | e :: ds, i + 1, d, h, q => by
  rw [List.getElem?_cons_succ] at q
  have h' : (pO e && fh ds) = true := h
  rw [Bool.and_eq_true] at h'
  exact fu h'.2 q
theorem mj : ∀ {ds : List PyData}, (∀ d ∈ ds, pO d = true) -> fh ds = true
 | [], _ => rfl
 | d :: ds, h => by
  show (pO d && fh ds) = true
  rw [h d List.mem_cons_self, mj fun e he => h e (List.mem_cons_of_mem _ he)]; rfl
theorem dW : ∀ {ds : List PyData} {i : Nat} {d : PyData}, ds[i]? = some d -> d.depth ≤ PyData.depthAll ds
 | e :: ds, 0, d, q => by
  rw [List.getElem?_cons_zero] at q
  cases q
  exact Nat.le_max_left _ _
 | e :: ds, i + 1, d, q => by
  rw [List.getElem?_cons_succ] at q
  exact Nat.le_trans (dW q) (Nat.le_max_right _ _)
theorem hX {k : Nat} : ∀ {ds : List PyData}, (∀ d ∈ ds, d.depth ≤ k) -> PyData.depthAll ds ≤ k
 | [], _ => Nat.zero_le _
 | d :: ds, h => Nat.max_le.mpr ⟨h d List.mem_cons_self, hX fun e he => h e (List.mem_cons_of_mem _ he)⟩
theorem cJ {K : Fg} {H : Hp} : ∀ {xs : List V} {ds : List PyData}, bA K H xs ds -> ∀ {i : Nat} {d : PyData}, ds[i]? = some d -> ∃ x, xs[i]? = some x /\ bJ K H x d
 | _, _, .cons h _, 0, d, e => by
  rw [List.getElem?_cons_zero] at e
  cases e
  exact ⟨_, rfl, h⟩
 | _, _, .cons _ t, i + 1, d, e => cJ t (i := i) (by rw [List.getElem?_cons_succ] at e; exact e)
 | _, _, .nil, _, _, e => by cases e
theorem cq {K : Fg} {H : Hp} : ∀ {xs : List V} {ds : List PyData}, bA K H xs ds -> xs.length = ds.length
 | _, _, .nil => rfl
 | _, _, .cons _ t => congrArg (· + 1) (cq t)
theorem cf : dk "NoneType" "tuple" = some false := by decide +kernel
theorem cF : dk "NoneType" "list" = some false := by decide +kernel
theorem c5 : dk "bool" "tuple" = some false := by decide +kernel
theorem dE : dk "bool" "list" = some false := by decide +kernel
theorem dU : dk "bool" "str" = some false := by decide +kernel
theorem bH : dk "bool" "bool" = some true := by decide +kernel
theorem dD : dk "int" "tuple" = some false := by decide +kernel
theorem dS : dk "int" "list" = some false := by decide +kernel
theorem eg : dk "int" "str" = some false := by decide +kernel
theorem bT : dk "int" "bool" = some false := by decide +kernel
theorem eh : dk "int" "int" = some true := by decide +kernel
theorem dB : dk "str" "tuple" = some false := by decide +kernel
theorem dQ : dk "str" "list" = some false := by decide +kernel
theorem cr : dk "str" "str" = some true := by decide +kernel
theorem be : dk "tuple" "tuple" = some true := by decide +kernel
theorem bS : dk "tuple" "list" = some false := by decide +kernel
def me (k : Nat) (K : Fg) : Sp := fun vs H Q _ => ∃ (v w : V) (d : PyData), vs = [v, w] /\ bJ K H v d /\ bJ K H w d /\ d.depth ≤ k /\ pO d = true /\ ∀ H', aA H H' -> Q (.bl true) H'
abbrev pM := me 0
abbrev pK := me 1
abbrev pJ := me 2
abbrev pI := me 3
abbrev kH := me 4
theorem gU {i : Int} (h : i.natAbs < 2 ^ 100) : Sh 0 2000 (.int i) := by
 refine ⟨?_, rfl, Nat.le_refl _, Nat.le_trans (i5 h (by decide)) (by decide)⟩
 show decide (i.natAbs.log2 < 1920) = true
 refine decide_eq_true ?_
 by_cases z : i.natAbs = 0
 ·rw [z]; decide
 ·exact Nat.lt_of_lt_of_le ((Nat.log2_lt z).mpr h) (by decide)
def BA (w : Wk) : PyData := .tuple [.int w.1, .int w.2.1, dR w.2.2]
def tS (ws : List Wk) : PyData := .tuple (ws.map BA)
theorem vy.deep {K : Fg} {H : Hp} {v : V} {w : Wk} (h : vy K H v w) : bJ K H v (BA w) := by
 obtain ⟨p, x, rfl, hS, rx⟩ := h
 exact .tup hS (.cons (.int _) (.cons (.int _) (.cons rx.deep .nil)))
theorem eP.deep {K : Fg} {H : Hp} {v : V} {ws : List Wk} (h : eP K H v ws) : bJ K H v (tS ws) := by
 obtain ⟨p, xs, rfl, hS, al⟩ := h
 exact .tup hS (al.deep fun _ _ q => q.deep)
theorem fM {n : Nat} (h : n < 24) : ((n : Int)).natAbs < 2 ^ 100 := by
 have : (2 : Nat) ^ 100 = 1267650600228229401496703205376 := by decide
 omega
theorem wx {w : Wk} (h : dZ w) : Sh 2 20000 (BA w) := by
 have o := h.am
 have big : (2 : Nat) ^ 100 = 1267650600228229401496703205376 := by decide
 have l1 := h.le
 have l2 := h.lt
 have t1 := o.top
 have t2 := o.top'
 have b1 := o.bot
 have b2 := o.bot'
 refine Sh.tup (k := 1) (n := 6100) (m := 3) (fun d hd => ?_) (Nat.le_refl _) (by decide)
 simp only [List.mem_cons, List.not_mem_nil, or_false] at hd
 rcases hd with rfl | rfl | rfl
 ·exact (gU (fM (by omega))).mono (by decide) (by decide)
 ·exact (gU (fM (by omega))).mono (by decide) (by decide)
 ·refine Sh.tup (k := 0) (n := 2000) (m := 2) (fun d hd => ?_) (Nat.le_refl _) (by decide)
  simp only [List.mem_cons, List.not_mem_nil, or_false] at hd
  rcases hd with rfl | rfl
  ·exact gU (by omega)
  ·exact gU (by omega)
def DS (y : List Nat × List Nat) : PyData := .tuple [u8 y.1, u8 y.2]
theorem jm {k : Nat} {α : Type} {f : α -> PyData} {l : List α} (h : ∀ x ∈ l, (f x).depth ≤ k) : (PyData.tuple (l.map f)).depth ≤ k + 1 := by
 show PyData.depthAll (l.map f) + 1 ≤ k + 1
 refine Nat.succ_le_succ (hX fun d hd => ?_)
 obtain ⟨x, hx, rfl⟩ := List.mem_map.mp hd
 exact h x hx
theorem rh {α : Type} {f : α -> PyData} {l : List α} (hl : l.length ≤ 1000) (h : ∀ x ∈ l, pO (f x) = true) : pO (.tuple (l.map f)) = true := by
 show (decide ((l.map f).length ≤ 1000) && fh (l.map f)) = true
 rw [List.length_map, decide_eq_true hl, mj fun d hd => ?_]
 ·rfl
 ·obtain ⟨x, hx, rfl⟩ := List.mem_map.mp hd
  exact h x hx
def lL : Wk := (0, 0, (0, 1))
def jc (ws : List Wk) (y : List Nat × List Nat) : List R := y.2.map fun i => (ws.getD i lL).2.2
def gR (ws : List Wk) (y : List Nat × List Nat) : R := iA (f7 (jc ws y)) (1, (y.1.length : Int))
def iH (r : R) (ss : List R) (ts : List Nat) : List R := ts.foldl (fun s t => s.set t r) ss
def ia (ws : List Wk) (lys : List (List Nat × List Nat)) : List R := lys.foldl (fun ss y => iH (gR ws y) ss y.1) (List.replicate 24 (0, 1))
theorem mw (r : R) : ∀ (ts : List Nat) (ss : List R), (iH r ss ts).length = ss.length
 | [], _ => rfl
 | t :: ts, ss => by
  show (iH r (ss.set t r) ts).length = _
  rw [mw r ts, List.length_set]
theorem kx (ws : List Wk) : ∀ (lys : List (List Nat × List Nat)) (ss : List R), (lys.foldl (fun ss y => iH (gR ws y) ss y.1) ss).length = ss.length
 | [], _ => rfl
 | y :: r, ss => by rw [List.foldl_cons, kx ws r, mw]
theorem yC {ws : List Wk} {n : Nat} {y : List Nat × List Nat} (ok : ∀ w ∈ ws, dZ w) (h : gO ws.length y) : ∀ r ∈ jc ws y, Wf 4 r := by
 intro r hr
 obtain ⟨i, hi, rfl⟩ := List.mem_map.mp hr
 have hl := h.num i hi
 rw [aR lL (List.getElem?_eq_getElem hl)]
 exact (ok _ (List.getElem_mem hl)).am.wf
theorem u6 {ws : List Wk} (ok : ∀ w ∈ ws, dZ w) : ie ws (List.range 24) = ws.length := by
 refine List.countP_eq_length.mpr fun w hw => iy.mpr ⟨w.1, List.mem_range.mpr ?_, ?_⟩
 ·have := (ok w hw).le
  have := (ok w hw).lt
  omega
 ·unfold ii
  rw [decide_eq_true (Nat.le_refl _), decide_eq_true (ok w hw).le]
  rfl
theorem oQ {ws : List Wk} {ls : List Nat} {p : Pl} (h : qW ws ls p) : ij ls.length p := h.1.inn
def BI (K : Fg) (H : Hp) (v : V) (lys : List (List Nat × List Nat)) : Prop := ∃ p xs, v = .ref p /\ bt K H p xs /\ cO (ki K H) xs lys
def yR (K : Fg) : Sp := fun vs H Q _ => ∃ (v : V) (ws : List Wk), vs = [v] /\ eP K H v ws /\ ws.length ≤ 64 /\ (∀ w ∈ ws, dZ w) /\ ∀ (x : V) (lys : List (List Nat × List Nat)) (H' : Hp), aA H H' -> BI K H' x lys -> mY ws (List.range 24) lys -> (∀ y ∈ lys, gO ws.length y) -> lys.length ≤ 64 -> Q x H'
def je (K : Fg) : Sp := fun vs H Q _ => ∃ (v : V) (ws : List Wk), vs = [v] /\ eP K H v ws /\ ws.length ≤ 64 /\ (∀ w ∈ ws, dZ w) /\ ∀ (l : Addr) (xs : List V) (lys : List (List Nat × List Nat)) (H' : Hp), aA H H' -> H l = none -> H' l = some (.lst xs) -> cO (ki K H') xs lys -> mY ws (List.range 24) lys -> (∀ y ∈ lys, gO ws.length y) -> lys.length ≤ 64 -> Q (.ref l) H'
def gS (K : Fg) : Sp := fun vs H Q _ => ∃ (v x : V) (ws : List Wk) (y : List Nat × List Nat), vs = [v, x] /\ eP K H v ws /\ ws.length ≤ 64 /\ (∀ w ∈ ws, dZ w) /\ ki K H x y /\ gO ws.length y /\ BU K H Q (gR ws y)
abbrev lY := gS
def qR (K : Fg) : Sp := fun vs H Q _ => ∃ (v : V) (ws : List Wk), vs = [v] /\ eP K H v ws /\ ws.length ≤ 64 /\ (∀ w ∈ ws, dZ w) /\ ∀ (p : Addr) (xs : List V) (lys : List (List Nat × List Nat)) (H' : Hp), aA H H' -> bt K H' p xs -> cO (RV K H') xs (ia ws lys) -> mY ws (List.range 24) lys -> Q (.ref p) H'
def yW (K : Fg) (H : Hp) (v : V) (e : Ln) : Prop := ∃ p, v = .ref p /\ bt K H p [.int (e.1 : Nat), .int (e.2 : Nat)]
theorem yW.mono {K : Fg} {H H' : Hp} {v : V} {e : Ln} (h : yW K H v e) (t : aN K H H') : yW K H' v e := let ⟨p, q, s⟩ := h; ⟨p, q, t _ _ s⟩
def lI (K : Fg) (H : Hp) (v : V) (es : List Ln) : Prop := ∃ p xs, v = .ref p /\ bt K H p xs /\ cO (yW K H) xs es
theorem lI.mono {K : Fg} {H H' : Hp} {v : V} {es : List Ln} (h : lI K H v es) (t : aN K H H') : lI K H' v es := let ⟨p, xs, e, s, a⟩ := h; ⟨p, xs, e, t _ _ s, a.mono fun _ _ q => q.mono t⟩
def iO (n : Nat) (f : Nat -> Bool) : List V := (List.range n).map fun j => V.bl (f j)
theorem gs (n : Nat) (f : Nat -> Bool) : (iO n f).length = n := by unfold iO; rw [List.length_map, List.length_range]
theorem gu {n : Nat} {f : Nat -> Bool} {j : Nat} (h : j < n) : (iO n f)[j]? = some (.bl (f j)) := by
 unfold iO
 rw [List.getElem?_map, List.getElem?_range h]
 rfl
theorem rR {n : Nat} {f : Nat -> Bool} {j : Nat} (h : j < n) : (iO n f).set j (.bl true) = iO n fun i => f i || decide (i = j) := by
 apply List.ext_getElem?
 intro i
 by_cases hi : i < n
 ·rw [gu hi]
  by_cases c : i = j
  ·subst c
   rw [List.getElem?_set_self (by rw [gs]; exact h), decide_eq_true rfl, Bool.or_true]
  ·rw [List.getElem?_set_ne (fun z => c z.symm), gu hi, decide_eq_false c, Bool.or_false]
 ·rw [List.getElem?_eq_none (by rw [List.length_set, gs]; omega), List.getElem?_eq_none (by rw [gs]; omega)]
structure lH (H : Hp) (l : Addr) (rows : List Addr) (n : Nat) (L : Nat -> Nat -> Bool) : Prop where
 top : H l = some (.lst (rows.map V.ref))
 len : rows.length = n
 nd : rows.Nodup
 ne : l ∉ rows
 row : ∀ i r, rows[i]? = some r -> H r = some (.lst (iO n (L i)))
theorem lH.same {H H' : Hp} {l : Addr} {rows : List Addr} {n : Nat} {L : Nat -> Nat -> Bool} (h : lH H l rows n L) (s : aA H H') : lH H' l rows n L := ⟨s _ _ h.top, h.len, h.nd, h.ne, fun i r e => s _ _ (h.row i r e)⟩
theorem lH.congr {H : Hp} {l : Addr} {rows : List Addr} {n : Nat} {L L' : Nat -> Nat -> Bool} (h : lH H l rows n L) (e : ∀ i j, i < n -> j < n -> L i j = L' i j) : lH H l rows n L' := ⟨h.top, h.len, h.nd, h.ne, fun i r q => by
 rw [h.row i r q]
 have hi : i < n := by rw [← h.len]; exact (List.getElem?_eq_some_iff.mp q).1
 congr 2
 exact List.map_congr_left fun j hj => by rw [e i j hi (List.mem_range.mp hj)]⟩
theorem lH.set {H : Hp} {l : Addr} {rows : List Addr} {n : Nat} {L : Nat -> Nat -> Bool} (h : lH H l rows n L) {u v : Nat} {r : Addr} (e : rows[u]? = some r) (hv : v < n) : lH (upd H r (.lst ((iO n (L u)).set v (.bl true)))) l rows n (fun i j => L i j || (decide (i = u) && decide (j = v))) := by
 have mr := List.mem_of_getElem? e
 refine ⟨by rw [aC (show l ≠ r from fun z => h.ne (by rw [z]; exact mr))]; exact h.top, h.len, h.nd, h.ne, fun i r' e' => ?_⟩
 by_cases c : i = u
 ·subst c
  rw [e] at e'
  cases e'
  rw [ah, rR hv]
  congr 3
  funext j
  rw [decide_eq_true rfl, Bool.true_and]
 ·have n1 : r' ≠ r := fun z => by
   subst z
   obtain ⟨h1, q1⟩ := List.getElem?_eq_some_iff.mp e
   obtain ⟨h2, q2⟩ := List.getElem?_eq_some_iff.mp e'
   have := List.pairwise_iff_getElem.mp h.nd
   rcases Nat.lt_trichotomy i u with z | z | z
   ·exact this i u h2 h1 z (by rw [q1, q2])
   ·exact c z
   ·exact this u i h1 h2 z (by rw [q1, q2])
  rw [aC n1, h.row i r' e']
  congr 3
  funext j
  rw [decide_eq_false c, Bool.false_and, Bool.or_false]
structure Kp (rows : List Addr) (H H' : Hp) : Prop where
 keep : ∀ b o, b ∉ rows -> H b = some o -> H' b = some o
 ls : ∀ r ∈ rows, ∃ xs, H r = some (.lst xs)
 ls' : ∀ r ∈ rows, ∃ xs, H' r = some (.lst xs)
theorem Kp.trans {rows : List Addr} {H H1 H2 : Hp} (a : Kp rows H H1) (b : Kp rows H1 H2) : Kp rows H H2 := ⟨fun c o n e => b.keep c o n (a.keep c o n e), a.ls, b.ls'⟩
theorem Kp.same {rows : List Addr} {H H' : Hp} (s : aA H H') (h : ∀ r ∈ rows, ∃ xs, H r = some (.lst xs)) : Kp rows H H' := ⟨fun c o _ e => s _ _ e, h, fun r m => let ⟨xs, e⟩ := h r m; ⟨xs, s _ _ e⟩⟩
theorem Kp.up {rows : List Addr} {H : Hp} {r : Addr} (m : r ∈ rows) (h : ∀ r ∈ rows, ∃ xs, H r = some (.lst xs)) (ys : List V) : Kp rows H (upd H r (.lst ys)) := ⟨fun c o n e => by rw [aC (show c ≠ r from fun z => n (by rw [z]; exact m))]; exact e, h, fun q mq => by
 by_cases c : q = r
 ·subst c; exact ⟨_, ah⟩
 ·rw [aC c]; exact h q mq⟩
theorem lH.ls {H : Hp} {l : Addr} {rows : List Addr} {n : Nat} {L : Nat -> Nat -> Bool} (h : lH H l rows n L) : ∀ r ∈ rows, ∃ xs, H r = some (.lst xs) := fun r m => by
 obtain ⟨i, hi, e⟩ := List.mem_iff_getElem.mp m
 exact ⟨_, h.row i r (by rw [List.getElem?_eq_getElem hi, e])⟩
theorem aN.kp {K : Fg} {rows : List Addr} {H H' : Hp} (k : Kp rows H H') : aN K H H' := fun p xs h => by
 rcases h with h | h
 ·have n : p ∉ rows := fun m => by
   obtain ⟨ys, e⟩ := k.ls p m
   rcases h with h | ⟨o, h⟩ <;> rw [e] at h <;> cases h
  rcases h with h | ⟨o, h⟩
  ·exact .inl (.inl (k.keep _ _ n h))
  ·exact .inl (.inr ⟨o, k.keep _ _ n h⟩)
 ·exact .inr h
def iE (_ : Fg) : Sp := fun vs H Q _ => ∃ n : Nat, vs = [.int n] /\ n ≤ 64 /\ ∀ (l : Addr) (rows : List Addr) (H' : Hp), aA H H' -> H l = none -> (∀ r ∈ rows, H r = none) -> lH H' l rows n (fun _ _ => false) -> Q (.ref l) H'
def mf (K : Fg) : Sp := fun vs H Q _ => ∃ (l : Addr) (v : V) (rows : List Addr) (n : Nat) (L : Nat -> Nat -> Bool) (a b : Nat), vs = [.ref l, v] /\ lH H l rows n L /\ yW K H v (a, b) /\ a < n /\ b < n /\ n ≤ 64 /\ ∀ H', Kp rows H H' -> lH H' l rows n (lF L a b) -> Q .non H'
def ic (K : Fg) : Sp := fun vs H Q _ => ∃ (n : Nat) (v : V) (es : List Ln), vs = [.int n, v] /\ lI K H v es /\ mX n es /\ n ≤ 64 /\ ∀ (l : Addr) (rows : List Addr) (L : Nat -> Nat -> Bool) (H' : Hp), aA H H' -> lH H' l rows n L -> yX n es L -> Q (.ref l) H'
theorem fJ {H H' : Hp} {x : Addr} {o0 : HO} (hx : H x = none) (kp : ∀ b o, b ≠ x -> upd H x o0 b = some o -> H' b = some o) : aA H (oX H' x) := fun b o e => by
 have nb : b ≠ x := aQ e hx
 unfold oX
 rw [if_neg nb]
 exact kp b o nb (by rw [aC nb]; exact e)
theorem yr {H : Hp} {x d : Addr} (n : d ≠ x) : oX H x d = H d := by unfold oX; rw [if_neg n]
def pH (_ : Fg) : Sp := fun vs H Q _ => ∃ i : Int, vs = [.int i] /\ Q (.int i) H
def pN (_ : Fg) (C : Addr) : Sp := fun vs H Q _ => ∃ (a : Addr) (n : Int), vs = [.ref a, .int n] /\ H a = some (gP a C none) /\ ∀ d, H d = none -> d ≠ a -> Q .non (upd (upd H a (gP a C (some d))) d (dO d [("work", .int n)]))
def v7 (n : Nat) (es : List Ln) : Prop := ∃ ps : Nat -> Nat, (∀ i, i < n -> ps i < n) /\ ∀ a b, (a, b) ∈ es -> ps a < ps b
theorem wN {n : Nat} {os : List Nat} (nd : os.Nodup) (hl : os.length = n) (all : ∀ x, x ∈ os ↔ x < n) : ∃ ps : Nat -> Nat, (∀ i, i < n -> ps i < n) /\ ∀ j x, os[j]? = some x -> ps x = j := by
 have h : ∀ x, ∃ j : Nat, x ∈ os -> os[j]? = some x := fun x => by
  by_cases m : x ∈ os
  ·obtain ⟨j, hj, e⟩ := List.mem_iff_getElem.mp m
   exact ⟨j, fun _ => by rw [List.getElem?_eq_getElem hj, e]⟩
  ·exact ⟨0, fun z => absurd z m⟩
 refine ⟨fun x => Classical.choose (h x), fun i hi => ?_, fun j x e => ?_⟩
 ·have := Classical.choose_spec (h i) ((all i).mpr hi)
  rw [← hl]
  exact (List.getElem?_eq_some_iff.mp this).1
 ·have q := Classical.choose_spec (h x) (List.mem_of_getElem? e)
  obtain ⟨h1, e1⟩ := List.getElem?_eq_some_iff.mp q
  obtain ⟨h2, e2⟩ := List.getElem?_eq_some_iff.mp e
  have pw := List.pairwise_iff_getElem.mp nd
  rcases Nat.lt_trichotomy (Classical.choose (h x)) j with z | z | z
  ·exact absurd (e1.trans e2.symm) (pw _ _ h1 h2 z)
  ·exact z
  ·exact absurd (e2.trans e1.symm) (pw _ _ h2 h1 z)
def tU (es : List Ln) : PyData := .tuple (es.map fun e => .tuple [.int (e.1 : Nat), .int (e.2 : Nat)])
theorem lI.deep {K : Fg} {H : Hp} {v : V} {es : List Ln} (h : lI K H v es) : bJ K H v (tU es) := by
 obtain ⟨p, xs, rfl, hS, al⟩ := h
 exact .tup hS (al.deep fun _ _ q => by obtain ⟨p, rfl, s⟩ := q; exact .tup s (.cons (.int _) (.cons (.int _) .nil)))
theorem g6 : ∀ (n : Nat) (l : List Nat), l.Nodup -> (∀ x ∈ l, x < n) -> l.length ≤ n
 | 0, l, _, h => by
  cases l with
  | nil => exact Nat.le_refl _
  | cons x r => exact absurd (h x List.mem_cons_self) (Nat.not_lt_zero _)
 | n + 1, l, nd, h => by
  have ih := g6 n (l.erase n) (nd.erase n) fun x hx => by
   have := (nd.mem_erase_iff.mp hx)
   have := h x this.2
   omega
  have := List.length_erase (a := n) (l := l)
  split at this <;> omega
theorem v4 {r : R} (h : vF r) : Bq 84 12 r := by
 have a := h.top
 have b := h.top'
 have c := h.bot
 refine ⟨by omega, h.wf.cop, h.dvd, ?_⟩
 have : 12 * 1 ≤ 12 * r.2.natAbs := Nat.mul_le_mul_left _ (by omega)
 omega
theorem rC {D N : Nat} (hD : 0 < D) : ∀ {rs : List R}, (∀ r ∈ rs, Bq D N r) -> ∀ {a : R} {M : Nat}, Bq D M a -> Bq D (M + N * rs.length) (rs.foldl bu a)
 | [], _, a, M, h => by simpa using h
 | r :: rs, hr, a, M, h => by
  have := rC hD (fun q hq => hr q (List.mem_cons_of_mem _ hq)) (h.plus hD (hr r List.mem_cons_self))
  rw [List.foldl_cons, List.length_cons, Nat.mul_succ]
  refine this.mono (Nat.dvd_refl _) (by omega)
theorem yz {D : Nat} : Bq D 0 ((0, 1) : R) := ⟨by decide, by decide, ⟨(D : Int), by show (D : Int) = 1 * D; omega⟩, by show 0 ≤ _; exact Nat.zero_le _⟩
theorem ul {D N : Nat} (hD : 0 < D) {rs : List R} (h : ∀ r ∈ rs, Bq D N r) : Bq D (N * rs.length) (f7 rs) := by
 have := rC hD h (yz (D := D))
 rw [Nat.zero_add] at this
 exact this
theorem ux {ws : List Wk} {y : Ly} (ok : ∀ w ∈ ws, dZ w) (hw : ws.length ≤ 9) (lok : gO ws.length y) : Bq (84 * y.1.length) 108 (gR ws y) := by
 have am : ∀ r ∈ jc ws y, Bq 84 12 r := fun r hr => by
  obtain ⟨i, hi, rfl⟩ := List.mem_map.mp hr
  have hl := lok.num i hi
  rw [aR lL (List.getElem?_eq_getElem hl)]
  exact v4 (ok _ (List.getElem_mem hl)).am
 have la : (jc ws y).length = y.2.length := List.length_map _
 have len := lok.len
 have pos := lok.pos
 have s := (ul (by decide) am).mono (Nat.dvd_refl _) (show 12 * (jc ws y).length ≤ 108 by omega)
 have o : Bq y.1.length 1 ((1, (y.1.length : Int)) : R) := ⟨by show (0 : Int) < _; omega, by simp, Int.dvd_refl _, by show (1 : Int).natAbs ≤ 1 * ((y.1.length : Int)).natAbs; omega⟩
 exact s.times o
def rK (K : Fg) : Sp := fun vs H Q _ => ∃ (v w : V) (r q : R) (n m : Nat), vs = [v, w] /\ RV K H v r /\ RV K H w q /\ Wf n r /\ Wf m q /\ n + m + 1 ≤ 3000 /\ BU K H Q (cI r q)
def iF (K : Fg) : Sp := fun vs H Q _ => ∃ (v w : V) (r q : R) (n m : Nat), vs = [v, w] /\ RV K H v r /\ RV K H w q /\ Wf n r /\ Wf m q /\ n + m + 1 ≤ 3000 /\ Q (.bl (cR r q)) H
abbrev l7 := iF
theorem mP {a b : Int} (h : Int.gcd a b = 1) : Int.gcd (-a) b = 1 := by rw [Int.neg_gcd]; exact h
theorem yw : ∀ m, m < 25 -> 0 < m -> 84 * m ∣ 449755225920 := by decide
def bv (ws : List Wk) (i : Nat) : Nat := (ws.getD i lL).2.1
def cY (ws : List Wk) (l : List Nat) : List Nat := l.filter fun i => l.all fun j => decide (bv ws i ≤ bv ws j)
open Classical in
noncomputable def dz (es : List Ln) (i j : Nat) : Bool := decide (gQ es j i)
open Classical in
theorem fO {es : List Ln} {i j : Nat} : dz es i j = true ↔ gQ es j i := by unfold dz; exact decide_eq_true_iff
noncomputable def fZ (ws : List Wk) (es : List Ln) (l : List Nat) : List Nat := (cY ws l).filter fun i => !(cY ws l).any (dz es i)
noncomputable def gz (ws : List Wk) (es : List Ln) (l : List Nat) : Nat := (fZ ws es l).getD 0 0
def bX (n : Nat) (come : List Nat) : List Nat := (List.range n).filter fun i => !come.contains i
noncomputable def cM (ws : List Wk) (es : List Ln) : Nat -> List Nat
 | 0 => []
 | k + 1 => cM ws es k ++ [gz ws es (bX ws.length (cM ws es k))]
theorem ir {ls : List Nat} {i : Nat} {x : V} (h : (aF ls)[i]? = some x) : ∃ n, ls[i]? = some n /\ x = .int (n : Nat) := by
 unfold aF at h
 rw [List.getElem?_map] at h
 obtain ⟨n, hn, rfl⟩ := Option.map_eq_some_iff.mp h
 exact ⟨n, hn, rfl⟩
theorem i6 (f : Nat -> Nat) : ∀ (l : List Nat), l ≠ [] -> ∃ i ∈ l, ∀ j ∈ l, f i ≤ f j
 | [], h => absurd rfl h
 | [a], _ => ⟨a, List.mem_cons_self, fun j hj => by rw [List.mem_singleton] at hj; rw [hj]; exact Nat.le_refl _⟩
 | a :: b :: l, _ => by
  obtain ⟨i, hi, m⟩ := i6 f (b :: l) (by simp)
  by_cases c : f a ≤ f i
  ·refine ⟨a, List.mem_cons_self, fun j hj => ?_⟩
   rcases List.mem_cons.mp hj with z | z
   ·rw [z]; exact Nat.le_refl _
   ·exact Nat.le_trans c (m j z)
  ·refine ⟨i, List.mem_cons_of_mem _ hi, fun j hj => ?_⟩
   rcases List.mem_cons.mp hj with z | z
   ·rw [z]; omega
   ·exact m j z
theorem gC {ws : List Wk} {l : List Nat} {i : Nat} : i ∈ cY ws l ↔ i ∈ l /\ ∀ j ∈ l, bv ws i ≤ bv ws j := by
 unfold cY
 rw [List.mem_filter, List.all_eq_true]
 exact and_congr_right fun _ => forall_congr' fun j => forall_congr' fun _ => decide_eq_true_iff
theorem gQ.rank {es : List Ln} {ps : Nat -> Nat} (h : ∀ a b, (a, b) ∈ es -> ps a < ps b) {a b : Nat} (r : gQ es a b) : ps a < ps b := by
 induction r with
 | one m => exact h _ _ m
 | step m _ ih => exact Nat.lt_trans (h _ _ m) ih
theorem oU {ws : List Wk} {es : List Ln} {n : Nat} (rk : v7 n es) {l : List Nat} (h : l ≠ []) : fZ ws es l ≠ [] := by
 obtain ⟨ps, _, hp⟩ := rk
 obtain ⟨i, hi, m⟩ := i6 (bv ws) l h
 have hl : cY ws l ≠ [] := fun z => by
  have := gC.mpr ⟨hi, m⟩
  rw [z] at this; cases this
 obtain ⟨j, hj, q⟩ := i6 ps _ hl
 intro z
 have : j ∈ fZ ws es l := by
  unfold fZ
  rw [List.mem_filter]
  refine ⟨hj, ?_⟩
  rw [Bool.not_eq_true', List.any_eq_false]
  intro b hb c
  have := gQ.rank hp (fO.mp c)
  have := q b hb
  omega
 rw [z] at this; cases this
theorem oI {ws : List Wk} {es : List Ln} {n : Nat} (rk : v7 n es) {l : List Nat} (h : l ≠ []) : (fZ ws es l)[0]? = some (gz ws es l) := by
 have := oU (ws := ws) rk h
 unfold gz
 cases e : fZ ws es l with
 | nil => exact absurd e this
 | cons a r => rfl
theorem sY {ws : List Wk} {es : List Ln} {n : Nat} (rk : v7 n es) {l : List Nat} (h : l ≠ []) : gz ws es l ∈ l := by
 have a := List.mem_of_getElem? (oI (ws := ws) rk h)
 exact (gC.mp (List.mem_filter.mp a).1).1
theorem gH {q : Nat -> Bool} : ∀ {l : List Nat} {i x : Nat}, l[i]? = some x -> q x = true -> (∀ j y, j < i -> l[j]? = some y -> q y = false) -> (l.filter q).getD 0 0 = x
 | [], i, x, h, _, _ => by simp at h
 | a :: l, 0, x, h, hx, _ => by
  have e : a = x := by simpa using h
  subst e
  rw [List.filter_cons_of_pos hx]
  rfl
 | a :: l, i + 1, x, h, hx, b => by
  have e : q a = false := b 0 a (Nat.succ_pos _) rfl
  rw [List.filter_cons_of_neg (by rw [e]; exact Bool.false_ne_true)]
  exact gH (by simpa using h) hx fun j y hj hy => b (j + 1) y (Nat.succ_lt_succ hj) (by simpa using hy)
theorem oj (n : Nat) (c : List Nat) : (bX n c).Nodup := List.Pairwise.filter _ List.nodup_range
theorem iY {n : Nat} {c : List Nat} {i : Nat} : i ∈ bX n c ↔ i < n /\ i ∉ c := by
 unfold bX
 rw [List.mem_filter, List.mem_range, Bool.not_eq_true', List.contains_eq_mem, decide_eq_false_iff_not]
theorem ph (n : Nat) (c : List Nat) (x : Nat) : bX n (c ++ [x]) = (bX n c).filter fun i => decide (i ≠ x) := by
 unfold bX
 rw [List.filter_filter]
 refine List.filter_congr fun i _ => ?_
 rw [Bool.eq_iff_iff, Bool.and_eq_true, Bool.not_eq_true', Bool.not_eq_true', List.contains_eq_mem, List.contains_eq_mem, decide_eq_false_iff_not, decide_eq_false_iff_not, decide_eq_true_iff, List.mem_append, List.mem_singleton]
 exact ⟨fun h => ⟨fun z => h (.inr z), fun z => h (.inl z)⟩, fun h z => z.elim h.2 h.1⟩
theorem mO : ∀ {l : List Nat} {j x : Nat}, l.Nodup -> l[j]? = some x -> l.eraseIdx j = l.filter (fun i => decide (i ≠ x)) /\ (l.eraseIdx j).length + 1 = l.length
 | [], j, x, _, h => by simp at h
 | a :: l, 0, x, nd, h => by
  have e : a = x := by simpa using h
  subst e
  obtain ⟨n1, n2⟩ := List.nodup_cons.mp nd
  refine ⟨?_, rfl⟩
  have e1 : (a :: l).filter (fun i => decide (i ≠ a)) = l.filter (fun i => decide (i ≠ a)) := List.filter_cons_of_neg (by simp)
  have e2 : l.filter (fun i => decide (i ≠ a)) = l := List.filter_eq_self.mpr fun i hi => decide_eq_true fun z => n1 (by rw [← z]; exact hi)
  rw [e1, e2]
  rfl
 | a :: l, j + 1, x, nd, h => by
  obtain ⟨n1, n2⟩ := List.nodup_cons.mp nd
  have h' : l[j]? = some x := by simpa using h
  obtain ⟨e1, e2⟩ := mO n2 h'
  have ne : a ≠ x := fun z => n1 (by rw [z]; exact List.mem_of_getElem? h')
  have e3 : (a :: l).filter (fun i => decide (i ≠ x)) = a :: l.filter (fun i => decide (i ≠ x)) := List.filter_cons_of_pos (decide_eq_true ne)
  rw [List.eraseIdx_cons_succ, e3, ← e1]
  refine ⟨rfl, ?_⟩
  rw [List.length_cons, List.length_cons, e2]
theorem tL {l : List Nat} {j x : Nat} (nd : l.Nodup) (h : l[j]? = some x) : ∀ m, m < j -> l[m]? ≠ some x := fun m hm e => by
 obtain ⟨h1, e1⟩ := List.getElem?_eq_some_iff.mp e
 obtain ⟨h2, e2⟩ := List.getElem?_eq_some_iff.mp h
 exact List.pairwise_iff_getElem.mp nd m j h1 h2 hm (e1.trans e2.symm)
structure n0 (ws : List Wk) (es : List Ln) (k : Nat) : Prop where
 len : (cM ws es k).length = k
 lt : ∀ i ∈ cM ws es k, i < ws.length
 wl : (bX ws.length (cM ws es k)).length + k = ws.length
theorem sU (ws : List Wk) (es : List Ln) : n0 ws es 0 := by
 refine ⟨rfl, fun i hi => absurd (show i ∈ ([] : List Nat) from hi) (by simp), ?_⟩
 show (bX ws.length []).length + 0 = _
 unfold bX
 have e : (List.range ws.length).filter (fun i => !([] : List Nat).contains i) = List.range ws.length := List.filter_eq_self.mpr fun i _ => rfl
 rw [e, List.length_range]
 rfl
theorem n0.ne {ws : List Wk} {es : List Ln} {k : Nat} (h : n0 ws es k) (hk : k < ws.length) : bX ws.length (cM ws es k) ≠ [] := fun z => by
 have := h.wl
 rw [z] at this
 have e : 0 + k = ws.length := this
 omega
theorem n0.step {ws : List Wk} {es : List Ln} {k : Nat} (h : n0 ws es k) (rk : v7 ws.length es) (hk : k < ws.length) : n0 ws es (k + 1) /\ ∃ j : Nat, (bX ws.length (cM ws es k))[j]? = some (gz ws es (bX ws.length (cM ws es k))) /\ (bX ws.length (cM ws es k)).eraseIdx j = bX ws.length (cM ws es (k + 1)) := by
 have m := sY (ws := ws) rk (h.ne hk)
 obtain ⟨j, hj⟩ := List.getElem?_of_mem m
 obtain ⟨e1, e2⟩ := mO (oj _ _) hj
 have e3 : (bX ws.length (cM ws es k)).eraseIdx j = bX ws.length (cM ws es (k + 1)) := by
  rw [e1]
  exact (ph _ _ _).symm
 refine ⟨⟨?_, fun i hi => ?_, ?_⟩, j, hj, e3⟩
 ·show (cM ws es k ++ [_]).length = k + 1
  rw [List.length_append, h.len]
  rfl
 ·rcases List.mem_append.mp (show i ∈ cM ws es k ++ [_] from hi) with z | z
  ·exact h.lt i z
  ·rw [List.mem_singleton.mp z]
   exact (iY.mp m).1
 ·rw [← e3]
  have := h.wl
  omega
theorem gy {ws : List Wk} {es : List Ln} (rk : v7 ws.length es) : ∀ k, k ≤ ws.length -> n0 ws es k
 | 0, _ => sU ws es
 | k + 1, h => ((gy rk k (Nat.le_of_succ_le h)).step rk h).1
def v5 (es : List Ln) (w : Nat) (fd : List Nat) (i : Nat) : Bool := decide ((es.getD i (0, 0)).2 = w) && !fd.contains (es.getD i (0, 0)).1
def o7 (es : List Ln) (w : Nat) (fd : List Nat) : List Nat := (List.range es.length).filter (v5 es w fd)
def eE (es : List Ln) (is : List Nat) : List Nat := is.map fun i => (es.getD i (0, 0)).1
theorem gf {es : List Ln} {w : Nat} {fd : List Nat} {i : Nat} : i ∈ o7 es w fd ↔ i < es.length /\ (es.getD i (0, 0)).2 = w /\ (es.getD i (0, 0)).1 ∉ fd := by
 unfold o7 v5
 rw [List.mem_filter, List.mem_range, Bool.and_eq_true, decide_eq_true_iff, Bool.not_eq_true', List.contains_eq_mem, decide_eq_false_iff_not]
theorem iZ {es : List Ln} {is : List Nat} {x : Nat} : x ∈ eE es is ↔ ∃ i ∈ is, (es.getD i (0, 0)).1 = x := List.mem_map
theorem oR {es : List Ln} {i : Nat} (h : i < es.length) : es.getD i (0, 0) ∈ es := by
 rw [aR (0, 0) (List.getElem?_eq_getElem h)]
 exact List.getElem_mem h
structure n8 (es : List Ln) (w n : Nat) (is : List Nat) : Prop where
 nd : is.Nodup
 lt : ∀ i ∈ is, i < es.length
 sound : ∀ x ∈ eE es is, gQ es x w
 base : ∀ a, (a, w) ∈ es -> a ∈ eE es is
 done : ∀ j x, j < n -> (eE es is)[j]? = some x -> ∀ a, (a, x) ∈ es -> a ∈ eE es is
theorem tZ (es : List Ln) (w : Nat) : n8 es w 0 (o7 es w []) := by
 refine ⟨List.Pairwise.filter _ List.nodup_range, fun i hi => (gf.mp hi).1, fun x hx => ?_, fun a ha => ?_, fun j x hj => absurd hj (Nat.not_lt_zero _)⟩
 ·obtain ⟨i, hi, rfl⟩ := iZ.mp hx
  obtain ⟨h1, h2, _⟩ := gf.mp hi
  refine .one ?_
  rw [← h2]
  exact oR h1
 ·obtain ⟨i, hi, e⟩ := List.mem_iff_getElem.mp ha
  have g : es.getD i (0, 0) = (a, w) := by rw [aR (0, 0) (List.getElem?_eq_getElem hi), e]
  exact iZ.mpr ⟨i, gf.mpr ⟨hi, by rw [g], by simp⟩, by rw [g]⟩
theorem lh (es : List Ln) (a b : List Nat) : eE es (a ++ b) = eE es a ++ eE es b := List.map_append
theorem n8.step {es : List Ln} {w n : Nat} {is : List Nat} (h : n8 es w n is) {x : Nat} (hx : (eE es is)[n]? = some x) : n8 es w (n + 1) (is ++ o7 es x (eE es is)) := by
 have lfs : (eE es is).length = is.length := List.length_map _
 have hn := (List.getElem?_eq_some_iff.mp hx).1
 refine ⟨?_, fun i hi => ?_, fun y hy => ?_, fun a ha => ?_, fun j y hj hy a ha => ?_⟩
 ·rw [List.nodup_append]
  refine ⟨h.nd, List.Pairwise.filter _ List.nodup_range, fun a ha b hb z => ?_⟩
  subst z
  exact (gf.mp hb).2.2 (iZ.mpr ⟨a, ha, rfl⟩)
 ·rcases List.mem_append.mp hi with z | z
  ·exact h.lt i z
  ·exact (gf.mp z).1
 ·rw [lh] at hy
  rcases List.mem_append.mp hy with z | z
  ·exact h.sound y z
  ·obtain ⟨i, hi, rfl⟩ := iZ.mp z
   obtain ⟨h1, h2, _⟩ := gf.mp hi
   refine .step (b := x) ?_ (h.sound x (List.mem_of_getElem? hx))
   rw [← h2]
   exact oR h1
 ·rw [lh]
  exact List.mem_append_left _ (h.base a ha)
 ·rw [lh] at hy ⊢
  by_cases c : j < n
  ·rw [List.getElem?_append_left (by omega)] at hy
   exact List.mem_append_left _ (h.done j y c hy a ha)
  ·have e : j = n := by omega
   subst e
   rw [List.getElem?_append_left hn, hx] at hy
   cases hy
   by_cases m : a ∈ eE es is
   ·exact List.mem_append_left _ m
   ·refine List.mem_append_right _ ?_
    obtain ⟨i, hi, e⟩ := List.mem_iff_getElem.mp ha
    have g : es.getD i (0, 0) = (a, x) := by rw [aR (0, 0) (List.getElem?_eq_getElem hi), e]
    exact iZ.mpr ⟨i, gf.mpr ⟨hi, by rw [g], by rw [g]; exact m⟩, by rw [g]⟩
theorem n8.fin {es : List Ln} {w n : Nat} {is : List Nat} (h : n8 es w n is) (hn : is.length ≤ n) (x : Nat) : x ∈ eE es is ↔ gQ es x w := by
 refine ⟨h.sound x, fun r => ?_⟩
 have lfs : (eE es is).length = is.length := List.length_map _
 have go : ∀ y, gQ es y w -> y ∈ eE es is := fun y r => by
  generalize hw : w = w' at r
  induction r with
  | one m => rw [← hw] at m; exact h.base _ m
  | step m _ ih =>
   obtain ⟨j, hj, e⟩ := List.mem_iff_getElem.mp (ih hw)
   exact h.done j _ (by omega) (by rw [List.getElem?_eq_getElem hj, e]) _ m
 exact go x r
structure fq (r : R) : Prop where
 bq : Bq 449755225920 128 r
 nn : 0 ≤ r.1
theorem fq.wf {r : R} (h : fq r) : Wf 50 r := h.bq.wf (by decide) (by decide) (by decide)
theorem fq.red {r : R} (h : fq r) : ua r := h.bq.red
theorem vx : fq (0, 1) := ⟨yz.mono (Nat.dvd_refl _) (by decide), Int.le_refl _⟩
theorem qY {r : R} (h : 0 < r.2) : 0 ≤ val r ↔ 0 ≤ r.1 := by
 have zz : val ((0, 1) : R) = 0 := (qX (r := (0, 1)) (by decide)).mpr rfl
 rw [← zz, ← gk (r := r) (q := (0, 1)) h (by decide), i4]
 show 0 * r.2 ≤ r.1 * 1 ↔ _
 omega
theorem tq {r : R} {N : Nat} (hp : 0 < r.2) (hn : 0 ≤ r.1) : r.1.natAbs ≤ N * r.2.natAbs ↔ val r ≤ (N : Rat) := by
 have e : val (((N : Nat) : Int), 1) = (N : Rat) := by
  show (((N : Nat) : Int) : Rat) / ((1 : Int) : Rat) = _
  rw [show ((1 : Int) : Rat) = 1 from rfl]
  have : (((N : Nat) : Int) : Rat) = (N : Rat) := rfl
  rw [this]
  grind
 rw [← e, ← gk (r := (((N : Nat) : Int), 1)) (q := r) (by show (0 : Int) < 1; decide) hp, i4]
 show _ ↔ r.1 * 1 ≤ (N : Int) * r.2
 have h1 : ((r.1.natAbs : Nat) : Int) = r.1 := by omega
 have h2 : ((r.2.natAbs : Nat) : Int) = r.2 := by omega
 rw [← Int.ofNat_le, Int.natCast_mul, h1, h2, Int.mul_one]
def fE (a b : R) : R := if cR b a = true then b else a
theorem nO {a b : R} (ha : fq a) (hb : fq b) : fq (fE a b) := by
 unfold fE
 split
 ·exact hb
 ·exact ha
theorem yg {a b : R} (ha : fq a) (hb : fq b) : val (fE a b) ≤ val a /\ val (fE a b) ≤ val b := by
 unfold fE
 cases c : cR b a with
 | true =>
  rw [if_pos rfl]
  have := (lS hb.bq.pos ha.bq.pos).mp c
  exact ⟨Rat.le_of_lt this, Rat.le_refl⟩
 | false =>
  rw [if_neg Bool.false_ne_true]
  exact ⟨Rat.le_refl, (gk hb.bq.pos ha.bq.pos).mp c⟩
theorem vf {a b : R} (ha : fq a) (hb : fq b) : (if cR a b = true then a else b) = fE a b := by
 unfold fE
 cases c : cR a b with
 | true => rw [if_pos rfl, qp c, if_neg Bool.false_ne_true]
 | false =>
  rw [if_neg Bool.false_ne_true]
  cases d : cR b a with
  | true => rw [if_pos rfl]
  | false =>
   rw [if_neg Bool.false_ne_true]
   refine ug hb.red ha.red ?_
   have h1 := (gk ha.bq.pos hb.bq.pos).mp c
   have h2 := (gk hb.bq.pos ha.bq.pos).mp d
   exact Rat.le_antisymm h1 h2
theorem rD {x a : R} (hx : fq x) (ha : fq a) (h : val a ≤ val x) : fq (cI x a) := by
 have b := Bq.minus (by decide) hx.bq ha.bq
 have ev : val (cI x a) = val x - val a := pj hx.bq.pos ha.bq.pos
 have na := (qY ha.bq.pos).mpr ha.nn
 have nn : 0 ≤ (cI x a).1 := (qY b.pos).mp (by rw [ev]; grind)
 refine ⟨⟨b.pos, b.cop, b.dvd, (tq b.pos nn).mpr ?_⟩, nn⟩
 have := (tq hx.bq.pos hx.nn).mp hx.bq.le
 rw [ev]
 grind
abbrev Pc := Nat × R
abbrev vD := List R × R × List Pc
def cv (ws : List Wk) (t : Nat) (st : vD) (i : Nat) : vD :=
 if ii (ws.getD i lL) t = true /\ fE (st.1.getD i (0, 1)) st.2.1 ≠ (0, 1) then (st.1.set i (cI (st.1.getD i (0, 1)) (fE (st.1.getD i (0, 1)) st.2.1)), cI st.2.1 (fE (st.1.getD i (0, 1)) st.2.1), st.2.2 ++ [(i, fE (st.1.getD i (0, 1)) st.2.1)]) else st
def gl (ws : List Wk) (ord : List Nat) (t : Nat) (lf : List R) (sp : R) : vD := ord.foldl (cv ws t) (lf, sp, [])
def cw (ws : List Wk) (ord : List Nat) (ss : List R) : Nat -> List R × List (List Pc)
 | 0 => (ws.map fun w => w.2.2, [])
 | t + 1 => ((gl ws ord t (cw ws ord ss t).1 (ss.getD t (0, 1))).1, (cw ws ord ss t).2 ++ [(gl ws ord t (cw ws ord ss t).1 (ss.getD t (0, 1))).2.2])
structure uf (n : Nat) (st : vD) : Prop where
 len : st.1.length = n
 lf : ∀ r ∈ st.1, fq r
 rm : fq st.2.1
 pc : ∀ p ∈ st.2.2, p.1 < n /\ fq p.2
theorem oS {n : Nat} {l : List R} (h : ∀ r ∈ l, fq r) (i : Nat) : fq (l.getD i (0, 1)) := by
 rw [List.getD_eq_getElem?_getD]
 cases e : l[i]? with
 | none => exact vx
 | some r => exact h r (List.mem_of_getElem? e)
theorem uf.step {ws : List Wk} {n t i : Nat} {st : vD} (h : uf n st) (hi : i < n) : uf n (cv ws t st i) /\ (cv ws t st i).2.2.length ≤ st.2.2.length + 1 := by
 unfold cv
 split
 ·have a := oS (n := n) h.lf i
  have le := yg a h.rm
  have la := nO a h.rm
  refine ⟨⟨by rw [List.length_set]; exact h.len, fun r hr => ?_, rD h.rm la le.2, fun p hp => ?_⟩, by rw [List.length_append]; exact Nat.le_refl _⟩
  ·rcases List.mem_or_eq_of_mem_set hr with z | z
   ·exact h.lf r z
   ·rw [z]; exact rD a la le.1
  ·rcases List.mem_append.mp hp with z | z
   ·exact h.pc p z
   ·rw [List.mem_singleton.mp z]; exact ⟨hi, la⟩
 ·exact ⟨h, Nat.le_succ _⟩
theorem uf.fold {ws : List Wk} {n t : Nat} : ∀ {ord : List Nat} {st : vD}, uf n st -> (∀ i ∈ ord, i < n) -> uf n (ord.foldl (cv ws t) st) /\ (ord.foldl (cv ws t) st).2.2.length ≤ st.2.2.length + ord.length
 | [], st, h, _ => ⟨h, Nat.le_refl _⟩
 | i :: ord, st, h, hl => by
  obtain ⟨h1, l1⟩ := h.step (ws := ws) (t := t) (hl i List.mem_cons_self)
  obtain ⟨h2, l2⟩ := h1.fold (ws := ws) (t := t) (ord := ord) fun j hj => hl j (List.mem_cons_of_mem _ hj)
  refine ⟨h2, ?_⟩
  rw [List.foldl_cons, List.length_cons]
  omega
structure Dr (n m : Nat) (p : List R × List (List Pc)) : Prop where
 len : p.1.length = n
 lf : ∀ r ∈ p.1, fq r
 pc : ∀ q ∈ p.2, q.length ≤ m /\ ∀ x ∈ q, x.1 < n /\ fq x.2
theorem io {ws : List Wk} {ord : List Nat} {ss : List R} (okw : ∀ w ∈ ws, dZ w) (ho : ∀ i ∈ ord, i < ws.length) (hs : ∀ r ∈ ss, fq r) : ∀ t, Dr ws.length ord.length (cw ws ord ss t) /\ (cw ws ord ss t).2.length = t
 | 0 => by
  refine ⟨⟨List.length_map _, fun r hr => ?_, fun q hq => by cases hq⟩, rfl⟩
  obtain ⟨w, hw, rfl⟩ := List.mem_map.mp hr
  have a := (okw w hw).am
  exact ⟨(v4 a).mono ⟨5354228880, by decide⟩ (by decide), by have := a.top; omega⟩
 | t + 1 => by
  obtain ⟨h, hl⟩ := io okw ho hs t
  obtain ⟨d, dl⟩ := uf.fold (ws := ws) (t := t) (ord := ord) (st := ((cw ws ord ss t).1, ss.getD t (0, 1), [])) ⟨h.len, h.lf, oS (n := 0) hs t, fun p hp => by cases hp⟩ ho
  refine ⟨⟨d.len, d.lf, fun q hq => ?_⟩, ?_⟩
  ·rcases List.mem_append.mp (show q ∈ (cw ws ord ss t).2 ++ [_] from hq) with z | z
   ·exact h.pc q z
   ·rw [List.mem_singleton.mp z]
    refine ⟨?_, d.pc⟩
    have : (gl ws ord t (cw ws ord ss t).1 (ss.getD t (0, 1))).2.2.length ≤ 0 + ord.length := dl
    omega
  ·show ((cw ws ord ss t).2 ++ [_]).length = t + 1
   rw [List.length_append, hl]
   rfl
def fm (lf : List R) : Option Nat := (List.range lf.length).find? fun i => decide (lf.getD i (0, 1) ≠ (0, 1))
theorem qr {lf : List R} {i : Nat} (hi : i < lf.length) (h : lf.getD i (0, 1) ≠ (0, 1)) (b : ∀ j, j < i -> lf.getD j (0, 1) = (0, 1)) : fm lf = some i := by
 unfold fm
 rw [List.find?_range_eq_some]
 exact ⟨decide_eq_true h, List.mem_range.mpr hi, fun j hj => by rw [decide_eq_false (fun z => z (b j hj))]; rfl⟩
theorem qt {lf : List R} (b : ∀ j, j < lf.length -> lf.getD j (0, 1) = (0, 1)) : fm lf = none := by
 unfold fm
 rw [List.find?_eq_none]
 intro j hj z
 exact (of_decide_eq_true z) (b j (List.mem_range.mp hj))
noncomputable def eX (ws : List Wk) (es : List Ln) (ss : List R) : List R × List (List Pc) := cw ws (cM ws es ws.length) ss 24
def vA (K : Fg) (H : Hp) (v : V) (c : Pc) : Prop := ∃ p x, v = .ref p /\ bt K H p [.int (c.1 : Nat), x] /\ RV K H x c.2
theorem vA.mono {K : Fg} {H H' : Hp} {v : V} {c : Pc} (h : vA K H v c) (t : aN K H H') : vA K H' v c := let ⟨p, x, e, s, r⟩ := h; ⟨p, x, e, t _ _ s, r.mono t⟩
def v6 (K : Fg) (H : Hp) (v : V) (q : List Pc) : Prop := ∃ p xs, v = .ref p /\ bt K H p xs /\ cO (vA K H) xs q
theorem v6.mono {K : Fg} {H H' : Hp} {v : V} {q : List Pc} (h : v6 K H v q) (t : aN K H H') : v6 K H' v q := let ⟨p, x, e, s, r⟩ := h; ⟨p, x, e, t _ _ s, r.mono fun _ _ z => z.mono t⟩
def AW (c : Pc) : PyData := .tuple [.int (c.1 : Nat), dR c.2]
def Cv (q : List Pc) : PyData := .tuple (q.map AW)
def Ar (ps : List (List Pc)) : PyData := .tuple (ps.map Cv)
theorem vA.deep {K : Fg} {H : Hp} {v : V} {c : Pc} (h : vA K H v c) : bJ K H v (AW c) := by
 obtain ⟨p, x, rfl, hS, hx⟩ := h
 exact .tup hS (.cons (.int _) (.cons hx.deep .nil))
theorem v6.deep {K : Fg} {H : Hp} {v : V} {q : List Pc} (h : v6 K H v q) : bJ K H v (Cv q) := by
 obtain ⟨p, xs, rfl, hS, al⟩ := h
 exact .tup hS (al.deep fun _ _ z => z.deep)
noncomputable def wP (ws : List Wk) (es : List Ln) (ss : List R) : PyData := match fm (eX ws es ss).1 with
 | some i => .int (i : Nat)
 | none => Ar (eX ws es ss).2
theorem qF (c : Pc) : (AW c).depth ≤ 2 := by show max 0 (max (max 0 (max 0 0) + 1) 0) + 1 ≤ 2; decide
theorem yu (c : Pc) : pO (AW c) = true := by
 show (decide (2 ≤ 1000) && (pO (.int (c.1 : Nat)) && (pO (dR c.2) && true))) = true
 rfl
def vz (K : Fg) (H : Hp) (v : V) (rs : List R) : Prop := ∃ p xs, v = .ref p /\ bt K H p xs /\ cO (RV K H) xs rs
theorem vz.mono {K : Fg} {H H' : Hp} {v : V} {rs : List R} (h : vz K H v rs) (t : aN K H H') : vz K H' v rs := let ⟨p, xs, e, s, a⟩ := h; ⟨p, xs, e, t _ _ s, a.mono fun _ _ q => q.mono t⟩
theorem vz.deep {K : Fg} {H : Hp} {v : V} {rs : List R} (h : vz K H v rs) : bJ K H v (.tuple (rs.map dR)) := by
 obtain ⟨p, xs, rfl, hS, al⟩ := h
 exact .tup hS (al.deep fun _ _ z => z.deep)
structure n5 (N : Nat) (r : R) : Prop where
 bq : Bq 449755225920 N r
 nn : 0 ≤ r.1
theorem n5.am {N : Nat} {r : R} (h : n5 N r) (hN : N ≤ 128) : fq r := ⟨h.bq.mono (Nat.dvd_refl _) hN, h.nn⟩
theorem oV {a b : Int} {N : Nat} (ha : 0 ≤ a) (hN : a ≤ N) (hb : 1 ≤ b) (h4 : b ≤ 4) : n5 N (cy a b) := by
 refine ⟨tX (by omega) ?_ ?_, nJ ha⟩
 ·rcases (show b = 1 ∨ b = 2 ∨ b = 3 ∨ b = 4 by omega) with rfl | rfl | rfl | rfl
  ·exact ⟨449755225920, by decide⟩
  ·exact ⟨224877612960, by decide⟩
  ·exact ⟨149918408640, by decide⟩
  ·exact ⟨112438806480, by decide⟩
 ·have h1 : a.natAbs ≤ N * 1 := by omega
  exact Nat.le_trans h1 (Nat.mul_le_mul_left _ (by omega))
theorem n5.plus {N M : Nat} {r q : R} (h : n5 N r) (k : n5 M q) : n5 (N + M) (bu r q) := ⟨Bq.plus (by decide) h.bq k.bq, oE h.bq.red k.bq.red h.nn k.nn⟩
theorem wo {ws : List Wk} {y : Ly} (ok : ∀ w ∈ ws, dZ w) (hw : ws.length ≤ 9) (lok : gO ws.length y) : n5 108 (gR ws y) := by
 have b := ux ok hw lok
 refine ⟨b.mono (yw _ (by have := lok.few; omega) lok.pos) (Nat.le_refl _), ?_⟩
 have nn : 0 ≤ (f7 (jc ws y)).1 := by
  have go : ∀ (l : List R) (a : R), ua a -> 0 ≤ a.1 -> (∀ r ∈ l, vF r) -> 0 ≤ (l.foldl bu a).1 := by
   intro l
   induction l with
   | nil => intro a _ na _; exact na
   | cons r l ih =>
    intro a ra na hl
    have h := hl r List.mem_cons_self
    have hr : ua r := ⟨by have := h.bot; omega, h.wf.cop⟩
    exact ih (bu a r) (k4 (Int.mul_pos ra.pos hr.pos)) (oE ra hr na (by have := h.top; omega)) fun q hq => hl q (List.mem_cons_of_mem _ hq)
  refine go _ (0, 1) ⟨by decide, by decide⟩ (by decide) fun r hr => ?_
  obtain ⟨i, hi, rfl⟩ := List.mem_map.mp hr
  have hl := lok.num i hi
  rw [aR lL (List.getElem?_eq_getElem hl)]
  exact (ok _ (List.getElem_mem hl)).am
 show 0 ≤ (cy ((f7 (jc ws y)).1 * 1) _).1
 exact nJ (by omega)
theorem rF {ws : List Wk} (ok : ∀ w ∈ ws, dZ w) (hw : ws.length ≤ 9) : ∀ {lys : List Ly} {ss : List R}, (∀ y ∈ lys, gO ws.length y) -> (∀ r ∈ ss, n5 108 r) -> ∀ r ∈ lys.foldl (fun ss y => iH (gR ws y) ss y.1) ss, n5 108 r
 | [], ss, _, h => h
 | y :: lys, ss, hl, h => by
  refine rF (lys := lys) ok hw (fun z hz => hl z (List.mem_cons_of_mem _ hz)) ?_
  have sp := wo ok hw (hl y List.mem_cons_self)
  have go : ∀ (ts : List Nat) (ss : List R), (∀ r ∈ ss, n5 108 r) -> ∀ r ∈ iH (gR ws y) ss ts, n5 108 r := by
   intro ts
   induction ts with
   | nil => intro ss h; exact h
   | cons t ts ih =>
    intro ss h
    refine ih (ss.set t (gR ws y)) fun r hr => ?_
    rcases List.mem_or_eq_of_mem_set hr with z | z
    ·exact h r z
    ·rw [z]; exact sp
  exact go y.1 ss h
theorem wy {ws : List Wk} {es : List Ln} {ss : List R} (hw : ∀ w ∈ ws, dZ w) (lw : ws.length ≤ 9) (ok : mX ws.length es) (le : es.length ≤ 8) (hs : ∀ r ∈ ss, fq r) (ls : ss.length = 24) : o9 (.tuple [tS ws, tU es, .tuple (ss.map dR)]) := by
 refine Sh.shows (k := 4) (n := 600017) (Sh.tup (k := 3) (n := 190000) (m := 3) (fun e he => ?_) (Nat.le_refl _) (by decide)) (by decide) (by decide)
 simp only [List.mem_cons, List.not_mem_nil, or_false] at he
 rcases he with rfl | rfl | rfl
 ·refine (Sh.tup (k := 2) (n := 20000) (m := 9) (N := 190000) (fun d hd => ?_) (by rw [List.length_map]; exact lw) (by decide)).mono (by decide) (by decide)
  obtain ⟨w, hw', rfl⟩ := List.mem_map.mp hd
  exact wx (hw w hw')
 ·refine (Sh.tup (k := 1) (n := 6000) (m := 8) (N := 190000) (fun d hd => ?_) (by rw [List.length_map]; exact le) (by decide)).mono (by decide) (by decide)
  obtain ⟨e, he, rfl⟩ := List.mem_map.mp hd
  have o := ok e he
  refine Sh.tup (k := 0) (n := 2000) (m := 2) (fun d hd => ?_) (Nat.le_refl _) (by decide)
  simp only [List.mem_cons, List.not_mem_nil, or_false] at hd
  rcases hd with rfl | rfl
  ·exact gU (fM (by omega))
  ·exact gU (fM (by omega))
 ·refine (Sh.tup (k := 1) (n := 5000) (m := 24) (N := 190000) (fun d hd => ?_) (by rw [List.length_map, ls]; exact Nat.le_refl _) (by decide)).mono (by decide) (by decide)
  obtain ⟨r, hr, rfl⟩ := List.mem_map.mp hd
  exact zp (hs r hr).wf (by decide)
theorem qE (ps : List (List Pc)) : (Ar ps).depth ≤ 4 := jm fun q _ => jm fun c _ => qF c
theorem yt {ps : List (List Pc)} (h : ps.length ≤ 24) (h8 : ∀ q ∈ ps, q.length ≤ 8) : pO (Ar ps) = true := rh (by omega) fun q hq => rh (by have := h8 q hq; omega) fun c _ => yu c
def pG (K : Fg) : Sp := fun vs H Q _ => ∃ (v w : V) (r q : R), vs = [v, w] /\ RV K H v r /\ RV K H w q /\ fq r /\ fq q /\ ∀ u, RV K H u (fE r q) -> Q u H
structure vE (K : Fg) (H : Hp) (v u : V) (ws : List Wk) (es : List Ln) : Prop where
 wv : eP K H v ws
 w8 : ws.length ≤ 8
 ok : ∀ w ∈ ws, dZ w
 lv : lI K H u es
 eok : mX ws.length es
 rk : v7 ws.length es
 e8 : es.length ≤ 8
theorem vE.mono {K : Fg} {H H' : Hp} {v u : V} {ws : List Wk} {es : List Ln} (h : vE K H v u ws es) (t : aN K H H') : vE K H' v u ws es := ⟨h.wv.mono t, h.w8, h.ok, h.lv.mono t, h.eok, h.rk, h.e8⟩
def gT (K : Fg) : Sp := fun vs H Q _ => ∃ (v : V) (l wl : Addr) (ws : List Wk) (es : List Ln) (rows : List Addr) (L : Nat -> Nat -> Bool) (ls : List Nat), vs = [v, .ref l, .ref wl] /\ eP K H v ws /\ ws.length ≤ 8 /\ lH H l rows ws.length L /\ yX ws.length es L /\ aO K H wl (aF ls) /\ (∀ i ∈ ls, i < ws.length) /\ ls ≠ [] /\ ls.length ≤ 8 /\ v7 ws.length es /\ ∀ H', aA H H' -> Q (.int (gz ws es ls : Nat)) H'
def lW (K : Fg) : Sp := fun vs H Q _ => ∃ (v u : V) (ws : List Wk) (es : List Ln), vs = [v, u] /\ vE K H v u ws es /\ ∀ (l : Addr) (H' : Hp), aA H H' -> H l = none -> H' l = some (.lst (aF (cM ws es ws.length))) -> Q (.ref l) H'
def kL (K : Fg) : Sp := fun vs H Q _ => ∃ (v u : V) (o lf : Addr) (ws : List Wk) (ord : List Nat) (xs : List V) (rs : List R) (t : Nat) (sp : R), vs = [v, .ref o, .ref lf, .int (t : Nat), u] /\ eP K H v ws /\ H o = some (.lst (aF ord)) /\ H lf = some (.lst xs) /\ o ≠ lf /\ cO (RV K H) xs rs /\ rs.length = ws.length /\ (∀ r ∈ rs, fq r) /\ RV K H u sp /\ fq sp /\ (∀ i ∈ ord, i < ws.length) /\ ord.length ≤ 8 ∧
 ∀ (w : V) (ys : List V) (H' : Hp), aT lf H H' -> H' lf = some (.lst ys) -> cO (RV K H') ys (gl ws ord t rs sp).1 -> v6 K H' w (gl ws ord t rs sp).2.2 -> Q w H'
def rM (K : Fg) (C : Addr) : Sp := fun vs H Q E => ∃ (v u s : V) (ws : List Wk) (es : List Ln) (ss : List R), vs = [v, u, s] /\ vE K H v u ws es /\ vz K H s ss /\ ss.length = 24 /\ (∀ r ∈ ss, fq r) /\ (fm (eX ws es ss).1 = none -> ∀ (w : V) (H' : Hp), aA H H' -> bJ K H' w (Ar (eX ws es ss).2) -> Q w H') ∧
 (∀ i, fm (eX ws es ss).1 = some i -> ∀ (dd : Addr) (H' : Hp), aA H H' -> H' dd = some (dO dd [("work", .int (i : Nat))]) -> E (.ref C) (some dd) H')
def jd (K : Fg) : Sp := fun vs H Q _ => ∃ (v : V) (ws : List Wk), vs = [v] /\ eP K H v ws /\ ws.length ≤ 8 /\ (∀ w ∈ ws, dZ w) /\ ∀ (l : Addr) (xs : List V) (ss : List R) (H' : Hp), aA H H' -> H' l = some (.lst xs) -> cO (RV K H') xs ss -> ss.length = 24 -> (∀ r ∈ ss, n5 108 r) -> Q (.ref l) H'
def kI (K : Fg) : Sp := fun vs H Q _ => ∃ (v : V) (es : List Ln) (w : Nat), vs = [v, .int (w : Nat)] /\ lI K H v es /\ es.length ≤ 64 /\ ∀ (l : Addr) (as : List Nat) (H' : Hp), aA H H' -> H' l = some (.lst (aF as)) -> (∀ x, x ∈ as ↔ gQ es x w) -> as.length ≤ 64 -> Q (.ref l) H'
def nk (_ : Fg) : Sp := fun vs H Q _ => ∃ i : Int, vs = [.int i] /\ 0 ≤ i /\ i ≤ 1000 /\ Q (.int (i * 7 % 11)) H
def kF (K : Fg) : Sp := fun vs H Q _ => ∃ (t s : Addr) (n : Nat), vs = [.ref t, .int n] /\ bR K H t s /\ n ≤ 8 /\ ∀ (v : V) (es : List Ln) (H' : Hp), aT t H H' -> bR K H' t s -> lI K H' v es -> mX n es -> v7 n es -> es.length ≤ 6 -> Q v H'
def lZ (K : Fg) : Sp := fun vs H Q _ => ∃ (v u : V) (a : Addr) (ws : List Wk) (es : List Ln) (come : List Nat), vs = [v, u, .ref a] /\ vE K H v u ws es /\ aO K H a (aF come) /\ bX ws.length come ≠ [] /\ ∀ H', aA H H' -> Q (.int (gz ws es (bX ws.length come) : Nat)) H'
def kG (K : Fg) : Sp := fun vs H Q _ => ∃ (v u s : V) (ws : List Wk) (es : List Ln) (ss : List R), vs = [v, u, s] /\ vE K H v u ws es /\ vz K H s ss /\ ss.length = 24 /\ (∀ r ∈ ss, fq r) /\ ∀ (w : V) (H' : Hp), aA H H' -> bJ K H' w (wP ws es ss) -> Q w H'
def kD (K : Fg) (C : Addr) : Sp := fun vs H Q _ => ∃ (x dd : Addr) (fs : List (Str × V)), vs = [.ref x] /\ H x = some (qU x C dd) /\ H dd = some (dO dd fs) /\ ∀ (l : Addr) (H' : Hp), aA H H' -> H' l = some (.lst [.bl true, .bl true, .bl true, .bl false]) -> Q (.ref l) H'
noncomputable def A0 (K : Fg) (C : Addr) (H : Hp) (u : V) (ws : List Wk) (es : List Ln) (ss : List R) : Prop := match fm (eX ws es ss).1 with
 | none => ∃ p x l, u = .ref p /\ bt K H p [x, .ref l] /\ bJ K H x (Ar (eX ws es ss).2) /\ H l = some (.lst [])
 | some i => ∃ p l x dd, u = .ref p /\ bt K H p [.ref x, .ref l] /\ H x = some (qU x C dd) /\ H dd = some (dO dd [("work", .int (i : Nat))]) /\ H l = some (.lst [.bl true, .bl true, .bl true, .bl false])
def kC (K : Fg) (C : Addr) : Sp := fun vs H Q _ => ∃ (v u s : V) (ws : List Wk) (es : List Ln) (ss : List R), vs = [v, u, s] /\ vE K H v u ws es /\ vz K H s ss /\ ss.length = 24 /\ (∀ r ∈ ss, fq r) /\ ∀ (w : V) (H' : Hp), aA H H' -> A0 K C H' w ws es ss -> Q w H'
def f8 (K : Fg) : Sp := fun vs H Q _ => ∃ (t s : Addr) (v : V) (ws : List Wk), vs = [.ref t, v] /\ bR K H t s /\ eP K H v ws /\ ws.length ≤ 8 /\ (∀ w ∈ ws, dZ w) /\ ∀ (w : V) (ss : List R) (H' : Hp), aT t H H' -> bR K H' t s -> vz K H' w ss -> ss.length = 24 -> (∀ r ∈ ss, fq r) -> Q w H'
def kJ (K : Fg) : Sp := fun vs H Q _ => ∃ (a : Addr) (ns : List Int), vs = [.ref a] /\ aO K H a (ns.map V.int) /\ ns.length ≤ 63 /\ ∀ H', Q (.bl true) H'
theorem wC : aJ ["thing"] ["thing"] (au jw) := fj
theorem jr : aJ ["one", "other", "high", "low", "rest"] ["one", "other"] (au pZ) := fj
theorem kO : aJ ["one", "other", "shared", "top", "rest"] ["one", "other"] (au js) := fj
theorem wz : aJ ["one", "other"] ["one", "other"] (au ju) := fj
theorem wG : aJ ["one", "other"] ["one", "other"] (au jB) := fj
theorem wB : aJ ["one", "other"] ["one", "other"] (au jv) := fj
theorem zt : aJ ["work", "turn"] ["work", "turn"] (au pR) := fj
theorem zu : aJ ["count"] ["count"] (au pU) := fj
theorem fv : aJ ["leanings", "lean", "ahead", "behind", "numbers", "bases", "leaners", "leaner", "base"] ["leanings", "lean"] (au jJ) := fj
theorem rP : aJ ["count", "leans", "leanings", "lean"] ["count", "leans"] (au pW) := fj
theorem oy : aJ ["works", "leanings", "waiting", "earliest", "like", "free"] ["works", "leanings", "waiting"] (au pX) := fj
theorem iJ : aJ ["works", "leans", "leanings", "waiting", "order", "number"] ["works", "leans"] (au jI) := fj
theorem jp : aJ ["works", "order", "left", "turn", "speed", "pieces", "room", "number", "amount"] ["works", "order", "left", "turn", "speed"] (au pQ) := fj
theorem f9 : aJ ["works", "leans", "speeds", "order", "left", "plan", "turn", "number", "amount"] ["works", "leans", "speeds"] (au jt) := fj
theorem wJ : aJ ["_law_script"] ["_law_script"] (au jH) := fj
theorem gW : aJ ["_law_tape_here", "_law_many", "_law_spot", "_law_cell", "_law_mixed", "_law_found"] ["_law_tape_here", "_law_many"] (au jG) := fj
theorem iM : aJ ["_law_due", "_law_found"] ["_law_due", "_law_found"] (au jR) := fj
theorem nz : aJ ["_law_top", "_law_bottom", "_law_one", "_law_other"] ["_law_top", "_law_bottom"] (au jF) := fj
theorem wF : aJ ["_law_one", "_law_other"] ["_law_one", "_law_other"] (au jA) := fj
theorem wE : aJ ["_law_one", "_law_other"] ["_law_one", "_law_other"] (au jz) := fj
theorem wI : aJ ["_law_one", "_law_other"] ["_law_one", "_law_other"] (au jE) := fj
theorem kP : aJ ["_law_some", "_law_found", "_law_one"] ["_law_some"] (au jy) := fj
theorem ec : aJ ["_law_tape_here", "_law_many", "_law_end", "_law_works_here", "_law_k", "_law_first", "_law_last", "_law_way"] ["_law_tape_here", "_law_many"] (au jQ) := fj
theorem wK : aJ ["_law_works_here"] ["_law_works_here"] (au jP) := fj
theorem eT : aJ ["_law_works_here", "_law_left", "_law_units_here", "_law_spans", "_law_number", "_law_places", "_law_best", "_law_begin", "_law_end", "_law_some", "_law_many", "_law_long", "_law_more"] ["_law_works_here", "_law_left"] (au pV) := fj
theorem jq : aJ ["_law_works_here", "_law_left", "_law_found", "_law_layer"] ["_law_works_here"] (au pT) := fj
theorem wH : aJ ["_law_works_here", "_law_layer"] ["_law_works_here", "_law_layer"] (au jD) := fj
theorem ow : aJ ["_law_works_here", "_law_speeds_here", "_law_layer", "_law_turn"] ["_law_works_here"] (au pS) := fj
theorem iL : aJ ["_law_leans_here", "_law_work", "_law_found", "_law_at"] ["_law_leans_here", "_law_work"] (au jO) := fj
theorem gX : aJ ["_law_tape_here", "_law_many", "_law_order", "_law_pairs", "_law_k", "_law_one", "_law_other"] ["_law_tape_here", "_law_many"] (au jN) := fj
theorem wD : aJ ["_law_number"] ["_law_number"] (au jx) := fj
theorem iI : aJ ["_law_works_here", "_law_leans_here", "_law_come", "_law_left", "_law_last", "_law_number"] ["_law_works_here", "_law_leans_here", "_law_come"] (au jC) := fj
theorem dY : aJ ["_law_works_here", "_law_leans_here", "_law_speeds_here", "_law_order", "_law_rest", "_law_plan", "_law_turn", "_law_room", "_law_pieces", "_law_number", "_law_here", "_law_part", "_law_late"] ["_law_works_here", "_law_leans_here", "_law_speeds_here"] (au jM) := fj
theorem rQ : aJ ["_law_e", "_law_marks_here"] ["_law_e"] (au jL) := fj
theorem iN : aJ ["_law_tape_here", "_law_works_here", "_law_speeds_here", "_law_way", "_law_at", "_law_more"] ["_law_tape_here", "_law_works_here"] (au pY) := fj
theorem iK : aJ ["_law_works_here", "_law_leans_here", "_law_speeds_here", "_law_told", "_law_e"] ["_law_works_here", "_law_leans_here", "_law_speeds_here"] (au jK) := fj
theorem d9 : aJ ["_law_script", "_law_tape_here", "_law_k", "_law_works_here", "_law_leans_here", "_law_speeds_here", "_law_due", "_law_ahead", "_law_found", "_law_marks_here"] ["_law_script"] (au gq) := fj
theorem wA : aJ ["self", "work"] ["self", "work"] (au gr) := fj
end My
namespace My
open PySem L2 B PyProof.Rows
section
variable {P : Program} {w : World} {K : Fg} {mg : Str -> Option Value} {base : Heap} {t : Ad}
theorem qm (T : eQ K mg t) : bB P w K mg base dI 1 t.a_Q10 t.d_Q10 ["_law_due", "_law_found"] (pM K) := by
 refine T.F_Q10.ok iM (fun vs H Q E h => ?_) (fun cdv A outer s H vs Q E hr h => ?_)
 ·obtain ⟨_, _, _, rfl, _⟩ := h; rfl
 obtain ⟨v, w, d, rfl, hv, hw, dp, sm, k⟩ := h
 refine dN.ok (ag (aU (d4 (fw (bp (aj av (by rfl) T.z_isinstance boot_isinstance (ad (qv 0) (ad (aB (v := V.ty "tuple") rfl T.z_tuple boot_tuple rfl) af ae) ae))) (ee (bp (aj av (by rfl) T.z_isinstance boot_isinstance (ad (qv 0) (ad (aB (v := V.ty "list") rfl T.z_list boot_list rfl) af ae) ae)))))) (ag (aU (ay dG (aj av (by rfl) T.z_isinstance boot_isinstance (ad (qv 0) (ad (aB (v := V.ty "tuple") rfl T.z_tuple boot_tuple rfl) af ae) ae)) (aj av (by rfl) T.z_isinstance boot_isinstance (ad (qv 1) (ad (aB (v := V.ty "tuple") rfl T.z_tuple boot_tuple rfl) af ae) ae)) (ax _)) (ao (az cL)) aD)
   (ag (aU (ay dG (aj av (by rfl) T.z_isinstance boot_isinstance (ad (qv 0) (ad (aB (v := V.ty "list") rfl T.z_list boot_list rfl) af ae) ae)) (aj av (by rfl) T.z_isinstance boot_isinstance (ad (qv 1) (ad (aB (v := V.ty "list") rfl T.z_list boot_list rfl) af ae) ae)) (ax _)) (ao (az cL)) aD)
   (ag (aU (ay dG (aj aw (by rfl) T.z_len boot_len (ad (qv 0) af ae)) (aj aw (by rfl) T.z_len boot_len (ad (qv 1) af ae)) (ax _)) (ao (az cL)) aD)
   (ao iP)))) aD)
   (ag (aU (ay eN (qv 0) dr (ax _)) (ao (az (bC eN (qv 1) dr (ax _)))) aD)
   (ag (aU (bp (aj av (by rfl) T.z_isinstance boot_isinstance (ad (qv 0) (ad (aB (v := V.ty "str") rfl T.z_str boot_str rfl) af ae) ae))) (ao (az (cE (aj av (by rfl) T.z_isinstance boot_isinstance (ad (qv 1) (ad (aB (v := V.ty "str") rfl T.z_str boot_str rfl) af ae) ae)) (di (bC bF (qv 1) (qv 0) (ax _)))))) aD)
   (ag (aU (bp (aj av (by rfl) T.z_isinstance boot_isinstance (ad (qv 0) (ad (aB (v := V.ty "bool") rfl T.z_bool boot_bool rfl) af ae) ae))) (ao (az (cE (aj av (by rfl) T.z_isinstance boot_isinstance (ad (qv 1) (ad (aB (v := V.ty "bool") rfl T.z_bool boot_bool rfl) af ae) ae)) (di (bC bF (qv 1) (qv 0) (ax _)))))) aD)
   (ao (az (cE (aj av (by rfl) T.z_isinstance boot_isinstance (ad (qv 1) (ad (aB (v := V.ty "int") rfl T.z_int boot_int rfl) af ae) ae)) (cE (iQ (aj av (by rfl) T.z_isinstance boot_isinstance (ad (qv 1) (ad (aB (v := V.ty "bool") rfl T.z_bool boot_bool rfl) af ae) ae))) (di (bC bF (qv 1) (qv 0) (ax _))))))))))) ?_
 try dsimp only [Cx.nox, Cx.wish, bO]
 cases hv with
 | non =>
  cases hw
  refine ⟨_, rfl, _, _, _, _, rfl, .non, cf, _, rfl, bi ?_⟩
  refine ⟨_, rfl, _, _, _, _, rfl, .non, cF, _, rfl, bi ?_⟩
  refine ⟨_, rfl, rfl, _, rfl, bM ?_⟩
  exact ⟨_, rfl, rfl, k H (aA.refl H)⟩
 | bl b =>
  cases hw
  refine ⟨_, rfl, _, _, _, _, rfl, .bl b, c5, _, rfl, bi ?_⟩
  refine ⟨_, rfl, _, _, _, _, rfl, .bl b, dE, _, rfl, bi ?_⟩
  refine ⟨_, rfl, rfl, _, rfl, aV (by intro z; cases z) ?_⟩
  refine ⟨_, rfl, _, _, _, _, rfl, .bl b, dU, _, rfl, bi ?_⟩
  refine ⟨_, rfl, _, _, _, _, rfl, .bl b, bH, _, rfl, bM ?_⟩
  refine ⟨_, rfl, _, _, _, _, rfl, .bl b, bH, _, rfl, bM ?_⟩
  have := k H (aA.refl H)
  exact ⟨_, rfl, _, rfl, rfl, by rw [decide_eq_true rfl]; exact this⟩
 | int i =>
  cases hw
  refine ⟨_, rfl, _, _, _, _, rfl, .int i, dD, _, rfl, bi ?_⟩
  refine ⟨_, rfl, _, _, _, _, rfl, .int i, dS, _, rfl, bi ?_⟩
  refine ⟨_, rfl, rfl, _, rfl, aV (by intro z; cases z) ?_⟩
  refine ⟨_, rfl, _, _, _, _, rfl, .int i, eg, _, rfl, bi ?_⟩
  refine ⟨_, rfl, _, _, _, _, rfl, .int i, bT, _, rfl, bi ?_⟩
  refine ⟨_, rfl, _, _, _, _, rfl, .int i, eh, _, rfl, bM ?_⟩
  refine ⟨_, rfl, _, _, _, _, rfl, .int i, bT, _, rfl, _, rfl, bM ?_⟩
  have := k H (aA.refl H)
  exact ⟨_, rfl, _, rfl, rfl, by rw [decide_eq_true rfl]; exact this⟩
 | str x =>
  cases hw
  refine ⟨_, rfl, _, _, _, _, rfl, .str x, dB, _, rfl, bi ?_⟩
  refine ⟨_, rfl, _, _, _, _, rfl, .str x, dQ, _, rfl, bi ?_⟩
  refine ⟨_, rfl, rfl, _, rfl, aV (by intro z; cases z) ?_⟩
  refine ⟨_, rfl, _, _, _, _, rfl, .str x, cr, _, rfl, bM ?_⟩
  refine ⟨_, rfl, _, _, _, _, rfl, .str x, cr, _, rfl, bM ?_⟩
  have := k H (aA.refl H)
  exact ⟨_, rfl, _, rfl, rfl, by rw [decide_eq_true rfl]; exact this⟩
 | lst e h => exact absurd dp (Nat.not_succ_le_zero _)
 | tup e h => exact absurd dp (Nat.not_succ_le_zero _)
theorem ql (T : eQ K mg t) : bB P w K mg base dI 2 t.a_Q10 t.d_Q10 ["_law_due", "_law_found"] (pK K) := by
 refine T.F_Q10.ok iM (fun vs H Q E h => ?_) (fun cdv A outer s H vs Q E hr h => ?_)
 ·obtain ⟨_, _, _, rfl, _⟩ := h; rfl
 obtain ⟨v, w, d, rfl, hv, hw, dp, sm, k⟩ := h
 refine dN.ok (ag (aU (d4 (fw (bp (aj av (by rfl) T.z_isinstance boot_isinstance (ad (qv 0) (ad (aB (v := V.ty "tuple") rfl T.z_tuple boot_tuple rfl) af ae) ae))) (ee (bp (aj av (by rfl) T.z_isinstance boot_isinstance (ad (qv 0) (ad (aB (v := V.ty "list") rfl T.z_list boot_list rfl) af ae) ae)))))) (ag (aU (ay dG (aj av (by rfl) T.z_isinstance boot_isinstance (ad (qv 0) (ad (aB (v := V.ty "tuple") rfl T.z_tuple boot_tuple rfl) af ae) ae)) (aj av (by rfl) T.z_isinstance boot_isinstance (ad (qv 1) (ad (aB (v := V.ty "tuple") rfl T.z_tuple boot_tuple rfl) af ae) ae)) (ax _)) (ao (az cL)) aD)
   (ag (aU (ay dG (aj av (by rfl) T.z_isinstance boot_isinstance (ad (qv 0) (ad (aB (v := V.ty "list") rfl T.z_list boot_list rfl) af ae) ae)) (aj av (by rfl) T.z_isinstance boot_isinstance (ad (qv 1) (ad (aB (v := V.ty "list") rfl T.z_list boot_list rfl) af ae) ae)) (ax _)) (ao (az cL)) aD)
   (ag (aU (ay dG (aj aw (by rfl) T.z_len boot_len (ad (qv 0) af ae)) (aj aw (by rfl) T.z_len boot_len (ad (qv 1) af ae)) (ax _)) (ao (az cL)) aD)
   (ao (az (aj (fT rfl) (by rfl) T.z_all boot_all (ad (bx (N' := ["_law_k", "_law_due", "_law_found"]) (src := [none, some 0, some 1]) rfl (by exact (bD rfl T.z_range (ad (aj aw (by rfl) T.z_len boot_len (ad (qv 0) af ae)) af aG))) (fun _ _ _ _ _ => (by exact (by exact aH (i := 0) (by show List.Nodup (["_law_k", "_law_due", "_law_found"] : List Str); decide +kernel) (by exact rfl) (by first | exact Or.inl rfl | exact Or.inr rfl)))) (fun _ _ _ _ _ => cA) (fun _ _ _ _ _ => (by exact (by exact (dM (qm T) (by exact hr.mono (by decide)) (by exact rfl) T.m_Q10 T.F_Q10.kp T.b_Q10 (by exact .nil) (by exact fY) (ad (by exact (bj (aX (K := K) (by exact rfl)) (by exact (qv 1)) (by exact (qv 0)) (by exact fun _ _ => rfl))) (ad (by exact (bj (aX (K := K) (by exact rfl)) (by exact (qv 2)) (by exact (qv 0)) (by exact fun _ _ => rfl))) af aP) aP))))) (by exact ⟨rfl, rfl, rfl, rfl, ⟨rfl, rfl, rfl, rfl, trivial⟩⟩) rfl (by decide +kernel) rfl (by decide +kernel) (by exact aY rfl ⟨rfl, ⟨rfl, trivial⟩⟩)) af dn))))))) aD)
   (ag (aU (ay eN (qv 0) dr (ax _)) (ao (az (bC eN (qv 1) dr (ax _)))) aD)
   (ag (aU (bp (aj av (by rfl) T.z_isinstance boot_isinstance (ad (qv 0) (ad (aB (v := V.ty "str") rfl T.z_str boot_str rfl) af ae) ae))) (ao (az (cE (aj av (by rfl) T.z_isinstance boot_isinstance (ad (qv 1) (ad (aB (v := V.ty "str") rfl T.z_str boot_str rfl) af ae) ae)) (di (bC bF (qv 1) (qv 0) (ax _)))))) aD)
   (ag (aU (bp (aj av (by rfl) T.z_isinstance boot_isinstance (ad (qv 0) (ad (aB (v := V.ty "bool") rfl T.z_bool boot_bool rfl) af ae) ae))) (ao (az (cE (aj av (by rfl) T.z_isinstance boot_isinstance (ad (qv 1) (ad (aB (v := V.ty "bool") rfl T.z_bool boot_bool rfl) af ae) ae)) (di (bC bF (qv 1) (qv 0) (ax _)))))) aD)
   (ao (az (cE (aj av (by rfl) T.z_isinstance boot_isinstance (ad (qv 1) (ad (aB (v := V.ty "int") rfl T.z_int boot_int rfl) af ae) ae)) (cE (iQ (aj av (by rfl) T.z_isinstance boot_isinstance (ad (qv 1) (ad (aB (v := V.ty "bool") rfl T.z_bool boot_bool rfl) af ae) ae))) (di (bC bF (qv 1) (qv 0) (ax _))))))))))) ?_
 try dsimp only [Cx.nox, Cx.wish, bO]
 cases hv with
 | non =>
  cases hw
  refine ⟨_, rfl, _, _, _, _, rfl, .non, cf, _, rfl, bi ?_⟩
  refine ⟨_, rfl, _, _, _, _, rfl, .non, cF, _, rfl, bi ?_⟩
  refine ⟨_, rfl, rfl, _, rfl, bM ?_⟩
  exact ⟨_, rfl, rfl, k H (aA.refl H)⟩
 | bl b =>
  cases hw
  refine ⟨_, rfl, _, _, _, _, rfl, .bl b, c5, _, rfl, bi ?_⟩
  refine ⟨_, rfl, _, _, _, _, rfl, .bl b, dE, _, rfl, bi ?_⟩
  refine ⟨_, rfl, rfl, _, rfl, aV (by intro z; cases z) ?_⟩
  refine ⟨_, rfl, _, _, _, _, rfl, .bl b, dU, _, rfl, bi ?_⟩
  refine ⟨_, rfl, _, _, _, _, rfl, .bl b, bH, _, rfl, bM ?_⟩
  refine ⟨_, rfl, _, _, _, _, rfl, .bl b, bH, _, rfl, bM ?_⟩
  have := k H (aA.refl H)
  exact ⟨_, rfl, _, rfl, rfl, by rw [decide_eq_true rfl]; exact this⟩
 | int i =>
  cases hw
  refine ⟨_, rfl, _, _, _, _, rfl, .int i, dD, _, rfl, bi ?_⟩
  refine ⟨_, rfl, _, _, _, _, rfl, .int i, dS, _, rfl, bi ?_⟩
  refine ⟨_, rfl, rfl, _, rfl, aV (by intro z; cases z) ?_⟩
  refine ⟨_, rfl, _, _, _, _, rfl, .int i, eg, _, rfl, bi ?_⟩
  refine ⟨_, rfl, _, _, _, _, rfl, .int i, bT, _, rfl, bi ?_⟩
  refine ⟨_, rfl, _, _, _, _, rfl, .int i, eh, _, rfl, bM ?_⟩
  refine ⟨_, rfl, _, _, _, _, rfl, .int i, bT, _, rfl, _, rfl, bM ?_⟩
  have := k H (aA.refl H)
  exact ⟨_, rfl, _, rfl, rfl, by rw [decide_eq_true rfl]; exact this⟩
 | str x =>
  cases hw
  refine ⟨_, rfl, _, _, _, _, rfl, .str x, dB, _, rfl, bi ?_⟩
  refine ⟨_, rfl, _, _, _, _, rfl, .str x, dQ, _, rfl, bi ?_⟩
  refine ⟨_, rfl, rfl, _, rfl, aV (by intro z; cases z) ?_⟩
  refine ⟨_, rfl, _, _, _, _, rfl, .str x, cr, _, rfl, bM ?_⟩
  refine ⟨_, rfl, _, _, _, _, rfl, .str x, cr, _, rfl, bM ?_⟩
  have := k H (aA.refl H)
  exact ⟨_, rfl, _, rfl, rfl, by rw [decide_eq_true rfl]; exact this⟩
 | lst e h => cases sm
 | @tup a xs ds e h =>
  cases hw with
  | @tup a' xs' _ e' h' =>
  have lx := cq h
  have lx' := cq h'
  have sm' : (decide (ds.length ≤ 1000) && fh ds) = true := sm
  rw [Bool.and_eq_true] at sm'
  obtain ⟨sm1, sm2⟩ := sm'
  have ln : ds.length ≤ 1000 := of_decide_eq_true sm1
  have dv : bJ K H (.ref a) (.tuple ds) := .tup e h
  have dw : bJ K H (.ref a') (.tuple ds) := .tup e' h'
  refine ⟨_, rfl, _, _, _, _, rfl, dv, be, _, rfl, bM ?_⟩
  refine ⟨_, rfl, _, _, _, _, rfl, dv, be, _, rfl, _, _, _, _, rfl, dw, be, rfl, _, rfl, dH rfl ?_⟩
  refine ⟨_, rfl, _, _, _, _, rfl, dv, bS, _, rfl, _, _, _, _, rfl, dw, bS, rfl, _, rfl, dH rfl ?_⟩
  refine ⟨_, rfl, a, _, rfl, .inr e, _, rfl, a', _, rfl, .inr e', rfl, _, rfl, dH (congrArg (fun n : Nat => V.int n) (lx.trans lx'.symm)) ?_⟩
  refine ⟨_, rfl, a, _, rfl, .inr e, _, rfl, by omega, by omega, fun D hD => bz fb (fun _ => true) (fun _ => V.bl true) hD (by omega) (fun i x H' hi s' hx R E kR kE => ?_) fun H4 s4 h4 => ?_⟩
  ·subst hx
   rw [Int.zero_add]
   obtain ⟨d, hd⟩ : ∃ d, ds[i]? = some d := ⟨_, List.getElem?_eq_getElem (by omega)⟩
   obtain ⟨x, hx, dx⟩ := cJ h hd
   obtain ⟨y, hy, dy⟩ := cJ h' hd
   have t' := aN.same (K := K) s'
   refine ⟨eJ.set rfl, _, rfl, _, rfl, a, _, _, _, rfl, rfl, t' _ _ e, aL hx, _, rfl, _, rfl, a', _, _, _, rfl, rfl, t' _ _ e', aL hy, x, y, d, rfl, dx.same s', dy.same s', ?_, fu sm2 hd, fun H'' s'' => kR rfl H'' s''⟩
   have : PyData.depthAll ds + 1 ≤ 0 + 1 := dp
   exact Nat.le_trans (dW hd) (Nat.le_of_succ_le_succ this)
  ·have e4 : (((List.range (xs.length : Int).toNat).filter fun _ => true).map fun _ => V.bl true) = (((List.range (xs.length : Int).toNat).filter fun _ => true).map fun _ => true).map V.bl := by rw [List.map_map]; rfl
   rw [e4] at h4
   have q := k H4 s4
   refine ⟨D, _, rfl, aO.of h4, ?_⟩
   rw [show ((((List.range (xs.length : Int).toNat).filter fun _ => true).map fun _ => true).all id) = true by simp]
   exact q
theorem qk (T : eQ K mg t) : bB P w K mg base dI 3 t.a_Q10 t.d_Q10 ["_law_due", "_law_found"] (pJ K) := by
 refine T.F_Q10.ok iM (fun vs H Q E h => ?_) (fun cdv A outer s H vs Q E hr h => ?_)
 ·obtain ⟨_, _, _, rfl, _⟩ := h; rfl
 obtain ⟨v, w, d, rfl, hv, hw, dp, sm, k⟩ := h
 refine dN.ok (ag (aU (d4 (fw (bp (aj av (by rfl) T.z_isinstance boot_isinstance (ad (qv 0) (ad (aB (v := V.ty "tuple") rfl T.z_tuple boot_tuple rfl) af ae) ae))) (ee (bp (aj av (by rfl) T.z_isinstance boot_isinstance (ad (qv 0) (ad (aB (v := V.ty "list") rfl T.z_list boot_list rfl) af ae) ae)))))) (ag (aU (ay dG (aj av (by rfl) T.z_isinstance boot_isinstance (ad (qv 0) (ad (aB (v := V.ty "tuple") rfl T.z_tuple boot_tuple rfl) af ae) ae)) (aj av (by rfl) T.z_isinstance boot_isinstance (ad (qv 1) (ad (aB (v := V.ty "tuple") rfl T.z_tuple boot_tuple rfl) af ae) ae)) (ax _)) (ao (az cL)) aD)
   (ag (aU (ay dG (aj av (by rfl) T.z_isinstance boot_isinstance (ad (qv 0) (ad (aB (v := V.ty "list") rfl T.z_list boot_list rfl) af ae) ae)) (aj av (by rfl) T.z_isinstance boot_isinstance (ad (qv 1) (ad (aB (v := V.ty "list") rfl T.z_list boot_list rfl) af ae) ae)) (ax _)) (ao (az cL)) aD)
   (ag (aU (ay dG (aj aw (by rfl) T.z_len boot_len (ad (qv 0) af ae)) (aj aw (by rfl) T.z_len boot_len (ad (qv 1) af ae)) (ax _)) (ao (az cL)) aD)
   (ao (az (aj (fT rfl) (by rfl) T.z_all boot_all (ad (bx (N' := ["_law_k", "_law_due", "_law_found"]) (src := [none, some 0, some 1]) rfl (by exact (bD rfl T.z_range (ad (aj aw (by rfl) T.z_len boot_len (ad (qv 0) af ae)) af aG))) (fun _ _ _ _ _ => (by exact (by exact aH (i := 0) (by show List.Nodup (["_law_k", "_law_due", "_law_found"] : List Str); decide +kernel) (by exact rfl) (by first | exact Or.inl rfl | exact Or.inr rfl)))) (fun _ _ _ _ _ => cA) (fun _ _ _ _ _ => (by exact (by exact (dM (ql T) (by exact hr.mono (by decide)) (by exact rfl) T.m_Q10 T.F_Q10.kp T.b_Q10 (by exact .nil) (by exact fY) (ad (by exact (bj (aX (K := K) (by exact rfl)) (by exact (qv 1)) (by exact (qv 0)) (by exact fun _ _ => rfl))) (ad (by exact (bj (aX (K := K) (by exact rfl)) (by exact (qv 2)) (by exact (qv 0)) (by exact fun _ _ => rfl))) af aP) aP))))) (by exact ⟨rfl, rfl, rfl, rfl, ⟨rfl, rfl, rfl, rfl, trivial⟩⟩) rfl (by decide +kernel) rfl (by decide +kernel) (by exact aY rfl ⟨rfl, ⟨rfl, trivial⟩⟩)) af dn))))))) aD)
   (ag (aU (ay eN (qv 0) dr (ax _)) (ao (az (bC eN (qv 1) dr (ax _)))) aD)
   (ag (aU (bp (aj av (by rfl) T.z_isinstance boot_isinstance (ad (qv 0) (ad (aB (v := V.ty "str") rfl T.z_str boot_str rfl) af ae) ae))) (ao (az (cE (aj av (by rfl) T.z_isinstance boot_isinstance (ad (qv 1) (ad (aB (v := V.ty "str") rfl T.z_str boot_str rfl) af ae) ae)) (di (bC bF (qv 1) (qv 0) (ax _)))))) aD)
   (ag (aU (bp (aj av (by rfl) T.z_isinstance boot_isinstance (ad (qv 0) (ad (aB (v := V.ty "bool") rfl T.z_bool boot_bool rfl) af ae) ae))) (ao (az (cE (aj av (by rfl) T.z_isinstance boot_isinstance (ad (qv 1) (ad (aB (v := V.ty "bool") rfl T.z_bool boot_bool rfl) af ae) ae)) (di (bC bF (qv 1) (qv 0) (ax _)))))) aD)
   (ao (az (cE (aj av (by rfl) T.z_isinstance boot_isinstance (ad (qv 1) (ad (aB (v := V.ty "int") rfl T.z_int boot_int rfl) af ae) ae)) (cE (iQ (aj av (by rfl) T.z_isinstance boot_isinstance (ad (qv 1) (ad (aB (v := V.ty "bool") rfl T.z_bool boot_bool rfl) af ae) ae))) (di (bC bF (qv 1) (qv 0) (ax _))))))))))) ?_
 try dsimp only [Cx.nox, Cx.wish, bO]
 cases hv with
 | non =>
  cases hw
  refine ⟨_, rfl, _, _, _, _, rfl, .non, cf, _, rfl, bi ?_⟩
  refine ⟨_, rfl, _, _, _, _, rfl, .non, cF, _, rfl, bi ?_⟩
  refine ⟨_, rfl, rfl, _, rfl, bM ?_⟩
  exact ⟨_, rfl, rfl, k H (aA.refl H)⟩
 | bl b =>
  cases hw
  refine ⟨_, rfl, _, _, _, _, rfl, .bl b, c5, _, rfl, bi ?_⟩
  refine ⟨_, rfl, _, _, _, _, rfl, .bl b, dE, _, rfl, bi ?_⟩
  refine ⟨_, rfl, rfl, _, rfl, aV (by intro z; cases z) ?_⟩
  refine ⟨_, rfl, _, _, _, _, rfl, .bl b, dU, _, rfl, bi ?_⟩
  refine ⟨_, rfl, _, _, _, _, rfl, .bl b, bH, _, rfl, bM ?_⟩
  refine ⟨_, rfl, _, _, _, _, rfl, .bl b, bH, _, rfl, bM ?_⟩
  have := k H (aA.refl H)
  exact ⟨_, rfl, _, rfl, rfl, by rw [decide_eq_true rfl]; exact this⟩
 | int i =>
  cases hw
  refine ⟨_, rfl, _, _, _, _, rfl, .int i, dD, _, rfl, bi ?_⟩
  refine ⟨_, rfl, _, _, _, _, rfl, .int i, dS, _, rfl, bi ?_⟩
  refine ⟨_, rfl, rfl, _, rfl, aV (by intro z; cases z) ?_⟩
  refine ⟨_, rfl, _, _, _, _, rfl, .int i, eg, _, rfl, bi ?_⟩
  refine ⟨_, rfl, _, _, _, _, rfl, .int i, bT, _, rfl, bi ?_⟩
  refine ⟨_, rfl, _, _, _, _, rfl, .int i, eh, _, rfl, bM ?_⟩
  refine ⟨_, rfl, _, _, _, _, rfl, .int i, bT, _, rfl, _, rfl, bM ?_⟩
  have := k H (aA.refl H)
  exact ⟨_, rfl, _, rfl, rfl, by rw [decide_eq_true rfl]; exact this⟩
 | str x =>
  cases hw
  refine ⟨_, rfl, _, _, _, _, rfl, .str x, dB, _, rfl, bi ?_⟩
  refine ⟨_, rfl, _, _, _, _, rfl, .str x, dQ, _, rfl, bi ?_⟩
  refine ⟨_, rfl, rfl, _, rfl, aV (by intro z; cases z) ?_⟩
  refine ⟨_, rfl, _, _, _, _, rfl, .str x, cr, _, rfl, bM ?_⟩
  refine ⟨_, rfl, _, _, _, _, rfl, .str x, cr, _, rfl, bM ?_⟩
  have := k H (aA.refl H)
  exact ⟨_, rfl, _, rfl, rfl, by rw [decide_eq_true rfl]; exact this⟩
 | lst e h => cases sm
 | @tup a xs ds e h =>
  cases hw with
  | @tup a' xs' _ e' h' =>
  have lx := cq h
  have lx' := cq h'
  have sm' : (decide (ds.length ≤ 1000) && fh ds) = true := sm
  rw [Bool.and_eq_true] at sm'
  obtain ⟨sm1, sm2⟩ := sm'
  have ln : ds.length ≤ 1000 := of_decide_eq_true sm1
  have dv : bJ K H (.ref a) (.tuple ds) := .tup e h
  have dw : bJ K H (.ref a') (.tuple ds) := .tup e' h'
  refine ⟨_, rfl, _, _, _, _, rfl, dv, be, _, rfl, bM ?_⟩
  refine ⟨_, rfl, _, _, _, _, rfl, dv, be, _, rfl, _, _, _, _, rfl, dw, be, rfl, _, rfl, dH rfl ?_⟩
  refine ⟨_, rfl, _, _, _, _, rfl, dv, bS, _, rfl, _, _, _, _, rfl, dw, bS, rfl, _, rfl, dH rfl ?_⟩
  refine ⟨_, rfl, a, _, rfl, .inr e, _, rfl, a', _, rfl, .inr e', rfl, _, rfl, dH (congrArg (fun n : Nat => V.int n) (lx.trans lx'.symm)) ?_⟩
  refine ⟨_, rfl, a, _, rfl, .inr e, _, rfl, by omega, by omega, fun D hD => bz fb (fun _ => true) (fun _ => V.bl true) hD (by omega) (fun i x H' hi s' hx R E kR kE => ?_) fun H4 s4 h4 => ?_⟩
  ·subst hx
   rw [Int.zero_add]
   obtain ⟨d, hd⟩ : ∃ d, ds[i]? = some d := ⟨_, List.getElem?_eq_getElem (by omega)⟩
   obtain ⟨x, hx, dx⟩ := cJ h hd
   obtain ⟨y, hy, dy⟩ := cJ h' hd
   have t' := aN.same (K := K) s'
   refine ⟨eJ.set rfl, _, rfl, _, rfl, a, _, _, _, rfl, rfl, t' _ _ e, aL hx, _, rfl, _, rfl, a', _, _, _, rfl, rfl, t' _ _ e', aL hy, x, y, d, rfl, dx.same s', dy.same s', ?_, fu sm2 hd, fun H'' s'' => kR rfl H'' s''⟩
   have : PyData.depthAll ds + 1 ≤ 1 + 1 := dp
   exact Nat.le_trans (dW hd) (Nat.le_of_succ_le_succ this)
  ·have e4 : (((List.range (xs.length : Int).toNat).filter fun _ => true).map fun _ => V.bl true) = (((List.range (xs.length : Int).toNat).filter fun _ => true).map fun _ => true).map V.bl := by rw [List.map_map]; rfl
   rw [e4] at h4
   have q := k H4 s4
   refine ⟨D, _, rfl, aO.of h4, ?_⟩
   rw [show ((((List.range (xs.length : Int).toNat).filter fun _ => true).map fun _ => true).all id) = true by simp]
   exact q
theorem qj (T : eQ K mg t) : bB P w K mg base dI 4 t.a_Q10 t.d_Q10 ["_law_due", "_law_found"] (pI K) := by
 refine T.F_Q10.ok iM (fun vs H Q E h => ?_) (fun cdv A outer s H vs Q E hr h => ?_)
 ·obtain ⟨_, _, _, rfl, _⟩ := h; rfl
 obtain ⟨v, w, d, rfl, hv, hw, dp, sm, k⟩ := h
 refine dN.ok (ag (aU (d4 (fw (bp (aj av (by rfl) T.z_isinstance boot_isinstance (ad (qv 0) (ad (aB (v := V.ty "tuple") rfl T.z_tuple boot_tuple rfl) af ae) ae))) (ee (bp (aj av (by rfl) T.z_isinstance boot_isinstance (ad (qv 0) (ad (aB (v := V.ty "list") rfl T.z_list boot_list rfl) af ae) ae)))))) (ag (aU (ay dG (aj av (by rfl) T.z_isinstance boot_isinstance (ad (qv 0) (ad (aB (v := V.ty "tuple") rfl T.z_tuple boot_tuple rfl) af ae) ae)) (aj av (by rfl) T.z_isinstance boot_isinstance (ad (qv 1) (ad (aB (v := V.ty "tuple") rfl T.z_tuple boot_tuple rfl) af ae) ae)) (ax _)) (ao (az cL)) aD)
   (ag (aU (ay dG (aj av (by rfl) T.z_isinstance boot_isinstance (ad (qv 0) (ad (aB (v := V.ty "list") rfl T.z_list boot_list rfl) af ae) ae)) (aj av (by rfl) T.z_isinstance boot_isinstance (ad (qv 1) (ad (aB (v := V.ty "list") rfl T.z_list boot_list rfl) af ae) ae)) (ax _)) (ao (az cL)) aD)
   (ag (aU (ay dG (aj aw (by rfl) T.z_len boot_len (ad (qv 0) af ae)) (aj aw (by rfl) T.z_len boot_len (ad (qv 1) af ae)) (ax _)) (ao (az cL)) aD)
   (ao (az (aj (fT rfl) (by rfl) T.z_all boot_all (ad (bx (N' := ["_law_k", "_law_due", "_law_found"]) (src := [none, some 0, some 1]) rfl (by exact (bD rfl T.z_range (ad (aj aw (by rfl) T.z_len boot_len (ad (qv 0) af ae)) af aG))) (fun _ _ _ _ _ => (by exact (by exact aH (i := 0) (by show List.Nodup (["_law_k", "_law_due", "_law_found"] : List Str); decide +kernel) (by exact rfl) (by first | exact Or.inl rfl | exact Or.inr rfl)))) (fun _ _ _ _ _ => cA) (fun _ _ _ _ _ => (by exact (by exact (dM (qk T) (by exact hr.mono (by decide)) (by exact rfl) T.m_Q10 T.F_Q10.kp T.b_Q10 (by exact .nil) (by exact fY) (ad (by exact (bj (aX (K := K) (by exact rfl)) (by exact (qv 1)) (by exact (qv 0)) (by exact fun _ _ => rfl))) (ad (by exact (bj (aX (K := K) (by exact rfl)) (by exact (qv 2)) (by exact (qv 0)) (by exact fun _ _ => rfl))) af aP) aP))))) (by exact ⟨rfl, rfl, rfl, rfl, ⟨rfl, rfl, rfl, rfl, trivial⟩⟩) rfl (by decide +kernel) rfl (by decide +kernel) (by exact aY rfl ⟨rfl, ⟨rfl, trivial⟩⟩)) af dn))))))) aD)
   (ag (aU (ay eN (qv 0) dr (ax _)) (ao (az (bC eN (qv 1) dr (ax _)))) aD)
   (ag (aU (bp (aj av (by rfl) T.z_isinstance boot_isinstance (ad (qv 0) (ad (aB (v := V.ty "str") rfl T.z_str boot_str rfl) af ae) ae))) (ao (az (cE (aj av (by rfl) T.z_isinstance boot_isinstance (ad (qv 1) (ad (aB (v := V.ty "str") rfl T.z_str boot_str rfl) af ae) ae)) (di (bC bF (qv 1) (qv 0) (ax _)))))) aD)
   (ag (aU (bp (aj av (by rfl) T.z_isinstance boot_isinstance (ad (qv 0) (ad (aB (v := V.ty "bool") rfl T.z_bool boot_bool rfl) af ae) ae))) (ao (az (cE (aj av (by rfl) T.z_isinstance boot_isinstance (ad (qv 1) (ad (aB (v := V.ty "bool") rfl T.z_bool boot_bool rfl) af ae) ae)) (di (bC bF (qv 1) (qv 0) (ax _)))))) aD)
   (ao (az (cE (aj av (by rfl) T.z_isinstance boot_isinstance (ad (qv 1) (ad (aB (v := V.ty "int") rfl T.z_int boot_int rfl) af ae) ae)) (cE (iQ (aj av (by rfl) T.z_isinstance boot_isinstance (ad (qv 1) (ad (aB (v := V.ty "bool") rfl T.z_bool boot_bool rfl) af ae) ae))) (di (bC bF (qv 1) (qv 0) (ax _))))))))))) ?_
 try dsimp only [Cx.nox, Cx.wish, bO]
 cases hv with
 | non =>
  cases hw
  refine ⟨_, rfl, _, _, _, _, rfl, .non, cf, _, rfl, bi ?_⟩
  refine ⟨_, rfl, _, _, _, _, rfl, .non, cF, _, rfl, bi ?_⟩
  refine ⟨_, rfl, rfl, _, rfl, bM ?_⟩
  exact ⟨_, rfl, rfl, k H (aA.refl H)⟩
 | bl b =>
  cases hw
  refine ⟨_, rfl, _, _, _, _, rfl, .bl b, c5, _, rfl, bi ?_⟩
  refine ⟨_, rfl, _, _, _, _, rfl, .bl b, dE, _, rfl, bi ?_⟩
  refine ⟨_, rfl, rfl, _, rfl, aV (by intro z; cases z) ?_⟩
  refine ⟨_, rfl, _, _, _, _, rfl, .bl b, dU, _, rfl, bi ?_⟩
  refine ⟨_, rfl, _, _, _, _, rfl, .bl b, bH, _, rfl, bM ?_⟩
  refine ⟨_, rfl, _, _, _, _, rfl, .bl b, bH, _, rfl, bM ?_⟩
  have := k H (aA.refl H)
  exact ⟨_, rfl, _, rfl, rfl, by rw [decide_eq_true rfl]; exact this⟩
 | int i =>
  cases hw
  refine ⟨_, rfl, _, _, _, _, rfl, .int i, dD, _, rfl, bi ?_⟩
  refine ⟨_, rfl, _, _, _, _, rfl, .int i, dS, _, rfl, bi ?_⟩
  refine ⟨_, rfl, rfl, _, rfl, aV (by intro z; cases z) ?_⟩
  refine ⟨_, rfl, _, _, _, _, rfl, .int i, eg, _, rfl, bi ?_⟩
  refine ⟨_, rfl, _, _, _, _, rfl, .int i, bT, _, rfl, bi ?_⟩
  refine ⟨_, rfl, _, _, _, _, rfl, .int i, eh, _, rfl, bM ?_⟩
  refine ⟨_, rfl, _, _, _, _, rfl, .int i, bT, _, rfl, _, rfl, bM ?_⟩
  have := k H (aA.refl H)
  exact ⟨_, rfl, _, rfl, rfl, by rw [decide_eq_true rfl]; exact this⟩
 | str x =>
  cases hw
  refine ⟨_, rfl, _, _, _, _, rfl, .str x, dB, _, rfl, bi ?_⟩
  refine ⟨_, rfl, _, _, _, _, rfl, .str x, dQ, _, rfl, bi ?_⟩
  refine ⟨_, rfl, rfl, _, rfl, aV (by intro z; cases z) ?_⟩
  refine ⟨_, rfl, _, _, _, _, rfl, .str x, cr, _, rfl, bM ?_⟩
  refine ⟨_, rfl, _, _, _, _, rfl, .str x, cr, _, rfl, bM ?_⟩
  have := k H (aA.refl H)
  exact ⟨_, rfl, _, rfl, rfl, by rw [decide_eq_true rfl]; exact this⟩
 | lst e h => cases sm
 | @tup a xs ds e h =>
  cases hw with
  | @tup a' xs' _ e' h' =>
  have lx := cq h
  have lx' := cq h'
  have sm' : (decide (ds.length ≤ 1000) && fh ds) = true := sm
  rw [Bool.and_eq_true] at sm'
  obtain ⟨sm1, sm2⟩ := sm'
  have ln : ds.length ≤ 1000 := of_decide_eq_true sm1
  have dv : bJ K H (.ref a) (.tuple ds) := .tup e h
  have dw : bJ K H (.ref a') (.tuple ds) := .tup e' h'
  refine ⟨_, rfl, _, _, _, _, rfl, dv, be, _, rfl, bM ?_⟩
  refine ⟨_, rfl, _, _, _, _, rfl, dv, be, _, rfl, _, _, _, _, rfl, dw, be, rfl, _, rfl, dH rfl ?_⟩
  refine ⟨_, rfl, _, _, _, _, rfl, dv, bS, _, rfl, _, _, _, _, rfl, dw, bS, rfl, _, rfl, dH rfl ?_⟩
  refine ⟨_, rfl, a, _, rfl, .inr e, _, rfl, a', _, rfl, .inr e', rfl, _, rfl, dH (congrArg (fun n : Nat => V.int n) (lx.trans lx'.symm)) ?_⟩
  refine ⟨_, rfl, a, _, rfl, .inr e, _, rfl, by omega, by omega, fun D hD => bz fb (fun _ => true) (fun _ => V.bl true) hD (by omega) (fun i x H' hi s' hx R E kR kE => ?_) fun H4 s4 h4 => ?_⟩
  ·subst hx
   rw [Int.zero_add]
   obtain ⟨d, hd⟩ : ∃ d, ds[i]? = some d := ⟨_, List.getElem?_eq_getElem (by omega)⟩
   obtain ⟨x, hx, dx⟩ := cJ h hd
   obtain ⟨y, hy, dy⟩ := cJ h' hd
   have t' := aN.same (K := K) s'
   refine ⟨eJ.set rfl, _, rfl, _, rfl, a, _, _, _, rfl, rfl, t' _ _ e, aL hx, _, rfl, _, rfl, a', _, _, _, rfl, rfl, t' _ _ e', aL hy, x, y, d, rfl, dx.same s', dy.same s', ?_, fu sm2 hd, fun H'' s'' => kR rfl H'' s''⟩
   have : PyData.depthAll ds + 1 ≤ 2 + 1 := dp
   exact Nat.le_trans (dW hd) (Nat.le_of_succ_le_succ this)
  ·have e4 : (((List.range (xs.length : Int).toNat).filter fun _ => true).map fun _ => V.bl true) = (((List.range (xs.length : Int).toNat).filter fun _ => true).map fun _ => true).map V.bl := by rw [List.map_map]; rfl
   rw [e4] at h4
   have q := k H4 s4
   refine ⟨D, _, rfl, aO.of h4, ?_⟩
   rw [show ((((List.range (xs.length : Int).toNat).filter fun _ => true).map fun _ => true).all id) = true by simp]
   exact q
theorem xF (T : eQ K mg t) : bB P w K mg base dI 1 t.a_Q37 t.d_Q37 ["thing"] (pH K) := by
 refine T.F_Q37.ok wC (fun vs H Q E h => ?_) (fun cdv A outer s H vs Q E hr h => ?_)
 ·obtain ⟨_, rfl, _⟩ := h; rfl
 obtain ⟨i, rfl, k⟩ := h
 refine dN.ok (ag (aU (bp (aj eZ (by rfl) T.z_isinstance boot_isinstance (ad (qv 0) (ad (aB (v := V.ty "list") rfl T.z_list boot_list rfl) af ae) ae))) (ao iP) aD)
   (ag (aU (bp (aj eZ (by rfl) T.z_isinstance boot_isinstance (ad (qv 0) (ad (aB (v := V.ty "tuple") rfl T.z_tuple boot_tuple rfl) af ae) ae))) (ao iP) aD)
   (ao (az (qv 0))))) ?_
 try dsimp only [Cx.nox, Cx.wish, bO]
 refine ⟨_, rfl, _, _, "int", false, rfl, .int i, by decide +kernel, false, rfl, bi ?_⟩
 refine ⟨_, rfl, _, _, "int", false, rfl, .int i, by decide +kernel, false, rfl, bi ?_⟩
 exact ⟨_, rfl, k⟩
theorem vU (T : eQ K mg t) : bB P w K mg base dI 1 t.a_Q0 t.d_Q0 ["one", "other"] (fV K) := by
 refine T.F_Q0.ok jr (fun vs H Q E h => ?_) (fun cdv A outer s H vs Q E hr h => ?_)
 ·obtain ⟨_, _, rfl, _⟩ := h; rfl
 obtain ⟨a, b, rfl, k⟩ := h
 refine dN.ok (ag (cD 2 jr.nd (aj jb (by rfl) T.z_abs boot_abs (ad (qv 0) af ae)))
   (ag (cD 3 jr.nd (aj jb (by rfl) T.z_abs boot_abs (ad (qv 1) af ae)))
   (ag (eU PassesOwn.never (ay dG (qv 3) ai (ax _))
   (ag (cD 4 jr.nd (aS eM (qv 2) (qv 3)))
   (ag (cD 2 jr.nd (qv 3))
   (ao (cD 3 jr.nd (qv 4))))))
   (ao (az (qv 2)))))) ?_
 try dsimp only [Cx.nox, Cx.wish, bO]
 refine ⟨_, rfl, _, rfl, _, rfl, _, rfl, ?_⟩
 rw [nY, nY]
 refine ⟨fun m σ H' => ∃ (x y : Int) (v : Option V), σ = [some (.int a), some (.int b), some (.int x), some (.int y), v] /\ H' = H /\ 0 ≤ x /\ 0 ≤ y /\ Int.gcd x y = Int.gcd a b /\ m = y.toNat, ⟨_, _, _, _, rfl, rfl, by omega, by omega, (by simp [Int.gcd]), rfl⟩, ?_⟩
 rintro m σ H' ⟨x, y, v, rfl, rfl, hx, hy, hg, rfl⟩
 refine ⟨_, rfl, rfl, _, rfl, ?_⟩
 by_cases c : y = 0
 ·subst c
  refine dH rfl ?_
  rw [← hg] at k
  refine ⟨_, rfl, ?_⟩
  have e : (x : Int) = (Int.gcd x 0 : Nat) := by simp [Int.gcd]; omega
  rw [← e] at k
  exact k
 ·refine oP (fun z => c (by injection z)) ?_
  refine ⟨_, fun _ _ z => z, ?_⟩
  refine ⟨_, rfl, _, rfl, _, _, rfl, rfl, (by omega), _, rfl, _, rfl, ?_⟩
  refine ⟨_, ?_, y, x % y, _, rfl, rfl, hy, Int.emod_nonneg _ c, ?_, rfl⟩
  ·have := Int.emod_lt_of_pos x (show 0 < y by omega)
   have := Int.emod_nonneg x c
   omega
  ·rw [mK hx (by omega), hg]
theorem xB (T : eQ K mg t) : bB P w K mg base dI 2 t.a_Q44 t.d_Q44 ["one", "other"] (ot K) := by
 refine T.F_Q44.ok kO (fun vs H Q E h => ?_) (fun cdv A outer s H vs Q E hr h => ?_)
 ·obtain ⟨_, _, _, _, _, _, rfl, _⟩ := h; rfl
 obtain ⟨v, w, r, q, n, m, rfl, hv, hw, wr, wq, hz, k⟩ := h
 refine dN.ok (ag (cD 2 kO.nd (dt (vU T) hr T.m_Q0 T.F_Q0.kp T.b_Q0 (ad (cK aM (qv 0) ai) (ad (cK aM (qv 1) ai) af aP) aP)))
   (ag (cD 3 kO.nd (aS dj (aS dh (cK aM (qv 0) ai) (aS ge (cK aM (qv 1) ai) (qv 2))) (aS dh (cK aM (qv 1) ai) (aS ge (cK aM (qv 0) ai) (qv 2)))))
   (ag (cD 4 kO.nd (dt (vU T) hr T.m_Q0 T.F_Q0.kp T.b_Q0 (ad (qv 3) (ad (qv 2) af ae) ae)))
   (ao (az (bI (ad (aS ge (qv 3) (qv 4)) (ad (aS dh (aS ge (cK aM (qv 0) ai) (qv 2)) (aS ge (cK aM (qv 1) ai) (qv 4))) af bP) bP))))))) ?_
 try dsimp only [Cx.nox, Cx.wish, bO]
 obtain ⟨p, rfl, hv⟩ := hv
 obtain ⟨p', rfl, hw⟩ := hw
 have c1 := bE wr.top (show n ≤ 4000 by omega)
 have c2 := bE wr.bot (show n ≤ 4000 by omega)
 have c3 := bE wq.top (show m ≤ 4000 by omega)
 have c4 := bE wq.bot (show m ≤ 4000 by omega)
 have gp : (0 : Int) < (Int.gcd r.2 q.2 : Nat) := cN wq.pos
 have gb := nS (a := r.2) wq.pos c4
 refine ⟨_, rfl, p, _, _, _, rfl, rfl, hv, rfl, _, rfl, p', _, _, _, rfl, rfl, hw, rfl, r.2, q.2, rfl, ?_⟩
 have z := sy ⟨wr.pos, wr.cop⟩ ⟨wq.pos, wq.cop⟩
 have kk : yc H Q (mE r q) := by rw [z]; exact k
 unfold mE at kk
 simp only at kk
 generalize ((Int.gcd r.2 q.2 : Nat) : Int) = d at gp gb kk ⊢
 refine ⟨_, rfl, p, _, _, _, rfl, rfl, hv, rfl, _, rfl, p', _, _, _, rfl, rfl, hw, rfl, _, rfl, _, _, rfl, rfl, ⟨gp, gb⟩, _, _, rfl, rfl, ⟨c1, lA gp c4⟩, _, rfl, p', _, _, _, rfl, rfl, hw, rfl, _, rfl, p, _, _, _, rfl, rfl, hv, rfl, _, rfl, _, _, rfl, rfl, ⟨gp, gb⟩, _, _, rfl, rfl, ⟨c3, lA gp c2⟩, _, _, rfl, rfl, ?_⟩
 refine ⟨_, rfl, _, rfl, _, _, rfl, ?_⟩
 have ep : (0 : Int) < (Int.gcd (r.1 * (q.2 / d) + q.1 * (r.2 / d)) d : Nat) := cN gp
 have eb := nS (a := r.1 * (q.2 / d) + q.1 * (r.2 / d)) gp gb
 generalize ((Int.gcd (r.1 * (q.2 / d) + q.1 * (r.2 / d)) d : Nat) : Int) = e at ep eb kk ⊢
 refine ⟨_, rfl, _, rfl, _, _, rfl, rfl, ⟨ep, eb⟩, _, rfl, p, _, _, _, rfl, rfl, hv, rfl, _, rfl, _, _, rfl, rfl, ⟨gp, gb⟩, _, rfl, p', _, _, _, rfl, rfl, hw, rfl, _, rfl, _, _, rfl, rfl, ⟨ep, eb⟩, _, _, rfl, rfl, ⟨lA gp c2, lA ep c4⟩, km, kk⟩
theorem sW (T : eQ K mg t) : bB P w K mg base dI 3 t.a_Q42 t.d_Q42 ["one", "other"] (rK K) := by
 refine T.F_Q42.ok wz (fun vs H Q E h => ?_) (fun cdv A outer s H vs Q E hr h => ?_)
 ·obtain ⟨_, _, _, _, _, _, rfl, _⟩ := h; rfl
 obtain ⟨v, w, r, q, n, m, rfl, hv, hw, wr, wq, hz, k⟩ := h
 refine dN.ok (ao (az (dt (xB T) hr T.m_Q44 T.F_Q44.kp T.b_Q44 (ad (qv 0) (ad (bI (ad (oB ko (cK aM (qv 1) ai)) (ad (cK aM (qv 1) ai) af aP) ku)) af cC) ae)))) ?_
 try dsimp only [Cx.nox, Cx.wish, bO]
 obtain ⟨p', rfl, hw⟩ := hw
 refine ⟨_, rfl, _, rfl, p', _, _, _, rfl, rfl, hw, rfl, _, rfl, _, rfl, p', _, _, _, rfl, rfl, hw, rfl, km, fun pt ht => ?_⟩
 have s1 := ap ht (.tup [.int (-q.1), .int q.2])
 refine ⟨v, .ref pt, r, (-q.1, q.2), n, m, rfl, hv.mono (aN.same s1), RV.of ah, wr, ⟨wq.pos, by show (-q.1).natAbs < _; rw [Int.natAbs_neg]; exact wq.top, wq.bot, mP wq.cop⟩, hz, fun p hp => ?_⟩
 refine k _ _ (s1.trans (ap hp _)) ?_
 rw [← gA]
 exact RV.of ah
theorem xJ (T : eQ K mg t) : bB P w K mg base dI 1 t.a_Q28 t.d_Q28 ["one", "other"] (iF K) := by
 refine T.F_Q28.ok wG (fun vs H Q E h => ?_) (fun cdv A outer s H vs Q E hr h => ?_)
 ·obtain ⟨_, _, _, _, _, _, rfl, _⟩ := h; rfl
 obtain ⟨v, w, r, q, n, m, rfl, hv, hw, wr, wq, hz, k⟩ := h
 refine dN.ok (ao (az (bC jT (aS dh (cK aM (qv 0) ai) (cK aM (qv 1) ai)) (aS dh (cK aM (qv 1) ai) (cK aM (qv 0) ai)) (ax _)))) ?_
 try dsimp only [Cx.nox, Cx.wish, bO]
 obtain ⟨p, rfl, hv⟩ := hv
 obtain ⟨p', rfl, hw⟩ := hw
 have c1 := bE wr.top (show n ≤ 4000 by omega)
 have c2 := bE wr.bot (show n ≤ 4000 by omega)
 have c3 := bE wq.top (show m ≤ 4000 by omega)
 have c4 := bE wq.bot (show m ≤ 4000 by omega)
 refine ⟨_, rfl, p, _, _, _, rfl, rfl, hv, rfl, _, rfl, p', _, _, _, rfl, rfl, hw, rfl, _, _, rfl, rfl, ⟨c1, c4⟩, _, rfl, p', _, _, _, rfl, rfl, hw, rfl, _, rfl, p, _, _, _, rfl, rfl, hv, rfl, _, _, rfl, rfl, ⟨c3, c2⟩, _, _, rfl, rfl, k⟩
theorem xE (T : eQ K mg t) : bB P w K mg base dI 2 t.a_Q38 t.d_Q38 ["one", "other"] (pG K) := by
 refine T.F_Q38.ok wB (fun vs H Q E h => ?_) (fun cdv A outer s H vs Q E hr h => ?_)
 ·obtain ⟨_, _, _, _, rfl, _⟩ := h; rfl
 obtain ⟨v, w, r, q, rfl, hv, hw, ar, aq, k⟩ := h
 refine dN.ok (ag (aU (bp (dt (xJ T) hr T.m_Q28 T.F_Q28.kp T.b_Q28 (ad (qv 1) (ad (qv 0) af ae) ae))) (ao (az (qv 1))) aD)
   (ao (az (qv 0)))) ?_
 try dsimp only [Cx.nox, Cx.wish, bO]
 refine ⟨_, rfl, _, rfl, w, v, q, r, 50, 50, rfl, hw, hv, aq.wf, ar.wf, by decide, _, rfl, ?_⟩
 cases c : cR q r with
 | true => exact bM ⟨_, rfl, k _ (by unfold fE; rw [if_pos c]; exact hw)⟩
 | false => exact bi ⟨_, rfl, k _ (by unfold fE; rw [if_neg (by rw [c]; exact Bool.false_ne_true)]; exact hv)⟩
theorem z9 (T : eQ K mg t) : bB P w K mg base dI 1 t.a_Q8 t.d_Q8 ["work", "turn"] (kK K) := by
 refine T.F_Q8.ok zt (fun vs H Q E h => ?_) (fun cdv A outer s H vs Q E hr h => ?_)
 ·obtain ⟨_, _, _, rfl, _⟩ := h; rfl
 obtain ⟨v, w, t₀, rfl, ⟨p, x, rfl, hS, rx⟩, k⟩ := h
 refine dN.ok (ao (az (mC hW hW (cK aM (qv 0) ai) (qv 1) (cK aM (qv 0) ai)))) ?_
 try dsimp only [Cx.nox, Cx.wish, bO]
 refine ⟨_, rfl, p, _, _, _, rfl, rfl, hS, rfl, _, rfl, _, _, rfl, rfl, _, rfl, ?_⟩
 by_cases c : w.1 ≤ t₀
 ·refine bQ (by omega) ?_
  have e : ii w t₀ = decide ((t₀ : Int) ≤ (w.2.1 : Int)) := by
   unfold ii
   rw [decide_eq_true c, Bool.true_and]
   exact decide_eq_decide.mpr (by omega)
  rw [e] at k
  exact ⟨_, rfl, p, _, _, _, rfl, rfl, hS, rfl, _, _, rfl, rfl, k⟩
 ·refine aV (by omega) ?_
  have e : ii w t₀ = false := by
   unfold ii
   rw [decide_eq_false c, Bool.false_and]
  rw [e] at k
  exact k
theorem Ac (T : eQ K mg t) : bB P w K mg base dI 1 t.a_Q5 t.d_Q5 ["count"] (iE K) := by
 refine T.F_Q5.ok zu (fun vs H Q E h => ?_) (fun cdv A outer s H vs Q E hr h => ?_)
 ·obtain ⟨_, rfl, _⟩ := h; rfl
 obtain ⟨n, rfl, hn, k⟩ := h
 refine dN.ok (ao (az (bx (N' := ["work", "count"]) (src := [none, some 0]) rfl (by exact (bD rfl T.z_range (ad (qv 0) af ae))) (fun _ _ _ _ _ => (by exact (by exact aH (i := 0) (by show List.Nodup (["work", "count"] : List Str); decide +kernel) (by exact rfl) (by first | exact Or.inl rfl | exact Or.inr rfl)))) (fun _ _ _ _ _ => cA) (fun _ _ _ _ _ => (by exact (by exact (aS oF (by exact (bY (ad cL af aE))) (by exact (qv 1)))))) (by exact ⟨rfl, rfl, rfl, rfl, trivial⟩) rfl (by decide +kernel) rfl (by decide +kernel) (by exact aY rfl ⟨rfl, trivial⟩)))) ?_
 try dsimp only [Cx.nox, Cx.wish, bO]
 refine ⟨_, rfl, n, rfl, by omega, by omega, fun D hD => mS (J := vC 0 n) (n := n) (fun i ys H' => ∃ rows : List Addr, ys = rows.map V.ref /\ rows.length = i /\ rows.Nodup /\ D ∉ rows /\ (∀ r ∈ rows, H r = none) /\ aA H H' /\ H' D = some (.lst ys) /\ ∀ r ∈ rows, H' r = some (.lst (iO n fun _ => false))) ⟨[], rfl, rfl, List.nodup_nil, (fun z => by cases z), (fun r hr => by cases hr), ap hD _, ah, fun r hr => by cases hr⟩ (fun i ys H' hi _ => hi) (fun ys H' ⟨rows, e1, e2, e3, e4, e5, e6, e7, e8⟩ => ⟨Nat.le_refl _, k D rows H' e6 hD e5 ⟨by rw [e7, e1], e2, e3, e4, fun i r e => e8 r (List.mem_of_getElem? e)⟩⟩) ?_⟩
 rintro i ys H1 x H2 hi ⟨rows, rfl, e2, e3, e4, e5, e6, e7, e8⟩ ⟨rfl, rfl⟩ R E kR kE
 refine ⟨eJ.set rfl, ?_⟩
 refine ⟨AB, fun q hq => ?_⟩
 have s1 := ap hq (.lst [.bl false])
 refine ⟨_, rfl, q, .bl false, n, rfl, rfl, ah, by omega, fun r hr => ?_⟩
 have s2 := ap hr (.lst (List.replicate n (.bl false)))
 have s12 := s1.trans s2
 have nr : r ∉ rows := fun m => by rw [s1 _ _ (e8 r m)] at hr; cases hr
 have nD : r ≠ D := fun z => by subst z; rw [s1 _ _ e7] at hr; cases hr
 have er : List.replicate n (V.bl false) = iO n fun _ => false := by
  unfold iO
  apply List.ext_getElem?
  intro j
  rw [List.getElem?_replicate, List.getElem?_map]
  by_cases c : j < n
  ·rw [if_pos c, List.getElem?_range c]; rfl
  ·rw [if_neg c, List.getElem?_eq_none (by rw [List.length_range]; omega)]; rfl
 have hD4 := s12 _ _ e7
 refine kR (.ref r) _ hD4 (bh (by rw [List.length_map]; omega)) ⟨rows ++ [r], by rw [List.map_append]; rfl, by rw [List.length_append, e2]; rfl, ?_, ?_, fun z hz => ?_, fun b o q => ?_, ah, fun z hz => ?_⟩
 ·rw [List.nodup_append]
  exact ⟨e3, List.nodup_cons.mpr ⟨(fun z => by cases z), List.nodup_nil⟩, fun a ha b hb => by rw [List.mem_singleton.mp hb]; exact fun z => nr (by rw [← z]; exact ha)⟩
 ·intro m
  rcases List.mem_append.mp m with z | z
  ·exact e4 z
  ·exact nD (List.mem_singleton.mp z).symm
 ·rcases List.mem_append.mp hz with y | y
  ·exact e5 z y
  ·rw [List.mem_singleton.mp y]
   cases c : H r with
   | none => rfl
   | some o => rw [s1 _ _ (e6 _ _ c)] at hr; cases hr
 ·rw [aC (aQ q hD)]
  exact s12 _ _ (e6 _ _ q)
 ·rcases List.mem_append.mp hz with y | y
  ·rw [aC (show z ≠ D from fun w => e4 (by rw [← w]; exact y))]
   exact s12 _ _ (e8 z y)
  ·rw [List.mem_singleton.mp y, aC nD, ah, er]
theorem xP (T : eQ K mg t) : bB P w K mg base dI 1 t.a_Q20 t.d_Q20 ["leanings", "lean"] (mf K) := by
 refine T.F_Q20.ok fv (fun vs H Q E h => ?_) (fun cdv A outer s H vs Q E hr h => ?_)
 ·obtain ⟨_, _, _, _, _, _, _, rfl, _⟩ := h; rfl
 obtain ⟨l, v, rows, n, L, a, b, rfl, m0, ⟨p, rfl, hp⟩, ha, hb, hn, k⟩ := h
 refine dN.ok (ag (cD 2 fv.nd (cK aM (qv 1) ai))
   (ag (cD 3 fv.nd (cK aM (qv 1) ai))
   (ag (cD 4 fv.nd (bK (gi rfl) (by rfl) T.z_list boot_list (ad (im rfl T.z_range (ad (aj aw (by rfl) T.z_len boot_len (ad (qv 0) af ae)) af aG)) af aG)))
   (ag (d5 (i := 5) (N' := ["work", "ahead", "leanings"]) (src := [none, some 2, some 0]) fv.nd rfl (by first | exact Or.inl rfl | exact Or.inr rfl) rfl (by exact (bG (qv 4))) (fun _ _ _ _ _ => (by exact (by exact aH (i := 0) (by show List.Nodup (["work", "ahead", "leanings"] : List Str); decide +kernel) (by exact rfl) (by first | exact Or.inl rfl | exact Or.inr rfl)))) (fun _ _ _ _ _ => (cW (d4 (fw (ay bF (by exact (qv 0)) (by exact (qv 1)) (ax _)) (ee (bp (by exact (bj (c6 (K := K) (by exact rfl)) (by exact (bj (c6 (K := K) (by exact rfl)) (by exact (qv 2)) (by exact (qv 1)) (by exact fun _ _ => rfl))) (by exact (qv 0)) (by exact fun _ _ => rfl))))))))) (fun _ _ _ _ _ => (by exact (by exact (qv 0)))) (by exact ⟨rfl, rfl, rfl, rfl, ⟨rfl, rfl, rfl, rfl, trivial⟩⟩) rfl (by decide +kernel) rfl (by decide +kernel) (by exact aY rfl ⟨rfl, ⟨rfl, trivial⟩⟩))
   (ag (d5 (i := 6) (N' := ["work", "behind", "leanings"]) (src := [none, some 3, some 0]) fv.nd rfl (by first | exact Or.inl rfl | exact Or.inr rfl) rfl (by exact (bG (qv 4))) (fun _ _ _ _ _ => (by exact (by exact aH (i := 0) (by show List.Nodup (["work", "behind", "leanings"] : List Str); decide +kernel) (by exact rfl) (by first | exact Or.inl rfl | exact Or.inr rfl)))) (fun _ _ _ _ _ => (cW (d4 (fw (ay bF (by exact (qv 0)) (by exact (qv 1)) (ax _)) (ee (bp (by exact (bj (c6 (K := K) (by exact rfl)) (by exact (bj (c6 (K := K) (by exact rfl)) (by exact (qv 2)) (by exact (qv 0)) (by exact fun _ _ => rfl))) (by exact (qv 1)) (by exact fun _ _ => rfl))))))))) (fun _ _ _ _ _ => (by exact (by exact (qv 0)))) (by exact ⟨rfl, rfl, rfl, rfl, ⟨rfl, rfl, rfl, rfl, trivial⟩⟩) rfl (by decide +kernel) rfl (by decide +kernel) (by exact aY rfl ⟨rfl, ⟨rfl, trivial⟩⟩))
   (ao (cP PassesOwn.never rfl (bG (qv 6)) (aH (i := 7) fv.nd rfl (by first | exact Or.inl rfl | exact Or.inr rfl))
   (ao (cP PassesOwn.never rfl (bG (qv 5)) (aH (i := 8) fv.nd rfl (by first | exact Or.inl rfl | exact Or.inr rfl))
   (ao (ef cL (fe (cK bo (qv 0) (qv 7)) (qv 8) dq)))))))))))) ?_
 try dsimp only [Cx.nox, Cx.wish, bO]
 refine ⟨_, rfl, p, _, _, _, rfl, rfl, hp, rfl, ?_⟩
 refine ⟨_, rfl, p, _, _, _, rfl, rfl, hp, rfl, ?_⟩
 have lr : (rows.map V.ref).length = n := by rw [List.length_map]; exact m0.len
 refine ⟨_, rfl, l, _, rfl, .inl (aO.of m0.top), _, rfl, fun pr hpr => ?_⟩
 rw [lr]
 have s1 := ap hpr (.rng 0 n)
 refine ⟨pr, n, rfl, ah, by omega, fun q hq => ?_⟩
 have s2 := ap hq (.lst ((B.upTo n).map V.int))
 have hq2 : upd (upd H pr (.rng 0 n)) q (.lst ((B.upTo n).map V.int)) q = some (.lst ((B.upTo n).map V.int)) := ah
 have s12 := s1.trans s2
 generalize upd (upd H pr (.rng 0 n)) q (.lst ((B.upTo n).map V.int)) = H2 at hq2 s12 ⊢
 have lu : ((B.upTo n).map V.int).length = n := by unfold B.upTo; rw [List.length_map, List.length_map, List.length_range]
 have m2 := m0.same s12
 refine ⟨_, rfl, q, rfl, ⟨_, aO.of hq2⟩, fun D1 hD1 => bz (cV (aO.of hq2)) (fun i => decide (i = a) || L a i) (fun i => V.int (i : Nat)) hD1 (by rw [lu]; omega) (fun i x H' hi s' hx R E kR kE => ?_) fun H3 s3 h3 => ?_⟩
 ·have hin : i < n := by rw [lu] at hi; exact hi
  have hxn : x = V.int (i : Nat) := by
   rw [List.getElem?_map] at hx
   unfold B.upTo at hx
   rw [List.getElem?_map, List.getElem?_range hin] at hx
   exact (Option.some.inj hx).symm
  subst hxn
  have Ms := m2.same s'
  refine ⟨eJ.set rfl, ?_⟩
  refine ⟨_, rfl, _, rfl, rfl, _, rfl, ?_⟩
  by_cases c : i = a
  ·refine bQ (by rw [c]) (bM ?_)
   exact ⟨_, rfl, kR (by rw [decide_eq_true c]; rfl) _ (aA.refl _)⟩
  ·refine aV (fun z => c (by injection z with z; omega)) ?_
   obtain ⟨rr, hrr⟩ : ∃ r, rows[a]? = some r := ⟨_, List.getElem?_eq_getElem (by rw [m0.len]; omega)⟩
   refine ⟨_, rfl, _, rfl, l, _, _, _, rfl, rfl, aO.of Ms.top, aL (v := V.ref rr) (by rw [List.getElem?_map, hrr]; rfl), _, rfl, rr, _, _, _, rfl, rfl, aO.of (Ms.row _ _ hrr), aL (gu (by omega)), _, rfl, ?_⟩
   cases cl : L a i with
   | true => exact bM ⟨_, rfl, kR (by rw [cl, Bool.or_true]) _ (aA.refl _)⟩
   | false => exact bi (kE (by rw [decide_eq_false c, cl]; rfl) _ (aA.refl _))
 rw [lu] at h3
 have hq3 := s3 _ _ hq2
 have m3 := m2.same s3
 refine ⟨_, rfl, q, rfl, ⟨_, aO.of hq3⟩, fun D2 hD2 => bz (cV (aO.of hq3)) (fun i => decide (i = b) || L i b) (fun i => V.int (i : Nat)) hD2 (by rw [lu]; omega) (fun i x H' hi s' hx R E kR kE => ?_) fun H4 s4 h4 => ?_⟩
 ·have hin : i < n := by rw [lu] at hi; exact hi
  have hxn : x = V.int (i : Nat) := by
   rw [List.getElem?_map] at hx
   unfold B.upTo at hx
   rw [List.getElem?_map, List.getElem?_range hin] at hx
   exact (Option.some.inj hx).symm
  subst hxn
  have Ms := m3.same s'
  refine ⟨eJ.set rfl, ?_⟩
  refine ⟨_, rfl, _, rfl, rfl, _, rfl, ?_⟩
  by_cases c : i = b
  ·refine bQ (by rw [c]) (bM ?_)
   exact ⟨_, rfl, kR (by rw [decide_eq_true c]; rfl) _ (aA.refl _)⟩
  ·refine aV (fun z => c (by injection z with z; omega)) ?_
   obtain ⟨rr, hrr⟩ : ∃ r, rows[i]? = some r := ⟨_, List.getElem?_eq_getElem (by rw [m0.len]; omega)⟩
   refine ⟨_, rfl, _, rfl, l, _, _, _, rfl, rfl, aO.of Ms.top, aL (v := V.ref rr) (by rw [List.getElem?_map, hrr]; rfl), _, rfl, rr, _, _, _, rfl, rfl, aO.of (Ms.row _ _ hrr), aL (gu (by omega)), _, rfl, ?_⟩
   cases cl : L i b with
   | true => exact bM ⟨_, rfl, kR (by rw [cl, Bool.or_true]) _ (aA.refl _)⟩
   | false => exact bi (kE (by rw [decide_eq_false c, cl]; rfl) _ (aA.refl _))
 rw [lu] at h4
 have h3' := s4 _ _ h3
 have m4 := m3.same s4
 have s04 := (s12.trans s3).trans s4
 have nD : ∀ r ∈ rows, H r ≠ none := fun r hr z => by obtain ⟨xs, e⟩ := m0.ls r hr; rw [e] at z; cases z
 have n1 : D1 ∉ rows := fun z => by obtain ⟨xs, e⟩ := m2.ls _ z; rw [hD1] at e; cases e
 have n2 : D2 ∉ rows := fun z => by obtain ⟨xs, e⟩ := m3.ls _ z; rw [hD2] at e; cases e
 generalize hbs : (List.range n).filter (fun i => decide (i = a) || L a i) = bs at h3'
 generalize hls : (List.range n).filter (fun i => decide (i = b) || L i b) = lns at h4
 have bsI : ∀ j, j ∈ bs ↔ j < n /\ (decide (j = a) || L a j) = true := fun j => by rw [← hbs, List.mem_filter, List.mem_range]
 have lnI : ∀ j, j ∈ lns ↔ j < n /\ (decide (j = b) || L j b) = true := fun j => by rw [← hls, List.mem_filter, List.mem_range]
 refine ⟨_, rfl, D2, rfl, ⟨_, aO.of h4⟩, em (K := K) (a := D2) (xs := lns.map fun i => V.int (i : Nat)) (fun i σ H' => ∃ x7 x8 : Option V, σ = [some (.ref l), some (.ref p), some (.int (a : Nat)), some (.int (b : Nat)), some (.ref q), some (.ref D1), some (.ref D2), x7, x8] /\ Kp rows H4 H' /\ lH H' l rows n (fun u w => L u w || ((lns.take i).contains u && bs.contains w))) ⟨none, none, rfl, Kp.same (aA.refl _) m4.ls, m4.congr fun i j _ _ => by rw [List.take_zero]; simp⟩ (fun i σ H' _ ⟨_, _, _, kp, _⟩ => aO.of (kp.keep _ _ n2 h4)) ?_ ?_⟩
 ·rintro i x σ H5 hx ⟨x7, x8, rfl, kp5, m5⟩
  rw [List.getElem?_map] at hx
  obtain ⟨u, hu, rfl⟩ := Option.map_eq_some_iff.mp hx
  have hun := ((lnI u).mp (List.mem_of_getElem? hu)).1
  obtain ⟨rr, hrr⟩ : ∃ r, rows[u]? = some r := ⟨_, List.getElem?_eq_getElem (by rw [m0.len]; omega)⟩
  have h35 := kp5.keep _ _ n1 h3'
  refine ⟨_, rfl, D1, rfl, ⟨_, aO.of h35⟩, em (K := K) (a := D1) (xs := bs.map fun i => V.int (i : Nat)) (fun j σ H' => ∃ x8 : Option V, σ = [some (.ref l), some (.ref p), some (.int (a : Nat)), some (.int (b : Nat)), some (.ref q), some (.ref D1), some (.ref D2), some (.int (u : Nat)), x8] /\ Kp rows H4 H' /\ lH H' l rows n (fun u' w => (L u' w || ((lns.take i).contains u' && bs.contains w)) || (decide (u' = u) && (bs.take j).contains w))) ⟨_, rfl, kp5, m5.congr fun i j _ _ => by rw [List.take_zero]; simp⟩ (fun j σ H' _ ⟨_, _, kp, _⟩ => aO.of (kp.keep _ _ n1 h3')) ?_ ?_⟩
  ·rintro j y σ H6 hy ⟨x8, rfl, kp6, m6⟩
   rw [List.getElem?_map] at hy
   obtain ⟨w, hw, rfl⟩ := Option.map_eq_some_iff.mp hy
   have hwn := ((bsI w).mp (List.mem_of_getElem? hw)).1
   have row := m6.row _ _ hrr
   refine ⟨_, rfl, _, rfl, l, _, _, _, rfl, rfl, aO.of m6.top, aL (v := V.ref rr) (by rw [List.getElem?_map, hrr]; rfl), _, rfl, rr, _, _, w, rfl, rfl, row, fQ (by rw [gs]; exact hwn), ?_⟩
   refine ⟨_, rfl, kp6.trans (Kp.up (List.mem_of_getElem? hrr) m6.ls _), (m6.set hrr hwn).congr fun i' j' _ _ => ?_⟩
   rw [List.take_add_one, hw]
   show (_ || (decide (i' = u) && (bs.take j).contains j') || (decide (i' = u) && decide (j' = w))) = (_ || (decide (i' = u) && (bs.take j ++ [w]).contains j'))
   rw [show (bs.take j ++ [w]).contains j' = ((bs.take j).contains j' || decide (j' = w)) by simp [List.contains_eq_mem, Bool.decide_or], Bool.and_or_distrib_left, Bool.or_assoc]
  ·rintro σ H6 ⟨x8, rfl, kp6, m6⟩
   refine ⟨_, _, rfl, kp6, m6.congr fun i' j' _ _ => ?_⟩
   rw [List.length_map, List.take_length, List.take_add_one, hu]
   show (L i' j' || ((lns.take i).contains i' && bs.contains j') || (decide (i' = u) && bs.contains j')) = (L i' j' || ((lns.take i ++ [u]).contains i' && bs.contains j'))
   rw [show (lns.take i ++ [u]).contains i' = ((lns.take i).contains i' || decide (i' = u)) by simp [List.contains_eq_mem, Bool.decide_or], Bool.and_or_distrib_right, Bool.or_assoc]
 ·rintro σ H5 ⟨x7, x8, rfl, kp5, m5⟩
  rw [List.length_map, List.take_length] at m5
  refine k H5 ((Kp.same s04 m0.ls).trans kp5) (m5.congr fun i j hi hj => ?_)
  unfold lF
  congr 1
  have e1 : lns.contains i = (decide (i = b) || L i b) := by rw [Bool.eq_iff_iff, List.contains_iff_mem, lnI]; exact ⟨fun z => z.2, fun z => ⟨hi, z⟩⟩
  have e2 : bs.contains j = (decide (j = a) || L a j) := by rw [Bool.eq_iff_iff, List.contains_iff_mem, bsI]; exact ⟨fun z => z.2, fun z => ⟨hj, z⟩⟩
  rw [e1, e2]
theorem Ae (T : eQ K mg t) : bB P w K mg base dI 2 t.a_Q3 t.d_Q3 ["count", "leans"] (ic K) := by
 refine T.F_Q3.ok rP (fun vs H Q E h => ?_) (fun cdv A outer s H vs Q E hr h => ?_)
 ·obtain ⟨_, _, _, rfl, _⟩ := h; rfl
 obtain ⟨n, v, es, rfl, ⟨p, xs, rfl, hS, al⟩, ok, hn, k⟩ := h
 refine dN.ok (ag (cD 2 rP.nd (dt (Ac T) hr T.m_Q5 T.F_Q5.kp T.b_Q5 (ad (qv 0) af ae)))
   (ag (cP PassesOwn.never rfl (fc (qv 1)) (aH (i := 3) rP.nd rfl (by first | exact Or.inl rfl | exact Or.inr rfl))
   (ao (cX (dt (xP T) hr T.m_Q20 T.F_Q20.kp T.b_Q20 (ad (qv 2) (ad (qv 3) af ae) ae)))))
   (ao (az (qv 2))))) ?_
 try dsimp only [Cx.nox, Cx.wish, bO]
 refine ⟨_, rfl, n, rfl, hn, fun l rows H1 s1 hl hr m1 => ?_⟩
 have hS1 := aN.same (K := K) s1 _ _ hS
 have sm : ∀ H', Kp rows H1 H' -> aA H H' := fun H' kp b o e => kp.keep b o (fun z => by rw [hr b z] at e; cases e) (s1 _ _ e)
 refine ⟨_, rfl, p, rfl, ⟨_, hS1⟩, oW (K := K) (a := p) (xs := xs) (fun i σ H' => ∃ (L : Nat -> Nat -> Bool) (x4 : Option V), σ = [some (.int n), some (.ref p), some (.ref l), x4] /\ Kp rows H1 H' /\ lH H' l rows n L /\ yX n (es.take i) L) ⟨_, none, rfl, Kp.same (aA.refl _) m1.ls, m1, by rw [List.take_zero]; exact vq n⟩ (fun i σ H' _ ⟨_, _, _, kp, _⟩ => aN.kp (K := K) kp _ _ hS1) ?_ ?_⟩
 ·rintro i x σ H2 hx ⟨L, x4, rfl, kp2, m2, c2⟩
  obtain ⟨⟨a, b⟩, hd, lv⟩ := al.at hx
  have e := ok _ (List.mem_of_getElem? hd)
  refine ⟨_, rfl, _, rfl, l, x, rows, n, L, a, b, rfl, m2, (lv.mono (aN.same s1)).mono (aN.kp kp2), e.1, e.2, hn, fun H3 kp3 m3 => ?_⟩
  refine ⟨_, _, rfl, kp2.trans kp3, m3, ?_⟩
  rw [List.take_add_one, hd]
  exact vt (fun e he => ok e (List.mem_of_mem_take he)) c2 e.1 e.2
 ·rintro σ H2 ⟨L, x4, rfl, kp2, m2, c2⟩
  rw [al.len, List.take_length] at c2
  exact ⟨_, rfl, k l rows L H2 (sm _ kp2) m2 c2⟩
theorem Af (T : eQ K mg t) : bB P w K mg base dI 1 t.a_Q2 t.d_Q2 ["works", "leanings", "waiting"] (gT K) := by
 refine T.F_Q2.ok oy (fun vs H Q E h => ?_) (fun cdv A outer s H vs Q E hr h => ?_)
 ·obtain ⟨_, _, _, _, _, _, _, _, rfl, _⟩ := h; rfl
 obtain ⟨v, l, wl, ws, es, rows, L, ls, rfl, ⟨p, xs, rfl, hS, al⟩, w8, m0, cl, hwl, lt, ne, l8, rk, k⟩ := h
 refine dN.ok (ag (cD 3 oy.nd (aj (j6 rfl) (by rfl) T.z_min boot_min (ad (bx (N' := ["number", "works"]) (src := [none, some 0]) rfl (by exact (bG (qv 2))) (fun _ _ _ _ _ => (by exact (by exact aH (i := 0) (by show List.Nodup (["number", "works"] : List Str); decide +kernel) (by exact rfl) (by first | exact Or.inl rfl | exact Or.inr rfl)))) (fun _ _ _ _ _ => cA) (fun _ _ _ _ _ => (by exact (by exact (bj (aX (K := K) (by exact rfl)) (by exact (bj (aX (K := K) (by exact rfl)) (by exact (qv 1)) (by exact (qv 0)) (by exact fun _ _ => rfl))) ai (by exact fun _ _ => rfl))))) (by exact ⟨rfl, rfl, rfl, rfl, trivial⟩) rfl (by decide +kernel) rfl (by decide +kernel) (by exact aY rfl ⟨rfl, trivial⟩)) af dn)))
   (ag (cD 4 oy.nd (bx (N' := ["number", "earliest", "works"]) (src := [none, some 3, some 0]) rfl (by exact (bG (qv 2))) (fun _ _ _ _ _ => (by exact (by exact aH (i := 0) (by show List.Nodup (["number", "earliest", "works"] : List Str); decide +kernel) (by exact rfl) (by first | exact Or.inl rfl | exact Or.inr rfl)))) (fun _ _ _ _ _ => (cW (ay bF (by exact (bj (aX (K := K) (by exact rfl)) (by exact (bj (aX (K := K) (by exact rfl)) (by exact (qv 2)) (by exact (qv 0)) (by exact fun _ _ => rfl))) ai (by exact fun _ _ => rfl))) (by exact (qv 1)) (ax _)))) (fun _ _ _ _ _ => (by exact (by exact (qv 0)))) (by exact ⟨rfl, rfl, rfl, rfl, ⟨rfl, rfl, rfl, rfl, trivial⟩⟩) rfl (by decide +kernel) rfl (by decide +kernel) (by exact aY rfl ⟨rfl, ⟨rfl, trivial⟩⟩)))
   (ag (rZ (i := 5) (N' := ["number", "like", "leanings"]) (y := "number") (src := [none, some 4, some 1]) oy.nd rfl (by first | exact Or.inl rfl | exact Or.inr rfl) rfl (by exact (bG (qv 4))) (fun _ _ _ _ _ => (by exact (by exact aH (i := 0) (by show List.Nodup (["number", "like", "leanings"] : List Str); decide +kernel) (by exact rfl) (by first | exact Or.inl rfl | exact Or.inr rfl)))) (fun _ _ _ _ _ => (cW (kT (bp (by exact (aj (nW (K := K) (by exact rfl) (by exact rfl)) (by exact rfl) T.z_any boot_any (ad (by exact (qb (N' := ["base", "leanings", "number"]) (src := [none, some 2, some 0]) (by exact rfl) (by exact rfl) (by exact (r8 (K := K) (by exact rfl) (by exact (qv 1)))) (by exact fun _ _ _ _ _ => (by exact (by exact aH (i := 0) (by show List.Nodup (["base", "leanings", "number"] : List Str); decide +kernel) (by exact rfl) (by first | exact Or.inl rfl | exact Or.inr rfl)))) (by exact fun _ _ _ _ _ => cA) (by exact fun _ _ _ _ _ => (by exact (by exact (bj (c6 (K := K) (by exact rfl)) (by exact (bj (c6 (K := K) (by exact rfl)) (by exact (qv 1)) (by exact (qv 2)) (by exact fun _ _ => rfl))) (by exact (qv 0)) (by exact fun _ _ => rfl))))) (by exact ⟨rfl, rfl, rfl, rfl, ⟨rfl, rfl, rfl, rfl, trivial⟩⟩) (by decide +kernel) (by exact rfl) (by decide +kernel) (by exact aY rfl ⟨rfl, ⟨rfl, trivial⟩⟩))) af dn))))))) (fun _ _ _ _ _ => (by exact (by exact (qv 0)))) (by exact ⟨rfl, rfl, rfl, rfl, ⟨rfl, rfl, rfl, rfl, trivial⟩⟩) rfl (fun _ => rfl) (fun _ => rfl) rfl (by decide +kernel) (by exact qI rfl ⟨rfl, ⟨rfl, trivial⟩⟩ rfl))
   (ao (az (cK bo (qv 5) ai)))))) ?_
 try dsimp only [Cx.nox, Cx.wish, bO]
 have lx : xs.length = ws.length := al.len
 have lv : (aF ls).length = ls.length := List.length_map _
 have pos : 0 < ls.length := List.length_pos_iff.mpr ne
 have at_ : ∀ {H' : Hp}, aA H H' -> ∀ i, i < ws.length -> ∃ pw x, xs[i]? = some (.ref pw) /\ bt K H' pw [.int (ws.getD i lL).1, .int (bv ws i : Nat), x] := fun {H'} s i hi => by
  have e : xs[i]? = some (xs[i]'(by omega)) := List.getElem?_eq_getElem _
  obtain ⟨w, hw, pw, x, ex, hSw, _⟩ := al.at e
  refine ⟨pw, x, by rw [e, ex], ?_⟩
  have g : ws.getD i lL = w := aR lL hw
  unfold bv
  rw [g]
  exact aN.same s _ _ hSw
 have nat_ : ∀ {zs : List Nat} {i : Nat} {x : V}, (aF zs)[i]? = some x -> ∃ n, zs[i]? = some n /\ x = .int (n : Nat) := fun {zs i x} h => by
  unfold aF at h
  rw [List.getElem?_map] at h
  obtain ⟨n, hn, rfl⟩ := Option.map_eq_some_iff.mp h
  exact ⟨n, hn, rfl⟩
 refine ⟨_, rfl, wl, rfl, ⟨_, hwl⟩, fun D1 hD1 => bz (cV hwl) (fun _ => true) (fun i => V.int (bv ws (ls.getD i 0) : Nat)) hD1 (by omega) (fun i x H' hi sm hx Rk E kR _ => ?_) fun H1 s1 h1 => ?_⟩
 ·obtain ⟨n, hn, rfl⟩ := nat_ hx
  obtain ⟨pw, y, ex, hSw⟩ := at_ sm n (lt n (List.mem_of_getElem? hn))
  rw [aR 0 hn] at kR
  exact ⟨eJ.set rfl, _, rfl, _, rfl, p, _, _, _, rfl, rfl, aN.same sm _ _ hS, aL ex, pw, _, _, _, rfl, rfl, hSw, rfl, kR rfl _ (aA.refl _)⟩
 have e1 : ((List.range (aF ls).length).filter fun _ => true).map (fun i => V.int (bv ws (ls.getD i 0) : Nat)) = (ls.map fun i => ((bv ws i : Nat) : Int)).map V.int := by
  rw [lv, List.map_map]
  exact dF 0 (fun n => V.int (bv ws n : Nat)) ls
 rw [e1] at h1
 refine ⟨D1, _, rfl, aO.of h1, by rw [List.length_map]; exact pos, fun M hM hle => ?_⟩
 have key : ∀ i, i ∈ ls -> (((bv ws i : Nat) : Int) = M ↔ ∀ j ∈ ls, bv ws i ≤ bv ws j) := fun i hi => by
  constructor
  ·intro e j hj
   have := hle _ (List.mem_map.mpr ⟨j, hj, rfl⟩)
   omega
  ·intro h
   obtain ⟨j, hj, e⟩ := List.mem_map.mp hM
   have a := h j hj
   have b := hle _ (List.mem_map.mpr ⟨i, hi, rfl⟩)
   omega
 have hw1 : aO K H1 wl (aF ls) := s1.seq hwl
 refine ⟨_, rfl, wl, rfl, ⟨_, hw1⟩, fun D2 hD2 => bz (cV hw1) (fun i => ls.all fun j => decide (bv ws (ls.getD i 0) ≤ bv ws j)) (fun i => V.int (ls.getD i 0 : Nat)) hD2 (by omega) (fun i x H' hi sm hx Rk E kR kE => ?_) fun H2 s2 h2 => ?_⟩
 ·obtain ⟨n, hn, rfl⟩ := nat_ hx
  have sm' := s1.trans sm
  have mn := List.mem_of_getElem? hn
  obtain ⟨pw, y, ex, hSw⟩ := at_ sm' n (lt n mn)
  rw [aR 0 hn] at kR kE
  refine ⟨eJ.set rfl, _, rfl, _, rfl, p, _, _, _, rfl, rfl, aN.same sm' _ _ hS, aL ex, pw, _, _, _, rfl, rfl, hSw, rfl, _, rfl, rfl, _, rfl, ?_⟩
  by_cases c : ((bv ws n : Nat) : Int) = M
  ·refine bQ (by rw [c]) ⟨_, rfl, kR ?_ _ (aA.refl _)⟩
   rw [List.all_eq_true]
   exact fun j hj => decide_eq_true ((key n mn).mp c j hj)
  ·refine aV (fun z => c (by injection z)) (kE ?_ _ (aA.refl _))
   cases q : ls.all fun j => decide (bv ws n ≤ bv ws j) with
   | false => rfl
   | true =>
    rw [List.all_eq_true] at q
    exact absurd ((key n mn).mpr fun j hj => of_decide_eq_true (q j hj)) c
 have e2 : ((List.range (aF ls).length).filter fun i => ls.all fun j => decide (bv ws (ls.getD i 0) ≤ bv ws j)).map (fun i => V.int (ls.getD i 0 : Nat)) = aF (cY ws ls) := by
  rw [lv]
  exact de 0 (fun n => ls.all fun j => decide (bv ws n ≤ bv ws j)) (fun n => V.int (n : Nat)) ls
 rw [e2] at h2
 have s12 := s1.trans s2
 have lkl : ∀ i ∈ cY ws ls, i < ws.length := fun i hi => lt i (gC.mp hi).1
 have ll : (cY ws ls).length ≤ ls.length := List.length_filter_le _ _
 have lk : (aF (cY ws ls)).length = (cY ws ls).length := List.length_map _
 have hl2 : aO K H2 D2 (aF (cY ws ls)) := aO.of h2
 generalize hlk : cY ws ls = lk_ at h2 hl2 lkl ll lk
 refine ⟨_, rfl, D2, rfl, ⟨_, hl2⟩, fun D3 hD3 => bz (cV hl2) (fun i => !lk_.any (dz es (lk_.getD i 0))) (fun i => V.int (lk_.getD i 0 : Nat)) hD3 (by omega) (fun i x H' hi sm hx Rk E kR kE => ?_) fun H3 s3 h3 => ?_⟩
 ·obtain ⟨n, hn, rfl⟩ := nat_ hx
  have mn := List.mem_of_getElem? hn
  have nl := lkl n mn
  have sm' := s12.trans sm
  have hl3 : aO K H' D2 (aF lk_) := sm.seq hl2
  have mm := m0.same sm'
  rw [aR 0 hn] at kR kE
  refine ⟨eJ.set rfl, _, rfl, D2, rfl, ⟨_, hl3⟩, fun D4 hD4 => bz (cV hl3) (fun _ => true) (fun j => V.bl (dz es n (lk_.getD j 0))) hD4 (by omega) (fun j y H5 hj sm5 hy Rk2 E2 kR2 _ => ?_) fun H6 s6 h6 => ?_⟩
  ·obtain ⟨b, hb, rfl⟩ := nat_ hy
   have bl := lkl b (List.mem_of_getElem? hb)
   have m5 := mm.same sm5
   obtain ⟨rr, hrr⟩ : ∃ r, rows[n]? = some r := ⟨_, List.getElem?_eq_getElem (by rw [mm.len]; exact nl)⟩
   have hrow := m5.row n rr hrr
   rw [aR 0 hb] at kR2
   have ev : L n b = dz es n b := by rw [Bool.eq_iff_iff, fO]; exact cl n b nl bl
   refine ⟨eJ.set rfl, _, rfl, _, rfl, l, _, _, _, rfl, rfl, aO.of m5.top, aL (show (rows.map V.ref)[n]? = some (V.ref rr) by rw [List.getElem?_map, hrr]; rfl), _, rfl, rr, _, _, _, rfl, rfl, aO.of hrow, aL (gu bl), ?_⟩
   rw [ev]
   exact kR2 rfl _ (aA.refl _)
  ·have e6 : ((List.range (aF lk_).length).filter fun _ => true).map (fun j => V.bl (dz es n (lk_.getD j 0))) = (lk_.map (dz es n)).map V.bl := by
    rw [lk, List.map_map]
    exact dF 0 (fun b => V.bl (dz es n b)) lk_
   rw [e6] at h6
   refine ⟨D4, _, rfl, aO.of h6, _, rfl, ?_⟩
   rw [List.any_map]
   have ea : lk_.any (id ∘ dz es n) = lk_.any (dz es n) := rfl
   rw [ea]
   cases c : lk_.any (dz es n) with
   | false => exact fG (b := !false) rfl ⟨_, rfl, kR (by rw [c]; rfl) _ s6⟩
   | true => exact ei (b := !true) rfl (kE (by rw [c]; rfl) _ s6)
 have e3 : ((List.range (aF lk_).length).filter fun i => !lk_.any (dz es (lk_.getD i 0))).map (fun i => V.int (lk_.getD i 0 : Nat)) = aF (fZ ws es ls) := by
  rw [lk]
  unfold fZ
  rw [hlk]
  exact de 0 (fun n => !lk_.any (dz es n)) (fun n => V.int (n : Nat)) lk_
 rw [e3] at h3
 have nx := oI (ws := ws) rk ne
 refine ⟨_, rfl, D3, _, _, _, rfl, rfl, aO.of h3, aL (j := 0) (show (aF (fZ ws es ls))[0]? = some (V.int (gz ws es ls : Nat)) by unfold aF; rw [List.getElem?_map, nx]; rfl), k _ (s12.trans s3)⟩
theorem xO (T : eQ K mg t) : bB P w K mg base dI 3 t.a_Q21 t.d_Q21 ["works", "leans"] (lW K) := by
 refine T.F_Q21.ok iJ (fun vs H Q E h => ?_) (fun cdv A outer s H vs Q E hr h => ?_)
 ·obtain ⟨_, _, _, _, rfl, _⟩ := h; rfl
 obtain ⟨v, u, ws, es, rfl, ak, k⟩ := h
 refine dN.ok (ag (cD 2 iJ.nd (dt (Ae T) hr T.m_Q3 T.F_Q3.kp T.b_Q3 (ad (aj aw (by rfl) T.z_len boot_len (ad (qv 0) af ae)) (ad (qv 1) af ae) aG)))
   (ag (cD 3 iJ.nd (bK (gi rfl) (by rfl) T.z_list boot_list (ad (im rfl T.z_range (ad (aj aw (by rfl) T.z_len boot_len (ad (qv 0) af ae)) af aG)) af aG)))
   (ag (cD 4 iJ.nd (bY af))
   (ag (eU PassesOwn.never (ay iS (aj aw (by rfl) T.z_len boot_len (ad (qv 3) af ae)) ai (ax _))
   (ag (cD 5 iJ.nd (dt (Af T) hr T.m_Q2 T.F_Q2.kp T.b_Q2 (ad (qv 0) (ad (qv 2) (ad (qv 3) af ae) ae) ae)))
   (ag (cX (fz PySem.F.plainAttrs_list PySem.F.slot_list_remove PySem.F.type_list_remove u9 (qv 3) (ad (qv 5) af ae)))
   (ao (cX (fz PySem.F.plainAttrs_list PySem.F.slot_list_append PySem.F.type_list_append b8 (qv 4) (ad (qv 5) af ae)))))))
   (ao (az (qv 4))))))) ?_
 try dsimp only [Cx.nox, Cx.wish, bO]
 obtain ⟨p, xs, rfl, hS, al⟩ := id ak.wv
 have lx : xs.length = ws.length := al.len
 have w8 := ak.w8
 refine ⟨_, rfl, p, _, rfl, .inr hS, _, rfl, ws.length, u, es, (by rw [← lx]; rfl), ak.lv, ak.eok, by omega, fun lm rows L H1 s1 m1 c1 => ?_⟩
 have hS1 := aN.same (K := K) s1 _ _ hS
 refine ⟨_, rfl, p, _, rfl, .inr hS1, _, rfl, fun pr hpr => ?_⟩
 rw [lx]
 have s2 := ap hpr (.rng 0 ws.length)
 refine ⟨pr, ws.length, rfl, ah, by omega, fun wl hwl => ?_⟩
 have s3 := ap hwl (.lst ((B.upTo ws.length).map V.int))
 have s23 := s2.trans s3
 have hw3 : upd (upd H1 pr (.rng 0 ws.length)) wl (.lst ((B.upTo ws.length).map V.int)) wl = some (.lst ((B.upTo ws.length).map V.int)) := ah
 have wl0 : H1 wl = none := by
  cases e : H1 wl with
  | none => rfl
  | some o => rw [s2 _ _ e] at hwl; cases hwl
 generalize upd (upd H1 pr (.rng 0 ws.length)) wl (.lst ((B.upTo ws.length).map V.int)) = H3 at s23 hw3 ⊢
 refine ⟨(by show 0 ≤ sizeLine; exact Nat.zero_le _), fun lo hlo => ?_⟩
 have s4 := ap hlo (.lst [])
 have nlw : lo ≠ wl := fun z => by subst z; rw [hw3] at hlo; cases hlo
 have hw4 := s4 _ _ hw3
 have ho4 : upd H3 lo (.lst []) lo = some (.lst []) := ah
 have s14 := s23.trans s4
 have lo0 : H1 lo = none := by
  cases e : H1 lo with
  | none => rfl
  | some o => rw [s23 _ _ e] at hlo; cases hlo
 have eup : (B.upTo ws.length).map V.int = aF (bX ws.length (cM ws es 0)) := by
  show _ = aF ((List.range ws.length).filter fun i => !([] : List Nat).contains i)
  have e : (List.range ws.length).filter (fun i => !([] : List Nat).contains i) = List.range ws.length := List.filter_eq_self.mpr fun i _ => rfl
  rw [e]
  unfold B.upTo aF
  rw [List.map_map]
  rfl
 rw [eup] at hw4
 generalize upd H3 lo (.lst []) = H4 at s14 hw4 ho4 ⊢
 have keep : ∀ H', (∀ b o, b ≠ wl -> b ≠ lo -> H4 b = some o -> H' b = some o) -> aA H1 H' := fun H' kp b o e => kp b o (fun z => by subst z; rw [wl0] at e; cases e) (fun z => by subst z; rw [lo0] at e; cases e) (s14 _ _ e)
 refine ⟨fun m σ H' => ∃ (i : Nat) (x5 : Option V), σ = [some (.ref p), some u, some (.ref lm), some (.ref wl), some (.ref lo), x5] /\ (∀ b o, b ≠ wl -> b ≠ lo -> H4 b = some o -> H' b = some o) /\ H' wl = some (.lst (aF (bX ws.length (cM ws es i)))) /\ H' lo = some (.lst (aF (cM ws es i))) /\ i ≤ ws.length /\ m = ws.length - i, ⟨_, 0, none, rfl, fun _ _ _ _ e => e, hw4, ho4, Nat.zero_le _, rfl⟩, ?_⟩
 rintro m σ H5 ⟨i, x5, rfl, kp, hw5, ho5, hi, rfl⟩
 have oi := gy (es := es) ak.rk i hi
 have s5 := keep H5 kp
 have wl_ := oi.wl
 refine ⟨_, rfl, wl, _, rfl, .inl (aO.of hw5), _, _, rfl, rfl, _, rfl, ?_⟩
 have lnv : (aF (bX ws.length (cM ws es i))).length = (bX ws.length (cM ws es i)).length := List.length_map _
 by_cases c : i < ws.length
 ·refine bQ (by omega) ⟨_, fun _ _ z => z, ?_⟩
  obtain ⟨oi1, j, hj, ej⟩ := oi.step ak.rk c
  refine ⟨_, rfl, _, rfl, _, rfl, .ref p, lm, wl, ws, es, rows, L, bX ws.length (cM ws es i), rfl, ⟨p, xs, rfl, aN.same s5 _ _ hS1, (al.mono fun _ _ z => z.mono (aN.same s1)).mono fun _ _ z => z.mono (aN.same s5)⟩, w8, m1.same s5, c1, aO.of hw5, (fun n hn => (iY.mp hn).1), oi.ne c, by omega, ak.rk, fun H6 s6 => ?_⟩
  refine ⟨_, rfl, .inl ⟨rfl, _, aO.of (s6 _ _ hw5)⟩, _, rfl, wl, _, j, _, rfl, rfl, s6 _ _ hw5, hj, tL (oj _ _) hj, ?_⟩
  rw [ej]
  have ho6 := s6 _ _ ho5
  have ho7 : upd H6 wl (.lst ((bX ws.length (cM ws es (i + 1))).map fun i : Nat => V.int i)) lo = some (.lst (aF (cM ws es i))) := by rw [aC nlw]; exact ho6
  refine ⟨_, rfl, .inl ⟨rfl, _, aO.of ho7⟩, _, rfl, lo, _, _, rfl, rfl, ho7, bh (by unfold aF; rw [List.length_map, oi.len]; omega), ?_⟩
  refine ⟨_, (by omega), i + 1, _, rfl, fun b o n1 n2 e => ?_, ?_, ?_, c, rfl⟩
  ·rw [aC n2, aC n1]
   exact s6 _ _ (kp b o n1 n2 e)
  ·rw [aC (Ne.symm nlw), ah]
   rfl
  ·rw [ah]
   show some (HO.lst (aF (cM ws es i) ++ [_])) = some (HO.lst (aF (cM ws es i ++ [_])))
   unfold aF
   rw [List.map_append]
   rfl
 ·refine aV (by omega) ?_
  have e : i = ws.length := by omega
  subst e
  exact ⟨_, rfl, k lo H5 (s1.trans s5) (by
   cases e : H lo with
   | none => rfl
   | some o => rw [s1 _ _ e] at lo0; cases lo0) ho5⟩
theorem z8 (T : eQ K mg t) : bB P w K mg base dI 4 t.a_Q9 t.d_Q9 ["works", "order", "left", "turn", "speed"] (kL K) := by
 refine T.F_Q9.ok jp (fun vs H Q E h => ?_) (fun cdv A outer s H vs Q E hr h => ?_)
 ·obtain ⟨_, _, _, _, _, _, _, _, _, _, rfl, _⟩ := h; rfl
 obtain ⟨v, u, o, lf, ws, ord, xs, rs, t_, sp, rfl, ⟨p, xw, rfl, hS, al⟩, ho, hlf, nol, alr, lr, okr, hu, asp, olt, o8, k⟩ := h
 refine dN.ok (ag (cD 5 jp.nd (bY af))
   (ag (cD 6 jp.nd (qv 4))
   (ag (cP PassesOwn.never rfl (bG (qv 1)) (aH (i := 7) jp.nd rfl (by first | exact Or.inl rfl | exact Or.inr rfl))
   (ag (aU (kT (bp (dt (z9 T) hr T.m_Q8 T.F_Q8.kp T.b_Q8 (ad (cK aM (qv 0) (qv 7)) (ad (qv 3) af ae) aP)))) (ao my) aD)
   (ag (cD 8 jp.nd (dt (xE T) hr T.m_Q38 T.F_Q38.kp T.b_Q38 (ad (cK bo (qv 2) (qv 7)) (ad (qv 6) af ae) aP)))
   (ao (aU (ay (g3 hr) (qv 8) (dg (v := .ref t.c_NOUGHT) rfl T.m_NOUGHT rfl) (ax _)) (ag (cX (fz PySem.F.plainAttrs_list PySem.F.slot_list_append PySem.F.type_list_append b8 (qv 5) (ad (bI (ad (qv 7) (ad (qv 8) af ae) ae)) af cC)))
   (ag (ef (dt (sW T) hr T.m_Q42 T.F_Q42.kp T.b_Q42 (ad (cK bo (qv 2) (qv 7)) (ad (qv 8) af ae) aP)) (fe (qv 2) (qv 7) dq))
   (ao (cD 6 jp.nd (dt (sW T) hr T.m_Q42 T.F_Q42.kp T.b_Q42 (ad (qv 6) (ad (qv 8) af ae) ae)))))) aD)))))
   (ao (az (bK bw (by rfl) T.z_tuple boot_tuple (ad (qv 5) af ae))))))) ?_
 try dsimp only [Cx.nox, Cx.wish, bO]
 refine ⟨(by show 0 ≤ sizeLine; exact Nat.zero_le _), fun dl hdl => ?_⟩
 have s1 := ap hdl (.lst [])
 have hd1 : upd H dl (.lst []) dl = some (.lst []) := ah
 have ndf : dl ≠ lf := fun z => by subst z; rw [hlf] at hdl; cases hdl
 have ndo : dl ≠ o := fun z => by subst z; rw [ho] at hdl; cases hdl
 have hlf1 := s1 _ _ hlf
 have ho1 := s1 _ _ ho
 generalize upd H dl (.lst []) = H1 at s1 hd1 hlf1 ho1 ⊢
 have l12 : ∀ r ∈ [dl, lf], ∃ xs, H1 r = some (.lst xs) := fun r m => by
  rcases List.mem_cons.mp m with z | z
  ·exact ⟨_, by rw [z]; exact hd1⟩
  ·exact ⟨_, by rw [List.mem_singleton.mp z]; exact hlf1⟩
 have t1 := aN.same (K := K) s1
 have onot : o ∉ [dl, lf] := fun m => by
  rcases List.mem_cons.mp m with z | z
  ·exact ndo z.symm
  ·exact nol (List.mem_singleton.mp z)
 have md : dl ∈ [dl, lf] := List.mem_cons_self
 have ml : lf ∈ [dl, lf] := List.mem_cons_of_mem _ List.mem_cons_self
 refine ⟨_, rfl, _, rfl, o, rfl, ⟨_, aO.of ho1⟩, em (K := K) (a := o) (xs := aF ord) (fun i σ H' => ∃ (rv : V) (zs ys : List V) (st : vD) (x8 x9 : Option V), σ = [some (.ref p), some (.ref o), some (.ref lf), some (.int (t_ : Nat)), some u, some (.ref dl), some rv, x8, x9] /\ st = (ord.take i).foldl (cv ws t_) (rs, sp, []) /\ Kp [dl, lf] H1 H' /\ H' lf = some (.lst zs) /\ cO (RV K H') zs st.1 /\ RV K H' rv st.2.1 /\ H' dl = some (.lst ys) /\ cO (vA K H') ys st.2.2 /\ uf ws.length st /\ st.2.2.length ≤ i) ⟨u, xs, [], (rs, sp, []), none, none, rfl, rfl, Kp.same (aA.refl _) l12, hlf1, alr.mono fun _ _ z => z.mono t1, hu.mono t1, hd1, .nil, ⟨lr, okr, asp, fun p hp => by cases hp⟩, Nat.le_refl _⟩ (fun i σ H' _ ⟨_, _, _, _, _, _, _, _, kp, _⟩ => aO.of (kp.keep _ _ onot ho1)) ?_ ?_⟩
 ·rintro i x σ H3 hx ⟨rv, zs, ys, st, x8, x9, rfl, est, kp, hl3, alz, hrv, hd3, aly, dok, few⟩
  obtain ⟨n, hn, rfl⟩ := ir hx
  have nl := olt n (List.mem_of_getElem? hn)
  have i8 : i < ord.length := (List.getElem?_eq_some_iff.mp hn).1
  have t3 := t1.trans (aN.kp kp)
  have es : (ord.take (i + 1)).foldl (cv ws t_) (rs, sp, []) = cv ws t_ st n := by rw [List.take_add_one, hn, List.foldl_append, est]; rfl
  obtain ⟨wv, hwv⟩ : ∃ wv, xw[n]? = some wv := ⟨_, List.getElem?_eq_getElem (by rw [al.len]; exact nl)⟩
  obtain ⟨w, hw, hwk⟩ := al.at hwv
  have ew : ws.getD n lL = w := aR lL hw
  obtain ⟨zv, hzv⟩ : ∃ zv, zs[n]? = some zv := ⟨_, List.getElem?_eq_getElem (by rw [alz.len, dok.len]; exact nl)⟩
  obtain ⟨r, hr_, hrz⟩ := alz.at hzv
  have er : st.1.getD n (0, 1) = r := aR (0, 1) hr_
  have ar : fq r := dok.lf r (List.mem_of_getElem? hr_)
  refine ⟨_, rfl, _, rfl, p, _, _, _, rfl, rfl, t3 _ _ hS, aL hwv, _, rfl, _, w, t_, rfl, hwk.mono t3, _, rfl, ?_⟩
  obtain ⟨dk1, fw1⟩ := dok.step (ws := ws) (t := t_) nl
  cases c : ii w t_ with
  | false =>
   refine fG (b := !false) rfl ?_
   have e0 : cv ws t_ st n = st := by
    unfold cv
    rw [if_neg]
    rintro ⟨z, _⟩
    rw [ew, c] at z
    cases z
   exact ⟨rv, zs, ys, st, _, _, rfl, (es.trans e0).symm, kp, hl3, alz, hrv, hd3, aly, dok, by omega⟩
  | true =>
   refine ei (b := !true) rfl ?_
   refine ⟨_, rfl, _, rfl, lf, _, _, _, rfl, rfl, aO.of hl3, aL hzv, _, rfl, _, rv, r, st.2.1, rfl, hrz, hrv, ar, dok.rm, fun a ha => ?_⟩
   have aa := nO ar dok.rm
   generalize ea : fE r st.2.1 = am at ha aa
   refine ⟨_, rfl, dR am, dR (0, 1), ha.deep, RV.deep ⟨_, rfl, T.q_NOUGHT _⟩, rfl, rfl, gI _, _, rfl, ?_⟩
   rw [ix]
   by_cases cz : am = (0, 1)
   ·refine ei (b := !decide (am = (0, 1))) (by rw [decide_eq_true cz]; rfl) ?_
    have e0 : cv ws t_ st n = st := by
     unfold cv
     rw [if_neg]
     rintro ⟨_, z⟩
     rw [er, ea] at z
     exact z cz
    exact ⟨rv, zs, ys, st, _, _, rfl, (es.trans e0).symm, kp, hl3, alz, hrv, hd3, aly, dok, by omega⟩
   ·refine fG (b := !decide (am = (0, 1))) (by rw [decide_eq_false cz]; rfl) ?_
    have e1 : cv ws t_ st n = (st.1.set n (cI r am), cI st.2.1 am, st.2.2 ++ [(n, am)]) := by
     unfold cv
     rw [if_pos ⟨by rw [ew]; exact c, by rw [er, ea]; exact cz⟩, er, ea]
    refine ⟨_, rfl, .inl ⟨rfl, _, aO.of hd3⟩, _, rfl, _, rfl, km, fun pn hpn => ?_⟩
    have s4 := ap hpn (.tup [.int (n : Nat), a])
    have hp4 : upd H3 pn (.tup [.int (n : Nat), a]) pn = some (.tup [.int (n : Nat), a]) := ah
    generalize upd H3 pn (.tup [.int (n : Nat), a]) = H4 at s4 hp4 ⊢
    have hd4 := s4 _ _ hd3
    have kp4 := kp.trans (Kp.same s4 kp.ls')
    refine ⟨dl, ys, _, rfl, rfl, hd4, bh (by rw [aly.len]; omega), ?_⟩
    have kp5 := Kp.up md kp4.ls' (ys ++ [.ref pn])
    have hd5 : upd H4 dl (.lst (ys ++ [.ref pn])) dl = some (.lst (ys ++ [.ref pn])) := ah
    have hl5 : upd H4 dl (.lst (ys ++ [.ref pn])) lf = some (.lst zs) := by rw [aC (Ne.symm ndf)]; exact s4 _ _ hl3
    generalize upd H4 dl (.lst (ys ++ [.ref pn])) = H5 at kp5 hd5 hl5 ⊢
    have t35 := (aN.same (K := K) s4).trans (aN.kp kp5)
    have kq5 := kp4.trans kp5
    refine ⟨_, rfl, _, rfl, lf, _, _, _, rfl, rfl, aO.of hl5, aL hzv, _, rfl, _, a, r, am, 50, 50, rfl, hrz.mono t35, ha.mono t35, ar.wf, aa.wf, by decide, fun mv H6 s6 hmv => ?_⟩
    have hl6 := s6 _ _ hl5
    have hd6 := s6 _ _ hd5
    have kq6 := kq5.trans (Kp.same s6 kq5.ls')
    have t36 := t35.trans (aN.same s6)
    refine ⟨_, rfl, _, rfl, lf, zs, _, n, rfl, rfl, hl6, fQ (by rw [alz.len, dok.len]; exact nl), ?_⟩
    have kp7 := Kp.up ml kq6.ls' (zs.set n mv)
    have hl7 : upd H6 lf (.lst (zs.set n mv)) lf = some (.lst (zs.set n mv)) := ah
    have hd7 : upd H6 lf (.lst (zs.set n mv)) dl = some (.lst (ys ++ [.ref pn])) := by rw [aC ndf]; exact hd6
    generalize upd H6 lf (.lst (zs.set n mv)) = H7 at kp7 hl7 hd7 ⊢
    have t67 := aN.kp (K := K) kp7
    have t37 := t36.trans t67
    have kq7 := kq6.trans kp7
    refine ⟨_, rfl, _, rfl, rv, a, st.2.1, am, 50, 50, rfl, hrv.mono t37, ha.mono t37, dok.rm.wf, aa.wf, by decide, fun rv2 H8 s8 hrv2 => ?_⟩
    have t78 := aN.same (K := K) s8
    have t38 := t37.trans t78
    have est' : cv ws t_ st n = (ord.take (i + 1)).foldl (cv ws t_) (rs, sp, []) := es.symm
    rw [e1] at est' dk1 fw1
    exact ⟨rv2, _, _, _, _, _, rfl, est', kq7.trans (Kp.same s8 kq7.ls'), s8 _ _ hl7, cO.setI (hmv.mono (t67.trans t78)) n (alz.mono fun _ _ z => z.mono t38), hrv2, s8 _ _ hd7, cO.snoc ⟨pn, a, rfl, (((aN.kp kp5).trans (aN.same s6)).trans (t67.trans t78)) _ _ (bt.of hp4), ha.mono t38⟩ (aly.mono fun _ _ z => z.mono t38), dk1, by omega⟩
 ·rintro σ H3 ⟨rv, zs, ys, st, x8, x9, rfl, est, kp, hl3, alz, hrv, hd3, aly, dok, few⟩
  rw [show (aF ord).length = ord.length from List.length_map _, List.take_length] at est
  refine ⟨_, rfl, dl, _, rfl, .inl ⟨aO.of hd3, fun pt hpt => ?_⟩⟩
  have s4 := ap hpt (.tup ys)
  have t34 := aN.same (K := K) s4
  have e : gl ws ord t_ rs sp = st := est.symm
  refine k (.ref pt) zs _ ⟨fun b o' nb e => s4 _ _ (kp.keep b o' (fun m => ?_) (s1 _ _ e)), ⟨_, hlf⟩, ⟨_, s4 _ _ hl3⟩⟩ (s4 _ _ hl3) (by rw [e]; exact alz.mono fun _ _ z => z.mono t34) (by rw [e]; exact ⟨pt, ys, rfl, bt.of ah, aly.mono fun _ _ z => z.mono t34⟩)
  rcases List.mem_cons.mp m with z | z
  ·rw [z, hdl] at e; cases e
  ·exact nb (List.mem_singleton.mp z)
theorem xN (T : eQ K mg t) : bB P w K mg base dI 1 t.a_Q22 t.d_Q22 ["_law_script"] (lX K) := by
 refine T.F_Q22.ok wJ (fun vs H Q E h => ?_) (fun cdv A outer s H vs Q E hr h => ?_)
 ·obtain ⟨_, _, rfl, _⟩ := h; rfl
 obtain ⟨a, ns, rfl, hS, hl, k⟩ := h
 refine dN.ok (ao (az (bY (ad (qv 0) (ad ai (ad ai af aE) aE) ae)))) ?_
 try dsimp only [Cx.nox, Cx.wish, bO]
 refine ⟨_, rfl, qQ, fun t ht => ?_⟩
 exact k t _ (ap ht _) ht (bR.mk3 hS hl ht)
theorem cH (T : eQ K mg t) : bB P w K mg base dI 1 t.a_Q23 t.d_Q23 ["_law_tape_here", "_law_many"] (ma K) := by
 refine T.F_Q23.ok gW (fun vs H Q E h => ?_) (fun cdv A outer s H vs Q E hr h => ?_)
 ·obtain ⟨_, _, _, rfl, _⟩ := h; rfl
 obtain ⟨t₁, s₁, m, rfl, tp, hm0, hm1, k⟩ := h
 refine dN.ok (ag (aU (ay bF (cK bo (qv 0) ai) ai (ax _)) (ag (cD 2 gW.nd (cK bo (qv 0) ai))
   (ag (ef (aS dj (qv 2) ai) (fe (qv 0) ai dq))
   (ag (cD 3 gW.nd (qv 2))
   (ag (aU (ay iS (aj aw (by rfl) T.z_len boot_len (ad (cK bo (qv 0) ai) af aP)) ai (ax _)) (ao (cD 3 gW.nd (cK bo (cK bo (qv 0) ai) (aS eM (qv 2) (aj aw (by rfl) T.z_len boot_len (ad (cK bo (qv 0) ai) af aP)))))) aD)
   (ag (aU (d4 (fw (ay jT (qv 3) (aS xu ai ai) (ax _)) (ee (ay z5 (qv 2) (aj aw (by rfl) T.z_len boot_len (ad (cK bo (qv 0) ai) af aP)) (ax _))))) (ag (cD 4 gW.nd (aS eM (aS fA (aS dj (aS eM (qv 3) ai) ai) (aS dj ai (aS fA ai (aS eM (qv 2) ai)))) ai))
   (ao (az (aS eM (aS kY (aS eM (aS fA (aS dj (qv 4) (aS fA ai (qv 2))) ai) ai) ai) (qv 1))))) aD)
   (ao (ef (qv 3) (fe (qv 0) ai dq)))))))) aD)
   (ag (cD 5 gW.nd (aS eM (cK bo (qv 0) ai) (qv 1)))
   (ag (ef (aS kY (cK bo (qv 0) ai) (qv 1)) (fe (qv 0) ai dq))
   (ao (az (qv 5)))))) ?_
 try dsimp only [Cx.nox, Cx.wish, bO]
 obtain ⟨ns, p, q, ht, hs, hlen, hp0, hq0⟩ := tp.ex
 have hs' : ∀ o, aO K (upd H t₁ o) s₁ (ns.map V.int) := fun o => hs.elim (fun z => .inl (kQ z.1 z.2.symm)) fun z => z _
 have tap : ∀ (p' q' : Int), 0 ≤ p' -> 0 ≤ q' -> bR K (upd H t₁ (.lst [.ref s₁, .int p', .int q'])) t₁ s₁ := fun p' q' a b => ⟨ns, p', q', ah, hs.elim (fun z => .inl ⟨kQ z.1 z.2.symm, z.2⟩) fun z => .inr z, hlen, a, b⟩
 have hl : ((ns.map V.int).length : Int) = (ns.length : Int) := by rw [List.length_map]
 refine ⟨_, rfl, t₁, _, _, _, rfl, rfl, aO.of ht, rfl, rfl, _, rfl, ?_⟩
 by_cases c0 : q = 0
 ·refine bQ (by rw [c0]) ?_
  refine ⟨_, rfl, t₁, _, _, _, rfl, rfl, aO.of ht, rfl, ?_⟩
  refine ⟨_, rfl, _, _, rfl, rfl, _, rfl, t₁, _, _, _, rfl, rfl, ht, rfl, ?_⟩
  refine ⟨_, rfl, ?_⟩
  refine ⟨_, rfl, t₁, _, _, _, rfl, rfl, aO.of ah, rfl, s₁, _, rfl, .inl (hs' _), _, _, rfl, rfl, _, rfl, ?_⟩
  refine qu (fun c9 => ?_) (fun _ => ?_)
  ·have c8 : (0 : Int) < (ns.length : Int) := by
    have c7 : (0 : Int) < ((ns.map V.int).length : Int) := of_decide_eq_true c9
    rw [hl] at c7; exact c7
   obtain ⟨z, hz⟩ := zS (ns := ns) (r := p % (ns.length : Int)) (Int.emod_nonneg _ (by omega)) (Int.emod_lt_of_pos _ c8)
   rw [← hl] at hz c8
   refine ⟨_, rfl, t₁, _, _, _, rfl, rfl, aO.of ah, rfl, _, rfl, _, rfl, t₁, _, _, _, rfl, rfl, aO.of ah, rfl, s₁, _, rfl, .inl (hs' _), _, _, rfl, rfl, c8, s₁, _, _, _, rfl, rfl, hs' _, hz, ?_⟩
   refine ⟨_, rfl, _, _, rfl, rfl, ⟨by decide, by decide, by decide⟩, _, _, rfl, rfl, _, rfl, ?_⟩
   refine qu (fun _ => ?_) (fun d1 => ?_)
   ·refine bM ?_
    refine ⟨_, rfl, _, _, rfl, rfl, (by show (0 : Int) < _; decide), _, _, rfl, rfl, _, rfl, _, _, rfl, rfl, (by show (0 : Int) < _; decide), _, _, rfl, rfl, .inl ⟨by omega, by omega⟩, _, _, rfl, rfl, _, _, rfl, rfl, .inl ⟨by omega, by omega⟩, _, _, rfl, rfl, (by show (0 : Int) < _; decide), ?_⟩
    refine ⟨_, rfl, _, rfl, _, _, rfl, rfl, .inl ⟨by omega, by omega⟩, _, _, rfl, rfl, _, _, rfl, rfl, .inr ⟨by decide, by decide⟩, _, _, rfl, rfl, (by show (0 : Int) < _; decide), _, _, rfl, rfl, ⟨by decide, by decide⟩, _, rfl, _, _, rfl, rfl, hm0, ?_⟩
    exact k _ _ (Int.emod_nonneg _ (by omega)) (Int.emod_lt_of_pos _ hm0) (tap (p + 1) q (by omega) hq0)
   ·refine ⟨_, rfl, _, rfl, t₁, _, _, _, rfl, rfl, aO.of ah, rfl, s₁, _, rfl, .inl (hs' _), _, _, rfl, rfl, _, rfl, ?_⟩
    refine qu (fun _ => ?_) (fun _ => ?_)
    ·refine ⟨_, rfl, _, _, rfl, rfl, (by show (0 : Int) < _; decide), _, _, rfl, rfl, _, rfl, _, _, rfl, rfl, (by show (0 : Int) < _; decide), _, _, rfl, rfl, .inl ⟨by omega, by omega⟩, _, _, rfl, rfl, _, _, rfl, rfl, .inl ⟨by omega, by omega⟩, _, _, rfl, rfl, (by show (0 : Int) < _; decide), ?_⟩
     refine ⟨_, rfl, _, rfl, _, _, rfl, rfl, .inl ⟨by omega, by omega⟩, _, _, rfl, rfl, _, _, rfl, rfl, .inr ⟨by decide, by decide⟩, _, _, rfl, rfl, (by show (0 : Int) < _; decide), _, _, rfl, rfl, ⟨by decide, by decide⟩, _, rfl, _, _, rfl, rfl, hm0, ?_⟩
     exact k _ _ (Int.emod_nonneg _ (by omega)) (Int.emod_lt_of_pos _ hm0) (tap (p + 1) q (by omega) hq0)
    ·have d2 : (0 : Int) ≤ z := by
      have d3 : 1000000000000000000 ≤ z := by simpa using d1
      omega
     refine ⟨_, rfl, _, rfl, t₁, _, _, _, rfl, rfl, ah, rfl, ?_⟩
     rw [ik]
     refine ⟨_, rfl, t₁, _, _, _, rfl, rfl, aO.of ah, rfl, _, rfl, _, _, rfl, rfl, hm0, ?_⟩
     refine ⟨_, rfl, t₁, _, _, _, rfl, rfl, aO.of ah, rfl, _, rfl, _, _, rfl, rfl, ⟨hm0, hm1⟩, _, rfl, t₁, _, _, _, rfl, rfl, ah, rfl, ?_⟩
     refine ⟨_, rfl, ?_⟩
     rw [ik]
     exact k _ _ (Int.emod_nonneg _ (by omega)) (Int.emod_lt_of_pos _ hm0) (tap (p + 1) (z / m) (by omega) (Int.ediv_nonneg d2 (by omega)))
  ·obtain ⟨z, hz⟩ : ∃ z, z = p := ⟨_, rfl⟩
   refine ⟨_, rfl, _, _, rfl, rfl, ⟨by decide, by decide, by decide⟩, _, _, rfl, rfl, _, rfl, ?_⟩
   refine qu (fun _ => ?_) (fun d1 => ?_)
   ·refine bM ?_
    refine ⟨_, rfl, _, _, rfl, rfl, (by show (0 : Int) < _; decide), _, _, rfl, rfl, _, rfl, _, _, rfl, rfl, (by show (0 : Int) < _; decide), _, _, rfl, rfl, .inl ⟨by omega, by omega⟩, _, _, rfl, rfl, _, _, rfl, rfl, .inl ⟨by omega, by omega⟩, _, _, rfl, rfl, (by show (0 : Int) < _; decide), ?_⟩
    refine ⟨_, rfl, _, rfl, _, _, rfl, rfl, .inl ⟨by omega, by omega⟩, _, _, rfl, rfl, _, _, rfl, rfl, .inr ⟨by decide, by decide⟩, _, _, rfl, rfl, (by show (0 : Int) < _; decide), _, _, rfl, rfl, ⟨by decide, by decide⟩, _, rfl, _, _, rfl, rfl, hm0, ?_⟩
    exact k _ _ (Int.emod_nonneg _ (by omega)) (Int.emod_lt_of_pos _ hm0) (tap (p + 1) q (by omega) hq0)
   ·refine ⟨_, rfl, _, rfl, t₁, _, _, _, rfl, rfl, aO.of ah, rfl, s₁, _, rfl, .inl (hs' _), _, _, rfl, rfl, _, rfl, ?_⟩
    refine qu (fun _ => ?_) (fun _ => ?_)
    ·refine ⟨_, rfl, _, _, rfl, rfl, (by show (0 : Int) < _; decide), _, _, rfl, rfl, _, rfl, _, _, rfl, rfl, (by show (0 : Int) < _; decide), _, _, rfl, rfl, .inl ⟨by omega, by omega⟩, _, _, rfl, rfl, _, _, rfl, rfl, .inl ⟨by omega, by omega⟩, _, _, rfl, rfl, (by show (0 : Int) < _; decide), ?_⟩
     refine ⟨_, rfl, _, rfl, _, _, rfl, rfl, .inl ⟨by omega, by omega⟩, _, _, rfl, rfl, _, _, rfl, rfl, .inr ⟨by decide, by decide⟩, _, _, rfl, rfl, (by show (0 : Int) < _; decide), _, _, rfl, rfl, ⟨by decide, by decide⟩, _, rfl, _, _, rfl, rfl, hm0, ?_⟩
     exact k _ _ (Int.emod_nonneg _ (by omega)) (Int.emod_lt_of_pos _ hm0) (tap (p + 1) q (by omega) hq0)
    ·have d2 : (0 : Int) ≤ p := by
      have d3 : 1000000000000000000 ≤ p := by simpa using d1
      omega
     refine ⟨_, rfl, _, rfl, t₁, _, _, _, rfl, rfl, ah, rfl, ?_⟩
     rw [ik]
     refine ⟨_, rfl, t₁, _, _, _, rfl, rfl, aO.of ah, rfl, _, rfl, _, _, rfl, rfl, hm0, ?_⟩
     refine ⟨_, rfl, t₁, _, _, _, rfl, rfl, aO.of ah, rfl, _, rfl, _, _, rfl, rfl, ⟨hm0, hm1⟩, _, rfl, t₁, _, _, _, rfl, rfl, ah, rfl, ?_⟩
     refine ⟨_, rfl, ?_⟩
     rw [ik]
     exact k _ _ (Int.emod_nonneg _ (by omega)) (Int.emod_lt_of_pos _ hm0) (tap (p + 1) (p / m) (by omega) (Int.ediv_nonneg d2 (by omega)))
 refine aV (fun z => c0 (by injection z)) ?_
 refine ⟨_, rfl, t₁, _, _, _, rfl, rfl, aO.of ht, rfl, _, rfl, _, _, rfl, rfl, hm0, ?_⟩
 refine ⟨_, rfl, t₁, _, _, _, rfl, rfl, aO.of ht, rfl, _, rfl, _, _, rfl, rfl, ⟨hm0, hm1⟩, _, rfl, t₁, _, _, _, rfl, rfl, ht, rfl, ?_⟩
 refine ⟨_, rfl, ?_⟩
 exact k _ _ (Int.emod_nonneg _ (by omega)) (Int.emod_lt_of_pos _ hm0) (tap p (q / m) hp0 (Int.ediv_nonneg hq0 (by omega)))
theorem sX (T : eQ K mg t) : bB P w K mg base dI 5 t.a_Q10 t.d_Q10 ["_law_due", "_law_found"] (kH K) := by
 refine T.F_Q10.ok iM (fun vs H Q E h => ?_) (fun cdv A outer s H vs Q E hr h => ?_)
 ·obtain ⟨_, _, _, rfl, _⟩ := h; rfl
 obtain ⟨v, w, d, rfl, hv, hw, dp, sm, k⟩ := h
 refine dN.ok (ag (aU (d4 (fw (bp (aj av (by rfl) T.z_isinstance boot_isinstance (ad (qv 0) (ad (aB (v := V.ty "tuple") rfl T.z_tuple boot_tuple rfl) af ae) ae))) (ee (bp (aj av (by rfl) T.z_isinstance boot_isinstance (ad (qv 0) (ad (aB (v := V.ty "list") rfl T.z_list boot_list rfl) af ae) ae)))))) (ag (aU (ay dG (aj av (by rfl) T.z_isinstance boot_isinstance (ad (qv 0) (ad (aB (v := V.ty "tuple") rfl T.z_tuple boot_tuple rfl) af ae) ae)) (aj av (by rfl) T.z_isinstance boot_isinstance (ad (qv 1) (ad (aB (v := V.ty "tuple") rfl T.z_tuple boot_tuple rfl) af ae) ae)) (ax _)) (ao (az cL)) aD)
   (ag (aU (ay dG (aj av (by rfl) T.z_isinstance boot_isinstance (ad (qv 0) (ad (aB (v := V.ty "list") rfl T.z_list boot_list rfl) af ae) ae)) (aj av (by rfl) T.z_isinstance boot_isinstance (ad (qv 1) (ad (aB (v := V.ty "list") rfl T.z_list boot_list rfl) af ae) ae)) (ax _)) (ao (az cL)) aD)
   (ag (aU (ay dG (aj aw (by rfl) T.z_len boot_len (ad (qv 0) af ae)) (aj aw (by rfl) T.z_len boot_len (ad (qv 1) af ae)) (ax _)) (ao (az cL)) aD)
   (ao (az (aj (fT rfl) (by rfl) T.z_all boot_all (ad (bx (N' := ["_law_k", "_law_due", "_law_found"]) (src := [none, some 0, some 1]) rfl (by exact (bD rfl T.z_range (ad (aj aw (by rfl) T.z_len boot_len (ad (qv 0) af ae)) af aG))) (fun _ _ _ _ _ => (by exact (by exact aH (i := 0) (by show List.Nodup (["_law_k", "_law_due", "_law_found"] : List Str); decide +kernel) (by exact rfl) (by first | exact Or.inl rfl | exact Or.inr rfl)))) (fun _ _ _ _ _ => cA) (fun _ _ _ _ _ => (by exact (by exact (dM (qj T) (by exact hr.mono (by decide)) (by exact rfl) T.m_Q10 T.F_Q10.kp T.b_Q10 (by exact .nil) (by exact fY) (ad (by exact (bj (aX (K := K) (by exact rfl)) (by exact (qv 1)) (by exact (qv 0)) (by exact fun _ _ => rfl))) (ad (by exact (bj (aX (K := K) (by exact rfl)) (by exact (qv 2)) (by exact (qv 0)) (by exact fun _ _ => rfl))) af aP) aP))))) (by exact ⟨rfl, rfl, rfl, rfl, ⟨rfl, rfl, rfl, rfl, trivial⟩⟩) rfl (by decide +kernel) rfl (by decide +kernel) (by exact aY rfl ⟨rfl, ⟨rfl, trivial⟩⟩)) af dn))))))) aD)
   (ag (aU (ay eN (qv 0) dr (ax _)) (ao (az (bC eN (qv 1) dr (ax _)))) aD)
   (ag (aU (bp (aj av (by rfl) T.z_isinstance boot_isinstance (ad (qv 0) (ad (aB (v := V.ty "str") rfl T.z_str boot_str rfl) af ae) ae))) (ao (az (cE (aj av (by rfl) T.z_isinstance boot_isinstance (ad (qv 1) (ad (aB (v := V.ty "str") rfl T.z_str boot_str rfl) af ae) ae)) (di (bC bF (qv 1) (qv 0) (ax _)))))) aD)
   (ag (aU (bp (aj av (by rfl) T.z_isinstance boot_isinstance (ad (qv 0) (ad (aB (v := V.ty "bool") rfl T.z_bool boot_bool rfl) af ae) ae))) (ao (az (cE (aj av (by rfl) T.z_isinstance boot_isinstance (ad (qv 1) (ad (aB (v := V.ty "bool") rfl T.z_bool boot_bool rfl) af ae) ae)) (di (bC bF (qv 1) (qv 0) (ax _)))))) aD)
   (ao (az (cE (aj av (by rfl) T.z_isinstance boot_isinstance (ad (qv 1) (ad (aB (v := V.ty "int") rfl T.z_int boot_int rfl) af ae) ae)) (cE (iQ (aj av (by rfl) T.z_isinstance boot_isinstance (ad (qv 1) (ad (aB (v := V.ty "bool") rfl T.z_bool boot_bool rfl) af ae) ae))) (di (bC bF (qv 1) (qv 0) (ax _))))))))))) ?_
 try dsimp only [Cx.nox, Cx.wish, bO]
 cases hv with
 | non =>
  cases hw
  refine ⟨_, rfl, _, _, _, _, rfl, .non, cf, _, rfl, bi ?_⟩
  refine ⟨_, rfl, _, _, _, _, rfl, .non, cF, _, rfl, bi ?_⟩
  refine ⟨_, rfl, rfl, _, rfl, bM ?_⟩
  exact ⟨_, rfl, rfl, k H (aA.refl H)⟩
 | bl b =>
  cases hw
  refine ⟨_, rfl, _, _, _, _, rfl, .bl b, c5, _, rfl, bi ?_⟩
  refine ⟨_, rfl, _, _, _, _, rfl, .bl b, dE, _, rfl, bi ?_⟩
  refine ⟨_, rfl, rfl, _, rfl, aV (by intro z; cases z) ?_⟩
  refine ⟨_, rfl, _, _, _, _, rfl, .bl b, dU, _, rfl, bi ?_⟩
  refine ⟨_, rfl, _, _, _, _, rfl, .bl b, bH, _, rfl, bM ?_⟩
  refine ⟨_, rfl, _, _, _, _, rfl, .bl b, bH, _, rfl, bM ?_⟩
  have := k H (aA.refl H)
  exact ⟨_, rfl, _, rfl, rfl, by rw [decide_eq_true rfl]; exact this⟩
 | int i =>
  cases hw
  refine ⟨_, rfl, _, _, _, _, rfl, .int i, dD, _, rfl, bi ?_⟩
  refine ⟨_, rfl, _, _, _, _, rfl, .int i, dS, _, rfl, bi ?_⟩
  refine ⟨_, rfl, rfl, _, rfl, aV (by intro z; cases z) ?_⟩
  refine ⟨_, rfl, _, _, _, _, rfl, .int i, eg, _, rfl, bi ?_⟩
  refine ⟨_, rfl, _, _, _, _, rfl, .int i, bT, _, rfl, bi ?_⟩
  refine ⟨_, rfl, _, _, _, _, rfl, .int i, eh, _, rfl, bM ?_⟩
  refine ⟨_, rfl, _, _, _, _, rfl, .int i, bT, _, rfl, _, rfl, bM ?_⟩
  have := k H (aA.refl H)
  exact ⟨_, rfl, _, rfl, rfl, by rw [decide_eq_true rfl]; exact this⟩
 | str x =>
  cases hw
  refine ⟨_, rfl, _, _, _, _, rfl, .str x, dB, _, rfl, bi ?_⟩
  refine ⟨_, rfl, _, _, _, _, rfl, .str x, dQ, _, rfl, bi ?_⟩
  refine ⟨_, rfl, rfl, _, rfl, aV (by intro z; cases z) ?_⟩
  refine ⟨_, rfl, _, _, _, _, rfl, .str x, cr, _, rfl, bM ?_⟩
  refine ⟨_, rfl, _, _, _, _, rfl, .str x, cr, _, rfl, bM ?_⟩
  have := k H (aA.refl H)
  exact ⟨_, rfl, _, rfl, rfl, by rw [decide_eq_true rfl]; exact this⟩
 | lst e h => cases sm
 | @tup a xs ds e h =>
  cases hw with
  | @tup a' xs' _ e' h' =>
  have lx := cq h
  have lx' := cq h'
  have sm' : (decide (ds.length ≤ 1000) && fh ds) = true := sm
  rw [Bool.and_eq_true] at sm'
  obtain ⟨sm1, sm2⟩ := sm'
  have ln : ds.length ≤ 1000 := of_decide_eq_true sm1
  have dv : bJ K H (.ref a) (.tuple ds) := .tup e h
  have dw : bJ K H (.ref a') (.tuple ds) := .tup e' h'
  refine ⟨_, rfl, _, _, _, _, rfl, dv, be, _, rfl, bM ?_⟩
  refine ⟨_, rfl, _, _, _, _, rfl, dv, be, _, rfl, _, _, _, _, rfl, dw, be, rfl, _, rfl, dH rfl ?_⟩
  refine ⟨_, rfl, _, _, _, _, rfl, dv, bS, _, rfl, _, _, _, _, rfl, dw, bS, rfl, _, rfl, dH rfl ?_⟩
  refine ⟨_, rfl, a, _, rfl, .inr e, _, rfl, a', _, rfl, .inr e', rfl, _, rfl, dH (congrArg (fun n : Nat => V.int n) (lx.trans lx'.symm)) ?_⟩
  refine ⟨_, rfl, a, _, rfl, .inr e, _, rfl, by omega, by omega, fun D hD => bz fb (fun _ => true) (fun _ => V.bl true) hD (by omega) (fun i x H' hi s' hx R E kR kE => ?_) fun H4 s4 h4 => ?_⟩
  ·subst hx
   rw [Int.zero_add]
   obtain ⟨d, hd⟩ : ∃ d, ds[i]? = some d := ⟨_, List.getElem?_eq_getElem (by omega)⟩
   obtain ⟨x, hx, dx⟩ := cJ h hd
   obtain ⟨y, hy, dy⟩ := cJ h' hd
   have t' := aN.same (K := K) s'
   refine ⟨eJ.set rfl, _, rfl, _, rfl, a, _, _, _, rfl, rfl, t' _ _ e, aL hx, _, rfl, _, rfl, a', _, _, _, rfl, rfl, t' _ _ e', aL hy, x, y, d, rfl, dx.same s', dy.same s', ?_, fu sm2 hd, fun H'' s'' => kR rfl H'' s''⟩
   have : PyData.depthAll ds + 1 ≤ 3 + 1 := dp
   exact Nat.le_trans (dW hd) (Nat.le_of_succ_le_succ this)
  ·have e4 : (((List.range (xs.length : Int).toNat).filter fun _ => true).map fun _ => V.bl true) = (((List.range (xs.length : Int).toNat).filter fun _ => true).map fun _ => true).map V.bl := by rw [List.map_map]; rfl
   rw [e4] at h4
   have q := k H4 s4
   refine ⟨D, _, rfl, aO.of h4, ?_⟩
   rw [show ((((List.range (xs.length : Int).toNat).filter fun _ => true).map fun _ => true).all id) = true by simp]
   exact q
theorem iU (T : eQ K mg t) : bB P w K mg base dI 1 t.a_Q24 t.d_Q24 ["_law_top", "_law_bottom"] (l9 K) := by
 refine T.F_Q24.ok nz (fun vs H Q E h => ?_) (fun cdv A outer s H vs Q E hr h => ?_)
 ·obtain ⟨_, _, rfl, _⟩ := h; rfl
 obtain ⟨a, b, rfl, hb, hz, k⟩ := h
 refine dN.ok (ag (nC (i := 2) (j := 3) rfl nz.nd rfl rfl (by decide) rfl rfl (ad (aj jb (by rfl) T.z_abs boot_abs (ad (qv 0) af ae)) (ad (qv 1) af ae) aG) rfl)
   (ag (eU PassesOwn.never (ay dG (qv 3) ai (ax _))
   (ao (nC (i := 2) (j := 3) rfl nz.nd rfl rfl (by decide) rfl rfl (ad (qv 3) (ad (aS eM (qv 2) (qv 3)) af bP) ae) rfl)))
   (ao (az (bI (ad (aS ge (qv 0) (qv 2)) (ad (aS ge (qv 1) (qv 2)) af bP) bP)))))) ?_
 try dsimp only [Cx.nox, Cx.wish, bO]
 have gp := cN (a := a) hb
 have gb := nS (a := a) hb hz
 refine ⟨_, rfl, _, rfl, _, rfl, _, _, rfl, ?_⟩
 rw [nY]
 refine ⟨fun m σ H' => ∃ (x y : Int), σ = [some (.int a), some (.int b), some (.int x), some (.int y)] /\ H' = H /\ 0 ≤ x /\ 0 ≤ y /\ Int.gcd x y = Int.gcd a b /\ m = y.toNat, ⟨_, _, _, rfl, rfl, by omega, by omega, (by simp [Int.gcd]), rfl⟩, ?_⟩
 rintro m σ H' ⟨x, y, rfl, rfl, hx, hy, hg, rfl⟩
 refine ⟨_, rfl, rfl, _, rfl, ?_⟩
 by_cases c : y = 0
 ·subst c
  refine dH rfl ?_
  have e : (x : Int) = (Int.gcd x 0 : Nat) := by simp [Int.gcd]; omega
  rw [hg] at e
  subst e
  exact ⟨_, rfl, _, rfl, _, _, rfl, rfl, ⟨gp, gb⟩, _, rfl, _, rfl, _, _, rfl, rfl, ⟨gp, gb⟩, km, fun p hp => k p hp⟩
 ·refine oP (fun z => c (by injection z)) ?_
  refine ⟨_, fun _ _ z => z, ?_⟩
  refine ⟨_, rfl, _, rfl, _, rfl, _, _, rfl, rfl, (by omega), _, _, rfl, ?_⟩
  refine ⟨_, ?_, y, x % y, rfl, rfl, hy, Int.emod_nonneg _ c, ?_, rfl⟩
  ·have := Int.emod_lt_of_pos x (show 0 < y by omega)
   have := Int.emod_nonneg x c
   omega
  ·rw [mK hx (by omega), hg]
theorem iT (T : eQ K mg t) : bB P w K mg base dI 2 t.a_Q29 t.d_Q29 ["_law_one", "_law_other"] (np K) := by
 refine T.F_Q29.ok wF (fun vs H Q E h => ?_) (fun cdv A outer s H vs Q E hr h => ?_)
 ·obtain ⟨_, _, _, _, _, _, rfl, _⟩ := h; rfl
 obtain ⟨v, w, r, q, n, m, rfl, hv, hw, wr, wq, hz, k⟩ := h
 refine dN.ok (ao (az (dt (iU T) hr T.m_Q24 T.F_Q24.kp T.b_Q24 (ad (aS dj (aS dh (cK aM (qv 0) ai) (cK aM (qv 1) ai)) (aS dh (cK aM (qv 1) ai) (cK aM (qv 0) ai))) (ad (aS dh (cK aM (qv 0) ai) (cK aM (qv 1) ai)) af bP) bP)))) ?_
 try dsimp only [Cx.nox, Cx.wish, bO]
 obtain ⟨p, rfl, hv⟩ := hv
 obtain ⟨p', rfl, hw⟩ := hw
 have c1 := bE wr.top (show n ≤ 4000 by omega)
 have c2 := bE wr.bot (show n ≤ 4000 by omega)
 have c3 := bE wq.top (show m ≤ 4000 by omega)
 have c4 := bE wq.bot (show m ≤ 4000 by omega)
 refine ⟨_, rfl, p, _, _, _, rfl, rfl, hv, rfl, _, rfl, p', _, _, _, rfl, rfl, hw, rfl, _, _, rfl, rfl, ⟨c1, c4⟩, _, rfl, p', _, _, _, rfl, rfl, hw, rfl, _, rfl, p, _, _, _, rfl, rfl, hv, rfl, _, _, rfl, rfl, ⟨c3, c2⟩, _, _, rfl, rfl, _, rfl, p, _, _, _, rfl, rfl, hv, rfl, _, rfl, p', _, _, _, rfl, rfl, hw, rfl, _, _, rfl, rfl, ⟨c2, c4⟩, _, _, rfl, Int.mul_pos wr.pos wq.pos, bE (iX wr.bot wq.bot) (by omega), k⟩
theorem xI (T : eQ K mg t) : bB P w K mg base dI 2 t.a_Q30 t.d_Q30 ["_law_one", "_law_other"] (nj K) := by
 refine T.F_Q30.ok wE (fun vs H Q E h => ?_) (fun cdv A outer s H vs Q E hr h => ?_)
 ·obtain ⟨_, _, _, _, _, _, rfl, _⟩ := h; rfl
 obtain ⟨v, w, r, q, n, m, rfl, hv, hw, wr, wq, hz, k⟩ := h
 refine dN.ok (ao (az (dt (iU T) hr T.m_Q24 T.F_Q24.kp T.b_Q24 (ad (aS dh (cK aM (qv 0) ai) (cK aM (qv 1) ai)) (ad (aS dh (cK aM (qv 0) ai) (cK aM (qv 1) ai)) af bP) bP)))) ?_
 try dsimp only [Cx.nox, Cx.wish, bO]
 obtain ⟨p, rfl, hv⟩ := hv
 obtain ⟨p', rfl, hw⟩ := hw
 have c1 := bE wr.top (show n ≤ 4000 by omega)
 have c2 := bE wr.bot (show n ≤ 4000 by omega)
 have c3 := bE wq.top (show m ≤ 4000 by omega)
 have c4 := bE wq.bot (show m ≤ 4000 by omega)
 refine ⟨_, rfl, p, _, _, _, rfl, rfl, hv, rfl, _, rfl, p', _, _, _, rfl, rfl, hw, rfl, _, _, rfl, rfl, ⟨c1, c3⟩, _, rfl, p, _, _, _, rfl, rfl, hv, rfl, _, rfl, p', _, _, _, rfl, rfl, hw, rfl, _, _, rfl, rfl, ⟨c2, c4⟩, _, _, rfl, Int.mul_pos wr.pos wq.pos, bE (iX wr.bot wq.bot) (by omega), k⟩
theorem xM (T : eQ K mg t) : bB P w K mg base dI 1 t.a_Q25 t.d_Q25 ["_law_one", "_law_other"] (l7 K) := by
 refine T.F_Q25.ok wI (fun vs H Q E h => ?_) (fun cdv A outer s H vs Q E hr h => ?_)
 ·obtain ⟨_, _, _, _, _, _, rfl, _⟩ := h; rfl
 obtain ⟨v, w, r, q, n, m, rfl, hv, hw, wr, wq, hz, k⟩ := h
 refine dN.ok (ao (az (bC jT (aS dh (cK aM (qv 0) ai) (cK aM (qv 1) ai)) (aS dh (cK aM (qv 1) ai) (cK aM (qv 0) ai)) (ax _)))) ?_
 try dsimp only [Cx.nox, Cx.wish, bO]
 obtain ⟨p, rfl, hv⟩ := hv
 obtain ⟨p', rfl, hw⟩ := hw
 have c1 := bE wr.top (show n ≤ 4000 by omega)
 have c2 := bE wr.bot (show n ≤ 4000 by omega)
 have c3 := bE wq.top (show m ≤ 4000 by omega)
 have c4 := bE wq.bot (show m ≤ 4000 by omega)
 refine ⟨_, rfl, p, _, _, _, rfl, rfl, hv, rfl, _, rfl, p', _, _, _, rfl, rfl, hw, rfl, _, _, rfl, rfl, ⟨c1, c4⟩, _, rfl, p', _, _, _, rfl, rfl, hw, rfl, _, rfl, p, _, _, _, rfl, rfl, hv, rfl, _, _, rfl, rfl, ⟨c3, c2⟩, _, _, rfl, rfl, k⟩
theorem xH (T : eQ K mg t) : bB P w K mg base dI 3 t.a_Q31 t.d_Q31 ["_law_some"] (nh K) := by
 refine T.F_Q31.ok kP (fun vs H Q E h => ?_) (fun cdv A outer s H vs Q E hr h => ?_)
 ·obtain ⟨_, _, _, rfl, _⟩ := h; rfl
 obtain ⟨a, xs, rs, rfl, hS, al, wf, hl, k⟩ := h
 refine dN.ok (ag (cD 1 kP.nd (bI (ad ai (ad ai af aE) aE)))
   (ag (cP PassesOwn.never rfl (bG (qv 0)) (aH (i := 2) kP.nd rfl (by first | exact Or.inl rfl | exact Or.inr rfl))
   (ao (cD 1 kP.nd (dt (iT T) hr T.m_Q29 T.F_Q29.kp T.b_Q29 (ad (qv 1) (ad (qv 2) af ae) ae)))))
   (ao (az (qv 1))))) ?_
 try dsimp only [Cx.nox, Cx.wish, bO]
 have hlen := al.len
 refine ⟨km, fun p0 hp0 => ?_⟩
 have s0 := ap hp0 (.tup [.int 0, .int 1])
 refine ⟨_, rfl, a, rfl, ⟨_, s0.seq hS⟩, em (K := K) (a := a) (xs := xs) (fun i σ H' => ∃ (u : V) (x3 : Option V), σ = [some (.ref a), some u, x3] /\ aA H H' /\ RV K H' u (f7 (rs.take i)) /\ Wf (1 + 5 * i) (f7 (rs.take i))) ⟨_, none, rfl, s0, RV.of ah, n9⟩ (fun i σ H1 _ ⟨_, _, _, s1, _⟩ => s1.seq hS) ?_ ?_⟩
 ·rintro i y σ H1 hi ⟨u, x3, rfl, s1, ru, wu⟩
  obtain ⟨r, hr, rv⟩ := al.at hi
  have wr := wf r (List.mem_of_getElem? hr)
  have hil := (List.getElem?_eq_some_iff.mp hr).1
  have e : f7 (rs.take (i + 1)) = bu (f7 (rs.take i)) r := by
   unfold f7
   rw [List.take_add_one, hr, List.foldl_append]
   rfl
  refine ⟨_, rfl, _, rfl, u, y, f7 (rs.take i), r, 1 + 5 * i, 4, rfl, ru, rv.mono (aN.same s1), wu, wr, by omega, fun p hp => ?_⟩
  have s2 := ap hp (.tup [.int (bu (f7 (rs.take i)) r).1, .int (bu (f7 (rs.take i)) r).2])
  refine ⟨_, _, rfl, s1.trans s2, ?_, ?_⟩
  ·rw [e]; exact RV.of ah
  ·rw [e]; exact (oC wu wr).mono (by omega)
 ·rintro σ H1 ⟨u, x3, rfl, s1, ru, wu⟩
  rw [hlen, List.take_length] at ru
  exact ⟨_, rfl, k u H1 s1 ru⟩
theorem xW (T : eQ K mg t) : bB P w K mg base dI 2 t.a_Q11 t.d_Q11 ["_law_tape_here", "_law_many"] (ky K) := by
 refine T.F_Q11.ok ec (fun vs H Q E h => ?_) (fun cdv A outer s H vs Q E hr h => ?_)
 ·obtain ⟨_, _, _, rfl, _⟩ := h; rfl
 obtain ⟨t₁, s₁, m, rfl, tp, hm, k⟩ := h
 refine dN.ok (ag (cD 2 ec.nd (cK bo (bY (ad ai (ad ai (ad ai (ad ai af aE) aE) aE) aE)) (dt (cH T) hr T.m_Q23 T.F_Q23.kp T.b_Q23 (ad (qv 0) (ad ai af aE) ae))))
   (ag (cD 3 ec.nd (bY af))
   (ag (cP PassesOwn.never rfl (bD rfl T.z_range (ad (qv 1) af ae)) (aH (i := 4) ec.nd rfl (by first | exact Or.inl rfl | exact Or.inr rfl))
   (ag (cD 5 ec.nd (dt (cH T) hr T.m_Q23 T.F_Q23.kp T.b_Q23 (ad (qv 0) (ad (qv 2) af ae) ae)))
   (ag (cD 6 ec.nd (aS dj (qv 5) (dt (cH T) hr T.m_Q23 T.F_Q23.kp T.b_Q23 (ad (qv 0) (ad (aS gc (qv 2) (qv 5)) af bP) ae))))
   (ag (cD 7 ec.nd (dt (cH T) hr T.m_Q23 T.F_Q23.kp T.b_Q23 (ad (qv 0) (ad ai af aE) ae)))
   (ag (aU (ay bF (qv 7) ai (ax _)) (ao (cD 6 ec.nd (qv 5))) aD)
   (ag (aU (ay bF (qv 7) ai (ax _)) (ao (nC (i := 5) (j := 6) rfl ec.nd rfl rfl (by decide) rfl rfl (ad ai (ad (aS gc (qv 2) ai) af bP) aE) rfl)) aD)
   (ag (aU (d4 (gY (ay bF (qv 7) ai (ax _)) (gv (ay iS (qv 4) ai (ax _))))) (ao (ef (mz uo (cK bo (qv 3) (dt (cH T) hr T.m_Q23 T.F_Q23.kp T.b_Q23 (ad (qv 0) (ad (qv 4) af ae) ae))) uA (kW ai)) (nE rfl (cZ (aH (i := 5) ec.nd rfl (by first | exact Or.inl rfl | exact Or.inr rfl)) (cZ (aH (i := 6) ec.nd rfl (by first | exact Or.inl rfl | exact Or.inr rfl)) gw))))) aD)
   (ao (cX (fz PySem.F.plainAttrs_list PySem.F.slot_list_append PySem.F.type_list_append b8 (qv 3) (ad (bI (ad (qv 5) (ad (qv 6) (ad (dt (iU T) hr T.m_Q24 T.F_Q24.kp T.b_Q24 (ad (aS dj ai (dt (cH T) hr T.m_Q23 T.F_Q23.kp T.b_Q23 (ad (qv 0) (ad ai af aE) ae))) (ad (cK bo (bY (ad ai (ad ai (ad ai (ad ai (ad ai (ad ai af aE) aE) aE) aE) aE) aE)) (dt (cH T) hr T.m_Q23 T.F_Q23.kp T.b_Q23 (ad (qv 0) (ad ai af aE) ae))) af aP) bP)) af aG) ae) ae)) af cC)))))))))))
   (ao (az (bK bw (by rfl) T.z_tuple boot_tuple (ad (qv 3) af ae))))))) ?_
 try dsimp only [Cx.nox, Cx.wish, bO]
 obtain ⟨y0, e0⟩ := tp.lst
 refine ⟨yQ, fun le hle => ?_⟩
 have nle : le ≠ t₁ := fun z => by subst z; rw [e0] at hle; cases hle
 have s0 := ap hle (.lst [.int 3, .int 7, .int 12, .int 24])
 have T0 := tp.new hle (.lst [.int 3, .int 7, .int 12, .int 24])
 have h00 : upd H le (.lst [.int 3, .int 7, .int 12, .int 24]) le = some (.lst [.int 3, .int 7, .int 12, .int 24]) := ah
 generalize upd H le (.lst [.int 3, .int 7, .int 12, .int 24]) = H0 at T0 s0 h00 ⊢
 obtain ⟨y00, e00⟩ := T0.lst
 refine ⟨_, rfl, t₁, s₁, 4, rfl, T0, by omega, by omega, fun r0 x0_ a0 b0 T0 => ?_⟩
 have S0 : aT t₁ H (upd H0 t₁ (.lst x0_)) := (aT.same s0 tp.lst).trans (aT.up e00)
 have h01 : upd H0 t₁ (.lst x0_) le = some (.lst [.int 3, .int 7, .int 12, .int 24]) := by rw [aC nle]; exact h00
 generalize upd H0 t₁ (.lst x0_) = HA at T0 S0 h01 ⊢
 rename_i T0'
 obtain ⟨en, hen, en1, en2⟩ : ∃ e : Nat, kd [V.int 3, .int 7, .int 12, .int 24] r0 = some (.int e) /\ 3 ≤ e /\ e ≤ 24 := by
  rcases (show r0 = 0 ∨ r0 = 1 ∨ r0 = 2 ∨ r0 = 3 by omega) with rfl | rfl | rfl | rfl
  ·exact ⟨3, rfl, by decide, by decide⟩
  ·exact ⟨7, rfl, by decide, by decide⟩
  ·exact ⟨12, rfl, by decide, by decide⟩
  ·exact ⟨24, rfl, by decide, by decide⟩
 refine ⟨le, _, _, _, rfl, rfl, aO.of h01, hen, ?_⟩
 refine ⟨(by show 0 ≤ sizeLine; exact Nat.zero_le _), fun lw hlw0 => ?_⟩
 obtain ⟨yA, eA⟩ := T0.lst
 have nl : lw ≠ t₁ := fun z => by subst z; rw [eA] at hlw0; cases hlw0
 have nls := T0.off hlw0
 refine ⟨_, rfl, m, rfl, by omega, by omega, dm (lo := 0) (n := (m : Int).toNat) (fun i σ H' => ∃ (xs : List V) (ws : List Wk) (x5 x6 x7 x8 : Option V), σ = [some (.ref t₁), some (.int m), some (.int en), some (.ref lw), x5, x6, x7, x8] /\ bR K H' t₁ s₁ /\ (∀ b o, b ≠ t₁ -> HA b = some o -> H' b = some o) /\ H' lw = some (.lst xs) /\ cO (vy K H') xs ws /\ ws.length = i /\ ∀ w ∈ ws, dZ w) ⟨[], [], none, none, none, none, rfl, T0.new hlw0 _, (fun b o _ q => ap hlw0 _ _ _ q), ah, .nil, rfl, fun w hw => by cases hw⟩ ?_ ?_⟩
 ·rintro i σ H1 hi ⟨xs, ws, x5, x6, x7, x8, rfl, T1, kp, hlw, alw, hlen, okw⟩
  rw [Int.zero_add]
  obtain ⟨y1, e1⟩ := T1.lst
  refine ⟨_, rfl, _, rfl, t₁, s₁, en, rfl, T1, by omega, by omega, fun r2 x2_ a2 b2 T2 => ?_⟩
  obtain ⟨ff, rfl⟩ := Int.eq_ofNat_of_zero_le a2
  have S2 : aT t₁ H1 _ := aT.up (ys := x2_) e1
  generalize upd H1 t₁ (.lst x2_) = H2 at T2 S2 ⊢
  obtain ⟨y2, e2⟩ := T2.lst
  refine ⟨_, rfl, _, rfl, _, rfl, _, rfl, _, _, rfl, rfl, t₁, s₁, (en : Int) - ff, rfl, T2, by omega, by omega, fun r3 x3_ a3 b3 T3 => ?_⟩
  have S3 := S2.trans (aT.up (ys := x3_) e2)
  generalize upd H2 t₁ (.lst x3_) = H3 at T3 S3 ⊢
  obtain ⟨y3, e3⟩ := T3.lst
  refine ⟨_, _, rfl, rfl, ?_⟩
  obtain ⟨la, hla⟩ : ∃ la : Nat, (ff : Int) + r3 = (la : Nat) := ⟨((ff : Int) + r3).toNat, by omega⟩
  dsimp only
  rw [hla]
  refine ⟨_, rfl, t₁, s₁, 7, rfl, T3, by omega, by omega, fun r4 x4_ a4 b4 T4 => ?_⟩
  have S4 := S3.trans (aT.up (ys := x4_) e3)
  generalize hHH : upd H3 t₁ (.lst x4_) = HH at T4 S4 ⊢
  have kp4 := S4.keep
  have tst4 : aN K H1 HH := aN.step S4
  refine ⟨_, rfl, rfl, _, rfl, ?_⟩
  by_cases c0 : r4 = 0
  ·subst c0
   refine bQ rfl ?_
   refine ⟨_, rfl, ?_⟩
   refine ⟨_, rfl, rfl, _, rfl, aV (by intro z; cases z) ?_⟩
   refine ⟨_, rfl, rfl, _, rfl, bi (bi ?_)⟩
   obtain ⟨y4, e4⟩ := T4.lst
   have hlw4 : HH lw = some (.lst xs) := kp4 _ _ nl hlw
   refine ⟨_, rfl, .inl ⟨rfl, _, aO.of hlw4⟩, ?_⟩
   refine ⟨_, rfl, _, rfl, _, rfl, t₁, s₁, 12, rfl, T4, by omega, by omega, fun r5 x5_ a5 b5 T5 => ?_⟩
   have S5 : aT t₁ HH _ := aT.up (ys := x5_) e4
   generalize upd HH t₁ (.lst x5_) = H5 at T5 S5 ⊢
   obtain ⟨y5, e5⟩ := T5.lst
   refine ⟨_, _, rfl, rfl, yY, fun l6 h6 => ?_⟩
   have S6 := S5.trans (aT.new T5.lst h6 (.lst [.int 1, .int 1, .int 2, .int 3, .int 4, .int 7]))
   have n6 : l6 ≠ t₁ := fun z => by subst z; rw [e5] at h6; cases h6
   have T6' := T5.new h6 (.lst [.int 1, .int 1, .int 2, .int 3, .int 4, .int 7])
   obtain ⟨y6, e6⟩ := T6'.lst
   have h6' : upd H5 l6 (.lst [.int 1, .int 1, .int 2, .int 3, .int 4, .int 7]) l6 = some (.lst [.int 1, .int 1, .int 2, .int 3, .int 4, .int 7]) := ah
   generalize upd H5 l6 (.lst [.int 1, .int 1, .int 2, .int 3, .int 4, .int 7]) = H6 at T6' S6 e6 h6' ⊢
   refine ⟨_, rfl, t₁, s₁, 6, rfl, T6', by omega, by omega, fun r7 x7_ a7 b7 T7 => ?_⟩
   have S7 := S6.trans (aT.up (ys := x7_) e6)
   have h67 : upd H6 t₁ (.lst x7_) l6 = some (.lst [.int 1, .int 1, .int 2, .int 3, .int 4, .int 7]) := by rw [aC n6]; exact h6'
   generalize upd H6 t₁ (.lst x7_) = H7 at T7 S7 h67 ⊢
   obtain ⟨bb, hbb, bo1, bo2, bo3⟩ : ∃ b : Int, kd [V.int 1, .int 1, .int 2, .int 3, .int 4, .int 7] r7 = some (.int b) /\ 1 ≤ b /\ b ≤ 7 /\ b ∣ 84 := by
    rcases (show r7 = 0 ∨ r7 = 1 ∨ r7 = 2 ∨ r7 = 3 ∨ r7 = 4 ∨ r7 = 5 by omega) with rfl | rfl | rfl | rfl | rfl | rfl
    ·exact ⟨1, rfl, by decide, by decide, by decide⟩
    ·exact ⟨1, rfl, by decide, by decide, by decide⟩
    ·exact ⟨2, rfl, by decide, by decide, by decide⟩
    ·exact ⟨3, rfl, by decide, by decide, by decide⟩
    ·exact ⟨4, rfl, by decide, by decide, by decide⟩
    ·exact ⟨7, rfl, by decide, by decide, by decide⟩
   refine ⟨l6, _, _, _, rfl, rfl, aO.of h67, hbb, ?_⟩
   refine ⟨1 + r5, bb, rfl, by omega, bE (n := 3) (by show bb.natAbs < 8; omega) (by decide), fun pf hpf => ?_⟩
   have am := gM (a := 1 + r5) (by omega) (by omega) bo1 bo2 bo3
   have s8 := ap hpf (.tup [.int (cy (1 + r5) bb).1, .int (cy (1 + r5) bb).2])
   have rf : RV K _ (.ref pf) (cy (1 + r5) bb) := ⟨pf, rfl, bt.of (ah (H := H7) (a := pf) (o := .tup [.int (cy (1 + r5) bb).1, .int (cy (1 + r5) bb).2]))⟩
   have T8 := T7.same s8
   generalize upd H7 pf (.tup [.int (cy (1 + r5) bb).1, .int (cy (1 + r5) bb).2]) = H8 at T8 s8 rf ⊢
   refine ⟨qQ, fun pw hpw => ?_⟩
   have s9 := ap hpw (.tup [.int (ff : Nat), .int (ff : Nat), .ref pf])
   have hpw9 : bt K _ pw [.int (ff : Nat), .int (ff : Nat), .ref pf] := bt.of (ah (H := H8) (a := pw) (o := .tup [.int (ff : Nat), .int (ff : Nat), .ref pf]))
   have T9 := T8.same s9
   have rf9 := rf.mono (aN.same s9)
   generalize upd H8 pw (.tup [.int (ff : Nat), .int (ff : Nat), .ref pf]) = H9 at T9 s9 rf9 hpw9 ⊢
   have S9 := S7.trans (aT.same (s8.trans s9) T7.lst)
   have hlw9 := S9.keep _ _ nl hlw4
   refine ⟨lw, xs, _, rfl, rfl, hlw9, bh (by rw [alw.len]; omega), ?_⟩
   have t9 : aN K H1 (upd H9 lw (.lst (xs ++ [.ref pw]))) := (tst4.trans (aN.step S9)).trans (aN.up hlw9 _)
   refine ⟨_, ws ++ [(ff, ff, cy (1 + r5) bb)], _, _, _, _, rfl, T9.upl nl nls _, fun b o nb q => ?_, ah, (alw.mono fun v d m => m.mono t9).snoc ⟨pw, .ref pf, rfl, aN.up (K := K) hlw9 _ _ _ hpw9, rf9.mono (aN.up hlw9 _)⟩, by rw [List.length_append, hlen]; rfl, fun z hz => ?_⟩
   ·rw [aC (aQ q hlw0)]
    exact S9.keep _ _ nb (kp4 _ _ nb (kp b o nb q))
   ·rcases List.mem_append.mp hz with h | h
    ·exact okw z h
    ·rw [List.mem_singleton] at h
     subst h
     exact ⟨by show ff ≤ ff; omega, by show ff < 24; omega, am⟩
  refine aV (fun z => c0 (by injection z)) ?_
  refine ⟨_, rfl, rfl, _, rfl, ?_⟩
  by_cases c1 : r4 = 1
  ·subst c1
   refine bQ rfl ?_
   refine ⟨_, rfl, _, _, rfl, rfl, _, _, rfl, ?_⟩
   refine ⟨_, rfl, rfl, _, rfl, bi (bi ?_)⟩
   dsimp only
   rw [show (en : Int) - 1 = ((en - 1 : Nat) : Int) by omega]
   obtain ⟨y4, e4⟩ := T4.lst
   have hlw4 : HH lw = some (.lst xs) := kp4 _ _ nl hlw
   refine ⟨_, rfl, .inl ⟨rfl, _, aO.of hlw4⟩, ?_⟩
   refine ⟨_, rfl, _, rfl, _, rfl, t₁, s₁, 12, rfl, T4, by omega, by omega, fun r5 x5_ a5 b5 T5 => ?_⟩
   have S5 : aT t₁ HH _ := aT.up (ys := x5_) e4
   generalize upd HH t₁ (.lst x5_) = H5 at T5 S5 ⊢
   obtain ⟨y5, e5⟩ := T5.lst
   refine ⟨_, _, rfl, rfl, yY, fun l6 h6 => ?_⟩
   have S6 := S5.trans (aT.new T5.lst h6 (.lst [.int 1, .int 1, .int 2, .int 3, .int 4, .int 7]))
   have n6 : l6 ≠ t₁ := fun z => by subst z; rw [e5] at h6; cases h6
   have T6' := T5.new h6 (.lst [.int 1, .int 1, .int 2, .int 3, .int 4, .int 7])
   obtain ⟨y6, e6⟩ := T6'.lst
   have h6' : upd H5 l6 (.lst [.int 1, .int 1, .int 2, .int 3, .int 4, .int 7]) l6 = some (.lst [.int 1, .int 1, .int 2, .int 3, .int 4, .int 7]) := ah
   generalize upd H5 l6 (.lst [.int 1, .int 1, .int 2, .int 3, .int 4, .int 7]) = H6 at T6' S6 e6 h6' ⊢
   refine ⟨_, rfl, t₁, s₁, 6, rfl, T6', by omega, by omega, fun r7 x7_ a7 b7 T7 => ?_⟩
   have S7 := S6.trans (aT.up (ys := x7_) e6)
   have h67 : upd H6 t₁ (.lst x7_) l6 = some (.lst [.int 1, .int 1, .int 2, .int 3, .int 4, .int 7]) := by rw [aC n6]; exact h6'
   generalize upd H6 t₁ (.lst x7_) = H7 at T7 S7 h67 ⊢
   obtain ⟨bb, hbb, bo1, bo2, bo3⟩ : ∃ b : Int, kd [V.int 1, .int 1, .int 2, .int 3, .int 4, .int 7] r7 = some (.int b) /\ 1 ≤ b /\ b ≤ 7 /\ b ∣ 84 := by
    rcases (show r7 = 0 ∨ r7 = 1 ∨ r7 = 2 ∨ r7 = 3 ∨ r7 = 4 ∨ r7 = 5 by omega) with rfl | rfl | rfl | rfl | rfl | rfl
    ·exact ⟨1, rfl, by decide, by decide, by decide⟩
    ·exact ⟨1, rfl, by decide, by decide, by decide⟩
    ·exact ⟨2, rfl, by decide, by decide, by decide⟩
    ·exact ⟨3, rfl, by decide, by decide, by decide⟩
    ·exact ⟨4, rfl, by decide, by decide, by decide⟩
    ·exact ⟨7, rfl, by decide, by decide, by decide⟩
   refine ⟨l6, _, _, _, rfl, rfl, aO.of h67, hbb, ?_⟩
   refine ⟨1 + r5, bb, rfl, by omega, bE (n := 3) (by show bb.natAbs < 8; omega) (by decide), fun pf hpf => ?_⟩
   have am := gM (a := 1 + r5) (by omega) (by omega) bo1 bo2 bo3
   have s8 := ap hpf (.tup [.int (cy (1 + r5) bb).1, .int (cy (1 + r5) bb).2])
   have rf : RV K _ (.ref pf) (cy (1 + r5) bb) := ⟨pf, rfl, bt.of (ah (H := H7) (a := pf) (o := .tup [.int (cy (1 + r5) bb).1, .int (cy (1 + r5) bb).2]))⟩
   have T8 := T7.same s8
   generalize upd H7 pf (.tup [.int (cy (1 + r5) bb).1, .int (cy (1 + r5) bb).2]) = H8 at T8 s8 rf ⊢
   refine ⟨qQ, fun pw hpw => ?_⟩
   have s9 := ap hpw (.tup [.int (0 : Nat), .int ((en - 1) : Nat), .ref pf])
   have hpw9 : bt K _ pw [.int (0 : Nat), .int ((en - 1) : Nat), .ref pf] := bt.of (ah (H := H8) (a := pw) (o := .tup [.int (0 : Nat), .int ((en - 1) : Nat), .ref pf]))
   have T9 := T8.same s9
   have rf9 := rf.mono (aN.same s9)
   generalize upd H8 pw (.tup [.int (0 : Nat), .int ((en - 1) : Nat), .ref pf]) = H9 at T9 s9 rf9 hpw9 ⊢
   have S9 := S7.trans (aT.same (s8.trans s9) T7.lst)
   have hlw9 := S9.keep _ _ nl hlw4
   refine ⟨lw, xs, _, rfl, rfl, hlw9, bh (by rw [alw.len]; omega), ?_⟩
   have t9 : aN K H1 (upd H9 lw (.lst (xs ++ [.ref pw]))) := (tst4.trans (aN.step S9)).trans (aN.up hlw9 _)
   refine ⟨_, ws ++ [(0, (en - 1), cy (1 + r5) bb)], _, _, _, _, rfl, T9.upl nl nls _, fun b o nb q => ?_, ah, (alw.mono fun v d m => m.mono t9).snoc ⟨pw, .ref pf, rfl, aN.up (K := K) hlw9 _ _ _ hpw9, rf9.mono (aN.up hlw9 _)⟩, by rw [List.length_append, hlen]; rfl, fun z hz => ?_⟩
   ·rw [aC (aQ q hlw0)]
    exact S9.keep _ _ nb (kp4 _ _ nb (kp b o nb q))
   ·rcases List.mem_append.mp hz with h | h
    ·exact okw z h
    ·rw [List.mem_singleton] at h
     subst h
     exact ⟨by show 0 ≤ (en - 1); omega, by show (en - 1) < 24; omega, am⟩
  refine aV (fun z => c1 (by injection z)) ?_
  refine ⟨_, rfl, rfl, _, rfl, ?_⟩
  by_cases c2 : r4 = 2
  ·subst c2
   refine bM ?_
   refine ⟨_, rfl, _, _, rfl, rfl, _, rfl, ?_⟩
   by_cases ci : 0 < i
   ·refine bQ (by omega) ?_
    obtain ⟨y4, e4⟩ := T4.lst
    have hlw4 : HH lw = some (.lst xs) := kp4 _ _ nl hlw
    refine ⟨_, rfl, _, rfl, _, rfl, t₁, s₁, i, rfl, T4, by omega, by omega, fun r9 x9_ a9 b9 T9 => ?_⟩
    have S9' := S4.trans (aT.up (ys := x9_) e4)
    have hlwN : upd HH t₁ (.lst x9_) lw = some (.lst xs) := by rw [aC nl]; exact hlw4
    clear hHH kp4 tst4 T4
    generalize upd HH t₁ (.lst x9_) = HN at T9 S9' hlwN ⊢
    obtain ⟨j, rfl⟩ := Int.eq_ofNat_of_zero_le a9
    obtain ⟨xw, hxw⟩ : ∃ xw, xs[j]? = some xw := ⟨_, List.getElem?_eq_getElem (by rw [alw.len]; omega)⟩
    obtain ⟨w, hw, pw0, xa, rfl, hSw, ra⟩ := alw.at hxw
    have okw0 := okw w (List.mem_of_getElem? hw)
    have hSwN := aN.step (K := K) S9' _ _ hSw
    refine ⟨lw, _, _, _, rfl, rfl, aO.of hlwN, aL hxw, ?_⟩
    refine ⟨_, rfl, pw0, _, rfl, hSwN, fun pc HQ sQ hpc => ?_⟩
    rw [show gJ [V.int (w.1 : Nat), V.int (w.2.1 : Nat), xa] none (some 2) = [V.int (w.1 : Nat), V.int (w.2.1 : Nat)] from yx (n := 2) (by show 2 ≤ 3; decide)] at hpc
    refine ⟨pc, _, rfl, hpc, rfl, _, _, rfl, _, _, rfl, rfl, ?_⟩
    have S4 := S9'.trans (aT.same sQ T9.lst)
    have T4 := T9.same sQ
    have kp4 := S4.keep
    have tst4 : aN K H1 HQ := aN.step S4
    have lew := okw0.le
    have ltw := okw0.lt
    obtain ⟨wf, wl, wr⟩ := w
    replace lew : wf ≤ wl := lew
    replace ltw : wl < 24 := ltw
    clear e4 y4 hlw4
    obtain ⟨y4, e4⟩ := T4.lst
    have hlw4 : HQ lw = some (.lst xs) := kp4 _ _ nl hlw
    refine ⟨_, rfl, .inl ⟨rfl, _, aO.of hlw4⟩, ?_⟩
    refine ⟨_, rfl, _, rfl, _, rfl, t₁, s₁, 12, rfl, T4, by omega, by omega, fun r5 x5_ a5 b5 T5 => ?_⟩
    have S5 : aT t₁ HQ _ := aT.up (ys := x5_) e4
    generalize upd HQ t₁ (.lst x5_) = H5 at T5 S5 ⊢
    obtain ⟨y5, e5⟩ := T5.lst
    refine ⟨_, _, rfl, rfl, yY, fun l6 h6 => ?_⟩
    have S6 := S5.trans (aT.new T5.lst h6 (.lst [.int 1, .int 1, .int 2, .int 3, .int 4, .int 7]))
    have n6 : l6 ≠ t₁ := fun z => by subst z; rw [e5] at h6; cases h6
    have T6' := T5.new h6 (.lst [.int 1, .int 1, .int 2, .int 3, .int 4, .int 7])
    obtain ⟨y6, e6⟩ := T6'.lst
    have h6' : upd H5 l6 (.lst [.int 1, .int 1, .int 2, .int 3, .int 4, .int 7]) l6 = some (.lst [.int 1, .int 1, .int 2, .int 3, .int 4, .int 7]) := ah
    generalize upd H5 l6 (.lst [.int 1, .int 1, .int 2, .int 3, .int 4, .int 7]) = H6 at T6' S6 e6 h6' ⊢
    refine ⟨_, rfl, t₁, s₁, 6, rfl, T6', by omega, by omega, fun r7 x7_ a7 b7 T7 => ?_⟩
    have S7 := S6.trans (aT.up (ys := x7_) e6)
    have h67 : upd H6 t₁ (.lst x7_) l6 = some (.lst [.int 1, .int 1, .int 2, .int 3, .int 4, .int 7]) := by rw [aC n6]; exact h6'
    generalize upd H6 t₁ (.lst x7_) = H7 at T7 S7 h67 ⊢
    obtain ⟨bb, hbb, bo1, bo2, bo3⟩ : ∃ b : Int, kd [V.int 1, .int 1, .int 2, .int 3, .int 4, .int 7] r7 = some (.int b) /\ 1 ≤ b /\ b ≤ 7 /\ b ∣ 84 := by
     rcases (show r7 = 0 ∨ r7 = 1 ∨ r7 = 2 ∨ r7 = 3 ∨ r7 = 4 ∨ r7 = 5 by omega) with rfl | rfl | rfl | rfl | rfl | rfl
     ·exact ⟨1, rfl, by decide, by decide, by decide⟩
     ·exact ⟨1, rfl, by decide, by decide, by decide⟩
     ·exact ⟨2, rfl, by decide, by decide, by decide⟩
     ·exact ⟨3, rfl, by decide, by decide, by decide⟩
     ·exact ⟨4, rfl, by decide, by decide, by decide⟩
     ·exact ⟨7, rfl, by decide, by decide, by decide⟩
    refine ⟨l6, _, _, _, rfl, rfl, aO.of h67, hbb, ?_⟩
    refine ⟨1 + r5, bb, rfl, by omega, bE (n := 3) (by show bb.natAbs < 8; omega) (by decide), fun pf hpf => ?_⟩
    have am := gM (a := 1 + r5) (by omega) (by omega) bo1 bo2 bo3
    have s8 := ap hpf (.tup [.int (cy (1 + r5) bb).1, .int (cy (1 + r5) bb).2])
    have rf : RV K _ (.ref pf) (cy (1 + r5) bb) := ⟨pf, rfl, bt.of (ah (H := H7) (a := pf) (o := .tup [.int (cy (1 + r5) bb).1, .int (cy (1 + r5) bb).2]))⟩
    have T8 := T7.same s8
    generalize upd H7 pf (.tup [.int (cy (1 + r5) bb).1, .int (cy (1 + r5) bb).2]) = H8 at T8 s8 rf ⊢
    refine ⟨qQ, fun pw hpw => ?_⟩
    have s9 := ap hpw (.tup [.int (wf : Nat), .int (wl : Nat), .ref pf])
    have hpw9 : bt K _ pw [.int (wf : Nat), .int (wl : Nat), .ref pf] := bt.of (ah (H := H8) (a := pw) (o := .tup [.int (wf : Nat), .int (wl : Nat), .ref pf]))
    have T9 := T8.same s9
    have rf9 := rf.mono (aN.same s9)
    generalize upd H8 pw (.tup [.int (wf : Nat), .int (wl : Nat), .ref pf]) = H9 at T9 s9 rf9 hpw9 ⊢
    have S9 := S7.trans (aT.same (s8.trans s9) T7.lst)
    have hlw9 := S9.keep _ _ nl hlw4
    refine ⟨lw, xs, _, rfl, rfl, hlw9, bh (by rw [alw.len]; omega), ?_⟩
    have t9 : aN K H1 (upd H9 lw (.lst (xs ++ [.ref pw]))) := (tst4.trans (aN.step S9)).trans (aN.up hlw9 _)
    refine ⟨_, ws ++ [(wf, wl, cy (1 + r5) bb)], _, _, _, _, rfl, T9.upl nl nls _, fun b o nb q => ?_, ah, (alw.mono fun v d m => m.mono t9).snoc ⟨pw, .ref pf, rfl, aN.up (K := K) hlw9 _ _ _ hpw9, rf9.mono (aN.up hlw9 _)⟩, by rw [List.length_append, hlen]; rfl, fun z hz => ?_⟩
    ·rw [aC (aQ q hlw0)]
     exact S9.keep _ _ nb (kp4 _ _ nb (kp b o nb q))
    ·rcases List.mem_append.mp hz with h | h
     ·exact okw z h
     ·rw [List.mem_singleton] at h
      subst h
      exact ⟨by show wf ≤ wl; omega, by show wl < 24; omega, am⟩
   ·refine aV (by omega) ?_
    obtain ⟨y4, e4⟩ := T4.lst
    have hlw4 : HH lw = some (.lst xs) := kp4 _ _ nl hlw
    refine ⟨_, rfl, .inl ⟨rfl, _, aO.of hlw4⟩, ?_⟩
    refine ⟨_, rfl, _, rfl, _, rfl, t₁, s₁, 12, rfl, T4, by omega, by omega, fun r5 x5_ a5 b5 T5 => ?_⟩
    have S5 : aT t₁ HH _ := aT.up (ys := x5_) e4
    generalize upd HH t₁ (.lst x5_) = H5 at T5 S5 ⊢
    obtain ⟨y5, e5⟩ := T5.lst
    refine ⟨_, _, rfl, rfl, yY, fun l6 h6 => ?_⟩
    have S6 := S5.trans (aT.new T5.lst h6 (.lst [.int 1, .int 1, .int 2, .int 3, .int 4, .int 7]))
    have n6 : l6 ≠ t₁ := fun z => by subst z; rw [e5] at h6; cases h6
    have T6' := T5.new h6 (.lst [.int 1, .int 1, .int 2, .int 3, .int 4, .int 7])
    obtain ⟨y6, e6⟩ := T6'.lst
    have h6' : upd H5 l6 (.lst [.int 1, .int 1, .int 2, .int 3, .int 4, .int 7]) l6 = some (.lst [.int 1, .int 1, .int 2, .int 3, .int 4, .int 7]) := ah
    generalize upd H5 l6 (.lst [.int 1, .int 1, .int 2, .int 3, .int 4, .int 7]) = H6 at T6' S6 e6 h6' ⊢
    refine ⟨_, rfl, t₁, s₁, 6, rfl, T6', by omega, by omega, fun r7 x7_ a7 b7 T7 => ?_⟩
    have S7 := S6.trans (aT.up (ys := x7_) e6)
    have h67 : upd H6 t₁ (.lst x7_) l6 = some (.lst [.int 1, .int 1, .int 2, .int 3, .int 4, .int 7]) := by rw [aC n6]; exact h6'
    generalize upd H6 t₁ (.lst x7_) = H7 at T7 S7 h67 ⊢
    obtain ⟨bb, hbb, bo1, bo2, bo3⟩ : ∃ b : Int, kd [V.int 1, .int 1, .int 2, .int 3, .int 4, .int 7] r7 = some (.int b) /\ 1 ≤ b /\ b ≤ 7 /\ b ∣ 84 := by
     rcases (show r7 = 0 ∨ r7 = 1 ∨ r7 = 2 ∨ r7 = 3 ∨ r7 = 4 ∨ r7 = 5 by omega) with rfl | rfl | rfl | rfl | rfl | rfl
     ·exact ⟨1, rfl, by decide, by decide, by decide⟩
     ·exact ⟨1, rfl, by decide, by decide, by decide⟩
     ·exact ⟨2, rfl, by decide, by decide, by decide⟩
     ·exact ⟨3, rfl, by decide, by decide, by decide⟩
     ·exact ⟨4, rfl, by decide, by decide, by decide⟩
     ·exact ⟨7, rfl, by decide, by decide, by decide⟩
    refine ⟨l6, _, _, _, rfl, rfl, aO.of h67, hbb, ?_⟩
    refine ⟨1 + r5, bb, rfl, by omega, bE (n := 3) (by show bb.natAbs < 8; omega) (by decide), fun pf hpf => ?_⟩
    have am := gM (a := 1 + r5) (by omega) (by omega) bo1 bo2 bo3
    have s8 := ap hpf (.tup [.int (cy (1 + r5) bb).1, .int (cy (1 + r5) bb).2])
    have rf : RV K _ (.ref pf) (cy (1 + r5) bb) := ⟨pf, rfl, bt.of (ah (H := H7) (a := pf) (o := .tup [.int (cy (1 + r5) bb).1, .int (cy (1 + r5) bb).2]))⟩
    have T8 := T7.same s8
    generalize upd H7 pf (.tup [.int (cy (1 + r5) bb).1, .int (cy (1 + r5) bb).2]) = H8 at T8 s8 rf ⊢
    refine ⟨qQ, fun pw hpw => ?_⟩
    have s9 := ap hpw (.tup [.int (ff : Nat), .int (la : Nat), .ref pf])
    have hpw9 : bt K _ pw [.int (ff : Nat), .int (la : Nat), .ref pf] := bt.of (ah (H := H8) (a := pw) (o := .tup [.int (ff : Nat), .int (la : Nat), .ref pf]))
    have T9 := T8.same s9
    have rf9 := rf.mono (aN.same s9)
    generalize upd H8 pw (.tup [.int (ff : Nat), .int (la : Nat), .ref pf]) = H9 at T9 s9 rf9 hpw9 ⊢
    have S9 := S7.trans (aT.same (s8.trans s9) T7.lst)
    have hlw9 := S9.keep _ _ nl hlw4
    refine ⟨lw, xs, _, rfl, rfl, hlw9, bh (by rw [alw.len]; omega), ?_⟩
    have t9 : aN K H1 (upd H9 lw (.lst (xs ++ [.ref pw]))) := (tst4.trans (aN.step S9)).trans (aN.up hlw9 _)
    refine ⟨_, ws ++ [(ff, la, cy (1 + r5) bb)], _, _, _, _, rfl, T9.upl nl nls _, fun b o nb q => ?_, ah, (alw.mono fun v d m => m.mono t9).snoc ⟨pw, .ref pf, rfl, aN.up (K := K) hlw9 _ _ _ hpw9, rf9.mono (aN.up hlw9 _)⟩, by rw [List.length_append, hlen]; rfl, fun z hz => ?_⟩
    ·rw [aC (aQ q hlw0)]
     exact S9.keep _ _ nb (kp4 _ _ nb (kp b o nb q))
    ·rcases List.mem_append.mp hz with h | h
     ·exact okw z h
     ·rw [List.mem_singleton] at h
      subst h
      exact ⟨by show ff ≤ la; omega, by show la < 24; omega, am⟩
  refine aV (fun z => c2 (by injection z)) (bi ?_)
  obtain ⟨y4, e4⟩ := T4.lst
  have hlw4 : HH lw = some (.lst xs) := kp4 _ _ nl hlw
  refine ⟨_, rfl, .inl ⟨rfl, _, aO.of hlw4⟩, ?_⟩
  refine ⟨_, rfl, _, rfl, _, rfl, t₁, s₁, 12, rfl, T4, by omega, by omega, fun r5 x5_ a5 b5 T5 => ?_⟩
  have S5 : aT t₁ HH _ := aT.up (ys := x5_) e4
  generalize upd HH t₁ (.lst x5_) = H5 at T5 S5 ⊢
  obtain ⟨y5, e5⟩ := T5.lst
  refine ⟨_, _, rfl, rfl, yY, fun l6 h6 => ?_⟩
  have S6 := S5.trans (aT.new T5.lst h6 (.lst [.int 1, .int 1, .int 2, .int 3, .int 4, .int 7]))
  have n6 : l6 ≠ t₁ := fun z => by subst z; rw [e5] at h6; cases h6
  have T6' := T5.new h6 (.lst [.int 1, .int 1, .int 2, .int 3, .int 4, .int 7])
  obtain ⟨y6, e6⟩ := T6'.lst
  have h6' : upd H5 l6 (.lst [.int 1, .int 1, .int 2, .int 3, .int 4, .int 7]) l6 = some (.lst [.int 1, .int 1, .int 2, .int 3, .int 4, .int 7]) := ah
  generalize upd H5 l6 (.lst [.int 1, .int 1, .int 2, .int 3, .int 4, .int 7]) = H6 at T6' S6 e6 h6' ⊢
  refine ⟨_, rfl, t₁, s₁, 6, rfl, T6', by omega, by omega, fun r7 x7_ a7 b7 T7 => ?_⟩
  have S7 := S6.trans (aT.up (ys := x7_) e6)
  have h67 : upd H6 t₁ (.lst x7_) l6 = some (.lst [.int 1, .int 1, .int 2, .int 3, .int 4, .int 7]) := by rw [aC n6]; exact h6'
  generalize upd H6 t₁ (.lst x7_) = H7 at T7 S7 h67 ⊢
  obtain ⟨bb, hbb, bo1, bo2, bo3⟩ : ∃ b : Int, kd [V.int 1, .int 1, .int 2, .int 3, .int 4, .int 7] r7 = some (.int b) /\ 1 ≤ b /\ b ≤ 7 /\ b ∣ 84 := by
   rcases (show r7 = 0 ∨ r7 = 1 ∨ r7 = 2 ∨ r7 = 3 ∨ r7 = 4 ∨ r7 = 5 by omega) with rfl | rfl | rfl | rfl | rfl | rfl
   ·exact ⟨1, rfl, by decide, by decide, by decide⟩
   ·exact ⟨1, rfl, by decide, by decide, by decide⟩
   ·exact ⟨2, rfl, by decide, by decide, by decide⟩
   ·exact ⟨3, rfl, by decide, by decide, by decide⟩
   ·exact ⟨4, rfl, by decide, by decide, by decide⟩
   ·exact ⟨7, rfl, by decide, by decide, by decide⟩
  refine ⟨l6, _, _, _, rfl, rfl, aO.of h67, hbb, ?_⟩
  refine ⟨1 + r5, bb, rfl, by omega, bE (n := 3) (by show bb.natAbs < 8; omega) (by decide), fun pf hpf => ?_⟩
  have am := gM (a := 1 + r5) (by omega) (by omega) bo1 bo2 bo3
  have s8 := ap hpf (.tup [.int (cy (1 + r5) bb).1, .int (cy (1 + r5) bb).2])
  have rf : RV K _ (.ref pf) (cy (1 + r5) bb) := ⟨pf, rfl, bt.of (ah (H := H7) (a := pf) (o := .tup [.int (cy (1 + r5) bb).1, .int (cy (1 + r5) bb).2]))⟩
  have T8 := T7.same s8
  generalize upd H7 pf (.tup [.int (cy (1 + r5) bb).1, .int (cy (1 + r5) bb).2]) = H8 at T8 s8 rf ⊢
  refine ⟨qQ, fun pw hpw => ?_⟩
  have s9 := ap hpw (.tup [.int (ff : Nat), .int (la : Nat), .ref pf])
  have hpw9 : bt K _ pw [.int (ff : Nat), .int (la : Nat), .ref pf] := bt.of (ah (H := H8) (a := pw) (o := .tup [.int (ff : Nat), .int (la : Nat), .ref pf]))
  have T9 := T8.same s9
  have rf9 := rf.mono (aN.same s9)
  generalize upd H8 pw (.tup [.int (ff : Nat), .int (la : Nat), .ref pf]) = H9 at T9 s9 rf9 hpw9 ⊢
  have S9 := S7.trans (aT.same (s8.trans s9) T7.lst)
  have hlw9 := S9.keep _ _ nl hlw4
  refine ⟨lw, xs, _, rfl, rfl, hlw9, bh (by rw [alw.len]; omega), ?_⟩
  have t9 : aN K H1 (upd H9 lw (.lst (xs ++ [.ref pw]))) := (tst4.trans (aN.step S9)).trans (aN.up hlw9 _)
  refine ⟨_, ws ++ [(ff, la, cy (1 + r5) bb)], _, _, _, _, rfl, T9.upl nl nls _, fun b o nb q => ?_, ah, (alw.mono fun v d m => m.mono t9).snoc ⟨pw, .ref pf, rfl, aN.up (K := K) hlw9 _ _ _ hpw9, rf9.mono (aN.up hlw9 _)⟩, by rw [List.length_append, hlen]; rfl, fun z hz => ?_⟩
  ·rw [aC (aQ q hlw0)]
   exact S9.keep _ _ nb (kp4 _ _ nb (kp b o nb q))
  ·rcases List.mem_append.mp hz with h | h
   ·exact okw z h
   ·rw [List.mem_singleton] at h
    subst h
    exact ⟨by show ff ≤ la; omega, by show la < 24; omega, am⟩
 ·rintro σ H1 ⟨xs, ws, x5, x6, x7, x8, rfl, T1, kp, hlw, alw, hlen, okw⟩
  refine ⟨_, rfl, lw, _, rfl, .inl ⟨aO.of hlw, fun p hp => ?_⟩⟩
  have s5 := ap hp (.tup xs)
  exact k (.ref p) ws _ ((S0.trans ⟨kp, T0.lst, T1.lst⟩).trans (aT.same s5 T1.lst)) (T1.same s5) ⟨p, xs, rfl, bt.of ah, alw.mono fun _ _ q => q.mono (aN.same s5)⟩ (by rw [hlen]; omega) okw
theorem xV (T : eQ K mg t) : bB P w K mg base dI 1 t.a_Q12 t.d_Q12 ["_law_works_here"] (kB K) := by
 refine T.F_Q12.ok wK (fun vs H Q E h => ?_) (fun cdv A outer s H vs Q E hr h => ?_)
 ·obtain ⟨_, _, rfl, _⟩ := h; rfl
 obtain ⟨v, ws, rfl, ⟨p, xs, rfl, hS, al⟩, hw, ok, k⟩ := h
 refine dN.ok (ao (az (bx (N' := ["_law_work"]) (src := [none]) rfl (by exact (fc (qv 0))) (fun _ _ _ _ _ => (by exact (by exact aH (i := 0) (by show List.Nodup (["_law_work"] : List Str); decide +kernel) (by exact rfl) (by first | exact Or.inl rfl | exact Or.inr rfl)))) (fun _ _ _ _ _ => cA) (fun _ _ _ _ _ => (by exact (by exact (aS kY (by exact (aS fA (by exact (bj (aX (K := K) (by exact rfl)) (by exact (bj (aX (K := K) (by exact rfl)) (by exact (qv 0)) ai (by exact fun _ _ => rfl))) ai (by exact fun _ _ => rfl))) ai)) (by exact (bj (aX (K := K) (by exact rfl)) (by exact (bj (aX (K := K) (by exact rfl)) (by exact (qv 0)) ai (by exact fun _ _ => rfl))) ai (by exact fun _ _ => rfl))))))) (by exact trivial) rfl (by decide +kernel) rfl (by decide +kernel) (by exact aY rfl trivial)))) ?_
 try dsimp only [Cx.nox, Cx.wish, bO]
 have hlen := al.len
 refine ⟨_, rfl, p, rfl, ⟨_, hS⟩, fun D hD => bz (kn hS) (fun _ => true) (fun i => V.int ((bV ws).getD i 0)) hD (by omega) (fun i x H' hi s' hx R E kR kE => ?_) fun H4 s4 h4 => ?_⟩
 ·obtain ⟨w, hw', pw, xw, rfl, hSw, px, rfl, hSx⟩ := al.at hx
  have okw := ok w (List.mem_of_getElem? hw')
  have t' := aN.same (K := K) s'
  have e : (bV ws).getD i 0 = w.2.2.1 * 84 / w.2.2.2 := aR 0 (by unfold bV; rw [List.getElem?_map, hw']; rfl)
  have q := kR rfl _ (aA.refl _)
  rw [e] at q
  have := okw.am.bot
  have := okw.am.bot'
  exact ⟨eJ.set rfl, _, rfl, pw, _, _, _, rfl, rfl, t' _ _ hSw, rfl, px, _, _, _, rfl, rfl, t' _ _ hSx, rfl, _, _, rfl, rfl, .inr ⟨by decide, by decide⟩, _, rfl, pw, _, _, _, rfl, rfl, t' _ _ hSw, rfl, px, _, _, _, rfl, rfl, t' _ _ hSx, rfl, _, _, rfl, rfl, ⟨by omega, by omega⟩, q⟩
 ·refine k D H4 s4 hD ?_
  rw [h4, show xs.length = (bV ws).length by unfold bV; rw [List.length_map]; exact hlen, dF 0 V.int]
theorem vT (T : eQ K mg t) : bB P w K mg base dI 2 t.a_Q4 t.d_Q4 ["_law_works_here", "_law_left"] (ib K) := by
 refine T.F_Q4.ok eT (fun vs H Q E h => ?_) (fun cdv A outer s H vs Q E hr h => ?_)
 ·obtain ⟨_, _, _, _, rfl, _⟩ := h; rfl
 obtain ⟨v, q, ws, ls, rfl, ⟨p, xs, rfl, hS, al⟩, hw, ok, hq, l24, kN, k⟩ := h
 refine dN.ok (ag (cD 2 eT.nd (dt (xV T) hr T.m_Q12 T.F_Q12.kp T.b_Q12 (ad (qv 0) af ae)))
   (ag (cD 3 eT.nd (bY af))
   (ag (cP PassesOwn.never rfl (bD rfl T.z_range (ad (aj aw (by rfl) T.z_len boot_len (ad (qv 0) af ae)) af aG)) (aH (i := 4) eT.nd rfl (by first | exact Or.inl rfl | exact Or.inr rfl))
   (ag (d5 (i := 5) (N' := ["_law_k", "_law_left", "_law_works_here", "_law_number"]) (src := [none, some 1, some 0, some 4]) eT.nd rfl (by first | exact Or.inl rfl | exact Or.inr rfl) rfl (by exact (bD rfl T.z_range (ad (aj aw (by rfl) T.z_len boot_len (ad (qv 1) af ae)) af aG))) (fun _ _ _ _ _ => (by exact (by exact aH (i := 0) (by show List.Nodup (["_law_k", "_law_left", "_law_works_here", "_law_number"] : List Str); decide +kernel) (by exact rfl) (by first | exact Or.inl rfl | exact Or.inr rfl)))) (fun _ _ _ _ _ => (cW (rX hW hW (by exact (bj (aX (K := K) (by exact rfl)) (by exact (bj (aX (K := K) (by exact rfl)) (by exact (qv 2)) (by exact (qv 3)) (by exact fun _ _ => rfl))) ai (by exact fun _ _ => rfl))) (by exact (bj (c6 (K := K) (by exact rfl)) (by exact (qv 1)) (by exact (qv 0)) (by exact fun _ _ => rfl))) (by exact (bj (aX (K := K) (by exact rfl)) (by exact (bj (aX (K := K) (by exact rfl)) (by exact (qv 2)) (by exact (qv 3)) (by exact fun _ _ => rfl))) ai (by exact fun _ _ => rfl)))))) (fun _ _ _ _ _ => (by exact (by exact (qv 0)))) (by exact ⟨rfl, rfl, rfl, rfl, ⟨rfl, rfl, rfl, rfl, ⟨rfl, rfl, rfl, rfl, trivial⟩⟩⟩) rfl (by decide +kernel) rfl (by decide +kernel) (by exact aY rfl ⟨rfl, ⟨rfl, ⟨rfl, trivial⟩⟩⟩))
   (ao (aU (ay iS (aj aw (by rfl) T.z_len boot_len (ad (qv 5) af ae)) ai (ax _)) (ao (cX (fz PySem.F.plainAttrs_list PySem.F.slot_list_append PySem.F.type_list_append b8 (qv 3) (ad (bI (ad (cK bo (qv 5) ai) (ad (cK bo (qv 5) (oB ko ai)) (ad (qv 4) af ae) aP) aP)) af cC)))) aD))))
   (ag (cD 6 eT.nd (bI (ad ai (ad ai (ad ai (ad (bY af) af iD) aE) aE) aE)))
   (ag (cP PassesOwn.never rfl (bD rfl T.z_range (ad (aj aw (by rfl) T.z_len boot_len (ad (qv 1) af ae)) af aG)) (aH (i := 7) eT.nd rfl (by first | exact Or.inl rfl | exact Or.inr rfl))
   (ao (cP PassesOwn.never rfl (qa rfl T.z_range (ad (qv 7) (ad (aj aw (by rfl) T.z_len boot_len (ad (qv 1) af ae)) af aG) ae)) (aH (i := 8) eT.nd rfl (by first | exact Or.inl rfl | exact Or.inr rfl))
   (ag (d5 (i := 9) (N' := ["_law_span", "_law_begin", "_law_end"]) (src := [none, some 7, some 8]) eT.nd rfl (by first | exact Or.inl rfl | exact Or.inr rfl) rfl (by exact (bG (qv 3))) (fun _ _ _ _ _ => (by exact (by exact aH (i := 0) (by show List.Nodup (["_law_span", "_law_begin", "_law_end"] : List Str); decide +kernel) (by exact rfl) (by first | exact Or.inl rfl | exact Or.inr rfl)))) (fun _ _ _ _ _ => (cW (d4 (gY (ay hW (by exact (qv 1)) (by exact (bj (aX (K := K) (by exact rfl)) (by exact (qv 0)) ai (by exact fun _ _ => rfl))) (ax _)) (gv (ay hW (by exact (bj (aX (K := K) (by exact rfl)) (by exact (qv 0)) ai (by exact fun _ _ => rfl))) (by exact (qv 2)) (ax _))))))) (fun _ _ _ _ _ => (by exact (by exact (bj (aX (K := K) (by exact rfl)) (by exact (qv 0)) ai (by exact fun _ _ => rfl))))) (by exact ⟨rfl, rfl, rfl, rfl, ⟨rfl, rfl, rfl, rfl, trivial⟩⟩) rfl (by decide +kernel) rfl (by decide +kernel) (by exact aY rfl ⟨rfl, ⟨rfl, trivial⟩⟩))
   (ag (cD 10 eT.nd (aj (qJ rfl) (by rfl) T.z_sum boot_sum (ad (bx (N' := ["_law_number", "_law_units_here"]) (src := [none, some 2]) rfl (by exact (bG (qv 9))) (fun _ _ _ _ _ => (by exact (by exact aH (i := 0) (by show List.Nodup (["_law_number", "_law_units_here"] : List Str); decide +kernel) (by exact rfl) (by first | exact Or.inl rfl | exact Or.inr rfl)))) (fun _ _ _ _ _ => cA) (fun _ _ _ _ _ => (by exact (by exact (bj (c6 (K := K) (by exact rfl)) (by exact (qv 1)) (by exact (qv 0)) (by exact fun _ _ => rfl))))) (by exact ⟨rfl, rfl, rfl, rfl, trivial⟩) rfl (by decide +kernel) rfl (by decide +kernel) (by exact aY rfl ⟨rfl, trivial⟩)) af dn)))
   (ag (cD 11 eT.nd (aS dj (aS gc (qv 8) (qv 7)) ai))
   (ag (cD 12 eT.nd (aS gc (aS fA (qv 10) (cK aM (qv 6) ai)) (aS fA (cK aM (qv 6) ai) (qv 11))))
   (ao (aU (d4 (fw (ay iS (qv 12) ai (ax _)) (ee (d4 (gY (ay bF (qv 12) ai (ax _)) (gY (ay iS (qv 10) ai (ax _)) (gv (ay bF (qv 7) (cK aM (qv 6) ai) (ax _))))))))) (ao (cD 6 eT.nd (bI (ad (qv 10) (ad (qv 11) (ad (qv 7) (ad (qv 9) af ae) ae) ae) ae)))) aD)))))))))
   (ag (aU (ay bF (cK aM (qv 6) ai) ai (ax _)) (ao (az dr)) aD)
   (ao (az (bI (ad (bK bw (by rfl) T.z_tuple boot_tuple (ad (mz ur (qv 1) (kW (cK aM (qv 6) ai)) (kW (aS dj (cK aM (qv 6) ai) (cK aM (qv 6) ai)))) af aP)) (ad (bK bw (by rfl) T.z_tuple boot_tuple (ad (cK aM (qv 6) ai) af aP)) af aG) aG)))))))))) ?_
 try dsimp only [Cx.nox, Cx.wish, bO]
 have nl : (aF ls).length = ls.length := List.length_map _
 have hxl := al.len
 refine ⟨_, rfl, .ref p, ws, rfl, ⟨p, xs, rfl, hS, al⟩, hw, ok, fun lu H1 s1 hu0 hu1 => ?_⟩
 refine ⟨(by show 0 ≤ sizeLine; exact Nat.zero_le _), fun lsn hsn => ?_⟩
 have s2 := ap hsn (.lst [])
 have s12 := s1.trans s2
 have hsn2 : upd H1 lsn (.lst []) lsn = some (.lst []) := ah
 refine ⟨_, rfl, p, _, rfl, .inr (aN.same (K := K) s12 _ _ hS), _, rfl, by omega, by omega, dm (lo := 0) (n := (xs.length : Int).toNat) (fun i σ H' => ∃ (ys : List V) (x4 x5 : Option V), σ = [some (.ref p), some (.ref q), some (.ref lu), some (.ref lsn), x4, x5, none, none, none, none, none, none, none] /\ aA H1 H' /\ H' lsn = some (.lst ys) /\ cO (A2 K H') ys (qT (ws.map (bU ls)) i)) ⟨[], none, none, rfl, s2, hsn2, .nil⟩ ?_ ?_⟩
 ·rintro i σ H2 hi ⟨ys, x4, x5, rfl, sm, hl2, al2⟩
  rw [Int.zero_add]
  have sH2 := s1.trans sm
  have tH2 := aN.same (K := K) sH2
  obtain ⟨x, hx⟩ : ∃ x, xs[i]? = some x := ⟨_, List.getElem?_eq_getElem (by omega)⟩
  obtain ⟨w, hwi, pw, xa, rfl, hSw, ra⟩ := al.at hx
  refine ⟨_, rfl, q, _, rfl, .inl (sH2.seq hq), _, rfl, by omega, by omega, fun D hD => bz fb (fun j => ii w (ls.getD j 0)) (fun j => V.int j) hD (by omega) (fun j y H' hj s' hy R E kR kE => ?_) fun H4 s4 h4 => ?_⟩
  ·subst hy
   rw [Int.zero_add]
   have tH := aN.same (K := K) (sH2.trans s')
   obtain ⟨z', hz'⟩ : ∃ z', ls[j]? = some z' := ⟨_, List.getElem?_eq_getElem (by omega)⟩
   rw [aR 0 hz'] at kR kE
   refine ⟨eJ.set rfl, _, rfl, _, rfl, p, _, _, _, rfl, rfl, tH _ _ hS, aL hx, pw, _, _, _, rfl, rfl, tH _ _ hSw, rfl, _, rfl, _, rfl, q, _, _, _, rfl, rfl, (sH2.trans s').seq hq, aL (v := V.int (z' : Nat)) (by unfold aF; rw [List.getElem?_map, hz']; rfl), _, _, rfl, rfl, _, rfl, ?_⟩
   by_cases c : w.1 ≤ z'
   ·refine bQ (by omega) ?_
    refine ⟨_, rfl, _, rfl, p, _, _, _, rfl, rfl, tH _ _ hS, aL hx, pw, _, _, _, rfl, rfl, tH _ _ hSw, rfl, _, _, rfl, rfl, _, rfl, ?_⟩
    by_cases c' : z' ≤ w.2.1
    ·exact bQ (by omega) ⟨_, rfl, kR (by unfold ii; rw [decide_eq_true c, decide_eq_true c']; rfl) _ (aA.refl _)⟩
    ·exact aV (by omega) (kE (by unfold ii; rw [decide_eq_false c', Bool.and_false]) _ (aA.refl _))
   ·refine aV (by omega) ?_
    exact ⟨_, rfl, bi (kE (by unfold ii; rw [decide_eq_false c, Bool.false_and]) _ (aA.refl _))⟩
  rw [nl, show ((ls.length : Int)).toNat = ls.length by omega] at h4
  replace h4 : H4 D = some (.lst ((fW ls w).map fun i : Nat => V.int i)) := h4
  have hl4 := s4 _ _ hl2
  have ewi : (ws.map (bU ls)).getD i none = bU ls w := aR none (by rw [List.getElem?_map, hwi]; rfl)
  have hle := al2.len
  have hle' := ou (ws.map (bU ls)) i
  refine ⟨_, rfl, D, _, rfl, .inl (aO.of h4), _, _, rfl, rfl, _, rfl, ?_⟩
  cases c : fW ls w with
  | nil =>
   rw [c] at h4
   refine bi ?_
   refine ⟨ys, _, _, rfl, sm.trans s4, hl4, ?_⟩
   have e : bU ls w = none := by unfold bU; rw [c]
   rw [e] at ewi
   rw [rO ewi]
   exact al2.mono fun _ _ m => m.mono (aN.same s4)
  | cons a r =>
   rw [c] at h4
   refine bQ (by show (0 : Int) < ((List.map (fun i : Nat => V.int i) (a :: r)).length : Int); rw [List.length_map, List.length_cons]; omega) ?_
   have hlast : kd ((a :: r).map fun i : Nat => V.int i) (-1) = some (.int ((a :: r).getLast (by simp) : Nat)) := by
    have e := List.dropLast_concat_getLast (show (a :: r) ≠ [] by simp)
    have e2 : (a :: r).map (fun i : Nat => V.int i) = (a :: r).dropLast.map (fun i : Nat => V.int i) ++ [V.int ((a :: r).getLast (by simp) : Nat)] := by
     conv => lhs; rw [← e]
     rw [List.map_append]; rfl
    rw [e2]
    exact tY _ _
   have hfst : kd ((a :: r).map fun i : Nat => V.int i) 0 = some (.int (a : Nat)) := aL (j := 0) rfl
   have e : bU ls w = some (a, (a :: r).getLast (by simp)) := by unfold bU; rw [c]
   rw [e] at ewi
   refine ⟨_, rfl, .inl ⟨rfl, _, aO.of hl4⟩, _, rfl, D, _, _, _, rfl, rfl, aO.of h4, hfst, _, rfl, _, rfl, D, _, _, _, rfl, rfl, aO.of h4, hlast, _, rfl, qQ, fun pt hpt => ?_⟩
   have s5 := ap hpt (.tup [.int a, .int ((a :: r).getLast (by simp) : Nat), .int i])
   have hl5 := s5 _ _ hl4
   refine ⟨lsn, _, _, rfl, rfl, hl5, bh (by omega), ?_⟩
   refine ⟨_, _, _, rfl, ?_, ah, ?_⟩
   ·intro b o e
    rw [aC (aQ e hsn)]
    exact s5 _ _ (s4 _ _ (sm _ _ e))
   ·rw [rN ewi]
    refine (al2.mono fun v d m => m.mono (((aN.same s4).trans (aN.same s5)).trans (aN.up hl5 _))).snoc ?_
    exact ⟨pt, rfl, aN.up (K := K) hl5 _ _ _ (bt.of ah)⟩
 ·rintro σ H2 ⟨ys, x4, x5, rfl, sm, hl2, al2⟩
  have hos : (ws.map (bU ls)).length = ws.length := List.length_map _
  rw [show ((xs.length : Int)).toNat = (ws.map (bU ls)).length by rw [hos]; omega] at al2
  have hyl := al2.len
  have hyl' := ou (ws.map (bU ls)) (ws.map (bU ls)).length
  have LB := fun r => vc (os := ws.map (bU ls)) (lT ok) (by omega) r
  have held := nu (ws.map (bU ls))
  have hul : (bV ws).length = ws.length := List.length_map _
  generalize hO : ws.map (bU ls) = os at *
  generalize hL : fD os (jh (bV ws)) = L at *
  have sH2 := s1.trans sm
  have hu2 : H2 lu = some (.lst ((bV ws).map V.int)) := sm _ _ hu1
  refine ⟨(by show 0 ≤ sizeLine; exact Nat.zero_le _), fun l0 h0 => ?_⟩
  have s3 := ap h0 (.lst [])
  refine ⟨yQ, fun pb0 hpb0 => ?_⟩
  have s4 := ap hpb0 (.tup [.int 0, .int 1, .int 0, .ref l0])
  have hb0 : bt K _ pb0 [.int 0, .int 1, .int 0, .ref l0] := bt.of (ah (H := upd H2 l0 (.lst [])) (a := pb0) (o := .tup [.int 0, .int 1, .int 0, .ref l0]))
  have s34 := s3.trans s4
  generalize upd (upd H2 l0 (.lst [])) pb0 (.tup [.int 0, .int 1, .int 0, .ref l0]) = H3 at s34 hb0 ⊢
  refine ⟨_, rfl, q, _, rfl, .inl ((sH2.trans s34).seq hq), _, rfl, by omega, by omega, dm (lo := 0) (n := ((aF ls).length : Int).toNat) (fun i σ H' => ∃ (pb : Addr) (x7 x8 x9 x10 x11 x12 : Option V), σ = [some (.ref p), some (.ref q), some (.ref lu), some (.ref lsn), x4, x5, some (.ref pb), x7, x8, x9, x10, x11, x12] /\ aA H2 H' /\ kl K H' os (et ls.length i i) L pb) ⟨pb0, none, none, none, none, none, none, rfl, s34, 0, 1, 0, l0, hb0, .inl ⟨rfl, rfl, rfl, fun r hr => ?_⟩⟩ ?_ ?_⟩
  ·unfold et ij at hr; omega
  ·rintro i σ HA hi ⟨pb, x7, x8, x9, x10, x11, x12, rfl, sA, best⟩
   rw [Int.zero_add]
   have sHA := sH2.trans sA
   refine ⟨_, rfl, _, rfl, q, _, rfl, .inl (sHA.seq hq), _, _, rfl, ⟨by omega, by omega, by omega, by omega⟩, dm (lo := i) (n := (((aF ls).length : Int) - i).toNat) (fun j σ H' => ∃ (pb : Addr) (x8 x9 x10 x11 x12 : Option V), σ = [some (.ref p), some (.ref q), some (.ref lu), some (.ref lsn), x4, x5, some (.ref pb), some (.int i), x8, x9, x10, x11, x12] /\ aA H2 H' /\ kl K H' os (et ls.length i (i + j)) L pb) ⟨pb, x8, x9, x10, x11, x12, rfl, sA, best⟩ ?_ ?_⟩
   ·rintro j σ HB hj ⟨pb, x8, x9, x10, x11, x12, rfl, sB, best⟩
    rw [show (i : Int) + (j : Int) = ((i + j : Nat) : Int) by omega, show i + (j + 1) = i + j + 1 from rfl]
    obtain ⟨e, he⟩ : ∃ e, e = i + j := ⟨_, rfl⟩
    rw [← he] at best ⊢
    have hen : e < ls.length := by omega
    have hie : i ≤ e := by omega
    have hlB := sB _ _ hl2
    have tB := aN.same (K := K) sB
    refine ⟨_, rfl, lsn, rfl, ⟨_, aO.of hlB⟩, fun D hD => bz (cV (aO.of hlB)) (fun m => mI (i, e) ((qT os os.length).getD m (0, 0, 0))) (fun m => V.int (((qT os os.length).getD m (0, 0, 0)).2.2 : Nat)) hD (by omega) (fun m x H' hm s' hx R E kR kE => ?_) fun HC sC hC => ?_⟩
    ·obtain ⟨sp, hsp, ps, rfl, hps⟩ := al2.at hx
     rw [aR (0, 0, 0) hsp] at kR kE
     have hps' := aN.same (K := K) (sB.trans s') _ _ hps
     refine ⟨eJ.set rfl, _, rfl, _, rfl, ps, _, _, _, rfl, rfl, hps', rfl, _, _, rfl, rfl, _, rfl, ?_⟩
     by_cases c : i ≤ sp.1
     ·refine bQ (by omega) ?_
      refine ⟨_, rfl, ps, _, _, _, rfl, rfl, hps', rfl, _, rfl, _, _, rfl, rfl, _, rfl, ?_⟩
      by_cases c' : sp.2.1 ≤ e
      ·exact bQ (by omega) ⟨_, rfl, ps, _, _, _, rfl, rfl, hps', rfl, kR (by show (decide (i ≤ sp.1) && decide (sp.2.1 ≤ e)) = true; rw [decide_eq_true c, decide_eq_true c']; rfl) _ (aA.refl _)⟩
      ·exact aV (by omega) (kE (by show (decide (i ≤ sp.1) && decide (sp.2.1 ≤ e)) = false; rw [decide_eq_false c', Bool.and_false]) _ (aA.refl _))
     ·exact aV (by omega) (bi (kE (by show (decide (i ≤ sp.1) && decide (sp.2.1 ≤ e)) = false; rw [decide_eq_false c, Bool.false_and]) _ (aA.refl _)))
    have eC : HC D = some (.lst (aF (cn os (i, e)))) := by
     rw [hC, hyl, de (0, 0, 0) (mI (i, e)) (fun s : Nat × Nat × Nat => V.int (s.2.2 : Nat)), ← held (i, e)]
     unfold aF
     rw [List.map_map]
     rfl
    refine ⟨_, rfl, D, rfl, ⟨_, aO.of eC⟩, fun E hE => bz (cV (aO.of eC)) (fun _ => true) (fun m => V.int (jh (bV ws) ((cn os (i, e)).getD m 0))) hE ?_ (fun m x H' hm s' hx R E kR kE => ?_) fun HE sE hE4 => ?_⟩
    ·unfold aF cn
     rw [List.length_map]
     have := List.length_filter_le (fun i_1 => eV i e (os.getD i_1 none)) (List.range os.length)
     rw [List.length_range] at this
     exact Nat.le_trans this (by omega)
    ·unfold aF at hx
     rw [List.getElem?_map] at hx
     obtain ⟨z, hz, rfl⟩ := Option.map_eq_some_iff.mp hx
     have qq := kR rfl _ (aA.refl _)
     rw [aR 0 hz] at qq
     have hzl : z < os.length := by
      have := List.mem_of_getElem? hz
      unfold cn at this
      exact List.mem_range.mp (List.mem_filter.mp this).1
     obtain ⟨y, hy⟩ : ∃ y, (bV ws)[z]? = some y := ⟨_, List.getElem?_eq_getElem (by omega)⟩
     rw [show jh (bV ws) z = y from aR 0 hy] at qq
     exact ⟨eJ.set rfl, _, rfl, _, rfl, lu, _, _, _, rfl, rfl, ((sB.trans sC).trans s').seq (aO.of hu2), aL (by rw [List.getElem?_map, hy]; rfl), qq⟩
    have e4 : HE E = some (.lst (((cn os (i, e)).map (jh (bV ws))).map V.int)) := by
     rw [hE4, show (aF (cn os (i, e))).length = (cn os (i, e)).length from List.length_map _, dF 0 (fun k => V.int (jh (bV ws) k)), List.map_map]
     rfl
    have sBE := sC.trans sE
    have sHE := sB.trans sBE
    have eDE := sE _ _ eC
    refine ⟨E, _, rfl, aO.of e4, ?_⟩
    have eL : ((cn os (i, e)).map (jh (bV ws))).sum = L (i, e) := by rw [← hL]; rfl
    rw [eL]
    have lb := LB (i, e)
    have lp : 1 ≤ cU (i, e) /\ cU (i, e) ≤ 24 := by show 1 ≤ (e : Int) - i + 1 /\ (e : Int) - i + 1 ≤ 24; omega
    refine ⟨_, rfl, _, rfl, _, _, rfl, rfl, _, _, rfl, rfl, ?_⟩
    obtain ⟨mn, ln, bg, lbb, hpb, bst⟩ := best
    have hpbE := aN.same (K := K) sBE _ _ hpb
    have bl : 0 ≤ mn /\ mn ≤ 64512 /\ 0 < ln := by
     rcases bst with ⟨r1, r2, _⟩ | ⟨z, r0, r1, r2, _, _, b⟩
     ·omega
     ·have := LB z
      have := (show ij ls.length z from b.inn.1).pos
      omega
    refine ⟨_, rfl, _, rfl, pb, _, _, _, rfl, rfl, hpbE, rfl, _, _, rfl, rfl, .inl ⟨by omega, by omega⟩, _, rfl, pb, _, _, _, rfl, rfl, hpbE, rfl, _, rfl, _, _, rfl, rfl, .inl ⟨by omega, by omega⟩, _, _, rfl, rfl, ?_⟩
    have st := fun r => nv (n := ls.length) (b := i) (e := e) hie hen r
    have secs : ∀ r, et ls.length i (e + 1) r -> ij ls.length r := fun r hr => hr.1
    refine ⟨_, rfl, _, _, rfl, rfl, _, rfl, ?_⟩
    by_cases c : 0 < L (i, e) * ln - mn * cU (i, e)
    ·refine bQ c (bM ?_)
     refine ⟨_, rfl, _, rfl, _, rfl, _, rfl, yQ, fun pn hpn => ?_⟩
     have s5 := ap hpn (.tup [.int (L (i, e)), .int (cU (i, e)), .int (i : Nat), .ref D])
     refine ⟨pn, _, _, _, _, _, rfl, sHE.trans s5, L (i, e), cU (i, e), (i : Nat), D, bt.of ah, .inr ⟨(i, e), ?_, rfl, rfl, rfl, s5.seq (aO.of eDE), ?_⟩⟩
     ·rcases bst with ⟨r1, r2, _⟩ | ⟨z, r0, r1, r2, _, _, b⟩
      ·subst r1 r2
       omega
      ·exact tW (ln := ln) lb.1 (show 0 < mn by omega) (show 0 < cU (i, e) by omega) (by omega)
     ·rcases bst with ⟨r1, r2, _, z⟩ | ⟨z, r0, r1, r2, _, _, b⟩
      ·subst r1 r2
       exact vv st secs z (by omega)
      ·subst r1 r2
       exact b.more secs st (by omega)
    refine aV c ?_
    have stay : kl K HE os (et ls.length i (e + 1)) L pb ∨ (L (i, e) * ln - mn * cU (i, e) = 0 /\ 0 < L (i, e) /\ (i : Int) = bg) := by
     rcases bst with ⟨r1, r2, r3, z⟩ | ⟨z, r0, r1, r2, r3, r4, b⟩
     ·refine .inl ⟨mn, ln, bg, lbb, hpbE, .inl ⟨r1, r2, r3, fun r hr => ?_⟩⟩
      rcases (st r).mp hr with h | h
      ·exact z r h
      ·subst r1 r2
       rw [h]
       omega
     ·by_cases cc : L (i, e) * ln - mn * cU (i, e) = 0 /\ 0 < L (i, e) /\ (i : Int) = bg
      ·exact .inr cc
      ·refine .inl ⟨mn, ln, bg, lbb, hpbE, .inr ⟨z, r0, r1, r2, r3, sBE.seq r4, ?_⟩⟩
       have inn := b.inn
       unfold et at inn
       subst r1 r2 r3
       refine b.stay st (by omega) ?_
       by_cases c0 : L (i, e) * cU z = L z * cU (i, e)
       ·left
        have lpos := tW (ln := cU z) lb.1 r0 (show 0 < cU (i, e) by omega) (by omega)
        have ne : ¬ (i : Int) = (z.1 : Int) := fun h => cc ⟨by omega, lpos, h⟩
        unfold lK
        show z.1 < i ∨ _
        omega
       ·exact .inr c0
    refine ⟨_, rfl, rfl, _, rfl, ?_⟩
    by_cases c0 : L (i, e) * ln - mn * cU (i, e) = 0
    ·refine bQ (congrArg V.int c0) ?_
     refine ⟨_, rfl, _, _, rfl, rfl, _, rfl, ?_⟩
     by_cases cm : 0 < L (i, e)
     ·refine bQ cm ?_
      refine ⟨_, rfl, _, rfl, pb, _, _, _, rfl, rfl, hpbE, rfl, rfl, _, rfl, ?_⟩
      by_cases cb : (i : Int) = bg
      ·refine bQ (congrArg V.int cb) ?_
       refine ⟨_, rfl, _, rfl, _, rfl, _, rfl, yQ, fun pn hpn => ?_⟩
       have s5 := ap hpn (.tup [.int (L (i, e)), .int (cU (i, e)), .int (i : Nat), .ref D])
       refine ⟨pn, _, _, _, _, _, rfl, sHE.trans s5, L (i, e), cU (i, e), (i : Nat), D, bt.of ah, .inr ⟨(i, e), cm, rfl, rfl, rfl, s5.seq (aO.of eDE), ?_⟩⟩
       rcases bst with ⟨r1, r2, _, z⟩ | ⟨z, r0, r1, r2, r3, _, b⟩
       ·subst r1 r2
        omega
       ·have inn := b.inn
        unfold et at inn
        subst r1 r2 r3
        exact b.longer secs st (by omega) (show i = z.1 by omega) (show z.2 ≤ e by omega)
      ·refine aV (fun z => cb (by injection z)) ?_
       rcases stay with h | h
       ·exact ⟨pb, _, _, _, _, _, rfl, sHE, h⟩
       ·exact absurd h.2.2 cb
     ·refine aV cm (bi ?_)
      rcases stay with h | h
      ·exact ⟨pb, _, _, _, _, _, rfl, sHE, h⟩
      ·exact absurd h.2.1 cm
    ·refine aV (fun z => c0 (by injection z)) (bi ?_)
     rcases stay with h | h
     ·exact ⟨pb, _, _, _, _, _, rfl, sHE, h⟩
     ·exact absurd h.1 c0
   ·rintro σ HB ⟨pb, x8, x9, x10, x11, x12, rfl, sB, best⟩
    refine ⟨pb, _, _, _, _, _, _, rfl, sB, best.mono (aA.refl _) fun r => ?_⟩
    rw [show i + (((aF ls).length : Int) - (i : Int)).toNat = ls.length by omega]
    exact nw r
  ·rintro σ HA ⟨pb, x7, x8, x9, x10, x11, x12, rfl, sA, mn, ln, bg, lb, hpb, best⟩
   rw [show ((aF ls).length : Int).toNat = ls.length by omega] at best
   have sHA := sH2.trans sA
   refine ⟨_, rfl, pb, _, _, _, rfl, rfl, hpb, rfl, rfl, _, rfl, ?_⟩
   rcases best with ⟨r1, r2, r3, z⟩ | ⟨z, r0, r1, r2, r3, r4, b⟩
   ·subst r1
    exact bQ rfl (kN HA sHA (va ok fun r hr => by rw [hO, hL]; exact z r ((jo r).mp hr)))
   ·subst r1 r2 r3
    refine aV (fun h => by injection h; omega) ?_
    have sec : ij ls.length z := b.inn.1
    have c1 : z.1 ≤ z.2 := sec.1
    have c2 : z.2 < ls.length := sec.2
    refine ⟨_, rfl, _, rfl, pb, _, _, _, rfl, rfl, hpb, rfl, _, rfl, _, rfl, pb, _, _, _, rfl, rfl, hpb, rfl, _, rfl, pb, _, _, _, rfl, rfl, hpb, rfl, _, _, rfl, rfl, _, rfl, q, _, rfl, sHA.seq hq, fun pc0 hpc0 => ?_⟩
    rw [show (z.1 : Int) + cU z = ((z.2 + 1 : Nat) : Int) by unfold cU; omega, vo (by omega) (by omega)]
    have s5 := ap hpc0 (.lst (aF ((ls.drop z.1).take (z.2 + 1 - z.1))))
    refine ⟨pc0, _, rfl, .inl ⟨aO.of ah, fun pc hpc => ?_⟩⟩
    have s6 := ap hpc (.tup (aF ((ls.drop z.1).take (z.2 + 1 - z.1))))
    have s56 := s5.trans s6
    refine ⟨_, rfl, pb, _, _, _, rfl, rfl, aN.same (K := K) s56 _ _ hpb, rfl, lb, _, rfl, .inl ⟨s56.seq r4, fun pe hpe => ?_⟩⟩
    have s7 := ap hpe (.tup (aF (cn os z)))
    refine ⟨km, fun pr hpr => ?_⟩
    have s8 := ap hpr (.tup [.ref pc, .ref pe])
    have it : qW ws ls z := ⟨by rw [hO, hL]; exact b.congr jo, by rw [hO, hL]; exact r0⟩
    refine k (.ref pr) z _ (by intro h; cases h) (((sHA.trans s56).trans s7).trans s8) it ?_
    have e : iw ws ls z = (eY ls z, cn os z) := by unfold iw; rw [hO]
    rw [e]
    exact ⟨pr, pc, pe, rfl, bt.of ah, aN.same (K := K) (s7.trans s8) _ _ (bt.of ah), aN.same (K := K) s8 _ _ (bt.of ah)⟩
theorem Ab (T : eQ K mg t) : bB P w K mg base dI 3 t.a_Q6 t.d_Q6 ["_law_works_here"] (je K) := by
 refine T.F_Q6.ok jq (fun vs H Q E h => ?_) (fun cdv A outer s H vs Q E hr h => ?_)
 ·obtain ⟨_, _, rfl, _⟩ := h; rfl
 obtain ⟨v, ws, rfl, ⟨p, xs, rfl, hS, al⟩, hw, ok, k⟩ := h
 refine dN.ok (ag (cD 1 jq.nd (bK (gi rfl) (by rfl) T.z_list boot_list (ad (im rfl T.z_range (ad ai af aE)) af aG)))
   (ag (cD 2 jq.nd (bY af))
   (ag (cD 3 jq.nd (dt (vT T) hr T.m_Q4 T.F_Q4.kp T.b_Q4 (ad (qv 0) (ad (qv 1) af ae) ae)))
   (ag (eU PassesOwn.never (ay u0 (qv 3) dr (ax _))
   (ag (cX (fz PySem.F.plainAttrs_list PySem.F.slot_list_append PySem.F.type_list_append b8 (qv 2) (ad (qv 3) af ae)))
   (ag (d5 (i := 1) (N' := ["_law_turn", "_law_layer"]) (src := [none, some 3]) jq.nd rfl (by first | exact Or.inl rfl | exact Or.inr rfl) rfl (by exact (bG (qv 1))) (fun _ _ _ _ _ => (by exact (by exact aH (i := 0) (by show List.Nodup (["_law_turn", "_law_layer"] : List Str); decide +kernel) (by exact rfl) (by first | exact Or.inl rfl | exact Or.inr rfl)))) (fun _ _ _ _ _ => (cW (ay (eK (K := K) (by exact rfl)) (by exact (qv 0)) (by exact (bj (aX (K := K) (by exact rfl)) (by exact (qv 1)) ai (by exact fun _ _ => rfl))) (by with_unfolding_all rfl)))) (fun _ _ _ _ _ => (by exact (by exact (qv 0)))) (by exact ⟨rfl, rfl, rfl, rfl, trivial⟩) rfl (by decide +kernel) rfl (by decide +kernel) (by exact aY rfl ⟨rfl, trivial⟩))
   (ao (cD 3 jq.nd (dt (vT T) hr T.m_Q4 T.F_Q4.kp T.b_Q4 (ad (qv 0) (ad (qv 1) af ae) ae)))))))
   (ao (az (qv 2))))))) ?_
 try dsimp only [Cx.nox, Cx.wish, bO]
 have hlen := al.len
 refine ⟨_, rfl, fun pr hpr => ?_⟩
 have s1 := ap hpr (.rng 0 24)
 refine ⟨pr, 24, rfl, ah, by decide, fun q0 hq0 => ?_⟩
 have s2 := ap hq0 (.lst ((B.upTo 24).map V.int))
 have hq2 : upd (upd H pr (.rng 0 24)) q0 (.lst ((B.upTo 24).map V.int)) q0 = some (.lst (aF (List.range 24))) := by
  have e : aF (List.range 24) = (B.upTo 24).map V.int := by unfold aF B.upTo; rw [List.map_map]; rfl
  rw [e]
  exact ah
 have s12 := s1.trans s2
 generalize upd (upd H pr (.rng 0 24)) q0 (.lst ((B.upTo 24).map V.int)) = HA at hq2 s12 ⊢
 refine ⟨(by show 0 ≤ sizeLine; exact Nat.zero_le _), fun l h0 => ?_⟩
 have nql : q0 ≠ l := fun z => by subst z; rw [hq2] at h0; cases h0
 have h00 : H l = none := by
  cases e : H l with
  | none => rfl
  | some o => rw [s12 _ _ e] at h0; cases h0
 have s3 := ap h0 (.lst [])
 have hl3 : upd HA l (.lst []) l = some (.lst []) := ah
 have hq3 := s3 _ _ hq2
 have s03 := s12.trans s3
 generalize upd HA l (.lst []) = HB at hl3 hq3 s03 ⊢
 have nf := u6 ok
 refine ⟨_, rfl, _, rfl, .ref p, q0, ws, List.range 24, rfl, ⟨p, xs, rfl, aN.same (K := K) s03 _ _ hS, al.mono fun _ _ m => m.mono (aN.same s03)⟩, hw, ok, aO.of hq3, by decide, (fun HC s4 z0 => ?_), fun x0 pl0 HC ne0 s4 it0 lv0 => ?_⟩
 ·refine ⟨fun m σ H' => ∃ (acc : List (List Nat × List Nat)) (ys : List V) (q : Addr) (ls : List Nat) (x : V), σ = [some (.ref p), some (.ref q), some (.ref l), some x] /\ aA H H' /\ H' l = some (.lst ys) /\ cO (ki K H') ys acc /\ H' q = some (.lst (aF ls)) /\ q ≠ l /\ ls.Nodup /\ (∀ t ∈ ls, t < 24) /\ ls.length ≤ 24 /\ acc.length + ie ws ls ≤ ws.length /\ (∀ y ∈ acc, gO ws.length y) /\ (∀ r, mY ws ls r -> mY ws (List.range 24) (acc ++ r)) /\ m = ie ws ls /\ ((x = .non /\ ie ws ls = 0) ∨ ∃ pl, x ≠ .non /\ qW ws ls pl /\ ki K H' x (iw ws ls pl)), ⟨_, [], [], q0, List.range 24, _, rfl, s03.trans s4, s4 _ _ hl3, .nil, s4 _ _ hq3, nql, List.nodup_range, (fun t ht => List.mem_range.mp ht), by decide, (by rw [nf]; exact Nat.le_of_eq (Nat.zero_add _)), (fun y hy => by cases hy), (fun r h => h), rfl, .inl ⟨rfl, z0⟩⟩, ?_⟩
  rintro m σ H1 ⟨acc, ys, q, ls, x, rfl, sm, hl1, al1, hq, nq, nd, lt, l24, few, lok, con, rfl, cs⟩
  refine ⟨_, rfl, rfl, _, rfl, ?_⟩
  rcases cs with ⟨rfl, c⟩ | ⟨pl, ne, it, lv⟩
  ·refine dH rfl ?_
   have ly := con [] (.nil c)
   rw [List.append_nil] at ly
   exact ⟨_, rfl, k l ys acc H1 sm h00 hl1 al1 ly lok (by omega)⟩
  ·refine oP ne ?_
   refine ⟨_, fun _ _ z => z, ?_⟩
   have sec := oQ it
   have hy := al1.len
   have lyo : gO ws.length (iw ws ls pl) := tf sec l24 lt
   have rst := oH (ws := ws) nd sec
   have hp := it.held
   refine ⟨_, rfl, .inl ⟨rfl, _, aO.of hl1⟩, _, rfl, l, _, _, rfl, rfl, hl1, bh (by omega), ?_⟩
   have t3 : aN K H1 (upd H1 l (.lst (ys ++ [x]))) := aN.up hl1 _
   have sm3 : aA H (upd H1 l (.lst (ys ++ [x]))) := fun b o e => by rw [aC (aQ e h00)]; exact sm _ _ e
   have hl3 : upd H1 l (.lst (ys ++ [x])) l = some (.lst (ys ++ [x])) := ah
   have al3 : cO (ki K (upd H1 l (.lst (ys ++ [x])))) (ys ++ [x]) (acc ++ [iw ws ls pl]) := (al1.mono fun _ _ m => m.mono t3).snoc (lv.mono t3)
   have lv3 := lv.mono t3
   have hq3 : upd H1 l (.lst (ys ++ [x])) q = some (.lst (aF ls)) := by rw [aC nq]; exact hq
   generalize upd H1 l (.lst (ys ++ [x])) = H3 at sm3 hl3 al3 lv3 hq3 ⊢
   obtain ⟨pL, a, b, rfl, hpL, ha, hb⟩ := lv3
   have nl : (aF ls).length = ls.length := List.length_map _
   refine ⟨_, rfl, q, rfl, ⟨_, aO.of hq3⟩, fun D hD => bz (cV (aO.of hq3)) (fun i => !(eY ls pl).contains (ls.getD i 0)) (fun i => V.int (ls.getD i 0 : Nat)) hD (by omega) (fun i x H' hi s' hx R E kR kE => ?_) fun H4 s4 h4 => ?_⟩
   ·unfold aF at hx
    rw [List.getElem?_map] at hx
    obtain ⟨z, hz, rfl⟩ := Option.map_eq_some_iff.mp hx
    rw [aR 0 hz] at kR kE
    have t' := aN.same (K := K) s'
    refine ⟨eJ.set rfl, _, rfl, _, rfl, pL, _, _, _, rfl, rfl, t' _ _ hpL, rfl, a, _, rfl, .inr (t' _ _ ha), rfl, fH _, _, rfl, ?_⟩
    have e : k8 (.int (z : Nat)) (aF (iw ws ls pl).1) = (eY ls pl).contains z := gE z (eY ls pl)
    cases cz : (eY ls pl).contains z with
    | true => exact ei (by show (!k8 (.int (z : Nat)) (aF (iw ws ls pl).1)) = false; rw [e, cz]; rfl) (kE (by rw [cz]; rfl) _ (aA.refl _))
    | false => exact fG (by show (!k8 (.int (z : Nat)) (aF (iw ws ls pl).1)) = true; rw [e, cz]; rfl) ⟨_, rfl, kR (by rw [cz]; rfl) _ (aA.refl _)⟩
   rw [nl, de 0 (fun t => !(eY ls pl).contains t) (fun t : Nat => V.int t)] at h4
   replace h4 : H4 D = some (.lst (aF (cG ls pl))) := h4
   have nD : D ≠ l := fun z => by subst z; rw [hl3] at hD; cases hD
   have sm4 := sm3.trans s4
   have rl : (cG ls pl).length ≤ ls.length := List.length_filter_le _ _
   have fin : ∀ (x' : V) (H5 : Hp), aA H4 H5 -> ((x' = .non /\ ie ws (cG ls pl) = 0) ∨ ∃ pl', x' ≠ .non /\ qW ws (cG ls pl) pl' /\ ki K H5 x' (iw ws (cG ls pl) pl')) -> ∃ m', m' < ie ws ls /\ ∃ (acc : List (List Nat × List Nat)) (ys : List V) (q : Addr) (ls : List Nat) (x : V), [some (.ref p), some (.ref D), some (.ref l), some x'] = [some (.ref p), some (.ref q), some (.ref l), some x] /\ aA H H5 /\ H5 l = some (.lst ys) /\ cO (ki K H5) ys acc /\ H5 q = some (.lst (aF ls)) /\ q ≠ l /\ ls.Nodup /\ (∀ t ∈ ls, t < 24) /\ ls.length ≤ 24 /\ acc.length + ie ws ls ≤ ws.length /\ (∀ y ∈ acc, gO ws.length y) /\ (∀ r, mY ws ls r -> mY ws (List.range 24) (acc ++ r)) /\ m' = ie ws ls /\ ((x = .non /\ ie ws ls = 0) ∨ ∃ pl, x ≠ .non /\ qW ws ls pl /\ ki K H5 x (iw ws ls pl)) := fun x' H5 s5 cs' => by
    refine ⟨ie ws (cG ls pl), by omega, acc ++ [iw ws ls pl], ys ++ [.ref pL], D, cG ls pl, x', rfl, sm4.trans s5, s5 _ _ (s4 _ _ hl3), al3.mono (fun _ _ m => m.mono (aN.same (s4.trans s5))), s5 _ _ h4, nD, oz nd pl, (fun t ht => lt t (List.mem_filter.mp ht).1), by omega, (by rw [List.length_append]; show acc.length + 1 + _ ≤ _; omega), (fun y hy => ?_), (fun r hr => ?_), rfl, cs'⟩
    ·rcases List.mem_append.mp hy with h | h
     ·exact lok y h
     ·rw [List.mem_singleton.mp h]; exact lyo
    ·have := con _ (mY.cons it hr)
     rw [List.append_assoc]
     exact this
   refine ⟨_, rfl, _, rfl, .ref p, D, ws, cG ls pl, rfl, ⟨p, xs, rfl, aN.same (K := K) sm4 _ _ hS, al.mono fun _ _ m => m.mono (aN.same sm4)⟩, hw, ok, aO.of h4, by omega, (fun H5 s5 z => fin .non H5 s5 (.inl ⟨rfl, z⟩)), fun x' pl' H5 ne' s5 it' lv' => fin x' H5 s5 (.inr ⟨pl', ne', it', lv'⟩)⟩
 ·refine ⟨fun m σ H' => ∃ (acc : List (List Nat × List Nat)) (ys : List V) (q : Addr) (ls : List Nat) (x : V), σ = [some (.ref p), some (.ref q), some (.ref l), some x] /\ aA H H' /\ H' l = some (.lst ys) /\ cO (ki K H') ys acc /\ H' q = some (.lst (aF ls)) /\ q ≠ l /\ ls.Nodup /\ (∀ t ∈ ls, t < 24) /\ ls.length ≤ 24 /\ acc.length + ie ws ls ≤ ws.length /\ (∀ y ∈ acc, gO ws.length y) /\ (∀ r, mY ws ls r -> mY ws (List.range 24) (acc ++ r)) /\ m = ie ws ls /\ ((x = .non /\ ie ws ls = 0) ∨ ∃ pl, x ≠ .non /\ qW ws ls pl /\ ki K H' x (iw ws ls pl)), ⟨_, [], [], q0, List.range 24, _, rfl, s03.trans s4, s4 _ _ hl3, .nil, s4 _ _ hq3, nql, List.nodup_range, (fun t ht => List.mem_range.mp ht), by decide, (by rw [nf]; exact Nat.le_of_eq (Nat.zero_add _)), (fun y hy => by cases hy), (fun r h => h), rfl, .inr ⟨pl0, ne0, it0, lv0⟩⟩, ?_⟩
  rintro m σ H1 ⟨acc, ys, q, ls, x, rfl, sm, hl1, al1, hq, nq, nd, lt, l24, few, lok, con, rfl, cs⟩
  refine ⟨_, rfl, rfl, _, rfl, ?_⟩
  rcases cs with ⟨rfl, c⟩ | ⟨pl, ne, it, lv⟩
  ·refine dH rfl ?_
   have ly := con [] (.nil c)
   rw [List.append_nil] at ly
   exact ⟨_, rfl, k l ys acc H1 sm h00 hl1 al1 ly lok (by omega)⟩
  ·refine oP ne ?_
   refine ⟨_, fun _ _ z => z, ?_⟩
   have sec := oQ it
   have hy := al1.len
   have lyo : gO ws.length (iw ws ls pl) := tf sec l24 lt
   have rst := oH (ws := ws) nd sec
   have hp := it.held
   refine ⟨_, rfl, .inl ⟨rfl, _, aO.of hl1⟩, _, rfl, l, _, _, rfl, rfl, hl1, bh (by omega), ?_⟩
   have t3 : aN K H1 (upd H1 l (.lst (ys ++ [x]))) := aN.up hl1 _
   have sm3 : aA H (upd H1 l (.lst (ys ++ [x]))) := fun b o e => by rw [aC (aQ e h00)]; exact sm _ _ e
   have hl3 : upd H1 l (.lst (ys ++ [x])) l = some (.lst (ys ++ [x])) := ah
   have al3 : cO (ki K (upd H1 l (.lst (ys ++ [x])))) (ys ++ [x]) (acc ++ [iw ws ls pl]) := (al1.mono fun _ _ m => m.mono t3).snoc (lv.mono t3)
   have lv3 := lv.mono t3
   have hq3 : upd H1 l (.lst (ys ++ [x])) q = some (.lst (aF ls)) := by rw [aC nq]; exact hq
   generalize upd H1 l (.lst (ys ++ [x])) = H3 at sm3 hl3 al3 lv3 hq3 ⊢
   obtain ⟨pL, a, b, rfl, hpL, ha, hb⟩ := lv3
   have nl : (aF ls).length = ls.length := List.length_map _
   refine ⟨_, rfl, q, rfl, ⟨_, aO.of hq3⟩, fun D hD => bz (cV (aO.of hq3)) (fun i => !(eY ls pl).contains (ls.getD i 0)) (fun i => V.int (ls.getD i 0 : Nat)) hD (by omega) (fun i x H' hi s' hx R E kR kE => ?_) fun H4 s4 h4 => ?_⟩
   ·unfold aF at hx
    rw [List.getElem?_map] at hx
    obtain ⟨z, hz, rfl⟩ := Option.map_eq_some_iff.mp hx
    rw [aR 0 hz] at kR kE
    have t' := aN.same (K := K) s'
    refine ⟨eJ.set rfl, _, rfl, _, rfl, pL, _, _, _, rfl, rfl, t' _ _ hpL, rfl, a, _, rfl, .inr (t' _ _ ha), rfl, fH _, _, rfl, ?_⟩
    have e : k8 (.int (z : Nat)) (aF (iw ws ls pl).1) = (eY ls pl).contains z := gE z (eY ls pl)
    cases cz : (eY ls pl).contains z with
    | true => exact ei (by show (!k8 (.int (z : Nat)) (aF (iw ws ls pl).1)) = false; rw [e, cz]; rfl) (kE (by rw [cz]; rfl) _ (aA.refl _))
    | false => exact fG (by show (!k8 (.int (z : Nat)) (aF (iw ws ls pl).1)) = true; rw [e, cz]; rfl) ⟨_, rfl, kR (by rw [cz]; rfl) _ (aA.refl _)⟩
   rw [nl, de 0 (fun t => !(eY ls pl).contains t) (fun t : Nat => V.int t)] at h4
   replace h4 : H4 D = some (.lst (aF (cG ls pl))) := h4
   have nD : D ≠ l := fun z => by subst z; rw [hl3] at hD; cases hD
   have sm4 := sm3.trans s4
   have rl : (cG ls pl).length ≤ ls.length := List.length_filter_le _ _
   have fin : ∀ (x' : V) (H5 : Hp), aA H4 H5 -> ((x' = .non /\ ie ws (cG ls pl) = 0) ∨ ∃ pl', x' ≠ .non /\ qW ws (cG ls pl) pl' /\ ki K H5 x' (iw ws (cG ls pl) pl')) -> ∃ m', m' < ie ws ls /\ ∃ (acc : List (List Nat × List Nat)) (ys : List V) (q : Addr) (ls : List Nat) (x : V), [some (.ref p), some (.ref D), some (.ref l), some x'] = [some (.ref p), some (.ref q), some (.ref l), some x] /\ aA H H5 /\ H5 l = some (.lst ys) /\ cO (ki K H5) ys acc /\ H5 q = some (.lst (aF ls)) /\ q ≠ l /\ ls.Nodup /\ (∀ t ∈ ls, t < 24) /\ ls.length ≤ 24 /\ acc.length + ie ws ls ≤ ws.length /\ (∀ y ∈ acc, gO ws.length y) /\ (∀ r, mY ws ls r -> mY ws (List.range 24) (acc ++ r)) /\ m' = ie ws ls /\ ((x = .non /\ ie ws ls = 0) ∨ ∃ pl, x ≠ .non /\ qW ws ls pl /\ ki K H5 x (iw ws ls pl)) := fun x' H5 s5 cs' => by
    refine ⟨ie ws (cG ls pl), by omega, acc ++ [iw ws ls pl], ys ++ [.ref pL], D, cG ls pl, x', rfl, sm4.trans s5, s5 _ _ (s4 _ _ hl3), al3.mono (fun _ _ m => m.mono (aN.same (s4.trans s5))), s5 _ _ h4, nD, oz nd pl, (fun t ht => lt t (List.mem_filter.mp ht).1), by omega, (by rw [List.length_append]; show acc.length + 1 + _ ≤ _; omega), (fun y hy => ?_), (fun r hr => ?_), rfl, cs'⟩
    ·rcases List.mem_append.mp hy with h | h
     ·exact lok y h
     ·rw [List.mem_singleton.mp h]; exact lyo
    ·have := con _ (mY.cons it hr)
     rw [List.append_assoc]
     exact this
   refine ⟨_, rfl, _, rfl, .ref p, D, ws, cG ls pl, rfl, ⟨p, xs, rfl, aN.same (K := K) sm4 _ _ hS, al.mono fun _ _ m => m.mono (aN.same sm4)⟩, hw, ok, aO.of h4, by omega, (fun H5 s5 z => fin .non H5 s5 (.inl ⟨rfl, z⟩)), fun x' pl' H5 ne' s5 it' lv' => fin x' H5 s5 (.inr ⟨pl', ne', it', lv'⟩)⟩
theorem xL (T : eQ K mg t) : bB P w K mg base dI 4 t.a_Q26 t.d_Q26 ["_law_works_here", "_law_layer"] (lY K) := by
 refine T.F_Q26.ok wH (fun vs H Q E h => ?_) (fun cdv A outer s H vs Q E hr h => ?_)
 ·obtain ⟨_, _, _, _, rfl, _⟩ := h; rfl
 obtain ⟨v, x, ws, y, rfl, ⟨p, xs, rfl, hS, al⟩, hw, ok, lv, lok, k⟩ := h
 refine dN.ok (ao (az (dt (xI T) hr T.m_Q30 T.F_Q30.kp T.b_Q30 (ad (dt (xH T) hr T.m_Q31 T.F_Q31.kp T.b_Q31 (ad (bx (N' := ["_law_number", "_law_works_here"]) (src := [none, some 0]) rfl (by exact (fc (bj aM (qv 1) ai (fun _ _ => rfl)))) (fun _ _ _ _ _ => (by exact (by exact aH (i := 0) (by show List.Nodup (["_law_number", "_law_works_here"] : List Str); decide +kernel) (by exact rfl) (by first | exact Or.inl rfl | exact Or.inr rfl)))) (fun _ _ _ _ _ => cA) (fun _ _ _ _ _ => (by exact (by exact (bj (aX (K := K) (by exact rfl)) (by exact (bj (aX (K := K) (by exact rfl)) (by exact (qv 1)) (by exact (qv 0)) (by exact fun _ _ => rfl))) ai (by exact fun _ _ => rfl))))) (by exact ⟨rfl, rfl, rfl, rfl, trivial⟩) rfl (by decide +kernel) rfl (by decide +kernel) (by exact aY rfl ⟨rfl, trivial⟩)) af dn)) (ad (bI (ad ai (ad (aj aw (by rfl) T.z_len boot_len (ad (bj aM (qv 1) ai (fun _ _ => rfl)) af aP)) af aG) aE)) af cC) aG)))) ?_
 try dsimp only [Cx.nox, Cx.wish, bO]
 have hSl := al.len
 obtain ⟨pL, a, b, rfl, hpL, ha, hb⟩ := lv
 have nb : (aF y.2).length = y.2.length := List.length_map _
 have na : (aF y.1).length = y.1.length := List.length_map _
 have len := lok.len
 refine ⟨_, rfl, pL, _, _, _, rfl, rfl, hpL, rfl, b, rfl, ⟨_, hb⟩, fun D hD => fS (K := K) (P := RV K) (ds := y.2) (f := fun i => (ws.getD i lL).2.2) (fun _ _ _ _ t p => p.mono t) hD hb nb (by omega) (fun i x d H' hx hd s' R E kR => ?_) fun H2 ys2 s2 hD2 al2 => ?_⟩
 ·have hx' : (aF y.2)[i]? = some (V.int (d : Nat)) := by unfold aF; rw [List.getElem?_map, hd]; rfl
  rw [hx] at hx'
  cases hx'
  have hdl := lok.num d (List.mem_of_getElem? hd)
  obtain ⟨xw, hxw⟩ : ∃ xw, xs[d]? = some xw := ⟨_, List.getElem?_eq_getElem (by omega)⟩
  obtain ⟨w, hwd, pw, xa, rfl, hSw, rx⟩ := al.at hxw
  rw [aR lL hwd] at kR
  have t' := aN.same (K := K) s'
  exact ⟨eJ.set rfl, _, rfl, _, rfl, p, _, _, _, rfl, rfl, t' _ _ hS, aL hxw, pw, _, _, _, rfl, rfl, t' _ _ hSw, rfl, kR _ _ (aA.refl _) (rx.mono t')⟩
 have wf := yC (n := ws.length) ok lok
 have la : (jc ws y).length = y.2.length := List.length_map _
 refine ⟨D, ys2, jc ws y, rfl, aO.of hD2, al2, wf, by omega, fun v' H3 s3 rv3 => ?_⟩
 have t23 := aN.same (K := K) (s2.trans s3)
 refine ⟨_, rfl, pL, _, _, _, rfl, rfl, t23 _ _ hpL, rfl, a, _, rfl, .inr (t23 _ _ ha), km, fun pt hpt => ?_⟩
 rw [na]
 have s4 := ap hpt (.tup [.int 1, .int (y.1.length : Int)])
 have pos := lok.pos
 have few := lok.few
 refine ⟨v', .ref pt, f7 (jc ws y), (1, (y.1.length : Int)), 1 + (4 + 1) * (jc ws y).length, 5, rfl, rv3.mono (aN.same s4), RV.of ah, uk wf, xy pos few, by omega, fun u h5 => ?_⟩
 exact k _ _ (((s2.trans s3).trans s4).trans (ap h5 _)) (RV.of ah)
theorem Aa (T : eQ K mg t) : bB P w K mg base dI 5 t.a_Q7 t.d_Q7 ["_law_works_here"] (jd K) := by
 refine T.F_Q7.ok ow (fun vs H Q E h => ?_) (fun cdv A outer s H vs Q E hr h => ?_)
 ·obtain ⟨_, _, rfl, _⟩ := h; rfl
 obtain ⟨v, ws, rfl, ⟨p, xs, rfl, hS, al⟩, hw, ok, k⟩ := h
 refine dN.ok (ag (cD 1 ow.nd (aS oF (bY (ad (bI (ad ai (ad ai af aE) aE)) af cC)) ai))
   (ag (cP PassesOwn.never rfl (bG (dt (Ab T) hr T.m_Q6 T.F_Q6.kp T.b_Q6 (ad (qv 0) af ae))) (aH (i := 2) ow.nd rfl (by first | exact Or.inl rfl | exact Or.inr rfl))
   (ao (cP PassesOwn.never rfl (fc (cK aM (qv 2) ai)) (aH (i := 3) ow.nd rfl (by first | exact Or.inl rfl | exact Or.inr rfl))
   (ao (ef (dt (xL T) hr T.m_Q26 T.F_Q26.kp T.b_Q26 (ad (qv 0) (ad (qv 2) af ae) ae)) (fe (qv 1) (qv 3) dq))))))
   (ao (az (qv 1))))) ?_
 try dsimp only [Cx.nox, Cx.wish, bO]
 refine ⟨km, fun pz hpz => ?_⟩
 have sz := ap hpz (.tup [.int 0, .int 1])
 have rz : RV K (upd H pz (.tup [.int 0, .int 1])) (.ref pz) (0, 1) := RV.of ah
 generalize upd H pz (.tup [.int 0, .int 1]) = H0 at sz rz ⊢
 refine ⟨AB, fun l0 h0 => ?_⟩
 have s0 := ap h0 (.lst [.ref pz])
 refine ⟨l0, .ref pz, 24, rfl, rfl, ah, by decide, fun l hl => ?_⟩
 have s1 := ap hl (.lst (List.replicate 24 (.ref pz)))
 have s01 := s0.trans s1
 have hln : H l = none := by
  cases e : H l with
  | none => rfl
  | some o => rw [s0 _ _ (sz _ _ e)] at hl; cases hl
 have hl1 : upd (upd H0 l0 (.lst [.ref pz])) l (.lst (List.replicate 24 (.ref pz))) l = some (.lst (List.replicate 24 (.ref pz))) := ah
 generalize upd (upd H0 l0 (.lst [.ref pz])) l (.lst (List.replicate 24 (.ref pz))) = H1 at hl1 s01 ⊢
 have sz1 := sz.trans s01
 refine ⟨_, rfl, .ref p, ws, rfl, ⟨p, xs, rfl, aN.same (K := K) sz1 _ _ hS, al.mono fun _ _ m => m.mono (aN.same sz1)⟩, by omega, ok, fun lq xl lys H2 s2 hq1 hq2 all ly lok ll => ?_⟩
 have hl2 := s2 _ _ hl1
 have nq : lq ≠ l := fun z => by subst z; rw [hl1] at hq1; cases hq1
 have s02 := sz1.trans s2
 have wvS : ∀ H', aA H H' -> eP K H' (.ref p) ws := fun H' s => ⟨p, xs, rfl, aN.same (K := K) s _ _ hS, al.mono fun _ _ m => m.mono (aN.same s)⟩
 have smS : ∀ H', aT l H2 H' -> aA H H' := fun H' S b o e => S.keep b o (fun z => by subst z; rw [hln] at e; cases e) (s02 _ _ e)
 refine ⟨lq, rfl, ⟨_, aO.of hq2⟩, em (K := K) (a := lq) (xs := xl) (fun i σ H' => ∃ (ys : List V) (x3 x4 : Option V), σ = [some (.ref p), some (.ref l), x3, x4] /\ aT l H2 H' /\ H' l = some (.lst ys) /\ cO (RV K H') ys (ia ws (lys.take i))) ⟨_, none, none, rfl, aT.refl ⟨_, hl2⟩, hl2, cO.rep (rz.mono (aN.same (s01.trans s2))) 24⟩ (fun i σ H' _ ⟨_, _, _, _, S, _⟩ => aO.of (S.keep _ _ nq hq2)) ?_ ?_⟩
 ·rintro i x σ H3 hx ⟨ys, x3, x4, rfl, S3, hl3, al3⟩
  obtain ⟨y, hy, lvy⟩ := all.at hx
  have lyo := lok y (List.mem_of_getElem? hy)
  have lv3 := lvy.mono (aN.step (K := K) S3)
  obtain ⟨pL, a, b, rfl, hpL, ha, hb⟩ := id lv3
  have ly24 := al3.len
  rw [show (ia ws (lys.take i)).length = 24 by unfold ia; rw [kx]; rfl] at ly24
  refine ⟨_, rfl, pL, _, _, _, rfl, rfl, hpL, rfl, a, rfl, ⟨_, ha⟩, oW (K := K) (a := a) (xs := aF y.1) (fun j σ H' => ∃ (zs : List V) (x4 : Option V), σ = [some (.ref p), some (.ref l), some (.ref pL), x4] /\ aT l H3 H' /\ H' l = some (.lst zs) /\ zs.length = 24 /\ cO (RV K H') zs (iH (gR ws y) (ia ws (lys.take i)) (y.1.take j))) ⟨ys, _, rfl, aT.refl ⟨_, hl3⟩, hl3, ly24, al3⟩ (fun j σ H' _ ⟨_, _, _, S, _⟩ => aN.step (K := K) S _ _ ha) ?_ ?_⟩
  ·rintro j tv σ H5 ht ⟨zs, x5, rfl, S5, hl5, zl, al5⟩
   unfold aF at ht
   rw [List.getElem?_map] at ht
   obtain ⟨tt, htt, rfl⟩ := Option.map_eq_some_iff.mp ht
   have lt := lyo.lt tt (List.mem_of_getElem? htt)
   refine ⟨_, rfl, _, rfl, .ref p, .ref pL, ws, y, rfl, wvS _ (smS _ (S3.trans S5)), by omega, ok, lv3.mono (aN.step (K := K) S5), lyo, fun sv H6 s6 rv6 => ?_⟩
   have hl6 := s6 _ _ hl5
   refine ⟨_, rfl, _, rfl, l, zs, _, tt, rfl, rfl, hl6, fQ (by omega), ?_⟩
   have t6 : aN K H6 (upd H6 l (.lst (zs.set tt sv))) := aN.up hl6 _
   refine ⟨_, _, rfl, (S5.trans (aT.same s6 ⟨_, hl5⟩)).trans (aT.up hl6), ah, by rw [List.length_set]; exact zl, ?_⟩
   have e : iH (gR ws y) (ia ws (lys.take i)) (y.1.take (j + 1)) = (iH (gR ws y) (ia ws (lys.take i)) (y.1.take j)).set tt (gR ws y) := by
    unfold iH
    rw [List.take_add_one, htt, List.foldl_append]
    rfl
   rw [e]
   exact cO.setI (rv6.mono t6) tt (al5.mono fun _ _ m => m.mono ((aN.same (K := K) s6).trans t6))
  ·rintro σ H5 ⟨zs, x5, rfl, S5, hl5, zl, al5⟩
   rw [show (aF y.1).length = y.1.length from List.length_map _, List.take_length] at al5
   refine ⟨zs, _, _, rfl, S3.trans S5, hl5, ?_⟩
   have e : ia ws (lys.take (i + 1)) = iH (gR ws y) (ia ws (lys.take i)) y.1 := by
    unfold ia
    rw [List.take_add_one, hy, List.foldl_append]
    rfl
   rw [e]
   exact al5
 ·rintro σ H3 ⟨ys, x3, x4, rfl, S3, hl3, al3⟩
  rw [all.len, List.take_length] at al3
  exact ⟨_, rfl, k l ys (ia ws lys) H3 (smS _ S3) hl3 al3 (by unfold ia; rw [kx]; rfl) (rF ok (by omega) lok fun r hr => by rw [List.eq_of_mem_replicate hr]; exact ⟨yz.mono (Nat.dvd_refl _) (by decide), Int.le_refl _⟩)⟩
theorem xU (T : eQ K mg t) : bB P w K mg base dI 1 t.a_Q13 t.d_Q13 ["_law_leans_here", "_law_work"] (kI K) := by
 refine T.F_Q13.ok iL (fun vs H Q E h => ?_) (fun cdv A outer s H vs Q E hr h => ?_)
 ·obtain ⟨_, _, _, rfl, _⟩ := h; rfl
 obtain ⟨v, es, w, rfl, ⟨p, xs, rfl, hS, al⟩, e64, k⟩ := h
 refine dN.ok (ag (cD 2 iL.nd (bx (N' := ["_law_one", "_law_other", "_law_work"]) (src := [none, none, some 1]) rfl (by exact (fc (qv 0))) (fun _ _ _ _ _ => (by exact (by exact oA (K := K) (n := 2) (by exact rfl) (by exact rfl) (by exact cZ (by exact aH (i := 0) (by show List.Nodup (["_law_one", "_law_other", "_law_work"] : List Str); decide +kernel) (by exact rfl) (by first | exact Or.inl rfl | exact Or.inr rfl)) (by exact cZ (by exact aH (i := 1) (by show List.Nodup (["_law_one", "_law_other", "_law_work"] : List Str); decide +kernel) (by exact rfl) (by first | exact Or.inl rfl | exact Or.inr rfl)) gw))))) (fun _ _ _ _ _ => (cW (ay bF (by exact (qv 1)) (by exact (qv 2)) (ax _)))) (fun _ _ _ _ _ => (by exact (by exact (qv 0)))) (by exact ⟨rfl, rfl, rfl, rfl, trivial⟩) rfl (by decide +kernel) rfl (by decide +kernel) (by exact aY rfl ⟨rfl, trivial⟩)))
   (ag (cD 3 iL.nd ai)
   (ag (eU PassesOwn.never (ay jT (qv 3) (aj aw (by rfl) T.z_len boot_len (ad (qv 2) af ae)) (ax _))
   (ag (cD 2 iL.nd (aS sV (qv 2) (bx (N' := ["_law_one", "_law_other", "_law_found", "_law_at"]) (src := [none, none, some 2, some 3]) rfl (by exact (fc (qv 0))) (fun _ _ _ _ _ => (by exact (by exact oA (K := K) (n := 2) (by exact rfl) (by exact rfl) (by exact cZ (by exact aH (i := 0) (by show List.Nodup (["_law_one", "_law_other", "_law_found", "_law_at"] : List Str); decide +kernel) (by exact rfl) (by first | exact Or.inl rfl | exact Or.inr rfl)) (by exact cZ (by exact aH (i := 1) (by show List.Nodup (["_law_one", "_law_other", "_law_found", "_law_at"] : List Str); decide +kernel) (by exact rfl) (by first | exact Or.inl rfl | exact Or.inr rfl)) gw))))) (fun _ _ _ _ _ => (cW (d4 (gY (ay bF (by exact (qv 1)) (by exact (bj (c6 (K := K) (by exact rfl)) (by exact (qv 2)) (by exact (qv 3)) (by exact fun _ _ => rfl))) (ax _)) (gv (ay (eK (K := K) (by exact rfl)) (by exact (qv 0)) (by exact (qv 2)) (by with_unfolding_all rfl))))))) (fun _ _ _ _ _ => (by exact (by exact (qv 0)))) (by exact ⟨rfl, rfl, rfl, rfl, ⟨rfl, rfl, rfl, rfl, trivial⟩⟩) rfl (by decide +kernel) rfl (by decide +kernel) (by exact aY rfl ⟨rfl, ⟨rfl, trivial⟩⟩))))
   (ao (cD 3 iL.nd (aS dj (qv 3) ai)))))
   (ao (az (qv 2)))))) ?_
 try dsimp only [Cx.nox, Cx.wish, bO]
 have lx : xs.length = es.length := al.len
 refine ⟨_, rfl, p, rfl, ⟨_, hS⟩, fun D0 hD0 => bz (kn hS) (v5 es w []) (fun i => V.int ((es.getD i (0, 0)).1 : Nat)) hD0 (by omega) (fun i x H' hi sm hx Rk E kR kE => ?_) fun H1 s1 h1 => ?_⟩
 ·obtain ⟨⟨a, b⟩, hd, pl, rfl, hpl⟩ := al.at hx
  unfold v5 at kR kE
  rw [aR (0, 0) hd] at kR kE
  refine ⟨pl, _, rfl, aN.same sm _ _ hpl, rfl, _, _, rfl, _, _, rfl, rfl, (eJ.set rfl).set' rfl, ?_⟩
  refine ⟨_, rfl, _, rfl, rfl, _, rfl, ?_⟩
  by_cases c : b = w
  ·exact bQ (by rw [c]) ⟨_, rfl, kR (by rw [decide_eq_true c]; rfl) _ (aA.refl _)⟩
  ·exact aV (fun z => c (by injection z with z; exact Int.ofNat.inj z)) (kE (by rw [decide_eq_false c]; rfl) _ (aA.refl _))
 have e1 : ((List.range xs.length).filter (v5 es w [])).map (fun i => V.int ((es.getD i (0, 0)).1 : Nat)) = aF (eE es (o7 es w [])) := by
  unfold aF eE o7
  rw [List.map_map, lx]
  rfl
 rw [e1] at h1
 refine ⟨fun m σ H' => ∃ (n : Nat) (is : List Nat) (D : Addr), σ = [some (.ref p), some (.int (w : Nat)), some (.ref D), some (.int (n : Nat))] /\ aA H H' /\ H' D = some (.lst (aF (eE es is))) /\ n8 es w n is /\ m = es.length - n, ⟨_, 0, _, D0, rfl, s1, h1, tZ es w, rfl⟩, ?_⟩
 rintro m σ H2 ⟨n, is, D, rfl, s2, h2, iv, rfl⟩
 have il : is.length ≤ es.length := g6 _ _ iv.nd iv.lt
 have lfs : (eE es is).length = is.length := List.length_map _
 have fl : (aF (eE es is)).length = is.length := by unfold aF; rw [List.length_map, lfs]
 have hS2 := aN.same (K := K) s2 _ _ hS
 refine ⟨_, rfl, _, rfl, D, _, rfl, .inl (aO.of h2), _, _, rfl, rfl, _, rfl, ?_⟩
 by_cases c : n < is.length
 ·refine bQ (by omega) ⟨_, fun _ _ z => z, ?_⟩
  obtain ⟨x, hx⟩ : ∃ x, (eE es is)[n]? = some x := ⟨_, List.getElem?_eq_getElem (by rw [lfs]; exact c)⟩
  have hxv : (aF (eE es is))[n]? = some (V.int (x : Nat)) := by unfold aF; rw [List.getElem?_map, hx]; rfl
  refine ⟨_, rfl, _, rfl, p, rfl, ⟨_, hS2⟩, fun D1 hD1 => bz (kn hS2) (v5 es x (eE es is)) (fun i => V.int ((es.getD i (0, 0)).1 : Nat)) hD1 (by omega) (fun i y H' hi sm hy Rk E kR kE => ?_) fun H3 s3 h3 => ?_⟩
  ·obtain ⟨⟨a, b⟩, hd, pl, rfl, hpl⟩ := al.at hy
   unfold v5 at kR kE
   rw [aR (0, 0) hd] at kR kE
   have hD' : aO K H' D (aF (eE es is)) := aO.of (sm _ _ h2)
   refine ⟨pl, _, rfl, aN.same (s2.trans sm) _ _ hpl, rfl, _, _, rfl, _, _, rfl, rfl, (eJ.set rfl).set' rfl, ?_⟩
   refine ⟨_, rfl, _, rfl, _, rfl, D, _, _, _, rfl, rfl, hD', aL hxv, rfl, _, rfl, ?_⟩
   by_cases cb : b = x
   ·refine bQ (by rw [cb]) ⟨_, rfl, _, rfl, D, _, rfl, .inl hD', rfl, fH _, _, rfl, ?_⟩
    have eI : k8 (.int (a : Nat)) (aF (eE es is)) = (eE es is).contains a := gE a _
    cases ca : (eE es is).contains a with
    | true => exact ei (by show (!k8 (.int (a : Nat)) (aF (eE es is))) = false; rw [eI, ca]; rfl) (kE (by rw [ca]; exact Bool.and_false _) _ (aA.refl _))
    | false => exact fG (by show (!k8 (.int (a : Nat)) (aF (eE es is))) = true; rw [eI, ca]; rfl) ⟨_, rfl, kR (by rw [decide_eq_true cb, ca]; rfl) _ (aA.refl _)⟩
   ·exact aV (fun z => cb (by injection z with z; exact Int.ofNat.inj z)) (bi (kE (by rw [decide_eq_false cb]; rfl) _ (aA.refl _)))
  have e3 : ((List.range xs.length).filter (v5 es x (eE es is))).map (fun i => V.int ((es.getD i (0, 0)).1 : Nat)) = aF (eE es (o7 es x (eE es is))) := by
   unfold aF
   rw [show eE es (o7 es x (eE es is)) = (o7 es x (eE es is)).map fun i => (es.getD i (0, 0)).1 from rfl, List.map_map, lx]
   rfl
  rw [e3] at h3
  have iv' := iv.step hx
  have il' := g6 _ _ iv'.nd iv'.lt
  rw [List.length_append] at il'
  have l3 : (aF (eE es (o7 es x (eE es is)))).length = (o7 es x (eE es is)).length := by unfold aF; rw [List.length_map]; exact List.length_map _
  refine ⟨D, D1, _, _, rfl, rfl, s3 _ _ h2, h3, Nat.le_of_lt (bh (by rw [l3, fl]; omega)), fun q hq => ?_⟩
  have s4 := ap hq (.lst (aF (eE es is) ++ aF (eE es (o7 es x (eE es is)))))
  have ea : aF (eE es is) ++ aF (eE es (o7 es x (eE es is))) = aF (eE es (is ++ o7 es x (eE es is))) := by
   rw [lh]
   unfold aF
   rw [List.map_append]
  rw [ea] at s4 ⊢
  refine ⟨_, rfl, _, _, rfl, rfl, ?_⟩
  exact ⟨_, (by omega), n + 1, _, q, rfl, (s2.trans s3).trans s4, ah, iv', rfl⟩
 ·refine aV (by omega) ?_
  exact ⟨_, rfl, k D _ H2 s2 h2 (iv.fin (by omega)) (by omega)⟩
theorem xG (T : eQ K mg t) : bB P w K mg base dI 1 t.a_Q32 t.d_Q32 ["_law_number"] (nk K) := by
 refine T.F_Q32.ok wD (fun vs H Q E h => ?_) (fun cdv A outer s H vs Q E hr h => ?_)
 ·obtain ⟨_, rfl, _⟩ := h; rfl
 obtain ⟨i, rfl, i0, i1, k⟩ := h
 refine dN.ok (ao (az (aS eM (aS fA (qv 0) ai) ai))) ?_
 try dsimp only [Cx.nox, Cx.wish, bO]
 exact ⟨_, rfl, _, _, rfl, rfl, .inr ⟨by decide, by decide⟩, _, _, rfl, rfl, (show (0 : Int) < 11 by decide), k⟩
theorem xK (T : eQ K mg t) : bB P w K mg base dI 2 t.a_Q27 t.d_Q27 ["_law_works_here", "_law_leans_here", "_law_come"] (lZ K) := by
 refine T.F_Q27.ok iI (fun vs H Q E h => ?_) (fun cdv A outer s H vs Q E hr h => ?_)
 ·obtain ⟨_, _, _, _, _, _, rfl, _⟩ := h; rfl
 obtain ⟨v, u, a, ws, es, come, rfl, ak, ha, wne, k⟩ := h
 refine dN.ok (ag (cD 3 iI.nd (bx (N' := ["_law_number", "_law_come"]) (src := [none, some 2]) rfl (by exact (bD rfl T.z_range (ad (aj aw (by rfl) T.z_len boot_len (ad (qv 0) af ae)) af aG))) (fun _ _ _ _ _ => (by exact (by exact aH (i := 0) (by show List.Nodup (["_law_number", "_law_come"] : List Str); decide +kernel) (by exact rfl) (by first | exact Or.inl rfl | exact Or.inr rfl)))) (fun _ _ _ _ _ => (cW (ay (eK (K := K) (by exact rfl)) (by exact (qv 0)) (by exact (qv 1)) (by with_unfolding_all rfl)))) (fun _ _ _ _ _ => (by exact (by exact (qv 0)))) (by exact ⟨rfl, rfl, rfl, rfl, trivial⟩) rfl (by decide +kernel) rfl (by decide +kernel) (by exact aY rfl ⟨rfl, trivial⟩)))
   (ag (aU (ay bF (aj aw (by rfl) T.z_len boot_len (ad (qv 3) af ae)) ai (ax _)) (ao (az dr)) aD)
   (ag (cD 4 iI.nd (aj (j6 rfl) (by rfl) T.z_min boot_min (ad (bx (N' := ["_law_number", "_law_works_here"]) (src := [none, some 0]) rfl (by exact (bG (qv 3))) (fun _ _ _ _ _ => (by exact (by exact aH (i := 0) (by show List.Nodup (["_law_number", "_law_works_here"] : List Str); decide +kernel) (by exact rfl) (by first | exact Or.inl rfl | exact Or.inr rfl)))) (fun _ _ _ _ _ => cA) (fun _ _ _ _ _ => (by exact (by exact (bj (aX (K := K) (by exact rfl)) (by exact (bj (aX (K := K) (by exact rfl)) (by exact (qv 1)) (by exact (qv 0)) (by exact fun _ _ => rfl))) ai (by exact fun _ _ => rfl))))) (by exact ⟨rfl, rfl, rfl, rfl, trivial⟩) rfl (by decide +kernel) rfl (by decide +kernel) (by exact aY rfl ⟨rfl, trivial⟩)) af dn)))
   (ag (cD 3 iI.nd (bx (N' := ["_law_number", "_law_last", "_law_works_here"]) (src := [none, some 4, some 0]) rfl (by exact (bG (qv 3))) (fun _ _ _ _ _ => (by exact (by exact aH (i := 0) (by show List.Nodup (["_law_number", "_law_last", "_law_works_here"] : List Str); decide +kernel) (by exact rfl) (by first | exact Or.inl rfl | exact Or.inr rfl)))) (fun _ _ _ _ _ => (cW (ay bF (by exact (bj (aX (K := K) (by exact rfl)) (by exact (bj (aX (K := K) (by exact rfl)) (by exact (qv 2)) (by exact (qv 0)) (by exact fun _ _ => rfl))) ai (by exact fun _ _ => rfl))) (by exact (qv 1)) (ax _)))) (fun _ _ _ _ _ => (by exact (by exact (qv 0)))) (by exact ⟨rfl, rfl, rfl, rfl, ⟨rfl, rfl, rfl, rfl, trivial⟩⟩) rfl (by decide +kernel) rfl (by decide +kernel) (by exact aY rfl ⟨rfl, ⟨rfl, trivial⟩⟩)))
   (ag (cP PassesOwn.never rfl (bG (qv 3)) (aH (i := 5) iI.nd rfl (by first | exact Or.inl rfl | exact Or.inr rfl))
   (ao (aU (ay bF (aj aw (by rfl) T.z_len boot_len (ad (bx (N' := ["_law_other", "_law_left"]) (src := [none, some 3]) rfl (by exact (bG (dt (xU T) hr T.m_Q13 T.F_Q13.kp T.b_Q13 (ad (qv 1) (ad (qv 5) af ae) ae)))) (fun _ _ _ _ _ => (by exact (by exact aH (i := 0) (by show List.Nodup (["_law_other", "_law_left"] : List Str); decide +kernel) (by exact rfl) (by first | exact Or.inl rfl | exact Or.inr rfl)))) (fun _ _ _ _ _ => (cW (ay (nH (K := K) (by exact rfl)) (by exact (qv 0)) (by exact (qv 1)) (by with_unfolding_all rfl)))) (fun _ _ _ _ _ => (by exact (by exact (qv 0)))) (by exact ⟨rfl, rfl, rfl, rfl, trivial⟩) rfl (by decide +kernel) rfl (by decide +kernel) (by exact aY rfl ⟨rfl, trivial⟩)) af dn)) ai (ax _)) (ao (az (qv 5))) aD)))
   (ao (az (cK bo (qv 3) ai)))))))) ?_
 try dsimp only [Cx.nox, Cx.wish, bO]
 obtain ⟨p, xs, rfl, hS, al⟩ := id ak.wv
 have rk := ak.rk
 have w8 := ak.w8
 have e8 := ak.e8
 have lx : xs.length = ws.length := al.len
 refine ⟨_, rfl, p, _, rfl, .inr hS, _, rfl, by omega, by omega, fun D0 hD0 => bz fb (fun i => !come.contains i) (fun i => V.int (i : Nat)) hD0 (by omega) (fun i x H' hi sm hx Rk E kR kE => ?_) fun H0 s0 h0 => ?_⟩
 ·subst hx
  rw [Int.zero_add]
  refine ⟨eJ.set rfl, _, rfl, _, rfl, a, _, rfl, .inl (sm.seq ha), rfl, fH _, _, rfl, ?_⟩
  have eI : k8 (.int (i : Nat)) (aF come) = come.contains i := gE i _
  cases c : come.contains i with
  | true => exact ei (by show (!k8 (.int (i : Nat)) (aF come)) = false; rw [eI, c]; rfl) (kE (by rw [c]; rfl) _ (aA.refl _))
  | false => exact fG (by show (!k8 (.int (i : Nat)) (aF come)) = true; rw [eI, c]; rfl) ⟨_, rfl, kR (by rw [c]; rfl) _ (aA.refl _)⟩
 have e0 : ((List.range ((xs.length : Int)).toNat).filter fun i => !come.contains i).map (fun i => V.int (i : Nat)) = aF (bX ws.length come) := by
  rw [show ((xs.length : Int)).toNat = ws.length by omega]
  rfl
 rw [e0] at h0
 have lt : ∀ i ∈ bX ws.length come, i < ws.length := fun i hi => (iY.mp hi).1
 have l8 : (bX ws.length come).length ≤ 8 := by
  unfold bX
  exact Nat.le_trans (List.length_filter_le _ _) (by rw [List.length_range]; omega)
 generalize bX ws.length come = ls at h0 wne k lt l8
 have h0s : aO K H0 D0 (aF ls) := aO.of h0
 have hS0 := aN.same (K := K) s0 _ _ hS
 have al0 := al.mono fun _ _ z => z.mono (aN.same s0)
 have ne := wne
 refine ⟨_, rfl, D0, _, rfl, .inl h0s, rfl, _, rfl, aV (fun z => ?_) ?_⟩
 ·injection z with z
  have z' : (aF ls).length = 0 := Int.ofNat.inj z
  rw [show (aF ls).length = ls.length from List.length_map _] at z'
  exact ne (List.length_eq_zero_iff.mp z')
 have lv : (aF ls).length = ls.length := List.length_map _
 have pos : 0 < ls.length := List.length_pos_iff.mpr ne
 have at_ : ∀ {H' : Hp}, aA H0 H' -> ∀ i, i < ws.length -> ∃ pw x, xs[i]? = some (.ref pw) /\ bt K H' pw [.int (ws.getD i lL).1, .int (bv ws i : Nat), x] := fun {H'} s i hi => by
  have e : xs[i]? = some (xs[i]'(by omega)) := List.getElem?_eq_getElem _
  obtain ⟨w, hw, pw, x, ex, hSw, _⟩ := al0.at e
  refine ⟨pw, x, by rw [e, ex], ?_⟩
  have g : ws.getD i lL = w := aR lL hw
  unfold bv
  rw [g]
  exact aN.same s _ _ hSw
 have nat_ : ∀ {zs : List Nat} {i : Nat} {x : V}, (aF zs)[i]? = some x -> ∃ n, zs[i]? = some n /\ x = .int (n : Nat) := fun {zs i x} h => by
  unfold aF at h
  rw [List.getElem?_map] at h
  obtain ⟨n, hn, rfl⟩ := Option.map_eq_some_iff.mp h
  exact ⟨n, hn, rfl⟩
 refine ⟨_, rfl, D0, rfl, ⟨_, h0s⟩, fun D1 hD1 => bz (cV h0s) (fun _ => true) (fun i => V.int (bv ws (ls.getD i 0) : Nat)) hD1 (by omega) (fun i x H' hi sm hx Rk E kR _ => ?_) fun H1 s1 h1 => ?_⟩
 ·obtain ⟨n, hn, rfl⟩ := nat_ hx
  obtain ⟨pw, y, ex, hSw⟩ := at_ sm n (lt n (List.mem_of_getElem? hn))
  rw [aR 0 hn] at kR
  exact ⟨eJ.set rfl, _, rfl, _, rfl, p, _, _, _, rfl, rfl, aN.same sm _ _ hS0, aL ex, pw, _, _, _, rfl, rfl, hSw, rfl, kR rfl _ (aA.refl _)⟩
 have e1 : ((List.range (aF ls).length).filter fun _ => true).map (fun i => V.int (bv ws (ls.getD i 0) : Nat)) = (ls.map fun i => ((bv ws i : Nat) : Int)).map V.int := by
  rw [lv, List.map_map]
  exact dF 0 (fun n => V.int (bv ws n : Nat)) ls
 rw [e1] at h1
 refine ⟨D1, _, rfl, aO.of h1, by rw [List.length_map]; exact pos, fun M hM hle => ?_⟩
 have key : ∀ i, i ∈ ls -> (((bv ws i : Nat) : Int) = M ↔ ∀ j ∈ ls, bv ws i ≤ bv ws j) := fun i hi => by
  constructor
  ·intro e j hj
   have := hle _ (List.mem_map.mpr ⟨j, hj, rfl⟩)
   omega
  ·intro h
   obtain ⟨j, hj, e⟩ := List.mem_map.mp hM
   have a := h j hj
   have b := hle _ (List.mem_map.mpr ⟨i, hi, rfl⟩)
   omega
 have hw1 : aO K H1 D0 (aF ls) := s1.seq h0s
 refine ⟨_, rfl, D0, rfl, ⟨_, hw1⟩, fun D2 hD2 => bz (cV hw1) (fun i => ls.all fun j => decide (bv ws (ls.getD i 0) ≤ bv ws j)) (fun i => V.int (ls.getD i 0 : Nat)) hD2 (by omega) (fun i x H' hi sm hx Rk E kR kE => ?_) fun H2 s2 h2 => ?_⟩
 ·obtain ⟨n, hn, rfl⟩ := nat_ hx
  have sm' := s1.trans sm
  have mn := List.mem_of_getElem? hn
  obtain ⟨pw, y, ex, hSw⟩ := at_ sm' n (lt n mn)
  rw [aR 0 hn] at kR kE
  refine ⟨eJ.set rfl, _, rfl, _, rfl, p, _, _, _, rfl, rfl, aN.same sm' _ _ hS0, aL ex, pw, _, _, _, rfl, rfl, hSw, rfl, _, rfl, rfl, _, rfl, ?_⟩
  by_cases c : ((bv ws n : Nat) : Int) = M
  ·refine bQ (by rw [c]) ⟨_, rfl, kR ?_ _ (aA.refl _)⟩
   rw [List.all_eq_true]
   exact fun j hj => decide_eq_true ((key n mn).mp c j hj)
  ·refine aV (fun z => c (by injection z)) (kE ?_ _ (aA.refl _))
   cases q : ls.all fun j => decide (bv ws n ≤ bv ws j) with
   | false => rfl
   | true =>
    rw [List.all_eq_true] at q
    exact absurd ((key n mn).mpr fun j hj => of_decide_eq_true (q j hj)) c
 have e2 : ((List.range (aF ls).length).filter fun i => ls.all fun j => decide (bv ws (ls.getD i 0) ≤ bv ws j)).map (fun i => V.int (ls.getD i 0 : Nat)) = aF (cY ws ls) := by
  rw [lv]
  exact de 0 (fun n => ls.all fun j => decide (bv ws n ≤ bv ws j)) (fun n => V.int (n : Nat)) ls
 rw [e2] at h2
 have s02 := (s0.trans s1).trans s2
 have lkl : ∀ i ∈ cY ws ls, i < ws.length := fun i hi => lt i (gC.mp hi).1
 have ll : (cY ws ls).length ≤ ls.length := List.length_filter_le _ _
 have lk : (aF (cY ws ls)).length = (cY ws ls).length := List.length_map _
 have fne := oU (ws := ws) rk ne
 have enx : gz ws es ls = ((cY ws ls).filter fun i => !(cY ws ls).any (dz es i)).getD 0 0 := rfl
 have efr : fZ ws es ls = (cY ws ls).filter fun i => !(cY ws ls).any (dz es i) := rfl
 rw [efr] at fne
 rw [enx] at k
 generalize cY ws ls = lk_ at h2 lkl ll lk k fne
 have hl2 : aO K H2 D2 (aF lk_) := aO.of h2
 refine ⟨_, rfl, D2, rfl, ⟨_, hl2⟩, em (K := K) (a := D2) (xs := aF lk_) (fun i σ H' => ∃ x6 : Option V, σ = [some (.ref p), some u, some (.ref a), some (.ref D2), some (.int M), x6] /\ aA H2 H' /\ ∀ j y, j < i -> lk_[j]? = some y -> (!lk_.any (dz es y)) = false) ⟨none, rfl, aA.refl _, fun j y hj => absurd hj (Nat.not_lt_zero _)⟩ (fun i σ H' _ ⟨_, _, sm, _⟩ => sm.seq hl2) ?_ ?_⟩
 ·rintro i x σ H3 hx ⟨x6, rfl, s3, bef⟩
  obtain ⟨n, hn, rfl⟩ := ir hx
  have t3 := aN.same (K := K) (s02.trans s3)
  refine ⟨_, rfl, _, rfl, u, es, n, rfl, ak.lv.mono t3, by omega, fun la as H4 s4 h4 mas a64 => ?_⟩
  have hD4 : aO K H4 D2 (aF lk_) := (s3.trans s4).seq hl2
  have ha4 : aO K H4 la (aF as) := aO.of h4
  have las : (aF as).length = as.length := List.length_map _
  refine ⟨la, rfl, ⟨_, ha4⟩, fun D5 hD5 => bz (cV ha4) (fun i => lk_.contains (as.getD i 0)) (fun i => V.int (as.getD i 0 : Nat)) hD5 (by omega) (fun i x H' hi sm hx Rk E kR kE => ?_) fun H6 s6 h6 => ?_⟩
  ·obtain ⟨y, hy, rfl⟩ := ir hx
   rw [aR 0 hy] at kR kE
   refine ⟨eJ.set rfl, _, rfl, _, rfl, D2, _, rfl, .inl (sm.seq hD4), rfl, fH _, _, rfl, ?_⟩
   have eI : k8 (.int (y : Nat)) (aF lk_) = lk_.contains y := gE y _
   cases c : lk_.contains y with
   | true => exact fG (by show k8 (.int (y : Nat)) (aF lk_) = true; rw [eI, c]) ⟨_, rfl, kR c _ (aA.refl _)⟩
   | false => exact ei (by show k8 (.int (y : Nat)) (aF lk_) = false; rw [eI, c]) (kE c _ (aA.refl _))
  have e6 : ((List.range (aF as).length).filter fun i => lk_.contains (as.getD i 0)).map (fun i => V.int (as.getD i 0 : Nat)) = aF (as.filter fun x => lk_.contains x) := by
   rw [las]
   exact de 0 (fun n => lk_.contains n) (fun n => V.int (n : Nat)) as
  rw [e6] at h6
  have l6 : (aF (as.filter fun x => lk_.contains x)).length = (as.filter fun x => lk_.contains x).length := List.length_map _
  have s06 := ((s02.trans s3).trans s4).trans s6
  refine ⟨D5, _, rfl, .inl (aO.of h6), rfl, _, rfl, ?_⟩
  have iff : (as.filter fun x => lk_.contains x) = [] ↔ (!lk_.any (dz es n)) = true := by
   rw [List.filter_eq_nil_iff, Bool.not_eq_true', List.any_eq_false]
   constructor
   ·intro h b hb z
    exact h b ((mas b).mpr (fO.mp z)) (List.contains_iff_mem.mpr hb)
   ·intro h b hb z
    exact h b (List.contains_iff_mem.mp z) (fO.mpr ((mas b).mp hb))
  by_cases c : (as.filter fun x => lk_.contains x) = []
  ·refine bQ (by rw [l6, c]; rfl) ⟨_, rfl, ?_⟩
   have q := k _ s06
   rw [gH hn (iff.mp c) bef] at q
   exact q
  ·refine aV (fun z => ?_) ⟨_, rfl, (s3.trans s4).trans s6, fun j y hj hy => ?_⟩
   ·injection z with z
    have z' : (aF (as.filter fun x => lk_.contains x)).length = 0 := Int.ofNat.inj z
    rw [l6] at z'
    exact c (List.length_eq_zero_iff.mp z')
   ·by_cases z : j < i
    ·exact bef j y z hy
    ·have e : j = i := by omega
     subst e
     rw [hn] at hy
     cases hy
     cases cc : !lk_.any (dz es n) with
     | false => rfl
     | true => exact absurd (iff.mpr cc) c
 ·rintro σ H3 ⟨x6, rfl, s3, bef⟩
  rw [lk] at bef
  refine absurd (List.filter_eq_nil_iff.mpr fun y hy z => ?_) fne
  obtain ⟨j, hj, e⟩ := List.mem_iff_getElem.mp hy
  have := bef j y hj (by rw [List.getElem?_eq_getElem hj, e])
  rw [this] at z
  exact Bool.false_ne_true z
theorem xS (T : eQ K mg t) : bB P w K mg base dI 3 t.a_Q15 t.d_Q15 ["_law_works_here", "_law_leans_here", "_law_speeds_here"] (kG K) := by
 refine T.F_Q15.ok dY (fun vs H Q E h => ?_) (fun cdv A outer s H vs Q E hr h => ?_)
 ·obtain ⟨_, _, _, _, _, _, rfl, _⟩ := h; rfl
 obtain ⟨v, u, s_, ws, es, ss, rfl, ak, ⟨q, qs, rfl, hq, alq⟩, l24, oks, k⟩ := h
 refine dN.ok (ag (cD 3 dY.nd (bY af))
   (ag (eU PassesOwn.never (ay jT (aj aw (by rfl) T.z_len boot_len (ad (qv 3) af ae)) (aj aw (by rfl) T.z_len boot_len (ad (qv 0) af ae)) (ax _))
   (ao (cX (fz PySem.F.plainAttrs_list PySem.F.slot_list_append PySem.F.type_list_append b8 (qv 3) (ad (dt (xK T) hr T.m_Q27 T.F_Q27.kp T.b_Q27 (ad (qv 0) (ad (qv 1) (ad (qv 3) af ae) ae) ae)) af aG)))))
   (ag (cD 4 dY.nd (bx (N' := ["_law_work"]) (src := [none]) rfl (by exact (fc (qv 0))) (fun _ _ _ _ _ => (by exact (by exact aH (i := 0) (by show List.Nodup (["_law_work"] : List Str); decide +kernel) (by exact rfl) (by first | exact Or.inl rfl | exact Or.inr rfl)))) (fun _ _ _ _ _ => cA) (fun _ _ _ _ _ => (by exact (by exact (bj (aX (K := K) (by exact rfl)) (by exact (qv 0)) ai (by exact fun _ _ => rfl))))) (by exact trivial) rfl (by decide +kernel) rfl (by decide +kernel) (by exact aY rfl trivial)))
   (ag (cD 5 dY.nd (bY af))
   (ag (cP PassesOwn.never rfl (bD rfl T.z_range (ad ai af aE)) (aH (i := 6) dY.nd rfl (by first | exact Or.inl rfl | exact Or.inr rfl))
   (ag (cD 7 dY.nd (cK aM (qv 2) (qv 6)))
   (ag (cD 8 dY.nd (bY af))
   (ag (cP PassesOwn.never rfl (bG (qv 3)) (aH (i := 9) dY.nd rfl (by first | exact Or.inl rfl | exact Or.inr rfl))
   (ag (kU (cD 10 dY.nd (mC hW hW (cK aM (cK aM (qv 0) (qv 9)) ai) (qv 6) (cK aM (cK aM (qv 0) (qv 9)) ai))))
   (ag (kU (cD 11 dY.nd (mB (bp (dt (xM T) hr T.m_Q25 T.F_Q25.kp T.b_Q25 (ad (cK bo (qv 4) (qv 9)) (ad (qv 7) af ae) aP))) (cK bo (qv 4) (qv 9)) (qv 7))))
   (ao (aU (d4 (gY (bp (qv 10)) (gv (ay (g3 hr) (qv 11) (bI (ad ai (ad ai af aE) aE)) (ax _))))) (ag (cX (fz PySem.F.plainAttrs_list PySem.F.slot_list_append PySem.F.type_list_append b8 (qv 8) (ad (bI (ad (qv 9) (ad (qv 11) af ae) ae)) af cC)))
   (ag (ef (dt (iT T) hr T.m_Q29 T.F_Q29.kp T.b_Q29 (ad (cK bo (qv 4) (qv 9)) (ad (bI (ad (oB ko (cK aM (qv 11) ai)) (ad (cK aM (qv 11) ai) af aP) ku)) af cC) aP)) (fe (qv 4) (qv 9) dq))
   (ao (cD 7 dY.nd (dt (iT T) hr T.m_Q29 T.F_Q29.kp T.b_Q29 (ad (qv 7) (ad (bI (ad (oB ko (cK aM (qv 11) ai)) (ad (cK aM (qv 11) ai) af aP) ku)) af cC) ae)))))) aD)))))
   (ao (cX (fz PySem.F.plainAttrs_list PySem.F.slot_list_append PySem.F.type_list_append b8 (qv 5) (ad (bK bw (by rfl) T.z_tuple boot_tuple (ad (qv 8) af ae)) af aG))))))))
   (ag (d5 (i := 12) (N' := ["_law_number", "_law_rest"]) (src := [none, some 4]) dY.nd rfl (by first | exact Or.inl rfl | exact Or.inr rfl) rfl (by exact (bD rfl T.z_range (ad (aj aw (by rfl) T.z_len boot_len (ad (qv 0) af ae)) af aG))) (fun _ _ _ _ _ => (by exact (by exact aH (i := 0) (by show List.Nodup (["_law_number", "_law_rest"] : List Str); decide +kernel) (by exact rfl) (by first | exact Or.inl rfl | exact Or.inr rfl)))) (fun _ _ _ _ _ => (cW (ay (u3 (K := K) (by exact rfl) hr) (by exact (bj (c6 (K := K) (by exact rfl)) (by exact (qv 1)) (by exact (qv 0)) (by exact fun _ _ => rfl))) (by exact (bI (ad ai (ad ai af aE) aE))) (ax _)))) (fun _ _ _ _ _ => (by exact (by exact (qv 0)))) (by exact ⟨rfl, rfl, rfl, rfl, trivial⟩) rfl (by decide +kernel) rfl (by decide +kernel) (by exact aY rfl ⟨rfl, trivial⟩))
   (ao (az (mB (ay iS (aj aw (by rfl) T.z_len boot_len (ad (qv 12) af ae)) ai (ax _)) (cK bo (qv 12) ai) (bK bw (by rfl) T.z_tuple boot_tuple (ad (qv 5) af ae))))))))))) ?_
 try dsimp only [Cx.nox, Cx.wish, bO]
 obtain ⟨p, xs, rfl, hS, al⟩ := id ak.wv
 have w8 := ak.w8
 have lx : xs.length = ws.length := al.len
 refine ⟨(by show 0 ≤ sizeLine; exact Nat.zero_le _), fun o ho0 => ?_⟩
 have s1 := ap ho0 (.lst [])
 have ho1 : upd H o (.lst []) o = some (.lst []) := ah
 generalize upd H o (.lst []) = H1 at s1 ho1 ⊢
 have sko : ∀ H', aT o H1 H' -> aA H H' := fun H' S b o' e => S.keep b o' (fun z => by subst z; rw [ho0] at e; cases e) (s1 _ _ e)
 refine ⟨fun m σ H' => ∃ i : Nat, σ = [some (.ref p), some u, some (.ref q), some (.ref o), none, none, none, none, none, none, none, none, none] /\ aT o H1 H' /\ H' o = some (.lst (aF (cM ws es i))) /\ i ≤ ws.length /\ m = ws.length - i, ⟨_, 0, rfl, aT.refl ⟨_, ho1⟩, ho1, Nat.zero_le _, rfl⟩, ?_⟩
 rintro m σ H2 ⟨i, rfl, S2, ho2, hi, rfl⟩
 have oi := gy (es := es) ak.rk i hi
 have s2 := sko H2 S2
 have t2 := aN.same (K := K) s2
 have lo : (aF (cM ws es i)).length = i := by unfold aF; rw [List.length_map, oi.len]
 refine ⟨_, rfl, o, _, rfl, .inl (aO.of ho2), _, rfl, p, _, rfl, .inr (t2 _ _ hS), _, _, rfl, rfl, _, rfl, ?_⟩
 by_cases c : i < ws.length
 ·refine bQ (by omega) ⟨_, fun _ _ z => z, ?_⟩
  obtain ⟨oi1, j, hj, ej⟩ := oi.step ak.rk c
  refine ⟨_, rfl, .inl ⟨rfl, _, aO.of ho2⟩, _, rfl, _, rfl, _, rfl, .ref p, u, o, ws, es, cM ws es i, rfl, ak.mono t2, aO.of ho2, oi.ne c, fun H3 s3 => ?_⟩
  have ho3 := s3 _ _ ho2
  refine ⟨o, _, _, rfl, rfl, ho3, bh (by rw [lo]; omega), ?_⟩
  refine ⟨_, (by omega), i + 1, rfl, (S2.trans (aT.same s3 ⟨_, ho2⟩)).trans (aT.up ho3), ?_, c, rfl⟩
  rw [ah]
  show some (HO.lst (aF (cM ws es i) ++ [_])) = some (HO.lst (aF (cM ws es i ++ [_])))
  unfold aF
  rw [List.map_append]
  rfl
 refine aV (by omega) ?_
 have e : i = ws.length := by omega
 subst e
 have hS2 := t2 _ _ hS
 have oN := ho2
 refine ⟨_, rfl, p, rfl, ⟨_, hS2⟩, fun lf hlf0 => fS (K := K) (P := RV K) (ds := ws) (f := fun w => w.2.2) (fun _ _ _ _ t z => z.mono t) hlf0 hS2 lx (by omega) (fun i x d H' hx hd sm Rk E kR => ?_) fun H2' ys s2' hlf al2 => ?_⟩
 ·obtain ⟨d', hd', pw, xa, rfl, hSw, rx⟩ := al.at hx
  rw [hd] at hd'
  cases hd'
  have t' := aN.same (K := K) (s2.trans sm)
  exact ⟨eJ.set rfl, _, rfl, pw, _, _, _, rfl, rfl, t' _ _ hSw, rfl, kR _ _ (aA.refl _) (rx.mono t')⟩
 have ho2' := s2' _ _ ho2
 have nol : o ≠ lf := fun z => by subst z; rw [ho2] at hlf0; cases hlf0
 have lfN : H lf = none := by
  cases e : H lf with
  | none => rfl
  | some o' => rw [s2 _ _ e] at hlf0; cases hlf0
 refine ⟨(by show 0 ≤ sizeLine; exact Nat.zero_le _), fun pl hpl => ?_⟩
 have s3 := ap hpl (.lst [])
 have hp3 : upd H2' pl (.lst []) pl = some (.lst []) := ah
 have npf : pl ≠ lf := fun z => by subst z; rw [hlf] at hpl; cases hpl
 have npo : pl ≠ o := fun z => by subst z; rw [ho2'] at hpl; cases hpl
 have hl3 := s3 _ _ hlf
 have ho3 := s3 _ _ ho2'
 have al3 := al2.mono fun _ _ z => z.mono (aN.same s3)
 have s03 := (s2.trans s2').trans s3
 have plN : H pl = none := by
  cases e : H pl with
  | none => rfl
  | some o' => rw [s2' _ _ (s2 _ _ e)] at hpl; cases hpl
 generalize upd H2' pl (.lst []) = H3 at s03 hp3 hl3 ho3 al3 ⊢
 have t03 := aN.same (K := K) s03
 have olt := oi.lt
 have olen := oi.len
 have pk := io (ord := cM ws es ws.length) ak.ok olt oks
 have l12 : ∀ r ∈ [pl, lf], ∃ xs, H3 r = some (.lst xs) := fun r m => by
  rcases List.mem_cons.mp m with z | z
  ·exact ⟨_, by rw [z]; exact hp3⟩
  ·exact ⟨_, by rw [List.mem_singleton.mp z]; exact hl3⟩
 have onot : o ∉ [pl, lf] := fun m => by
  rcases List.mem_cons.mp m with z | z
  ·exact npo z.symm
  ·exact nol (List.mem_singleton.mp z)
 have sk : ∀ H', Kp [pl, lf] H3 H' -> aA H H' := fun H' kp b o' e => kp.keep b o' (fun m => by
  rcases List.mem_cons.mp m with z | z
  ·rw [z, plN] at e; cases e
  ·rw [List.mem_singleton.mp z, lfN] at e; cases e) (s03 _ _ e)
 have ed : eX ws es ss = cw ws (cM ws es ws.length) ss 24 := rfl
 clear ho2 ho2' oN lo oi ho1 S2
 generalize cM ws es ws.length = od at ho3 pk olt olen ed
 have o8 : od.length ≤ 8 := by omega
 refine ⟨24, rfl, by decide, by decide, dm (lo := 0) (n := 24) (fun i σ H' => ∃ (zs ys : List V) (x7 x8 x9 x10 x11 x12 : Option V), σ = [some (.ref p), some u, some (.ref q), some (.ref o), some (.ref lf), some (.ref pl), x7, x8, x9, x10, x11, x12, none] /\ Kp [pl, lf] H3 H' /\ H' lf = some (.lst zs) /\ cO (RV K H') zs (cw ws od ss i).1 /\ H' pl = some (.lst ys) /\ cO (v6 K H') ys (cw ws od ss i).2) ⟨_, [], none, none, none, none, none, none, rfl, Kp.same (aA.refl _) l12, hl3, al3, hp3, .nil⟩ ?_ ?_⟩
 ·rintro tt σ H4 hi ⟨xs4, ys4, x7, x8, x9, x10, x11, x12, rfl, kp, hl4, alz4, hp4, aly4⟩
  rw [Int.zero_add]
  obtain ⟨po, pl_⟩ := pk tt
  have t4 := t03.trans (aN.kp kp)
  obtain ⟨sv, hsv⟩ : ∃ sv, qs[tt]? = some sv := ⟨_, List.getElem?_eq_getElem (by rw [alq.len, l24]; exact hi)⟩
  obtain ⟨sp, hsp, rsp⟩ := alq.at hsv
  have esp : ss.getD tt (0, 1) = sp := aR (0, 1) hsp
  have asp : fq sp := oks _ (List.mem_of_getElem? hsp)
  refine ⟨_, rfl, _, rfl, q, _, _, _, rfl, rfl, t4 _ _ hq, aL hsv, ?_⟩
  refine ⟨(by show 0 ≤ sizeLine; exact Nat.zero_le _), fun dl hdl => ?_⟩
  have s5 := ap hdl (.lst [])
  have hd5 : upd H4 dl (.lst []) dl = some (.lst []) := ah
  have ndf : dl ≠ lf := fun z => by subst z; rw [hl4] at hdl; cases hdl
  have ho4 := kp.keep _ _ onot ho3
  have ndo : dl ≠ o := fun z => by subst z; rw [ho4] at hdl; cases hdl
  have ndp : dl ≠ pl := fun z => by subst z; rw [hp4] at hdl; cases hdl
  have hl5 := s5 _ _ hl4
  have ho5 := s5 _ _ ho4
  have hp5 := s5 _ _ hp4
  generalize upd H4 dl (.lst []) = H5 at s5 hd5 hl5 ho5 hp5 ⊢
  have l12' : ∀ r ∈ [dl, lf], ∃ xs, H5 r = some (.lst xs) := fun r m => by
   rcases List.mem_cons.mp m with z | z
   ·exact ⟨_, by rw [z]; exact hd5⟩
   ·exact ⟨_, by rw [List.mem_singleton.mp z]; exact hl5⟩
  have t45 := aN.same (K := K) s5
  have t05 := t4.trans t45
  have onot' : o ∉ [dl, lf] := fun m => by
   rcases List.mem_cons.mp m with z | z
   ·exact ndo z.symm
   ·exact nol (List.mem_singleton.mp z)
  have pnot' : pl ∉ [dl, lf] := fun m => by
   rcases List.mem_cons.mp m with z | z
   ·exact ndp z.symm
   ·exact npf (List.mem_singleton.mp z)
  have md : dl ∈ [dl, lf] := List.mem_cons_self
  have ml : lf ∈ [dl, lf] := List.mem_cons_of_mem _ List.mem_cons_self
  refine ⟨_, rfl, o, rfl, ⟨_, aO.of ho5⟩, em (K := K) (a := o) (xs := aF od) (fun i σ H' => ∃ (rv : V) (zs ys : List V) (st : vD) (x10 x11 x12 : Option V), σ = [some (.ref p), some u, some (.ref q), some (.ref o), some (.ref lf), some (.ref pl), some (.int (tt : Nat)), some rv, some (.ref dl), x10, x11, x12, none] /\ st = (od.take i).foldl (cv ws tt) ((cw ws od ss tt).1, sp, []) /\ Kp [dl, lf] H5 H' /\ H' lf = some (.lst zs) /\ cO (RV K H') zs st.1 /\ RV K H' rv st.2.1 /\ H' dl = some (.lst ys) /\ cO (vA K H') ys st.2.2 /\ uf ws.length st /\ st.2.2.length ≤ i) ⟨sv, xs4, [], _, x10, x11, x12, rfl, rfl, Kp.same (aA.refl _) l12', hl5, alz4.mono fun _ _ z => z.mono t45, rsp.mono t05, hd5, .nil, ⟨po.len, po.lf, asp, fun p hp => by cases hp⟩, Nat.le_refl _⟩ (fun i σ H' _ ⟨_, _, _, _, _, _, _, _, _, kp, _⟩ => aO.of (kp.keep _ _ onot' ho5)) ?_ ?_⟩
  ·rintro i x σ H3_ hx ⟨rv, zs, ys, st, x10, x11, x12, rfl, est, kp', hl3_, alz, hrv, hd3, aly, dok, few⟩
   obtain ⟨n, hn, rfl⟩ := ir hx
   have nl := olt n (List.mem_of_getElem? hn)
   have i8 : i < od.length := (List.getElem?_eq_some_iff.mp hn).1
   have t3 := t05.trans (aN.kp kp')
   have es_ : (od.take (i + 1)).foldl (cv ws tt) ((cw ws od ss tt).1, sp, []) = cv ws tt st n := by rw [List.take_add_one, hn, List.foldl_append, est]; rfl
   obtain ⟨wv, hwv⟩ : ∃ wv, xs[n]? = some wv := ⟨_, List.getElem?_eq_getElem (by rw [al.len]; exact nl)⟩
   obtain ⟨w, hw, pw, xa, rfl, hSw, _⟩ := al.at hwv
   have ew : ws.getD n lL = w := aR lL hw
   obtain ⟨zv, hzv⟩ : ∃ zv, zs[n]? = some zv := ⟨_, List.getElem?_eq_getElem (by rw [alz.len, dok.len]; exact nl)⟩
   obtain ⟨r, hr_, hrz⟩ := alz.at hzv
   have er : st.1.getD n (0, 1) = r := aR (0, 1) hr_
   have ar : fq r := dok.lf r (List.mem_of_getElem? hr_)
   obtain ⟨dk1, fw1⟩ := dok.step (ws := ws) (t := tt) nl
   refine ⟨fun σ' H' => H3_ = H' /\ σ' = [some (.ref p), some u, some (.ref q), some (.ref o), some (.ref lf), some (.ref pl), some (.int (tt : Nat)), some rv, some (.ref dl), some (.int (n : Nat)), some (.bl (ii w tt)), x12, none], ?_, ?_⟩
   ·refine ⟨_, rfl, _, rfl, p, _, _, _, rfl, rfl, t3 _ _ hS, aL hwv, pw, _, _, _, rfl, rfl, t3 _ _ hSw, rfl, _, rfl, _, _, rfl, rfl, _, rfl, ?_⟩
    by_cases c : w.1 ≤ tt
    ·refine bQ (by omega) ?_
     refine ⟨_, rfl, _, rfl, p, _, _, _, rfl, rfl, t3 _ _ hS, aL hwv, pw, _, _, _, rfl, rfl, t3 _ _ hSw, rfl, _, _, rfl, rfl, rfl, ?_⟩
     have eW : decide ((tt : Int) ≤ (w.2.1 : Int)) = ii w tt := by
      unfold ii
      rw [decide_eq_true c, Bool.true_and]
      exact decide_eq_decide.mpr Int.ofNat_le
     rw [← eW]
     rfl
    ·refine aV (by omega) ⟨rfl, ?_⟩
     have eW : ii w tt = false := by unfold ii; rw [decide_eq_false c, Bool.false_and]
     rw [eW]
     rfl
   rintro σ' H' ⟨rfl, rfl⟩
   refine ⟨fun σ' H' => H3_ = H' /\ ∃ a : V, RV K H3_ a (fE r st.2.1) /\ σ' = [some (.ref p), some u, some (.ref q), some (.ref o), some (.ref lf), some (.ref pl), some (.int (tt : Nat)), some rv, some (.ref dl), some (.int (n : Nat)), some (.bl (ii w tt)), some a, none], ?_, ?_⟩
   ·have el := vf ar dok.rm
    refine ⟨_, rfl, _, rfl, lf, _, _, _, rfl, rfl, aO.of hl3_, aL hzv, _, rfl, _, rv, r, st.2.1, 50, 50, rfl, hrz, hrv, ar.wf, dok.rm.wf, by decide, _, rfl, ?_⟩
    cases cl : cR r st.2.1 with
    | true =>
     rw [cl, if_pos rfl] at el
     refine bM ⟨_, rfl, _, rfl, lf, _, _, _, rfl, rfl, aO.of hl3_, aL hzv, rfl, _, by rw [← el]; exact hrz, rfl⟩
    | false =>
     rw [cl, if_neg Bool.false_ne_true] at el
     refine bi ⟨_, rfl, rfl, _, by rw [← el]; exact hrv, rfl⟩
   rintro σ' H' ⟨rfl, a, ha, rfl⟩
   have aa := nO ar dok.rm
   generalize ea : fE r st.2.1 = am at ha aa
   have rej : cv ws tt st n = st -> ∀ (H' : Hp), aA H3_ H' -> ∃ (rv' : V) (zs ys : List V) (st : vD) (x10' x11' x12' : Option V), [some (.ref p), some u, some (.ref q), some (.ref o), some (.ref lf), some (.ref pl), some (.int (tt : Nat)), some rv, some (.ref dl), some (.int (n : Nat)), some (.bl (ii w tt)), some a, none] = [some (.ref p), some u, some (.ref q), some (.ref o), some (.ref lf), some (.ref pl), some (.int (tt : Nat)), some rv', some (.ref dl), x10', x11', x12', none] /\ st = (od.take (i + 1)).foldl (cv ws tt) ((cw ws od ss tt).1, sp, []) /\ Kp [dl, lf] H5 H' /\ H' lf = some (.lst zs) /\ cO (RV K H') zs st.1 /\ RV K H' rv' st.2.1 /\ H' dl = some (.lst ys) /\ cO (vA K H') ys st.2.2 /\ uf ws.length st /\ st.2.2.length ≤ i + 1 := fun e0 H' s' => by
    have t' := aN.same (K := K) s'
    exact ⟨rv, zs, ys, st, _, _, _, rfl, (es_.trans e0).symm, kp'.trans (Kp.same s' kp'.ls'), s' _ _ hl3_, alz.mono fun _ _ z => z.mono t', hrv.mono t', s' _ _ hd3, aly.mono fun _ _ z => z.mono t', dok, by omega⟩
   refine ⟨_, rfl, _, rfl, ?_⟩
   cases c : ii w tt with
   | false =>
    refine bi (bi ?_)
    rw [← c]
    refine rej ?_ _ (aA.refl _)
    unfold cv
    rw [if_neg]
    rintro ⟨z, _⟩
    rw [ew, c] at z
    cases z
   | true =>
    refine bM ⟨_, rfl, km, fun pz hz => ?_⟩
    have sz := ap hz (.tup [.int 0, .int 1])
    have rz : RV K (upd H3_ pz (.tup [.int 0, .int 1])) (.ref pz) (0, 1) := RV.of ah
    have rejz := fun e0 => rej e0 _ sz
    generalize upd H3_ pz (.tup [.int 0, .int 1]) = Hz at sz rz rejz ⊢
    have tz := aN.same (K := K) sz
    have kpz := kp'.trans (Kp.same sz kp'.ls')
    refine ⟨dR am, dR (0, 1), (ha.mono tz).deep, rz.deep, rfl, rfl, gI _, _, rfl, ?_⟩
    rw [ix]
    by_cases cz : am = (0, 1)
    ·refine ei (b := !decide (am = (0, 1))) (by rw [decide_eq_true cz]; rfl) ?_
     rw [← c]
     refine rejz ?_
     unfold cv
     rw [if_neg]
     rintro ⟨_, z⟩
     rw [er, ea] at z
     exact z cz
    ·refine fG (b := !decide (am = (0, 1))) (by rw [decide_eq_false cz]; rfl) ?_
     have e1 : cv ws tt st n = (st.1.set n (cI r am), cI st.2.1 am, st.2.2 ++ [(n, am)]) := by
      unfold cv
      rw [if_pos ⟨by rw [ew]; exact c, by rw [er, ea]; exact cz⟩, er, ea]
     have hdz := sz _ _ hd3
     have hlz := sz _ _ hl3_
     refine ⟨_, rfl, .inl ⟨rfl, _, aO.of hdz⟩, _, rfl, _, rfl, km, fun pn hpn => ?_⟩
     have s4 := ap hpn (.tup [.int (n : Nat), a])
     have hp4_ : upd Hz pn (.tup [.int (n : Nat), a]) pn = some (.tup [.int (n : Nat), a]) := ah
     generalize upd Hz pn (.tup [.int (n : Nat), a]) = H4_ at s4 hp4_ ⊢
     have hd4 := s4 _ _ hdz
     have kp4 := kpz.trans (Kp.same s4 kpz.ls')
     refine ⟨dl, ys, _, rfl, rfl, hd4, bh (by rw [aly.len]; omega), ?_⟩
     have kp5 := Kp.up md kp4.ls' (ys ++ [.ref pn])
     have hd5_ : upd H4_ dl (.lst (ys ++ [.ref pn])) dl = some (.lst (ys ++ [.ref pn])) := ah
     have hl5_ : upd H4_ dl (.lst (ys ++ [.ref pn])) lf = some (.lst zs) := by rw [aC (Ne.symm ndf)]; exact s4 _ _ hlz
     generalize upd H4_ dl (.lst (ys ++ [.ref pn])) = H5_ at kp5 hd5_ hl5_ ⊢
     have t35 := (tz.trans (aN.same (K := K) s4)).trans (aN.kp kp5)
     have kq5 := kp4.trans kp5
     obtain ⟨pp, rfl, hpp⟩ := ha
     have hpp5 := t35 _ _ hpp
     have wneg : Wf 50 (-am.1, am.2) := ⟨aa.wf.pos, by show (-am.1).natAbs < _; rw [Int.natAbs_neg]; exact aa.wf.top, aa.wf.bot, mP aa.wf.cop⟩
     refine ⟨_, rfl, _, rfl, lf, _, _, _, rfl, rfl, aO.of hl5_, aL hzv, _, rfl, pp, _, _, _, rfl, rfl, hpp5, rfl, _, rfl, _, rfl, pp, _, _, _, rfl, rfl, hpp5, rfl, km, fun pt ht => ?_⟩
     have sa := ap ht (.tup [.int (-am.1), .int am.2])
     refine ⟨_, .ref pt, r, (-am.1, am.2), 50, 50, rfl, (hrz.mono t35).mono (aN.same sa), RV.of ah, ar.wf, wneg, by decide, fun pm hpm => ?_⟩
     have sb := ap hpm (.tup [.int (bu r (-am.1, am.2)).1, .int (bu r (-am.1, am.2)).2])
     have hmv : RV K (upd (upd H5_ pt (.tup [.int (-am.1), .int am.2])) pm (.tup [.int (bu r (-am.1, am.2)).1, .int (bu r (-am.1, am.2)).2])) (.ref pm) (cI r am) := by rw [← gA]; exact RV.of ah
     have s6 := sa.trans sb
     generalize upd (upd H5_ pt (.tup [.int (-am.1), .int am.2])) pm (.tup [.int (bu r (-am.1, am.2)).1, .int (bu r (-am.1, am.2)).2]) = H6 at s6 hmv ⊢
     have hl6 := s6 _ _ hl5_
     have hd6 := s6 _ _ hd5_
     have kq6 := kq5.trans (Kp.same s6 kq5.ls')
     have t36 := t35.trans (aN.same s6)
     refine ⟨_, rfl, _, rfl, lf, zs, _, n, rfl, rfl, hl6, fQ (by rw [alz.len, dok.len]; exact nl), ?_⟩
     have kp7 := Kp.up ml kq6.ls' (zs.set n (.ref pm))
     have hl7 : upd H6 lf (.lst (zs.set n (.ref pm))) lf = some (.lst (zs.set n (.ref pm))) := ah
     have hd7 : upd H6 lf (.lst (zs.set n (.ref pm))) dl = some (.lst (ys ++ [.ref pn])) := by rw [aC ndf]; exact hd6
     generalize upd H6 lf (.lst (zs.set n (.ref pm))) = H7 at kp7 hl7 hd7 ⊢
     have t67 := aN.kp (K := K) kp7
     have t37 := t36.trans t67
     have kq7 := kq6.trans kp7
     have hpp7 := t37 _ _ hpp
     refine ⟨_, rfl, _, rfl, pp, _, _, _, rfl, rfl, hpp7, rfl, _, rfl, _, rfl, pp, _, _, _, rfl, rfl, hpp7, rfl, km, fun pt2 ht2 => ?_⟩
     have sc := ap ht2 (.tup [.int (-am.1), .int am.2])
     refine ⟨rv, .ref pt2, st.2.1, (-am.1, am.2), 50, 50, rfl, (hrv.mono t37).mono (aN.same sc), RV.of ah, dok.rm.wf, wneg, by decide, fun pm2 hpm2 => ?_⟩
     have sd := ap hpm2 (.tup [.int (bu st.2.1 (-am.1, am.2)).1, .int (bu st.2.1 (-am.1, am.2)).2])
     have hrv2 : RV K (upd (upd H7 pt2 (.tup [.int (-am.1), .int am.2])) pm2 (.tup [.int (bu st.2.1 (-am.1, am.2)).1, .int (bu st.2.1 (-am.1, am.2)).2])) (.ref pm2) (cI st.2.1 am) := by rw [← gA]; exact RV.of ah
     have s8 := sc.trans sd
     generalize upd (upd H7 pt2 (.tup [.int (-am.1), .int am.2])) pm2 (.tup [.int (bu st.2.1 (-am.1, am.2)).1, .int (bu st.2.1 (-am.1, am.2)).2]) = H8 at s8 hrv2 ⊢
     have t78 := aN.same (K := K) s8
     have t38 := t37.trans t78
     have est' : cv ws tt st n = (od.take (i + 1)).foldl (cv ws tt) ((cw ws od ss tt).1, sp, []) := es_.symm
     rw [e1] at est' dk1 fw1
     exact ⟨.ref pm2, _, _, _, _, _, _, rfl, est', kq7.trans (Kp.same s8 kq7.ls'), s8 _ _ hl7, cO.setI (hmv.mono (t67.trans t78)) n (alz.mono fun _ _ z => z.mono t38), hrv2, s8 _ _ hd7, cO.snoc ⟨pn, .ref pp, rfl, (((aN.kp kp5).trans (aN.same s6)).trans (t67.trans t78)) _ _ (bt.of hp4_), ⟨pp, rfl, t38 _ _ hpp⟩⟩ (aly.mono fun _ _ z => z.mono t38), dk1, by omega⟩
  ·rintro σ H6 ⟨rv, zs, ys, st, x10, x11, x12, rfl, est, kp', hl6, alz, hrv, hd6, aly, dok, few⟩
   rw [show (aF od).length = od.length from List.length_map _, List.take_length] at est
   have hp6 := kp'.keep _ _ pnot' hp5
   refine ⟨_, rfl, .inl ⟨rfl, _, aO.of hp6⟩, _, rfl, dl, _, rfl, .inl ⟨aO.of hd6, fun pt hpt => ?_⟩⟩
   have s7 := ap hpt (.tup ys)
   have hpt7 : upd H6 pt (.tup ys) pt = some (.tup ys) := ah
   generalize upd H6 pt (.tup ys) = H7 at s7 hpt7 ⊢
   have hp7 := s7 _ _ hp6
   have t67 := aN.same (K := K) s7
   have t47 := (t45.trans (aN.kp kp')).trans t67
   have e : gl ws od tt (cw ws od ss tt).1 sp = st := est.symm
   refine ⟨pl, ys4, _, rfl, rfl, hp7, bh (by rw [aly4.len, pl_]; omega), ?_⟩
   have kq7 : Kp [pl, lf] H4 H7 := ⟨fun b o' nb q' => s7 _ _ (kp'.keep b o' (fun m => by
     rcases List.mem_cons.mp m with z | z
     ·rw [z, hdl] at q'; cases q'
     ·exact nb (List.mem_cons_of_mem _ (by rw [List.mem_singleton.mp z]; exact List.mem_cons_self))) (s5 _ _ q')), kp.ls', fun r m => by
    rcases List.mem_cons.mp m with z | z
    ·exact ⟨_, by rw [z]; exact hp7⟩
    ·exact ⟨_, by rw [List.mem_singleton.mp z]; exact s7 _ _ hl6⟩⟩
   have kr7 := kp.trans kq7
   have kp8 := Kp.up (r := pl) List.mem_cons_self kr7.ls' (ys4 ++ [.ref pt])
   have t78 := aN.kp (K := K) kp8
   refine ⟨zs, _, _, _, _, _, _, _, rfl, kr7.trans kp8, by rw [aC (Ne.symm npf)]; exact s7 _ _ hl6, ?_, ah, ?_⟩
   ·show cO _ zs (gl ws od tt (cw ws od ss tt).1 (ss.getD tt (0, 1))).1
    rw [esp, e]
    exact alz.mono fun _ _ z => (z.mono t67).mono t78
   ·show cO _ _ ((cw ws od ss tt).2 ++ [(gl ws od tt (cw ws od ss tt).1 (ss.getD tt (0, 1))).2.2])
    rw [esp, e]
    exact cO.snoc ⟨pt, ys, rfl, t78 _ _ (bt.of hpt7), aly.mono fun _ _ z => (z.mono t67).mono t78⟩ (aly4.mono fun _ _ z => (z.mono t47).mono t78)
 rintro σ H4 ⟨zs, ys, x7, x8, x9, x10, x11, x12, rfl, kp, hl4, alz, hp4, aly⟩
 obtain ⟨po, pl_⟩ := pk 24
 have s04 := sk H4 kp
 have t04 := aN.same (K := K) s04
 unfold wP at k
 rw [ed] at k
 generalize cw ws od ss 24 = pm at k alz aly po pl_
 have lz : zs.length = ws.length := by rw [alz.len, po.len]
 have hS4 := t04 _ _ hS
 refine ⟨_, rfl, p, _, rfl, .inr hS4, _, rfl, by omega, by omega, fun D hD => bz fb (fun i => decide (pm.1.getD i (0, 1) ≠ (0, 1))) (fun i => V.int (i : Nat)) hD (by omega) (fun i x H' hi sm hx Rk E kR kE => ?_) fun H5 s5 h5 => ?_⟩
 ·subst hx
  rw [Int.zero_add]
  have il : i < zs.length := by omega
  obtain ⟨zv, hzv⟩ : ∃ zv, zs[i]? = some zv := ⟨_, List.getElem?_eq_getElem il⟩
  obtain ⟨r, hr_, hrz⟩ := alz.at hzv
  rw [aR (0, 1) hr_] at kR kE
  refine ⟨eJ.set rfl, _, rfl, _, rfl, lf, _, _, _, rfl, rfl, aO.of (sm _ _ hl4), aL hzv, km, fun pz hz => ?_⟩
  have sz := ap hz (.tup [.int 0, .int 1])
  have rz : RV K (upd H' pz (.tup [.int 0, .int 1])) (.ref pz) (0, 1) := RV.of ah
  refine ⟨dR r, dR (0, 1), ((hrz.mono (aN.same sm)).mono (aN.same sz)).deep, rz.deep, rfl, rfl, gI _, _, rfl, ?_⟩
  rw [ix]
  by_cases cz : r = (0, 1)
  ·exact ei (b := !decide (r = (0, 1))) (by rw [decide_eq_true cz]; rfl) (kE (decide_eq_false fun z => z cz) _ sz)
  ·exact fG (b := !decide (r = (0, 1))) (by rw [decide_eq_false cz]; rfl) ⟨_, rfl, kR (decide_eq_true cz) _ sz⟩
 have lp : ((xs.length : Int)).toNat = pm.1.length := by rw [po.len]; omega
 rw [lp] at h5
 have el : fm pm.1 = ((List.range pm.1.length).filter fun i => decide (pm.1.getD i (0, 1) ≠ (0, 1))).head? := by
  unfold fm
  rw [List.head?_filter]
 generalize ((List.range pm.1.length).filter fun i => decide (pm.1.getD i (0, 1) ≠ (0, 1))) = lt_ at h5 el
 rw [el] at k
 refine ⟨_, rfl, D, _, rfl, .inl (aO.of h5), _, _, rfl, rfl, _, rfl, ?_⟩
 cases lt_ with
 | nil =>
  refine aV (by show ¬ ((0 : Int) < ((0 : Nat) : Int)); omega) ?_
  refine ⟨_, rfl, pl, _, rfl, .inl ⟨aO.of (s5 _ _ hp4), fun pt hpt => ?_⟩⟩
  have s6 := ap hpt (.tup ys)
  have t46 := (aN.same (K := K) s5).trans (aN.same s6)
  exact k (.ref pt) _ ((s04.trans s5).trans s6) (.tup (bt.of ah) ((aly.mono fun _ _ z => z.mono t46).deep fun _ _ z => z.deep))
 | cons i r =>
  refine bQ (by rw [List.length_map, List.length_cons]; omega) ?_
  exact ⟨_, rfl, D, _, _, _, rfl, rfl, aO.of h5, aL (j := 0) (v := V.int (i : Nat)) rfl, k _ _ (s04.trans s5) (.int _)⟩
theorem xR (T : eQ K mg t) : kj P w K mg base dI 1 t.a_Q16 t.d_Q16 ["_law_e"] (kD K t.c_Q39) := by
 refine T.F_Q16.okM rQ (fun vs H Q E h => ?_) (fun cdv A outer s H vs Q E hr h => ?_)
 ·obtain ⟨_, _, _, rfl, _⟩ := h; rfl
 obtain ⟨x, dd, fs, rfl, ex, ed, k⟩ := h
 refine dN.ok (ag (cD 1 rQ.nd (bY (ad (aj (gK (K := K) rfl) (by rfl) T.z_isinstance boot_isinstance (ad (qv 0) (ad (dg (v := .ref t.c_Q39) rfl T.m_Q39 rfl) af ae) ae)) (ad (aj (gK (K := K) rfl) (by rfl) T.z_isinstance boot_isinstance (ad (qv 0) (ad (dg (v := .ref t.c_Q18) rfl T.m_Q18 rfl) af ae) ae)) (ad (aj (gK (K := K) rfl) (by rfl) T.z_isinstance boot_isinstance (ad (qv 0) (ad (aB (v := V.ty "ValueError") rfl T.z_ValueError PyProof.Rows.Boot.ValueError rfl) af ae) ae)) af aG) aG) aG)))
   (ao (az (aS sV (qv 1) (bY (ad (aj (gK (K := K) rfl) (by rfl) T.z_isinstance boot_isinstance (ad (qv 0) (ad (bI (ad (dg (v := .ref t.c_Q33) rfl T.m_Q33 rfl) (ad (dg (v := .ref t.c_Q41) rfl T.m_Q41 rfl) (ad (dg (v := .ref t.c_Q40) rfl T.m_Q40 rfl) (ad (dg (v := .ref t.c_Q34) rfl T.m_Q34 rfl) (ad (dg (v := .ref t.c_Q35) rfl T.m_Q35 rfl) (ad (dg (v := .ref t.c_Q36) rfl T.m_Q36 rfl) (ad (dg (v := .ref t.c_Q19) rfl T.m_Q19 rfl) af ae) ae) ae) ae) ae) ae) ae)) af cC) ae)) af aG)))))) ?_
 try dsimp only [Cx.nox, Cx.wish, bO]
 have cl := T.X_Q39.cl
 have gx := T.g_Q39
 refine ⟨_, rfl, x, _, dd, _, _, _, true, rfl, ex, ed, cl, gx, .inr (.inl ⟨_, rfl, T.y_self⟩), _, rfl, x, _, dd, _, _, _, true, rfl, ex, ed, cl, gx, .inr (.inl ⟨_, rfl, T.y_base⟩), _, rfl, x, _, dd, _, _, _, true, rfl, ex, ed, cl, gx, .inl ⟨_, rfl, T.y_val⟩, qQ, fun l1 h1 => ?_⟩
 have s1 := ap h1 (.lst [.bl true, .bl true, .bl true])
 have hl1 : upd H l1 (.lst [.bl true, .bl true, .bl true]) l1 = some (.lst [.bl true, .bl true, .bl true]) := ah
 generalize upd H l1 (.lst [.bl true, .bl true, .bl true]) = H1 at s1 hl1 ⊢
 refine ⟨_, rfl, _, rfl, CH, fun p2 g2 => ?_⟩
 have s2 := ap g2 (.tup [.ref t.c_Q33, .ref t.c_Q41, .ref t.c_Q40, .ref t.c_Q34, .ref t.c_Q35, .ref t.c_Q36, .ref t.c_Q19])
 have s12 := s1.trans s2
 refine ⟨x, _, dd, _, _, _, false, rfl, s12 _ _ ex, s12 _ _ ed, cl, gx, .inr (.inr ⟨p2, [t.c_Q33, t.c_Q41, t.c_Q40, t.c_Q34, t.c_Q35, t.c_Q36, t.c_Q19], rfl, ah, T.y_not⟩), AB, fun l3 h3 => ?_⟩
 have s3 := ap h3 (.lst [.bl false])
 refine ⟨l1, l3, _, _, rfl, rfl, s3 _ _ (s2 _ _ hl1), ah, yQ, fun l4 h4 => ?_⟩
 exact k l4 _ ((s12.trans s3).trans (ap h4 _)) ah
theorem Ag (T : eQ K mg t) : bB P w K mg base dI 6 t.a_Q1 t.d_Q1 ["_law_tape_here", "_law_works_here"] (f8 K) := by
 refine T.F_Q1.ok iN (fun vs H Q E h => ?_) (fun cdv A outer s H vs Q E hr h => ?_)
 ·obtain ⟨_, _, _, _, rfl, _⟩ := h; rfl
 obtain ⟨t₁, s₁, v, ws, rfl, tp, wv, w8, ok, k⟩ := h
 refine dN.ok (ag (cD 2 iN.nd (bK lE (by rfl) T.z_list boot_list (ad (dt (Aa T) hr T.m_Q7 T.F_Q7.kp T.b_Q7 (ad (qv 1) af ae)) af aG)))
   (ag (cD 3 iN.nd (dt (cH T) hr T.m_Q23 T.F_Q23.kp T.b_Q23 (ad (qv 0) (ad ai af aE) ae)))
   (ag (cD 4 iN.nd (dt (cH T) hr T.m_Q23 T.F_Q23.kp T.b_Q23 (ad (qv 0) (ad ai af aE) ae)))
   (ag (cD 5 iN.nd (dt (iU T) hr T.m_Q24 T.F_Q24.kp T.b_Q24 (ad (dt (cH T) hr T.m_Q23 T.F_Q23.kp T.b_Q23 (ad (qv 0) (ad ai af aE) ae)) (ad (aS dj ai (dt (cH T) hr T.m_Q23 T.F_Q23.kp T.b_Q23 (ad (qv 0) (ad ai af aE) ae))) af bP) aG)))
   (ag (aU (ay bF (qv 3) ai (ax _)) (ao (ef (dt (iT T) hr T.m_Q29 T.F_Q29.kp T.b_Q29 (ad (cK bo (qv 2) (qv 4)) (ad (qv 5) af ae) aP)) (fe (qv 2) (qv 4) dq))) aD)
   (ag (aU (ay bF (qv 3) ai (ax _)) (ao (ef (qv 5) (fe (qv 2) (qv 4) dq))) aD)
   (ag (aU (ay bF (qv 3) ai (ax _)) (ao (d5 (i := 2) (N' := ["_law_speed", "_law_more"]) (src := [none, some 5]) iN.nd rfl (by first | exact Or.inl rfl | exact Or.inr rfl) rfl (by exact (bG (qv 2))) (fun _ _ _ _ _ => (by exact (by exact aH (i := 0) (by show List.Nodup (["_law_speed", "_law_more"] : List Str); decide +kernel) (by exact rfl) (by first | exact Or.inl rfl | exact Or.inr rfl)))) (fun _ _ _ _ _ => cA) (fun _ _ _ _ _ => (by exact (by exact (dM (iT T) (by exact hr.mono (by decide)) (by exact rfl) T.m_Q29 T.F_Q29.kp T.b_Q29 (by exact .nil) (by exact fY) (ad (by exact (qv 0)) (ad (by exact (qv 1)) af ae) ae))))) (by exact ⟨rfl, rfl, rfl, rfl, trivial⟩) rfl (by decide +kernel) rfl (by decide +kernel) (by exact aY rfl ⟨rfl, trivial⟩))) aD)
   (ag (aU (ay bF (qv 3) ai (ax _)) (ao (d5 (i := 2) (N' := ["_law_speed", "_law_tape_here"]) (src := [none, some 0]) iN.nd rfl (by first | exact Or.inl rfl | exact Or.inr rfl) rfl (by exact (bG (qv 2))) (fun _ _ _ _ _ => (by exact (by exact aH (i := 0) (by show List.Nodup (["_law_speed", "_law_tape_here"] : List Str); decide +kernel) (by exact rfl) (by first | exact Or.inl rfl | exact Or.inr rfl)))) (fun _ _ _ _ _ => cA) (fun _ _ _ _ _ => (by exact (by exact (dM (iU T) (by exact hr.mono (by decide)) (by exact rfl) T.m_Q24 T.F_Q24.kp T.b_Q24 (by exact .nil) (by exact fY) (ad (by exact (dM (cH T) (by exact hr.mono (by decide)) (by exact rfl) T.m_Q23 T.F_Q23.kp T.b_Q23 (by exact .nil) (by exact fY) (ad (by exact (qv 1)) (ad ai af aE) ae))) (ad (by exact (aS dj ai (by exact (dM (cH T) (by exact hr.mono (by decide)) (by exact rfl) T.m_Q23 T.F_Q23.kp T.b_Q23 (by exact .nil) (by exact fY) (ad (by exact (qv 1)) (ad ai af aE) ae))))) af bP) aG))))) (by exact ⟨rfl, rfl, rfl, rfl, trivial⟩) rfl (by decide +kernel) rfl (by decide +kernel) (by exact aY rfl ⟨rfl, trivial⟩))) aD)
   (ao (az (bK bw (by rfl) T.z_tuple boot_tuple (ad (qv 2) af ae)))))))))))) ?_
 try dsimp only [Cx.nox, Cx.wish, bO]
 obtain ⟨y0, e0⟩ := tp.lst
 refine ⟨_, rfl, v, ws, rfl, wv, w8, ok, fun l0 xs0 ss H1 s1 hl0 al0 l24 oks => ?_⟩
 have lx0 : xs0.length = 24 := by rw [al0.len, l24]
 refine ⟨l0, _, rfl, .inl (aO.of hl0), fun l hl => ?_⟩
 have s2 := ap hl (.lst xs0)
 have hl2 : upd H1 l (.lst xs0) l = some (.lst xs0) := ah
 have lN : H l = none := by
  cases e : H l with
  | none => rfl
  | some o => rw [s1 _ _ e] at hl; cases hl
 have nlt : l ≠ t₁ := fun z => by subst z; rw [e0] at lN; cases lN
 have nls := tp.off lN
 have s02 := s1.trans s2
 have T2 := tp.same s02
 have al2 := al0.mono fun _ _ z => z.mono (aN.same s2)
 generalize upd H1 l (.lst xs0) = H2 at s02 hl2 T2 al2 ⊢
 have S2 := aT.same s02 tp.lst
 obtain ⟨y2, e2⟩ := T2.lst
 refine ⟨_, rfl, t₁, s₁, 5, rfl, T2, by omega, by omega, fun r1 z1 a1 b1 T3 => ?_⟩
 have S23 : aT t₁ H2 _ := aT.up (ys := z1) e2
 generalize upd H2 t₁ (.lst z1) = H3 at T3 S23 ⊢
 obtain ⟨y3, e3⟩ := T3.lst
 refine ⟨_, rfl, t₁, s₁, 24, rfl, T3, by omega, by omega, fun r2 z2 a2 b2 T4 => ?_⟩
 have S24 := S23.trans (aT.up (ys := z2) e3)
 generalize upd H3 t₁ (.lst z2) = H4 at T4 S24 ⊢
 obtain ⟨y4, e4⟩ := T4.lst
 refine ⟨_, rfl, t₁, s₁, 9, rfl, T4, by omega, by omega, fun r3 z3 a3 b3 T5 => ?_⟩
 have S25 := S24.trans (aT.up (ys := z3) e4)
 generalize upd H4 t₁ (.lst z3) = H5 at T5 S25 ⊢
 obtain ⟨y5, e5⟩ := T5.lst
 refine ⟨_, rfl, t₁, s₁, 4, rfl, T5, by omega, by omega, fun r4 z4 a4 b4 T6 => ?_⟩
 have S26 := S25.trans (aT.up (ys := z4) e5)
 generalize upd H5 t₁ (.lst z4) = H6 at T6 S26 ⊢
 have P4 : ∀ b : Int, 0 < b -> b ≤ 4 -> b.natAbs < 2 ^ 4000 := fun b h1 h2 => Nat.lt_of_lt_of_le (show b.natAbs < 2 ^ 3 by omega) (Nat.pow_le_pow_right (by decide) (by decide))
 refine ⟨_, _, rfl, rfl, r3, 1 + r4, rfl, by omega, P4 _ (by omega) (by omega), fun pm hpm => ?_⟩
 have mr_ : n5 8 (cy r3 (1 + r4)) := oV a3 (by omega) (by omega) (by omega)
 have s7 := ap hpm (.tup [.int (cy r3 (1 + r4)).1, .int (cy r3 (1 + r4)).2])
 have rm : RV K (upd H6 pm (.tup [.int (cy r3 (1 + r4)).1, .int (cy r3 (1 + r4)).2])) (.ref pm) (cy r3 (1 + r4)) := RV.of ah
 generalize upd H6 pm (.tup [.int (cy r3 (1 + r4)).1, .int (cy r3 (1 + r4)).2]) = H7 at s7 rm ⊢
 generalize cy r3 (1 + r4) = mr at mr_ rm
 have T7 := T6.same s7
 have S27 := S26.trans (aT.same s7 T6.lst)
 have S07 := S2.trans S27
 have t27 := aN.step (K := K) S27
 have hl7 := S27.keep _ _ nlt hl2
 have al7 := al2.mono fun _ _ z => z.mono t27
 obtain ⟨at_, rfl⟩ := Int.eq_ofNat_of_zero_le a2
 have atl : at_ < 24 := by omega
 have fin : ∀ (l : Addr) (xs : List V) (ss : List R) (HH : Hp), HH l = some (.lst xs) -> cO (RV K HH) xs ss -> ss.length = 24 -> (∀ r ∈ ss, fq r) -> aT t₁ H HH -> bR K HH t₁ s₁ -> ∀ p, HH p = none -> Q (.ref p) (upd HH p (.tup xs)) := fun l xs ss HH hl al h24 okr S TT p hp => by
  have s := ap hp (.tup xs)
  exact k (.ref p) ss _ (S.trans (aT.same s TT.lst)) (TT.same s) ⟨p, xs, rfl, bt.of ah, al.mono fun _ _ z => z.mono (aN.same s)⟩ h24 okr
 obtain ⟨xv, hxv⟩ : ∃ xv, xs0[at_]? = some xv := ⟨_, List.getElem?_eq_getElem (by omega)⟩
 obtain ⟨r, hr_, hrz⟩ := al7.at hxv
 have ar := oks r (List.mem_of_getElem? hr_)
 have upS : ∀ {HH : Hp} {ys : List V} {zs : List V}, aT t₁ H HH -> HH l = some (.lst ys) -> aT t₁ H (upd HH l (.lst zs)) := fun {HH ys zs} S hh => ⟨fun b o nb e => by rw [aC (aQ e lN)]; exact S.keep b o nb e, S.tp, by rw [aC nlt.symm]; exact S.tp'⟩
 rcases (show r1 = 0 ∨ r1 = 1 ∨ r1 = 2 ∨ r1 = 3 ∨ r1 = 4 by omega) with rfl | rfl | rfl | rfl | rfl
 ·refine ⟨_, rfl, rfl, _, rfl, aV (fun z => by injection z with z; omega) ⟨_, rfl, rfl, _, rfl, aV (fun z => by injection z with z; omega) ⟨_, rfl, rfl, _, rfl, aV (fun z => by injection z with z; omega) ⟨_, rfl, rfl, _, rfl, aV (fun z => by injection z with z; omega) ?_⟩⟩⟩⟩
  exact ⟨_, rfl, l, _, rfl, .inl ⟨aO.of hl7, fin l _ ss H7 hl7 al7 l24 (fun r hr => (oks r hr).am (by decide)) S07 T7⟩⟩
 ·refine ⟨_, rfl, rfl, _, rfl, bQ rfl ?_⟩
  refine ⟨_, rfl, _, rfl, l, _, _, _, rfl, rfl, aO.of hl7, aL hxv, _, rfl, xv, .ref pm, r, mr, 50, 50, rfl, hrz, rm, (ar.am (by decide)).wf, (mr_.am (by decide)).wf, by decide, fun pq hpq => ?_⟩
  have s8 := ap hpq (.tup [.int (bu r mr).1, .int (bu r mr).2])
  have rq : RV K (upd H7 pq (.tup [.int (bu r mr).1, .int (bu r mr).2])) (.ref pq) (bu r mr) := RV.of ah
  generalize upd H7 pq (.tup [.int (bu r mr).1, .int (bu r mr).2]) = H8 at s8 rq ⊢
  have hl8 := s8 _ _ hl7
  refine ⟨_, rfl, _, rfl, l, xs0, _, at_, rfl, rfl, hl8, fQ (by omega), ?_⟩
  have t9 := aN.up (K := K) hl8 (xs0.set at_ (.ref pq))
  have S8 := S07.trans (aT.same s8 T7.lst)
  have h9 := fin l (xs0.set at_ (.ref pq)) (ss.set at_ (bu r mr)) _ ah (cO.setI (rq.mono t9) at_ (al7.mono fun _ _ z => (z.mono (aN.same s8)).mono t9)) (by rw [List.length_set]; exact l24) (fun q hq => by
   rcases List.mem_or_eq_of_mem_set hq with z | z
   ·exact (oks q z).am (by decide)
   ·rw [z]; exact (ar.plus mr_).am (by decide)) (upS S8 hl8) ((T7.same s8).upl nlt nls _)
  refine ⟨_, rfl, rfl, _, rfl, aV (fun z => by injection z with z; omega) ⟨_, rfl, rfl, _, rfl, aV (fun z => by injection z with z; omega) ⟨_, rfl, rfl, _, rfl, aV (fun z => by injection z with z; omega) ?_⟩⟩⟩
  exact ⟨_, rfl, l, _, rfl, .inl ⟨aO.of ah, h9⟩⟩
 ·refine ⟨_, rfl, rfl, _, rfl, aV (fun z => by injection z with z; omega) ⟨_, rfl, rfl, _, rfl, bQ rfl ?_⟩⟩
  refine ⟨_, rfl, _, rfl, _, rfl, l, xs0, _, at_, rfl, rfl, hl7, fQ (by omega), ?_⟩
  have t9 := aN.up (K := K) hl7 (xs0.set at_ (.ref pm))
  have h9 := fin l (xs0.set at_ (.ref pm)) (ss.set at_ mr) _ ah (cO.setI (rm.mono t9) at_ (al7.mono fun _ _ z => z.mono t9)) (by rw [List.length_set]; exact l24) (fun q hq => by
   rcases List.mem_or_eq_of_mem_set hq with z | z
   ·exact (oks q z).am (by decide)
   ·rw [z]; exact mr_.am (by decide)) (upS S07 hl7) (T7.upl nlt nls _)
  refine ⟨_, rfl, rfl, _, rfl, aV (fun z => by injection z with z; omega) ⟨_, rfl, rfl, _, rfl, aV (fun z => by injection z with z; omega) ?_⟩⟩
  exact ⟨_, rfl, l, _, rfl, .inl ⟨aO.of ah, h9⟩⟩
 ·refine ⟨_, rfl, rfl, _, rfl, aV (fun z => by injection z with z; omega) ⟨_, rfl, rfl, _, rfl, aV (fun z => by injection z with z; omega) ⟨_, rfl, rfl, _, rfl, bQ rfl ?_⟩⟩⟩
  refine ⟨_, rfl, l, rfl, ⟨_, aO.of hl7⟩, fun D hD => qH (K := K) (P := RV K) (ds := ss) (f := fun r => bu r mr) (fun _ _ _ _ t z => z.mono t) hD (aO.of hl7) (by rw [lx0, l24]) (by omega) (fun i x d H' hx hd sm Rk E kR => ?_) fun H8 ys s8 hD8 al8 => ?_⟩
  ·obtain ⟨d', hd', hz⟩ := al7.at hx
   rw [hd] at hd'
   cases hd'
   have t' := aN.same (K := K) sm
   exact ⟨eJ.set rfl, _, rfl, _, rfl, x, .ref pm, d, mr, 50, 50, rfl, hz.mono t', rm.mono t', ((oks d (List.mem_of_getElem? hd)).am (by decide)).wf, (mr_.am (by decide)).wf, by decide, fun p hp => kR _ _ (ap hp _) (RV.of ah)⟩
  refine ⟨_, rfl, rfl, _, rfl, aV (fun z => by injection z with z; omega) ?_⟩
  refine ⟨_, rfl, D, _, rfl, .inl ⟨aO.of hD8, fin D ys _ H8 hD8 al8 (by rw [List.length_map]; exact l24) (fun r hr => ?_) (S07.trans (aT.same s8 T7.lst)) (T7.same s8)⟩⟩
  obtain ⟨d, hd, rfl⟩ := List.mem_map.mp hr
  exact ((oks d hd).plus mr_).am (by decide)
 ·refine ⟨_, rfl, rfl, _, rfl, aV (fun z => by injection z with z; omega) ⟨_, rfl, rfl, _, rfl, aV (fun z => by injection z with z; omega) ⟨_, rfl, rfl, _, rfl, aV (fun z => by injection z with z; omega) ⟨_, rfl, rfl, _, rfl, bQ rfl ?_⟩⟩⟩⟩
  refine ⟨_, rfl, l, rfl, ⟨_, aO.of hl7⟩, fun D hD => ?_⟩
  obtain ⟨y7, e7⟩ := T7.lst
  have nDt : D ≠ t₁ := fun z => by subst z; rw [e7] at hD; cases hD
  have nDl : D ≠ l := fun z => by subst z; rw [hl7] at hD; cases hD
  have nDs := T7.off hD
  have s8 := ap hD (.lst [])
  have S08 := S07.trans (aT.same s8 T7.lst)
  have DN : ∀ b o, b ≠ t₁ -> H b = some o -> b ≠ D := fun b o nb e z => by subst z; rw [S07.keep b o nb e] at hD; cases hD
  refine mS (J := uc K l) (n := 24) (fun i ys H' => aT t₁ H H' /\ bR K H' t₁ s₁ /\ H' D = some (.lst ys) /\ H' l = some (.lst xs0) /\ ∃ ds : List R, cO (RV K H') ys ds /\ ds.length = i /\ ∀ d ∈ ds, fq d) ⟨S08, T7.same s8, ah, s8 _ _ hl7, [], .nil, rfl, fun d hd => by cases hd⟩ (fun i ys H' hi ⟨_, _, _, hh, _⟩ => ⟨xs0, _, aO.of hh, List.getElem?_eq_getElem (by omega)⟩) (fun ys HC ⟨SC, TC, hDC, hlC, ds, alC, lC, okC⟩ => ⟨⟨xs0, aO.of hlC, by omega⟩, ?_⟩) ?_
  ·exact ⟨_, rfl, D, _, rfl, .inl ⟨aO.of hDC, fin D ys ds HC hDC alC lC okC SC TC⟩⟩
  ·rintro i ys H0_ x H' hi ⟨SC, TC, hDC, hlC, ds, alC, lC, okC⟩ ⟨eH, _⟩ Rk E kR kE
   subst eH
   obtain ⟨ya, ea⟩ := TC.lst
   refine ⟨eJ.set rfl, _, rfl, t₁, s₁, 20, rfl, TC, by omega, by omega, fun ra za aa ba TA => ?_⟩
   have SA : aT t₁ H' _ := aT.up (ys := za) ea
   generalize upd H' t₁ (.lst za) = HA at TA SA ⊢
   obtain ⟨yb, eb⟩ := TA.lst
   refine ⟨_, rfl, t₁, s₁, 4, rfl, TA, by omega, by omega, fun rb zb ab bb TB => ?_⟩
   have SB := SA.trans (aT.up (ys := zb) eb)
   generalize upd HA t₁ (.lst zb) = HB at TB SB ⊢
   refine ⟨_, _, rfl, rfl, ra, 1 + rb, rfl, by omega, P4 _ (by omega) (by omega), fun pn hpn => ?_⟩
   have nr : n5 20 (cy ra (1 + rb)) := oV aa (by omega) (by omega) (by omega)
   have s9 := ap hpn (.tup [.int (cy ra (1 + rb)).1, .int (cy ra (1 + rb)).2])
   have rn : RV K (upd HB pn (.tup [.int (cy ra (1 + rb)).1, .int (cy ra (1 + rb)).2])) (.ref pn) (cy ra (1 + rb)) := RV.of ah
   generalize upd HB pn (.tup [.int (cy ra (1 + rb)).1, .int (cy ra (1 + rb)).2]) = H9 at s9 rn ⊢
   have S9 := SB.trans (aT.same s9 TB.lst)
   have T9 := TB.same s9
   have hD9 := S9.keep _ _ nDt hDC
   have hl9 := S9.keep _ _ nlt hlC
   have t9 := aN.step (K := K) S9
   have tu := aN.up (K := K) hD9 (ys ++ [.ref pn])
   have ly : ys.length = i := by rw [alC.len, lC]
   have S0 := SC.trans S9
   refine kR _ _ hD9 (bh (by omega)) ⟨⟨fun b o nb e => by rw [aC (DN b o nb e)]; exact S0.keep b o nb e, S0.tp, by rw [aC nDt.symm]; exact S0.tp'⟩, T9.upl nDt nDs _, ah, by rw [aC nDl.symm]; exact hl9, ds ++ [cy ra (1 + rb)], cO.snoc (rn.mono tu) (alC.mono fun _ _ z => (z.mono t9).mono tu), by rw [List.length_append, lC]; rfl, fun d hd => ?_⟩
   rcases List.mem_append.mp hd with z | z
   ·exact okC d z
   ·rw [List.mem_singleton.mp z]; exact nr.am (by decide)
theorem xD (T : eQ K mg t) : bB P w K mg base dI 2 t.a_Q39 t.d_Q39 ["self", "work"] (pN K t.c_Q39) := by
 refine T.F_Q39.ok wA (fun vs H Q E h => ?_) (fun cdv A outer s H vs Q E hr h => ?_)
 ·obtain ⟨_, _, rfl, _⟩ := h; rfl
 obtain ⟨a, n, rfl, ha, k⟩ := h
 refine dN.ok (ao (uz rfl (qv 0) (dt (xF T) hr T.m_Q37 T.F_Q37.kp T.b_Q37 (ad (qv 1) af ae)) rfl)) ?_
 try dsimp only [Cx.nox, Cx.wish, bO]
 exact ⟨_, rfl, n, rfl, _, rfl, a, _, _, rfl, T.X_Q39.cl, T.n_Q39_work, .inl ⟨ha, fun d hd nd => k d hd nd⟩⟩
theorem xC (T : eQ K mg t) : bB P w K mg base (AA P w) 5 t.a_Q43 t.d_Q43 ["works", "leans", "speeds"] (rM K t.c_Q39) := by
 refine B.Fun.okD T.F_Q43 f9 (fun vs H Q E h => ?_) (fun cdv A outer s H vs Q E hr h => ?_)
 ·obtain ⟨_, _, _, _, _, _, rfl, _⟩ := h; rfl
 obtain ⟨v, u, s_, ws, es, ss, rfl, ak, ⟨q, qs, rfl, hq, alq⟩, l24, oks, k, ke⟩ := h
 refine dN.ok (ag (cD 3 f9.nd (dt (xO T) hr T.m_Q21 T.F_Q21.kp T.b_Q21 (ad (qv 0) (ad (qv 1) af ae) ae)))
   (ag (d5 (i := 4) (N' := ["work"]) (src := [none]) f9.nd rfl (by first | exact Or.inl rfl | exact Or.inr rfl) rfl (by exact (fc (qv 0))) (fun _ _ _ _ _ => (by exact (by exact aH (i := 0) (by show List.Nodup (["work"] : List Str); decide +kernel) (by exact rfl) (by first | exact Or.inl rfl | exact Or.inr rfl)))) (fun _ _ _ _ _ => cA) (fun _ _ _ _ _ => (by exact (by exact (bj (aX (K := K) (by exact rfl)) (by exact (qv 0)) ai (by exact fun _ _ => rfl))))) (by exact trivial) rfl (by decide +kernel) rfl (by decide +kernel) (by exact aY rfl trivial))
   (ag (cD 5 f9.nd (bY af))
   (ag (cP PassesOwn.leaving rfl (bD rfl T.z_range (ad (dg (v := .int (24)) rfl T.m_TURNS ⟨_, rfl⟩) af ae)) (aH (i := 6) f9.nd rfl (by first | exact Or.inl rfl | exact Or.inr rfl))
   (ao (cX (fz PySem.F.plainAttrs_list PySem.F.slot_list_append PySem.F.type_list_append b8 (qv 5) (ad (dt (z8 T) hr T.m_Q9 T.F_Q9.kp T.b_Q9 (ad (qv 0) (ad (qv 3) (ad (qv 4) (ad (qv 6) (ad (cK aM (qv 2) (qv 6)) af aP) ae) ae) ae) ae)) af aG)))))
   (ag (cP PassesOwn.leaving rfl (se rfl T.z_enumerate (ad (qv 4) af ae)) (nE rfl (cZ (aH (i := 7) f9.nd rfl (by first | exact Or.inl rfl | exact Or.inr rfl)) (cZ (aH (i := 8) f9.nd rfl (by first | exact Or.inl rfl | exact Or.inr rfl)) gw)))
   (ao (aU (ay (g3 hr) (qv 8) (dg (v := .ref t.c_NOUGHT) rfl T.m_NOUGHT rfl) (ax _)) (ao (p9 T.X_Q39 (wb _) rfl wk (xD T) (hr.mono (by decide)) T.b_Q39 rfl T.m_Q39 (ad (qv 7) af ae))) aD)))
   (ao (az (bK bw (by rfl) T.z_tuple boot_tuple (ad (qv 5) af ae))))))))) ?_
 try dsimp only [Cx.nox, Cx.wish, bO]
 obtain ⟨p, xs, rfl, hS, al⟩ := id ak.wv
 have w8 := ak.w8
 have lx : xs.length = ws.length := al.len
 refine ⟨_, rfl, _, rfl, _, u, ws, es, rfl, ak, fun o H1 s1 _ ho => ?_⟩
 have hS1 := aN.same (K := K) s1 _ _ hS
 refine ⟨_, rfl, p, rfl, ⟨_, hS1⟩, fun lf hlf0 => fS (K := K) (P := RV K) (ds := ws) (f := fun w => w.2.2) (fun _ _ _ _ t z => z.mono t) hlf0 hS1 lx (by omega) (fun i x d H' hx hd sm Rk E kR => ?_) fun H2 ys s2 hlf al2 => ?_⟩
 ·obtain ⟨d', hd', pw, xa, rfl, hSw, rx⟩ := al.at hx
  rw [hd] at hd'
  cases hd'
  have t' := aN.same (K := K) (s1.trans sm)
  exact ⟨eJ.set rfl, _, rfl, pw, _, _, _, rfl, rfl, t' _ _ hSw, rfl, kR _ _ (aA.refl _) (rx.mono t')⟩
 have ho2 := s2 _ _ ho
 have nol : o ≠ lf := fun z => by subst z; rw [ho] at hlf0; cases hlf0
 have lfN : H lf = none := by
  cases e : H lf with
  | none => rfl
  | some o' => rw [s1 _ _ e] at hlf0; cases hlf0
 refine ⟨(by show 0 ≤ sizeLine; exact Nat.zero_le _), fun pl hpl => ?_⟩
 have s3 := ap hpl (.lst [])
 have hp3 : upd H2 pl (.lst []) pl = some (.lst []) := ah
 have npf : pl ≠ lf := fun z => by subst z; rw [hlf] at hpl; cases hpl
 have npo : pl ≠ o := fun z => by subst z; rw [ho2] at hpl; cases hpl
 have hl3 := s3 _ _ hlf
 have ho3 := s3 _ _ ho2
 have al3 := al2.mono fun _ _ z => z.mono (aN.same s3)
 have s03 := (s1.trans s2).trans s3
 have plN : H pl = none := by
  cases e : H pl with
  | none => rfl
  | some o' => rw [s2 _ _ (s1 _ _ e)] at hpl; cases hpl
 generalize upd H2 pl (.lst []) = H3 at s03 hp3 hl3 ho3 al3 ⊢
 have t03 := aN.same (K := K) s03
 have oi := gy (es := es) ak.rk ws.length (Nat.le_refl _)
 have pk := io (ord := cM ws es ws.length) ak.ok oi.lt oks
 have md : pl ∈ [pl, lf] := List.mem_cons_self
 have l12 : ∀ r ∈ [pl, lf], ∃ xs, H3 r = some (.lst xs) := fun r m => by
  rcases List.mem_cons.mp m with z | z
  ·exact ⟨_, by rw [z]; exact hp3⟩
  ·exact ⟨_, by rw [List.mem_singleton.mp z]; exact hl3⟩
 have onot : o ∉ [pl, lf] := fun m => by
  rcases List.mem_cons.mp m with z | z
  ·exact npo z.symm
  ·exact nol (List.mem_singleton.mp z)
 have sk : ∀ H', Kp [pl, lf] H3 H' -> aA H H' := fun H' kp b o' e => kp.keep b o' (fun m => by
  rcases List.mem_cons.mp m with z | z
  ·rw [z, plN] at e; cases e
  ·rw [List.mem_singleton.mp z, lfN] at e; cases e) (s03 _ _ e)
 have olt := oi.lt
 have olen := oi.len
 generalize hod : cM ws es ws.length = od at ho3 pk olt olen
 refine ⟨24, rfl, by decide, by decide, dm (lo := 0) (n := 24) (fun i σ H' => ∃ (zs ys : List V) (x7 x8 x9 : Option V), σ = [some (.ref p), some u, some (.ref q), some (.ref o), some (.ref lf), some (.ref pl), x7, x8, x9] /\ Kp [pl, lf] H3 H' /\ H' lf = some (.lst zs) /\ cO (RV K H') zs (cw ws od ss i).1 /\ H' pl = some (.lst ys) /\ cO (v6 K H') ys (cw ws od ss i).2) ⟨_, [], none, none, none, rfl, Kp.same (aA.refl _) l12, hl3, al3, hp3, .nil⟩ ?_ ?_⟩
 ·rintro i σ H4 hi ⟨zs, ys, x7, x8, x9, rfl, kp, hl4, alz, hp4, aly⟩
  obtain ⟨po, pl_⟩ := pk i
  have t4 := t03.trans (aN.kp kp)
  obtain ⟨sv, hsv⟩ : ∃ sv, qs[i]? = some sv := ⟨_, List.getElem?_eq_getElem (by rw [alq.len, l24]; exact hi)⟩
  obtain ⟨sp, hsp, rsp⟩ := alq.at hsv
  have esp : ss.getD i (0, 1) = sp := aR (0, 1) hsp
  have z0 : (0 : Int) + (i : Int) = (i : Int) := Int.zero_add _
  refine ⟨_, rfl, .inl ⟨rfl, _, aO.of hp4⟩, _, rfl, _, rfl, _, rfl, _, rfl, _, rfl, _, rfl, q, _, _, _, rfl, rfl, t4 _ _ hq, (by rw [z0]; exact aL hsv), .ref p, sv, o, lf, ws, od, zs, (cw ws od ss i).1, i, sp, (by rw [z0]; rfl), ⟨p, xs, rfl, t4 _ _ hS, al.mono fun _ _ z => z.mono t4⟩, kp.keep _ _ onot ho3, hl4, nol, alz, po.len, po.lf, rsp.mono t4, oks _ (List.mem_of_getElem? hsp), olt, by rw [olen]; omega, fun w ys' H5 S5 hl5 al5 tn5 => ?_⟩
  have hp5 := S5.keep _ _ npf hp4
  have t45 := aN.step (K := K) S5
  have kp5 : Kp [pl, lf] H4 H5 := ⟨fun b o' nb e => S5.keep b o' (fun z => nb (by rw [z]; exact List.mem_cons_of_mem _ List.mem_cons_self)) e, kp.ls', fun r m => by
   rcases List.mem_cons.mp m with z | z
   ·exact ⟨_, by rw [z]; exact hp5⟩
   ·exact ⟨_, by rw [List.mem_singleton.mp z]; exact hl5⟩⟩
  have kq5 := kp.trans kp5
  refine ⟨pl, ys, _, rfl, rfl, hp5, bh (by rw [aly.len, pl_]; omega), ?_⟩
  have kp6 := Kp.up md kq5.ls' (ys ++ [w])
  have t56 := aN.kp (K := K) kp6
  rw [← esp] at al5 tn5
  exact ⟨ys', _, _, _, _, rfl, kq5.trans kp6, by rw [aC (Ne.symm npf)]; exact hl5, al5.mono fun _ _ z => z.mono t56, ah, cO.snoc (tn5.mono t56) (aly.mono fun _ _ z => (z.mono t45).mono t56)⟩
 rintro σ H4 ⟨zs, ys, x7, x8, x9, rfl, kp, hl4, alz, hp4, aly⟩
 obtain ⟨po, pl_⟩ := pk 24
 have ed : eX ws es ss = cw ws od ss 24 := by unfold eX; rw [hod]
 rw [ed] at k ke
 have s04 := sk H4 kp
 generalize cw ws od ss 24 = pm at k ke alz aly po pl_
 have lz : zs.length = ws.length := by rw [alz.len, po.len]
 refine ⟨_, rfl, lf, rfl, ⟨_, aO.of hl4⟩, qz (K := K) (a := lf) (xs := zs) (fun i σ H' => ∃ (x8 x9 : Option V), σ = [some (.ref p), some u, some (.ref q), some (.ref o), some (.ref lf), some (.ref pl), x7, x8, x9] /\ aA H4 H' /\ ∀ j, j < i -> pm.1.getD j (0, 1) = (0, 1)) ⟨_, _, rfl, aA.refl _, fun j hj => absurd hj (Nat.not_lt_zero _)⟩ (fun i σ H' _ ⟨_, _, _, sm, _⟩ => aO.of (sm _ _ hl4)) ?_ ?_⟩
 ·rintro i x pe σ H5 hx ⟨x8, x9, rfl, s5, le⟩ hpe
  obtain ⟨r, hr_, hrz⟩ := alz.at hx
  have er : pm.1.getD i (0, 1) = r := aR (0, 1) hr_
  have il : i < pm.1.length := (List.getElem?_eq_some_iff.mp hr_).1
  have s6 := ap hpe (.tup [.int i, x])
  have hpe6 : upd H5 pe (.tup [.int i, x]) pe = some (.tup [.int i, x]) := ah
  generalize upd H5 pe (.tup [.int i, x]) = H6 at s6 hpe6 ⊢
  have s46 := s5.trans s6
  have t46 := aN.same (K := K) s46
  refine ⟨pe, _, rfl, bt.of hpe6, rfl, _, _, rfl, _, _, rfl, rfl, ?_⟩
  refine ⟨_, rfl, dR r, dR (0, 1), (hrz.mono t46).deep, RV.deep ⟨_, rfl, T.q_NOUGHT _⟩, rfl, rfl, gI _, _, rfl, ?_⟩
  rw [ix]
  by_cases cz : r = (0, 1)
  ·refine ei (b := !decide (r = (0, 1))) (by rw [decide_eq_true cz]; rfl) ?_
   refine ⟨_, _, rfl, s46, fun j hj => ?_⟩
   by_cases z : j < i
   ·exact le j z
   ·rw [show j = i by omega, er]; exact cz
  ·refine fG (b := !decide (r = (0, 1))) (by rw [decide_eq_false cz]; rfl) ?_
   refine ⟨_, rfl, AB, fun xx hxx => ⟨xx, _, rfl, ah, fun d hd nd => ⟨rfl, some d, by rw [aC nd.symm, ah], ?_⟩⟩⟩
   refine ke i (qr il (by rw [er]; exact cz) le) d _ ((s04.trans s46).trans (fJ (o0 := gP xx t.c_Q39 none) hxx fun b' o' nb q' => ?_)) (by rw [yr nd, ah])
   have hd' : upd H6 xx (gP xx t.c_Q39 none) d = none := hd
   rw [aC (aQ q' hd'), aC nb]
   exact q'
 ·rintro σ H5 ⟨x8, x9, rfl, s5, le⟩
  refine ⟨_, rfl, pl, _, rfl, .inl ⟨aO.of (s5 _ _ hp4), fun pt hpt => ?_⟩⟩
  have s6 := ap hpt (.tup ys)
  have t46 := (aN.same (K := K) s5).trans (aN.same s6)
  refine k (qt fun j hj => le j (by rw [lz, ← po.len]; exact hj)) (.ref pt) _ ((s04.trans s5).trans s6) ?_
  exact .tup (bt.of ah) ((aly.mono fun _ _ z => z.mono t46).deep fun _ _ z => z.deep)
theorem xT (T : eQ K mg t) : bB P w K mg base dI 4 t.a_Q14 t.d_Q14 ["_law_tape_here", "_law_many"] (kF K) := by
 refine T.F_Q14.ok gX (fun vs H Q E h => ?_) (fun cdv A outer s H vs Q E hr h => ?_)
 ·obtain ⟨_, _, _, rfl, _⟩ := h; rfl
 obtain ⟨t₁, s₁, n, rfl, tp, hn, k⟩ := h
 refine dN.ok (ag (aU (ay jT (qv 1) ai (ax _)) (ao (az (bI af))) aD)
   (ag (cD 2 gX.nd (sg (key := fun i => (i : Int) * 7 % 11) (xG T) (hr.mono (by decide)) T.b_Q32 rfl rfl T.m_Q32 rfl T.z_sorted (ad (im rfl T.z_range (ad (qv 1) af ae)) af aG)))
   (ag (kU (aU (ay bF (dt (cH T) hr T.m_Q23 T.F_Q23.kp T.b_Q23 (ad (qv 0) (ad ai af aE) ae)) ai (ax _)) (ao (cX (wT PySem.F.plainAttrs_list PySem.F.slot_list_reverse PySem.F.type_list_reverse nI (qv 2)))) aD))
   (ag (cD 3 gX.nd (bY af))
   (ag (cP PassesOwn.never rfl (bD rfl T.z_range (ad (dt (cH T) hr T.m_Q23 T.F_Q23.kp T.b_Q23 (ad (qv 0) (ad ai af aE) ae)) af aG)) (aH (i := 4) gX.nd rfl (by first | exact Or.inl rfl | exact Or.inr rfl))
   (ag (cD 5 gX.nd (dt (cH T) hr T.m_Q23 T.F_Q23.kp T.b_Q23 (ad (qv 0) (ad (aS gc (qv 1) ai) af bP) ae)))
   (ag (cD 6 gX.nd (aS dj (aS dj (qv 5) ai) (dt (cH T) hr T.m_Q23 T.F_Q23.kp T.b_Q23 (ad (qv 0) (ad (aS gc (aS gc (qv 1) ai) (qv 5)) af bP) ae))))
   (ao (cX (fz PySem.F.plainAttrs_list PySem.F.slot_list_append PySem.F.type_list_append b8 (qv 3) (ad (bI (ad (cK bo (qv 2) (qv 5)) (ad (cK bo (qv 2) (qv 6)) af aP) aP)) af cC)))))))
   (ao (az (bK bw (by rfl) T.z_tuple boot_tuple (ad (qv 3) af ae))))))))) ?_
 try dsimp only [Cx.nox, Cx.wish, bO]
 refine ⟨_, rfl, _, _, rfl, rfl, _, rfl, ?_⟩
 by_cases c : n < 2
 ·refine bQ (by omega) ?_
  exact ⟨(by show 0 ≤ sizeLine; exact Nat.zero_le _), fun p hp => k (.ref p) [] _ (aT.same (ap hp _) tp.lst) (tp.new hp _) ⟨p, [], rfl, bt.of ah, .nil⟩ (fun e he => by cases he) ⟨id, fun _ h => h, fun a b h => by cases h⟩ (Nat.zero_le _)⟩
 refine aV (by omega) ?_
 refine ⟨_, rfl, _, rfl, fun pr hpr => ?_⟩
 have s1 := ap hpr (.rng 0 n)
 refine ⟨pr, n, rfl, ah, by omega, fun i hi Qk q => ⟨_, rfl, by omega, by omega, q⟩, fun lo ms pm _ hlo => ?_⟩
 have s2 := ap hlo (.lst (ms.map fun i : Nat => V.int i))
 have hl2 : upd (upd H pr (.rng 0 n)) lo (.lst (ms.map fun i : Nat => V.int i)) lo = some (.lst (aF ms)) := ah
 have s02 := s1.trans s2
 have loN : H lo = none := by
  cases e : H lo with
  | none => rfl
  | some o => rw [s1 _ _ e] at hlo; cases hlo
 generalize upd (upd H pr (.rng 0 n)) lo (.lst (ms.map fun i : Nat => V.int i)) = H2 at s02 hl2 ⊢
 have T2 := tp.same s02
 obtain ⟨y0, e0⟩ := tp.lst
 have nt : lo ≠ t₁ := fun z => by subst z; rw [e0] at loN; cases loN
 have ns := tp.off loN
 obtain ⟨y2, e2⟩ := T2.lst
 refine ⟨fun σ H' => ∃ os : List Nat, σ = [some (.ref t₁), some (.int (n : Nat)), some (.ref lo), none, none, none, none] /\ bR K H' t₁ s₁ /\ (∀ b o, b ≠ t₁ -> H b = some o -> H' b = some o) /\ H' lo = some (.lst (aF os)) /\ os.Perm (List.range n), ?_, ?_⟩
 ·refine ⟨_, rfl, t₁, s₁, 2, rfl, T2, by omega, by omega, fun r1 z1 a1 b1 T3 => ?_⟩
  have S3 : aT t₁ H2 _ := aT.up (ys := z1) e2
  generalize upd H2 t₁ (.lst z1) = H3 at T3 S3 ⊢
  have hl3 := S3.keep _ _ nt hl2
  refine ⟨rfl, _, rfl, ?_⟩
  by_cases c1 : V.int r1 = V.int 0
  ·refine bQ c1 ?_
   refine ⟨_, rfl, .inl ⟨rfl, _, aO.of hl3⟩, lo, _, rfl, rfl, hl3, ?_⟩
   refine ⟨ms.reverse, rfl, T3.upl nt ns _, fun b o nb q => ?_, ?_, (List.reverse_perm ms).trans pm⟩
   ·rw [aC (aQ q loN)]
    exact S3.keep _ _ nb (s02 _ _ q)
   ·rw [ah]
    unfold aF
    rw [List.map_reverse]
  ·refine aV c1 ?_
   exact ⟨ms, rfl, T3, fun b o nb q => S3.keep _ _ nb (s02 _ _ q), hl3, pm⟩
 rintro σ HI ⟨os, rfl, TI, kp, hlI, pmo⟩
 have nd : os.Nodup := pmo.nodup_iff.mpr List.nodup_range
 have hlen : os.length = n := by rw [pmo.length_eq, List.length_range]
 have all : ∀ x, x ∈ os ↔ x < n := fun x => by rw [pmo.mem_iff, List.mem_range]
 obtain ⟨ps, ps1, ps2⟩ := wN nd hlen all
 refine ⟨(by show 0 ≤ sizeLine; exact Nat.zero_le _), fun lf hf0 => ?_⟩
 obtain ⟨yI, eI⟩ := TI.lst
 have ntf : lf ≠ t₁ := fun z => by subst z; rw [eI] at hf0; cases hf0
 have nsf := TI.off hf0
 have nlf : lo ≠ lf := fun z => by subst z; rw [hlI] at hf0; cases hf0
 have hfN : ∀ b o, b ≠ t₁ -> H b = some o -> b ≠ lf := fun b o nb q z => by subst z; rw [kp b o nb q] at hf0; cases hf0
 have sF := ap hf0 (.lst [])
 have hf1 : upd HI lf (.lst []) lf = some (.lst []) := ah
 have TF := TI.new hf0 (.lst [])
 have hlF := sF _ _ hlI
 generalize upd HI lf (.lst []) = HF at sF hf1 TF hlF ⊢
 obtain ⟨yF, eF⟩ := TF.lst
 refine ⟨_, rfl, t₁, s₁, 7, rfl, TF, by omega, by omega, fun rc zc ac bc TC => ?_⟩
 have SC : aT t₁ HF _ := aT.up (ys := zc) eF
 generalize upd HF t₁ (.lst zc) = HC at TC SC ⊢
 obtain ⟨m, rfl⟩ := Int.eq_ofNat_of_zero_le ac
 refine ⟨(m : Int), rfl, by omega, by omega, dm (lo := 0) (n := (m : Int).toNat) (fun i σ H' => ∃ (xs : List V) (es : List Ln) (x5 x6 x7 : Option V), σ = [some (.ref t₁), some (.int (n : Nat)), some (.ref lo), some (.ref lf), x5, x6, x7] /\ bR K H' t₁ s₁ /\ (∀ b o, b ≠ t₁ -> b ≠ lf -> HF b = some o -> H' b = some o) /\ H' lf = some (.lst xs) /\ cO (yW K H') xs es /\ es.length = i /\ mX n es /\ ∀ a b, (a, b) ∈ es -> ps a < ps b) ⟨[], [], none, none, none, rfl, TC, (fun b o nb _ q => SC.keep _ _ nb q), SC.keep _ _ ntf hf1, .nil, rfl, (fun e he => by cases he), fun a b h => by cases h⟩ ?_ ?_⟩
 ·rintro i σ H1 hi ⟨xs, es, x5, x6, x7, rfl, T1, kp1, hf, al, hlen1, ok, rk⟩
  have hl1 := kp1 _ _ nt nlf hlF
  obtain ⟨y2, e2⟩ := T1.lst
  refine ⟨_, rfl, _, rfl, _, _, rfl, rfl, t₁, s₁, _, rfl, T1, by omega, by omega, fun r2 z2 a2 b2 T2 => ?_⟩
  have S2 : aT t₁ H1 _ := aT.up (ys := z2) e2
  generalize upd H1 t₁ (.lst z2) = H2 at T2 S2 ⊢
  obtain ⟨at_, rfl⟩ := Int.eq_ofNat_of_zero_le a2
  obtain ⟨y3, e3⟩ := T2.lst
  refine ⟨_, rfl, _, _, rfl, rfl, _, rfl, _, rfl, _, _, rfl, rfl, _, rfl, _, _, rfl, rfl, t₁, s₁, _, rfl, T2, by omega, by omega, fun r3 z3 a3 b3 T3 => ?_⟩
  have S3 := S2.trans (aT.up (ys := z3) e3)
  generalize upd H2 t₁ (.lst z3) = H3 at T3 S3 ⊢
  refine ⟨_, _, rfl, rfl, ?_⟩
  obtain ⟨to, hto⟩ : ∃ to : Nat, (at_ : Int) + 1 + r3 = (to : Nat) := ⟨((at_ : Int) + 1 + r3).toNat, by omega⟩
  dsimp only
  rw [hto]
  obtain ⟨u, hu⟩ : ∃ u, os[at_]? = some u := ⟨_, List.getElem?_eq_getElem (by omega)⟩
  obtain ⟨w, hw⟩ : ∃ u, os[to]? = some u := ⟨_, List.getElem?_eq_getElem (by omega)⟩
  have hl3 := S3.keep _ _ nt hl1
  have hf3 := S3.keep _ _ ntf hf
  refine ⟨_, rfl, .inl ⟨rfl, _, aO.of hf3⟩, _, rfl, _, rfl, lo, _, _, _, rfl, rfl, aO.of hl3, aL (v := V.int (u : Nat)) (by unfold aF; rw [List.getElem?_map, hu]; rfl), _, rfl, _, rfl, lo, _, _, _, rfl, rfl, aO.of hl3, aL (v := V.int (w : Nat)) (by unfold aF; rw [List.getElem?_map, hw]; rfl), km, fun pe hpe => ?_⟩
  have s4 := ap hpe (.tup [.int (u : Nat), .int (w : Nat)])
  have h4 : bt K (upd H3 pe (.tup [.int (u : Nat), .int (w : Nat)])) pe [.int (u : Nat), .int (w : Nat)] := bt.of ah
  have T4 := T3.same s4
  generalize upd H3 pe (.tup [.int (u : Nat), .int (w : Nat)]) = H4 at s4 h4 T4 ⊢
  have S4 := S3.trans (aT.same s4 T3.lst)
  have hf4 := S4.keep _ _ ntf hf
  have hxl := al.len
  refine ⟨lf, xs, _, rfl, rfl, hf4, bh (by omega), ?_⟩
  have t5 : aN K H4 (upd H4 lf (.lst (xs ++ [.ref pe]))) := aN.up hf4 _
  refine ⟨_, es ++ [(u, w)], _, _, _, rfl, T4.upl ntf nsf _, fun b o nb nf q => ?_, ah, (al.mono fun _ _ q => q.mono ((aN.step (K := K) S4).trans t5)).snoc ⟨pe, rfl, t5 _ _ h4⟩, by rw [List.length_append, hlen1]; rfl, fun e he => ?_, fun a b h => ?_⟩
  ·rw [aC nf]
   exact S4.keep _ _ nb (kp1 b o nb nf q)
  ·rcases List.mem_append.mp he with z | z
   ·exact ok e z
   ·rw [List.mem_singleton.mp z]
    exact ⟨(all u).mp (List.mem_of_getElem? hu), (all w).mp (List.mem_of_getElem? hw)⟩
  ·rcases List.mem_append.mp h with z | z
   ·exact rk a b z
   ·cases List.mem_singleton.mp z
    rw [ps2 _ _ hu, ps2 _ _ hw]
    omega
 ·rintro σ H1 ⟨xs, es, x5, x6, x7, rfl, T1, kp1, hf, al, hlen1, ok, rk⟩
  refine ⟨_, rfl, lf, _, rfl, .inl ⟨aO.of hf, fun p hp => ?_⟩⟩
  have s6 := ap hp (.tup xs)
  have kpH : ∀ b o, b ≠ t₁ -> H b = some o -> H1 b = some o := fun b o nb q => kp1 b o nb (hfN b o nb q) (sF _ _ (kp b o nb q))
  exact k (.ref p) es _ (aT.trans ⟨kpH, ⟨_, e0⟩, T1.lst⟩ (aT.same s6 T1.lst)) (T1.same s6) ⟨p, _, rfl, bt.of ah, al.mono fun _ _ q => q.mono (aN.same s6)⟩ ok ⟨ps, ps1, rk⟩ (by omega)
theorem xQ (T : eQ K mg t) : bB P w K mg base dI 6 t.a_Q17 t.d_Q17 ["_law_works_here", "_law_leans_here", "_law_speeds_here"] (kC K t.c_Q39) := by
 refine T.F_Q17.ok iK (fun vs H Q E h => ?_) (fun cdv A outer s H vs Q E hr h => ?_)
 ·obtain ⟨_, _, _, _, _, _, rfl, _⟩ := h; rfl
 obtain ⟨v, u, c, ws, es, ss, rfl, ak, sv, l24, oks, k⟩ := h
 refine dN.ok (ag (cD 3 iK.nd (bI (ad dr (ad (bY af) af iD) aE)))
   (ag (rY (i := 4) (R := (fun C dx H' => C = t.c_Q39 /\ aA H H' /\ ∃ (dd : Addr) (z : Nat), dx = some dd /\ H' dd = some (dO dd [("work", .int (z : Nat))]) /\ fm (eX ws es ss).1 = some z)) rfl rfl rfl rfl T.m_Q18 iK.nd rfl rfl (fun _ => (ao (cD 3 iK.nd (bI (ad (dM (xC T) (hr.mono (by decide)) rfl T.m_Q43 T.F_Q43.kp T.b_Q43 .nil (xr rfl) (ad (qv 0) (ad (qv 1) (ad (qv 2) af ae) ae) ae)) (ad (bY af) af iD) aG)))))
   (fun _ => (ao (cD 3 iK.nd (bI (ad (qv 4) (ad (si (xR T) (by exact hr.inM (by decide)) rfl T.m_Q16 T.F_Q16.kp T.b_Q16 .nil fY (ad (qv 4) af ae)) af aG) ae))))))
   (ao (az (qv 3))))) ?_
 try dsimp only [Cx.nox, Cx.wish, bO]
 refine ⟨(by show 0 ≤ sizeLine; exact Nat.zero_le _), fun l0 h0 => ⟨km, fun p0 g0 => ?_⟩⟩
 have s0 := (ap h0 (.lst [])).trans (ap g0 (.tup [.non, .ref l0]))
 generalize upd (upd H l0 (.lst [])) p0 (.tup [.non, .ref l0]) = H0 at s0 ⊢
 have t0 := aN.same (K := K) s0
 refine ⟨⟨_, rfl, _, rfl, _, rfl, v, u, c, ws, es, ss, rfl, ak.mono t0, sv.mono t0, l24, oks, fun du w H1 s1 dw => ⟨(by show 0 ≤ sizeLine; exact Nat.zero_le _), fun l1 h1 => ⟨km, fun p1 g1 => ?_⟩⟩, fun z du dd H1 s1 hd => ⟨_, rfl, rfl, s0.trans s1, dd, z, rfl, hd, du⟩⟩, ?_⟩
 ·have sa := ap h1 (.lst [])
  have sb := ap g1 (.tup [w, .ref l1])
  refine ⟨_, rfl, k _ _ (((s0.trans s1).trans sa).trans sb) ?_⟩
  unfold A0
  rw [du]
  exact ⟨p1, w, l1, rfl, bt.of ah, dw.same (sa.trans sb), sb _ _ ah⟩
 rintro C dx H' ⟨rfl, s1, dd, z, rfl, hd, du⟩
 refine ⟨T.x_catch, dd, rfl, fun x hx => ?_⟩
 have s2 := ap hx (qU x t.c_Q39 dd)
 have ex := ah (H := H') (a := x) (o := qU x t.c_Q39 dd)
 have ed := s2 _ _ hd
 generalize upd H' x (qU x t.c_Q39 dd) = H2 at s2 ex ed ⊢
 refine ⟨_, rfl, _, rfl, x, dd, _, rfl, ex, ed, fun l H3 s3 hl => ⟨km, fun p4 g4 => ?_⟩⟩
 have s4 := ap g4 (.tup [.ref x, .ref l])
 refine ⟨_, rfl, k _ _ (((s1.trans s2).trans s3).trans s4) ?_⟩
 unfold A0
 rw [du]
 exact ⟨p4, l, x, dd, rfl, bt.of ah, s4 _ _ (s3 _ _ ex), s4 _ _ (s3 _ _ ed), s4 _ _ hl⟩
theorem xz (T : eQ K mg t) : bB P w K mg base dI 7 t.a_Q45 t.d_Q45 ["_law_script"] (kJ K) := by
 refine T.F_Q45.ok d9 (fun vs H Q E h => ?_) (fun cdv A outer s H vs Q E hr h => ?_)
 ·obtain ⟨_, _, rfl, _⟩ := h; rfl
 obtain ⟨a, ns, rfl, hS, hl, k⟩ := h
 refine dN.ok (ag (cD 1 d9.nd (dt (xN T) hr T.m_Q22 T.F_Q22.kp T.b_Q22 (ad (qv 0) af ae)))
   (ag (cP PassesOwn.never rfl (bD rfl T.z_range (ad ai af aE)) (aH (i := 2) d9.nd rfl (by first | exact Or.inl rfl | exact Or.inr rfl))
   (ag (cD 3 d9.nd (dt (xW T) hr T.m_Q11 T.F_Q11.kp T.b_Q11 (ad (qv 1) (ad (dt (cH T) hr T.m_Q23 T.F_Q23.kp T.b_Q23 (ad (qv 1) (ad ai af aE) ae)) af aG) ae)))
   (ag (kU (aU (ay bF (dt (cH T) hr T.m_Q23 T.F_Q23.kp T.b_Q23 (ad (qv 1) (ad ai af aE) ae)) ai (ax _)) (ao (cD 3 d9.nd (bK bw (by rfl) T.z_tuple boot_tuple (ad (bx (N' := ["_law_work"]) (src := [none]) rfl (by exact (fc (qv 3))) (fun _ _ _ _ _ => (by exact (by exact aH (i := 0) (by show List.Nodup (["_law_work"] : List Str); decide +kernel) (by exact rfl) (by first | exact Or.inl rfl | exact Or.inr rfl)))) (fun _ _ _ _ _ => cA) (fun _ _ _ _ _ => (by exact (by exact (bI (ad (by exact (bj (aX (K := K) (by exact rfl)) (by exact (qv 0)) ai (by exact fun _ _ => rfl))) (ad (by exact (aj (qK rfl) (by exact rfl) T.z_max boot_max (ad (by exact (bj (aX (K := K) (by exact rfl)) (by exact (qv 0)) ai (by exact fun _ _ => rfl))) (ad ai af aE) aP))) (ad (by exact (bj (aX (K := K) (by exact rfl)) (by exact (qv 0)) ai (by exact fun _ _ => rfl))) af aP) aG) aP))))) (by exact trivial) rfl (by decide +kernel) rfl (by decide +kernel) (by exact aY rfl trivial)) af dn)))) aD))
   (ag (cD 4 d9.nd (dt (xT T) hr T.m_Q14 T.F_Q14.kp T.b_Q14 (ad (qv 1) (ad (aj aw (by rfl) T.z_len boot_len (ad (qv 3) af ae)) af aG) ae)))
   (ag (cD 5 d9.nd (dt (Ag T) hr T.m_Q1 T.F_Q1.kp T.b_Q1 (ad (qv 1) (ad (qv 3) af ae) ae)))
   (ag (cD 6 d9.nd (dt (xS T) hr T.m_Q15 T.F_Q15.kp T.b_Q15 (ad (qv 3) (ad (qv 4) (ad (qv 5) af ae) ae) ae)))
   (ag (cD 7 d9.nd (aj (j4 hr) (by rfl) T.z_repr boot_repr (ad (bI (ad (qv 3) (ad (qv 4) (ad (qv 5) af ae) ae) ae)) af cC)))
   (ag (ef (dt (xQ T) hr T.m_Q17 T.F_Q17.kp T.b_Q17 (ad (qv 3) (ad (qv 4) (ad (qv 5) af ae) ae) ae)) (nE rfl (cZ (aH (i := 8) d9.nd rfl (by first | exact Or.inl rfl | exact Or.inr rfl)) (cZ (aH (i := 9) d9.nd rfl (by first | exact Or.inl rfl | exact Or.inr rfl)) gw))))
   (ag (aU (ay dG (aj (j4 hr) (by rfl) T.z_repr boot_repr (ad (bI (ad (qv 3) (ad (qv 4) (ad (qv 5) af ae) ae) ae)) af cC)) (qv 7) (ax _)) (ao (az cL)) aD)
   (ao (aU (bp (aj av (by rfl) T.z_isinstance boot_isinstance (ad (qv 6) (ad (aB (v := V.ty "int") rfl T.z_int boot_int rfl) af ae) ae))) (ao (aU (d4 (fw (ay (g3 hr) (qv 9) (bY (ad cL (ad cL (ad cL (ad cL af aE) aE) aE) aE)) (ax _)) (ee (kT (bp (dt (sX T) hr T.m_Q10 T.F_Q10.kp T.b_Q10 (ad (qv 6) (ad (uB (K := K) rfl (qv 8) rfl) af rE) ae))))))) (ao (az cL)) aD)) (ao (aU (d4 (fw (ay (g3 hr) (qv 9) (bY af) (ax _)) (ee (kT (bp (dt (sX T) hr T.m_Q10 T.F_Q10.kp T.b_Q10 (ad (qv 6) (ad (qv 8) af ae) ae))))))) (ao (az cL)) aD)))))))))))))
   (ao (az cL)))) ?_
 try dsimp only [Cx.nox, Cx.wish, bO]
 refine ⟨_, rfl, a, ns, rfl, hS, hl, fun t₁ H1 s1 ht T1 => ?_⟩
 refine ⟨6, rfl, by decide, by decide, dm (lo := 0) (n := 6) (fun i σ H' => ∃ (x3 x4 x5 x6 x7 x8 x9 xA : Option V), σ = [some (.ref a), some (.ref t₁), x3, x4, x5, x6, x7, x8, x9, xA] /\ bR K H' t₁ a) ⟨none, none, none, none, none, none, none, none, rfl, T1⟩ ?_ ?_⟩
 ·rintro i σ H2 hi ⟨x3, x4, x5, x6, x7, x8, x9, xA, rfl, T2⟩
  refine ⟨_, rfl, _, rfl, t₁, a, 9, rfl, T2, by decide, by decide, fun r1 xx a1 b1 T3 => ?_⟩
  generalize upd H2 t₁ (.lst xx) = H3 at T3 ⊢
  obtain ⟨d, rfl⟩ := Int.eq_ofNat_of_zero_le a1
  refine ⟨t₁, a, d, rfl, T3, by omega, fun v ws H4 S4 T4 wv hw ok => ?_⟩
  refine ⟨fun σ H' => ∃ (v : V) (ws : List Wk), σ = [some (.ref a), some (.ref t₁), some (.int (0 + (i : Int))), some v, x5, x6, x7, x8, x9, xA] /\ bR K H' t₁ a /\ eP K H' v ws /\ ws.length ≤ 8 /\ ∀ w ∈ ws, dZ w, ?_, ?_⟩
  ·obtain ⟨y6, e6⟩ := T4.lst
   refine ⟨_, rfl, t₁, a, 3, rfl, T4, by decide, by decide, fun r6 z6 a6 b6 T6 => ?_⟩
   have S6 : aT t₁ H4 _ := aT.up (ys := z6) e6
   generalize upd H4 t₁ (.lst z6) = H6 at T6 S6 ⊢
   have wv6 := wv.mono (aN.step (K := K) S6)
   refine ⟨rfl, _, rfl, qu (fun _ => ?_) (fun _ => ⟨v, ws, rfl, T6, wv6, by omega, ok⟩)⟩
   obtain ⟨p, xs, rfl, hp, al⟩ := wv6
   refine ⟨_, rfl, p, rfl, ⟨_, hp⟩, fun D hD => fS (K := K) (P := vy K) (ds := ws) (f := fun w : Wk => (w.1, max w.1 11, w.2.2)) (fun _ _ _ _ t p => p.mono t) hD hp al.len (by have := al.len; omega) (fun i x d H' hx hd s' R E kR => ?_) fun H7 ys s7 hD7 al7 => ?_⟩
   ·obtain ⟨d', hd', pw, am, rfl, hpw, ram⟩ := al.at hx
    rw [hd] at hd'
    cases hd'
    have t' := aN.same (K := K) s'
    refine ⟨eJ.set rfl, ?_⟩
    refine ⟨_, rfl, pw, _, _, _, rfl, rfl, t' _ _ hpw, rfl, _, rfl, pw, _, _, _, rfl, rfl, t' _ _ hpw, rfl, _, _, rfl, _, rfl, pw, _, _, _, rfl, rfl, t' _ _ hpw, rfl, ?_⟩
    dsimp only
    rw [show (if (11 : Int) > (d.1 : Int) then (11 : Int) else (d.1 : Int)) = ((max d.1 11 : Nat) : Int) by split <;> omega]
    refine ⟨qQ, fun pn hpn => ?_⟩
    have sn := ap hpn (.tup [.int (d.1 : Nat), .int ((max d.1 11 : Nat) : Int), am])
    exact kR _ _ sn ⟨pn, am, rfl, bt.of ah, (ram.mono t').mono (aN.same sn)⟩
   ·refine ⟨D, _, rfl, .inl ⟨aO.of hD7, fun p7 hp7 => ?_⟩⟩
    have s8 := ap hp7 (.tup ys)
    refine ⟨.ref p7, _, rfl, T6.same (s7.trans s8), ⟨p7, ys, rfl, bt.of ah, al7.mono fun _ _ q => q.mono (aN.same s8)⟩, by rw [List.length_map]; omega, fun w hw' => ?_⟩
    obtain ⟨z, hz, rfl⟩ := List.mem_map.mp hw'
    have o := ok z hz
    have o1 := o.le
    have o2 := o.lt
    exact ⟨by show z.1 ≤ max z.1 11; omega, by show max z.1 11 < 24; omega, o.am⟩
  ·rintro σ H7 ⟨v, ws, rfl, T7, wv, w8, ok⟩
   obtain ⟨p, xs, rfl, hp, al⟩ := id wv
   refine ⟨_, rfl, _, rfl, p, _, rfl, .inr hp, t₁, a, ws.length, (by rw [al.len]; rfl), T7, by omega, fun vl es H8 S8 T8 lv eok rk e6 => ?_⟩
   have t78 := aN.step (K := K) S8
   refine ⟨_, rfl, _, rfl, t₁, a, .ref p, ws, rfl, T8, wv.mono t78, w8, ok, fun vs ss H9 S9 T9 sv l24 oks => ?_⟩
   have t89 := aN.step (K := K) S9
   have t79 := t78.trans t89
   have ak : vE K H9 (.ref p) vl ws es := ⟨wv.mono t79, w8, ok, lv.mono t89, eok, rk, by omega⟩
   have dw := (wv.mono t79).deep
   have dl := (lv.mono t89).deep
   have ds := sv.deep
   have sh := wy ok (by omega) eok (by omega) oks l24
   refine ⟨_, rfl, _, rfl, _, rfl, .ref p, vl, vs, ws, es, ss, rfl, ak, sv, l24, oks, fun vd HA sA dA => ?_⟩
   refine ⟨_, rfl, _, rfl, _, rfl, qQ, fun pB gB => ?_⟩
   have eB := ap gB (.tup [.ref p, vl, vs])
   have qB : bt K (upd HA pB (.tup [.ref p, vl, vs])) pB [.ref p, vl, vs] := bt.of ah
   generalize upd HA pB (.tup [.ref p, vl, vs]) = HB at eB qB ⊢
   have sB := sA.trans eB
   refine ⟨.ref pB, .tuple [tS ws, tU es, .tuple (ss.map dR)], rfl, .tup qB (.cons (dw.same sB) (.cons (dl.same sB) (.cons (ds.same sB) .nil))), sh, ?_⟩
   have tB := aN.same (K := K) sB
   refine ⟨_, rfl, _, rfl, _, rfl, .ref p, vl, vs, ws, es, ss, rfl, ak.mono tB, sv.mono tB, l24, oks, fun u HC sC' tr => ?_⟩
   have sC := sB.trans sC'
   have dC := (dA.same eB).same sC'
   have oi := gy (es := es) rk ws.length (Nat.le_refl _)
   have pk := io (ord := cM ws es ws.length) ok oi.lt oks 24
   have olen := oi.len
   have ed : eX ws es ss = cw ws (cM ws es ws.length) ss 24 := rfl
   rw [← ed] at pk
   unfold A0 at tr
   unfold wP at dC
   cases hq : fm (eX ws es ss).1 with
   | none =>
    rw [hq] at tr dC
    dsimp only at dC
    obtain ⟨pu, x, l, rfl, hpu, dx, hl_⟩ := tr
    refine ⟨pu, _, rfl, hpu, rfl, _, _, rfl, _, _, rfl, rfl, ?_⟩
    refine ⟨_, rfl, _, rfl, _, rfl, qQ, fun pD gD => ?_⟩
    have eD := ap gD (.tup [.ref p, vl, vs])
    have qD : bt K (upd HC pD (.tup [.ref p, vl, vs])) pD [.ref p, vl, vs] := bt.of ah
    generalize upd HC pD (.tup [.ref p, vl, vs]) = HD at eD qD ⊢
    have sD := sC.trans eD
    refine ⟨.ref pD, .tuple [tS ws, tU es, .tuple (ss.map dR)], rfl, .tup qD (.cons (dw.same sD) (.cons (dl.same sD) (.cons (ds.same sD) .nil))), sh, ?_⟩
    refine ⟨_, rfl, rfl, _, rfl, dH rfl ?_⟩
    refine ⟨_, rfl, vd, _, "int", false, rfl, dC.same eD, rfl, _, rfl, bi ?_⟩
    refine ⟨_, rfl, (by show 0 ≤ sizeLine; exact Nat.zero_le _), fun l5 g5 => ?_⟩
    have e5 := ap g5 (.lst [])
    have h5 : upd HD l5 (.lst []) l5 = some (.lst []) := ah
    generalize upd HD l5 (.lst []) = H5 at e5 h5 ⊢
    refine ⟨.list [], .list [], .lst (aO.of (e5 _ _ (eD _ _ hl_))) .nil, .lst (aO.of h5) .nil, rfl, rfl, by decide, _, rfl, ei rfl ?_⟩
    have eD5 := eD.trans e5
    refine ⟨_, rfl, _, rfl, vd, x, _, rfl, dC.same eD5, dx.same eD5, qE _, yt (by rw [pk.2]; exact Nat.le_refl _) (fun q hq => by have := (pk.1.pc q hq).1; omega), fun H6 s6 => ⟨_, rfl, ei (b := !true) rfl ?_⟩⟩
    exact ⟨_, _, _, _, _, _, _, _, rfl, T9.same ((sC.trans eD5).trans s6)⟩
   | some z =>
    rw [hq] at tr dC
    dsimp only at dC
    obtain ⟨pu, l, x, dd, rfl, hpu, hx, hd, hl_⟩ := tr
    refine ⟨pu, _, rfl, hpu, rfl, _, _, rfl, _, _, rfl, rfl, ?_⟩
    refine ⟨_, rfl, _, rfl, _, rfl, qQ, fun pD gD => ?_⟩
    have eD := ap gD (.tup [.ref p, vl, vs])
    have qD : bt K (upd HC pD (.tup [.ref p, vl, vs])) pD [.ref p, vl, vs] := bt.of ah
    generalize upd HC pD (.tup [.ref p, vl, vs]) = HD at eD qD ⊢
    have sD := sC.trans eD
    refine ⟨.ref pD, .tuple [tS ws, tU es, .tuple (ss.map dR)], rfl, .tup qD (.cons (dw.same sD) (.cons (dl.same sD) (.cons (ds.same sD) .nil))), sh, ?_⟩
    refine ⟨_, rfl, rfl, _, rfl, dH rfl ?_⟩
    refine ⟨_, rfl, vd, _, "int", true, rfl, dC.same eD, rfl, _, rfl, bM ?_⟩
    refine ⟨_, rfl, yQ, fun l5 g5 => ?_⟩
    have e5 := ap g5 (.lst [.bl true, .bl true, .bl true, .bl false])
    have h5 : upd HD l5 (.lst [.bl true, .bl true, .bl true, .bl false]) l5 = some (.lst [.bl true, .bl true, .bl true, .bl false]) := ah
    generalize upd HD l5 (.lst [.bl true, .bl true, .bl true, .bl false]) = H5 at e5 h5 ⊢
    refine ⟨.list [.bool true, .bool true, .bool true, .bool false], .list [.bool true, .bool true, .bool true, .bool false], .lst (aO.of (e5 _ _ (eD _ _ hl_))) (.cons (.bl _) (.cons (.bl _) (.cons (.bl _) (.cons (.bl _) .nil)))), .lst (aO.of h5) (.cons (.bl _) (.cons (.bl _) (.cons (.bl _) (.cons (.bl _) .nil)))), rfl, rfl, by decide, _, rfl, ei rfl ?_⟩
    have eD5 := eD.trans e5
    refine ⟨_, rfl, _, rfl, x, _, dd, _, _, _, rfl, .inl (eD5 _ _ hx), eD5 _ _ hd, T.X_Q39.cl, T.g_Q39, T.n_Q39_work, rfl, ?_⟩
    refine ⟨vd, .int (z : Nat), _, rfl, dC.same eD5, .int _, Nat.zero_le _, rfl, fun H6 s6 => ⟨_, rfl, ei (b := !true) rfl ?_⟩⟩
    exact ⟨_, _, _, _, _, _, _, _, rfl, T9.same ((sC.trans eD5).trans s6)⟩
 ·rintro σ H2 ⟨x3, x4, x5, x6, x7, x8, x9, xA, rfl, T2⟩
  exact k H2
end
set_option autoImplicit true in
set_option relaxedAutoImplicit true in
open PySem.W in
theorem all_mk {l : OpenLaw} {w : World} {K : Frag} {h : Heap} {mg : Str -> Option Value} {fa : Addr} (X : K.In h) (G : h.Ns mainGlobals mg) (hfa : mg "law" = some (.ref fa))
  (p_Q37 : nsIn K mainGlobals "copied" = some (some (.ref f_Q37))) (l_Q37 : K.lookup f_Q37 = some ⟨oc_Q37, od_Q37, .func (fnOf "copied" "copied" (aK jw) (aI jw) (au jw) .none kV_Q37 dc_Q37 pm_Q37 an_Q37 cd_Q37 ct_Q37), sl_Q37⟩) (c_Q37 : codeIn K cd_Q37 "copied" = true) (k_Q37 : keepIn K (.ref f_Q37) = true)
  (p_Q0 : nsIn K mainGlobals "greatest_divisor" = some (some (.ref f_Q0))) (l_Q0 : K.lookup f_Q0 = some ⟨oc_Q0, od_Q0, .func (fnOf "greatest_divisor" "greatest_divisor" (aK pZ) (aI pZ) (au pZ) .none kV_Q0 dc_Q0 pm_Q0 an_Q0 cd_Q0 ct_Q0), sl_Q0⟩) (c_Q0 : codeIn K cd_Q0 "greatest_divisor" = true) (k_Q0 : keepIn K (.ref f_Q0) = true)
  (p_Q44 : nsIn K mainGlobals "plus" = some (some (.ref f_Q44))) (l_Q44 : K.lookup f_Q44 = some ⟨oc_Q44, od_Q44, .func (fnOf "plus" "plus" (aK js) (aI js) (au js) .none kV_Q44 dc_Q44 pm_Q44 an_Q44 cd_Q44 ct_Q44), sl_Q44⟩) (c_Q44 : codeIn K cd_Q44 "plus" = true) (k_Q44 : keepIn K (.ref f_Q44) = true)
  (p_Q42 : nsIn K mainGlobals "minus" = some (some (.ref f_Q42))) (l_Q42 : K.lookup f_Q42 = some ⟨oc_Q42, od_Q42, .func (fnOf "minus" "minus" (aK ju) (aI ju) (au ju) .none kV_Q42 dc_Q42 pm_Q42 an_Q42 cd_Q42 ct_Q42), sl_Q42⟩) (c_Q42 : codeIn K cd_Q42 "minus" = true) (k_Q42 : keepIn K (.ref f_Q42) = true)
  (p_Q28 : nsIn K mainGlobals "is_less" = some (some (.ref f_Q28))) (l_Q28 : K.lookup f_Q28 = some ⟨oc_Q28, od_Q28, .func (fnOf "is_less" "is_less" (aK jB) (aI jB) (au jB) .none kV_Q28 dc_Q28 pm_Q28 an_Q28 cd_Q28 ct_Q28), sl_Q28⟩) (c_Q28 : codeIn K cd_Q28 "is_less" = true) (k_Q28 : keepIn K (.ref f_Q28) = true)
  (p_Q38 : nsIn K mainGlobals "lesser" = some (some (.ref f_Q38))) (l_Q38 : K.lookup f_Q38 = some ⟨oc_Q38, od_Q38, .func (fnOf "lesser" "lesser" (aK jv) (aI jv) (au jv) .none kV_Q38 dc_Q38 pm_Q38 an_Q38 cd_Q38 ct_Q38), sl_Q38⟩) (c_Q38 : codeIn K cd_Q38 "lesser" = true) (k_Q38 : keepIn K (.ref f_Q38) = true)
  (p_Q8 : nsIn K mainGlobals "in_window" = some (some (.ref f_Q8))) (l_Q8 : K.lookup f_Q8 = some ⟨oc_Q8, od_Q8, .func (fnOf "in_window" "in_window" (aK pR) (aI pR) (au pR) .none kV_Q8 dc_Q8 pm_Q8 an_Q8 cd_Q8 ct_Q8), sl_Q8⟩) (c_Q8 : codeIn K cd_Q8 "in_window" = true) (k_Q8 : keepIn K (.ref f_Q8) = true)
  (p_Q5 : nsIn K mainGlobals "no_leanings" = some (some (.ref f_Q5))) (l_Q5 : K.lookup f_Q5 = some ⟨oc_Q5, od_Q5, .func (fnOf "no_leanings" "no_leanings" (aK pU) (aI pU) (au pU) .none kV_Q5 dc_Q5 pm_Q5 an_Q5 cd_Q5 ct_Q5), sl_Q5⟩) (c_Q5 : codeIn K cd_Q5 "no_leanings" = true) (k_Q5 : keepIn K (.ref f_Q5) = true)
  (p_Q20 : nsIn K mainGlobals "add_lean" = some (some (.ref f_Q20))) (l_Q20 : K.lookup f_Q20 = some ⟨oc_Q20, od_Q20, .func (fnOf "add_lean" "add_lean" (aK jJ) (aI jJ) (au jJ) .none kV_Q20 dc_Q20 pm_Q20 an_Q20 cd_Q20 ct_Q20), sl_Q20⟩) (c_Q20 : codeIn K cd_Q20 "add_lean" = true) (k_Q20 : keepIn K (.ref f_Q20) = true)
  (p_Q3 : nsIn K mainGlobals "all_leanings" = some (some (.ref f_Q3))) (l_Q3 : K.lookup f_Q3 = some ⟨oc_Q3, od_Q3, .func (fnOf "all_leanings" "all_leanings" (aK pW) (aI pW) (au pW) .none kV_Q3 dc_Q3 pm_Q3 an_Q3 cd_Q3 ct_Q3), sl_Q3⟩) (c_Q3 : codeIn K cd_Q3 "all_leanings" = true) (k_Q3 : keepIn K (.ref f_Q3) = true)
  (p_Q2 : nsIn K mainGlobals "first_to_come" = some (some (.ref f_Q2))) (l_Q2 : K.lookup f_Q2 = some ⟨oc_Q2, od_Q2, .func (fnOf "first_to_come" "first_to_come" (aK pX) (aI pX) (au pX) .none kV_Q2 dc_Q2 pm_Q2 an_Q2 cd_Q2 ct_Q2), sl_Q2⟩) (c_Q2 : codeIn K cd_Q2 "first_to_come" = true) (k_Q2 : keepIn K (.ref f_Q2) = true)
  (p_Q21 : nsIn K mainGlobals "order_of" = some (some (.ref f_Q21))) (l_Q21 : K.lookup f_Q21 = some ⟨oc_Q21, od_Q21, .func (fnOf "order_of" "order_of" (aK jI) (aI jI) (au jI) .none kV_Q21 dc_Q21 pm_Q21 an_Q21 cd_Q21 ct_Q21), sl_Q21⟩) (c_Q21 : codeIn K cd_Q21 "order_of" = true) (k_Q21 : keepIn K (.ref f_Q21) = true)
  (p_Q9 : nsIn K mainGlobals "deal_turn" = some (some (.ref f_Q9))) (l_Q9 : K.lookup f_Q9 = some ⟨oc_Q9, od_Q9, .func (fnOf "deal_turn" "deal_turn" (aK pQ) (aI pQ) (au pQ) .none kV_Q9 dc_Q9 pm_Q9 an_Q9 cd_Q9 ct_Q9), sl_Q9⟩) (c_Q9 : codeIn K cd_Q9 "deal_turn" = true) (k_Q9 : keepIn K (.ref f_Q9) = true)
  (p_Q43 : nsIn K mainGlobals "dealt" = some (some (.ref f_Q43))) (l_Q43 : K.lookup f_Q43 = some ⟨oc_Q43, od_Q43, .func (fnOf "dealt" "dealt" (aK jt) (aI jt) (au jt) .none kV_Q43 dc_Q43 pm_Q43 an_Q43 cd_Q43 ct_Q43), sl_Q43⟩) (c_Q43 : codeIn K cd_Q43 "dealt" = true) (k_Q43 : keepIn K (.ref f_Q43) = true)
  (p_Q22 : nsIn K mainGlobals "_law_tape" = some (some (.ref f_Q22))) (l_Q22 : K.lookup f_Q22 = some ⟨oc_Q22, od_Q22, .func (fnOf "_law_tape" "_law_tape" (aK jH) (aI jH) (au jH) .none kV_Q22 dc_Q22 pm_Q22 an_Q22 cd_Q22 ct_Q22), sl_Q22⟩) (c_Q22 : codeIn K cd_Q22 "_law_tape" = true) (k_Q22 : keepIn K (.ref f_Q22) = true)
  (p_Q23 : nsIn K mainGlobals "_law_draw" = some (some (.ref f_Q23))) (l_Q23 : K.lookup f_Q23 = some ⟨oc_Q23, od_Q23, .func (fnOf "_law_draw" "_law_draw" (aK jG) (aI jG) (au jG) .none kV_Q23 dc_Q23 pm_Q23 an_Q23 cd_Q23 ct_Q23), sl_Q23⟩) (c_Q23 : codeIn K cd_Q23 "_law_draw" = true) (k_Q23 : keepIn K (.ref f_Q23) = true)
  (p_Q10 : nsIn K mainGlobals "_law_alike" = some (some (.ref f_Q10))) (l_Q10 : K.lookup f_Q10 = some ⟨oc_Q10, od_Q10, .func (fnOf "_law_alike" "_law_alike" (aK jR) (aI jR) (au jR) .none kV_Q10 dc_Q10 pm_Q10 an_Q10 cd_Q10 ct_Q10), sl_Q10⟩) (c_Q10 : codeIn K cd_Q10 "_law_alike" = true) (k_Q10 : keepIn K (.ref f_Q10) = true)
  (p_Q24 : nsIn K mainGlobals "_law_frac" = some (some (.ref f_Q24))) (l_Q24 : K.lookup f_Q24 = some ⟨oc_Q24, od_Q24, .func (fnOf "_law_frac" "_law_frac" (aK jF) (aI jF) (au jF) .none kV_Q24 dc_Q24 pm_Q24 an_Q24 cd_Q24 ct_Q24), sl_Q24⟩) (c_Q24 : codeIn K cd_Q24 "_law_frac" = true) (k_Q24 : keepIn K (.ref f_Q24) = true)
  (p_Q29 : nsIn K mainGlobals "_law_add" = some (some (.ref f_Q29))) (l_Q29 : K.lookup f_Q29 = some ⟨oc_Q29, od_Q29, .func (fnOf "_law_add" "_law_add" (aK jA) (aI jA) (au jA) .none kV_Q29 dc_Q29 pm_Q29 an_Q29 cd_Q29 ct_Q29), sl_Q29⟩) (c_Q29 : codeIn K cd_Q29 "_law_add" = true) (k_Q29 : keepIn K (.ref f_Q29) = true)
  (p_Q30 : nsIn K mainGlobals "_law_mul" = some (some (.ref f_Q30))) (l_Q30 : K.lookup f_Q30 = some ⟨oc_Q30, od_Q30, .func (fnOf "_law_mul" "_law_mul" (aK jz) (aI jz) (au jz) .none kV_Q30 dc_Q30 pm_Q30 an_Q30 cd_Q30 ct_Q30), sl_Q30⟩) (c_Q30 : codeIn K cd_Q30 "_law_mul" = true) (k_Q30 : keepIn K (.ref f_Q30) = true)
  (p_Q25 : nsIn K mainGlobals "_law_less" = some (some (.ref f_Q25))) (l_Q25 : K.lookup f_Q25 = some ⟨oc_Q25, od_Q25, .func (fnOf "_law_less" "_law_less" (aK jE) (aI jE) (au jE) .none kV_Q25 dc_Q25 pm_Q25 an_Q25 cd_Q25 ct_Q25), sl_Q25⟩) (c_Q25 : codeIn K cd_Q25 "_law_less" = true) (k_Q25 : keepIn K (.ref f_Q25) = true)
  (p_Q31 : nsIn K mainGlobals "_law_sum" = some (some (.ref f_Q31))) (l_Q31 : K.lookup f_Q31 = some ⟨oc_Q31, od_Q31, .func (fnOf "_law_sum" "_law_sum" (aK jy) (aI jy) (au jy) .none kV_Q31 dc_Q31 pm_Q31 an_Q31 cd_Q31 ct_Q31), sl_Q31⟩) (c_Q31 : codeIn K cd_Q31 "_law_sum" = true) (k_Q31 : keepIn K (.ref f_Q31) = true)
  (p_Q11 : nsIn K mainGlobals "_law_works" = some (some (.ref f_Q11))) (l_Q11 : K.lookup f_Q11 = some ⟨oc_Q11, od_Q11, .func (fnOf "_law_works" "_law_works" (aK jQ) (aI jQ) (au jQ) .none kV_Q11 dc_Q11 pm_Q11 an_Q11 cd_Q11 ct_Q11), sl_Q11⟩) (c_Q11 : codeIn K cd_Q11 "_law_works" = true) (k_Q11 : keepIn K (.ref f_Q11) = true)
  (p_Q12 : nsIn K mainGlobals "_law_units" = some (some (.ref f_Q12))) (l_Q12 : K.lookup f_Q12 = some ⟨oc_Q12, od_Q12, .func (fnOf "_law_units" "_law_units" (aK jP) (aI jP) (au jP) .none kV_Q12 dc_Q12 pm_Q12 an_Q12 cd_Q12 ct_Q12), sl_Q12⟩) (c_Q12 : codeIn K cd_Q12 "_law_units" = true) (k_Q12 : keepIn K (.ref f_Q12) = true)
  (p_Q4 : nsIn K mainGlobals "_law_tightest" = some (some (.ref f_Q4))) (l_Q4 : K.lookup f_Q4 = some ⟨oc_Q4, od_Q4, .func (fnOf "_law_tightest" "_law_tightest" (aK pV) (aI pV) (au pV) .none kV_Q4 dc_Q4 pm_Q4 an_Q4 cd_Q4 ct_Q4), sl_Q4⟩) (c_Q4 : codeIn K cd_Q4 "_law_tightest" = true) (k_Q4 : keepIn K (.ref f_Q4) = true)
  (p_Q6 : nsIn K mainGlobals "_law_layers" = some (some (.ref f_Q6))) (l_Q6 : K.lookup f_Q6 = some ⟨oc_Q6, od_Q6, .func (fnOf "_law_layers" "_law_layers" (aK pT) (aI pT) (au pT) .none kV_Q6 dc_Q6 pm_Q6 an_Q6 cd_Q6 ct_Q6), sl_Q6⟩) (c_Q6 : codeIn K cd_Q6 "_law_layers" = true) (k_Q6 : keepIn K (.ref f_Q6) = true)
  (p_Q26 : nsIn K mainGlobals "_law_pace" = some (some (.ref f_Q26))) (l_Q26 : K.lookup f_Q26 = some ⟨oc_Q26, od_Q26, .func (fnOf "_law_pace" "_law_pace" (aK jD) (aI jD) (au jD) .none kV_Q26 dc_Q26 pm_Q26 an_Q26 cd_Q26 ct_Q26), sl_Q26⟩) (c_Q26 : codeIn K cd_Q26 "_law_pace" = true) (k_Q26 : keepIn K (.ref f_Q26) = true)
  (p_Q7 : nsIn K mainGlobals "_law_speeds" = some (some (.ref f_Q7))) (l_Q7 : K.lookup f_Q7 = some ⟨oc_Q7, od_Q7, .func (fnOf "_law_speeds" "_law_speeds" (aK pS) (aI pS) (au pS) .none kV_Q7 dc_Q7 pm_Q7 an_Q7 cd_Q7 ct_Q7), sl_Q7⟩) (c_Q7 : codeIn K cd_Q7 "_law_speeds" = true) (k_Q7 : keepIn K (.ref f_Q7) = true)
  (p_Q13 : nsIn K mainGlobals "_law_above" = some (some (.ref f_Q13))) (l_Q13 : K.lookup f_Q13 = some ⟨oc_Q13, od_Q13, .func (fnOf "_law_above" "_law_above" (aK jO) (aI jO) (au jO) .none kV_Q13 dc_Q13 pm_Q13 an_Q13 cd_Q13 ct_Q13), sl_Q13⟩) (c_Q13 : codeIn K cd_Q13 "_law_above" = true) (k_Q13 : keepIn K (.ref f_Q13) = true)
  (p_Q14 : nsIn K mainGlobals "_law_leans" = some (some (.ref f_Q14))) (l_Q14 : K.lookup f_Q14 = some ⟨oc_Q14, od_Q14, .func (fnOf "_law_leans" "_law_leans" (aK jN) (aI jN) (au jN) .none kV_Q14 dc_Q14 pm_Q14 an_Q14 cd_Q14 ct_Q14), sl_Q14⟩) (c_Q14 : codeIn K cd_Q14 "_law_leans" = true) (k_Q14 : keepIn K (.ref f_Q14) = true)
  (p_Q32 : nsIn K mainGlobals "_law_key" = some (some (.ref f_Q32))) (l_Q32 : K.lookup f_Q32 = some ⟨oc_Q32, od_Q32, .func (fnOf "_law_key" "_law_key" (aK jx) (aI jx) (au jx) .none kV_Q32 dc_Q32 pm_Q32 an_Q32 cd_Q32 ct_Q32), sl_Q32⟩) (c_Q32 : codeIn K cd_Q32 "_law_key" = true) (k_Q32 : keepIn K (.ref f_Q32) = true)
  (p_Q27 : nsIn K mainGlobals "_law_next" = some (some (.ref f_Q27))) (l_Q27 : K.lookup f_Q27 = some ⟨oc_Q27, od_Q27, .func (fnOf "_law_next" "_law_next" (aK jC) (aI jC) (au jC) .none kV_Q27 dc_Q27 pm_Q27 an_Q27 cd_Q27 ct_Q27), sl_Q27⟩) (c_Q27 : codeIn K cd_Q27 "_law_next" = true) (k_Q27 : keepIn K (.ref f_Q27) = true)
  (p_Q15 : nsIn K mainGlobals "_law_dealt" = some (some (.ref f_Q15))) (l_Q15 : K.lookup f_Q15 = some ⟨oc_Q15, od_Q15, .func (fnOf "_law_dealt" "_law_dealt" (aK jM) (aI jM) (au jM) .none kV_Q15 dc_Q15 pm_Q15 an_Q15 cd_Q15 ct_Q15), sl_Q15⟩) (c_Q15 : codeIn K cd_Q15 "_law_dealt" = true) (k_Q15 : keepIn K (.ref f_Q15) = true)
  (p_Q16 : nsIn K mainGlobals "_law_marks" = some (some (.ref f_Q16))) (l_Q16 : K.lookup f_Q16 = some ⟨oc_Q16, od_Q16, .func (fnOf "_law_marks" "_law_marks" (aK jL) (aI jL) (au jL) .none kV_Q16 dc_Q16 pm_Q16 an_Q16 cd_Q16 ct_Q16), sl_Q16⟩) (c_Q16 : codeIn K cd_Q16 "_law_marks" = true) (k_Q16 : keepIn K (.ref f_Q16) = true)
  (p_Q1 : nsIn K mainGlobals "_law_some_speeds" = some (some (.ref f_Q1))) (l_Q1 : K.lookup f_Q1 = some ⟨oc_Q1, od_Q1, .func (fnOf "_law_some_speeds" "_law_some_speeds" (aK pY) (aI pY) (au pY) .none kV_Q1 dc_Q1 pm_Q1 an_Q1 cd_Q1 ct_Q1), sl_Q1⟩) (c_Q1 : codeIn K cd_Q1 "_law_some_speeds" = true) (k_Q1 : keepIn K (.ref f_Q1) = true)
  (p_Q17 : nsIn K mainGlobals "_law_tried" = some (some (.ref f_Q17))) (l_Q17 : K.lookup f_Q17 = some ⟨oc_Q17, od_Q17, .func (fnOf "_law_tried" "_law_tried" (aK jK) (aI jK) (au jK) .none kV_Q17 dc_Q17 pm_Q17 an_Q17 cd_Q17 ct_Q17), sl_Q17⟩) (c_Q17 : codeIn K cd_Q17 "_law_tried" = true) (k_Q17 : keepIn K (.ref f_Q17) = true)
  {f_Q45 : Addr} {od_Q45 an_Q45 : Option Addr} {sl_Q45 : Array (Option Value)} {oc_Q45 kV_Q45 dc_Q45 pm_Q45 cd_Q45 ct_Q45 : Value}
  (p_Q45 : nsIn K mainGlobals "law" = some (some (.ref f_Q45))) (l_Q45 : K.lookup f_Q45 = some ⟨oc_Q45, od_Q45, .func (fnOf "law" "law" (aK gq) (aI gq) (au gq) .none kV_Q45 dc_Q45 pm_Q45 an_Q45 cd_Q45 ct_Q45), sl_Q45⟩) (c_Q45 : codeIn K cd_Q45 "law" = true) (k_Q45 : keepIn K (.ref f_Q45) = true)
  {f_NOUGHT : Addr} {od_NOUGHT : Option Addr} {sl_NOUGHT : Array (Option Value)} {tkNOUGHT0 tkNOUGHT1 : Tok} {n_NOUGHT : Nat} (p_NOUGHT : nsIn K mainGlobals "NOUGHT" = some (some (.ref f_NOUGHT))) (l_NOUGHT : K.lookup f_NOUGHT = some ⟨.type "tuple", od_NOUGHT, .seq #[.int (0) tkNOUGHT0, .int (1) tkNOUGHT1] n_NOUGHT, sl_NOUGHT⟩)
  {tkTURNS : Tok} (p_TURNS : nsIn K mainGlobals "TURNS" = some (some (.int (24) tkTURNS)))
  {cB NB : Addr} {nmB qB : Str} {bsB : List Value} {hdB : Bool} {snB : List Str} {suB : List Value} {abB : Bool} {coB : Option Bool} {ddB : Option Addr} {j0 j1 j2 j3 j5 : Option Value} {ocB : Value} {odB : Option Addr} {esB : Array DictEntry} {nB : Nat} {slB : Array (Option Value)}
  (pB : nsIn K mainGlobals "PaceError" = some (some (.ref cB))) (lB : K.lookup cB = some (excClassObj nmB qB cB NB bsB [.type "ValueError", .type "Exception", .type "BaseException", .type "object"] hdB snB suB abB coB ddB j0 j1 j2 j3 j5 "ValueError.__new__")) (lnB : K.lookup NB = some ⟨ocB, odB, .dict esB nB, slB⟩) (hsB : iC esB = true) (hnB : (nsFind esB "__init__").isNone = true)
  (cgB : specialIn K (.builtin "object.__class__") "__get__" = some (some (.builtin "getset_descriptor.__get__"))) (ctB : takesIn K (.builtin "object.__class__") = some true)
  {c_Q39 N_Q39 i_Q39 : Addr} {nm_Q39 q_Q39 : Str} {bs_Q39 : List Value} {hd_Q39 : Bool} {sn_Q39 : List Str} {su_Q39 : List Value} {ab_Q39 : Bool} {co_Q39 : Option Bool} {dd_Q39 : Option Addr} {k0_Q39 k1_Q39 k2_Q39 k3_Q39 k5_Q39 : Option Value} {od_Q39 an_Q39 : Option Addr} {sl_Q39 : Array (Option Value)} {oc_Q39 kV_Q39 dc_Q39 pm_Q39 cd_Q39 ct_Q39 : Value}
  (p_Q39 : nsIn K mainGlobals "NoRoom" = some (some (.ref c_Q39))) (lc_Q39 : K.lookup c_Q39 = some (excClassObj nm_Q39 q_Q39 c_Q39 N_Q39 bs_Q39 (.ref cB :: [.type "ValueError", .type "Exception", .type "BaseException", .type "object"]) hd_Q39 sn_Q39 su_Q39 ab_Q39 co_Q39 dd_Q39 k0_Q39 k1_Q39 k2_Q39 k3_Q39 k5_Q39 "ValueError.__new__")) (fi_Q39 : findIn K (.ref c_Q39) "__init__" = some (some (.ref i_Q39)))
  (l_Q39 : K.lookup i_Q39 = some ⟨oc_Q39, od_Q39, .func (fnOf "__init__" "NoRoom.__init__" (aK gr) (aI gr) (au gr) .none kV_Q39 dc_Q39 pm_Q39 an_Q39 cd_Q39 ct_Q39), sl_Q39⟩) (cd_Q39_ : codeIn K cd_Q39 "NoRoom.__init__" = true) (ki_Q39 : keepIn K (.ref i_Q39) = true) (ti_Q39 : typeIn K (.ref i_Q39) = some (.type "function")) (kc_Q39 : keepIn K (.ref c_Q39) = true)
  (hh_Q39 : hasDictIn K c_Q39 = true) (sa_Q39 : findIn K (.ref c_Q39) "__setattr__" = some (some (.builtin "object.__setattr__")))
  (na_Q39_work : findIn K (.ref c_Q39) "work" = some none) (ga_Q39 : findIn K (.ref c_Q39) "__getattribute__" = some (some (.builtin "BaseException.__getattribute__"))) (gn_Q39 : findIn K (.ref c_Q39) "__getattr__" = some none) (cl_Q39 : findIn K (.ref c_Q39) "__class__" = some (some (.builtin "object.__class__")))
  {c_Q18 : Addr} (p_Q18 : nsIn K mainGlobals "PaceError" = some (some (.ref c_Q18)))
  {c_Q33 : Addr} (p_Q33 : nsIn K mainGlobals "NoLeast" = some (some (.ref c_Q33)))
  {c_Q40 : Addr} (p_Q40 : nsIn K mainGlobals "NoPlan" = some (some (.ref c_Q40)))
  {c_Q34 : Addr} (p_Q34 : nsIn K mainGlobals "NoPrice" = some (some (.ref c_Q34)))
  {c_Q41 : Addr} (p_Q41 : nsIn K mainGlobals "NoMuch" = some (some (.ref c_Q41)))
  {c_Q35 : Addr} (p_Q35 : nsIn K mainGlobals "NoSheet" = some (some (.ref c_Q35)))
  {c_Q36 : Addr} (p_Q36 : nsIn K mainGlobals "NoSpeed" = some (some (.ref c_Q36)))
  {c_Q19 : Addr} (p_Q19 : nsIn K mainGlobals "NoStretch" = some (some (.ref c_Q19)))
  (w_x_catch : exmOne K (.ref c_Q39) (.ref c_Q18) = some true)
  (w_y_self : kitOne K (.ref c_Q39) (.ref c_Q39) = some true)
  (w_y_base : kitOne K (.ref c_Q39) (.ref c_Q18) = some true)
  (w_y_val : kitOne K (.ref c_Q39) (.type "ValueError") = some true)
  (w_y_not : kitAny K (.ref c_Q39) [.ref c_Q33, .ref c_Q41, .ref c_Q40, .ref c_Q34, .ref c_Q35, .ref c_Q36, .ref c_Q19] = some false)
  (z_ValueError : nsIn K mainGlobals "ValueError" = some none)
  (z_abs : nsIn K mainGlobals "abs" = some none)
  (z_all : nsIn K mainGlobals "all" = some none)
  (z_any : nsIn K mainGlobals "any" = some none)
  (z_bool : nsIn K mainGlobals "bool" = some none)
  (z_enumerate : nsIn K mainGlobals "enumerate" = some none)
  (z_int : nsIn K mainGlobals "int" = some none)
  (z_isinstance : nsIn K mainGlobals "isinstance" = some none)
  (z_len : nsIn K mainGlobals "len" = some none)
  (z_list : nsIn K mainGlobals "list" = some none)
  (z_max : nsIn K mainGlobals "max" = some none)
  (z_min : nsIn K mainGlobals "min" = some none)
  (z_range : nsIn K mainGlobals "range" = some none)
  (z_repr : nsIn K mainGlobals "repr" = some none)
  (z_sorted : nsIn K mainGlobals "sorted" = some none)
  (z_str : nsIn K mainGlobals "str" = some none)
  (z_sum : nsIn K mainGlobals "sum" = some none)
  (z_tuple : nsIn K mainGlobals "tuple" = some none)
  : ∃ fd : FuncData, (∀ (s : Shared) (v : Value), BindsTo s fd ⟨[v], []⟩ [("_law_script", v)]) /\ ∀ base : Heap, K.In base -> base.Ns mainGlobals mg -> bB l.prog w K mg base dI 7 fa fd ["_law_script"] (kJ K) := by
 have e := hfa.symm.trans (mg_of X G p_Q45)
 cases e
 obtain ⟨d_Q37, F_Q37⟩ : ∃ d, Fun K "copied" "copied" jw f_Q37 d := ⟨_, bf l_Q37 c_Q37 k_Q37⟩
 obtain ⟨d_Q0, F_Q0⟩ : ∃ d, Fun K "greatest_divisor" "greatest_divisor" pZ f_Q0 d := ⟨_, bf l_Q0 c_Q0 k_Q0⟩
 obtain ⟨d_Q44, F_Q44⟩ : ∃ d, Fun K "plus" "plus" js f_Q44 d := ⟨_, bf l_Q44 c_Q44 k_Q44⟩
 obtain ⟨d_Q42, F_Q42⟩ : ∃ d, Fun K "minus" "minus" ju f_Q42 d := ⟨_, bf l_Q42 c_Q42 k_Q42⟩
 obtain ⟨d_Q28, F_Q28⟩ : ∃ d, Fun K "is_less" "is_less" jB f_Q28 d := ⟨_, bf l_Q28 c_Q28 k_Q28⟩
 obtain ⟨d_Q38, F_Q38⟩ : ∃ d, Fun K "lesser" "lesser" jv f_Q38 d := ⟨_, bf l_Q38 c_Q38 k_Q38⟩
 obtain ⟨d_Q8, F_Q8⟩ : ∃ d, Fun K "in_window" "in_window" pR f_Q8 d := ⟨_, bf l_Q8 c_Q8 k_Q8⟩
 obtain ⟨d_Q5, F_Q5⟩ : ∃ d, Fun K "no_leanings" "no_leanings" pU f_Q5 d := ⟨_, bf l_Q5 c_Q5 k_Q5⟩
 obtain ⟨d_Q20, F_Q20⟩ : ∃ d, Fun K "add_lean" "add_lean" jJ f_Q20 d := ⟨_, bf l_Q20 c_Q20 k_Q20⟩
 obtain ⟨d_Q3, F_Q3⟩ : ∃ d, Fun K "all_leanings" "all_leanings" pW f_Q3 d := ⟨_, bf l_Q3 c_Q3 k_Q3⟩
 obtain ⟨d_Q2, F_Q2⟩ : ∃ d, Fun K "first_to_come" "first_to_come" pX f_Q2 d := ⟨_, bf l_Q2 c_Q2 k_Q2⟩
 obtain ⟨d_Q21, F_Q21⟩ : ∃ d, Fun K "order_of" "order_of" jI f_Q21 d := ⟨_, bf l_Q21 c_Q21 k_Q21⟩
 obtain ⟨d_Q9, F_Q9⟩ : ∃ d, Fun K "deal_turn" "deal_turn" pQ f_Q9 d := ⟨_, bf l_Q9 c_Q9 k_Q9⟩
 have b_Q9 := F_Q9.binds (ps := ["works", "order", "left", "turn", "speed"]) fun _ _ _ _ _ _ us hl => match us, hl with | [_, _, _, _, _], _ => rfl
 obtain ⟨d_Q43, F_Q43⟩ : ∃ d, Fun K "dealt" "dealt" jt f_Q43 d := ⟨_, bf l_Q43 c_Q43 k_Q43⟩
 obtain ⟨d_Q22, F_Q22⟩ : ∃ d, Fun K "_law_tape" "_law_tape" jH f_Q22 d := ⟨_, bf l_Q22 c_Q22 k_Q22⟩
 obtain ⟨d_Q23, F_Q23⟩ : ∃ d, Fun K "_law_draw" "_law_draw" jG f_Q23 d := ⟨_, bf l_Q23 c_Q23 k_Q23⟩
 obtain ⟨d_Q10, F_Q10⟩ : ∃ d, Fun K "_law_alike" "_law_alike" jR f_Q10 d := ⟨_, bf l_Q10 c_Q10 k_Q10⟩
 obtain ⟨d_Q24, F_Q24⟩ : ∃ d, Fun K "_law_frac" "_law_frac" jF f_Q24 d := ⟨_, bf l_Q24 c_Q24 k_Q24⟩
 obtain ⟨d_Q29, F_Q29⟩ : ∃ d, Fun K "_law_add" "_law_add" jA f_Q29 d := ⟨_, bf l_Q29 c_Q29 k_Q29⟩
 obtain ⟨d_Q30, F_Q30⟩ : ∃ d, Fun K "_law_mul" "_law_mul" jz f_Q30 d := ⟨_, bf l_Q30 c_Q30 k_Q30⟩
 obtain ⟨d_Q25, F_Q25⟩ : ∃ d, Fun K "_law_less" "_law_less" jE f_Q25 d := ⟨_, bf l_Q25 c_Q25 k_Q25⟩
 obtain ⟨d_Q31, F_Q31⟩ : ∃ d, Fun K "_law_sum" "_law_sum" jy f_Q31 d := ⟨_, bf l_Q31 c_Q31 k_Q31⟩
 obtain ⟨d_Q11, F_Q11⟩ : ∃ d, Fun K "_law_works" "_law_works" jQ f_Q11 d := ⟨_, bf l_Q11 c_Q11 k_Q11⟩
 obtain ⟨d_Q12, F_Q12⟩ : ∃ d, Fun K "_law_units" "_law_units" jP f_Q12 d := ⟨_, bf l_Q12 c_Q12 k_Q12⟩
 obtain ⟨d_Q4, F_Q4⟩ : ∃ d, Fun K "_law_tightest" "_law_tightest" pV f_Q4 d := ⟨_, bf l_Q4 c_Q4 k_Q4⟩
 obtain ⟨d_Q6, F_Q6⟩ : ∃ d, Fun K "_law_layers" "_law_layers" pT f_Q6 d := ⟨_, bf l_Q6 c_Q6 k_Q6⟩
 obtain ⟨d_Q26, F_Q26⟩ : ∃ d, Fun K "_law_pace" "_law_pace" jD f_Q26 d := ⟨_, bf l_Q26 c_Q26 k_Q26⟩
 obtain ⟨d_Q7, F_Q7⟩ : ∃ d, Fun K "_law_speeds" "_law_speeds" pS f_Q7 d := ⟨_, bf l_Q7 c_Q7 k_Q7⟩
 obtain ⟨d_Q13, F_Q13⟩ : ∃ d, Fun K "_law_above" "_law_above" jO f_Q13 d := ⟨_, bf l_Q13 c_Q13 k_Q13⟩
 obtain ⟨d_Q14, F_Q14⟩ : ∃ d, Fun K "_law_leans" "_law_leans" jN f_Q14 d := ⟨_, bf l_Q14 c_Q14 k_Q14⟩
 obtain ⟨d_Q32, F_Q32⟩ : ∃ d, Fun K "_law_key" "_law_key" jx f_Q32 d := ⟨_, bf l_Q32 c_Q32 k_Q32⟩
 obtain ⟨d_Q27, F_Q27⟩ : ∃ d, Fun K "_law_next" "_law_next" jC f_Q27 d := ⟨_, bf l_Q27 c_Q27 k_Q27⟩
 obtain ⟨d_Q15, F_Q15⟩ : ∃ d, Fun K "_law_dealt" "_law_dealt" jM f_Q15 d := ⟨_, bf l_Q15 c_Q15 k_Q15⟩
 obtain ⟨d_Q16, F_Q16⟩ : ∃ d, Fun K "_law_marks" "_law_marks" jL f_Q16 d := ⟨_, bf l_Q16 c_Q16 k_Q16⟩
 obtain ⟨d_Q1, F_Q1⟩ : ∃ d, Fun K "_law_some_speeds" "_law_some_speeds" pY f_Q1 d := ⟨_, bf l_Q1 c_Q1 k_Q1⟩
 obtain ⟨d_Q17, F_Q17⟩ : ∃ d, Fun K "_law_tried" "_law_tried" jK f_Q17 d := ⟨_, bf l_Q17 c_Q17 k_Q17⟩
 have F_Q45 := bf (st := gq) l_Q45 c_Q45 k_Q45
 have F_Q39 := bf (st := gr) l_Q39 cd_Q39_ ki_Q39
 have T : eQ K mg ⟨f_Q37, d_Q37, f_Q0, d_Q0, f_Q44, d_Q44, f_Q42, d_Q42, f_Q28, d_Q28, f_Q38, d_Q38, f_Q8, d_Q8, f_Q5, d_Q5, f_Q20, d_Q20, f_Q3, d_Q3, f_Q2, d_Q2, f_Q21, d_Q21, f_Q9, d_Q9, f_Q43, d_Q43, f_Q22, d_Q22, f_Q23, d_Q23, f_Q10, d_Q10, f_Q24, d_Q24, f_Q29, d_Q29, f_Q30, d_Q30, f_Q25, d_Q25, f_Q31, d_Q31, f_Q11, d_Q11, f_Q12, d_Q12, f_Q4, d_Q4, f_Q6, d_Q6, f_Q26, d_Q26, f_Q7, d_Q7, f_Q13, d_Q13, f_Q14, d_Q14, f_Q32, d_Q32, f_Q27, d_Q27, f_Q15, d_Q15, f_Q16, d_Q16, f_Q1, d_Q1, f_Q17, d_Q17, fa, fnOf "law" "law" (aK gq) (aI gq) (au gq) .none kV_Q45 dc_Q45 pm_Q45 an_Q45 cd_Q45 ct_Q45, f_NOUGHT, tkTURNS, cB, c_Q39, i_Q39, fnOf "__init__" "NoRoom.__init__" (aK gr) (aI gr) (au gr) .none kV_Q39 dc_Q39 pm_Q39 an_Q39 cd_Q39 ct_Q39, c_Q18, c_Q33, c_Q40, c_Q34, c_Q41, c_Q35, c_Q36, c_Q19⟩ := {
  F_Q37 := F_Q37, b_Q37 := ft F_Q37, m_Q37 := mg_of X G p_Q37,
  F_Q0 := F_Q0, b_Q0 := ft F_Q0, m_Q0 := mg_of X G p_Q0,
  F_Q44 := F_Q44, b_Q44 := ft F_Q44, m_Q44 := mg_of X G p_Q44,
  F_Q42 := F_Q42, b_Q42 := ft F_Q42, m_Q42 := mg_of X G p_Q42,
  F_Q28 := F_Q28, b_Q28 := ft F_Q28, m_Q28 := mg_of X G p_Q28,
  F_Q38 := F_Q38, b_Q38 := ft F_Q38, m_Q38 := mg_of X G p_Q38,
  F_Q8 := F_Q8, b_Q8 := ft F_Q8, m_Q8 := mg_of X G p_Q8,
  F_Q5 := F_Q5, b_Q5 := ft F_Q5, m_Q5 := mg_of X G p_Q5,
  F_Q20 := F_Q20, b_Q20 := ft F_Q20, m_Q20 := mg_of X G p_Q20,
  F_Q3 := F_Q3, b_Q3 := ft F_Q3, m_Q3 := mg_of X G p_Q3,
  F_Q2 := F_Q2, b_Q2 := ft F_Q2, m_Q2 := mg_of X G p_Q2,
  F_Q21 := F_Q21, b_Q21 := ft F_Q21, m_Q21 := mg_of X G p_Q21,
  F_Q9 := F_Q9, b_Q9 := b_Q9, m_Q9 := mg_of X G p_Q9,
  F_Q43 := F_Q43, b_Q43 := ft F_Q43, m_Q43 := mg_of X G p_Q43,
  F_Q22 := F_Q22, b_Q22 := ft F_Q22, m_Q22 := mg_of X G p_Q22,
  F_Q23 := F_Q23, b_Q23 := ft F_Q23, m_Q23 := mg_of X G p_Q23,
  F_Q10 := F_Q10, b_Q10 := ft F_Q10, m_Q10 := mg_of X G p_Q10,
  F_Q24 := F_Q24, b_Q24 := ft F_Q24, m_Q24 := mg_of X G p_Q24,
  F_Q29 := F_Q29, b_Q29 := ft F_Q29, m_Q29 := mg_of X G p_Q29,
  F_Q30 := F_Q30, b_Q30 := ft F_Q30, m_Q30 := mg_of X G p_Q30,
  F_Q25 := F_Q25, b_Q25 := ft F_Q25, m_Q25 := mg_of X G p_Q25,
  F_Q31 := F_Q31, b_Q31 := ft F_Q31, m_Q31 := mg_of X G p_Q31,
  F_Q11 := F_Q11, b_Q11 := ft F_Q11, m_Q11 := mg_of X G p_Q11,
  F_Q12 := F_Q12, b_Q12 := ft F_Q12, m_Q12 := mg_of X G p_Q12,
  F_Q4 := F_Q4, b_Q4 := ft F_Q4, m_Q4 := mg_of X G p_Q4,
  F_Q6 := F_Q6, b_Q6 := ft F_Q6, m_Q6 := mg_of X G p_Q6,
  F_Q26 := F_Q26, b_Q26 := ft F_Q26, m_Q26 := mg_of X G p_Q26,
  F_Q7 := F_Q7, b_Q7 := ft F_Q7, m_Q7 := mg_of X G p_Q7,
  F_Q13 := F_Q13, b_Q13 := ft F_Q13, m_Q13 := mg_of X G p_Q13,
  F_Q14 := F_Q14, b_Q14 := ft F_Q14, m_Q14 := mg_of X G p_Q14,
  F_Q32 := F_Q32, b_Q32 := ft F_Q32, m_Q32 := mg_of X G p_Q32,
  F_Q27 := F_Q27, b_Q27 := ft F_Q27, m_Q27 := mg_of X G p_Q27,
  F_Q15 := F_Q15, b_Q15 := ft F_Q15, m_Q15 := mg_of X G p_Q15,
  F_Q16 := F_Q16, b_Q16 := ft F_Q16, m_Q16 := mg_of X G p_Q16,
  F_Q1 := F_Q1, b_Q1 := ft F_Q1, m_Q1 := mg_of X G p_Q1,
  F_Q17 := F_Q17, b_Q17 := ft F_Q17, m_Q17 := mg_of X G p_Q17,
  F_Q45 := F_Q45, b_Q45 := ft F_Q45, m_Q45 := mg_of X G p_Q45,
  m_NOUGHT := mg_of X G p_NOUGHT, q_NOUGHT := fun H => .inr ⟨_, _, _, l_NOUGHT, rfl, rfl, km, (.cons ⟨_, rfl⟩ (.cons ⟨_, rfl⟩ .nil))⟩,
  m_TURNS := mg_of X G p_TURNS,
  X_Q39 := yZ lc_Q39 lB lnB hsB hnB fi_Q39 ti_Q39 kc_Q39 hh_Q39 sa_Q39, F_Q39 := F_Q39, b_Q39 := ft F_Q39, m_Q39 := mg_of X G p_Q39, n_Q39_work := na_Q39_work, g_Q39 := ⟨ga_Q39, gn_Q39, cl_Q39, cgB, ctB⟩,
  m_Q18 := mg_of X G p_Q18,
  m_Q33 := mg_of X G p_Q33,
  m_Q40 := mg_of X G p_Q40,
  m_Q34 := mg_of X G p_Q34,
  m_Q41 := mg_of X G p_Q41,
  m_Q35 := mg_of X G p_Q35,
  m_Q36 := mg_of X G p_Q36,
  m_Q19 := mg_of X G p_Q19,
  x_catch := w_x_catch,
  y_self := w_y_self,
  y_base := w_y_base,
  y_val := w_y_val,
  y_not := w_y_not,
  z_ValueError := mg_none_of X G z_ValueError, z_abs := mg_none_of X G z_abs, z_all := mg_none_of X G z_all, z_any := mg_none_of X G z_any, z_bool := mg_none_of X G z_bool, z_enumerate := mg_none_of X G z_enumerate, z_int := mg_none_of X G z_int, z_isinstance := mg_none_of X G z_isinstance, z_len := mg_none_of X G z_len, z_list := mg_none_of X G z_list, z_max := mg_none_of X G z_max, z_min := mg_none_of X G z_min, z_range := mg_none_of X G z_range, z_repr := mg_none_of X G z_repr, z_sorted := mg_none_of X G z_sorted, z_str := mg_none_of X G z_str, z_sum := mg_none_of X G z_sum, z_tuple := mg_none_of X G z_tuple }
 exact ⟨_, fun s v => .of_eq rfl, fun base _ _ => xz T⟩
theorem walk {l : PySem.W.OpenLaw} {q : Program} {loose : List Str} {XP : (Str -> Option Value) -> Heap -> Prop} {YP : World -> Heap -> Prop} {d : DefRec} {K : Params -> Fg} (hn : l.most = some 63) (hdf : d.params.defaults = [])
  (hY : ∀ (w : World) (h : Heap), YP w h -> (K w.params).In h)
  (F : ∀ (w : World) (mg : Str -> Option Value) (fa : Addr) (h : Heap), (K w.params).In h -> h.Ns mainGlobals mg -> mg d.name = some (.ref fa) →
   ∃ fd : FuncData, (∀ (s : Shared) (u : Value), BindsTo s fd ⟨[u], []⟩ [("_law_script", u)]) /\ ∀ base : Heap, (K w.params).In base -> base.Ns mainGlobals mg -> bB l.prog w (K w.params) mg base dI 7 fa fd ["_law_script"] (kJ (K w.params))) :
  PySem.W.WalkO q loose XP YP l.row.toRowW d [] (fun f vs => PySem.call f vs) :=
 L2.walk_of (n := 63) (k := 7) (x := "_law_script") (CX := fun _ => dI) (sp := fun w => kJ (K w.params)) hn (by decide) hdf ⟨rfl, by decide, by decide, rfl⟩ hY F (fun _ _ a ns hl _ hS => ⟨a, ns, rfl, hS, hl, fun _ => rfl⟩) fun _ _ _ _ _ z => z
end My
open PySem PySem.W PyProof.Rows
set_option maxRecDepth 100000 in
set_option maxHeartbeats 0 in
theorem PySem.Challenge.cw_paceplan_k33_works_dealt_holds : PySem.Challenge.rw_paceplan_k33_works_dealt.Holds := by
 w_on; refine HWtop ?_
 k_fill
 refine My.walk (l := PySem.Challenge.rw_paceplan_k33_works_dealt) rfl rfl (fun w h Y => PySem.W.kIn_of Y) ?F
 case F =>
  intro w mg fa h KX G hmg
  refine' My.all_mk KX G hmg ?p_Q37 ?l_Q37 ?c_Q37 ?k_Q37 ?p_Q0 ?l_Q0 ?c_Q0 ?k_Q0 ?p_Q44 ?l_Q44 ?c_Q44 ?k_Q44 ?p_Q42 ?l_Q42 ?c_Q42 ?k_Q42 ?p_Q28 ?l_Q28 ?c_Q28 ?k_Q28 ?p_Q38 ?l_Q38 ?c_Q38 ?k_Q38 ?p_Q8 ?l_Q8 ?c_Q8 ?k_Q8 ?p_Q5 ?l_Q5 ?c_Q5 ?k_Q5 ?p_Q20 ?l_Q20 ?c_Q20 ?k_Q20 ?p_Q3 ?l_Q3 ?c_Q3 ?k_Q3 ?p_Q2 ?l_Q2 ?c_Q2 ?k_Q2 ?p_Q21 ?l_Q21 ?c_Q21 ?k_Q21 ?p_Q9 ?l_Q9 ?c_Q9 ?k_Q9 ?p_Q43 ?l_Q43 ?c_Q43 ?k_Q43 ?p_Q22 ?l_Q22 ?c_Q22 ?k_Q22 ?p_Q23 ?l_Q23 ?c_Q23 ?k_Q23 ?p_Q10 ?l_Q10 ?c_Q10 ?k_Q10 ?p_Q24 ?l_Q24 ?c_Q24 ?k_Q24 ?p_Q29 ?l_Q29 ?c_Q29 ?k_Q29 ?p_Q30 ?l_Q30 ?c_Q30 ?k_Q30 ?p_Q25 ?l_Q25 ?c_Q25 ?k_Q25 ?p_Q31 ?l_Q31 ?c_Q31 ?k_Q31 ?p_Q11 ?l_Q11 ?c_Q11 ?k_Q11 ?p_Q12 ?l_Q12 ?c_Q12 ?k_Q12 ?p_Q4 ?l_Q4 ?c_Q4 ?k_Q4 ?p_Q6 ?l_Q6 ?c_Q6 ?k_Q6 ?p_Q26 ?l_Q26 ?c_Q26 ?k_Q26 ?p_Q7 ?l_Q7 ?c_Q7 ?k_Q7 ?p_Q13 ?l_Q13 ?c_Q13 ?k_Q13 ?p_Q14 ?l_Q14 ?c_Q14 ?k_Q14 ?p_Q32 ?l_Q32 ?c_Q32 ?k_Q32 ?p_Q27 ?l_Q27 ?c_Q27 ?k_Q27 ?p_Q15 ?l_Q15 ?c_Q15 ?k_Q15 ?p_Q16 ?l_Q16 ?c_Q16 ?k_Q16 ?p_Q1 ?l_Q1 ?c_Q1 ?k_Q1 ?p_Q17 ?l_Q17 ?c_Q17 ?k_Q17 ?p_Q45 ?l_Q45 ?c_Q45 ?k_Q45 ?p_NOUGHT ?l_NOUGHT ?p_TURNS ?pB ?lB ?lnB ?hsB ?hnB ?cgB ?ctB ?p_Q39 ?lc_Q39 ?fi_Q39 ?l_Q39 ?cd_Q39_ ?ki_Q39 ?ti_Q39 ?kc_Q39 ?hh_Q39 ?sa_Q39 ?na_Q39_work ?ga_Q39 ?gn_Q39 ?cl_Q39 ?p_Q18 ?p_Q33 ?p_Q40 ?p_Q34 ?p_Q41 ?p_Q35 ?p_Q36 ?p_Q19 ?w_x_catch ?w_y_self ?w_y_base ?w_y_val ?w_y_not ?z_ValueError ?z_abs ?z_all ?z_any ?z_bool ?z_enumerate ?z_int ?z_isinstance ?z_len ?z_list ?z_max ?z_min ?z_range ?z_repr ?z_sorted ?z_str ?z_sum ?z_tuple
  (case p_Q37 => k_is)
  (case l_Q37 => k_is)
  (case c_Q37 => k_is)
  (case k_Q37 => k_is)
  (case p_Q0 => k_is)
  (case l_Q0 => k_is)
  (case c_Q0 => k_is)
  (case k_Q0 => k_is)
  (case p_Q44 => k_is)
  (case l_Q44 => k_is)
  (case c_Q44 => k_is)
  (case k_Q44 => k_is)
  (case p_Q42 => k_is)
  (case l_Q42 => k_is)
  (case c_Q42 => k_is)
  (case k_Q42 => k_is)
  (case p_Q28 => k_is)
  (case l_Q28 => k_is)
  (case c_Q28 => k_is)
  (case k_Q28 => k_is)
  (case p_Q38 => k_is)
  (case l_Q38 => k_is)
  (case c_Q38 => k_is)
  (case k_Q38 => k_is)
  (case p_Q8 => k_is)
  (case l_Q8 => k_is)
  (case c_Q8 => k_is)
  (case k_Q8 => k_is)
  (case p_Q5 => k_is)
  (case l_Q5 => k_is)
  (case c_Q5 => k_is)
  (case k_Q5 => k_is)
  (case p_Q20 => k_is)
  (case l_Q20 => k_is)
  (case c_Q20 => k_is)
  (case k_Q20 => k_is)
  (case p_Q3 => k_is)
  (case l_Q3 => k_is)
  (case c_Q3 => k_is)
  (case k_Q3 => k_is)
  (case p_Q2 => k_is)
  (case l_Q2 => k_is)
  (case c_Q2 => k_is)
  (case k_Q2 => k_is)
  (case p_Q21 => k_is)
  (case l_Q21 => k_is)
  (case c_Q21 => k_is)
  (case k_Q21 => k_is)
  (case p_Q9 => k_is)
  (case l_Q9 => k_is)
  (case c_Q9 => k_is)
  (case k_Q9 => k_is)
  (case p_Q43 => k_is)
  (case l_Q43 => k_is)
  (case c_Q43 => k_is)
  (case k_Q43 => k_is)
  (case p_Q22 => k_is)
  (case l_Q22 => k_is)
  (case c_Q22 => k_is)
  (case k_Q22 => k_is)
  (case p_Q23 => k_is)
  (case l_Q23 => k_is)
  (case c_Q23 => k_is)
  (case k_Q23 => k_is)
  (case p_Q10 => k_is)
  (case l_Q10 => k_is)
  (case c_Q10 => k_is)
  (case k_Q10 => k_is)
  (case p_Q24 => k_is)
  (case l_Q24 => k_is)
  (case c_Q24 => k_is)
  (case k_Q24 => k_is)
  (case p_Q29 => k_is)
  (case l_Q29 => k_is)
  (case c_Q29 => k_is)
  (case k_Q29 => k_is)
  (case p_Q30 => k_is)
  (case l_Q30 => k_is)
  (case c_Q30 => k_is)
  (case k_Q30 => k_is)
  (case p_Q25 => k_is)
  (case l_Q25 => k_is)
  (case c_Q25 => k_is)
  (case k_Q25 => k_is)
  (case p_Q31 => k_is)
  (case l_Q31 => k_is)
  (case c_Q31 => k_is)
  (case k_Q31 => k_is)
  (case p_Q11 => k_is)
  (case l_Q11 => k_is)
  (case c_Q11 => k_is)
  (case k_Q11 => k_is)
  (case p_Q12 => k_is)
  (case l_Q12 => k_is)
  (case c_Q12 => k_is)
  (case k_Q12 => k_is)
  (case p_Q4 => k_is)
  (case l_Q4 => k_is)
  (case c_Q4 => k_is)
  (case k_Q4 => k_is)
  (case p_Q6 => k_is)
  (case l_Q6 => k_is)
  (case c_Q6 => k_is)
  (case k_Q6 => k_is)
  (case p_Q26 => k_is)
  (case l_Q26 => k_is)
  (case c_Q26 => k_is)
  (case k_Q26 => k_is)
  (case p_Q7 => k_is)
  (case l_Q7 => k_is)
  (case c_Q7 => k_is)
  (case k_Q7 => k_is)
  (case p_Q13 => k_is)
  (case l_Q13 => k_is)
  (case c_Q13 => k_is)
  (case k_Q13 => k_is)
  (case p_Q14 => k_is)
  (case l_Q14 => k_is)
  (case c_Q14 => k_is)
  (case k_Q14 => k_is)
  (case p_Q32 => k_is)
  (case l_Q32 => k_is)
  (case c_Q32 => k_is)
  (case k_Q32 => k_is)
  (case p_Q27 => k_is)
  (case l_Q27 => k_is)
  (case c_Q27 => k_is)
  (case k_Q27 => k_is)
  (case p_Q15 => k_is)
  (case l_Q15 => k_is)
  (case c_Q15 => k_is)
  (case k_Q15 => k_is)
  (case p_Q16 => k_is)
  (case l_Q16 => k_is)
  (case c_Q16 => k_is)
  (case k_Q16 => k_is)
  (case p_Q1 => k_is)
  (case l_Q1 => k_is)
  (case c_Q1 => k_is)
  (case k_Q1 => k_is)
  (case p_Q17 => k_is)
  (case l_Q17 => k_is)
  (case c_Q17 => k_is)
  (case k_Q17 => k_is)
  (case p_Q45 => k_is)
  (case l_Q45 => k_is)
  (case c_Q45 => k_is)
  (case k_Q45 => k_is)
  (case p_NOUGHT => k_is)
  (case l_NOUGHT => k_is)
  (case p_TURNS => k_is)
  (case pB => k_is)
  (case lB => k_is)
  (case lnB => k_is)
  (case hsB => rfl)
  (case hnB => rfl)
  (case cgB => k_is)
  (case ctB => k_is)
  (case p_Q39 => k_is)
  (case lc_Q39 => k_is)
  (case fi_Q39 => k_is)
  (case l_Q39 => k_is)
  (case cd_Q39_ => k_is)
  (case ki_Q39 => k_is)
  (case ti_Q39 => k_is)
  (case kc_Q39 => k_is)
  (case hh_Q39 => k_is)
  (case sa_Q39 => k_is)
  (case na_Q39_work => k_is)
  (case ga_Q39 => k_is)
  (case gn_Q39 => k_is)
  (case cl_Q39 => k_is)
  (case p_Q18 => k_is)
  (case p_Q33 => k_is)
  (case p_Q40 => k_is)
  (case p_Q34 => k_is)
  (case p_Q41 => k_is)
  (case p_Q35 => k_is)
  (case p_Q36 => k_is)
  (case p_Q19 => k_is)
  (case w_x_catch => kts_exm)
  (case w_y_self => kit_is)
  (case w_y_base => kit_is)
  (case w_y_val => kit_is)
  (case w_y_not => kit_is)
  (case z_ValueError => k_is)
  (case z_abs => k_is)
  (case z_all => k_is)
  (case z_any => k_is)
  (case z_bool => k_is)
  (case z_enumerate => k_is)
  (case z_int => k_is)
  (case z_isinstance => k_is)
  (case z_len => k_is)
  (case z_list => k_is)
  (case z_max => k_is)
  (case z_min => k_is)
  (case z_range => k_is)
  (case z_repr => k_is)
  (case z_sorted => k_is)
  (case z_str => k_is)
  (case z_sum => k_is)
  (case z_tuple => k_is)
