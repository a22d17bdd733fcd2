import PyProof.Rows.All
import Wide.All
import OpenK.AllK
import Wide.FinOn
import Lean
import PyProof.EqAt
import PyProof.EqKinds
import PyProof.TupleCall
import PyProof.ReprLen
import PyProof.CompUse
import PyProof.ZipIter
import PyProof.ExcClass2
import PyProof.ExcBaseAll.ValueError
import PyProof.InstStoreFacts
import PyProof.ExcAttrAll.ValueError
import PyProof.RulesAs
import PyProof.NsDelKeeps
import KE.RegKTryMore
import KE.RegKIsAll
import PyProof.Rows.Catch
import PyProof.EnumMake
import PyProof.Draws
import PyProof.ListNew
import PyProof.EnumIter
import PyProof.IsRules
import PyProof.AutoListH
import PyProof.RangeFor
import PyProof.SeqRoads2
import PySem.Challenge.RW_paceplan_k09_rules_let_by_or_not
set_option Elab.async false
set_option linter.all false
set_option maxRecDepth 100000
/-! The head, run as one piece: the view and the steps are given here, the rest is what the head's own rule asks. -/
namespace HW
open PySem
def keep : List Nat := [1, 2, 3, 5, 6, 7, 8, 9, 10, 12, 13, 14, 15, 16, 17, 18, 19, 20, 21, 23, 24, 25, 26, 27, 28, 29, 30, 31, 32, 34, 35, 36, 37, 38, 39, 40, 41, 42, 43, 44, 45, 46, 47, 48, 49, 50, 51, 52, 53, 54]
def V : Program := PySem.W.view PySem.Challenge.pw_paceplan_k09_rules_let_by_or_not keep
end HW
section HWs
open PySem PySem.W PyProof.Rows
local macro_rules
  | `(tactic| o_head $H:term) => `(tactic| (
      refine holds_open (q := HW.V) (loose := []) (N := 5430)
        (Xt := fun s => xlAt HW.V [] s && recOk (RowW.records (OpenRow.toRowW (OpenLaw.row PySem.Challenge.rw_paceplan_k09_rules_let_by_or_not))) s)
        (XP := XL HW.V []) (Yf := Hook.obs $H) (Ya := Hook.val $H) (YP := Hook.says $H)
        ?hl (Hook.of $H) (Hook.keeps $H)
        (fun s e => xl_of s (Bool.and_eq_true_iff.mp e).1) XL.keeps
        (by rfl) (by rfl) (by rfl)
        (fun s e => recFacts_of (Bool.and_eq_true_iff.mp e).2) (by rfl) (by assumption) (by decide +kernel)
        ⟨rfl, rfl, rfl, rfl, rfl, by decide +kernel⟩ ?hw ?hc
      (case hl =>
        intro w
        delta openEnds fencedOpening topFrom
        rw [PySem.W.Fast.te14364793385576792824, PySem.W.Fast.te14082659384304107361, PySem.W.Fast.te10274390034422433532, PySem.W.Fast.te1435165496053646825, PySem.W.Fast.te14289696077712309145, PySem.W.Fast.te4187177175401517315]
        kernel_rfl)))
set_option maxHeartbeats 0 in
open_top HWtop for PySem.Challenge.rw_paceplan_k09_rules_let_by_or_not
end HWs
/-! THE HAND LAYER, for ints, bools, texts, own classes, LISTS and tuples (index, slices, in, append, pop ..), calls, loops. Paste it whole ahead of your own text; what your proof does not reach may be deleted. -/
namespace L2
open PySem PySem.Spec PyProof.Rows

/-- a key: an int or a str -/
abbrev Key := Sum Int Str
def keyIs : Key → Value → Bool
  | .inl k, v => Value.isInt k v
  | .inr x, v => Value.isStrOf x v
def keyH (w : World) : Key → Int
  | .inl k => hashInt k
  | .inr x => hashStr w x
theorem keyIs_shape : ∀ {k : Key} {v : Value}, keyIs k v = true → (∃ i t, k = Sum.inl i ∧ v = Value.int i t) ∨ (∃ x t, k = Sum.inr x ∧ v = Value.str x t)
  | .inl i, v, h => by
    obtain ⟨t, e⟩ := Value.isInt_shape (k := i) (v := v) h
    exact .inl ⟨i, t, rfl, e⟩
  | .inr x, v, h => by
    obtain ⟨t, e⟩ := Value.isStrOf_shape (x := x) (v := v) h
    exact .inr ⟨x, t, rfl, e⟩
theorem key_ll (a b : Int) : decide ((Sum.inl a : Key) = Sum.inl b) = (a == b) := by
  by_cases e : a = b
  · subst e; simp
  · have h : ¬ (Sum.inl a : Key) = Sum.inl b := fun q => e (Sum.inl.inj q)
    rw [decide_eq_false h]
    exact (beq_eq_false_iff_ne.mpr e).symm
theorem key_rr (a b : Str) : decide ((Sum.inr a : Key) = Sum.inr b) = decide (a = b) := by
  by_cases e : a = b
  · subst e; simp
  · have h : ¬ (Sum.inr a : Key) = Sum.inr b := fun q => e (Sum.inr.inj q)
    rw [decide_eq_false h, decide_eq_false e]
theorem key_lr (a : Int) (b : Str) : decide ((Sum.inl a : Key) = Sum.inr b) = false := decide_eq_false (fun q => nomatch q)
theorem key_rl (a : Str) (b : Int) : decide ((Sum.inr a : Key) = Sum.inl b) = false := decide_eq_false (fun q => nomatch q)

def mixKind (prog : Program) (w : World) : PySem.KeyKind prog w Key where
  is := keyIs
  hash := keyH w
  inj := fun v a b ha hb => by
    rcases keyIs_shape ha with ⟨i, t, rfl, rfl⟩ | ⟨x, t, rfl, rfl⟩
    · rcases keyIs_shape hb with ⟨j, u, rfl, e⟩ | ⟨y, u, rfl, e⟩
      · injection e with e1 _; rw [e1]
      · exact nomatch e
    · rcases keyIs_shape hb with ⟨j, u, rfl, e⟩ | ⟨y, u, rfl, e⟩
      · exact nomatch e
      · injection e with e1 _; rw [e1]
  byValue := fun k v h => by
    rcases keyIs_shape h with ⟨i, t, rfl, rfl⟩ | ⟨x, t, rfl, rfl⟩ <;> rfl
  pyHash := fun hv h => by
    rcases keyIs_shape hv with ⟨i, t, rfl, rfl⟩ | ⟨x, t, rfl, rfl⟩
    · exact wpAny_pyHash_int h
    · exact wpAny_pyHash_str h
  eqBool := fun hu hv h => by
    rcases keyIs_shape hu with ⟨i, t, rfl, rfl⟩ | ⟨x, t, rfl, rfl⟩
    · rcases keyIs_shape hv with ⟨j, u, rfl, rfl⟩ | ⟨y, u, rfl, rfl⟩
      · rw [key_ll] at h; exact wpAny_eqBool_int h
      · rw [key_lr] at h; exact SeqAt.EqAt.int_str i t y u _ _ _ _ h
    · rcases keyIs_shape hv with ⟨j, u, rfl, rfl⟩ | ⟨y, u, rfl, rfl⟩
      · rw [key_rl] at h; exact SeqAt.EqAt.str_int x t j u _ _ _ _ h
      · rw [key_rr] at h; exact wpAny_eqBool_str h
  «strs» := fun k x t v h => by
    rcases keyIs_shape h with ⟨i, u, rfl, e⟩ | ⟨y, u, rfl, e⟩
    · exact nomatch e
    · injection e with e1 _
      subst e1
      cases v <;> rfl

end L2

namespace L2
open PySem PySem.Spec PyProof.Rows

/-- a value, without the heap -/
inductive V where
  | non | bl (b : Bool) | int (i : Int) | str (x : Str) | byt (b : Array UInt8) | flt (b : UInt64) | ref (a : Addr) | ty (n : String)
  deriving DecidableEq

def RelV : V → Value → Prop
  | .non, u => u = Value.none
  | .bl b, u => u = Value.bool b
  | .int i, u => ∃ t, u = Value.int i t
  | .str x, u => ∃ t, u = Value.str x t
  | .byt b, u => ∃ t, u = Value.bytes b t
  | .flt b, u => ∃ t, u = Value.float b t
  | .ref a, u => u = Value.ref a
  | .ty n, u => u = Value.type n

abbrev Vals : List V → List Value → Prop := Paired RelV
theorem Vals.length {xs : List V} {us : List Value} (r : Vals xs us) : xs.length = us.length := Paired.length r
theorem Vals.get : ∀ {xs : List V} {us : List Value} {i : Nat} {x : V}, Vals xs us → xs[i]? = some x → ∃ u, us[i]? = some u ∧ RelV x u
  | _, _, _, _, .nil, e => by simp at e
  | _, _, 0, _, .cons r _, e => by simp at e; subst e; exact ⟨_, rfl, r⟩
  | _, _, i + 1, x, .cons _ t, e => by
    obtain ⟨u, h1, h2⟩ := Vals.get (i := i) (x := x) t (by simpa using e)
    exact ⟨u, by simpa using h1, h2⟩
theorem Vals.set {x : V} {u : Value} (r : RelV x u) : ∀ {xs : List V} {us : List Value} (i : Nat), Vals xs us → Vals (xs.set i x) (us.set i u)
  | _, _, _, .nil => .nil
  | _, _, 0, .cons _ t => .cons r t
  | _, _, i + 1, .cons q t => .cons q (Vals.set r i t)
theorem Vals.append : ∀ {xs ys : List V} {us ws : List Value}, Vals xs us → Vals ys ws → Vals (xs ++ ys) (us ++ ws)
  | _, _, _, _, .nil, s => s
  | _, _, _, _, .cons r t, s => .cons r (Vals.append t s)
theorem Vals.take : ∀ {xs : List V} {us : List Value} (n : Nat), Vals xs us → Vals (xs.take n) (us.take n)
  | _, _, 0, _ => .nil
  | _, _, _ + 1, .nil => .nil
  | _, _, n + 1, .cons r t => .cons r (Vals.take n t)
theorem Vals.drop : ∀ {xs : List V} {us : List Value} (n : Nat), Vals xs us → Vals (xs.drop n) (us.drop n)
  | _, _, 0, r => r
  | _, _, _ + 1, .nil => .nil
  | _, _, n + 1, .cons _ t => Vals.drop n t

def RelO : Option V → Option Value → Prop
  | some v, some u => RelV v u
  | none, none => True
  | _, _ => False
def KV {κ : Type} : List (κ × V) → List (κ × Value) → Prop := Paired fun (p : κ × V) (q : κ × Value) => p.1 = q.1 ∧ RelV p.2 q.2

/-- a key of a dict (00_mix): an int or a text -/
def kV : Key → V
  | .inl i => .int i
  | .inr x => .str x

/-- what stands at a tracked address -/
inductive HO where
  /-- a list -/
  | lst (xs : List V)
  /-- a tuple (never changes) -/
  | tup (xs : List V)
  /-- a dict whose keys are ints and texts; one whose keys are tuples of ints and texts (the empty one is both) -/
  | dK (kvs : List (Key × V)) | dT (kvs : List (List Key × V))
  /-- a set of ints: its members, its size -/
  | set (S : Int → Bool) (n : Nat)
  /-- an instance of the class at C, its dict at dx, its attributes -/
  | ins (C dx : Addr) (fs : List (Str × V))
  /-- the dict of the instance at x -/
  | own (x : Addr)
  /-- the dict of an exception -/
  | xd (fs : List (Str × V))
  /-- a bound method, f of x -/
  | met (f x : Addr)
  /-- a range object lo, lo + 1, .. below hi -/
  | rng (lo hi : Int)
  /-- a thing that is known to the object (the script; a dict while a loop walks it): read, never written while it is so -/
  | frz (o : Obj) (u : HO)
  /-- a code object's table -/
  | tbl (ps : Array Value)
  /-- any other thing, by what is true of its one object (a def of one's own: SetO a S n := HO.ext fun h => ..) -/
  | ext (φ : Heap → Prop)

abbrev Hp := Addr → Option HO
def upd (H : Hp) (a : Addr) (o : HO) : Hp := fun b => if b = a then some o else H b
theorem upd_same {H : Hp} {a : Addr} {o : HO} : upd H a o a = some o := by unfold upd; rw [if_pos rfl]
theorem upd_ne {H : Hp} {a b : Addr} {o : HO} (h : b ≠ a) : upd H a o b = H b := by unfold upd; rw [if_neg h]
theorem upd_upd {H : Hp} {a : Addr} {o u : HO} : upd (upd H a o) a u = upd H a u := by
  funext b; unfold upd; split <;> rfl
theorem ne_of_none {H : Hp} {a b : Addr} {o : HO} (h : H a = some o) (h' : H b = none) : a ≠ b := by
  intro e; subst e; rw [h] at h'; cases h'

section
variable (P : Program) (w : World)
def ObjOk (H : Hp) (h : Heap) (a : Addr) : HO → Prop
  | .lst xs => xs.length ≤ sizeLine ∧ ∃ (its : List Value) (n : Nat), Vals xs its ∧ h.get? a = some { cls := .type "list", data := .seq its.toArray n }
  | .tup xs => xs.length ≤ sizeLine ∧ ∃ its : List Value, Vals xs its ∧ IsTup h a its.toArray
  | .dK kvs => kvs.length ≤ sizeLine ∧ (a == sysModules) = false ∧ ∃ vs, KV kvs vs ∧ h.DictOf (mixKind P w) a vs
  | .dT kvs => kvs.length ≤ sizeLine ∧ (a == sysModules) = false ∧ ∃ xs : List (List Key × Addr × Value),
      Paired (fun (p : List Key × V) (q : List Key × Addr × Value) => p.1 = q.1 ∧ H q.2.1 = some (.tup (p.1.map kV)) ∧ RelV p.2 q.2.2) kvs xs ∧
      ∃ o es ep, h.get? a = some o ∧ o.ExactDict ∧ o.data = .dict es ep ∧ es.toList = xs.map (entryOfKey (tupleKind (mixKind P w))) ∧ (xs.map (·.1)).Nodup
  | .set S n => h.SetOf (intKind P w) a S n
  | .ins C dx fs => H dx = some (.own a) ∧ fs.length ≤ 1000 ∧ dx ≠ a ∧ h.get? a = some (PySem.W.instObj C dx) ∧
      ∃ mA, h.Ns1 dx mA ∧ (∀ f, RelO (fs.lookup f) (mA f)) ∧ PySem.Within mA (fs.map (·.1))
  | .own _ => ∃ o, h.get? a = some o
  | .xd fs => ∃ mA, h.Ns1 a mA ∧ ∀ f, RelO (fs.lookup f) (mA f)
  | .rng lo hi => ∃ t u v, h.get? a = some { cls := .type "range", data := .fields #[.int lo t, .int hi u, .int 1 v] }
  | .frz o u => h.get? a = some o ∧ ObjOk H h a u
  | .tbl ps => h.get? a = some { cls := .none, data := .fields ps }
  | .met f x => h.get? a = some (PySem.W.methodObj (.ref f) (.ref x))
  | .ext φ => φ h ∧ (∃ o, h.get? a = some o) ∧ ∀ h1 h2 : Heap, φ h1 → (∀ o, h1.get? a = some o → h2.get? a = some o) → φ h2
/-- the abstract heap is held -/
def HOk (H : Hp) (h : Heap) : Prop := ∀ a o, H a = some o → ObjOk P w H h a o
end

section
variable {P : Program} {w : World} {H H' : Hp} {h h' : Heap} {a : Addr} {o : HO}
theorem ObjOk.lt (x : ObjOk P w H h a o) : a < h.objs.size := by
  cases o with
  | lst xs => obtain ⟨_, _, _, _, e⟩ := x; exact Heap.lt_size e
  | tup xs => obtain ⟨_, _, _, p⟩ := x; exact p.lt
  | dK kvs => obtain ⟨_, _, _, _, o, _, _, e, _⟩ := x; exact Heap.lt_size e
  | dT kvs => obtain ⟨_, _, _, _, o, _, _, e, _⟩ := x; exact Heap.lt_size e
  | set S n => obtain ⟨o, _, _, _, e, _⟩ := x; exact Heap.lt_size e
  | ins C dx fs => obtain ⟨_, _, _, e, _⟩ := x; exact Heap.lt_size e
  | own y => obtain ⟨_, e⟩ := x; exact Heap.lt_size e
  | xd fs => obtain ⟨_, ⟨_, _, _, e, _⟩, _⟩ := x; exact Heap.lt_size e
  | rng lo hi => obtain ⟨_, _, _, e⟩ := x; exact Heap.lt_size e
  | frz ob u => obtain ⟨e, _⟩ := x; exact Heap.lt_size e
  | tbl ps => exact Heap.lt_size (show h.get? a = some _ from x)
  | met f y => exact Heap.lt_size (show h.get? a = some _ from x)
  | ext φ => obtain ⟨_, ⟨_, e⟩, _⟩ := x; exact Heap.lt_size e
theorem Paired.mapP {α β : Type} {F G : α → β → Prop} : ∀ {l₁ : List α} {l₂ : List β}, Paired F l₁ l₂ → (∀ a b, F a b → G a b) → Paired G l₁ l₂
  | _, _, .nil, _ => .nil
  | _, _, .cons r t, f => .cons (f _ _ r) (Paired.mapP t f)
/-- what an object's description leans on: its own object, its own dict, the tuples -/
theorem ObjOk.stay (x : ObjOk P w H h a o) (k : ∀ b u, (b = a ∨ H b = some (.own a)) → h.get? b = some u → h'.get? b = some u)
    (ho : ∀ b, H b = some (.own a) → H' b = some (.own a)) (ht : ∀ b xs, H b = some (.tup xs) → H' b = some (.tup xs)) : ObjOk P w H' h' a o := by
  induction o with
  | lst xs => obtain ⟨z, its, n, r, e⟩ := x; exact ⟨z, its, n, r, k _ _ (.inl rfl) e⟩
  | tup xs => obtain ⟨z, its, r, ob, e, c⟩ := x; exact ⟨z, its, r, ob, k _ _ (.inl rfl) e, c⟩
  | dK kvs => obtain ⟨z, y, vs, r, ob, es, ep, e, c⟩ := x; exact ⟨z, y, vs, r, ob, es, ep, k _ _ (.inl rfl) e, c⟩
  | dT kvs =>
    obtain ⟨z, y, xs, r, ob, es, ep, e, c⟩ := x
    exact ⟨z, y, xs, Paired.mapP r fun p q z => ⟨z.1, ht _ _ z.2.1, z.2.2⟩, ob, es, ep, k _ _ (.inl rfl) e, c⟩
  | set S n => obtain ⟨ob, es, ep, t, e, c⟩ := x; exact ⟨ob, es, ep, t, k _ _ (.inl rfl) e, c⟩
  | ins C dx fs =>
    obtain ⟨d, z, ne, e, mA, ⟨od, es, ep, e2, c⟩, r⟩ := x
    exact ⟨ho _ d, z, ne, k _ _ (.inl rfl) e, mA, ⟨od, es, ep, k _ _ (.inr d) e2, c⟩, r⟩
  | own y => obtain ⟨ob, e⟩ := x; exact ⟨ob, k _ _ (.inl rfl) e⟩
  | xd fs => obtain ⟨mA, ⟨od, es, ep, e, c⟩, r⟩ := x; exact ⟨mA, ⟨od, es, ep, k _ _ (.inl rfl) e, c⟩, r⟩
  | rng lo hi => obtain ⟨t, u, v, e⟩ := x; exact ⟨t, u, v, k _ _ (.inl rfl) e⟩
  | frz ob u ih => obtain ⟨e, q⟩ := x; exact ⟨k _ _ (.inl rfl) e, ih q⟩
  | tbl ps =>
    have e : h.get? a = some { cls := .none, data := .fields ps } := x
    show h'.get? a = some { cls := .none, data := .fields ps }
    exact k a _ (.inl rfl) e
  | met f y =>
    have e : h.get? a = some (PySem.W.methodObj (.ref f) (.ref y)) := x
    show h'.get? a = some (PySem.W.methodObj (.ref f) (.ref y))
    exact k a _ (.inl rfl) e
  | ext φ => obtain ⟨p, ⟨o, e⟩, st⟩ := x; exact ⟨st _ _ p fun o q => k _ _ (.inl rfl) q, ⟨o, k _ _ (.inl rfl) e⟩, st⟩
theorem HOk.lt (x : HOk P w H h) (e : H a = some o) : a < h.objs.size := (x a o e).lt
theorem HOk.fresh (x : HOk P w H h) (e : h.objs.size ≤ a) : H a = none := by
  cases q : H a with
  | none => rfl
  | some u => exact absurd (Nat.lt_of_lt_of_le (x.lt q) e) (Nat.lt_irrefl _)
/-- every object of the heap is kept -/
theorem HOk.kept (x : HOk P w H h) (k : ∀ b u, h.get? b = some u → h'.get? b = some u) : HOk P w H h' := fun a o e =>
  (x a o e).stay (fun b u _ q => k b u q) (fun _ q => q) fun _ _ q => q
/-- a new object is laid and tracked -/
theorem HOk.laid (x : HOk P w H h) (k : ∀ b u, h.get? b = some u → h'.get? b = some u) (hp : h.objs.size ≤ a) (new : ObjOk P w (upd H a o) h' a o) : HOk P w (upd H a o) h' := fun b u e => by
  have hn := x.fresh hp
  by_cases hb : b = a
  · subst hb; rw [upd_same] at e; cases e; exact new
  · rw [upd_ne hb] at e
    exact (x b u e).stay (fun c v _ q => k c v q) (fun c q => by rw [upd_ne (ne_of_none q hn)]; exact q) fun c xs q => by rw [upd_ne (ne_of_none q hn)]; exact q
end

/-- what may be read as u: it is u, or a known u -/
def Rd (H : Hp) (a : Addr) (u : HO) : Prop := H a = some u ∨ ∃ o, H a = some (.frz o u)
theorem Rd.ok {P : Program} {w : World} {H : Hp} {h : Heap} {a : Addr} {u : HO} (r : Rd H a u) (x : HOk P w H h) : ObjOk P w H h a u := by
  rcases r with r | ⟨o, r⟩
  · exact x a u r
  · obtain ⟨_, q⟩ := x a _ r
    exact q
/-- what may be written -/
def Mut : Option HO → Prop
  | some (.lst _) => True
  | some (.dK _) => True
  | some (.dT _) => True
  | some (.set _ _) => True
  | some (.ins _ _ _) => True
  | some (.ext _) => True
  | _ => False
section
variable {P : Program} {w : World} {H : Hp} {h h' : Heap} {x e : Addr} {o' : HO}
/-- the object at e is changed: x itself, or the dict of the instance x -/
theorem HOk.write (ok : HOk P w H h) (mu : Mut (H x)) (he : e = x ∨ H e = some (.own x)) (k : ∀ b u, b ≠ e → h.get? b = some u → h'.get? b = some u) (heo : ∃ u, h'.get? e = some u)
    (new : ObjOk P w (upd H x o') h' x o') : HOk P w (upd H x o') h' := fun b u q => by
  have nown : ∀ c y, H c = some (.own y) → c ≠ x := fun c y r z => by subst z; rw [r] at mu; exact mu
  have ntup : ∀ c xs, H c = some (.tup xs) → c ≠ x := fun c xs r z => by subst z; rw [r] at mu; exact mu
  by_cases hb : b = x
  · subst hb; rw [upd_same] at q; cases q; exact new
  · rw [upd_ne hb] at q
    by_cases hbe : b = e
    · have q' : H b = some (.own x) := by
        rcases he with z | z
        · exact absurd (hbe.trans z) hb
        · rw [hbe]; exact z
      rw [q] at q'; cases q'
      obtain ⟨v, hv⟩ := heo
      exact ⟨v, by rw [hbe]; exact hv⟩
    · refine (ok b u q).stay (fun c v hc r => k c v ?_ r) (fun c r => by rw [upd_ne (nown c b r)]; exact r) fun c xs r => by rw [upd_ne (ntup c xs r)]; exact r
      rcases hc with rfl | hc
      · exact hbe
      · rintro rfl
        rcases he with z | z
        · exact nown c b hc z
        · rw [hc] at z; cases z; exact hb rfl
end

/-! ### kept unless tracked; of the frames at fs (the callers') the slots may change (an exception that passes writes there); of the records at ex (iterators) nothing is said -/
structure Un (fs ex : List Addr) (H H' : Hp) (h h' : Heap) : Prop where
  keep : ∀ b o, h.get? b = some o → H b = none → b ∉ fs → b ∉ ex → h'.get? b = some o
  slot : ∀ b o, h.get? b = some o → H b = none → b ∈ fs → b ∉ ex → ∃ sl, h'.get? b = some { o with slots := sl }
  free : ∀ b o, h.get? b = some o → H b = none → b ∉ ex → H' b = none
  there : ∀ b o, h.get? b = some o → b ∉ ex → ∃ o', h'.get? b = some o'
  tups : ∀ b xs, H b = some (.tup xs) → H' b = some (.tup xs)
  frzs : ∀ b o u, H b = some (.frz o u) → H' b = some (.frz o u)
  tbls : ∀ b ps, H b = some (.tbl ps) → ∃ more, H' b = some (.tbl (ps ++ more))
section
variable {fs fs' ex ex' : List Addr} {H H1 H2 : Hp} {h h1 h2 h' : Heap} {a x e : Addr} {o : HO}
theorem Un.any (u : Un fs ex H H1 h h1) {b : Addr} {ob : Obj} (q : h.get? b = some ob) (n : H b = none) (hx : b ∉ ex) : ∃ sl, h1.get? b = some { ob with slots := sl } := by
  by_cases hb : b ∈ fs
  · exact u.slot b ob q n hb hx
  · exact ⟨ob.slots, u.keep b ob q n hb hx⟩
theorem Un.kept (k : ∀ b u, h.get? b = some u → h'.get? b = some u) : Un fs ex H H h h' :=
  ⟨fun b ob q _ _ _ => k b ob q, fun b ob q _ _ _ => ⟨ob.slots, k b ob q⟩, fun _ _ _ n _ => n, fun b ob q _ => ⟨ob, k b ob q⟩, fun _ _ q => q, fun _ _ _ q => q, fun _ ps q => ⟨#[], by rw [q]; simp⟩⟩
theorem Un.refl : Un fs ex H H h h := Un.kept fun _ _ q => q
theorem Un.laid (k : ∀ b u, h.get? b = some u → h'.get? b = some u) (hp : h.objs.size ≤ a) (hn : H a = none) : Un fs ex H (upd H a o) h h' where
  keep := fun b u q _ _ _ => k b u q
  slot := fun b u q _ _ _ => ⟨u.slots, k b u q⟩
  free := fun b u q n _ => by rw [upd_ne (Nat.ne_of_lt (Nat.lt_of_lt_of_le (Heap.lt_size q) hp))]; exact n
  there := fun b u q _ => ⟨u, k b u q⟩
  tups := fun b xs q => by rw [upd_ne (ne_of_none q hn)]; exact q
  frzs := fun b u xs q => by rw [upd_ne (ne_of_none q hn)]; exact q
  tbls := fun b ps q => ⟨#[], by rw [upd_ne (ne_of_none q hn), q]; simp⟩
theorem Un.write (mu : Mut (H x)) (he : e = x ∨ H e = some (.own x)) (k : ∀ b u, b ≠ e → h.get? b = some u → h'.get? b = some u) (heo : ∃ u, h'.get? e = some u) : Un fs ex H (upd H x o) h h' := by
  have hx : ∀ b, H b = none → b ≠ x := fun b n z => by subst z; rw [n] at mu; exact mu
  have hb : ∀ b, H b = none → b ≠ e := fun b n z => by
    subst z
    rcases he with r | r
    · exact hx b n r
    · rw [n] at r; cases r
  have hm : ∀ b u, H b = some u → ¬ Mut (some u) → b ≠ x := fun b u q nm z => by subst z; rw [q] at mu; exact nm mu
  refine ⟨fun b u q n _ _ => k b u (hb b n) q, fun b u q n _ _ => ⟨u.slots, k b u (hb b n) q⟩, fun b u q n _ => by rw [upd_ne (hx b n)]; exact n, fun b u q _ => ?_,
    fun b xs q => by rw [upd_ne (hm b _ q fun z => z)]; exact q, fun b u xs q => by rw [upd_ne (hm b _ q fun z => z)]; exact q, fun b ps q => ⟨#[], by rw [upd_ne (hm b _ q fun z => z), q]; simp⟩⟩
  by_cases hbe : b = e
  · subst hbe; exact heo
  · exact ⟨u, k b u hbe q⟩
end

/-! ### the heap without what is tracked -/
def trk (h : Heap) (H : Hp) : List Addr := (List.range h.objs.size).filter fun a => (H a).isSome
def hidT (h : Heap) (H : Hp) : Heap := PySem.W.hideAll h (trk h H)
theorem hidT_size (h : Heap) (H : Hp) : (hidT h H).objs.size = h.objs.size := PySem.W.hideAll_size _ _
theorem hidT_get {h : Heap} {H : Hp} {b : Addr} {o : Obj} (e : h.get? b = some o) (n : H b = none) : (hidT h H).get? b = some o :=
  PySem.W.hideAll_get _ e fun hm => by
    have q : (H b).isSome = true := (List.mem_filter.mp hm).2
    rw [n] at q; simp at q
theorem of_hidT {h : Heap} {H : Hp} {b : Addr} {o : Obj} (e : (hidT h H).get? b = some o) : h.get? b = some o ∧ H b = none := by
  have e' : h.get? b = some o := PySem.W.of_hideAll (trk h H) e
  refine ⟨e', ?_⟩
  cases q : H b with
  | none => rfl
  | some x =>
    have hm : b ∈ trk h H := List.mem_filter.mpr ⟨List.mem_range.mpr (Heap.lt_size e'), by simp [q]⟩
    have z : (hidT h H).get? b = none := PySem.W.hideAll_none (trk h H) hm
    rw [z] at e; cases e

/-! ### OpenK's ledger, filled with every new object but one -/
def allNews (g h : Heap) (L : Addr) : List (Addr × Obj) := (List.range h.objs.size).filterMap fun a => if a = L ∨ (g.get? a).isSome = true then none else (h.get? a).map fun o => (a, o)
def rest (g h : Heap) (L d : Addr) : List (Addr × Obj) := (allNews g h L).filter fun p => decide (p.1 ≠ d)
end L2

namespace L2
open PySem PySem.Spec PyProof.Rows

/-- the module's facts, over the base: the heap at the law's entry without what is tracked there -/
structure Mod (K : PySem.W.Frag) (mg : Str → Option Value) (base : Heap) : Prop where
  kin : K.In base
  glob : base.Ns mainGlobals mg
  blt : ∃ mb, base.Ns builtinsNs mb ∧ ∀ x : Str, x ≠ "__name__" → mb x = bootBuiltins x
  nolimit : base.NoLimit

/-- the context: a def's body (or a comprehension's block) running. base: fixed through the whole law; s₀, H₀: the entry; outer: the frames whose slots others may change (a def's callers); stack: all frames that run;
   ex: iterators that were made ahead of the entry and are walked here (a comprehension's); fn: the names whose cells were made at the entry (a def: all; a comprehension's block: its own); calm: not within an except suite; pn: pins that every state bears; xe: what is wanted of an exception that leaves the code -/
structure Cx where
  prog : Program
  w : World
  K : PySem.W.Frag
  mg : Str → Option Value
  base : Heap
  A : Around
  N : List Str
  s₀ : Shared
  H₀ : Hp
  env : Env
  outer : List Env
  stack : List Env
  ex : List Addr
  fn : Str → Bool
  calm : Bool
  pn : List (Addr × Obj)
  xe : Value → Shared → Prop
/-- the callers' frames -/
def frs (l : List Env) : List Addr := l.filterMap (·.frame)
abbrev Cx.fs (X : Cx) : List Addr := frs X.outer

def Vis (sc : Scope) (x : Str) : Prop := sc.names.lookup x = some .local ∨ sc.names.lookup x = some .cell ∨ sc.names.lookup x = some .free
def Loc (sc : Scope) (x : Str) : Prop := sc.names.lookup x = some .local ∨ sc.names.lookup x = some .cell
def Look (env : Env) (h : Heap) (m : Str → Option Value) (x : Str) (u : Value) : Prop :=
  (env.kindOf x = some .local ∧ m x = some u) ∨ ((env.kindOf x = some .cell ∨ env.kindOf x = some .free) ∧ ∃ c, env.cells.lookup x = some c ∧ h.IsCell c (some u))

structure Cx.Ok (X : Cx) : Prop where
  mod : Mod X.K X.mg X.base
  kind : X.env.scope.kind = .function
  glob : X.env.globals = mainGlobals
  blt : X.env.builtins = builtinsNs
  above : X.s₀.heap.objs.size ≤ X.env.locals
  inj : ∀ x y c, X.env.cells.lookup x = some c → X.env.cells.lookup y = some c → x = y
  has : ∀ x, (X.env.kindOf x = some .cell ∨ X.env.kindOf x = some .free) → ∃ c, X.env.cells.lookup x = some c
  cab : ∀ x c, X.fn x = true → X.env.cells.lookup x = some c → X.s₀.heap.objs.size ≤ c
  hd : X.calm = true → X.A.handled = none
  frames : X.A.frames = some X.stack
  stk : X.stack = X.outer ∨ (X.stack = X.env :: X.outer ∧ X.env.frame = some X.env.locals)
  exf : ∀ b ∈ X.ex, b ≠ X.env.locals ∧ ∀ x c, X.env.cells.lookup x = some c → c ≠ b
  bs : ∀ b o, X.base.get? b = some o → X.s₀.heap.get? b = some o ∧ X.H₀ b = none
  bsz : X.base.objs.size ≤ X.s₀.heap.objs.size
  noex : ∀ b o, X.base.get? b = some o → b ∉ X.ex
  exfs : ∀ b ∈ X.ex, b ∉ X.fs
  funs : X.s₀.heap.FunFrames X.base X.outer
  frf : ∀ b ∈ X.fs, X.H₀ b = none

structure Inv (X : Cx) (pins : List (Addr × Obj)) (σ : List (Option V)) (H : Hp) (s : Shared) : Prop where
  ok : X.Ok
  os : s.os = X.s₀.os
  bare : AllBare s.gens
  base : Un X.fs X.ex X.H₀ H X.s₀.heap s.heap
  loc : ∃ m, s.heap.Ns X.env.locals m ∧ ∀ (i : Nat) (x : Str) (v : V), X.N[i]? = some x → σ[i]? = some (some v) → Vis X.env.scope x → ∃ u, RelV v u ∧ Look X.env s.heap m x u
  cell : ∀ x c, X.env.cells.lookup x = some c → ∃ v, s.heap.IsCell c v
  free : H X.env.locals = none
  freeC : ∀ x c, X.env.cells.lookup x = some c → H c = none
  pin : ∀ p ∈ X.pn ++ pins, s.heap.get? p.1 = some p.2 ∧ H p.1 = none ∧ p.1 ≠ X.env.locals ∧ p.1 ∉ X.fs ∧ ∀ v, p.2.data ≠ .cell v
  hok : HOk X.prog X.w H s.heap
  len : σ.length = X.N.length

section
variable {X : Cx} {pins : List (Addr × Obj)} {σ : List (Option V)} {H H' : Hp} {s : Shared} {h' : Heap}

theorem Cx.Ok.nofr (ok : X.Ok) {b : Addr} {o : Obj} (e : X.base.get? b = some o) : b ∉ X.fs := fun hb => by
  have := (ok.funs.mem hb).1
  rw [e] at this; cases this
theorem Inv.bs (I : Inv X pins σ H s) : ∀ b o, X.base.get? b = some o → s.heap.get? b = some o ∧ H b = none := fun b o e =>
  ⟨I.base.keep b o (I.ok.bs b o e).1 (I.ok.bs b o e).2 (I.ok.nofr e) (I.ok.noex b o e), I.base.free b o (I.ok.bs b o e).1 (I.ok.bs b o e).2 (I.ok.noex b o e)⟩
theorem Inv.bk (I : Inv X pins σ H s) : ∀ b o, X.base.get? b = some o → s.heap.get? b = some o := fun b o e => (I.bs b o e).1
theorem Inv.mod (I : Inv X pins σ H s) : Mod X.K X.mg X.base := I.ok.mod
theorem Inv.kIn (I : Inv X pins σ H s) : X.K.In s.heap := I.ok.mod.kin.keeps I.bk
theorem Inv.lt (I : Inv X pins σ H s) : X.env.locals < s.heap.objs.size := let ⟨_, hn, _⟩ := I.loc; hn.lt
theorem Inv.sz (I : Inv X pins σ H s) : X.s₀.heap.objs.size ≤ s.heap.objs.size := Nat.le_trans I.ok.above (Nat.le_of_lt I.lt)
theorem Inv.nofs (I : Inv X pins σ H s) {a : Addr} (h : s.heap.objs.size ≤ a) : a ∉ X.fs := fun hb => by
  obtain ⟨_, o, ho, _⟩ := I.ok.funs.mem hb
  exact absurd (Nat.lt_of_lt_of_le (Heap.lt_size ho) (Nat.le_trans I.sz h)) (Nat.lt_irrefl _)
theorem Inv.cne (I : Inv X pins σ H s) : ∀ x c, X.env.cells.lookup x = some c → c ≠ X.env.locals := fun x c e z => by
  obtain ⟨v, o, ho, hd⟩ := I.cell x c e
  obtain ⟨m, ⟨o', es, ep, ho', hd', _⟩, _⟩ := I.loc
  rw [z, ho'] at ho; cases ho; rw [hd'] at hd; cases hd
theorem Inv.funs (I : Inv X pins σ H s) : s.heap.FunFrames X.base X.outer := by
  have all : ∀ (l : List Env), (∀ b ∈ frs l, b ∈ X.fs) → X.s₀.heap.FunFrames X.base l → s.heap.FunFrames X.base l := by
    intro l
    induction l with
    | nil => intro _ _; trivial
    | cons env r ih =>
      intro hs hl
      obtain ⟨hk, ⟨L, o, hf, hn, ho, hd⟩, hr⟩ := hl
      have hL : L ∈ X.fs := hs L (by unfold frs; rw [List.filterMap_cons, hf]; exact List.mem_cons_self)
      obtain ⟨sl, e⟩ := I.base.slot L o ho (I.ok.frf L hL) hL fun z => I.ok.exfs L z hL
      exact ⟨hk, ⟨L, _, hf, hn, e, hd⟩, ih (fun b hb => hs b (by unfold frs; rw [List.filterMap_cons, hf]; exact List.mem_cons_of_mem _ hb)) hr⟩
  exact all X.outer (fun _ hb => hb) I.ok.funs

/-- the frames that run, for a call -/
theorem Inv.stack (I : Inv X pins σ H s) : s.heap.FunFrames X.base X.stack := by
  rcases I.ok.stk with e | ⟨e, hf⟩
  · rw [e]; exact I.funs
  · rw [e]
    obtain ⟨m, hn, _⟩ := I.loc
    refine .cons (by rw [I.ok.kind]; decide) hf hn ?_ I.funs
    exact Heap.get?_none_of_le (Nat.le_trans I.ok.bsz I.ok.above)
theorem Inv.stkSub (I : Inv X pins σ H s) : ∀ b ∈ frs X.stack, b ∈ X.env.locals :: X.fs := fun b hb => by
  rcases I.ok.stk with e | ⟨e, hf⟩
  · rw [e] at hb; exact List.mem_cons_of_mem _ hb
  · rw [e] at hb
    unfold frs at hb
    rw [List.filterMap_cons, hf] at hb
    exact hb
theorem Inv.stkFree (I : Inv X pins σ H s) : ∀ b ∈ frs X.stack, H b = none := fun b hb => by
  rcases List.mem_cons.mp (I.stkSub b hb) with e | hb
  · rw [e]; exact I.free
  · obtain ⟨_, o, ho, _⟩ := I.ok.funs.mem hb
    exact I.base.free b o ho (I.ok.frf b hb) fun z => I.ok.exfs b z hb

/-- THE STEP: the untracked objects but the frame and the records at ch are kept (the callers' frames up to slots), the frame's map is kept, the new abstract heap is held -/
theorem Inv.step {g' : Array GenState} {t' : Nat} {d' : Drawn} {ch : List Addr} (I : Inv X pins σ H s)
    (hch : ∀ b ∈ ch, (b ∈ X.ex ∨ X.s₀.heap.get? b = none) ∧ b ≠ X.env.locals ∧ (∀ x c, X.env.cells.lookup x = some c → c ≠ b) ∧ ∀ p ∈ X.pn ++ pins, p.1 ≠ b)
    (keep : ∀ b o, b ≠ X.env.locals → b ∉ X.fs → b ∉ ch → s.heap.get? b = some o → H b = none → h'.get? b = some o)
    (slot : ∀ b o, b ≠ X.env.locals → b ∈ X.fs → b ∉ ch → s.heap.get? b = some o → H b = none → ∃ sl, h'.get? b = some { o with slots := sl }) (free : ∀ b o, b ∉ ch → s.heap.get? b = some o → H b = none → H' b = none)
    (there : ∀ b o, b ∉ ch → s.heap.get? b = some o → ∃ o', h'.get? b = some o')
    (tups : ∀ b xs, H b = some (.tup xs) → H' b = some (.tup xs)) (frzs : ∀ b o u, H b = some (.frz o u) → H' b = some (.frz o u)) (tbls : ∀ b ps, H b = some (.tbl ps) → ∃ more, H' b = some (.tbl (ps ++ more)))
    (ns : ∀ m, s.heap.Ns X.env.locals m → h'.Ns X.env.locals m) (hok : HOk X.prog X.w H' h') (hg : AllBare g') :
    Inv X pins σ H' { s with heap := h', gens := g', drawn := d', toks := t' } := by
  have neL : ∀ b o, X.s₀.heap.get? b = some o → b ≠ X.env.locals := fun b o e => Nat.ne_of_lt (Nat.lt_of_lt_of_le (Heap.lt_size e) I.ok.above)
  have neC : ∀ b o, X.s₀.heap.get? b = some o → b ∉ X.ex → b ∉ ch := fun b o e hx hb => by
    rcases (hch b hb).1 with z | z
    · exact hx z
    · rw [e] at z; cases z
  have cellK : ∀ x c, X.env.cells.lookup x = some c → ∀ v, s.heap.IsCell c v → h'.IsCell c v := fun x c e v ⟨o, ho, hd⟩ => by
    have nch : c ∉ ch := fun z => (hch c z).2.2.1 x c e rfl
    by_cases hc : c ∈ X.fs
    · obtain ⟨sl, q⟩ := slot c o (I.cne x c e) hc nch ho (I.freeC x c e)
      exact ⟨_, q, hd⟩
    · exact ⟨o, keep c o (I.cne x c e) hc nch ho (I.freeC x c e), hd⟩
  refine ⟨I.ok, I.os, hg, ⟨fun b o e n hb hx => ?_, fun b o e n hb hx => ?_, fun b o e n hx => ?_, fun b o e hx => ?_, fun b xs e => tups b xs (I.base.tups b xs e), fun b o xs e => frzs b o xs (I.base.frzs b o xs e), fun b ps e => ?_⟩, ?_, fun x c e => ?_, ?_, fun x c e => ?_, fun p hp => ?_, hok, I.len⟩
  · exact keep b o (neL b o e) hb (neC b o e hx) (I.base.keep b o e n hb hx) (I.base.free b o e n hx)
  · obtain ⟨sl, e1⟩ := I.base.slot b o e n hb hx
    obtain ⟨sl', e2⟩ := slot b _ (neL b o e) hb (neC b o e hx) e1 (I.base.free b o e n hx)
    exact ⟨sl', e2⟩
  · obtain ⟨o', e1⟩ := I.base.there b o e hx
    exact free b o' (neC b o e hx) e1 (I.base.free b o e n hx)
  · obtain ⟨o', e1⟩ := I.base.there b o e hx
    exact there b o' (neC b o e hx) e1
  · obtain ⟨m1, e1⟩ := I.base.tbls b ps e
    obtain ⟨m2, e2⟩ := tbls b _ e1
    exact ⟨m1 ++ m2, by rw [e2, Array.append_assoc]⟩
  · obtain ⟨m, hn, hl⟩ := I.loc
    refine ⟨m, ns m hn, fun i x v e1 e2 e3 => ?_⟩
    obtain ⟨u, r, l⟩ := hl i x v e1 e2 e3
    refine ⟨u, r, ?_⟩
    rcases l with l | ⟨k, c, e, z⟩
    · exact .inl l
    · exact .inr ⟨k, c, e, cellK x c e _ z⟩
  · obtain ⟨v, z⟩ := I.cell x c e
    exact ⟨v, cellK x c e v z⟩
  · obtain ⟨m, ⟨o, _, _, ho, _⟩, _⟩ := I.loc
    exact free _ o (fun z => (hch _ z).2.1 rfl) ho I.free
  · obtain ⟨v, o, ho, hd⟩ := I.cell x c e
    exact free c o (fun z => (hch c z).2.2.1 x c e rfl) ho (I.freeC x c e)
  · obtain ⟨e, n, ne, nf, d⟩ := I.pin p hp
    have nch : p.1 ∉ ch := fun z => (hch p.1 z).2.2.2 p hp rfl
    exact ⟨keep p.1 p.2 ne nf nch e n, free p.1 p.2 nch e n, ne, nf, d⟩
/-- .. where the frame's own object is kept too -/
theorem Inv.un {t' : Nat} (I : Inv X pins σ H s) (u : Un X.fs [] H H' s.heap h') (hok : HOk X.prog X.w H' h') : Inv X pins σ H' { s with heap := h', toks := t' } := by
  obtain ⟨m, ⟨o, es, ep, ho, r⟩, _⟩ := id I.loc
  obtain ⟨sl, hL⟩ := u.any ho I.free (by simp)
  exact I.step (g' := s.gens) (d' := s.drawn) (ch := []) (fun _ z => nomatch z) (fun b o _ hb _ e n => u.keep b o e n hb (by simp)) (fun b o _ hb _ e n => u.slot b o e n hb (by simp)) (fun b o _ e n => u.free b o e n (by simp)) (fun b o _ e => u.there b o e (by simp)) u.tups u.frzs u.tbls (fun m' hm => by
    obtain ⟨o', es', ep', ho', r'⟩ := hm
    rw [ho] at ho'; cases ho'
    exact ⟨_, es', ep', hL, r'⟩) hok I.bare
/-- behind a call (or a comprehension's block): the slots of this frame may have changed too, the records at ch may have turned -/
theorem Inv.call {g' : Array GenState} {t' : Nat} {d' : Drawn} {ch : List Addr} (I : Inv X pins σ H s) (u : Un (frs X.stack) ch H H' s.heap h') (hok : HOk X.prog X.w H' h') (hg : AllBare g')
    (hch : ∀ b ∈ ch, (b ∈ X.ex ∨ X.s₀.heap.get? b = none) ∧ b ≠ X.env.locals ∧ (∀ x c, X.env.cells.lookup x = some c → c ≠ b) ∧ ∀ p ∈ X.pn ++ pins, p.1 ≠ b) :
    Inv X pins σ H' { s with heap := h', gens := g', drawn := d', toks := t' } := by
  obtain ⟨m, ⟨o, es, ep, ho, r⟩, _⟩ := id I.loc
  obtain ⟨sl, hL⟩ := u.any ho I.free fun z => (hch _ z).2.1 rfl
  exact I.step (ch := ch) hch (fun b o hL hb hc e n => u.keep b o e n (fun z => (List.mem_cons.mp (I.stkSub b z)).elim hL hb) hc) (fun b o _ _ hc e n => u.any e n hc) (fun b o hc e n => u.free b o e n hc) (fun b o hc e => u.there b o e hc) u.tups u.frzs u.tbls (fun m' hm => by
    obtain ⟨o', es', ep', ho', r'⟩ := hm
    rw [ho] at ho'; cases ho'
    exact ⟨_, es', ep', hL, r'⟩) hok hg
/-- an untracked record of ours (an iterator) has turned -/
theorem Inv.turned {t' : Nat} {it : Addr} (I : Inv X pins σ H s) (k : ∀ b o, b ≠ it → s.heap.get? b = some o → h'.get? b = some o) (hn : H it = none) (hL : it ≠ X.env.locals)
    (h1 : it ∈ X.ex ∨ X.s₀.heap.get? it = none) (h2 : ∀ x c, X.env.cells.lookup x = some c → c ≠ it) (h3 : ∀ p ∈ X.pn ++ pins, p.1 ≠ it) : Inv X pins σ H { s with heap := h', toks := t' } := by
  have nit : ∀ b u, H b = some u → b ≠ it := fun b u e z => by rw [z, hn] at e; cases e
  refine I.step (g' := s.gens) (d' := s.drawn) (ch := [it]) (fun b hb => ?_) (fun b o _ _ hc e _ => k b o (fun z => hc (by simp [z])) e) (fun b o _ _ hc e _ => ⟨o.slots, k b o (fun z => hc (by simp [z])) e⟩) (fun _ _ _ _ n => n)
    (fun b o hc e => ⟨o, k b o (fun z => hc (by simp [z])) e⟩) (fun _ _ e => e) (fun _ _ _ e => e) (fun b ps e => ⟨#[], by rw [e]; simp⟩) (fun m hm => ?_) (fun b u e => ?_) I.bare
  · have e : b = it := by simpa using hb
    subst e
    exact ⟨h1, hL, h2, h3⟩
  · obtain ⟨o, es, ep, ho, r⟩ := hm
    exact ⟨o, es, ep, k _ o (Ne.symm hL) ho, r⟩
  · refine (I.hok b u e).stay (fun c v hc q => k c v ?_ q) (fun _ q => q) fun _ _ q => q
    rcases hc with z | z
    · rw [z]; exact nit b u e
    · exact nit c _ z
theorem Inv.tok (I : Inv X pins σ H s) (t : Nat) : Inv X pins σ H { s with toks := t } := I.un (h' := s.heap) (t' := t) Un.refl I.hok
/-- all objects kept -/
theorem Inv.kept {t' : Nat} (I : Inv X pins σ H s) (k : ∀ b u, s.heap.get? b = some u → h'.get? b = some u) : Inv X pins σ H { s with heap := h', toks := t' } := I.un (Un.kept k) (I.hok.kept k)
/-- a new object laid and tracked -/
theorem Inv.laid {a : Addr} {o : HO} {t' : Nat} (I : Inv X pins σ H s) (k : ∀ b u, s.heap.get? b = some u → h'.get? b = some u) (hp : s.heap.objs.size ≤ a) (new : ObjOk X.prog X.w (upd H a o) h' a o) :
    Inv X pins σ (upd H a o) { s with heap := h', toks := t' } := I.un (Un.laid k hp (I.hok.fresh hp)) (I.hok.laid k hp new)
/-- an object written -/
theorem Inv.write {x e : Addr} {o : HO} {t' : Nat} (I : Inv X pins σ H s) (mu : Mut (H x)) (he : e = x ∨ H e = some (.own x)) (k : ∀ b u, b ≠ e → s.heap.get? b = some u → h'.get? b = some u) (heo : ∃ u, h'.get? e = some u)
    (new : ObjOk X.prog X.w (upd H x o) h' x o) : Inv X pins σ (upd H x o) { s with heap := h', toks := t' } := I.un (Un.write mu he k heo) (I.hok.write mu he k heo new)
/-- forgetting slots, pins -/
theorem Inv.weak {σ' : List (Option V)} (I : Inv X pins σ H s) (hl : σ'.length = σ.length) (w : ∀ (i : Nat) v, σ'[i]? = some (some v) → σ[i]? = some (some v)) : Inv X pins σ' H s :=
  ⟨I.ok, I.os, I.bare, I.base, let ⟨m, hn, hl'⟩ := I.loc; ⟨m, hn, fun i x v e1 e2 e3 => hl' i x v e1 (w i v e2) e3⟩, I.cell, I.free, I.freeC, I.pin, I.hok, hl.trans I.len⟩
theorem Inv.pins_of {pins' : List (Addr × Obj)} (I : Inv X pins σ H s) (h : ∀ p ∈ pins', s.heap.get? p.1 = some p.2 ∧ H p.1 = none ∧ p.1 ≠ X.env.locals ∧ p.1 ∉ X.fs ∧ ∀ v, p.2.data ≠ .cell v) : Inv X pins' σ H s :=
  ⟨I.ok, I.os, I.bare, I.base, I.loc, I.cell, I.free, I.freeC, fun p hp => (List.mem_append.mp hp).elim (fun z => I.pin p (List.mem_append_left _ z)) (h p), I.hok, I.len⟩

theorem nodup_ix {N : List Str} (hN : N.Nodup) {i j : Nat} {x : Str} (a : N[i]? = some x) (b : N[j]? = some x) : i = j := by
  obtain ⟨h1, e1⟩ := List.getElem?_eq_some_iff.mp a
  obtain ⟨h2, e2⟩ := List.getElem?_eq_some_iff.mp b
  exact (List.getElem_inj hN).mp (e1.trans e2.symm)

/-- a name is stored; what changed -/
theorem store_ok2 {M : Model} {A : Around} {E : Value → Shared → Prop} {i : Nat} {x : Str} {v : V} {u : Value} {Q : Unit → Shared → Prop} (I : Inv X pins σ H s) (hN : X.N.Nodup) (hi : X.N[i]? = some x) (hx : Loc X.env.scope x) (r : RelV v u)
    (h : ∀ s', Inv X pins (σ.set i (some v)) H s' → (∃ a, Heap.SameBut a s.heap s'.heap ∧ (a = X.env.locals ∨ X.env.cells.lookup x = some a)) → Q () s') (hf : X.fn x = true ∨ X.env.scope.names.lookup x = some .local := by first | exact .inl rfl | exact .inr rfl | assumption) : wpAny M A (storeName X.env x u) Q E s := by
  obtain ⟨m, hn, hl⟩ := id I.loc
  have hcls : (X.env.scope.kind == .class || (X.env.scope.kind == .module && X.env.locals != X.env.globals)) = false := by rw [I.ok.kind]; rfl
  have hiσ : i < σ.length := by rw [I.len]; exact (List.getElem?_eq_some_iff.mp hi).1
  have cne := I.cne
  have tracked : ∀ {a : Addr} {h' : Heap}, (∃ o, s.heap.get? a = some o ∧ H a = none) → Heap.SameBut a s.heap h' → HOk X.prog X.w H h' := fun {a h'} ha hs b ob e => by
    obtain ⟨_, _, hfree⟩ := ha
    refine (I.hok b ob e).stay (fun c w' hc q => (hs.2 c ?_).trans q) (fun _ q => q) fun _ _ q => q
    rintro rfl
    rcases hc with rfl | hc
    · rw [hfree] at e; cases e
    · rw [hfree] at hc; cases hc
  rcases hx with hk | hk
  · refine wpAny_storeName_local hk hn (fun h' hn' hs => ?_) hcls
    obtain ⟨oL, _, _, hoL, _⟩ := id hn
    refine h _ ⟨I.ok, I.os, I.bare, ⟨fun b o e n hb hx => ?_, fun b o e n hb hx => ?_, I.base.free, fun b o e hx => ?_, I.base.tups, I.base.frzs, I.base.tbls⟩, ⟨_, hn', fun j y v' e1 e2 e3 => ?_⟩, fun y c e => ?_, I.free, I.freeC, fun p hp => ?_, tracked ⟨oL, hoL, I.free⟩ hs, by simpa using I.len⟩ ⟨_, hs, .inl rfl⟩
    · exact (hs.2 b (Nat.ne_of_lt (Nat.lt_of_lt_of_le (Heap.lt_size e) I.ok.above))).trans (I.base.keep b o e n hb hx)
    · obtain ⟨sl, e1⟩ := I.base.slot b o e n hb hx
      exact ⟨sl, (hs.2 b (Nat.ne_of_lt (Nat.lt_of_lt_of_le (Heap.lt_size e) I.ok.above))).trans e1⟩
    · obtain ⟨o', e1⟩ := I.base.there b o e hx
      exact ⟨o', (hs.2 b (Nat.ne_of_lt (Nat.lt_of_lt_of_le (Heap.lt_size e) I.ok.above))).trans e1⟩
    · by_cases hj : j = i
      · subst hj
        rw [hi] at e1; cases e1
        rw [List.getElem?_set_self hiσ] at e2
        cases e2
        exact ⟨u, r, .inl ⟨hk, by simp⟩⟩
      · rw [List.getElem?_set_ne (Ne.symm hj)] at e2
        obtain ⟨u', r', q⟩ := hl j y v' e1 e2 e3
        refine ⟨u', r', ?_⟩
        rcases q with ⟨k, e⟩ | ⟨k, c, e, z⟩
        · refine .inl ⟨k, ?_⟩
          have : y ≠ x := fun e => hj (nodup_ix hN e1 (e ▸ hi))
          simp [this, e]
        · exact .inr ⟨k, c, e, z.sameBut hs (cne y c e)⟩
    · obtain ⟨w', z⟩ := I.cell y c e
      exact ⟨w', z.sameBut hs (cne y c e)⟩
    · obtain ⟨e, n, ne, nf, d⟩ := I.pin p hp
      exact ⟨(hs.2 p.1 ne).trans e, n, ne, nf, d⟩
  · have hfn : X.fn x = true := by
      rcases hf with z | z
      · exact z
      · rw [z] at hk; cases hk
    obtain ⟨c, hc⟩ := I.ok.has x (.inl hk)
    obtain ⟨w', z⟩ := I.cell x c hc
    refine wpAny_storeName_cell I.ok.kind hk hc z (fun h' hc' hs => ?_)
    obtain ⟨oc, hoc, hocd⟩ := id z
    refine h { s with heap := h' } ⟨I.ok, I.os, I.bare, ⟨fun b o e n hb hx => ?_, fun b o e n hb hx => ?_, I.base.free, fun b o e hx => ?_, I.base.tups, I.base.frzs, I.base.tbls⟩, ⟨m, hn.sameBut hs (Ne.symm (cne x c hc)), fun j y v' e1 e2 e3 => ?_⟩, fun y c' e => ?_, I.free, I.freeC, fun p hp => ?_, tracked ⟨oc, hoc, I.freeC x c hc⟩ hs, by simpa using I.len⟩ ⟨c, hs, .inr hc⟩
    · exact (hs.2 b (Nat.ne_of_lt (Nat.lt_of_lt_of_le (Heap.lt_size e) (I.ok.cab x c hfn hc)))).trans (I.base.keep b o e n hb hx)
    · obtain ⟨sl, e1⟩ := I.base.slot b o e n hb hx
      exact ⟨sl, (hs.2 b (Nat.ne_of_lt (Nat.lt_of_lt_of_le (Heap.lt_size e) (I.ok.cab x c hfn hc)))).trans e1⟩
    · obtain ⟨o', e1⟩ := I.base.there b o e hx
      exact ⟨o', (hs.2 b (Nat.ne_of_lt (Nat.lt_of_lt_of_le (Heap.lt_size e) (I.ok.cab x c hfn hc)))).trans e1⟩
    · by_cases hj : j = i
      · subst hj
        rw [hi] at e1; cases e1
        rw [List.getElem?_set_self hiσ] at e2
        cases e2
        exact ⟨u, r, .inr ⟨.inl hk, c, hc, hc'⟩⟩
      · rw [List.getElem?_set_ne (Ne.symm hj)] at e2
        obtain ⟨u', r', q⟩ := hl j y v' e1 e2 e3
        refine ⟨u', r', ?_⟩
        rcases q with q | ⟨k, c', e, z'⟩
        · exact .inl q
        · refine .inr ⟨k, c', e, z'.sameBut hs ?_⟩
          rintro rfl
          exact hj (nodup_ix hN e1 (I.ok.inj _ _ _ e hc ▸ hi))
    · by_cases hcc : c' = c
      · subst hcc; exact ⟨_, hc'⟩
      · obtain ⟨w2, z2⟩ := I.cell y c' e
        exact ⟨w2, z2.sameBut hs hcc⟩
    · obtain ⟨e, n, ne, nf, d⟩ := I.pin p hp
      refine ⟨(hs.2 p.1 ?_).trans e, n, ne, nf, d⟩
      intro q
      rw [q, hoc] at e
      have q' : oc = p.2 := Option.some.inj e
      exact d w' (by rw [← q']; exact hocd)
theorem store_ok {M : Model} {A : Around} {E : Value → Shared → Prop} {i : Nat} {x : Str} {v : V} {u : Value} {Q : Unit → Shared → Prop} (I : Inv X pins σ H s) (hN : X.N.Nodup) (hi : X.N[i]? = some x) (hx : Loc X.env.scope x) (r : RelV v u)
    (h : ∀ s', Inv X pins (σ.set i (some v)) H s' → Q () s') (hf : X.fn x = true ∨ X.env.scope.names.lookup x = some .local := by first | exact .inl rfl | exact .inr rfl | assumption) : wpAny M A (storeName X.env x u) Q E s :=
  store_ok2 I hN hi hx r (fun s' I' _ => h s' I') hf
/-- behind a call or a block, the state as it is -/
theorem Inv.call' {s' : Shared} {ch : List Addr} (I : Inv X pins σ H s) (ho : s'.os = s.os) (u : Un (frs X.stack) ch H H' s.heap s'.heap) (hok : HOk X.prog X.w H' s'.heap) (hg : AllBare s'.gens)
    (hch : ∀ b ∈ ch, (b ∈ X.ex ∨ X.s₀.heap.get? b = none) ∧ b ≠ X.env.locals ∧ (∀ x c, X.env.cells.lookup x = some c → c ≠ b) ∧ ∀ p ∈ X.pn ++ pins, p.1 ≠ b) : Inv X pins σ H' s' := by
  obtain ⟨h', g', d', t', o'⟩ := s'
  have e : o' = s.os := ho
  subst e
  exact I.call (g' := g') (t' := t') (d' := d') u hok hg hch
end

/-! ### the judgements -/
/-- an exception: its class, its own dict's address (where it has one), the abstract heap behind it -/
abbrev XK := Value → Option Addr → Hp → Prop
abbrev St := List (Option V)
abbrev VK := V → Hp → Prop
/-- an expression's reading; a test's; an argument list's -/
abbrev TE := St → Hp → VK → Prop
abbrev TT := St → Hp → (Bool → Hp → Prop) → Prop
abbrev TA := St → Hp → (List V → Hp → Prop) → Prop
/-- what is wanted behind a statement -/
structure Ends where
  nx : St → Hp → Prop
  rt : VK
  bk : St → Hp → Prop := fun _ _ => False
  ct : St → Hp → Prop := fun _ _ => False
abbrev TS := Ends → St → Hp → Prop

def EP (X : Cx) (pins : List (Addr × Obj)) (σ : St) (Q : VK) (u : Value) (s' : Shared) : Prop := ∃ v H', Inv X pins σ H' s' ∧ RelV v u ∧ Q v H'
def TP (X : Cx) (pins : List (Addr × Obj)) (σ : St) (Q : Bool → Hp → Prop) (b : Bool) (s' : Shared) : Prop := ∃ H', Inv X pins σ H' s' ∧ Q b H'
def AP (X : Cx) (pins : List (Addr × Obj)) (σ : St) (Q : List V → Hp → Prop) (us : List Value) (s' : Shared) : Prop := ∃ vs H', Inv X pins σ H' s' ∧ Vals vs us ∧ Q vs H'
def SP (X : Cx) (pins : List (Addr × Obj)) (D : Ends) (f : Flow) (s' : Shared) : Prop :=
  match f with
  | .next => ∃ σ' H', Inv X pins σ' H' s' ∧ D.nx σ' H'
  | .brk => ∃ σ' H', Inv X pins σ' H' s' ∧ D.bk σ' H'
  | .cont => ∃ σ' H', Inv X pins σ' H' s' ∧ D.ct σ' H'
  | .ret u => ∃ v σ' H', Inv X pins σ' H' s' ∧ RelV v u ∧ D.rt v H'

def PE (X : Cx) (e : Expr) (t : TE) : Prop :=
  ∀ (pins : List (Addr × Obj)) (s : Shared) (σ : St) (H : Hp) (Q : VK), Inv X pins σ H s → t σ H Q → wpAny (model X.prog X.w) X.A (eval e X.env) (EP X pins σ Q) X.xe s
def PT (X : Cx) (e : Expr) (t : TT) : Prop :=
  ∀ (pins : List (Addr × Obj)) (s : Shared) (σ : St) (H : Hp) (Q : Bool → Hp → Prop), Inv X pins σ H s → t σ H Q → wpAny (model X.prog X.w) X.A (isTrue e X.env (eval e X.env)) (TP X pins σ Q) X.xe s
/-- a test whatever its 'whole' is (and, or) -/
def PW (X : Cx) (e : Expr) (t : TT) : Prop :=
  ∀ (whole : Sem Value) (pins : List (Addr × Obj)) (s : Shared) (σ : St) (H : Hp) (Q : Bool → Hp → Prop), Inv X pins σ H s → t σ H Q → wpAny (model X.prog X.w) X.A (isTrue e X.env whole) (TP X pins σ Q) X.xe s
theorem PW.pt {X : Cx} {e : Expr} {t : TT} (h : PW X e t) : PT X e t := h _
/-- an argument list (no star), from the left -/
def PA (X : Cx) (es : List Expr) (t : TA) : Prop :=
  ∀ (pos : Pos) (pins : List (Addr × Obj)) (s : Shared) (σ : St) (H : Hp) (Q : List V → Hp → Prop), Inv X pins σ H s → t σ H Q → wpAny (model X.prog X.w) X.A (spliced (backTo pos (starEach es X.env))) (AP X pins σ Q) X.xe s
def PS (X : Cx) (st : Stmt) (t : TS) : Prop :=
  ∀ (pins : List (Addr × Obj)) (s : Shared) (σ : St) (H : Hp) (D : Ends), Inv X pins σ H s → t D σ H → wpAny (model X.prog X.w) X.A (exec st X.env) (SP X pins D) X.xe s
def PSs (X : Cx) (st : List Stmt) (t : TS) : Prop :=
  ∀ (pins : List (Addr × Obj)) (s : Shared) (σ : St) (H : Hp) (D : Ends), Inv X pins σ H s → t D σ H → wpAny (model X.prog X.w) X.A (execs st X.env) (SP X pins D) X.xe s
/-- weaken the end -/
theorem thn {α : Type} {t : Sem α} {Q Q' : α → Shared → Prop} {M : Model} {A : Around} {E : Value → Shared → Prop} {s : Shared} (h : wpAny M A t Q E s) (hQ : ∀ a s, Q a s → Q' a s) : wpAny M A t Q' E s := wpAny_mono h hQ fun _ _ x => x
end L2

namespace L2
open PySem PySem.Spec PyProof.Rows
section
variable {X : Cx}


/-! ### names and constants -/
def tVar (i : Nat) : TE := fun σ H Q => ∃ v, σ[i]? = some (some v) ∧ Q v H
def tC (v : V) : TE := fun _ H Q => Q v H
theorem pe_var {i : Nat} {x : Str} {pos : Pos} (hN : X.N[i]? = some x) (hv : Vis X.env.scope x) (hd : (x == ("__debug__" : Str)) = false := by decide) (hcd : (x == ("__classdict__" : Str)) = false := by decide) : PE X (.Name x pos) (tVar i) := by
  intro pins s σ H Q I h
  obtain ⟨v, e, h⟩ := h
  obtain ⟨m, hn, hl⟩ := I.loc
  obtain ⟨u, r, l⟩ := hl i x v hN e hv
  have fin : EP X pins σ Q u s := ⟨v, H, I, r, h⟩
  rcases l with ⟨hk, hm⟩ | ⟨hk, c, hc, hcell⟩
  · exact wpAny_Name (wpAny_loadName_local I.ok.kind hk hn hm fin) hd
  · rcases hk with hk | hk
    · exact wpAny_Name (wpAny_loadName_cell I.ok.kind hk hc hcell fin) hd
    · exact wpAny_Name (wpAny_loadName_free I.ok.kind hk hc hcell fin hcd) hd
theorem pe_int {i j pos} : PE X (.Constant (.int i) j pos) (tC (.int i)) := fun _ _ _ H _ I h => wpAny_Constant_int ⟨.int i, H, I.tok _, ⟨_, rfl⟩, h⟩
theorem pe_bl {b j pos} : PE X (.Constant (.bool b) j pos) (tC (.bl b)) := fun _ _ _ H _ I h => Constant_bool ⟨.bl b, H, I, rfl, h⟩
theorem pe_non {j pos} : PE X (.Constant .none j pos) (tC .non) := fun _ _ _ H _ I h => Constant_none ⟨.non, H, I, rfl, h⟩
theorem pe_str {x j pos} : PE X (.Constant (.str x) j pos) (tC (.str x)) := fun _ _ _ H _ I h => Calls.Constant_str ⟨.str x, H, I.tok _, ⟨_, rfl⟩, h⟩

/-- a global name of the def -/
def Gl (X : Cx) (x : Str) : Prop := X.env.kindOf x = some .globalImplicit
theorem ld_glob {E : Value → Shared → Prop} {pins : List (Addr × Obj)} {s : Shared} {σ : St} {H : Hp} {x : Str} {u : Value} {pos : Pos} {Q : Value → Shared → Prop} (I : Inv X pins σ H s) (hg : Gl X x) (hm : X.mg x = some u) (h : Q u s)
    (hd : (x == ("__debug__" : Str)) = false := by decide) : wpAny (model X.prog X.w) X.A (eval (.Name x pos) X.env) Q E s :=
  Calls.Name_function_global I.ok.kind hg (Calls.loadGlobal_global (by rw [I.ok.glob]; exact I.mod.glob.keeps I.bk) hm h) hd
theorem ld_blt {E : Value → Shared → Prop} {pins : List (Addr × Obj)} {s : Shared} {σ : St} {H : Hp} {x : Str} {u : Value} {pos : Pos} {Q : Value → Shared → Prop} (I : Inv X pins σ H s) (hg : Gl X x) (hm : X.mg x = none) (hv : bootBuiltins x = some u) (h : Q u s)
    (hn : x ≠ "__name__" := by decide) (hd : (x == ("__debug__" : Str)) = false := by decide) : wpAny (model X.prog X.w) X.A (eval (.Name x pos) X.env) Q E s := by
  obtain ⟨mb, h1, h2⟩ := I.mod.blt
  exact Calls.Name_function_global I.ok.kind hg (Calls.loadGlobal_builtin (by rw [I.ok.glob]; exact I.mod.glob.keeps I.bk) hm (by rw [I.ok.blt]; exact h1.keeps I.bk) ((h2 x hn).trans hv) h) hd
/-- a module's constant, a class, a function, as a value -/
theorem pe_glob {x : Str} {v : V} {u : Value} {pos : Pos} (hg : Gl X x) (hm : X.mg x = some u) (r : RelV v u) (hd : (x == ("__debug__" : Str)) = false := by decide) : PE X (.Name x pos) (tC v) :=
  fun _ _ _ H _ I h => ld_glob I hg hm ⟨v, H, I, r, h⟩ hd
theorem pe_bltn {x : Str} {v : V} {u : Value} {pos : Pos} (hg : Gl X x) (hm : X.mg x = none) (hv : bootBuiltins x = some u) (r : RelV v u) (hn : x ≠ "__name__" := by decide) (hd : (x == ("__debug__" : Str)) = false := by decide) : PE X (.Name x pos) (tC v) :=
  fun _ _ _ H _ I h => ld_blt I hg hm hv ⟨v, H, I, r, h⟩ hn hd

/-! ### arithmetic -/
/-- two ints -/
def t2I (ta tb : TE) (k : Int → Int → Hp → Prop) : St → Hp → Prop := fun σ H => ta σ H fun x H1 => tb σ H1 fun y H2 => ∃ i j, x = .int i ∧ y = .int j ∧ k i j H2
def tAdd (ta tb : TE) : TE := fun σ H Q => t2I ta tb (fun i j H2 => Q (.int (i + j)) H2) σ H
def tSub (ta tb : TE) : TE := fun σ H Q => t2I ta tb (fun i j H2 => Q (.int (i - j)) H2) σ H
/-- the left factor below 2^64 -/
def tMul (ta tb : TE) : TE := fun σ H Q => t2I ta tb (fun i j H2 => (-(2 ^ 64) < i ∧ i < 2 ^ 64) ∧ Q (.int (i * j)) H2) σ H
variable {a b : Expr} {ta tb : TE} {pos : Pos}

/-! ### comparisons -/
def PC (X : Cx) (op : CmpOp) (a b : Expr) (t : TE) : Prop :=
  ∀ (pins : List (Addr × Obj)) (s : Shared) (σ : St) (H : Hp) (Q : VK), Inv X pins σ H s → t σ H Q →
    wpAny (model X.prog X.w) X.A (eval a X.env) (fun v s₁ => wpAny (model X.prog X.w) X.A (eval b X.env) (fun u s₂ => wpAny (model X.prog X.w) X.A (compareOp op v u) (EP X pins σ Q) X.xe s₂) X.xe s₁) X.xe s
def tCmp (p : Int → Int → Bool) (ta tb : TE) : TE := fun σ H Q => t2I ta tb (fun i j H2 => Q (.bl (p i j)) H2) σ H
abbrev tLt : TE → TE → TE := tCmp fun i j => decide (i < j)
abbrev tLe : TE → TE → TE := tCmp fun i j => decide (i ≤ j)
abbrev tGt : TE → TE → TE := tCmp fun i j => decide (j < i)
abbrev tGe : TE → TE → TE := tCmp fun i j => decide (j ≤ i)
abbrev tEqI : TE → TE → TE := tCmp fun i j => decide (i = j)
abbrev tNeI : TE → TE → TE := tCmp fun i j => !decide (i = j)
/-- is None -/
def tIsN (ta : TE) : TE := fun σ H Q => ta σ H fun x H1 => Q (.bl (decide (x = .non))) H1
def tNotN (ta : TE) : TE := fun σ H Q => ta σ H fun x H1 => Q (.bl (!decide (x = .non))) H1
/-- a comparison as a value, as a test -/
def tB (t : TE) : TT := fun σ H Q => t σ H fun x H1 => ∃ c, x = .bl c ∧ Q c H1
/-- an expression whose value is a bool, as a test -/
theorem pt_val {e : Expr} {t : TE} (h : PE X e t) (he : ∀ whole, isTrue e X.env whole = (do let v ← whole; standAt e.pos; holding [v] (truthy v)) := by intro _; rfl) : PT X e (tB t) := by
  intro pins s σ H Q I hw
  refine isTrue_plain (thn (h pins s σ H _ I hw) fun v s1 ⟨x, H1, I1, r1, q1⟩ => ?_) (he _)
  obtain ⟨d, rfl, q⟩ := q1
  cases r1
  exact wpAny_truthy_bool ⟨H1, I1, q⟩

/-! ### and, or, not -/
variable {tA tB' : TT} {rest : List Expr}
def tAnd (t u : TT) : TT := fun σ H Q => t σ H fun c H1 => if c = true then u σ H1 Q else Q false H1
def tOr (t u : TT) : TT := fun σ H Q => t σ H fun c H1 => if c = true then Q true H1 else u σ H1 Q
def tNot (t : TT) : TT := fun σ H Q => t σ H fun c H1 => Q (!c) H1
theorem pw_and1 (ha : PT X a tA) : PW X (.BoolOp .And [a] pos) tA := by
  intro wh pins s σ H Q I h
  refine isTrue_and (thn (ha pins s σ H Q I h) fun c s1 e => ?_)
  cases c with
  | true => exact isTrue_and_nil e
  | false => exact e
theorem pw_or1 (ha : PT X a tA) : PW X (.BoolOp .Or [a] pos) tA := by
  intro wh pins s σ H Q I h
  refine isTrue_or (thn (ha pins s σ H Q I h) fun c s1 e => ?_)
  cases c with
  | false => exact isTrue_or_nil e
  | true => exact e
theorem pw_and (ha : PT X a tA) (hb : PW X (.BoolOp .And (b :: rest) pos) tB') : PW X (.BoolOp .And (a :: b :: rest) pos) (tAnd tA tB') := by
  intro wh pins s σ H Q I h
  refine isTrue_and (thn (ha pins s σ H _ I h) fun c s1 ⟨H1, I1, q1⟩ => ?_)
  cases c with
  | true => exact hb wh pins s1 σ H1 Q I1 q1
  | false => exact ⟨H1, I1, q1⟩
theorem pw_or (ha : PT X a tA) (hb : PW X (.BoolOp .Or (b :: rest) pos) tB') : PW X (.BoolOp .Or (a :: b :: rest) pos) (tOr tA tB') := by
  intro wh pins s σ H Q I h
  refine isTrue_or (thn (ha pins s σ H _ I h) fun c s1 ⟨H1, I1, q1⟩ => ?_)
  cases c with
  | true => exact ⟨H1, I1, q1⟩
  | false => exact hb wh pins s1 σ H1 Q I1 q1
theorem pt_not (ha : PT X a tA) : PT X (.UnaryOp .Not a pos) (tNot tA) := by
  intro pins s σ H Q I h
  exact isTrue_not (ha pins s σ H (fun c H1 => Q (!c) H1) I h)
/-- .. as values (bools) -/
def tAndV (ta tb : TE) : TE := fun σ H Q => ta σ H fun x H1 => ∃ c, x = .bl c ∧ if c = true then tb σ H1 Q else Q (.bl false) H1
def tOrV (ta tb : TE) : TE := fun σ H Q => ta σ H fun x H1 => ∃ c, x = .bl c ∧ if c = true then Q (.bl true) H1 else tb σ H1 Q
def tNotV (ta : TE) : TE := fun σ H Q => ta σ H fun x H1 => ∃ c, x = .bl c ∧ Q (.bl (!c)) H1
theorem pe_one {op} {t : TE} (h : PE X a t) : PE X (.BoolOp op [a] pos) t := fun pins s σ H Q I hw => BoolOp_one (h pins s σ H Q I hw)
theorem pe_and (ha : PE X a ta) (hb : PE X (.BoolOp .And (b :: rest) pos) tb) : PE X (.BoolOp .And (a :: b :: rest) pos) (tAndV ta tb) := by
  intro pins s σ H Q I h
  refine BoolOp_and (thn (ha pins s σ H _ I h) fun v s1 ⟨x, H1, I1, r1, q1⟩ => ?_)
  obtain ⟨c, rfl, q1⟩ := q1
  cases r1
  refine wpAny_truthy_bool ?_
  cases c with
  | true => exact hb pins s1 σ H1 Q I1 q1
  | false => exact ⟨.bl false, H1, I1, rfl, q1⟩
theorem pe_not (ha : PE X a ta) : PE X (.UnaryOp .Not a pos) (tNotV ta) := by
  intro pins s σ H Q I h
  refine UnaryOp_ (thn (ha pins s σ H _ I h) fun v s1 ⟨x, H1, I1, r1, q1⟩ => ?_)
  obtain ⟨c, rfl, q1⟩ := q1
  cases r1
  exact not_of (wpAny_truthy_bool ⟨.bl (!c), H1, I1, rfl, q1⟩)
/-- a if t else b -/
def tIf (t : TT) (ta tb : TE) : TE := fun σ H Q => t σ H fun c H1 => if c = true then ta σ H1 Q else tb σ H1 Q
end
end L2

namespace L2
open PySem PySem.Spec PyProof.Rows

/-! ### a list, a tuple that is read: tracked, frozen, or an object of the module -/
def SqL (K : PySem.W.Frag) (H : Hp) (a : Addr) (xs : List V) : Prop :=
  Rd H a (.lst xs) ∨
    ∃ (o : Obj) (its : Array Value) (n : Nat), K.lookup a = some o ∧ o.cls = .type "list" ∧ o.dict = none ∧ o.data = .seq its n ∧ its.size ≤ sizeLine ∧ Vals xs its.toList
def SqT (K : PySem.W.Frag) (H : Hp) (a : Addr) (xs : List V) : Prop :=
  Rd H a (.tup xs) ∨
    ∃ (o : Obj) (its : Array Value) (n : Nat), K.lookup a = some o ∧ o.cls = .type "tuple" ∧ o.data = .seq its n ∧ its.size ≤ sizeLine ∧ Vals xs its.toList
def absV : Value → Option V
  | .none => some .non
  | .bool b => some (.bl b)
  | .int i _ => some (.int i)
  | .str x _ => some (.str x)
  | .bytes b _ => some (.byt b)
  | .float b _ => some (.flt b)
  | .ref a => some (.ref a)
  | .type n => some (.ty n)
  | _ => none
theorem RelV.abs {x : V} {u : Value} (r : RelV x u) : absV u = some x := by
  cases x with
  | non => cases r; rfl
  | bl _ => cases r; rfl
  | int _ => obtain ⟨t, rfl⟩ := r; rfl
  | str _ => obtain ⟨t, rfl⟩ := r; rfl
  | byt _ => obtain ⟨t, rfl⟩ := r; rfl
  | flt _ => obtain ⟨t, rfl⟩ := r; rfl
  | ref _ => cases r; rfl
  | ty _ => cases r; rfl
theorem RelV.inj {x y : V} {u : Value} (r : RelV x u) (q : RelV y u) : x = y := Option.some.inj (r.abs.symm.trans q.abs)
theorem Vals.inj : ∀ {xs ys : List V} {us : List Value}, Vals xs us → Vals ys us → xs = ys
  | _, _, _, .nil, .nil => rfl
  | _, _, _, .cons r t, .cons r' t' => by rw [r.inj r', Vals.inj t t']
section
variable {X : Cx} {pins : List (Addr × Obj)} {σ : St} {H : Hp} {s : Shared} {a : Addr} {xs ys : List V}
theorem SqL.of {K : PySem.W.Frag} (h : H a = some (.lst xs)) : SqL K H a xs := .inl (.inl h)
theorem SqT.of {K : PySem.W.Frag} (h : H a = some (.tup xs)) : SqT K H a xs := .inl (.inl h)
theorem Inv.list (I : Inv X pins σ H s) (h : SqL X.K H a xs) : ∃ its : List Value, Vals xs its ∧ PlainL s.heap a its.toArray ∧ xs.length ≤ sizeLine := by
  rcases h with h | ⟨o, its, n, hk, hc, hd, hs, hz, r⟩
  · obtain ⟨z, its, n, r, e⟩ := h.ok I.hok
    exact ⟨its, r, ⟨_, n, e, rfl, rfl, rfl⟩, z⟩
  · refine ⟨its.toList, r, ⟨o, n, I.kIn a o hk, hc, hd, by simpa using hs⟩, ?_⟩
    have e := r.length
    simp only [Array.length_toList] at e
    omega
theorem Inv.tuple (I : Inv X pins σ H s) (h : SqT X.K H a xs) : ∃ its : List Value, Vals xs its ∧ IsTup s.heap a its.toArray ∧ xs.length ≤ sizeLine := by
  rcases h with h | ⟨o, its, n, hk, hc, hs, hz, r⟩
  · obtain ⟨z, its, r, p⟩ := h.ok I.hok
    exact ⟨its, r, p, z⟩
  · refine ⟨its.toList, r, ⟨o, I.kIn a o hk, hc, n, by simpa using hs⟩, ?_⟩
    have e := r.length
    simp only [Array.length_toList] at e
    omega
theorem Inv.list_inj (I : Inv X pins σ H s) (h : SqL X.K H a xs) (h' : SqL X.K H a ys) : xs = ys := by
  obtain ⟨its, r, ⟨o, n, e, _, _, d⟩, _⟩ := I.list h
  obtain ⟨its', r', ⟨o', n', e', _, _, d'⟩, _⟩ := I.list h'
  rw [e] at e'; cases e'
  rw [d] at d'
  injection d' with d1 _
  have : its = its' := by simpa using congrArg Array.toList d1
  subst this
  exact r.inj r'
theorem Inv.tuple_inj (I : Inv X pins σ H s) (h : SqT X.K H a xs) (h' : SqT X.K H a ys) : xs = ys := by
  obtain ⟨its, r, ⟨o, e, _, n, d⟩, _⟩ := I.tuple h
  obtain ⟨its', r', ⟨o', e', _, n', d'⟩, _⟩ := I.tuple h'
  rw [e] at e'; cases e'
  rw [d] at d'
  injection d' with d1 _
  have : its = its' := by simpa using congrArg Array.toList d1
  subst this
  exact r.inj r'
end

/-! ### another wish about exceptions -/
abbrev Cx.wish (X : Cx) (E : Value → Shared → Prop) : Cx := { X with xe := E }
/-- no exception leaves -/
abbrev Cx.nox (X : Cx) : Cx := X.wish fun _ _ => False
theorem Cx.Ok.wish {X : Cx} (ok : X.Ok) (E : Value → Shared → Prop) : (X.wish E).Ok :=
  ⟨ok.mod, ok.kind, ok.glob, ok.blt, ok.above, ok.inj, ok.has, ok.cab, ok.hd, ok.frames, ok.stk, ok.exf, ok.bs, ok.bsz, ok.noex, ok.exfs, ok.funs, ok.frf⟩
theorem Cx.Ok.unwish {X : Cx} {E : Value → Shared → Prop} (ok : (X.wish E).Ok) : X.Ok :=
  ⟨ok.mod, ok.kind, ok.glob, ok.blt, ok.above, ok.inj, ok.has, ok.cab, ok.hd, ok.frames, ok.stk, ok.exf, ok.bs, ok.bsz, ok.noex, ok.exfs, ok.funs, ok.frf⟩
section
variable {X : Cx} {pins : List (Addr × Obj)} {σ : St} {H : Hp} {s : Shared} {E : Value → Shared → Prop}
theorem Inv.wish (I : Inv X pins σ H s) (E : Value → Shared → Prop) : Inv (X.wish E) pins σ H s := ⟨I.ok.wish E, I.os, I.bare, I.base, I.loc, I.cell, I.free, I.freeC, I.pin, I.hok, I.len⟩
theorem Inv.unwish (I : Inv (X.wish E) pins σ H s) : Inv X pins σ H s := ⟨I.ok.unwish, I.os, I.bare, I.base, I.loc, I.cell, I.free, I.freeC, I.pin, I.hok, I.len⟩
theorem SP.unwish {D : Ends} {f : Flow} {s' : Shared} (h : SP (X.wish E) pins D f s') : SP X pins D f s' := by
  cases f with
  | next => obtain ⟨σ', H', I, q⟩ := h; exact ⟨σ', H', I.unwish, q⟩
  | brk => obtain ⟨σ', H', I, q⟩ := h; exact ⟨σ', H', I.unwish, q⟩
  | cont => obtain ⟨σ', H', I, q⟩ := h; exact ⟨σ', H', I.unwish, q⟩
  | ret u => obtain ⟨v, σ', H', I, r, q⟩ := h; exact ⟨v, σ', H', I.unwish, r, q⟩
theorem PSs.nox {st : List Stmt} {t : TS} (h : PSs X.nox st t) : PSs X st t := fun pins s σ H D I hw =>
  wpAny_mono (h pins s σ H D (I.wish _) hw) (fun _ _ q => q.unwish) fun _ _ z => False.elim z
end

/-! ### blocks and small statements -/
section
variable {X : Cx} {st : Stmt} {rest : List Stmt} {t u : TS} {e : Expr} {te : TE} {pos : Pos}
def tNext : TS := fun D σ H => D.nx σ H
def tSeq (t u : TS) : TS := fun D σ H => t { D with nx := u D } σ H
theorem pss_nil : PSs X [] tNext := fun _ _ σ H _ I h => wpAny_execs_nil ⟨σ, H, I, h⟩
theorem pss_cons (h1 : PS X st t) (h2 : PSs X rest u) : PSs X (st :: rest) (tSeq t u) := by
  intro pins s σ H D I h
  refine wpAny_execs_cons (thn (h1 pins s σ H { D with nx := u D } I h) fun f s1 q => ?_)
  cases f with
  | next =>
    obtain ⟨σ', H', I', q⟩ := q
    exact h2 pins s1 σ' H' D I' q
  | ret v => exact q
  | brk => exact q
  | cont => exact q
theorem pss_one (h1 : PS X st t) : PSs X [st] t := by
  intro pins s σ H D I h
  refine wpAny_execs_cons (thn (h1 pins s σ H D I h) fun f s1 q => ?_)
  cases f with
  | next => exact wpAny_execs_nil q
  | ret v => exact q
  | brk => exact q
  | cont => exact q
def tBreak : TS := fun D σ H => D.bk σ H
def tCont : TS := fun D σ H => D.ct σ H
/-- in a def's body nothing is shown -/
theorem Inv.quiet {pins : List (Addr × Obj)} {σ : St} {H : Hp} {s : Shared} (I : Inv X pins σ H s) : interactive X.env = false := by simp [interactive, I.ok.kind]
/-- an expression whose value is dropped -/
def tDrop (te : TE) : TS := fun D σ H => te σ H fun _ H1 => D.nx σ H1
theorem ps_expr (he : PE X e te) (hs : swapsWith e none pos.line X.env = pure false := by rfl) : PS X (.Expr e pos) (tDrop te) := by
  intro pins s σ H D I h
  exact wpAny_Expr_any (thn (he pins s σ H _ I h) fun v s1 ⟨x, H1, I1, r1, q1⟩ => ⟨σ, H1, I1, q1⟩) I.quiet hs
def tRet (te : TE) : TS := fun D σ H => te σ H D.rt
theorem ps_ret (he : PE X e te) : PS X (.Return (some e) pos) (tRet te) := by
  intro pins s σ H D I h
  exact wpAny_Return_some (thn (he pins s σ H _ I h) fun v s1 ⟨x, H1, I1, r1, q1⟩ => ⟨x, σ, H1, I1, r1, q1⟩)
def tRetN : TS := fun D _ H => D.rt .non H
def tIfS (c : TT) (t u : TS) : TS := fun D σ H => c σ H fun b H1 => if b = true then t D σ H1 else u D σ H1
theorem ps_if {c : Expr} {a b : List Stmt} {tc : TT} (hc : PT X c tc) (ha : PSs X a t) (hb : PSs X b u) : PS X (.If c a b pos) (tIfS tc t u) := by
  intro pins s σ H D I h
  refine wpAny_If (thn (hc pins s σ H _ I h) fun d s1 ⟨H1, I1, q1⟩ => ?_)
  cases d with
  | true => exact ha pins s1 σ H1 D I1 q1
  | false => exact hb pins s1 σ H1 D I1 q1
/-- code that the proof never comes to -/
def tNever : TS := fun _ _ _ => False
theorem ps_never : PS X st tNever := fun _ _ _ _ _ _ h => h.elim
end

/-! ### targets -/
abbrev TG := V → St → Hp → (St → Hp → Prop) → Prop
abbrev TGs := List V → St → Hp → (St → Hp → Prop) → Prop
def PG (X : Cx) (target : Expr) (t : TG) : Prop :=
  ∀ (pins : List (Addr × Obj)) (s : Shared) (σ : St) (H : Hp) (v : V) (u : Value) (Q : St → Hp → Prop), Inv X pins σ H s → RelV v u → t v σ H Q →
    wpAny (model X.prog X.w) X.A (assign target X.env u) (fun _ s' => ∃ σ' H', Inv X pins σ' H' s' ∧ Q σ' H') X.xe s
/-- several targets, one after another -/
def PGs (X : Cx) (ts : List Expr) (t : TGs) : Prop :=
  ∀ (pins : List (Addr × Obj)) (s : Shared) (σ : St) (H : Hp) (vs : List V) (us : List Value) (Q : St → Hp → Prop), Inv X pins σ H s → Vals vs us → t vs σ H Q →
    wpAny (model X.prog X.w) X.A (assignInOrder ((assignEach ts X.env).map (·.2)) us) (fun _ s' => ∃ σ' H', Inv X pins σ' H' s' ∧ Q σ' H') X.xe s
/-- o[i] = v, by values -/
abbrev TSet := V → V → V → Hp → (Hp → Prop) → Prop
def PSet (X : Cx) (t : TSet) : Prop :=
  ∀ (pins : List (Addr × Obj)) (s : Shared) (σ : St) (H : Hp) (o i v : V) (ov iv u : Value) (Q : Hp → Prop), Inv X pins σ H s → RelV o ov → RelV i iv → RelV v u → t o i v H Q →
    wpAny (model X.prog X.w) X.A (setItem ov iv u) (fun _ s' => ∃ H', Inv X pins σ H' s' ∧ Q H') X.xe s
/-- a op= b, by values -/
abbrev TIp := V → V → Hp → VK → Prop
def PIp (X : Cx) (op : Operator) (t : TIp) : Prop :=
  ∀ (pins : List (Addr × Obj)) (s : Shared) (σ : St) (H : Hp) (x y : V) (v u : Value) (Q : VK), Inv X pins σ H s → RelV x v → RelV y u → t x y H Q →
    wpAny (model X.prog X.w) X.A (inplaceOp op v u) (EP X pins σ Q) X.xe s
section
variable {X : Cx} {pos : Pos}
def gName (i : Nat) : TG := fun v σ H Q => Q (σ.set i (some v)) H
theorem pg_name {i : Nat} {x : Str} (hN : X.N.Nodup) (hi : X.N[i]? = some x) (hx : Loc X.env.scope x) (hf : X.fn x = true ∨ X.env.scope.names.lookup x = some .local := by first | exact .inl rfl | exact .inr rfl | assumption) : PG X (.Name x pos) (gName i) := by
  intro pins s σ H v u Q I r h
  exact wpAny_assign_Name (store_ok I hN hi hx r (fun s' I' => ⟨_, H, I', h⟩) hf)
def gNil : TGs := fun vs σ H Q => vs = [] ∧ Q σ H
def gCons (t : TG) (u : TGs) : TGs := fun vs σ H Q => ∃ v r, vs = v :: r ∧ t v σ H fun σ' H' => u r σ' H' Q
theorem pgs_nil : PGs X [] gNil := by
  intro pins s σ H vs us Q I r h
  obtain ⟨e, h⟩ := h
  subst e
  cases r
  exact assignInOrder_nil ⟨σ, H, I, h⟩
theorem pgs_cons {e : Expr} {es : List Expr} {t : TG} {u : TGs} (h1 : PG X e t) (h2 : PGs X es u)
    (hs : (assignEach (e :: es) X.env).map (·.2) = assign e X.env :: (assignEach es X.env).map (·.2) := by rfl) : PGs X (e :: es) (gCons t u) := by
  intro pins s σ H vs us Q I r h
  obtain ⟨v, vr, e1, h⟩ := h
  subst e1
  cases r with
  | cons r rr =>
    rw [hs]
    refine assignInOrder_cons (thn (h1 pins s σ H _ _ _ I r h) fun _ s1 ⟨σ1, H1, I1, q1⟩ => ?_)
    exact h2 pins s1 σ1 H1 _ _ Q I1 rr q1
/-- (a, b, ..) = a tuple of that length -/
def gTup (K : PySem.W.Frag) (n : Nat) (t : TGs) : TG := fun v σ H Q => ∃ a xs, v = .ref a ∧ SqT K H a xs ∧ xs.length = n ∧ t xs σ H Q
theorem pg_tup {es : List Expr} {k : Nat} {t : TGs} {n : Nat} (hc : X.calm = true) (h : PGs X es t)
    (hn : (assignEach es X.env).length = n := by rfl) (hst : (assignEach es X.env).findIdx? (·.1) = none := by rfl) : PG X (.Tuple es k pos) (gTup X.K n t) := by
  intro pins s σ H v u Q I r hw
  obtain ⟨a, xs, e1, hq, hl, hw⟩ := hw
  subst e1
  cases r
  obtain ⟨its, rv, ht, hz⟩ := I.tuple hq
  refine assign_Tuple_tuple (I.ok.hd hc) ht (by simp [hn, ← hl, rv.length]) hst fun h' hx => ?_
  have I1 : Inv X pins σ H { s with heap := h' } := I.kept (t' := s.toks) fun b o e => hx b o (Nat.ne_of_lt (Heap.lt_size e)) e
  exact h pins _ σ H xs _ Q I1 (by simpa using rv) hw
/-- o[i] = .. -/
def gSub (to ti : TE) (t : TSet) : TG := fun v σ H Q => to σ H fun o H1 => ti σ H1 fun i H2 => t o i v H2 fun H3 => Q σ H3
theorem pg_sub {o i : Expr} {to ti : TE} {t : TSet} (ho : PE X o to) (hi : PE X i ti) (hs : PSet X t)
    (ha : ∀ v, assign (.Subscript o i pos) X.env v = (do
      let ov ← holding [v] (eval o X.env)
      let iv ← holding [v, ov] (eval i X.env)
      standAt pos
      holding [v, ov, iv] (setItem ov iv v)
      release [v, ov, iv] []) := by intro _; rfl) : PG X (.Subscript o i pos) (gSub to ti t) := by
  intro pins s σ H v u Q I r h
  rw [ha]
  refine wpAny_bind (wpAny_holding (thn (ho pins s σ H _ I h) fun ov s1 ⟨x, H1, I1, r1, q1⟩ => ?_))
  refine wpAny_bind (wpAny_holding (thn (hi pins s1 σ H1 _ I1 q1) fun iv s2 ⟨y, H2, I2, r2, q2⟩ => ?_))
  refine wpAny_bind (wpAny_standAt (wpAny_bind (wpAny_holding (thn (hs pins s2 σ H2 x y v ov iv u _ I2 r1 r2 r q2) fun _ s3 ⟨H3, I3, q3⟩ => ?_))))
  exact wpAny_release ⟨σ, H3, I3, q3⟩
/-- target = value -/
def tAsg (te : TE) (g : TG) : TS := fun D σ H => te σ H fun x H1 => g x σ H1 D.nx
theorem ps_asg {tg e : Expr} {te : TE} {g : TG} (he : PE X e te) (hg : PG X tg g) (hs : swapsWithSole [tg] e pos.line X.env = pure false := by rfl) (hw : swappedStores [tg] e X.env = pure none := by rfl)
    (h1 : (assignEach [tg] X.env).map (·.2) = [assign tg X.env] := by rfl) : PS X (.Assign [tg] e pos) (tAsg te g) := by
  intro pins s σ H D I h
  refine wpAny_Assign_stores (thn (he pins s σ H _ I h) fun v s1 ⟨x, H1, I1, r1, q1⟩ => ?_) hs hw
  rw [h1]
  exact thn (hg pins s1 σ H1 x v _ I1 r1 q1) fun _ s2 q => q
/-- name = value -/
theorem ps_set {i : Nat} {x : Str} {e : Expr} {te : TE} {pos' : Pos} (hN : X.N.Nodup) (hi : X.N[i]? = some x) (hx : Loc X.env.scope x) (he : PE X e te) (hs : swapsWith e (some (.Name x pos')) pos.line X.env = pure false := by rfl) (hf : X.fn x = true ∨ X.env.scope.names.lookup x = some .local := by first | exact .inl rfl | exact .inr rfl | assumption) :
    PS X (.Assign [.Name x pos'] e pos) (tAsg te (gName i)) := by
  intro pins s σ H D I h
  refine wpAny_Assign_Name (thn (he pins s σ H _ I h) fun v s1 ⟨y, H1, I1, r1, q1⟩ => ?_) hs
  exact store_ok I1 hN hi hx r1 (fun s2 I2 => ⟨_, H1, I2, q1⟩) hf
/-- a, b = x, y with plain local names: stored from the right; the pair itself is not tracked (the opening rows as in PyProof/Rows/TupAssign.lean:23) -/
def tPar (i j : Nat) (ta : TA) : TS := fun D σ H => ta σ H fun vs H1 => ∃ v w, vs = [v, w] ∧ D.nx ((σ.set i (some v)).set j (some w)) H1
theorem ps_par {i j : Nat} {x y : Str} {a b : Expr} {ta : TA} {px py pt : Pos} {kt k2 pt2} (hc : X.calm = true) (hN : X.N.Nodup) (hi : X.N[i]? = some x) (hj : X.N[j]? = some y) (hij : i ≠ j)
    (hx : X.env.scope.names.lookup x = some .local) (hy : X.env.scope.names.lookup y = some .local) (ha : PA X [a, b] ta)
    (hw : swappedStores [.Tuple [.Name x px, .Name y py] kt pt] (.Tuple [a, b] k2 pt2) X.env = pure (some [x, y]))
    (hs : swapsWithSole [.Tuple [.Name x px, .Name y py] kt pt] (.Tuple [a, b] k2 pt2) pos.line X.env = pure false := by rfl) :
    PS X (.Assign [.Tuple [.Name x px, .Name y py] kt pt] (.Tuple [a, b] k2 pt2) pos) (tPar i j ta) := by
  intro pins s σ H D I h
  rw [exec_Assign_arm]
  refine wpAny_bind (wpAny_standAt ?_)
  rw [hs]
  refine wpAny_bind (wpAny_pure ?_)
  rw [if_neg (by decide)]
  refine wpAny_bind (Tuple_ (thn (ha _ pins s σ H _ I h) fun us s1 ⟨vs, H1, I1, r1, q1⟩ => ?_))
  obtain ⟨v, w, e1, q1⟩ := q1
  subst e1
  obtain ⟨u1, u2, rfl, rv, rw'⟩ : ∃ u1 u2, us = [u1, u2] ∧ RelV v u1 ∧ RelV w u2 := by
    cases r1 with
    | cons p q =>
      cases q with
      | cons p' q' =>
        cases q'
        exact ⟨_, _, rfl, p, p'⟩
  refine wpAny_newObj_type ?_ (by show 2 ≤ sizeLine; decide)
  have I2 : Inv X pins σ H1 { s1 with heap := s1.heap.push { cls := .type "tuple", data := .seq [u1, u2].toArray } } := I1.kept (t' := s1.toks) fun b o e => Heap.get?_push_of_some _ e
  rw [hw]
  refine wpAny_bind (wpAny_pure ?_)
  show wpAny (model X.prog X.w) X.A (do rule "assign.swapped-stores"; let items ← unpackItems (.ref s1.heap.objs.size) 2 none; assignInOrder [fun v => bindName X.env y v, fun v => bindName X.env x v] items.reverse; pure Flow.next) _ _ _
  refine wpAny_bind (wpAny_rule (wpAny_bind (unpackItems_tuple (items := #[u1, u2]) (I.ok.hd hc) (IsTup.new s1.heap _) fun h' hx' => ?_)))
  have I3 := I2.kept (h' := h') (t' := s1.toks) fun b o e => hx' b o (Nat.ne_of_lt (Heap.lt_size e)) e
  show wpAny _ _ (assignInOrder [fun v => bindName X.env y v, fun v => bindName X.env x v] [u2, u1] >>= fun _ => pure Flow.next) _ _ _
  refine wpAny_bind (assignInOrder_cons (wpAny_bindName (store_ok I3 hN hj (.inl hy) rw' (fun s2 I4 => ?_) (.inr hy))))
  refine assignInOrder_cons (wpAny_bindName (store_ok I4 hN hi (.inl hx) rv (fun s3 I5 => assignInOrder_nil (wpAny_pure ?_)) (.inr hx)))
  rw [List.set_comm _ _ (Ne.symm hij)] at I5
  exact ⟨_, H1, I5, q1⟩
/-- name op= e -/
def tAug (i : Nat) (te : TE) (ti : TIp) : TS := fun D σ H => ∃ x, σ[i]? = some (some x) ∧ te σ H fun y H1 => ti x y H1 fun z H2 => D.nx (σ.set i (some z)) H2
/-- o[i] op= e -/
def tAugS (to ti te : TE) (tget : V → V → Hp → VK → Prop) (tip : TIp) (tset : TSet) : TS := fun D σ H => to σ H fun o H1 => ti σ H1 fun i H2 => tget o i H2 fun x H3 => te σ H3 fun y H4 => tip x y H4 fun z H5 => tset o i z H5 fun H6 => D.nx σ H6
/-- o[i], by values -/
def PGet (X : Cx) (t : V → V → Hp → VK → Prop) : Prop :=
  ∀ (pins : List (Addr × Obj)) (s : Shared) (σ : St) (H : Hp) (o i : V) (ov iv : Value) (Q : VK), Inv X pins σ H s → RelV o ov → RelV i iv → t o i H Q →
    wpAny (model X.prog X.w) X.A (getItem ov iv) (EP X pins σ Q) X.xe s
/-- ints -/
def ipI (f : Int → Int → Int) : TIp := fun x y H Q => ∃ i j, x = .int i ∧ y = .int j ∧ Q (.int (f i j)) H
end

/-! ### while -/
section
variable {X : Cx} {pos : Pos}
/-- the invariant W with its measure -/
def tWhile (c : TT) (tb : TS) : TS := fun D σ H => ∃ W : Nat → St → Hp → Prop, (∃ m, W m σ H) ∧ ∀ m σ H, W m σ H →
  c σ H fun b H1 => if b = true then ∃ N : St → Hp → Prop, (∀ σ' H', N σ' H' → ∃ m', m' < m ∧ W m' σ' H') ∧ tb { D with nx := N, ct := N, bk := D.nx } σ H1 else D.nx σ H1
theorem ps_while {c : Expr} {body : List Stmt} {tc : TT} {tb : TS} (hp : PassesOwn (model X.prog X.w) X.A X.env X.xe) (hc : PT X c tc) (hb : PSs X body tb) : PS X (.While c body [] pos) (tWhile tc tb) := by
  intro pins s σ H D I h
  obtain ⟨W, ⟨m0, w0⟩, turn⟩ := h
  refine wpAny_While (codeAny_whileLoop (fun n s' => ∃ σ' H', Inv X pins σ' H' s' ∧ W n σ' H') ?_ m0 ⟨σ, H, I, w0⟩)
  rintro n s1 ⟨σ1, H1, I1, w1⟩
  refine wpAny_passesOwn hp (thn (hc pins s1 σ1 H1 _ I1 (turn n σ1 H1 w1)) fun b s2 ⟨H2, I2, q2⟩ => ?_)
  cases b with
  | true =>
    obtain ⟨N, hN, q2⟩ := q2
    rw [if_pos rfl]
    refine wpAny_passesOwn hp (thn (hb pins s2 σ1 H2 _ I2 q2) fun f s3 q3 => ?_)
    cases f with
    | next =>
      obtain ⟨σ3, H3, I3, n3⟩ := q3
      obtain ⟨m', hm, w3⟩ := hN σ3 H3 n3
      exact ⟨m', hm, σ3, H3, I3, w3⟩
    | cont =>
      obtain ⟨σ3, H3, I3, n3⟩ := q3
      obtain ⟨m', hm, w3⟩ := hN σ3 H3 n3
      exact ⟨m', hm, σ3, H3, I3, w3⟩
    | brk => exact q3
    | ret v => exact q3
  | false =>
    rw [if_neg Bool.false_ne_true]
    exact wpAny_execs_nil ⟨σ1, H2, I2, q2⟩
end

/-! ### what a loop or a comprehension walks -/
/-- at turn i: it yields x (the heap may grow), or it stops -/
structure It where
  go : Nat → Hp → Prop
  yld : Nat → Hp → V → Hp → Prop
  stop : Nat → Hp → Prop
/-- the iterator's own objects may turn: they are not the frame's, not pinned, younger than the entry (or a comprehension's own) -/
def FpOk (X : Cx) (pins : List (Addr × Obj)) (H : Hp) (b : Addr) : Prop :=
  H b = none ∧ b ≠ X.env.locals ∧ b ∉ X.fs ∧ (b ∈ X.ex ∨ X.s₀.heap.get? b = none) ∧ (∀ x c, X.env.cells.lookup x = some c → c ≠ b) ∧ ∀ p ∈ X.pn ++ pins, p.1 ≠ b
theorem Inv.fpOk {X : Cx} {pins : List (Addr × Obj)} {σ : St} {H H' : Hp} {s : Shared} {b : Addr} (I : Inv X pins σ H s) (hb : s.heap.objs.size ≤ b) (hn : H' b = none) : FpOk X pins H' b := by
  refine ⟨hn, Nat.ne_of_gt (Nat.lt_of_lt_of_le I.lt hb), I.nofs hb, .inr (Heap.get?_none_of_le (Nat.le_trans I.sz hb)), fun x c e z => ?_, fun p hp z => ?_⟩
  · obtain ⟨v, q⟩ := I.cell x c e
    exact absurd (Nat.lt_of_lt_of_le q.lt (by rw [z]; exact hb)) (Nat.lt_irrefl _)
  · exact absurd (Nat.lt_of_lt_of_le (Heap.lt_size (I.pin p hp).1) (by rw [z]; exact hb)) (Nat.lt_irrefl _)
structure Turn (P : Program) (w : World) (K : PySem.W.Frag) (tg : Expr) (J : It) (fp : List Addr) (it : Addr) (tn : Nat → Heap → Prop) : Prop where
  mem : it ∈ fp
  obj : ∀ i h, tn i h → ∀ b ∈ fp, ∃ o, h.get? b = some o ∧ ∀ v, o.data ≠ .cell v
  keep : ∀ i h h', tn i h → (∀ b ∈ fp, ∀ o, h.get? b = some o → h'.get? b = some o) → tn i h'
  item : ∀ (X : Cx), X.prog = P → X.w = w → X.K = K → X.calm = true → ∀ (i : Nat) (pins : List (Addr × Obj)) (s : Shared) (σ : St) (H : Hp) (E : Value → Shared → Prop), Inv X pins σ H s → (∀ b ∈ fp, FpOk X pins H b) → tn i s.heap → J.go i H →
    wpAny (model P w) X.A (pyNext (.ref it)) (fun r s1 => ∃ u, r = some u ∧
      wpAny (model P w) X.A (letOwnedTupleGo tg (.ref it) u) (fun _ s2 => ∃ x H', Inv X pins σ H' s2 ∧ RelV x u ∧ J.yld i H x H' ∧ tn (i + 1) s2.heap ∧ ∀ b ∈ fp, H' b = none) E s1) E s
  done : ∀ (X : Cx), X.prog = P → X.w = w → X.K = K → X.calm = true → ∀ (i : Nat) (pins : List (Addr × Obj)) (s : Shared) (σ : St) (H : Hp) (E : Value → Shared → Prop), Inv X pins σ H s → (∀ b ∈ fp, FpOk X pins H b) → tn i s.heap → J.stop i H →
    wpAny (model P w) X.A (pyNext (.ref it)) (fun r s1 => r = none ∧ Inv X pins σ H s1) E s
  self : ∀ (A : Around) (i : Nat) (s : Shared) (Q : Value → Shared → Prop) (E : Value → Shared → Prop), tn i s.heap → Q (.ref it) s → wpAny (model P w) A (pyIter (.ref it)) Q E s
abbrev TI := St → Hp → (It → Hp → Prop) → Prop
/-- an iterator has come -/
def PIE (X : Cx) (pins : List (Addr × Obj)) (σ : St) (tg : Expr) (R : It → Hp → Prop) (itv : Value) (s2 : Shared) : Prop :=
  ∃ (it : Addr) (fp : List Addr) (tn : Nat → Heap → Prop) (J : It) (H' : Hp), itv = .ref it ∧ Inv X pins σ H' s2 ∧ Turn X.prog X.w X.K tg J fp it tn ∧ tn 0 s2.heap ∧ (∀ b ∈ fp, FpOk X pins H' b) ∧ R J H'
def PI (X : Cx) (tg iter : Expr) (wi : TI) : Prop :=
  ∀ (pins : List (Addr × Obj)) (s : Shared) (σ : St) (H : Hp) (R : It → Hp → Prop), Inv X pins σ H s → wi σ H R →
    wpAny (model X.prog X.w) X.A (eval iter X.env) (fun v s1 => wpAny (model X.prog X.w) X.A (pyIter v) (PIE X pins σ tg R) X.xe s1) X.xe s

/-- the step ahead of the store is nothing for an iterator that keeps no tuple -/
theorem go_of {M : Model} {A : Around} {E : Value → Shared → Prop} {s : Shared} {tg : Expr} {it : Addr} {u : Value} {o : Obj} {n : String} {vs : Array Value} {Q : Unit → Shared → Prop} (ho : s.heap.get? it = some o) (hc : o.cls = .type n) (hd : o.data = .fields vs)
    (hn : ["enumerate", "zip", "dict_itemiterator", "dict_reverseitemiterator", "odict_iterator", "itertools.zip_longest", "itertools.pairwise"].contains n = false) (hQ : Q () s) : wpAny M A (letOwnedTupleGo tg (.ref it) u) Q E s := by
  unfold letOwnedTupleGo
  cases tg <;> first
    | exact wpAny_pure hQ
    | (cases u <;> first
        | exact wpAny_pure hQ
        | (refine wpAny_bind (wpAny_load ho ?_)
           rw [hc, hd]
           show wpAny M A (if (["enumerate", "zip", "dict_itemiterator", "dict_reverseitemiterator", "odict_iterator", "itertools.zip_longest", "itertools.pairwise"].contains n && vs[0]? == some (rawInt _)) = true then _ else _) Q E s
           rw [if_neg (by intro h; rw [hn, Bool.false_and] at h; cases h)]
           exact wpAny_pure hQ))

/-- the list at a, as it stands at each turn (a loop may append to it) -/
def Itl (K : PySem.W.Frag) (a : Addr) : It :=
  ⟨fun i H => ∃ xs x, SqL K H a xs ∧ xs[i]? = some x, fun i H x H' => H' = H ∧ ∀ xs, SqL K H a xs → xs[i]? = some x, fun i H => ∃ xs, SqL K H a xs ∧ xs.length ≤ i⟩
def Itt (K : PySem.W.Frag) (a : Addr) : It :=
  ⟨fun i H => ∃ xs x, SqT K H a xs ∧ xs[i]? = some x, fun i H x H' => H' = H ∧ ∀ xs, SqT K H a xs → xs[i]? = some x, fun i H => ∃ xs, SqT K H a xs ∧ xs.length ≤ i⟩
/-- lo, lo + 1, .. (n of them) -/
def Itr (lo : Int) (n : Nat) : It := ⟨fun i _ => i < n, fun i H x H' => H' = H ∧ x = .int (lo + i), fun i _ => n ≤ i⟩
theorem turn_list {P : Program} {w : World} {K : PySem.W.Frag} {tg : Expr} (a it : Addr) : Turn P w K tg (Itl K a) [it] it (fun i h => h.IsListIter it a i) where
  mem := by simp
  obj := fun i h st b hb => by
    have e : b = it := by simpa using hb
    subst e
    obtain ⟨o, e, c, d⟩ := st
    exact ⟨o, e, fun v z => by rw [d] at z; cases z⟩
  keep := fun i h h' st k => st.at fun o e => k it (by simp) o e
  item := by
    intro X hP hw hK hc i pins s σ H E I hf st hg
    subst hP hw hK
    obtain ⟨xs, x, hq, hx⟩ := hg
    obtain ⟨its, rv, p, hz⟩ := I.list hq
    obtain ⟨u, hu, ru⟩ := rv.get hx
    obtain ⟨f0, f1, f2, f3, f4, f5⟩ := hf it (by simp)
    refine wpAny_pyNext_list_item st p.isList (x := u) (by simpa using hu) fun h' st' sb => ?_
    have I1 : Inv X pins σ H { s with heap := h' } := I.turned (t' := s.toks) (fun b o hb e => (sb.2 b hb).trans e) f0 f1 f3 f4 f5
    obtain ⟨o, e, c, d⟩ := id st'
    exact ⟨u, rfl, go_of (s := { s with heap := h' }) e c d (by decide) ⟨x, H, I1, ru, ⟨rfl, fun ys hy => by rw [I.list_inj hy hq]; exact hx⟩, st', fun b hb => (hf b hb).1⟩⟩
  done := by
    intro X hP hw hK hc i pins s σ H E I hf st hg
    subst hP hw hK
    obtain ⟨xs, hq, hx⟩ := hg
    obtain ⟨its, rv, p, hz⟩ := I.list hq
    obtain ⟨f0, f1, f2, f3, f4, f5⟩ := hf it (by simp)
    have hl := rv.length
    exact wpAny_pyNext_list_end (I.ok.hd hc) st p.isList (by simp; omega) fun h' eb => ⟨rfl, I.turned (t' := s.toks) (fun b o hb e => eb b o hb e) f0 f1 f3 f4 f5⟩
  self := fun _ _ _ _ _ st h => wpAny_pyIter_listiter st h
theorem turn_tuple {P : Program} {w : World} {K : PySem.W.Frag} {tg : Expr} (a it : Addr) : Turn P w K tg (Itt K a) [it] it (fun i h => h.IsTupleIter it a i) where
  mem := by simp
  obj := fun i h st b hb => by
    have e : b = it := by simpa using hb
    subst e
    obtain ⟨o, e, c, d⟩ := st
    exact ⟨o, e, fun v z => by rw [d] at z; cases z⟩
  keep := fun i h h' st k => st.at fun o e => k it (by simp) o e
  item := by
    intro X hP hw hK hc i pins s σ H E I hf st hg
    subst hP hw hK
    obtain ⟨xs, x, hq, hx⟩ := hg
    obtain ⟨its, rv, p, hz⟩ := I.tuple hq
    obtain ⟨u, hu, ru⟩ := rv.get hx
    obtain ⟨f0, f1, f2, f3, f4, f5⟩ := hf it (by simp)
    refine wpAny_pyNext_tuple_item st (show s.heap.IsTuple a its.toArray from p) (x := u) (by simpa using hu) fun h' st' sb => ?_
    have I1 : Inv X pins σ H { s with heap := h' } := I.turned (t' := s.toks) (fun b o hb e => (sb.2 b hb).trans e) f0 f1 f3 f4 f5
    obtain ⟨o, e, c, d⟩ := id st'
    exact ⟨u, rfl, go_of (s := { s with heap := h' }) e c d (by decide) ⟨x, H, I1, ru, ⟨rfl, fun ys hy => by rw [I.tuple_inj hy hq]; exact hx⟩, st', fun b hb => (hf b hb).1⟩⟩
  done := by
    intro X hP hw hK hc i pins s σ H E I hf st hg
    subst hP hw hK
    obtain ⟨xs, hq, hx⟩ := hg
    obtain ⟨its, rv, p, hz⟩ := I.tuple hq
    obtain ⟨f0, f1, f2, f3, f4, f5⟩ := hf it (by simp)
    have hl := rv.length
    exact wpAny_pyNext_tuple_end (I.ok.hd hc) st (show s.heap.IsTuple a its.toArray from p) (by simp; omega) fun h' eb => ⟨rfl, I.turned (t' := s.toks) (fun b o hb e => eb b o hb e) f0 f1 f3 f4 f5⟩
  self := fun _ _ _ _ _ st h => wpAny_pyIter_tupleiter st h
theorem turn_range {P : Program} {w : World} {K : PySem.W.Frag} {tg : Expr} (it : Addr) (lo : Int) (n : Nat) : Turn P w K tg (Itr lo n) [it] it (fun i h => IsRangeIter h it (lo + (i : Nat) * 1) ((n : Int) - (i : Nat)) 1) where
  mem := by simp
  obj := fun i h st b hb => by
    have e : b = it := by simpa using hb
    subst e
    exact ⟨_, st, fun v z => by
      have z' : Data.fields _ = Data.cell v := z
      cases z'⟩
  keep := fun i h h' st k => k it (by simp) _ st
  item := by
    intro X hP hw hK hc i pins s σ H E I hf st hg
    subst hP hw hK
    obtain ⟨f0, f1, f2, f3, f4, f5⟩ := hf it (by simp)
    have W := Walks.range (prog := X.prog) (w := X.w) (I.ok.hd hc) it lo 1 n
    refine W.item i s _ _ hg st fun v h' tk hv st' kk => ?_
    obtain ⟨t, rfl⟩ := hv
    have I1 : Inv X pins σ H { s with heap := h', toks := tk } := I.turned (fun b o hb e => kk b o (by simpa using hb) e) f0 f1 f3 f4 f5
    refine ⟨_, rfl, go_of (s := { s with heap := h', toks := tk }) (n := "range_iterator") st' rfl rfl (by decide) ⟨.int (lo + i), H, I1, ⟨t, ?_⟩, ⟨rfl, rfl⟩, st', fun b hb => (hf b hb).1⟩⟩
    rw [Int.mul_one]
  done := by
    intro X hP hw hK hc i pins s σ H E I hf st hg
    subst hP hw hK
    obtain ⟨f0, f1, f2, f3, f4, f5⟩ := hf it (by simp)
    exact wpAny_pyNext_range_end (I.ok.hd hc) st (by have : n ≤ i := hg; omega) fun h' eb => ⟨rfl, I.turned (t' := s.toks) (fun b o hb e => eb b o hb e) f0 f1 f3 f4 f5⟩
  self := fun _ _ _ _ _ st h => wpAny_pyIter_rangeiter st h
end L2

namespace L2
open PySem PySem.Spec PyProof.Rows
section
variable {X : Cx} {tg : Expr}
def iList (K : PySem.W.Frag) (tl : TE) : TI := fun σ H R => tl σ H fun x H1 => ∃ a, x = .ref a ∧ (∃ xs, SqL K H1 a xs) ∧ R (Itl K a) H1
def iTup (K : PySem.W.Frag) (tl : TE) : TI := fun σ H R => tl σ H fun x H1 => ∃ a, x = .ref a ∧ (∃ xs, SqT K H1 a xs) ∧ R (Itt K a) H1
theorem pi_list {l : Expr} {tl : TE} (hl : PE X l tl) : PI X tg l (iList X.K tl) := by
  intro pins s σ H R I h
  refine thn (hl pins s σ H _ I h) fun v s1 ⟨x, H1, I1, r1, q1⟩ => ?_
  obtain ⟨a, e, ⟨xs, hq⟩, q⟩ := q1
  subst e
  cases r1
  obtain ⟨its, rv, p, hz⟩ := I1.list hq
  refine wpAny_pyIter_list p.isList ?_
  refine ⟨s1.heap.objs.size, [s1.heap.objs.size], _, _, H1, rfl, I1.kept (t' := s1.toks) fun b o e => Heap.get?_push_of_some _ e, turn_list a _, ⟨_, Heap.get?_push_size _ rfl, rfl, rfl⟩, fun b hb => ?_, q⟩
  have e : b = s1.heap.objs.size := by simpa using hb
  subst e
  exact I1.fpOk (Nat.le_refl _) (I1.hok.fresh (Nat.le_refl _))
theorem pi_tup {l : Expr} {tl : TE} (hl : PE X l tl) : PI X tg l (iTup X.K tl) := by
  intro pins s σ H R I h
  refine thn (hl pins s σ H _ I h) fun v s1 ⟨x, H1, I1, r1, q1⟩ => ?_
  obtain ⟨a, e, ⟨xs, hq⟩, q⟩ := q1
  subst e
  cases r1
  obtain ⟨its, rv, p, hz⟩ := I1.tuple hq
  refine wpAny_pyIter_tuple (show s1.heap.IsTuple a its.toArray from p) ?_
  refine ⟨s1.heap.objs.size, [s1.heap.objs.size], _, _, H1, rfl, I1.kept (t' := s1.toks) fun b o e => Heap.get?_push_of_some _ e, turn_tuple a _, ⟨_, Heap.get?_push_size _ rfl, rfl, rfl⟩, fun b hb => ?_, q⟩
  have e : b = s1.heap.objs.size := by simpa using hb
  subst e
  exact I1.fpOk (Nat.le_refl _) (I1.hok.fresh (Nat.le_refl _))
/-- a range object just made, walked -/
theorem range_it {pins : List (Addr × Obj)} {σ : St} {H : Hp} {s : Shared} {R : It → Hp → Prop} {E : Value → Shared → Prop} {lo hi : Int} {t u v : Tok} {tk : Nat} (I : Inv X pins σ H s) (h1 : -(2 ^ 62) ≤ lo) (h2 : lo < 2 ^ 62) (h3 : -(2 ^ 62) ≤ hi) (h4 : hi < 2 ^ 62)
    (q : R (Itr lo (hi - lo).toNat) H) : wpAny (model X.prog X.w) X.A (pyIter (.ref s.heap.objs.size)) (PIE X pins σ tg R) E { s with heap := s.heap.push { cls := .type "range", data := .fields #[.int lo t, .int hi u, .int 1 v] }, toks := tk } := by
  refine wpAny_pyIter_range (IsRange.new ..) (small_one h1 h2 h3 h4) ?_
  have I1 : Inv X pins σ H { s with heap := s.heap.push { cls := .type "range", data := .fields #[.int lo t, .int hi u, .int 1 v] }, toks := tk } := I.kept fun b o e => Heap.get?_push_of_some _ e
  refine ⟨(s.heap.push { cls := .type "range", data := .fields #[.int lo t, .int hi u, .int 1 v] }).objs.size, [(s.heap.push { cls := .type "range", data := .fields #[.int lo t, .int hi u, .int 1 v] }).objs.size], _, _, H, rfl,
    I1.kept (t' := tk) fun b o e => Heap.get?_push_of_some _ e, turn_range _ lo (hi - lo).toNat, ?_, fun b hb => ?_, q⟩
  · have e1 : lo + ((0 : Nat) : Int) * 1 = lo := by simp
    have e2 : (((hi - lo).toNat : Nat) : Int) - ((0 : Nat) : Int) = Builtin.Range.rangeSize lo hi 1 := by rw [rangeSize_one]; split <;> omega
    show IsRangeIter _ _ (lo + ((0 : Nat) : Int) * 1) ((((hi - lo).toNat : Nat) : Int) - ((0 : Nat) : Int)) 1
    rw [e1, e2]
    exact Heap.get?_push_size _ rfl
  · have e : b = (s.heap.push { cls := .type "range", data := .fields #[.int lo t, .int hi u, .int 1 v] }).objs.size := by simpa using hb
    subst e
    exact I1.fpOk (Nat.le_refl _) (I1.hok.fresh (Nat.le_refl _))
def iRng1 (ta : TA) : TI := fun σ H R => ta σ H fun vs H1 => ∃ j : Int, vs = [.int j] ∧ -(2 ^ 62) ≤ j ∧ j < 2 ^ 62 ∧ R (Itr 0 j.toNat) H1
def iRng2 (ta : TA) : TI := fun σ H R => ta σ H fun vs H1 => ∃ i j : Int, vs = [.int i, .int j] ∧ (-(2 ^ 62) ≤ i ∧ i < 2 ^ 62 ∧ -(2 ^ 62) ≤ j ∧ j < 2 ^ 62) ∧ R (Itr i (j - i).toNat) H1
theorem pi_range1 {a : Expr} {ta : TA} {p pos : Pos} (hg : Gl X "range") (hm : X.mg "range" = none) (ha : PA X [a] ta) (hs : starEach [a] X.env = [(false, eval a X.env)] := by rfl) : PI X tg (.Call (.Name "range" p) [a] [] pos) (iRng1 ta) := by
  intro pins s σ H R I h
  refine Call_ (ld_blt I hg hm boot_range (PyProof.Rows.callWith_type1 (thn (ha pos pins s σ H _ I h) fun us s1 ⟨vs, H1, I1, r1, q1⟩ => ?_) hs rfl))
  obtain ⟨j, e, q1, q2, q⟩ := q1
  subst e
  cases r1 with
  | cons r rr =>
    cases rr
    obtain ⟨t, rfl⟩ := r
    exact call_range_1 (range_it I1 (by omega) (by omega) q1 q2 (by simpa using q))

/-! ### for -/
/-- W: the invariant by the turn and a measure; N: what the body is to reach -/
def tFor (wi : TI) (g : TG) (tb : TS) : TS := fun D σ H => wi σ H fun J H1 => ∃ W : Nat → Nat → St → Hp → Prop, (∃ m, W 0 m σ H1) ∧ ∀ i m σ H, W i m σ H →
  (J.stop i H ∧ D.nx σ H) ∨ (J.go i H ∧ ∃ N : St → Hp → Prop, (∀ σ' H', N σ' H' → ∃ m', m' < m ∧ W (i + 1) m' σ' H') ∧ ∀ x H', J.yld i H x H' → g x σ H' fun σ2 H2 => tb { D with nx := N, ct := N, bk := D.nx } σ2 H2)
/-- the records at fp as they stand -/
def pinsAt (fp : List Addr) (h : Heap) : List (Addr × Obj) := fp.filterMap fun b => (h.get? b).map fun o => (b, o)
theorem mem_pinsAt {fp : List Addr} {h : Heap} {b : Addr} {o : Obj} (hb : b ∈ fp) (e : h.get? b = some o) : (b, o) ∈ pinsAt fp h := List.mem_filterMap.mpr ⟨b, hb, by rw [e]; rfl⟩
theorem of_pinsAt {fp : List Addr} {h : Heap} {p : Addr × Obj} (hp : p ∈ pinsAt fp h) : p.1 ∈ fp ∧ h.get? p.1 = some p.2 := by
  obtain ⟨b, hb, e⟩ := List.mem_filterMap.mp hp
  cases q : h.get? b with
  | none => rw [q] at e; cases e
  | some o =>
    rw [q] at e
    have e' : (b, o) = p := Option.some.inj e
    subst e'
    exact ⟨hb, q⟩
theorem Inv.pinned {pins : List (Addr × Obj)} {σ : St} {H : Hp} {s : Shared} {fp : List Addr} (I : Inv X pins σ H s) (hf : ∀ b ∈ fp, FpOk X pins H b) (ho : ∀ b ∈ fp, ∃ o, s.heap.get? b = some o ∧ ∀ v, o.data ≠ .cell v) : Inv X (pins ++ pinsAt fp s.heap) σ H s :=
  I.pins_of fun p hp => (List.mem_append.mp hp).elim (fun z => I.pin p (List.mem_append_right _ z)) fun z => by
    obtain ⟨hb, e⟩ := of_pinsAt z
    obtain ⟨f0, f1, f2, _⟩ := hf p.1 hb
    obtain ⟨o, e', d⟩ := ho p.1 hb
    rw [e] at e'; cases e'
    exact ⟨e, f0, f1, f2, d⟩
theorem Inv.unpinned {pins pl : List (Addr × Obj)} {σ : St} {H : Hp} {s : Shared} (I : Inv X (pins ++ pl) σ H s) : Inv X pins σ H s := I.pins_of fun p hp => I.pin p (List.mem_append_right _ (List.mem_append_left _ hp))
theorem ps_for {iter : Expr} {body : List Stmt} {wi : TI} {g : TG} {tb : TS} {pos : Pos} (hp : PassesOwn (model X.prog X.w) X.A X.env X.xe) (hc : X.calm = true) (hi : PI X tg iter wi) (hg : PG X tg g) (hb : PSs X body tb)
    (hs : ∀ x, foldedSetIterable iter X.env x = pure x := by intro _; rfl) : PS X (.For tg iter body [] pos) (tFor wi g tb) := by
  intro pins s σ H D I h
  refine wpAny_For (thn (hi pins s σ H _ I h) fun v s1 h1 => thn h1 fun itv s2 h2 => ?_) hs
  obtain ⟨it, fp, tn, J, H2, e, I2, T, st2, f2, W, ⟨m0, w0⟩, turn⟩ := h2
  subst e
  -- what stays true of the iterator's objects through the loop
  have stat : ∀ {H' : Hp}, (∀ b ∈ fp, H' b = none) → ∀ b ∈ fp, FpOk X pins H' b := fun hn b hb => ⟨hn b hb, (f2 b hb).2⟩
  refine codeAny_forLoop_any (fun n s' => ∃ i σ' H', Inv X pins σ' H' s' ∧ tn i s'.heap ∧ (∀ b ∈ fp, H' b = none) ∧ W i n σ' H') ?_ m0 ⟨0, σ, H2, I2, st2, fun b hb => (f2 b hb).1, w0⟩
  rintro n s3 ⟨i, σ3, H3, I3, st3, fr3, w3⟩
  rcases turn i n σ3 H3 w3 with ⟨stop, qn⟩ | ⟨go, N, hN, step⟩
  · refine wpAny_passesOwn hp (thn (T.done X rfl rfl rfl hc i pins s3 σ3 H3 X.xe I3 (stat fr3) st3 stop) fun r s4 ⟨hr, I4⟩ => ?_)
    subst hr
    exact wpAny_execs_nil ⟨σ3, H3, I4, qn⟩
  · refine wpAny_passesOwn hp (thn (T.item X rfl rfl rfl hc i pins s3 σ3 H3 X.xe I3 (stat fr3) st3 go) fun r s4 ⟨u, hr, h4⟩ => ?_)
    subst hr
    refine wpAny_passesOwn hp (thn h4 fun _ s5 ⟨x, H5, I5, r5, y5, st5, fr5⟩ => ?_)
    have I5' := I5.pinned (stat fr5) (T.obj _ _ st5)
    refine wpAny_passesOwn hp (thn (hg _ s5 σ3 H5 x u _ I5' r5 (step x H5 y5)) fun _ s6 ⟨σ6, H6, I6, q6⟩ => ?_)
    refine wpAny_passesOwn hp (thn (hb _ s6 σ6 H6 _ I6 q6) fun f s7 q7 => ?_)
    have again : ∀ {σ7 : St} {H7 : Hp}, Inv X (pins ++ pinsAt fp s5.heap) σ7 H7 s7 → N σ7 H7 → ∃ m, m < n ∧ ∃ i σ' H', Inv X pins σ' H' s7 ∧ tn i s7.heap ∧ (∀ b ∈ fp, H' b = none) ∧ W i m σ' H' := fun {σ7 H7} I7 n7 => by
      obtain ⟨m', hm, w7⟩ := hN σ7 H7 n7
      refine ⟨m', hm, i + 1, σ7, H7, I7.unpinned, T.keep _ _ _ st5 fun b hb o e => (I7.pin (b, o) (List.mem_append_right _ (List.mem_append_right _ (mem_pinsAt hb e)))).1, fun b hb => ?_, w7⟩
      obtain ⟨o, e, d⟩ := T.obj _ _ st5 b hb
      exact (I7.pin (b, o) (List.mem_append_right _ (List.mem_append_right _ (mem_pinsAt hb e)))).2.1
    cases f with
    | next => obtain ⟨σ7, H7, I7, n7⟩ := q7; exact again I7 n7
    | cont => obtain ⟨σ7, H7, I7, n7⟩ := q7; exact again I7 n7
    | brk => obtain ⟨σ7, H7, I7, q7⟩ := q7; exact ⟨σ7, H7, I7.unpinned, q7⟩
    | ret v => obtain ⟨x7, σ7, H7, I7, r7, q7⟩ := q7; exact ⟨x7, σ7, H7, I7.unpinned, r7, q7⟩
end

/-! ### the forms one uses -/
/-- over a list that the body leaves as it is -/
theorem for_list {K : PySem.W.Frag} {a : Addr} {xs : List V} {g : TG} {tb : TS} {D : Ends} {σ : St} {H : Hp} (Pv : Nat → St → Hp → Prop) (h0 : Pv 0 σ H) (hl : ∀ i σ H, i ≤ xs.length → Pv i σ H → SqL K H a xs)
    (hs : ∀ i x σ H, xs[i]? = some x → Pv i σ H → g x σ H fun σ2 H2 => tb { D with nx := Pv (i + 1), ct := Pv (i + 1), bk := D.nx } σ2 H2) (hd : ∀ σ H, Pv xs.length σ H → D.nx σ H) :
    ∃ W : Nat → Nat → St → Hp → Prop, (∃ m, W 0 m σ H) ∧ ∀ i m σ H, W i m σ H →
      ((Itl K a).stop i H ∧ D.nx σ H) ∨ ((Itl K a).go i H ∧ ∃ N : St → Hp → Prop, (∀ σ' H', N σ' H' → ∃ m', m' < m ∧ W (i + 1) m' σ' H') ∧ ∀ x H', (Itl K a).yld i H x H' → g x σ H' fun σ2 H2 => tb { D with nx := N, ct := N, bk := D.nx } σ2 H2) := by
  refine ⟨fun i m σ H => m = xs.length - i ∧ i ≤ xs.length ∧ Pv i σ H, ⟨xs.length, by simp, Nat.zero_le _, h0⟩, ?_⟩
  rintro i m σ H ⟨rfl, hi, p⟩
  have q := hl i σ H hi p
  by_cases hlt : i < xs.length
  · refine .inr ⟨⟨xs, xs[i], q, by simp [hlt]⟩, Pv (i + 1), fun σ' H' p' => ⟨xs.length - (i + 1), by omega, rfl, hlt, p'⟩, fun x H' y => ?_⟩
    obtain ⟨e, y⟩ := y
    subst e
    exact hs i x σ _ (y xs q) p
  · have e : i = xs.length := by omega
    subst e
    exact .inl ⟨⟨xs, q, Nat.le_refl _⟩, hd σ H p⟩
theorem for_range {lo : Int} {n : Nat} {g : TG} {tb : TS} {D : Ends} {σ : St} {H : Hp} (Pv : Nat → St → Hp → Prop) (h0 : Pv 0 σ H)
    (hs : ∀ i σ H, i < n → Pv i σ H → g (.int (lo + i)) σ H fun σ2 H2 => tb { D with nx := Pv (i + 1), ct := Pv (i + 1), bk := D.nx } σ2 H2) (hd : ∀ σ H, Pv n σ H → D.nx σ H) :
    ∃ W : Nat → Nat → St → Hp → Prop, (∃ m, W 0 m σ H) ∧ ∀ i m σ H, W i m σ H →
      ((Itr lo n).stop i H ∧ D.nx σ H) ∨ ((Itr lo n).go i H ∧ ∃ N : St → Hp → Prop, (∀ σ' H', N σ' H' → ∃ m', m' < m ∧ W (i + 1) m' σ' H') ∧ ∀ x H', (Itr lo n).yld i H x H' → g x σ H' fun σ2 H2 => tb { D with nx := N, ct := N, bk := D.nx } σ2 H2) := by
  refine ⟨fun i m σ H => m = n - i ∧ i ≤ n ∧ Pv i σ H, ⟨n, by simp, Nat.zero_le _, h0⟩, ?_⟩
  rintro i m σ H ⟨rfl, hi, p⟩
  by_cases hlt : i < n
  · refine .inr ⟨hlt, Pv (i + 1), fun σ' H' p' => ⟨n - (i + 1), by omega, rfl, hlt, p'⟩, fun x H' y => ?_⟩
    obtain ⟨e, y⟩ := y
    subst e y
    exact hs i σ _ hlt p
  · have e : i = n := by omega
    subst e
    exact .inl ⟨Nat.le_refl _, hd σ H p⟩
end L2

namespace L2
open PySem PySem.Spec PyProof.Rows

abbrev R2 := V → V → Hp → VK → Prop
/-- a two-place operation on values: f is binaryOp op, inplaceOp op or compareOp op -/
def OpR (X : Cx) (f : Value → Value → Sem Value) (r : R2) : Prop :=
  ∀ (pins : List (Addr × Obj)) (s : Shared) (σ : St) (H : Hp) (x y : V) (v u : Value) (Q : VK), Inv X pins σ H s → RelV x v → RelV y u → r x y H Q →
    wpAny (model X.prog X.w) X.A (f v u) (EP X pins σ Q) X.xe s
/-- a one-place operation -/
def UnR (X : Cx) (f : Value → Sem Value) (r : V → Hp → VK → Prop) : Prop :=
  ∀ (pins : List (Addr × Obj)) (s : Shared) (σ : St) (H : Hp) (x : V) (v : Value) (Q : VK), Inv X pins σ H s → RelV x v → r x H Q →
    wpAny (model X.prog X.w) X.A (f v) (EP X pins σ Q) X.xe s
/-- a call of a value that is known (a builtin, a type) with values -/
def CallR (X : Cx) (f : Value) (r : List V → Hp → VK → Prop) : Prop :=
  ∀ (pins : List (Addr × Obj)) (s : Shared) (σ : St) (H : Hp) (xs : List V) (us : List Value) (Q : VK), Inv X pins σ H s → Vals xs us → r xs H Q →
    wpAny (model X.prog X.w) X.A (call f us) (EP X pins σ Q) X.xe s
/-- a value's truth -/
def TruR (X : Cx) (r : V → Hp → (Bool → Hp → Prop) → Prop) : Prop :=
  ∀ (pins : List (Addr × Obj)) (s : Shared) (σ : St) (H : Hp) (x : V) (v : Value) (Q : Bool → Hp → Prop), Inv X pins σ H s → RelV x v → r x H Q →
    wpAny (model X.prog X.w) X.A (truthy v) (TP X pins σ Q) X.xe s

def tOp (r : R2) (ta tb : TE) : TE := fun σ H Q => ta σ H fun x H1 => tb σ H1 fun y H2 => r x y H2 Q
def tUn (r : V → Hp → VK → Prop) (ta : TE) : TE := fun σ H Q => ta σ H fun x H1 => r x H1 Q
/-- ints in, under C, and a value out -/
def rI (C : Int → Int → Prop) (g : Int → Int → V) : R2 := fun x y H Q => ∃ i j, x = .int i ∧ y = .int j ∧ C i j ∧ Q (g i j) H
def rI0 (g : Int → Int → V) : R2 := fun x y H Q => ∃ i j, x = .int i ∧ y = .int j ∧ Q (g i j) H
def rU (g : Int → V) : V → Hp → VK → Prop := fun x H Q => ∃ i, x = .int i ∧ Q (g i) H

section
variable {X : Cx} {a b c : Expr} {ta tb tc : TE} {pos : Pos}

theorem binT (ha : PE X a ta) (hb : PE X b tb) {pins : List (Addr × Obj)} {s : Shared} {σ : St} {H : Hp} {R : V → V → Hp → Prop} (I : Inv X pins σ H s)
    (h : ta σ H fun x H1 => tb σ H1 fun y H2 => R x y H2) {Q : Value → Shared → Prop} {f : Value → Value → Sem Value}
    (hf : ∀ v u s2 x y H2, Inv X pins σ H2 s2 → RelV x v → RelV y u → R x y H2 → wpAny (model X.prog X.w) X.A (f v u) Q X.xe s2) :
    wpAny (model X.prog X.w) X.A (eval a X.env) (fun v s₁ => wpAny (model X.prog X.w) X.A (eval b X.env) (fun u s₂ => wpAny (model X.prog X.w) X.A (f v u) Q X.xe s₂) X.xe s₁) X.xe s := by
  refine thn (ha pins s σ H _ I h) fun v s1 ⟨x, H1, I1, r1, q1⟩ => ?_
  refine thn (hb pins s1 σ H1 _ I1 q1) fun u s2 ⟨y, H2, I2, r2, q2⟩ => ?_
  exact hf v u s2 x y H2 I2 r1 r2 q2

theorem pe_op {op : Operator} {r : R2} (ho : OpR X (binaryOp op) r) (ha : PE X a ta) (hb : PE X b tb) : PE X (.BinOp a op b pos) (tOp r ta tb) := by
  intro pins s σ H Q I h
  exact wpAny_BinOp (binT ha hb I h fun v u s2 x y H2 I2 rx ry q => ho pins s2 σ H2 x y v u Q I2 rx ry q)
theorem pe_un {op : UnaryOp} {r : V → Hp → VK → Prop} (ho : UnR X (unaryOp op) r) (ha : PE X a ta) : PE X (.UnaryOp op a pos) (tUn r ta) := by
  intro pins s σ H Q I h
  exact UnaryOp_ (thn (ha pins s σ H _ I h) fun v s1 ⟨x, H1, I1, r1, q1⟩ => ho pins s1 σ H1 x v Q I1 r1 q1)

/-! ### ints -/
theorem opI {f : Value → Value → Sem Value} {C : Int → Int → Prop} {g : Int → Int → Int}
    (rule : ∀ (i j : Int) (t u : Tok) (s : Shared) (Q : Value → Shared → Prop) (E : Value → Shared → Prop), C i j → Q (.int (g i j) s.toks) { s with toks := s.toks + 1 } → wpAny (model X.prog X.w) X.A (f (.int i t) (.int j u)) Q E s) :
    OpR X f (rI C fun i j => .int (g i j)) := by
  intro pins s σ H x y v u Q I rx ry h
  obtain ⟨i, j, rfl, rfl, hc, q⟩ := h
  obtain ⟨t, rfl⟩ := rx
  obtain ⟨t', rfl⟩ := ry
  exact rule i j t t' s _ _ hc ⟨.int (g i j), H, I.tok _, ⟨_, rfl⟩, q⟩
theorem opI0 {f : Value → Value → Sem Value} {g : Int → Int → Int}
    (rule : ∀ (i j : Int) (t u : Tok) (s : Shared) (Q : Value → Shared → Prop) (E : Value → Shared → Prop), Q (.int (g i j) s.toks) { s with toks := s.toks + 1 } → wpAny (model X.prog X.w) X.A (f (.int i t) (.int j u)) Q E s) :
    OpR X f (rI0 fun i j => .int (g i j)) := by
  intro pins s σ H x y v u Q I rx ry h
  obtain ⟨i, j, rfl, rfl, q⟩ := h
  obtain ⟨t, rfl⟩ := rx
  obtain ⟨t', rfl⟩ := ry
  exact rule i j t t' s _ _ ⟨.int (g i j), H, I.tok _, ⟨_, rfl⟩, q⟩
theorem opB0 {f : Value → Value → Sem Value} {g : Int → Int → Bool}
    (rule : ∀ (i j : Int) (t u : Tok) (s : Shared) (Q : Value → Shared → Prop) (E : Value → Shared → Prop), Q (.bool (g i j)) s → wpAny (model X.prog X.w) X.A (f (.int i t) (.int j u)) Q E s) :
    OpR X f (rI0 fun i j => .bl (g i j)) := by
  intro pins s σ H x y v u Q I rx ry h
  obtain ⟨i, j, rfl, rfl, q⟩ := h
  obtain ⟨t, rfl⟩ := rx
  obtain ⟨t', rfl⟩ := ry
  exact rule i j t t' s _ _ ⟨.bl (g i j), H, I, rfl, q⟩

def CDiv (i j : Int) : Prop := 0 < j ∧ j < 1073741824
def CDivN (i j : Int) : Prop := j ≠ 0 ∧ j.natAbs < 1073741824
def CPow (i j : Int) : Prop := 0 ≤ j ∧ j ≤ 1000000 ∧ i.natAbs < 2 ^ 64
def CMul (i j : Int) : Prop := (-(2 ^ 64) < i ∧ i < 2 ^ 64) ∨ (-(2 ^ 64) < j ∧ j < 2 ^ 64)
theorem CMul.ok {i j : Int} (h : CMul i j) : IntMulOk i j := by
  rcases h with ⟨h1, h2⟩ | ⟨h1, h2⟩
  · exact .of_left (intBits_le_64 h1 h2)
  · exact .of_right (intBits_le_64 h1 h2)

theorem op_add : OpR X (binaryOp .Add) (rI0 fun i j => .int (i + j)) := opI0 fun _ _ _ _ _ _ _ q => add_int q
theorem op_sub : OpR X (binaryOp .Sub) (rI0 fun i j => .int (i - j)) := opI0 fun _ _ _ _ _ _ _ q => sub_int q
theorem op_mul : OpR X (binaryOp .Mult) (rI CMul fun i j => .int (i * j)) := opI fun _ _ _ _ _ _ _ hc q => mul_int q hc.ok
/-- // by a positive divisor -/
theorem op_fdiv : OpR X (binaryOp .FloorDiv) (rI CDiv fun i j => .int (i / j)) := opI fun i j _ _ _ _ _ hc q => by
  have h1 : (0 : Int) < j := hc.1
  have h2 : j < 1073741824 := hc.2
  exact floordiv_int (by omega) (by rw [Int.fdiv_eq_ediv_of_nonneg i (by omega)]; exact q) (.inl (PyProof.noPylong_small (by omega)))
/-- % by a positive divisor of any size -/
theorem op_mod : OpR X (binaryOp .Mod) (rI (fun _ j => 0 < j) fun i j => .int (i % j)) := opI fun i j _ _ _ _ _ hc q => by
  have h1 : (0 : Int) < j := hc
  exact mod_int' (by omega) (by rw [Int.fmod_eq_emod_of_nonneg i (by omega)]; exact q)
theorem op_pow : OpR X (binaryOp .Pow) (rI CPow fun i j => .int (i ^ j.toNat)) := opI fun _ _ _ _ _ _ _ hc q => pow_int_small hc.1 hc.2.1 hc.2.2 q


theorem unI {f : Value → Sem Value} {g : Int → Int}
    (rule : ∀ (i : Int) (t : Tok) (s : Shared) (Q : Value → Shared → Prop) (E : Value → Shared → Prop), Q (.int (g i) s.toks) { s with toks := s.toks + 1 } → wpAny (model X.prog X.w) X.A (f (.int i t)) Q E s) :
    UnR X f (rU fun i => .int (g i)) := by
  intro pins s σ H x v Q I rx h
  obtain ⟨i, rfl, q⟩ := h
  obtain ⟨t, rfl⟩ := rx
  exact rule i t s _ _ ⟨.int (g i), H, I.tok _, ⟨_, rfl⟩, q⟩
theorem un_neg : UnR X (unaryOp .USub) (rU fun i => .int (-i)) := unI fun _ _ _ _ _ q => neg_int q

/-! ### bools among ints: n += (a < b) -/
end

/-! ### comparisons -/
/-- the scalars that == tells apart as data does -/
def scal : V → V → Bool
  | .non, .non => true | .non, .int _ => true | .int _, .non => true | .non, .bl _ => true | .bl _, .non => true | .non, .str _ => true | .str _, .non => true
  | .int _, .int _ => true | .bl _, .bl _ => true | .str _, .str _ => true | .byt _, .byt _ => true
  | .int _, .str _ => true | .str _, .int _ => true | .bl _, .str _ => true | .str _, .bl _ => true
  | _, _ => false
def rEq : R2 := fun x y H Q => scal x y = true ∧ Q (.bl (decide (x = y))) H
def rNe : R2 := fun x y H Q => scal x y = true ∧ Q (.bl (!decide (x = y))) H

theorem dec_int {i j : Int} : decide (V.int i = V.int j) = (i == j) := by
  rw [Bool.eq_iff_iff]
  simp
theorem dec_bl {i j : Bool} : decide (V.bl i = V.bl j) = (i == j) := by
  rw [Bool.eq_iff_iff]
  simp
theorem dec_str {i j : Str} : decide (V.str i = V.str j) = (i == j) := by
  rw [Bool.eq_iff_iff]
  simp
theorem dec_byt {i j : Array UInt8} : decide (V.byt i = V.byt j) = (i.toList == j.toList) := by
  rw [Bool.eq_iff_iff]
  cases i
  cases j
  simp

section
variable {X : Cx} {a b c : Expr} {ta tb tc : TE} {pos : Pos}
theorem fin_bl {pins : List (Addr × Obj)} {σ : St} {H : Hp} {s : Shared} {Q : VK} {k k' : Bool} (I : Inv X pins σ H s) (q : Q (.bl k) H) (e : k = k') : EP X pins σ Q (.bool k') s := by
  subst e
  exact ⟨.bl k, H, I, rfl, q⟩
theorem op_eq : OpR X (compareOp .Eq) rEq := by
  intro pins s σ H x y v u Q I rx ry h
  obtain ⟨hs, q⟩ := h
  cases x with
  | non =>
    cases rx
    cases y with
    | non => cases ry; exact PySem.EqNone.eq_none_none (fin_bl I q (by simp))
    | bl j => cases ry; exact PySem.EqNone.eq_none_bool (fin_bl I q (by simp))
    | int j => obtain ⟨t', rfl⟩ := ry; exact PySem.EqNone.eq_none_int (fin_bl I q (by simp))
    | str j => obtain ⟨t', rfl⟩ := ry; exact PySem.EqNone.eq_none_str (fin_bl I q (by simp))
    | _ => exact absurd (show false = true from hs) Bool.false_ne_true
  | bl i =>
    cases rx
    cases y with
    | non => cases ry; exact PySem.EqNone.eq_bool_none (fin_bl I q (by simp))
    | bl j => cases ry; exact eq_bool (fin_bl I q dec_bl)
    | str j => obtain ⟨t', rfl⟩ := ry; exact PySem.EqMixed.eq_bool_str (fin_bl I q (by simp))
    | _ => exact absurd (show false = true from hs) Bool.false_ne_true
  | int i =>
    obtain ⟨t, rfl⟩ := rx
    cases y with
    | non => cases ry; exact PySem.EqNone.eq_int_none (fin_bl I q (by simp))
    | int j => obtain ⟨t', rfl⟩ := ry; exact eq_int (fin_bl I q dec_int)
    | str j => obtain ⟨t', rfl⟩ := ry; exact PySem.EqMixed.eq_int_str (fin_bl I q (by simp))
    | _ => exact absurd (show false = true from hs) Bool.false_ne_true
  | str i =>
    obtain ⟨t, rfl⟩ := rx
    cases y with
    | non => cases ry; exact PySem.EqNone.eq_str_none (fin_bl I q (by simp))
    | bl j => cases ry; exact PySem.EqMixed.eq_str_bool (fin_bl I q (by simp))
    | int j => obtain ⟨t', rfl⟩ := ry; exact PySem.EqMixed.eq_str_int (fin_bl I q (by simp))
    | str j => obtain ⟨t', rfl⟩ := ry; exact eq_str (fin_bl I q dec_str)
    | _ => exact absurd (show false = true from hs) Bool.false_ne_true
  | byt i =>
    obtain ⟨t, rfl⟩ := rx
    cases y with
    | byt j => obtain ⟨t', rfl⟩ := ry; exact PySem.W.eq_bytes (fin_bl I q dec_byt)
    | _ => exact absurd (show false = true from hs) Bool.false_ne_true
  | _ => cases y <;> exact absurd (show false = true from hs) Bool.false_ne_true
theorem op_ne : OpR X (compareOp .NotEq) rNe := by
  intro pins s σ H x y v u Q I rx ry h
  obtain ⟨hs, q⟩ := h
  cases x with
  | non =>
    cases rx
    cases y with
    | non => cases ry; exact PySem.EqNone.ne_none_none (fin_bl I q (by simp))
    | bl j => cases ry; exact PySem.EqNone.ne_none_bool (fin_bl I q (by simp))
    | int j => obtain ⟨t', rfl⟩ := ry; exact PySem.EqNone.ne_none_int (fin_bl I q (by simp))
    | str j => obtain ⟨t', rfl⟩ := ry; exact PySem.EqNone.ne_none_str (fin_bl I q (by simp))
    | _ => exact absurd (show false = true from hs) Bool.false_ne_true
  | bl i =>
    cases rx
    cases y with
    | non => cases ry; exact PySem.EqNone.ne_bool_none (fin_bl I q (by simp))
    | bl j => cases ry; exact ne_bool (fin_bl I q (congrArg not dec_bl))
    | str j => obtain ⟨t', rfl⟩ := ry; exact PySem.EqMixed.ne_bool_str (fin_bl I q (by simp))
    | _ => exact absurd (show false = true from hs) Bool.false_ne_true
  | int i =>
    obtain ⟨t, rfl⟩ := rx
    cases y with
    | non => cases ry; exact PySem.EqNone.ne_int_none (fin_bl I q (by simp))
    | int j => obtain ⟨t', rfl⟩ := ry; exact ne_int (fin_bl I q (congrArg not dec_int))
    | str j => obtain ⟨t', rfl⟩ := ry; exact PySem.EqMixed.ne_int_str (fin_bl I q (by simp))
    | _ => exact absurd (show false = true from hs) Bool.false_ne_true
  | str i =>
    obtain ⟨t, rfl⟩ := rx
    cases y with
    | non => cases ry; exact PySem.EqNone.ne_str_none (fin_bl I q (by simp))
    | bl j => cases ry; exact PySem.EqMixed.ne_str_bool (fin_bl I q (by simp))
    | int j => obtain ⟨t', rfl⟩ := ry; exact PySem.EqMixed.ne_str_int (fin_bl I q (by simp))
    | str j => obtain ⟨t', rfl⟩ := ry; exact ne_str (fin_bl I q (congrArg not dec_str))
    | _ => exact absurd (show false = true from hs) Bool.false_ne_true
  | byt i =>
    obtain ⟨t, rfl⟩ := rx
    cases y with
    | byt j => obtain ⟨t', rfl⟩ := ry; exact PySem.W.ne_bytes (fin_bl I q (congrArg not dec_byt))
    | _ => exact absurd (show false = true from hs) Bool.false_ne_true
  | _ => cases y <;> exact absurd (show false = true from hs) Bool.false_ne_true

theorem op_lt : OpR X (compareOp .Lt) (rI0 fun i j => .bl (decide (i < j))) := opB0 fun _ _ _ _ _ _ _ q => lt_int q
theorem op_le : OpR X (compareOp .LtE) (rI0 fun i j => .bl (decide (i ≤ j))) := opB0 fun _ _ _ _ _ _ _ q => le_int q
theorem op_gt : OpR X (compareOp .Gt) (rI0 fun i j => .bl (decide (j < i))) := opB0 fun _ _ _ _ _ _ _ q => gt_int q
theorem op_ge : OpR X (compareOp .GtE) (rI0 fun i j => .bl (decide (j ≤ i))) := opB0 fun _ _ _ _ _ _ _ q => ge_int q


/-- is, is not of two objects that are tracked lists or instances -/
def isObj : HO → Bool
  | .lst _ => true
  | .ins _ _ _ => true
  | _ => false


theorem nomark (b : Expr) {op : CmpOp} (h : op ≠ .In := by decide) (h2 : op ≠ .NotIn := by decide) : behindInMarks op b = false := by
  have e1 : (op == CmpOp.In) = false := by cases op <;> first | rfl | exact absurd rfl h
  have e2 : (op == CmpOp.NotIn) = false := by cases op <;> first | rfl | exact absurd rfl h2
  cases b <;> simp [behindInMarks, e1, e2]
/-- a comparison as a value; hm: nomark b, or (for in, not in) by with_unfolding_all rfl -/
theorem pe_cmpR {op : CmpOp} {r : R2} (ho : OpR X (compareOp op) r) (ha : PE X a ta) (hb : PE X b tb) (hm : behindInMarks op b = false) : PE X (.Compare a [op] [b] pos) (tOp r ta tb) := by
  intro pins s σ H Q I h
  exact wpAny_Compare1 (binT ha hb I h fun v u s2 x y H2 I2 rx ry q => ho pins s2 σ H2 x y v u Q I2 rx ry q) hm
/-- a reading of a value as a test -/
def tTest (t : TE) : TT := fun σ H Q => t σ H fun x H' => ∃ k, x = .bl k ∧ Q k H'
theorem pt_cmpR {op : CmpOp} {r : R2} (ho : OpR X (compareOp op) r) (ha : PE X a ta) (hb : PE X b tb) (hm : behindInMarks op b = false) : PT X (.Compare a [op] [b] pos) (tTest (tOp r ta tb)) := by
  intro pins s σ H Q I h
  refine wpAny_isTrue_Compare1 (thn (ha pins s σ H _ I h) fun v s1 ⟨x, H1, I1, r1, q1⟩ => thn (hb pins s1 σ H1 _ I1 q1) fun u s2 ⟨y, H2, I2, r2, q2⟩ =>
    thn (ho pins s2 σ H2 x y v u _ I2 r1 r2 q2) fun c s3 ⟨z, H3, I3, r3, k, e, q3⟩ => ?_) hm
  subst e
  cases r3
  exact wpAny_truthy_bool ⟨H3, I3, q3⟩
/-- a op1 b op2 c -/
def tChain (r r' : R2) (ta tb tc : TE) : TE := fun σ H Q => ta σ H fun x H1 => tb σ H1 fun y H2 => r x y H2 fun z H3 => ∃ k, z = .bl k ∧
  (if k = true then tc σ H3 fun w' H4 => r' y w' H4 Q else Q (.bl false) H3)
theorem pe_chain {op op' : CmpOp} {r r' : R2} (ho : OpR X (compareOp op) r) (ho' : OpR X (compareOp op') r') (ha : PE X a ta) (hb : PE X b tb) (hc : PE X c tc)
    (hm : lastMarks [op, op'] [b, c] = false := by with_unfolding_all rfl) : PE X (.Compare a [op, op'] [b, c] pos) (tChain r r' ta tb tc) := by
  intro pins s σ H Q I h
  refine Compare_chain (thn (ha pins s σ H _ I h) fun v s1 ⟨x, H1, I1, r1, q1⟩ => chain_link (thn (hb pins s1 σ H1 _ I1 q1) fun u s2 ⟨y, H2, I2, r2, q2⟩ =>
    thn (ho pins s2 σ H2 x y v u _ I2 r1 r2 q2) fun d s3 ⟨z, H3, I3, r3, k, e, q3⟩ => ?_)) hm
  subst e
  cases r3
  refine wpAny_truthy_bool ?_
  cases k with
  | false => exact ite_ff ⟨.bl false, H3, I3, rfl, q3⟩
  | true => exact ite_tt (chain_last (thn (hc pins s3 σ H3 _ I3 q3) fun w' s4 ⟨z', H4, I4, r4, q4⟩ => ho' pins s4 σ H4 y z' u w' Q I4 r2 r4 q4))
theorem pt_chain {op op' : CmpOp} {r r' : R2} (ho : OpR X (compareOp op) r) (ho' : OpR X (compareOp op') r') (ha : PE X a ta) (hb : PE X b tb) (hc : PE X c tc)
    (hm : lastMarks [op, op'] [b, c] = false := by with_unfolding_all rfl) : PT X (.Compare a [op, op'] [b, c] pos) (tTest (tChain r r' ta tb tc)) := by
  intro pins s σ H Q I h
  refine isTrue_chain (thn (ha pins s σ H _ I h) fun v s1 ⟨x, H1, I1, r1, q1⟩ => test_link (thn (hb pins s1 σ H1 _ I1 q1) fun u s2 ⟨y, H2, I2, r2, q2⟩ =>
    thn (ho pins s2 σ H2 x y v u _ I2 r1 r2 q2) fun d s3 ⟨z, H3, I3, r3, k, e, q3⟩ => ?_)) hm
  subst e
  cases r3
  refine wpAny_truthy_bool ?_
  cases k with
  | false =>
    obtain ⟨k', e', q'⟩ := q3
    cases e'
    exact ite_ff ⟨H3, I3, q'⟩
  | true =>
    refine ite_tt (test_last (thn (hc pins s3 σ H3 _ I3 q3) fun w' s4 ⟨z', H4, I4, r4, q4⟩ => thn (ho' pins s4 σ H4 y z' u w' _ I4 r2 r4 q4) fun d' s5 ⟨z2, H5, I5, r5, k2, e2, q5⟩ => ?_))
    subst e2
    cases r5
    exact wpAny_truthy_bool ⟨H5, I5, q5⟩

/-! ### truth -/
/-- a value's truth by the abstract heap -/
def TruV (K : PySem.W.Frag) (x : V) (H : Hp) (k : Bool) : Prop :=
  match x with
  | .non => k = false
  | .bl b => k = b
  | .int i => k = (i != 0)
  | .str y => y.length ≤ sizeLine ∧ k = ((y.length : Int) != 0)
  | .byt y => y.size ≤ sizeLine ∧ k = ((y.size : Int) != 0)
  | .ref p => (∃ xs, SqL K H p xs ∧ k = !xs.isEmpty) ∨ (∃ xs, SqT K H p xs ∧ k = !xs.isEmpty) ∨ ∃ kvs, H p = some (.dK kvs) ∧ k = !kvs.isEmpty
  | _ => False
theorem line63 : (sizeLine : Nat) < 2 ^ 63 := by rw [sizeLine_eq]; decide

/-! ### strs and bytes -/

def PlainIxT (b : Expr) : Prop := ∀ o i, subscripted b false o i = operate [o, i] (getItem o i)

/-! ### scalar builtins, by CallR -/
theorem vals1 {x : V} {us : List Value} (r : Vals [x] us) : ∃ u, us = [u] ∧ RelV x u := by
  cases r with
  | cons r1 r2 => cases r2; exact ⟨_, rfl, r1⟩
theorem vals2 {x y : V} {us : List Value} (r : Vals [x, y] us) : ∃ u w', us = [u, w'] ∧ RelV x u ∧ RelV y w' := by
  cases r with
  | cons r1 r2 =>
    cases r2 with
    | cons r3 r4 => cases r4; exact ⟨_, _, rfl, r1, r3⟩
theorem call_abs : CallR X (.builtin "abs") (fun xs H Q => ∃ i, xs = [.int i] ∧ Q (.int (if i < 0 then -i else i)) H) := by
  intro pins s σ H xs us Q I r h
  obtain ⟨i, rfl, q⟩ := h
  obtain ⟨u, rfl, t, rfl⟩ := vals1 r
  exact call_abs_int fun u tk => ⟨.int (if i < 0 then -i else i), H, I.tok _, ⟨_, rfl⟩, q⟩
/-- len of a str, a bytes, a list, a tuple -/
def LenV (K : PySem.W.Frag) (x : V) (H : Hp) (n : Nat) : Prop :=
  match x with
  | .str y => y.length ≤ sizeLine ∧ n = y.length
  | .byt y => y.size ≤ sizeLine ∧ n = y.size
  | .ref p => (∃ xs, SqL K H p xs ∧ n = xs.length) ∨ ∃ xs, SqT K H p xs ∧ n = xs.length
  | _ => False
end
end L2

namespace L2
open PySem PySem.Spec PyProof.Rows

/-! ### an instance, its attributes a map -/
structure ObjM (h : Heap) (x dx C : Addr) (mA : Str → Option Value) : Prop where
  obj : h.get? x = some (PySem.W.instObj C dx)
  ns : h.Ns1 dx mA
  ne : dx ≠ x

theorem lookIn_ns {h : Heap} {dx : Addr} {mA : Str → Option Value} (n : h.Ns1 dx mA) : ∃ od, h.get? dx = some od ∧ ∀ name, PySem.W.lookIn name od = some (mA name) := by
  obtain ⟨o, es, ep, ho, hd, hk, _, hm⟩ := n
  refine ⟨o, ho, fun name => ?_⟩
  have e := hm name
  unfold nsFind findBy at e
  rw [← Array.find?_toList] at e
  unfold PySem.W.lookIn
  rw [hd]
  dsimp only
  split
  · rename_i y q
    rw [q] at e
    exact congrArg some e
  · rename_i q
    rw [q] at e
    have a : es.toList.any (·.refKey) = false := by
      rw [List.any_eq_false]
      intro y hy
      obtain ⟨z, t, hkey⟩ := hk y (Array.mem_toList_iff.mp hy)
      simp [DictEntry.refKey, hkey]
    have a' : ¬ es.toList.any (·.refKey) = true := by rw [a]; exact Bool.false_ne_true
    rw [if_neg a']
    exact congrArg some e

theorem ObjM.look {h : Heap} {x dx C : Addr} {mA : Str → Option Value} (I : ObjM h x dx C mA) : ∃ od, PySem.W.InstAt h x (PySem.W.instObj C dx) C (some od) ∧ ∀ name, PySem.W.lookIn name od = some (mA name) :=
  let ⟨od, ho, hl⟩ := lookIn_ns I.ns
  ⟨od, ⟨I.obj, rfl, rfl, ho⟩, hl⟩

section
variable {prog : Program} {w : World} {A : Around} {E : Value → Shared → Prop} {s : Shared} {K : PySem.W.Frag} {x dx C f : Addr} {mA : Str → Option Value} {name : Str} {v : Value}





end

/-! ### the attributes as a list of pairs -/
def putF (f : Str) (v : V) : List (Str × V) → List (Str × V)
  | [] => [(f, v)]
  | (g, x) :: r => if g = f then (g, v) :: r else (g, x) :: putF f v r

theorem RelO.some_of {v : V} {o : Option Value} (r : RelO (some v) o) : ∃ u, o = some u ∧ RelV v u := by
  cases o with
  | none => exact (show False from r).elim
  | some u => exact ⟨u, rfl, r⟩
theorem handed_of {v : V} {u : Value} (r : RelV v u) : PySem.W.handedIn u = true := by
  cases v with
  | non => cases (show u = Value.none from r); rfl
  | bl b => cases (show u = Value.bool b from r); rfl
  | int i => obtain ⟨t, e⟩ := (show ∃ t, u = Value.int i t from r); cases e; rfl
  | str x => obtain ⟨t, e⟩ := (show ∃ t, u = Value.str x t from r); cases e; rfl
  | byt b => obtain ⟨t, e⟩ := (show ∃ t, u = Value.bytes b t from r); cases e; rfl
  | flt b => obtain ⟨t, e⟩ := (show ∃ t, u = Value.float b t from r); cases e; rfl
  | ref a => cases (show u = Value.ref a from r); rfl
  | ty n => cases (show u = Value.type n from r); rfl

section
variable {P : Program} {w : World} {H H' : Hp} {h h' : Heap} {a C dx : Addr} {fs fs' : List (Str × V)}
theorem ins_get (hok : HOk P w H h) (e : H a = some (.ins C dx fs)) : ∃ mA, ObjM h a dx C mA ∧ (∀ f, RelO (fs.lookup f) (mA f)) ∧ PySem.Within mA (fs.map (·.1)) ∧ fs.length ≤ 1000 ∧ H dx = some (.own a) := by
  obtain ⟨d, z, ne, ob, mA, n, r, q⟩ := (show ObjOk P w H h a (.ins C dx fs) from hok a _ e)
  exact ⟨mA, ⟨ob, n, ne⟩, r, q, z, d⟩
end

/-! ### what of the text a class must have -/
structure Cls (K : PySem.W.Frag) (C : Addr) : Prop where
  pg : PySem.W.plainGet K C Str.empty = true
  hd : PySem.W.hasDictIn K C = true
  po : PySem.W.plainOver K C = true
  sa : PySem.W.findIn K (.ref C) "__setattr__" = some (some (.builtin "object.__setattr__"))
theorem Cls.get {K : PySem.W.Frag} {C : Addr} (c : Cls K C) (f : Str) : PySem.W.plainGet K C f = true := c.pg
/-- no class of it has the name -/
def NoAttr (K : PySem.W.Frag) (C : Addr) (f : Str) : Prop := PySem.W.findIn K (.ref C) f = some none
/-- a constant of the class -/
structure Con (K : PySem.W.Frag) (C : Addr) (f : Str) (v : V) (u : Value) : Prop where
  at_ : PySem.W.findIn K (.ref C) f = some (some u)
  rel : RelV v u
  get : PySem.W.specialIn K u "__get__" = some none
  cp : PySem.W.copiedNames.contains f = false
/-- a method: a plain def of the class or of one above it -/
structure Meth (K : PySem.W.Frag) (C : Addr) (m : Str) (f : Addr) : Prop where
  at_ : PySem.W.findIn K (.ref C) m = some (some (.ref f))
  fn : PySem.W.isFn K (.ref f) = true
  kp : PySem.W.keepIn K (.ref f) = true

section
variable {X : Cx} {pins : List (Addr × Obj)} {σ : St} {H : Hp} {s : Shared} {a C dx : Addr} {fs : List (Str × V)} {f : Str} {v : V} {A : Around} {E : Value → Shared → Prop}






/-- e.f where nothing but the object is asked: through attributeBase (super) and the last hold -/
theorem attr_of {prog : Program} {w : World} {env : Env} {e : Expr} {f : Str} {pos : Pos} {s : Shared} {Q : Value → Shared → Prop} (hb : attributeBase e f env (eval e env) = eval e env)
    (h : wpAny (model prog w) A (eval e env) (fun o s₁ => wpAny (model prog w) A (getAttr o f true) Q E s₁) E s) : wpAny (model prog w) A (eval (.Attribute e f pos) env) Q E s :=
  Attribute_any_ h (by rw [arm_eval_Attribute, hb])
end

/-! ### readings and rules -/
/-- e.f, an attribute of the instance -/
def tFld (K : PySem.W.Frag) (ta : TE) (f : Str) : TE := fun σ H Q => ta σ H fun x H1 => ∃ a C dx fs v, x = .ref a ∧ H1 a = some (.ins C dx fs) ∧ Cls K C ∧ NoAttr K C f ∧ fs.lookup f = some v ∧ Q v H1
/-- e.f, a constant of the class -/
def tCon (K : PySem.W.Frag) (ta : TE) (f : Str) : TE := fun σ H Q => ta σ H fun x H1 => ∃ a C dx fs v u, x = .ref a ∧ H1 a = some (.ins C dx fs) ∧ Cls K C ∧ Con K C f v u ∧ fs.lookup f = none ∧ Q v H1
/-- e.f = value -/
def sFld (K : PySem.W.Frag) (ta tv : TE) (f : Str) : TS := fun D σ H => tv σ H fun y H1 => ta σ H1 fun x H2 => ∃ a C dx fs, x = .ref a ∧ H2 a = some (.ins C dx fs) ∧ Cls K C ∧ NoAttr K C f ∧ fs.length < 1000 ∧
  D.nx σ (upd H2 a (.ins C dx (putF f y fs)))
/-- an augmented operator on two values -/
def InOp (X : Cx) (op : Operator) (rd : V → V → Hp → VK → Prop) : Prop :=
  ∀ (pins : List (Addr × Obj)) (s : Shared) (σ : St) (H : Hp) (x y : V) (u v : Value) (Q : VK), Inv X pins σ H s → RelV x u → RelV y v → rd x y H Q → wpAny (model X.prog X.w) X.A (inplaceOp op u v) (EP X pins σ Q) X.xe s
/-- e.f op= value -/
def sFldAug (K : PySem.W.Frag) (ta tv : TE) (rd : V → V → Hp → VK → Prop) (f : Str) : TS := fun D σ H => ta σ H fun x H1 => ∃ a C dx fs v, x = .ref a ∧ H1 a = some (.ins C dx fs) ∧ Cls K C ∧ NoAttr K C f ∧ fs.lookup f = some v ∧
  tv σ H1 fun y H2 => rd v y H2 fun z H3 => ∃ dx' fs', H3 a = some (.ins C dx' fs') ∧ fs'.length < 1000 ∧ D.nx σ (upd H3 a (.ins C dx' (putF f z fs')))

section
variable {X : Cx} {o e value : Expr} {f : Str} {pos pos' tpos : Pos} {ta tv : TE}
def rAdd : V → V → Hp → VK → Prop := fun x y H Q => ∃ i j, x = .int i ∧ y = .int j ∧ Q (.int (i + j)) H
def rSub : V → V → Hp → VK → Prop := fun x y H Q => ∃ i j, x = .int i ∧ y = .int j ∧ Q (.int (i - j)) H

end

/-! ### isinstance -/
section
variable {X : Cx} {pins : List (Addr × Obj)} {σ : St} {H : Hp} {s : Shared} {A : Around} {E : Value → Shared → Prop} {Q : Value → Shared → Prop} {c : Value} {b : Bool}
/-- the type of a value, as the fragment's deciders take it; for an instance its class -/
inductive TyOf (K : PySem.W.Frag) (H : Hp) : V → Value → Prop where
  | non : TyOf K H .non (.type "NoneType")
  | bl (x : Bool) : TyOf K H (.bl x) (.type "bool")
  | int (i : Int) : TyOf K H (.int i) (.type "int")
  | str (x : Str) : TyOf K H (.str x) (.type "str")
  | flt (x : UInt64) : TyOf K H (.flt x) (.type "float")
  | lst {a : Addr} {xs : List V} (e : H a = some (.lst xs)) : TyOf K H (.ref a) (.type "list")
  | frz {a : Addr} {o : Obj} {xs : List V} (e : H a = some (.frz o (.lst xs))) : TyOf K H (.ref a) (.type "list")
  | tup {a : Addr} {xs : List V} (e : H a = some (.tup xs)) : TyOf K H (.ref a) (.type "tuple")
  | dK {a : Addr} {kvs : List (Key × V)} (e : H a = some (.dK kvs)) : TyOf K H (.ref a) (.type "dict")
  | dT {a : Addr} {kvs : List (List Key × V)} (e : H a = some (.dT kvs)) : TyOf K H (.ref a) (.type "dict")
  | ins {a C dx : Addr} {fs : List (Str × V)} (e : H a = some (.ins C dx fs)) (cl : Cls K C) (ha : PySem.W.findIn K (.ref C) "__class__" = some (some (.builtin "object.__class__")))
      (hn : PySem.W.specialIn K (.builtin "object.__class__") "__get__" = some (some (.builtin "getset_descriptor.__get__"))) (htk : PySem.W.takesIn K (.builtin "object.__class__") = some true)
      (hm : PySem.W.mroIn K C (.type "object") = some true) : TyOf K H (.ref a) (.ref C)
/-- isinstance(x, c) for one class c, a built-in or an own one: kitOne's answer -/
theorem isinst_ok {x : V} {u t : Value} (I : Inv X pins σ H s) (rx : RelV x u) (ty : TyOf X.K H x t) (e : PySem.W.kitOne X.K t c = some b) (h : ∀ tk, Q (.bool b) { s with toks := tk }) :
    wpAny (model X.prog X.w) A (call (.builtin "isinstance") [u, c]) Q E s := by
  cases ty with
  | non => cases (show u = Value.none from rx); exact PySem.W.kia_one PySem.W.kitx_none I.kIn True.intro e (fun z => nomatch z) h
  | bl y => cases (show u = Value.bool y from rx); exact PySem.W.kia_one PySem.W.kitx_bool I.kIn True.intro e (fun z => nomatch z) h
  | int i => obtain ⟨t, q⟩ := (show ∃ t, u = Value.int i t from rx); cases q; exact PySem.W.kia_one PySem.W.kitx_int I.kIn True.intro e (fun z => nomatch z) h
  | str y => obtain ⟨t, q⟩ := (show ∃ t, u = Value.str y t from rx); cases q; exact PySem.W.kia_one PySem.W.kitx_str I.kIn True.intro e (fun z => nomatch z) h
  | flt y => obtain ⟨t, q⟩ := (show ∃ t, u = Value.float y t from rx); cases q; exact PySem.W.kia_one PySem.W.kitx_float I.kIn True.intro e (fun z => nomatch z) h
  | @lst a xs ea =>
    cases (show u = Value.ref a from rx)
    obtain ⟨_, _, n, _, h1⟩ := (show ObjOk X.prog X.w H s.heap a (.lst xs) from I.hok a _ ea)
    exact PySem.W.kia_one PySem.W.kitx_list I.kIn ⟨_, h1, rfl⟩ e (fun z => nomatch z) h
  | @frz a ob xs ea =>
    cases (show u = Value.ref a from rx)
    obtain ⟨_, _, _, n, _, h1⟩ := (show ObjOk X.prog X.w H s.heap a (.frz ob (.lst xs)) from I.hok a _ ea)
    exact PySem.W.kia_one PySem.W.kitx_list I.kIn ⟨_, h1, rfl⟩ e (fun z => nomatch z) h
  | @tup a xs ea =>
    cases (show u = Value.ref a from rx)
    obtain ⟨_, _, _, p⟩ := (show ObjOk X.prog X.w H s.heap a (.tup xs) from I.hok a _ ea)
    obtain ⟨o, h1, h2, _⟩ := p
    exact PySem.W.kia_one PySem.W.kitx_tuple I.kIn ⟨o, h1, h2⟩ e (fun z => nomatch z) h
  | @dK a kvs ea =>
    cases (show u = Value.ref a from rx)
    obtain ⟨_, _, vs, _, p⟩ := (show ObjOk X.prog X.w H s.heap a (.dK kvs) from I.hok a _ ea)
    obtain ⟨o, es, ep, h1, h2, _⟩ := p
    exact PySem.W.kia_one PySem.W.kitx_dict I.kIn ⟨o, h1, h2.1⟩ e (fun z => nomatch z) h
  | @dT a kvs ea =>
    cases (show u = Value.ref a from rx)
    obtain ⟨_, _, xs, _, o, es, ep, h1, h2, _⟩ := (show ObjOk X.prog X.w H s.heap a (.dT kvs) from I.hok a _ ea)
    exact PySem.W.kia_one PySem.W.kitx_dict I.kIn ⟨o, h1, h2.1⟩ e (fun z => nomatch z) h
  | @ins a C dx fs ea cl ha hn htk hm =>
    cases (show u = Value.ref a from rx)
    obtain ⟨mA, O, _⟩ := ins_get I.hok ea
    obtain ⟨od, J, _⟩ := O.look
    exact PySem.W.kia_one (PySem.W.kitx_own (cl.get _) cl.hd ha hn htk hm) I.kIn J e (fun z => nomatch z) h
end
end L2

namespace L2
open PySem PySem.Spec PyProof.Rows

/-! ### room -/
structure Room (k : Nat) (A : Around) : Prop where
  hd : A.handled = none
  dp : A.depth + 3 * k + 5 < recursionLimit
  un : A.units + 16 * k + 200 < cLine
  gd : A.guards = some []
theorem Room.mono {j k : Nat} {A : Around} (r : Room k A) (h : j ≤ k) : Room j A := ⟨r.hd, by have := r.dp; omega, by have := r.un; omega, r.gd⟩
theorem Room.deeper {k : Nat} {A : Around} (r : Room (k + 1) A) (env : Env) : Room k (A.deeper env) :=
  ⟨r.hd, by have := r.dp; show A.depth + 1 + 3 * k + 5 < _; omega, by have := r.un; show A.units + 3 + 16 * k + 200 < _; omega, r.gd⟩
theorem make_depth {A : Around} {C : Addr} {us : List Value} {kw : List (Str × Value)} : (A.under (.builtin "type.__call__" ⟨.ref C :: us, kw⟩)).depth = A.depth + 1 := by
  first | rfl | simp [Around.under, Code.weight, Code.isCreation, Code.isGuard, Code.isCaller, Code.frames, Code.isFrame, guardIds]
theorem make_units {A : Around} {C : Addr} {us : List Value} {kw : List (Str × Value)} : (A.under (.builtin "type.__call__" ⟨.ref C :: us, kw⟩)).units = A.units + 1 := by
  first | rfl | simp [Around.under, Code.cUnits, Code.frames, Code.isFrame]
theorem make_guards {A : Around} {C : Addr} {us : List Value} {kw : List (Str × Value)} : (A.under (.builtin "type.__call__" ⟨.ref C :: us, kw⟩)).guards = A.guards := by
  first | rfl | simp [Around.under, Code.guards, Code.isGuard, guardIds, pushGuards]
theorem Room.make {k : Nat} {A : Around} (r : Room (k + 1) A) (C : Addr) (us : List Value) (kw : List (Str × Value)) : Room k (A.under (.builtin "type.__call__" ⟨.ref C :: us, kw⟩)) :=
  ⟨r.hd, by have := r.dp; rw [make_depth]; omega, by have := r.un; rw [make_units]; omega, by rw [make_guards]; exact r.gd⟩
theorem Room.depth {k : Nat} {A : Around} (r : Room k A) : A.depth < recursionLimit := by have := r.dp; omega
theorem Room.units {k : Nat} {A : Around} (r : Room k A) : A.units + 64 < cLine := by have := r.un; omega

/-! ### argument lists and displays -/
def tNil : TA := fun _ H Q => Q [] H
def tCons (ta : TE) (tr : TA) : TA := fun σ H Q => ta σ H fun x H1 => tr σ H1 fun xs H2 => Q (x :: xs) H2
section
variable {X : Cx} {e : Expr} {es : List Expr} {te : TE} {t : TA} {pos : Pos}
theorem pa_nil : PA X [] tNil := fun _ _ _ _ H Q I h => Calls.spliced_nil ⟨[], H, I, .nil, h⟩
theorem pa_cons (ha : PE X e te) (hr : PA X es t) (hs : starEach (e :: es) X.env = (false, eval e X.env) :: starEach es X.env := by rfl) : PA X (e :: es) (tCons te t) := by
  intro pos pins s σ H Q I h
  rw [hs]
  show wpAny _ _ (spliced ((false, eval e X.env) :: backTo pos (starEach es X.env))) _ _ s
  refine Calls.spliced_cons (thn (ha pins s σ H _ I h) fun u s1 ⟨x, H1, I1, r1, q1⟩ => ?_)
  exact thn (hr pos pins s1 σ H1 _ I1 q1) fun us s2 ⟨xs, H2, I2, r2, q2⟩ => ⟨x :: xs, H2, I2, .cons r1 r2, q2⟩

/-- a tuple, a list of written items -/
def tTup (t : TA) : TE := fun σ H Q => t σ H fun xs H1 => xs.length ≤ sizeLine ∧ ∀ p, H1 p = none → Q (.ref p) (upd H1 p (.tup xs))
def tLst (t : TA) : TE := fun σ H Q => t σ H fun xs H1 => xs.length ≤ sizeLine ∧ ∀ p, H1 p = none → Q (.ref p) (upd H1 p (.lst xs))
theorem pe_tup {x1} (h : PA X es t) : PE X (.Tuple es x1 pos) (tTup t) := by
  intro pins s σ H Q I hq
  refine wpAny_Tuple_spliced (thn (h pos pins s σ H _ I hq) fun us s1 ⟨xs, H1, I1, r, z, q⟩ => ⟨by rw [← r.length]; exact z, ?_⟩)
  have hf : H1 s1.heap.objs.size = none := I1.hok.fresh (Nat.le_refl _)
  refine ⟨.ref s1.heap.objs.size, upd H1 s1.heap.objs.size (.tup xs), I1.laid (t' := s1.toks) (fun b u e => Heap.get?_push_of_some _ e) (Nat.le_refl _) ?_, rfl, q _ hf⟩
  exact ⟨z, us, r, ⟨_, Heap.get?_push_size _ rfl, rfl, _, rfl⟩⟩
theorem pe_lst (h : PA X es t) : PE X (.List es pos) (tLst t) := by
  intro pins s σ H Q I hq
  refine wpAny_List_spliced (thn (h pos pins s σ H _ I hq) fun us s1 ⟨xs, H1, I1, r, z, q⟩ => ⟨by rw [← r.length]; exact z, ?_⟩)
  have hf : H1 s1.heap.objs.size = none := I1.hok.fresh (Nat.le_refl _)
  refine ⟨.ref s1.heap.objs.size, upd H1 s1.heap.objs.size (.lst xs), I1.laid (t' := s1.toks) (fun b u e => Heap.get?_push_of_some _ e) (Nat.le_refl _) ?_, rfl, q _ hf⟩
  exact ⟨z, us, 0, r, Heap.get?_push_size _ rfl⟩
end

/-! ### what a def promises -/
/-- a def's promise: the bound arguments in the parameters' order, the heap, the wanted end, the wanted exception -/
abbrev Sp := List V → Hp → VK → XK → Prop
/-- how an exception lies behind a call (file 08 gives it): the callers' frames, abstract heap and state ahead of the call, the wish, the exception, the state -/
abbrev CXT := List Env → Hp → Shared → XK → Value → Shared → Prop

/-- the state at a call -/
structure Env0 (P : Program) (w : World) (K : PySem.W.Frag) (mg : Str → Option Value) (base : Heap) (A : Around) (outer : List Env) (s : Shared) (H : Hp) : Prop where
  frames : A.frames = some outer
  mod : Mod K mg base
  bs : ∀ b o, base.get? b = some o → s.heap.get? b = some o ∧ H b = none
  bsz : base.objs.size ≤ s.heap.objs.size
  funs : s.heap.FunFrames base outer
  frf : ∀ b ∈ frs outer, H b = none
  hok : HOk P w H s.heap
  bare : AllBare s.gens
/-- a call's end -/
def CE (outer : List Env) (P : Program) (w : World) (H : Hp) (s : Shared) (Q : VK) (u : Value) (s' : Shared) : Prop :=
  ∃ v H', s'.os = s.os ∧ AllBare s'.gens ∧ Un (frs outer) [] H H' s.heap s'.heap ∧ HOk P w H' s'.heap ∧ RelV v u ∧ Q v H'
def CR (CX : CXT) (outer : List Env) (P : Program) (w : World) (H : Hp) (s : Shared) (Q : VK) (E : XK) (r : Result) (s' : Shared) : Prop :=
  match r with
  | .ok (.ret u) => CE outer P w H s Q u s'
  | .ok _ => False
  | .error e => CX outer H s E e s'
structure FnOk (P : Program) (w : World) (K : PySem.W.Frag) (mg : Str → Option Value) (base : Heap) (CX : CXT) (k : Nat) (f : Addr) (fd : FuncData) (ps : List Str) (sp : Sp) : Prop where
  len : ∀ vs H Q E, sp vs H Q E → vs.length = ps.length
  run : ∀ (A : Around) (outer : List Env) (s : Shared) (H : Hp) (args : Args) (us : List Value) (vs : List V) (Q : VK) (E : XK), Room k A → Env0 P w K mg base A outer s H → BindsTo s fd args (ps.zip us) → Vals vs us → sp vs H Q E →
    codeAny (model P w) A (.call (.ref f) args) (CR CX outer P w H s Q E) s

theorem Env0.make {P : Program} {w : World} {K : PySem.W.Frag} {mg : Str → Option Value} {base : Heap} {A : Around} {outer : List Env} {s : Shared} {H : Hp} (e : Env0 P w K mg base A outer s H) (C : Addr) (us : List Value) (kw : List (Str × Value)) :
    Env0 P w K mg base (A.under (.builtin "type.__call__" ⟨.ref C :: us, kw⟩)) outer s H := ⟨by first | exact e.frames | (simpa [Around.under, Code.envs, Code.isFrame, pushEnvs] using e.frames), e.mod, e.bs, e.bsz, e.funs, e.frf, e.hok, e.bare⟩

section
variable {X : Cx} {pins : List (Addr × Obj)} {σ : St} {H : Hp} {s s' : Shared}
/-- from a body: what a callee wants -/
theorem Inv.env0 (I : Inv X pins σ H s) : Env0 X.prog X.w X.K X.mg X.base X.A X.stack s H :=
  ⟨I.ok.frames, I.ok.mod, I.bs, Nat.le_trans I.ok.bsz I.sz, I.stack, I.stkFree, I.hok, I.bare⟩
/-- behind a call -/
theorem Inv.after {Q : VK} {u : Value} (I : Inv X pins σ H s) (h : CE X.stack X.prog X.w H s Q u s') : EP X pins σ Q u s' := by
  obtain ⟨v, H', os, bare, un, hok, r, q⟩ := h
  obtain ⟨hh, g, d, t, os'⟩ := s'
  obtain rfl : os' = s.os := os
  exact ⟨v, H', I.call (h' := hh) (g' := g) (d' := d) (t' := t) (ch := []) un hok bare (fun b z => absurd z (by simp)), r, q⟩
end

/-! ### calls -/
/-- f(..): the written arguments, then the defaults dvs; E: what is wanted of an exception -/
def tCall (sp : Sp) (dvs : List V) (E : XK) (t : TA) : TE := fun σ H Q => t σ H fun vs H1 => sp (vs ++ dvs) H1 Q E
/-- o.m(..) of an instance of the class at C -/
def tMeth (C : Addr) (m : Str) (sp : Sp) (dvs : List V) (E : XK) (ta : TE) (t : TA) : TE := fun σ H Q => ta σ H fun x H1 => ∃ a dx fs, x = .ref a ∧ H1 a = some (.ins C dx fs) ∧ fs.lookup m = none ∧
  t σ H1 fun vs H2 => sp (x :: (vs ++ dvs)) H2 Q E
/-- C(..): a new instance and its dict, then __init__ -/
def tMake (C : Addr) (sp : Sp) (dvs : List V) (E : XK) (t : TA) : TE := fun σ H Q => t σ H fun vs H1 => ∀ x dx, H1 x = none → H1 dx = none → dx ≠ x →
  sp (.ref x :: (vs ++ dvs)) (upd (upd H1 dx (.own x)) x (.ins C dx [])) (fun v H2 => v = .non ∧ Q (.ref x) H2) E

/-- how the parameters are bound: us the positional arguments, kw the keywords' values by name, ds the defaults that fill up -/
def Binds (K : PySem.W.Frag) (fd : FuncData) (ps : List Str) (ds : List Value) : Prop :=
  ∀ (s : Shared) (us : List Value), K.In s.heap → (us ++ ds).length = ps.length → BindsTo s fd ⟨us, []⟩ (ps.zip (us ++ ds))
/-- every parameter is given -/
theorem Binds.all {K : PySem.W.Frag} {fd : FuncData} {ps : List Str} (h : ∀ us : List Value, us.length = ps.length → bindArgs fd ⟨us, []⟩ = pure (ps.zip us)) : Binds K fd ps [] := fun s us _ hl => by
  rw [List.append_nil] at hl ⊢
  exact .of_eq (h us hl)

/-- an exception of a callee reaches what this body wants of exceptions -/
def Passes (CX : CXT) (X : Cx) (E : XK) : Prop := ∀ (pins : List (Addr × Obj)) (σ : St) (H : Hp) (s : Shared) (e : Value) (s' : Shared), Inv X pins σ H s → CX X.stack H s E e s' → X.xe e s'

section
variable {X : Cx} {CX : CXT} {k : Nat} {f C : Addr} {fd : FuncData} {ps : List Str} {sp : Sp} {dvs : List V} {ds : List Value} {E : XK} {x m : Str} {p pos apos : Pos} {e o : Expr} {es : List Expr} {ta : TE} {t : TA}

/-- the callee runs -/
theorem run_fn {pins : List (Addr × Obj)} {σ : St} {H : Hp} {s : Shared} {Q : VK} {us : List Value} {vs : List V} (F : FnOk X.prog X.w X.K X.mg X.base CX k f fd ps sp) (hr : Room k X.A) (hb : Binds X.K fd ps ds) (hd : Vals dvs ds) (hx : Passes CX X E)
    (I : Inv X pins σ H s) (r : Vals vs us) (h : sp (vs ++ dvs) H Q E) : wpAny (model X.prog X.w) X.A (call (.ref f) us) (EP X pins σ Q) X.xe s := by
  have r2 : Vals (vs ++ dvs) (us ++ ds) := r.append hd
  have hl : (us ++ ds).length = ps.length := by rw [← r2.length]; exact F.len _ _ _ _ h
  refine wpAny_call (codeAny_mono (F.run X.A X.stack s H ⟨us, []⟩ (us ++ ds) (vs ++ dvs) Q E hr I.env0 (hb s us I.kIn hl) r2 h) fun r s' hq => ?_)
  cases r with
  | error e => exact hx pins σ H s e s' I hq
  | ok fl =>
    cases fl with
    | ret u => exact I.after hq
    | next => exact False.elim hq
    | brk => exact False.elim hq
    | cont => exact False.elim hq

theorem pe_call (F : FnOk X.prog X.w X.K X.mg X.base CX k f fd ps sp) (hr : Room k X.A) (hg : Gl X x) (hm : X.mg x = some (.ref f)) (hk : PySem.W.keepIn X.K (.ref f) = true) (hb : Binds X.K fd ps ds) (hd : Vals dvs ds) (hx : Passes CX X E)
    (ha : PA X (e :: es) t) (hdb : (x == ("__debug__" : Str)) = false := by decide) (he : starEach (e :: es) X.env = (false, eval e X.env) :: starEach es X.env := by rfl) (hpl : (backTo pos (starEach es X.env)).any (·.1) = false := by rfl) :
    PE X (.Call (.Name x p) (e :: es) [] pos) (tCall sp dvs E t) := by
  intro pins s σ H Q I h
  refine wpAny_Call_Name_kw (ld_glob I hg hm ?_ hdb)
  refine PySem.W.callWith_K (h₀ := X.base) I.ok.mod.kin hk (thn (ha pos pins s σ H _ I h) fun us s1 ⟨vs, H1, I1, r, q⟩ => ⟨I1.kIn, ?_⟩) he hpl
  exact run_fn F hr hb hd hx I1 r q


/-- what a class must have to be made -/
structure Mk (K : PySem.W.Frag) (C f : Addr) : Prop where
  makes : PySem.W.makesIn K C = true
  init : PySem.W.findIn K (.ref C) "__init__" = some (some (.ref f))
  fn : PySem.W.isFn K (.ref f) = true
  kp : PySem.W.keepIn K (.ref C) = true

end

/-! ### keywords -/
/-- the values of the keywords, from the left -/
def PK (X : Cx) (kws : List Keyword) (t : TA) : Prop :=
  ∀ (pos : Pos) (pins : List (Addr × Obj)) (s : Shared) (σ : St) (H : Hp) (Q : List V → Hp → Prop), Inv X pins σ H s → t σ H Q → wpAny (model X.prog X.w) X.A (evalAll ((backToKw pos (keywordEach kws X.env)).map (·.2))) (AP X pins σ Q) X.xe s
section
variable {X : Cx} {CX : CXT} {k : Nat} {f C : Addr} {fd : FuncData} {ps ks : List Str} {sp : Sp} {E : XK} {x m : Str} {p pos apos kpos : Pos} {e o : Expr} {es : List Expr} {kws : List Keyword} {te ta : TE} {t tk : TA} {nm : Option Str}

/-- how a call with keywords binds: g puts the positional values us and the keywords' values ws (names ks) in the parameters' order, defaults among them -/
structure KBinds (K : PySem.W.Frag) (fd : FuncData) (ps ks : List Str) (g : List Value → List Value → List Value) (gV : List V → List V → List V) : Prop where
  to : ∀ (s : Shared) (us ws : List Value), K.In s.heap → (g us ws).length = ps.length → BindsTo s fd ⟨us, ks.zip ws⟩ (ps.zip (g us ws))
  rel : ∀ {vs : List V} {us : List Value} {zs : List V} {ws : List Value}, Vals vs us → Vals zs ws → Vals (gV vs zs) (g us ws)
def tCallK (sp : Sp) (gV : List V → List V → List V) (E : XK) (t tk : TA) : TE := fun σ H Q => t σ H fun vs H1 => tk σ H1 fun zs H2 => sp (gV vs zs) H2 Q E
variable {g : List Value → List Value → List Value} {gV : List V → List V → List V}
end

/-! ### a def's body keeps its promise -/
/-- names: the parameters first -/
structure FnScope (N P : List Str) (sc : Scope) : Prop where
  kind : sc.kind = .function
  co : sc.isCoroutine = false
  gen : sc.isGenerator = false
  nd : N.Nodup
  pre : N.take P.length = P
  par : ∀ x ∈ P, sc.names.lookup x = some .local ∨ sc.names.lookup x = some .cell
  nofree : ∀ y ∈ sc.names, y.2 ≠ .free

theorem bindL_out {kindOf : Str → Option NameKind} {x : Str} : ∀ {binds : List (Str × Value)} {m : Str → Option Value}, (∀ v, (x, v) ∉ binds) → bindL kindOf binds m x = m x
  | [], _, _ => rfl
  | (n, v) :: r, m, h => by
    unfold bindL
    rw [bindL_out fun w hw => h w (List.mem_cons_of_mem _ hw)]
    split
    · have : x ≠ n := by rintro rfl; exact h v List.mem_cons_self
      simp [this]
    · rfl
theorem bindC_out {kindOf : Str → Option NameKind} {x : Str} : ∀ {binds : List (Str × Value)} {m : Str → Option Value}, (∀ v, (x, v) ∉ binds) → bindC kindOf binds m x = m x
  | [], _, _ => rfl
  | (n, v) :: r, m, h => by
    unfold bindC
    rw [bindC_out fun w hw => h w (List.mem_cons_of_mem _ hw)]
    split
    · rfl
    · have : x ≠ n := by rintro rfl; exact h v List.mem_cons_self
      simp [this]
theorem bindL_get {kindOf : Str → Option NameKind} {x : Str} {v : Value} : ∀ {P : List Str} {vs : List Value} {i : Nat} {m : Str → Option Value}, P.Nodup → P[i]? = some x → vs[i]? = some v → kindOf x = some .local →
    bindL kindOf (P.zip vs) m x = some v
  | [], _, _, _, _, h, _, _ => by simp at h
  | _ :: _, [], _, _, _, _, h, _ => by simp at h
  | p :: P, w :: vs, 0, m, nd, h1, h2, hk => by
    simp at h1 h2; subst h1; subst h2
    show bindL kindOf ((p, w) :: P.zip vs) m p = _
    unfold bindL
    rw [bindL_out fun v hv => (List.nodup_cons.mp nd).1 (List.of_mem_zip hv).1, if_pos hk]
    simp
  | p :: P, w :: vs, i + 1, m, nd, h1, h2, hk => by
    show bindL kindOf ((p, w) :: P.zip vs) m x = _
    unfold bindL
    exact bindL_get (i := i) (List.nodup_cons.mp nd).2 (by simpa using h1) (by simpa using h2) hk
theorem bindC_get {kindOf : Str → Option NameKind} {x : Str} {v : Value} : ∀ {P : List Str} {vs : List Value} {i : Nat} {m : Str → Option Value}, P.Nodup → P[i]? = some x → vs[i]? = some v → kindOf x ≠ some .local →
    bindC kindOf (P.zip vs) m x = some v
  | [], _, _, _, _, h, _, _ => by simp at h
  | _ :: _, [], _, _, _, _, h, _ => by simp at h
  | p :: P, w :: vs, 0, m, nd, h1, h2, hk => by
    simp at h1 h2; subst h1; subst h2
    show bindC kindOf ((p, w) :: P.zip vs) m p = _
    unfold bindC
    rw [bindC_out fun v hv => (List.nodup_cons.mp nd).1 (List.of_mem_zip hv).1, if_neg hk]
    simp
  | p :: P, w :: vs, i + 1, m, nd, h1, h2, hk => by
    show bindC kindOf ((p, w) :: P.zip vs) m x = _
    unfold bindC
    exact bindC_get (i := i) (List.nodup_cons.mp nd).2 (by simpa using h1) (by simpa using h2) hk

/-- the names' values at the entry -/
def start (N : List Str) (vs : List V) : St := vs.map some ++ List.replicate (N.length - vs.length) none

/-- the context of a def's body, at its entry; an exception leaves the frame, then lies as CX says -/
def cxOf (CX : CXT) (P : Program) (w : World) (K : PySem.W.Frag) (mg : Str → Option Value) (base : Heap) (N : List Str) (qual : Str) (scope : Scope) (f : Addr) (cd : Value) (A : Around) (outer : List Env) (s : Shared) (H : Hp) (E : XK) : Cx where
  prog := P
  w := w
  K := K
  mg := mg
  base := base
  A := A.deeper (envOfC qual scope s.heap.objs.size f cd)
  N := N
  s₀ := s
  H₀ := H
  env := envOfC qual scope s.heap.objs.size f cd
  outer := outer
  stack := envOfC qual scope s.heap.objs.size f cd :: outer
  ex := []
  calm := true
  fn := fun _ => true
  pn := []
  xe := fun e s' => wpAny (model P w) (A.deeper (envOfC qual scope s.heap.objs.size f cd)) (leaving (envOfC qual scope s.heap.objs.size f cd) e) (fun _ s'' => CX outer H s E e s'') (fun e' s'' => CX outer H s E e' s'') s'

theorem cell_has {sc : Scope} {n : Nat} {x : Str} (h : sc.names.lookup x = some .cell) : ∃ c, (cellsFrom n sc.names []).lookup x = some c := by
  have q := PySem.W.cellsFrom_some sc.names n [] (.inl h)
  exact Option.isSome_iff_exists.mp q

theorem inv_start {CX : CXT} {P : Program} {w : World} {K : PySem.W.Frag} {mg : Str → Option Value} {base : Heap} {N ps : List Str} {qual : Str} {scope : Scope} {f : Addr} {cd : Value} {A : Around} {outer : List Env} {s s1 : Shared} {H : Hp} {E : XK} {us : List Value} {vs : List V}
    (S : FnScope N ps scope) (hd : A.handled = none) (e0 : Env0 P w K mg base A outer s H) (hl : vs.length = ps.length) (r : Vals vs us)
    (x : InCallC s s.heap.objs.size (bindL (envOfC qual scope s.heap.objs.size f cd).kindOf (ps.zip us) fun _ => none) (cellsFrom (s.heap.objs.size + 1) scope.names []) (bindC (envOfC qual scope s.heap.objs.size f cd).kindOf (ps.zip us) fun _ => none) s1) :
    Inv (cxOf CX P w K mg base N qual scope f cd A outer s H E) [] (start N vs) H s1 := by
  have hpl : ps.length ≤ N.length := by have := congrArg List.length S.pre; rw [List.length_take] at this; omega
  obtain ⟨h1, tk, rfl, hk⟩ := x.done
  have noA : ∀ b : Addr, b ∉ (cxOf CX P w K mg base N qual scope f cd A outer s H E).ex := fun b z => absurd (show b ∈ ([] : List Addr) from z) (by simp)
  refine ⟨⟨e0.mod, S.kind, rfl, rfl, Nat.le_refl _, fun y z c h1 h2 => ?_, fun y hy => ?_, fun y c _ h => ?_, fun _ => hd, Around.frames_deeper e0.frames, .inr ⟨rfl, rfl⟩, fun b z => absurd z (noA b), e0.bs, e0.bsz, fun b _ _ => noA b, fun b z => absurd z (noA b), e0.funs, e0.frf⟩,
    rfl, e0.bare, Un.kept hk, ⟨_, x.toInCall.ns, fun i y v h1 h2 h3 => ?_⟩, fun y c h => ⟨_, x.cell y c h⟩, e0.hok.fresh (Nat.le_refl _), fun y c h => ?_, fun p hp => absurd (show p ∈ ([] : List (Addr × Obj)) from hp) (by simp), e0.hok.kept hk, ?_⟩
  · exact name_of_addr x.apart (PySem.mem_of_lookup h1) (PySem.mem_of_lookup h2)
  · have hy : scope.names.lookup y = some .cell ∨ scope.names.lookup y = some .free := hy
    rcases hy with hy | hy
    · exact cell_has hy
    · exact absurd rfl (S.nofree _ (PySem.mem_of_lookup hy))
  · exact Nat.le_of_lt (x.above y c (PySem.mem_of_lookup h))
  · have hi : i < vs.length := by
      unfold start at h2
      by_cases hi : i < vs.length
      · exact hi
      · rw [List.getElem?_append_right (by simpa using hi)] at h2
        rw [List.getElem?_replicate] at h2
        split at h2 <;> cases h2
    have ha : vs[i]? = some v := by
      unfold start at h2
      rw [List.getElem?_append_left (by simpa using hi), List.getElem?_map] at h2
      cases e : vs[i]? with
      | none => rw [e] at h2; cases h2
      | some a => rw [e] at h2; cases h2; rfl
    obtain ⟨u, hu, rv⟩ := r.get ha
    have hp : ps[i]? = some y := by
      rw [← S.pre, List.getElem?_take_of_lt (by omega)]; exact h1
    have ndP : ps.Nodup := by rw [← S.pre]; exact S.nd.sublist (List.take_sublist _ _)
    refine ⟨u, rv, ?_⟩
    rcases S.par y (List.mem_of_getElem? hp) with k | k
    · exact .inl ⟨k, bindL_get ndP hp hu k⟩
    · obtain ⟨c, e⟩ := cell_has (n := s.heap.objs.size + 1) k
      refine .inr ⟨.inl k, c, e, ?_⟩
      have q := x.cell y c e
      rw [bindC_get ndP hp hu (by show scope.names.lookup y ≠ _; rw [k]; decide)] at q
      exact q
  · exact e0.hok.fresh (Nat.le_of_lt (x.above y c (PySem.mem_of_lookup h)))
  · unfold start
    show _ = N.length
    rw [List.length_append, List.length_map, List.length_replicate]
    omega

/-- THE RULE: a def (or a method) of the text, by its body. The body's reading t is chosen for each entry; it is run at the parameters' values -/
theorem fn_of {CX : CXT} {P : Program} {w : World} {K : PySem.W.Frag} {mg : Str → Option Value} {base : Heap} {k : Nat} {f : Addr} {name qual : Str} {params : Arguments} {body : List Stmt} {scope : Scope} {dV kV doc pm cdv ct oc : Value} {an od : Option Addr}
    {osl : Array (Option Value)} {N ps : List Str} {sp : Sp} (lk : K.lookup f = some ⟨oc, od, .func (PySem.W.fnOf name qual params body scope dV kV doc pm an cdv ct), osl⟩) (hcd : PySem.W.codeIn K cdv qual = true) (S : FnScope N ps scope)
    (len : ∀ vs H Q E, sp vs H Q E → vs.length = ps.length)
    (hbody : ∀ (A : Around) (outer : List Env) (s : Shared) (H : Hp) (vs : List V) (Q : VK) (E : XK), Room k (A.deeper (envOfC qual scope s.heap.objs.size f cdv)) → sp vs H Q E →
      ∃ t, PSs (cxOf CX P w K mg base N qual scope f cdv A outer s H E) body t ∧ t { nx := fun _ H' => Q .non H', rt := Q } (start N vs) H) :
    FnOk P w K mg base CX (k + 1) f (PySem.W.fnOf name qual params body scope dV kV doc pm an cdv ct) ps sp := by
  refine ⟨len, fun A outer s H args us vs Q E hr e0 hb r hsp => ?_⟩
  have hl := len _ _ _ _ hsp
  have KX : K.In s.heap := e0.mod.kin.keeps fun b o e => (e0.bs b o e).1
  have lim : s.heap.NoLimit := e0.mod.nolimit.keeps fun b o e => (e0.bs b o e).1
  have hkind : ∀ y ∈ ps.zip us, scope.names.lookup y.1 = some .local ∨ (scope.names.lookup y.1 = some .cell ∧ ((cellsFrom (s.heap.objs.size + 1) scope.names []).lookup y.1).isSome = true) := fun ⟨n, v⟩ hy => by
    rcases S.par n (List.of_mem_zip hy).1 with q | q
    · exact .inl q
    · exact .inr ⟨q, PySem.W.cellsFrom_some _ _ _ (.inl q)⟩
  refine codeAny_call_function hr.depth (KX _ _ lk) rfl S.co S.gen rfl (PySem.W.codeRec_of KX hcd) (hb _ _ _ _ ?_)
  refine wpAny_newFunctionEnv_cells S.kind hkind fun env he s1 x => ?_
  subst he
  refine ⟨lim.keeps x.toInCall.keep, codeAny_func ?_⟩
  obtain ⟨t, ht, hq⟩ := hbody A outer s H vs Q E (hr.deeper _) hsp
  have I : Inv (cxOf CX P w K mg base N qual scope f cdv A outer s H E) [] (start N vs) H s1 := inv_start S hr.hd e0 hl r x
  refine wpAny_mono (ht [] s1 (start N vs) H _ I hq) (fun fl s' hs => ?_) fun e s' hs => hs
  have fin : ∀ {σ' : St} {H' : Hp} {v : V} {u : Value}, Inv (cxOf CX P w K mg base N qual scope f cdv A outer s H E) [] σ' H' s' → RelV v u → Q v H' → CE outer P w H s Q u s' :=
    fun {σ' H' v u} J rv q => ⟨v, H', J.os, J.bare, J.base, J.hok, rv, q⟩
  cases fl with
  | ret u =>
    obtain ⟨v, σ', H', J, rv, q⟩ := hs
    exact fin J rv q
  | next =>
    obtain ⟨σ', H', J, q⟩ := hs
    exact fin (v := V.non) (u := Value.none) J rfl q
  | brk =>
    obtain ⟨_, _, _, q⟩ := hs
    exact False.elim q
  | cont =>
    obtain ⟨_, _, _, q⟩ := hs
    exact False.elim q
end L2

namespace L2
open PySem PySem.Spec PyProof.Rows
section
variable {X : Cx} {x : Str} {p pos : Pos} {e : Expr} {es : List Expr} {t : TA} {id T : String} {r : List V → Hp → VK → Prop}

def tCB (r : List V → Hp → VK → Prop) (t : TA) : TE := fun σ H Q => t σ H fun vs H1 => r vs H1 Q
/-- f(e, ..), f a built-in function -/
theorem pe_callB (hc : CallR X (.builtin id) r) (hg : Gl X x) (hm : X.mg x = none) (hv : bootBuiltins x = some (.builtin id)) (ha : PA X (e :: es) t) (hn : x ≠ "__name__" := by decide) (hdb : (x == ("__debug__" : Str)) = false := by decide)
    (he : starEach (e :: es) X.env = (false, eval e X.env) :: starEach es X.env := by rfl) (hpl : (backTo pos (starEach es X.env)).any (·.1) = false := by rfl) : PE X (.Call (.Name x p) (e :: es) [] pos) (tCB r t) := by
  intro pins s σ H Q I h
  refine wpAny_Call_Name_kw (ld_blt I hg hm hv ?_ hn hdb)
  exact PyProof.Rows.callWith_builtin1 (thn (ha pos pins s σ H _ I h) fun us s1 ⟨vs, H1, I1, r1, q1⟩ => hc pins s1 σ H1 vs us Q I1 r1 q1) he hpl
/-- T(e, ..), T a built-in type -/
theorem pe_callTy (hc : CallR X (.type T) r) (hg : Gl X x) (hm : X.mg x = none) (hv : bootBuiltins x = some (.type T)) (ha : PA X (e :: es) t) (hn : x ≠ "__name__" := by decide) (hdb : (x == ("__debug__" : Str)) = false := by decide)
    (he : starEach (e :: es) X.env = (false, eval e X.env) :: starEach es X.env := by rfl) (hpl : (backTo pos (starEach es X.env)).any (·.1) = false := by rfl) : PE X (.Call (.Name x p) (e :: es) [] pos) (tCB r t) := by
  intro pins s σ H Q I h
  refine wpAny_Call_Name_kw (ld_blt I hg hm hv ?_ hn hdb)
  exact PyProof.Rows.callWith_type1 (thn (ha pos pins s σ H _ I h) fun us s1 ⟨vs, H1, I1, r1, q1⟩ => hc pins s1 σ H1 vs us Q I1 r1 q1) he hpl
end
end L2

namespace HT
open PySem PyProof.Rows

/-- t < u of tuples of ints -/
def lexLt : List Int → List Int → Bool
  | [], [] => false
  | [], _ :: _ => true
  | _ :: _, [] => false
  | x :: xs, y :: ys => if x = y then lexLt xs ys else decide (x < y)


section
open PySem.SeqAt
open PySem.AutoSeq1 (wpAny_loadPart')
open PySem.MeetsSeq PySem.MeetsSeq2 PySem.MeetsSeq3

end

section
variable {prog : Program} {w : World} {A : Around} {E : Value → Shared → Prop} {s : Shared}


/-- t + u, t not empty -/
theorem cat_tup {t b : Addr} {vs ws : List Value} {Q : Value → Shared → Prop} (ht : IsTup s.heap t vs.toArray) (hb : IsTup s.heap b ws.toArray) (hv : vs ≠ [])
    (h1 : ws = [] → Q (.ref t) s) (h2 : ws ≠ [] → Q (.ref s.heap.objs.size) { s with heap := s.heap.push { cls := .type "tuple", data := .seq (vs ++ ws).toArray } })
    (hsz : vs.length + ws.length ≤ sizeLine) : wpAny (model prog w) A (binaryOp .Add (.ref t) (.ref b)) Q E s := by
  obtain ⟨⟨cls, dd, data, sl⟩, ho, hc, n, hd⟩ := id ht
  obtain ⟨⟨cls2, dd2, data2, sl2⟩, ho2, hc2, n2, hd2⟩ := id hb
  simp only at hc hd hc2 hd2
  subst hc hd hc2 hd2
  have e : vs.toArray ++ ws.toArray = (vs ++ ws).toArray := by simp
  by_cases hw : ws = []
  · exact concat_meets ⟨_, ho, rfl⟩ ⟨_, ho2, rfl⟩ noFill_tuple_add seq_tuple_add PySem.F.slot_tuple_add PySem.F.entry_tuple_add (PySem.F.args_tuple_add_2 _ _)
      (tuple_addW1 t b vs.toArray ws.toArray n n2 dd dd2 sl sl2 (by simpa using hv) (by simp [hw])) ⟨ho, ho2, h1 hw⟩
  · refine concat_meets ⟨_, ho, rfl⟩ ⟨_, ho2, rfl⟩ noFill_tuple_add seq_tuple_add PySem.F.slot_tuple_add PySem.F.entry_tuple_add (PySem.F.args_tuple_add_2 _ _)
      (tuple_addW2 t b vs.toArray ws.toArray n n2 dd dd2 sl sl2 (by simpa using hv) (by simpa using hw) (by rw [List.size_toArray, List.size_toArray]; exact hsz)) ⟨ho, ho2, ?_⟩
    rw [e]
    exact h2 hw

/-! ### t[a:b], not the whole -/
/-- a slice's bound as a place among n (d where it is left out) -/
def sIx (n d : Nat) : Option Int → Nat
  | none => d
  | some v => if v < 0 then (v + (n : Int)).toNat else min v.toNat n
theorem sIx_none (n d : Nat) : sIx n d none = d := rfl
theorem sIx_nat (n d k : Nat) : sIx n d (some (k : Int)) = min k n := by
  show (if (k : Int) < 0 then ((k : Int) + (n : Int)).toNat else min (k : Int).toNat n) = min k n
  rw [if_neg (by omega), Int.toNat_natCast]
theorem sIx_le (n d : Nat) (hd : d ≤ n) (o : Option Int) : sIx n d o ≤ n := by
  cases o with
  | none => exact hd
  | some v =>
    show (if v < 0 then (v + (n : Int)).toNat else min v.toNat n) ≤ n
    by_cases hv : v < 0
    · rw [if_pos hv]; omega
    · rw [if_neg hv]; exact Nat.min_le_right _ _
theorem clip_eq (v : Int) (n d : Nat) : (if v < 0 then max (v + (n : Int)) 0 else min v (n : Int)) = ((sIx n d (some v) : Nat) : Int) := by
  show (if v < 0 then max (v + (n : Int)) 0 else min v (n : Int)) = (((if v < 0 then (v + (n : Int)).toNat else min v.toNat n) : Nat) : Int)
  by_cases hv : v < 0
  · simp only [if_pos hv]; omega
  · simp only [if_neg hv]; omega
theorem adjust_gen (lo hi : Option Int) (n : Nat) : Builtin.Slice.sliceAdjust lo hi 1 (n : Int) = (((sIx n 0 lo : Nat) : Int), ((sIx n n hi : Nat) : Int)) := by
  have h1 : ¬ ((1 : Int) < 0) := by omega
  unfold Builtin.Slice.sliceAdjust
  simp only [h1, if_false]
  refine Prod.ext ?_ ?_
  · cases lo with
    | none => rfl
    | some v => exact clip_eq v n 0
  · cases hi with
    | none => rfl
    | some v => exact clip_eq v n n
theorem places_gen (i j : Nat) : Builtin.Slice.slicePlaces (i : Int) (j : Int) 1 = j - i := by
  unfold Builtin.Slice.slicePlaces
  have h1 : (1 : Int) > 0 := by omega
  simp only [h1, if_true, Int.ediv_one]
  split <;> omega
theorem slicePart_ {v : Value} {o : Option Int} {Q : Option Int → Shared → Prop} (p : IsPart v o) (h : Q o s) : wpAny (model prog w) A (Builtin.Slice.slicePartIndex v) Q E s := by
  cases p with
  | none => exact slicePart_none h
  | int i t => exact slicePart_int h
theorem sliceApplied_gen {sl : Addr} {vl vu : Value} {lo hi : Option Int} {n : Nat} {Q : Int × Int × Nat → Shared → Prop} (hs : s.heap.IsSliceOf sl vl vu .none) (pl : IsPart vl lo) (pu : IsPart vu hi)
    (h : Q (((sIx n 0 lo : Nat) : Int), 1, sIx n n hi - sIx n 0 lo) s) : wpAny (model prog w) A (Builtin.Slice.sliceApplied (.ref sl) (pure (n : Int))) Q E s := by
  obtain ⟨os, hos, hcs, hds⟩ := id hs
  unfold Builtin.Slice.sliceApplied Builtin.Slice.sliceFields
  refine wpAny_bind (wpAny_bind (wpAny_field hos hds (x := vl) rfl (wpAny_bind (wpAny_field hos hds (x := vu) rfl (wpAny_bind (wpAny_field hos hds (x := .none) rfl (wpAny_pure ?_)))))))
  refine wpAny_bind (slicePart_none ?_)
  show wpAny _ _ (if ((1 : Int) == 0) = true then _ else _) _ _ s
  rw [if_neg (by decide)]
  refine wpAny_bind (slicePart_ pl (wpAny_bind (slicePart_ pu (wpAny_bind (wpAny_pure ?_)))))
  show wpAny _ _ (match Builtin.Slice.sliceAdjust lo hi 1 (n : Int) with | (lo, hi) => pure (lo, (1 : Int), Builtin.Slice.slicePlaces lo hi 1)) _ _ s
  rw [adjust_gen lo hi n]
  show wpAny _ _ (pure (((sIx n 0 lo : Nat) : Int), (1 : Int), Builtin.Slice.slicePlaces ((sIx n 0 lo : Nat) : Int) ((sIx n n hi : Nat) : Int) 1)) _ _ s
  rw [places_gen]
  exact wpAny_pure h
theorem pick_gen (xs : Array Value) (i k : Nat) : ((List.range k).filterMap fun (m : Nat) => xs[((i : Int) + (m : Int) * 1).toNat]?).toArray = ((xs.toList.drop i).take k).toArray := by
  have e : (fun (m : Nat) => xs[((i : Int) + (m : Int) * 1).toNat]?) = fun m => xs[i + m]? := by
    funext m
    have : ((i : Int) + (m : Int) * 1).toNat = i + m := by omega
    rw [this]
  rw [e]
  have := pick_run xs i k
  rw [List.filterMap_map] at this
  have e2 : ((fun x => xs[x]?) ∘ fun x => i + x) = fun m => xs[i + m]? := rfl
  rw [e2] at this
  rw [this]

theorem getItem_tuple_cut {t sl : Addr} {items : Array Value} {vl vu : Value} {lo hi : Option Int} {Q : Value → Shared → Prop} (ht : IsTup s.heap t items) (hs : s.heap.IsSliceOf sl vl vu .none) (pl : IsPart vl lo) (pu : IsPart vu hi)
    (hw : ¬ (sIx items.size 0 lo = 0 ∧ sIx items.size items.size hi = items.size))
    (h : Q (.ref s.heap.objs.size) { s with heap := s.heap.push { cls := .type "tuple", data := .seq ((items.toList.drop (sIx items.size 0 lo)).take (sIx items.size items.size hi - sIx items.size 0 lo)).toArray } })
    (hsz : items.size ≤ sizeLine) : wpAny (model prog w) A (getItem (.ref t) (.ref sl)) Q E s := by
  have htake : sizeOk (.seq ((items.toList.drop (sIx items.size 0 lo)).take (sIx items.size items.size hi - sIx items.size 0 lo)).toArray) := by
    show ((items.toList.drop (sIx items.size 0 lo)).take (sIx items.size items.size hi - sIx items.size 0 lo)).toArray.size ≤ sizeLine
    rw [List.size_toArray, List.length_take, List.length_drop, Array.length_toList]
    omega
  have hj : sIx items.size items.size hi ≤ items.size := sIx_le _ _ (Nat.le_refl _) hi
  obtain ⟨os, hos, hcs, hds⟩ := id hs
  have hTs : s.TypeIs (.ref sl) "slice" := ⟨os, hos, hcs⟩
  unfold getItem
  try with_reducible refine wpAny_holding ?_
  first | refine wpAny_bind (wpAny_pure ?_) | skip
  refine wpAny_bind (wpAny_sequenceKey ht.typeIs (by decide) ?_)
  refine wpAny_bind (wpAny_callSpecial?_slot (name := Str.ofString "__getitem__") ht.typeIs PyProof.Rows.slot_tuple_getitem
    (wpAny_call_entry PyProof.Rows.slot_tuple_getitem ht.typeIs entry_tuple_getitem ?_ (args_tuple_getitem _ _)))
  show wpAny _ _ (Builtin.Tuple.tupleItemsOf (.ref t) >>= _) _ _ s
  refine wpAny_bind (tupleItemsOf_ ht ?_)
  refine wpAny_bind (wpAny_typeOf hTs ?_)
  rw [if_pos (by decide)]
  refine wpAny_bind (sliceApplied_gen hs pl pu ?_)
  have hno : ¬ ((((sIx items.size 0 lo : Nat) : Int) == 0 && (1 : Int) == 1 && (sIx items.size items.size hi - sIx items.size 0 lo) == items.size) = true) := by
    intro q
    rw [Bool.and_eq_true, Bool.and_eq_true] at q
    have q1 : ((sIx items.size 0 lo : Nat) : Int) = 0 := eq_of_beq q.1.1
    have q2 : sIx items.size items.size hi - sIx items.size 0 lo = items.size := eq_of_beq q.2
    exact hw ⟨by omega, by omega⟩
  show wpAny _ _ (if (((sIx items.size 0 lo : Nat) : Int) == 0 && (1 : Int) == 1 && (sIx items.size items.size hi - sIx items.size 0 lo) == items.size) = true then _ else _) _ _ s
  rw [if_neg hno, pick_gen]
  first
    | exact wpAny_bind (m := Builtin.Tuple.tupleExact _) (wpAny_newObj_type (wpAny_pure ⟨_, rfl, wpAny_pure h⟩) htake)
    | exact wpAny_bind (m := Builtin.Tuple.tupleExact _) (wpAny_newObj_type (wpAny_bind (wpAny_pure (wpAny_pure ⟨_, rfl, wpAny_pure h⟩))) htake)
    | exact wpAny_bind (wpAny_bind (m := Builtin.Tuple.tupleExact _) (wpAny_newObj_type (wpAny_pure (wpAny_pure ⟨_, rfl, wpAny_pure h⟩)) htake))
    | exact wpAny_bind (wpAny_bind (m := Builtin.Tuple.tupleExact _) (wpAny_newObj_type (wpAny_pure ⟨_, rfl, wpAny_pure h⟩) htake))
end
end HT

namespace L2
open PySem PySem.Spec PyProof.Rows

/-! ### the parts of a slice -/
abbrev TO := St → Hp → (Option Int → Hp → Prop) → Prop
/-- a slice's part (left out, or an int) -/
def PO (X : Cx) (e : Option Expr) (t : TO) : Prop :=
  ∀ (pins : List (Addr × Obj)) (s : Shared) (σ : St) (H : Hp) (Q : Option Int → Hp → Prop), Inv X pins σ H s → t σ H Q →
    wpAny (model X.prog X.w) X.A (evalPart e X.env) (fun u s' => ∃ o H', Inv X pins σ H' s' ∧ IsPart u o ∧ Q o H') X.xe s
def tNoPart : TO := fun _ H Q => Q none H
def tPart (t : TE) : TO := fun σ H Q => t σ H fun x H1 => ∃ i, x = .int i ∧ Q (some i) H1


section
variable {X : Cx} {e : Expr} {te : TE} {lo hi : Option Expr} {tl th : TO} {pos p2 : Pos}

theorem po_none : PO X none tNoPart := by
  intro pins s σ H Q I h
  rw [evalPart_none]
  exact wpAny_pure ⟨none, H, I, .none, h⟩
theorem po_some (h : PE X e te) : PO X (some e) (tPart te) := by
  intro pins s σ H Q I hw
  rw [evalPart_some]
  refine thn (h pins s σ H _ I hw) fun u s1 ⟨x, H1, I1, r1, q1⟩ => ?_
  obtain ⟨i, rfl, q⟩ := q1
  obtain ⟨t, rfl⟩ := r1
  exact ⟨some i, H1, I1, .int i t, q⟩

/-- what a slice of a value is, by values: the slice object stands at sl -/
def SlR (X : Cx) (r : V → Option Int → Option Int → Hp → VK → Prop) : Prop :=
  ∀ (pins : List (Addr × Obj)) (s : Shared) (σ : St) (H : Hp) (x : V) (v vl vu : Value) (lo hi : Option Int) (sl : Addr) (Q : VK), Inv X pins σ H s → RelV x v → s.heap.IsSliceOf sl vl vu .none → IsPart vl lo → IsPart vu hi → r x lo hi H Q →
    ∃ T id, typeLookup (.type T) "__getitem__" = pure (some (.builtin id)) ∧ s.TypeIs v T ∧ wpAny (model X.prog X.w) X.A (getItem v (.ref sl)) (EP X pins σ Q) X.xe s
theorem SlR.or {r r' : V → Option Int → Option Int → Hp → VK → Prop} (h : SlR X r) (h' : SlR X r') : SlR X (fun x lo hi H Q => r x lo hi H Q ∨ r' x lo hi H Q) := by
  intro pins s σ H x v vl vu lo hi sl Q I rx hs pl pu q
  rcases q with q | q
  · exact h pins s σ H x v vl vu lo hi sl Q I rx hs pl pu q
  · exact h' pins s σ H x v vl vu lo hi sl Q I rx hs pl pu q
def tSl (r : V → Option Int → Option Int → Hp → VK → Prop) (te : TE) (tl th : TO) : TE := fun σ H Q => te σ H fun x H1 => tl σ H1 fun l H2 => th σ H2 fun u H3 => r x l u H3 Q
/-- a[lo:hi], any a -/
theorem pe_slice {r : V → Option Int → Option Int → Hp → VK → Prop} (hr : SlR X r) (he : PE X e te) (hl : PO X lo tl) (hu : PO X hi th) : PE X (.Subscript e (.Slice lo hi none p2) pos) (tSl r te tl th) := by
  intro pins s σ H Q I h
  refine Subscript_ (thn (he pins s σ H _ I h) fun v s1 ⟨x, H1, I1, r1, q1⟩ => ?_)
  refine wpAny_Slice (thn (hl pins s1 σ H1 _ I1 q1) fun vl s2 ⟨l, H2, I2, pl, q2⟩ => thn (hu pins s2 σ H2 _ I2 q2) fun vu s3 ⟨u, H3, I3, pu, q3⟩ => ?_)
  rw [evalPart_none]
  refine wpAny_pure ?_
  have I4 : Inv X pins σ H3 { s3 with heap := s3.heap.push { cls := .type "slice", data := .fields #[vl, vu, .none] } } := I3.kept (t' := s3.toks) fun b ob q => Heap.get?_push_of_some _ q
  obtain ⟨T, id, hT, ht, hg⟩ := hr pins { s3 with heap := s3.heap.push { cls := .type "slice", data := .fields #[vl, vu, .none] } } σ H3 x v vl vu l u s3.heap.objs.size Q I4 r1 (Heap.IsSliceOf.new ..) pl pu q3
  show wpAny (model X.prog X.w) X.A (subscriptTail e (.Slice lo hi none p2) v (.ref s3.heap.objs.size)) (EP X pins σ Q) X.xe { s3 with heap := s3.heap.push { cls := .type "slice", data := .fields #[vl, vu, .none] } }
  exact tail_any (ops := [.ref s3.heap.objs.size, v]) ht hT hg (by with_unfolding_all rfl)

/-- the items of xs[lo:hi] -/
def cutV (xs : List V) (lo hi : Option Int) : List V := (xs.drop (HT.sIx xs.length 0 lo)).take (HT.sIx xs.length xs.length hi - HT.sIx xs.length 0 lo)
theorem cutV_length (xs : List V) (lo hi : Option Int) : (cutV xs lo hi).length ≤ xs.length := by
  unfold cutV
  rw [List.length_take, List.length_drop]
  omega
/-- t[lo:hi], not the whole of it (the whole would be t itself) -/
def rSlT (K : PySem.W.Frag) : V → Option Int → Option Int → Hp → VK → Prop := fun x lo hi H Q => ∃ a xs, x = .ref a ∧ SqT K H a xs ∧
  ¬ (HT.sIx xs.length 0 lo = 0 ∧ HT.sIx xs.length xs.length hi = xs.length) ∧ ∀ p, H p = none → Q (.ref p) (upd H p (.tup (cutV xs lo hi)))
theorem sl_tup : SlR X (rSlT X.K) := by
  intro pins s σ H x v vl vu lo hi sl Q I rx hs pl pu h
  obtain ⟨a, xs, rfl, hx, hw, q⟩ := h
  cases rx
  obtain ⟨its, r, ht, hz⟩ := I.tuple hx
  have hlen : its.toArray.size = xs.length := by rw [List.size_toArray]; exact r.length.symm
  refine ⟨"tuple", _, PyProof.Rows.slot_tuple_getitem.lookup, ht.typeIs, ?_⟩
  refine HT.getItem_tuple_cut ht hs pl pu (by rw [hlen]; exact hw) ?_ (by rw [hlen]; exact hz)
  rw [hlen]
  refine ⟨.ref s.heap.objs.size, _, I.laid (t' := s.toks) (o := .tup (cutV xs lo hi)) (fun b ob q => Heap.get?_push_of_some _ q) (Nat.le_refl _) ?_, rfl, q _ (I.hok.fresh (Nat.le_refl _))⟩
  exact ⟨Nat.le_trans (cutV_length xs lo hi) hz, _, (r.drop (HT.sIx xs.length 0 lo)).take (HT.sIx xs.length xs.length hi - HT.sIx xs.length 0 lo), IsTup.new _ _⟩

/-! ### t < u, t + u -/
def rLtT (K : PySem.W.Frag) : R2 := fun x y H Q => ∃ a b ns ms, x = .ref a ∧ y = .ref b ∧ SqT K H a (ns.map V.int) ∧ SqT K H b (ms.map V.int) ∧ Q (.bl (HT.lexLt ns ms)) H
/-- t + u, t not empty: u empty gives t itself -/
def rCatT (K : PySem.W.Frag) : R2 := fun x y H Q => ∃ a b xs ys, x = .ref a ∧ y = .ref b ∧ SqT K H a xs ∧ SqT K H b ys ∧ xs ≠ [] ∧ xs.length + ys.length ≤ sizeLine ∧
  (ys = [] → Q (.ref a) H) ∧ (ys ≠ [] → ∀ p, H p = none → Q (.ref p) (upd H p (.tup (xs ++ ys))))
theorem Vals.nil_iff {xs : List V} {us : List Value} (r : Vals xs us) : us = [] ↔ xs = [] := by
  cases r with
  | nil => simp
  | cons _ _ => simp
theorem op_catT : OpR X (binaryOp .Add) (rCatT X.K) := by
  intro pins s σ H x y v u Q I rx ry h
  obtain ⟨a, b, xs, ys, rfl, rfl, ha, hb, hx, hz, q1, q2⟩ := h
  cases rx
  cases ry
  obtain ⟨its, r1, p1, _⟩ := I.tuple ha
  obtain ⟨its2, r2, p2, _⟩ := I.tuple hb
  refine HT.cat_tup p1 p2 (fun z => hx (r1.nil_iff.mp z)) (fun z => ⟨.ref a, H, I, rfl, q1 (r2.nil_iff.mp z)⟩) (fun z => ?_) (by rw [← r1.length, ← r2.length]; exact hz)
  refine ⟨.ref s.heap.objs.size, _, I.laid (t' := s.toks) (o := .tup (xs ++ ys)) (fun b ob q => Heap.get?_push_of_some _ q) (Nat.le_refl _) ?_, rfl, q2 (fun w => z (r2.nil_iff.mpr w)) _ (I.hok.fresh (Nat.le_refl _))⟩
  exact ⟨by rw [List.length_append]; exact hz, _, r1.append r2, IsTup.new _ _⟩
end
end L2

namespace L2
open PySem PySem.Spec PyProof.Rows

/-! ### places -/
/-- the place that an index of any sign means -/
def ixN (n : Nat) (i : Int) : Option Nat := if 0 ≤ i then (if i < n then some i.toNat else none) else if -(n : Int) ≤ i then some (i + n).toNat else none
def atI {α : Type} (xs : List α) (i : Int) : Option α := (ixN xs.length i).bind fun j => xs[j]?
theorem ixN_seq {n : Nat} {i : Int} {j : Nat} (h : ixN n i = some j) : seqIndex? i n = some j ∧ j < n ∧ -(n : Int) ≤ i ∧ i < n := by
  unfold ixN at h
  by_cases h0 : 0 ≤ i
  · rw [if_pos h0] at h
    by_cases h1 : i < n
    · rw [if_pos h1] at h
      have e : i.toNat = j := Option.some.inj h
      exact ⟨by rw [seqIndex_of h0 h1, e], by omega, by omega, h1⟩
    · rw [if_neg h1] at h; cases h
  · rw [if_neg h0] at h
    by_cases h1 : -(n : Int) ≤ i
    · rw [if_pos h1] at h
      have e : (i + n).toNat = j := Option.some.inj h
      exact ⟨by rw [seqIndex_neg (by omega) h1, e], by omega, h1, by omega⟩
    · rw [if_neg h1] at h; cases h
theorem atI_get {α : Type} {xs : List α} {i : Int} {v : α} (h : atI xs i = some v) : ∃ j, seqIndex? i xs.length = some j ∧ xs[j]? = some v ∧ j < xs.length ∧ -(xs.length : Int) ≤ i ∧ i < xs.length := by
  unfold atI at h
  cases e : ixN xs.length i with
  | none => rw [e] at h; cases h
  | some j =>
    rw [e] at h
    obtain ⟨h1, h2, h3, h4⟩ := ixN_seq e
    exact ⟨j, h1, h, h2, h3, h4⟩
theorem atI_nat {α : Type} {xs : List α} {j : Nat} {v : α} (h : xs[j]? = some v) : atI xs (j : Int) = some v := by
  have hj : j < xs.length := (List.getElem?_eq_some_iff.mp h).1
  have e : ixN xs.length (j : Int) = some j := by
    unfold ixN
    rw [if_pos (by omega), if_pos (by omega)]; simp
  unfold atI; rw [e]; exact h
theorem atI_last {α : Type} (xs : List α) (v : α) : atI (xs ++ [v]) (-1) = some v := by
  have hl : (xs ++ [v]).length = xs.length + 1 := by simp
  have e : ixN (xs ++ [v]).length (-1) = some xs.length := by
    unfold ixN
    rw [hl, if_neg (by decide), if_pos (by omega)]
    congr 1
    omega
  unfold atI
  rw [e]
  show (xs ++ [v])[xs.length]? = some v
  simp

/-! ### what may be subscripted -/
/-- what stands as an index of a plain subscript -/
def PlainIx (b : Expr) : Prop := ∀ o i, subscripted b false o i = operate [o, i] (getItem o i)
/-- a subscript by values -/
def IxR (X : Cx) (r : R2) : Prop :=
  ∀ (value slice : Expr) (pins : List (Addr × Obj)) (s : Shared) (σ : St) (H : Hp) (x y : V) (v u : Value) (Q : VK), Inv X pins σ H s → RelV x v → RelV y u → r x y H Q →
    subscripted slice false v u = operate [v, u] (getItem v u) → wpAny (model X.prog X.w) X.A (subscriptTail value slice v u) (EP X pins σ Q) X.xe s
/-- a call of a builtin's method by values: the receiver, the arguments -/
def MtR (X : Cx) (id : String) (r : V → List V → Hp → VK → Prop) : Prop :=
  ∀ (pins : List (Addr × Obj)) (s : Shared) (σ : St) (H : Hp) (x : V) (xs : List V) (v : Value) (us : List Value) (Q : VK), Inv X pins σ H s → RelV x v → Vals xs us → r x xs H Q →
    wpAny (model X.prog X.w) X.A (call (.builtin id) (v :: us)) (EP X pins σ Q) X.xe s
section
variable {X : Cx} {a b : Expr} {ta tb : TE} {pos : Pos}
/-- a[b] -/
theorem pe_ix {r : R2} (hr : IxR X r) (ha : PE X a ta) (hb : PE X b tb) (hs : PlainIx b) : PE X (.Subscript a b pos) (tOp r ta tb) := by
  intro pins s σ H Q I h
  exact Subscript_ (binT ha hb I h fun v u s2 x y H2 I2 rx ry q => hr a b pins s2 σ H2 x y v u Q I2 rx ry q (hs _ _))

def rIxL (K : PySem.W.Frag) : R2 := fun x y H Q => ∃ p xs i v, x = .ref p ∧ y = .int i ∧ SqL K H p xs ∧ atI xs i = some v ∧ Q v H
def rIxT (K : PySem.W.Frag) : R2 := fun x y H Q => ∃ p xs i v, x = .ref p ∧ y = .int i ∧ SqT K H p xs ∧ atI xs i = some v ∧ Q v H
def rIxS : R2 := fun x y H Q => ∃ z i c, x = .str z ∧ y = .int i ∧ z.length ≤ sizeLine ∧ atI z.cps.toList i = some c ∧ Q (.str ⟨#[c]⟩) H
theorem ix_list : IxR X (rIxL X.K) := by
  intro value slice pins s σ H x y v u Q I rx ry h hs
  obtain ⟨p, xs, i, z, rfl, rfl, hq, he, q⟩ := h
  cases rx
  obtain ⟨t, rfl⟩ := ry
  obtain ⟨its, r, pl, hz⟩ := I.list hq
  obtain ⟨j, h1, h2, h3, h4, h5⟩ := atI_get he
  obtain ⟨w, ew, rw'⟩ := r.get h2
  have hl := r.length
  have hn := line63
  have fin : EP X pins σ Q w s := ⟨z, H, I, rw', q⟩
  by_cases h0 : 0 ≤ i
  · have hj : i.toNat = j := by
      rw [seqIndex_of h0 h5] at h1
      exact Option.some.inj h1
    exact item_listR pl.isList h0 (by omega) (by rw [hj]; simpa using ew) fin hs
  · have hj : (i + (its.toArray.size : Int)).toNat = j := by
      rw [seqIndex_neg (by omega) h4] at h1
      rw [List.size_toArray, ← hl]
      exact Option.some.inj h1
    exact subscriptTail_builtinR (x := w) pl.isList.typeIs slot_list_getitem.lookup
      (wpAny_getItem_list_neg (Q := fun r s' => r = w ∧ EP X pins σ Q r s') pl.isList (by omega) (by rw [List.size_toArray] <;> omega) (by omega) (by rw [hj]; simpa using ew) ⟨rfl, fin⟩) hs
theorem ix_tup : IxR X (rIxT X.K) := by
  intro value slice pins s σ H x y v u Q I rx ry h hs
  obtain ⟨p, xs, i, z, rfl, rfl, hq, he, q⟩ := h
  cases rx
  obtain ⟨t, rfl⟩ := ry
  obtain ⟨its, r, pl, hz⟩ := I.tuple hq
  obtain ⟨j, h1, h2, h3, h4, h5⟩ := atI_get he
  obtain ⟨w, ew, rw'⟩ := r.get h2
  have hl := r.length
  have hn := line63
  have fin : EP X pins σ Q w s := ⟨z, H, I, rw', q⟩
  exact subscriptTail_builtinR (x := w) pl.typeIs slot_tuple_getitem.lookup
    (getItem_tuple (j := j) (Q := fun r s' => r = w ∧ EP X pins σ Q r s') pl (by omega) (by omega) (by rw [List.size_toArray, ← hl]; exact h1) (by simpa using ew) ⟨rfl, fin⟩) hs
/-- list, tuple or str -/
def rIx (K : PySem.W.Frag) : R2 := fun x y H Q => rIxL K x y H Q ∨ rIxT K x y H Q ∨ rIxS x y H Q

/-! ### xs[i] = v, any sign -/
/-- the list's object behind a store -/
theorem mapSeq_set (its : List Value) (n j : Nat) (u : Value) : Obj.mapSeq (·.setIfInBounds j u) { cls := .type "list", data := .seq its.toArray n } = { cls := .type "list", data := .seq (its.set j u).toArray n } := by
  simp [Obj.mapSeq]
theorem Inv.lst {pins : List (Addr × Obj)} {σ : St} {H : Hp} {s : Shared} {p : Addr} {xs : List V} (I : Inv X pins σ H s) (h : H p = some (.lst xs)) :
    ∃ (its : List Value) (n : Nat), Vals xs its ∧ s.heap.get? p = some { cls := .type "list", data := .seq its.toArray n } ∧ xs.length ≤ sizeLine := by
  obtain ⟨z, its, n, r, e⟩ := I.hok p _ h
  exact ⟨its, n, r, e, z⟩
/-- the list at p is written by an update of its object -/
theorem Inv.lstUpd {pins : List (Addr × Obj)} {σ : St} {H : Hp} {s : Shared} {p : Addr} {xs ys : List V} {its its' : List Value} {n n' : Nat} {f : Obj → Obj} (I : Inv X pins σ H s) (h : H p = some (.lst xs))
    (ho : s.heap.get? p = some { cls := .type "list", data := .seq its.toArray n }) (hf : f { cls := .type "list", data := .seq its.toArray n } = { cls := .type "list", data := .seq its'.toArray n' }) (r : Vals ys its') (hz : ys.length ≤ sizeLine) (t : Nat) :
    Inv X pins σ (upd H p (.lst ys)) { s with heap := s.heap.update p f, toks := t } := by
  have e : (s.heap.update p f).get? p = some { cls := .type "list", data := .seq its'.toArray n' } := by
    rw [Heap.get?_update_self f ho (by rw [hf] <;> rfl), hf]
  refine I.write (x := p) (e := p) (by rw [h]; trivial) (.inl rfl) (fun b u hb q => (Heap.get?_update_other _ _ (Ne.symm hb)).trans q) ⟨_, e⟩ ?_
  exact ⟨hz, its', n', r, e⟩
def rSetL : V → V → V → Hp → (Hp → Prop) → Prop := fun o i v H Q => ∃ p xs k j, o = .ref p ∧ i = .int k ∧ H p = some (.lst xs) ∧ ixN xs.length k = some j ∧ Q (upd H p (.lst (xs.set j v)))
theorem set_list : PSet X rSetL := by
  intro pins s σ H o i v ov iv u Q I ro ri rv h
  obtain ⟨p, xs, k, j, rfl, rfl, hp, hj, q⟩ := h
  cases ro
  obtain ⟨t, rfl⟩ := ri
  obtain ⟨its, n, r, ho, hz⟩ := I.lst hp
  obtain ⟨h1, h2, h3, h4⟩ := ixN_seq hj
  have hl := r.length
  have hn := line63
  have I' : Inv X pins σ (upd H p (.lst (xs.set j v))) { s with heap := s.heap.update p (Obj.mapSeq (·.setIfInBounds j u)) } :=
    I.lstUpd hp ho (mapSeq_set its n j u) (r.set rv j) (by rw [List.length_set]; exact hz) s.toks
  by_cases h0 : 0 ≤ k
  · have hk : k.toNat = j := by
      rw [seqIndex_of h0 h4] at h1
      exact Option.some.inj h1
    exact PySem.W.ki_setAt ho h0 (by omega) (by rw [List.size_toArray, ← hl]; exact h4) (by rw [hk]; exact ⟨_, I', q⟩)
  · have hk : (k + (its.toArray.size : Int)).toNat = j := by
      rw [seqIndex_neg (by omega) h3] at h1
      rw [List.size_toArray, ← hl]
      exact Option.some.inj h1
    exact PySem.W.ki_setBack ho (by omega) (by rw [List.size_toArray, ← hl]; exact h3) (by omega) (by rw [hk]; exact ⟨_, I', q⟩)

/-! ### slices -/
theorem slice_bounds (lo hi : Option Int) (n : Nat) : (sliceBounds lo hi none n).1 = ((HT.sIx n 0 lo : Nat) : Int) ∧ (sliceBounds lo hi none n).2.1 = ((HT.sIx n n hi : Nat) : Int) ∧ (sliceBounds lo hi none n).2.2 = 1 := by
  refine ⟨?_, ?_, rfl⟩
  · cases lo with
    | none => simp [sliceBounds, HT.sIx]
    | some i =>
      simp only [sliceBounds, HT.sIx, Option.getD_none, show (1 : Int) > 0 by decide, if_true]
      by_cases h : i < 0
      · simp only [h, if_true] <;> omega
      · simp only [h, if_false] <;> omega
  · cases hi with
    | none => simp [sliceBounds, HT.sIx]
    | some i =>
      simp only [sliceBounds, HT.sIx, Option.getD_none, show (1 : Int) > 0 by decide, if_true]
      by_cases h : i < 0
      · simp only [h, if_true] <;> omega
      · simp only [h, if_false] <;> omega
theorem slicePick_cut (its : List Value) (lo hi : Option Int) : slicePick its.toArray lo hi none = ((its.drop (HT.sIx its.length 0 lo)).take (HT.sIx its.length its.length hi - HT.sIx its.length 0 lo)).toArray := by
  obtain ⟨h1, h2, h3⟩ := slice_bounds lo hi its.toArray.size
  unfold slicePick
  rw [h1, h2, h3]
  simp only [sliceRange_one, pick_run, List.size_toArray] <;> rfl
/-- xs[lo:hi] of a list: a new list -/
def rSlL (K : PySem.W.Frag) : V → Option Int → Option Int → Hp → VK → Prop := fun x lo hi H Q => ∃ a xs, x = .ref a ∧ SqL K H a xs ∧ ∀ p, H p = none → Q (.ref p) (upd H p (.lst (cutV xs lo hi)))
theorem sl_list : SlR X (rSlL X.K) := by
  intro pins s σ H x v vl vu lo hi sl Q I rx hs pl pu h
  obtain ⟨a, xs, rfl, hx, q⟩ := h
  cases rx
  obtain ⟨its, r, ht, hz⟩ := I.list hx
  have hlen := r.length
  refine ⟨"list", _, slot_list_getitem.lookup, ht.isList.typeIs, ?_⟩
  refine wpAny_getItem_list_slice ht.isList hs pl pu .none (by simp) ?_ (by rw [List.size_toArray] <;> omega)
  rw [slicePick_cut, ← hlen]
  refine ⟨.ref s.heap.objs.size, _, I.laid (t' := s.toks) (o := .lst (cutV xs lo hi)) (fun b ob q => Heap.get?_push_of_some _ q) (Nat.le_refl _) ?_, rfl, q _ (I.hok.fresh (Nat.le_refl _))⟩
  exact ⟨Nat.le_trans (cutV_length xs lo hi) hz, _, 0, (r.drop (HT.sIx xs.length 0 lo)).take (HT.sIx xs.length xs.length hi - HT.sIx xs.length 0 lo), Heap.get?_push_size _ rfl⟩

/-! ### in, not in: flat items -/
def flatV : V → Bool
  | .non => true
  | .bl _ => true
  | .int _ => true
  | .str _ => true
  | _ => false
/-- == of flat values -/
def eqV : V → V → Bool
  | .non, .non => true
  | .bl a, .bl b => a == b
  | .bl a, .int b => (if a then 1 else 0) == b
  | .int a, .bl b => a == (if b then 1 else 0)
  | .int a, .int b => a == b
  | .str a, .str b => a == b
  | _, _ => false
/-- the items' answers, read off the values (a value's own answer does not lean on its token) -/
def eqU (x : V) (u : Value) : Bool := match u with
  | .none => eqV .non x
  | .bool b => eqV (.bl b) x
  | .int i _ => eqV (.int i) x
  | .str z _ => eqV (.str z) x
  | _ => false
def inV (x : V) (xs : List V) : Bool := xs.any fun y => eqV y x
/-- x in a list or tuple of flat items -/
def rIn (K : PySem.W.Frag) (neg : Bool) : R2 := fun x y H Q => ∃ p xs, y = .ref p ∧ (SqL K H p xs ∨ SqT K H p xs) ∧ flatV x = true ∧ xs.all flatV = true ∧ Q (.bl (if neg then !inV x xs else inV x xs)) H

/-! ### len, list(x), tuple(x) of any list or tuple that is read -/
theorem call_len_seq : CallR X (.builtin "len") (fun xs H Q => ∃ p ys, xs = [.ref p] ∧ (SqL X.K H p ys ∨ SqT X.K H p ys) ∧ Q (.int ys.length) H) := by
  intro pins s σ H xs us Q I r h
  obtain ⟨p, ys, rfl, hq, q⟩ := h
  obtain ⟨u, rfl, rx⟩ := vals1 r
  cases rx
  have hn := line63
  rcases hq with hq | hq
  · obtain ⟨its, r', pl, hz⟩ := I.list hq
    have hlen := r'.length
    exact Calls.call_len_list pl.isList (by simp only [List.size_toArray] <;> omega) ⟨.int ys.length, H, I.tok _, ⟨s.toks + 1, by rw [List.size_toArray, hlen]⟩, q⟩
  · obtain ⟨its, r', pl, hz⟩ := I.tuple hq
    have hlen := r'.length
    exact len_tuple pl (by simp only [List.size_toArray] <;> omega) ⟨.int ys.length, H, I.tok _, ⟨s.toks + 1, by rw [List.size_toArray, hlen]⟩, q⟩
theorem call_list_of : CallR X (.type "list") (fun xs H Q => ∃ p ys, xs = [.ref p] ∧ (SqL X.K H p ys ∨ SqT X.K H p ys) ∧ ∀ l, H l = none → Q (.ref l) (upd H l (.lst ys))) := by
  intro pins s σ H xs us Q I r h
  obtain ⟨p, ys, rfl, hq, q⟩ := h
  obtain ⟨u, rfl, rx⟩ := vals1 r
  cases rx
  have fin : ∀ (its : List Value), Vals ys its → ys.length ≤ sizeLine → ∀ (h' : Heap) (c' : Nat), (∀ b o', s.heap.get? b = some o' → h'.get? b = some o') →
      h'.get? s.heap.objs.size = some { cls := .type "list", dict := none, data := .seq its.toArray c', slots := #[] } → EP X pins σ Q (.ref s.heap.objs.size) { s with heap := h' } := fun its r' hz h' c' kp e =>
    ⟨.ref s.heap.objs.size, _, I.laid (t' := s.toks) kp (Nat.le_refl _) (show ObjOk X.prog X.w _ h' _ (.lst ys) from ⟨hz, its, c', r', e⟩), rfl, q _ (I.hok.fresh (Nat.le_refl _))⟩
  rcases hq with hq | hq
  · obtain ⟨its, r', pl, hz⟩ := I.list hq
    have hlen := r'.length
    obtain ⟨o, ho, hc, n, hd⟩ := pl.isList
    exact call_list_seq p (.inl rfl) ho hc hd (fun h' c' kp e => fin its r' hz h' c' kp e) (by simp only [List.size_toArray] <;> omega)
  · obtain ⟨its, r', pl, hz⟩ := I.tuple hq
    have hlen := r'.length
    obtain ⟨o, ho, hc, n, hd⟩ := pl
    exact call_list_seq p (.inr rfl) ho hc hd (fun h' c' kp e => fin its r' hz h' c' kp e) (by simp only [List.size_toArray] <;> omega)
theorem call_tuple_of : CallR X (.type "tuple") (fun xs H Q => ∃ p ys, xs = [.ref p] ∧ ((SqL X.K H p ys ∧ ∀ l, H l = none → Q (.ref l) (upd H l (.tup ys))) ∨ (SqT X.K H p ys ∧ Q (.ref p) H))) := by
  intro pins s σ H xs us Q I r h
  obtain ⟨p, ys, rfl, h⟩ := h
  obtain ⟨u, rfl, rx⟩ := vals1 r
  cases rx
  rcases h with ⟨hq, q⟩ | ⟨hq, q⟩
  · obtain ⟨its, r', pl, hz⟩ := I.list hq
    have hlen := r'.length
    refine call_tuple_list pl.isList (fun h' kp => ?_) (by simp only [List.size_toArray] <;> omega)
    have I1 : Inv X pins σ H { s with heap := h' } := I.kept (t' := s.toks) kp
    have I2 : Inv X pins σ (upd H h'.objs.size (.tup ys)) { s with heap := h'.push { cls := .type "tuple", data := .seq its.toArray } } :=
      I1.laid (t' := s.toks) (fun b o e => Heap.get?_push_of_some _ e) (Nat.le_refl _) (show ObjOk X.prog X.w _ _ _ (.tup ys) from ⟨hz, its, r', IsTup.new _ _⟩)
    exact ⟨.ref h'.objs.size, _, I2, rfl, q _ (I1.hok.fresh (Nat.le_refl _))⟩
  · obtain ⟨its, r', pl, hz⟩ := I.tuple hq
    exact call_tuple_same pl ⟨.ref p, H, I, rfl, q⟩

/-! ### the call of a builtin's method: o.m(..) -/
/-- the value is of that builtin type -/
def tyV (K : PySem.W.Frag) (T : String) (x : V) (H : Hp) : Prop := match x with
  | .str _ => T = "str"
  | .int _ => T = "int"
  | .ref p => (T = "list" ∧ ∃ xs, SqL K H p xs) ∨ (T = "tuple" ∧ ∃ o, K.lookup p = some o ∧ o.cls = .type "tuple" ∧ o.dict = none) ∨
      (T = "dict" ∧ ((∃ kvs, H p = some (.dK kvs)) ∨ ∃ kvs, H p = some (.dT kvs))) ∨ (T = "set" ∧ ∃ S n, H p = some (.set S n))
  | _ => False
theorem tyV_is {pins : List (Addr × Obj)} {σ : St} {H : Hp} {s : Shared} {T : String} {x : V} {v : Value} (I : Inv X pins σ H s) (r : RelV x v) (ty : tyV X.K T x H) :
    s.TypeIs v T ∧ ∀ a, v = .ref a → ∃ ob, s.heap.get? a = some ob ∧ ob.dict = none := by
  cases x with
  | str z =>
    obtain ⟨t, rfl⟩ := r
    cases (show T = "str" from ty)
    exact ⟨typeIs_str s z t, fun _ e => nomatch e⟩
  | int i =>
    obtain ⟨t, rfl⟩ := r
    cases (show T = "int" from ty)
    exact ⟨typeIs_int s i t, fun _ e => nomatch e⟩
  | ref p =>
    cases r
    rcases ty with ⟨rfl, xs, hq⟩ | ⟨rfl, o, hk, hc, hd⟩ | ⟨rfl, hk⟩ | ⟨rfl, S, n, hk⟩
    · obtain ⟨its, _, pl, _⟩ := I.list hq
      refine ⟨pl.isList.typeIs, fun a e => ?_⟩
      cases e
      obtain ⟨o, n, e, c, hd, _⟩ := pl
      exact ⟨o, e, hd⟩
    · refine ⟨⟨o, I.kIn p o hk, hc⟩, fun a e => ?_⟩
      cases e
      exact ⟨o, I.kIn _ o hk, hd⟩
    · have z : ∃ o, s.heap.get? p = some o ∧ o.ExactDict := by
        rcases hk with ⟨kvs, hk⟩ | ⟨kvs, hk⟩
        · obtain ⟨_, _, _, _, o, _, _, e, ex, _⟩ := I.hok p _ hk
          exact ⟨o, e, ex⟩
        · obtain ⟨_, _, _, _, o, _, _, e, ex, _⟩ := I.hok p _ hk
          exact ⟨o, e, ex⟩
      obtain ⟨o, e, ex⟩ := z
      refine ⟨⟨o, e, ex.1⟩, fun a e2 => ?_⟩
      cases e2
      exact ⟨o, e, ex.2.1⟩
    · obtain ⟨o, _, _, _, e, ex, _⟩ := I.hok p _ hk
      refine ⟨⟨o, e, ex.1⟩, fun a e2 => ?_⟩
      cases e2
      exact ⟨o, e, ex.2.1⟩
  | _ => exact False.elim ty
def tBM0 (K : PySem.W.Frag) (T : String) (r : V → List V → Hp → VK → Prop) (to : TE) : TE := fun σ H Q => to σ H fun x H1 => tyV K T x H1 ∧ r x [] H1 Q
def tBM (K : PySem.W.Frag) (T : String) (r : V → List V → Hp → VK → Prop) (to : TE) (t : TA) : TE := fun σ H Q => to σ H fun x H1 => tyV K T x H1 ∧ t σ H1 fun xs H2 => r x xs H2 Q
variable {o e : Expr} {es : List Expr} {to : TE} {t : TA} {name : Str} {apos cpos : Pos} {T id : String} {r : V → List V → Hp → VK → Prop}
theorem pe_bm (pa : PlainAttrs T) (slot : Slot T name id) (hty : typeOf (.builtin id) = pure (.type "method_descriptor")) (hm : MtR X id r) (ho : PE X o to) (ha : PA X (e :: es) t)
    (hbase : attributeBase o name X.env (eval o X.env) = eval o X.env := by rfl)
    (hfew : ((backTo cpos (starEach (e :: es) X.env)).all (fun x => !x.1) && (backToKw cpos (keywordEach [] X.env)).all (fun x => x.1.isSome)
      && decide ((e :: es).length + ([] : List Keyword).length + (if ([] : List Keyword).isEmpty then 0 else 1) < 30)) = true := by rfl)
    (hline : (apos.endLine == cpos.line) = true := by rfl) (hs : starEach (e :: es) X.env = (false, eval e X.env) :: starEach es X.env := by rfl) (hplain : (backTo cpos (starEach es X.env)).any (·.1) = false := by rfl) :
    PE X (.Call (.Attribute o name apos) (e :: es) [] cpos) (tBM X.K T r to t) := by
  intro pins s σ H Q I h
  refine wpAny_Call_method_late hbase hfew hline rfl (thn (ho pins s σ H _ I h) fun v s1 ⟨x, H1, I1, r1, ty, q1⟩ => ?_)
  obtain ⟨h1, h2⟩ := tyV_is I1 r1 ty
  refine ⟨T, id, pa, slot, hty, h1, h2, ?_⟩
  have hA := ha cpos pins s1 σ H1 _ I1 q1
  rw [hs] at hA ⊢
  refine Calls.callWith_builtin (by show (false || (backTo cpos (starEach es X.env)).any (·.1)) = false; rw [hplain] <;> rfl) (Calls.evalArgs_plain ?_)
  exact thn hA fun us s2 ⟨vs, H2, I2, r2, q2⟩ => hm pins s2 σ H2 x vs v us Q I2 r1 r2 q2
/- xs.append(e), list.index on a module's tuple .. are MtR facts of 06m -/
end
end L2

namespace L2
open PySem PySem.Spec PyProof.Rows

def MtM (X : Cx) (id : String) (r : V → List V → Hp → VK → Prop) : Prop :=
  ∀ (pins : List (Addr × Obj)) (s : Shared) (σ : St) (H : Hp) (x : V) (xs : List V) (v : Value) (us : List Value) (Q : VK), Inv X pins σ H s → RelV x v → Vals xs us → r x xs H Q →
    wpAny (model X.prog X.w) X.A (call (.builtin id) (v :: us)) (EP X pins σ Q) X.xe s

/-! ### lists of values -/
theorem Vals.one : ∀ {x : V} {us : List Value}, Vals [x] us → ∃ u, us = [u] ∧ RelV x u
  | _, _, .cons r .nil => ⟨_, rfl, r⟩

section
variable {X : Cx} {pins : List (Addr × Obj)} {σ : St} {H : Hp} {s : Shared} {l b : Addr} {xs ys zs : List V}

/-! ### the two steps: a tracked list is rewritten, a new list is laid -/
theorem Inv.lset {its its' : List Value} {n : Nat} {f : Array Value → Array Value} {t' : Nat} (I : Inv X pins σ H s) (hH : H l = some (.lst xs))
    (e : s.heap.get? l = some { cls := .type "list", data := .seq its.toArray n }) (hf : f its.toArray = its'.toArray) (hv : Vals ys its') (hz : ys.length ≤ sizeLine) :
    Inv X pins σ (upd H l (.lst ys)) { s with heap := s.heap.update l (Obj.mapSeq f), toks := t' } := by
  have q := PySem.IsL.update e f
  rw [hf] at q
  refine I.write (x := l) (e := l) (by rw [hH]; exact trivial) (.inl rfl) (fun b' u hb hu => (Heap.get?_update_other s.heap (Obj.mapSeq f) (Ne.symm hb)).trans hu) ⟨_, q⟩ ?_
  exact ⟨hz, its', _, hv, q⟩
theorem Inv.lnew {its : List Value} {t' : Nat} (I : Inv X pins σ H s) (hv : Vals ys its) (hz : ys.length ≤ sizeLine) :
    Inv X pins σ (upd H s.heap.objs.size (.lst ys)) { s with heap := s.heap.push { cls := .type "list", data := .seq its.toArray }, toks := t' } :=
  I.laid (fun _ _ q => Heap.get?_push_of_some _ q) (Nat.le_refl _) ⟨hz, its, 0, hv, Heap.get?_push_size _ rfl⟩
theorem Inv.fresh (I : Inv X pins σ H s) : H s.heap.objs.size = none := I.hok.fresh (Nat.le_refl _)
theorem Inv.lstM (I : Inv X pins σ H s) (hH : H l = some (.lst xs)) : xs.length ≤ sizeLine ∧ ∃ (its : List Value) (n : Nat), Vals xs its ∧ xs.length = its.length ∧ s.heap.get? l = some { cls := .type "list", data := .seq its.toArray n } := by
  obtain ⟨z, its, n, r, e⟩ := I.hok l _ hH
  exact ⟨z, its, n, r, r.length, e⟩

end

section
variable {X : Cx}

/-! ### methods -/
def rAppend : V → List V → Hp → VK → Prop := fun x vs H Q => ∃ l xs y, x = .ref l ∧ vs = [y] ∧ H l = some (.lst xs) ∧ xs.length < sizeLine ∧ Q .non (upd H l (.lst (xs ++ [y])))
theorem mt_append : MtM X "list.append" rAppend := by
  intro pins s σ H x vs v us Q I rx rv h
  obtain ⟨l, xs, y, rfl, rfl, hH, hz, q⟩ := h
  cases rx
  obtain ⟨u, rfl, ru⟩ := rv.one
  obtain ⟨z, its, n, r, hl, e⟩ := I.lstM hH
  refine call_meets F.slot_list_append ⟨_, e, rfl⟩ F.entry_list_append (F.args_list_append_2 _ _) (PySem.list_append l its.toArray n u (by rw [List.size_toArray]; omega)) ⟨e, ?_⟩
  refine ⟨.non, _, I.lset (its' := its ++ [u]) hH e (by simp) (r.append (.cons ru .nil)) ?_, rfl, q⟩
  rw [List.length_append, List.length_singleton]
  omega

def rExtend : V → List V → Hp → VK → Prop := fun x vs H Q => ∃ l b xs zs, x = .ref l ∧ vs = [.ref b] ∧ H l = some (.lst xs) ∧ H b = some (.lst zs) ∧ xs.length + zs.length ≤ sizeLine ∧ Q .non (upd H l (.lst (xs ++ zs)))

def rPop : V → List V → Hp → VK → Prop := fun x vs H Q => ∃ l xs y, x = .ref l ∧ vs = [] ∧ H l = some (.lst xs) ∧ xs[xs.length - 1]? = some y ∧ Q y (upd H l (.lst xs.dropLast))

def rPopAt : V → List V → Hp → VK → Prop := fun x vs H Q => ∃ l xs i k y, x = .ref l ∧ vs = [.int i] ∧ H l = some (.lst xs) ∧ -(2 ^ 63) ≤ i ∧ i < 2 ^ 63 ∧ seqIndex? i xs.length = some k ∧ xs[k]? = some y ∧ Q y (upd H l (.lst (xs.eraseIdx k)))

def rReverse : V → List V → Hp → VK → Prop := fun x vs H Q => ∃ l xs, x = .ref l ∧ vs = [] ∧ H l = some (.lst xs) ∧ Q .non (upd H l (.lst xs.reverse))

def rClear : V → List V → Hp → VK → Prop := fun x vs H Q => ∃ l xs, x = .ref l ∧ vs = [] ∧ H l = some (.lst xs) ∧ Q .non (upd H l (.lst []))

/-! ### list + list, list += list, list * int -/
def rCat : R2 := fun x y H Q => ∃ l b xs zs, x = .ref l ∧ y = .ref b ∧ H l = some (.lst xs) ∧ H b = some (.lst zs) ∧ xs.length + zs.length ≤ sizeLine ∧ ∀ p, H p = none → Q (.ref p) (upd H p (.lst (xs ++ zs)))
theorem op_cat : OpR X (binaryOp .Add) rCat := by
  intro pins s σ H x y v u Q I rx ry h
  obtain ⟨l, b, xs, zs, rfl, rfl, hH, hB, hz, q⟩ := h
  cases rx
  cases ry
  obtain ⟨z, its, n, r, hl, e⟩ := I.lstM hH
  obtain ⟨z2, its2, n2, r2, hl2, e2⟩ := I.lstM hB
  refine PySem.P.add_list e e2 ?_ (by rw [List.size_toArray, List.size_toArray]; omega)
  have ea : its.toArray ++ its2.toArray = (its ++ its2).toArray := by simp
  rw [ea]
  exact ⟨.ref _, _, I.lnew (t' := s.toks) (r.append r2) (by rw [List.length_append]; omega), rfl, q _ I.fresh⟩
/-- a list times an int (a negative one is nothing) -/
def rRep : R2 := fun x y H Q => ∃ l k xs, x = .ref l ∧ y = .int k ∧ H l = some (.lst xs) ∧ -(2 ^ 63) ≤ k ∧ k < 2 ^ 63 ∧ xs.length * k.toNat ≤ sizeLine ∧
  ∀ p, H p = none → Q (.ref p) (upd H p (.lst (List.replicate k.toNat xs).flatten))

/-! ### del xs[i] -/
end

/-! ### xs[a:b] = ys -/
section
variable {prog : Program} {w : World} {A : Around} {E : Value → Shared → Prop} {s : Shared}
end

section
variable {X : Cx}
end
end L2

namespace Att
open PySem PySem.W PySem.Calls PyProof.Rows

/-! ### the script -/
theorem ints_of_wellAll {P : Params} {h : Heap} : ∀ (ns : List Int) (vs : List Value), WellAll P h vs (ns.map WData.int) → IntsAre vs ns := by
  intro ns
  induction ns with
  | nil =>
    intro vs w
    rw [List.map_nil] at w
    cases w
    exact .nil
  | cons n ns ih =>
    intro vs w
    rw [List.map_cons] at w
    cases w with
    | cons a b =>
      cases a
      exact .cons _ _ (ih _ b)

theorem script_of {l : OpenLaw} {n : Nat} (hn : l.most = some n) {P : Params} {h : Heap} {args : List WData} {vals : List Value}
    (hpre : l.row.toRowW.claim.pre args = true) (hwl : WellAll P h vals args) :
    ∃ a vs ns, vals = [Value.ref a] ∧ args = [WData.list (ns.map WData.int)] ∧ h.get? a = some { cls := .type "list", data := .seq vs.toArray } ∧ IntsAre vs ns ∧ ns.length ≤ n := by
  have hsh : WShape.hasAll [] args [.list .int] = true := (pre_splitW hpre).1
  have hc : l.pre.holds [] { args := args } = true := (pre_splitW hpre).2
  obtain ⟨d, r, rfl, h1, h2⟩ := hasAllW_cons hsh
  obtain rfl := hasAllW_nil h2
  obtain ⟨xs, rfl, h3⟩ := hasW_list h1
  obtain ⟨ns, rfl⟩ := items_int h3
  have hlen : ns.length ≤ n := by
    unfold OpenLaw.pre at hc
    have h4 : (WTm.not (.lt (.lit (.int (n : Int))) (.len (.arg 0)))).holds [] { args := [.list (ns.map .int)] } = true := by
      have h4 := (holds_andW hc).1
      rw [hn] at h4
      exact h4
    have h5 := condW_of h4 (w_not (w_lt w_lit (w_len_list (w_arg rfl))))
    rw [List.length_map] at h5
    refine Nat.le_of_not_lt fun q => ?_
    have q' : (n : Int) < ((ns.length : Nat) : Int) := by omega
    first
      | (rw [decide_eq_true q'] at h5; exact absurd h5 (by decide))
      | (simp at h5; omega)
  cases hwl with
  | cons w1 w2 =>
    cases w2
    cases w1 with
    | list ho hall => exact ⟨_, _, ns, rfl, rfl, ho, ints_of_wellAll ns _ hall, hlen⟩

theorem post_true (l : OpenLaw) (args : List WData) : l.row.toRowW.claim.post args (.bool true) args = true :=
  postW_of (r := l.row.toRowW) (X := (true == true))
    (show WShape.has [] (.bool true) .bool = true by first | rfl | decide | simp [WShape.has, WShape.arms, WShape.armsAll])
    (show (WTm.eq .res (.lit (.bool true))).value [] { args := args, res := some (.bool true), after := args } = some (.bool (true == true)) from w_eq_bool (w_res rfl) w_lit) rfl

/-! ### the attachment: holds_open's last premise (the goal 'hc' behind k_head) from a wpAny of the law's body -/

/-- the same from a codeAny of the CALL (for a layer whose function contracts speak of calls) -/
theorem attach_call {l : OpenLaw} {n : Nat} {q : Program} {loose : List Str} {XP : (Str → Option Value) → Heap → Prop} {YP : World → Heap → Prop} {d : DefRec}
    (hn : l.most = some n) (hdf : d.params.defaults = [])
    (call : ∀ (w : World) (s₀ s₁ : Shared) (mg mb : Str → Option Value) (fa : Addr) (o : Obj) (pm cd doc : Value) (a : Addr) (vs : List Value) (ns : List Int),
      Ground q loose [] XP w s₀ mg mb s₁.heap → YP w s₁.heap →
      s₁.heap.get? fa = some o → o.data = .func (docDef d.name d.params d.body d.scope pm cd doc) → s₁.heap.CodeRec cd d.name → mg d.name = some (.ref fa) →
      s₁.heap.get? a = some { cls := .type "list", data := .seq vs.toArray } → IntsAre vs ns → ns.length ≤ n → s₁.gens = #[] →
      codeAny (model l.prog w) callerA (.call (.ref fa) ⟨[.ref a], []⟩) (fun r s' => r = .ok (.ret (.bool true)) ∧ OldK s₁.heap s'.heap ∧ s'.os = s₁.os ∧ AllBare s'.gens) s₁) :
    WalkO q loose XP YP l.row.toRowW d [] (fun f vs => PySem.call f vs) := by
  intro w s₀ s₁ mg mb G Y fa o pm cd doc dV kV ho hd hcd hD hmg hg args vals as hpre hlay hrd hwl hlo
  obtain rfl : dV = .none := Dflts.none hD hdf
  obtain rfl : kV = .none := Dflts.noKw hD
  obtain ⟨a, vs, ns, rfl, rfl, hobj, hints, hlen⟩ := script_of hn hpre hwl
  refine enter_call (codeAny_mono (call w s₀ s₁ mg mb fa o pm cd doc a vs ns G Y ho (fd_plain hd) hcd hmg hobj hints hlen hg) fun r s' hq => ?_)
  obtain ⟨rfl, h2, h3, h4⟩ := hq
  exact ⟨.inl ⟨.bool true, .bool true, [], rfl, fun _ => rfl, .bool true, post_true l _, fun _ => ⟨List.Pairwise.nil, fun _ hm => (nomatch hm)⟩⟩, h2, h3, h4⟩


/-! ### rules over ANY heap (no ledger) from facts about the written part K: the library's own take a ledger (News) for what they write -/
section
variable {prog : Program} {w : World} {A : Around} {E : Value → Shared → Prop} {s : Shared} {K : Frag}





/-! the whole heap as the ledger: makes every rule that writes through a ledger a rule over any heap -/
def noObjs (h : Heap) : Heap := { h with objs := #[] }
def ledger (h : Heap) (L d : Addr) : List (Addr × Obj) := (List.range h.objs.size).filterMap fun a => if a = L ∨ a = d then none else (h.get? a).map fun o => (a, o)

end
end Att

namespace L2
open PySem PySem.Spec PyProof.Rows

theorem vals_ints : ∀ {vs : List Value} {ns : List Int}, IntsAre vs ns → Vals (ns.map V.int) vs
  | _, _, .nil => .nil
  | _, _, .cons n t h => .cons ⟨t, rfl⟩ (vals_ints h)

/-- nothing is tracked but the script, known to the object (or it is an object of the module) -/
def Only (H : Hp) : Prop := ∀ b, H b = none ∨ ∃ o xs, H b = some (.frz o (.lst xs))

/-- THE HEAD: the law's promise, at the heap behind the top. F, the promise of the law's def, may use that base is part of the heap (so K.In base, base.Ns mainGlobals mg stand in Mod) -/
theorem law_call {P : Program} {w : World} {K : PySem.W.Frag} {mg mb : Str → Option Value} {CX : CXT} {k : Nat} {fa a : Addr} {fd : FuncData} {x : Str} {sp : Sp} {s₁ : Shared} {vs : List Value} {ns : List Int}
    (KX : K.In s₁.heap) (hns : s₁.heap.Ns mainGlobals mg) (hb : s₁.heap.Ns builtinsNs mb) (hbb : ∀ x : Str, x ≠ "__name__" → mb x = bootBuiltins x) (hlim : s₁.heap.NoLimit) (hg : s₁.gens = #[])
    (ha : s₁.heap.get? a = some { cls := .type "list", data := .seq vs.toArray }) (hi : IntsAre vs ns) (hl : ns.length ≤ sizeLine) (hr : Room k callerA)
    (F : ∀ base : Heap, K.In base → base.Ns mainGlobals mg → FnOk P w K mg base CX k fa fd [x] sp) (hbind : ∀ (s : Shared) (u : Value), BindsTo s fd ⟨[u], []⟩ [(x, u)])
    (hsp : ∀ H : Hp, Only H → SqL K H a (ns.map V.int) → sp [.ref a] H (fun v _ => v = .bl true) fun _ _ _ => False)
    (hCX : ∀ H e s', CX [] H s₁ (fun _ _ _ => False) e s' → False) :
    codeAny (model P w) callerA (.call (.ref fa) ⟨[.ref a], []⟩) (fun r s' => r = .ok (.ret (.bool true)) ∧ OldK s₁.heap s'.heap ∧ s'.os = s₁.os ∧ AllBare s'.gens) s₁ := by
  have rv := vals_ints hi
  have lenV := hi.length
  -- from an abstract heap in which nothing but the script may be tracked
  have core : ∀ H : Hp, Only H → SqL K H a (ns.map V.int) → HOk P w H s₁.heap → (∀ b, H b ≠ none → b = a) → (H a ≠ none → K.lookup a = none) →
      codeAny (model P w) callerA (.call (.ref fa) ⟨[.ref a], []⟩) (fun r s' => r = .ok (.ret (.bool true)) ∧ OldK s₁.heap s'.heap ∧ s'.os = s₁.os ∧ AllBare s'.gens) s₁ := by
    intro H hO hS hok hA hK
    have base_of : ∀ {b : Addr} {o : Obj}, s₁.heap.get? b = some o → H b = none → (hidT s₁.heap H).get? b = some o := fun e n => hidT_get e n
    have noA : ∀ {b : Addr} {o : Obj} {es : Array DictEntry} {ep : Nat}, s₁.heap.get? b = some o → o.data = .dict es ep → H b = none := fun {b o es ep} e d => by
      cases q : H b with
      | none => rfl
      | some u =>
        have e' : b = a := hA b (by rw [q]; simp)
        subst e'
        rw [ha] at e; cases e
        have d' : Data.seq vs.toArray _ = Data.dict es ep := d
        cases d'
    have nsK : ∀ {b : Addr} {m : Str → Option Value}, s₁.heap.Ns b m → (hidT s₁.heap H).Ns b m := fun {b m} ⟨o, es, ep, e, d, r⟩ => ⟨o, es, ep, base_of e (noA e d), d, r⟩
    have hKb : K.In (hidT s₁.heap H) := fun b o e => base_of (KX b o e) (by
      cases q : H b with
      | none => rfl
      | some u =>
        have e' : b = a := hA b (by rw [q]; simp)
        subst e'
        rw [hK (by rw [q]; simp)] at e; cases e)
    have hM : Mod K mg (hidT s₁.heap H) := ⟨hKb, nsK hns, ⟨mb, nsK hb, hbb⟩, let ⟨mc, h1, h2⟩ := hlim; ⟨mc, nsK h1, h2⟩⟩
    have e0 : Env0 P w K mg (hidT s₁.heap H) callerA [] s₁ H := ⟨rfl, hM, fun b o e => of_hidT e, Nat.le_of_eq (hidT_size _ _), trivial, fun b hb => absurd (show b ∈ ([] : List Addr) from hb) (by simp), hok, .of_eq hg⟩
    refine codeAny_mono ((F _ hKb (nsK hns)).run callerA [] s₁ H ⟨[.ref a], []⟩ [.ref a] [.ref a] _ _ hr e0 (hbind s₁ (.ref a)) (.cons rfl .nil) (hsp H hO hS)) fun r s' h => ?_
    cases r with
    | error e => exact (hCX H e s' h).elim
    | ok fl =>
      cases fl with
      | next => exact False.elim h
      | brk => exact False.elim h
      | cont => exact False.elim h
      | ret u =>
        obtain ⟨v, H', os, bare, un, hok', r', q⟩ := h
        have q' : v = .bl true := q
        subst q'
        obtain rfl : u = Value.bool true := r'
        refine ⟨rfl, OldK.of_keep fun b o e => ?_, os, bare⟩
        cases q : H b with
        | none => exact un.keep b o e q (by intro z; exact absurd (show b ∈ ([] : List Addr) from z) (by simp)) (by simp)
        | some u =>
          rcases hO b with z | ⟨ob, xs, z⟩
          · rw [q] at z; cases z
          · have z2 := un.frzs b ob _ z
            obtain ⟨e1, _⟩ := hok b _ z
            obtain ⟨e2, _⟩ := hok' b _ z2
            rw [e] at e1; cases e1
            exact e2
  cases hk : K.lookup a with
  | some o =>
    -- the script is one of the module's own objects
    have e := KX a o hk
    rw [ha] at e
    cases e
    refine core (fun _ => none) (fun _ => .inl rfl) (.inr ⟨_, vs.toArray, _, hk, rfl, rfl, rfl, by rw [List.size_toArray, lenV]; exact hl, by simpa using rv⟩) (fun b u z => by have z' : (none : Option HO) = some u := z; cases z') (fun b z => absurd rfl z) fun z => absurd rfl z
  | none =>
    refine core (fun b => if b = a then some (.frz { cls := .type "list", data := .seq vs.toArray } (.lst (ns.map V.int))) else none) (fun b => ?_) (.inl (.inr ⟨{ cls := .type "list", data := .seq vs.toArray }, if_pos rfl⟩)) (fun b u z => ?_) (fun b z => ?_) fun _ => hk
    · by_cases hb : b = a
      · exact .inr ⟨_, _, if_pos hb⟩
      · exact .inl (if_neg hb)
    · by_cases hb : b = a
      · have z' := (if_pos hb).symm.trans z
        cases z'
        subst hb
        exact ⟨ha, by rw [List.length_map]; exact hl, vs, _, rv, ha⟩
      · have z' := (if_neg hb).symm.trans z
        cases z'
    · by_cases hb : b = a
      · exact hb
      · exact absurd (if_neg hb) z
end L2

namespace L2
open PySem PySem.Spec PyProof.Rows

abbrev KOf {K : PySem.W.Frag} {h : Heap} (_ : K.In h) : PySem.W.Frag := K

/-- the goal that k_head leaves (case hc), from the law's promise. F gives the function object fd (K's own) once, then the promise over every base -/
theorem walk_of {l : PySem.W.OpenLaw} {n k : Nat} {q : Program} {loose : List Str} {XP : (Str → Option Value) → Heap → Prop} {YP : World → Heap → Prop} {d : DefRec} {K : Params → PySem.W.Frag} {CX : World → CXT} {sp : World → Sp} {x : Str}
    (hn : l.most = some n) (hn2 : n ≤ sizeLine) (hdf : d.params.defaults = []) (hr : Room k callerA)
    (hY : ∀ (w : World) (h : Heap), YP w h → (K w.params).In h)
    (F : ∀ (w : World) (mg : Str → Option Value) (fa : Addr) (h : Heap), (K w.params).In h → h.Ns mainGlobals mg → mg d.name = some (.ref fa) →
      ∃ fd : FuncData, (∀ (s : Shared) (u : Value), BindsTo s fd ⟨[u], []⟩ [(x, u)]) ∧
        ∀ base : Heap, (K w.params).In base → base.Ns mainGlobals mg → FnOk l.prog w (K w.params) mg base (CX w) k fa fd [x] (sp w))
    (hsp : ∀ (w : World) (H : Hp) (a : Addr) (ns : List Int), ns.length ≤ n → Only H → SqL (K w.params) H a (ns.map V.int) → sp w [.ref a] H (fun v _ => v = .bl true) fun _ _ _ => False)
    (hCX : ∀ (w : World) (H : Hp) (s : Shared) (e : Value) (s' : Shared), CX w [] H s (fun _ _ _ => False) e s' → False) :
    PySem.W.WalkO q loose XP YP l.row.toRowW d [] (fun f vs => PySem.call f vs) := by
  refine Att.attach_call hn hdf fun w s₀ s₁ mg mb fa o pm cd doc a vs ns G Y ho hd hcd hmg hobj hints hlen hg => ?_
  have KX := hY w _ Y
  obtain ⟨fd, hb, hF⟩ := F w mg fa _ KX G.T.g hmg
  exact law_call KX G.T.g G.T.b G.T.builtins G.T.nolimit hg hobj hints (Nat.le_trans hlen hn2) hr hF hb (fun H hO hS => hsp w H a ns hlen hO hS) fun H e s' => hCX w H s₁ e s'
end L2



/-! SHORT WORDS over the layer: a def of the text, its body, what a loop and a test want. -/
namespace L2
open PySem PySem.Spec PyProof.Rows

/-! ### the text by places -/
/-- the j-th statement of a class's body -/
def inClass (s : Stmt) (j : Nat) : Stmt := match s with
  | .ClassDef _ _ _ body _ _ _ _ _ _ _ => body.getD j (.Pass ⟨0, 0, 0, 0⟩)
  | _ => .Pass ⟨0, 0, 0, 0⟩
def defArgs (s : Stmt) : Arguments := match s with
  | .FunctionDef _ a _ _ _ _ _ _ _ _ => a
  | _ => { posonlyargs := [], args := [], vararg := none, kwonlyargs := [], kw_defaults := [], kwarg := none, defaults := [] }
def defBody (s : Stmt) : List Stmt := match s with
  | .FunctionDef _ _ b _ _ _ _ _ _ _ => b
  | _ => []
def defScope (s : Stmt) : Scope := match s with
  | .FunctionDef _ _ _ _ _ _ sc _ _ _ => sc
  | _ => { kind := .function, names := [], isGenerator := false, isCoroutine := false }

/-! ### no exception leaves a def -/
abbrev CX0 : CXT := fun _ _ _ _ _ _ => False
abbrev E0 : XK := fun _ _ _ => False
theorem pass0 {X : Cx} : Passes CX0 X E0 := fun _ _ _ _ _ _ _ h => h.elim

/-! ### a def (or method) of the text as it stands behind the top -/
structure Fun (K : PySem.W.Frag) (x qual : Str) (st : Stmt) (f : Addr) (fd : FuncData) : Prop where
  ex : ∃ (oc : Value) (od : Option Addr) (kV doc pm : Value) (an : Option Addr) (cdv ct : Value) (osl : Array (Option Value)),
    fd = PySem.W.fnOf x qual (defArgs st) (defBody st) (defScope st) .none kV doc pm an cdv ct ∧ K.lookup f = some ⟨oc, od, .func fd, osl⟩ ∧ PySem.W.codeIn K cdv qual = true
  kp : PySem.W.keepIn K (.ref f) = true
section
variable {P : Program} {w : World} {K : PySem.W.Frag} {mg : Str → Option Value} {base : Heap}
/-- THE RULE for a def: its body as a term of rules, and the reading of that term -/
theorem Fun.ok {x qual : Str} {st : Stmt} {f : Addr} {fd : FuncData} {N ps : List Str} {k : Nat} {sp : Sp} (F : Fun K x qual st f fd) (S : FnScope N ps (defScope st)) (len : ∀ vs H Q E, sp vs H Q E → vs.length = ps.length)
    (hbody : ∀ (cdv : Value) (A : Around) (outer : List Env) (s : Shared) (H : Hp) (vs : List V) (Q : VK) (E : XK), Room k (A.deeper (envOfC qual (defScope st) s.heap.objs.size f cdv)) → sp vs H Q E →
      ∃ t, PSs (cxOf CX0 P w K mg base N qual (defScope st) f cdv A outer s H E).nox (defBody st) t ∧ t { nx := fun _ H' => Q .non H', rt := Q } (start N vs) H) : FnOk P w K mg base CX0 (k + 1) f fd ps sp := by
  obtain ⟨oc, od, kV, doc, pm, an, cdv, ct, osl, rfl, lk, hcd⟩ := F.ex
  refine fn_of lk hcd S len fun A outer s H vs Q E hr hsp => ?_
  obtain ⟨t, h, q⟩ := hbody cdv A outer s H vs Q E hr hsp
  exact ⟨t, h.nox, q⟩
/-- how its arguments bind (no defaults): h is «fun _ _ _ _ _ _ us hl => match us, hl with | [_, _], _ => rfl», one _ a parameter -/
theorem Fun.binds {x qual : Str} {st : Stmt} {f : Addr} {fd : FuncData} {ps : List Str} (F : Fun K x qual st f fd)
    (h : ∀ (kV doc pm : Value) (an : Option Addr) (cdv ct : Value) (us : List Value), us.length = ps.length → bindArgs (PySem.W.fnOf x qual (defArgs st) (defBody st) (defScope st) .none kV doc pm an cdv ct) ⟨us, []⟩ = pure (ps.zip us)) : Binds K fd ps [] := by
  obtain ⟨oc, od, kV, doc, pm, an, cdv, ct, osl, rfl, lk, hcd⟩ := F.ex
  exact .all (h kV doc pm an cdv ct)
theorem fun_mk {x qual : Str} {st : Stmt} {f : Addr} {oc : Value} {od an : Option Addr} {osl : Array (Option Value)} {kV doc pm cdv ct : Value} (l : K.lookup f = some ⟨oc, od, .func (PySem.W.fnOf x qual (defArgs st) (defBody st) (defScope st) .none kV doc pm an cdv ct), osl⟩)
    (c : PySem.W.codeIn K cdv qual = true) (k : PySem.W.keepIn K (.ref f) = true) : Fun K x qual st f (PySem.W.fnOf x qual (defArgs st) (defBody st) (defScope st) .none kV doc pm an cdv ct) := ⟨⟨oc, od, kV, doc, pm, an, cdv, ct, osl, rfl, l, c⟩, k⟩
end
theorem small1000 {n : Nat} (h : n ≤ 1000) : n < sizeLine := Nat.lt_of_le_of_lt h (by decide)

/-! ### expressions in short: the name that stands in the i-th slot -/
section
variable {X : Cx}
theorem pv (i : Nat) {x : Str} {pos : Pos} (hN : X.N[i]? = some x := by rfl) (hv : Vis X.env.scope x := by first | exact Or.inl rfl | exact Or.inr (Or.inl rfl) | exact Or.inr (Or.inr rfl)) (hd : (x == ("__debug__" : Str)) = false := by decide)
    (hcd : (x == ("__classdict__" : Str)) = false := by decide) : PE X (.Name x pos) (tVar i) := pe_var hN hv hd hcd
end

/-! ### tests -/
theorem iteF {A B : Prop} (h : B) : if false = true then A else B := by
  rw [if_neg Bool.false_ne_true]
  exact h
theorem iteT {A B : Prop} (h : A) : if true = true then A else B := by
  rw [if_pos rfl]
  exact h
theorem ite2 {c A B : Prop} [Decidable c] (h1 : c → A) (h2 : ¬ c → B) : if c then A else B := by
  by_cases h : c
  · rw [if_pos h]
    exact h1 h
  · rw [if_neg h]
    exact h2 h
theorem iteNS {c A B : Prop} [Decidable c] (hc : c) (h : B) : if (!decide c) = true then A else B := by
  rw [decide_eq_true hc]
  exact iteF h

/-! ### heaps -/
/-- all that was tracked is as it was -/
def Same (H H' : Hp) : Prop := ∀ b o, H b = some o → H' b = some o
theorem Same.refl (H : Hp) : Same H H := fun _ _ h => h
theorem Same.trans {H H1 H2 : Hp} (a : Same H H1) (b : Same H1 H2) : Same H H2 := fun c o h => b c o (a c o h)
theorem Same.seq {K : PySem.W.Frag} {H H' : Hp} {a : Addr} {xs : List V} (e : Same H H') (h : SqL K H a xs) : SqL K H' a xs := by
  rcases h with (h | ⟨o, h⟩) | h
  · exact .inl (.inl (e _ _ h))
  · exact .inl (.inr ⟨o, e _ _ h⟩)
  · exact .inr h

end L2

set_option maxHeartbeats 4000000
namespace B
open PySem L2 PyProof.Rows
/-! ### tests that are known -/
theorem iteN1 {c A B : Prop} [Decidable c] (hc : ¬ c) (h : A) : if (!decide c) = true then A else B := by
  have e : (!decide c) = true := by rw [decide_eq_false hc]; rfl
  rw [if_pos e]; exact h
theorem iteD1 {c A B : Prop} [Decidable c] (hc : c) (h : A) : if decide c = true then A else B := by
  rw [if_pos (decide_eq_true hc)]; exact h
theorem iteD0 {c A B : Prop} [Decidable c] (hc : ¬ c) (h : B) : if decide c = true then A else B := by
  have e : ¬ decide c = true := by rw [decide_eq_false hc]; intro z; cases z
  rw [if_neg e]; exact h
/-! ### isinstance against a built-in class -/
def kitTT (A B : String) : Option Bool := if (Value.type A == Value.type B) = true then some true else if PySem.W.kitMeta B = true then (fastBuiltinMro A).map (·.contains (.type B)) else none
theorem kit_of {K : PySem.W.Frag} {A B : String} {b : Bool} (h : kitTT A B = some b) : PySem.W.kitOne K (.type A) (.type B) = some b := h
/-- a plain thing's kind -/
inductive Ty (H : Hp) : V → String → Prop where
  | non : Ty H .non "NoneType"
  | bl (b : Bool) : Ty H (.bl b) "bool"
  | int (i : Int) : Ty H (.int i) "int"
  | str (x : Str) : Ty H (.str x) "str"
  | lst {a : Addr} {xs : List V} (e : H a = some (.lst xs)) : Ty H (.ref a) "list"
  | tup {a : Addr} {xs : List V} (e : H a = some (.tup xs)) : Ty H (.ref a) "tuple"
theorem Ty.of {H : Hp} {v : V} {n : String} (K : PySem.W.Frag) (h : Ty H v n) : TyOf K H v (.type n) := by
  cases h with
  | non => exact .non
  | bl b => exact .bl b
  | int i => exact .int i
  | str x => exact .str x
  | lst e => exact .lst e
  | tup e => exact .tup e
def rIsi : List V → Hp → VK → Prop := fun xs H Q => ∃ x n m b, xs = [x, .ty n] ∧ Ty H x m ∧ kitTT m n = some b ∧ Q (.bl b) H
theorem call_isi {X : Cx} : CallR X (.builtin "isinstance") rIsi := by
  intro pins s σ H xs us Q I r h
  obtain ⟨x, n, m, b, rfl, ty, e, q⟩ := h
  obtain ⟨u, u2, rfl, rx, ry⟩ := vals2 r
  obtain rfl : u2 = Value.type n := ry
  exact isinst_ok I rx (ty.of X.K) (kit_of e) fun tk => ⟨.bl b, H, I.tok tk, rfl, q⟩
def wholeV : V → Bool
  | .int _ => true
  | _ => false
def tupV (n : String) : Bool := n == "tuple"
/-! ### heaps: all but one list is as it was -/
structure Step (t : Addr) (H H' : Hp) : Prop where
  keep : ∀ b o, b ≠ t → H b = some o → H' b = some o
  tp : ∃ xs, H t = some (.lst xs)
  tp' : ∃ xs, H' t = some (.lst xs)
theorem Step.trans {t : Addr} {H H1 H2 : Hp} (a : Step t H H1) (b : Step t H1 H2) : Step t H H2 := ⟨fun c o n e => b.keep c o n (a.keep c o n e), a.tp, b.tp'⟩
theorem Step.up {t : Addr} {H : Hp} {xs ys : List V} (h : H t = some (.lst xs)) : Step t H (upd H t (.lst ys)) := ⟨fun c o n e => by rw [upd_ne n]; exact e, ⟨_, h⟩, ⟨_, upd_same⟩⟩
theorem same_new {H : Hp} {p : Addr} (h : H p = none) (o : HO) : Same H (upd H p o) := fun b u q => by rw [upd_ne (ne_of_none q h)]; exact q
theorem Step.same {t : Addr} {H H' : Hp} (s : Same H H') (h : ∃ xs, H t = some (.lst xs)) : Step t H H' := ⟨fun c o _ e => s c o e, h, let ⟨xs, e⟩ := h; ⟨xs, s _ _ e⟩⟩
theorem Step.new {t p : Addr} {H : Hp} (h : ∃ xs, H t = some (.lst xs)) (n : H p = none) (o : HO) : Step t H (upd H p o) := Step.same (same_new n o) h
/-- a thing whose kind is known, and of a tuple its parts' kinds -/
def Th (H : Hp) (v : V) : Prop := ∃ n, Ty H v n ∧ ∀ a xs, v = .ref a → H a = some (.tup xs) → ∀ x ∈ xs, ∃ m, Ty H x m
/-! ### places -/
theorem pick {xs : List V} {r : Int} (h0 : 0 ≤ r) (h1 : r < (xs.length : Int)) : ∃ v, atI xs r = some v ∧ v ∈ xs := by
  have hk : r.toNat < xs.length := by omega
  have ek : r = ((r.toNat : Nat) : Int) := by omega
  have q : atI xs ((r.toNat : Nat) : Int) = some xs[r.toNat] := atI_nat (List.getElem?_eq_getElem hk)
  rw [← ek] at q
  exact ⟨_, q, List.getElem_mem hk⟩
theorem pickI {ns : List Int} {r : Int} (h0 : 0 ≤ r) (h1 : r < (ns.length : Int)) : ∃ z : Int, atI (ns.map V.int) r = some (.int z) := by
  obtain ⟨v, h, hv⟩ := pick (xs := ns.map V.int) h0 (by rw [List.length_map]; exact h1)
  obtain ⟨z, _, rfl⟩ := List.mem_map.mp hv
  exact ⟨z, h⟩
/-! ### the tape -/
structure Tape (H : Hp) (t s : Addr) : Prop where
  ex : ∃ (ns : List Int) (p q r : Int), H t = some (.lst [.ref s, .int p, .int q, .int r]) ∧ H s = some (.lst (ns.map V.int)) ∧ s ≠ t ∧ ns.length ≤ 63 ∧ 0 ≤ p ∧ 0 ≤ q ∧ 0 ≤ r
theorem Tape.lst {H : Hp} {t s : Addr} (h : Tape H t s) : ∃ xs, H t = some (.lst xs) := let ⟨_, _, _, _, e, _⟩ := h.ex; ⟨_, e⟩
theorem Tape.scr {H : Hp} {t s : Addr} (h : Tape H t s) : ∃ xs, H s = some (.lst xs) := let ⟨_, _, _, _, _, e, _⟩ := h.ex; ⟨_, e⟩
theorem Tape.same {H H' : Hp} {t s : Addr} (h : Tape H t s) (z : Same H H') : Tape H' t s := by
  obtain ⟨ns, p, q, r, h1, h2, h3⟩ := h.ex
  exact ⟨ns, p, q, r, z _ _ h1, z _ _ h2, h3⟩
theorem Tape.new {H : Hp} {t s p : Addr} (h : Tape H t s) (n : H p = none) (o : HO) : Tape (upd H p o) t s := h.same (same_new n o)
theorem Tape.upl {H : Hp} {t s l : Addr} (h : Tape H t s) (a : l ≠ t) (b : l ≠ s) (o : HO) : Tape (upd H l o) t s := by
  obtain ⟨ns, p, q, r, h1, h2, h3⟩ := h.ex
  exact ⟨ns, p, q, r, by rw [upd_ne a.symm]; exact h1, by rw [upd_ne b.symm]; exact h2, h3⟩
theorem cut63 (ns : List Int) : cutV (ns.map V.int) none (some 63) = (ns.take (min 63 ns.length)).map V.int := by
  unfold cutV
  rw [show (some (63 : Int)) = some (((63 : Nat) : Int)) from rfl, HT.sIx_nat, HT.sIx_none, List.length_map, Nat.sub_zero, List.drop_zero, List.map_take]
def sp_tape (K : PySem.W.Frag) : Sp := fun vs H Q _ => ∃ (a : Addr) (ns : List Int), vs = [.ref a] ∧ SqL K H a (ns.map V.int) ∧ ∀ (t s : Addr) (H' : Hp), Same H H' → H t = none → H s = none → Tape H' t s → Q (.ref t) H'
def sp_draw : Sp := fun vs H Q _ => ∃ (t s : Addr) (m : Int), vs = [.ref t, .int m] ∧ Tape H t s ∧ 0 < m ∧ m < 1073741824 ∧ ∀ (r : Int) (xs : List V), 0 ≤ r → r < m → Tape (upd H t (.lst xs)) t s → Q (.int r) (upd H t (.lst xs))
def sp_lawT (K : PySem.W.Frag) : Sp := fun vs H Q _ => ∃ (a : Addr) (ns : List Int), vs = [.ref a] ∧ SqL K H a (ns.map V.int) ∧ ns.length ≤ 63 ∧ ∀ H', Q (.bl true) H'
/-! ### the greatest divisor, turn by turn -/
theorem gcd_turn {a b : Int} (ha : 0 ≤ a) (hb : 0 < b) : Int.gcd b (a % b) = Int.gcd a b := by
  obtain ⟨n, rfl⟩ := Int.eq_ofNat_of_zero_le ha
  obtain ⟨m, rfl⟩ := Int.eq_ofNat_of_zero_le (Int.le_of_lt hb)
  rw [← Int.natCast_emod]
  show Nat.gcd m (n % m) = Nat.gcd n m
  rw [Nat.gcd_comm m, ← Nat.gcd_rec, Nat.gcd_comm]
theorem abs_if (i : Int) : (if i < 0 then -i else i) = (i.natAbs : Int) := by split <;> omega
end B

namespace B
open PySem PySem.Spec L2 PyProof.Rows
/-! ### a thing whose whole inside is known, and its text -/
mutual
inductive Deep (K : PySem.W.Frag) (H : Hp) : V → PyData → Prop where
  | non : Deep K H .non .none
  | bl (b : Bool) : Deep K H (.bl b) (.bool b)
  | int (i : Int) : Deep K H (.int i) (.int i)
  | str (x : Str) : Deep K H (.str x) (.str x)
  | lst {a : Addr} {xs : List V} {ds : List PyData} (e : SqL K H a xs) (h : DeepAll K H xs ds) : Deep K H (.ref a) (.list ds)
  | tup {a : Addr} {xs : List V} {ds : List PyData} (e : SqT K H a xs) (h : DeepAll K H xs ds) : Deep K H (.ref a) (.tuple ds)
inductive DeepAll (K : PySem.W.Frag) (H : Hp) : List V → List PyData → Prop where
  | nil : DeepAll K H [] []
  | cons {x : V} {d : PyData} {xs : List V} {ds : List PyData} (h : Deep K H x d) (t : DeepAll K H xs ds) : DeepAll K H (x :: xs) (d :: ds)
end
mutual
theorem Deep.reads {X : Cx} {pins : List (Addr × Obj)} {σ : L2.St} {H : Hp} {s : Shared} (I : Inv X pins σ H s) : ∀ {v : V} {d : PyData} {u : Value}, Deep X.K H v d → RelV v u → ∃ as, Reads s.heap u d as
  | _, _, u, .non, r => by cases (show u = Value.none from r); exact ⟨_, .none⟩
  | _, _, u, .bl b, r => by cases (show u = Value.bool b from r); exact ⟨_, .bool b⟩
  | _, _, u, .int i, r => by obtain ⟨t, q⟩ := (show ∃ t, u = Value.int i t from r); cases q; exact ⟨_, .int i t⟩
  | _, _, u, .str x, r => by obtain ⟨t, q⟩ := (show ∃ t, u = Value.str x t from r); cases q; exact ⟨_, .str x t⟩
  | _, _, u, .lst (a := a) e h, r => by
    cases (show u = Value.ref a from r)
    obtain ⟨its, rv, ⟨o, n, ho, hc, _, hd⟩, _⟩ := I.list e
    obtain ⟨as, q⟩ := DeepAll.reads I h rv
    exact ⟨_, .list ho hc hd (by simpa using q)⟩
  | _, _, u, .tup (a := a) e h, r => by
    cases (show u = Value.ref a from r)
    obtain ⟨its, rv, ⟨o, ho, hc, n, hd⟩, _⟩ := I.tuple e
    obtain ⟨as, q⟩ := DeepAll.reads I h rv
    exact ⟨_, .tuple ho hc hd (by simpa using q)⟩
theorem DeepAll.reads {X : Cx} {pins : List (Addr × Obj)} {σ : L2.St} {H : Hp} {s : Shared} (I : Inv X pins σ H s) : ∀ {vs : List V} {ds : List PyData} {us : List Value}, DeepAll X.K H vs ds → Vals vs us → ∃ as, ReadsAll s.heap us ds as
  | _, _, _, .nil, .nil => ⟨_, .nil⟩
  | _, _, _, .cons h t, .cons r q =>
    let ⟨_, a⟩ := Deep.reads I h r
    let ⟨_, b⟩ := DeepAll.reads I t q
    ⟨_, .cons a b⟩
end
/-- what may be shown -/
structure Shows (d : PyData) : Prop where
  sh : d.showable = true
  nd : d.hasDict = false
  sz : d.shown.length ≤ sizeLine
  dp : d.depth ≤ 16
def rRepr (K : PySem.W.Frag) : List V → Hp → VK → Prop := fun xs H Q => ∃ v d, xs = [v] ∧ Deep K H v d ∧ Shows d ∧ Q (.str d.shown) H
theorem call_repr {X : Cx} {k : Nat} (hr : Room k X.A) : CallR X (.builtin "repr") (rRepr X.K) := by
  intro pins s σ H xs us Q I r h
  obtain ⟨v, d, rfl, dp, sh, q⟩ := h
  obtain ⟨u, rfl, ru⟩ := vals1 r
  cases dp with
  | non => cases (show u = Value.none from ru); exact PySem.P.repr_of_none ⟨.str "None", H, I.tok _, ⟨_, rfl⟩, q⟩
  | bl b => cases (show u = Value.bool b from ru); exact PySem.P.repr_of_bool ⟨.str _, H, I.tok _, ⟨_, rfl⟩, q⟩
  | int i =>
    obtain ⟨t, e⟩ := (show ∃ t, u = Value.int i t from ru)
    cases e
    exact PySem.P.repr_of_int (of_decide_eq_true sh.sh) ⟨.str _, H, I.tok _, ⟨_, rfl⟩, q⟩
  | str x =>
    obtain ⟨t, e⟩ := (show ∃ t, u = Value.str x t from ru)
    cases e
    exact PySem.P.repr_of_str ⟨.str _, H, I.tok _, ⟨_, rfl⟩, q⟩ sh.sz
  | @lst a ys ds e h =>
    cases (show u = Value.ref a from ru)
    obtain ⟨as, rd⟩ := Deep.reads I (.lst e h) (show RelV (.ref a) (.ref a) from rfl)
    exact repr_of_reads' rd sh.sh (fun z => by rw [sh.nd] at z; cases z) hr.gd (by have := hr.units; have := sh.dp; omega) (fun _ _ z => z) (fun h' u tk hk => ⟨.str _, H, I.kept hk, ⟨_, rfl⟩, q⟩) sh.sz
  | @tup a ys ds e h =>
    cases (show u = Value.ref a from ru)
    obtain ⟨as, rd⟩ := Deep.reads I (.tup e h) (show RelV (.ref a) (.ref a) from rfl)
    exact repr_of_reads' rd sh.sh (fun z => by rw [sh.nd] at z; cases z) hr.gd (by have := hr.units; have := sh.dp; omega) (fun _ _ z => z) (fun h' u tk hk => ⟨.str _, H, I.kept hk, ⟨_, rfl⟩, q⟩) sh.sz
end B

namespace B
open PySem PySem.Spec L2 PyProof.Rows
/-! ### a list's comprehension of one clause -/
/-- the block's context: its own names, the cells of the def around it; the iterator's records may turn -/
def cxC (X : Cx) (N' : List Str) (scope : Scope) (cl : List (Str × Addr)) (C : Addr) (fp : List Addr) (pins : List (Addr × Obj)) (s : Shared) (H : Hp) : Cx :=
  { X with N := N', s₀ := s, H₀ := H, env := compEnvC scope cl C X.env, outer := X.stack, stack := X.stack, ex := fp, fn := fun _ => false, pn := X.pn ++ pins, xe := fun _ _ => False }
/-- which name of the def around it stands at each place of the block (none: the block's own) -/
def FreeOk (X : Cx) (scope : Scope) (cl : List (Str × Addr)) : List Str → List (Option Nat) → Prop
  | [], [] => True
  | _ :: N, none :: r => FreeOk X scope cl N r
  | x :: N, some j :: r => X.N[j]? = some x ∧ X.env.kindOf x = some .cell ∧ (compEnvC scope cl 0 X.env).kindOf x = some .cell ∧ cl.lookup x = X.env.cells.lookup x ∧ FreeOk X scope cl N r
  | _, _ => False
def frees (src : List (Option Nat)) (σ : L2.St) : L2.St := src.map fun o => o.bind fun j => (σ[j]?).getD none
theorem FreeOk.len {X : Cx} {scope : Scope} {cl : List (Str × Addr)} : ∀ {N : List Str} {src : List (Option Nat)}, FreeOk X scope cl N src → N.length = src.length
  | [], [], _ => rfl
  | _ :: _, none :: _, h => congrArg (· + 1) (FreeOk.len (X := X) (scope := scope) (cl := cl) h)
  | _ :: _, some _ :: _, h => congrArg (· + 1) (FreeOk.len (X := X) (scope := scope) (cl := cl) h.2.2.2.2)
theorem FreeOk.at {X : Cx} {scope : Scope} {cl : List (Str × Addr)} {σ : L2.St} : ∀ {N : List Str} {src : List (Option Nat)} {i : Nat} {x : Str} {v : V}, FreeOk X scope cl N src → N[i]? = some x → (frees src σ)[i]? = some (some v) →
    ∃ j : Nat, X.N[j]? = some x ∧ σ[j]? = some (some v) ∧ X.env.kindOf x = some .cell ∧ (compEnvC scope cl 0 X.env).kindOf x = some .cell ∧ cl.lookup x = X.env.cells.lookup x
  | y :: N, none :: r, 0, x, v, h, e, q => by cases q
  | y :: N, none :: r, i + 1, x, v, h, e, q => FreeOk.at (N := N) (src := r) (i := i) h e q
  | y :: N, some j :: r, 0, x, v, h, e, q => by
    cases e
    refine ⟨j, h.1, ?_, h.2.1, h.2.2.1, h.2.2.2.1⟩
    have q' : some ((σ[j]?).getD none) = some (some v) := q
    injection q' with q'
    cases z : σ[j]? with
    | none => rw [z] at q'; cases q'
    | some o => rw [z] at q'; exact congrArg some q'
  | y :: N, some j :: r, i + 1, x, v, h, e, q => FreeOk.at (N := N) (src := r) (i := i) h.2.2.2.2 e q
/-- every name of the block that is a cell there has one -/
def CellsOk (X : Cx) (scope : Scope) (cl : List (Str × Addr)) : Prop :=
  (∀ x, ((compEnvC scope cl 0 X.env).kindOf x = some .cell ∨ (compEnvC scope cl 0 X.env).kindOf x = some .free) → ∃ c, cl.lookup x = some c) ∧ ∀ x c, cl.lookup x = some c → X.env.cells.lookup x = some c
def CellsIn (X : Cx) : List (Str × Addr) → Prop
  | [] => True
  | y :: r => X.env.cells.lookup y.1 = some y.2 ∧ CellsIn X r
theorem CellsIn.mem {X : Cx} : ∀ {cl : List (Str × Addr)}, CellsIn X cl → ∀ y ∈ cl, X.env.cells.lookup y.1 = some y.2
  | [], _, y, h => by cases h
  | z :: r, k, y, h => by
    rcases List.mem_cons.mp h with e | h
    · rw [e]; exact k.1
    · exact CellsIn.mem k.2 y h
theorem mem_of_lookup {α : Type} {x : Str} {v : α} : ∀ {l : List (Str × α)}, l.lookup x = some v → (x, v) ∈ l
  | [], h => by cases h
  | (y, w) :: r, h => by
    rw [List.lookup_cons] at h
    cases e : x == y with
    | true =>
      rw [e] at h
      have e' : x = y := eq_of_beq e
      cases h
      rw [e']; exact List.mem_cons_self
    | false =>
      rw [e] at h
      exact List.mem_cons_of_mem _ (mem_of_lookup h)
theorem cells_of {X : Cx} {scope : Scope} {cl : List (Str × Addr)} (h1 : ((relabel scope X.env).names.all fun y => !(y.2 == .cell || y.2 == .free) || (cl.lookup y.1).isSome) = true) (h2 : CellsIn X cl) : CellsOk X scope cl := by
  refine ⟨fun x h => ?_, fun x c e => h2.mem _ (mem_of_lookup e)⟩
  have h3 := List.all_eq_true.mp h1
  have key : ∀ k : NameKind, (k = .cell ∨ k = .free) → (relabel scope X.env).names.lookup x = some k → ∃ c, cl.lookup x = some c := fun k hk e => by
    have q := h3 _ (mem_of_lookup e)
    have z : (k == NameKind.cell || k == NameKind.free) = true := by rcases hk with rfl | rfl <;> rfl
    simp only [z, Bool.not_true, Bool.false_or] at q
    exact Option.isSome_iff_exists.mp q
  rcases h with h | h
  · exact key _ (.inl rfl) h
  · exact key _ (.inr rfl) h
/-- .. as the block's names stay -/
def Ext (σ σ' : L2.St) : Prop := σ'.length = σ.length ∧ ∀ (i : Nat) (v : V), σ[i]? = some (some v) → σ'[i]? = some (some v)
theorem Ext.set {σ : L2.St} {i : Nat} {v : V} (h : σ[i]? = some none) : Ext σ (σ.set i (some v)) := by
  refine ⟨List.length_set, fun j u e => ?_⟩
  have ne : i ≠ j := fun z => by subst z; rw [h] at e; cases e
  rw [List.getElem?_set_ne ne]; exact e
section
variable {X : Cx} {N' : List Str} {scope : Scope} {cl : List (Str × Addr)} {src : List (Option Nat)} {pins : List (Addr × Obj)} {σ : L2.St} {H : Hp} {s : Shared} {fp : List Addr}
theorem Cx.comp_ok {C : Addr} (I : Inv X pins σ H s) (hC : s.heap.objs.size ≤ C) (hk : scope.kind = .function) (hf : ∀ b ∈ fp, FpOk X pins H b) (hfs : ∀ b ∈ fp, b < s.heap.objs.size) (hc : CellsOk X scope cl) :
    (cxC X N' scope cl C fp pins s H).Ok where
  mod := I.ok.mod
  kind := hk
  glob := I.ok.glob
  blt := I.ok.blt
  above := hC
  inj := fun x y c e1 e2 => I.ok.inj x y c (hc.2 x c e1) (hc.2 y c e2)
  has := fun x h => hc.1 x h
  cab := fun x c z => nomatch z
  hd := I.ok.hd
  frames := I.ok.frames
  stk := .inl rfl
  exf := fun b hb => ⟨fun z => by have := hfs b hb; rw [show b = C from z] at this; exact absurd (Nat.lt_of_lt_of_le this hC) (Nat.lt_irrefl _), fun x c e => (hf b hb).2.2.2.2.1 x c (hc.2 x c e)⟩
  bs := I.bs
  bsz := Nat.le_trans I.ok.bsz I.sz
  noex := fun b o e hb => by
    rcases (hf b hb).2.2.2.1 with z | z
    · exact I.ok.noex b o e z
    · rw [(I.ok.bs b o e).1] at z; cases z
  exfs := fun b hb z => by
    rcases List.mem_cons.mp (I.stkSub b z) with q | q
    · exact (hf b hb).2.1 q
    · exact (hf b hb).2.2.1 q
  funs := I.stack
  frf := I.stkFree
theorem Inv.comp {C : Addr} {h₁ : Heap} {m : Str → Option Value} {tk : Nat} (I : Inv X pins σ H s) (hC : C = s.heap.objs.size) (hns : h₁.Ns C m) (keep : ∀ b o, s.heap.get? b = some o → h₁.get? b = some o)
    (hk : scope.kind = .function) (hf : ∀ b ∈ fp, FpOk X pins H b) (hfs : ∀ b ∈ fp, b < s.heap.objs.size) (hc : CellsOk X scope cl) (hfree : FreeOk X scope cl N' src) :
    Inv (cxC X N' scope cl C fp pins s H) [] (frees src σ) H { s with heap := h₁, toks := tk } where
  ok := Cx.comp_ok I (Nat.le_of_eq hC.symm) hk hf hfs hc
  os := rfl
  bare := I.bare
  base := Un.kept keep
  loc := ⟨m, hns, fun i x v e1 e2 _ => by
    obtain ⟨j, hj, hσ, kc, kc', hl⟩ := hfree.at e1 e2
    obtain ⟨m0, hn0, hl0⟩ := I.loc
    obtain ⟨u, r, l⟩ := hl0 j x v hj hσ (Or.inr (Or.inl kc))
    rcases l with ⟨k, _⟩ | ⟨k, c, e, o, ho, hd⟩
    · rw [kc] at k; cases k
    · exact ⟨u, r, .inr ⟨.inl kc', c, hl.trans e, o, keep c o ho, hd⟩⟩⟩
  cell := fun x c e => let ⟨v, o, ho, hd⟩ := I.cell x c (hc.2 x c e); ⟨v, o, keep _ _ ho, hd⟩
  free := I.hok.fresh (Nat.le_of_eq hC.symm)
  freeC := fun x c e => I.freeC x c (hc.2 x c e)
  pin := fun p hp => by
    have hp' : p ∈ X.pn ++ pins := by
      have z : p ∈ (X.pn ++ pins) ++ [] := hp
      rw [List.append_nil] at z; exact z
    obtain ⟨e, n, ne, nf, d⟩ := I.pin p hp'
    refine ⟨keep _ _ e, n, fun z => ?_, fun z => ?_, d⟩
    · have := Heap.lt_size e; rw [show p.1 = C from z, hC] at this; exact Nat.lt_irrefl _ this
    · rcases List.mem_cons.mp (I.stkSub _ z) with q | q
      · exact ne q
      · exact nf q
  hok := I.hok.kept keep
  len := by show (frees src σ).length = N'.length; unfold frees; rw [List.length_map, hfree.len]
end
/-- the tests of a clause -/
def PTs (X : Cx) (ifs : List Expr) (t : TT) : Prop :=
  ∀ (pins : List (Addr × Obj)) (s : Shared) (σ : L2.St) (H : Hp) (Q : Bool → Hp → Prop), Inv X pins σ H s → t σ H Q →
    wpAny (model X.prog X.w) X.A (forIn ifs true fun c r => if r = true then do let ok ← isTrue c X.env (eval c X.env); pure (ForInStep.yield ok) else pure (ForInStep.yield r)) (TP X pins σ Q) X.xe s
def tYes : TT := fun _ H Q => Q true H
theorem pts_nil {X : Cx} : PTs X [] tYes := fun _ _ _ H _ I h => wpAny_tests_nil ⟨H, I, h⟩
section
variable {prog : Program} {w : World} {A : Around} {R : Result → Shared → Prop} {s : Shared}
theorem comp_loop {elt target iter : Expr} {ifs : List Expr} {scope : Scope} {pos : Pos} {it acc : Value} {env : Env} (I : Nat → Shared → Prop)
    (turn : ∀ n s, I n s → wpAny (model prog w) A (pyNext it) (fun r s₁ => match r with
      | none => R (.ok .next) s₁
      | some v => wpAny (model prog w) A (letOwnedTupleGo target it v) (fun _ s₁' => wpAny (model prog w) A (assign target env v) (fun _ s₂ =>
          wpAny (model prog w) A (forIn ifs true fun c r => if r = true then do let ok ← isTrue c env (eval c env); pure (ForInStep.yield ok) else pure (ForInStep.yield r)) (fun ok s₃ =>
            if ok = true then wpAny (model prog w) A (eval elt env) (fun x s₄ =>
              wpAny (model prog w) A (call (.builtin "list.append") [acc, x]) (fun _ s₅ => ∃ m, m < n ∧ I m s₅) (fun _ _ => False) s₄) (fun _ _ => False) s₃
            else ∃ m, m < n ∧ I m s₃) (fun _ _ => False) s₂) (fun _ _ => False) s₁') (fun _ _ => False) s₁) (fun _ _ => False) s)
    (n : Nat) (h : I n s) : codeAny (model prog w) A (.compLoop (.ListComp elt [⟨target, iter, ifs, 0⟩] scope pos) 0 it acc env) R s := by
  refine codeAny_loop rfl I (fun n s hI => ?_) n h
  show wpAny _ A ((compTurn (.ListComp elt [⟨target, iter, ifs, 0⟩] scope pos) 0 it acc env).onRaise (fun x => do noteFrame x env; theTreesLotGoes x)) _ _ s
  refine wpAny_noted ?_
  rw [compTurn_list]
  refine wpAny_bind (wpAny_standAt (wpAny_bind (wpAny_mono (turn n s hI) (fun r s₁ h₁ => ?_) fun _ _ h' => h'.elim)))
  cases r with
  | none => exact wpAny_pure h₁
  | some v =>
    refine wpAny_bind (wpAny_mono h₁ (fun _ s₁' h₁' => ?_) fun _ _ h' => h'.elim)
    refine wpAny_bind (wpAny_mono h₁' (fun _ s₂ h₂ => wpAny_bind (wpAny_mono h₂ (fun ok s₃ h₃ => ?_) fun _ _ h' => h'.elim)) fun _ _ h' => h'.elim)
    cases ok with
    | false => exact wpAny_pure ⟨rfl, h₃⟩
    | true =>
      exact wpAny_bind (wpAny_bind (wpAny_mono h₃ (fun x s₄ h₄ => wpAny_bind (wpAny_mono h₄ (fun _ s₅ h₅ => wpAny_pure (wpAny_pure ⟨rfl, h₅⟩)) fun _ _ h' => h'.elim)) fun _ _ h' => h'.elim))
end
/-- a block's own names: apart from all that is kept -/
structure OffC (X : Cx) (pins : List (Addr × Obj)) (H : Hp) (C : Addr) : Prop where
  no : H C = none
  lo : C ≠ X.env.locals
  fs : C ∉ X.fs
  old : X.s₀.heap.get? C = none
  ce : ∀ x c, X.env.cells.lookup x = some c → c ≠ C
  pn : ∀ p ∈ X.pn ++ pins, p.1 ≠ C
theorem OffC.turned {X : Cx} {pins : List (Addr × Obj)} {σ : L2.St} {H : Hp} {C : Addr} {s : Shared} (o : OffC X pins H C) (I : Inv X pins σ H s) {h' : Heap} (sb : Heap.SameBut C s.heap h') : Inv X pins σ H { s with heap := h' } :=
  I.turned (it := C) (t' := s.toks) (fun b u hb e => sb.extBut b u hb e) o.no o.lo (.inr o.old) o.ce o.pn
/-- the reading: D the new list, W the invariant (turn, measure, what stands in the list, heap) -/
def tComp (wi : TI) (src : List (Option Nat)) (g : TG) (tt : TT) (te : TE) : TE := fun σ H Q => wi σ H fun J H1 => ∀ D, H1 D = none → ∃ W : Nat → Nat → List V → Hp → Prop,
  (∃ m, W 0 m [] (upd H1 D (.lst []))) ∧ ∀ i m ys H, W i m ys H → (J.stop i H ∧ Q (.ref D) H) ∨ (J.go i H ∧ ∀ x H', J.yld i H x H' → g x (frees src σ) H' fun σ2 H2 => Ext (frees src σ) σ2 ∧ tt σ2 H2 fun ok H3 =>
    if ok = true then te σ2 H3 fun y H4 => H4 D = some (.lst ys) ∧ ys.length < sizeLine ∧ ∃ m', m' < m ∧ W (i + 1) m' (ys ++ [y]) (upd H4 D (.lst (ys ++ [y]))) else ∃ m', m' < m ∧ W (i + 1) m' ys H3)
section
variable {X : Cx} {N' : List Str} {scope : Scope} {cl : List (Str × Addr)} {src : List (Option Nat)} {tg iter elt : Expr} {ifs : List Expr} {wi : TI} {g : TG} {tt : TT} {te : TE} {pos : Pos}
theorem comp_run (hc : X.calm = true) (hi : PI X tg iter wi) (hg : ∀ C fp pins s H, PG (cxC X N' scope cl C fp pins s H) tg g) (ht : ∀ C fp pins s H, PTs (cxC X N' scope cl C fp pins s H) ifs tt)
    (he : ∀ C fp pins s H, PE (cxC X N' scope cl C fp pins s H) elt te) (hfree : FreeOk X scope cl N' src) (hcell : ∀ x ∈ scope.names, x.2 ≠ .cell) (hkind : scope.kind = .function) (hcl : CellsOk X scope cl)
    {RR : Value → Addr → Result → Shared → Prop} {pins : List (Addr × Obj)} {s : Shared} {σ : L2.St} {H : Hp} {Q : VK} (I : Inv X pins σ H s) (h : tComp wi src g tt te σ H Q)
    (hRR : ∀ D C H' s', Q (.ref D) H' → (∃ m, s'.heap.Ns C m) → Inv X pins σ H' s' → OffC X pins H' C → RR (.ref D) C (.ok .next) s') :
    wpAny (model X.prog X.w) X.A (eval iter X.env) (fun x s₁ => wpAny (model X.prog X.w) X.A (pyIter x) (fun itv s₂ => wpAny (model X.prog X.w) X.A (newList []) (fun acc s₃ =>
      wpAny (model X.prog X.w) X.A (newFunctionEnv scope X.env.globals cl [] X.env.qual none .none (some X.env)) (fun cenv s₄ =>
        codeAny (model X.prog X.w) X.A (.compStart (.ListComp elt [⟨tg, iter, ifs, 0⟩] scope pos) 0 itv acc { cenv with scope := relabel scope X.env }) (RR acc cenv.locals) s₄) X.xe s₃) X.xe s₂) X.xe s₁) X.xe s := by
  refine thn (hi pins s σ H _ I h) fun v s1 h1 => thn h1 fun itv s2 h2 => ?_
  obtain ⟨it, fp, tn, J, H2, e, I2, T, st2, f2, h2⟩ := h2
  subst e
  refine wpAny_newObj_type ?_ (by show 0 ≤ sizeLine; exact Nat.zero_le _)
  have hD : H2 s2.heap.objs.size = none := I2.fresh
  have I3 : Inv X pins σ (upd H2 s2.heap.objs.size (.lst [])) { s2 with heap := s2.heap.push { cls := .type "list", data := .seq ([] : List Value).toArray } } := I2.lnew (t' := s2.toks) (its := []) .nil (Nat.zero_le _)
  obtain ⟨W, ⟨m0, w0⟩, turn⟩ := h2 s2.heap.objs.size hD
  generalize hDe : s2.heap.objs.size = D at I3 turn w0 hD ⊢
  have st3 : tn 0 (s2.heap.push { cls := .type "list", data := .seq ([] : List Value).toArray }) := T.keep _ _ _ st2 fun b _ o e => Heap.get?_push_of_some _ e
  have f3 : ∀ b ∈ fp, FpOk X pins (upd H2 D (.lst [])) b ∧ b < (s2.heap.push { cls := .type "list", data := .seq ([] : List Value).toArray }).objs.size := fun b hb => by
    obtain ⟨o, e, _⟩ := T.obj _ _ st2 b hb
    have l := Heap.lt_size e
    rw [hDe] at l
    refine ⟨⟨?_, (f2 b hb).2⟩, by rw [Heap.size_push, hDe]; exact Nat.lt_succ_of_lt l⟩
    rw [upd_ne (Nat.ne_of_lt l)]; exact (f2 b hb).1
  generalize (s2.heap.push { cls := .type "list", data := .seq ([] : List Value).toArray }) = h3 at I3 st3 f3 ⊢
  refine wpAny_newFunctionEnv hcell (by intro y hy; simp at hy) (fun h₄ hns₄ hsb₄ => ?_) hkind
  have keep : ∀ b o, h3.get? b = some o → h₄.get? b = some o := fun b o e => hsb₄.extBut b o (Nat.ne_of_lt (Heap.lt_size e)) (Heap.get?_push_of_some _ e)
  have I4 := Inv.comp (C := h3.objs.size) (fp := fp) (tk := s2.toks + ([] : List (Str × Value)).length) I3 rfl hns₄ keep hkind (fun b hb => (f3 b hb).1) (fun b hb => (f3 b hb).2) hcl hfree
  have st4 : tn 0 h₄ := T.keep _ _ _ st3 fun b _ o e => keep b o e
  have fpn : ∀ b ∈ fp, (upd H2 D (.lst [])) b = none := fun b hb => (f3 b hb).1.1
  have hn3 : ∀ b ∈ fp, b ≠ h3.objs.size := fun b hb => Nat.ne_of_lt (f3 b hb).2
  have stat : ∀ {H' : Hp}, (∀ b ∈ fp, H' b = none) → ∀ b ∈ fp, FpOk (cxC X N' scope cl h3.objs.size fp pins { s2 with heap := h3 } (upd H2 D (.lst []))) [] H' b := fun hn b hb =>
    ⟨hn b hb, hn3 b hb, I4.ok.exfs b hb, .inl hb, fun x c e => (f3 b hb).1.2.2.2.2.1 x c (hcl.2 x c e), fun p hp => (f3 b hb).1.2.2.2.2.2 p (by
      have z : p ∈ (X.pn ++ pins) ++ [] := hp
      rw [List.append_nil] at z; exact z)⟩
  have back : ∀ {H' : Hp} {s' : Shared}, Inv (cxC X N' scope cl h3.objs.size fp pins { s2 with heap := h3 } (upd H2 D (.lst []))) [] (frees src σ) H' s' → (∃ m, s'.heap.Ns h3.objs.size m) ∧ Inv X pins σ H' s' ∧ OffC X pins H' h3.objs.size := fun {H' s'} I' => by
    have Ib : Inv X pins σ H' s' := I3.call' I'.os I'.base I'.hok I'.bare fun b hb => ⟨(f3 b hb).1.2.2.2.1, (f3 b hb).1.2.1, (f3 b hb).1.2.2.2.2.1, (f3 b hb).1.2.2.2.2.2⟩
    refine ⟨let ⟨m, hm, _⟩ := I'.loc; ⟨m, hm⟩, Ib, ⟨I'.free, fun z => ?_, I3.nofs (Nat.le_refl _), Heap.get?_none_of_le I3.sz, fun x c e z => ?_, fun p hp z => ?_⟩⟩
    · have := I3.lt; rw [← z] at this; exact Nat.lt_irrefl _ this
    · obtain ⟨v, o, ho, _⟩ := I3.cell x c e
      have := Heap.lt_size ho; rw [z] at this; exact Nat.lt_irrefl _ this
    · obtain ⟨e, _⟩ := I3.pin p hp
      have := Heap.lt_size e; rw [z] at this; exact Nat.lt_irrefl _ this
  have loop : codeAny (model X.prog X.w) X.A (.compLoop (.ListComp elt [⟨tg, iter, ifs, 0⟩] scope pos) 0 (.ref it) (.ref D) (compEnvC scope cl h3.objs.size X.env)) (RR (.ref D) h3.objs.size) { s2 with heap := h₄, toks := s2.toks + ([] : List (Str × Value)).length } := by
    refine comp_loop (fun n s' => ∃ i ys H', Inv (cxC X N' scope cl h3.objs.size fp pins { s2 with heap := h3 } (upd H2 D (.lst []))) [] (frees src σ) H' s' ∧ tn i s'.heap ∧ (∀ b ∈ fp, H' b = none) ∧ W i n ys H') ?_ m0 ⟨0, [], _, I4, st4, fpn, w0⟩
    rintro n s5 ⟨i, ys, H5, I5, st5, fr5, w5⟩
    rcases turn i n ys H5 w5 with ⟨stop, qn⟩ | ⟨go, step⟩
    · refine thn (T.done (cxC X N' scope cl h3.objs.size fp pins { s2 with heap := h3 } (upd H2 D (.lst []))) rfl rfl rfl hc i [] s5 _ H5 _ I5 (stat fr5) st5 stop) fun r s6 ⟨hr, I6⟩ => ?_
      subst hr
      obtain ⟨b1, b2, b3⟩ := back I6
      exact hRR D _ H5 s6 qn b1 b2 b3
    · refine thn (T.item (cxC X N' scope cl h3.objs.size fp pins { s2 with heap := h3 } (upd H2 D (.lst []))) rfl rfl rfl hc i [] s5 _ H5 _ I5 (stat fr5) st5 go) fun r s6 ⟨u, hr, h6⟩ => ?_
      subst hr
      refine thn h6 fun _ s7 ⟨x, H7, I7, r7, y7, st7, fr7⟩ => ?_
      have I7' := I7.pinned (stat fr7) (T.obj _ _ st7)
      refine thn (hg _ _ _ _ _ _ s7 _ H7 x u _ I7' r7 (step x H7 y7)) fun _ s8 ⟨σ8, H8, I8, ex8, q8⟩ => ?_
      refine thn (ht _ _ _ _ _ _ s8 σ8 H8 _ I8 q8) fun ok s9 ⟨H9, I9, q9⟩ => ?_
      have again : ∀ {ys' : List V} {Ha : Hp} {sa : Shared}, Inv (cxC X N' scope cl h3.objs.size fp pins { s2 with heap := h3 } (upd H2 D (.lst []))) ([] ++ pinsAt fp s7.heap) σ8 Ha sa → (∃ m', m' < n ∧ W (i + 1) m' ys' Ha) →
          ∃ m, m < n ∧ ∃ i ys H', Inv (cxC X N' scope cl h3.objs.size fp pins { s2 with heap := h3 } (upd H2 D (.lst []))) [] (frees src σ) H' sa ∧ tn i sa.heap ∧ (∀ b ∈ fp, H' b = none) ∧ W i m ys H' := fun {ys' Ha sa} Ia ⟨m', hm, wa⟩ => by
        refine ⟨m', hm, i + 1, ys', Ha, (Ia.unpinned).weak ex8.1.symm ex8.2, T.keep _ _ _ st7 fun b hb o e => (Ia.pin (b, o) (List.mem_append_right _ (List.mem_append_right _ (mem_pinsAt hb e)))).1, fun b hb => ?_, wa⟩
        obtain ⟨o, e, _⟩ := T.obj _ _ st7 b hb
        exact (Ia.pin (b, o) (List.mem_append_right _ (List.mem_append_right _ (mem_pinsAt hb e)))).2.1
      cases ok with
      | false => exact again I9 q9
      | true =>
        refine thn (he _ _ _ _ _ _ s9 σ8 H9 _ I9 q9) fun y s10 ⟨yv, H10, I10, r10, q10, hz, wn⟩ => ?_
        refine thn (mt_append _ s10 σ8 H10 (.ref D) [yv] (.ref D) [y] (fun _ Hz => ∃ m', m' < n ∧ W (i + 1) m' (ys ++ [yv]) Hz) I10 rfl (.cons r10 .nil) ⟨D, ys, yv, rfl, rfl, q10, hz, wn⟩) fun _ s11 ⟨_, H11, I11, _, q11⟩ => ?_
        exact again I11 q11
  exact codeAny_compStart_list loop (T.self _ 0 _ _ _ st4 loop)
theorem pe_lcomp (hc : X.calm = true) (hi : PI X tg iter wi) (hg : ∀ C fp pins s H, PG (cxC X N' scope cl C fp pins s H) tg g) (ht : ∀ C fp pins s H, PTs (cxC X N' scope cl C fp pins s H) ifs tt)
    (he : ∀ C fp pins s H, PE (cxC X N' scope cl C fp pins s H) elt te) (hfree : FreeOk X scope cl N' src) (hclos : closureFor scope X.env = pure cl) (hcell : ∀ x ∈ scope.names, x.2 ≠ .cell) (hkind : scope.kind = .function)
    (hnames : ∀ x ∈ scope.names, x.2 = .local → scope.names.lookup x.1 = some .local) (hcl : CellsOk X scope cl) (hs : ∀ x, foldedSetIterable iter X.env x = pure x := by intro _; rfl) :
    PE X (.ListComp elt [⟨tg, iter, ifs, 0⟩] scope pos) (tComp wi src g tt te) := by
  intro pins s σ H Q I h
  rw [eval_ListComp]
  refine wpAny_comprehension_free (use := none) rfl hs hclos hkind hnames (comp_run hc hi hg ht he hfree hcell hkind hcl (RR := fun acc C => compPost (model X.prog X.w) X.A X.xe none (EP X pins σ Q) acc C) I h fun D C H' s' q hm hI hb => ?_)
  obtain ⟨m, hm⟩ := hm
  exact ⟨m, hm, fun h' sb => ⟨.ref D, H', hb.turned hI sb, rfl, q⟩⟩
/-- x = [e for ..], x a local name -/
theorem ps_setC {i : Nat} {x : Str} {pos' pos2 : Pos} (hN : X.N.Nodup) (hi' : X.N[i]? = some x) (hx : Loc X.env.scope x) (hc : X.calm = true) (hi : PI X tg iter wi) (hg : ∀ C fp pins s H, PG (cxC X N' scope cl C fp pins s H) tg g) (ht : ∀ C fp pins s H, PTs (cxC X N' scope cl C fp pins s H) ifs tt)
    (he : ∀ C fp pins s H, PE (cxC X N' scope cl C fp pins s H) elt te) (hfree : FreeOk X scope cl N' src) (hclos : closureFor scope X.env = pure cl) (hcell : ∀ x ∈ scope.names, x.2 ≠ .cell) (hkind : scope.kind = .function)
    (hnames : ∀ x ∈ scope.names, x.2 = .local → scope.names.lookup x.1 = some .local) (hcl : CellsOk X scope cl) (hs : ∀ x, foldedSetIterable iter X.env x = pure x := by intro _; rfl)
    (hsw : swapsWith (.ListComp elt [⟨tg, iter, ifs, 0⟩] scope pos) (some (.Name x pos')) pos2.line X.env = pure true := by rfl) (hf : X.fn x = true ∨ X.env.scope.names.lookup x = some .local := by first | exact .inl rfl | exact .inr rfl | assumption) :
    PS X (.Assign [.Name x pos'] (.ListComp elt [⟨tg, iter, ifs, 0⟩] scope pos) pos2) (tAsg (tComp wi src g tt te) (gName i)) := by
  intro pins s σ H D I h
  rw [exec_Assign_Name_used _ _ _ _ hsw]
  refine wpAny_bind (wpAny_standAt ?_)
  show wpAny _ _ ((comprehension (.ListComp elt [⟨tg, iter, ifs, 0⟩] scope pos) scope X.env _ (newList []) false (eval iter X.env) (some (assign (.Name x pos') X.env)) >>= fun _ => pure ()) >>= fun _ => pure Flow.next) _ _ s
  refine wpAny_bind (wpAny_bind (wpAny_mono (wpAny_comprehension_free (use := some (assign (.Name x pos') X.env)) (Q := fun _ s'' => SP X pins D .next s'') rfl hs hclos hkind hnames (comp_run hc hi hg ht he hfree hcell hkind hcl (RR := fun acc C => compPost (model X.prog X.w) X.A X.xe (some (assign (.Name x pos') X.env)) (fun _ s'' => SP X pins D .next s'') acc C) I h fun E C H' s' q hm hI hb => ?_)) (fun _ s'' h'' => wpAny_pure (wpAny_pure h'')) fun _ _ e => e))
  obtain ⟨m, o, es, ep, ho, hd, r1, r2⟩ := hm
  have I' : Inv X (pins ++ [(C, o)]) σ H' s' := hI.pins_of fun p hp => by
    rcases List.mem_append.mp hp with h | h
    · exact hI.pin p (List.mem_append_right _ h)
    · rw [List.mem_singleton] at h
      rw [h]
      exact ⟨ho, hb.no, hb.lo, hb.fs, fun v z => by rw [hd] at z; cases z⟩
  refine wpAny_assign_Name (store_ok I' hN hi' hx (show RelV (.ref E) (.ref E) from rfl) (fun s'' I'' => ?_) hf)
  have hC := (I''.pin (C, o) (List.mem_append_right _ (List.mem_append_right _ List.mem_cons_self))).1
  have I3 : Inv X pins (σ.set i (some (.ref E))) H' s'' := I''.pins_of fun p hp => I''.pin p (List.mem_append_right _ (List.mem_append_left _ hp))
  exact ⟨m, ⟨o, es, ep, hC, hd, r1, r2⟩, fun h' sb => ⟨_, H', hb.turned I3 sb, q⟩⟩
end
end B

namespace B
open PySem PySem.Spec L2 PyProof.Rows
/-! ### == and != of things whose inside is known -/
def rNeD (K : PySem.W.Frag) : R2 := fun x y H Q => ∃ d d', Deep K H x d ∧ Deep K H y d' ∧ d.canLay0 = true ∧ d'.canLay0 = true ∧ d.depth ≤ 32 ∧ Q (.bl (!PyData.eqv d d')) H
/-- the answers of == against x, item by item: x itself, or by what is read -/
noncomputable def hitAt (h : Heap) (x : Value) (d : PyData) (y : Value) : Bool :=
  open Classical in if y = x then true else if z : ∃ d', d'.canLay0 = true ∧ d'.depth ≤ 32 ∧ ∃ as, Reads h y d' as then PyData.eqv z.choose d else false
/-- all items' insides are known -/
def Known (K : PySem.W.Frag) (H : Hp) (xs : List V) : Prop := ∀ x ∈ xs, ∃ d, Deep K H x d ∧ d.canLay0 = true ∧ d.depth ≤ 32
/-- x not in xs, where x is one of them -/
def rNotInS (K : PySem.W.Frag) : R2 := fun x y H Q => ∃ a p xs, x = .ref a ∧ y = .ref p ∧ SqL K H p xs ∧ V.ref a ∈ xs ∧ Known K H xs ∧ Q (.bl false) H
/-- xs.index(x), x one of them: some place with the same inside -/
def rIndexS (K : PySem.W.Frag) : V → List V → Hp → VK → Prop := fun x vs H Q => ∃ p xs a d, x = .ref p ∧ vs = [.ref a] ∧ SqL K H p xs ∧ V.ref a ∈ xs ∧ Known K H xs ∧ Deep K H (.ref a) d ∧ d.canLay0 = true ∧ d.depth ≤ 32 ∧
  ∀ (j : Nat) (v' : V), xs[j]? = some v' → (v' = .ref a ∨ ∀ d', Deep K H v' d' → d'.canLay0 = true → PyData.eqv d' d = true) → Q (.int j) H
end B

namespace B
/-! ### ratios as pairs -/
abbrev R := Int × Int
def mkR (a b : Int) : R := (a / (Int.gcd a b : Int), b / (Int.gcd a b : Int))
structure Wf (n : Nat) (r : R) : Prop where
  pos : 0 < r.2
  top : r.1.natAbs < 2 ^ n
  bot : r.2.natAbs < 2 ^ n
  cop : Int.gcd r.1 r.2 = 1
theorem Wf.mono {n m : Nat} {r : R} (h : Wf n r) (l : n ≤ m) : Wf m r := ⟨h.pos, Nat.lt_of_lt_of_le h.top (Nat.pow_le_pow_right (by decide) l), Nat.lt_of_lt_of_le h.bot (Nat.pow_le_pow_right (by decide) l), h.cop⟩
theorem gcd_posR {a b : Int} (hb : 0 < b) : 0 < (Int.gcd a b : Int) := by
  have h : Int.gcd a b ≠ 0 := fun z => by
    have := (Int.gcd_eq_zero_iff.mp z).2
    omega
  omega
theorem natAbs_div_le (a : Int) {g : Int} (hg : 0 < g) : (a / g).natAbs ≤ a.natAbs := by
  have h1 := Int.ediv_mul_le a (show g ≠ 0 by omega)
  have h2 := Int.lt_ediv_add_one_mul_self a hg
  rcases Int.le_total 0 a with h | h
  · have h3 := Int.ediv_nonneg h (show 0 ≤ g by omega)
    have h4 : a / g ≤ a / g * g := by
      have : a / g * 1 ≤ a / g * g := Int.mul_le_mul_of_nonneg_left (by omega) h3
      omega
    omega
  · have h3 : a / g ≤ 0 := by
      have := Int.ediv_le_ediv hg h
      rw [Int.zero_ediv] at this; exact this
    have h5 : a ≤ a / g := by
      have : a / 1 ≤ a / g := by
        have q : (a / g + 1) * g ≤ (a / g + 1) * 1 ∨ 0 < a / g + 1 := by
          rcases Int.le_total (a / g + 1) 0 with z | z
          · left
            have := Int.mul_le_mul_of_nonneg_left (a := 1) (b := g) (c := -(a / g + 1)) (by omega) (by omega)
            have e1 : -(a / g + 1) * 1 = -((a / g + 1) * 1) := Int.neg_mul _ _
            have e2 : -(a / g + 1) * g = -((a / g + 1) * g) := Int.neg_mul _ _
            omega
          · rcases Int.lt_or_eq_of_le z with z | z
            · right; exact z
            · left; rw [← z]; simp
        rw [Int.ediv_one]
        rcases q with q | q
        · omega
        · omega
      rw [Int.ediv_one] at this; exact this
    omega
theorem mkR_wf {n : Nat} {a b : Int} (hb : 0 < b) (h1 : a.natAbs < 2 ^ n) (h2 : b.natAbs < 2 ^ n) : Wf n (mkR a b) :=
  ⟨Int.ediv_pos_of_pos_of_dvd hb (Int.le_of_lt (gcd_posR hb)) (Int.gcd_dvd_right a b), Nat.lt_of_le_of_lt (natAbs_div_le _ (gcd_posR hb)) h1, Nat.lt_of_le_of_lt (natAbs_div_le _ (gcd_posR hb)) h2, Int.gcd_ediv_gcd_ediv_gcd (by have := gcd_posR (a := a) hb; omega)⟩
def plusR (r q : R) : R := mkR (r.1 * q.2 + q.1 * r.2) (r.2 * q.2)
def timesR (r q : R) : R := mkR (r.1 * q.1) (r.2 * q.2)
def lessR (r q : R) : Bool := decide (r.1 * q.2 < q.1 * r.2)
theorem mul_lt {x y : Int} {n m : Nat} (h1 : x.natAbs < 2 ^ n) (h2 : y.natAbs < 2 ^ m) : (x * y).natAbs < 2 ^ (n + m) := by
  rw [Int.natAbs_mul, Nat.pow_add]
  exact Nat.mul_lt_mul'' h1 h2
theorem plus_top {n m : Nat} {r q : R} (h : Wf n r) (k : Wf m q) : (r.1 * q.2 + q.1 * r.2).natAbs < 2 ^ (n + m + 1) := by
  have a := mul_lt h.top k.bot
  have b := mul_lt k.top h.bot
  rw [Nat.add_comm m n] at b
  have e : 2 ^ (n + m + 1) = 2 * 2 ^ (n + m) := by rw [Nat.pow_succ, Nat.mul_comm]
  have := Int.natAbs_add_le (r.1 * q.2) (q.1 * r.2)
  omega
theorem plus_wf {n m : Nat} {r q : R} (h : Wf n r) (k : Wf m q) : Wf (n + m + 1) (plusR r q) :=
  mkR_wf (Int.mul_pos h.pos k.pos) (plus_top h k) (Nat.lt_of_lt_of_le (mul_lt h.bot k.bot) (Nat.pow_le_pow_right (by decide) (Nat.le_succ _)))
theorem times_wf {n m : Nat} {r q : R} (h : Wf n r) (k : Wf m q) : Wf (n + m) (timesR r q) :=
  mkR_wf (Int.mul_pos h.pos k.pos) (mul_lt h.top k.top) (mul_lt h.bot k.bot)
end B

namespace B
open PySem L2 PyProof.Rows
/-! ### big products and quotients -/
def CBig (i j : Int) : Prop := i.natAbs < 2 ^ 4000 ∧ j.natAbs < 2 ^ 4000
def CQuo (_ j : Int) : Prop := 0 < j ∧ j.natAbs < 2 ^ 4000
theorem bits_of {i : Int} (h : i.natAbs < 2 ^ 4000) : Builtin.Int.intBits i ≤ 2 ^ 20 := by
  unfold Builtin.Int.intBits
  split
  · exact Nat.zero_le _
  · rename_i z
    have hz : i.natAbs ≠ 0 := fun q => z (by have : i = 0 := by omega
                                             rw [this]; rfl)
    have := (Nat.log2_lt hz).mpr h
    have e : (2 : Nat) ^ 20 = 1048576 := by decide
    omega
section
variable {X : Cx}
theorem op_mulB : OpR X (binaryOp .Mult) (rI CBig fun i j => .int (i * j)) := opI fun _ _ _ _ _ _ _ hc q => mul_int q (IntMulOk.of_bits (bits_of hc.1) (bits_of hc.2))
theorem op_quo : OpR X (binaryOp .FloorDiv) (rI CQuo fun i j => .int (i / j)) := opI fun i j _ _ _ _ _ hc q => by
  have h1 : (0 : Int) < j := hc.1
  have h2 : j.natAbs < 2 ^ 4000 := hc.2
  refine floordiv_int (by omega) (by rw [Int.fdiv_eq_ediv_of_nonneg i (by omega)]; exact q) (.inl (PyProof.noPylong_of_log2 ?_))
  exact Nat.lt_trans ((Nat.log2_lt (show j.natAbs ≠ 0 by omega)).mpr h2) (by decide)
end
/-! ### what stays of tuples -/
def Tst (K : PySem.W.Frag) (H H' : Hp) : Prop := ∀ p xs, SqT K H p xs → SqT K H' p xs
theorem Tst.refl (K : PySem.W.Frag) (H : Hp) : Tst K H H := fun _ _ h => h
theorem Tst.trans {K : PySem.W.Frag} {H H1 H2 : Hp} (a : Tst K H H1) (b : Tst K H1 H2) : Tst K H H2 := fun p xs h => b p xs (a p xs h)
theorem Tst.same {K : PySem.W.Frag} {H H' : Hp} (s : Same H H') : Tst K H H' := fun p xs h => by
  rcases h with (h | ⟨o, h⟩) | h
  · exact .inl (.inl (s _ _ h))
  · exact .inl (.inr ⟨o, s _ _ h⟩)
  · exact .inr h
theorem Tst.step {K : PySem.W.Frag} {t : Addr} {H H' : Hp} (S : Step t H H') : Tst K H H' := fun p xs h => by
  obtain ⟨ys, ht⟩ := S.tp
  rcases h with (h | ⟨o, h⟩) | h
  · exact .inl (.inl (S.keep _ _ (fun z => by subst z; rw [h] at ht; cases ht) h))
  · exact .inl (.inr ⟨o, S.keep _ _ (fun z => by subst z; rw [h] at ht; cases ht) h⟩)
  · exact .inr h
theorem Tst.up {K : PySem.W.Frag} {H : Hp} {l : Addr} {xs : List V} (h : H l = some (.lst xs)) (ys : List V) : Tst K H (upd H l (.lst ys)) := Tst.step (Step.up h)
/-- the value is the ratio r -/
def RV (K : PySem.W.Frag) (H : Hp) (v : V) (r : R) : Prop := ∃ p, v = .ref p ∧ SqT K H p [.int r.1, .int r.2]
theorem RV.mono {K : PySem.W.Frag} {H H' : Hp} {v : V} {r : R} (h : RV K H v r) (t : Tst K H H') : RV K H' v r := let ⟨p, e, q⟩ := h; ⟨p, e, t _ _ q⟩
theorem RV.of {K : PySem.W.Frag} {H : Hp} {p : Addr} {a b : Int} (h : H p = some (.tup [.int a, .int b])) : RV K H (.ref p) (a, b) := ⟨p, rfl, SqT.of h⟩
/-- the values are the ratios rs -/
def RVs (K : PySem.W.Frag) (H : Hp) (xs : List V) (rs : List R) : Prop := xs.length = rs.length ∧ ∀ (i : Nat) (x : V) (r : R), xs[i]? = some x → rs[i]? = some r → RV K H x r
/-- r to k -/
def powR (r : R) : Nat → R
  | 0 => (1, 1)
  | k + 1 => timesR (powR r k) r
def sumR (rs : List R) : R := rs.foldl plusR (0, 1)
/-- a ratio's data -/
def dR (r : R) : PyData := .tuple [.int r.1, .int r.2]
theorem RV.deep {K : PySem.W.Frag} {H : Hp} {v : V} {r : R} (h : RV K H v r) : Deep K H v (dR r) := by
  obtain ⟨p, rfl, q⟩ := h
  exact .tup q (.cons (.int _) (.cons (.int _) .nil))
theorem dR_lay (r : R) : (dR r).canLay0 = true := rfl
theorem dR_depth (r : R) : (dR r).depth ≤ 32 := by show max 0 (max 0 0) + 1 ≤ 32; decide
theorem log_of {i : Int} {n : Nat} (h : i.natAbs < 2 ^ n) (hn : n ≤ 1900) : i.natAbs.log2 < 1920 := by
  by_cases z : i.natAbs = 0
  · rw [z]; decide
  · have := (Nat.log2_lt z).mpr (Nat.lt_of_lt_of_le h (Nat.pow_le_pow_right (by decide) hn))
    omega
theorem len_of {i : Int} {n : Nat} (h : i.natAbs < 2 ^ n) (hn : n ≤ 1900) : (PyData.int i).shown.length ≤ 1921 := by
  have q := int_text_length_le (a := i) (k := 1920) (by decide) (log_of h hn)
  have e : (PyData.int i).shown.length = (toString i).length := by
    show (Str.ofString (toString i)).length = _
    exact PySem.ofString_length _
  omega
theorem dR_shows {r : R} {n : Nat} (h : Wf n r) (hn : n ≤ 1900) : Shows (dR r) where
  sh := by
    show (decide (r.1.natAbs.log2 < 1920) && (decide (r.2.natAbs.log2 < 1920) && true)) = true
    rw [decide_eq_true (log_of h.top hn), decide_eq_true (log_of h.bot hn)]; rfl
  nd := rfl
  sz := by
    have a := len_of h.top hn
    have b := len_of h.bot hn
    have q := tupleText_len_le [(PyData.int r.1).shown, (PyData.int r.2).shown]
    have e : (dR r).shown = tupleText [(PyData.int r.1).shown, (PyData.int r.2).shown] := rfl
    rw [e]
    simp only [List.map_cons, List.map_nil, List.sum_cons, List.sum_nil, List.length_cons, List.length_nil] at q
    have : sizeLine = 16777216 := by decide
    omega
  dp := by show max 0 (max 0 0) + 1 ≤ 16; decide
theorem eqv_dR {r q : R} (h : PyData.eqv (dR r) (dR q) = true) : r = q := by
  have z : (r.1 == q.1 && (r.2 == q.2 && true)) = true := h
  simp only [Bool.and_true, Bool.and_eq_true, beq_iff_eq] at z
  exact Prod.ext z.1 z.2
theorem eqv_same (r : R) : PyData.eqv (dR r) (dR r) = true := by
  show (r.1 == r.1 && (r.2 == r.2 && true)) = true
  simp
end B
namespace B
open PySem L2 PyProof.Rows
def dL (rs : List R) : PyData := .list (rs.map dR)
/-- over a list or a tuple -/
def iSeq (K : PySem.W.Frag) (tl : TE) : TI := fun σ H R => tl σ H fun x H1 => (∃ a, x = .ref a ∧ (∃ xs, SqL K H1 a xs) ∧ R (Itl K a) H1) ∨ (∃ a, x = .ref a ∧ (∃ xs, SqT K H1 a xs) ∧ R (Itt K a) H1)
end B

namespace B
/-! ### ratios in lowest terms -/
structure Red (r : R) : Prop where
  pos : 0 < r.2
  cop : Int.gcd r.1 r.2 = 1
theorem mkR_red {a b : Int} (hb : 0 < b) : Red (mkR a b) :=
  ⟨Int.ediv_pos_of_pos_of_dvd hb (Int.le_of_lt (gcd_posR hb)) (Int.gcd_dvd_right a b), Int.gcd_ediv_gcd_ediv_gcd (by have := gcd_posR (a := a) hb; omega)⟩
theorem mkR_uniq {a b x y : Int} (hb : 0 < b) (hy : 0 < y) (g : Int.gcd x y = 1) (e : x * b = a * y) : mkR a b = (x, y) := by
  have h1 : Int.gcd (a * y) (b * y) = Int.gcd a b * y.natAbs := Int.gcd_mul_right a y b
  have h2 : Int.gcd (x * b) (y * b) = Int.gcd x y * b.natAbs := Int.gcd_mul_right x b y
  rw [e, Int.mul_comm y b, h1, g, Nat.one_mul] at h2
  have h3 : (Int.gcd a b : Int) * y = b := by
    have z : ((Int.gcd a b * y.natAbs : Nat) : Int) = (b.natAbs : Int) := congrArg _ h2
    rw [Int.natCast_mul, Int.natAbs_of_nonneg (by omega), Int.natAbs_of_nonneg (by omega)] at z
    exact z
  have gp := gcd_posR (a := a) hb
  have h4 : a = x * (Int.gcd a b : Int) := by
    have z : x * (Int.gcd a b : Int) * y = a * y := by rw [Int.mul_assoc, h3]; exact e
    exact (Int.eq_of_mul_eq_mul_right (by omega) z).symm
  unfold mkR
  generalize (Int.gcd a b : Int) = G at h3 h4 gp
  subst h4
  subst h3
  rw [Int.mul_ediv_cancel _ (by omega), Int.mul_ediv_cancel_left _ (by omega)]
theorem cop_left {a b c : Int} (h : Int.gcd a b = 1) (d : c ∣ a) : Int.gcd c b = 1 :=
  Int.gcd_eq_one_iff.mpr fun z h1 h2 => Int.gcd_eq_one_iff.mp h z (Int.dvd_trans h1 d) h2
theorem cop_right {a b c : Int} (h : Int.gcd a b = 1) (d : c ∣ b) : Int.gcd a c = 1 := by
  rw [Int.gcd_comm]
  exact cop_left (by rw [Int.gcd_comm]; exact h) d
theorem cop_mul {a b c : Int} (h : Int.gcd a b = 1) (k : Int.gcd a c = 1) : Int.gcd a (b * c) = 1 := by
  rw [Int.gcd_mul_right_right_of_gcd_eq_one h]; exact k
theorem cop_mulL {a b c : Int} (h : Int.gcd a c = 1) (k : Int.gcd b c = 1) : Int.gcd (a * b) c = 1 := by
  rw [Int.gcd_comm]
  exact cop_mul (by rw [Int.gcd_comm]; exact h) (by rw [Int.gcd_comm]; exact k)
/-- a divisor and what is left -/
theorem gcd_parts {a b : Int} (hb : 0 < b) : ∃ g x y : Int, (Int.gcd a b : Int) = g ∧ 0 < g ∧ a = g * x ∧ b = g * y ∧ Int.gcd x y = 1 := by
  have gp := gcd_posR (a := a) hb
  obtain ⟨x, hx⟩ := Int.gcd_dvd_left a b
  obtain ⟨y, hy⟩ := Int.gcd_dvd_right a b
  refine ⟨_, x, y, rfl, gp, hx, hy, ?_⟩
  have z := Int.gcd_ediv_gcd_ediv_gcd (i := a) (j := b) (by omega)
  have e1 : a / (Int.gcd a b : Int) = x := by
    conv => lhs; lhs; rw [hx]
    exact Int.mul_ediv_cancel_left _ (by omega)
  have e2 : b / (Int.gcd a b : Int) = y := by
    conv => lhs; lhs; rw [hy]
    exact Int.mul_ediv_cancel_left _ (by omega)
  rw [e1, e2] at z
  exact z
theorem pos_of {g y b : Int} (hb : 0 < b) (hg : 0 < g) (e : b = g * y) : 0 < y := by
  rcases Int.lt_or_le 0 y with h | h
  · exact h
  · have := Int.mul_le_mul_of_nonneg_left h (Int.le_of_lt hg)
    rw [Int.mul_zero] at this
    omega
/-- the sum as it is reckoned by the divisor of the bottoms -/
def plusG (r q : R) : R :=
  let d : Int := (Int.gcd r.2 q.2 : Nat)
  let t := r.1 * (q.2 / d) + q.1 * (r.2 / d)
  let e : Int := (Int.gcd t d : Nat)
  (t / e, r.2 / d * (q.2 / e))
theorem plusG_eq {r q : R} (hr : Red r) (hq : Red q) : plusG r q = plusR r q := by
  obtain ⟨d, u, v, e0, dp, e1, e2, cuv⟩ := gcd_parts (a := r.2) hq.pos
  have up := pos_of hr.pos dp e1
  have vp := pos_of hq.pos dp e2
  obtain ⟨e, x, w, f0, ep, f1, f2, cxw⟩ := gcd_parts (a := r.1 * v + q.1 * u) dp
  have wp := pos_of dp ep f2
  have du : r.2 / d = u := by rw [e1]; exact Int.mul_ediv_cancel_left _ (by omega)
  have dv : q.2 / d = v := by rw [e2]; exact Int.mul_ediv_cancel_left _ (by omega)
  have te : (r.1 * v + q.1 * u) / e = x := by rw [f1]; exact Int.mul_ediv_cancel_left _ (by omega)
  have qe : q.2 / e = w * v := by rw [e2, f2, Int.mul_assoc]; exact Int.mul_ediv_cancel_left _ (by omega)
  have c1 : Int.gcd r.1 u = 1 := cop_right hr.cop ⟨d, by rw [e1, Int.mul_comm]⟩
  have c2 : Int.gcd q.1 v = 1 := cop_right hq.cop ⟨d, by rw [e2, Int.mul_comm]⟩
  have xd : x ∣ (r.1 * v + q.1 * u) := ⟨e, by rw [f1, Int.mul_comm]⟩
  have t1 : Int.gcd (r.1 * v + q.1 * u) u = 1 := by
    rw [Int.gcd_comm, Int.gcd_add_mul_right_right, Int.gcd_comm]
    exact cop_mulL c1 (by rw [Int.gcd_comm]; exact cuv)
  have t2 : Int.gcd (r.1 * v + q.1 * u) v = 1 := by
    rw [Int.add_comm, Int.gcd_comm, Int.gcd_add_mul_right_right, Int.gcd_comm]
    exact cop_mulL c2 cuv
  have cx : Int.gcd x (u * (w * v)) = 1 := cop_mul (cop_left t1 xd) (cop_mul cxw (cop_left t2 xd))
  have z : plusG r q = (x, u * (w * v)) := by
    unfold plusG
    simp only [e0, du, dv, f0, te, qe]
  rw [z]
  unfold plusR
  refine (mkR_uniq (Int.mul_pos hr.pos hq.pos) (Int.mul_pos up (Int.mul_pos wp vp)) cx ?_).symm
  have k : r.1 * q.2 + q.1 * r.2 = d * (e * x) := by
    rw [e1, e2, ← f1, Int.mul_add]
    rw [Int.mul_left_comm r.1 d v, Int.mul_left_comm q.1 d u]
  rw [k, e1, e2]
  have k2 : d * u * (d * v) = d * u * (e * w * v) := by rw [← f2]
  rw [k2]
  ac_rfl
def timesG (r q : R) : R :=
  let l : Int := (Int.gcd r.1 q.2 : Nat)
  let m : Int := (Int.gcd q.1 r.2 : Nat)
  (r.1 / l * (q.1 / m), r.2 / m * (q.2 / l))
theorem timesG_eq {r q : R} (hr : Red r) (hq : Red q) : timesG r q = timesR r q := by
  obtain ⟨l, a, b, e0, lp, e1, e2, cab⟩ := gcd_parts (a := r.1) hq.pos
  obtain ⟨m, c, d, f0, mp, f1, f2, ccd⟩ := gcd_parts (a := q.1) hr.pos
  have bp := pos_of hq.pos lp e2
  have dp := pos_of hr.pos mp f2
  have z : timesG r q = (a * c, d * b) := by
    unfold timesG
    simp only [e0, f0]
    rw [show r.1 / l = a by rw [e1]; exact Int.mul_ediv_cancel_left _ (by omega), show q.2 / l = b by rw [e2]; exact Int.mul_ediv_cancel_left _ (by omega),
      show q.1 / m = c by rw [f1]; exact Int.mul_ediv_cancel_left _ (by omega), show r.2 / m = d by rw [f2]; exact Int.mul_ediv_cancel_left _ (by omega)]
  have cad : Int.gcd a d = 1 := cop_left (cop_right hr.cop ⟨m, by rw [f2, Int.mul_comm]⟩) ⟨l, by rw [e1, Int.mul_comm]⟩
  have ccb : Int.gcd c b = 1 := cop_left (cop_right hq.cop ⟨l, by rw [e2, Int.mul_comm]⟩) ⟨m, by rw [f1, Int.mul_comm]⟩
  rw [z]
  unfold timesR
  refine (mkR_uniq (Int.mul_pos hr.pos hq.pos) (Int.mul_pos dp bp) (cop_mul (cop_mulL cad ccd) (cop_mulL cab ccb)) ?_).symm
  rw [e1, e2, f1, f2]
  ac_rfl
end B

namespace B
open PySem L2 PyProof.Rows
/-! ### quotients by numbers of either sign -/
def CQuoN (_ j : Int) : Prop := j ≠ 0 ∧ j.natAbs < 2 ^ 4000
theorem op_quoN {X : Cx} : OpR X (binaryOp .FloorDiv) (rI CQuoN fun i j => .int (i.fdiv j)) := opI fun i j _ _ _ _ _ hc q => by
  have h1 : j ≠ 0 := hc.1
  have h2 : j.natAbs < 2 ^ 4000 := hc.2
  refine floordiv_int h1 q (.inl (PyProof.noPylong_of_log2 ?_))
  exact Nat.lt_trans ((Nat.log2_lt (show j.natAbs ≠ 0 by omega)).mpr h2) (by decide)
/-- the ratio of any two numbers, the second not nought -/
def mkS (a b : Int) : R := if b < 0 then mkR (-a) (-b) else mkR a b
theorem mkS_pos {a b : Int} (h : 0 < b) : mkS a b = mkR a b := by unfold mkS; rw [if_neg (by omega)]
theorem fdiv_pos {a g : Int} (h : 0 < g) : a.fdiv g = a / g := Int.fdiv_eq_ediv_of_nonneg a (by omega)
theorem fdiv_negg {a g : Int} (h : 0 < g) : a.fdiv (-g) = -a / g := by
  have e : a.fdiv (-g) = (-a).fdiv g := by
    have := Int.neg_fdiv_neg (-a) g
    rw [Int.neg_neg] at this
    exact this
  rw [e, fdiv_pos h]
theorem gcd_neg2 (a b : Int) : Int.gcd (-a) (-b) = Int.gcd a b := by simp [Int.gcd]
theorem gcd_posN {a b : Int} (hb : b ≠ 0) : 0 < (Int.gcd a b : Int) := by
  have h : Int.gcd a b ≠ 0 := fun z => hb (Int.gcd_eq_zero_iff.mp z).2
  omega
theorem gcd_big {a b : Int} (hb : b ≠ 0) (hz : b.natAbs < 2 ^ 4000) : ((Int.gcd a b : Nat) : Int).natAbs < 2 ^ 4000 := by
  have z : Int.gcd a b ≤ b.natAbs := Nat.le_of_dvd (by omega) (by have := Int.gcd_dvd_right a b; exact Int.natAbs_dvd_natAbs.mpr this)
  have e : ((Int.gcd a b : Nat) : Int).natAbs = Int.gcd a b := Int.natAbs_natCast _
  omega
theorem mkS_pos1 {a b : Int} (hb : 0 < b) : (a.fdiv (Int.gcd a b : Int), b.fdiv (Int.gcd a b : Int)) = mkS a b := by
  rw [mkS_pos hb, fdiv_pos (gcd_posR hb), fdiv_pos (gcd_posR hb)]; rfl
theorem mkS_neg1 {a b : Int} (hb : b < 0) : (a.fdiv (-(Int.gcd a b : Int)), b.fdiv (-(Int.gcd a b : Int))) = mkS a b := by
  have g := gcd_posN (a := a) (b := b) (by omega)
  unfold mkS
  rw [if_pos hb, fdiv_negg g, fdiv_negg g]
  unfold mkR
  rw [gcd_neg2]
theorem mkS_wf {n : Nat} {a b : Int} (hb : b ≠ 0) (h1 : a.natAbs < 2 ^ n) (h2 : b.natAbs < 2 ^ n) : Wf n (mkS a b) := by
  unfold mkS
  split
  · exact mkR_wf (by omega) (by rw [Int.natAbs_neg]; exact h1) (by rw [Int.natAbs_neg]; exact h2)
  · exact mkR_wf (by omega) h1 h2
def minusR (r q : R) : R := mkR (r.1 * q.2 - q.1 * r.2) (r.2 * q.2)
def overR (r q : R) : R := mkS (r.1 * q.2) (r.2 * q.1)
theorem minus_wf {n m : Nat} {r q : R} (h : Wf n r) (k : Wf m q) : Wf (n + m + 1) (minusR r q) := by
  refine mkR_wf (Int.mul_pos h.pos k.pos) ?_ (Nat.lt_of_lt_of_le (mul_lt h.bot k.bot) (Nat.pow_le_pow_right (by decide) (Nat.le_succ _)))
  have a := mul_lt h.top k.bot
  have b := mul_lt k.top h.bot
  rw [Nat.add_comm m n] at b
  have e : 2 ^ (n + m + 1) = 2 * 2 ^ (n + m) := by rw [Nat.pow_succ, Nat.mul_comm]
  have := Int.natAbs_sub_le (r.1 * q.2) (q.1 * r.2)
  omega
theorem over_wf {n m : Nat} {r q : R} (h : Wf n r) (k : Wf m q) (z : q.1 ≠ 0) : Wf (n + m) (overR r q) :=
  mkS_wf (Int.mul_ne_zero (by have := h.pos; omega) z) (mul_lt h.top k.bot) (mul_lt h.bot k.top)
/-! ### lists and tuples of short things, shown -/
structure Small (d : PyData) : Prop where
  sh : d.showable = true
  nd : d.hasDict = false
  sz : d.shown.length ≤ 5000
  dp : d.depth ≤ 8
theorem small_dR {r : R} {n : Nat} (h : Wf n r) (hn : n ≤ 1900) : Small (dR r) where
  sh := (dR_shows h hn).sh
  nd := rfl
  sz := by
    have a := len_of h.top hn
    have b := len_of h.bot hn
    have q := tupleText_len_le [(PyData.int r.1).shown, (PyData.int r.2).shown]
    have e : (dR r).shown = tupleText [(PyData.int r.1).shown, (PyData.int r.2).shown] := rfl
    rw [e]
    simp only [List.map_cons, List.map_nil, List.sum_cons, List.sum_nil, List.length_cons, List.length_nil] at q
    omega
  dp := by show max 0 (max 0 0) + 1 ≤ 8; decide
end B

namespace B
theorem mkR_cross {a b : Int} (hb : 0 < b) : (mkR a b).1 * b = a * (mkR a b).2 := by
  obtain ⟨g, x, y, _, gp, e1, e2, c⟩ := gcd_parts (a := a) hb
  have yp := pos_of hb gp e2
  have e : x * b = a * y := by rw [e1, e2]; ac_rfl
  rw [mkR_uniq hb yp c e]
  exact e
theorem mkS_spec {a b : Int} (hb : b ≠ 0) : Red (mkS a b) ∧ (mkS a b).1 * b = a * (mkS a b).2 := by
  unfold mkS
  split
  · rename_i h
    refine ⟨mkR_red (by omega), ?_⟩
    have z := mkR_cross (a := -a) (b := -b) (by omega)
    rw [Int.mul_neg, Int.neg_mul] at z
    exact Int.neg_inj.mp z
  · exact ⟨mkR_red (by omega), mkR_cross (by omega)⟩
theorem mkS_uniq {a b x y : Int} (hb : b ≠ 0) (hy : 0 < y) (g : Int.gcd x y = 1) (e : x * b = a * y) : mkS a b = (x, y) := by
  unfold mkS
  split
  · refine mkR_uniq (by omega) hy g ?_
    rw [Int.mul_neg, Int.neg_mul, e]
  · exact mkR_uniq (by omega) hy g e
theorem over_eq {r q : R} (hr : Red r) (hq : q.1 ≠ 0) : timesR r (mkS q.2 q.1) = overR r q := by
  obtain ⟨hs, es⟩ := mkS_spec (a := q.2) hq
  have hp : 0 < r.2 * (mkS q.2 q.1).2 := Int.mul_pos hr.pos hs.pos
  have ht := mkR_red (a := r.1 * (mkS q.2 q.1).1) hp
  have et := mkR_cross (a := r.1 * (mkS q.2 q.1).1) hp
  unfold overR timesR
  generalize hS : mkS q.2 q.1 = s at hs es hp ht et ⊢
  generalize mkR (r.1 * s.1) (r.2 * s.2) = t at ht et ⊢
  refine (mkS_uniq (Int.mul_ne_zero (by have := hr.pos; omega) hq) ht.pos ht.cop ?_).symm
  have k : t.1 * (r.2 * q.1) * s.2 = r.1 * q.2 * t.2 * s.2 := by
    have a1 : t.1 * (r.2 * q.1) * s.2 = q.1 * (t.1 * (r.2 * s.2)) := by ac_rfl
    have a2 : r.1 * q.2 * t.2 * s.2 = r.1 * t.2 * (q.2 * s.2) := by ac_rfl
    rw [a1, et, a2, ← es]
    ac_rfl
  exact Int.eq_of_mul_eq_mul_right (by have := hs.pos; omega) k
theorem minus_eq (r q : R) : plusR r (-q.1, q.2) = minusR r q := by
  unfold plusR minusR
  rw [Int.neg_mul, ← Int.sub_eq_add_neg]
end B

namespace B
open PySem PySem.Spec L2 PyProof.Rows
/-! ### an own class of errors, made: its own __init__ behind BaseException's __new__ -/
section
variable {prog : Program} {w : World} {A : Around} {E : Value → Shared → Prop} {h : Heap} {g : Array GenState} {d : Drawn} {t : Nat} {os : OsState} {K : PySem.W.Frag}
variable {nm q : Str} {C N : Addr} {bs bm bmB : List Value} {hdct : Bool} {sn : List Str} {sub : List Value} {ab : Bool} {col : Option Bool} {dd : Option Addr} {k0 k1 k2 k3 k5 : Option Value} {bN newId initId : String}
theorem exc_typecall (F : ExcBaseFacts bN newId initId bmB) (T : OwnTail h bmB bm) {rest : List Value} {fI : Addr} {Q : Fin → Shared → Prop} (X : K.In h)
    (hC : h.get? C = some (excClassObj nm q C N bs bm hdct sn sub ab col dd k0 k1 k2 k3 k5 newId)) (hi : PySem.W.findIn K (.ref C) "__init__" = some (some (.ref fI))) (hf : PySem.W.typeIn K (.ref fI) = some (.type "function"))
    (hq : ∀ h' e, Heap.MadeExcOf h h' e (.ref C) rest → wpAny (model prog w) A (call (.ref fI) (.ref e :: rest)) (fun r s' => r = .none ∧ Q (.done (.ret (.ref e))) s') E ⟨h', g, d, t, os⟩) (hz : rest.length ≤ sizeLine) :
    wpAny (model prog w) A (Builtin.«type.__call__» ⟨.ref C :: rest, []⟩) Q E ⟨h, g, d, t, os⟩ := by
  repeat (first
    | with_reducible refine wpAny_loadPart_at hC ?_
    | with_reducible refine wpAny_madeBy_exc hC ?_
    | wp_step)
  refine codeAny_call_builtin_code (Code.quiet_builtin _ F.quiet)
    (wpAny_check_new_subT F T hC ?_)
  refine codeAny_exc_new_subT F T hC ?_ hz
  show wpAny _ _ _ _ _ _
  have up : ∀ b o, h.get? b = some o → ((h.push { cls := .type "tuple", data := .seq rest.toArray }).push
      { cls := .ref C, data := .fields #[.ref h.objs.size, .none, .none, .none, .bool false, .none] }).get? b = some o := fun b o e =>
    Heap.get?_push_of_some _ (Heap.get?_push_of_some _ e)
  have hC₁ := up _ _ hC
  have X₁ := X.keeps up
  have hx : ((h.push { cls := .type "tuple", data := .seq rest.toArray }).push
      { cls := .ref C, data := .fields #[.ref h.objs.size, .none, .none, .none, .bool false, .none] }).get? (h.objs.size + 1) =
      some { cls := .ref C, data := .fields #[.ref h.objs.size, .none, .none, .none, .bool false, .none] } := by heap_get
  have hcC : (Value.ref C :: bm).contains (.ref C) = true := by simp
  unfold isInstance
  repeat (first
    | with_reducible refine wpAny_loadPart_at hx ?_
    | (with_reducible refine wpAny_isSubtype_exc hC₁ ?_
       rw [hcC])
    | wp_step)
  show wpAny _ _ (typeLookup (.ref C) _) _ _ _
  refine (PySem.W.looks_findIn X₁ hi) _ _ _ _ (fun _ _ e => e) ?_
  refine wpAny_holding (wpAny_bind ?_)
  refine (PySem.W.bind_fn X₁ _ hf) _ _ _ _ (fun _ _ e => e) ?_
  refine wpAny_bind (wpAny_mono (hq _ (h.objs.size + 1)
    ⟨up, Heap.get?_none_of_le (Nat.le_succ _), h.objs.size, hx, Heap.get?_none_of_le (Nat.le_refl _), ?_⟩) (fun r s' hr => ?_) fun _ _ y => y)
  · exact Heap.get?_push_of_some _ (Heap.get?_push_at rfl rfl)
  · obtain ⟨rfl, hQ⟩ := hr
    wp_walk
    exact hQ
theorem exc_call (F : ExcBaseFacts bN newId initId bmB) (T : OwnTail h bmB bm) {rest : List Value} {fI : Addr} {Q : Value → Shared → Prop} (X : K.In h)
    (hC : h.get? C = some (excClassObj nm q C N bs bm hdct sn sub ab col dd k0 k1 k2 k3 k5 newId)) (hi : PySem.W.findIn K (.ref C) "__init__" = some (some (.ref fI))) (hf : PySem.W.typeIn K (.ref fI) = some (.type "function"))
    (hq : ∀ h' e, Heap.MadeExcOf h h' e (.ref C) rest → wpAny (model prog w) (A.under (.builtin "type.__call__" ⟨.ref C :: rest, []⟩)) (call (.ref fI) (.ref e :: rest)) (fun r s' => r = .none ∧ Q (.ref e) s') E ⟨h', g, d, t, os⟩) (hz : rest.length ≤ sizeLine) :
    wpAny (model prog w) A (call (.ref C) rest) Q E ⟨h, g, d, t, os⟩ := by
  have f1 := tc_lookup
  have f2 := tc_bind (.ref C)
  have hT : (⟨h, g, d, t, os⟩ : Shared).TypeIs (.ref C) "type" := ⟨_, hC, rfl⟩
  refine wpAny_call (codeAny_of_tree ?_)
  show wpAny _ _ (callAny (.ref C) _) _ _ _
  repeat (any_goals (first
    | assumption
    | with_reducible refine wpAny_loadPart_at hC ?_
    | wp_step))
  refine ⟨rfl, ?_⟩
  refine codeAny_call_builtin_at (Code.quiet_builtin _ (by decide +kernel)) entry_typeCall
    (wpAny_check_type_call_sub hC (exc_typecall F T X hC hi hf (fun h' e hm => ?_) hz))
  exact hq h' e hm
end
end B
namespace B
open PySem PySem.Spec L2 PyProof.Rows
def vMro : List Value := [.type "ValueError", .type "Exception", .type "BaseException", .type "object"]
/-- what storing into an error asks of its class -/
structure ClsX (K : PySem.W.Frag) (C : Addr) (bm : List Value) : Prop where
  ob : ∃ nm q N bs hdct sn sub ab col dd k0 k1 k2 k3 k5, K.lookup C = some (excClassObj nm q C N bs bm hdct sn sub ab col dd k0 k1 k2 k3 k5 "ValueError.__new__")
  tl : ∀ h : Heap, K.In h → OwnTail h vMro bm
  hd : PySem.W.hasDictIn K C = true
  sa : PySem.W.findIn K (.ref C) "__setattr__" = some (some (.builtin "object.__setattr__"))
theorem lets_by {h : Heap} {tl : List Value} (T : OwnTail h vMro tl) (self : Value) : refuseLoop self "__setattr__" tl = pure () := by
  induction T with
  | base => exact PySem.F.store_ValueError.passes self
  | own _ _ _ _ ih => rw [refuseLoop_ref]; exact ih
theorem clsX_cls {K : PySem.W.Frag} {C : Addr} {bm : List Value} (c : ClsX K C bm) : ∃ cd, PySem.W.clsIn K C = some cd ∧ cd.mro = .ref C :: bm := by
  obtain ⟨nm, q, N, bs, hdct, sn, sub, ab, col, dd, k0, k1, k2, k3, k5, lk⟩ := c.ob
  unfold PySem.W.clsIn
  rw [lk]
  exact ⟨_, rfl, rfl⟩
section
variable {prog : Program} {w : World} {A : Around} {s : Shared} {K : PySem.W.Frag} {x C : Addr} {R : Result → Shared → Prop}
theorem store_err {ox : Obj} {od : Option Obj} {name : Str} {tk : Tok} {v : Value} {bm : List Value} (X : K.In s.heap) (I : PySem.W.InstAt s.heap x ox C od) (c : ClsX K C bm) (n : NoAttr K C name)
    (h : ∀ b, wpAny (model prog w) A.in1 (Builtin.ObjectAttr.storeInOwnDict (.ref x) (.ref C) (.str name tk) name v b) (fun fin s' => match fin with
      | .done f => R (.ok f) s'
      | .again c' => c'.quiet = true ∧ codeAny (model prog w) A c' R s') (fun e s' => R (.error e) s') s) :
    codeAny (model prog w) A (.call (.builtin "object.__setattr__") ⟨[.ref x, .str name tk, v], []⟩) R s := by
  have sf := PySem.F.store_object
  obtain ⟨cd, hc, hm⟩ := clsX_cls c
  have T := c.tl _ X
  have hob : (Value.ref C :: bm).contains (.type "object") = true := by
    rw [List.contains_cons, T.hasType (X := "object") (b := true) (by decide +kernel), Bool.or_true]
  have isO : PySem.W.Looks (model prog w) s.heap (isInstance (.ref x) (.type "object")) true := by
    refine I.type.andThen (PySem.W.looks_mroIn X ?_)
    unfold PySem.W.mroIn
    rw [hc]
    show (if cd.mro.isEmpty = true then none else some (cd.mro.contains (.type "object"))) = some true
    rw [hm, hob]; rfl
  have ms : PySem.W.Looks (model prog w) s.heap (mroOf (.ref C)) (.ref C :: bm) := by
    rw [← hm]; exact (PySem.W.looks_clsIn X hc).andThen .now
  refine codeAny_call_builtin sf.slot.plain sf.entry (PySem.W.check_slot (i := "object.__setattr__") (owner := "object") (n := "__setattr__") sf.kind sf.split isO (sf.args _ _ _) ?_)
  rw [PySem.W.osa_eq, refuse_eq]
  refine wpAny_bind (wpAny_bind (I.type.here (wpAny_bind (ms.here ?_))))
  rw [refuseLoop_ref, lets_by T]
  refine wpAny_pure (wpAny_bind (I.type.here (wpAny_bind ((PySem.W.looks_findIn X n).here (wpAny_bind ?_)))))
  exact PySem.W.Looks.here (r := none) .now (h _)
end
/-! ### an error as a tracked thing -/
def ExcO (a C : Addr) (dx : Option Addr) : Heap → Prop := fun h => ∃ t : Addr, h.get? a = some { cls := .ref C, dict := dx, data := .fields #[.ref t, .none, .none, .none, .bool false, .none] }
def exO (a C : Addr) (dx : Option Addr) : HO := .ext (ExcO a C dx)
theorem exO_ok {P : Program} {w : World} {H : Hp} {h : Heap} {a C : Addr} {dx : Option Addr} (e : ExcO a C dx h) : ObjOk P w H h a (exO a C dx) :=
  ⟨e, let ⟨_, q⟩ := e; ⟨_, q⟩, fun _ _ ⟨t, q⟩ k => ⟨t, k _ q⟩⟩
/-- no longer tracked -/
def del (H : Hp) (a : Addr) : Hp := fun b => if b = a then none else H b
theorem del_same {H : Hp} {a : Addr} : del H a a = none := by unfold del; rw [if_pos rfl]
theorem del_ne {H : Hp} {a b : Addr} (h : b ≠ a) : del H a b = H b := by unfold del; rw [if_neg h]
section
variable {X : Cx} {pins : List (Addr × Obj)} {σ : L2.St} {H : Hp} {s : Shared} {a C : Addr} {dx : Option Addr}
theorem Inv.forget {φ : Heap → Prop} (I : L2.Inv X pins σ H s) (e : H a = some (.ext φ)) (new : X.s₀.heap.get? a = none) : L2.Inv X pins σ (del H a) s := by
  have none_of : ∀ b, H b = none → del H a b = none := fun b h => by
    by_cases z : b = a
    · rw [z]; exact del_same
    · rw [del_ne z]; exact h
  refine ⟨I.ok, I.os, I.bare, ⟨I.base.keep, I.base.slot, fun b o q n hx => none_of b (I.base.free b o q n hx), I.base.there, fun b xs q => ?_, fun b o u q => ?_, fun b ps q => ?_⟩, I.loc, I.cell, none_of _ I.free, fun x c q => none_of _ (I.freeC x c q), fun p hp => ?_, fun b o q => ?_, I.len⟩
  · have z := I.base.tups b xs q
    rw [del_ne (fun k => by rw [k, e] at z; cases z)]; exact z
  · have z := I.base.frzs b o u q
    rw [del_ne (fun k => by rw [k, e] at z; cases z)]; exact z
  · obtain ⟨m, z⟩ := I.base.tbls b ps q
    exact ⟨m, by rw [del_ne (fun k => by rw [k, e] at z; cases z)]; exact z⟩
  · obtain ⟨p1, p2, p3⟩ := I.pin p hp
    exact ⟨p1, none_of _ p2, p3⟩
  · have nb : b ≠ a := fun z => by rw [z, del_same] at q; cases q
    rw [del_ne nb] at q
    refine (I.hok b o q).stay (fun c u _ z => z) (fun c z => ?_) (fun c xs z => ?_)
    · rw [del_ne (fun k => by rw [k, e] at z; cases z)]; exact z
    · rw [del_ne (fun k => by rw [k, e] at z; cases z)]; exact z
end
end B

namespace B
open PySem PySem.Spec L2 PyProof.Rows
theorem ObjOk.get {P : Program} {w : World} {H : Hp} {h : Heap} {a : Addr} {o : HO} (x : L2.ObjOk P w H h a o) : ∃ u, h.get? a = some u := by
  cases o with
  | lst xs => obtain ⟨_, _, _, _, e⟩ := x; exact ⟨_, e⟩
  | tup xs => obtain ⟨_, _, _, o, e, _⟩ := x; exact ⟨_, e⟩
  | dK kvs => obtain ⟨_, _, _, _, o, _, _, e, _⟩ := x; exact ⟨_, e⟩
  | dT kvs => obtain ⟨_, _, _, _, o, _, _, e, _⟩ := x; exact ⟨_, e⟩
  | set S n => obtain ⟨o, _, _, _, e, _⟩ := x; exact ⟨_, e⟩
  | ins C dx fs => obtain ⟨_, _, _, e, _⟩ := x; exact ⟨_, e⟩
  | own y => exact x
  | xd fs => obtain ⟨_, ⟨_, _, _, e, _⟩, _⟩ := x; exact ⟨_, e⟩
  | rng lo hi => obtain ⟨_, _, _, e⟩ := x; exact ⟨_, e⟩
  | frz ob u => obtain ⟨e, _⟩ := x; exact ⟨_, e⟩
  | tbl ps => exact ⟨_, show h.get? a = some _ from x⟩
  | met f y => exact ⟨_, show h.get? a = some _ from x⟩
  | ext φ => exact x.2.1
/-- an error that has left a frame: its record and its newest entry -/
def Trc (h : Heap) (H : Hp) (x C T : Addr) (a0 : Value) : Prop :=
  ∃ oe vs oT ts, h.get? x = some oe ∧ oe.cls = .ref C ∧ vs[0]? = some a0 ∧ oe.data = .fields vs ∧ vs[1]? = some (.ref T) ∧ H T = none ∧ T ≠ x ∧ h.get? T = some oT ∧ oT.data = .fields ts ∧ ts[3]? = some .none
/-- how an error lies behind a call -/
def CXR (P : Program) (w : World) : CXT := fun outer H s E e s' => ∃ (x C T : Addr) (a0 : Value) (H' : Hp), e = .ref x ∧ s'.os = s.os ∧ AllBare s'.gens ∧ Un (frs outer) [] H H' s.heap s'.heap ∧ HOk P w H' s'.heap ∧ s.heap.get? x = none ∧ s.heap.get? T = none ∧ H' x = none ∧
  Trc s'.heap H' x C T a0 ∧ E (.ref C) none H'
/-- an address that nothing of the context stands at -/
structure NewAt (X : Cx) (pins : List (Addr × Obj)) (a : Addr) : Prop where
  st : X.s₀.heap.get? a = none
  lo : a ≠ X.env.locals
  ce : ∀ x c, X.env.cells.lookup x = some c → c ≠ a
  pi : ∀ p ∈ X.pn ++ pins, p.1 ≠ a
  fr : a ∉ frs X.stack
section
variable {X : Cx} {pins : List (Addr × Obj)} {σ : L2.St} {H H' : Hp} {s : Shared} {a : Addr}
theorem Inv.newAt (I : L2.Inv X pins σ H s) (hex : X.ex = []) (h : s.heap.get? a = none) : NewAt X pins a where
  st := by
    cases e : X.s₀.heap.get? a with
    | none => rfl
    | some o =>
      obtain ⟨o', q⟩ := I.base.there a o e (by rw [hex]; simp)
      rw [h] at q; cases q
  lo := fun z => by
    obtain ⟨m, ⟨o, _, _, q, _⟩, _⟩ := I.loc
    rw [← z, h] at q; cases q
  ce := fun x c e z => by
    obtain ⟨v, o, q, _⟩ := I.cell x c e
    rw [z, h] at q; cases q
  pi := fun p hp z => by
    obtain ⟨q, _⟩ := I.pin p hp
    rw [z, h] at q; cases q
  fr := fun z => by
    obtain ⟨_, o, q, _⟩ := I.stack.mem z
    rw [h] at q; cases q
end
end B

namespace B
open PySem PySem.Spec L2 PyProof.Rows
section
variable {X : Cx} {pins : List (Addr × Obj)} {σ : L2.St} {H : Hp} {s : Shared} {a : Addr} {o : HO}
/-- a new thing of the heap is tracked from here on -/
theorem Inv.adopt (I : L2.Inv X pins σ H s) (na : NewAt X pins a) (ha : H a = none) (hex : X.ex = []) (new : L2.ObjOk X.prog X.w (upd H a o) s.heap a o) : L2.Inv X pins σ (upd H a o) s := by
  have keep : ∀ b u, H b = some u → upd H a o b = some u := fun b u q => by rw [upd_ne (ne_of_none q ha)]; exact q
  have nn : ∀ b, b ≠ a → H b = none → upd H a o b = none := fun b nb q => by rw [upd_ne nb]; exact q
  refine ⟨I.ok, I.os, I.bare, ⟨I.base.keep, I.base.slot, fun b u q n hx => nn b (fun z => by rw [z, na.st] at q; cases q) (I.base.free b u q n hx), I.base.there, fun b xs q => keep _ _ (I.base.tups b xs q), fun b u v q => keep _ _ (I.base.frzs b u v q), fun b ps q => ?_⟩, I.loc, I.cell, nn _ na.lo.symm I.free, fun x c q => nn _ (na.ce x c q) (I.freeC x c q), fun p hp => ?_, fun b u q => ?_, I.len⟩
  · obtain ⟨m, z⟩ := I.base.tbls b ps q
    exact ⟨m, keep _ _ z⟩
  · obtain ⟨p1, p2, p3⟩ := I.pin p hp
    exact ⟨p1, nn _ (na.pi p hp) p2, p3⟩
  · by_cases z : b = a
    · subst z
      rw [upd_same] at q; cases q
      exact new
    · rw [upd_ne z] at q
      exact (I.hok b u q).stay (fun c v _ w => w) (fun c w => keep _ _ w) (fun c xs w => keep _ _ w)
theorem Inv.none_of (I : L2.Inv X pins σ H s) (h : s.heap.get? a = none) : H a = none := by
  cases q : H a with
  | none => rfl
  | some o => obtain ⟨u, z⟩ := ObjOk.get (I.hok a o q); rw [h] at z; cases z
end
/-- what of the text an own class of errors must have: C with its __init__ f, straight under P0, that one under ValueError -/
structure XC (K : PySem.W.Frag) (C f : Addr) (bm : List Value) : Prop where
  ob : ∃ nm q N bs hdct sn sub ab col dd k0 k1 k2 k3 k5, K.lookup C = some (excClassObj nm q C N bs bm hdct sn sub ab col dd k0 k1 k2 k3 k5 "ValueError.__new__")
  tl : ∀ h : Heap, K.In h → OwnTail h vMro bm
  init : PySem.W.findIn K (.ref C) "__init__" = some (some (.ref f))
  fn : PySem.W.typeIn K (.ref f) = some (.type "function")
  kp : PySem.W.keepIn K (.ref C) = true
  cl : ClsX K C bm
section
variable {X : Cx} {k : Nat} {f C : Addr} {fd : FuncData} {ps : List Str} {sp : Sp} {bm : List Value}
theorem run_exc {pins : List (Addr × Obj)} {σ : L2.St} {H : Hp} {s : Shared} {Q : Addr → Hp → Prop} {us : List Value} {vs : List V} {E' : Value → Shared → Prop} (M : XC X.K C f bm) (hex : X.ex = []) (F : FnOk X.prog X.w X.K X.mg X.base CX0 k f fd ps sp) (hr : Room (k + 1) X.A) (hb : Binds X.K fd ps [])
    (I : L2.Inv X pins σ H s) (r : Vals vs us) (hz : us.length ≤ sizeLine) (h : ∀ a, H a = none → sp (.ref a :: vs) (upd H a (exO a C none)) (fun v H2 => v = .non ∧ Q a H2) E0) :
    wpAny (model X.prog X.w) X.A (call (.ref C) us) (fun v s' => ∃ a H', v = .ref a ∧ NewAt X pins a ∧ L2.Inv X pins σ H' s' ∧ Q a H') E' s := by
  obtain ⟨nm, q, N, bs, hdct, sn, sub, ab, col, dd, k0, k1, k2, k3, k5, lk⟩ := M.ob
  obtain ⟨hp, g, d, t, os⟩ := s
  refine exc_call PySem.F.excBase_ValueError (M.tl hp I.kIn) I.kIn (I.kIn _ _ lk) M.init M.fn (fun h' e hm => ?_) hz
  have na := B.Inv.newAt I hex hm.new
  have he := B.Inv.none_of I hm.new
  obtain ⟨tt, ho, _⟩ := hm.there
  have I1 : L2.Inv X pins σ H ⟨h', g, d, t, os⟩ := I.kept (t' := t) hm.keeps
  have I2 : L2.Inv X pins σ (upd H e (exO e C none)) ⟨h', g, d, t, os⟩ := B.Inv.adopt I1 na he hex (exO_ok ⟨tt, ho⟩)
  have hq := h e he
  have r2 : Vals (V.ref e :: vs) (Value.ref e :: us) := .cons rfl r
  have hl : (Value.ref e :: us).length = ps.length := by
    have z := r2.length
    rw [F.len _ _ _ _ hq] at z
    exact z.symm
  have hbd := hb ⟨h', g, d, t, os⟩ (Value.ref e :: us) I2.kIn (by rw [List.append_nil]; exact hl)
  rw [List.append_nil] at hbd
  refine wpAny_call (codeAny_mono (F.run _ X.stack _ _ ⟨Value.ref e :: us, []⟩ (Value.ref e :: us) _ _ E0 (hr.make C us []) (I2.env0.make C us []) hbd r2 hq) fun r s' hq' => ?_)
  cases r with
  | error e => exact False.elim hq'
  | ok fl =>
    cases fl with
    | ret u =>
      obtain ⟨v, H', I3, rv, ev, q3⟩ := I2.after hq'
      subst ev
      exact ⟨rv, e, H', rfl, na, I3, q3⟩
    | next => exact False.elim hq'
    | brk => exact False.elim hq'
    | cont => exact False.elim hq'
/-- the context takes an error that is made in it -/
def Takes (X : Cx) (E : XK) : Prop := ∀ (pins : List (Addr × Obj)) (σ : L2.St) (H : Hp) (s : Shared) (a C : Addr) (oe : Obj) (vs : Array Value) (a0 : Value), L2.Inv X pins σ H s → H a = none → NewAt X pins a → s.heap.get? a = some oe → oe.data = .fields vs →
  vs[0]? = some a0 → vs[1]? = some .none → oe.cls = .ref C → E (.ref C) none H → X.xe (.ref a) s
/-- raise, of an error just made -/
theorem raise_own {M : Model} {A : Around} {E : Value → Shared → Prop} {env : Env} {nm q : Str} {N : Addr} {bs : List Value} {hdct : Bool} {sn : List Str} {sub : List Value} {ab : Bool} {col : Option Bool} {dd : Option Addr} {k0 k1 k2 k3 k5 : Option Value} {newId : String}
    {s : Shared} {x : Sem Value} {Q : Flow → Shared → Prop} (hbase : bm.contains (.type "BaseException") = true) (hh : A.handled = none)
    (h : wpAny M A x (fun v s₁ => ∃ e t dx, v = .ref e ∧ s₁.heap.get? C = some (excClassObj nm q C N bs bm hdct sn sub ab col dd k0 k1 k2 k3 k5 newId) ∧
      s₁.heap.get? e = some { cls := .ref C, dict := dx, data := .fields #[.ref t, .none, .none, .none, .bool false, .none] } ∧ E (.ref e) s₁) E s) :
    wpAny M A (raiseStmt env (some x) none) Q E s := by
  have hcB : (Value.ref C :: bm).contains (.type "BaseException") = true := by rw [List.contains_cons, hbase, Bool.or_true]
  unfold raiseStmt
  refine wpAny_bind (wpAny_mono h (fun v s₁ h₁ => ?_) fun _ _ y => y)
  obtain ⟨e, t, dx, rfl, hC, he, hE⟩ := h₁
  obtain ⟨hp, g, d, tk, os⟩ := s₁
  repeat (first
    | with_reducible refine wpAny_loadPart_at he ?_
    | with_reducible refine wpAny_loadPart_at hC ?_
    | (with_reducible refine wpAny_isSubtype_exc hC ?_
       rw [hcB])
    | wp_step)
  exact wpAny_raiseNew_none hh hE
/-- raise C(e, ..) -/
def tRaise (C : Addr) (sp : Sp) (E : XK) (t : TA) : TS := fun _ σ H => t σ H fun vs H1 => vs.length ≤ sizeLine ∧ ∀ a, H1 a = none → sp (.ref a :: vs) (upd H1 a (exO a C none)) (fun v H2 => v = .non ∧ (∃ dx, H2 a = some (exO a C dx)) ∧ E (.ref C) none (del H2 a)) E0
end
end B

namespace B
open PySem PySem.Spec L2 PyProof.Rows
/-! ### try: a callee's error is caught -/
section
variable {X : Cx} {pins : List (Addr × Obj)} {σ : L2.St} {H : Hp} {s : Shared} {a C T : Addr} {a0 : Value}
end
/-- the names forgotten -/
def hid (N : List Str) : L2.St := List.replicate N.length none
theorem hid_weak {X : Cx} {pins : List (Addr × Obj)} {σ : L2.St} {H : Hp} {s : Shared} (I : L2.Inv X pins σ H s) : L2.Inv X pins (hid X.N) H s :=
  I.weak (by rw [I.len]; exact List.length_replicate) fun i v q => by
    unfold hid at q
    rw [List.getElem?_replicate] at q
    split at q <;> cases q
/-- how an error flies in a try's body -/
def Fly (X : Cx) (pins : List (Addr × Obj)) (R : Addr → Hp → Prop) : Value → Shared → Prop := fun e s => ∃ (x C T : Addr) (a0 : Value) (H : Hp), e = .ref x ∧ L2.Inv X pins (hid X.N) H s ∧ H x = none ∧ NewAt X pins x ∧ NewAt X pins T ∧ Trc s.heap H x C T a0 ∧ R C H
/-- a try's body -/
def inTry (X : Cx) (pins : List (Addr × Obj)) (R : Addr → Hp → Prop) : Cx := { X with pn := X.pn ++ pins, xe := Fly X pins R }
/-- an except's suite -/
def inExc (X : Cx) (e : Addr) : Cx := { X with A := X.A.mark (some (.ref e)), calm := false, xe := fun _ _ => False }
section
variable {X : Cx} {pins pins' : List (Addr × Obj)} {σ : L2.St} {H : Hp} {s : Shared} {R : Addr → Hp → Prop} {e : Addr}
theorem toExc (I : L2.Inv X pins σ H s) : L2.Inv (inExc X e) pins σ H s :=
  ⟨⟨I.ok.mod, I.ok.kind, I.ok.glob, I.ok.blt, I.ok.above, I.ok.inj, I.ok.has, I.ok.cab, (fun z => nomatch z), I.ok.frames, I.ok.stk, I.ok.exf, I.ok.bs, I.ok.bsz, I.ok.noex, I.ok.exfs, I.ok.funs, I.ok.frf⟩, I.os, I.bare, I.base, I.loc, I.cell, I.free, I.freeC, I.pin, I.hok, I.len⟩
theorem ofExc (ok : X.Ok) (I : L2.Inv (inExc X e) pins σ H s) : L2.Inv X pins σ H s :=
  ⟨ok, I.os, I.bare, I.base, I.loc, I.cell, I.free, I.freeC, I.pin, I.hok, I.len⟩
end
/-- try: body except C: suite, where the error is always one of C -/
def tTry (N : List Str) (R : Addr → Hp → Prop) (Ok : Addr → Prop) (tb : TS) (th : TS) : TS := fun D σ H => tb D σ H ∧ ∀ C H', R C H' → Ok C ∧ th D (hid N) H'
section
variable {X : Cx} {R : Addr → Hp → Prop} {body : List Stmt} {b₀ : Stmt} {suite : List Stmt} {x : Str} {p hpos pos : Pos} {u : Value} {tb th : TS}
end
/-! ### e.f = v, in an error's __init__ -/
section
variable {X : Cx} {o value : Expr} {f : Str} {ta tv : TE} {pos' pos : Pos}
def sFldX (K : PySem.W.Frag) (ta tv : TE) (f : Str) : TS := fun D σ H => tv σ H fun _ H1 => ta σ H1 fun x H2 => ∃ a C bm, x = .ref a ∧ H2 a = some (exO a C none) ∧ ClsX K C bm ∧ NoAttr K C f ∧ ∀ d, D.nx σ (upd H2 a (exO a C (some d)))
end
end B
namespace B
open PySem PySem.Spec L2 PyProof.Rows
def EofR (R : Addr → Hp → Prop) : XK := fun v _ H => ∃ C, v = .ref C ∧ R C H
theorem vm_has (a : Addr) : (Value.ref a :: vMro).contains (.type "BaseException") = true := by rw [List.contains_cons, (by decide +kernel : vMro.contains (.type "BaseException") = true), Bool.or_true]
def strKeysB (es : Array DictEntry) : Bool := es.toList.all fun e => match e.key with
  | .str _ _ => true
  | _ => false
theorem strKeys_of {es : Array DictEntry} (h : strKeysB es = true) : StrKeys es := fun e he => by
  have z := List.all_eq_true.mp h e (Array.mem_toList_iff.mpr he)
  revert z
  cases e.key <;> intro z <;> first | exact ⟨_, _, rfl⟩ | (cases z)
/-- the facts of an own class of errors -/
theorem xc_mk {K : PySem.W.Frag} {C f B0 NB : Addr} {nm q nmB qB : Str} {N : Addr} {bs bsB : List Value} {hdct hdctB : Bool} {sn snB : List Str} {sub subB : List Value} {ab abB : Bool} {col colB : Option Bool} {dd ddB : Option Addr} {k0 k1 k2 k3 k5 j0 j1 j2 j3 j5 : Option Value}
    {oc : Value} {od : Option Addr} {es : Array DictEntry} {n : Nat} {sl : Array (Option Value)}
    (lc : K.lookup C = some (excClassObj nm q C N bs (.ref B0 :: [.type "ValueError", .type "Exception", .type "BaseException", .type "object"]) hdct sn sub ab col dd k0 k1 k2 k3 k5 "ValueError.__new__"))
    (lb : K.lookup B0 = some (excClassObj nmB qB B0 NB bsB [.type "ValueError", .type "Exception", .type "BaseException", .type "object"] hdctB snB subB abB colB ddB j0 j1 j2 j3 j5 "ValueError.__new__"))
    (ln : K.lookup NB = some ⟨oc, od, .dict es n, sl⟩) (hs : strKeysB es = true) (hn : (nsFind es "__init__").isNone = true)
    (fi : PySem.W.findIn K (.ref C) "__init__" = some (some (.ref f))) (ti : PySem.W.typeIn K (.ref f) = some (.type "function")) (kc : PySem.W.keepIn K (.ref C) = true) (hh : PySem.W.hasDictIn K C = true) (sa : PySem.W.findIn K (.ref C) "__setattr__" = some (some (.builtin "object.__setattr__"))) : XC K C f (.ref B0 :: vMro) :=
  have ob : ∃ nm q N bs hdct sn sub ab col dd k0 k1 k2 k3 k5, K.lookup C = some (excClassObj nm q C N bs (.ref B0 :: vMro) hdct sn sub ab col dd k0 k1 k2 k3 k5 "ValueError.__new__") := ⟨_, _, _, _, _, _, _, _, _, _, _, _, _, _, _, lc⟩
  have tl : ∀ h : Heap, K.In h → OwnTail h vMro (.ref B0 :: vMro) := fun h X => .own (X _ _ lb) ⟨_, es, n, X _ _ ln, rfl, strKeys_of hs, fun _ => rfl⟩ (Option.isNone_iff_eq_none.mp hn) .base
  ⟨ob, tl, fi, ti, kc, ob, tl, hh, sa⟩
end B

namespace B
open PySem PySem.Spec L2 PyProof.Rows
/-! ### what an error's attribute is -/
/-- what reading of an error asks of its class -/
structure GetX (K : PySem.W.Frag) (C : Addr) : Prop where
  ga : PySem.W.findIn K (.ref C) "__getattribute__" = some (some (.builtin "BaseException.__getattribute__"))
  gn : PySem.W.findIn K (.ref C) "__getattr__" = some none
  cl : PySem.W.findIn K (.ref C) "__class__" = some (some (.builtin "object.__class__"))
  cg : PySem.W.specialIn K (.builtin "object.__class__") "__get__" = some (some (.builtin "getset_descriptor.__get__"))
  ct : PySem.W.takesIn K (.builtin "object.__class__") = some true
section
variable {prog : Program} {w : World} {A : Around} {E : Value → Shared → Prop} {s : Shared} {K : PySem.W.Frag} {x C : Addr} {ox : Obj} {odo : Option Obj} {bm : List Value} {name : Str} {tk : Tok} {R : Result → Shared → Prop}
theorem err_open {fill ex : Bool} {Q : Value → Shared → Prop} (X : K.In s.heap) (I : PySem.W.InstAt s.heap x ox C odo) (g : GetX K C)
    (h : codeAny (model prog w) A (.call (.builtin "BaseException.__getattribute__") ⟨[.ref x, .str name tk], []⟩) (fun r s' => ∃ v, r = .ok (.ret v) ∧ PySem.W.handedIn v = true ∧ Q v s') s) :
    wpAny (model prog w) A (getAttrBy (.ref x) (.str name tk) fill ex) Q E s := by
  have FB := PySem.F.attrBase_ValueError
  unfold getAttrBy
  refine wpAny_holding (wpAny_bind (I.type.here (wpAny_bind ((PySem.W.looks_findIn X g.ga).here ?_))))
  have e2 : (Value.builtin "BaseException.__getattribute__" == Value.builtin "object.__getattribute__") = false := by decide +kernel
  dsimp only
  rw [e2, Bool.and_false, if_neg Bool.false_ne_true]
  unfold getAttrByItsOwn hookBefore
  rw [if_pos (show onTheHeap (Value.ref C) = true from rfl)]
  refine wpAny_bind ((PySem.W.looks_findIn X g.gn).here (wpAny_bind (wpAny_attempt (wpAny_holding ?_))))
  unfold callGetattribute
  rw [if_neg (by cases ex <;> decide)]
  unfold boundAndCalled
  rw [FB.ga.bind (.ref x)]
  refine wpAny_bind (wpAny_pure (wpAny_call (codeAny_mono h fun r s' hq => ?_)))
  obtain ⟨v, rfl, hh, q⟩ := hq
  exact PySem.W.handed_on hh q
theorem isB {X : K.In s.heap} (I : PySem.W.InstAt s.heap x ox C odo) (c : ClsX K C bm) (T : String) (hT : vMro.contains (.type T) = true) : PySem.W.Looks (model prog w) s.heap (isInstance (.ref x) (.type T)) true := by
  obtain ⟨cd, hc, hm⟩ := clsX_cls c
  have hob : (Value.ref C :: bm).contains (.type T) = true := by
    rw [List.contains_cons, (c.tl _ X).hasType (X := T) (b := true) hT, Bool.or_true]
  refine I.type.andThen (PySem.W.looks_mroIn X ?_)
  unfold PySem.W.mroIn
  rw [hc]
  show (if cd.mro.isEmpty = true then none else some (cd.mro.contains (.type T))) = some true
  rw [hm, hob]; rfl
theorem err_body (X : K.In s.heap) (I : PySem.W.InstAt s.heap x ox C odo) (c : ClsX K C bm)
    (h : wpAny (model prog w) A.in1 (Builtin.«object.__getattribute__» ⟨[.ref x, .str name tk], []⟩) (fun fin s' => match fin with
      | .done f => R (.ok f) s'
      | .again c' => c'.quiet = true ∧ codeAny (model prog w) A c' R s') (fun e s' => R (.error e) s') s) :
    codeAny (model prog w) A (.call (.builtin "BaseException.__getattribute__") ⟨[.ref x, .str name tk], []⟩) R s := by
  have FB := PySem.F.attrBase_ValueError
  exact codeAny_call_builtin FB.ga.plain PySem.F.entry_bexc_ga (PySem.W.check_slot (i := "BaseException.__getattribute__") (owner := "BaseException") (n := "__getattribute__") (by decide +kernel) (by decide +kernel) (isB (X := X) I c "BaseException" (by decide +kernel)) (PySem.F.args_bexc_ga _ _) h)
theorem err_val {v : Value} (X : K.In s.heap) (I : PySem.W.InstAt s.heap x ox C odo) (c : ClsX K C bm) (hf : PySem.W.findObj K C odo name = some (.value v)) (h : R (.ok (.ret v)) s) :
    codeAny (model prog w) A (.call (.builtin "BaseException.__getattribute__") ⟨[.ref x, .str name tk], []⟩) R s := by
  refine err_body X I c ?_
  unfold Builtin.«object.__getattribute__»
  have L := PySem.W.looks_find (M := model prog w) X I hf
  refine wpAny_bind (wpAny_pure (wpAny_bind (wpAny_pure (wpAny_bind (I.type.here (wpAny_bind (L.here ?_)))))))
  exact wpAny_pure h
theorem err_class {od : Obj} (X : K.In s.heap) (I : PySem.W.InstAt s.heap x ox C (some od)) (c : ClsX K C bm) (g : GetX K C) (h : R (.ok (.ret (.ref C))) s) :
    codeAny (model prog w) A (.call (.builtin "BaseException.__getattribute__") ⟨[.ref x, .str "__class__" tk], []⟩) R s := by
  refine err_body X I c ?_
  unfold Builtin.«object.__getattribute__»
  obtain ⟨cd, hc, hm⟩ := clsX_cls c
  have hf := PySem.W.findObj_data (K := K) (C := C) (od := od) (name := "__class__") (by rw [hc]; rfl) g.cl g.cg g.ct
  have L := PySem.W.looks_find (M := model prog w) X I hf
  have mo : PySem.W.mroIn K C (.type "object") = some true := by
    unfold PySem.W.mroIn
    rw [hc]
    show (if cd.mro.isEmpty = true then none else some (cd.mro.contains (.type "object"))) = some true
    rw [hm, List.contains_cons, (c.tl _ X).hasType (X := "object") (b := true) (by decide +kernel), Bool.or_true]; rfl
  refine wpAny_bind (wpAny_pure (wpAny_bind (wpAny_pure (wpAny_bind (I.type.here (wpAny_bind (L.here ?_)))))))
  show wpAny _ _ (holding [Value.builtin "object.__class__"] (call (.builtin "getset_descriptor.__get__") [.builtin "object.__class__", .ref x, .ref C]) >>= ret) _ _ _
  exact wpAny_bind (wpAny_holding (wpAny_call (PySem.W.class_get X I mo (wpAny_pure h))))
end
section
variable {K : PySem.W.Frag} {x C : Addr} {ox od : Obj} {bm : List Value}
theorem kitx_err (c : ClsX K C bm) (g : GetX K C) : PySem.W.KitX K (.ref x) (.ref C) (fun h => PySem.W.InstAt h x ox C (some od)) where
  ty := fun _ _ _ I => I.type
  it := fun _ _ X _ => by
    obtain ⟨nm, q, N, bs, hdct, sn, sub, ab, col, dd, k0, k1, k2, k3, k5, lk⟩ := c.ob
    intro A' Q' E' s' k q
    unfold isType loadHead
    exact wpAny_bind (wpAny_loadPart (k _ _ (X _ _ lk)) (wpAny_pure q))
  ne := fun h tp dd its n sl X htp => by
    obtain ⟨nm, q, N, bs, hdct, sn, sub, ab, col, dd', k0, k1, k2, k3, k5, lk⟩ := c.ob
    refine Bool.eq_false_iff.mpr fun z => ?_
    have e : C = tp := Value.ref.inj (beq_iff_eq.mp z)
    subst e
    have z2 := congrArg Obj.cls (Option.some.inj ((X _ _ lk).symm.trans htp))
    exact absurd (show Value.type "type" = Value.type "tuple" from z2) (by decide +kernel)
  ca := fun {prog w A E Q s} X I k => by
    unfold getAttr? getAttrBy?
    refine wpAny_bind (wpAny_mkText (wpAny_bind (wpAny_attempt ?_)))
    exact err_open (s := { s with toks := s.toks + 1 }) X I g (err_class (s := { s with toks := s.toks + 1 }) X I c g ⟨_, rfl, rfl, wpAny_pure k⟩)
end
end B

namespace B
open PySem PySem.Spec L2 PyProof.Rows
/-! ### how an error is noted at a frame, its dict kept -/
/-- all but the frames (their slots) and the records at ch is as it was -/
structure Kept (S ch : List Addr) (h h' : Heap) : Prop where
  same : ∀ b o, b ∉ S → b ∉ ch → h.get? b = some o → h'.get? b = some o
  slot : ∀ b o, b ∉ ch → h.get? b = some o → ∃ sl, h'.get? b = some { o with slots := sl }
theorem Kept.trans {S c1 c2 : List Addr} {h h1 h2 : Heap} (a : Kept S c1 h h1) (b : Kept S c2 h1 h2) : Kept S (c1 ++ c2) h h2 where
  same := fun x o n1 n2 q => b.same x o n1 (fun z => n2 (List.mem_append_right _ z)) (a.same x o n1 (fun z => n2 (List.mem_append_left _ z)) q)
  slot := fun x o n2 q => by
    obtain ⟨sl, z⟩ := a.slot x o (fun z => n2 (List.mem_append_left _ z)) q
    obtain ⟨sl', z'⟩ := b.slot x _ (fun z => n2 (List.mem_append_right _ z)) z
    exact ⟨sl', z'⟩
theorem Kept.upd {S : List Addr} {h : Heap} {T : Addr} {f : Obj → Obj} : Kept S [T] h (h.update T f) where
  same := fun b o _ n q => by rw [Heap.get?_update_other _ _ (fun z => n (by rw [z]; exact List.mem_singleton.mpr rfl))]; exact q
  slot := fun b o n q => ⟨o.slots, by rw [Heap.get?_update_other _ _ (fun z => n (by rw [z]; exact List.mem_singleton.mpr rfl))]; exact q⟩
/-- the record of an error with its newest entry, where that one flies -/
def TrcD (h : Heap) (x C T : Addr) (dx : Option Addr) (fl : Value) : Prop :=
  ∃ oe vs oT ts, h.get? x = some oe ∧ oe.cls = .ref C ∧ oe.dict = dx ∧ oe.data = .fields vs ∧ vs[1]? = some (.ref T) ∧ T ≠ x ∧ h.get? T = some oT ∧ oT.data = .fields ts ∧ ts[3]? = some fl
section
variable {M : Model} {A : Around} {E : Value → Shared → Prop} {s : Shared} {base : Heap} {env : Env} {outer : List Env} {L e C T : Addr} {oe : Obj} {vs : Array Value} {dx : Option Addr} {fl : Value}
theorem dict_mapF (f : Array Value → Array Value) (o : Obj) : (Obj.mapFields f o).dict = o.dict := by
  unfold Obj.mapFields; split <;> rfl
theorem entryD {hadNext : Bool} {head : Value} {Q : Unit → Shared → Prop} (hfr : A.frames = some (env :: outer)) (hl : s.heap.FunFrames base (env :: outer)) (hf : env.frame = some L)
    (he : s.heap.get? e = some oe) (hd : oe.data = .fields vs) (hsz : 1 < vs.size) (hc : oe.cls = .ref C) (hx : oe.dict = dx)
    (h : ∀ h' T, Kept (frs (env :: outer)) [e] s.heap h' → s.heap.get? T = none → TrcD h' e C T dx (rawInt L) → Q () { s with heap := h' }) :
    wpAny M A (do let a ← frameOf env; let pl ← entryPlaceOf L hadNext; let b ← EntryCells.newEntry head a .none (rawInt L) .none pl; setField (.ref e) 1 b) Q E s := by
  have hene : e ∉ frs (env :: outer) := fun hm => by
    obtain ⟨_, o, ho, hnf⟩ := hl.mem hm
    rw [he] at ho; cases ho; exact hnf vs hd
  refine wpAny_bind (wpAny_frameOf_fun hfr hl hf fun h1 s1 => wpAny_bind (wpAny_entryPlaceOf fun pl hpl => ?_))
  unfold EntryCells.newEntry newFields
  refine wpAny_bind (wpAny_newObj_type ?_ (hpl.sizeOk5 _ _ _ _ _))
  have he1 : h1.get? e = some oe := (s1.2.1 e hene).trans he
  generalize hob : ({ cls := .type "traceback", dict := none, data := .fields ([head, .ref L, .none, rawInt L, .none] ++ (if pl.isEmpty then List.replicate 6 Value.none else pl)).toArray } : Obj) = ob
  have he2 := Heap.get?_push_of_some (h := h1) ob he1
  refine wpAny_setField he2 hd hsz (h _ h1.objs.size ⟨fun b o n1 n2 q => ?_, fun b o n2 q => ?_⟩ ?_ ?_)
  · rw [Heap.get?_update_other _ _ (fun z => n2 (by rw [z]; exact List.mem_singleton.mpr rfl))]
    exact Heap.get?_push_of_some _ ((s1.2.1 b n1).trans q)
  · obtain ⟨sl, z⟩ := s1.2.2 b o q
    refine ⟨sl, ?_⟩
    rw [Heap.get?_update_other _ _ (fun z => n2 (by rw [z]; exact List.mem_singleton.mpr rfl))]
    exact Heap.get?_push_of_some _ z
  · exact Heap.get?_none_of_le (Nat.le_of_eq s1.1.symm)
  · have nT : h1.objs.size ≠ e := Nat.ne_of_gt (Heap.lt_size he1)
    have d3 := Obj.data_mapFields hd (·.setIfInBounds 1 (Value.ref h1.objs.size))
    refine ⟨_, _, ob, _, Heap.get?_update_self _ he2 (Obj.isFreed_of_fields d3), (Obj.cls_mapFields _ _).trans hc, (dict_mapF _ _).trans hx, d3, by simp [hsz], nT, ?_, by rw [← hob], ?_⟩
    · rw [Heap.get?_update_other _ _ (Ne.symm nT)]
      exact Heap.get?_push_size h1 (by rw [← hob]; rfl)
    · first | (simp; done) | (rcases hpl with rfl | ⟨_, _, _, _, _, _, _, rfl⟩ <;> simp)
theorem flightD {Q : Unit → Shared → Prop} (t : TrcD s.heap e C T dx fl) (h : ∀ h', Kept [] [T] s.heap h' → TrcD h' e C T dx .none → Q () { s with heap := h' }) : wpAny M A (setFlight (.ref e) none) Q E s := by
  obtain ⟨oe, vs, oT, ts, q1, q2, q3, q4, q5, q6, q7, q8, q9⟩ := t
  have z3 : 3 < ts.size := (Array.getElem?_eq_some_iff.mp q9).1
  unfold setFlight
  refine wpAny_bind (wpAny_field q1 q4 q5 ?_)
  rw [if_pos (by simp)]
  refine wpAny_setField q7 q8 z3 (h _ Kept.upd ?_)
  have d3 := Obj.data_mapFields q8 (·.setIfInBounds 3 ((none : Option Addr).elim Value.none fun f => rawInt f))
  exact ⟨oe, vs, _, _, (Heap.get?_update_other _ _ q6).trans q1, q2, q3, q4, q5, q6, Heap.get?_update_self _ q7 (Obj.isFreed_of_fields d3), d3, by simp [z3]⟩
theorem note1 {Q : Unit → Shared → Prop} (hfr : A.frames = some (env :: outer)) (hl : s.heap.FunFrames base (env :: outer)) (hf : env.frame = some L) (he : s.heap.get? e = some oe) (hd : oe.data = .fields vs) (h1 : vs[1]? = some .none) (hc : oe.cls = .ref C) (hx : oe.dict = dx)
    (h : ∀ h' T, Kept (frs (env :: outer)) [e] s.heap h' → s.heap.get? T = none → TrcD h' e C T dx (rawInt L) → Q () { s with heap := h' }) : wpAny M A (noteFrame (.ref e) env) Q E s := by
  unfold noteFrame
  simp only [hf]
  refine wpAny_bind (wpAny_field he hd h1 ?_)
  rw [if_neg (by decide)]
  exact entryD hfr hl hf he hd (Array.getElem?_eq_some_iff.mp h1).1 hc hx h
theorem noteN {Q : Unit → Shared → Prop} (hfr : A.frames = some (env :: outer)) (hl : s.heap.FunFrames base (env :: outer)) (hf : env.frame = some L) (t : TrcD s.heap e C T dx .none)
    (h : ∀ h' T', Kept (frs (env :: outer)) [T, e] s.heap h' → s.heap.get? T' = none → TrcD h' e C T' dx (rawInt L) → Q () { s with heap := h' }) : wpAny M A (noteFrame (.ref e) env) Q E s := by
  obtain ⟨oe, vs, oT, ts, q1, q2, q3, q4, q5, q6, q7, q8, q9⟩ := t
  unfold noteFrame
  simp only [hf]
  refine wpAny_bind (wpAny_field q1 q4 q5 ?_)
  rw [if_pos (by simp)]
  refine wpAny_bind (wpAny_field q7 q8 q9 ?_)
  rw [if_neg (by simp [rawInt])]
  refine wpAny_bind (wpAny_setField q7 q8 (Array.getElem?_eq_some_iff.mp q9).1 ?_)
  have k1 : Kept (frs (env :: outer)) [T] s.heap (s.heap.update T (Obj.mapFields (·.setIfInBounds 3 Value.none))) := Kept.upd
  have nf : ∀ b o, s.heap.get? b = some o → (∀ us, o.data ≠ .fields us) → b ∉ [T] := fun b o hb hn z => by
    rw [List.mem_singleton.mp z, q7] at hb; cases hb; exact hn ts q8
  refine entryD (base := base) hfr (hl.of_keeps fun b o hb hn => ?_) hf ((Heap.get?_update_other _ _ q6).trans q1) q4 (Array.getElem?_eq_some_iff.mp q5).1 q2 q3 fun h' T' k nT t' => h h' T' (k1.trans k) ?_ t'
  · obtain ⟨sl, z⟩ := k1.slot b o (nf b o hb hn) hb
    exact ⟨_, z, rfl⟩
  · cases q : s.heap.get? T' with
    | none => rfl
    | some o =>
      exfalso
      by_cases z : T' = T
      · have d3 := Obj.data_mapFields q8 (·.setIfInBounds 3 Value.none)
        rw [z, Heap.get?_update_self _ q7 (Obj.isFreed_of_fields d3)] at nT; cases nT
      · rw [Heap.get?_update_other _ _ (Ne.symm z)] at nT; rw [q] at nT; cases nT
end
end B

namespace B
open PySem PySem.Spec L2 PyProof.Rows
/-! ### an error's dict -/
def DicO (d : Addr) (fs : List (Str × V)) : Heap → Prop := fun h => ∃ mA, h.Ns1 d mA ∧ ∀ f, RelO (fs.lookup f) (mA f)
def dO (d : Addr) (fs : List (Str × V)) : HO := .ext (DicO d fs)
theorem dO_ok {P : Program} {w : World} {H : Hp} {h : Heap} {d : Addr} {fs : List (Str × V)} (e : DicO d fs h) : ObjOk P w H h d (dO d fs) :=
  ⟨e, let ⟨_, ⟨_, _, _, q, _⟩, _⟩ := e; ⟨_, q⟩, fun _ _ ⟨mA, n, r⟩ k => ⟨mA, n.at k, r⟩⟩
theorem relO_none {a : Option V} {b : Option Value} (r : RelO a b) (h : b ≠ none) : a ≠ none := fun z => by
  subst z
  cases b with
  | none => exact h rfl
  | some _ => exact r.elim
theorem relO_cons {fs : List (Str × V)} {mA : Str → Option Value} {f : Str} {y : V} {u : Value} (r : ∀ g, RelO (fs.lookup g) (mA g)) (q : RelV y u) : ∀ g, RelO (((f, y) :: fs).lookup g) (if g = f then some u else mA g) := fun g => by
  by_cases z : g = f
  · subst z
    rw [if_pos rfl, List.lookup_cons_self]; exact q
  · rw [if_neg z, List.lookup_cons, beq_eq_false_iff_ne.mpr z]; exact r g
theorem within_of {fs : List (Str × V)} {mA : Str → Option Value} (r : ∀ g, RelO (fs.lookup g) (mA g)) : PySem.Within mA (fs.map (·.1)) := fun g hg => by
  have z := relO_none (r g) hg
  cases q : fs.lookup g with
  | none => exact absurd q z
  | some v =>
    obtain ⟨l1, l2, e, _⟩ := List.lookup_eq_some_iff.mp q
    rw [e]; simp
section
variable {X : Cx} {pins : List (Addr × Obj)} {σ : L2.St} {H : Hp} {s : Shared} {a C : Addr}
/-- e.f = v, the first attribute of an error: its dict is made -/
theorem setX1 {A : Around} {E : Value → Shared → Prop} {f : Str} {y : V} {u : Value} {bm : List Value} {Q : Unit → Shared → Prop} (hex : X.ex = []) (I : L2.Inv X pins σ H s) (e : H a = some (exO a C none)) (c : ClsX X.K C bm) (n : NoAttr X.K C f) (ry : RelV y u)
    (h : ∀ d s', H d = none → d ≠ a → L2.Inv X pins σ (upd (upd H a (exO a C (some d))) d (dO d [(f, y)])) s' → Q () s') : wpAny (model X.prog X.w) A (setAttr (.ref a) f u) Q E s := by
  obtain ⟨t, hx⟩ := (show ObjOk X.prog X.w H s.heap a (exO a C none) from I.hok a _ e).1
  have J : PySem.W.InstAt s.heap a _ C none := ⟨hx, rfl, rfl, trivial⟩
  refine PySem.W.set_plain I.kIn J c.sa (store_err (s := { s with toks := s.toks + 1 }) I.kIn J c n fun b => ?_)
  obtain ⟨cd, hc, hd'⟩ := PySem.W.any_some c.hd
  refine wpAny_bind (wpAny_pure (wpAny_bind (wpAny_bind (wpAny_loadPart hx (wpAny_bind (PySem.W.Looks.here (s := { s with toks := s.toks + 1 }) (PySem.W.looks_clsIn I.kIn hc) ?_))))))
  rw [hd']
  show wpAny _ _ (alloc { cls := .type "dict", data := .dict #[] } >>= fun d => update a (fun o => { o with dict := some d }) >>= fun _ => dictMade (.ref C) a d) _ _ _
  have la : a < s.heap.objs.size := Heap.lt_size hx
  have nad : s.heap.objs.size ≠ a := Nat.ne_of_gt la
  have g1 := Heap.get?_push_of_some (h := s.heap) { cls := .type "dict", data := .dict #[] } hx
  refine wpAny_bind (wpAny_alloc (wpAny_bind (wpAny_update g1 ?_)))
  have g2 := Heap.get?_update_self (fun o => { o with dict := some s.heap.objs.size }) g1 rfl
  have e1 : ((s.heap.push { cls := .type "dict", data := .dict #[] }).update a fun o => { o with dict := some s.heap.objs.size }).get? s.heap.objs.size = some { cls := .type "dict", data := .dict #[] } := by
    rw [Heap.get?_update_other _ _ nad.symm]; exact Heap.get?_push_size s.heap rfl
  have e3 : ((s.heap.push { cls := .type "dict", data := .dict #[] }).update a fun o => { o with dict := some s.heap.objs.size }).Ns s.heap.objs.size (fun _ => none) :=
    ⟨_, #[], _, e1, rfl, (fun e he => absurd he (by simp)), fun _ => rfl⟩
  have keep : ∀ b o, b ≠ a → s.heap.get? b = some o → ((s.heap.push { cls := .type "dict", data := .dict #[] }).update a fun o => { o with dict := some s.heap.objs.size }).get? b = some o := fun b o nb q => by
    rw [Heap.get?_update_other _ _ (Ne.symm nb)]; exact Heap.get?_push_of_some _ q
  refine wpAny_pure (a := some s.heap.objs.size) (wpAny_bind (wpAny_pure (wpAny_bind ?_)))
  refine wpAny_nsSet1 (Heap.Ns1.of_empty e3) fun h' hn2 hs2 => ?_
  have rel : ∀ g, RelO ([(f, y)].lookup g) (if g = f then some u else none) := relO_cons (fs := []) (mA := fun _ => none) (fun _ => trivial) ry
  obtain ⟨oD, esD, epD, hoD, hdD, hcD⟩ := hn2.count (within_of rel)
  refine wpAny_bind (wpAny_lookBehind hoD (by rw [hdD]; exact pastItsLine_dict (Nat.le_trans hcD (Nat.le_add_left _ _))) ?_)
  have hno : s.heap.get? s.heap.objs.size = none := Heap.get?_none_of_le (Nat.le_refl _)
  have hH : H s.heap.objs.size = none := B.Inv.none_of I hno
  refine wpAny_pure (h s.heap.objs.size _ hH nad ?_)
  have ga : h'.get? a = some { cls := .ref C, dict := some s.heap.objs.size, data := .fields #[.ref t, .none, .none, .none, .bool false, .none] } := (hs2.2 a nad.symm).trans g2
  have I2 : L2.Inv X pins σ (upd H a (exO a C (some s.heap.objs.size))) { s with heap := h', toks := s.toks + 1 + 1 } := I.write (x := a) (e := a) (o := exO a C (some s.heap.objs.size)) (h' := h') (by rw [e]; trivial) (.inl rfl) (fun b o nb q => by
    have nb2 : b ≠ s.heap.objs.size := Nat.ne_of_lt (Heap.lt_size q)
    exact (hs2.2 b nb2).trans (keep b o nb q)) ⟨_, ga⟩ (exO_ok ⟨t, ga⟩)
  exact B.Inv.adopt I2 (B.Inv.newAt I hex hno) (by rw [upd_ne nad]; exact hH) hex (dO_ok ⟨_, hn2, rel⟩)
/-- e.f = v, a further attribute -/
theorem setX2 {A : Around} {E : Value → Shared → Prop} {f : Str} {y : V} {u : Value} {bm : List Value} {d : Addr} {fs : List (Str × V)} {Q : Unit → Shared → Prop} (I : L2.Inv X pins σ H s) (e : H a = some (exO a C (some d))) (ed : H d = some (dO d fs)) (hl : fs.length ≤ 100) (c : ClsX X.K C bm) (n : NoAttr X.K C f) (ry : RelV y u)
    (h : ∀ s', L2.Inv X pins σ (upd H d (dO d ((f, y) :: fs))) s' → Q () s') : wpAny (model X.prog X.w) A (setAttr (.ref a) f u) Q E s := by
  obtain ⟨t, hx⟩ := (show ObjOk X.prog X.w H s.heap a (exO a C (some d)) from I.hok a _ e).1
  obtain ⟨mA, hn, rel0⟩ := (show ObjOk X.prog X.w H s.heap d (dO d fs) from I.hok d _ ed).1
  obtain ⟨od, _, _, hod, _⟩ := id hn
  have J : PySem.W.InstAt s.heap a _ C (some od) := ⟨hx, rfl, rfl, hod⟩
  refine PySem.W.set_plain I.kIn J c.sa (store_err (s := { s with toks := s.toks + 1 }) I.kIn J c n fun b => ?_)
  obtain ⟨cd, hc, hd'⟩ := PySem.W.any_some c.hd
  refine wpAny_bind (wpAny_pure (wpAny_bind (wpAny_bind (wpAny_loadPart hx (wpAny_bind (PySem.W.Looks.here (s := { s with toks := s.toks + 1 }) (PySem.W.looks_clsIn I.kIn hc) ?_))))))
  rw [hd']
  refine wpAny_pure (a := some d) (wpAny_bind (wpAny_pure (wpAny_bind ?_)))
  refine wpAny_nsSet1 (s := { s with toks := s.toks + 1 }) hn fun h' hn2 hs2 => ?_
  have rel := relO_cons (f := f) rel0 ry
  obtain ⟨oD, esD, epD, hoD, hdD, hcD⟩ := hn2.count (within_of rel)
  have hz : esD.size ≤ 101 := by rw [List.length_map, List.length_cons] at hcD; omega
  refine wpAny_bind (wpAny_lookBehind hoD (by rw [hdD]; exact pastItsLine_dict (Nat.le_trans hz (by decide))) ?_)
  refine wpAny_pure (h _ ?_)
  exact I.write (x := d) (e := d) (o := dO d ((f, y) :: fs)) (h' := h') (by rw [ed]; trivial) (.inl rfl) (fun b o nb q => (hs2.2 b nb).trans q) ⟨_, hoD⟩ (dO_ok ⟨_, hn2, rel⟩)
end
section
variable {X : Cx} {o value : Expr} {f : Str} {ta tv : TE} {pos' pos : Pos}
def sFldE (K : PySem.W.Frag) (ta tv : TE) (f : Str) : TS := fun D σ H => tv σ H fun y H1 => ta σ H1 fun x H2 => ∃ a C bm, x = .ref a ∧ ClsX K C bm ∧ NoAttr K C f ∧
  ((H2 a = some (exO a C none) ∧ ∀ d, H2 d = none → d ≠ a → D.nx σ (upd (upd H2 a (exO a C (some d))) d (dO d [(f, y)]))) ∨
   ∃ d fs, H2 a = some (exO a C (some d)) ∧ H2 d = some (dO d fs) ∧ fs.length ≤ 100 ∧ D.nx σ (upd H2 d (dO d ((f, y) :: fs))))
theorem ps_fldE (hex : X.ex = []) (ha : PE X o ta) (hv : PE X value tv) (hs : swapsWith value (some (.Attribute o f pos')) pos.line X.env = pure false) : PS X (.Assign [.Attribute o f pos'] value pos) (sFldE X.K ta tv f) := by
  intro pins s σ H D I h
  refine plainObj_wpAny_Assign_Attribute (thn (hv pins s σ H _ I h) fun u s1 ⟨y, H1, I1, ry, q⟩ => thn (ha pins s1 σ H1 _ I1 q) fun ov s2 ⟨x, H2, I2, rx, a, C, bm, ex, c, n, q2⟩ => ?_) hs
  subst ex
  obtain rfl : ov = Value.ref a := rx
  rcases q2 with ⟨ea, k⟩ | ⟨d, fs, ea, ed, hl, k⟩
  · exact B.setX1 hex I2 ea c n ry fun d s' hd nd I' => ⟨σ, _, I', k d hd nd⟩
  · exact B.setX2 I2 ea ed hl c n ry fun s' I' => ⟨σ, _, I', k⟩
end
/-! ### errors that leave frames, their dicts kept -/
theorem Kept.any {S ch : List Addr} {h h' : Heap} (k : Kept [] ch h h') : Kept S ch h h' := ⟨fun b o _ n q => k.same b o (fun z => by cases z) n q, k.slot⟩
section
variable {X : Cx} {pins : List (Addr × Obj)} {σ : L2.St} {H : Hp} {s : Shared} {a C T : Addr} {dx : Option Addr} {fl : Value}
theorem Inv.leftK {ch : List Addr} {h' : Heap} {tk : Nat} (I : L2.Inv X pins σ H s) (hch : ∀ b ∈ ch, H b = none ∧ NewAt X pins b) (k : Kept (frs X.stack) ch s.heap h') : L2.Inv X pins σ H { s with heap := h', toks := tk } := by
  have trk : ∀ b o, H b = some o → b ∉ frs X.stack ∧ b ∉ ch := fun b o q =>
    ⟨(fun z => by rw [I.stkFree b z] at q; cases q), (fun z => by rw [(hch b z).1] at q; cases q)⟩
  refine I.call' (s' := { s with heap := h', toks := tk }) (ch := ch) rfl ⟨fun b o q _ n1 n2 => k.same b o n1 n2 q, fun b o q _ n1 n2 => k.slot b o n2 q, fun b o _ n _ => n, fun b o q n2 => ?_, fun b xs q => q, fun b o u q => q, fun b ps q => ⟨#[], by rw [Array.append_empty]; exact q⟩⟩ (fun b o q => ?_) I.bare
    (fun b hb => ⟨.inr (hch b hb).2.st, (hch b hb).2.lo, (hch b hb).2.ce, (hch b hb).2.pi⟩)
  · obtain ⟨sl, z⟩ := k.slot b o n2 q
    exact ⟨_, z⟩
  · refine (I.hok b o q).stay (fun c u hc z => ?_) (fun c z => z) (fun c xs z => z)
    rcases hc with rfl | hc
    · obtain ⟨n1, n2⟩ := trk _ _ q; exact k.same _ _ n1 n2 z
    · obtain ⟨n1, n2⟩ := trk _ _ hc; exact k.same _ _ n1 n2 z
theorem noted1 {A : Around} {E' : Value → Shared → Prop} {Q : Shared → Prop} {oe : Obj} {vs : Array Value} (hA : A.frames = X.A.frames) (I : L2.Inv X pins σ H s) (hex : X.ex = []) (hst : X.stack = X.env :: X.outer) (hfr : X.env.frame = some X.env.locals)
    (ha : H a = none) (na : NewAt X pins a) (hx : s.heap.get? a = some oe) (hd : oe.data = .fields vs) (h1 : vs[1]? = some .none) (hc : oe.cls = .ref C) (hdx : oe.dict = dx)
    (h : ∀ (s' : Shared) (T : Addr), L2.Inv X pins σ H s' → NewAt X pins T → H T = none → TrcD s'.heap a C T dx .none → Q s') :
    wpAny (model X.prog X.w) A (noteFrame (.ref a) X.env) (fun _ s2 => wpAny (model X.prog X.w) A (setFlight (.ref a) none) (fun _ s3 => Q s3) E' s2) E' s := by
  have hfrm : A.frames = some (X.env :: X.outer) := by rw [hA, I.ok.frames, hst]
  refine note1 (base := X.base) hfrm (by rw [← hst]; exact I.stack) hfr hx hd h1 hc hdx fun h1 T k1 nT t1 => ?_
  refine flightD (s := { s with heap := h1 }) t1 fun h2 k2 t2 => ?_
  have nt := B.Inv.newAt I hex nT
  have hT := B.Inv.none_of I nT
  rw [← hst] at k1
  refine h { s with heap := h2 } T (B.Inv.leftK (tk := s.toks) I (fun b hb => ?_) (k1.trans k2.any)) nt hT t2
  simp only [List.cons_append, List.nil_append, List.mem_cons, List.not_mem_nil, or_false] at hb
  rcases hb with rfl | rfl
  · exact ⟨ha, na⟩
  · exact ⟨hT, nt⟩
theorem notedN {A : Around} {E' : Value → Shared → Prop} {Q : Shared → Prop} (hA : A.frames = X.A.frames) (I : L2.Inv X pins σ H s) (hex : X.ex = []) (hst : X.stack = X.env :: X.outer) (hfr : X.env.frame = some X.env.locals)
    (ha : H a = none) (na : NewAt X pins a) (hT : H T = none) (nT : NewAt X pins T) (t : TrcD s.heap a C T dx .none)
    (h : ∀ (s' : Shared) (T' : Addr), L2.Inv X pins σ H s' → NewAt X pins T' → H T' = none → TrcD s'.heap a C T' dx .none → Q s') :
    wpAny (model X.prog X.w) A (noteFrame (.ref a) X.env) (fun _ s2 => wpAny (model X.prog X.w) A (setFlight (.ref a) none) (fun _ s3 => Q s3) E' s2) E' s := by
  have hfrm : A.frames = some (X.env :: X.outer) := by rw [hA, I.ok.frames, hst]
  refine noteN (base := X.base) hfrm (by rw [← hst]; exact I.stack) hfr t fun h1 T' k1 nT' t1 => ?_
  refine flightD (s := { s with heap := h1 }) t1 fun h2 k2 t2 => ?_
  have nt := B.Inv.newAt I hex nT'
  have hT' := B.Inv.none_of I nT'
  rw [← hst] at k1
  refine h { s with heap := h2 } T' (B.Inv.leftK (tk := s.toks) I (fun b hb => ?_) (k1.trans k2.any)) nt hT' t2
  simp only [List.cons_append, List.nil_append, List.mem_cons, List.not_mem_nil, or_false] at hb
  rcases hb with rfl | rfl | rfl
  · exact ⟨hT, nT⟩
  · exact ⟨ha, na⟩
  · exact ⟨hT', nt⟩
theorem flownN {A : Around} {E' : Value → Shared → Prop} {Q : Shared → Prop} (I : L2.Inv X pins σ H s) (hT : H T = none) (nT : NewAt X pins T) (t : TrcD s.heap a C T dx .none)
    (h : ∀ (s' : Shared), L2.Inv X pins σ H s' → TrcD s'.heap a C T dx .none → Q s') : wpAny (model X.prog X.w) A (setFlight (.ref a) none) (fun _ s3 => Q s3) E' s := by
  refine flightD t fun h2 k2 t2 => h _ (B.Inv.leftK (tk := s.toks) I (fun b hb => ?_) k2.any) t2
  rw [List.mem_singleton.mp hb]; exact ⟨hT, nT⟩
end
/-- how an error lies behind a call -/
def CXD (P : Program) (w : World) : CXT := fun outer H s E e s' => ∃ (x C T : Addr) (dx : Option Addr) (H' : Hp), e = .ref x ∧ s'.os = s.os ∧ AllBare s'.gens ∧ Un (frs outer) [] H H' s.heap s'.heap ∧ HOk P w H' s'.heap ∧ s.heap.get? x = none ∧ s.heap.get? T = none ∧ H' x = none ∧ H' T = none ∧
  TrcD s'.heap x C T dx .none ∧ E (.ref C) dx H'
section
variable {P : Program} {w : World} {K : PySem.W.Frag} {mg : Str → Option Value} {base : Heap} {N : List Str} {qual : Str} {scope : Scope} {f : Addr} {cd : Value} {A : Around} {outer : List Env} {s : Shared} {H : Hp} {E : XK}
/-- the context takes an error that is made in it -/
def TakesD (X : Cx) (E : XK) : Prop := ∀ (pins : List (Addr × Obj)) (σ : L2.St) (H : Hp) (s : Shared) (a C : Addr) (dx : Option Addr) (oe : Obj) (vs : Array Value), L2.Inv X pins σ H s → H a = none → NewAt X pins a → s.heap.get? a = some oe → oe.data = .fields vs →
  vs[1]? = some .none → oe.cls = .ref C → oe.dict = dx → E (.ref C) dx H → X.xe (.ref a) s
theorem takesD : TakesD (cxOf (CXD P w) P w K mg base N qual scope f cd A outer s H E) E := by
  intro pins σ H1 s1 a C dx oe vs I ha na hx hd h1 hc hdx hE
  show wpAny (model P w) _ (leaving _ _) _ _ s1
  unfold leaving
  refine wpAny_bind (noted1 rfl I rfl rfl rfl ha na hx hd h1 hc hdx fun s3 T' I3 nT' hT' tr' => ?_)
  exact ⟨a, C, T', dx, H1, rfl, I3.os, I3.bare, I3.base, I3.hok, na.st, nT'.st, ha, hT', tr', hE⟩
theorem Fun.okD {x : Str} {st : Stmt} {fd : FuncData} {ps : List Str} {k : Nat} {sp : Sp} (F : Fun K x qual st f fd) (S : FnScope N ps (defScope st)) (len : ∀ vs H Q E, sp vs H Q E → vs.length = ps.length)
    (hbody : ∀ (cdv : Value) (A : Around) (outer : List Env) (s : Shared) (H : Hp) (vs : List V) (Q : VK) (E : XK), Room k (A.deeper (envOfC qual (defScope st) s.heap.objs.size f cdv)) → sp vs H Q E →
      ∃ t, PSs (cxOf (CXD P w) P w K mg base N qual (defScope st) f cdv A outer s H E) (defBody st) t ∧ t { nx := fun _ H' => Q .non H', rt := Q } (start N vs) H) : FnOk P w K mg base (CXD P w) (k + 1) f fd ps sp := by
  obtain ⟨oc, od, kV, doc, pm, an, cdv, ct, osl, rfl, lk, hcd⟩ := F.ex
  exact fn_of lk hcd S len fun A outer s H vs Q E hr hsp => hbody cdv A outer s H vs Q E hr hsp
end
section
variable {X : Cx} {k : Nat} {f C : Addr} {fd : FuncData} {ps : List Str} {sp : Sp} {bm : List Value}
def tRaiseD (C : Addr) (sp : Sp) (E : XK) (t : TA) : TS := fun _ σ H => t σ H fun vs H1 => vs.length ≤ sizeLine ∧ ∀ a, H1 a = none → sp (.ref a :: vs) (upd H1 a (exO a C none)) (fun v H2 => v = .non ∧ ∃ dx, H2 a = some (exO a C dx) ∧ E (.ref C) dx (del H2 a)) E0
theorem ps_raiseD {x : Str} {p cpos pos : Pos} {e : Expr} {es : List Expr} {t : TA} {E : XK} (M : XC X.K C f bm) (hbase : bm.contains (.type "BaseException") = true) (hex : X.ex = []) (tk : TakesD X E) (F : FnOk X.prog X.w X.K X.mg X.base CX0 k f fd ps sp) (hr : Room (k + 1) X.A) (hb : Binds X.K fd ps [])
    (hg : Gl X x) (hm : X.mg x = some (.ref C)) (ha : PA X (e :: es) t) (hdb : (x == ("__debug__" : Str)) = false := by decide) (he : starEach (e :: es) X.env = (false, eval e X.env) :: starEach es X.env := by rfl) (hpl : (backTo cpos (starEach es X.env)).any (·.1) = false := by rfl) :
    PS X (.Raise (some (.Call (.Name x p) (e :: es) [] cpos)) none pos) (tRaiseD C sp E t) := by
  intro pins s σ H D I h
  obtain ⟨nm, q, N, bs, hdct, sn, sub, ab, col, dd, k0, k1, k2, k3, k5, lk⟩ := M.ob
  rw [arm_exec_Raise]
  refine wpAny_bind (wpAny_standAt (raise_own (C := C) (bm := bm) (nm := nm) (q := q) (N := N) (bs := bs) (hdct := hdct) (sn := sn) (sub := sub) (ab := ab) (col := col) (dd := dd) (k0 := k0) (k1 := k1) (k2 := k2) (k3 := k3) (k5 := k5) (newId := "ValueError.__new__") hbase hr.hd ?_))
  refine wpAny_bind (wpAny_mono (Q := fun v s' => ∃ a H', v = .ref a ∧ NewAt X pins a ∧ L2.Inv X pins σ H' s' ∧ ∃ dx, H' a = some (exO a C dx) ∧ E (.ref C) dx (del H' a)) ?_ (fun v s1 h1 => wpAny_bind (wpAny_standAt (wpAny_pure ?_))) fun _ _ y => y)
  · refine wpAny_Call_Name_kw (ld_glob I hg hm ?_ hdb)
    refine PySem.W.callWith_K (h₀ := X.base) I.ok.mod.kin M.kp (thn (ha cpos pins s σ H _ I h) fun us s1 ⟨vs, H1, I1, r, hz, q⟩ => ⟨I1.kIn, ?_⟩) he hpl
    exact run_exc M hex F hr hb I1 (us := [] ++ us) r (by rw [List.nil_append, ← r.length]; exact hz) q
  · obtain ⟨a, H', rfl, na, I1, dx, hx, hE⟩ := h1
    obtain ⟨tt, ho⟩ := (show L2.ObjOk X.prog X.w H' s1.heap a (exO a C dx) from I1.hok a _ hx).1
    exact ⟨a, tt, dx, rfl, I1.kIn _ _ lk, ho, tk pins σ (del H' a) s1 a C dx _ _ (B.Inv.forget I1 hx na.st) del_same na ho rfl rfl rfl rfl hE⟩
end
end B

namespace B
open PySem PySem.Spec L2 PyProof.Rows
/-! ### try, with or without a name -/
abbrev RX := Addr → Option Addr → Hp → Prop
def FlyD (X : Cx) (pins : List (Addr × Obj)) (R : RX) : Value → Shared → Prop := fun e s => ∃ (x C T : Addr) (dx : Option Addr) (H : Hp), e = .ref x ∧ L2.Inv X pins (hid X.N) H s ∧ H x = none ∧ NewAt X pins x ∧ H T = none ∧ NewAt X pins T ∧ TrcD s.heap x C T dx .none ∧ R C dx H
def inTryD (X : Cx) (pins : List (Addr × Obj)) (R : RX) : Cx := { X with pn := X.pn ++ pins, xe := FlyD X pins R }
section
variable {X : Cx} {pins pins' : List (Addr × Obj)} {σ : L2.St} {H : Hp} {s : Shared} {R : RX} {e : Addr}
theorem toTryD (I : L2.Inv X pins σ H s) : L2.Inv (inTryD X pins R) [] σ H s :=
  ⟨⟨I.ok.mod, I.ok.kind, I.ok.glob, I.ok.blt, I.ok.above, I.ok.inj, I.ok.has, I.ok.cab, I.ok.hd, I.ok.frames, I.ok.stk, I.ok.exf, I.ok.bs, I.ok.bsz, I.ok.noex, I.ok.exfs, I.ok.funs, I.ok.frf⟩, I.os, I.bare, I.base, I.loc, I.cell, I.free, I.freeC,
    fun p hp => I.pin p (by rw [List.append_nil] at hp; exact hp), I.hok, I.len⟩
theorem ofTryD (I : L2.Inv (inTryD X pins R) pins' σ H s) : L2.Inv X pins σ H s :=
  ⟨⟨I.ok.mod, I.ok.kind, I.ok.glob, I.ok.blt, I.ok.above, I.ok.inj, I.ok.has, I.ok.cab, I.ok.hd, I.ok.frames, I.ok.stk, I.ok.exf, I.ok.bs, I.ok.bsz, I.ok.noex, I.ok.exfs, I.ok.funs, I.ok.frf⟩, I.os, I.bare, I.base, I.loc, I.cell, I.free, I.freeC,
    fun p hp => I.pin p (List.mem_append_left _ hp), I.hok, I.len⟩
def EofD (R : RX) : XK := fun v dx H => ∃ C, v = .ref C ∧ R C dx H
/-- a callee's error in a try's body -/
theorem passTD (hex : X.ex = []) : Passes (CXD X.prog X.w) (inTryD X pins R) (EofD R) := by
  intro pins' σ H1 s1 e s2 I hx
  obtain ⟨x, C, T, dx, H2, rfl, ho, hb, un, hok, nx, nT, hx2, hT2, tr, C', e', hr⟩ := hx
  cases e'
  have na := B.Inv.newAt I hex nx
  have nt := B.Inv.newAt I hex nT
  have I2 : L2.Inv (inTryD X pins R) pins' σ H2 s2 := I.call' ho un hok hb (fun b hb => by cases hb)
  exact ⟨x, C, T, dx, H2, rfl, hid_weak (ofTryD I2), hx2, ⟨na.st, na.lo, na.ce, fun p hp => na.pi p (List.mem_append_left _ hp), na.fr⟩, hT2, ⟨nt.st, nt.lo, nt.ce, fun p hp => nt.pi p (List.mem_append_left _ hp), nt.fr⟩, tr, hr⟩
theorem SP.ofTryD {D : Ends} {f : Flow} (h : SP (inTryD X pins R) [] D f s) : SP X pins D f s := by
  cases f with
  | next => obtain ⟨σ', H', I, q⟩ := h; exact ⟨σ', H', B.ofTryD I, q⟩
  | brk => obtain ⟨σ', H', I, q⟩ := h; exact ⟨σ', H', B.ofTryD I, q⟩
  | cont => obtain ⟨σ', H', I, q⟩ := h; exact ⟨σ', H', B.ofTryD I, q⟩
  | ret u => obtain ⟨v, σ', H', I, r, q⟩ := h; exact ⟨v, σ', H', B.ofTryD I, r, q⟩
end
/-- the name of an except goes behind its suite -/
theorem name_gone {X : Cx} {pins : List (Addr × Obj)} {σ : L2.St} {H : Hp} {s : Shared} {M : Model} {A : Around} {E : Value → Shared → Prop} {i : Nat} {x : Str} {pos : Pos} {Q : Unit → Shared → Prop} (I : L2.Inv X pins σ H s) (hN : X.N.Nodup) (hi : X.N[i]? = some x) (hk : X.env.scope.names.lookup x = some .local)
    (h : ∀ s', L2.Inv X pins (σ.set i none) H s' → Q () s') : wpAny M A (do bindName X.env x .none; unbindBehindTheSuite X.env x pos) Q E s := by
  obtain ⟨m, hn, hl⟩ := id I.loc
  have hiσ : i < σ.length := by rw [I.len]; exact (List.getElem?_eq_some_iff.mp hi).1
  have lt : ∀ b o, X.s₀.heap.get? b = some o → b ≠ X.env.locals := fun b o e => Nat.ne_of_lt (Nat.lt_of_lt_of_le (Heap.lt_size e) I.ok.above)
  refine wpAny_nameGoes_keeps hk hn (by rw [I.ok.kind]; rfl) fun h' v hn' hs => h _ ?_
  refine ⟨I.ok, I.os, I.bare, ⟨fun b o e n hb hx => (hs.2 b (lt b o e)).trans (I.base.keep b o e n hb hx), fun b o e n hb hx => ?_, I.base.free, fun b o e hx => ?_, I.base.tups, I.base.frzs, I.base.tbls⟩, ⟨_, hn', fun j y v' e1 e2 e3 => ?_⟩, fun y c e => ?_, I.free, I.freeC, fun p hp => ?_, fun b ob e => ?_, by simpa using I.len⟩
  · obtain ⟨sl, e1⟩ := I.base.slot b o e n hb hx
    exact ⟨sl, (hs.2 b (lt b o e)).trans e1⟩
  · obtain ⟨o', e1⟩ := I.base.there b o e hx
    exact ⟨o', (hs.2 b (lt b o e)).trans e1⟩
  · have hj : j ≠ i := fun z => by subst z; rw [List.getElem?_set_self hiσ] at e2; cases e2
    rw [List.getElem?_set_ne (Ne.symm hj)] at e2
    obtain ⟨u', r', q⟩ := hl j y v' e1 e2 e3
    refine ⟨u', r', ?_⟩
    rcases q with ⟨k, e⟩ | ⟨k, c, e, z⟩
    · refine .inl ⟨k, ?_⟩
      have ny : y ≠ x := fun e => hj (nodup_ix hN e1 (e ▸ hi))
      show (if y = x then v else m y) = some u'
      rw [if_neg ny]; exact e
    · exact .inr ⟨k, c, e, z.sameBut hs (I.cne y c e)⟩
  · obtain ⟨w', z⟩ := I.cell y c e
    exact ⟨w', z.sameBut hs (I.cne y c e)⟩
  · obtain ⟨e, n, ne, nf, d⟩ := I.pin p hp
    exact ⟨(hs.2 p.1 ne).trans e, n, ne, nf, d⟩
  · refine (I.hok b ob e).stay (fun c w' hc q => (hs.2 c ?_).trans q) (fun _ q => q) fun _ _ q => q
    rintro rfl
    rcases hc with rfl | hc
    · rw [I.free] at e; cases e
    · rw [I.free] at hc; cases hc
/-- a caught error -/
def ErO (a C d : Addr) : Heap → Prop := fun h => ∃ oe, h.get? a = some oe ∧ oe.cls = .ref C ∧ oe.dict = some d ∧ PySem.W.notCls oe = true
def erO (a C d : Addr) : HO := .ext (ErO a C d)
theorem erO_ok {P : Program} {w : World} {H : Hp} {h : Heap} {a C d : Addr} (e : ErO a C d h) : ObjOk P w H h a (erO a C d) :=
  ⟨e, let ⟨_, q, _⟩ := e; ⟨_, q⟩, fun _ _ ⟨o, q, r⟩ k => ⟨o, k _ q, r⟩⟩
theorem TrcD.er {h : Heap} {x C T d : Addr} {fl : Value} (t : TrcD h x C T (some d) fl) : ErO x C d h := by
  obtain ⟨oe, vs, oT, ts, q1, q2, q3, q4, _⟩ := t
  exact ⟨oe, q1, q2, q3, by unfold PySem.W.notCls; rw [q4]⟩
def gone (i : Nat) (D : Ends) : Ends := { nx := fun σ H => D.nx (σ.set i none) H, rt := D.rt, bk := fun σ H => D.bk (σ.set i none) H, ct := fun σ H => D.ct (σ.set i none) H }
def tTryD (N : List Str) (R : RX) (Ok : Addr → Prop) (tb th : TS) : TS := fun D σ H => tb D σ H ∧ ∀ C dx H', R C dx H' → Ok C ∧ th D (hid N) H'
def tTryAs (N : List Str) (i : Nat) (R : RX) (Ok : Addr → Prop) (tb th : TS) : TS := fun D σ H => tb D σ H ∧ ∀ C dx H', R C dx H' → Ok C ∧ ∃ d, dx = some d ∧ ∀ a, H' a = none → th (gone i D) ((hid N).set i (some (.ref a))) (upd H' a (erO a C d))
section
variable {X : Cx} {R : RX} {body : List Stmt} {b₀ : Stmt} {suite : List Stmt} {x : Str} {p hpos pos : Pos} {u : Value} {tb th : TS}
theorem typ_of {M : Model} {h : Heap} {a C T : Addr} {dx : Option Addr} {fl : Value} (t : TrcD h a C T dx fl) : PySem.W.Looks M h (typeOf (.ref a)) (.ref C) := by
  obtain ⟨oe, _, _, _, q1, q2, _⟩ := t
  rw [← q2]
  exact (PySem.W.Looks.ld q1).andThen .now
theorem ps_tryAs {i : Nat} {n : Str} (hex : X.ex = []) (hst : X.stack = X.env :: X.outer) (hfr : X.env.frame = some X.env.locals) (hg : Gl X x) (hm : X.mg x = some u) (hN : X.N.Nodup) (hi : X.N[i]? = some n) (hn : X.env.scope.names.lookup n = some .local)
    (hb : ∀ pins, PSs (inTryD X pins R) body tb) (hs : ∀ e, PSs (inExc X e) (b₀ :: suite) th) (hd : (x == ("__debug__" : Str)) = false := by decide) :
    PS X (.Try body [.ExceptHandler (some (.Name x p)) (some n) (b₀ :: suite) hpos] [] [] pos) (tTryAs X.N i R (fun C => PySem.W.exmOne X.K (.ref C) u = some true) tb th) := by
  intro pins s σ H D I ⟨h1, h2⟩
  refine wpAny_Try_except (wpAny_mono (hb pins [] s σ H D (toTryD I) h1) (fun f s1 q => ?_) fun e s1 q => ?_)
  · have q' := SP.ofTryD q
    cases f with
    | next => exact wpAny_execs_nil q'
    | brk => exact q'
    | cont => exact q'
    | ret u => exact q'
  · obtain ⟨a, C, T, dx, H1, rfl, I1, ha, na, hT, nT, tr, hR⟩ := q
    obtain ⟨hk, d, rfl, hth⟩ := h2 C dx H1 hR
    refine notedN rfl I1 hex hst hfr ha na hT nT tr fun s2 T2 I2 nT2 hT2 tr2 => ?_
    refine wpAny_handleBy_cons (codeAny_handlers_test ?_) (by intro z; cases z)
    refine ld_glob (X := inExc X a) (toExc I2) hg hm ?_ hd
    refine PySem.W.Looks.here (s := s2) (PySem.W.exm_one (M := model X.prog X.w) I2.kIn (typ_of tr2) hk) ?_
    refine codeAny_handlers_suite_as ?_
    refine flownN I2 hT2 nT2 tr2 fun s3 I3 tr3 => ?_
    have I4 : L2.Inv X pins (hid X.N) (upd H1 a (erO a C d)) s3 := B.Inv.adopt I3 na ha hex (erO_ok tr3.er)
    refine store_ok (X := inExc X a) (toExc I4) hN hi (.inl hn) (v := .ref a) (u := .ref a) rfl (fun s5 I5 => ?_) (.inr hn)
    refine wpAny_mono (hs a pins s5 _ _ (gone i D) I5 (hth a ha)) (fun f s6 q6 => ?_) fun _ _ z => z.elim
    cases f with
    | next => obtain ⟨σ', H', J, q⟩ := q6; exact name_gone (ofExc I.ok J) hN hi hn fun s' J' => ⟨_, _, J', q⟩
    | brk => obtain ⟨σ', H', J, q⟩ := q6; exact name_gone (ofExc I.ok J) hN hi hn fun s' J' => ⟨_, _, J', q⟩
    | cont => obtain ⟨σ', H', J, q⟩ := q6; exact name_gone (ofExc I.ok J) hN hi hn fun s' J' => ⟨_, _, J', q⟩
    | ret u => obtain ⟨v, σ', H', J, r, q⟩ := q6; exact name_gone (ofExc I.ok J) hN hi hn fun s' J' => ⟨v, _, _, J', r, q⟩
end
/-! ### isinstance(e, ..) of a caught error -/
def rIsE (K : PySem.W.Frag) : List V → Hp → VK → Prop := fun xs H Q => ∃ (a C d : Addr) (fs : List (Str × V)) (bm : List Value) (c : V) (b : Bool), xs = [.ref a, c] ∧ H a = some (erO a C d) ∧ H d = some (dO d fs) ∧ ClsX K C bm ∧ GetX K C ∧
  ((∃ n, c = .ty n ∧ PySem.W.kitOne K (.ref C) (.type n) = some b) ∨ (∃ D, c = .ref D ∧ PySem.W.kitOne K (.ref C) (.ref D) = some b) ∨
   ∃ (p : Addr) (cs : List Addr), c = .ref p ∧ H p = some (.tup (cs.map V.ref)) ∧ PySem.W.kitAny K (.ref C) (cs.map Value.ref) = some b) ∧ Q (.bl b) H
theorem vals_refs : ∀ {cs : List Addr} {us : List Value}, Vals (cs.map V.ref) us → us = cs.map Value.ref
  | [], _, .nil => rfl
  | c :: cs, _, .cons r q => by
    rw [List.map_cons, vals_refs q, (show _ = Value.ref c from r)]
theorem call_isE {X : Cx} : CallR X (.builtin "isinstance") (rIsE X.K) := by
  intro pins s σ H xs us Q I r h
  obtain ⟨a, C, d, fs, bm, c, b, rfl, ea, ed, cl, gx, k, q⟩ := h
  obtain ⟨u, u2, rfl, rx, ry⟩ := vals2 r
  obtain rfl : u = Value.ref a := rx
  obtain ⟨oe, h1, h2, h3, h4⟩ := (show ObjOk X.prog X.w H s.heap a (erO a C d) from I.hok a _ ea).1
  obtain ⟨mA, ⟨od, es, ep, h5, _⟩, _⟩ := (show ObjOk X.prog X.w H s.heap d (dO d fs) from I.hok d _ ed).1
  have J : PySem.W.InstAt s.heap a oe C (some od) := ⟨h1, h2, h4, by rw [h3]; exact h5⟩
  rcases k with ⟨n, rfl, e⟩ | ⟨D, rfl, e⟩ | ⟨p, cs, rfl, hp, e⟩
  · obtain rfl : u2 = Value.type n := ry
    exact PySem.W.kia_one (kitx_err cl gx) I.kIn J e (fun z => nomatch z) fun tk => ⟨.bl b, H, I.tok tk, rfl, q⟩
  · obtain rfl : u2 = Value.ref D := ry
    exact PySem.W.kia_one (kitx_err cl gx) I.kIn J e (fun z => nomatch z) fun tk => ⟨.bl b, H, I.tok tk, rfl, q⟩
  · obtain rfl : u2 = Value.ref p := ry
    obtain ⟨_, its, rv, o, ho, hc, n, hd⟩ := (show ObjOk X.prog X.w H s.heap p (.tup (cs.map V.ref)) from I.hok p _ hp)
    rw [vals_refs rv] at hd
    obtain ⟨oc, odd, oda, osl⟩ := o
    dsimp only at hc hd
    subst hc; subst hd
    exact PySem.W.kia_tup (kitx_err cl gx) I.kIn J ho e (fun z => nomatch z) fun tk => ⟨.bl b, H, I.tok tk, rfl, q⟩
theorem del_upd3 {H : Hp} {a d : Addr} {o u q : HO} (h : H a = none) (n : d ≠ a) : del (upd (upd (upd H a o) a u) d q) a = upd H d q := by
  funext b
  by_cases z : b = a
  · subst z; rw [del_same, upd_ne n.symm, h]
  · rw [del_ne z]
    by_cases y : b = d
    · subst y; rw [upd_same, upd_same]
    · rw [upd_ne y, upd_ne y, upd_ne z, upd_ne z]
theorem call_isK {X : Cx} {K : PySem.W.Frag} (h : X.K = K) : CallR X (.builtin "isinstance") (rIsE K) := by
  subst h; exact call_isE
end B

namespace B
open PySem PySem.Spec L2 PyProof.Rows
/-! ### errors as values: made, asked, read -/
/-- an error at a with its dict at d: caught, or made and not raised -/
def IsErr (H : Hp) (a C d : Addr) : Prop := H a = some (erO a C d) ∨ H a = some (exO a C (some d))
section
variable {X : Cx} {pins : List (Addr × Obj)} {σ : L2.St} {H : Hp} {s : Shared} {a C d : Addr} {fs : List (Str × V)}
theorem IsErr.inst (I : L2.Inv X pins σ H s) (h : IsErr H a C d) (ed : H d = some (dO d fs)) : ∃ (oe od : Obj) (mA : Str → Option Value), PySem.W.InstAt s.heap a oe C (some od) ∧ (∀ name, PySem.W.lookIn name od = some (mA name)) ∧ ∀ f, RelO (fs.lookup f) (mA f) := by
  obtain ⟨mA, hn, r⟩ := (show ObjOk X.prog X.w H s.heap d (dO d fs) from I.hok d _ ed).1
  obtain ⟨od, ho, hl⟩ := lookIn_ns hn
  rcases h with h | h
  · obtain ⟨oe, h1, h2, h3, h4⟩ := (show ObjOk X.prog X.w H s.heap a (erO a C d) from I.hok a _ h).1
    exact ⟨oe, od, mA, ⟨h1, h2, h4, by rw [h3]; exact ho⟩, hl, r⟩
  · obtain ⟨t, h1⟩ := (show ObjOk X.prog X.w H s.heap a (exO a C (some d)) from I.hok a _ h).1
    exact ⟨_, od, mA, ⟨h1, rfl, rfl, ho⟩, hl, r⟩
end
/-- e.f of an error -/
def tFldE (K : PySem.W.Frag) (ta : TE) (f : Str) : TE := fun σ H Q => ta σ H fun x H1 => ∃ a C d fs bm v, x = .ref a ∧ IsErr H1 a C d ∧ H1 d = some (dO d fs) ∧ ClsX K C bm ∧ GetX K C ∧ NoAttr K C f ∧ fs.lookup f = some v ∧ Q v H1
theorem pe_fldE {X : Cx} {e : Expr} {f : Str} {pos : Pos} {ta : TE} {K : PySem.W.Frag} (hK : X.K = K) (he : PE X e ta) (hb : attributeBase e f X.env (eval e X.env) = eval e X.env) : PE X (.Attribute e f pos) (tFldE K ta f) := by
  subst hK
  intro pins s σ H Q I h
  refine attr_of hb (thn (he pins s σ H _ I h) fun u s1 ⟨x, H1, I1, rx, a, C, d, fs, bm, v, ex, ea, ed, c, g, n, l, q⟩ => ?_)
  subst ex
  obtain rfl : u = Value.ref a := rx
  obtain ⟨oe, od, mA, J, hl, r⟩ := IsErr.inst I1 ea ed
  obtain ⟨u', hu, ru⟩ := RelO.some_of (v := v) (o := mA f) (by rw [← l]; exact r f)
  unfold getAttr
  refine wpAny_bind (wpAny_mkText ?_)
  refine err_open (s := { s1 with toks := s1.toks + 1 }) I1.kIn J g ?_
  refine err_val (s := { s1 with toks := s1.toks + 1 }) I1.kIn J c (PySem.W.findObj_own c.hd n rfl (by rw [hl, hu])) ?_
  exact ⟨u', rfl, handed_of ru, v, H1, I1.tok _, ru, q⟩
/-- isinstance(e, ..) of an error -/
def rIsX (K : PySem.W.Frag) : List V → Hp → VK → Prop := fun xs H Q => ∃ (a C d : Addr) (fs : List (Str × V)) (bm : List Value) (c : V) (b : Bool), xs = [.ref a, c] ∧ IsErr H a C d ∧ H d = some (dO d fs) ∧ ClsX K C bm ∧ GetX K C ∧
  ((∃ n, c = .ty n ∧ PySem.W.kitOne K (.ref C) (.type n) = some b) ∨ (∃ D, c = .ref D ∧ PySem.W.kitOne K (.ref C) (.ref D) = some b) ∨
   ∃ (p : Addr) (cs : List Addr), c = .ref p ∧ H p = some (.tup (cs.map V.ref)) ∧ PySem.W.kitAny K (.ref C) (cs.map Value.ref) = some b) ∧ Q (.bl b) H
/-- C(e, ..): an error made as a value -/
def tMakeE (C : Addr) (sp : Sp) (t : TA) : TE := fun σ H Q => t σ H fun vs H1 => vs.length ≤ sizeLine ∧ ∀ a, H1 a = none → sp (.ref a :: vs) (upd H1 a (exO a C none)) (fun v H2 => v = .non ∧ Q (.ref a) H2) E0
end B

namespace B
open PySem PySem.Spec L2 PyProof.Rows
/-! ### several records of ours turn at once -/
theorem turnedL {X : Cx} {pins : List (Addr × Obj)} {σ : L2.St} {H : Hp} {s : Shared} {h' : Heap} {t' : Nat} {fp : List Addr} (I : Inv X pins σ H s)
    (k : ∀ b o, b ∉ fp → s.heap.get? b = some o → h'.get? b = some o) (hf : ∀ b ∈ fp, FpOk X pins H b) : Inv X pins σ H { s with heap := h', toks := t' } := by
  have off : ∀ b u, H b = some u → b ∉ fp := fun b u e z => by rw [(hf b z).1] at e; cases e
  refine I.step (g' := s.gens) (d' := s.drawn) (ch := fp) (fun b hb => ?_) (fun b o _ _ hc e _ => k b o hc e) (fun b o _ _ hc e _ => ⟨o.slots, k b o hc e⟩) (fun _ _ _ _ n => n)
    (fun b o hc e => ⟨o, k b o hc e⟩) (fun _ _ e => e) (fun _ _ _ e => e) (fun b ps e => ⟨#[], by rw [e]; simp⟩) (fun m hm => ?_) (fun b u e => ?_) I.bare
  · obtain ⟨_, f1, _, f3, f4, f5⟩ := hf b hb
    exact ⟨f3, f1, f4, f5⟩
  · obtain ⟨o, es, ep, ho, r⟩ := hm
    exact ⟨o, es, ep, k _ o (fun z => (hf _ z).2.1 rfl) ho, r⟩
  · refine (I.hok b u e).stay (fun c v hc q => k c v ?_ q) (fun _ q => q) fun _ _ q => q
    rcases hc with z | z
    · rw [z]; exact off b u e
    · exact off c _ z
section
variable {prog : Program} {w : World} {A : Around} {E : Value → Shared → Prop} {s : Shared}
/-! ### a tuple's iterator, drawn from by zip and its like -/
theorem nx_item {j t : Addr} {k : Nat} {ys : Array Value} {v : Value} {G : Value → Shared → Prop} (a : s.heap.IsTupleIter j t k) (b : s.heap.IsTuple t ys) (c : ys[k]? = some v)
    (g : ∀ h', h'.IsTupleIter j t (k + 1) → Heap.SameBut j s.heap h' → G v { s with heap := h' }) : wpAny (model prog w) A (Builtin.SmallTypes.nextOf (.ref j)) G E s := by
  obtain ⟨o, e1, e2, e3⟩ := id a
  obtain ⟨q, f1, _, n, f2⟩ := b
  unfold Builtin.SmallTypes.nextOf
  refine wpAny_bind (wpAny_callSpecial?_slot (name := Str.ofString "__next__") a.typeIs F.slot_tuple_iterator_next
    (wpAny_call_entry F.slot_tuple_iterator_next a.typeIs F.entry_tuple_iterator_next ?_ (F.args_tuple_iterator_next_1 _)))
  show wpAny (model prog w) _ (field (.ref j) 0 >>= _) _ _ s
  refine wpAny_bind (wpAny_field e1 e3 (x := .ref t) rfl ?_)
  show wpAny (model prog w) _ (if (Value.ref t == Value.none) = true then _ else _) _ _ s
  rw [if_neg (fun z => Bool.noConfusion z : ¬ ((Value.ref t == Value.none) = true))]
  show wpAny (model prog w) _ (field (.ref j) 1 >>= _) _ _ s
  refine wpAny_bind (wpAny_field e1 e3 (x := .int k 0) rfl ?_)
  show wpAny (model prog w) _ (seqItems? (.ref t) >>= _) _ _ s
  refine wpAny_bind (wpAny_seqItems f1 f2 ?_)
  simp only [c, Int.toNat_natCast]
  refine wpAny_bind (wpAny_setField e1 e3 (by simp) (wpAny_pure ⟨v, rfl, wpAny_pure (g _ ?_ (Heap.SameBut.update ..))⟩))
  refine ⟨_, Heap.get?_update_self _ e1 (Obj.isFreed_of_fields (Obj.data_mapFields e3 _)), (Obj.cls_mapFields ..).trans e2, ?_⟩
  rw [Obj.data_mapFields e3]; simp [rawInt]
theorem nx_end {j t : Addr} {k : Nat} {ys : Array Value} {G : Value → Shared → Prop} (hh : A.handled = none) (a : s.heap.IsTupleIter j t k) (b : s.heap.IsTuple t ys) (c : ys[k]? = none)
    (g : ∀ h' e, Heap.ExtBut j s.heap h' → (∃ o, h'.get? e = some o ∧ o.cls = .type "StopIteration") → E (.ref e) { s with heap := h' }) : wpAny (model prog w) A (Builtin.SmallTypes.nextOf (.ref j)) G E s := by
  obtain ⟨o, e1, e2, e3⟩ := id a
  obtain ⟨q, f1, _, n, f2⟩ := b
  unfold Builtin.SmallTypes.nextOf
  refine wpAny_bind (wpAny_callSpecial?_slot (name := Str.ofString "__next__") a.typeIs F.slot_tuple_iterator_next
    (wpAny_call_entry F.slot_tuple_iterator_next a.typeIs F.entry_tuple_iterator_next ?_ (F.args_tuple_iterator_next_1 _)))
  show wpAny (model prog w) _ (field (.ref j) 0 >>= _) _ _ s
  refine wpAny_bind (wpAny_field e1 e3 (x := .ref t) rfl ?_)
  show wpAny (model prog w) _ (if (Value.ref t == Value.none) = true then _ else _) _ _ s
  rw [if_neg (fun z => Bool.noConfusion z : ¬ ((Value.ref t == Value.none) = true))]
  show wpAny (model prog w) _ (field (.ref j) 1 >>= _) _ _ s
  refine wpAny_bind (wpAny_field e1 e3 (x := .int k 0) rfl ?_)
  show wpAny (model prog w) _ (seqItems? (.ref t) >>= _) _ _ s
  refine wpAny_bind (wpAny_seqItems f1 f2 ?_)
  simp only [c, Int.toNat_natCast]
  refine wpAny_bind (wpAny_rule (wpAny_bind (wpAny_setField e1 e3 (by simp) ?_)))
  show wpAny (model prog w) _ (newExc (.type "StopIteration") [] >>= _) _ _ _
  refine wpAny_bind ?_
  simp only [newTuple, newExc]
  refine wpAny_bind (wpAny_newObj_type ?_ (by size_fits))
  refine wpAny_bind (m := firstArgMember _ _) (wpAny_of_eq (a := Value.none) (by first | rfl | (simp only [firstArgMember] <;> rfl)) ?_)
  refine wpAny_newObj_type ?_ (by size_fits)
  simp only [raiseNew]
  refine wpAny_bind (wpAny_handled ?_)
  first | rw [hh] | rw [show A.in1.handled = none from hh]
  refine wpAny_bind (wpAny_pure (wpAny_throw (g _ _ (((Heap.SameBut.update ..).extBut.push _).push _) ⟨_, Heap.get?_push_size _ rfl, rfl⟩)))
/-! ### zip's turn, whatever it draws from -/
structure Five (z TI TO i1 i2 : Addr) : Prop where
  a1 : TI ≠ z
  a2 : TO ≠ z
  a3 : i1 ≠ z
  a4 : i2 ≠ z
  a5 : TI ≠ TO
  a6 : TI ≠ i1
  a7 : TI ≠ i2
  a8 : TO ≠ i1
  a9 : TO ≠ i2
  b1 : i1 ≠ i2
end
end B

namespace B
open PySem PySem.Spec L2 PyProof.Rows
/-- .. and a new object comes to be known -/
theorem turnedN {X : Cx} {pins : List (Addr × Obj)} {σ : L2.St} {H : Hp} {s : Shared} {h' : Heap} {t' : Nat} {fp : List Addr} {p : Addr} {v : HO} (I : Inv X pins σ H s)
    (k : ∀ b o, b ∉ fp → s.heap.get? b = some o → h'.get? b = some o) (hf : ∀ b ∈ fp, FpOk X pins H b) (hp : s.heap.objs.size ≤ p) (new : ObjOk X.prog X.w (upd H p v) h' p v) :
    Inv X pins σ (upd H p v) { s with heap := h', toks := t' } := by
  have off : ∀ b u, H b = some u → b ∉ fp := fun b u e z => by rw [(hf b z).1] at e; cases e
  have hn : H p = none := I.hok.fresh hp
  have old : ∀ b u, H b = some u → upd H p v b = some u := fun b u e => by rw [upd_ne (ne_of_none e hn)]; exact e
  refine I.step (g' := s.gens) (d' := s.drawn) (ch := fp) (fun b hb => ?_) (fun b o _ _ hc e _ => k b o hc e) (fun b o _ _ hc e _ => ⟨o.slots, k b o hc e⟩) (fun b o _ e n => ?_)
    (fun b o hc e => ⟨o, k b o hc e⟩) (fun b xs e => old b _ e) (fun b o u e => old b _ e) (fun b ps e => ⟨#[], by rw [old b _ e]; simp⟩) (fun m hm => ?_) (fun b u e => ?_) I.bare
  · obtain ⟨_, f1, _, f3, f4, f5⟩ := hf b hb
    exact ⟨f3, f1, f4, f5⟩
  · rw [upd_ne (Nat.ne_of_lt (Nat.lt_of_lt_of_le (Heap.lt_size e) hp))]; exact n
  · obtain ⟨o, es, ep, ho, r⟩ := hm
    exact ⟨o, es, ep, k _ o (fun z => (hf _ z).2.1 rfl) ho, r⟩
  · by_cases hb : b = p
    · subst hb; rw [upd_same] at e; cases e; exact new
    · rw [upd_ne hb] at e
      refine (I.hok b u e).stay (fun c v hc q => k c v ?_ q) (fun c q => old c _ q) fun c xs q => old c _ q
      rcases hc with z | z
      · rw [z]; exact off b u e
      · exact off c _ z
/-- what is read as a tuple is none of an iterator's own records -/
theorem sqT_off {X : Cx} {pins : List (Addr × Obj)} {σ : L2.St} {H : Hp} {s : Shared} {a b : Addr} {xs : List V} (I : Inv X pins σ H s) (h : SqT X.K H a xs) (f : FpOk X pins H b) : a ≠ b := fun z => by
  subst z
  rcases h with (h | ⟨o, h⟩) | ⟨o, its, n, hk, _⟩
  · rw [f.1] at h; cases h
  · rw [f.1] at h; cases h
  · have e := I.ok.mod.kin a o hk
    rcases f.2.2.2.1 with z | z
    · exact I.ok.noex a o e z
    · rw [(I.ok.bs a o e).1] at z; cases z
def Itz (K : PySem.W.Frag) (a b : Addr) : It :=
  ⟨fun i H => ∃ xs ys x y, SqT K H a xs ∧ SqT K H b ys ∧ xs[i]? = some x ∧ ys[i]? = some y,
   fun i H v H' => ∃ p x y, H p = none ∧ v = .ref p ∧ H' = upd H p (.tup [x, y]) ∧ (∀ xs, SqT K H a xs → xs[i]? = some x) ∧ ∀ ys, SqT K H b ys → ys[i]? = some y,
   fun i H => ∃ xs ys, SqT K H a xs ∧ SqT K H b ys ∧ (xs.length ≤ i ∨ ys.length ≤ i)⟩
def ZSt (z TI TO i1 i2 a b : Addr) (i : Nat) (h : Heap) : Prop := IsZip h z TI TO .none ∧ IsPair h TI (.ref i1) (.ref i2) ∧ (∃ u v, IsPair h TO u v) ∧ h.IsTupleIter i1 a i ∧ h.IsTupleIter i2 b i
theorem tupIter_at {h h' : Heap} {i a : Addr} {n : Nat} (x : h.IsTupleIter i a n) (k : ∀ o, h.get? i = some o → h'.get? i = some o) : h'.IsTupleIter i a n := let ⟨o, e, r⟩ := x; ⟨o, k o e, r⟩
theorem tup_at {h h' : Heap} {a : Addr} {ys : Array Value} (x : h.IsTuple a ys) (k : ∀ o, h.get? a = some o → h'.get? a = some o) : h'.IsTuple a ys := let ⟨o, e, r⟩ := x; ⟨o, k o e, r⟩
/-! ### zip(a, b) of two tuples, walked -/
abbrev zA (h : Heap) (a : Addr) : Heap := h.push { cls := .type "tuple_iterator", data := .fields #[.ref a, .int 0 0] }
abbrev zB (h : Heap) (a b : Addr) : Heap := zA (zA h a) b
abbrev zC (h : Heap) (a b : Addr) : Heap := (zB h a b).push { cls := .type "tuple", data := .seq #[.ref h.objs.size, .ref (zA h a).objs.size] }
abbrev zD (h : Heap) (a b : Addr) : Heap := (zC h a b).push { cls := .type "tuple", data := .seq #[.none, .none] }
abbrev zE (h : Heap) (a b : Addr) : Heap := (zD h a b).push { cls := .type "zip", data := .fields #[.none, .bool false, .bool false, .ref (zB h a b).objs.size, .ref (zC h a b).objs.size] }
def iZip (K : PySem.W.Frag) (ta : TA) : TI := fun σ H R => ta σ H fun vs H1 => ∃ a b, vs = [.ref a, .ref b] ∧ (∃ xs, SqT K H1 a xs) ∧ (∃ ys, SqT K H1 b ys) ∧ R (Itz K a b) H1
end B

namespace B
open PySem PySem.Spec L2 PyProof.Rows
theorem draws_tup {prog : Program} {w : World} {A : Around} (hh : A.handled = none) (it a : Addr) (ne : a ≠ it) (items : Array Value) :
    Draws prog w A it [it, a] items.size (fun i v => items[i]? = some v) (fun i h => h.IsTupleIter it a i ∧ h.IsTuple a items) where
  live := fun _ _ st => let ⟨o, ho, _⟩ := st.1; ⟨o, ho⟩
  frame := fun _ _ _ st hk => ⟨tupIter_at st.1 fun o e => hk it (by simp) o e, tup_at st.2 fun o e => hk a (by simp) o e⟩
  item := fun i s Q E hi st hQ => by
    have hx : items[i]? = some (items[i]'hi) := Array.getElem?_eq_getElem hi
    exact nx_item st.1 st.2 hx fun h' i' sb => hQ _ h' s.toks hx ⟨i', tup_at st.2 fun o e => sb.extBut _ _ ne e⟩ sb
  done := fun s Q E st hE => nx_end hh st.1 st.2 (by simp) hE
theorem enum_newT (a : Addr) (xs : Array Value) : Meets (Builtin.«enumerate.__new__» ⟨[.type "enumerate", .ref a], []⟩) (fun _ R s => s.heap.IsTuple a xs ∧
      R (.ok (.ret (.ref (zA s.heap a).objs.size))) { s with heap := (zA s.heap a).push { cls := .type "enumerate", data := .fields #[.none, .bool false, .ref s.heap.objs.size, rawInt 0, .none, .none] } }) :=
  .of_wp fun prog w A R s h => by
    obtain ⟨hp, g, d, tk, os⟩ := s; obtain ⟨hl, h⟩ := h
    obtain ⟨⟨c, dct, dt, sl⟩, ho, hc, n, hd⟩ := id hl
    replace hc : c = .type "tuple" := hc
    replace hd : dt = .seq xs n := hd
    subst hc hd
    have hsub := sub_enumerate
    have L : Heap.IsTuple (Shared.heap ⟨hp, g, d, tk, os⟩) a xs := hl
    wp_walk using AutoSeq1.wpAny_loadPart' ho
    refine wpAny_stack_any fun st => wpAny_pure ?_
    split
    · rename_i c _ _ _ _ _
      cases (c == Value.type "enumerate")
      · wp_walk using AutoSeq1.wpAny_loadPart' ho, wpAny_pyIter_tuple L
        exact ⟨_, rfl, h⟩
      · wp_walk using AutoSeq1.wpAny_loadPart' ho, wpAny_pyIter_tuple L
        exact ⟨_, rfl, h⟩
    · wp_walk using AutoSeq1.wpAny_loadPart' ho, wpAny_pyIter_tuple L
      exact ⟨_, rfl, h⟩
theorem call_enumT {prog : Program} {w : World} {A : Around} {E : Value → Shared → Prop} {s : Shared} {a : Addr} {items : Array Value} {Q : Value → Shared → Prop} (hL : s.heap.IsTuple a items)
    (h : ∀ h', IsEnum h' (s.heap.objs.size + 1) s.heap.objs.size 0 .none → h'.IsTupleIter s.heap.objs.size a 0 → h'.objs.size = s.heap.objs.size + 2 →
      (∀ b o, s.heap.get? b = some o → h'.get? b = some o) → Q (.ref (s.heap.objs.size + 1)) { s with heap := h' }) :
    wpAny (model prog w) A (call (.type "enumerate") [.ref a]) Q E s := by
  refine callType_new F.called_enumerate (by decide) (F.typeCall_enumerate_1 _) (F.newCall_enumerate_1 _) (fun obj => F.args_object_init_2 obj _) F.entry_enumerate_new
    (enum_newT a items) ⟨hL, ?_⟩
  have hz : (zA s.heap a).objs.size = s.heap.objs.size + 1 := Heap.size_push ..
  show _ ∧ _
  rw [hz]
  have he : IsEnum ((zA s.heap a).push { cls := .type "enumerate", data := .fields #[.none, .bool false, .ref s.heap.objs.size, rawInt 0, .none, .none] }) (s.heap.objs.size + 1) s.heap.objs.size 0 .none := by
    have := Heap.get?_push_size (zA s.heap a) (o := { cls := .type "enumerate", data := .fields #[.none, .bool false, .ref s.heap.objs.size, rawInt 0, .none, .none] }) rfl
    rw [hz] at this; exact this
  refine ⟨⟨_, he, rfl⟩, h _ he ⟨_, Heap.get?_push_of_some _ (Heap.get?_push_size _ rfl), rfl, rfl⟩ (by rw [Heap.size_push, hz]) fun b o x => Heap.get?_push_of_some _ (Heap.get?_push_of_some _ x)⟩

/-! ### enumerate(a tuple), walked -/
def IteT (K : PySem.W.Frag) (a : Addr) : It :=
  ⟨fun i H => ∃ xs x, SqT K H a xs ∧ xs[i]? = some x,
   fun i H v H' => ∃ p x, H p = none ∧ v = .ref p ∧ H' = upd H p (.tup [.int i, x]) ∧ ∀ xs, SqT K H a xs → xs[i]? = some x,
   fun i H => ∃ xs, SqT K H a xs ∧ xs.length ≤ i⟩
theorem turn_enT {P : Program} {w : World} {K : PySem.W.Frag} {elts : List Expr} {x1} {pos : Pos} {e it a : Addr} (hei : e ≠ it) :
    Turn P w K (.Tuple elts x1 pos) (IteT K a) [e, it] e (fun i h => (∃ old, IsEnum h e it (i : Nat) old) ∧ h.IsTupleIter it a i) where
  mem := by simp
  obj := fun i h st c hc => by
    obtain ⟨⟨old, h1⟩, ⟨o2, h2, c2, d2⟩⟩ := st
    simp only [List.mem_cons, List.not_mem_nil, or_false] at hc
    rcases hc with rfl | rfl
    · exact ⟨_, h1, fun v q => by cases (show Data.fields _ = Data.cell v from q)⟩
    · exact ⟨o2, h2, fun v q => by rw [d2] at q; cases q⟩
  keep := fun i h h' st k => by
    obtain ⟨⟨old, h1⟩, h2⟩ := st
    exact ⟨⟨old, k e (by simp) _ h1⟩, tupIter_at h2 fun o q => k it (by simp) o q⟩
  item := by
    intro X hP hw hK hc i pins s σ H E I hf st hg
    subst hP hw hK
    obtain ⟨xs, x, q1, hx⟩ := hg
    obtain ⟨its, rv, p1, z1⟩ := I.tuple q1
    obtain ⟨u, hu, ru⟩ := rv.get hx
    have off : ∀ c ∈ [e, it], a ≠ c := fun c hc => sqT_off I q1 (hf c hc)
    obtain ⟨⟨old, h1⟩, h2⟩ := st
    have hh : X.A.in1.handled = none := I.ok.hd hc
    have na : a ≠ it := off it (by simp)
    have ne : e ∉ [it, a] := fun q => by
      simp only [List.mem_cons, List.not_mem_nil, or_false] at q
      rcases q with q | q
      · exact hei q
      · exact off e (by simp) q.symm
    have hi : i < its.toArray.size := by have := (List.getElem?_eq_some_iff.mp hu).1; simpa using this
    have el : e < s.heap.objs.size := Heap.lt_size h1
    have il : it < s.heap.objs.size := by obtain ⟨o2, q2, _⟩ := h2; exact Heap.lt_size q2
    refine wpAny_pyNext_enum_itemD (draws_tup hh it a na its.toArray) h1 ⟨h2, p1⟩ hi hei ne fun v h' tk hv eo st' tup hz hk => ⟨_, rfl, wpAny_letOwnedTupleGo_enum eo fun h'' e2 sb => ?_⟩
    have ev : v = u := by
      have : its.toArray[i]? = some u := by simpa using hu
      rw [this] at hv
      exact (Option.some.inj hv).symm
    subst ev
    have nt : s.heap.objs.size ≠ e := Nat.ne_of_gt el
    have ni : s.heap.objs.size ≠ it := Nat.ne_of_gt il
    have P : ObjOk X.prog X.w (upd H s.heap.objs.size (.tup [.int i, x])) h'' s.heap.objs.size (.tup [.int i, x]) :=
      ⟨by show 2 ≤ sizeLine; decide, [.int i tk, v], .cons ⟨_, rfl⟩ (.cons ru .nil), ⟨_, sb.extBut _ _ nt tup, rfl, _, rfl⟩⟩
    have I2 : Inv X pins σ (upd H s.heap.objs.size (.tup [.int i, x])) { s with heap := h'', toks := tk + 1 } := turnedN I (fun c o' n q => by
      have n1 : c ≠ e := fun r => n (by simp [r])
      have n2 : c ≠ it := fun r => n (by simp [r])
      exact sb.extBut _ _ n1 (hk c o' n1 n2 q)) hf (Nat.le_refl _) P
    refine ⟨.ref s.heap.objs.size, _, I2, rfl, ⟨_, x, I.fresh, rfl, rfl, fun ys hy => by rw [I.tuple_inj hy q1]; exact hx⟩, ⟨⟨_, by simpa using e2⟩, tupIter_at st'.1 fun o q => sb.extBut _ _ hei.symm q⟩, fun c hc => ?_⟩
    have lt : c < s.heap.objs.size := by
      simp only [List.mem_cons, List.not_mem_nil, or_false] at hc
      rcases hc with rfl | rfl
      · exact el
      · exact il
    rw [upd_ne (Nat.ne_of_lt lt)]
    exact (hf c hc).1
  done := by
    intro X hP hw hK hc i pins s σ H E I hf st hg
    subst hP hw hK
    obtain ⟨xs, q1, hx⟩ := hg
    obtain ⟨its, rv, p1, z1⟩ := I.tuple q1
    have off : ∀ c ∈ [e, it], a ≠ c := fun c hc => sqT_off I q1 (hf c hc)
    obtain ⟨⟨old, h1⟩, h2⟩ := st
    have hh : X.A.in1.handled = none := I.ok.hd hc
    have hl := rv.length
    have nn : its.toArray[i]? = none := by rw [Array.getElem?_eq_none_iff]; simp; omega
    have hT : s.TypeIs (.ref e) "enumerate" := ⟨_, h1, rfl⟩
    unfold pyNext
    refine wpAny_bind (wpAny_attempt (wpAny_callSpecial?_slot (name := Str.ofString "__next__") hT F.slot_enumerate_next
      (wpAny_call_entry F.slot_enumerate_next hT F.entry_enumerate_next ?_ (F.args_enumerate_next_1 _))))
    show wpAny _ _ (field (.ref e) 2 >>= _) _ _ _
    refine wpAny_bind (wpAny_field h1 rfl (x := .ref it) rfl ?_)
    refine wpAny_bind (nx_end hh h2 p1 nn fun h' x he' hx' => ?_)
    obtain ⟨o, ho, hcl⟩ := hx'
    refine wpAny_bind (wpAny_isInstance (T := "StopIteration") (b := true) ⟨o, ho, hcl⟩ isSubtype_stop ?_)
    refine wpAny_pure ⟨rfl, ?_⟩
    exact turnedL (t' := s.toks) I (fun c o' n q => he' c o' (fun r => n (by simp [r])) q) hf
  self := fun A i s Q E st h => by
    obtain ⟨⟨old, h1⟩, _⟩ := st
    exact wpAny_pyIter_enum h1 h
def iEnT (K : PySem.W.Frag) (ta : TA) : TI := fun σ H R => ta σ H fun vs H1 => ∃ a, vs = [.ref a] ∧ (∃ xs, SqT K H1 a xs) ∧ R (IteT K a) H1
theorem pi_enum {X : Cx} {elts : List Expr} {x1} {tp p pos : Pos} {a : Expr} {ta : TA} (hg : Gl X "enumerate") (hm : X.mg "enumerate" = none) (ha : PA X [a] ta) (hs : starEach [a] X.env = [(false, eval a X.env)] := by rfl) :
    PI X (.Tuple elts x1 tp) (.Call (.Name "enumerate" p) [a] [] pos) (iEnT X.K ta) := by
  intro pins s σ H R I h
  refine Call_ (ld_blt I hg hm (show bootBuiltins "enumerate" = some (.type "enumerate") by kernel_rfl) (PyProof.Rows.callWith_type1 (thn (ha pos pins s σ H _ I h) fun us s1 ⟨vs, H1, I1, r1, q1⟩ => ?_) hs rfl))
  obtain ⟨a, e, ⟨xs, hx⟩, q⟩ := q1
  subst e
  obtain ⟨u, rfl, ru⟩ := r1.one
  cases ru
  obtain ⟨its, _, p1, _⟩ := I1.tuple hx
  refine call_enumT p1 fun h' he hi sz kk => wpAny_pyIter_enum he ?_
  have I2 : Inv X pins σ H1 { s1 with heap := h' } := I1.kept (t' := s1.toks) kk
  refine ⟨_, [s1.heap.objs.size + 1, s1.heap.objs.size], _, _, H1, rfl, I2, turn_enT (a := a) (Nat.succ_ne_self _), ⟨⟨_, he⟩, hi⟩, fun c hc => ?_, q⟩
  have le : s1.heap.objs.size ≤ c := by
    simp only [List.mem_cons, List.not_mem_nil, or_false] at hc
    rcases hc with h | h
    · rw [h]; exact Nat.le_succ _
    · rw [h]; exact Nat.le_refl _
  exact I1.fpOk le (I1.hok.fresh le)
theorem for_enum {K : PySem.W.Frag} {a : Addr} {xs : List V} {g : TG} {tb : TS} {D : Ends} {σ : L2.St} {H : Hp} (Pv : Nat → L2.St → Hp → Prop) (h0 : Pv 0 σ H)
    (hl : ∀ i σ H, i ≤ xs.length → Pv i σ H → SqT K H a xs)
    (hs : ∀ i x p σ H, xs[i]? = some x → Pv i σ H → H p = none → g (.ref p) σ (upd H p (.tup [.int i, x])) fun σ2 H2 => tb { D with nx := Pv (i + 1), ct := Pv (i + 1), bk := D.nx } σ2 H2) (hd : ∀ σ H, Pv xs.length σ H → D.nx σ H) :
    ∃ W : Nat → Nat → L2.St → Hp → Prop, (∃ m, W 0 m σ H) ∧ ∀ i m σ H, W i m σ H →
      ((IteT K a).stop i H ∧ D.nx σ H) ∨ ((IteT K a).go i H ∧ ∃ N : L2.St → Hp → Prop, (∀ σ' H', N σ' H' → ∃ m', m' < m ∧ W (i + 1) m' σ' H') ∧ ∀ x H', (IteT K a).yld i H x H' → g x σ H' fun σ2 H2 => tb { D with nx := N, ct := N, bk := D.nx } σ2 H2) := by
  refine ⟨fun i m σ H => m = xs.length - i ∧ i ≤ xs.length ∧ Pv i σ H, ⟨_, rfl, Nat.zero_le _, h0⟩, ?_⟩
  rintro i m σ H ⟨rfl, hi, p⟩
  have q := hl i σ H hi p
  by_cases hlt : i < xs.length
  · refine .inr ⟨⟨xs, _, q, List.getElem?_eq_getElem hlt⟩, Pv (i + 1), fun σ' H' p' => ⟨xs.length - (i + 1), by omega, rfl, hlt, p'⟩, fun x H' y => ?_⟩
    obtain ⟨pp, v, hp, rfl, rfl, hv⟩ := y
    exact hs i v pp σ _ (hv xs q) p hp
  · have e : i = xs.length := by omega
    subst e
    exact .inl ⟨⟨xs, q, Nat.le_refl _⟩, hd σ H p⟩

/-! ### enumerate(a list), walked -/
def IteL (K : PySem.W.Frag) (a : Addr) : It :=
  ⟨fun i H => ∃ xs x, SqL K H a xs ∧ xs[i]? = some x,
   fun i H v H' => ∃ p x, H p = none ∧ v = .ref p ∧ H' = upd H p (.tup [.int i, x]) ∧ ∀ xs, SqL K H a xs → xs[i]? = some x,
   fun i H => ∃ xs, SqL K H a xs ∧ xs.length ≤ i⟩
def iEnL (K : PySem.W.Frag) (ta : TA) : TI := fun σ H R => ta σ H fun vs H1 => ∃ a, vs = [.ref a] ∧ (∃ xs, SqL K H1 a xs) ∧ R (IteL K a) H1

end B

namespace B
open PySem PySem.Spec L2 PyProof.Rows
/-! ### (a, b, ..) = a list of that length -/
section
variable {prog : Program} {w : World} {A : Around} {E : Value → Shared → Prop}
end
def gLst (K : PySem.W.Frag) (n : Nat) (t : TGs) : TG := fun v σ H Q => ∃ a xs, v = .ref a ∧ SqL K H a xs ∧ xs.length = n ∧ t xs σ H Q
end B

namespace B
open PySem PySem.Spec L2 PyProof.Rows
/-! ### t[lo:hi], the whole of t: t itself -/
section
variable {prog : Program} {w : World} {A : Around} {E : Value → Shared → Prop} {s : Shared}
open HT in
theorem tuple_whole {t sl : Addr} {items : Array Value} {vl vu : Value} {lo hi : Option Int} {Q : Value → Shared → Prop} (ht : IsTup s.heap t items) (hs : s.heap.IsSliceOf sl vl vu .none) (pl : IsPart vl lo) (pu : IsPart vu hi)
    (h1 : sIx items.size 0 lo = 0) (h2 : sIx items.size items.size hi = items.size) (h : Q (.ref t) s) : wpAny (model prog w) A (getItem (.ref t) (.ref sl)) Q E s := by
  obtain ⟨os, hos, hcs, hds⟩ := id hs
  have hTs : s.TypeIs (.ref sl) "slice" := ⟨os, hos, hcs⟩
  unfold getItem
  try with_reducible refine wpAny_holding ?_
  first | refine wpAny_bind (wpAny_pure ?_) | skip
  refine wpAny_bind (wpAny_sequenceKey ht.typeIs (by decide) ?_)
  refine wpAny_bind (wpAny_callSpecial?_slot (name := Str.ofString "__getitem__") ht.typeIs PyProof.Rows.slot_tuple_getitem
    (wpAny_call_entry PyProof.Rows.slot_tuple_getitem ht.typeIs entry_tuple_getitem ?_ (args_tuple_getitem _ _)))
  show wpAny _ _ (Builtin.Tuple.tupleItemsOf (.ref t) >>= _) _ _ s
  refine wpAny_bind (tupleItemsOf_ ht ?_)
  refine wpAny_bind (wpAny_typeOf hTs ?_)
  rw [if_pos (by decide)]
  refine wpAny_bind (sliceApplied_gen hs pl pu ?_)
  have hyes : ((((sIx items.size 0 lo : Nat) : Int) == 0 && (1 : Int) == 1 && (sIx items.size items.size hi - sIx items.size 0 lo) == items.size) = true) := by
    rw [h1, h2]; simp
  show wpAny _ _ (if (((sIx items.size 0 lo : Nat) : Int) == 0 && (1 : Int) == 1 && (sIx items.size items.size hi - sIx items.size 0 lo) == items.size) = true then _ else _) _ _ s
  rw [if_pos hyes]
  refine wpAny_bind ?_
  unfold Builtin.Tuple.tupleIsExact
  refine wpAny_bind (wpAny_typeOf ht.typeIs ?_)
  refine wpAny_pure ?_
  rw [if_pos (by decide)]
  exact wpAny_bind (wpAny_rule (wpAny_pure ⟨_, rfl, wpAny_pure h⟩))
end
def rSlW (K : PySem.W.Frag) : V → Option Int → Option Int → Hp → VK → Prop := fun x lo hi H Q => ∃ a xs, x = .ref a ∧ SqT K H a xs ∧ HT.sIx xs.length 0 lo = 0 ∧ HT.sIx xs.length xs.length hi = xs.length ∧ Q (.ref a) H
theorem sl_tupW {X : Cx} : SlR X (rSlW X.K) := by
  intro pins s σ H x v vl vu lo hi sl Q I rx hs pl pu h
  obtain ⟨a, xs, rfl, hx, h1, h2, q⟩ := h
  cases rx
  obtain ⟨its, r, ht, hz⟩ := I.tuple hx
  have hlen : its.toArray.size = xs.length := by rw [List.size_toArray]; exact r.length.symm
  refine ⟨"tuple", _, PyProof.Rows.slot_tuple_getitem.lookup, ht.typeIs, ?_⟩
  exact tuple_whole ht hs pl pu (by rw [hlen]; exact h1) (by rw [hlen]; exact h2) ⟨.ref a, H, I, rfl, q⟩
/-- any slice of a tuple -/
theorem sl_tupA {X : Cx} : SlR X (fun x lo hi H Q => rSlW X.K x lo hi H Q ∨ rSlT X.K x lo hi H Q) := SlR.or sl_tupW sl_tup
end B

namespace B
/-! ### ratios whose bottoms divide a number and whose values are bounded -/
theorem mkR_eq {a b c d : Int} (hb : 0 < b) (hd : 0 < d) (e : a * d = c * b) : mkR a b = mkR c d := by
  have hr := mkR_red (a := c) hd
  have hc := mkR_cross (a := c) hd
  generalize mkR c d = m at hr hc ⊢
  refine mkR_uniq hb hr.pos hr.cop ?_
  refine Int.eq_of_mul_eq_mul_right (show d ≠ 0 by omega) ?_
  have e1 : m.1 * b * d = m.1 * d * b := by ac_rfl
  have e2 : a * m.2 * d = a * d * m.2 := by ac_rfl
  rw [e1, hc, e2, e]
  ac_rfl
structure Bq (D N : Nat) (r : R) : Prop where
  pos : 0 < r.2
  cop : Int.gcd r.1 r.2 = 1
  dvd : r.2 ∣ (D : Int)
  le : r.1.natAbs ≤ N * r.2.natAbs
theorem Bq.red {D N : Nat} {r : R} (h : Bq D N r) : Red r := ⟨h.pos, h.cop⟩
theorem bq_mk {D N : Nat} {a b : Int} (hb : 0 < b) (hd : b ∣ (D : Int)) (hl : a.natAbs ≤ N * b.natAbs) : Bq D N (mkR a b) := by
  obtain ⟨g, x, y, e0, gp, e1, e2, c⟩ := gcd_parts (a := a) hb
  have yp := pos_of hb gp e2
  have e : mkR a b = (x, y) := by
    unfold mkR
    rw [e0, show a / g = x by rw [e1]; exact Int.mul_ediv_cancel_left _ (by omega), show b / g = y by rw [e2]; exact Int.mul_ediv_cancel_left _ (by omega)]
  rw [e]
  refine ⟨yp, c, Int.dvd_trans ⟨g, by rw [e2, Int.mul_comm]⟩ hd, ?_⟩
  rw [e1, e2, Int.natAbs_mul, Int.natAbs_mul] at hl
  have gn : 0 < g.natAbs := by omega
  refine Nat.le_of_mul_le_mul_left (c := g.natAbs) ?_ gn
  show g.natAbs * x.natAbs ≤ g.natAbs * (N * y.natAbs)
  rw [Nat.mul_left_comm]
  exact hl
theorem Bq.mono {D N D' N' : Nat} {r : R} (h : Bq D N r) (hd : D ∣ D') (hn : N ≤ N') : Bq D' N' r :=
  ⟨h.pos, h.cop, Int.dvd_trans h.dvd (Int.ofNat_dvd.mpr hd), Nat.le_trans h.le (Nat.mul_le_mul_right _ hn)⟩
theorem Bq.plus {D N M : Nat} {r q : R} (hD : 0 < D) (h : Bq D N r) (k : Bq D M q) : Bq D (N + M) (plusR r q) := by
  obtain ⟨y, ey⟩ := h.dvd
  obtain ⟨v, ev⟩ := k.dvd
  have dp : (0 : Int) < (D : Int) := by omega
  have e : plusR r q = mkR (r.1 * y + q.1 * v) (D : Int) := by
    unfold plusR
    refine mkR_eq (Int.mul_pos h.pos k.pos) dp ?_
    rw [Int.add_mul, Int.add_mul]
    have a1 : r.1 * q.2 * (D : Int) = r.1 * y * (r.2 * q.2) := by rw [ey]; ac_rfl
    have a2 : q.1 * r.2 * (D : Int) = q.1 * v * (r.2 * q.2) := by rw [ev]; ac_rfl
    rw [a1, a2]
  rw [e]
  refine bq_mk dp (Int.dvd_refl _) ?_
  have b1 : (r.1 * y).natAbs ≤ N * D := by
    have : (D : Int).natAbs = r.2.natAbs * y.natAbs := by rw [ey, Int.natAbs_mul]
    rw [Int.natAbs_mul]
    have z := Nat.mul_le_mul_right y.natAbs h.le
    rw [Nat.mul_assoc, ← this] at z
    simpa using z
  have b2 : (q.1 * v).natAbs ≤ M * D := by
    have : (D : Int).natAbs = q.2.natAbs * v.natAbs := by rw [ev, Int.natAbs_mul]
    rw [Int.natAbs_mul]
    have z := Nat.mul_le_mul_right v.natAbs k.le
    rw [Nat.mul_assoc, ← this] at z
    simpa using z
  have b3 := Int.natAbs_add_le (r.1 * y) (q.1 * v)
  have b4 : (D : Int).natAbs = D := Int.natAbs_natCast D
  rw [b4, Nat.add_mul]
  omega
theorem Bq.times {D N E M : Nat} {r q : R} (h : Bq D N r) (k : Bq E M q) : Bq (D * E) (N * M) (timesR r q) := by
  refine bq_mk (Int.mul_pos h.pos k.pos) ?_ ?_
  · rw [Int.natCast_mul]; exact Int.mul_dvd_mul h.dvd k.dvd
  · rw [Int.natAbs_mul, Int.natAbs_mul]
    have z := Nat.mul_le_mul h.le k.le
    calc r.1.natAbs * q.1.natAbs ≤ N * r.2.natAbs * (M * q.2.natAbs) := z
      _ = N * M * (r.2.natAbs * q.2.natAbs) := by ac_rfl
theorem mkR_pos {a b : Int} (ha : 0 < a) (hb : 0 < b) : 0 < (mkR a b).1 := Int.ediv_pos_of_pos_of_dvd ha (Int.le_of_lt (gcd_posR hb)) (Int.gcd_dvd_left a b)
theorem Bq.bot {D N : Nat} {r : R} (hD : 0 < D) (h : Bq D N r) : r.2.natAbs ≤ D := by
  have := Int.natAbs_dvd_natAbs.mpr h.dvd
  rw [Int.natAbs_natCast] at this
  exact Nat.le_of_dvd hD this
theorem Bq.wf {D N n : Nat} {r : R} (h : Bq D N r) (hD : 0 < D) (h1 : D < 2 ^ n) (h2 : N * D < 2 ^ n) : Wf n r :=
  ⟨h.pos, Nat.lt_of_le_of_lt (Nat.le_trans h.le (Nat.mul_le_mul_left _ (h.bot hD))) h2, Nat.lt_of_le_of_lt (h.bot hD) h1, h.cop⟩
/-! ### the order -/
theorem less_iff {r q : R} : lessR r q = true ↔ r.1 * q.2 < q.1 * r.2 := by unfold lessR; exact decide_eq_true_iff
theorem less_not {r q : R} : lessR r q = false ↔ q.1 * r.2 ≤ r.1 * q.2 := by unfold lessR; rw [decide_eq_false_iff_not, Int.not_lt]
theorem lt_le {a b c : R} (pa : 0 < a.2) (pb : 0 < b.2) (pc : 0 < c.2) (h : lessR a b = true) (k : lessR c b = false) : lessR a c = true := by
  rw [less_iff] at h ⊢
  rw [less_not] at k
  have h1 := Int.mul_lt_mul_of_pos_right h pc
  have k1 := Int.mul_le_mul_of_nonneg_right k (Int.le_of_lt pa)
  have e1 : b.1 * a.2 * c.2 = b.1 * c.2 * a.2 := by ac_rfl
  have z : a.1 * b.2 * c.2 < c.1 * b.2 * a.2 := by omega
  refine Int.lt_of_mul_lt_mul_right (a := b.2) ?_ (Int.le_of_lt pb)
  have e2 : a.1 * c.2 * b.2 = a.1 * b.2 * c.2 := by ac_rfl
  have e3 : c.1 * a.2 * b.2 = c.1 * b.2 * a.2 := by ac_rfl
  omega
theorem less_asym {a b : R} (h : lessR a b = true) : lessR b a = false := by
  rw [less_iff] at h
  rw [less_not]
  omega
theorem less_plus {r q : R} (hr : Red r) (hq : Red q) (h : 0 < q.1) : lessR r (plusR r q) = true := by
  rw [less_iff]
  have bp := Int.mul_pos hr.pos hq.pos
  have c := mkR_cross (a := r.1 * q.2 + q.1 * r.2) bp
  have p := (mkR_red (a := r.1 * q.2 + q.1 * r.2) bp).pos
  show r.1 * (mkR (r.1 * q.2 + q.1 * r.2) (r.2 * q.2)).2 < (mkR (r.1 * q.2 + q.1 * r.2) (r.2 * q.2)).1 * r.2
  generalize mkR (r.1 * q.2 + q.1 * r.2) (r.2 * q.2) = z at c p ⊢
  refine Int.lt_of_mul_lt_mul_right (a := r.2 * q.2) ?_ (Int.le_of_lt bp)
  have e1 : z.1 * r.2 * (r.2 * q.2) = z.1 * (r.2 * q.2) * r.2 := by ac_rfl
  rw [e1, c, Int.add_mul, Int.add_mul]
  have e2 : r.1 * q.2 * z.2 * r.2 = r.1 * z.2 * (r.2 * q.2) := by ac_rfl
  have e3 := Int.mul_pos (Int.mul_pos (Int.mul_pos h hr.pos) p) hr.pos
  omega
theorem minus_ne {r q : R} (hr : Red r) (hq : Red q) (h : lessR q r = true) : (minusR r q).1 ≠ 0 := fun z => by
  have bp := Int.mul_pos hr.pos hq.pos
  have c := mkR_cross (a := r.1 * q.2 - q.1 * r.2) bp
  have p := (mkR_red (a := r.1 * q.2 - q.1 * r.2) bp).pos
  rw [show (mkR (r.1 * q.2 - q.1 * r.2) (r.2 * q.2)).1 = 0 from z, Int.zero_mul] at c
  rw [less_iff] at h
  have := Int.mul_pos (show 0 < r.1 * q.2 - q.1 * r.2 by omega) p
  omega
theorem nn_less {r : R} : lessR r (0, 1) = false ↔ 0 ≤ r.1 := by
  rw [less_not]
  show 0 * r.2 ≤ r.1 * 1 ↔ _
  omega
/-! ### products one behind the other -/
end B

namespace B
open PySem PySem.Spec L2 PyProof.Rows
/-! ### rules of power -/
inductive Rl where
  | pow (k : Int)
  | tab (rows : List (R × R))
def rowD : R × R := ((0, 1), (0, 1))
def slopeR (lo hi : R × R) : R := overR (minusR hi.2 lo.2) (minusR hi.1 lo.1)
def slp (rows : List (R × R)) (k : Nat) : R := slopeR (rows.getD k rowD) (rows.getD (k + 1) rowD)
def pOf (rows : List (R × R)) (s : R) : Nat := rows.countP fun r => lessR r.1 s
def qOf (rows : List (R × R)) (s : R) : Nat := rows.countP fun r => !lessR s r.1
def leftT (rows : List (R × R)) (s : R) : R := if pOf rows s = 0 then (0, 1) else slp rows (pOf rows s - 1)
def rightT (rows : List (R × R)) (s : R) : Option R := if qOf rows s < rows.length then some (slp rows (qOf rows s - 1)) else none
def powS (k : Int) (s : R) : R := timesR (k, 1) (powR s (k - 1).toNat)
def sidesOf : Rl → R → R × Option R
  | .pow k, s => (powS k s, some (powS k s))
  | .tab rows, s => (leftT rows s, rightT rows s)
def Inc (rows : List (R × R)) : Prop := rows.Pairwise fun a b => lessR a.1 b.1 = true
def AllP (rows : List (R × R)) : Prop := ∀ r ∈ rows, 0 < r.1.2
abbrev D0 : Nat := 5822723907000000000
abbrev N0 : Nat := 1000000007
abbrev N1 : Nat := 17179869184
abbrev NR : Nat := 11000000077
abbrev N2 : Nat := 1180591620717411303424
structure RowsOk (rows : List (R × R)) : Prop where
  n2 : 2 ≤ rows.length
  n12 : rows.length ≤ 12
  inc : Inc rows
  zero : ∃ y, rows[0]? = some ((0, 1), y)
  sp : ∀ r ∈ rows, Bq D0 NR r.1
  pw : ∀ r ∈ rows, Bq (D0 * D0) N2 r.2
def RlOk : Rl → Prop
  | .pow k => 2 ≤ k ∧ k ≤ 4
  | .tab rows => RowsOk rows
/-- a speed that may be asked -/
structure SpOk (s : R) : Prop where
  bq : Bq (D0 * 2) N1 s
  nn : 0 ≤ s.1
def Below : Rl → R → Prop
  | .pow _, _ => True
  | .tab rows, s => ∃ r, rows[rows.length - 1]? = some r ∧ lessR r.1 s = false
theorem wfS {r : R} (h : Bq D0 NR r) : Wf 98 r := h.wf (by decide) (by decide) (by decide)
theorem wfP {r : R} (h : Bq (D0 * D0) N2 r) : Wf 197 r := h.wf (by decide) (by decide) (by decide)
/-! ### the same by going through the pairs -/
def lAt (rows : List (R × R)) (s : R) (i : Nat) : R := if 0 < pOf rows s ∧ pOf rows s - 1 < i then slp rows (pOf rows s - 1) else (0, 1)
def rAt (rows : List (R × R)) (s : R) (i : Nat) : Option R := if 0 < qOf rows s ∧ qOf rows s - 1 < i then some (slp rows (qOf rows s - 1)) else none
/-- the slope of a power, product by product -/
def powAt (k : Int) (s : R) (j : Nat) : R := mkR (k * s.1 ^ j) (s.2 ^ j)
/-! ### who bears -/
def bearM (l : R) (r : Option R) (g : R) : Bool := !lessR g l && (match r with | none => true | some x => !lessR x g)
end B

namespace B
/-! ### ratios as numbers -/
def val (r : R) : Rat := (r.1 : Rat) / (r.2 : Rat)
theorem ne_cast {b : Int} (h : 0 < b) : (b : Rat) ≠ 0 := fun z => by
  have : b = 0 := Rat.intCast_inj.mp (by rw [z]; rfl)
  omega
theorem val_of {r : R} {a b : Int} (hr : 0 < r.2) (hb : (b : Rat) ≠ 0) (h : r.1 * b = a * r.2) : val r = (a : Rat) / (b : Rat) := by
  have h2 : (r.1 : Rat) * (b : Rat) = (a : Rat) * (r.2 : Rat) := by rw [← Rat.intCast_mul, ← Rat.intCast_mul, h]
  have h1 := ne_cast hr
  unfold val
  generalize (r.1 : Rat) = x at *
  generalize (r.2 : Rat) = y at *
  generalize (a : Rat) = u at *
  generalize (b : Rat) = v at *
  grind
theorem val_mk {a b : Int} (hb : 0 < b) : val (mkR a b) = (a : Rat) / (b : Rat) := val_of (mkR_red hb).pos (ne_cast hb) (mkR_cross hb)
theorem val_minus {r q : R} (hr : 0 < r.2) (hq : 0 < q.2) : val (minusR r q) = val r - val q := by
  unfold minusR
  rw [val_mk (Int.mul_pos hr hq)]
  have h1 := ne_cast hr
  have h2 := ne_cast hq
  unfold val
  rw [Rat.intCast_sub, Rat.intCast_mul, Rat.intCast_mul, Rat.intCast_mul]
  generalize (r.1 : Rat) = x at *
  generalize (r.2 : Rat) = y at *
  generalize (q.1 : Rat) = u at *
  generalize (q.2 : Rat) = v at *
  grind
theorem val_times {r q : R} (hr : 0 < r.2) (hq : 0 < q.2) : val (timesR r q) = val r * val q := by
  unfold timesR
  rw [val_mk (Int.mul_pos hr hq)]
  have h1 := ne_cast hr
  have h2 := ne_cast hq
  unfold val
  rw [Rat.intCast_mul, Rat.intCast_mul]
  generalize (r.1 : Rat) = x at *
  generalize (r.2 : Rat) = y at *
  generalize (q.1 : Rat) = u at *
  generalize (q.2 : Rat) = v at *
  grind
theorem ne_cast0 {b : Int} (h : b ≠ 0) : (b : Rat) ≠ 0 := fun z => h (Rat.intCast_inj.mp (by rw [z]; rfl))
theorem val_over {r q : R} (hr : 0 < r.2) (hq : 0 < q.2) (h : q.1 ≠ 0) : val (overR r q) = val r / val q := by
  have hn : r.2 * q.1 ≠ 0 := Int.mul_ne_zero (by omega) h
  obtain ⟨hs, es⟩ := mkS_spec (a := r.1 * q.2) hn
  unfold overR
  rw [val_of hs.pos (ne_cast0 hn) es]
  have h1 := ne_cast hr
  have h2 := ne_cast hq
  have h3 := ne_cast0 h
  unfold val
  rw [Rat.intCast_mul, Rat.intCast_mul]
  generalize (r.1 : Rat) = x at *
  generalize (r.2 : Rat) = y at *
  generalize (q.1 : Rat) = u at *
  generalize (q.2 : Rat) = v at *
  grind
end B

namespace B
/-! ### lines below a row of rising slopes -/
/-- the slope from row i to the next -/
def slV (rows : List (R × R)) (i : Nat) : Rat := (val (rows.getD (i + 1) rowD).2 - val (rows.getD i rowD).2) / (val (rows.getD (i + 1) rowD).1 - val (rows.getD i rowD).1)
section
variable {s p : Nat → Rat} {n : Nat}
/-- the slope of piece i -/
def sl (s p : Nat → Rat) (i : Nat) : Rat := (p (i + 1) - p i) / (s (i + 1) - s i)
end
/-! ### powers -/
end B

namespace B
open PySem PySem.Spec L2 PyProof.Rows
structure SpW (s : R) : Prop where
  wf : Wf 98 s
  nn : 0 ≤ s.1
end B
namespace B
/-! ### a slope that bears -/
theorem cast_pos {b : Int} (h : 0 < b) : (0 : Rat) < (b : Rat) := by
  have := Rat.intCast_lt_intCast.mpr h
  exact this
theorem val_less {r q : R} (hr : 0 < r.2) (hq : 0 < q.2) : lessR r q = true ↔ val r < val q := by
  rw [less_iff, ← Rat.intCast_lt_intCast, Rat.intCast_mul, Rat.intCast_mul]
  have h1 := cast_pos hr
  have h2 := cast_pos hq
  have e1 : (r.1 : Rat) = val r * (r.2 : Rat) := by
    have := ne_cast hr
    unfold val
    generalize (r.1 : Rat) = x at *
    generalize (r.2 : Rat) = y at *
    grind
  have e2 : (q.1 : Rat) = val q * (q.2 : Rat) := by
    have := ne_cast hq
    unfold val
    generalize (q.1 : Rat) = x at *
    generalize (q.2 : Rat) = y at *
    grind
  rw [e1, e2]
  generalize val r = x at *
  generalize val q = y at *
  generalize (r.2 : Rat) = u at *
  generalize (q.2 : Rat) = v at *
  have c : 0 < u * v := Rat.mul_pos h1 h2
  constructor
  · intro h
    have h' : x * (u * v) < y * (u * v) := by grind
    by_cases w : x < y
    · exact w
    · have z : y ≤ x := Rat.not_lt.mp w
      have := Rat.mul_le_mul_of_nonneg_right z (Rat.le_of_lt c)
      grind
  · intro h
    have := Rat.mul_lt_mul_of_pos_right h c
    grind
def powT' (rows : List (R × R)) (s : R) : R := if pOf rows s = 0 then (rows.getD 0 rowD).2 else plusR (rows.getD (pOf rows s - 1) rowD).2 (timesR (slopeR (rows.getD (pOf rows s - 1) rowD) (rows.getD (pOf rows s) rowD)) (minusR s (rows.getD (pOf rows s - 1) rowD).1))
def Sv (rows : List (R × R)) (i : Nat) : Rat := val (rows.getD i rowD).1
def Pv (rows : List (R × R)) (i : Nat) : Rat := val (rows.getD i rowD).2
def Cvx (rows : List (R × R)) : Prop := ∀ j, j + 2 < rows.length → sl (Sv rows) (Pv rows) j ≤ sl (Sv rows) (Pv rows) (j + 1)
/-! powers by a table, on whatever piece the speed lies -/
/-! tables with slopes that don't fall, as they grow -/
def Cv (rows : List (R × R)) (x : Rat) : Prop := Cvx rows ∧ ∀ j, j + 2 = rows.length → sl (Sv rows) (Pv rows) j ≤ x
end B

namespace B
open PySem PySem.Spec L2 PyProof.Rows
/-! ### the same rules, each promise kept in a box, so that nothing is unfolded while terms are read -/
structure QE (X : Cx) (e : Expr) (t : TE) : Prop where
  p : PE X e t
structure QT (X : Cx) (e : Expr) (t : TT) : Prop where
  p : PT X e t
structure QW (X : Cx) (e : Expr) (t : TT) : Prop where
  p : PW X e t
structure QA (X : Cx) (es : List Expr) (t : TA) : Prop where
  p : PA X es t
structure QS (X : Cx) (st : Stmt) (t : TS) : Prop where
  p : PS X st t
structure QSs (X : Cx) (st : List Stmt) (t : TS) : Prop where
  p : PSs X st t
structure QI (X : Cx) (tg iter : Expr) (wi : TI) : Prop where
  p : PI X tg iter wi
structure QG (X : Cx) (target : Expr) (t : TG) : Prop where
  p : PG X target t
structure QGs (X : Cx) (ts : List Expr) (t : TGs) : Prop where
  p : PGs X ts t
theorem QSs.ok {X : Cx} {b : List Stmt} {t : TS} {D : Ends} {σ : L2.St} {H : Hp} (h : QSs X b t) (r : t D σ H) : ∃ t : TS, PSs X b t ∧ t D σ H := ⟨t, h.p, r⟩
structure QO (X : Cx) (o : Option Expr) (t : L2.TO) : Prop where
  p : PO X o t
section
set_option autoImplicit true
set_option relaxedAutoImplicit true
theorem qv  (i : Nat) {x : Str} {pos : Pos} (hN : X.N[i]? = some x := by rfl) (hv : Vis X.env.scope x := by first | exact Or.inl rfl | exact Or.inr (Or.inl rfl) | exact Or.inr (Or.inr rfl)) (hd : (x == ("__debug__" : Str)) = false := by decide) (hcd : (x == ("__classdict__" : Str)) = false := by decide) : QE X (.Name x pos) (tVar i) := ⟨pv i hN hv hd hcd⟩
theorem qe_int  {i j pos} : QE X (.Constant (.int i) j pos) (tC (.int i)) := ⟨pe_int ⟩
theorem qe_bl  {b j pos} : QE X (.Constant (.bool b) j pos) (tC (.bl b)) := ⟨pe_bl ⟩
theorem qe_non  {j pos} : QE X (.Constant .none j pos) (tC .non) := ⟨pe_non ⟩
theorem qe_str  {x j pos} : QE X (.Constant (.str x) j pos) (tC (.str x)) := ⟨pe_str ⟩
theorem qe_glob  {x : Str} {v : V} {u : Value} {pos : Pos} (hg : Gl X x) (hm : X.mg x = some u) (r : RelV v u) (hd : (x == ("__debug__" : Str)) = false := by decide) : QE X (.Name x pos) (tC v) := ⟨pe_glob hg hm r hd⟩
theorem qe_bltn  {x : Str} {v : V} {u : Value} {pos : Pos} (hg : Gl X x) (hm : X.mg x = none) (hv : bootBuiltins x = some u) (r : RelV v u) (hn : x ≠ "__name__" := by decide) (hd : (x == ("__debug__" : Str)) = false := by decide) : QE X (.Name x pos) (tC v) := ⟨pe_bltn hg hm hv r hn hd⟩
theorem qe_un  {op : UnaryOp} {r : V → Hp → VK → Prop} (ho : UnR X (unaryOp op) r) (ha : QE X a ta) : QE X (.UnaryOp op a pos) (tUn r ta) := ⟨pe_un ho ha.p⟩
theorem qe_not  (ha : QE X a ta) : QE X (.UnaryOp .Not a pos) (tNotV ta) := ⟨pe_not ha.p⟩
theorem qe_op  {op : Operator} {r : R2} (ho : OpR X (binaryOp op) r) (ha : QE X a ta) (hb : QE X b tb) : QE X (.BinOp a op b pos) (tOp r ta tb) := ⟨pe_op ho ha.p hb.p⟩
theorem qe_one  {op} {t : TE} (h : QE X a t) : QE X (.BoolOp op [a] pos) t := ⟨pe_one h.p⟩
theorem qe_and {rest : List Expr} (ha : QE X a ta) (hb : QE X (.BoolOp .And (b :: rest) pos) tb) : QE X (.BoolOp .And (a :: b :: rest) pos) (tAndV ta tb) := ⟨pe_and ha.p hb.p⟩
theorem qe_cmpR  {op : CmpOp} {r : R2} (ho : OpR X (compareOp op) r) (ha : QE X a ta) (hb : QE X b tb) (hm : behindInMarks op b = false) : QE X (.Compare a [op] [b] pos) (tOp r ta tb) := ⟨pe_cmpR ho ha.p hb.p hm⟩
theorem qe_chain  {op op' : CmpOp} {r r' : R2} (ho : OpR X (compareOp op) r) (ho' : OpR X (compareOp op') r') (ha : QE X a ta) (hb : QE X b tb) (hc : QE X c tc) (hm : lastMarks [op, op'] [b, c] = false := by with_unfolding_all rfl) : QE X (.Compare a [op, op'] [b, c] pos) (tChain r r' ta tb tc) := ⟨pe_chain ho ho' ha.p hb.p hc.p hm⟩
theorem qe_lst  (h : QA X es t) : QE X (.List es pos) (tLst t) := ⟨pe_lst h.p⟩
theorem qe_tup  {x1} (h : QA X es t) : QE X (.Tuple es x1 pos) (tTup t) := ⟨pe_tup h.p⟩
theorem qe_slice {lo hi : Option Expr} {r : V → Option Int → Option Int → Hp → VK → Prop} (hr : SlR X r) (he : QE X e te) (hl : QO X lo tl) (hu : QO X hi th) : QE X (.Subscript e (.Slice lo hi none p2) pos) (tSl r te tl th) := ⟨pe_slice hr he.p hl.p hu.p⟩
theorem qo_none   : QO X none tNoPart := ⟨po_none ⟩
theorem qo_some  (h : QE X e te) : QO X (some e) (tPart te) := ⟨po_some h.p⟩
theorem qe_ix  {r : R2} (hr : IxR X r) (ha : QE X a ta) (hb : QE X b tb) (hs : PlainIx b) : QE X (.Subscript a b pos) (tOp r ta tb) := ⟨pe_ix hr ha.p hb.p hs⟩
theorem qe_call  (F : FnOk X.prog X.w X.K X.mg X.base CX k f fd ps sp) (hr : Room k X.A) (hg : Gl X x) (hm : X.mg x = some (.ref f)) (hk : PySem.W.keepIn X.K (.ref f) = true) (hb : Binds X.K fd ps ds) (hd : Vals dvs ds) (hx : Passes CX X E) (ha : QA X (e :: es) t) (hdb : (x == ("__debug__" : Str)) = false := by decide) (he : starEach (e :: es) X.env = (false, eval e X.env) :: starEach es X.env := by rfl) (hpl : (backTo pos (starEach es X.env)).any (·.1) = false := by rfl) : QE X (.Call (.Name x p) (e :: es) [] pos) (tCall sp dvs E t) := ⟨pe_call F hr hg hm hk hb hd hx ha.p hdb he hpl⟩
theorem qe_callB {id : String} (hc : CallR X (.builtin id) r) (hg : Gl X x) (hm : X.mg x = none) (hv : bootBuiltins x = some (.builtin id)) (ha : QA X (e :: es) t) (hn : x ≠ "__name__" := by decide) (hdb : (x == ("__debug__" : Str)) = false := by decide) (he : starEach (e :: es) X.env = (false, eval e X.env) :: starEach es X.env := by rfl) (hpl : (backTo pos (starEach es X.env)).any (·.1) = false := by rfl) : QE X (.Call (.Name x p) (e :: es) [] pos) (tCB r t) := ⟨pe_callB hc hg hm hv ha.p hn hdb he hpl⟩
theorem qe_callTy  (hc : CallR X (.type T) r) (hg : Gl X x) (hm : X.mg x = none) (hv : bootBuiltins x = some (.type T)) (ha : QA X (e :: es) t) (hn : x ≠ "__name__" := by decide) (hdb : (x == ("__debug__" : Str)) = false := by decide) (he : starEach (e :: es) X.env = (false, eval e X.env) :: starEach es X.env := by rfl) (hpl : (backTo pos (starEach es X.env)).any (·.1) = false := by rfl) : QE X (.Call (.Name x p) (e :: es) [] pos) (tCB r t) := ⟨pe_callTy hc hg hm hv ha.p hn hdb he hpl⟩
theorem qe_bm {id : String} (pa : PlainAttrs T) (slot : Slot T name id) (hty : typeOf (.builtin id) = pure (.type "method_descriptor")) (hm : MtR X id r) (ho : QE X o to) (ha : QA X (e :: es) t) (hbase : attributeBase o name X.env (eval o X.env) = eval o X.env := by rfl) (hfew : ((backTo cpos (starEach (e :: es) X.env)).all (fun x => !x.1) && (backToKw cpos (keywordEach [] X.env)).all (fun x => x.1.isSome)
      && decide ((e :: es).length + ([] : List Keyword).length + (if ([] : List Keyword).isEmpty then 0 else 1) < 30)) = true := by rfl) (hline : (apos.endLine == cpos.line) = true := by rfl) (hs : starEach (e :: es) X.env = (false, eval e X.env) :: starEach es X.env := by rfl) (hplain : (backTo cpos (starEach es X.env)).any (·.1) = false := by rfl) : QE X (.Call (.Attribute o name apos) (e :: es) [] cpos) (tBM X.K T r to t) := ⟨pe_bm pa slot hty hm ho.p ha.p hbase hfew hline hs hplain⟩
theorem qa_nil   : QA X [] tNil := ⟨pa_nil ⟩
theorem qa_cons  (ha : QE X e te) (hr : QA X es t) (hs : starEach (e :: es) X.env = (false, eval e X.env) :: starEach es X.env := by rfl) : QA X (e :: es) (tCons te t) := ⟨pa_cons ha.p hr.p hs⟩
theorem qt_cmpR  {op : CmpOp} {r : R2} (ho : OpR X (compareOp op) r) (ha : QE X a ta) (hb : QE X b tb) (hm : behindInMarks op b = false) : QT X (.Compare a [op] [b] pos) (tTest (tOp r ta tb)) := ⟨pt_cmpR ho ha.p hb.p hm⟩
theorem qt_chain  {op op' : CmpOp} {r r' : R2} (ho : OpR X (compareOp op) r) (ho' : OpR X (compareOp op') r') (ha : QE X a ta) (hb : QE X b tb) (hc : QE X c tc) (hm : lastMarks [op, op'] [b, c] = false := by with_unfolding_all rfl) : QT X (.Compare a [op, op'] [b, c] pos) (tTest (tChain r r' ta tb tc)) := ⟨pt_chain ho ho' ha.p hb.p hc.p hm⟩
theorem qt_val  {e : Expr} {t : TE} (h : QE X e t) (he : ∀ whole, isTrue e X.env whole = (do let v ← whole; standAt e.pos; holding [v] (truthy v)) := by intro _; rfl) : QT X e (tB t) := ⟨pt_val h.p he⟩
theorem qt_not  (ha : QT X a tA) : QT X (.UnaryOp .Not a pos) (tNot tA) := ⟨pt_not ha.p⟩
theorem qw_and {rest : List Expr} (ha : QT X a tA) (hb : QW X (.BoolOp .And (b :: rest) pos) tB') : QW X (.BoolOp .And (a :: b :: rest) pos) (tAnd tA tB') := ⟨pw_and ha.p hb.p⟩
theorem qw_and1  (ha : QT X a tA) : QW X (.BoolOp .And [a] pos) tA := ⟨pw_and1 ha.p⟩
theorem qw_or {rest : List Expr} (ha : QT X a tA) (hb : QW X (.BoolOp .Or (b :: rest) pos) tB') : QW X (.BoolOp .Or (a :: b :: rest) pos) (tOr tA tB') := ⟨pw_or ha.p hb.p⟩
theorem qw_or1  (ha : QT X a tA) : QW X (.BoolOp .Or [a] pos) tA := ⟨pw_or1 ha.p⟩
theorem qw_pt  {X : Cx} {e : Expr} {t : TT} (h : QW X e t) : QT X e t := ⟨PW.pt h.p⟩
theorem qs_set  {i : Nat} {x : Str} {e : Expr} {te : TE} {pos' : Pos} (hN : X.N.Nodup) (hi : X.N[i]? = some x) (hx : Loc X.env.scope x) (he : QE X e te) (hs : swapsWith e (some (.Name x pos')) pos.line X.env = pure false := by rfl) (hf : X.fn x = true ∨ X.env.scope.names.lookup x = some .local := by first | exact .inl rfl | exact .inr rfl | assumption) : QS X (.Assign [.Name x pos'] e pos) (tAsg te (gName i)) := ⟨ps_set hN hi hx he.p hs hf⟩
theorem qs_par  {i j : Nat} {x y : Str} {a b : Expr} {ta : TA} {px py pt : Pos} {kt k2 pt2} (hc : X.calm = true) (hN : X.N.Nodup) (hi : X.N[i]? = some x) (hj : X.N[j]? = some y) (hij : i ≠ j) (hx : X.env.scope.names.lookup x = some .local) (hy : X.env.scope.names.lookup y = some .local) (ha : QA X [a, b] ta) (hw : swappedStores [.Tuple [.Name x px, .Name y py] kt pt] (.Tuple [a, b] k2 pt2) X.env = pure (some [x, y])) (hs : swapsWithSole [.Tuple [.Name x px, .Name y py] kt pt] (.Tuple [a, b] k2 pt2) pos.line X.env = pure false := by rfl) : QS X (.Assign [.Tuple [.Name x px, .Name y py] kt pt] (.Tuple [a, b] k2 pt2) pos) (tPar i j ta) := ⟨ps_par hc hN hi hj hij hx hy ha.p hw hs⟩
theorem qs_asg  {tg e : Expr} {te : TE} {g : TG} (he : QE X e te) (hg : QG X tg g) (hs : swapsWithSole [tg] e pos.line X.env = pure false := by rfl) (hw : swappedStores [tg] e X.env = pure none := by rfl) (h1 : (assignEach [tg] X.env).map (·.2) = [assign tg X.env] := by rfl) : QS X (.Assign [tg] e pos) (tAsg te g) := ⟨ps_asg he.p hg.p hs hw h1⟩
theorem qs_if  {c : Expr} {a b : List Stmt} {tc : TT} (hc : QT X c tc) (ha : QSs X a t) (hb : QSs X b u) : QS X (.If c a b pos) (tIfS tc t u) := ⟨ps_if hc.p ha.p hb.p⟩
theorem qs_while  {c : Expr} {body : List Stmt} {tc : TT} {tb : TS} (hp : PassesOwn (model X.prog X.w) X.A X.env X.xe) (hc : QT X c tc) (hb : QSs X body tb) : QS X (.While c body [] pos) (tWhile tc tb) := ⟨ps_while hp hc.p hb.p⟩
theorem qs_for  {iter : Expr} {body : List Stmt} {wi : TI} {g : TG} {tb : TS} {pos : Pos} (hp : PassesOwn (model X.prog X.w) X.A X.env X.xe) (hc : X.calm = true) (hi : QI X tg iter wi) (hg : QG X tg g) (hb : QSs X body tb) (hs : ∀ x, foldedSetIterable iter X.env x = pure x := by intro _; rfl) : QS X (.For tg iter body [] pos) (tFor wi g tb) := ⟨ps_for hp hc hi.p hg.p hb.p hs⟩
theorem qs_ret  (he : QE X e te) : QS X (.Return (some e) pos) (tRet te) := ⟨ps_ret he.p⟩
theorem qs_expr  (he : QE X e te) (hs : swapsWith e none pos.line X.env = pure false := by rfl) : QS X (.Expr e pos) (tDrop te) := ⟨ps_expr he.p hs⟩
theorem qs_never {st : Stmt}  : QS X st tNever := ⟨ps_never ⟩
theorem qss_nil   : QSs X [] tNext := ⟨pss_nil ⟩
theorem qss_one {st : Stmt} (h1 : QS X st t) : QSs X [st] t := ⟨pss_one h1.p⟩
theorem qss_cons {st : Stmt} {rest : List Stmt} (h1 : QS X st t) (h2 : QSs X rest u) : QSs X (st :: rest) (tSeq t u) := ⟨pss_cons h1.p h2.p⟩
theorem qi_range1  {a : Expr} {ta : TA} {p pos : Pos} (hg : Gl X "range") (hm : X.mg "range" = none) (ha : QA X [a] ta) (hs : starEach [a] X.env = [(false, eval a X.env)] := by rfl) : QI X tg (.Call (.Name "range" p) [a] [] pos) (iRng1 ta) := ⟨pi_range1 hg hm ha.p hs⟩
theorem qi_list {tg : Expr} {l : Expr} {tl : TE} (hl : QE X l tl) : QI X tg l (iList X.K tl) := ⟨pi_list hl.p⟩
theorem qi_tup  {l : Expr} {tl : TE} (hl : QE X l tl) : QI X tg l (iTup X.K tl) := ⟨pi_tup hl.p⟩
theorem qg_name  {i : Nat} {x : Str} (hN : X.N.Nodup) (hi : X.N[i]? = some x) (hx : Loc X.env.scope x) (hf : X.fn x = true ∨ X.env.scope.names.lookup x = some .local := by first | exact .inl rfl | exact .inr rfl | assumption) : QG X (.Name x pos) (gName i) := ⟨pg_name hN hi hx hf⟩
theorem qg_tup  {es : List Expr} {k : Nat} {t : TGs} {n : Nat} (hc : X.calm = true) (h : QGs X es t) (hn : (assignEach es X.env).length = n := by rfl) (hst : (assignEach es X.env).findIdx? (·.1) = none := by rfl) : QG X (.Tuple es k pos) (gTup X.K n t) := ⟨pg_tup hc h.p hn hst⟩
theorem qg_sub  {o i : Expr} {to ti : TE} {t : TSet} (ho : QE X o to) (hi : QE X i ti) (hs : PSet X t) (ha : ∀ v, assign (.Subscript o i pos) X.env v = (do
      let ov ← holding [v] (eval o X.env)
      let iv ← holding [v, ov] (eval i X.env)
      standAt pos
      holding [v, ov, iv] (setItem ov iv v)
      release [v, ov, iv] []) := by intro _; rfl) : QG X (.Subscript o i pos) (gSub to ti t) := ⟨pg_sub ho.p hi.p hs ha⟩
theorem qgs_nil   : QGs X [] gNil := ⟨pgs_nil ⟩
theorem qgs_cons  {e : Expr} {es : List Expr} {t : TG} {u : TGs} (h1 : QG X e t) (h2 : QGs X es u) (hs : (assignEach (e :: es) X.env).map (·.2) = assign e X.env :: (assignEach es X.env).map (·.2) := by rfl) : QGs X (e :: es) (gCons t u) := ⟨pgs_cons h1.p h2.p hs⟩
end
end B

namespace B
open PySem PySem.Spec L2 PyProof.Rows
structure QTs (X : Cx) (ifs : List Expr) (t : TT) : Prop where
  p : PTs X ifs t
section
set_option autoImplicit true
set_option relaxedAutoImplicit true
theorem qts_nil  {X : Cx} : QTs X [] tYes := ⟨pts_nil ⟩
theorem qe_lcomp  (hc : X.calm = true) (hi : QI X tg iter wi) (hg : ∀ C fp pins s H, QG (cxC X N' scope cl C fp pins s H) tg g) (ht : ∀ C fp pins s H, QTs (cxC X N' scope cl C fp pins s H) ifs tt) (he : ∀ C fp pins s H, QE (cxC X N' scope cl C fp pins s H) elt te) (hfree : FreeOk X scope cl N' src) (hclos : closureFor scope X.env = pure cl) (hcell : ∀ x ∈ scope.names, x.2 ≠ .cell) (hkind : scope.kind = .function) (hnames : ∀ x ∈ scope.names, x.2 = .local → scope.names.lookup x.1 = some .local) (hcl : CellsOk X scope cl) (hs : ∀ x, foldedSetIterable iter X.env x = pure x := by intro _; rfl) : QE X (.ListComp elt [⟨tg, iter, ifs, 0⟩] scope pos) (tComp wi src g tt te) := ⟨pe_lcomp hc hi.p (fun z0 z1 z2 z3 z4 => (hg z0 z1 z2 z3 z4).p) (fun z0 z1 z2 z3 z4 => (ht z0 z1 z2 z3 z4).p) (fun z0 z1 z2 z3 z4 => (he z0 z1 z2 z3 z4).p) hfree hclos hcell hkind hnames hcl hs⟩
theorem qs_setC  {i : Nat} {x : Str} {pos' pos2 : Pos} (hN : X.N.Nodup) (hi' : X.N[i]? = some x) (hx : Loc X.env.scope x) (hc : X.calm = true) (hi : QI X tg iter wi) (hg : ∀ C fp pins s H, QG (cxC X N' scope cl C fp pins s H) tg g) (ht : ∀ C fp pins s H, QTs (cxC X N' scope cl C fp pins s H) ifs tt) (he : ∀ C fp pins s H, QE (cxC X N' scope cl C fp pins s H) elt te) (hfree : FreeOk X scope cl N' src) (hclos : closureFor scope X.env = pure cl) (hcell : ∀ x ∈ scope.names, x.2 ≠ .cell) (hkind : scope.kind = .function) (hnames : ∀ x ∈ scope.names, x.2 = .local → scope.names.lookup x.1 = some .local) (hcl : CellsOk X scope cl) (hs : ∀ x, foldedSetIterable iter X.env x = pure x := by intro _; rfl) (hsw : swapsWith (.ListComp elt [⟨tg, iter, ifs, 0⟩] scope pos) (some (.Name x pos')) pos2.line X.env = pure true := by rfl) (hf : X.fn x = true ∨ X.env.scope.names.lookup x = some .local := by first | exact .inl rfl | exact .inr rfl | assumption) : QS X (.Assign [.Name x pos'] (.ListComp elt [⟨tg, iter, ifs, 0⟩] scope pos) pos2) (tAsg (tComp wi src g tt te) (gName i)) := ⟨ps_setC hN hi' hx hc hi.p (fun z0 z1 z2 z3 z4 => (hg z0 z1 z2 z3 z4).p) (fun z0 z1 z2 z3 z4 => (ht z0 z1 z2 z3 z4).p) (fun z0 z1 z2 z3 z4 => (he z0 z1 z2 z3 z4).p) hfree hclos hcell hkind hnames hcl hs hsw hf⟩
end
end B

namespace B
open PySem PySem.Spec L2 PyProof.Rows
/-! ### rules with K spelt out (within a comprehension) -/
section
variable {X : Cx} {K : PySem.W.Frag}
theorem ix_tupK (hK : X.K = K) : IxR X (rIxT K) := hK ▸ ix_tup
def rLen (K : PySem.W.Frag) : List V → Hp → VK → Prop := fun xs H Q => ∃ p ys, xs = [.ref p] ∧ (SqL K H p ys ∨ SqT K H p ys) ∧ Q (.int ys.length) H
end
theorem star_bin {a b : Expr} {op : Operator} {pos : Pos} {es : List Expr} {env : Env} : starEach (.BinOp a op b pos :: es) env = (false, eval (.BinOp a op b pos) env) :: starEach es env := rfl
/-! ### a loop over zip -/
end B

namespace B
open PySem
/-! ### arguments that are no starred ones, by their kind -/
section
variable {es : List Expr} {env : Env}
theorem star_tup {a b c} : starEach (.Tuple a b c :: es) env = (false, eval (.Tuple a b c) env) :: starEach es env := rfl
theorem star_lst {a b} : starEach (.List a b :: es) env = (false, eval (.List a b) env) :: starEach es env := rfl
theorem star_sub {a b c} : starEach (.Subscript a b c :: es) env = (false, eval (.Subscript a b c) env) :: starEach es env := rfl
theorem star_call {a b c d} : starEach (.Call a b c d :: es) env = (false, eval (.Call a b c d) env) :: starEach es env := rfl
theorem star_name {a b} : starEach (.Name a b :: es) env = (false, eval (.Name a b) env) :: starEach es env := rfl
theorem star_con {a b c} : starEach (.Constant a b c :: es) env = (false, eval (.Constant a b c) env) :: starEach es env := rfl
theorem star_un {a b c} : starEach (.UnaryOp a b c :: es) env = (false, eval (.UnaryOp a b c) env) :: starEach es env := rfl
end
end B

namespace B
open PySem L2 PyProof.Rows
/-! ### things one by one -/
inductive Als {α : Type} (P : V → α → Prop) : List V → List α → Prop where
  | nil : Als P [] []
  | cons {x : V} {d : α} {xs : List V} {ds : List α} (h : P x d) (t : Als P xs ds) : Als P (x :: xs) (d :: ds)
theorem Als.len {α : Type} {P : V → α → Prop} : ∀ {xs : List V} {ds : List α}, Als P xs ds → xs.length = ds.length
  | _, _, .nil => rfl
  | _, _, .cons _ t => congrArg (· + 1) t.len
theorem Als.mono {α : Type} {P P' : V → α → Prop} (m : ∀ v d, P v d → P' v d) : ∀ {xs : List V} {ds : List α}, Als P xs ds → Als P' xs ds
  | _, _, .nil => .nil
  | _, _, .cons h t => .cons (m _ _ h) (t.mono m)
theorem Als.snoc {α : Type} {P : V → α → Prop} {x : V} {d : α} (k : P x d) : ∀ {xs : List V} {ds : List α}, Als P xs ds → Als P (xs ++ [x]) (ds ++ [d])
  | _, _, .nil => .cons k .nil
  | _, _, .cons h t => .cons h (t.snoc k)
theorem Als.at {α : Type} {P : V → α → Prop} : ∀ {xs : List V} {ds : List α}, Als P xs ds → ∀ {i : Nat} {x : V}, xs[i]? = some x → ∃ d, ds[i]? = some d ∧ P x d
  | _, _, .cons h _, 0, x, e => by
    rw [List.getElem?_cons_zero] at e
    cases e
    exact ⟨_, rfl, h⟩
  | _, _, .cons _ t, i + 1, x, e => t.at (i := i) (by rw [List.getElem?_cons_succ] at e; exact e)
  | _, _, .nil, _, _, e => by cases e
/-! ### [text of x for x in t], t a tuple -/
/-! ### [thing drawn for k in range(n)] -/
end B

namespace B
open PySem PySem.Spec L2 PyProof.Rows
/-! ### comprehensions, the things around staying -/
/-- the last one of two rows of things -/
theorem Als.last {α : Type} {P : V → α → Prop} {xs : List V} {ds : List α} {n : Nat} (h : Als P xs ds) (hn : ds.length = n + 1) : ∃ x d, atI xs (-1) = some x ∧ ds[n]? = some d ∧ P x d ∧ xs[n]? = some x := by
  have hl := h.len
  have hx : xs[n]? = some (xs[n]'(by omega)) := List.getElem?_eq_getElem _
  obtain ⟨d, hd, p⟩ := h.at hx
  refine ⟨_, d, ?_, hd, p, hx⟩
  have e : xs = xs.take n ++ [xs[n]'(by omega)] := by
    have := List.take_append_drop n xs
    rw [List.drop_eq_getElem_cons (by omega)] at this
    rw [List.drop_eq_nil_of_le (by omega)] at this
    exact this.symm
  have := atI_last (xs.take n) (xs[n]'(by omega))
  rw [← e] at this
  exact this
end B

namespace B
open PySem PySem.Spec L2 PyProof.Rows
section
set_option autoImplicit true
set_option relaxedAutoImplicit true
end
end B

namespace B
open PySem PySem.Spec L2 PyProof.Rows
/-! ### == of things whose inside is known; isinstance of a tuple that is read -/
def rEqD (K : PySem.W.Frag) : R2 := fun x y H Q => ∃ d d', Deep K H x d ∧ Deep K H y d' ∧ d.canLay0 = true ∧ d'.canLay0 = true ∧ d.depth ≤ 32 ∧ Q (.bl (PyData.eqv d d')) H
theorem op_eqD {X : Cx} {k : Nat} (hr : Room k X.A) : OpR X (compareOp .Eq) (rEqD X.K) := by
  intro pins s σ H x y v u Q I rx ry h
  obtain ⟨d, d', hd, hd', c, c', dp, q⟩ := h
  obtain ⟨as, ra⟩ := Deep.reads I hd rx
  obtain ⟨bs, rb⟩ := Deep.reads I hd' ry
  exact SeqAt.compareEq_reads ra rb c c' (by have := hr.units; omega) ⟨.bl _, H, I, rfl, q⟩
theorem eqv_iff {r q : R} : PyData.eqv (dR r) (dR q) = decide (r = q) := by
  by_cases h : r = q
  · rw [decide_eq_true h, h]; exact eqv_same q
  · rw [decide_eq_false h]
    cases c : PyData.eqv (dR r) (dR q) with
    | false => rfl
    | true => exact absurd (eqv_dR c) h
def rIsiT (K : PySem.W.Frag) : List V → Hp → VK → Prop := fun xs H Q => ∃ a ys n b, xs = [.ref a, .ty n] ∧ SqT K H a ys ∧ kitTT "tuple" n = some b ∧ Q (.bl b) H
theorem call_isiT {X : Cx} : CallR X (.builtin "isinstance") (rIsiT X.K) := by
  intro pins s σ H xs us Q I r h
  obtain ⟨a, ys, n, b, rfl, hS, e, q⟩ := h
  obtain ⟨u, u2, rfl, rx, ry⟩ := vals2 r
  obtain rfl : u2 = Value.type n := ry
  cases (show u = Value.ref a from rx)
  obtain ⟨its, _, ⟨o, h1, h2, _⟩, _⟩ := I.tuple hS
  exact PySem.W.kia_one PySem.W.kitx_tuple I.kIn ⟨o, h1, h2⟩ (kit_of e) (fun z => nomatch z) fun tk => ⟨.bl b, H, I.tok tk, rfl, q⟩
end B

namespace B
open PySem PySem.Spec L2 PyProof.Rows
section
set_option autoImplicit true
set_option relaxedAutoImplicit true
theorem qe_fldE  {X : Cx} {e : Expr} {f : Str} {pos : Pos} {ta : TE} {K : PySem.W.Frag} (hK : X.K = K) (he : QE X e ta) (hb : attributeBase e f X.env (eval e X.env) = eval e X.env) : QE X (.Attribute e f pos) (tFldE K ta f) := ⟨pe_fldE hK he.p hb⟩
theorem qs_fldE  (hex : X.ex = []) (ha : QE X o ta) (hv : QE X value tv) (hs : swapsWith value (some (.Attribute o f pos')) pos.line X.env = pure false) : QS X (.Assign [.Attribute o f pos'] value pos) (sFldE X.K ta tv f) := ⟨ps_fldE hex ha.p hv.p hs⟩
theorem qs_raiseD  {x : Str} {p cpos pos : Pos} {e : Expr} {es : List Expr} {t : TA} {E : XK} (M : XC X.K C f bm) (hbase : bm.contains (.type "BaseException") = true) (hex : X.ex = []) (tk : TakesD X E) (F : FnOk X.prog X.w X.K X.mg X.base CX0 k f fd ps sp) (hr : Room (k + 1) X.A) (hb : Binds X.K fd ps []) (hg : Gl X x) (hm : X.mg x = some (.ref C)) (ha : QA X (e :: es) t) (hdb : (x == ("__debug__" : Str)) = false := by decide) (he : starEach (e :: es) X.env = (false, eval e X.env) :: starEach es X.env := by rfl) (hpl : (backTo cpos (starEach es X.env)).any (·.1) = false := by rfl) : QS X (.Raise (some (.Call (.Name x p) (e :: es) [] cpos)) none pos) (tRaiseD C sp E t) := ⟨ps_raiseD M hbase hex tk F hr hb hg hm ha.p hdb he hpl⟩
theorem qs_tryAs {R : RX} {suite : List Stmt} {i : Nat} {n : Str} (hex : X.ex = []) (hst : X.stack = X.env :: X.outer) (hfr : X.env.frame = some X.env.locals) (hg : Gl X x) (hm : X.mg x = some u) (hN : X.N.Nodup) (hi : X.N[i]? = some n) (hn : X.env.scope.names.lookup n = some .local) (hb : ∀ pins, QSs (inTryD X pins R) body tb) (hs : ∀ e, QSs (inExc X e) (b₀ :: suite) th) (hd : (x == ("__debug__" : Str)) = false := by decide) : QS X (.Try body [.ExceptHandler (some (.Name x p)) (some n) (b₀ :: suite) hpos] [] [] pos) (tTryAs X.N i R (fun C => PySem.W.exmOne X.K (.ref C) u = some true) tb th) := ⟨ps_tryAs hex hst hfr hg hm hN hi hn (fun z0 => (hb z0).p) (fun z0 => (hs z0).p) hd⟩
end
end B

namespace B
open PySem PySem.Spec L2 PyProof.Rows
/-- [f(x) for x in t], t a tuple -/
theorem comp_mapT {α β : Type} {K : PySem.W.Frag} {H : Hp} {D a : Addr} {xs : List V} {ds : List α} {P : Hp → V → β → Prop} {f : α → β} {src : List (Option Nat)} {σ : L2.St} {g : TG} {tt : TT} {te : TE} {Q : Hp → Prop}
    (mono : ∀ H H' v d, Tst K H H' → P H v d → P H' v d) (hD : H D = none) (hS : SqT K H a xs) (hl : xs.length = ds.length) (hn : ds.length ≤ 1000)
    (turn : ∀ (i : Nat) (x : V) (d : α) (H' : Hp), xs[i]? = some x → ds[i]? = some d → Same H H' → ∀ (R : VK) (E : Hp → Prop), (∀ v H'', Same H' H'' → P H'' v (f d) → R v H'') →
      g x (frees src σ) H' fun σ2 H2 => Ext (frees src σ) σ2 ∧ tt σ2 H2 fun ok H3 => if ok = true then te σ2 H3 R else E H3)
    (fin : ∀ H' ys, Same H H' → H' D = some (.lst ys) → Als (P H') ys (ds.map f) → Q H') :
    ∃ W : Nat → Nat → List V → Hp → Prop, (∃ m, W 0 m [] (upd H D (.lst []))) ∧ ∀ i m ys H, W i m ys H → ((Itt K a).stop i H ∧ Q H) ∨ ((Itt K a).go i H ∧ ∀ x H', (Itt K a).yld i H x H' →
      g x (frees src σ) H' fun σ2 H2 => Ext (frees src σ) σ2 ∧ tt σ2 H2 fun ok H3 =>
        if ok = true then te σ2 H3 fun y H4 => H4 D = some (.lst ys) ∧ ys.length < sizeLine ∧ ∃ m', m' < m ∧ W (i + 1) m' (ys ++ [y]) (upd H4 D (.lst (ys ++ [y]))) else ∃ m', m' < m ∧ W (i + 1) m' ys H3) := by
  refine ⟨fun i m ys H' => i ≤ ds.length ∧ m = ds.length - i ∧ H' D = some (.lst ys) ∧ Same H H' ∧ Als (P H') ys ((ds.take i).map f), ⟨_, Nat.zero_le _, rfl, upd_same, same_new hD _, .nil⟩, ?_⟩
  rintro i m ys H1 ⟨hi, rfl, d1, s1, al1⟩
  have hS1 : SqT K H1 a xs := Tst.same s1 _ _ hS
  by_cases hix : i < ds.length
  · have hx0 : xs[i]? = some (xs[i]'(by omega)) := List.getElem?_eq_getElem _
    refine .inr ⟨⟨xs, _, hS1, hx0⟩, ?_⟩
    rintro x H2 ⟨rfl, hy⟩
    have hx := hy xs hS1
    obtain ⟨d, hd⟩ : ∃ d, ds[i]? = some d := ⟨_, List.getElem?_eq_getElem hix⟩
    refine turn i x d _ hx hd s1 _ _ fun v H3 s3 p3 => ?_
    have d3 : H3 D = some (.lst ys) := s3 _ _ d1
    have tm : Tst K H2 (upd H3 D (.lst (ys ++ [v]))) := (Tst.same s3).trans (Tst.up d3 _)
    refine ⟨d3, small1000 (by rw [al1.len, List.length_map, List.length_take]; omega), ds.length - (i + 1), by omega, hix, rfl, upd_same, fun b o q => ?_, ?_⟩
    · rw [upd_ne (ne_of_none q hD)]
      exact s3 _ _ (s1 _ _ q)
    · rw [List.take_add_one, hd, List.map_append]
      exact (al1.mono fun v d p => mono _ _ _ _ tm p).snoc (mono _ _ _ _ (Tst.up d3 _) p3)
  · have e : i = ds.length := by omega
    subst e
    rw [List.take_length] at al1
    exact .inl ⟨⟨xs, hS1, by omega⟩, fin H1 ys s1 d1 al1⟩
end B

namespace B
open PySem PySem.Spec L2 PyProof.Rows
/-! ### isinstance of a thing whose inside is known; what the defs of shape tell of it -/
def tyD : PyData → String
  | .none => "NoneType"
  | .bool _ => "bool"
  | .int _ => "int"
  | .str _ => "str"
  | .list _ => "list"
  | .tuple _ => "tuple"
  | .dict _ => "dict"
def rIsiD (K : PySem.W.Frag) : List V → Hp → VK → Prop := fun xs H Q => ∃ v d n b, xs = [v, .ty n] ∧ Deep K H v d ∧ kitTT (tyD d) n = some b ∧ Q (.bl b) H
theorem call_isiD {X : Cx} : CallR X (.builtin "isinstance") (rIsiD X.K) := by
  intro pins s σ H xs us Q I r h
  obtain ⟨v, d, n, b, rfl, hD, e, q⟩ := h
  cases hD with
  | non => exact call_isi pins s σ H _ us Q I r ⟨_, n, _, b, rfl, .non, e, q⟩
  | bl c => exact call_isi pins s σ H _ us Q I r ⟨_, n, _, b, rfl, .bl c, e, q⟩
  | int i => exact call_isi pins s σ H _ us Q I r ⟨_, n, _, b, rfl, .int i, e, q⟩
  | str x => exact call_isi pins s σ H _ us Q I r ⟨_, n, _, b, rfl, .str x, e, q⟩
  | @tup a ys ds hS hA => exact call_isiT pins s σ H _ us Q I r ⟨a, ys, n, b, rfl, hS, e, q⟩
  | @lst a ys ds hS hA =>
    obtain ⟨u, u2, rfl, rx, ry⟩ := vals2 r
    obtain rfl : u2 = Value.type n := ry
    cases (show u = Value.ref a from rx)
    obtain ⟨its, _, ⟨o, k, h1, h2, _⟩, _⟩ := I.list hS
    exact PySem.W.kia_one PySem.W.kitx_list I.kIn ⟨o, h1, h2⟩ (kit_of e) (fun z => nomatch z) fun tk => ⟨.bl b, H, I.tok tk, rfl, q⟩
def wholeD : PyData → Bool
  | .int _ => true
  | _ => false
def tupD (n : Nat) : PyData → Bool
  | .tuple xs => decide (xs.length = n)
  | _ => false
/-- a ratio in lowest terms -/
def ratD : PyData → Bool
  | .tuple [.int a, .int b] => decide (1 ≤ b) && decide (Int.gcd a b = 1)
  | _ => false
def pairD : PyData → Bool
  | .tuple [x, y] => ratD x && ratD y
  | _ => false
theorem isi_int {K : PySem.W.Frag} {H : Hp} {v : V} {d : PyData} (h : Deep K H v d) : ∃ b c, kitTT (tyD d) "int" = some b ∧ kitTT (tyD d) "bool" = some c ∧ wholeD d = (b && !c) := by
  cases h with
  | non => exact ⟨false, false, by simp only [tyD]; decide +kernel, by simp only [tyD]; decide +kernel, rfl⟩
  | bl b => exact ⟨true, true, by simp only [tyD]; decide +kernel, by simp only [tyD]; decide +kernel, rfl⟩
  | int i => exact ⟨true, false, by simp only [tyD]; decide +kernel, by simp only [tyD]; decide +kernel, rfl⟩
  | str x => exact ⟨false, false, by simp only [tyD]; decide +kernel, by simp only [tyD]; decide +kernel, rfl⟩
  | lst e t => exact ⟨false, false, by simp only [tyD]; decide +kernel, by simp only [tyD]; decide +kernel, rfl⟩
  | tup e t => exact ⟨false, false, by simp only [tyD]; decide +kernel, by simp only [tyD]; decide +kernel, rfl⟩
theorem isi_tup {K : PySem.W.Frag} {H : Hp} {v : V} {d : PyData} (h : Deep K H v d) : (kitTT (tyD d) "tuple" = some true ∧ ∃ a xs ds, v = .ref a ∧ d = .tuple ds ∧ SqT K H a xs ∧ DeepAll K H xs ds) ∨ (kitTT (tyD d) "tuple" = some false ∧ ∀ ds, d ≠ .tuple ds) := by
  cases h with
  | non => exact .inr ⟨by simp only [tyD]; decide +kernel, fun _ z => nomatch z⟩
  | bl b => exact .inr ⟨by simp only [tyD]; decide +kernel, fun _ z => nomatch z⟩
  | int i => exact .inr ⟨by simp only [tyD]; decide +kernel, fun _ z => nomatch z⟩
  | str x => exact .inr ⟨by simp only [tyD]; decide +kernel, fun _ z => nomatch z⟩
  | lst e t => exact .inr ⟨by simp only [tyD]; decide +kernel, fun _ z => nomatch z⟩
  | tup e t => exact .inl ⟨by simp only [tyD]; decide +kernel, _, _, _, rfl, rfl, e, t⟩
theorem tupD_no {d : PyData} {n : Nat} (h : ∀ ds, d ≠ .tuple ds) : tupD n d = false := by
  cases d <;> first | rfl | exact absurd rfl (h _)
theorem DeepAll.len {K : PySem.W.Frag} {H : Hp} : ∀ {xs : List V} {ds : List PyData}, DeepAll K H xs ds → xs.length = ds.length
  | _, _, .nil => rfl
  | _, _, .cons _ t => congrArg Nat.succ t.len
/-- a pair, whose parts are known -/
theorem Deep.two {K : PySem.W.Frag} {H : Hp} {v : V} {d : PyData} (h : Deep K H v d) (c : tupD 2 d = true) : ∃ a x y dx dy, v = .ref a ∧ d = .tuple [dx, dy] ∧ SqT K H a [x, y] ∧ Deep K H x dx ∧ Deep K H y dy := by
  cases h with
  | @tup a xs ds e t =>
    have l : ds.length = 2 := of_decide_eq_true c
    cases t with
    | nil => cases l
    | cons hx t => cases t with
      | nil => cases l
      | cons hy t => cases t with
        | nil => exact ⟨a, _, _, _, _, rfl, rfl, e, hx, hy⟩
        | cons hz t => simp at l
  | _ => cases c
theorem ratD_no {d : PyData} (h : tupD 2 d = false) : ratD d = false := by
  cases c : ratD d with
  | false => rfl
  | true =>
    unfold ratD at c
    split at c
    · cases h
    · cases c
theorem pairD_no {d : PyData} (h : tupD 2 d = false) : pairD d = false := by
  cases c : pairD d with
  | false => rfl
  | true =>
    unfold pairD at c
    split at c
    · cases h
    · cases c
end B

namespace B
open PySem PySem.Spec L2 PyProof.Rows
/-! ### in, not in, index of things whose inside is known; insert -/
def Lays (ds : List PyData) : Prop := ∀ e ∈ ds, e.canLay0 = true ∧ e.depth ≤ 32
def rInD (K : PySem.W.Frag) : R2 := fun x y H Q => ∃ p xs ds d, y = .ref p ∧ SqL K H p xs ∧ DeepAll K H xs ds ∧ Lays ds ∧ Deep K H x d ∧ d.canLay0 = true ∧ PyData.eqv d d = true ∧ Q (.bl (ds.any fun e => PyData.eqv e d)) H
def rNotInD (K : PySem.W.Frag) : R2 := fun x y H Q => ∃ p xs ds d, y = .ref p ∧ SqL K H p xs ∧ DeepAll K H xs ds ∧ Lays ds ∧ Deep K H x d ∧ d.canLay0 = true ∧ PyData.eqv d d = true ∧ Q (.bl (!ds.any fun e => PyData.eqv e d)) H
/-- the same of a tuple -/
def rInDT (K : PySem.W.Frag) : R2 := fun x y H Q => ∃ p xs ds d, y = .ref p ∧ SqT K H p xs ∧ DeepAll K H xs ds ∧ Lays ds ∧ Deep K H x d ∧ d.canLay0 = true ∧ PyData.eqv d d = true ∧ Q (.bl (ds.any fun e => PyData.eqv e d)) H
/-- xs.index(x): the first place -/
def rIndexD (K : PySem.W.Frag) : V → List V → Hp → VK → Prop := fun x vs H Q => ∃ p xs ds w d, x = .ref p ∧ vs = [w] ∧ SqL K H p xs ∧ DeepAll K H xs ds ∧ Lays ds ∧ Deep K H w d ∧ d.canLay0 = true ∧ PyData.eqv d d = true ∧ (∃ e ∈ ds, PyData.eqv e d = true) ∧
  ∀ (j : Nat) (e : PyData), ds[j]? = some e → PyData.eqv e d = true → (∀ m f, m < j → ds[m]? = some f → PyData.eqv f d = false) → Q (.int j) H
/-- xs.insert(j, x) -/
def rInsert : V → List V → Hp → VK → Prop := fun x vs H Q => ∃ (l : Addr) (xs : List V) (j : Nat) (y : V), x = .ref l ∧ vs = [.int j, y] ∧ H l = some (.lst xs) ∧ j ≤ xs.length ∧ xs.length < sizeLine ∧ Q .non (upd H l (.lst (xs.take j ++ y :: xs.drop j)))
end B

namespace B
open PySem PySem.Spec L2 PyProof.Rows
section
set_option autoImplicit true
set_option relaxedAutoImplicit true
theorem qi_enum  {X : Cx} {elts : List Expr} {x1} {tp p pos : Pos} {a : Expr} {ta : TA} (hg : Gl X "enumerate") (hm : X.mg "enumerate" = none) (ha : QA X [a] ta) (hs : starEach [a] X.env = [(false, eval a X.env)] := by rfl) : QI X (.Tuple elts x1 tp) (.Call (.Name "enumerate" p) [a] [] pos) (iEnT X.K ta) := ⟨pi_enum hg hm ha.p hs⟩
end
end B

namespace B
open PySem PySem.Spec L2 PyProof.Rows
/-! ### things that repr shows: how deep, how long -/
structure Sh (k n : Nat) (d : PyData) : Prop where
  sh : d.showable = true
  nd : d.hasDict = false
  dp : d.depth ≤ k
  sz : d.shown.length ≤ n
theorem Sh.mono {k n k' n' : Nat} {d : PyData} (h : Sh k n d) (hk : k ≤ k') (hn : n ≤ n') : Sh k' n' d := ⟨h.sh, h.nd, Nat.le_trans h.dp hk, Nat.le_trans h.sz hn⟩
theorem Sh.all {k n : Nat} : ∀ {ds : List PyData}, (∀ d ∈ ds, Sh k n d) → PyData.showableAll ds = true ∧ PyData.hasDictAll ds = false ∧ PyData.depthAll ds ≤ k ∧ ((PyData.shownAll ds).map (·.length)).sum ≤ n * ds.length ∧ (PyData.shownAll ds).length = ds.length
  | [], _ => ⟨rfl, rfl, Nat.zero_le _, Nat.zero_le _, rfl⟩
  | d :: ds, h => by
    obtain ⟨a, b, c, e, f⟩ := Sh.all (ds := ds) fun x hx => h x (List.mem_cons_of_mem _ hx)
    have z := h d List.mem_cons_self
    refine ⟨?_, ?_, ?_, ?_, ?_⟩
    · show (d.showable && PyData.showableAll ds) = true
      rw [z.sh, a]; rfl
    · show (d.hasDict || PyData.hasDictAll ds) = false
      rw [z.nd, b]; rfl
    · show max d.depth (PyData.depthAll ds) ≤ k
      exact Nat.max_le.mpr ⟨z.dp, c⟩
    · show d.shown.length + ((PyData.shownAll ds).map (·.length)).sum ≤ n * (ds.length + 1)
      have := z.sz
      rw [Nat.mul_succ]; omega
    · show (PyData.shownAll ds).length + 1 = ds.length + 1
      rw [f]
theorem Sh.tup {k n m N : Nat} {ds : List PyData} (h : ∀ d ∈ ds, Sh k n d) (hm : ds.length ≤ m) (hN : (n + 3) * m + 8 ≤ N) : Sh (k + 1) N (.tuple ds) := by
  obtain ⟨a, b, c, e, f⟩ := Sh.all h
  refine ⟨a, b, Nat.succ_le_succ c, ?_⟩
  show (tupleText (PyData.shownAll ds)).length ≤ N
  have q := tupleText_len_le (PyData.shownAll ds)
  have l : n * ds.length + 3 * ds.length ≤ (n + 3) * m := by
    rw [← Nat.add_mul]
    exact Nat.mul_le_mul_left _ hm
  omega
theorem Sh.shows {k n : Nat} {d : PyData} (h : Sh k n d) (hk : k ≤ 16) (hn : n ≤ 16777216) : Shows d := ⟨h.sh, h.nd, Nat.le_trans h.sz (Nat.le_trans hn (by decide)), Nat.le_trans h.dp hk⟩
theorem sh_dR {r : R} {n : Nat} (h : Wf n r) (hn : n ≤ 1900) : Sh 1 5000 (dR r) := ⟨(small_dR h hn).sh, rfl, (by show max 0 (max 0 0) + 1 ≤ 1; decide), (small_dR h hn).sz⟩
mutual
theorem Deep.same {K : PySem.W.Frag} {H H' : Hp} (s : Same H H') : ∀ {v : V} {d : PyData}, Deep K H v d → Deep K H' v d
  | _, _, .non => .non
  | _, _, .bl b => .bl b
  | _, _, .int i => .int i
  | _, _, .str x => .str x
  | _, _, .lst e t => .lst (s.seq e) (DeepAll.same s t)
  | _, _, .tup e t => .tup (Tst.same s _ _ e) (DeepAll.same s t)
theorem DeepAll.same {K : PySem.W.Frag} {H H' : Hp} (s : Same H H') : ∀ {vs : List V} {ds : List PyData}, DeepAll K H vs ds → DeepAll K H' vs ds
  | _, _, .nil => .nil
  | _, _, .cons h t => .cons (Deep.same s h) (DeepAll.same s t)
end
theorem op_isB {X : Cx} : OpR X (compareOp .Is) (fun x y H Q => ∃ b c, x = .bl b ∧ y = .bl c ∧ Q (.bl (decide (b = c))) H) := by
  intro pins s σ H x y v u Q I rx ry h
  obtain ⟨b, c, rfl, rfl, q⟩ := h
  obtain rfl : v = Value.bool b := rx
  obtain rfl : u = Value.bool c := ry
  refine wpAny_is_plain (by cases b <;> cases c <;> rfl) ⟨.bl _, H, I, ?_, q⟩
  cases b <;> cases c <;> rfl
end B

namespace B
open PySem PySem.Spec L2 PyProof.Rows
/-! ### range(a, b) as a thing; x not in it -/
def tRng2 (ta : TA) : TE := fun σ H Q => ta σ H fun vs H1 => ∃ i j : Int, vs = [.int i, .int j] ∧ ∀ p, H1 p = none → Q (.ref p) (upd H1 p (.rng i j))
theorem pe_rng2 {X : Cx} {a b : Expr} {ta : TA} {p pos : Pos} (hg : Gl X "range") (hm : X.mg "range" = none) (ha : PA X [a, b] ta) (hs : starEach [a, b] X.env = [(false, eval a X.env), (false, eval b X.env)] := by rfl) (hs2 : starEach [b] X.env = [(false, eval b X.env)] := by rfl) :
    PE X (.Call (.Name "range" p) [a, b] [] pos) (tRng2 ta) := by
  intro pins s σ H Q I h
  refine Call_ (ld_blt I hg hm boot_range (PyProof.Rows.callWith_type1 (thn (ha pos pins s σ H _ I h) fun us s1 ⟨vs, H1, I1, r1, q1⟩ => ?_) (by rw [hs, hs2]) (by rw [hs2]; rfl)))
  obtain ⟨i, j, e, q⟩ := q1
  subst e
  obtain ⟨u, v, rfl, ⟨t, rfl⟩, ⟨t', rfl⟩⟩ := vals2 r1
  refine call_range_2 ?_
  exact ⟨.ref s1.heap.objs.size, _, I1.laid (t' := s1.toks + 1) (o := .rng i j) (fun b o e => Heap.get?_push_of_some _ e) (Nat.le_refl _) ⟨t, t', s1.toks, Heap.get?_push_size _ rfl⟩, rfl, q _ (I1.hok.fresh (Nat.le_refl _))⟩
theorem range_has (r : Addr) (a b i : Int) (t u v tk : Tok) : Meets (Builtin.«range.__contains__» ⟨[.ref r, .int i tk], []⟩) (fun _ R s => s.heap.get? r = some { cls := .type "range", data := .fields #[.int a t, .int b u, .int 1 v] } ∧ R (.ok (.ret (.bool (decide (a ≤ i) && decide (i < b))))) s) :=
  .of_wp fun prog w A R s h => by
    obtain ⟨hp, g, d, tk', os⟩ := s; obtain ⟨hl, h⟩ := h
    wp_walk
    refine ⟨_, rfl, ?_⟩
    have e : (Builtin.Range.rangePlace? a b 1 i).isSome = (decide (a ≤ i) && decide (i < b)) := by
      unfold Builtin.Range.rangePlace?
      simp only [show ((1 : Int) > 0) = True by simp, if_true, Int.emod_one, beq_self_eq_true, Bool.and_true]
      cases decide (a ≤ i) && decide (i < b) <;> rfl
    rw [e]
    exact h
def rNotInR : R2 := fun x y H Q => ∃ (i : Int) (p : Addr) (lo hi : Int), x = .int i ∧ y = .ref p ∧ H p = some (.rng lo hi) ∧ Q (.bl (!(decide (lo ≤ i) && decide (i < hi)))) H
theorem op_notInR {X : Cx} : OpR X (compareOp .NotIn) rNotInR := by
  intro pins s σ H x y v u Q I rx ry h
  obtain ⟨i, p, lo, hi, rfl, rfl, hp, q⟩ := h
  obtain ⟨tk, rfl⟩ := (show ∃ t, v = Value.int i t from rx)
  cases (show u = Value.ref p from ry)
  obtain ⟨t, u, w, e⟩ := (show ObjOk X.prog X.w H s.heap p (.rng lo hi) from I.hok p _ hp)
  exact PySem.SeqRoads2.notIn_meets ⟨_, e, rfl⟩ PySem.F.slot_range_contains PySem.F.entry_range_contains (PySem.F.args_range_contains_2 _ _) (range_has p lo hi i t u w tk) ⟨e, _, rfl, ⟨.bl _, H, I, rfl, q⟩⟩
end B

namespace B
open PySem PySem.Spec L2 PyProof.Rows
section
set_option autoImplicit true
set_option relaxedAutoImplicit true
theorem qe_rng2  {X : Cx} {a b : Expr} {ta : TA} {p pos : Pos} (hg : Gl X "range") (hm : X.mg "range" = none) (ha : QA X [a, b] ta) (hs : starEach [a, b] X.env = [(false, eval a X.env), (false, eval b X.env)] := by rfl) (hs2 : starEach [b] X.env = [(false, eval b X.env)] := by rfl) : QE X (.Call (.Name "range" p) [a, b] [] pos) (tRng2 ta) := ⟨pe_rng2 hg hm ha.p hs hs2⟩
end
end B

namespace B
open PySem PySem.Spec L2 PyProof.Rows
/-! ### t + u and t[a:b] of any tuples: a tuple that holds what is asked, new or not -/
def rCatU (K : PySem.W.Frag) : R2 := fun x y H Q => ∃ a b xs ys, x = .ref a ∧ y = .ref b ∧ SqT K H a xs ∧ SqT K H b ys ∧ xs.length + ys.length ≤ sizeLine ∧ ∀ p H', Same H H' → SqT K H' p (xs ++ ys) → Q (.ref p) H'
theorem op_catU {X : Cx} : OpR X (binaryOp .Add) (rCatU X.K) := by
  intro pins s σ H x y v u Q I rx ry h
  obtain ⟨a, b, xs, ys, rfl, rfl, ha, hb, hz, q⟩ := h
  by_cases hx : xs = []
  · subst hx
    cases rx
    cases ry
    obtain ⟨its, r1, p1, _⟩ := I.tuple ha
    obtain ⟨its2, r2, p2, _⟩ := I.tuple hb
    have e0 : its = [] := r1.nil_iff.mpr rfl
    subst e0
    obtain ⟨⟨cls, dd, data, sl⟩, ho, hc, n, hd⟩ := id p1
    obtain ⟨⟨cls2, dd2, data2, sl2⟩, ho2, hc2, n2, hd2⟩ := id p2
    simp only at hc hd hc2 hd2
    subst hc hd hc2 hd2
    exact concat_meets ⟨_, ho, rfl⟩ ⟨_, ho2, rfl⟩ noFill_tuple_add seq_tuple_add PySem.F.slot_tuple_add PySem.F.entry_tuple_add (PySem.F.args_tuple_add_2 _ _)
      (tuple_addW0 a b _ _ n n2 dd dd2 sl sl2 (by simp)) ⟨ho, ho2, ⟨.ref b, H, I, rfl, q b H (Same.refl H) hb⟩⟩
  · refine op_catT pins s σ H _ _ v u Q I rx ry ⟨a, b, xs, ys, rfl, rfl, ha, hb, hx, hz, fun e => ?_, fun _ p hp => ?_⟩
    · subst e
      exact q a H (Same.refl H) (by rw [List.append_nil]; exact ha)
    · exact q p _ (same_new hp _) (SqT.of upd_same)
def rSlU (K : PySem.W.Frag) : V → Option Int → Option Int → Hp → VK → Prop := fun x lo hi H Q => ∃ a xs, x = .ref a ∧ SqT K H a xs ∧ ∀ p H', Same H H' → SqT K H' p (cutV xs lo hi) → Q (.ref p) H'
theorem sl_tupU {X : Cx} : SlR X (rSlU X.K) := by
  intro pins s σ H x v vl vu lo hi sl Q I rx hs pl pu h
  obtain ⟨a, xs, rfl, hx, q⟩ := h
  refine sl_tupA pins s σ H _ v vl vu lo hi sl Q I rx hs pl pu ?_
  by_cases c : HT.sIx xs.length 0 lo = 0 ∧ HT.sIx xs.length xs.length hi = xs.length
  · refine .inl ⟨a, xs, rfl, hx, c.1, c.2, q a H (Same.refl H) ?_⟩
    have e : cutV xs lo hi = xs := by
      unfold cutV
      rw [c.1, c.2, List.drop_zero, Nat.sub_zero, List.take_length]
    rw [e]
    exact hx
  · exact .inr ⟨a, xs, rfl, hx, c, fun p hp => q p _ (same_new hp _) (SqT.of upd_same)⟩
theorem cut_to {xs : List V} {n : Nat} (h : n ≤ xs.length) : cutV xs none (some (n : Int)) = xs.take n := by
  unfold cutV
  rw [HT.sIx_nat, HT.sIx_none, Nat.min_eq_left h, Nat.sub_zero, List.drop_zero]
theorem cut_from {xs : List V} {n : Nat} (h : n ≤ xs.length) : cutV xs (some (n : Int)) none = xs.drop n := by
  unfold cutV
  rw [HT.sIx_nat, HT.sIx_none, Nat.min_eq_left h]
  exact List.take_of_length_le (by rw [List.length_drop]; omega)
theorem cut_mid {xs : List V} {n m : Nat} (h : n ≤ m) (h2 : m ≤ xs.length) : cutV xs (some (n : Int)) (some (m : Int)) = (xs.drop n).take (m - n) := by
  unfold cutV
  rw [HT.sIx_nat, HT.sIx_nat, Nat.min_eq_left h2, Nat.min_eq_left (show n ≤ xs.length by omega)]
end B

namespace B
open PySem PySem.Spec L2 PyProof.Rows
/-! ### things of any kind, whose numbers are small -/
mutual
def ibd : PyData → Bool
  | .int i => decide (i.natAbs < 2 ^ 230)
  | .tuple ds => ibdAll ds
  | .list ds => ibdAll ds
  | .dict _ => false
  | _ => true
def ibdAll : List PyData → Bool
  | [] => true
  | d :: ds => ibd d && ibdAll ds
end
theorem ibdAll_of : ∀ {ds : List PyData}, (∀ d ∈ ds, ibd d = true) → ibdAll ds = true
  | [], _ => rfl
  | d :: ds, h => by
    show (ibd d && ibdAll ds) = true
    rw [h d List.mem_cons_self, ibdAll_of fun e he => h e (List.mem_cons_of_mem _ he)]; rfl
theorem ibdAll_mem : ∀ {ds : List PyData}, ibdAll ds = true → ∀ d ∈ ds, ibd d = true
  | d :: ds, h, e, he => by
    have h' : (ibd d && ibdAll ds) = true := h
    rw [Bool.and_eq_true] at h'
    rcases List.mem_cons.mp he with rfl | he
    · exact h'.1
    · exact ibdAll_mem h'.2 e he
theorem layAll_of : ∀ {ds : List PyData}, (∀ d ∈ ds, d.canLay0 = true) → PyData.canLayAll0 ds = true
  | [], _ => rfl
  | d :: ds, h => by
    show (d.canLay0 && PyData.canLayAll0 ds) = true
    rw [h d List.mem_cons_self, layAll_of fun e he => h e (List.mem_cons_of_mem _ he)]; rfl
structure Gd (k n : Nat) (d : PyData) : Prop where
  sh : Sh k n d
  lay : d.canLay0 = true
  bd : ibd d = true
theorem Gd.mono {k n k' n' : Nat} {d : PyData} (h : Gd k n d) (hk : k ≤ k') (hn : n ≤ n') : Gd k' n' d := ⟨h.sh.mono hk hn, h.lay, h.bd⟩
theorem Gd.tup {k n m N : Nat} {ds : List PyData} (h : ∀ d ∈ ds, Gd k n d) (hm : ds.length ≤ m) (hN : (n + 3) * m + 8 ≤ N) : Gd (k + 1) N (.tuple ds) :=
  ⟨Sh.tup (fun d hd => (h d hd).sh) hm hN, layAll_of fun d hd => (h d hd).lay, ibdAll_of fun d hd => (h d hd).bd⟩
theorem Sh.lst {k n m N : Nat} {ds : List PyData} (h : ∀ d ∈ ds, Sh k n d) (hm : ds.length ≤ m) (hN : (n + 3) * m + 8 ≤ N) : Sh (k + 1) N (.list ds) := by
  obtain ⟨a, b, c, e, f⟩ := Sh.all h
  refine ⟨a, b, Nat.succ_le_succ c, ?_⟩
  show (listText (PyData.shownAll ds)).length ≤ N
  have q := listText_len_le (PyData.shownAll ds)
  have l : n * ds.length + 3 * ds.length ≤ (n + 3) * m := by
    rw [← Nat.add_mul]
    exact Nat.mul_le_mul_left _ hm
  omega
theorem Gd.lst {k n m N : Nat} {ds : List PyData} (h : ∀ d ∈ ds, Gd k n d) (hm : ds.length ≤ m) (hN : (n + 3) * m + 8 ≤ N) : Gd (k + 1) N (.list ds) :=
  ⟨Sh.lst (fun d hd => (h d hd).sh) hm hN, layAll_of fun d hd => (h d hd).lay, ibdAll_of fun d hd => (h d hd).bd⟩
theorem gd_none : Gd 0 5000 .none := ⟨⟨rfl, rfl, Nat.le_refl _, by decide⟩, rfl, rfl⟩
theorem gd_bool (b : Bool) : Gd 0 5000 (.bool b) := by cases b <;> exact ⟨⟨rfl, rfl, Nat.le_refl _, by decide⟩, rfl, rfl⟩
theorem gd_str {x : Str} (h : (PyData.str x).showable = true) (l : (PyData.str x).shown.length ≤ 5000) (c : (PyData.str x).canLay0 = true) : Gd 0 5000 (.str x) := ⟨⟨h, rfl, Nat.le_refl _, l⟩, c, rfl⟩
theorem gd_dR {r : R} (h : Wf 230 r) : Gd 1 5000 (dR r) := ⟨sh_dR h (by decide), dR_lay r, by
  show (decide (r.1.natAbs < 2 ^ 230) && (decide (r.2.natAbs < 2 ^ 230) && true)) = true
  rw [decide_eq_true h.top, decide_eq_true h.bot]; rfl⟩
theorem gd_int {i : Int} (h : i.natAbs < 2 ^ 230) : Gd 0 5000 (.int i) := ⟨⟨(show decide (i.natAbs.log2 < 1920) = true from decide_eq_true (log_of h (by decide))), rfl, Nat.le_refl _, Nat.le_trans (len_of h (by decide)) (by decide)⟩, rfl, decide_eq_true h⟩
/-- pairs, of things that are known -/
theorem gd_two {k n N : Nat} {x y : PyData} (hx : Gd k n x) (hy : Gd k n y) (hN : (n + 3) * 2 + 8 ≤ N) : Gd (k + 1) N (.tuple [x, y]) := Gd.tup (m := 2) (fun d hd => by
  simp only [List.mem_cons, List.not_mem_nil, or_false] at hd
  rcases hd with rfl | rfl
  · exact hx
  · exact hy) (Nat.le_refl _) hN
def decR : PyData → R
  | .tuple [.int a, .int b] => (a, b)
  | _ => (0, 1)
def decRow : PyData → R × R
  | .tuple [x, y] => (decR x, decR y)
  | _ => rowD
theorem rat_dec {d : PyData} (h : ratD d = true) : ∃ a b, d = .tuple [.int a, .int b] ∧ 0 < b ∧ Int.gcd a b = 1 := by
  unfold ratD at h
  split at h
  · rename_i a b
    rw [Bool.and_eq_true, decide_eq_true_iff, decide_eq_true_iff] at h
    exact ⟨a, b, rfl, by omega, h.2⟩
  · cases h
theorem rat_wf {d : PyData} (h : ratD d = true) (b : ibd d = true) : Wf 230 (decR d) ∧ d = dR (decR d) := by
  obtain ⟨x, y, rfl, hp, hc⟩ := rat_dec h
  have b' : (decide (x.natAbs < 2 ^ 230) && (decide (y.natAbs < 2 ^ 230) && true)) = true := b
  rw [Bool.and_eq_true, Bool.and_eq_true, decide_eq_true_iff, decide_eq_true_iff] at b'
  exact ⟨⟨hp, b'.1, b'.2.1, hc⟩, rfl⟩
theorem pair_dec {d : PyData} (h : pairD d = true) : ∃ x y, d = .tuple [x, y] ∧ ratD x = true ∧ ratD y = true := by
  unfold pairD at h
  split at h
  · rename_i x y
    rw [Bool.and_eq_true] at h
    exact ⟨x, y, rfl, h.1, h.2⟩
  · cases h
theorem pair_wf {d : PyData} (h : pairD d = true) (b : ibd d = true) : Wf 230 (decRow d).1 ∧ Wf 230 (decRow d).2 := by
  obtain ⟨x, y, rfl, hx, hy⟩ := pair_dec h
  have b' : (ibd x && (ibd y && true)) = true := b
  rw [Bool.and_eq_true, Bool.and_eq_true] at b'
  exact ⟨(rat_wf hx b'.1).1, (rat_wf hy b'.2.1).1⟩
end B

namespace My
open PySem L2 B PyProof.Rows
def top (i : Nat) : Stmt := PySem.Challenge.pw_paceplan_k09_rules_let_by_or_not.main.body.getD i (.Pass ⟨0, 0, 0, 0⟩)
abbrev s_is_whole : Stmt := top 1
abbrev s_is_tuple_of : Stmt := top 2
abbrev s_copied : Stmt := top 3
abbrev s_greatest_divisor : Stmt := top 13
abbrev s_is_ratio : Stmt := top 14
abbrev s_is_ratio_pair : Stmt := top 15
abbrev s_ratio : Stmt := top 16
abbrev s_plus : Stmt := top 17
abbrev s_minus : Stmt := top 18
abbrev s_times : Stmt := top 19
abbrev s_over : Stmt := top 20
abbrev s_is_less : Stmt := top 21
abbrev s_slope_between : Stmt := top 29
abbrev s_is_row_behind : Stmt := top 30
abbrev s_is_rule_shaped : Stmt := top 31
abbrev s_right_rule : Stmt := top 32
abbrev s_law_tape : Stmt := top 34
abbrev s_law_draw : Stmt := top 35
abbrev s_law_gcd : Stmt := top 36
abbrev s_law_ratio : Stmt := top 37
abbrev s_law_plus : Stmt := top 38
abbrev s_law_minus : Stmt := top 39
abbrev s_law_times : Stmt := top 40
abbrev s_law_less : Stmt := top 42
abbrev s_law_part : Stmt := top 43
abbrev s_law_table : Stmt := top 44
abbrev s_law_rule : Stmt := top 45
abbrev s_law_whole : Stmt := top 46
abbrev s_law_is_ratio : Stmt := top 47
abbrev s_law_is_pair : Stmt := top 48
abbrev s_law_row_right : Stmt := top 49
abbrev s_law_due : Stmt := top 50
abbrev s_law_bent_row : Stmt := top 51
abbrev s_law_bent : Stmt := top 52
abbrev s_law_told : Stmt := top 53
abbrev s_law : Stmt := top 54
abbrev s_NoRule : Stmt := inClass (top 7) 0
structure Ad where
  a_is_whole : Addr
  d_is_whole : FuncData
  a_is_tuple_of : Addr
  d_is_tuple_of : FuncData
  a_copied : Addr
  d_copied : FuncData
  a_greatest_divisor : Addr
  d_greatest_divisor : FuncData
  a_is_ratio : Addr
  d_is_ratio : FuncData
  a_is_ratio_pair : Addr
  d_is_ratio_pair : FuncData
  a_ratio : Addr
  d_ratio : FuncData
  a_plus : Addr
  d_plus : FuncData
  a_minus : Addr
  d_minus : FuncData
  a_times : Addr
  d_times : FuncData
  a_over : Addr
  d_over : FuncData
  a_is_less : Addr
  d_is_less : FuncData
  a_slope_between : Addr
  d_slope_between : FuncData
  a_is_row_behind : Addr
  d_is_row_behind : FuncData
  a_is_rule_shaped : Addr
  d_is_rule_shaped : FuncData
  a_right_rule : Addr
  d_right_rule : FuncData
  a_law_tape : Addr
  d_law_tape : FuncData
  a_law_draw : Addr
  d_law_draw : FuncData
  a_law_gcd : Addr
  d_law_gcd : FuncData
  a_law_ratio : Addr
  d_law_ratio : FuncData
  a_law_plus : Addr
  d_law_plus : FuncData
  a_law_minus : Addr
  d_law_minus : FuncData
  a_law_times : Addr
  d_law_times : FuncData
  a_law_less : Addr
  d_law_less : FuncData
  a_law_part : Addr
  d_law_part : FuncData
  a_law_table : Addr
  d_law_table : FuncData
  a_law_rule : Addr
  d_law_rule : FuncData
  a_law_whole : Addr
  d_law_whole : FuncData
  a_law_is_ratio : Addr
  d_law_is_ratio : FuncData
  a_law_is_pair : Addr
  d_law_is_pair : FuncData
  a_law_row_right : Addr
  d_law_row_right : FuncData
  a_law_due : Addr
  d_law_due : FuncData
  a_law_bent_row : Addr
  d_law_bent_row : FuncData
  a_law_bent : Addr
  d_law_bent : FuncData
  a_law_told : Addr
  d_law_told : FuncData
  a_law : Addr
  d_law : FuncData
  c_NOUGHT : Addr
  k_POWER : Tok
  k_TABLE : Tok
  k_LEAST_POWER : Tok
  k_MOST_POWER : Tok
  k_LEAST_ROWS : Tok
  k_MOST_ROWS : Tok
  c_base : Addr
  c_NoRule : Addr
  a_NoRule : Addr
  d_NoRule : FuncData
  c_PaceError : Addr
  c_NoPlan : Addr
  c_NoSheet : Addr
  c_NoSpeed : Addr
structure Txt (K : PySem.W.Frag) (mg : Str → Option Value) (t : Ad) : Prop where
  F_is_whole : Fun K "is_whole" "is_whole" s_is_whole t.a_is_whole t.d_is_whole
  b_is_whole : Binds K t.d_is_whole ["thing"] []
  m_is_whole : mg "is_whole" = some (.ref t.a_is_whole)
  F_is_tuple_of : Fun K "is_tuple_of" "is_tuple_of" s_is_tuple_of t.a_is_tuple_of t.d_is_tuple_of
  b_is_tuple_of : Binds K t.d_is_tuple_of ["thing", "length"] []
  m_is_tuple_of : mg "is_tuple_of" = some (.ref t.a_is_tuple_of)
  F_copied : Fun K "copied" "copied" s_copied t.a_copied t.d_copied
  b_copied : Binds K t.d_copied ["thing"] []
  m_copied : mg "copied" = some (.ref t.a_copied)
  F_greatest_divisor : Fun K "greatest_divisor" "greatest_divisor" s_greatest_divisor t.a_greatest_divisor t.d_greatest_divisor
  b_greatest_divisor : Binds K t.d_greatest_divisor ["one", "other"] []
  m_greatest_divisor : mg "greatest_divisor" = some (.ref t.a_greatest_divisor)
  F_is_ratio : Fun K "is_ratio" "is_ratio" s_is_ratio t.a_is_ratio t.d_is_ratio
  b_is_ratio : Binds K t.d_is_ratio ["thing"] []
  m_is_ratio : mg "is_ratio" = some (.ref t.a_is_ratio)
  F_is_ratio_pair : Fun K "is_ratio_pair" "is_ratio_pair" s_is_ratio_pair t.a_is_ratio_pair t.d_is_ratio_pair
  b_is_ratio_pair : Binds K t.d_is_ratio_pair ["thing"] []
  m_is_ratio_pair : mg "is_ratio_pair" = some (.ref t.a_is_ratio_pair)
  F_ratio : Fun K "ratio" "ratio" s_ratio t.a_ratio t.d_ratio
  b_ratio : Binds K t.d_ratio ["top", "bottom"] []
  m_ratio : mg "ratio" = some (.ref t.a_ratio)
  F_plus : Fun K "plus" "plus" s_plus t.a_plus t.d_plus
  b_plus : Binds K t.d_plus ["one", "other"] []
  m_plus : mg "plus" = some (.ref t.a_plus)
  F_minus : Fun K "minus" "minus" s_minus t.a_minus t.d_minus
  b_minus : Binds K t.d_minus ["one", "other"] []
  m_minus : mg "minus" = some (.ref t.a_minus)
  F_times : Fun K "times" "times" s_times t.a_times t.d_times
  b_times : Binds K t.d_times ["one", "other"] []
  m_times : mg "times" = some (.ref t.a_times)
  F_over : Fun K "over" "over" s_over t.a_over t.d_over
  b_over : Binds K t.d_over ["one", "other"] []
  m_over : mg "over" = some (.ref t.a_over)
  F_is_less : Fun K "is_less" "is_less" s_is_less t.a_is_less t.d_is_less
  b_is_less : Binds K t.d_is_less ["one", "other"] []
  m_is_less : mg "is_less" = some (.ref t.a_is_less)
  F_slope_between : Fun K "slope_between" "slope_between" s_slope_between t.a_slope_between t.d_slope_between
  b_slope_between : Binds K t.d_slope_between ["low", "high"] []
  m_slope_between : mg "slope_between" = some (.ref t.a_slope_between)
  F_is_row_behind : Fun K "is_row_behind" "is_row_behind" s_is_row_behind t.a_is_row_behind t.d_is_row_behind
  b_is_row_behind : Binds K t.d_is_row_behind ["rows", "number"] []
  m_is_row_behind : mg "is_row_behind" = some (.ref t.a_is_row_behind)
  F_is_rule_shaped : Fun K "is_rule_shaped" "is_rule_shaped" s_is_rule_shaped t.a_is_rule_shaped t.d_is_rule_shaped
  b_is_rule_shaped : Binds K t.d_is_rule_shaped ["thing"] []
  m_is_rule_shaped : mg "is_rule_shaped" = some (.ref t.a_is_rule_shaped)
  F_right_rule : Fun K "right_rule" "right_rule" s_right_rule t.a_right_rule t.d_right_rule
  b_right_rule : Binds K t.d_right_rule ["thing"] []
  m_right_rule : mg "right_rule" = some (.ref t.a_right_rule)
  F_law_tape : Fun K "_law_tape" "_law_tape" s_law_tape t.a_law_tape t.d_law_tape
  b_law_tape : Binds K t.d_law_tape ["_law_script"] []
  m_law_tape : mg "_law_tape" = some (.ref t.a_law_tape)
  F_law_draw : Fun K "_law_draw" "_law_draw" s_law_draw t.a_law_draw t.d_law_draw
  b_law_draw : Binds K t.d_law_draw ["_law_tape_here", "_law_many"] []
  m_law_draw : mg "_law_draw" = some (.ref t.a_law_draw)
  F_law_gcd : Fun K "_law_gcd" "_law_gcd" s_law_gcd t.a_law_gcd t.d_law_gcd
  b_law_gcd : Binds K t.d_law_gcd ["_law_one", "_law_other"] []
  m_law_gcd : mg "_law_gcd" = some (.ref t.a_law_gcd)
  F_law_ratio : Fun K "_law_ratio" "_law_ratio" s_law_ratio t.a_law_ratio t.d_law_ratio
  b_law_ratio : Binds K t.d_law_ratio ["_law_top", "_law_bottom"] []
  m_law_ratio : mg "_law_ratio" = some (.ref t.a_law_ratio)
  F_law_plus : Fun K "_law_plus" "_law_plus" s_law_plus t.a_law_plus t.d_law_plus
  b_law_plus : Binds K t.d_law_plus ["_law_one", "_law_other"] []
  m_law_plus : mg "_law_plus" = some (.ref t.a_law_plus)
  F_law_minus : Fun K "_law_minus" "_law_minus" s_law_minus t.a_law_minus t.d_law_minus
  b_law_minus : Binds K t.d_law_minus ["_law_one", "_law_other"] []
  m_law_minus : mg "_law_minus" = some (.ref t.a_law_minus)
  F_law_times : Fun K "_law_times" "_law_times" s_law_times t.a_law_times t.d_law_times
  b_law_times : Binds K t.d_law_times ["_law_one", "_law_other"] []
  m_law_times : mg "_law_times" = some (.ref t.a_law_times)
  F_law_less : Fun K "_law_less" "_law_less" s_law_less t.a_law_less t.d_law_less
  b_law_less : Binds K t.d_law_less ["_law_one", "_law_other"] []
  m_law_less : mg "_law_less" = some (.ref t.a_law_less)
  F_law_part : Fun K "_law_part" "_law_part" s_law_part t.a_law_part t.d_law_part
  b_law_part : Binds K t.d_law_part ["_law_tape_here"] []
  m_law_part : mg "_law_part" = some (.ref t.a_law_part)
  F_law_table : Fun K "_law_table" "_law_table" s_law_table t.a_law_table t.d_law_table
  b_law_table : Binds K t.d_law_table ["_law_tape_here"] []
  m_law_table : mg "_law_table" = some (.ref t.a_law_table)
  F_law_rule : Fun K "_law_rule" "_law_rule" s_law_rule t.a_law_rule t.d_law_rule
  b_law_rule : Binds K t.d_law_rule ["_law_tape_here"] []
  m_law_rule : mg "_law_rule" = some (.ref t.a_law_rule)
  F_law_whole : Fun K "_law_whole" "_law_whole" s_law_whole t.a_law_whole t.d_law_whole
  b_law_whole : Binds K t.d_law_whole ["_law_thing"] []
  m_law_whole : mg "_law_whole" = some (.ref t.a_law_whole)
  F_law_is_ratio : Fun K "_law_is_ratio" "_law_is_ratio" s_law_is_ratio t.a_law_is_ratio t.d_law_is_ratio
  b_law_is_ratio : Binds K t.d_law_is_ratio ["_law_thing"] []
  m_law_is_ratio : mg "_law_is_ratio" = some (.ref t.a_law_is_ratio)
  F_law_is_pair : Fun K "_law_is_pair" "_law_is_pair" s_law_is_pair t.a_law_is_pair t.d_law_is_pair
  b_law_is_pair : Binds K t.d_law_is_pair ["_law_thing"] []
  m_law_is_pair : mg "_law_is_pair" = some (.ref t.a_law_is_pair)
  F_law_row_right : Fun K "_law_row_right" "_law_row_right" s_law_row_right t.a_law_row_right t.d_law_row_right
  b_law_row_right : Binds K t.d_law_row_right ["_law_rows", "_law_n"] []
  m_law_row_right : mg "_law_row_right" = some (.ref t.a_law_row_right)
  F_law_due : Fun K "_law_due" "_law_due" s_law_due t.a_law_due t.d_law_due
  b_law_due : Binds K t.d_law_due ["_law_thing"] []
  m_law_due : mg "_law_due" = some (.ref t.a_law_due)
  F_law_bent_row : Fun K "_law_bent_row" "_law_bent_row" s_law_bent_row t.a_law_bent_row t.d_law_bent_row
  b_law_bent_row : Binds K t.d_law_bent_row ["_law_tape_here", "_law_rows", "_law_at"] []
  m_law_bent_row : mg "_law_bent_row" = some (.ref t.a_law_bent_row)
  F_law_bent : Fun K "_law_bent" "_law_bent" s_law_bent t.a_law_bent t.d_law_bent
  b_law_bent : Binds K t.d_law_bent ["_law_tape_here", "_law_rule_here"] []
  m_law_bent : mg "_law_bent" = some (.ref t.a_law_bent)
  F_law_told : Fun K "_law_told" "_law_told" s_law_told t.a_law_told t.d_law_told
  b_law_told : Binds K t.d_law_told ["_law_thing"] []
  m_law_told : mg "_law_told" = some (.ref t.a_law_told)
  F_law : Fun K "law" "law" s_law t.a_law t.d_law
  b_law : Binds K t.d_law ["_law_script"] []
  m_law : mg "law" = some (.ref t.a_law)
  m_NOUGHT : mg "NOUGHT" = some (.ref t.c_NOUGHT)
  q_NOUGHT : ∀ H, SqT K H t.c_NOUGHT [.int (0), .int (1)]
  m_POWER : mg "POWER" = some (.str "power" t.k_POWER)
  m_TABLE : mg "TABLE" = some (.str "table" t.k_TABLE)
  m_LEAST_POWER : mg "LEAST_POWER" = some (.int (2) t.k_LEAST_POWER)
  m_MOST_POWER : mg "MOST_POWER" = some (.int (4) t.k_MOST_POWER)
  m_LEAST_ROWS : mg "LEAST_ROWS" = some (.int (2) t.k_LEAST_ROWS)
  m_MOST_ROWS : mg "MOST_ROWS" = some (.int (12) t.k_MOST_ROWS)
  X_NoRule : XC K t.c_NoRule t.a_NoRule (.ref t.c_base :: vMro)
  F_NoRule : Fun K "__init__" "NoRule.__init__" s_NoRule t.a_NoRule t.d_NoRule
  b_NoRule : Binds K t.d_NoRule ["self", "number"] []
  m_NoRule : mg "NoRule" = some (.ref t.c_NoRule)
  n_NoRule_number : NoAttr K t.c_NoRule "number"
  g_NoRule : GetX K t.c_NoRule
  m_PaceError : mg "PaceError" = some (.ref t.c_PaceError)
  m_NoPlan : mg "NoPlan" = some (.ref t.c_NoPlan)
  m_NoSheet : mg "NoSheet" = some (.ref t.c_NoSheet)
  m_NoSpeed : mg "NoSpeed" = some (.ref t.c_NoSpeed)
  x_catch : PySem.W.exmOne K (.ref t.c_NoRule) (.ref t.c_PaceError) = some true
  y_self : PySem.W.kitOne K (.ref t.c_NoRule) (.ref t.c_NoRule) = some true
  y_val : PySem.W.kitOne K (.ref t.c_NoRule) (.type "ValueError") = some true
  y_not : PySem.W.kitAny K (.ref t.c_NoRule) [.ref t.c_NoPlan, .ref t.c_NoSheet, .ref t.c_NoSpeed] = some false
  z_ValueError : mg "ValueError" = none
  z_abs : mg "abs" = none
  z_bool : mg "bool" = none
  z_enumerate : mg "enumerate" = none
  z_int : mg "int" = none
  z_isinstance : mg "isinstance" = none
  z_len : mg "len" = none
  z_list : mg "list" = none
  z_range : mg "range" = none
  z_repr : mg "repr" = none
  z_str : mg "str" = none
  z_tuple : mg "tuple" = none
def sp_greatest_divisor (_ : PySem.W.Frag) : Sp := fun vs H Q _ => ∃ a b : Int, vs = [.int a, .int b] ∧ Q (.int (Int.gcd a b : Nat)) H
def sp_law_gcd (_ : PySem.W.Frag) : Sp := fun vs H Q _ => ∃ a b : Int, vs = [.int a, .int b] ∧ 0 ≤ a ∧ 0 ≤ b ∧ Q (.int (Int.gcd a b : Nat)) H
abbrev sp_law_tape := sp_tape
def sp_law_draw (_ : PySem.W.Frag) : Sp := sp_draw
abbrev sp_law := sp_lawT
def newR (H : Hp) (Q : VK) (r : R) : Prop := ∀ p, H p = none → Q (.ref p) (upd H p (.tup [.int r.1, .int r.2]))
def toR (K : PySem.W.Frag) (H : Hp) (Q : VK) (r : R) : Prop := ∀ (v : V) (H' : Hp), Same H H' → RV K H' v r → Q v H'
def sp_ratio (_ : PySem.W.Frag) : Sp := fun vs H Q _ => ∃ a b : Int, vs = [.int a, .int b] ∧ b ≠ 0 ∧ b.natAbs < 2 ^ 4000 ∧ newR H Q (mkS a b)
abbrev sp_law_ratio := sp_ratio
def sp_plus (K : PySem.W.Frag) : Sp := fun vs H Q _ => ∃ (v w : V) (r q : R) (n m : Nat), vs = [v, w] ∧ RV K H v r ∧ RV K H w q ∧ Wf n r ∧ Wf m q ∧ n + m + 1 ≤ 3000 ∧ newR H Q (plusR r q)
abbrev sp_law_plus := sp_plus
def sp_minus (K : PySem.W.Frag) : Sp := fun vs H Q _ => ∃ (v w : V) (r q : R) (n m : Nat), vs = [v, w] ∧ RV K H v r ∧ RV K H w q ∧ Wf n r ∧ Wf m q ∧ n + m + 1 ≤ 3000 ∧ toR K H Q (minusR r q)
def sp_law_minus (K : PySem.W.Frag) : Sp := fun vs H Q _ => ∃ (v w : V) (r q : R) (n m : Nat), vs = [v, w] ∧ RV K H v r ∧ RV K H w q ∧ Wf n r ∧ Wf m q ∧ n + m + 1 ≤ 3000 ∧ newR H Q (minusR r q)
def sp_times (K : PySem.W.Frag) : Sp := fun vs H Q _ => ∃ (v w : V) (r q : R) (n m : Nat), vs = [v, w] ∧ RV K H v r ∧ RV K H w q ∧ Wf n r ∧ Wf m q ∧ n + m + 1 ≤ 3000 ∧ newR H Q (timesR r q)
abbrev sp_law_times := sp_times
def sp_over (K : PySem.W.Frag) : Sp := fun vs H Q _ => ∃ (v w : V) (r q : R) (n m : Nat), vs = [v, w] ∧ RV K H v r ∧ RV K H w q ∧ Wf n r ∧ Wf m q ∧ n + m + 1 ≤ 3000 ∧ q.1 ≠ 0 ∧ toR K H Q (overR r q)
def sp_law_over (K : PySem.W.Frag) : Sp := fun vs H Q _ => ∃ (v w : V) (r q : R) (n m : Nat), vs = [v, w] ∧ RV K H v r ∧ RV K H w q ∧ Wf n r ∧ Wf m q ∧ n + m + 1 ≤ 3000 ∧ q.1 ≠ 0 ∧ newR H Q (overR r q)
def sp_is_less (K : PySem.W.Frag) : Sp := fun vs H Q _ => ∃ (v w : V) (r q : R) (n m : Nat), vs = [v, w] ∧ RV K H v r ∧ RV K H w q ∧ Wf n r ∧ Wf m q ∧ n + m + 1 ≤ 3000 ∧ Q (.bl (lessR r q)) H
abbrev sp_law_less := sp_is_less
def sp_raised (K : PySem.W.Frag) : Sp := fun vs H Q _ => ∃ (v : V) (r : R) (k : Int), vs = [v, .int k] ∧ RV K H v r ∧ Wf 98 r ∧ 0 ≤ k ∧ k ≤ 4 ∧ toR K H Q (powR r k.toNat)
theorem big_of {i : Int} {n : Nat} (h : i.natAbs < 2 ^ n) (hn : n ≤ 4000) : i.natAbs < 2 ^ 4000 := Nat.lt_of_lt_of_le h (Nat.pow_le_pow_right (by decide) hn)
theorem rv_new {K : PySem.W.Frag} {H : Hp} {p : Addr} {x y : Int} (_ : Same H (upd H p (.tup [.int x, .int y]))) : RV K (upd H p (.tup [.int x, .int y])) (.ref p) (x, y) := RV.of upd_same
theorem cop_neg' {a b : Int} (h : Int.gcd a b = 1) : Int.gcd (-a) b = 1 := by rw [Int.neg_gcd]; exact h
theorem div_lt {a g : Int} (hg : 0 < g) (h : a.natAbs < 2 ^ 4000) : (a / g).natAbs < 2 ^ 4000 := Nat.lt_of_le_of_lt (natAbs_div_le a hg) h
theorem gcd_lt {a b : Int} (hb : 0 < b) (h : b.natAbs < 2 ^ 4000) : ((Int.gcd a b : Nat) : Int).natAbs < 2 ^ 4000 := gcd_big (by omega) h
/-! the things of the rules -/
def RowV (K : PySem.W.Frag) (H : Hp) (v : V) (w : R × R) : Prop := ∃ p x y, v = .ref p ∧ SqT K H p [x, y] ∧ RV K H x w.1 ∧ RV K H y w.2
theorem RowV.mono {K : PySem.W.Frag} {H H' : Hp} {v : V} {w : R × R} (h : RowV K H v w) (t : Tst K H H') : RowV K H' v w := let ⟨p, q, q', a, b, c, d⟩ := h; ⟨p, q, q', a, t _ _ b, c.mono t, d.mono t⟩
def RlV (K : PySem.W.Frag) (H : Hp) (v : V) : Rl → Prop
  | .pow k => ∃ p, v = .ref p ∧ SqT K H p [.str (Str.ofString "power"), .int k]
  | .tab rows => ∃ p q xs, v = .ref p ∧ SqT K H p [.str (Str.ofString "table"), .ref q] ∧ SqT K H q xs ∧ Als (RowV K H) xs rows
theorem RlV.mono {K : PySem.W.Frag} {H H' : Hp} {v : V} {rl : Rl} (h : RlV K H v rl) (t : Tst K H H') : RlV K H' v rl := by
  cases rl with
  | pow k => obtain ⟨p, a, b⟩ := h; exact ⟨p, a, t _ _ b⟩
  | tab rows => obtain ⟨p, q, xs, a, b, c, d⟩ := h; exact ⟨p, q, xs, a, t _ _ b, t _ _ c, d.mono fun _ _ z => z.mono t⟩
def OptV (K : PySem.W.Frag) (H : Hp) (v : V) : Option R → Prop
  | none => v = .non
  | some r => RV K H v r
def SidV (K : PySem.W.Frag) (H : Hp) (v : V) (w : R × Option R) : Prop := ∃ p x y, v = .ref p ∧ SqT K H p [x, y] ∧ RV K H x w.1 ∧ OptV K H y w.2
structure SlOk (a b : R × R) : Prop where
  ne : (minusR b.1 a.1).1 ≠ 0
  w1 : Wf 99 (minusR b.1 a.1)
  w2 : Wf 198 (minusR b.2 a.2)
  a1 : Wf 98 a.1
  b1 : Wf 98 b.1
  a2 : Wf 197 a.2
  b2 : Wf 197 b.2
def sp_slope_between (K : PySem.W.Frag) : Sp := fun vs H Q _ => ∃ (v w : V) (a b : R × R), vs = [v, w] ∧ RowV K H v a ∧ RowV K H w b ∧ SlOk a b ∧ toR K H Q (slopeR a b)
def sp_place_of (K : PySem.W.Frag) : Sp := fun vs H Q _ => ∃ (q : Addr) (v : V) (xs : List V) (rows : List (R × R)) (s : R), vs = [.ref q, v] ∧ SqT K H q xs ∧ Als (RowV K H) xs rows ∧ RowsOk rows ∧ RV K H v s ∧ SpOk s ∧ Below (.tab rows) s ∧ Q (.int (pOf rows s)) H
def sp_table_slopes (K : PySem.W.Frag) : Sp := fun vs H Q _ => ∃ (q : Addr) (v : V) (xs : List V) (rows : List (R × R)) (s : R), vs = [.ref q, v] ∧ SqT K H q xs ∧ Als (RowV K H) xs rows ∧ RowsOk rows ∧ RV K H v s ∧ SpOk s ∧ Below (.tab rows) s ∧ ∀ (v' : V) (H' : Hp), Same H H' → SidV K H' v' (leftT rows s, rightT rows s) → Q v' H'
def sp_slopes_at (K : PySem.W.Frag) : Sp := fun vs H Q _ => ∃ (v w : V) (rl : Rl) (s : R), vs = [v, w] ∧ RlV K H v rl ∧ RlOk rl ∧ RV K H w s ∧ SpOk s ∧ Below rl s ∧ ∀ (v' : V) (H' : Hp), Same H H' → SidV K H' v' (sidesOf rl s) → Q v' H'
abbrev sp_law_slopes := sp_slopes_at
def plainM (w : R × Option R) : R := match w.2 with | none => w.1 | some x => x
def sp_plain_slope (K : PySem.W.Frag) : Sp := fun vs H Q _ => ∃ (v w : V) (rl : Rl) (s : R), vs = [v, w] ∧ RlV K H v rl ∧ RlOk rl ∧ RV K H w s ∧ SpOk s ∧ Below rl s ∧ toR K H Q (plainM (sidesOf rl s))
def sp_bears (K : PySem.W.Frag) : Sp := fun vs H Q _ => ∃ (v w u : V) (rl : Rl) (s gg : R), vs = [v, w, u] ∧ RlV K H v rl ∧ RlOk rl ∧ RV K H w s ∧ SpOk s ∧ Below rl s ∧ RV K H u gg ∧ Wf 400 gg ∧ ∀ (H' : Hp), Same H H' → Q (.bl (bearM (sidesOf rl s).1 (sidesOf rl s).2 gg)) H'
def sp_law_is_borne (K : PySem.W.Frag) : Sp := fun vs H Q _ => ∃ (v w : V) (l : R) (o : Option R) (gg : R), vs = [v, w] ∧ SidV K H v (l, o) ∧ RV K H w gg ∧ Wf 300 l ∧ (∀ x, o = some x → Wf 300 x) ∧ Wf 400 gg ∧ Q (.bl (bearM l o gg)) H
structure PartOk (r : R) : Prop where
  bq : Bq D0 N0 r
  pos : 0 < r.1
theorem PartOk.wf {r : R} (h : PartOk r) : Wf 98 r := h.bq.wf (by decide) (by decide) (by decide)
def sp_law_part (K : PySem.W.Frag) : Sp := fun vs H Q _ => ∃ t s : Addr, vs = [.ref t] ∧ Tape H t s ∧ ∀ (v : V) (r : R) (H' : Hp), PartOk r → Step t H H' → Tape H' t s → RV K H' v r → Q v H'
def sp_law_table (K : PySem.W.Frag) : Sp := fun vs H Q _ => ∃ t s : Addr, vs = [.ref t] ∧ Tape H t s ∧ ∀ (v : V) (rows : List (R × R)) (H' : Hp), RowsOk rows → Step t H H' → Tape H' t s → RlV K H' v (.tab rows) → Q v H'
def sp_law_rule (K : PySem.W.Frag) : Sp := fun vs H Q _ => ∃ t s : Addr, vs = [.ref t] ∧ Tape H t s ∧ ∀ (v : V) (rl : Rl) (H' : Hp), RlOk rl → Step t H H' → Tape H' t s → RlV K H' v rl → Q v H'
def sp_law_speed (K : PySem.W.Frag) : Sp := fun vs H Q _ => ∃ (t s : Addr) (v : V) (rl : Rl), vs = [.ref t, v] ∧ Tape H t s ∧ RlV K H v rl ∧ RlOk rl ∧ ∀ (w : V) (z : R) (H' : Hp), SpOk z → Step t H H' → Tape H' t s → RV K H' w z → Q w H'

theorem div30 {r : Int} (h0 : 0 ≤ r) (h1 : r < 30) : (1 + r) ∣ (D0 : Int) := by
  have z : ∀ k : Fin 30, (1 + ((k : Nat) : Int)) ∣ (D0 : Int) := by decide
  have := z ⟨r.toNat, by omega⟩
  rw [show (((⟨r.toNat, by omega⟩ : Fin 30) : Nat) : Int) = r by show ((r.toNat : Nat) : Int) = r; omega] at this
  exact this
theorem part_ok {a b : Int} (ha : 0 < a) (ha' : a ≤ 1000000007) (hb : 0 < b) (hd : b ∣ (D0 : Int)) : PartOk (mkR a b) := by
  refine ⟨bq_mk hb hd ?_, mkR_pos ha hb⟩
  have h1 : a.natAbs ≤ 1000000007 := by omega
  have h2 : 1 ≤ b.natAbs := by omega
  show a.natAbs ≤ 1000000007 * b.natAbs
  omega
theorem bq_zero {D N : Nat} : Bq D N (0, 1) := ⟨by show (0 : Int) < 1; decide, by show Int.gcd 0 1 = 1; decide, ⟨(D : Int), by show (D : Int) = 1 * (D : Int); omega⟩, Nat.zero_le _⟩
/-! a table as it grows -/
structure TabAt (i : Nat) (rows : List (R × R)) : Prop where
  len : rows.length = i + 1
  inc : Inc rows
  zero : ∃ y, rows[0]? = some ((0, 1), y)
  sp : ∀ r ∈ rows, Bq D0 (i * N0) r.1
  pw : ∀ r ∈ rows, Bq (D0 * D0) (N0 + i * (12 * N0 * N0)) r.2
theorem tab_one {y : R} (h : Bq D0 N0 y) : TabAt 0 [((0, 1), y)] := by
  refine ⟨rfl, List.pairwise_singleton _ _, ⟨y, rfl⟩, fun r hr => ?_, fun r hr => ?_⟩
  · rw [List.mem_singleton] at hr; rw [hr]; exact bq_zero
  · rw [List.mem_singleton] at hr; rw [hr]
    exact h.mono ⟨D0, rfl⟩ (by omega)
theorem TabAt.snoc {i : Nat} {rows : List (R × R)} (h : TabAt i rows) (hi : i ≤ 10) {w : R × R} (hw : rows[i]? = some w) {sl st : R} (hs : Bq D0 ((i + 1) * N0) sl) (ht : PartOk st) :
    TabAt (i + 1) (rows ++ [(plusR w.1 st, plusR w.2 (timesR sl st))]) := by
  have mw := List.mem_of_getElem? hw
  have b1 : Bq D0 ((i + 1) * N0) (plusR w.1 st) := ((h.sp w mw).plus (by decide) ht.bq).mono ⟨1, rfl⟩ (by rw [Nat.add_mul]; omega)
  have b2 : Bq (D0 * D0) (12 * N0 * N0) (timesR sl st) := (hs.times ht.bq).mono ⟨1, by rw [Nat.mul_one]⟩ (Nat.mul_le_mul_right _ (Nat.mul_le_mul_right _ (by omega)))
  have b3 : Bq (D0 * D0) (N0 + (i + 1) * (12 * N0 * N0)) (plusR w.2 (timesR sl st)) := ((h.pw w mw).plus (by decide) b2).mono ⟨1, by rw [Nat.mul_one]⟩ (by rw [Nat.add_mul]; omega)
  have up := less_plus (h.sp w mw).red ht.bq.red ht.pos
  refine ⟨by rw [List.length_append, h.len]; rfl, ?_, ?_, fun r hr => ?_, fun r hr => ?_⟩
  · refine List.pairwise_append.mpr ⟨h.inc, List.pairwise_singleton _ _, fun a ha b hb => ?_⟩
    rw [List.mem_singleton] at hb
    rw [hb]
    show lessR a.1 (plusR w.1 st) = true
    obtain ⟨j, hj⟩ := List.getElem?_of_mem ha
    have lj : j < i + 1 := by rw [← h.len]; exact (List.getElem?_eq_some_iff.mp hj).1
    by_cases e : j = i
    · rw [e, hw] at hj; cases hj; exact up
    · obtain ⟨h1, e1⟩ := List.getElem?_eq_some_iff.mp hj
      obtain ⟨h2, e2⟩ := List.getElem?_eq_some_iff.mp hw
      have := List.pairwise_iff_getElem.mp h.inc j i h1 h2 (by omega)
      rw [e1, e2] at this
      exact lt_le (h.sp a ha).pos (h.sp w mw).pos b1.pos this (less_asym up)
  · obtain ⟨y, hy⟩ := h.zero
    exact ⟨y, by rw [List.getElem?_append_left (by rw [h.len]; exact Nat.succ_pos i)]; exact hy⟩
  · rcases List.mem_append.mp hr with z | z
    · exact (h.sp r z).mono ⟨1, rfl⟩ (Nat.mul_le_mul_right _ (Nat.le_succ i))
    · rw [List.mem_singleton] at z; rw [z]; exact b1
  · rcases List.mem_append.mp hr with z | z
    · exact (h.pw r z).mono ⟨1, by rw [Nat.mul_one]⟩ (Nat.add_le_add_left (Nat.mul_le_mul_right _ (Nat.le_succ i)) _)
    · rw [List.mem_singleton] at z; rw [z]; exact b3
theorem TabAt.ok {i : Nat} {rows : List (R × R)} (h : TabAt i rows) (h1 : 1 ≤ i) (h2 : i ≤ 11) : RowsOk rows := by
  refine ⟨by rw [h.len]; omega, by rw [h.len]; omega, h.inc, h.zero, fun r hr => (h.sp r hr).mono ⟨1, rfl⟩ ?_, fun r hr => (h.pw r hr).mono ⟨1, by rw [Nat.mul_one]⟩ ?_⟩
  · exact Nat.le_trans (Nat.mul_le_mul_right N0 h2) (by decide)
  · exact Nat.le_trans (Nat.add_le_add_left (Nat.mul_le_mul_right _ h2) _) (by decide)
theorem wf_sp {i : Nat} {r : R} (h : Bq D0 (i * N0) r) (hi : i ≤ 12) : Wf 98 r := (h.mono (N' := 12 * N0) ⟨1, rfl⟩ (Nat.mul_le_mul_right _ hi)).wf (by decide) (by decide) (by decide)
theorem wf_pw {i : Nat} {r : R} (h : Bq (D0 * D0) (N0 + i * (12 * N0 * N0)) r) (hi : i ≤ 12) : Wf 197 r := (h.mono (N' := N0 + 12 * (12 * N0 * N0)) ⟨1, by rw [Nat.mul_one]⟩ (Nat.add_le_add_left (Nat.mul_le_mul_right _ hi) _)).wf (by decide) (by decide) (by decide)

def sp_is_whole (K : PySem.W.Frag) : Sp := fun vs H Q _ => ∃ (v : V) (d : PyData), vs = [v] ∧ Deep K H v d ∧ Q (.bl (wholeD d)) H
def sp_is_tuple_of (K : PySem.W.Frag) : Sp := fun vs H Q _ => ∃ (v : V) (d : PyData) (m : Nat), vs = [v, .int m] ∧ Deep K H v d ∧ Q (.bl (tupD m d)) H
def sp_is_ratio (K : PySem.W.Frag) : Sp := fun vs H Q _ => ∃ (v : V) (d : PyData), vs = [v] ∧ Deep K H v d ∧ Q (.bl (ratD d)) H
def sp_is_ratio_pair (K : PySem.W.Frag) : Sp := fun vs H Q _ => ∃ (v : V) (d : PyData), vs = [v] ∧ Deep K H v d ∧ Q (.bl (pairD d)) H
def powD : PyData → Bool
  | .int k => decide (2 ≤ k) && decide (k ≤ 4)
  | _ => false
def rowsD : PyData → Bool
  | .tuple ds => decide (2 ≤ ds.length) && decide (ds.length ≤ 12)
  | _ => false
def shapedD : PyData → Bool
  | .tuple [x, y] => if PyData.eqv x (.str "power") then powD y else if PyData.eqv x (.str "table") then rowsD y else false
  | _ => false
def sp_is_rule_shaped (K : PySem.W.Frag) : Sp := fun vs H Q _ => ∃ (v : V) (d : PyData), vs = [v] ∧ Deep K H v d ∧ (∀ x y, d = .tuple [x, y] → x.canLay0 = true ∧ x.depth ≤ 32) ∧ Q (.bl (shapedD d)) H
/-- rows whose slope may be asked -/
def SlO (a b : R × R) : Prop := (minusR b.1 a.1).1 ≠ 0 ∧ ∃ n1 n2 m1 m2 : Nat, Wf n1 a.1 ∧ Wf n1 b.1 ∧ Wf n2 a.2 ∧ Wf n2 b.2 ∧ Wf m1 (minusR b.1 a.1) ∧ Wf m2 (minusR b.2 a.2) ∧ n1 + n1 + 1 ≤ 3000 ∧ n2 + n2 + 1 ≤ 3000 ∧ m2 + m1 + 1 ≤ 3000
def sp_slope_of (K : PySem.W.Frag) : Sp := fun vs H Q _ => ∃ (v w : V) (a b : R × R), vs = [v, w] ∧ RowV K H v a ∧ RowV K H w b ∧ SlO a b ∧ toR K H Q (slopeR a b)
def behM (rs : List (R × R)) (n : Nat) : Bool :=
  if n = 0 then decide ((rs.getD 0 rowD).1 = (0, 1)) && !lessR (rs.getD 0 rowD).2 (0, 1)
  else lessR (rs.getD (n - 1) rowD).1 (rs.getD n rowD).1 && (lessR (rs.getD (n - 1) rowD).2 (rs.getD n rowD).2 &&
    (decide (n = 1) || !lessR (slopeR (rs.getD (n - 1) rowD) (rs.getD n rowD)) (slopeR (rs.getD (n - 2) rowD) (rs.getD (n - 1) rowD))))
/-- the rows up to n may be held against each other -/
structure BehOk (K : PySem.W.Frag) (H : Hp) (xs : List V) (rs : List (R × R)) (n : Nat) : Prop where
  row : ∀ j, j ≤ n → ∃ v, xs[j]? = some v ∧ RowV K H v (rs.getD j rowD)
  w1 : ∀ j, j ≤ n → Wf 230 (rs.getD j rowD).1
  w2 : ∀ j, j ≤ n → Wf 230 (rs.getD j rowD).2
  sl : ∀ j, j + 1 ≤ n → lessR (rs.getD j rowD).1 (rs.getD (j + 1) rowD).1 = true → SlO (rs.getD j rowD) (rs.getD (j + 1) rowD) ∧ Wf 1450 (slopeR (rs.getD j rowD) (rs.getD (j + 1) rowD))
  up : ∀ j, j + 1 < n → lessR (rs.getD j rowD).1 (rs.getD (j + 1) rowD).1 = true
def sp_is_row_behind (K : PySem.W.Frag) : Sp := fun vs H Q _ => ∃ (p : Addr) (xs : List V) (rs : List (R × R)) (n : Nat), vs = [.ref p, .int n] ∧ SqT K H p xs ∧ BehOk K H xs rs n ∧ ∀ H', Same H H' → Q (.bl (behM rs n)) H'
theorem shapedD_no {d : PyData} (h : tupD 2 d = false) : shapedD d = false := by
  cases c : shapedD d with
  | false => rfl
  | true =>
    unfold shapedD at c
    split at c
    · cases h
    · cases c
theorem wholeD_int {d : PyData} (h : wholeD d = true) : ∃ i, d = .int i := by
  cases d with
  | int i => exact ⟨i, rfl⟩
  | _ => cases h
theorem rat_x {x y : PyData} (h : wholeD x = false) : ratD (.tuple [x, y]) = false := by
  cases x with
  | int i => cases h
  | _ => rfl
theorem rat_y {x y : PyData} (h : wholeD y = false) : ratD (.tuple [x, y]) = false := by
  cases y with
  | int i => cases h
  | _ => cases x <;> rfl


def sp_copied (_ : PySem.W.Frag) : Sp := fun vs H Q _ => ∃ i : Int, vs = [.int i] ∧ Q (.int i) H
def sp_NoRule (_ : PySem.W.Frag) (C : Addr) : Sp := fun vs H Q _ => ∃ (a : Addr) (n : Int), vs = [.ref a, .int n] ∧ H a = some (exO a C none) ∧ ∀ d, H d = none → d ≠ a → Q .non (upd (upd H a (exO a C (some d))) d (dO d [("number", .int n)]))
def goodRow (ds : List PyData) (n : Nat) : Bool := pairD (ds.getD n .none) && behM (ds.map decRow) n
def firstBad (ds : List PyData) : Option Nat := (List.range ds.length).find? fun n => !goodRow ds n
theorem fb_none {ds : List PyData} (h : ∀ n, n < ds.length → goodRow ds n = true) : firstBad ds = none := by
  unfold firstBad
  rw [List.find?_eq_none]
  intro n hn
  rw [h n (List.mem_range.mp hn)]
  decide
theorem fb_some {ds : List PyData} {n : Nat} (hn : n < ds.length) (hb : goodRow ds n = false) (h : ∀ m, m < n → goodRow ds m = true) : firstBad ds = some n := by
  unfold firstBad
  rw [List.find?_range_eq_some]
  refine ⟨by rw [hb]; rfl, List.mem_range.mpr hn, fun m hm => ?_⟩
  rw [h m hm]; rfl
def dueP (d : PyData) : Option Int := if shapedD d then (match d with | .tuple [x, .tuple ds] => if PyData.eqv x (.str "table") then (firstBad ds).map fun n => (n : Int) else none | _ => none) else some (-1)
def vOpt : Option Int → V
  | none => .non
  | some n => .int n
abbrev Thing (d : PyData) : Prop := Gd 7 9000000 d
theorem Thing.cl {d : PyData} (h : Thing d) : ∀ x y, d = .tuple [x, y] → x.canLay0 = true ∧ x.depth ≤ 32 := fun x y e => by
  subst e
  have l : (x.canLay0 && (y.canLay0 && true)) = true := h.lay
  rw [Bool.and_eq_true] at l
  have dp : max x.depth (max y.depth 0) + 1 ≤ 7 := h.sh.dp
  exact ⟨l.1, by omega⟩
theorem deep_rat {K : PySem.W.Frag} {H : Hp} {v : V} {e : PyData} (h : Deep K H v e) (c : ratD e = true) : RV K H v (decR e) := by
  obtain ⟨a, b, rfl, _, _⟩ := rat_dec c
  obtain ⟨p, x, y, dx, dy, rfl, e, hS, hx, hy⟩ := h.two rfl
  cases e
  cases hx
  cases hy
  exact ⟨p, rfl, hS⟩
theorem deep_row {K : PySem.W.Frag} {H : Hp} {v : V} {e : PyData} (h : Deep K H v e) (c : pairD e = true) : RowV K H v (decRow e) := by
  obtain ⟨a, b, rfl, ca, cb⟩ := pair_dec c
  obtain ⟨p, x, y, dx, dy, rfl, e, hS, hx, hy⟩ := h.two rfl
  cases e
  exact ⟨p, x, y, rfl, hS, deep_rat hx ca, deep_rat hy cb⟩
theorem DeepAll.at {K : PySem.W.Frag} {H : Hp} : ∀ {xs : List V} {ds : List PyData}, DeepAll K H xs ds → ∀ {j : Nat} {e : PyData}, ds[j]? = some e → ∃ v, xs[j]? = some v ∧ Deep K H v e
  | _, _, .nil, j, e, h => by simp at h
  | _, _, .cons h t, 0, e, q => by
    cases (show _ = e by simpa using q)
    exact ⟨_, rfl, h⟩
  | _, _, .cons h t, j + 1, e, q => by
    obtain ⟨v, a, b⟩ := DeepAll.at t (j := j) (by simpa using q)
    exact ⟨v, by simpa using a, b⟩
theorem sl_of230 {a b : R × R} (a1 : Wf 230 a.1) (a2 : Wf 230 a.2) (b1 : Wf 230 b.1) (b2 : Wf 230 b.2) (lt : lessR a.1 b.1 = true) : SlO a b ∧ Wf 1450 (slopeR a b) := by
  have m := minus_wf b1 a1
  have mp := minus_wf b2 a2
  have ne : (minusR b.1 a.1).1 ≠ 0 := minus_ne ⟨b1.pos, b1.cop⟩ ⟨a1.pos, a1.cop⟩ lt
  exact ⟨⟨ne, 230, 230, 461, 461, a1, b1, a2, b2, m, mp, by decide, by decide, by decide⟩, (over_wf mp m ne).mono (by decide)⟩
theorem dec_at {ds : List PyData} {j : Nat} {e : PyData} (h : ds[j]? = some e) : (ds.map decRow).getD j rowD = decRow e ∧ ds.getD j .none = e := by
  constructor
  · rw [List.getD_eq_getElem?_getD, List.getElem?_map, h]; rfl
  · rw [List.getD_eq_getElem?_getD, h]; rfl
theorem beh_ok {K : PySem.W.Frag} {H : Hp} {xs : List V} {ds : List PyData} {n : Nat} (hD : DeepAll K H xs ds) (ib : ∀ e ∈ ds, ibd e = true) (hn : n < ds.length) (hp : pairD (ds.getD n .none) = true) (hg : ∀ m, m < n → goodRow ds m = true) : BehOk K H xs (ds.map decRow) n := by
  have pr : ∀ j, j ≤ n → ∃ e, ds[j]? = some e ∧ pairD e = true := fun j hj => by
    have e : ds[j]? = some (ds[j]'(by omega)) := List.getElem?_eq_getElem _
    refine ⟨_, e, ?_⟩
    by_cases c : j = n
    · subst c
      rw [(dec_at e).2] at hp
      exact hp
    · have g := hg j (by omega)
      unfold goodRow at g
      rw [Bool.and_eq_true, (dec_at e).2] at g
      exact g.1
  have wf : ∀ j, j ≤ n → Wf 230 ((ds.map decRow).getD j rowD).1 ∧ Wf 230 ((ds.map decRow).getD j rowD).2 := fun j hj => by
    obtain ⟨e, he, pe⟩ := pr j hj
    rw [(dec_at he).1]
    exact pair_wf pe (ib e (List.mem_of_getElem? he))
  refine ⟨fun j hj => ?_, fun j hj => (wf j hj).1, fun j hj => (wf j hj).2, fun j hj lt => ?_, fun j hj => ?_⟩
  · obtain ⟨e, he, pe⟩ := pr j hj
    obtain ⟨v, hv, dv⟩ := DeepAll.at hD he
    refine ⟨v, hv, ?_⟩
    rw [(dec_at he).1]
    exact deep_row dv pe
  · exact sl_of230 (wf j (by omega)).1 (wf j (by omega)).2 (wf (j + 1) hj).1 (wf (j + 1) hj).2 lt
  · have g := hg (j + 1) hj
    unfold goodRow behM at g
    rw [Bool.and_eq_true, if_neg (by omega), Nat.add_sub_cancel, Bool.and_eq_true] at g
    exact g.2.1
def sp_right_rule (K : PySem.W.Frag) (C : Addr) : Sp := fun vs H Q E => ∃ (v : V) (d : PyData), vs = [v] ∧ Deep K H v d ∧ Thing d ∧ (dueP d = none → ∀ H', Same H H' → Q (.bl true) H') ∧
  (∀ n, dueP d = some n → ∀ (dd : Addr) (H' : Hp), Same H H' → H' dd = some (dO dd [("number", .int n)]) → E (.ref C) (some dd) H')
def sp_law_whole := sp_is_whole
def sp_law_is_ratio := sp_is_ratio
def sp_law_is_pair := sp_is_ratio_pair
def sp_law_row_right := sp_is_row_behind
def sp_law_due (K : PySem.W.Frag) : Sp := fun vs H Q _ => ∃ (v : V) (d : PyData), vs = [v] ∧ Deep K H v d ∧ Thing d ∧ ∀ H', Same H H' → Q (vOpt (dueP d)) H'
def sp_law_told (K : PySem.W.Frag) : Sp := fun vs H Q _ => ∃ (v : V) (d : PyData), vs = [v] ∧ Deep K H v d ∧ Thing d ∧ ∀ H', Same H H' → Q (vOpt (dueP d)) H'
theorem shaped_table {x y : PyData} (h : shapedD (.tuple [x, y]) = true) (c : PyData.eqv x (.str "table") = true) : ∃ ds, y = .tuple ds ∧ 2 ≤ ds.length ∧ ds.length ≤ 12 := by
  have h' : (if PyData.eqv x (.str "power") then powD y else if PyData.eqv x (.str "table") then rowsD y else false) = true := h
  have np : PyData.eqv x (.str "power") = false := by
    cases x with
    | str s =>
      have c' : decide (s = Str.ofString "table") = true := c
      have e := of_decide_eq_true c'
      subst e
      decide +kernel
    | _ => first | rfl | cases c
  rw [np, if_neg Bool.false_ne_true, c, if_pos rfl] at h'
  cases y with
  | tuple ds =>
    have h2 : (decide (2 ≤ ds.length) && decide (ds.length ≤ 12)) = true := h'
    rw [Bool.and_eq_true, decide_eq_true_iff, decide_eq_true_iff] at h2
    exact ⟨ds, rfl, h2.1, h2.2⟩
  | _ => cases h'

theorem als_two {α : Type} {P : V → α → Prop} {ys : List V} {a b : α} (h : Als P ys [a, b]) : ∃ x y, ys = [x, y] ∧ P x a ∧ P y b := by
  cases h with
  | cons h1 h => cases h with
    | cons h2 h => cases h; exact ⟨_, _, rfl, h1, h2⟩
theorem cross_slope {a b c : R × R} (a1 : Wf 230 a.1) (a2 : Wf 230 a.2) (b1 : Wf 230 b.1) (b2 : Wf 230 b.2) (c1 : Wf 230 c.1) (c2 : Wf 230 c.2) (ab : lessR a.1 b.1 = true) (bc : lessR b.1 c.1 = true) :
    lessR (timesR (minusR c.2 b.2) (minusR b.1 a.1)) (timesR (minusR b.2 a.2) (minusR c.1 b.1)) = lessR (slopeR b c) (slopeR a b) := by
  have s0 := minus_wf b1 a1
  have s1 := minus_wf c1 b1
  have k0 := minus_wf b2 a2
  have k1 := minus_wf c2 b2
  have n0 : (minusR b.1 a.1).1 ≠ 0 := minus_ne ⟨b1.pos, b1.cop⟩ ⟨a1.pos, a1.cop⟩ ab
  have n1 : (minusR c.1 b.1).1 ≠ 0 := minus_ne ⟨c1.pos, c1.cop⟩ ⟨b1.pos, b1.cop⟩ bc
  have t0 := times_wf k1 s0
  have t1 := times_wf k0 s1
  have o0 := over_wf k0 s0 n0
  have o1 := over_wf k1 s1 n1
  have e1 : val (timesR (minusR c.2 b.2) (minusR b.1 a.1)) = (val c.2 - val b.2) * (val b.1 - val a.1) := by rw [val_times k1.pos s0.pos, val_minus c2.pos b2.pos, val_minus b1.pos a1.pos]
  have e2 : val (timesR (minusR b.2 a.2) (minusR c.1 b.1)) = (val b.2 - val a.2) * (val c.1 - val b.1) := by rw [val_times k0.pos s1.pos, val_minus b2.pos a2.pos, val_minus c1.pos b1.pos]
  have e3 : val (slopeR b c) = (val c.2 - val b.2) / (val c.1 - val b.1) := by unfold slopeR; rw [val_over k1.pos s1.pos n1, val_minus c2.pos b2.pos, val_minus c1.pos b1.pos]
  have e4 : val (slopeR a b) = (val b.2 - val a.2) / (val b.1 - val a.1) := by unfold slopeR; rw [val_over k0.pos s0.pos n0, val_minus b2.pos a2.pos, val_minus b1.pos a1.pos]
  have p0 : 0 < val b.1 - val a.1 := by have := (val_less a1.pos b1.pos).mp ab; grind
  have p1 : 0 < val c.1 - val b.1 := by have := (val_less b1.pos c1.pos).mp bc; grind
  have key : (val c.2 - val b.2) * (val b.1 - val a.1) < (val b.2 - val a.2) * (val c.1 - val b.1) ↔ (val c.2 - val b.2) / (val c.1 - val b.1) < (val b.2 - val a.2) / (val b.1 - val a.1) := by
    generalize val c.2 - val b.2 = u at *
    generalize val b.2 - val a.2 = v at *
    generalize val c.1 - val b.1 = q at *
    generalize val b.1 - val a.1 = p at *
    have eu : u / q * q = u := Rat.div_mul_cancel (by grind)
    have ev : v / p * p = v := Rat.div_mul_cancel (by grind)
    generalize u / q = x at *
    generalize v / p = y at *
    subst eu ev
    have pq : 0 < q * p := Rat.mul_pos p1 p0
    constructor
    · intro h
      apply Classical.byContradiction
      intro n
      have n' : 0 ≤ x - y := by grind
      have := Rat.mul_nonneg n' (Rat.le_of_lt pq)
      grind
    · intro h
      have := Rat.mul_pos (show 0 < y - x by grind) pq
      grind
  have o0' : Wf _ (slopeR a b) := o0
  have o1' : Wf _ (slopeR b c) := o1
  rw [Bool.eq_iff_iff, val_less t0.pos t1.pos, val_less o1'.pos o0'.pos, e1, e2, e3, e4]
  exact key

theorem isi_str {K : PySem.W.Frag} {H : Hp} {v : V} {d : PyData} (h : Deep K H v d) : (kitTT (tyD d) "str" = some true ∧ ∃ x, v = .str x ∧ d = .str x) ∨ (kitTT (tyD d) "str" = some false ∧ ∀ x, d ≠ .str x) := by
  cases h with
  | non => exact .inr ⟨by simp only [tyD]; decide +kernel, fun _ z => nomatch z⟩
  | bl b => exact .inr ⟨by simp only [tyD]; decide +kernel, fun _ z => nomatch z⟩
  | int i => exact .inr ⟨by simp only [tyD]; decide +kernel, fun _ z => nomatch z⟩
  | str x => exact .inl ⟨by simp only [tyD]; decide +kernel, x, rfl, rfl⟩
  | lst e t => exact .inr ⟨by simp only [tyD]; decide +kernel, fun _ z => nomatch z⟩
  | tup e t => exact .inr ⟨by simp only [tyD]; decide +kernel, fun _ z => nomatch z⟩
theorem eqv_str {x y : Str} : PyData.eqv (.str x) (.str y) = decide (x = y) := rfl
theorem eqv_nstr {d : PyData} (h : ∀ x, d ≠ .str x) (y : Str) : PyData.eqv d (.str y) = false := by
  cases d with
  | str x => exact absurd rfl (h x)
  | _ => rfl
theorem due_no {d : PyData} (h : shapedD d = false) : dueP d = some (-1) := by unfold dueP; rw [h]; rfl
theorem due_other {x y : PyData} (h1 : PyData.eqv x (.str "power") = false) (h2 : PyData.eqv x (.str "table") = false) : dueP (.tuple [x, y]) = some (-1) := by
  refine due_no ?_
  show (if PyData.eqv x (.str "power") then powD y else if PyData.eqv x (.str "table") then rowsD y else false) = false
  rw [h1, h2]; rfl
theorem ne_tp : ¬ Str.ofString "table" = Str.ofString "power" := by decide +kernel
theorem due_power (y : PyData) : dueP (.tuple [.str "power", y]) = if powD y then none else some (-1) := by
  have e : shapedD (.tuple [.str "power", y]) = powD y := by
    show (if PyData.eqv (.str "power") (.str "power") then powD y else if PyData.eqv (.str "power") (.str "table") then rowsD y else false) = powD y
    rw [eqv_str, decide_eq_true rfl]; rfl
  unfold dueP
  rw [e]
  cases c : powD y with
  | false => rfl
  | true =>
    cases y with
    | int i => rfl
    | _ => cases c
theorem due_table (ds : List PyData) (h : 2 ≤ ds.length ∧ ds.length ≤ 12) : dueP (.tuple [.str "table", .tuple ds]) = (firstBad ds).map fun n => (n : Int) := by
  have e : shapedD (.tuple [.str "table", .tuple ds]) = true := by
    show (if PyData.eqv (.str "table") (.str "power") then powD (.tuple ds) else if PyData.eqv (.str "table") (.str "table") then (decide (2 ≤ ds.length) && decide (ds.length ≤ 12)) else false) = true
    rw [eqv_str, eqv_str, decide_eq_true rfl, decide_eq_false ne_tp, decide_eq_true h.1, decide_eq_true h.2]; rfl
  unfold dueP
  rw [e, if_pos rfl]
  show (if PyData.eqv (.str "table") (.str "table") then (firstBad ds).map fun n => (n : Int) else none) = _
  rw [eqv_str, decide_eq_true rfl]; rfl
theorem due_rows {y : PyData} (h : rowsD y = false) : dueP (.tuple [.str "table", y]) = some (-1) := by
  refine due_no ?_
  show (if PyData.eqv (.str "table") (.str "power") then powD y else if PyData.eqv (.str "table") (.str "table") then rowsD y else false) = false
  rw [eqv_str, eqv_str, decide_eq_true rfl, decide_eq_false ne_tp, h]; rfl
def ltl : R := (1, 10 ^ (6 : Int).toNat)
theorem ltl_wf : Wf 30 ltl := ⟨by decide, by decide, by decide, by decide⟩

def IsL : Option HO → Prop
  | some (.lst _) => True
  | _ => False
open Classical in
/-- the heap without the lists that stood in an earlier one -/
noncomputable def noL (H0 H : Hp) : Hp := fun b => if IsL (H0 b) then none else H b
theorem noL_same {H0 H H' : Hp} (s : Same H H') : Same (noL H0 H) (noL H0 H') := fun b o q => by
  unfold noL at q ⊢
  by_cases c : IsL (H0 b)
  · rw [if_pos c] at q; cases q
  · rw [if_neg c] at q ⊢; exact s b o q
theorem noL_full {H0 H : Hp} : Same (noL H0 H) H := fun b o q => by
  unfold noL at q
  by_cases c : IsL (H0 b)
  · rw [if_pos c] at q; cases q
  · rw [if_neg c] at q; exact q
theorem noL_new {H0 H : Hp} {p : Addr} {o : HO} (g : H0 p = none) : noL H0 (upd H p o) p = some o := by
  unfold noL
  rw [if_neg (by rw [g]; exact fun z => z), upd_same]
theorem noL_up {H0 H : Hp} {t : Addr} {o : HO} (g : IsL (H0 t)) : Same (noL H0 H) (noL H0 (upd H t o)) := fun b o q => by
  unfold noL at q ⊢
  by_cases c : IsL (H0 b)
  · rw [if_pos c] at q; cases q
  · rw [if_neg c] at q ⊢
    rw [upd_ne (fun z => c (by rw [z]; exact g))]
    exact q
theorem Tape.isL {H : Hp} {t s : Addr} (T : Tape H t s) : IsL (H t) := by
  obtain ⟨_, e⟩ := T.lst
  rw [e]; exact trivial
theorem Step.fresh {t s : Addr} {H0 H : Hp} (S : Step t H0 H) (T : Tape H t s) {p : Addr} (g : H p = none) : H0 p = none := by
  cases c : H0 p with
  | none => rfl
  | some o =>
    by_cases e : p = t
    · subst e
      obtain ⟨_, q⟩ := T.lst
      rw [g] at q; cases q
    · have := S.keep _ _ e c
      rw [g] at this; cases this
theorem tst_noL {K : PySem.W.Frag} {t s : Addr} {H0 H : Hp} (S : Step t H0 H) (T : Tape H t s) : Tst K H (noL H0 H) := fun p xs h => by
  have nl : ∀ u, H p = some u → (∀ ys, u ≠ .lst ys) → ¬ IsL (H0 p) := fun u e n c => by
    cases q : H0 p with
    | none => rw [q] at c; exact c
    | some o =>
      rw [q] at c
      cases o with
      | lst ys =>
        by_cases et : p = t
        · subst et
          obtain ⟨zs, z⟩ := T.lst
          rw [e] at z
          exact n _ (Option.some.inj z)
        · have := S.keep _ _ et q
          rw [e] at this
          exact n _ (Option.some.inj this)
      | _ => exact c
  rcases h with (h | ⟨ob, h⟩) | h
  · refine .inl (.inl ?_)
    unfold noL
    rw [if_neg (nl _ h fun _ z => by cases z)]
    exact h
  · refine .inl (.inr ⟨ob, ?_⟩)
    unfold noL
    rw [if_neg (nl _ h fun _ z => by cases z)]
    exact h
  · exact .inr h
def dRow (w : R × R) : PyData := .tuple [dR w.1, dR w.2]
def sp_law_bent_row (K : PySem.W.Frag) : Sp := fun vs H Q _ => ∃ (t s q : Addr) (xs : List V) (rows : List (R × R)) (n : Nat), vs = [.ref t, .ref q, .int n] ∧ Tape H t s ∧ SqT K H q xs ∧ Als (RowV K H) xs rows ∧ RowsOk rows ∧ n < rows.length ∧ ∀ (v : V) (d : PyData) (H' : Hp), Gd 3 30000 d → Step t H H' → Tape H' t s → Deep K (noL H H') v d → Q v H'
theorem ahead_at {K : PySem.W.Frag} {H : Hp} {xs : List V} {rows : List (R × R)} (al : Als (RowV K H) xs rows) (h2 : 2 ≤ rows.length) {n : Nat} (hn : n < rows.length) : ∃ v r, atI xs ((n : Int) - 1) = some v ∧ RowV K H v r ∧ r ∈ rows := by
  by_cases c : n = 0
  · subst c
    obtain ⟨x, d, a, b, p, _⟩ := al.last (n := rows.length - 1) (by omega)
    exact ⟨x, d, a, p, List.mem_of_getElem? b⟩
  · have hx : xs[n - 1]? = some (xs[n - 1]'(by rw [al.len]; omega)) := List.getElem?_eq_getElem _
    obtain ⟨r, hr, p⟩ := al.at hx
    refine ⟨_, r, ?_, p, List.mem_of_getElem? hr⟩
    rw [show (n : Int) - 1 = ((n - 1 : Nat) : Int) by omega]
    exact atI_nat hx
theorem DeepAll.snoc {K : PySem.W.Frag} {H : Hp} : ∀ {xs : List V} {ds : List PyData} {v : V} {d : PyData}, DeepAll K H xs ds → Deep K H v d → DeepAll K H (xs ++ [v]) (ds ++ [d])
  | _, _, _, _, .nil, h => .cons h .nil
  | _, _, _, _, .cons a t, h => .cons a (DeepAll.snoc t h)
theorem DeepAll.app {K : PySem.W.Frag} {H : Hp} : ∀ {xs ys : List V} {ds es : List PyData}, DeepAll K H xs ds → DeepAll K H ys es → DeepAll K H (xs ++ ys) (ds ++ es)
  | _, _, _, _, .nil, h => h
  | _, _, _, _, .cons a t, h => .cons a (DeepAll.app t h)
theorem DeepAll.pick {K : PySem.W.Frag} {H : Hp} {xs : List V} {ds : List PyData} (h : DeepAll K H xs ds) {r : Int} (h0 : 0 ≤ r) (h1 : r < xs.length) : ∃ v d, atI xs r = some v ∧ d ∈ ds ∧ Deep K H v d := by
  have hl := h.len
  have e : ds[r.toNat]? = some (ds[r.toNat]'(by omega)) := List.getElem?_eq_getElem _
  obtain ⟨v, a, b⟩ := DeepAll.at h e
  refine ⟨v, _, ?_, List.mem_of_getElem? e, b⟩
  have := atI_nat a
  rw [show ((r.toNat : Nat) : Int) = r by omega] at this
  exact this
theorem gd_rr {a b : R} (ha : Wf 230 a) (hb : Wf 230 b) : Gd 3 30000 (.tuple [dR a, dR b]) := (gd_two (gd_dR ha) (gd_dR hb) (Nat.le_refl _)).mono (by decide) (by decide)

def nmRl : Rl → Str
  | .pow _ => "power"
  | .tab _ => "table"
def dRl2 : Rl → PyData
  | .pow k => .int k
  | .tab rows => .tuple (rows.map dRow)
theorem RowV.deep {K : PySem.W.Frag} {H : Hp} {v : V} {w : R × R} (h : RowV K H v w) : Deep K H v (dRow w) := by
  obtain ⟨p, x, y, rfl, hS, hx, hy⟩ := h
  exact .tup hS (.cons hx.deep (.cons hy.deep .nil))
theorem rows_deep {K : PySem.W.Frag} {H : Hp} : ∀ {xs : List V} {rows : List (R × R)}, Als (RowV K H) xs rows → DeepAll K H xs (rows.map dRow)
  | _, _, .nil => .nil
  | _, _, .cons h t => .cons (RowV.deep h) (rows_deep t)
theorem RlV.open {K : PySem.W.Frag} {H H2 : Hp} {v : V} {rl : Rl} (h : RlV K H v rl) (t : Tst K H H2) : ∃ p b, v = .ref p ∧ SqT K H p [.str (nmRl rl), b] ∧ Deep K H2 b (dRl2 rl) := by
  cases rl with
  | pow k => obtain ⟨p, e, q⟩ := h; exact ⟨p, _, e, q, .int k⟩
  | tab rows =>
    obtain ⟨p, q, xs, e, a, c, al⟩ := h
    exact ⟨p, _, e, a, .tup (t _ _ c) (rows_deep (al.mono fun _ _ z => z.mono t))⟩
theorem gd_row {w : R × R} (h1 : Bq D0 NR w.1) (h2 : Bq (D0 * D0) N2 w.2) : Gd 3 30000 (dRow w) := gd_rr ((wfS h1).mono (by decide)) ((wfP h2).mono (by decide))
theorem gd_rows {rows : List (R × R)} (ok : RowsOk rows) {ds : List PyData} (h : ∀ d ∈ ds, Gd 3 30000 d) (hl : ds.length ≤ 25) : Gd 4 800000 (.tuple ds) := Gd.tup (m := 25) h hl (by decide)
theorem gd_rl2 {rl : Rl} (h : RlOk rl) : Gd 4 800000 (dRl2 rl) := by
  cases rl with
  | pow k =>
    have h' : 2 ≤ k ∧ k ≤ 4 := h
    refine (gd_int ?_).mono (by decide) (by decide)
    have : k.natAbs ≤ 4 := by omega
    exact Nat.lt_of_le_of_lt this (by decide)
  | tab rows =>
    have ok : RowsOk rows := h
    refine gd_rows ok (fun d hd => ?_) (by rw [List.length_map]; have := ok.n12; omega)
    obtain ⟨w, hw, rfl⟩ := List.mem_map.mp hd
    exact gd_row (ok.sp w hw) (ok.pw w hw)
def sp_law_bent (K : PySem.W.Frag) : Sp := fun vs H Q _ => ∃ (t s : Addr) (v : V) (rl : Rl), vs = [.ref t, v] ∧ Tape H t s ∧ RlV K H v rl ∧ RlOk rl ∧ ∀ (v' : V) (d : PyData) (H' : Hp), Thing d → Step t H H' → Tape H' t s → Deep K (noL H H') v' d → Q v' H'

theorem gd_word {x : Str} (h : (PyData.str x).showable = true) (l : (PyData.str x).shown.length ≤ 5000) (c : (PyData.str x).canLay0 = true) : Gd 4 800000 (.str x) := (gd_str h l c).mono (by decide) (by decide)
theorem gd_nm (rl : Rl) : Gd 4 800000 (.str (nmRl rl)) := by
  cases rl with
  | pow k => show Gd 4 800000 (.str (Str.ofString "power")); exact gd_word (by decide +kernel) (by decide +kernel) (by decide +kernel)
  | tab r => show Gd 4 800000 (.str (Str.ofString "table")); exact gd_word (by decide +kernel) (by decide +kernel) (by decide +kernel)
theorem gd_small {i : Int} (h : i.natAbs < 10) : Gd 4 800000 (.int i) := (gd_int (Nat.lt_trans h (by decide))).mono (by decide) (by decide)
theorem thing_of {ds : List PyData} (h : ∀ d ∈ ds, Gd 4 800000 d) (hl : ds.length ≤ 3) : Thing (.tuple ds) := (Gd.tup (m := 3) (N := 9000000) h hl (by decide)).mono (by decide) (by decide)
theorem thing_two {a b : PyData} (ha : Gd 4 800000 a) (hb : Gd 4 800000 b) : Thing (.tuple [a, b]) := thing_of (fun d hd => by
  simp only [List.mem_cons, List.not_mem_nil, or_false] at hd
  rcases hd with rfl | rfl
  · exact ha
  · exact hb) (by show 2 ≤ 3; decide)
theorem gd_emp : Gd 4 800000 (.tuple []) := (Gd.tup (k := 0) (n := 5000) (m := 0) (N := 8) (fun d hd => by cases hd) (Nat.le_refl _) (by decide)).mono (by decide) (by decide)
theorem gd_way0 {rl : Rl} (ok : RlOk rl) {d : PyData} (hm : d ∈ ([.list [.str (nmRl rl), dRl2 rl], .tuple [.str (nmRl rl), dRl2 rl, .tuple []], .tuple [.str (nmRl rl)], .none, .tuple [.str (Str.ofString "Power"), .int 2], .tuple [.int 2, .int 2], .tuple [.str (Str.ofString "power"), .int 1], .tuple [.str (Str.ofString "power"), .int 5]] ++ [.tuple [.str (Str.ofString "power"), .bool true], .tuple [.str (Str.ofString "power"), .tuple [.int 2, .int 1]], .tuple [.str (Str.ofString "table"), .int 2], .tuple [.str (Str.ofString "table"), .tuple []]] : List PyData)) : Thing d := by
  have gn := gd_nm rl
  have gb := gd_rl2 ok
  have gp : Gd 4 800000 (.str (Str.ofString "power")) := gd_word (by decide +kernel) (by decide +kernel) (by decide +kernel)
  have gt : Gd 4 800000 (.str (Str.ofString "table")) := gd_word (by decide +kernel) (by decide +kernel) (by decide +kernel)
  have gi : Gd 3 300000 (.int 2) := (gd_int (by decide)).mono (by decide) (by decide)
  have gj : Gd 3 300000 (.int 1) := (gd_int (by decide)).mono (by decide) (by decide)
  simp only [List.mem_append, List.mem_cons, List.not_mem_nil, or_false] at hm
  rcases hm with (rfl | rfl | rfl | rfl | rfl | rfl | rfl | rfl) | rfl | rfl | rfl | rfl
  · exact (Gd.lst (m := 2) (N := 9000000) (fun d hd => by
      simp only [List.mem_cons, List.not_mem_nil, or_false] at hd
      rcases hd with rfl | rfl
      · exact gn
      · exact gb) (by show 2 ≤ 2; decide) (by decide)).mono (by decide) (by decide)
  · exact thing_of (fun d hd => by
      simp only [List.mem_cons, List.not_mem_nil, or_false] at hd
      rcases hd with rfl | rfl | rfl
      · exact gn
      · exact gb
      · exact gd_emp) (by show 3 ≤ 3; decide)
  · exact thing_of (fun d hd => by
      simp only [List.mem_cons, List.not_mem_nil, or_false] at hd
      rw [hd]; exact gn) (by show 1 ≤ 3; decide)
  · exact gd_none.mono (by decide) (by decide)
  · exact thing_two (gd_word (by decide +kernel) (by decide +kernel) (by decide +kernel)) (gd_small (by decide))
  · exact thing_two (gd_small (by decide)) (gd_small (by decide))
  · exact thing_two gp (gd_small (by decide))
  · exact thing_two gp (gd_small (by decide))
  · exact thing_two gp ((gd_bool true).mono (by decide) (by decide))
  · exact thing_two gp ((gd_two gi gj (N := 800000) (by decide)))
  · exact thing_two gt (gd_small (by decide))
  · exact thing_two gt gd_emp

theorem DeepAll.take {K : PySem.W.Frag} {H : Hp} : ∀ (n : Nat) {xs : List V} {ds : List PyData}, DeepAll K H xs ds → DeepAll K H (xs.take n) (ds.take n)
  | 0, _, _, _ => .nil
  | _ + 1, _, _, .nil => .nil
  | n + 1, _, _, .cons h t => .cons h (DeepAll.take n t)
theorem DeepAll.drop {K : PySem.W.Frag} {H : Hp} : ∀ (n : Nat) {xs : List V} {ds : List PyData}, DeepAll K H xs ds → DeepAll K H (xs.drop n) (ds.drop n)
  | 0, _, _, h => h
  | _ + 1, _, _, .nil => .nil
  | n + 1, _, _, .cons _ t => DeepAll.drop n t
theorem rows_gd {rows : List (R × R)} (ok : RowsOk rows) : ∀ d ∈ rows.map dRow, Gd 3 30000 d := fun d hd => by
  obtain ⟨w, hw, rfl⟩ := List.mem_map.mp hd
  exact gd_row (ok.sp w hw) (ok.pw w hw)
theorem gd_tups {ds : List PyData} (h : ∀ d ∈ ds, Gd 3 30000 d) (hl : ds.length ≤ 25) : Gd 4 800000 (.tuple ds) := Gd.tup (m := 25) h hl (by decide)
theorem gd_lsts {ds : List PyData} (h : ∀ d ∈ ds, Gd 3 30000 d) (hl : ds.length ≤ 25) : Gd 4 800000 (.list ds) := Gd.lst (m := 25) h hl (by decide)
theorem gd_app {ds es : List PyData} (h : ∀ d ∈ ds, Gd 3 30000 d) (h' : ∀ d ∈ es, Gd 3 30000 d) : ∀ d ∈ ds ++ es, Gd 3 30000 d := fun d hd => (List.mem_append.mp hd).elim (h d) (h' d)
theorem gd_take {ds : List PyData} (n : Nat) (h : ∀ d ∈ ds, Gd 3 30000 d) : ∀ d ∈ ds.take n, Gd 3 30000 d := fun d hd => h d (List.mem_of_mem_take hd)
theorem gd_drop {ds : List PyData} (n : Nat) (h : ∀ d ∈ ds, Gd 3 30000 d) : ∀ d ∈ ds.drop n, Gd 3 30000 d := fun d hd => h d (List.mem_of_mem_drop hd)
theorem thing_tab {d : PyData} (h : Gd 4 800000 d) : Thing (.tuple [.str (Str.ofString "table"), d]) := thing_two (gd_word (by decide +kernel) (by decide +kernel) (by decide +kernel)) h

theorem noL_step {t : Addr} {H0 H H' : Hp} (S : Step t H H') (g : IsL (H0 t)) : Same (noL H0 H) (noL H0 H') := fun b o q => by
  unfold noL at q ⊢
  by_cases c : IsL (H0 b)
  · rw [if_pos c] at q; cases q
  · rw [if_neg c] at q ⊢
    exact S.keep b o (fun z => c (by rw [z]; exact g)) q
theorem IsL.step {t : Addr} {H H' : Hp} (S : Step t H H') {b : Addr} (g : IsL (H b)) : IsL (H' b) := by
  by_cases e : b = t
  · subst e; obtain ⟨_, z⟩ := S.tp'; rw [z]; exact trivial
  · cases c : H b with
    | none => rw [c] at g; exact g.elim
    | some o => rw [S.keep b o e c]; rw [c] at g; exact g
theorem noL_wide {t : Addr} {H0 H1 H : Hp} (S : Step t H0 H1) : Same (noL H1 H) (noL H0 H) := fun b o q => by
  unfold noL at q ⊢
  by_cases c : IsL (H1 b)
  · rw [if_pos c] at q; cases q
  · rw [if_neg c] at q
    rw [if_neg (fun z => c (z.step S))]
    exact q

theorem due_small {d : PyData} {n : Int} (h : dueP d = some n) : n.natAbs < 2 ^ 230 := by
  unfold dueP at h
  split at h
  · rename_i sh
    split at h
    · rename_i x ds
      split at h
      · rename_i c
        obtain ⟨_, e, _, l12⟩ := shaped_table sh c
        cases e
        cases hf : firstBad ds with
        | none => rw [hf] at h; cases h
        | some m =>
          rw [hf] at h
          have e : (m : Int) = n := by injection h
          have := List.mem_range.mp (List.mem_of_find?_eq_some hf)
          exact Nat.lt_of_le_of_lt (show n.natAbs ≤ 12 by omega) (by decide)
      · cases h
    · cases h
  · injection h with h
    subst h
    decide
def dOpt : Option Int → PyData
  | none => .none
  | some n => .int n
theorem opt_deep {K : PySem.W.Frag} {H : Hp} : ∀ (o : Option Int), Deep K H (vOpt o) (dOpt o)
  | none => .non
  | some n => .int n
theorem opt_shows {d : PyData} : Shows (dOpt (dueP d)) := by
  cases e : dueP d with
  | none => exact gd_none.sh.shows (by decide) (by decide)
  | some n => exact (gd_int (due_small e)).sh.shows (by decide) (by decide)
theorem noL_wide' {H0 H1 H : Hp} (S : ∀ b, IsL (H0 b) → IsL (H1 b)) : Same (noL H1 H) (noL H0 H) := fun b o q => by
  unfold noL at q ⊢
  by_cases c : IsL (H1 b)
  · rw [if_pos c] at q; cases q
  · rw [if_neg c] at q
    rw [if_neg (fun z => c (S b z))]
    exact q
theorem comp_rngD {K : PySem.W.Frag} {H : Hp} {D t s : Addr} {n : Nat} {src : List (Option Nat)} {σ : L2.St} {g : TG} {tt : TT} {te : TE} {Q : Hp → Prop}
    (hD : H D = none) (T : Tape H t s) (hn : n ≤ 1000)
    (turn : ∀ (i : Nat) (H' : Hp), i < n → Tst K H H' → Tape H' t s → ∀ (R : VK) (E : Hp → Prop), (∀ v d H'', Step t H' H'' → Tape H'' t s → Deep K (noL H' H'') v d → Thing d → R v H'') →
      g (.int (0 + (i : Int))) (frees src σ) H' fun σ2 H2 => Ext (frees src σ) σ2 ∧ tt σ2 H2 fun ok H3 => if ok = true then te σ2 H3 R else E H3)
    (fin : ∀ H' ys ds, Step t H H' → Tape H' t s → H' D = some (.lst ys) → DeepAll K H' ys ds → ds.length = n → (∀ d ∈ ds, Thing d) → Q H') :
    ∃ W : Nat → Nat → List V → Hp → Prop, (∃ m, W 0 m [] (upd H D (.lst []))) ∧ ∀ i m ys H, W i m ys H → ((Itr 0 n).stop i H ∧ Q H) ∨ ((Itr 0 n).go i H ∧ ∀ x H', (Itr 0 n).yld i H x H' →
      g x (frees src σ) H' fun σ2 H2 => Ext (frees src σ) σ2 ∧ tt σ2 H2 fun ok H3 =>
        if ok = true then te σ2 H3 fun y H4 => H4 D = some (.lst ys) ∧ ys.length < sizeLine ∧ ∃ m', m' < m ∧ W (i + 1) m' (ys ++ [y]) (upd H4 D (.lst (ys ++ [y]))) else ∃ m', m' < m ∧ W (i + 1) m' ys H3) := by
  have nt : D ≠ t := fun z => by subst z; obtain ⟨_, e⟩ := T.lst; rw [hD] at e; cases e
  have ns : D ≠ s := fun z => by subst z; obtain ⟨_, e⟩ := T.scr; rw [hD] at e; cases e
  have iD : IsL (upd H D (.lst []) D) := by rw [upd_same]; exact trivial
  have iT : IsL (upd H D (.lst []) t) := by rw [upd_ne nt.symm]; exact Tape.isL T
  refine ⟨fun i m ys H' => i ≤ n ∧ m = n - i ∧ H' D = some (.lst ys) ∧ Tape H' t s ∧ (∀ b o, b ≠ t → H b = some o → H' b = some o) ∧ (∀ b, IsL (upd H D (.lst []) b) → IsL (H' b)) ∧ ∃ ds, DeepAll K (noL (upd H D (.lst [])) H') ys ds ∧ ds.length = i ∧ ∀ d ∈ ds, Thing d, ⟨_, Nat.zero_le _, rfl, upd_same, T.new hD _, fun b o _ q => same_new hD _ _ _ q, fun _ z => z, [], .nil, rfl, fun d hd => by cases hd⟩, ?_⟩
  rintro i m ys H1 ⟨hi, rfl, d1, T1, kp, wd, ds, als, hlen, ok⟩
  by_cases hix : i < n
  · refine .inr ⟨hix, ?_⟩
    rintro x H2 ⟨rfl, rfl⟩
    refine turn i _ hix (Tst.step (K := K) ⟨kp, T.lst, T1.lst⟩) T1 _ _ fun v d H3 S3 T3 p3 o3 => ?_
    have d3 : H3 D = some (.lst ys) := S3.keep _ _ nt d1
    have als3 := DeepAll.same (noL_up (o := .lst (ys ++ [v])) iD) (DeepAll.same (noL_step S3 iT) als)
    have p4 := Deep.same (noL_up (o := .lst (ys ++ [v])) iD) (Deep.same (noL_wide' wd) p3)
    refine ⟨d3, small1000 (by rw [als.len]; omega), n - (i + 1), by omega, hix, rfl, upd_same, T3.upl nt ns _, fun b o nb q => ?_, fun b z => ?_, ds ++ [d], DeepAll.snoc als3 p4, by rw [List.length_append, hlen]; rfl, fun z hz => ?_⟩
    · rw [upd_ne (ne_of_none q hD)]
      exact S3.keep _ _ nb (kp b o nb q)
    · by_cases e : b = D
      · subst e; rw [upd_same]; exact trivial
      · rw [upd_ne e]; exact (wd b z).step S3
    · rcases List.mem_append.mp hz with h | h
      · exact ok z h
      · rw [List.mem_singleton] at h; rw [h]; exact o3
  · have e : i = n := by omega
    subst e
    exact .inl ⟨Nat.le_refl _, fin H1 ys ds ⟨kp, T.lst, T1.lst⟩ T1 d1 (DeepAll.same noL_full als) hlen ok⟩
def dRl (rl : Rl) : PyData := .tuple [.str (nmRl rl), dRl2 rl]
theorem RlV.deep {K : PySem.W.Frag} {H : Hp} {v : V} {rl : Rl} (h : RlV K H v rl) : Deep K H v (dRl rl) := by
  obtain ⟨p, b, rfl, hp, hb⟩ := h.open (Tst.refl K H)
  exact .tup hp (.cons (.str _) (.cons hb .nil))
theorem thing_rl {rl : Rl} (h : RlOk rl) : Thing (dRl rl) := thing_two (gd_nm rl) (gd_rl2 h)
theorem DeepAll.get {K : PySem.W.Frag} {H : Hp} : ∀ {xs : List V} {ds : List PyData}, DeepAll K H xs ds → ∀ {j : Nat} {v : V}, xs[j]? = some v → ∃ e, e ∈ ds ∧ Deep K H v e
  | _, _, .nil, j, v, h => by simp at h
  | _, _, .cons h t, 0, v, q => by
    cases (show _ = v by simpa using q)
    exact ⟨_, List.mem_cons_self, h⟩
  | _, _, .cons h t, j + 1, v, q => by
    obtain ⟨e, a, b⟩ := DeepAll.get t (j := j) (by simpa using q)
    exact ⟨e, List.mem_cons_of_mem _ a, b⟩
theorem sc_is_whole : FnScope ["thing"] ["thing"] (defScope s_is_whole) := ⟨rfl, rfl, rfl, by decide +kernel, rfl, by decide +kernel, by decide +kernel⟩
theorem sc_is_tuple_of : FnScope ["thing", "length"] ["thing", "length"] (defScope s_is_tuple_of) := ⟨rfl, rfl, rfl, by decide +kernel, rfl, by decide +kernel, by decide +kernel⟩
theorem sc_copied : FnScope ["thing"] ["thing"] (defScope s_copied) := ⟨rfl, rfl, rfl, by decide +kernel, rfl, by decide +kernel, by decide +kernel⟩
theorem sc_greatest_divisor : FnScope ["one", "other", "high", "low", "rest"] ["one", "other"] (defScope s_greatest_divisor) := ⟨rfl, rfl, rfl, by decide +kernel, rfl, by decide +kernel, by decide +kernel⟩
theorem sc_is_ratio : FnScope ["thing", "top", "bottom"] ["thing"] (defScope s_is_ratio) := ⟨rfl, rfl, rfl, by decide +kernel, rfl, by decide +kernel, by decide +kernel⟩
theorem sc_is_ratio_pair : FnScope ["thing"] ["thing"] (defScope s_is_ratio_pair) := ⟨rfl, rfl, rfl, by decide +kernel, rfl, by decide +kernel, by decide +kernel⟩
theorem sc_ratio : FnScope ["top", "bottom", "shared"] ["top", "bottom"] (defScope s_ratio) := ⟨rfl, rfl, rfl, by decide +kernel, rfl, by decide +kernel, by decide +kernel⟩
theorem sc_plus : FnScope ["one", "other", "shared", "top", "rest"] ["one", "other"] (defScope s_plus) := ⟨rfl, rfl, rfl, by decide +kernel, rfl, by decide +kernel, by decide +kernel⟩
theorem sc_minus : FnScope ["one", "other"] ["one", "other"] (defScope s_minus) := ⟨rfl, rfl, rfl, by decide +kernel, rfl, by decide +kernel, by decide +kernel⟩
theorem sc_times : FnScope ["one", "other", "left", "right"] ["one", "other"] (defScope s_times) := ⟨rfl, rfl, rfl, by decide +kernel, rfl, by decide +kernel, by decide +kernel⟩
theorem sc_over : FnScope ["one", "other"] ["one", "other"] (defScope s_over) := ⟨rfl, rfl, rfl, by decide +kernel, rfl, by decide +kernel, by decide +kernel⟩
theorem sc_is_less : FnScope ["one", "other"] ["one", "other"] (defScope s_is_less) := ⟨rfl, rfl, rfl, by decide +kernel, rfl, by decide +kernel, by decide +kernel⟩
theorem sc_slope_between : FnScope ["low", "high"] ["low", "high"] (defScope s_slope_between) := ⟨rfl, rfl, rfl, by decide +kernel, rfl, by decide +kernel, by decide +kernel⟩
theorem sc_is_row_behind : FnScope ["rows", "number", "row", "ahead"] ["rows", "number"] (defScope s_is_row_behind) := ⟨rfl, rfl, rfl, by decide +kernel, rfl, by decide +kernel, by decide +kernel⟩
theorem sc_is_rule_shaped : FnScope ["thing"] ["thing"] (defScope s_is_rule_shaped) := ⟨rfl, rfl, rfl, by decide +kernel, rfl, by decide +kernel, by decide +kernel⟩
theorem sc_right_rule : FnScope ["thing", "rows", "number", "row"] ["thing"] (defScope s_right_rule) := ⟨rfl, rfl, rfl, by decide +kernel, rfl, by decide +kernel, by decide +kernel⟩
theorem sc_law_tape : FnScope ["_law_script"] ["_law_script"] (defScope s_law_tape) := ⟨rfl, rfl, rfl, by decide +kernel, rfl, by decide +kernel, by decide +kernel⟩
theorem sc_law_draw : FnScope ["_law_tape_here", "_law_many", "_law_script", "_law_spot", "_law_left", "_law_cell", "_law_mixed"] ["_law_tape_here", "_law_many"] (defScope s_law_draw) := ⟨rfl, rfl, rfl, by decide +kernel, rfl, by decide +kernel, by decide +kernel⟩
theorem sc_law_gcd : FnScope ["_law_one", "_law_other"] ["_law_one", "_law_other"] (defScope s_law_gcd) := ⟨rfl, rfl, rfl, by decide +kernel, rfl, by decide +kernel, by decide +kernel⟩
theorem sc_law_ratio : FnScope ["_law_top", "_law_bottom", "_law_by"] ["_law_top", "_law_bottom"] (defScope s_law_ratio) := ⟨rfl, rfl, rfl, by decide +kernel, rfl, by decide +kernel, by decide +kernel⟩
theorem sc_law_plus : FnScope ["_law_one", "_law_other"] ["_law_one", "_law_other"] (defScope s_law_plus) := ⟨rfl, rfl, rfl, by decide +kernel, rfl, by decide +kernel, by decide +kernel⟩
theorem sc_law_minus : FnScope ["_law_one", "_law_other"] ["_law_one", "_law_other"] (defScope s_law_minus) := ⟨rfl, rfl, rfl, by decide +kernel, rfl, by decide +kernel, by decide +kernel⟩
theorem sc_law_times : FnScope ["_law_one", "_law_other"] ["_law_one", "_law_other"] (defScope s_law_times) := ⟨rfl, rfl, rfl, by decide +kernel, rfl, by decide +kernel, by decide +kernel⟩
theorem sc_law_less : FnScope ["_law_one", "_law_other"] ["_law_one", "_law_other"] (defScope s_law_less) := ⟨rfl, rfl, rfl, by decide +kernel, rfl, by decide +kernel, by decide +kernel⟩
theorem sc_law_part : FnScope ["_law_tape_here", "_law_tops", "_law_bottoms"] ["_law_tape_here"] (defScope s_law_part) := ⟨rfl, rfl, rfl, by decide +kernel, rfl, by decide +kernel, by decide +kernel⟩
theorem sc_law_table : FnScope ["_law_tape_here", "_law_rows", "_law_slope", "_law_k", "_law_step", "_law_speed", "_law_power"] ["_law_tape_here"] (defScope s_law_table) := ⟨rfl, rfl, rfl, by decide +kernel, rfl, by decide +kernel, by decide +kernel⟩
theorem sc_law_rule : FnScope ["_law_tape_here"] ["_law_tape_here"] (defScope s_law_rule) := ⟨rfl, rfl, rfl, by decide +kernel, rfl, by decide +kernel, by decide +kernel⟩
theorem sc_law_whole : FnScope ["_law_thing"] ["_law_thing"] (defScope s_law_whole) := ⟨rfl, rfl, rfl, by decide +kernel, rfl, by decide +kernel, by decide +kernel⟩
theorem sc_law_is_ratio : FnScope ["_law_thing"] ["_law_thing"] (defScope s_law_is_ratio) := ⟨rfl, rfl, rfl, by decide +kernel, rfl, by decide +kernel, by decide +kernel⟩
theorem sc_law_is_pair : FnScope ["_law_thing"] ["_law_thing"] (defScope s_law_is_pair) := ⟨rfl, rfl, rfl, by decide +kernel, rfl, by decide +kernel, by decide +kernel⟩
theorem sc_law_row_right : FnScope ["_law_rows", "_law_n", "_law_speed", "_law_power", "_law_steps", "_law_climbs"] ["_law_rows", "_law_n"] (defScope s_law_row_right) := ⟨rfl, rfl, rfl, by decide +kernel, rfl, by decide +kernel, by decide +kernel⟩
theorem sc_law_due : FnScope ["_law_thing", "_law_n"] ["_law_thing"] (defScope s_law_due) := ⟨rfl, rfl, rfl, by decide +kernel, rfl, by decide +kernel, by decide +kernel⟩
theorem sc_law_bent_row : FnScope ["_law_tape_here", "_law_rows", "_law_at", "_law_speed", "_law_power", "_law_little", "_law_some"] ["_law_tape_here", "_law_rows", "_law_at"] (defScope s_law_bent_row) := ⟨rfl, rfl, rfl, by decide +kernel, rfl, by decide +kernel, by decide +kernel⟩
theorem sc_law_bent : FnScope ["_law_tape_here", "_law_rule_here", "_law_way", "_law_some", "_law_rows", "_law_at"] ["_law_tape_here", "_law_rule_here"] (defScope s_law_bent) := ⟨rfl, rfl, rfl, by decide +kernel, rfl, by decide +kernel, by decide +kernel⟩
theorem sc_law_told : FnScope ["_law_thing", "_law_found", "e"] ["_law_thing"] (defScope s_law_told) := ⟨rfl, rfl, rfl, by decide +kernel, rfl, by decide +kernel, by decide +kernel⟩
theorem sc_law : FnScope ["_law_script", "_law_tape_here", "_law_k", "_law_rule_here", "_law_thing", "_law_kept"] ["_law_script"] (defScope s_law) := ⟨rfl, rfl, rfl, by decide +kernel, rfl, by decide +kernel, by decide +kernel⟩
theorem sc_NoRule : FnScope ["self", "number"] ["self", "number"] (defScope s_NoRule) := ⟨rfl, rfl, rfl, by decide +kernel, rfl, by decide +kernel, by decide +kernel⟩
end My
namespace My
open PySem L2 B PyProof.Rows
section
variable {P : Program} {w : World} {K : PySem.W.Frag} {mg : Str → Option Value} {base : Heap} {t : Ad}
theorem ok_is_whole (T : Txt K mg t) : FnOk P w K mg base CX0 1 t.a_is_whole t.d_is_whole ["thing"] (sp_is_whole K) := by
  refine T.F_is_whole.ok sc_is_whole (fun vs H Q E h => ?_) (fun cdv A outer s H vs Q E hr h => ?_)
  · obtain ⟨_, _, rfl, _⟩ := h; rfl
  obtain ⟨v, d, rfl, hD, k⟩ := h
  obtain ⟨b, c, e1, e2, e3⟩ := isi_int hD
  refine QSs.ok (qss_one (qs_ret (qe_and (qe_callB call_isiD (by rfl) T.z_isinstance PyProof.Rows.boot_isinstance (qa_cons (qv 0) (qa_cons (qe_bltn (v := V.ty "int") rfl T.z_int PyProof.Rows.boot_int rfl) qa_nil star_name) star_name)) (qe_one (qe_not (qe_callB call_isiD (by rfl) T.z_isinstance PyProof.Rows.boot_isinstance (qa_cons (qv 0) (qa_cons (qe_bltn (v := V.ty "bool") rfl T.z_bool PyProof.Rows.boot_bool rfl) qa_nil star_name) star_name))))))) ?_
  rw [e3] at k
  refine ⟨_, rfl, _, _, _, _, rfl, hD, e1, _, rfl, ?_⟩
  cases b with
  | false => exact k
  | true => exact ⟨_, rfl, _, _, _, _, rfl, hD, e2, _, rfl, k⟩
theorem ok_is_tuple_of (T : Txt K mg t) : FnOk P w K mg base CX0 1 t.a_is_tuple_of t.d_is_tuple_of ["thing", "length"] (sp_is_tuple_of K) := by
  refine T.F_is_tuple_of.ok sc_is_tuple_of (fun vs H Q E h => ?_) (fun cdv A outer s H vs Q E hr h => ?_)
  · obtain ⟨_, _, _, rfl, _⟩ := h; rfl
  obtain ⟨v, d, m, rfl, hD, k⟩ := h
  refine QSs.ok (qss_one (qs_ret (qe_and (qe_callB call_isiD (by rfl) T.z_isinstance PyProof.Rows.boot_isinstance (qa_cons (qv 0) (qa_cons (qe_bltn (v := V.ty "tuple") rfl T.z_tuple PyProof.Rows.boot_tuple rfl) qa_nil star_name) star_name)) (qe_one (qe_cmpR op_eq (qe_callB call_len_seq (by rfl) T.z_len PySem.boot_len (qa_cons (qv 0) qa_nil star_name)) (qv 1) (nomark _)))))) ?_
  rcases isi_tup hD with ⟨e, p, xs, ds, rfl, rfl, hS, hA⟩ | ⟨e, no⟩
  · refine ⟨_, rfl, _, _, _, _, rfl, hD, e, _, rfl, ?_⟩
    refine ⟨_, rfl, p, _, rfl, .inr hS, _, rfl, rfl, ?_⟩
    have q : decide ((V.int xs.length : V) = .int m) = tupD m (.tuple ds) := by
      show _ = decide (ds.length = m)
      rw [hA.len]
      refine decide_eq_decide.mpr ⟨fun z => by injection z with z; omega, fun z => by rw [z]⟩
    rw [q]
    exact k
  · refine ⟨_, rfl, _, _, _, _, rfl, hD, e, _, rfl, ?_⟩
    rw [tupD_no no] at k
    exact k
theorem ok_copied (T : Txt K mg t) : FnOk P w K mg base CX0 1 t.a_copied t.d_copied ["thing"] (sp_copied K) := by
  refine T.F_copied.ok sc_copied (fun vs H Q E h => ?_) (fun cdv A outer s H vs Q E hr h => ?_)
  · obtain ⟨_, rfl, _⟩ := h; rfl
  obtain ⟨i, rfl, k⟩ := h
  refine QSs.ok (qss_cons (qs_if (qt_val (qe_callB call_isi (by rfl) T.z_isinstance PyProof.Rows.boot_isinstance (qa_cons (qv 0) (qa_cons (qe_bltn (v := V.ty "list") rfl T.z_list PyProof.Rows.boot_list rfl) qa_nil star_name) star_name))) (qss_one qs_never) qss_nil)
      (qss_cons (qs_if (qt_val (qe_callB call_isi (by rfl) T.z_isinstance PyProof.Rows.boot_isinstance (qa_cons (qv 0) (qa_cons (qe_bltn (v := V.ty "tuple") rfl T.z_tuple PyProof.Rows.boot_tuple rfl) qa_nil star_name) star_name))) (qss_one qs_never) qss_nil)
      (qss_one (qs_ret (qv 0))))) ?_
  refine ⟨_, rfl, _, _, "int", false, rfl, .int i, by decide +kernel, false, rfl, iteF ?_⟩
  refine ⟨_, rfl, _, _, "int", false, rfl, .int i, by decide +kernel, false, rfl, iteF ?_⟩
  exact ⟨_, rfl, k⟩
theorem ok_greatest_divisor (T : Txt K mg t) : FnOk P w K mg base CX0 1 t.a_greatest_divisor t.d_greatest_divisor ["one", "other"] (sp_greatest_divisor K) := by
  refine T.F_greatest_divisor.ok sc_greatest_divisor (fun vs H Q E h => ?_) (fun cdv A outer s H vs Q E hr h => ?_)
  · obtain ⟨_, _, rfl, _⟩ := h; rfl
  obtain ⟨a, b, rfl, k⟩ := h
  refine QSs.ok (qss_cons (qs_set (i := 2) sc_greatest_divisor.nd rfl (by first | exact Or.inl rfl | exact Or.inr rfl) (qe_callB call_abs (by rfl) T.z_abs PyProof.Rows.boot_abs (qa_cons (qv 0) qa_nil star_name)))
      (qss_cons (qs_set (i := 3) sc_greatest_divisor.nd rfl (by first | exact Or.inl rfl | exact Or.inr rfl) (qe_callB call_abs (by rfl) T.z_abs PyProof.Rows.boot_abs (qa_cons (qv 1) qa_nil star_name)))
      (qss_cons (qs_while PassesOwn.never (qt_cmpR op_ne (qv 3) qe_int (nomark _))
      (qss_cons (qs_set (i := 4) sc_greatest_divisor.nd rfl (by first | exact Or.inl rfl | exact Or.inr rfl) (qe_op op_mod (qv 2) (qv 3)))
      (qss_cons (qs_set (i := 2) sc_greatest_divisor.nd rfl (by first | exact Or.inl rfl | exact Or.inr rfl) (qv 3))
      (qss_one (qs_set (i := 3) sc_greatest_divisor.nd rfl (by first | exact Or.inl rfl | exact Or.inr rfl) (qv 4))))))
      (qss_one (qs_ret (qv 2)))))) ?_
  refine ⟨_, rfl, _, rfl, _, rfl, _, rfl, ?_⟩
  rw [abs_if, abs_if]
  refine ⟨fun m σ H' => ∃ (x y : Int) (v : Option V), σ = [some (.int a), some (.int b), some (.int x), some (.int y), v] ∧ H' = H ∧ 0 ≤ x ∧ 0 ≤ y ∧ Int.gcd x y = Int.gcd a b ∧ m = y.toNat, ⟨_, _, _, _, rfl, rfl, by omega, by omega, (by simp [Int.gcd]), rfl⟩, ?_⟩
  rintro m σ H' ⟨x, y, v, rfl, rfl, hx, hy, hg, rfl⟩
  refine ⟨_, rfl, rfl, _, rfl, ?_⟩
  by_cases c : y = 0
  · subst c
    refine iteNS rfl ?_
    rw [← hg] at k
    refine ⟨_, rfl, ?_⟩
    have e : (x : Int) = (Int.gcd x 0 : Nat) := by simp [Int.gcd]; omega
    rw [← e] at k
    exact k
  · refine iteN1 (fun z => c (by injection z)) ?_
    refine ⟨_, fun _ _ z => z, ?_⟩
    refine ⟨_, rfl, _, rfl, _, _, rfl, rfl, (by omega), _, rfl, _, rfl, ?_⟩
    refine ⟨_, ?_, y, x % y, _, rfl, rfl, hy, Int.emod_nonneg _ c, ?_, rfl⟩
    · have := Int.emod_lt_of_pos x (show 0 < y by omega)
      have := Int.emod_nonneg x c
      omega
    · rw [gcd_turn hx (by omega), hg]
theorem ok_is_ratio (T : Txt K mg t) : FnOk P w K mg base CX0 2 t.a_is_ratio t.d_is_ratio ["thing"] (sp_is_ratio K) := by
  refine T.F_is_ratio.ok sc_is_ratio (fun vs H Q E h => ?_) (fun cdv A outer s H vs Q E hr h => ?_)
  · obtain ⟨_, _, rfl, _⟩ := h; rfl
  obtain ⟨v, d, rfl, hD, k⟩ := h
  refine QSs.ok (qss_cons (qs_if (qt_not (qt_val (qe_call (ok_is_tuple_of T) (hr.mono (by decide)) rfl T.m_is_tuple_of T.F_is_tuple_of.kp T.b_is_tuple_of .nil pass0 (qa_cons (qv 0) (qa_cons qe_int qa_nil star_con) star_name)))) (qss_one (qs_ret qe_bl)) qss_nil)
      (qss_cons (qs_set (i := 1) sc_is_ratio.nd rfl (by first | exact Or.inl rfl | exact Or.inr rfl) (qe_ix ix_tup (qv 0) qe_int (fun _ _ => rfl)))
      (qss_cons (qs_set (i := 2) sc_is_ratio.nd rfl (by first | exact Or.inl rfl | exact Or.inr rfl) (qe_ix ix_tup (qv 0) qe_int (fun _ _ => rfl)))
      (qss_cons (qs_if (qw_pt (qw_or (qt_not (qt_val (qe_call (ok_is_whole T) (hr.mono (by decide)) rfl T.m_is_whole T.F_is_whole.kp T.b_is_whole .nil pass0 (qa_cons (qv 1) qa_nil star_name)))) (qw_or (qt_not (qt_val (qe_call (ok_is_whole T) (hr.mono (by decide)) rfl T.m_is_whole T.F_is_whole.kp T.b_is_whole .nil pass0 (qa_cons (qv 2) qa_nil star_name)))) (qw_or1 (qt_cmpR op_lt (qv 2) qe_int (nomark _)))))) (qss_one (qs_ret qe_bl)) qss_nil)
      (qss_one (qs_ret (qe_cmpR op_eq (qe_call (ok_greatest_divisor T) (hr.mono (by decide)) rfl T.m_greatest_divisor T.F_greatest_divisor.kp T.b_greatest_divisor .nil pass0 (qa_cons (qv 1) (qa_cons (qv 2) qa_nil star_name) star_name)) qe_int (nomark _)))))))) ?_
  refine ⟨_, rfl, v, d, 2, rfl, hD, ⟨_, rfl, ?_⟩⟩
  cases c2 : tupD 2 d with
  | false =>
    refine iteT ?_
    rw [ratD_no c2] at k
    exact k
  | true =>
    refine iteF ?_
    obtain ⟨p, x, y, dx, dy, rfl, rfl, hS, hx, hy⟩ := hD.two c2
    refine ⟨_, rfl, p, _, _, _, rfl, rfl, hS, rfl, _, rfl, p, _, _, _, rfl, rfl, hS, rfl, ?_⟩
    refine ⟨_, rfl, x, dx, rfl, hx, _, rfl, ?_⟩
    cases cx : wholeD dx with
    | false =>
      refine iteT (iteT ?_)
      rw [rat_x cx] at k
      exact k
    | true =>
      refine iteF ?_
      refine ⟨_, rfl, y, dy, rfl, hy, _, rfl, ?_⟩
      cases cy : wholeD dy with
      | false =>
        refine iteT (iteT ?_)
        rw [rat_y cy] at k
        exact k
      | true =>
        refine iteF ?_
        obtain ⟨i, rfl⟩ := wholeD_int cx
        obtain ⟨j, rfl⟩ := wholeD_int cy
        cases hx
        cases hy
        have kk : Q (.bl (decide (1 ≤ j) && decide (Int.gcd i j = 1))) H := k
        refine ⟨_, rfl, _, _, rfl, rfl, _, rfl, ?_⟩
        by_cases c : j < 1
        · refine iteD1 c ?_
          rw [decide_eq_false (show ¬ 1 ≤ j by omega)] at kk
          exact kk
        · refine iteD0 c ?_
          refine ⟨_, rfl, _, rfl, i, j, rfl, rfl, ?_⟩
          rw [decide_eq_true (show 1 ≤ j by omega), Bool.true_and] at kk
          have q : decide ((V.int (Int.gcd i j : Nat) : V) = .int 1) = decide (Int.gcd i j = 1) := decide_eq_decide.mpr ⟨fun z => by injection z with z; omega, fun z => by rw [z]; rfl⟩
          rw [q]
          exact kk
theorem ok_is_ratio_pair (T : Txt K mg t) : FnOk P w K mg base CX0 3 t.a_is_ratio_pair t.d_is_ratio_pair ["thing"] (sp_is_ratio_pair K) := by
  refine T.F_is_ratio_pair.ok sc_is_ratio_pair (fun vs H Q E h => ?_) (fun cdv A outer s H vs Q E hr h => ?_)
  · obtain ⟨_, _, rfl, _⟩ := h; rfl
  obtain ⟨v, d, rfl, hD, k⟩ := h
  refine QSs.ok (qss_one (qs_ret (qe_and (qe_call (ok_is_tuple_of T) (hr.mono (by decide)) rfl T.m_is_tuple_of T.F_is_tuple_of.kp T.b_is_tuple_of .nil pass0 (qa_cons (qv 0) (qa_cons qe_int qa_nil star_con) star_name)) (qe_and (qe_call (ok_is_ratio T) (hr.mono (by decide)) rfl T.m_is_ratio T.F_is_ratio.kp T.b_is_ratio .nil pass0 (qa_cons (qe_ix ix_tup (qv 0) qe_int (fun _ _ => rfl)) qa_nil star_sub)) (qe_one (qe_call (ok_is_ratio T) (hr.mono (by decide)) rfl T.m_is_ratio T.F_is_ratio.kp T.b_is_ratio .nil pass0 (qa_cons (qe_ix ix_tup (qv 0) qe_int (fun _ _ => rfl)) qa_nil star_sub))))))) ?_
  refine ⟨_, rfl, v, d, 2, rfl, hD, ?_⟩
  cases c2 : tupD 2 d with
  | false =>
    rw [pairD_no c2] at k
    exact ⟨_, rfl, k⟩
  | true =>
    obtain ⟨p, x, y, dx, dy, rfl, rfl, hS, hx, hy⟩ := hD.two c2
    have kk : Q (.bl (ratD dx && ratD dy)) H := k
    refine ⟨_, rfl, ?_⟩
    refine ⟨_, rfl, p, _, _, _, rfl, rfl, hS, rfl, x, dx, rfl, hx, ?_⟩
    cases cx : ratD dx with
    | false =>
      rw [cx] at kk
      exact ⟨_, rfl, kk⟩
    | true =>
      rw [cx] at kk
      exact ⟨_, rfl, _, rfl, p, _, _, _, rfl, rfl, hS, rfl, y, dy, rfl, hy, kk⟩
theorem ok_ratio (T : Txt K mg t) : FnOk P w K mg base CX0 2 t.a_ratio t.d_ratio ["top", "bottom"] (sp_ratio K) := by
  refine T.F_ratio.ok sc_ratio (fun vs H Q E h => ?_) (fun cdv A outer s H vs Q E hr h => ?_)
  · obtain ⟨_, _, rfl, _⟩ := h; rfl
  obtain ⟨a, b, rfl, hb, hz, k⟩ := h
  refine QSs.ok (qss_cons (qs_if (qt_cmpR op_eq (qv 1) qe_int (nomark _)) (qss_one qs_never) qss_nil)
      (qss_cons (qs_set (i := 2) sc_ratio.nd rfl (by first | exact Or.inl rfl | exact Or.inr rfl) (qe_call (ok_greatest_divisor T) (hr.mono (by decide)) rfl T.m_greatest_divisor T.F_greatest_divisor.kp T.b_greatest_divisor .nil pass0 (qa_cons (qv 0) (qa_cons (qv 1) qa_nil star_name) star_name)))
      (qss_cons (qs_if (qt_cmpR op_lt (qv 1) qe_int (nomark _)) (qss_one (qs_set (i := 2) sc_ratio.nd rfl (by first | exact Or.inl rfl | exact Or.inr rfl) (qe_un un_neg (qv 2)))) qss_nil)
      (qss_one (qs_ret (qe_tup (qa_cons (qe_op op_quoN (qv 0) (qv 2)) (qa_cons (qe_op op_quoN (qv 1) (qv 2)) qa_nil star_bin) star_bin))))))) ?_
  have gp := gcd_posN (a := a) hb
  have gb := gcd_big (a := a) hb hz
  refine ⟨_, rfl, rfl, _, rfl, ?_⟩
  refine iteD0 (fun z => by injection z with z; omega) ?_
  refine ⟨_, rfl, _, rfl, a, b, rfl, ?_⟩
  refine ⟨_, rfl, _, _, rfl, rfl, _, rfl, ?_⟩
  by_cases hn : b < 0
  · refine iteD1 hn ?_
    rw [← mkS_neg1 hn] at k
    have gm : (-((Int.gcd a b : Nat) : Int)).natAbs < 2 ^ 4000 := by rw [Int.natAbs_neg]; exact gb
    refine ⟨_, rfl, _, rfl, ?_⟩
    refine ⟨_, rfl, _, rfl, _, _, rfl, rfl, ⟨by omega, gm⟩, _, rfl, _, rfl, _, _, rfl, rfl, ⟨by omega, gm⟩, (by show 2 ≤ sizeLine; decide), fun p hp => ?_⟩
    exact k p hp
  · refine iteD0 hn ?_
    rw [← mkS_pos1 (by omega : 0 < b)] at k
    refine ⟨_, rfl, _, rfl, _, _, rfl, rfl, ⟨by omega, gb⟩, _, rfl, _, rfl, _, _, rfl, rfl, ⟨by omega, gb⟩, (by show 2 ≤ sizeLine; decide), fun p hp => ?_⟩
    exact k p hp
theorem ok_plus (T : Txt K mg t) : FnOk P w K mg base CX0 2 t.a_plus t.d_plus ["one", "other"] (sp_plus K) := by
  refine T.F_plus.ok sc_plus (fun vs H Q E h => ?_) (fun cdv A outer s H vs Q E hr h => ?_)
  · obtain ⟨_, _, _, _, _, _, rfl, _⟩ := h; rfl
  obtain ⟨v, w, r, q, n, m, rfl, hv, hw, wr, wq, hz, k⟩ := h
  refine QSs.ok (qss_cons (qs_set (i := 2) sc_plus.nd rfl (by first | exact Or.inl rfl | exact Or.inr rfl) (qe_call (ok_greatest_divisor T) (hr.mono (by decide)) rfl T.m_greatest_divisor T.F_greatest_divisor.kp T.b_greatest_divisor .nil pass0 (qa_cons (qe_ix ix_tup (qv 0) qe_int (fun _ _ => rfl)) (qa_cons (qe_ix ix_tup (qv 1) qe_int (fun _ _ => rfl)) qa_nil star_sub) star_sub)))
      (qss_cons (qs_set (i := 3) sc_plus.nd rfl (by first | exact Or.inl rfl | exact Or.inr rfl) (qe_op op_add (qe_op op_mulB (qe_ix ix_tup (qv 0) qe_int (fun _ _ => rfl)) (qe_op op_quo (qe_ix ix_tup (qv 1) qe_int (fun _ _ => rfl)) (qv 2))) (qe_op op_mulB (qe_ix ix_tup (qv 1) qe_int (fun _ _ => rfl)) (qe_op op_quo (qe_ix ix_tup (qv 0) qe_int (fun _ _ => rfl)) (qv 2)))))
      (qss_cons (qs_set (i := 4) sc_plus.nd rfl (by first | exact Or.inl rfl | exact Or.inr rfl) (qe_call (ok_greatest_divisor T) (hr.mono (by decide)) rfl T.m_greatest_divisor T.F_greatest_divisor.kp T.b_greatest_divisor .nil pass0 (qa_cons (qv 3) (qa_cons (qv 2) qa_nil star_name) star_name)))
      (qss_one (qs_ret (qe_tup (qa_cons (qe_op op_quo (qv 3) (qv 4)) (qa_cons (qe_op op_mulB (qe_op op_quo (qe_ix ix_tup (qv 0) qe_int (fun _ _ => rfl)) (qv 2)) (qe_op op_quo (qe_ix ix_tup (qv 1) qe_int (fun _ _ => rfl)) (qv 4))) qa_nil star_bin) star_bin))))))) ?_
  obtain ⟨p, rfl, hv⟩ := hv
  obtain ⟨p', rfl, hw⟩ := hw
  have c1 := big_of wr.top (show n ≤ 4000 by omega)
  have c2 := big_of wr.bot (show n ≤ 4000 by omega)
  have c3 := big_of wq.top (show m ≤ 4000 by omega)
  have c4 := big_of wq.bot (show m ≤ 4000 by omega)
  have gp : (0 : Int) < (Int.gcd r.2 q.2 : Nat) := gcd_posR wq.pos
  have gb := gcd_lt (a := r.2) wq.pos c4
  refine ⟨_, rfl, p, _, _, _, rfl, rfl, hv, rfl, _, rfl, p', _, _, _, rfl, rfl, hw, rfl, r.2, q.2, rfl, ?_⟩
  have z := plusG_eq ⟨wr.pos, wr.cop⟩ ⟨wq.pos, wq.cop⟩
  have kk : newR H Q (plusG r q) := by rw [z]; exact k
  unfold plusG at kk
  simp only at kk
  generalize ((Int.gcd r.2 q.2 : Nat) : Int) = d at gp gb kk ⊢
  refine ⟨_, rfl, p, _, _, _, rfl, rfl, hv, rfl, _, rfl, p', _, _, _, rfl, rfl, hw, rfl, _, rfl, _, _, rfl, rfl, ⟨gp, gb⟩, _, _, rfl, rfl, ⟨c1, div_lt gp c4⟩, _, rfl, p', _, _, _, rfl, rfl, hw, rfl, _, rfl, p, _, _, _, rfl, rfl, hv, rfl, _, rfl, _, _, rfl, rfl, ⟨gp, gb⟩, _, _, rfl, rfl, ⟨c3, div_lt gp c2⟩, _, _, rfl, rfl, ?_⟩
  refine ⟨_, rfl, _, rfl, _, _, rfl, ?_⟩
  have ep : (0 : Int) < (Int.gcd (r.1 * (q.2 / d) + q.1 * (r.2 / d)) d : Nat) := gcd_posR gp
  have eb := gcd_lt (a := r.1 * (q.2 / d) + q.1 * (r.2 / d)) gp gb
  generalize ((Int.gcd (r.1 * (q.2 / d) + q.1 * (r.2 / d)) d : Nat) : Int) = e at ep eb kk ⊢
  refine ⟨_, rfl, _, rfl, _, _, rfl, rfl, ⟨ep, eb⟩, _, rfl, p, _, _, _, rfl, rfl, hv, rfl, _, rfl, _, _, rfl, rfl, ⟨gp, gb⟩, _, rfl, p', _, _, _, rfl, rfl, hw, rfl, _, rfl, _, _, rfl, rfl, ⟨ep, eb⟩, _, _, rfl, rfl, ⟨div_lt gp c2, div_lt ep c4⟩, (by show 2 ≤ sizeLine; decide), kk⟩
theorem ok_minus (T : Txt K mg t) : FnOk P w K mg base CX0 3 t.a_minus t.d_minus ["one", "other"] (sp_minus K) := by
  refine T.F_minus.ok sc_minus (fun vs H Q E h => ?_) (fun cdv A outer s H vs Q E hr h => ?_)
  · obtain ⟨_, _, _, _, _, _, rfl, _⟩ := h; rfl
  obtain ⟨v, w, r, q, n, m, rfl, hv, hw, wr, wq, hz, k⟩ := h
  refine QSs.ok (qss_one (qs_ret (qe_call (ok_plus T) (hr.mono (by decide)) rfl T.m_plus T.F_plus.kp T.b_plus .nil pass0 (qa_cons (qv 0) (qa_cons (qe_tup (qa_cons (qe_un un_neg (qe_ix ix_tup (qv 1) qe_int (fun _ _ => rfl))) (qa_cons (qe_ix ix_tup (qv 1) qe_int (fun _ _ => rfl)) qa_nil star_sub) star_un)) qa_nil star_tup) star_name)))) ?_
  obtain ⟨p', rfl, hw⟩ := hw
  refine ⟨_, rfl, _, rfl, p', _, _, _, rfl, rfl, hw, rfl, _, rfl, _, rfl, p', _, _, _, rfl, rfl, hw, rfl, (by show 2 ≤ sizeLine; decide), fun pt ht => ?_⟩
  have s1 := same_new ht (.tup [.int (-q.1), .int q.2])
  refine ⟨v, .ref pt, r, (-q.1, q.2), n, m, rfl, hv.mono (Tst.same s1), RV.of upd_same, wr, ⟨wq.pos, by show (-q.1).natAbs < _; rw [Int.natAbs_neg]; exact wq.top, wq.bot, cop_neg' wq.cop⟩, hz, fun p hp => ?_⟩
  refine k _ _ (s1.trans (same_new hp _)) ?_
  rw [← minus_eq]
  exact RV.of upd_same
theorem ok_times (T : Txt K mg t) : FnOk P w K mg base CX0 2 t.a_times t.d_times ["one", "other"] (sp_times K) := by
  refine T.F_times.ok sc_times (fun vs H Q E h => ?_) (fun cdv A outer s H vs Q E hr h => ?_)
  · obtain ⟨_, _, _, _, _, _, rfl, _⟩ := h; rfl
  obtain ⟨v, w, r, q, n, m, rfl, hv, hw, wr, wq, hz, k⟩ := h
  refine QSs.ok (qss_cons (qs_set (i := 2) sc_times.nd rfl (by first | exact Or.inl rfl | exact Or.inr rfl) (qe_call (ok_greatest_divisor T) (hr.mono (by decide)) rfl T.m_greatest_divisor T.F_greatest_divisor.kp T.b_greatest_divisor .nil pass0 (qa_cons (qe_ix ix_tup (qv 0) qe_int (fun _ _ => rfl)) (qa_cons (qe_ix ix_tup (qv 1) qe_int (fun _ _ => rfl)) qa_nil star_sub) star_sub)))
      (qss_cons (qs_set (i := 3) sc_times.nd rfl (by first | exact Or.inl rfl | exact Or.inr rfl) (qe_call (ok_greatest_divisor T) (hr.mono (by decide)) rfl T.m_greatest_divisor T.F_greatest_divisor.kp T.b_greatest_divisor .nil pass0 (qa_cons (qe_ix ix_tup (qv 1) qe_int (fun _ _ => rfl)) (qa_cons (qe_ix ix_tup (qv 0) qe_int (fun _ _ => rfl)) qa_nil star_sub) star_sub)))
      (qss_one (qs_ret (qe_tup (qa_cons (qe_op op_mulB (qe_op op_quo (qe_ix ix_tup (qv 0) qe_int (fun _ _ => rfl)) (qv 2)) (qe_op op_quo (qe_ix ix_tup (qv 1) qe_int (fun _ _ => rfl)) (qv 3))) (qa_cons (qe_op op_mulB (qe_op op_quo (qe_ix ix_tup (qv 0) qe_int (fun _ _ => rfl)) (qv 3)) (qe_op op_quo (qe_ix ix_tup (qv 1) qe_int (fun _ _ => rfl)) (qv 2))) qa_nil star_bin) star_bin)))))) ?_
  obtain ⟨p, rfl, hv⟩ := hv
  obtain ⟨p', rfl, hw⟩ := hw
  have c1 := big_of wr.top (show n ≤ 4000 by omega)
  have c2 := big_of wr.bot (show n ≤ 4000 by omega)
  have c3 := big_of wq.top (show m ≤ 4000 by omega)
  have c4 := big_of wq.bot (show m ≤ 4000 by omega)
  have lp : (0 : Int) < (Int.gcd r.1 q.2 : Nat) := gcd_posR wq.pos
  have lb := gcd_lt (a := r.1) wq.pos c4
  have mp : (0 : Int) < (Int.gcd q.1 r.2 : Nat) := gcd_posR wr.pos
  have mb := gcd_lt (a := q.1) wr.pos c2
  have z := timesG_eq ⟨wr.pos, wr.cop⟩ ⟨wq.pos, wq.cop⟩
  have kk : newR H Q (timesG r q) := by rw [z]; exact k
  unfold timesG at kk
  simp only at kk
  refine ⟨_, rfl, p, _, _, _, rfl, rfl, hv, rfl, _, rfl, p', _, _, _, rfl, rfl, hw, rfl, r.1, q.2, rfl, _, rfl, p', _, _, _, rfl, rfl, hw, rfl, _, rfl, p, _, _, _, rfl, rfl, hv, rfl, q.1, r.2, rfl, ?_⟩
  generalize ((Int.gcd r.1 q.2 : Nat) : Int) = l at lp lb kk ⊢
  generalize ((Int.gcd q.1 r.2 : Nat) : Int) = m' at mp mb kk ⊢
  refine ⟨_, rfl, p, _, _, _, rfl, rfl, hv, rfl, _, rfl, _, _, rfl, rfl, ⟨lp, lb⟩, _, rfl, p', _, _, _, rfl, rfl, hw, rfl, _, rfl, _, _, rfl, rfl, ⟨mp, mb⟩, _, _, rfl, rfl, ⟨div_lt lp c1, div_lt mp c3⟩, _, rfl, p, _, _, _, rfl, rfl, hv, rfl, _, rfl, _, _, rfl, rfl, ⟨mp, mb⟩, _, rfl, p', _, _, _, rfl, rfl, hw, rfl, _, rfl, _, _, rfl, rfl, ⟨lp, lb⟩, _, _, rfl, rfl, ⟨div_lt mp c2, div_lt lp c4⟩, (by show 2 ≤ sizeLine; decide), kk⟩
theorem ok_over (T : Txt K mg t) : FnOk P w K mg base CX0 3 t.a_over t.d_over ["one", "other"] (sp_over K) := by
  refine T.F_over.ok sc_over (fun vs H Q E h => ?_) (fun cdv A outer s H vs Q E hr h => ?_)
  · obtain ⟨_, _, _, _, _, _, rfl, _⟩ := h; rfl
  obtain ⟨v, w, r, q, n, m, rfl, hv, hw, wr, wq, hz, hq, k⟩ := h
  refine QSs.ok (qss_cons (qs_if (qt_cmpR op_eq (qe_ix ix_tup (qv 1) qe_int (fun _ _ => rfl)) qe_int (nomark _)) (qss_one qs_never) qss_nil)
      (qss_one (qs_ret (qe_call (ok_times T) (hr.mono (by decide)) rfl T.m_times T.F_times.kp T.b_times .nil pass0 (qa_cons (qv 0) (qa_cons (qe_call (ok_ratio T) (hr.mono (by decide)) rfl T.m_ratio T.F_ratio.kp T.b_ratio .nil pass0 (qa_cons (qe_ix ix_tup (qv 1) qe_int (fun _ _ => rfl)) (qa_cons (qe_ix ix_tup (qv 1) qe_int (fun _ _ => rfl)) qa_nil star_sub) star_sub)) qa_nil star_call) star_name))))) ?_
  obtain ⟨p', rfl, hw⟩ := hw
  refine ⟨_, rfl, p', _, _, _, rfl, rfl, hw, rfl, rfl, _, rfl, ?_⟩
  refine iteD0 (fun z => by injection z with z; exact hq z) ?_
  refine ⟨_, rfl, _, rfl, p', _, _, _, rfl, rfl, hw, rfl, _, rfl, p', _, _, _, rfl, rfl, hw, rfl, q.2, q.1, rfl, hq, big_of wq.top (by omega), fun ps hps => ?_⟩
  have s1 := same_new hps (.tup [.int (mkS q.2 q.1).1, .int (mkS q.2 q.1).2])
  refine ⟨v, .ref ps, r, mkS q.2 q.1, n, m, rfl, hv.mono (Tst.same s1), RV.of upd_same, wr, mkS_wf hq wq.bot wq.top, hz, fun p hp => ?_⟩
  refine k _ _ (s1.trans (same_new hp _)) ?_
  rw [← over_eq ⟨wr.pos, wr.cop⟩ hq]
  exact RV.of upd_same
theorem ok_is_less (T : Txt K mg t) : FnOk P w K mg base CX0 1 t.a_is_less t.d_is_less ["one", "other"] (sp_is_less K) := by
  refine T.F_is_less.ok sc_is_less (fun vs H Q E h => ?_) (fun cdv A outer s H vs Q E hr h => ?_)
  · obtain ⟨_, _, _, _, _, _, rfl, _⟩ := h; rfl
  obtain ⟨v, w, r, q, n, m, rfl, hv, hw, wr, wq, hz, k⟩ := h
  refine QSs.ok (qss_one (qs_ret (qe_cmpR op_lt (qe_op op_mulB (qe_ix ix_tup (qv 0) qe_int (fun _ _ => rfl)) (qe_ix ix_tup (qv 1) qe_int (fun _ _ => rfl))) (qe_op op_mulB (qe_ix ix_tup (qv 1) qe_int (fun _ _ => rfl)) (qe_ix ix_tup (qv 0) qe_int (fun _ _ => rfl))) (nomark _)))) ?_
  obtain ⟨p, rfl, hv⟩ := hv
  obtain ⟨p', rfl, hw⟩ := hw
  have c1 := big_of wr.top (show n ≤ 4000 by omega)
  have c2 := big_of wr.bot (show n ≤ 4000 by omega)
  have c3 := big_of wq.top (show m ≤ 4000 by omega)
  have c4 := big_of wq.bot (show m ≤ 4000 by omega)
  refine ⟨_, rfl, p, _, _, _, rfl, rfl, hv, rfl, _, rfl, p', _, _, _, rfl, rfl, hw, rfl, _, _, rfl, rfl, ⟨c1, c4⟩, _, rfl, p', _, _, _, rfl, rfl, hw, rfl, _, rfl, p, _, _, _, rfl, rfl, hv, rfl, _, _, rfl, rfl, ⟨c3, c2⟩, _, _, rfl, rfl, k⟩
theorem ok_slope_between (T : Txt K mg t) : FnOk P w K mg base CX0 4 t.a_slope_between t.d_slope_between ["low", "high"] (sp_slope_of K) := by
  refine T.F_slope_between.ok sc_slope_between (fun vs H Q E h => ?_) (fun cdv A outer s H vs Q E hr h => ?_)
  · obtain ⟨_, _, _, _, rfl, _⟩ := h; rfl
  obtain ⟨v, w, a, b, rfl, ⟨p, x, y, rfl, hS, hx, hy⟩, ⟨p2, x2, y2, rfl, hS2, hx2, hy2⟩, ⟨ne, n1, n2, m1, m2, a1, b1, a2, b2, w1, w2, l1, l2, l3⟩, k⟩ := h
  refine QSs.ok (qss_one (qs_ret (qe_call (ok_over T) (hr.mono (by decide)) rfl T.m_over T.F_over.kp T.b_over .nil pass0 (qa_cons (qe_call (ok_minus T) (hr.mono (by decide)) rfl T.m_minus T.F_minus.kp T.b_minus .nil pass0 (qa_cons (qe_ix ix_tup (qv 1) qe_int (fun _ _ => rfl)) (qa_cons (qe_ix ix_tup (qv 0) qe_int (fun _ _ => rfl)) qa_nil star_sub) star_sub)) (qa_cons (qe_call (ok_minus T) (hr.mono (by decide)) rfl T.m_minus T.F_minus.kp T.b_minus .nil pass0 (qa_cons (qe_ix ix_tup (qv 1) qe_int (fun _ _ => rfl)) (qa_cons (qe_ix ix_tup (qv 0) qe_int (fun _ _ => rfl)) qa_nil star_sub) star_sub)) qa_nil star_call) star_call)))) ?_
  refine ⟨_, rfl, p2, _, _, _, rfl, rfl, hS2, rfl, _, rfl, p, _, _, _, rfl, rfl, hS, rfl, y2, y, b.2, a.2, n2, n2, rfl, hy2, hy, b2, a2, l2, fun v1 H1 s1 h1 => ?_⟩
  refine ⟨_, rfl, p2, _, _, _, rfl, rfl, Tst.same s1 _ _ hS2, rfl, _, rfl, p, _, _, _, rfl, rfl, Tst.same s1 _ _ hS, rfl, x2, x, b.1, a.1, n1, n1, rfl, hx2.mono (Tst.same s1), hx.mono (Tst.same s1), b1, a1, l1, fun v2 H2 s2 h2 => ?_⟩
  exact ⟨v1, v2, _, _, m2, m1, rfl, h1.mono (Tst.same s2), h2, w2, w1, l3, ne, fun v3 H3 s3 h3 => k v3 H3 (s1.trans (s2.trans s3)) h3⟩
theorem ok_is_row_behind (T : Txt K mg t) : FnOk P w K mg base CX0 5 t.a_is_row_behind t.d_is_row_behind ["rows", "number"] (sp_is_row_behind K) := by
  refine T.F_is_row_behind.ok sc_is_row_behind (fun vs H Q E h => ?_) (fun cdv A outer s H vs Q E hr h => ?_)
  · obtain ⟨_, _, _, _, rfl, _⟩ := h; rfl
  obtain ⟨p, xs, rs, n, rfl, hS, ok, k⟩ := h
  refine QSs.ok (qss_cons (qs_set (i := 2) sc_is_row_behind.nd rfl (by first | exact Or.inl rfl | exact Or.inr rfl) (qe_ix ix_tup (qv 0) (qv 1) (fun _ _ => rfl)))
      (qss_cons (qs_if (qt_cmpR op_eq (qv 1) qe_int (nomark _)) (qss_one (qs_ret (qe_and (qe_cmpR (op_eqD hr) (qe_ix ix_tup (qv 2) qe_int (fun _ _ => rfl)) (qe_glob (v := .ref t.c_NOUGHT) rfl T.m_NOUGHT rfl) (nomark _)) (qe_one (qe_not (qe_call (ok_is_less T) (hr.mono (by decide)) rfl T.m_is_less T.F_is_less.kp T.b_is_less .nil pass0 (qa_cons (qe_ix ix_tup (qv 2) qe_int (fun _ _ => rfl)) (qa_cons (qe_glob (v := .ref t.c_NOUGHT) rfl T.m_NOUGHT rfl) qa_nil star_name) star_sub))))))) qss_nil)
      (qss_cons (qs_set (i := 3) sc_is_row_behind.nd rfl (by first | exact Or.inl rfl | exact Or.inr rfl) (qe_ix ix_tup (qv 0) (qe_op op_sub (qv 1) qe_int) (fun _ _ => rfl)))
      (qss_cons (qs_if (qw_pt (qw_or (qt_not (qt_val (qe_call (ok_is_less T) (hr.mono (by decide)) rfl T.m_is_less T.F_is_less.kp T.b_is_less .nil pass0 (qa_cons (qe_ix ix_tup (qv 3) qe_int (fun _ _ => rfl)) (qa_cons (qe_ix ix_tup (qv 2) qe_int (fun _ _ => rfl)) qa_nil star_sub) star_sub)))) (qw_or1 (qt_not (qt_val (qe_call (ok_is_less T) (hr.mono (by decide)) rfl T.m_is_less T.F_is_less.kp T.b_is_less .nil pass0 (qa_cons (qe_ix ix_tup (qv 3) qe_int (fun _ _ => rfl)) (qa_cons (qe_ix ix_tup (qv 2) qe_int (fun _ _ => rfl)) qa_nil star_sub) star_sub))))))) (qss_one (qs_ret qe_bl)) qss_nil)
      (qss_cons (qs_if (qt_cmpR op_eq (qv 1) qe_int (nomark _)) (qss_one (qs_ret qe_bl)) qss_nil)
      (qss_one (qs_ret (qe_not (qe_call (ok_is_less T) (hr.mono (by decide)) rfl T.m_is_less T.F_is_less.kp T.b_is_less .nil pass0 (qa_cons (qe_call (ok_slope_between T) (hr.mono (by decide)) rfl T.m_slope_between T.F_slope_between.kp T.b_slope_between .nil pass0 (qa_cons (qv 3) (qa_cons (qv 2) qa_nil star_name) star_name)) (qa_cons (qe_call (ok_slope_between T) (hr.mono (by decide)) rfl T.m_slope_between T.F_slope_between.kp T.b_slope_between .nil pass0 (qa_cons (qe_ix ix_tup (qv 0) (qe_op op_sub (qv 1) qe_int) (fun _ _ => rfl)) (qa_cons (qv 3) qa_nil star_name) star_sub)) qa_nil star_call) star_call)))))))))) ?_
  obtain ⟨vn, en, rn⟩ := ok.row n (Nat.le_refl n)
  have wn1 := ok.w1 n (Nat.le_refl n)
  have wn2 := ok.w2 n (Nat.le_refl n)
  obtain ⟨pn, x, y, rfl, hSn, hx, hy⟩ := id rn
  refine ⟨_, rfl, _, rfl, p, _, _, _, rfl, rfl, hS, atI_nat en, ?_⟩
  refine ⟨_, rfl, rfl, _, rfl, ?_⟩
  have nul : RV K H (.ref t.c_NOUGHT) (0, 1) := ⟨_, rfl, T.q_NOUGHT H⟩
  have w0 : Wf 1 ((0, 1) : R) := ⟨by decide, by decide, by decide, by decide⟩
  by_cases c0 : n = 0
  · subst c0
    refine iteD1 rfl ?_
    have kk : Q (.bl (decide ((rs.getD 0 rowD).1 = (0, 1)) && !lessR (rs.getD 0 rowD).2 (0, 1))) H := k H (Same.refl H)
    refine ⟨_, rfl, pn, _, _, _, rfl, rfl, hSn, rfl, dR _, dR (0, 1), hx.deep, nul.deep, dR_lay _, dR_lay _, dR_depth _, ?_⟩
    rw [eqv_iff]
    by_cases c : (rs.getD 0 rowD).1 = (0, 1)
    · rw [decide_eq_true c, Bool.true_and] at kk
      rw [decide_eq_true c]
      refine ⟨_, rfl, iteT ?_⟩
      exact ⟨_, rfl, pn, _, _, _, rfl, rfl, hSn, rfl, y, _, _, (0, 1), 230, 1, rfl, hy, nul, wn2, w0, by decide, _, rfl, kk⟩
    · rw [decide_eq_false c, Bool.false_and] at kk
      rw [decide_eq_false c]
      exact ⟨_, rfl, kk⟩
  · refine iteD0 (fun z => c0 (by injection z with z; omega)) ?_
    obtain ⟨va, ea, ra⟩ := ok.row (n - 1) (by omega)
    have wa1 := ok.w1 (n - 1) (by omega)
    have wa2 := ok.w2 (n - 1) (by omega)
    obtain ⟨pa, xa, ya, rfl, hSa, hxa, hya⟩ := id ra
    have kk : ∀ H', Same H H' → Q (.bl (lessR (rs.getD (n - 1) rowD).1 (rs.getD n rowD).1 && (lessR (rs.getD (n - 1) rowD).2 (rs.getD n rowD).2 && (decide (n = 1) || !lessR (slopeR (rs.getD (n - 1) rowD) (rs.getD n rowD)) (slopeR (rs.getD (n - 2) rowD) (rs.getD (n - 1) rowD)))))) H' := fun H' s' => by
      have := k H' s'
      unfold behM at this
      rw [if_neg c0] at this
      exact this
    have e1 : (n : Int) - 1 = ((n - 1 : Nat) : Int) := by omega
    refine ⟨_, rfl, _, rfl, _, _, rfl, rfl, p, _, _, _, rfl, rfl, hS, (by rw [e1]; exact atI_nat ea), ?_⟩
    refine ⟨_, rfl, pa, _, _, _, rfl, rfl, hSa, rfl, _, rfl, pn, _, _, _, rfl, rfl, hSn, rfl, xa, x, _, _, 230, 230, rfl, hxa, hx, wa1, wn1, by decide, _, rfl, ?_⟩
    cases c1 : lessR (rs.getD (n - 1) rowD).1 (rs.getD n rowD).1 with
    | false =>
      rw [c1, Bool.false_and] at kk
      exact iteT (iteT (kk H (Same.refl H)))
    | true =>
      rw [c1, Bool.true_and] at kk
      refine iteF ?_
      refine ⟨_, rfl, pa, _, _, _, rfl, rfl, hSa, rfl, _, rfl, pn, _, _, _, rfl, rfl, hSn, rfl, ya, y, _, _, 230, 230, rfl, hya, hy, wa2, wn2, by decide, _, rfl, ?_⟩
      cases c2 : lessR (rs.getD (n - 1) rowD).2 (rs.getD n rowD).2 with
      | false =>
        rw [c2, Bool.false_and] at kk
        exact iteT (kk H (Same.refl H))
      | true =>
        rw [c2, Bool.true_and] at kk
        refine iteF ?_
        refine ⟨_, rfl, rfl, _, rfl, ?_⟩
        by_cases c3 : n = 1
        · refine iteD1 (by rw [c3]; rfl) ?_
          have := kk H (Same.refl H)
          rw [decide_eq_true c3] at this
          exact this
        · refine iteD0 (fun z => c3 (by injection z with z; omega)) ?_
          rw [decide_eq_false c3, Bool.false_or] at kk
          obtain ⟨vb, eb, rb⟩ := ok.row (n - 2) (by omega)
          have q1 : n - 1 + 1 = n := by omega
          have q2 : n - 2 + 1 = n - 1 := by omega
          have e2 : (n : Int) - 2 = ((n - 2 : Nat) : Int) := by omega
          have S1 := ok.sl (n - 1) (by omega)
          rw [q1] at S1
          have S2 := ok.sl (n - 2) (by omega)
          have U := ok.up (n - 2) (by omega)
          rw [q2] at S2 U
          refine ⟨_, rfl, _, rfl, .ref pa, .ref pn, _, _, rfl, ra, rn, (S1 c1).1, fun v1 H1 s1 h1 => ?_⟩
          refine ⟨_, rfl, _, rfl, _, _, rfl, rfl, p, _, _, _, rfl, rfl, Tst.same s1 _ _ hS, (by rw [e2]; exact atI_nat eb), _, rfl, vb, .ref pa, _, _, rfl, rb.mono (Tst.same s1), ra.mono (Tst.same s1), (S2 U).1, fun v2 H2 s2 h2 => ?_⟩
          exact ⟨v1, v2, _, _, 1450, 1450, rfl, h1.mono (Tst.same s2), h2, (S1 c1).2, (S2 U).2, by decide, _, rfl, kk H2 (s1.trans s2)⟩
theorem ok_is_rule_shaped (T : Txt K mg t) : FnOk P w K mg base CX0 2 t.a_is_rule_shaped t.d_is_rule_shaped ["thing"] (sp_is_rule_shaped K) := by
  refine T.F_is_rule_shaped.ok sc_is_rule_shaped (fun vs H Q E h => ?_) (fun cdv A outer s H vs Q E hr h => ?_)
  · obtain ⟨_, _, rfl, _⟩ := h; rfl
  obtain ⟨v, d, rfl, hD, cl, k⟩ := h
  refine QSs.ok (qss_cons (qs_if (qt_not (qt_val (qe_call (ok_is_tuple_of T) (hr.mono (by decide)) rfl T.m_is_tuple_of T.F_is_tuple_of.kp T.b_is_tuple_of .nil pass0 (qa_cons (qv 0) (qa_cons qe_int qa_nil star_con) star_name)))) (qss_one (qs_ret qe_bl)) qss_nil)
      (qss_cons (qs_if (qt_cmpR (op_eqD hr) (qe_ix ix_tup (qv 0) qe_int (fun _ _ => rfl)) (qe_glob (v := .str "power") rfl T.m_POWER ⟨_, rfl⟩) (nomark _)) (qss_one (qs_ret (qe_and (qe_call (ok_is_whole T) (hr.mono (by decide)) rfl T.m_is_whole T.F_is_whole.kp T.b_is_whole .nil pass0 (qa_cons (qe_ix ix_tup (qv 0) qe_int (fun _ _ => rfl)) qa_nil star_sub)) (qe_one (qe_chain op_le op_le (qe_glob (v := .int (2)) rfl T.m_LEAST_POWER ⟨_, rfl⟩) (qe_ix ix_tup (qv 0) qe_int (fun _ _ => rfl)) (qe_glob (v := .int (4)) rfl T.m_MOST_POWER ⟨_, rfl⟩)))))) qss_nil)
      (qss_cons (qs_if (qt_cmpR (op_eqD hr) (qe_ix ix_tup (qv 0) qe_int (fun _ _ => rfl)) (qe_glob (v := .str "table") rfl T.m_TABLE ⟨_, rfl⟩) (nomark _)) (qss_one (qs_ret (qe_and (qe_callB call_isiD (by rfl) T.z_isinstance PyProof.Rows.boot_isinstance (qa_cons (qe_ix ix_tup (qv 0) qe_int (fun _ _ => rfl)) (qa_cons (qe_bltn (v := V.ty "tuple") rfl T.z_tuple PyProof.Rows.boot_tuple rfl) qa_nil star_name) star_sub)) (qe_one (qe_chain op_le op_le (qe_glob (v := .int (2)) rfl T.m_LEAST_ROWS ⟨_, rfl⟩) (qe_callB call_len_seq (by rfl) T.z_len PySem.boot_len (qa_cons (qe_ix ix_tup (qv 0) qe_int (fun _ _ => rfl)) qa_nil star_sub)) (qe_glob (v := .int (12)) rfl T.m_MOST_ROWS ⟨_, rfl⟩)))))) qss_nil)
      (qss_one (qs_ret qe_bl))))) ?_
  refine ⟨_, rfl, v, d, 2, rfl, hD, ⟨_, rfl, ?_⟩⟩
  cases c2 : tupD 2 d with
  | false =>
    refine iteT ?_
    rw [shapedD_no c2] at k
    exact k
  | true =>
    refine iteF ?_
    obtain ⟨p, x, y, dx, dy, rfl, rfl, hS, hx, hy⟩ := hD.two c2
    obtain ⟨cl1, cl2⟩ := cl _ _ rfl
    have kk : Q (.bl (if PyData.eqv dx (.str "power") then powD dy else if PyData.eqv dx (.str "table") then rowsD dy else false)) H := k
    refine ⟨_, rfl, p, _, _, _, rfl, rfl, hS, rfl, ?_⟩
    refine ⟨dx, .str "power", hx, .str _, cl1, by decide +kernel, cl2, _, rfl, ?_⟩
    cases cp : PyData.eqv dx (.str "power") with
    | true =>
      rw [cp, if_pos rfl] at kk
      refine iteT ?_
      refine ⟨_, rfl, p, _, _, _, rfl, rfl, hS, rfl, y, dy, rfl, hy, ?_⟩
      cases cw : wholeD dy with
      | false =>
        have e : powD dy = false := by
          cases dy with
          | int i => cases cw
          | _ => rfl
        rw [e] at kk
        exact ⟨_, rfl, kk⟩
      | true =>
        obtain ⟨i, rfl⟩ := wholeD_int cw
        cases hy
        have k3 : Q (.bl (decide (2 ≤ i) && decide (i ≤ 4))) H := kk
        refine ⟨_, rfl, iteT ?_⟩
        refine ⟨_, rfl, p, _, _, _, rfl, rfl, hS, rfl, _, _, rfl, rfl, _, rfl, ?_⟩
        by_cases c : 2 ≤ i
        · rw [decide_eq_true c, Bool.true_and] at k3
          refine iteD1 c ?_
          exact ⟨_, _, rfl, rfl, k3⟩
        · rw [decide_eq_false c, Bool.false_and] at k3
          refine iteD0 c ?_
          exact k3
    | false =>
      rw [cp, if_neg (fun z => nomatch z)] at kk
      refine iteF ?_
      refine ⟨_, rfl, p, _, _, _, rfl, rfl, hS, rfl, ?_⟩
      refine ⟨dx, .str "table", hx, .str _, cl1, by decide +kernel, cl2, _, rfl, ?_⟩
      cases ct : PyData.eqv dx (.str "table") with
      | false =>
        rw [ct, if_neg (fun z => nomatch z)] at kk
        exact iteF kk
      | true =>
        rw [ct, if_pos rfl] at kk
        refine iteT ?_
        refine ⟨_, rfl, p, _, _, _, rfl, rfl, hS, rfl, ?_⟩
        rcases isi_tup hy with ⟨e, p2, xs, ds, rfl, rfl, hS2, hA⟩ | ⟨e, no⟩
        · refine ⟨_, _, _, _, rfl, hy, e, _, rfl, iteT ?_⟩
          have k3 : Q (.bl (decide (2 ≤ ds.length) && decide (ds.length ≤ 12))) H := kk
          rw [← hA.len] at k3
          refine ⟨_, rfl, p, _, _, _, rfl, rfl, hS, rfl, p2, xs, rfl, .inr hS2, _, _, rfl, rfl, _, rfl, ?_⟩
          by_cases c : (2 : Int) ≤ xs.length
          · rw [decide_eq_true (show 2 ≤ xs.length by omega), Bool.true_and] at k3
            refine iteD1 c ?_
            have q : decide ((xs.length : Int) ≤ 12) = decide (xs.length ≤ 12) := decide_eq_decide.mpr (by omega)
            rw [← q] at k3
            exact ⟨_, _, rfl, rfl, k3⟩
          · rw [decide_eq_false (show ¬ 2 ≤ xs.length by omega), Bool.false_and] at k3
            refine iteD0 c ?_
            exact k3
        · refine ⟨_, _, _, _, rfl, hy, e, _, rfl, ?_⟩
          have e2 : rowsD dy = false := by
            cases dy with
            | tuple ds => exact absurd rfl (no ds)
            | _ => rfl
          rw [e2] at kk
          exact kk
theorem ok_law_tape (T : Txt K mg t) : FnOk P w K mg base CX0 1 t.a_law_tape t.d_law_tape ["_law_script"] (sp_law_tape K) := by
  refine T.F_law_tape.ok sc_law_tape (fun vs H Q E h => ?_) (fun cdv A outer s H vs Q E hr h => ?_)
  · obtain ⟨_, _, rfl, _⟩ := h; rfl
  obtain ⟨a, ns, rfl, hS, k⟩ := h
  refine QSs.ok (qss_one (qs_ret (qe_lst (qa_cons (qe_slice sl_list (qv 0) qo_none (qo_some qe_int)) (qa_cons qe_int (qa_cons qe_int (qa_cons qe_int qa_nil star_con) star_con) star_con) star_sub)))) ?_
  refine ⟨_, rfl, 63, rfl, a, _, rfl, hS, fun p hp => ⟨(by show 4 ≤ sizeLine; decide), fun t ht => ?_⟩⟩
  have npt : p ≠ t := fun z => by subst z; rw [upd_same] at ht; cases ht
  have h0 : H t = none := by rw [upd_ne npt.symm] at ht; exact ht
  refine k t p _ ((same_new hp _).trans (same_new ht _)) h0 hp ⟨ns.take (min 63 ns.length), 0, 0, 0, upd_same, ?_, npt, ?_, by decide, by decide, by decide⟩
  · rw [upd_ne npt, upd_same, cut63]
  · rw [List.length_take]; omega
theorem ok_law_draw (T : Txt K mg t) : FnOk P w K mg base CX0 1 t.a_law_draw t.d_law_draw ["_law_tape_here", "_law_many"] (sp_law_draw K) := by
  refine T.F_law_draw.ok sc_law_draw (fun vs H Q E h => ?_) (fun cdv A outer s H vs Q E hr h => ?_)
  · obtain ⟨_, _, _, rfl, _⟩ := h; rfl
  obtain ⟨t₁, s₁, m, rfl, tp, hm0, hm1, k⟩ := h
  obtain ⟨ns, p, q₀, r₀, ht, hs, hne, hlen, hp0, hq0, hr0⟩ := tp.ex
  refine QSs.ok (qss_cons (qs_set (i := 2) sc_law_draw.nd rfl (by first | exact Or.inl rfl | exact Or.inr rfl) (qe_ix ix_list (qv 0) qe_int (fun _ _ => rfl)))
      (qss_cons (qs_set (i := 3) sc_law_draw.nd rfl (by first | exact Or.inl rfl | exact Or.inr rfl) (qe_ix ix_list (qv 0) qe_int (fun _ _ => rfl)))
      (qss_cons (qs_asg (qe_op op_add (qv 3) qe_int) (qg_sub (qv 0) qe_int set_list))
      (qss_cons (qs_while PassesOwn.never (qw_pt (qw_and (qt_cmpR op_eq (qe_ix ix_list (qv 0) qe_int (fun _ _ => rfl)) qe_int (nomark _)) (qw_and1 (qt_cmpR op_lt (qe_ix ix_list (qv 0) qe_int (fun _ _ => rfl)) (qe_callB call_len_seq (by rfl) T.z_len PySem.boot_len (qa_cons (qv 2) qa_nil star_name)) (nomark _)))))
      (qss_cons (qs_if (qt_cmpR op_ge (qe_callB call_abs (by rfl) T.z_abs PyProof.Rows.boot_abs (qa_cons (qe_ix ix_list (qv 2) (qe_ix ix_list (qv 0) qe_int (fun _ _ => rfl)) (fun _ _ => rfl)) qa_nil star_sub)) (qe_op op_pow qe_int qe_int) (nomark _)) (qss_one (qs_asg (qe_callB call_abs (by rfl) T.z_abs PyProof.Rows.boot_abs (qa_cons (qe_ix ix_list (qv 2) (qe_ix ix_list (qv 0) qe_int (fun _ _ => rfl)) (fun _ _ => rfl)) qa_nil star_sub)) (qg_sub (qv 0) qe_int set_list))) qss_nil)
      (qss_one (qs_asg (qe_op op_add (qe_ix ix_list (qv 0) qe_int (fun _ _ => rfl)) qe_int) (qg_sub (qv 0) qe_int set_list)))))
      (qss_cons (qs_if (qt_cmpR op_gt (qe_ix ix_list (qv 0) qe_int (fun _ _ => rfl)) qe_int (nomark _)) (qss_cons (qs_set (i := 4) sc_law_draw.nd rfl (by first | exact Or.inl rfl | exact Or.inr rfl) (qe_ix ix_list (qv 0) qe_int (fun _ _ => rfl)))
      (qss_cons (qs_asg (qe_op op_fdiv (qv 4) (qv 1)) (qg_sub (qv 0) qe_int set_list))
      (qss_one (qs_ret (qe_op op_mod (qv 4) (qv 1)))))) qss_nil)
      (qss_cons (qs_set (i := 5) sc_law_draw.nd rfl (by first | exact Or.inl rfl | exact Or.inr rfl) qe_int)
      (qss_cons (qs_if (qt_cmpR op_gt (qe_callB call_len_seq (by rfl) T.z_len PySem.boot_len (qa_cons (qv 2) qa_nil star_name)) qe_int (nomark _)) (qss_one (qs_set (i := 5) sc_law_draw.nd rfl (by first | exact Or.inl rfl | exact Or.inr rfl) (qe_ix ix_list (qv 2) (qe_op op_mod (qv 3) (qe_callB call_len_seq (by rfl) T.z_len PySem.boot_len (qa_cons (qv 2) qa_nil star_name))) (fun _ _ => rfl)))) qss_nil)
      (qss_cons (qs_set (i := 6) sc_law_draw.nd rfl (by first | exact Or.inl rfl | exact Or.inr rfl) (qe_op op_mod (qe_op op_mul (qe_op op_add (qe_op op_mod (qv 5) qe_int) qe_int) (qe_op op_add (qe_op op_add (qe_op op_mul (qe_op op_mod (qv 3) qe_int) qe_int) qe_int) (qv 3))) qe_int))
      (qss_cons (qs_set (i := 6) sc_law_draw.nd rfl (by first | exact Or.inl rfl | exact Or.inr rfl) (qe_op op_mod (qe_op op_add (qe_op op_add (qe_op op_mul (qv 6) (qv 6)) (qe_op op_mul qe_int (qv 6))) (qv 3)) qe_int))
      (qss_one (qs_ret (qe_op op_mod (qe_op op_mod (qe_op op_mul (qv 6) qe_int) qe_int) (qv 1))))))))))))) ?_
  have tap : ∀ (q r : Int), 0 ≤ q → 0 ≤ r → Tape (upd H t₁ (.lst [.ref s₁, .int (p + 1), .int q, .int r])) t₁ s₁ := fun q r hq hr => ⟨ns, p + 1, q, r, upd_same, by rw [upd_ne hne]; exact hs, hne, hlen, by omega, hq, hr⟩
  have hs' : ∀ o, (upd H t₁ o) s₁ = some (.lst (ns.map V.int)) := fun o => by rw [upd_ne hne]; exact hs
  have hl : ((ns.map V.int).length : Int) = (ns.length : Int) := by rw [List.length_map]
  refine ⟨_, rfl, t₁, _, _, _, rfl, rfl, SqL.of ht, rfl, ?_⟩
  refine ⟨_, rfl, t₁, _, _, _, rfl, rfl, SqL.of ht, rfl, ?_⟩
  refine ⟨_, rfl, _, _, rfl, rfl, _, rfl, t₁, _, _, _, rfl, rfl, ht, rfl, ?_⟩
  refine ⟨fun μ σ H' => ∃ q r : Int, σ = [some (.ref t₁), some (.int m), some (.ref s₁), some (.int p), none, none, none] ∧ H' = upd H t₁ (.lst [.ref s₁, .int (p + 1), .int q, .int r]) ∧ 0 ≤ q ∧ 0 ≤ r ∧ μ = ns.length - r.toNat, ⟨_, q₀, r₀, rfl, rfl, hq0, hr0, rfl⟩, ?_⟩
  rintro μ σ H' ⟨q, r, rfl, rfl, hq, hr', rfl⟩
  refine ⟨_, rfl, t₁, _, _, _, rfl, rfl, SqL.of upd_same, rfl, rfl, _, rfl, ?_⟩
  by_cases c : q = 0 ∧ r < (ns.length : Int)
  · obtain ⟨c1, c2⟩ := c
    subst c1
    refine iteD1 rfl ?_
    refine ⟨_, rfl, t₁, _, _, _, rfl, rfl, SqL.of upd_same, rfl, _, rfl, s₁, _, rfl, .inl (SqL.of (hs' _)), _, _, rfl, rfl, _, rfl, ?_⟩
    refine iteD1 (by rw [hl]; exact c2) ?_
    refine ⟨_, fun _ _ z => z, ?_⟩
    obtain ⟨z, hz⟩ := pickI (ns := ns) hr' c2
    refine ⟨_, rfl, _, rfl, t₁, _, _, _, rfl, rfl, SqL.of upd_same, rfl, s₁, _, _, _, rfl, rfl, SqL.of (hs' _), hz, _, rfl, _, _, rfl, rfl, ⟨by decide, by decide, by decide⟩, _, _, rfl, rfl, _, rfl, ?_⟩
    refine ite2 (fun _ => ?_) (fun _ => ?_)
    · refine ⟨_, rfl, _, rfl, t₁, _, _, _, rfl, rfl, SqL.of upd_same, rfl, s₁, _, _, _, rfl, rfl, SqL.of (hs' _), hz, _, rfl, _, rfl, t₁, _, _, _, rfl, rfl, upd_same, rfl, ?_⟩
      rw [upd_upd]
      refine ⟨_, rfl, t₁, _, _, _, rfl, rfl, SqL.of upd_same, rfl, _, _, rfl, rfl, _, rfl, t₁, _, _, _, rfl, rfl, upd_same, rfl, ?_⟩
      rw [upd_upd]
      exact ⟨_, by omega, _, r + 1, rfl, rfl, by split <;> omega, by omega, rfl⟩
    · refine ⟨_, rfl, t₁, _, _, _, rfl, rfl, SqL.of upd_same, rfl, _, _, rfl, rfl, _, rfl, t₁, _, _, _, rfl, rfl, upd_same, rfl, ?_⟩
      rw [upd_upd]
      exact ⟨_, by omega, 0, r + 1, rfl, rfl, by omega, by omega, rfl⟩
  by_cases c1 : q = 0
  · refine iteD1 (by rw [c1]) ?_
    refine ⟨_, rfl, t₁, _, _, _, rfl, rfl, SqL.of upd_same, rfl, _, rfl, s₁, _, rfl, .inl (SqL.of (hs' _)), _, _, rfl, rfl, _, rfl, ?_⟩
    refine iteD0 (by rw [hl]; exact fun z => c ⟨c1, z⟩) ?_
    refine ⟨_, rfl, t₁, _, _, _, rfl, rfl, SqL.of upd_same, rfl, _, _, rfl, rfl, _, rfl, ?_⟩
    refine ite2 (fun _ => ?_) (fun _ => ?_)
    · refine ⟨_, rfl, t₁, _, _, _, rfl, rfl, SqL.of upd_same, rfl, ?_⟩
      refine ⟨_, rfl, _, rfl, _, _, rfl, rfl, ⟨hm0, hm1⟩, _, rfl, t₁, _, _, _, rfl, rfl, upd_same, rfl, ?_⟩
      refine ⟨_, rfl, _, rfl, _, _, rfl, rfl, hm0, ?_⟩
      rw [upd_upd]
      exact k _ _ (Int.emod_nonneg _ (by omega)) (Int.emod_lt_of_pos _ hm0) (tap (q / m) r (Int.ediv_nonneg hq (by omega)) hr')
    · refine ⟨_, rfl, s₁, _, rfl, .inl (SqL.of (hs' _)), _, _, rfl, rfl, _, rfl, ?_⟩
      refine ite2 (fun c9 => ?_) (fun _ => ?_)
      · have c8 : (0 : Int) < (ns.length : Int) := by
          have c7 : (0 : Int) < ((ns.map V.int).length : Int) := of_decide_eq_true c9
          rw [hl] at c7; exact c7
        obtain ⟨z, hz⟩ := pickI (ns := ns) (r := p % (ns.length : Int)) (Int.emod_nonneg _ (by omega)) (Int.emod_lt_of_pos _ c8)
        rw [← hl] at hz c8
        refine ⟨_, rfl, _, rfl, _, rfl, s₁, _, rfl, .inl (SqL.of (hs' _)), _, _, rfl, rfl, c8, s₁, _, _, _, rfl, rfl, SqL.of (hs' _), hz, ?_⟩
        refine ⟨_, rfl, _, _, rfl, rfl, (by show (0 : Int) < _; decide), _, _, rfl, rfl, _, rfl, _, _, rfl, rfl, (by show (0 : Int) < _; decide), _, _, rfl, rfl, .inl ⟨by omega, by omega⟩, _, _, rfl, rfl, _, rfl, _, _, rfl, rfl, _, _, rfl, rfl, .inl ⟨by omega, by omega⟩, _, _, rfl, rfl, (by show (0 : Int) < _; decide), ?_⟩
        refine ⟨_, rfl, _, rfl, _, _, rfl, rfl, .inl ⟨by omega, by omega⟩, _, rfl, _, _, rfl, rfl, .inl ⟨by omega, by omega⟩, _, _, rfl, rfl, _, rfl, _, _, rfl, rfl, _, _, rfl, rfl, (by show (0 : Int) < _; decide), ?_⟩
        refine ⟨_, rfl, _, _, rfl, rfl, .inl ⟨by omega, by omega⟩, _, _, rfl, rfl, (by show (0 : Int) < _; decide), _, rfl, _, _, rfl, rfl, hm0, ?_⟩
        exact k _ _ (Int.emod_nonneg _ (by omega)) (Int.emod_lt_of_pos _ hm0) (tap q r hq hr')
      · refine ⟨_, rfl, _, _, rfl, rfl, (by show (0 : Int) < _; decide), _, _, rfl, rfl, _, rfl, _, _, rfl, rfl, (by show (0 : Int) < _; decide), _, _, rfl, rfl, .inl ⟨by omega, by omega⟩, _, _, rfl, rfl, _, rfl, _, _, rfl, rfl, _, _, rfl, rfl, .inl ⟨by omega, by omega⟩, _, _, rfl, rfl, (by show (0 : Int) < _; decide), ?_⟩
        refine ⟨_, rfl, _, rfl, _, _, rfl, rfl, .inl ⟨by omega, by omega⟩, _, rfl, _, _, rfl, rfl, .inl ⟨by omega, by omega⟩, _, _, rfl, rfl, _, rfl, _, _, rfl, rfl, _, _, rfl, rfl, (by show (0 : Int) < _; decide), ?_⟩
        refine ⟨_, rfl, _, _, rfl, rfl, .inl ⟨by omega, by omega⟩, _, _, rfl, rfl, (by show (0 : Int) < _; decide), _, rfl, _, _, rfl, rfl, hm0, ?_⟩
        exact k _ _ (Int.emod_nonneg _ (by omega)) (Int.emod_lt_of_pos _ hm0) (tap q r hq hr')
  · refine iteD0 (fun z => c1 (by injection z)) (iteF ?_)
    refine ⟨_, rfl, t₁, _, _, _, rfl, rfl, SqL.of upd_same, rfl, _, _, rfl, rfl, _, rfl, ?_⟩
    refine ite2 (fun _ => ?_) (fun _ => ?_)
    · refine ⟨_, rfl, t₁, _, _, _, rfl, rfl, SqL.of upd_same, rfl, ?_⟩
      refine ⟨_, rfl, _, rfl, _, _, rfl, rfl, ⟨hm0, hm1⟩, _, rfl, t₁, _, _, _, rfl, rfl, upd_same, rfl, ?_⟩
      refine ⟨_, rfl, _, rfl, _, _, rfl, rfl, hm0, ?_⟩
      rw [upd_upd]
      exact k _ _ (Int.emod_nonneg _ (by omega)) (Int.emod_lt_of_pos _ hm0) (tap (q / m) r (Int.ediv_nonneg hq (by omega)) hr')
    · refine ⟨_, rfl, s₁, _, rfl, .inl (SqL.of (hs' _)), _, _, rfl, rfl, _, rfl, ?_⟩
      refine ite2 (fun c9 => ?_) (fun _ => ?_)
      · have c8 : (0 : Int) < (ns.length : Int) := by
          have c7 : (0 : Int) < ((ns.map V.int).length : Int) := of_decide_eq_true c9
          rw [hl] at c7; exact c7
        obtain ⟨z, hz⟩ := pickI (ns := ns) (r := p % (ns.length : Int)) (Int.emod_nonneg _ (by omega)) (Int.emod_lt_of_pos _ c8)
        rw [← hl] at hz c8
        refine ⟨_, rfl, _, rfl, _, rfl, s₁, _, rfl, .inl (SqL.of (hs' _)), _, _, rfl, rfl, c8, s₁, _, _, _, rfl, rfl, SqL.of (hs' _), hz, ?_⟩
        refine ⟨_, rfl, _, _, rfl, rfl, (by show (0 : Int) < _; decide), _, _, rfl, rfl, _, rfl, _, _, rfl, rfl, (by show (0 : Int) < _; decide), _, _, rfl, rfl, .inl ⟨by omega, by omega⟩, _, _, rfl, rfl, _, rfl, _, _, rfl, rfl, _, _, rfl, rfl, .inl ⟨by omega, by omega⟩, _, _, rfl, rfl, (by show (0 : Int) < _; decide), ?_⟩
        refine ⟨_, rfl, _, rfl, _, _, rfl, rfl, .inl ⟨by omega, by omega⟩, _, rfl, _, _, rfl, rfl, .inl ⟨by omega, by omega⟩, _, _, rfl, rfl, _, rfl, _, _, rfl, rfl, _, _, rfl, rfl, (by show (0 : Int) < _; decide), ?_⟩
        refine ⟨_, rfl, _, _, rfl, rfl, .inl ⟨by omega, by omega⟩, _, _, rfl, rfl, (by show (0 : Int) < _; decide), _, rfl, _, _, rfl, rfl, hm0, ?_⟩
        exact k _ _ (Int.emod_nonneg _ (by omega)) (Int.emod_lt_of_pos _ hm0) (tap q r hq hr')
      · refine ⟨_, rfl, _, _, rfl, rfl, (by show (0 : Int) < _; decide), _, _, rfl, rfl, _, rfl, _, _, rfl, rfl, (by show (0 : Int) < _; decide), _, _, rfl, rfl, .inl ⟨by omega, by omega⟩, _, _, rfl, rfl, _, rfl, _, _, rfl, rfl, _, _, rfl, rfl, .inl ⟨by omega, by omega⟩, _, _, rfl, rfl, (by show (0 : Int) < _; decide), ?_⟩
        refine ⟨_, rfl, _, rfl, _, _, rfl, rfl, .inl ⟨by omega, by omega⟩, _, rfl, _, _, rfl, rfl, .inl ⟨by omega, by omega⟩, _, _, rfl, rfl, _, rfl, _, _, rfl, rfl, _, _, rfl, rfl, (by show (0 : Int) < _; decide), ?_⟩
        refine ⟨_, rfl, _, _, rfl, rfl, .inl ⟨by omega, by omega⟩, _, _, rfl, rfl, (by show (0 : Int) < _; decide), _, rfl, _, _, rfl, rfl, hm0, ?_⟩
        exact k _ _ (Int.emod_nonneg _ (by omega)) (Int.emod_lt_of_pos _ hm0) (tap q r hq hr')
theorem ok_law_gcd (T : Txt K mg t) : FnOk P w K mg base CX0 1 t.a_law_gcd t.d_law_gcd ["_law_one", "_law_other"] (sp_law_gcd K) := by
  refine T.F_law_gcd.ok sc_law_gcd (fun vs H Q E h => ?_) (fun cdv A outer s H vs Q E hr h => ?_)
  · obtain ⟨_, _, rfl, _⟩ := h; rfl
  obtain ⟨a, b, rfl, ha, hb, k⟩ := h
  refine QSs.ok (qss_cons (qs_while PassesOwn.never (qt_cmpR op_ne (qv 1) qe_int (nomark _))
      (qss_one (qs_par (i := 0) (j := 1) rfl sc_law_gcd.nd rfl rfl (by decide) rfl rfl (qa_cons (qv 1) (qa_cons (qe_op op_mod (qv 0) (qv 1)) qa_nil star_bin) star_name) rfl)))
      (qss_one (qs_ret (qv 0)))) ?_
  refine ⟨fun m σ H' => ∃ (x y : Int), σ = [some (.int x), some (.int y)] ∧ H' = H ∧ 0 ≤ x ∧ 0 ≤ y ∧ Int.gcd x y = Int.gcd a b ∧ m = y.toNat, ⟨_, _, _, rfl, rfl, ha, hb, rfl, rfl⟩, ?_⟩
  rintro m σ H' ⟨x, y, rfl, rfl, hx, hy, hg, rfl⟩
  refine ⟨_, rfl, rfl, _, rfl, ?_⟩
  by_cases c : y = 0
  · subst c
    refine iteNS rfl ?_
    rw [← hg] at k
    refine ⟨_, rfl, ?_⟩
    have e : (x : Int) = (Int.gcd x 0 : Nat) := by simp [Int.gcd]; omega
    rw [← e] at k
    exact k
  · refine iteN1 (fun z => c (by injection z)) ?_
    refine ⟨_, fun _ _ z => z, ?_⟩
    refine ⟨_, rfl, _, rfl, _, rfl, _, _, rfl, rfl, (by omega), _, _, rfl, ?_⟩
    refine ⟨_, ?_, y, x % y, rfl, rfl, hy, Int.emod_nonneg _ c, ?_, rfl⟩
    · have := Int.emod_lt_of_pos x (show 0 < y by omega)
      have := Int.emod_nonneg x c
      omega
    · rw [gcd_turn hx (by omega), hg]
theorem ok_law_ratio (T : Txt K mg t) : FnOk P w K mg base CX0 2 t.a_law_ratio t.d_law_ratio ["_law_top", "_law_bottom"] (sp_law_ratio K) := by
  refine T.F_law_ratio.ok sc_law_ratio (fun vs H Q E h => ?_) (fun cdv A outer s H vs Q E hr h => ?_)
  · obtain ⟨_, _, rfl, _⟩ := h; rfl
  obtain ⟨a, b, rfl, hb, hz, k⟩ := h
  refine QSs.ok (qss_cons (qs_set (i := 2) sc_law_ratio.nd rfl (by first | exact Or.inl rfl | exact Or.inr rfl) (qe_call (ok_law_gcd T) (hr.mono (by decide)) rfl T.m_law_gcd T.F_law_gcd.kp T.b_law_gcd .nil pass0 (qa_cons (qe_callB call_abs (by rfl) T.z_abs PyProof.Rows.boot_abs (qa_cons (qv 0) qa_nil star_name)) (qa_cons (qe_callB call_abs (by rfl) T.z_abs PyProof.Rows.boot_abs (qa_cons (qv 1) qa_nil star_name)) qa_nil star_call) star_call)))
      (qss_cons (qs_if (qt_cmpR op_lt (qv 1) qe_int (nomark _)) (qss_one (qs_set (i := 2) sc_law_ratio.nd rfl (by first | exact Or.inl rfl | exact Or.inr rfl) (qe_un un_neg (qv 2)))) qss_nil)
      (qss_one (qs_ret (qe_tup (qa_cons (qe_op op_quoN (qv 0) (qv 2)) (qa_cons (qe_op op_quoN (qv 1) (qv 2)) qa_nil star_bin) star_bin)))))) ?_
  have gp := gcd_posN (a := a) hb
  have gb := gcd_big (a := a) hb hz
  refine ⟨_, rfl, _, rfl, _, rfl, _, rfl, _, _, rfl, (by split <;> omega), (by split <;> omega), ?_⟩
  rw [abs_if, abs_if]
  have eg : Int.gcd (a.natAbs : Int) (b.natAbs : Int) = Int.gcd a b := by simp [Int.gcd]
  rw [eg]
  refine ⟨_, rfl, _, _, rfl, rfl, _, rfl, ?_⟩
  by_cases hn : b < 0
  · refine iteD1 hn ?_
    rw [← mkS_neg1 hn] at k
    have gm : (-((Int.gcd a b : Nat) : Int)).natAbs < 2 ^ 4000 := by rw [Int.natAbs_neg]; exact gb
    refine ⟨_, rfl, _, rfl, ?_⟩
    refine ⟨_, rfl, _, rfl, _, _, rfl, rfl, ⟨by omega, gm⟩, _, rfl, _, rfl, _, _, rfl, rfl, ⟨by omega, gm⟩, (by show 2 ≤ sizeLine; decide), fun p hp => ?_⟩
    exact k p hp
  · refine iteD0 hn ?_
    rw [← mkS_pos1 (by omega : 0 < b)] at k
    refine ⟨_, rfl, _, rfl, _, _, rfl, rfl, ⟨by omega, gb⟩, _, rfl, _, rfl, _, _, rfl, rfl, ⟨by omega, gb⟩, (by show 2 ≤ sizeLine; decide), fun p hp => ?_⟩
    exact k p hp
theorem ok_law_plus (T : Txt K mg t) : FnOk P w K mg base CX0 3 t.a_law_plus t.d_law_plus ["_law_one", "_law_other"] (sp_law_plus K) := by
  refine T.F_law_plus.ok sc_law_plus (fun vs H Q E h => ?_) (fun cdv A outer s H vs Q E hr h => ?_)
  · obtain ⟨_, _, _, _, _, _, rfl, _⟩ := h; rfl
  obtain ⟨v, w, r, q, n, m, rfl, hv, hw, wr, wq, hz, k⟩ := h
  refine QSs.ok (qss_one (qs_ret (qe_call (ok_law_ratio T) (hr.mono (by decide)) rfl T.m_law_ratio T.F_law_ratio.kp T.b_law_ratio .nil pass0 (qa_cons (qe_op op_add (qe_op op_mulB (qe_ix ix_tup (qv 0) qe_int (fun _ _ => rfl)) (qe_ix ix_tup (qv 1) qe_int (fun _ _ => rfl))) (qe_op op_mulB (qe_ix ix_tup (qv 1) qe_int (fun _ _ => rfl)) (qe_ix ix_tup (qv 0) qe_int (fun _ _ => rfl)))) (qa_cons (qe_op op_mulB (qe_ix ix_tup (qv 0) qe_int (fun _ _ => rfl)) (qe_ix ix_tup (qv 1) qe_int (fun _ _ => rfl))) qa_nil star_bin) star_bin)))) ?_
  obtain ⟨p, rfl, hv⟩ := hv
  obtain ⟨p', rfl, hw⟩ := hw
  have c1 := big_of wr.top (show n ≤ 4000 by omega)
  have c2 := big_of wr.bot (show n ≤ 4000 by omega)
  have c3 := big_of wq.top (show m ≤ 4000 by omega)
  have c4 := big_of wq.bot (show m ≤ 4000 by omega)
  have bp := Int.mul_pos wr.pos wq.pos
  refine ⟨_, rfl, p, _, _, _, rfl, rfl, hv, rfl, _, rfl, p', _, _, _, rfl, rfl, hw, rfl, _, _, rfl, rfl, ⟨c1, c4⟩, _, rfl, p', _, _, _, rfl, rfl, hw, rfl, _, rfl, p, _, _, _, rfl, rfl, hv, rfl, _, _, rfl, rfl, ⟨c3, c2⟩, _, _, rfl, rfl, _, rfl, p, _, _, _, rfl, rfl, hv, rfl, _, rfl, p', _, _, _, rfl, rfl, hw, rfl, _, _, rfl, rfl, ⟨c2, c4⟩, _, _, rfl, Int.ne_of_gt bp, big_of (mul_lt wr.bot wq.bot) (by omega), (by rw [mkS_pos bp]; exact k)⟩
theorem ok_law_minus (T : Txt K mg t) : FnOk P w K mg base CX0 3 t.a_law_minus t.d_law_minus ["_law_one", "_law_other"] (sp_law_minus K) := by
  refine T.F_law_minus.ok sc_law_minus (fun vs H Q E h => ?_) (fun cdv A outer s H vs Q E hr h => ?_)
  · obtain ⟨_, _, _, _, _, _, rfl, _⟩ := h; rfl
  obtain ⟨v, w, r, q, n, m, rfl, hv, hw, wr, wq, hz, k⟩ := h
  refine QSs.ok (qss_one (qs_ret (qe_call (ok_law_ratio T) (hr.mono (by decide)) rfl T.m_law_ratio T.F_law_ratio.kp T.b_law_ratio .nil pass0 (qa_cons (qe_op op_sub (qe_op op_mulB (qe_ix ix_tup (qv 0) qe_int (fun _ _ => rfl)) (qe_ix ix_tup (qv 1) qe_int (fun _ _ => rfl))) (qe_op op_mulB (qe_ix ix_tup (qv 1) qe_int (fun _ _ => rfl)) (qe_ix ix_tup (qv 0) qe_int (fun _ _ => rfl)))) (qa_cons (qe_op op_mulB (qe_ix ix_tup (qv 0) qe_int (fun _ _ => rfl)) (qe_ix ix_tup (qv 1) qe_int (fun _ _ => rfl))) qa_nil star_bin) star_bin)))) ?_
  obtain ⟨p, rfl, hv⟩ := hv
  obtain ⟨p', rfl, hw⟩ := hw
  have c1 := big_of wr.top (show n ≤ 4000 by omega)
  have c2 := big_of wr.bot (show n ≤ 4000 by omega)
  have c3 := big_of wq.top (show m ≤ 4000 by omega)
  have c4 := big_of wq.bot (show m ≤ 4000 by omega)
  have bp := Int.mul_pos wr.pos wq.pos
  refine ⟨_, rfl, p, _, _, _, rfl, rfl, hv, rfl, _, rfl, p', _, _, _, rfl, rfl, hw, rfl, _, _, rfl, rfl, ⟨c1, c4⟩, _, rfl, p', _, _, _, rfl, rfl, hw, rfl, _, rfl, p, _, _, _, rfl, rfl, hv, rfl, _, _, rfl, rfl, ⟨c3, c2⟩, _, _, rfl, rfl, _, rfl, p, _, _, _, rfl, rfl, hv, rfl, _, rfl, p', _, _, _, rfl, rfl, hw, rfl, _, _, rfl, rfl, ⟨c2, c4⟩, _, _, rfl, Int.ne_of_gt bp, big_of (mul_lt wr.bot wq.bot) (by omega), (by rw [mkS_pos bp]; exact k)⟩
theorem ok_law_times (T : Txt K mg t) : FnOk P w K mg base CX0 3 t.a_law_times t.d_law_times ["_law_one", "_law_other"] (sp_law_times K) := by
  refine T.F_law_times.ok sc_law_times (fun vs H Q E h => ?_) (fun cdv A outer s H vs Q E hr h => ?_)
  · obtain ⟨_, _, _, _, _, _, rfl, _⟩ := h; rfl
  obtain ⟨v, w, r, q, n, m, rfl, hv, hw, wr, wq, hz, k⟩ := h
  refine QSs.ok (qss_one (qs_ret (qe_call (ok_law_ratio T) (hr.mono (by decide)) rfl T.m_law_ratio T.F_law_ratio.kp T.b_law_ratio .nil pass0 (qa_cons (qe_op op_mulB (qe_ix ix_tup (qv 0) qe_int (fun _ _ => rfl)) (qe_ix ix_tup (qv 1) qe_int (fun _ _ => rfl))) (qa_cons (qe_op op_mulB (qe_ix ix_tup (qv 0) qe_int (fun _ _ => rfl)) (qe_ix ix_tup (qv 1) qe_int (fun _ _ => rfl))) qa_nil star_bin) star_bin)))) ?_
  obtain ⟨p, rfl, hv⟩ := hv
  obtain ⟨p', rfl, hw⟩ := hw
  have c1 := big_of wr.top (show n ≤ 4000 by omega)
  have c2 := big_of wr.bot (show n ≤ 4000 by omega)
  have c3 := big_of wq.top (show m ≤ 4000 by omega)
  have c4 := big_of wq.bot (show m ≤ 4000 by omega)
  have bp := Int.mul_pos wr.pos wq.pos
  refine ⟨_, rfl, p, _, _, _, rfl, rfl, hv, rfl, _, rfl, p', _, _, _, rfl, rfl, hw, rfl, _, _, rfl, rfl, ⟨c1, c3⟩, _, rfl, p, _, _, _, rfl, rfl, hv, rfl, _, rfl, p', _, _, _, rfl, rfl, hw, rfl, _, _, rfl, rfl, ⟨c2, c4⟩, _, _, rfl, Int.ne_of_gt bp, big_of (mul_lt wr.bot wq.bot) (by omega), (by rw [mkS_pos bp]; exact k)⟩
theorem ok_law_less (T : Txt K mg t) : FnOk P w K mg base CX0 1 t.a_law_less t.d_law_less ["_law_one", "_law_other"] (sp_law_less K) := by
  refine T.F_law_less.ok sc_law_less (fun vs H Q E h => ?_) (fun cdv A outer s H vs Q E hr h => ?_)
  · obtain ⟨_, _, _, _, _, _, rfl, _⟩ := h; rfl
  obtain ⟨v, w, r, q, n, m, rfl, hv, hw, wr, wq, hz, k⟩ := h
  refine QSs.ok (qss_one (qs_ret (qe_cmpR op_lt (qe_op op_mulB (qe_ix ix_tup (qv 0) qe_int (fun _ _ => rfl)) (qe_ix ix_tup (qv 1) qe_int (fun _ _ => rfl))) (qe_op op_mulB (qe_ix ix_tup (qv 1) qe_int (fun _ _ => rfl)) (qe_ix ix_tup (qv 0) qe_int (fun _ _ => rfl))) (nomark _)))) ?_
  obtain ⟨p, rfl, hv⟩ := hv
  obtain ⟨p', rfl, hw⟩ := hw
  have c1 := big_of wr.top (show n ≤ 4000 by omega)
  have c2 := big_of wr.bot (show n ≤ 4000 by omega)
  have c3 := big_of wq.top (show m ≤ 4000 by omega)
  have c4 := big_of wq.bot (show m ≤ 4000 by omega)
  refine ⟨_, rfl, p, _, _, _, rfl, rfl, hv, rfl, _, rfl, p', _, _, _, rfl, rfl, hw, rfl, _, _, rfl, rfl, ⟨c1, c4⟩, _, rfl, p', _, _, _, rfl, rfl, hw, rfl, _, rfl, p, _, _, _, rfl, rfl, hv, rfl, _, _, rfl, rfl, ⟨c3, c2⟩, _, _, rfl, rfl, k⟩
theorem ok_law_part (T : Txt K mg t) : FnOk P w K mg base CX0 3 t.a_law_part t.d_law_part ["_law_tape_here"] (sp_law_part K) := by
  refine T.F_law_part.ok sc_law_part (fun vs H Q E h => ?_) (fun cdv A outer s H vs Q E hr h => ?_)
  · obtain ⟨_, _, rfl, _⟩ := h; rfl
  obtain ⟨t₁, s₀, rfl, T0, k⟩ := h
  refine QSs.ok (qss_cons (qs_set (i := 1) sc_law_part.nd rfl (by first | exact Or.inl rfl | exact Or.inr rfl) (qe_lst (qa_cons qe_int (qa_cons qe_int (qa_cons qe_int (qa_cons qe_int (qa_cons (qe_op op_add qe_int (qe_call (ok_law_draw T) (hr.mono (by decide)) rfl T.m_law_draw T.F_law_draw.kp T.b_law_draw .nil pass0 (qa_cons (qv 0) (qa_cons qe_int qa_nil star_con) star_name))) (qa_cons (qe_op op_add qe_int (qe_call (ok_law_draw T) (hr.mono (by decide)) rfl T.m_law_draw T.F_law_draw.kp T.b_law_draw .nil pass0 (qa_cons (qv 0) (qa_cons qe_int qa_nil star_con) star_name))) (qa_cons (qe_op op_add (qe_op op_pow qe_int qe_int) qe_int) qa_nil star_bin) star_bin) star_bin) star_con) star_con) star_con) star_con)))
      (qss_cons (qs_set (i := 2) sc_law_part.nd rfl (by first | exact Or.inl rfl | exact Or.inr rfl) (qe_lst (qa_cons qe_int (qa_cons qe_int (qa_cons qe_int (qa_cons qe_int (qa_cons qe_int (qa_cons qe_int (qa_cons (qe_op op_add qe_int (qe_call (ok_law_draw T) (hr.mono (by decide)) rfl T.m_law_draw T.F_law_draw.kp T.b_law_draw .nil pass0 (qa_cons (qv 0) (qa_cons qe_int qa_nil star_con) star_name))) (qa_cons (qe_op op_pow qe_int qe_int) qa_nil star_bin) star_bin) star_con) star_con) star_con) star_con) star_con) star_con)))
      (qss_one (qs_ret (qe_call (ok_law_ratio T) (hr.mono (by decide)) rfl T.m_law_ratio T.F_law_ratio.kp T.b_law_ratio .nil pass0 (qa_cons (qe_ix ix_list (qv 1) (qe_call (ok_law_draw T) (hr.mono (by decide)) rfl T.m_law_draw T.F_law_draw.kp T.b_law_draw .nil pass0 (qa_cons (qv 0) (qa_cons qe_int qa_nil star_con) star_name)) (fun _ _ => rfl)) (qa_cons (qe_ix ix_list (qv 2) (qe_call (ok_law_draw T) (hr.mono (by decide)) rfl T.m_law_draw T.F_law_draw.kp T.b_law_draw .nil pass0 (qa_cons (qv 0) (qa_cons qe_int qa_nil star_con) star_name)) (fun _ _ => rfl)) qa_nil star_sub) star_sub)))))) ?_
  refine ⟨_, rfl, t₁, s₀, 40, rfl, T0, by decide, by decide, fun r1 x1 a1 b1 T1 => ⟨_, _, rfl, rfl, _, rfl, t₁, s₀, 60000, rfl, T1, by decide, by decide, fun r2 x2 a2 b2 T2 => ⟨_, _, rfl, rfl, _, _, rfl, rfl, ⟨by decide, by decide, by decide⟩, _, _, rfl, rfl, (by show 7 ≤ sizeLine; decide), fun l1 g1 => ?_⟩⟩⟩
  have T3 := T2.new g1 (.lst [.int 1, .int 2, .int 3, .int 5, .int (1 + r1), .int (1 + r2), .int (10 ^ 9 + 7)])
  refine ⟨_, rfl, t₁, s₀, 30, rfl, T3, by decide, by decide, fun r3 x3 a3 b3 T4 => ⟨_, _, rfl, rfl, _, _, rfl, rfl, ⟨by decide, by decide, by decide⟩, (by show 8 ≤ sizeLine; decide), fun l2 g2 => ?_⟩⟩
  have T5 := T4.new g2 (.lst [.int 1, .int 1, .int 1, .int 2, .int 3, .int 6, .int (1 + r3), .int (10 ^ 9)])
  have n1 : l1 ≠ t₁ := fun z => by subst z; obtain ⟨_, e⟩ := T2.lst; rw [g1] at e; cases e
  have n2 : l2 ≠ t₁ := fun z => by subst z; obtain ⟨_, e⟩ := T4.lst; rw [g2] at e; cases e
  have n3 : l1 ≠ l2 := fun z => by subst z; rw [upd_ne n1, upd_same] at g2; cases g2
  refine ⟨_, rfl, _, rfl, t₁, s₀, 7, rfl, T5, by decide, by decide, fun r4 x4 a4 b4 T6 => ?_⟩
  obtain ⟨v1, hv1, m1⟩ := pick (xs := [.int 1, .int 2, .int 3, .int 5, .int (1 + r1), .int (1 + r2), .int (10 ^ 9 + 7)]) a4 b4
  refine ⟨l1, _, _, v1, rfl, rfl, SqL.of (by rw [upd_ne n1, upd_ne n3, upd_ne n1, upd_same] <;> rfl), hv1, ?_⟩
  refine ⟨_, rfl, _, rfl, t₁, s₀, 8, rfl, T6, by decide, by decide, fun r5 x5 a5 b5 T7 => ?_⟩
  obtain ⟨v2, hv2, m2⟩ := pick (xs := [.int 1, .int 1, .int 1, .int 2, .int 3, .int 6, .int (1 + r3), .int (10 ^ 9)]) a5 b5
  refine ⟨l2, _, _, v2, rfl, rfl, SqL.of (by rw [upd_ne n2, upd_ne n2, upd_same] <;> rfl), hv2, ?_⟩
  obtain ⟨z1, rfl, p1, q1⟩ : ∃ z : Int, v1 = .int z ∧ 0 < z ∧ z ≤ 1000000007 := by
    simp only [List.mem_cons, List.not_mem_nil, or_false] at m1
    rcases m1 with e | e | e | e | e | e | e
    all_goals exact ⟨_, e, by omega, by omega⟩
  obtain ⟨z2, rfl, p2, q2, d2⟩ : ∃ z : Int, v2 = .int z ∧ 0 < z ∧ z < 2 ^ 31 ∧ z ∣ (D0 : Int) := by
    simp only [List.mem_cons, List.not_mem_nil, or_false] at m2
    rcases m2 with e | e | e | e | e | e | e | e
    · exact ⟨_, e, by decide, by decide, by decide⟩
    · exact ⟨_, e, by decide, by decide, by decide⟩
    · exact ⟨_, e, by decide, by decide, by decide⟩
    · exact ⟨_, e, by decide, by decide, by decide⟩
    · exact ⟨_, e, by decide, by decide, by decide⟩
    · exact ⟨_, e, by decide, by decide, by decide⟩
    · exact ⟨_, e, by omega, by omega, div30 a3 b3⟩
    · exact ⟨_, e, by decide, by decide, by decide⟩
  have w2 : z2.natAbs < 2 ^ 31 := by omega
  refine ⟨z1, z2, rfl, by omega, big_of w2 (by decide), ?_⟩
  rw [mkS_pos p2]
  intro p hp
  have S := (((((((Step.up (ys := x1) T0.lst.choose_spec).trans (Step.up (ys := x2) upd_same)).trans (Step.new ⟨_, upd_same⟩ g1 _)).trans (Step.up (ys := x3) T3.lst.choose_spec)).trans (Step.new T4.lst g2 _)).trans (Step.up (ys := x4) T5.lst.choose_spec)).trans (Step.up (ys := x5) T6.lst.choose_spec)).trans (Step.new T7.lst hp (.tup [.int (mkR z1 z2).1, .int (mkR z1 z2).2]))
  exact k _ (mkR z1 z2) _ (part_ok p1 q1 p2 d2) S (T7.new hp _) (RV.of upd_same)
theorem ok_law_table (T : Txt K mg t) : FnOk P w K mg base CX0 4 t.a_law_table t.d_law_table ["_law_tape_here"] (sp_law_table K) := by
  refine T.F_law_table.ok sc_law_table (fun vs H Q E h => ?_) (fun cdv A outer s H vs Q E hr h => ?_)
  · obtain ⟨_, _, rfl, _⟩ := h; rfl
  obtain ⟨t₁, s₀, rfl, T0, k⟩ := h
  refine QSs.ok (qss_cons (qs_set (i := 1) sc_law_table.nd rfl (by first | exact Or.inl rfl | exact Or.inr rfl) (qe_lst (qa_cons (qe_tup (qa_cons (qe_tup (qa_cons qe_int (qa_cons qe_int qa_nil star_con) star_con)) (qa_cons (qe_ix ix_list (qe_lst (qa_cons (qe_tup (qa_cons qe_int (qa_cons qe_int qa_nil star_con) star_con)) (qa_cons (qe_call (ok_law_part T) (hr.mono (by decide)) rfl T.m_law_part T.F_law_part.kp T.b_law_part .nil pass0 (qa_cons (qv 0) qa_nil star_name)) qa_nil star_call) star_tup)) (qe_call (ok_law_draw T) (hr.mono (by decide)) rfl T.m_law_draw T.F_law_draw.kp T.b_law_draw .nil pass0 (qa_cons (qv 0) (qa_cons qe_int qa_nil star_con) star_name)) (fun _ _ => rfl)) qa_nil star_sub) star_tup)) qa_nil star_tup)))
      (qss_cons (qs_set (i := 2) sc_law_table.nd rfl (by first | exact Or.inl rfl | exact Or.inr rfl) (qe_call (ok_law_part T) (hr.mono (by decide)) rfl T.m_law_part T.F_law_part.kp T.b_law_part .nil pass0 (qa_cons (qv 0) qa_nil star_name)))
      (qss_cons (qs_for PassesOwn.never rfl (qi_range1 rfl T.z_range (qa_cons (qe_ix ix_list (qe_lst (qa_cons qe_int (qa_cons qe_int (qa_cons qe_int (qa_cons qe_int (qa_cons qe_int qa_nil star_con) star_con) star_con) star_con) star_con)) (qe_call (ok_law_draw T) (hr.mono (by decide)) rfl T.m_law_draw T.F_law_draw.kp T.b_law_draw .nil pass0 (qa_cons (qv 0) (qa_cons qe_int qa_nil star_con) star_name)) (fun _ _ => rfl)) qa_nil star_sub)) (qg_name (i := 3) sc_law_table.nd rfl (by first | exact Or.inl rfl | exact Or.inr rfl))
      (qss_cons (qs_set (i := 4) sc_law_table.nd rfl (by first | exact Or.inl rfl | exact Or.inr rfl) (qe_call (ok_law_part T) (hr.mono (by decide)) rfl T.m_law_part T.F_law_part.kp T.b_law_part .nil pass0 (qa_cons (qv 0) qa_nil star_name)))
      (qss_cons (qs_asg (qe_ix ix_list (qv 1) (qe_un un_neg qe_int) (fun _ _ => rfl)) (qg_tup rfl (qgs_cons (qg_name (i := 5) sc_law_table.nd rfl (by first | exact Or.inl rfl | exact Or.inr rfl)) (qgs_cons (qg_name (i := 6) sc_law_table.nd rfl (by first | exact Or.inl rfl | exact Or.inr rfl)) qgs_nil))))
      (qss_cons (qs_expr (qe_bm PySem.F.plainAttrs_list PySem.F.slot_list_append PySem.F.type_list_append mt_append (qv 1) (qa_cons (qe_tup (qa_cons (qe_call (ok_law_plus T) (hr.mono (by decide)) rfl T.m_law_plus T.F_law_plus.kp T.b_law_plus .nil pass0 (qa_cons (qv 5) (qa_cons (qv 4) qa_nil star_name) star_name)) (qa_cons (qe_call (ok_law_plus T) (hr.mono (by decide)) rfl T.m_law_plus T.F_law_plus.kp T.b_law_plus .nil pass0 (qa_cons (qv 6) (qa_cons (qe_call (ok_law_times T) (hr.mono (by decide)) rfl T.m_law_times T.F_law_times.kp T.b_law_times .nil pass0 (qa_cons (qv 2) (qa_cons (qv 4) qa_nil star_name) star_name)) qa_nil star_call) star_name)) qa_nil star_call) star_call)) qa_nil star_tup)))
      (qss_one (qs_if (qt_cmpR op_gt (qe_call (ok_law_draw T) (hr.mono (by decide)) rfl T.m_law_draw T.F_law_draw.kp T.b_law_draw .nil pass0 (qa_cons (qv 0) (qa_cons qe_int qa_nil star_con) star_name)) qe_int (nomark _)) (qss_one (qs_set (i := 2) sc_law_table.nd rfl (by first | exact Or.inl rfl | exact Or.inr rfl) (qe_call (ok_law_plus T) (hr.mono (by decide)) rfl T.m_law_plus T.F_law_plus.kp T.b_law_plus .nil pass0 (qa_cons (qv 2) (qa_cons (qe_call (ok_law_part T) (hr.mono (by decide)) rfl T.m_law_part T.F_law_part.kp T.b_law_part .nil pass0 (qa_cons (qv 0) qa_nil star_name)) qa_nil star_call) star_name)))) qss_nil))))))
      (qss_one (qs_ret (qe_tup (qa_cons qe_str (qa_cons (qe_callTy call_tuple_of (by rfl) T.z_tuple PyProof.Rows.boot_tuple (qa_cons (qv 1) qa_nil star_name)) qa_nil star_call) star_con))))))) ?_
  refine ⟨(by show 2 ≤ sizeLine; decide), fun p0 h0 => ⟨(by show 2 ≤ sizeLine; decide), fun p1 h1 => ⟨_, rfl, t₁, s₀, rfl, (T0.new h0 _).new h1 _, fun v r Ha oka Sa Ta hv => ⟨(by show 2 ≤ sizeLine; decide), fun l hl => ?_⟩⟩⟩⟩
  have Tb := Ta.new hl (.lst [.ref p1, v])
  refine ⟨_, rfl, t₁, s₀, 2, rfl, Tb, by decide, by decide, fun r1 x1 a1 b1 Tc => ?_⟩
  have nl : l ≠ t₁ := fun z => by subst z; obtain ⟨_, e⟩ := Ta.lst; rw [hl] at e; cases e
  obtain ⟨vp, hvp, mvp⟩ := pick (xs := [.ref p1, v]) a1 b1
  refine ⟨l, _, _, vp, rfl, rfl, SqL.of (by rw [upd_ne nl, upd_same] <;> rfl), hvp, ?_⟩
  have Sf : Step t₁ _ _ := Step.up (ys := x1) Tb.lst.choose_spec
  have m0 := same_new h0 (.tup [.int 0, .int 1])
  have m1 := same_new h1 (.tup [.int 0, .int 1])
  have ml := same_new hl (.lst [.ref p1, v])
  have Sab : Step t₁ (upd (upd H p0 (.tup [.int 0, .int 1])) p1 (.tup [.int 0, .int 1])) _ := (Sa.trans (Step.same ml Ta.lst)).trans Sf
  have S0 : Step t₁ H _ := (Step.same (m0.trans m1) T0.lst).trans Sab
  have z0 : RV K (upd (upd H p0 (.tup [.int 0, .int 1])) p1 (.tup [.int 0, .int 1])) (.ref p0) (0, 1) := (rv_new (K := K) m0).mono (Tst.same m1)
  have z1 : RV K (upd (upd H p0 (.tup [.int 0, .int 1])) p1 (.tup [.int 0, .int 1])) (.ref p1) (0, 1) := rv_new (K := K) m1
  replace z0 := z0.mono (Tst.step Sab)
  replace z1 := z1.mono (Tst.step Sab)
  have zv := (hv.mono (Tst.same ml)).mono (Tst.step Sf)
  obtain ⟨y, by0, hy⟩ : ∃ y : R, Bq D0 N0 y ∧ RV K (upd (upd Ha l (.lst [.ref p1, v])) t₁ (.lst x1)) vp y := by
    simp only [List.mem_cons, List.not_mem_nil, or_false] at mvp
    rcases mvp with rfl | rfl
    · exact ⟨_, bq_zero, z1⟩
    · exact ⟨_, oka.bq, zv⟩
  clear z1 zv hvp Sf Sab ml m0 m1
  generalize (upd (upd Ha l (.lst [.ref p1, v])) t₁ (.lst x1)) = Hb at S0 Tc z0 hy ⊢
  refine ⟨(by show 2 ≤ sizeLine; decide), fun p2 h2 => ⟨(by show 1 ≤ sizeLine; decide), fun lr hlr => ?_⟩⟩
  have m2 := same_new h2 (.tup [.ref p0, vp])
  have m3 := same_new hlr (.lst [.ref p2])
  have T3 := (Tc.same m2).same m3
  have nlt : lr ≠ t₁ := fun z => by subst z; obtain ⟨_, e⟩ := (Tc.same m2).lst; rw [hlr] at e; cases e
  have nls : lr ≠ s₀ := fun z => by subst z; obtain ⟨_, e⟩ := (Tc.same m2).scr; rw [hlr] at e; cases e
  have rw0 : RowV K (upd (upd Hb p2 (.tup [.ref p0, vp])) lr (.lst [.ref p2])) (.ref p2) ((0, 1), y) := ⟨p2, _, _, rfl, SqT.of (m3 _ _ upd_same), (z0.mono (Tst.same m2)).mono (Tst.same m3), (hy.mono (Tst.same m2)).mono (Tst.same m3)⟩
  have S3 := S0.trans (Step.same (m2.trans m3) Tc.lst)
  have hl0 : (upd (upd Hb p2 (.tup [.ref p0, vp])) lr (.lst [.ref p2])) lr = some (.lst [.ref p2]) := upd_same
  have ne_lr : ∀ b o, H b = some o → b ≠ lr := fun b o q z => by
    subst z
    have : H b = none := by
      cases hb : H b with
      | none => rfl
      | some o' =>
        by_cases nb : b = t₁
        · exact absurd nb nlt
        · have := S0.keep _ _ nb hb
          have := m2 _ _ this
          rw [hlr] at this
          cases this
    rw [this] at q; cases q
  generalize (upd (upd Hb p2 (.tup [.ref p0, vp])) lr (.lst [.ref p2])) = Hc at T3 rw0 S3 hl0 ⊢
  refine ⟨_, rfl, t₁, s₀, rfl, T3, fun vs sl Hd okd Sd Td hvs => ?_⟩
  have hl1 := Sd.keep _ _ nlt hl0
  refine ⟨(by show 5 ≤ sizeLine; decide), fun l5 h5 => ?_⟩
  have T5 := Td.new h5 (.lst [.int 1, .int 2, .int 3, .int 5, .int 11])
  refine ⟨_, rfl, t₁, s₀, 5, rfl, T5, by decide, by decide, fun r2 x2 a2 b2 T6 => ?_⟩
  have n5 : l5 ≠ t₁ := fun z => by subst z; obtain ⟨_, e⟩ := Td.lst; rw [h5] at e; cases e
  obtain ⟨vn, hvn, mvn⟩ := pick (xs := [.int 1, .int 2, .int 3, .int 5, .int 11]) a2 b2
  refine ⟨l5, _, _, vn, rfl, rfl, SqL.of (by rw [upd_ne n5, upd_same] <;> rfl), hvn, ?_⟩
  obtain ⟨nn, rfl, n1, n11⟩ : ∃ z : Int, vn = .int z ∧ 1 ≤ z ∧ z ≤ 11 := by
    simp only [List.mem_cons, List.not_mem_nil, or_false] at mvn
    rcases mvn with e | e | e | e | e
    all_goals exact ⟨_, e, by omega, by omega⟩
  have S6 : Step t₁ Hd _ := (Step.same (same_new h5 (.lst [.int 1, .int 2, .int 3, .int 5, .int 11])) Td.lst).trans (Step.up (ys := x2) T5.lst.choose_spec)
  have S36 := (S3.trans Sd).trans S6
  have hl6 := S6.keep _ _ nlt hl1
  have rw6 := (rw0.mono (Tst.step Sd)).mono (Tst.step S6)
  have hv6 := hvs.mono (Tst.step S6)
  generalize (upd (upd Hd l5 (.lst [.int 1, .int 2, .int 3, .int 5, .int 11])) t₁ (.lst x2)) = He at T6 S36 hl6 rw6 hv6 ⊢
  refine ⟨nn, rfl, by omega, by omega, for_range (lo := 0) (n := nn.toNat) (fun i σ H' => ∃ (vs : V) (x3 x4 x5 x6 : Option V), σ = [some (.ref t₁), some (.ref lr), some vs, x3, x4, x5, x6] ∧ Tape H' t₁ s₀ ∧ (∀ b o, b ≠ t₁ → H b = some o → H' b = some o) ∧ ∃ xs rows sl, H' lr = some (.lst xs) ∧ Als (RowV K H') xs rows ∧ TabAt i rows ∧ RV K H' vs sl ∧ Bq D0 ((i + 1) * N0) sl) ⟨vs, none, none, none, none, rfl, T6, S36.keep, [.ref p2], _, sl, hl6, .cons rw6 .nil, tab_one by0, hv6, okd.bq.mono ⟨1, rfl⟩ (by omega)⟩ ?_ ?_⟩
  · rintro i σ H1 hi ⟨vs, x3, x4, x5, x6, rfl, T1, kp, xs, rows, sl, hlx, als, tab, hsl, bsl⟩
    have i10 : i ≤ 10 := by omega
    refine ⟨_, rfl, t₁, s₀, rfl, T1, fun v4 st H2 ok4 S2 T2 h4 => ?_⟩
    have hlx2 := S2.keep _ _ nlt hlx
    obtain ⟨xl, w, hat, hw, rvw, _⟩ := (als.mono fun _ _ z => z.mono (Tst.step (K := K) S2)).last tab.len
    obtain ⟨pw, y1, y2, exl, hSw, hy1, hy2⟩ := rvw
    have mw := List.mem_of_getElem? hw
    refine ⟨_, rfl, _, rfl, lr, xs, -1, xl, rfl, rfl, SqL.of hlx2, hat, ?_⟩
    refine ⟨pw, _, exl, hSw, rfl, _, _, rfl, _, _, rfl, rfl, ?_⟩
    have hsl2 := hsl.mono (Tst.step S2)
    have w4 := ok4.wf
    have wy1 := wf_sp (tab.sp w mw) (by omega)
    have wy2 := wf_pw (tab.pw w mw) (by omega)
    have wsl := wf_sp bsl (by omega)
    refine ⟨_, rfl, .inl ⟨rfl, _, SqL.of hlx2⟩, _, rfl, _, rfl, y1, v4, w.1, st, 98, 98, rfl, hy1, h4, wy1, w4, by decide, fun q1 g1 => ?_⟩
    have e1 := same_new g1 (.tup [.int (plusR w.1 st).1, .int (plusR w.1 st).2])
    refine ⟨_, rfl, _, rfl, _, rfl, vs, v4, sl, st, 98, 98, rfl, hsl2.mono (Tst.same e1), h4.mono (Tst.same e1), wsl, w4, by decide, fun q2 g2 => ?_⟩
    have e2 := same_new g2 (.tup [.int (timesR sl st).1, .int (timesR sl st).2])
    refine ⟨y2, .ref q2, w.2, timesR sl st, 197, 196, rfl, (hy2.mono (Tst.same e1)).mono (Tst.same e2), rv_new (K := K) e2, wy2, times_wf wsl w4, by decide, fun q3 g3 => ⟨(by show 2 ≤ sizeLine; decide), fun q4 g4 => ?_⟩⟩
    have e3 := same_new g3 (.tup [.int (plusR w.2 (timesR sl st)).1, .int (plusR w.2 (timesR sl st)).2])
    have e4 := same_new g4 (.tup [.ref q1, .ref q3])
    have e14 := ((e1.trans e2).trans e3).trans e4
    have hlx3 := e14 _ _ hlx2
    have ra : RV K _ (.ref q1) (plusR w.1 st) := (((rv_new (K := K) e1).mono (Tst.same e2)).mono (Tst.same e3)).mono (Tst.same e4)
    have rb : RV K _ (.ref q3) (plusR w.2 (timesR sl st)) := (rv_new (K := K) e3).mono (Tst.same e4)
    have rn : RowV K _ (.ref q4) (plusR w.1 st, plusR w.2 (timesR sl st)) := ⟨q4, _, _, rfl, SqT.of upd_same, ra, rb⟩
    have T4 := T2.same e14
    have S24 := S2.trans (Step.same e14 T2.lst)
    have hsl4 := hsl2.mono (Tst.same e14)
    clear ra rb
    generalize (upd (upd (upd (upd H2 q1 (.tup [.int (plusR w.1 st).1, .int (plusR w.1 st).2])) q2 (.tup [.int (timesR sl st).1, .int (timesR sl st).2])) q3 (.tup [.int (plusR w.2 (timesR sl st)).1, .int (plusR w.2 (timesR sl st)).2])) q4 (.tup [.ref q1, .ref q3])) = H4 at hlx3 rn T4 S24 hsl4 ⊢
    refine ⟨lr, xs, _, rfl, rfl, hlx3, small1000 (by rw [als.len, tab.len]; omega), ?_⟩
    have up := Tst.up (K := K) hlx3 (xs ++ [.ref q4])
    have T5 := T4.upl nlt nls (.lst (xs ++ [.ref q4]))
    have tm := (Tst.step (K := K) S24).trans up
    have als5 := (als.mono fun _ _ z => z.mono tm).snoc (rn.mono up)
    have tab5 := tab.snoc i10 hw bsl ok4
    have hsl5 := hsl4.mono up
    have kp5 : ∀ b o, b ≠ t₁ → H b = some o → (upd H4 lr (.lst (xs ++ [.ref q4]))) b = some o := fun b o nb q => by
      rw [upd_ne (ne_lr b o q)]
      exact S24.keep _ _ nb (kp b o nb q)
    have hlx5 : (upd H4 lr (.lst (xs ++ [.ref q4]))) lr = some (.lst (xs ++ [.ref q4])) := upd_same
    generalize (upd H4 lr (.lst (xs ++ [.ref q4]))) = H5 at T5 als5 hsl5 kp5 hlx5 ⊢
    refine ⟨_, rfl, t₁, s₀, 4, rfl, T5, by decide, by decide, fun r6 x6 a6 b6 T6 => ⟨_, _, rfl, rfl, _, rfl, ?_⟩⟩
    have S6 : Step t₁ H5 _ := Step.up (ys := x6) T5.lst.choose_spec
    by_cases c : 0 < r6
    · refine iteD1 c ?_
      refine ⟨_, rfl, _, rfl, t₁, s₀, rfl, T6, fun v7 st7 H7 ok7 S7 T7 h7 => ?_⟩
      have S67 := S6.trans S7
      refine ⟨vs, v7, sl, st7, 98, 98, rfl, hsl5.mono (Tst.step S67), h7, wsl, ok7.wf, by decide, fun q8 g8 => ?_⟩
      have e8 := same_new g8 (.tup [.int (plusR sl st7).1, .int (plusR sl st7).2])
      have tm8 := (Tst.step (K := K) S67).trans (Tst.same e8)
      exact ⟨.ref q8, _, _, _, _, rfl, T7.same e8, fun b o nb q => e8 _ _ (S67.keep _ _ nb (kp5 b o nb q)), _, _, plusR sl st7, e8 _ _ (S67.keep _ _ nlt hlx5), als5.mono fun _ _ z => z.mono tm8, tab5, rv_new (K := K) e8, (bsl.plus (by decide) ok7.bq).mono ⟨1, rfl⟩ (by rw [Nat.add_mul (i + 1) 1]; omega)⟩
    · refine iteD0 c ?_
      exact ⟨vs, _, _, _, _, rfl, T6, fun b o nb q => S6.keep _ _ nb (kp5 b o nb q), _, _, sl, S6.keep _ _ nlt hlx5, als5.mono fun _ _ z => z.mono (Tst.step S6), tab5, hsl5.mono (Tst.step S6), bsl.mono ⟨1, rfl⟩ (Nat.mul_le_mul_right _ (Nat.le_succ _))⟩
  · rintro σ H1 ⟨vs, x3, x4, x5, x6, rfl, T1, kp, xs, rows, sl, hlx, als, tab, hsl, bsl⟩
    refine ⟨_, rfl, lr, xs, rfl, .inl ⟨SqL.of hlx, fun p3 h3 => ⟨(by show 2 ≤ sizeLine; decide), fun p4 h4 => ?_⟩⟩⟩
    have m3 := same_new h3 (.tup xs)
    have m4 := same_new h4 (.tup [.str (Str.ofString "table"), .ref p3])
    have m := m3.trans m4
    exact k _ rows _ (tab.ok (by omega) (by omega)) ⟨fun b o nb q => m _ _ (kp b o nb q), T0.lst, (T1.same m).lst⟩ (T1.same m) ⟨p4, p3, xs, rfl, SqT.of upd_same, SqT.of (m4 _ _ upd_same), als.mono fun _ _ z => z.mono (Tst.same m)⟩
theorem ok_law_rule (T : Txt K mg t) : FnOk P w K mg base CX0 5 t.a_law_rule t.d_law_rule ["_law_tape_here"] (sp_law_rule K) := by
  refine T.F_law_rule.ok sc_law_rule (fun vs H Q E h => ?_) (fun cdv A outer s H vs Q E hr h => ?_)
  · obtain ⟨_, _, rfl, _⟩ := h; rfl
  obtain ⟨t₁, s₀, rfl, T0, k⟩ := h
  refine QSs.ok (qss_cons (qs_if (qt_cmpR op_eq (qe_call (ok_law_draw T) (hr.mono (by decide)) rfl T.m_law_draw T.F_law_draw.kp T.b_law_draw .nil pass0 (qa_cons (qv 0) (qa_cons qe_int qa_nil star_con) star_name)) qe_int (nomark _)) (qss_one (qs_ret (qe_tup (qa_cons qe_str (qa_cons (qe_op op_add qe_int (qe_call (ok_law_draw T) (hr.mono (by decide)) rfl T.m_law_draw T.F_law_draw.kp T.b_law_draw .nil pass0 (qa_cons (qv 0) (qa_cons qe_int qa_nil star_con) star_name))) qa_nil star_bin) star_con)))) qss_nil)
      (qss_one (qs_ret (qe_call (ok_law_table T) (hr.mono (by decide)) rfl T.m_law_table T.F_law_table.kp T.b_law_table .nil pass0 (qa_cons (qv 0) qa_nil star_name))))) ?_
  refine ⟨_, rfl, t₁, s₀, 3, rfl, T0, by decide, by decide, fun r1 x1 a1 b1 T1 => ⟨rfl, _, rfl, ?_⟩⟩
  have S1 := Step.up (ys := x1) T0.lst.choose_spec
  by_cases h0 : r1 = 0
  · refine iteD1 (by rw [h0]) ?_
    refine ⟨_, rfl, t₁, s₀, 3, rfl, T1, by decide, by decide, fun r2 x2 a2 b2 T2 => ⟨_, _, rfl, rfl, (by show 2 ≤ sizeLine; decide), fun p hp => ?_⟩⟩
    exact k _ (.pow (2 + r2)) _ ⟨by omega, by omega⟩ ((S1.trans (Step.up (ys := x2) T1.lst.choose_spec)).trans (Step.new T2.lst hp _)) (T2.new hp _) ⟨p, rfl, SqT.of upd_same⟩
  refine iteD0 (fun z => h0 (by injection z)) ?_
  exact ⟨_, rfl, t₁, s₀, rfl, T1, fun v rows H' ok S T' hv => k v (.tab rows) H' ok (S1.trans S) T' hv⟩
theorem ok_law_whole (T : Txt K mg t) : FnOk P w K mg base CX0 1 t.a_law_whole t.d_law_whole ["_law_thing"] (sp_law_whole K) := by
  refine T.F_law_whole.ok sc_law_whole (fun vs H Q E h => ?_) (fun cdv A outer s H vs Q E hr h => ?_)
  · obtain ⟨_, _, rfl, _⟩ := h; rfl
  obtain ⟨v, d, rfl, hD, k⟩ := h
  obtain ⟨b, c, e1, e2, e3⟩ := isi_int hD
  refine QSs.ok (qss_one (qs_ret (qe_and (qe_callB call_isiD (by rfl) T.z_isinstance PyProof.Rows.boot_isinstance (qa_cons (qv 0) (qa_cons (qe_bltn (v := V.ty "int") rfl T.z_int PyProof.Rows.boot_int rfl) qa_nil star_name) star_name)) (qe_one (qe_not (qe_callB call_isiD (by rfl) T.z_isinstance PyProof.Rows.boot_isinstance (qa_cons (qv 0) (qa_cons (qe_bltn (v := V.ty "bool") rfl T.z_bool PyProof.Rows.boot_bool rfl) qa_nil star_name) star_name))))))) ?_
  rw [e3] at k
  refine ⟨_, rfl, _, _, _, _, rfl, hD, e1, _, rfl, ?_⟩
  cases b with
  | false => exact k
  | true => exact ⟨_, rfl, _, _, _, _, rfl, hD, e2, _, rfl, k⟩
theorem ok_law_is_ratio (T : Txt K mg t) : FnOk P w K mg base CX0 2 t.a_law_is_ratio t.d_law_is_ratio ["_law_thing"] (sp_law_is_ratio K) := by
  refine T.F_law_is_ratio.ok sc_law_is_ratio (fun vs H Q E h => ?_) (fun cdv A outer s H vs Q E hr h => ?_)
  · obtain ⟨_, _, rfl, _⟩ := h; rfl
  obtain ⟨v, d, rfl, hD, k⟩ := h
  refine QSs.ok (qss_cons (qs_if (qw_pt (qw_or (qt_not (qt_val (qe_callB call_isiD (by rfl) T.z_isinstance PyProof.Rows.boot_isinstance (qa_cons (qv 0) (qa_cons (qe_bltn (v := V.ty "tuple") rfl T.z_tuple PyProof.Rows.boot_tuple rfl) qa_nil star_name) star_name)))) (qw_or (qt_cmpR op_ne (qe_callB call_len_seq (by rfl) T.z_len PySem.boot_len (qa_cons (qv 0) qa_nil star_name)) qe_int (nomark _)) (qw_or (qt_not (qt_val (qe_call (ok_law_whole T) (hr.mono (by decide)) rfl T.m_law_whole T.F_law_whole.kp T.b_law_whole .nil pass0 (qa_cons (qe_ix ix_tup (qv 0) qe_int (fun _ _ => rfl)) qa_nil star_sub)))) (qw_or1 (qt_not (qt_val (qe_call (ok_law_whole T) (hr.mono (by decide)) rfl T.m_law_whole T.F_law_whole.kp T.b_law_whole .nil pass0 (qa_cons (qe_ix ix_tup (qv 0) qe_int (fun _ _ => rfl)) qa_nil star_sub))))))))) (qss_one (qs_ret qe_bl)) qss_nil)
      (qss_one (qs_ret (qe_and (qe_cmpR op_gt (qe_ix ix_tup (qv 0) qe_int (fun _ _ => rfl)) qe_int (nomark _)) (qe_one (qe_cmpR op_eq (qe_call (ok_law_gcd T) (hr.mono (by decide)) rfl T.m_law_gcd T.F_law_gcd.kp T.b_law_gcd .nil pass0 (qa_cons (qe_callB call_abs (by rfl) T.z_abs PyProof.Rows.boot_abs (qa_cons (qe_ix ix_tup (qv 0) qe_int (fun _ _ => rfl)) qa_nil star_sub)) (qa_cons (qe_ix ix_tup (qv 0) qe_int (fun _ _ => rfl)) qa_nil star_sub) star_call)) qe_int (nomark _))))))) ?_
  rcases isi_tup hD with ⟨e, p, xs, ds, rfl, rfl, hS, hA⟩ | ⟨e, no⟩
  · refine ⟨_, rfl, _, _, _, _, rfl, hD, e, _, rfl, iteF ?_⟩
    have hl := hA.len
    refine ⟨_, rfl, p, _, rfl, .inr hS, rfl, _, rfl, ?_⟩
    by_cases c2 : xs.length = 2
    · refine iteNS (by rw [c2]; rfl) ?_
      have t2 : tupD 2 (.tuple ds) = true := decide_eq_true (by omega)
      obtain ⟨p', x, y, dx, dy, e1, e2, hS, hx, hy⟩ := hD.two t2
      cases e1
      cases e2
      refine ⟨_, rfl, p, _, _, _, rfl, rfl, hS, rfl, x, dx, rfl, hx, _, rfl, ?_⟩
      cases cx : wholeD dx with
      | false =>
        rw [rat_x cx] at k
        exact iteT (iteT k)
      | true =>
        refine iteF ?_
        refine ⟨_, rfl, p, _, _, _, rfl, rfl, hS, rfl, y, dy, rfl, hy, _, rfl, ?_⟩
        cases cy : wholeD dy with
        | false =>
          rw [rat_y cy] at k
          exact iteT k
        | true =>
          refine iteF ?_
          obtain ⟨i, rfl⟩ := wholeD_int cx
          obtain ⟨j, rfl⟩ := wholeD_int cy
          cases hx
          cases hy
          have kk : Q (.bl (decide (1 ≤ j) && decide (Int.gcd i j = 1))) H := k
          refine ⟨_, rfl, p, _, _, _, rfl, rfl, hS, rfl, _, _, rfl, rfl, ?_⟩
          by_cases c : j > 0
          · rw [decide_eq_true (show 1 ≤ j by omega), Bool.true_and] at kk
            refine ⟨_, rfl, iteD1 (show (0 : Int) < j from c) ?_⟩
            refine ⟨_, rfl, p, _, _, _, rfl, rfl, hS, rfl, _, rfl, _, rfl, p, _, _, _, rfl, rfl, hS, rfl, _, _, rfl, (by split <;> omega), (by omega), ?_⟩
            rw [abs_if]
            have eg : Int.gcd (i.natAbs : Int) j = Int.gcd i j := by simp [Int.gcd]
            rw [eg]
            refine ⟨rfl, ?_⟩
            have q : decide ((V.int (Int.gcd i j : Nat) : V) = .int 1) = decide (Int.gcd i j = 1) := decide_eq_decide.mpr ⟨fun z => by injection z with z; omega, fun z => by rw [z]; rfl⟩
            rw [q]
            exact kk
          · rw [decide_eq_false (show ¬ 1 ≤ j by omega), Bool.false_and] at kk
            exact ⟨_, rfl, iteD0 (show ¬ (0 : Int) < j from c) kk⟩
    · refine iteN1 (fun z => c2 (by injection z with z; omega)) (iteT ?_)
      have t2 : tupD 2 (.tuple ds) = false := decide_eq_false (by omega)
      rw [ratD_no t2] at k
      exact k
  · refine ⟨_, rfl, _, _, _, _, rfl, hD, e, _, rfl, iteT (iteT ?_)⟩
    rw [ratD_no (tupD_no no)] at k
    exact k
theorem ok_law_is_pair (T : Txt K mg t) : FnOk P w K mg base CX0 3 t.a_law_is_pair t.d_law_is_pair ["_law_thing"] (sp_law_is_pair K) := by
  refine T.F_law_is_pair.ok sc_law_is_pair (fun vs H Q E h => ?_) (fun cdv A outer s H vs Q E hr h => ?_)
  · obtain ⟨_, _, rfl, _⟩ := h; rfl
  obtain ⟨v, d, rfl, hD, k⟩ := h
  refine QSs.ok (qss_one (qs_ret (qe_and (qe_callB call_isiD (by rfl) T.z_isinstance PyProof.Rows.boot_isinstance (qa_cons (qv 0) (qa_cons (qe_bltn (v := V.ty "tuple") rfl T.z_tuple PyProof.Rows.boot_tuple rfl) qa_nil star_name) star_name)) (qe_and (qe_cmpR op_eq (qe_callB call_len_seq (by rfl) T.z_len PySem.boot_len (qa_cons (qv 0) qa_nil star_name)) qe_int (nomark _)) (qe_and (qe_call (ok_law_is_ratio T) (hr.mono (by decide)) rfl T.m_law_is_ratio T.F_law_is_ratio.kp T.b_law_is_ratio .nil pass0 (qa_cons (qe_ix ix_tup (qv 0) qe_int (fun _ _ => rfl)) qa_nil star_sub)) (qe_one (qe_call (ok_law_is_ratio T) (hr.mono (by decide)) rfl T.m_law_is_ratio T.F_law_is_ratio.kp T.b_law_is_ratio .nil pass0 (qa_cons (qe_ix ix_tup (qv 0) qe_int (fun _ _ => rfl)) qa_nil star_sub)))))))) ?_
  rcases isi_tup hD with ⟨e, p, xs, ds, rfl, rfl, hS, hA⟩ | ⟨e, no⟩
  · have hl := hA.len
    refine ⟨_, rfl, _, _, _, _, rfl, hD, e, _, rfl, ?_⟩
    refine ⟨_, rfl, p, _, rfl, .inr hS, rfl, ?_⟩
    by_cases c2 : xs.length = 2
    · have t2 : tupD 2 (.tuple ds) = true := decide_eq_true (by omega)
      obtain ⟨p', x, y, dx, dy, e1, e2, hS, hx, hy⟩ := hD.two t2
      cases e1
      cases e2
      rw [decide_eq_true (show (V.int xs.length : V) = .int 2 by rw [c2]; rfl)]
      have kk : Q (.bl (ratD dx && ratD dy)) H := k
      refine ⟨_, rfl, _, rfl, p, _, _, _, rfl, rfl, hS, rfl, x, dx, rfl, hx, ?_⟩
      cases cx : ratD dx with
      | false =>
        rw [cx] at kk
        exact ⟨_, rfl, kk⟩
      | true =>
        rw [cx] at kk
        exact ⟨_, rfl, _, rfl, p, _, _, _, rfl, rfl, hS, rfl, y, dy, rfl, hy, kk⟩
    · have t2 : tupD 2 (.tuple ds) = false := decide_eq_false (by omega)
      rw [pairD_no t2] at k
      rw [decide_eq_false (fun z : (V.int xs.length : V) = .int 2 => c2 (by injection z with z; omega))]
      exact ⟨_, rfl, k⟩
  · rw [pairD_no (tupD_no no)] at k
    exact ⟨_, rfl, _, _, _, _, rfl, hD, e, _, rfl, k⟩
theorem ok_law_row_right (T : Txt K mg t) : FnOk P w K mg base CX0 4 t.a_law_row_right t.d_law_row_right ["_law_rows", "_law_n"] (sp_law_row_right K) := by
  refine T.F_law_row_right.ok sc_law_row_right (fun vs H Q E h => ?_) (fun cdv A outer s H vs Q E hr h => ?_)
  · obtain ⟨_, _, _, _, rfl, _⟩ := h; rfl
  obtain ⟨p, xs, rs, n, rfl, hS, ok, k⟩ := h
  refine QSs.ok (qss_cons (qs_asg (qe_ix ix_tup (qv 0) (qv 1) (fun _ _ => rfl)) (qg_tup rfl (qgs_cons (qg_name (i := 2) sc_law_row_right.nd rfl (by first | exact Or.inl rfl | exact Or.inr rfl)) (qgs_cons (qg_name (i := 3) sc_law_row_right.nd rfl (by first | exact Or.inl rfl | exact Or.inr rfl)) qgs_nil))))
      (qss_cons (qs_if (qt_cmpR op_eq (qv 1) qe_int (nomark _)) (qss_one (qs_ret (qe_and (qe_cmpR (op_eqD hr) (qv 2) (qe_tup (qa_cons qe_int (qa_cons qe_int qa_nil star_con) star_con)) (nomark _)) (qe_one (qe_cmpR op_ge (qe_ix ix_tup (qv 3) qe_int (fun _ _ => rfl)) qe_int (nomark _)))))) qss_nil)
      (qss_cons (qs_if (qw_pt (qw_or (qt_not (qt_val (qe_call (ok_law_less T) (hr.mono (by decide)) rfl T.m_law_less T.F_law_less.kp T.b_law_less .nil pass0 (qa_cons (qe_ix ix_tup (qe_ix ix_tup (qv 0) (qe_op op_sub (qv 1) qe_int) (fun _ _ => rfl)) qe_int (fun _ _ => rfl)) (qa_cons (qv 2) qa_nil star_name) star_sub)))) (qw_or1 (qt_not (qt_val (qe_call (ok_law_less T) (hr.mono (by decide)) rfl T.m_law_less T.F_law_less.kp T.b_law_less .nil pass0 (qa_cons (qe_ix ix_tup (qe_ix ix_tup (qv 0) (qe_op op_sub (qv 1) qe_int) (fun _ _ => rfl)) qe_int (fun _ _ => rfl)) (qa_cons (qv 3) qa_nil star_name) star_sub))))))) (qss_one (qs_ret qe_bl)) qss_nil)
      (qss_cons (qs_if (qt_cmpR op_eq (qv 1) qe_int (nomark _)) (qss_one (qs_ret qe_bl)) qss_nil)
      (qss_cons (qs_setC (i := 4) (N' := ["_law_k", "_law_rows"]) (src := [none, some 0]) sc_law_row_right.nd rfl (by first | exact Or.inl rfl | exact Or.inr rfl) rfl (by exact (qi_tup (qe_tup (qa_cons (qe_op op_sub (qv 1) qe_int) (qa_cons (qe_op op_sub (qv 1) qe_int) qa_nil star_bin) star_bin)))) (fun _ _ _ _ _ => (by exact (by exact qg_name (i := 0) (by show List.Nodup (["_law_k", "_law_rows"] : List Str); decide +kernel) (by exact rfl) (by first | exact Or.inl rfl | exact Or.inr rfl)))) (fun _ _ _ _ _ => qts_nil) (fun _ _ _ _ _ => (by exact (by exact (qe_call (ok_law_minus T) (by exact hr.mono (by decide)) (by exact rfl) T.m_law_minus T.F_law_minus.kp T.b_law_minus (by exact .nil) (by exact pass0) (qa_cons (by exact (qe_ix (ix_tupK (K := K) (by exact rfl)) (by exact (qe_ix (ix_tupK (K := K) (by exact rfl)) (by exact (qv 1)) (by exact (qe_op op_add (by exact (qv 0)) qe_int)) (by exact fun _ _ => rfl))) qe_int (by exact fun _ _ => rfl))) (qa_cons (by exact (qe_ix (ix_tupK (K := K) (by exact rfl)) (by exact (qe_ix (ix_tupK (K := K) (by exact rfl)) (by exact (qv 1)) (by exact (qv 0)) (by exact fun _ _ => rfl))) qe_int (by exact fun _ _ => rfl))) qa_nil star_sub) star_sub))))) (by exact ⟨rfl, rfl, rfl, rfl, trivial⟩) rfl (by decide +kernel) rfl (by decide +kernel) (by exact cells_of rfl ⟨rfl, trivial⟩))
      (qss_cons (qs_setC (i := 5) (N' := ["_law_k", "_law_rows"]) (src := [none, some 0]) sc_law_row_right.nd rfl (by first | exact Or.inl rfl | exact Or.inr rfl) rfl (by exact (qi_tup (qe_tup (qa_cons (qe_op op_sub (qv 1) qe_int) (qa_cons (qe_op op_sub (qv 1) qe_int) qa_nil star_bin) star_bin)))) (fun _ _ _ _ _ => (by exact (by exact qg_name (i := 0) (by show List.Nodup (["_law_k", "_law_rows"] : List Str); decide +kernel) (by exact rfl) (by first | exact Or.inl rfl | exact Or.inr rfl)))) (fun _ _ _ _ _ => qts_nil) (fun _ _ _ _ _ => (by exact (by exact (qe_call (ok_law_minus T) (by exact hr.mono (by decide)) (by exact rfl) T.m_law_minus T.F_law_minus.kp T.b_law_minus (by exact .nil) (by exact pass0) (qa_cons (by exact (qe_ix (ix_tupK (K := K) (by exact rfl)) (by exact (qe_ix (ix_tupK (K := K) (by exact rfl)) (by exact (qv 1)) (by exact (qe_op op_add (by exact (qv 0)) qe_int)) (by exact fun _ _ => rfl))) qe_int (by exact fun _ _ => rfl))) (qa_cons (by exact (qe_ix (ix_tupK (K := K) (by exact rfl)) (by exact (qe_ix (ix_tupK (K := K) (by exact rfl)) (by exact (qv 1)) (by exact (qv 0)) (by exact fun _ _ => rfl))) qe_int (by exact fun _ _ => rfl))) qa_nil star_sub) star_sub))))) (by exact ⟨rfl, rfl, rfl, rfl, trivial⟩) rfl (by decide +kernel) rfl (by decide +kernel) (by exact cells_of rfl ⟨rfl, trivial⟩))
      (qss_one (qs_ret (qe_not (qe_call (ok_law_less T) (hr.mono (by decide)) rfl T.m_law_less T.F_law_less.kp T.b_law_less .nil pass0 (qa_cons (qe_call (ok_law_times T) (hr.mono (by decide)) rfl T.m_law_times T.F_law_times.kp T.b_law_times .nil pass0 (qa_cons (qe_ix ix_list (qv 5) qe_int (fun _ _ => rfl)) (qa_cons (qe_ix ix_list (qv 4) qe_int (fun _ _ => rfl)) qa_nil star_sub) star_sub)) (qa_cons (qe_call (ok_law_times T) (hr.mono (by decide)) rfl T.m_law_times T.F_law_times.kp T.b_law_times .nil pass0 (qa_cons (qe_ix ix_list (qv 5) qe_int (fun _ _ => rfl)) (qa_cons (qe_ix ix_list (qv 4) qe_int (fun _ _ => rfl)) qa_nil star_sub) star_sub)) qa_nil star_call) star_call))))))))))) ?_
  obtain ⟨vn, en, rn⟩ := ok.row n (Nat.le_refl n)
  have wn1 := ok.w1 n (Nat.le_refl n)
  have wn2 := ok.w2 n (Nat.le_refl n)
  obtain ⟨pn, x, y, rfl, hSn, hx, hy⟩ := id rn
  refine ⟨_, rfl, _, rfl, p, _, _, _, rfl, rfl, hS, atI_nat en, pn, _, rfl, hSn, rfl, _, _, rfl, _, _, rfl, rfl, ?_⟩
  refine ⟨_, rfl, rfl, _, rfl, ?_⟩
  by_cases c0 : n = 0
  · subst c0
    refine iteD1 rfl ?_
    refine ⟨_, rfl, (by show 2 ≤ sizeLine; decide), fun p0 g0 => ?_⟩
    have e0 := same_new g0 (.tup [.int 0, .int 1])
    have nul : RV K _ (.ref p0) (0, 1) := rv_new (K := K) e0
    have kk : Q (.bl (decide ((rs.getD 0 rowD).1 = (0, 1)) && !lessR (rs.getD 0 rowD).2 (0, 1))) _ := k _ e0
    refine ⟨dR _, dR (0, 1), (hx.mono (Tst.same e0)).deep, nul.deep, dR_lay _, dR_lay _, dR_depth _, ?_⟩
    rw [eqv_iff]
    by_cases c : (rs.getD 0 rowD).1 = (0, 1)
    · rw [decide_eq_true c, Bool.true_and] at kk
      rw [decide_eq_true c]
      obtain ⟨py, rfl, hSy⟩ := hy.mono (Tst.same (K := K) e0)
      refine ⟨_, rfl, _, rfl, py, _, _, _, rfl, rfl, hSy, rfl, _, _, rfl, rfl, ?_⟩
      have e : (!lessR (rs.getD 0 rowD).2 (0, 1)) = decide ((rs.getD 0 rowD).2.1 ≥ 0) := by
        by_cases q : 0 ≤ (rs.getD 0 rowD).2.1
        · rw [nn_less.mpr q, decide_eq_true q]; rfl
        · have : lessR (rs.getD 0 rowD).2 (0, 1) = true := by
            cases z : lessR (rs.getD 0 rowD).2 (0, 1) with
            | true => rfl
            | false => exact absurd (nn_less.mp z) q
          rw [this, decide_eq_false q]; rfl
      rw [e] at kk
      exact kk
    · rw [decide_eq_false c, Bool.false_and] at kk
      rw [decide_eq_false c]
      exact ⟨_, rfl, kk⟩
  · refine iteD0 (fun z => c0 (by injection z with z; omega)) ?_
    obtain ⟨va, ea, ra⟩ := ok.row (n - 1) (by omega)
    have wa1 := ok.w1 (n - 1) (by omega)
    have wa2 := ok.w2 (n - 1) (by omega)
    obtain ⟨pa, xa, ya, rfl, hSa, hxa, hya⟩ := id ra
    have kk : ∀ H', Same H H' → Q (.bl (lessR (rs.getD (n - 1) rowD).1 (rs.getD n rowD).1 && (lessR (rs.getD (n - 1) rowD).2 (rs.getD n rowD).2 && (decide (n = 1) || !lessR (slopeR (rs.getD (n - 1) rowD) (rs.getD n rowD)) (slopeR (rs.getD (n - 2) rowD) (rs.getD (n - 1) rowD)))))) H' := fun H' s' => by
      have := k H' s'
      unfold behM at this
      rw [if_neg c0] at this
      exact this
    have e1 : (n : Int) - 1 = ((n - 1 : Nat) : Int) := by omega
    have ia : atI xs ((n : Int) - 1) = some (.ref pa) := by rw [e1]; exact atI_nat ea
    refine ⟨_, rfl, _, rfl, _, _, rfl, rfl, p, _, _, _, rfl, rfl, hS, ia, pa, _, _, _, rfl, rfl, hSa, rfl, _, rfl, xa, x, _, _, 230, 230, rfl, hxa, hx, wa1, wn1, by decide, _, rfl, ?_⟩
    cases c1 : lessR (rs.getD (n - 1) rowD).1 (rs.getD n rowD).1 with
    | false =>
      rw [c1, Bool.false_and] at kk
      exact iteT (iteT (kk H (Same.refl H)))
    | true =>
      rw [c1, Bool.true_and] at kk
      refine iteF ?_
      refine ⟨_, rfl, _, rfl, _, _, rfl, rfl, p, _, _, _, rfl, rfl, hS, ia, pa, _, _, _, rfl, rfl, hSa, rfl, _, rfl, ya, y, _, _, 230, 230, rfl, hya, hy, wa2, wn2, by decide, _, rfl, ?_⟩
      cases c2 : lessR (rs.getD (n - 1) rowD).2 (rs.getD n rowD).2 with
      | false =>
        rw [c2, Bool.false_and] at kk
        exact iteT (kk H (Same.refl H))
      | true =>
        rw [c2, Bool.true_and] at kk
        refine iteF ?_
        refine ⟨_, rfl, rfl, _, rfl, ?_⟩
        by_cases c3 : n = 1
        · refine iteD1 (by rw [c3]; rfl) ?_
          have := kk H (Same.refl H)
          rw [decide_eq_true c3] at this
          exact this
        · refine iteD0 (fun z => c3 (by injection z with z; omega)) ?_
          rw [decide_eq_false c3, Bool.false_or] at kk
          have q1 : n - 1 + 1 = n := by omega
          have q2 : n - 2 + 1 = n - 1 := by omega
          have U := ok.up (n - 2) (by omega)
          rw [q2] at U
          have wb1 := ok.w1 (n - 2) (by omega)
          have wb2 := ok.w2 (n - 2) (by omega)
          have e2 : (n : Int) - 2 = ((n - 2 : Nat) : Int) := by omega
          rw [← cross_slope wb1 wb2 wa1 wa2 wn1 wn2 U c1] at kk
          have rowat : ∀ {H' : Hp}, Same H H' → ∀ j, j ≤ n → ∃ (v : V) (q : Addr) (u w : V), xs[j]? = some v ∧ v = .ref q ∧ SqT K H' q [u, w] ∧ RV K H' u (rs.getD j rowD).1 ∧ RV K H' w (rs.getD j rowD).2 := fun sm j hj => by
            obtain ⟨v, ev, rv⟩ := ok.row j hj
            obtain ⟨q, u, w, ex, hq, hu, hw⟩ := rv.mono (Tst.same (K := K) sm)
            exact ⟨v, q, u, w, ev, ex, hq, hu, hw⟩
          refine ⟨_, rfl, _, _, rfl, rfl, _, rfl, _, _, rfl, rfl, (by show 2 ≤ sizeLine; decide), fun tA gA => ?_⟩
          have mA := same_new gA (.tup [.int ((n : Int) - 2), .int ((n : Int) - 1)])
          have htA : SqT K (upd H tA (.tup [.int ((n : Int) - 2), .int ((n : Int) - 1)])) tA [.int ((n : Int) - 2), .int ((n : Int) - 1)] := SqT.of upd_same
          generalize hHA : (upd H tA (.tup [.int ((n : Int) - 2), .int ((n : Int) - 1)])) = HA0 at mA htA ⊢
          have smA : Same H HA0 := Same.trans (Same.refl H) mA
          refine ⟨tA, rfl, ⟨_, htA⟩, fun EA hA => comp_mapT (K := K) (P := RV K) (ds := [n - 2, n - 1]) (f := fun j => minusR (rs.getD (j + 1) rowD).1 (rs.getD j rowD).1) (fun _ _ _ _ t p => p.mono t) hA htA rfl (show 2 ≤ 1000 by decide) (fun i z d H' hz hd s' R E kR => ?_) fun HA yA sA hDA alA => ?_⟩
          · obtain ⟨ez, dl⟩ : z = .int (d : Int) ∧ d + 1 ≤ n := by
              have hi : i < 2 := (List.getElem?_eq_some_iff.mp hd).1
              match i, hi with
              | 0, _ => cases (show _ = z by simpa using hz); cases (show _ = d by simpa using hd); exact ⟨by rw [e2], by omega⟩
              | 1, _ => cases (show _ = z by simpa using hz); cases (show _ = d by simpa using hd); exact ⟨by rw [e1], by omega⟩
            subst ez
            obtain ⟨v1, q1', u1, w1', ev1, ex1, hq1, hu1, hw1⟩ := rowat (smA.trans s') (d + 1) dl
            obtain ⟨v2, q2', u2, w2', ev2, ex2, hq2, hu2, hw2⟩ := rowat (smA.trans s') d (by omega)
            refine ⟨Ext.set rfl, _, rfl, _, rfl, _, _, rfl, rfl, p, _, _, _, rfl, rfl, Tst.same (smA.trans s') _ _ hS, (by rw [show ((d : Int) + 1) = ((d + 1 : Nat) : Int) by omega]; exact atI_nat ev1), q1', _, _, _, ex1, rfl, hq1, rfl, _, rfl, _, rfl, p, _, _, _, rfl, rfl, Tst.same (smA.trans s') _ _ hS, atI_nat ev2, q2', _, _, _, ex2, rfl, hq2, rfl, u1, u2, _, _, 230, 230, rfl, hu1, hu2, ok.w1 _ dl, ok.w1 _ (by omega), by decide, fun p9 g9 => ?_⟩
            have e9 := same_new g9 (.tup [.int (minusR (rs.getD (d + 1) rowD).1 (rs.getD d rowD).1).1, .int (minusR (rs.getD (d + 1) rowD).1 (rs.getD d rowD).1).2])
            exact kR _ _ e9 (rv_new (K := K) e9)
          refine ⟨_, rfl, _, _, rfl, rfl, _, rfl, _, _, rfl, rfl, (by show 2 ≤ sizeLine; decide), fun tB gB => ?_⟩
          have mB := same_new gB (.tup [.int ((n : Int) - 2), .int ((n : Int) - 1)])
          have htB : SqT K (upd HA tB (.tup [.int ((n : Int) - 2), .int ((n : Int) - 1)])) tB [.int ((n : Int) - 2), .int ((n : Int) - 1)] := SqT.of upd_same
          generalize hHB : (upd HA tB (.tup [.int ((n : Int) - 2), .int ((n : Int) - 1)])) = HB0 at mB htB ⊢
          have smB : Same H HB0 := Same.trans ((mA.trans sA)) mB
          refine ⟨tB, rfl, ⟨_, htB⟩, fun EB hB => comp_mapT (K := K) (P := RV K) (ds := [n - 2, n - 1]) (f := fun j => minusR (rs.getD (j + 1) rowD).2 (rs.getD j rowD).2) (fun _ _ _ _ t p => p.mono t) hB htB rfl (show 2 ≤ 1000 by decide) (fun i z d H' hz hd s' R E kR => ?_) fun HB yB sB hDB alB => ?_⟩
          · obtain ⟨ez, dl⟩ : z = .int (d : Int) ∧ d + 1 ≤ n := by
              have hi : i < 2 := (List.getElem?_eq_some_iff.mp hd).1
              match i, hi with
              | 0, _ => cases (show _ = z by simpa using hz); cases (show _ = d by simpa using hd); exact ⟨by rw [e2], by omega⟩
              | 1, _ => cases (show _ = z by simpa using hz); cases (show _ = d by simpa using hd); exact ⟨by rw [e1], by omega⟩
            subst ez
            obtain ⟨v1, q1', u1, w1', ev1, ex1, hq1, hu1, hw1⟩ := rowat (smB.trans s') (d + 1) dl
            obtain ⟨v2, q2', u2, w2', ev2, ex2, hq2, hu2, hw2⟩ := rowat (smB.trans s') d (by omega)
            refine ⟨Ext.set rfl, _, rfl, _, rfl, _, _, rfl, rfl, p, _, _, _, rfl, rfl, Tst.same (smB.trans s') _ _ hS, (by rw [show ((d : Int) + 1) = ((d + 1 : Nat) : Int) by omega]; exact atI_nat ev1), q1', _, _, _, ex1, rfl, hq1, rfl, _, rfl, _, rfl, p, _, _, _, rfl, rfl, Tst.same (smB.trans s') _ _ hS, atI_nat ev2, q2', _, _, _, ex2, rfl, hq2, rfl, w1', w2', _, _, 230, 230, rfl, hw1, hw2, ok.w2 _ dl, ok.w2 _ (by omega), by decide, fun p9 g9 => ?_⟩
            have e9 := same_new g9 (.tup [.int (minusR (rs.getD (d + 1) rowD).2 (rs.getD d rowD).2).1, .int (minusR (rs.getD (d + 1) rowD).2 (rs.getD d rowD).2).2])
            exact kR _ _ e9 (rv_new (K := K) e9)
          have w0 := minus_wf wa1 wb1
          have w1 := minus_wf wn1 wa1
          have w2 := minus_wf wa2 wb2
          have w3 := minus_wf wn2 wa2
          obtain ⟨a0, a1, rfl, s0, s1⟩ := als_two alA
          obtain ⟨b0, b1, rfl, k0, k1⟩ := als_two alB
          replace s0 := s0.mono (Tst.same (K := K) (mB.trans sB))
          replace s1 := s1.mono (Tst.same (K := K) (mB.trans sB))
          have hDA' := (mB.trans sB) _ _ hDA
          dsimp only at s0 s1 k0 k1
          rw [q2] at s0 k0
          rw [q1] at s1 k1
          refine ⟨_, rfl, EB, _, _, _, rfl, rfl, SqL.of hDB, rfl, _, rfl, EA, _, _, _, rfl, rfl, SqL.of hDA', rfl, _, _, _, _, 461, 461, rfl, k1, s0, w3, w0, by decide, fun p5 g5 => ?_⟩
          have e5 := same_new g5 (.tup [.int (timesR (minusR (rs.getD n rowD).2 (rs.getD (n - 1) rowD).2) (minusR (rs.getD (n - 1) rowD).1 (rs.getD (n - 2) rowD).1)).1, .int (timesR (minusR (rs.getD n rowD).2 (rs.getD (n - 1) rowD).2) (minusR (rs.getD (n - 1) rowD).1 (rs.getD (n - 2) rowD).1)).2])
          refine ⟨_, rfl, EB, _, _, _, rfl, rfl, SqL.of (e5 _ _ hDB), rfl, _, rfl, EA, _, _, _, rfl, rfl, SqL.of (e5 _ _ hDA'), rfl, _, _, _, _, 461, 461, rfl, k0.mono (Tst.same e5), s1.mono (Tst.same e5), w2, w1, by decide, fun p6 g6 => ?_⟩
          have e6 := same_new g6 (.tup [.int (timesR (minusR (rs.getD (n - 1) rowD).2 (rs.getD (n - 2) rowD).2) (minusR (rs.getD n rowD).1 (rs.getD (n - 1) rowD).1)).1, .int (timesR (minusR (rs.getD (n - 1) rowD).2 (rs.getD (n - 2) rowD).2) (minusR (rs.getD n rowD).1 (rs.getD (n - 1) rowD).1)).2])
          refine ⟨.ref p5, .ref p6, _, _, 922, 922, rfl, (rv_new (K := K) e5).mono (Tst.same e6), rv_new (K := K) e6, times_wf w3 w0, times_wf w2 w1, by decide, _, rfl, kk _ ?_⟩
          exact ((mA.trans sA).trans (mB.trans sB)).trans (e5.trans e6)
theorem ok_law_due (T : Txt K mg t) : FnOk P w K mg base CX0 5 t.a_law_due t.d_law_due ["_law_thing"] (sp_law_due K) := by
  refine T.F_law_due.ok sc_law_due (fun vs H Q E h => ?_) (fun cdv A outer s H vs Q E hr h => ?_)
  · obtain ⟨_, _, rfl, _⟩ := h; rfl
  obtain ⟨v, d, rfl, hD, th, k⟩ := h
  refine QSs.ok (qss_cons (qs_if (qw_pt (qw_or (qt_not (qt_val (qe_callB call_isiD (by rfl) T.z_isinstance PyProof.Rows.boot_isinstance (qa_cons (qv 0) (qa_cons (qe_bltn (v := V.ty "tuple") rfl T.z_tuple PyProof.Rows.boot_tuple rfl) qa_nil star_name) star_name)))) (qw_or (qt_cmpR op_ne (qe_callB call_len_seq (by rfl) T.z_len PySem.boot_len (qa_cons (qv 0) qa_nil star_name)) qe_int (nomark _)) (qw_or1 (qt_not (qt_val (qe_callB call_isiD (by rfl) T.z_isinstance PyProof.Rows.boot_isinstance (qa_cons (qe_ix ix_tup (qv 0) qe_int (fun _ _ => rfl)) (qa_cons (qe_bltn (v := V.ty "str") rfl T.z_str PyProof.Rows.boot_str rfl) qa_nil star_name) star_sub)))))))) (qss_one (qs_ret (qe_un un_neg qe_int))) qss_nil)
      (qss_cons (qs_if (qw_pt (qw_and (qt_cmpR op_eq (qe_ix ix_tup (qv 0) qe_int (fun _ _ => rfl)) qe_str (nomark _)) (qw_and (qt_val (qe_call (ok_law_whole T) (hr.mono (by decide)) rfl T.m_law_whole T.F_law_whole.kp T.b_law_whole .nil pass0 (qa_cons (qe_ix ix_tup (qv 0) qe_int (fun _ _ => rfl)) qa_nil star_sub))) (qw_and1 (qt_chain op_le op_le qe_int (qe_ix ix_tup (qv 0) qe_int (fun _ _ => rfl)) qe_int))))) (qss_one (qs_ret qe_non)) qss_nil)
      (qss_cons (qs_if (qw_pt (qw_or (qt_cmpR op_ne (qe_ix ix_tup (qv 0) qe_int (fun _ _ => rfl)) qe_str (nomark _)) (qw_or (qt_not (qt_val (qe_callB call_isiD (by rfl) T.z_isinstance PyProof.Rows.boot_isinstance (qa_cons (qe_ix ix_tup (qv 0) qe_int (fun _ _ => rfl)) (qa_cons (qe_bltn (v := V.ty "tuple") rfl T.z_tuple PyProof.Rows.boot_tuple rfl) qa_nil star_name) star_sub)))) (qw_or1 (qt_cmpR op_notInR (qe_callB call_len_seq (by rfl) T.z_len PySem.boot_len (qa_cons (qe_ix ix_tup (qv 0) qe_int (fun _ _ => rfl)) qa_nil star_sub)) (qe_rng2 rfl T.z_range (qa_cons qe_int (qa_cons qe_int qa_nil star_con) star_con)) (by with_unfolding_all rfl)))))) (qss_one (qs_ret (qe_un un_neg qe_int))) qss_nil)
      (qss_cons (qs_for PassesOwn.never rfl (qi_range1 rfl T.z_range (qa_cons (qe_callB call_len_seq (by rfl) T.z_len PySem.boot_len (qa_cons (qe_ix ix_tup (qv 0) qe_int (fun _ _ => rfl)) qa_nil star_sub)) qa_nil star_call)) (qg_name (i := 1) sc_law_due.nd rfl (by first | exact Or.inl rfl | exact Or.inr rfl))
      (qss_one (qs_if (qw_pt (qw_or (qt_not (qt_val (qe_call (ok_law_is_pair T) (hr.mono (by decide)) rfl T.m_law_is_pair T.F_law_is_pair.kp T.b_law_is_pair .nil pass0 (qa_cons (qe_ix ix_tup (qe_ix ix_tup (qv 0) qe_int (fun _ _ => rfl)) (qv 1) (fun _ _ => rfl)) qa_nil star_sub)))) (qw_or1 (qt_not (qt_val (qe_call (ok_law_row_right T) (hr.mono (by decide)) rfl T.m_law_row_right T.F_law_row_right.kp T.b_law_row_right .nil pass0 (qa_cons (qe_ix ix_tup (qv 0) qe_int (fun _ _ => rfl)) (qa_cons (qv 1) qa_nil star_name) star_sub))))))) (qss_one (qs_ret (qv 1))) qss_nil)))
      (qss_one (qs_ret qe_non)))))) ?_
  have kno : dueP d = some (-1) → ∀ H', Same H H' → Q (.int (-1)) H' := fun e H' s' => by have := k H' s'; rw [e] at this; exact this
  rcases isi_tup hD with ⟨e, p, xs, ds, rfl, rfl, hS, hA⟩ | ⟨e, no⟩
  rotate_left
  · refine ⟨_, rfl, _, _, _, _, rfl, hD, e, _, rfl, iteT (iteT ?_)⟩
    exact ⟨1, rfl, kno (due_no (shapedD_no (tupD_no no))) H (Same.refl H)⟩
  have hl := hA.len
  refine ⟨_, rfl, _, _, _, _, rfl, hD, e, _, rfl, iteF ?_⟩
  refine ⟨_, rfl, p, _, rfl, .inr hS, rfl, _, rfl, ?_⟩
  by_cases c2 : xs.length = 2
  rotate_left
  · refine iteN1 (fun z => c2 (by injection z with z; omega)) (iteT ?_)
    exact ⟨1, rfl, kno (due_no (shapedD_no (decide_eq_false (by omega)))) H (Same.refl H)⟩
  refine iteNS (by rw [c2]; rfl) ?_
  have t2 : tupD 2 (.tuple ds) = true := decide_eq_true (by omega)
  obtain ⟨p', x, y, dx, dy, e1, e2, hS, hx, hy⟩ := hD.two t2
  cases e1
  cases e2
  rcases isi_str hx with ⟨es, sx, rfl, rfl⟩ | ⟨es, nos⟩
  rotate_left
  · refine ⟨_, rfl, p, _, _, _, rfl, rfl, hS, rfl, _, _, _, _, rfl, hx, es, _, rfl, iteT ?_⟩
    exact ⟨1, rfl, kno (due_other (eqv_nstr nos _) (eqv_nstr nos _)) H (Same.refl H)⟩
  refine ⟨_, rfl, p, _, _, _, rfl, rfl, hS, rfl, _, _, _, _, rfl, hx, es, _, rfl, iteF ?_⟩
  refine ⟨_, rfl, p, _, _, _, rfl, rfl, hS, rfl, rfl, _, rfl, ?_⟩
  by_cases cp : sx = Str.ofString "power"
  · subst cp
    refine iteD1 rfl ?_
    have np : ¬ (V.str (Str.ofString "power") : V) = .str (Str.ofString "table") := fun z => ne_tp (by injection z with z; exact z.symm)
    refine ⟨_, rfl, p, _, _, _, rfl, rfl, hS, rfl, y, dy, rfl, hy, _, rfl, ?_⟩
    cases cw : wholeD dy with
    | false =>
      have q : powD dy = false := by
        cases dy with
        | int i => cases cw
        | _ => rfl
      refine iteF (iteF ?_)
      refine ⟨_, rfl, p, _, _, _, rfl, rfl, hS, rfl, rfl, _, rfl, iteN1 np (iteT ?_)⟩
      exact ⟨1, rfl, kno (by rw [due_power, q]; rfl) H (Same.refl H)⟩
    | true =>
      obtain ⟨i, rfl⟩ := wholeD_int cw
      cases hy
      refine iteT ?_
      refine ⟨_, rfl, p, _, _, _, rfl, rfl, hS, rfl, _, _, rfl, rfl, _, rfl, ?_⟩
      by_cases ca : (2 : Int) ≤ i
      · refine iteD1 ca ?_
        refine ⟨_, _, rfl, rfl, _, rfl, ?_⟩
        by_cases cb : i ≤ 4
        · refine iteD1 cb ?_
          have q : powD (.int i) = true := by show (decide (2 ≤ i) && decide (i ≤ 4)) = true; rw [decide_eq_true ca, decide_eq_true cb]; rfl
          have := k H (Same.refl H)
          rw [due_power, q] at this
          exact this
        · refine iteD0 cb ?_
          have q : powD (.int i) = false := by show (decide (2 ≤ i) && decide (i ≤ 4)) = false; rw [decide_eq_false cb, Bool.and_false]
          refine ⟨_, rfl, p, _, _, _, rfl, rfl, hS, rfl, rfl, _, rfl, iteN1 np (iteT ?_)⟩
          exact ⟨1, rfl, kno (by rw [due_power, q]; rfl) H (Same.refl H)⟩
      · refine iteD0 ca ⟨_, rfl, iteF ?_⟩
        have q : powD (.int i) = false := by show (decide (2 ≤ i) && decide (i ≤ 4)) = false; rw [decide_eq_false ca, Bool.false_and]
        refine ⟨_, rfl, p, _, _, _, rfl, rfl, hS, rfl, rfl, _, rfl, iteN1 np (iteT ?_)⟩
        exact ⟨1, rfl, kno (by rw [due_power, q]; rfl) H (Same.refl H)⟩
  refine iteD0 (fun z => cp (by injection z)) (iteF ?_)
  refine ⟨_, rfl, p, _, _, _, rfl, rfl, hS, rfl, rfl, _, rfl, ?_⟩
  by_cases ct : sx = Str.ofString "table"
  rotate_left
  · refine iteN1 (fun z => ct (by injection z)) (iteT ?_)
    exact ⟨1, rfl, kno (due_other (by rw [eqv_str]; exact decide_eq_false cp) (by rw [eqv_str]; exact decide_eq_false ct)) H (Same.refl H)⟩
  subst ct
  refine iteNS rfl ?_
  rcases isi_tup hy with ⟨et, q, zs, es', rfl, rfl, hq, hB⟩ | ⟨et, not_⟩
  rotate_left
  · refine ⟨_, rfl, p, _, _, _, rfl, rfl, hS, rfl, _, _, _, _, rfl, hy, et, _, rfl, iteT (iteT ?_)⟩
    refine ⟨1, rfl, kno (due_rows ?_) H (Same.refl H)⟩
    cases dy with
    | tuple ds => exact absurd rfl (not_ ds)
    | _ => rfl
  refine ⟨_, rfl, p, _, _, _, rfl, rfl, hS, rfl, _, _, _, _, rfl, hy, et, _, rfl, iteF ?_⟩
  have hlz := hB.len
  refine ⟨_, rfl, p, _, _, _, rfl, rfl, hS, rfl, q, zs, rfl, .inr hq, 2, 13, rfl, fun pr gr => ?_⟩
  have er := same_new gr (.rng 2 13)
  refine ⟨_, pr, 2, 13, rfl, rfl, upd_same, _, rfl, ?_⟩
  generalize hHr : (upd H pr (.rng 2 13)) = Hr at er ⊢
  by_cases cl : 2 ≤ es'.length ∧ es'.length ≤ 12
  rotate_left
  · have e : (!(decide ((2 : Int) ≤ (zs.length : Int)) && decide ((zs.length : Int) < 13))) = true := by
      cases c : (decide ((2 : Int) ≤ (zs.length : Int)) && decide ((zs.length : Int) < 13)) with
      | false => rfl
      | true =>
        rw [Bool.and_eq_true, decide_eq_true_iff, decide_eq_true_iff] at c
        exact absurd (show 2 ≤ es'.length ∧ es'.length ≤ 12 by omega) cl
    rw [e]
    refine iteT ?_
    refine ⟨1, rfl, kno (due_rows ?_) Hr er⟩
    show (decide (2 ≤ es'.length) && decide (es'.length ≤ 12)) = false
    cases c : (decide (2 ≤ es'.length) && decide (es'.length ≤ 12)) with
    | false => rfl
    | true =>
      rw [Bool.and_eq_true, decide_eq_true_iff, decide_eq_true_iff] at c
      exact absurd c cl
  have e : (!(decide ((2 : Int) ≤ (zs.length : Int)) && decide ((zs.length : Int) < 13))) = false := by
    rw [decide_eq_true (show (2 : Int) ≤ (zs.length : Int) by omega), decide_eq_true (show (zs.length : Int) < 13 by omega)]; rfl
  rw [e]
  refine iteF ?_
  have ib : ∀ e ∈ es', ibd e = true := by
    have b : (ibd (.str (Str.ofString "table")) && (ibdAll es' && true)) = true := th.bd
    rw [Bool.and_eq_true, Bool.and_eq_true] at b
    exact ibdAll_mem b.2.1
  have du := due_table es' cl
  refine ⟨_, rfl, p, _, _, _, rfl, rfl, Tst.same er _ _ hS, rfl, q, zs, rfl, .inr (Tst.same er _ _ hq), _, rfl, by omega, by omega, for_range (lo := 0) (n := (zs.length : Int).toNat) (fun i σ H' => ∃ (x1 : Option V), σ = [some (.ref p), x1] ∧ Same H H' ∧ ∀ m, m < i → goodRow es' m = true) ⟨none, rfl, er, fun m hm => absurd hm (Nat.not_lt_zero _)⟩ ?_ ?_⟩
  · rintro i σ H1 hi ⟨x1, rfl, sm, gd⟩
    have hil : i < es'.length := by omega
    have hde : es'[i]? = some es'[i] := List.getElem?_eq_getElem hil
    obtain ⟨v, hv, dv⟩ := DeepAll.at hB hde
    have ia : atI zs (0 + (i : Int)) = some v := by rw [Int.zero_add]; exact atI_nat hv
    have hB1 := DeepAll.same sm hB
    have bad : goodRow es' i = false → dueP (.tuple [.str (Str.ofString "table"), .tuple es']) = some (i : Int) := fun b => by rw [du, fb_some hil b gd]; rfl
    refine ⟨_, rfl, p, _, _, _, rfl, rfl, Tst.same sm _ _ hS, rfl, _, rfl, q, _, _, _, rfl, rfl, Tst.same sm _ _ hq, ia, v, _, rfl, dv.same sm, _, rfl, ?_⟩
    cases pr : pairD es'[i] with
    | false =>
      refine iteT (iteT ?_)
      have := k H1 sm
      rw [bad (by unfold goodRow; rw [(dec_at hde).2, pr]; rfl)] at this
      exact ⟨_, rfl, by rw [Int.zero_add]; exact this⟩
    | true =>
      refine iteF ?_
      have pr' : pairD (es'.getD i .none) = true := by rw [(dec_at hde).2]; exact pr
      refine ⟨_, rfl, p, _, _, _, rfl, rfl, Tst.same sm _ _ hS, rfl, _, rfl, q, zs, es'.map decRow, i, (by rw [Int.zero_add] <;> rfl), Tst.same sm _ _ hq, beh_ok hB1 ib hil pr' gd, fun H3 s3 => ⟨_, rfl, ?_⟩⟩
      cases bh : behM (es'.map decRow) i with
      | true =>
        refine iteF ?_
        refine ⟨_, rfl, sm.trans s3, fun m hm => ?_⟩
        by_cases c : m < i
        · exact gd m c
        · have : m = i := by omega
          subst this
          unfold goodRow
          rw [pr', bh]; rfl
      | false =>
        refine iteT ?_
        have := k H3 (sm.trans s3)
        rw [bad (by unfold goodRow; rw [pr', bh]; rfl)] at this
        exact ⟨_, rfl, by rw [Int.zero_add]; exact this⟩
  · rintro σ H1 ⟨x1, rfl, sm, gd⟩
    have := k H1 sm
    rw [du, fb_none fun n hn => gd n (by omega)] at this
    exact this
theorem ok_law_bent_row (T : Txt K mg t) : FnOk P w K mg base CX0 4 t.a_law_bent_row t.d_law_bent_row ["_law_tape_here", "_law_rows", "_law_at"] (sp_law_bent_row K) := by
  refine T.F_law_bent_row.ok sc_law_bent_row (fun vs H Q E h => ?_) (fun cdv A outer s H vs Q E hr h => ?_)
  · obtain ⟨_, _, _, _, _, _, rfl, _⟩ := h; rfl
  obtain ⟨t₁, s₀, q, xs, rows, n, rfl, T0, hq, al, ok, hn, k⟩ := h
  refine QSs.ok (qss_cons (qs_asg (qe_ix ix_tup (qv 1) (qv 2) (fun _ _ => rfl)) (qg_tup rfl (qgs_cons (qg_name (i := 3) sc_law_bent_row.nd rfl (by first | exact Or.inl rfl | exact Or.inr rfl)) (qgs_cons (qg_name (i := 4) sc_law_bent_row.nd rfl (by first | exact Or.inl rfl | exact Or.inr rfl)) qgs_nil))))
      (qss_cons (qs_set (i := 5) sc_law_bent_row.nd rfl (by first | exact Or.inl rfl | exact Or.inr rfl) (qe_tup (qa_cons qe_int (qa_cons (qe_op op_pow qe_int qe_int) qa_nil star_bin) star_con)))
      (qss_cons (qs_set (i := 6) sc_law_bent_row.nd rfl (by first | exact Or.inl rfl | exact Or.inr rfl) (qe_lst (qa_cons (qe_tup (qa_cons (qe_call (ok_law_plus T) (hr.mono (by decide)) rfl T.m_law_plus T.F_law_plus.kp T.b_law_plus .nil pass0 (qa_cons (qv 3) (qa_cons (qv 5) qa_nil star_name) star_name)) (qa_cons (qv 4) qa_nil star_name) star_call)) (qa_cons (qe_tup (qa_cons (qv 3) (qa_cons (qe_call (ok_law_minus T) (hr.mono (by decide)) rfl T.m_law_minus T.F_law_minus.kp T.b_law_minus .nil pass0 (qa_cons (qv 4) (qa_cons (qv 5) qa_nil star_name) star_name)) qa_nil star_call) star_name)) (qa_cons (qe_tup (qa_cons (qv 3) (qa_cons (qe_call (ok_law_plus T) (hr.mono (by decide)) rfl T.m_law_plus T.F_law_plus.kp T.b_law_plus .nil pass0 (qa_cons (qv 4) (qa_cons (qv 5) qa_nil star_name) star_name)) qa_nil star_call) star_name)) qa_nil star_tup) star_tup) star_tup)))
      (qss_cons (qs_set (i := 6) sc_law_bent_row.nd rfl (by first | exact Or.inl rfl | exact Or.inr rfl) (qe_op op_cat (qv 6) (qe_lst (qa_cons (qe_ix ix_tup (qv 1) (qe_op op_sub (qv 2) qe_int) (fun _ _ => rfl)) (qa_cons (qe_tup (qa_cons (qe_ix ix_tup (qe_ix ix_tup (qv 1) (qe_op op_sub (qv 2) qe_int) (fun _ _ => rfl)) qe_int (fun _ _ => rfl)) (qa_cons (qv 4) qa_nil star_name) star_sub)) (qa_cons (qe_tup (qa_cons (qv 3) (qa_cons (qe_ix ix_tup (qe_ix ix_tup (qv 1) (qe_op op_sub (qv 2) qe_int) (fun _ _ => rfl)) qe_int (fun _ _ => rfl)) qa_nil star_sub) star_name)) (qa_cons (qe_lst (qa_cons (qv 3) (qa_cons (qv 4) qa_nil star_name) star_name)) (qa_cons (qe_tup (qa_cons (qv 3) qa_nil star_name)) (qa_cons qe_non qa_nil star_con) star_tup) star_lst) star_tup) star_tup) star_sub))))
      (qss_cons (qs_set (i := 6) sc_law_bent_row.nd rfl (by first | exact Or.inl rfl | exact Or.inr rfl) (qe_op op_cat (qv 6) (qe_lst (qa_cons (qe_tup (qa_cons (qv 3) (qa_cons (qe_ix ix_tup (qv 4) qe_int (fun _ _ => rfl)) qa_nil star_sub) star_name)) (qa_cons (qe_tup (qa_cons (qv 3) (qa_cons (qe_tup (qa_cons (qe_op op_mulB qe_int (qe_ix ix_tup (qv 4) qe_int (fun _ _ => rfl))) (qa_cons (qe_op op_mulB qe_int (qe_ix ix_tup (qv 4) qe_int (fun _ _ => rfl))) qa_nil star_bin) star_bin)) qa_nil star_tup) star_name)) (qa_cons (qe_tup (qa_cons (qe_tup (qa_cons qe_bl (qa_cons qe_int qa_nil star_con) star_con)) (qa_cons (qv 4) qa_nil star_name) star_tup)) (qa_cons (qe_tup (qa_cons (qv 4) (qa_cons (qv 3) qa_nil star_name) star_name)) qa_nil star_tup) star_tup) star_tup) star_tup))))
      (qss_one (qs_ret (qe_ix ix_list (qv 6) (qe_call (ok_law_draw T) (hr.mono (by decide)) rfl T.m_law_draw T.F_law_draw.kp T.b_law_draw .nil pass0 (qa_cons (qv 0) (qa_cons qe_int qa_nil star_con) star_name)) (fun _ _ => rfl))))))))) ?_
  obtain ⟨va, z, ia, rva, mz⟩ := ahead_at al ok.n2 hn
  have hx0 : xs[n]? = some (xs[n]'(by rw [al.len]; exact hn)) := List.getElem?_eq_getElem _
  obtain ⟨w, hw0, rvw⟩ := al.at hx0
  have mw := List.mem_of_getElem? hw0
  obtain ⟨pw, x, y, ex, hSp, hx, hy⟩ := rvw
  obtain ⟨pa, u, w', rfl, hSa, hu, hw⟩ := rva
  have wx := wfS (ok.sp w mw)
  have wy := wfP (ok.pw w mw)
  have wz1 := wfS (ok.sp z mz)
  have wz2 := wfP (ok.pw z mz)
  refine ⟨_, rfl, _, rfl, q, _, _, _, rfl, rfl, hq, atI_nat hx0, pw, _, ex, hSp, rfl, _, _, rfl, _, _, rfl, rfl, ?_⟩
  obtain ⟨py, ey, hSy⟩ := id hy
  have S0 : Step t₁ H H := Step.same (Same.refl H) T0.lst
  have isl := Tape.isL T0
  refine ⟨_, _, rfl, rfl, ⟨by decide, by decide, by decide⟩, (by show 2 ≤ sizeLine; decide), fun pl gl => ?_⟩
  have en1 := same_new gl (.tup [.int 1, .int (10 ^ (6 : Int).toNat)])
  have fr1 := Step.fresh S0 T0 gl
  replace S0 := S0.trans (Step.same en1 T0.lst)
  replace T0 := T0.same en1
  replace hq := Tst.same (K := K) en1 _ _ hq
  replace hx := hx.mono (Tst.same (K := K) en1)
  replace hy := hy.mono (Tst.same (K := K) en1)
  replace hu := hu.mono (Tst.same (K := K) en1)
  replace hw := hw.mono (Tst.same (K := K) en1)
  replace hSp := Tst.same (K := K) en1 _ _ hSp
  replace hSy := Tst.same (K := K) en1 _ _ hSy
  replace hSa := Tst.same (K := K) en1 _ _ hSa
  have tn := tst_noL (K := K) S0 T0
  have hl : RV K (upd H pl (.tup [.int 1, .int (10 ^ (6 : Int).toNat)])) (.ref pl) ltl := rv_new (K := K) en1
  generalize (upd H pl (.tup [.int 1, .int (10 ^ (6 : Int).toNat)])) = Hn1 at S0 T0 hq hx hy hu hw hSp hSy hSa hl ⊢
  clear en1 tn
  refine ⟨_, rfl, _, rfl, x, .ref pl, w.1, ltl, 98, 30, rfl, hx, hl, wx, ltl_wf, by decide, fun p1 g1 => ?_⟩
  have en2 := same_new g1 (.tup [.int (plusR w.1 ltl).1, .int (plusR w.1 ltl).2])
  have fr2 := Step.fresh S0 T0 g1
  replace S0 := S0.trans (Step.same en2 T0.lst)
  replace T0 := T0.same en2
  replace hq := Tst.same (K := K) en2 _ _ hq
  replace hx := hx.mono (Tst.same (K := K) en2)
  replace hy := hy.mono (Tst.same (K := K) en2)
  replace hu := hu.mono (Tst.same (K := K) en2)
  replace hw := hw.mono (Tst.same (K := K) en2)
  replace hSp := Tst.same (K := K) en2 _ _ hSp
  replace hSy := Tst.same (K := K) en2 _ _ hSy
  replace hSa := Tst.same (K := K) en2 _ _ hSa
  replace hl := hl.mono (Tst.same (K := K) en2)
  have tn := tst_noL (K := K) S0 T0
  have h1 : RV K (upd Hn1 p1 (.tup [.int (plusR w.1 ltl).1, .int (plusR w.1 ltl).2])) (.ref p1) (plusR w.1 ltl) := rv_new (K := K) en2
  generalize (upd Hn1 p1 (.tup [.int (plusR w.1 ltl).1, .int (plusR w.1 ltl).2])) = Hn2 at S0 T0 hq hx hy hu hw hSp hSy hSa hl h1 ⊢
  clear en2 tn
  refine ⟨_, rfl, (by show 2 ≤ sizeLine; decide), fun t1 k1 => ?_⟩
  have en3 := same_new k1 (.tup [.ref p1, y])
  have fr3 := Step.fresh S0 T0 k1
  replace S0 := S0.trans (Step.same en3 T0.lst)
  replace T0 := T0.same en3
  replace hq := Tst.same (K := K) en3 _ _ hq
  replace hx := hx.mono (Tst.same (K := K) en3)
  replace hy := hy.mono (Tst.same (K := K) en3)
  replace hu := hu.mono (Tst.same (K := K) en3)
  replace hw := hw.mono (Tst.same (K := K) en3)
  replace hSp := Tst.same (K := K) en3 _ _ hSp
  replace hSy := Tst.same (K := K) en3 _ _ hSy
  replace hSa := Tst.same (K := K) en3 _ _ hSa
  replace hl := hl.mono (Tst.same (K := K) en3)
  replace h1 := h1.mono (Tst.same (K := K) en3)
  have tn := tst_noL (K := K) S0 T0
  have d1 : Deep K (noL H (upd Hn2 t1 (.tup [.ref p1, y]))) (.ref t1) (.tuple [dR (plusR w.1 ltl), dR w.2]) := .tup (SqT.of (noL_new fr3)) (.cons (h1.mono tn).deep (.cons (hy.mono tn).deep .nil))
  generalize (upd Hn2 t1 (.tup [.ref p1, y])) = Hn3 at S0 T0 hq hx hy hu hw hSp hSy hSa hl h1 d1 ⊢
  clear en3 tn
  refine ⟨_, rfl, _, rfl, _, rfl, y, .ref pl, w.2, ltl, 197, 30, rfl, hy, hl, wy, ltl_wf, by decide, fun p2 g2 => ?_⟩
  have en4 := same_new g2 (.tup [.int (minusR w.2 ltl).1, .int (minusR w.2 ltl).2])
  have fr4 := Step.fresh S0 T0 g2
  replace S0 := S0.trans (Step.same en4 T0.lst)
  replace T0 := T0.same en4
  replace hq := Tst.same (K := K) en4 _ _ hq
  replace hx := hx.mono (Tst.same (K := K) en4)
  replace hy := hy.mono (Tst.same (K := K) en4)
  replace hu := hu.mono (Tst.same (K := K) en4)
  replace hw := hw.mono (Tst.same (K := K) en4)
  replace hSp := Tst.same (K := K) en4 _ _ hSp
  replace hSy := Tst.same (K := K) en4 _ _ hSy
  replace hSa := Tst.same (K := K) en4 _ _ hSa
  replace hl := hl.mono (Tst.same (K := K) en4)
  replace h1 := h1.mono (Tst.same (K := K) en4)
  replace d1 := d1.same (noL_same en4)
  have tn := tst_noL (K := K) S0 T0
  have h2 : RV K (upd Hn3 p2 (.tup [.int (minusR w.2 ltl).1, .int (minusR w.2 ltl).2])) (.ref p2) (minusR w.2 ltl) := rv_new (K := K) en4
  generalize (upd Hn3 p2 (.tup [.int (minusR w.2 ltl).1, .int (minusR w.2 ltl).2])) = Hn4 at S0 T0 hq hx hy hu hw hSp hSy hSa hl h1 d1 h2 ⊢
  clear en4 tn
  refine ⟨(by show 2 ≤ sizeLine; decide), fun t2 k2 => ?_⟩
  have en5 := same_new k2 (.tup [x, .ref p2])
  have fr5 := Step.fresh S0 T0 k2
  replace S0 := S0.trans (Step.same en5 T0.lst)
  replace T0 := T0.same en5
  replace hq := Tst.same (K := K) en5 _ _ hq
  replace hx := hx.mono (Tst.same (K := K) en5)
  replace hy := hy.mono (Tst.same (K := K) en5)
  replace hu := hu.mono (Tst.same (K := K) en5)
  replace hw := hw.mono (Tst.same (K := K) en5)
  replace hSp := Tst.same (K := K) en5 _ _ hSp
  replace hSy := Tst.same (K := K) en5 _ _ hSy
  replace hSa := Tst.same (K := K) en5 _ _ hSa
  replace hl := hl.mono (Tst.same (K := K) en5)
  replace h1 := h1.mono (Tst.same (K := K) en5)
  replace d1 := d1.same (noL_same en5)
  replace h2 := h2.mono (Tst.same (K := K) en5)
  have tn := tst_noL (K := K) S0 T0
  have d2 : Deep K (noL H (upd Hn4 t2 (.tup [x, .ref p2]))) (.ref t2) (.tuple [dR w.1, dR (minusR w.2 ltl)]) := .tup (SqT.of (noL_new fr5)) (.cons (hx.mono tn).deep (.cons (h2.mono tn).deep .nil))
  generalize (upd Hn4 t2 (.tup [x, .ref p2])) = Hn5 at S0 T0 hq hx hy hu hw hSp hSy hSa hl h1 d1 h2 d2 ⊢
  clear en5 tn
  refine ⟨_, rfl, _, rfl, _, rfl, y, .ref pl, w.2, ltl, 197, 30, rfl, hy, hl, wy, ltl_wf, by decide, fun p3 g3 => ?_⟩
  have en6 := same_new g3 (.tup [.int (plusR w.2 ltl).1, .int (plusR w.2 ltl).2])
  have fr6 := Step.fresh S0 T0 g3
  replace S0 := S0.trans (Step.same en6 T0.lst)
  replace T0 := T0.same en6
  replace hq := Tst.same (K := K) en6 _ _ hq
  replace hx := hx.mono (Tst.same (K := K) en6)
  replace hy := hy.mono (Tst.same (K := K) en6)
  replace hu := hu.mono (Tst.same (K := K) en6)
  replace hw := hw.mono (Tst.same (K := K) en6)
  replace hSp := Tst.same (K := K) en6 _ _ hSp
  replace hSy := Tst.same (K := K) en6 _ _ hSy
  replace hSa := Tst.same (K := K) en6 _ _ hSa
  replace hl := hl.mono (Tst.same (K := K) en6)
  replace h1 := h1.mono (Tst.same (K := K) en6)
  replace d1 := d1.same (noL_same en6)
  replace h2 := h2.mono (Tst.same (K := K) en6)
  replace d2 := d2.same (noL_same en6)
  have tn := tst_noL (K := K) S0 T0
  have h3 : RV K (upd Hn5 p3 (.tup [.int (plusR w.2 ltl).1, .int (plusR w.2 ltl).2])) (.ref p3) (plusR w.2 ltl) := rv_new (K := K) en6
  generalize (upd Hn5 p3 (.tup [.int (plusR w.2 ltl).1, .int (plusR w.2 ltl).2])) = Hn6 at S0 T0 hq hx hy hu hw hSp hSy hSa hl h1 d1 h2 d2 h3 ⊢
  clear en6 tn
  refine ⟨(by show 2 ≤ sizeLine; decide), fun t3 k3 => ?_⟩
  have en7 := same_new k3 (.tup [x, .ref p3])
  have fr7 := Step.fresh S0 T0 k3
  replace S0 := S0.trans (Step.same en7 T0.lst)
  replace T0 := T0.same en7
  replace hq := Tst.same (K := K) en7 _ _ hq
  replace hx := hx.mono (Tst.same (K := K) en7)
  replace hy := hy.mono (Tst.same (K := K) en7)
  replace hu := hu.mono (Tst.same (K := K) en7)
  replace hw := hw.mono (Tst.same (K := K) en7)
  replace hSp := Tst.same (K := K) en7 _ _ hSp
  replace hSy := Tst.same (K := K) en7 _ _ hSy
  replace hSa := Tst.same (K := K) en7 _ _ hSa
  replace hl := hl.mono (Tst.same (K := K) en7)
  replace h1 := h1.mono (Tst.same (K := K) en7)
  replace d1 := d1.same (noL_same en7)
  replace h2 := h2.mono (Tst.same (K := K) en7)
  replace d2 := d2.same (noL_same en7)
  replace h3 := h3.mono (Tst.same (K := K) en7)
  have tn := tst_noL (K := K) S0 T0
  have d3 : Deep K (noL H (upd Hn6 t3 (.tup [x, .ref p3]))) (.ref t3) (.tuple [dR w.1, dR (plusR w.2 ltl)]) := .tup (SqT.of (noL_new fr7)) (.cons (hx.mono tn).deep (.cons (h3.mono tn).deep .nil))
  generalize (upd Hn6 t3 (.tup [x, .ref p3])) = Hn7 at S0 T0 hq hx hy hu hw hSp hSy hSa hl h1 d1 h2 d2 h3 d3 ⊢
  clear en7 tn
  refine ⟨(by show 3 ≤ sizeLine; decide), fun l1 m1 => ?_⟩
  have en8 := same_new m1 (.lst [.ref t1, .ref t2, .ref t3])
  have fr8 := Step.fresh S0 T0 m1
  replace S0 := S0.trans (Step.same en8 T0.lst)
  replace T0 := T0.same en8
  replace hq := Tst.same (K := K) en8 _ _ hq
  replace hx := hx.mono (Tst.same (K := K) en8)
  replace hy := hy.mono (Tst.same (K := K) en8)
  replace hu := hu.mono (Tst.same (K := K) en8)
  replace hw := hw.mono (Tst.same (K := K) en8)
  replace hSp := Tst.same (K := K) en8 _ _ hSp
  replace hSy := Tst.same (K := K) en8 _ _ hSy
  replace hSa := Tst.same (K := K) en8 _ _ hSa
  replace hl := hl.mono (Tst.same (K := K) en8)
  replace h1 := h1.mono (Tst.same (K := K) en8)
  replace d1 := d1.same (noL_same en8)
  replace h2 := h2.mono (Tst.same (K := K) en8)
  replace d2 := d2.same (noL_same en8)
  replace h3 := h3.mono (Tst.same (K := K) en8)
  replace d3 := d3.same (noL_same en8)
  have tn := tst_noL (K := K) S0 T0
  have f1 : (upd Hn7 l1 (.lst [.ref t1, .ref t2, .ref t3])) l1 = some (.lst [.ref t1, .ref t2, .ref t3]) := upd_same
  have a1 : DeepAll K (noL H (upd Hn7 l1 (.lst [.ref t1, .ref t2, .ref t3]))) [.ref t1, .ref t2, .ref t3] [.tuple [dR (plusR w.1 ltl), dR w.2], .tuple [dR w.1, dR (minusR w.2 ltl)], .tuple [dR w.1, dR (plusR w.2 ltl)]] := .cons d1 (.cons d2 (.cons d3 .nil))
  generalize (upd Hn7 l1 (.lst [.ref t1, .ref t2, .ref t3])) = Hn8 at S0 T0 hq hx hy hu hw hSp hSy hSa hl h1 d1 h2 d2 h3 d3 f1 a1 ⊢
  clear en8 tn
  refine ⟨_, rfl, _, rfl, _, rfl, _, _, rfl, rfl, q, _, _, _, rfl, rfl, hq, ia, _, rfl, _, rfl, _, _, rfl, rfl, q, _, _, _, rfl, rfl, hq, ia, pa, _, _, _, rfl, rfl, hSa, rfl, _, rfl, (by show 2 ≤ sizeLine; decide), fun t4 k4 => ?_⟩
  have en9 := same_new k4 (.tup [u, y])
  have fr9 := Step.fresh S0 T0 k4
  replace S0 := S0.trans (Step.same en9 T0.lst)
  replace T0 := T0.same en9
  replace hq := Tst.same (K := K) en9 _ _ hq
  replace hx := hx.mono (Tst.same (K := K) en9)
  replace hy := hy.mono (Tst.same (K := K) en9)
  replace hu := hu.mono (Tst.same (K := K) en9)
  replace hw := hw.mono (Tst.same (K := K) en9)
  replace hSp := Tst.same (K := K) en9 _ _ hSp
  replace hSy := Tst.same (K := K) en9 _ _ hSy
  replace hSa := Tst.same (K := K) en9 _ _ hSa
  replace hl := hl.mono (Tst.same (K := K) en9)
  replace h1 := h1.mono (Tst.same (K := K) en9)
  replace d1 := d1.same (noL_same en9)
  replace h2 := h2.mono (Tst.same (K := K) en9)
  replace d2 := d2.same (noL_same en9)
  replace h3 := h3.mono (Tst.same (K := K) en9)
  replace d3 := d3.same (noL_same en9)
  replace f1 := en9 _ _ f1
  replace a1 := DeepAll.same (noL_same en9) a1
  have tn := tst_noL (K := K) S0 T0
  have d4 : Deep K (noL H (upd Hn8 t4 (.tup [u, y]))) (.ref t4) (.tuple [dR z.1, dR w.2]) := .tup (SqT.of (noL_new fr9)) (.cons (hu.mono tn).deep (.cons (hy.mono tn).deep .nil))
  generalize (upd Hn8 t4 (.tup [u, y])) = Hn9 at S0 T0 hq hx hy hu hw hSp hSy hSa hl h1 d1 h2 d2 h3 d3 f1 a1 d4 ⊢
  clear en9 tn
  refine ⟨_, rfl, _, rfl, _, rfl, _, _, rfl, rfl, q, _, _, _, rfl, rfl, hq, ia, pa, _, _, _, rfl, rfl, hSa, rfl, (by show 2 ≤ sizeLine; decide), fun t5 k5 => ?_⟩
  have en10 := same_new k5 (.tup [x, w'])
  have fr10 := Step.fresh S0 T0 k5
  replace S0 := S0.trans (Step.same en10 T0.lst)
  replace T0 := T0.same en10
  replace hq := Tst.same (K := K) en10 _ _ hq
  replace hx := hx.mono (Tst.same (K := K) en10)
  replace hy := hy.mono (Tst.same (K := K) en10)
  replace hu := hu.mono (Tst.same (K := K) en10)
  replace hw := hw.mono (Tst.same (K := K) en10)
  replace hSp := Tst.same (K := K) en10 _ _ hSp
  replace hSy := Tst.same (K := K) en10 _ _ hSy
  replace hSa := Tst.same (K := K) en10 _ _ hSa
  replace hl := hl.mono (Tst.same (K := K) en10)
  replace h1 := h1.mono (Tst.same (K := K) en10)
  replace d1 := d1.same (noL_same en10)
  replace h2 := h2.mono (Tst.same (K := K) en10)
  replace d2 := d2.same (noL_same en10)
  replace h3 := h3.mono (Tst.same (K := K) en10)
  replace d3 := d3.same (noL_same en10)
  replace f1 := en10 _ _ f1
  replace a1 := DeepAll.same (noL_same en10) a1
  replace d4 := d4.same (noL_same en10)
  have tn := tst_noL (K := K) S0 T0
  have d5 : Deep K (noL H (upd Hn9 t5 (.tup [x, w']))) (.ref t5) (.tuple [dR w.1, dR z.2]) := .tup (SqT.of (noL_new fr10)) (.cons (hx.mono tn).deep (.cons (hw.mono tn).deep .nil))
  generalize (upd Hn9 t5 (.tup [x, w'])) = Hn10 at S0 T0 hq hx hy hu hw hSp hSy hSa hl h1 d1 h2 d2 h3 d3 f1 a1 d4 d5 ⊢
  clear en10 tn
  refine ⟨_, rfl, _, rfl, (by show 2 ≤ sizeLine; decide), fun t6 k6 => ?_⟩
  have en11 := same_new k6 (.lst [x, y])
  have fr11 := Step.fresh S0 T0 k6
  replace S0 := S0.trans (Step.same en11 T0.lst)
  replace T0 := T0.same en11
  replace hq := Tst.same (K := K) en11 _ _ hq
  replace hx := hx.mono (Tst.same (K := K) en11)
  replace hy := hy.mono (Tst.same (K := K) en11)
  replace hu := hu.mono (Tst.same (K := K) en11)
  replace hw := hw.mono (Tst.same (K := K) en11)
  replace hSp := Tst.same (K := K) en11 _ _ hSp
  replace hSy := Tst.same (K := K) en11 _ _ hSy
  replace hSa := Tst.same (K := K) en11 _ _ hSa
  replace hl := hl.mono (Tst.same (K := K) en11)
  replace h1 := h1.mono (Tst.same (K := K) en11)
  replace d1 := d1.same (noL_same en11)
  replace h2 := h2.mono (Tst.same (K := K) en11)
  replace d2 := d2.same (noL_same en11)
  replace h3 := h3.mono (Tst.same (K := K) en11)
  replace d3 := d3.same (noL_same en11)
  replace f1 := en11 _ _ f1
  replace a1 := DeepAll.same (noL_same en11) a1
  replace d4 := d4.same (noL_same en11)
  replace d5 := d5.same (noL_same en11)
  have tn := tst_noL (K := K) S0 T0
  have d6 : Deep K (noL H (upd Hn10 t6 (.lst [x, y]))) (.ref t6) (.list [dR w.1, dR w.2]) := .lst (SqL.of (noL_new fr11)) (.cons (hx.mono tn).deep (.cons (hy.mono tn).deep .nil))
  generalize (upd Hn10 t6 (.lst [x, y])) = Hn11 at S0 T0 hq hx hy hu hw hSp hSy hSa hl h1 d1 h2 d2 h3 d3 f1 a1 d4 d5 d6 ⊢
  clear en11 tn
  refine ⟨_, rfl, (by show 1 ≤ sizeLine; decide), fun t7 k7 => ?_⟩
  have en12 := same_new k7 (.tup [x])
  have fr12 := Step.fresh S0 T0 k7
  replace S0 := S0.trans (Step.same en12 T0.lst)
  replace T0 := T0.same en12
  replace hq := Tst.same (K := K) en12 _ _ hq
  replace hx := hx.mono (Tst.same (K := K) en12)
  replace hy := hy.mono (Tst.same (K := K) en12)
  replace hu := hu.mono (Tst.same (K := K) en12)
  replace hw := hw.mono (Tst.same (K := K) en12)
  replace hSp := Tst.same (K := K) en12 _ _ hSp
  replace hSy := Tst.same (K := K) en12 _ _ hSy
  replace hSa := Tst.same (K := K) en12 _ _ hSa
  replace hl := hl.mono (Tst.same (K := K) en12)
  replace h1 := h1.mono (Tst.same (K := K) en12)
  replace d1 := d1.same (noL_same en12)
  replace h2 := h2.mono (Tst.same (K := K) en12)
  replace d2 := d2.same (noL_same en12)
  replace h3 := h3.mono (Tst.same (K := K) en12)
  replace d3 := d3.same (noL_same en12)
  replace f1 := en12 _ _ f1
  replace a1 := DeepAll.same (noL_same en12) a1
  replace d4 := d4.same (noL_same en12)
  replace d5 := d5.same (noL_same en12)
  replace d6 := d6.same (noL_same en12)
  have tn := tst_noL (K := K) S0 T0
  have d7 : Deep K (noL H (upd Hn11 t7 (.tup [x]))) (.ref t7) (.tuple [dR w.1]) := .tup (SqT.of (noL_new fr12)) (.cons (hx.mono tn).deep .nil)
  generalize (upd Hn11 t7 (.tup [x])) = Hn12 at S0 T0 hq hx hy hu hw hSp hSy hSa hl h1 d1 h2 d2 h3 d3 f1 a1 d4 d5 d6 d7 ⊢
  clear en12 tn
  refine ⟨(by show 6 ≤ sizeLine; decide), fun l2 m2 => ?_⟩
  have en13 := same_new m2 (.lst [.ref pa, .ref t4, .ref t5, .ref t6, .ref t7, .non])
  have fr13 := Step.fresh S0 T0 m2
  replace S0 := S0.trans (Step.same en13 T0.lst)
  replace T0 := T0.same en13
  replace hq := Tst.same (K := K) en13 _ _ hq
  replace hx := hx.mono (Tst.same (K := K) en13)
  replace hy := hy.mono (Tst.same (K := K) en13)
  replace hu := hu.mono (Tst.same (K := K) en13)
  replace hw := hw.mono (Tst.same (K := K) en13)
  replace hSp := Tst.same (K := K) en13 _ _ hSp
  replace hSy := Tst.same (K := K) en13 _ _ hSy
  replace hSa := Tst.same (K := K) en13 _ _ hSa
  replace hl := hl.mono (Tst.same (K := K) en13)
  replace h1 := h1.mono (Tst.same (K := K) en13)
  replace d1 := d1.same (noL_same en13)
  replace h2 := h2.mono (Tst.same (K := K) en13)
  replace d2 := d2.same (noL_same en13)
  replace h3 := h3.mono (Tst.same (K := K) en13)
  replace d3 := d3.same (noL_same en13)
  replace f1 := en13 _ _ f1
  replace a1 := DeepAll.same (noL_same en13) a1
  replace d4 := d4.same (noL_same en13)
  replace d5 := d5.same (noL_same en13)
  replace d6 := d6.same (noL_same en13)
  replace d7 := d7.same (noL_same en13)
  have tn := tst_noL (K := K) S0 T0
  have f2 : (upd Hn12 l2 (.lst [.ref pa, .ref t4, .ref t5, .ref t6, .ref t7, .non])) l2 = some (.lst [.ref pa, .ref t4, .ref t5, .ref t6, .ref t7, .non]) := upd_same
  have a2 : DeepAll K (noL H (upd Hn12 l2 (.lst [.ref pa, .ref t4, .ref t5, .ref t6, .ref t7, .non]))) [.ref pa, .ref t4, .ref t5, .ref t6, .ref t7, .non] [dRow z, .tuple [dR z.1, dR w.2], .tuple [dR w.1, dR z.2], .list [dR w.1, dR w.2], .tuple [dR w.1], .none] := .cons (.tup (tn _ _ hSa) (.cons (hu.mono tn).deep (.cons (hw.mono tn).deep .nil))) (.cons d4 (.cons d5 (.cons d6 (.cons d7 (.cons .non .nil)))))
  generalize (upd Hn12 l2 (.lst [.ref pa, .ref t4, .ref t5, .ref t6, .ref t7, .non])) = Hn13 at S0 T0 hq hx hy hu hw hSp hSy hSa hl h1 d1 h2 d2 h3 d3 f1 a1 d4 d5 d6 d7 f2 a2 ⊢
  clear en13 tn
  refine ⟨l1, l2, _, _, rfl, rfl, f1, f2, (by show 9 ≤ sizeLine; decide), fun l3 m3 => ?_⟩
  have en14 := same_new m3 (.lst ([.ref t1, .ref t2, .ref t3] ++ [.ref pa, .ref t4, .ref t5, .ref t6, .ref t7, .non]))
  have fr14 := Step.fresh S0 T0 m3
  replace S0 := S0.trans (Step.same en14 T0.lst)
  replace T0 := T0.same en14
  replace hq := Tst.same (K := K) en14 _ _ hq
  replace hx := hx.mono (Tst.same (K := K) en14)
  replace hy := hy.mono (Tst.same (K := K) en14)
  replace hu := hu.mono (Tst.same (K := K) en14)
  replace hw := hw.mono (Tst.same (K := K) en14)
  replace hSp := Tst.same (K := K) en14 _ _ hSp
  replace hSy := Tst.same (K := K) en14 _ _ hSy
  replace hSa := Tst.same (K := K) en14 _ _ hSa
  replace hl := hl.mono (Tst.same (K := K) en14)
  replace h1 := h1.mono (Tst.same (K := K) en14)
  replace d1 := d1.same (noL_same en14)
  replace h2 := h2.mono (Tst.same (K := K) en14)
  replace d2 := d2.same (noL_same en14)
  replace h3 := h3.mono (Tst.same (K := K) en14)
  replace d3 := d3.same (noL_same en14)
  replace f1 := en14 _ _ f1
  replace a1 := DeepAll.same (noL_same en14) a1
  replace d4 := d4.same (noL_same en14)
  replace d5 := d5.same (noL_same en14)
  replace d6 := d6.same (noL_same en14)
  replace d7 := d7.same (noL_same en14)
  replace f2 := en14 _ _ f2
  replace a2 := DeepAll.same (noL_same en14) a2
  have tn := tst_noL (K := K) S0 T0
  have f3 : (upd Hn13 l3 (.lst ([.ref t1, .ref t2, .ref t3] ++ [.ref pa, .ref t4, .ref t5, .ref t6, .ref t7, .non]))) l3 = some (.lst ([.ref t1, .ref t2, .ref t3] ++ [.ref pa, .ref t4, .ref t5, .ref t6, .ref t7, .non])) := upd_same
  generalize (upd Hn13 l3 (.lst ([.ref t1, .ref t2, .ref t3] ++ [.ref pa, .ref t4, .ref t5, .ref t6, .ref t7, .non]))) = Hn14 at S0 T0 hq hx hy hu hw hSp hSy hSa hl h1 d1 h2 d2 h3 d3 f1 a1 d4 d5 d6 d7 f2 a2 f3 ⊢
  clear en14 tn
  refine ⟨_, rfl, _, rfl, _, rfl, py, _, _, _, ey, rfl, hSy, rfl, (by show 2 ≤ sizeLine; decide), fun t8 k8 => ?_⟩
  have en15 := same_new k8 (.tup [x, .int w.2.1])
  have fr15 := Step.fresh S0 T0 k8
  replace S0 := S0.trans (Step.same en15 T0.lst)
  replace T0 := T0.same en15
  replace hq := Tst.same (K := K) en15 _ _ hq
  replace hx := hx.mono (Tst.same (K := K) en15)
  replace hy := hy.mono (Tst.same (K := K) en15)
  replace hu := hu.mono (Tst.same (K := K) en15)
  replace hw := hw.mono (Tst.same (K := K) en15)
  replace hSp := Tst.same (K := K) en15 _ _ hSp
  replace hSy := Tst.same (K := K) en15 _ _ hSy
  replace hSa := Tst.same (K := K) en15 _ _ hSa
  replace hl := hl.mono (Tst.same (K := K) en15)
  replace h1 := h1.mono (Tst.same (K := K) en15)
  replace d1 := d1.same (noL_same en15)
  replace h2 := h2.mono (Tst.same (K := K) en15)
  replace d2 := d2.same (noL_same en15)
  replace h3 := h3.mono (Tst.same (K := K) en15)
  replace d3 := d3.same (noL_same en15)
  replace f1 := en15 _ _ f1
  replace a1 := DeepAll.same (noL_same en15) a1
  replace d4 := d4.same (noL_same en15)
  replace d5 := d5.same (noL_same en15)
  replace d6 := d6.same (noL_same en15)
  replace d7 := d7.same (noL_same en15)
  replace f2 := en15 _ _ f2
  replace a2 := DeepAll.same (noL_same en15) a2
  replace f3 := en15 _ _ f3
  have tn := tst_noL (K := K) S0 T0
  have d8 : Deep K (noL H (upd Hn14 t8 (.tup [x, .int w.2.1]))) (.ref t8) (.tuple [dR w.1, .int w.2.1]) := .tup (SqT.of (noL_new fr15)) (.cons (hx.mono tn).deep (.cons (.int _) .nil))
  generalize (upd Hn14 t8 (.tup [x, .int w.2.1])) = Hn15 at S0 T0 hq hx hy hu hw hSp hSy hSa hl h1 d1 h2 d2 h3 d3 f1 a1 d4 d5 d6 d7 f2 a2 f3 d8 ⊢
  clear en15 tn
  refine ⟨_, rfl, _, rfl, py, _, _, _, ey, rfl, hSy, rfl, _, _, rfl, rfl, ⟨by decide, big_of wy.top (by decide)⟩, _, rfl, py, _, _, _, ey, rfl, hSy, rfl, _, _, rfl, rfl, ⟨by decide, big_of wy.bot (by decide)⟩, (by show 2 ≤ sizeLine; decide), fun t9 k9 => ?_⟩
  have en16 := same_new k9 (.tup [.int (2 * w.2.1), .int (2 * w.2.2)])
  have fr16 := Step.fresh S0 T0 k9
  replace S0 := S0.trans (Step.same en16 T0.lst)
  replace T0 := T0.same en16
  replace hq := Tst.same (K := K) en16 _ _ hq
  replace hx := hx.mono (Tst.same (K := K) en16)
  replace hy := hy.mono (Tst.same (K := K) en16)
  replace hu := hu.mono (Tst.same (K := K) en16)
  replace hw := hw.mono (Tst.same (K := K) en16)
  replace hSp := Tst.same (K := K) en16 _ _ hSp
  replace hSy := Tst.same (K := K) en16 _ _ hSy
  replace hSa := Tst.same (K := K) en16 _ _ hSa
  replace hl := hl.mono (Tst.same (K := K) en16)
  replace h1 := h1.mono (Tst.same (K := K) en16)
  replace d1 := d1.same (noL_same en16)
  replace h2 := h2.mono (Tst.same (K := K) en16)
  replace d2 := d2.same (noL_same en16)
  replace h3 := h3.mono (Tst.same (K := K) en16)
  replace d3 := d3.same (noL_same en16)
  replace f1 := en16 _ _ f1
  replace a1 := DeepAll.same (noL_same en16) a1
  replace d4 := d4.same (noL_same en16)
  replace d5 := d5.same (noL_same en16)
  replace d6 := d6.same (noL_same en16)
  replace d7 := d7.same (noL_same en16)
  replace f2 := en16 _ _ f2
  replace a2 := DeepAll.same (noL_same en16) a2
  replace f3 := en16 _ _ f3
  replace d8 := d8.same (noL_same en16)
  have tn := tst_noL (K := K) S0 T0
  have d9 : Deep K (noL H (upd Hn15 t9 (.tup [.int (2 * w.2.1), .int (2 * w.2.2)]))) (.ref t9) (.tuple [.int (2 * w.2.1), .int (2 * w.2.2)]) := .tup (SqT.of (noL_new fr16)) (.cons (.int _) (.cons (.int _) .nil))
  generalize (upd Hn15 t9 (.tup [.int (2 * w.2.1), .int (2 * w.2.2)])) = Hn16 at S0 T0 hq hx hy hu hw hSp hSy hSa hl h1 d1 h2 d2 h3 d3 f1 a1 d4 d5 d6 d7 f2 a2 f3 d8 d9 ⊢
  clear en16 tn
  refine ⟨(by show 2 ≤ sizeLine; decide), fun tA kA => ?_⟩
  have en17 := same_new kA (.tup [x, .ref t9])
  have fr17 := Step.fresh S0 T0 kA
  replace S0 := S0.trans (Step.same en17 T0.lst)
  replace T0 := T0.same en17
  replace hq := Tst.same (K := K) en17 _ _ hq
  replace hx := hx.mono (Tst.same (K := K) en17)
  replace hy := hy.mono (Tst.same (K := K) en17)
  replace hu := hu.mono (Tst.same (K := K) en17)
  replace hw := hw.mono (Tst.same (K := K) en17)
  replace hSp := Tst.same (K := K) en17 _ _ hSp
  replace hSy := Tst.same (K := K) en17 _ _ hSy
  replace hSa := Tst.same (K := K) en17 _ _ hSa
  replace hl := hl.mono (Tst.same (K := K) en17)
  replace h1 := h1.mono (Tst.same (K := K) en17)
  replace d1 := d1.same (noL_same en17)
  replace h2 := h2.mono (Tst.same (K := K) en17)
  replace d2 := d2.same (noL_same en17)
  replace h3 := h3.mono (Tst.same (K := K) en17)
  replace d3 := d3.same (noL_same en17)
  replace f1 := en17 _ _ f1
  replace a1 := DeepAll.same (noL_same en17) a1
  replace d4 := d4.same (noL_same en17)
  replace d5 := d5.same (noL_same en17)
  replace d6 := d6.same (noL_same en17)
  replace d7 := d7.same (noL_same en17)
  replace f2 := en17 _ _ f2
  replace a2 := DeepAll.same (noL_same en17) a2
  replace f3 := en17 _ _ f3
  replace d8 := d8.same (noL_same en17)
  replace d9 := d9.same (noL_same en17)
  have tn := tst_noL (K := K) S0 T0
  have dA : Deep K (noL H (upd Hn16 tA (.tup [x, .ref t9]))) (.ref tA) (.tuple [dR w.1, .tuple [.int (2 * w.2.1), .int (2 * w.2.2)]]) := .tup (SqT.of (noL_new fr17)) (.cons (hx.mono tn).deep (.cons d9 .nil))
  generalize (upd Hn16 tA (.tup [x, .ref t9])) = Hn17 at S0 T0 hq hx hy hu hw hSp hSy hSa hl h1 d1 h2 d2 h3 d3 f1 a1 d4 d5 d6 d7 f2 a2 f3 d8 d9 dA ⊢
  clear en17 tn
  refine ⟨(by show 2 ≤ sizeLine; decide), fun tB kB => ?_⟩
  have en18 := same_new kB (.tup [.bl true, .int 1])
  have fr18 := Step.fresh S0 T0 kB
  replace S0 := S0.trans (Step.same en18 T0.lst)
  replace T0 := T0.same en18
  replace hq := Tst.same (K := K) en18 _ _ hq
  replace hx := hx.mono (Tst.same (K := K) en18)
  replace hy := hy.mono (Tst.same (K := K) en18)
  replace hu := hu.mono (Tst.same (K := K) en18)
  replace hw := hw.mono (Tst.same (K := K) en18)
  replace hSp := Tst.same (K := K) en18 _ _ hSp
  replace hSy := Tst.same (K := K) en18 _ _ hSy
  replace hSa := Tst.same (K := K) en18 _ _ hSa
  replace hl := hl.mono (Tst.same (K := K) en18)
  replace h1 := h1.mono (Tst.same (K := K) en18)
  replace d1 := d1.same (noL_same en18)
  replace h2 := h2.mono (Tst.same (K := K) en18)
  replace d2 := d2.same (noL_same en18)
  replace h3 := h3.mono (Tst.same (K := K) en18)
  replace d3 := d3.same (noL_same en18)
  replace f1 := en18 _ _ f1
  replace a1 := DeepAll.same (noL_same en18) a1
  replace d4 := d4.same (noL_same en18)
  replace d5 := d5.same (noL_same en18)
  replace d6 := d6.same (noL_same en18)
  replace d7 := d7.same (noL_same en18)
  replace f2 := en18 _ _ f2
  replace a2 := DeepAll.same (noL_same en18) a2
  replace f3 := en18 _ _ f3
  replace d8 := d8.same (noL_same en18)
  replace d9 := d9.same (noL_same en18)
  replace dA := dA.same (noL_same en18)
  have tn := tst_noL (K := K) S0 T0
  have dB : Deep K (noL H (upd Hn17 tB (.tup [.bl true, .int 1]))) (.ref tB) (.tuple [.bool true, .int 1]) := .tup (SqT.of (noL_new fr18)) (.cons (.bl _) (.cons (.int _) .nil))
  generalize (upd Hn17 tB (.tup [.bl true, .int 1])) = Hn18 at S0 T0 hq hx hy hu hw hSp hSy hSa hl h1 d1 h2 d2 h3 d3 f1 a1 d4 d5 d6 d7 f2 a2 f3 d8 d9 dA dB ⊢
  clear en18 tn
  refine ⟨_, rfl, (by show 2 ≤ sizeLine; decide), fun tC kC => ?_⟩
  have en19 := same_new kC (.tup [.ref tB, y])
  have fr19 := Step.fresh S0 T0 kC
  replace S0 := S0.trans (Step.same en19 T0.lst)
  replace T0 := T0.same en19
  replace hq := Tst.same (K := K) en19 _ _ hq
  replace hx := hx.mono (Tst.same (K := K) en19)
  replace hy := hy.mono (Tst.same (K := K) en19)
  replace hu := hu.mono (Tst.same (K := K) en19)
  replace hw := hw.mono (Tst.same (K := K) en19)
  replace hSp := Tst.same (K := K) en19 _ _ hSp
  replace hSy := Tst.same (K := K) en19 _ _ hSy
  replace hSa := Tst.same (K := K) en19 _ _ hSa
  replace hl := hl.mono (Tst.same (K := K) en19)
  replace h1 := h1.mono (Tst.same (K := K) en19)
  replace d1 := d1.same (noL_same en19)
  replace h2 := h2.mono (Tst.same (K := K) en19)
  replace d2 := d2.same (noL_same en19)
  replace h3 := h3.mono (Tst.same (K := K) en19)
  replace d3 := d3.same (noL_same en19)
  replace f1 := en19 _ _ f1
  replace a1 := DeepAll.same (noL_same en19) a1
  replace d4 := d4.same (noL_same en19)
  replace d5 := d5.same (noL_same en19)
  replace d6 := d6.same (noL_same en19)
  replace d7 := d7.same (noL_same en19)
  replace f2 := en19 _ _ f2
  replace a2 := DeepAll.same (noL_same en19) a2
  replace f3 := en19 _ _ f3
  replace d8 := d8.same (noL_same en19)
  replace d9 := d9.same (noL_same en19)
  replace dA := dA.same (noL_same en19)
  replace dB := dB.same (noL_same en19)
  have tn := tst_noL (K := K) S0 T0
  have dC : Deep K (noL H (upd Hn18 tC (.tup [.ref tB, y]))) (.ref tC) (.tuple [.tuple [.bool true, .int 1], dR w.2]) := .tup (SqT.of (noL_new fr19)) (.cons dB (.cons (hy.mono tn).deep .nil))
  generalize (upd Hn18 tC (.tup [.ref tB, y])) = Hn19 at S0 T0 hq hx hy hu hw hSp hSy hSa hl h1 d1 h2 d2 h3 d3 f1 a1 d4 d5 d6 d7 f2 a2 f3 d8 d9 dA dB dC ⊢
  clear en19 tn
  refine ⟨_, rfl, _, rfl, (by show 2 ≤ sizeLine; decide), fun tD kD => ?_⟩
  have en20 := same_new kD (.tup [y, x])
  have fr20 := Step.fresh S0 T0 kD
  replace S0 := S0.trans (Step.same en20 T0.lst)
  replace T0 := T0.same en20
  replace hq := Tst.same (K := K) en20 _ _ hq
  replace hx := hx.mono (Tst.same (K := K) en20)
  replace hy := hy.mono (Tst.same (K := K) en20)
  replace hu := hu.mono (Tst.same (K := K) en20)
  replace hw := hw.mono (Tst.same (K := K) en20)
  replace hSp := Tst.same (K := K) en20 _ _ hSp
  replace hSy := Tst.same (K := K) en20 _ _ hSy
  replace hSa := Tst.same (K := K) en20 _ _ hSa
  replace hl := hl.mono (Tst.same (K := K) en20)
  replace h1 := h1.mono (Tst.same (K := K) en20)
  replace d1 := d1.same (noL_same en20)
  replace h2 := h2.mono (Tst.same (K := K) en20)
  replace d2 := d2.same (noL_same en20)
  replace h3 := h3.mono (Tst.same (K := K) en20)
  replace d3 := d3.same (noL_same en20)
  replace f1 := en20 _ _ f1
  replace a1 := DeepAll.same (noL_same en20) a1
  replace d4 := d4.same (noL_same en20)
  replace d5 := d5.same (noL_same en20)
  replace d6 := d6.same (noL_same en20)
  replace d7 := d7.same (noL_same en20)
  replace f2 := en20 _ _ f2
  replace a2 := DeepAll.same (noL_same en20) a2
  replace f3 := en20 _ _ f3
  replace d8 := d8.same (noL_same en20)
  replace d9 := d9.same (noL_same en20)
  replace dA := dA.same (noL_same en20)
  replace dB := dB.same (noL_same en20)
  replace dC := dC.same (noL_same en20)
  have tn := tst_noL (K := K) S0 T0
  have dD : Deep K (noL H (upd Hn19 tD (.tup [y, x]))) (.ref tD) (.tuple [dR w.2, dR w.1]) := .tup (SqT.of (noL_new fr20)) (.cons (hy.mono tn).deep (.cons (hx.mono tn).deep .nil))
  generalize (upd Hn19 tD (.tup [y, x])) = Hn20 at S0 T0 hq hx hy hu hw hSp hSy hSa hl h1 d1 h2 d2 h3 d3 f1 a1 d4 d5 d6 d7 f2 a2 f3 d8 d9 dA dB dC dD ⊢
  clear en20 tn
  refine ⟨(by show 4 ≤ sizeLine; decide), fun l4 m4 => ?_⟩
  have en21 := same_new m4 (.lst [.ref t8, .ref tA, .ref tC, .ref tD])
  have fr21 := Step.fresh S0 T0 m4
  replace S0 := S0.trans (Step.same en21 T0.lst)
  replace T0 := T0.same en21
  replace hq := Tst.same (K := K) en21 _ _ hq
  replace hx := hx.mono (Tst.same (K := K) en21)
  replace hy := hy.mono (Tst.same (K := K) en21)
  replace hu := hu.mono (Tst.same (K := K) en21)
  replace hw := hw.mono (Tst.same (K := K) en21)
  replace hSp := Tst.same (K := K) en21 _ _ hSp
  replace hSy := Tst.same (K := K) en21 _ _ hSy
  replace hSa := Tst.same (K := K) en21 _ _ hSa
  replace hl := hl.mono (Tst.same (K := K) en21)
  replace h1 := h1.mono (Tst.same (K := K) en21)
  replace d1 := d1.same (noL_same en21)
  replace h2 := h2.mono (Tst.same (K := K) en21)
  replace d2 := d2.same (noL_same en21)
  replace h3 := h3.mono (Tst.same (K := K) en21)
  replace d3 := d3.same (noL_same en21)
  replace f1 := en21 _ _ f1
  replace a1 := DeepAll.same (noL_same en21) a1
  replace d4 := d4.same (noL_same en21)
  replace d5 := d5.same (noL_same en21)
  replace d6 := d6.same (noL_same en21)
  replace d7 := d7.same (noL_same en21)
  replace f2 := en21 _ _ f2
  replace a2 := DeepAll.same (noL_same en21) a2
  replace f3 := en21 _ _ f3
  replace d8 := d8.same (noL_same en21)
  replace d9 := d9.same (noL_same en21)
  replace dA := dA.same (noL_same en21)
  replace dB := dB.same (noL_same en21)
  replace dC := dC.same (noL_same en21)
  replace dD := dD.same (noL_same en21)
  have tn := tst_noL (K := K) S0 T0
  have f4 : (upd Hn20 l4 (.lst [.ref t8, .ref tA, .ref tC, .ref tD])) l4 = some (.lst [.ref t8, .ref tA, .ref tC, .ref tD]) := upd_same
  have a4 : DeepAll K (noL H (upd Hn20 l4 (.lst [.ref t8, .ref tA, .ref tC, .ref tD]))) [.ref t8, .ref tA, .ref tC, .ref tD] [.tuple [dR w.1, .int w.2.1], .tuple [dR w.1, .tuple [.int (2 * w.2.1), .int (2 * w.2.2)]], .tuple [.tuple [.bool true, .int 1], dR w.2], .tuple [dR w.2, dR w.1]] := .cons d8 (.cons dA (.cons dC (.cons dD .nil)))
  generalize (upd Hn20 l4 (.lst [.ref t8, .ref tA, .ref tC, .ref tD])) = Hn21 at S0 T0 hq hx hy hu hw hSp hSy hSa hl h1 d1 h2 d2 h3 d3 f1 a1 d4 d5 d6 d7 f2 a2 f3 d8 d9 dA dB dC dD f4 a4 ⊢
  clear en21 tn
  refine ⟨l3, l4, _, _, rfl, rfl, f3, f4, (by show 13 ≤ sizeLine; decide), fun l5 m5 => ?_⟩
  have n5 : l5 ≠ t₁ := fun e => by subst e; obtain ⟨_, q⟩ := T0.lst; rw [m5] at q; cases q
  have en22 := same_new m5 (.lst (([.ref t1, .ref t2, .ref t3] ++ [.ref pa, .ref t4, .ref t5, .ref t6, .ref t7, .non]) ++ [.ref t8, .ref tA, .ref tC, .ref tD]))
  have fr22 := Step.fresh S0 T0 m5
  replace S0 := S0.trans (Step.same en22 T0.lst)
  replace T0 := T0.same en22
  replace hq := Tst.same (K := K) en22 _ _ hq
  replace hx := hx.mono (Tst.same (K := K) en22)
  replace hy := hy.mono (Tst.same (K := K) en22)
  replace hu := hu.mono (Tst.same (K := K) en22)
  replace hw := hw.mono (Tst.same (K := K) en22)
  replace hSp := Tst.same (K := K) en22 _ _ hSp
  replace hSy := Tst.same (K := K) en22 _ _ hSy
  replace hSa := Tst.same (K := K) en22 _ _ hSa
  replace hl := hl.mono (Tst.same (K := K) en22)
  replace h1 := h1.mono (Tst.same (K := K) en22)
  replace d1 := d1.same (noL_same en22)
  replace h2 := h2.mono (Tst.same (K := K) en22)
  replace d2 := d2.same (noL_same en22)
  replace h3 := h3.mono (Tst.same (K := K) en22)
  replace d3 := d3.same (noL_same en22)
  replace f1 := en22 _ _ f1
  replace a1 := DeepAll.same (noL_same en22) a1
  replace d4 := d4.same (noL_same en22)
  replace d5 := d5.same (noL_same en22)
  replace d6 := d6.same (noL_same en22)
  replace d7 := d7.same (noL_same en22)
  replace f2 := en22 _ _ f2
  replace a2 := DeepAll.same (noL_same en22) a2
  replace f3 := en22 _ _ f3
  replace d8 := d8.same (noL_same en22)
  replace d9 := d9.same (noL_same en22)
  replace dA := dA.same (noL_same en22)
  replace dB := dB.same (noL_same en22)
  replace dC := dC.same (noL_same en22)
  replace dD := dD.same (noL_same en22)
  replace f4 := en22 _ _ f4
  replace a4 := DeepAll.same (noL_same en22) a4
  have tn := tst_noL (K := K) S0 T0
  have f5 : (upd Hn21 l5 (.lst (([.ref t1, .ref t2, .ref t3] ++ [.ref pa, .ref t4, .ref t5, .ref t6, .ref t7, .non]) ++ [.ref t8, .ref tA, .ref tC, .ref tD]))) l5 = some (.lst (([.ref t1, .ref t2, .ref t3] ++ [.ref pa, .ref t4, .ref t5, .ref t6, .ref t7, .non]) ++ [.ref t8, .ref tA, .ref tC, .ref tD])) := upd_same
  have a5 : DeepAll K (noL H (upd Hn21 l5 (.lst (([.ref t1, .ref t2, .ref t3] ++ [.ref pa, .ref t4, .ref t5, .ref t6, .ref t7, .non]) ++ [.ref t8, .ref tA, .ref tC, .ref tD])))) (([.ref t1, .ref t2, .ref t3] ++ [.ref pa, .ref t4, .ref t5, .ref t6, .ref t7, .non]) ++ [.ref t8, .ref tA, .ref tC, .ref tD]) (([.tuple [dR (plusR w.1 ltl), dR w.2], .tuple [dR w.1, dR (minusR w.2 ltl)], .tuple [dR w.1, dR (plusR w.2 ltl)]] ++ [dRow z, .tuple [dR z.1, dR w.2], .tuple [dR w.1, dR z.2], .list [dR w.1, dR w.2], .tuple [dR w.1], .none]) ++ [.tuple [dR w.1, .int w.2.1], .tuple [dR w.1, .tuple [.int (2 * w.2.1), .int (2 * w.2.2)]], .tuple [.tuple [.bool true, .int 1], dR w.2], .tuple [dR w.2, dR w.1]]) := DeepAll.app (DeepAll.app a1 a2) a4
  generalize (upd Hn21 l5 (.lst (([.ref t1, .ref t2, .ref t3] ++ [.ref pa, .ref t4, .ref t5, .ref t6, .ref t7, .non]) ++ [.ref t8, .ref tA, .ref tC, .ref tD]))) = Hn22 at S0 T0 hq hx hy hu hw hSp hSy hSa hl h1 d1 h2 d2 h3 d3 f1 a1 d4 d5 d6 d7 f2 a2 f3 d8 d9 dA dB dC dD f4 a4 f5 a5 ⊢
  clear en22 tn
  refine ⟨_, rfl, _, rfl, t₁, s₀, 13, rfl, T0, by decide, by decide, fun r1 x1 a1 b1 T1 => ?_⟩
  have Sf := Step.up (ys := x1) T0.lst.choose_spec
  obtain ⟨v, d, hat, hm, dv⟩ := DeepAll.pick a5 a1 b1
  refine ⟨l5, _, _, v, rfl, rfl, SqL.of (by rw [upd_ne n5]; exact f5), hat, ?_⟩
  refine k v d _ ?_ (S0.trans Sf) T1 (dv.same (noL_up isl))
  have wl : Wf 230 (plusR w.1 ltl) := (plus_wf wx ltl_wf).mono (by decide)
  have wm : Wf 230 (minusR w.2 ltl) := (minus_wf wy ltl_wf).mono (by decide)
  have wp : Wf 230 (plusR w.2 ltl) := (plus_wf wy ltl_wf).mono (by decide)
  replace wx := wx.mono (show 98 ≤ 230 by decide)
  replace wz1 := wz1.mono (show 98 ≤ 230 by decide)
  replace wz2 := wz2.mono (show 197 ≤ 230 by decide)
  have b1' : (2 * w.2.1).natAbs < 2 ^ 230 := by
    have := wy.top
    have e : (2 : Nat) ^ 230 = 2 ^ 197 * 2 ^ 33 := by rw [← Nat.pow_add]
    omega
  have b2' : (2 * w.2.2).natAbs < 2 ^ 230 := by
    have := wy.bot
    have e : (2 : Nat) ^ 230 = 2 ^ 197 * 2 ^ 33 := by rw [← Nat.pow_add]
    omega
  replace wy := wy.mono (show 197 ≤ 230 by decide)
  have gi : ∀ {i : Int}, i.natAbs < 2 ^ 230 → Gd 1 5000 (.int i) := fun h => (gd_int h).mono (by decide) (by decide)
  have g2 : Gd 2 11000 (.tuple [.int (2 * w.2.1), .int (2 * w.2.2)]) := gd_two (gi b1') (gi b2') (by decide)
  have gt : Gd 2 11000 (.tuple [.bool true, .int 1]) := gd_two ((gd_bool true).mono (by decide) (by decide)) (gi (by decide)) (by decide)
  have up : ∀ {d : PyData}, Gd 1 5000 d → Gd 2 11000 d := fun h => h.mono (by decide) (by decide)
  simp only [List.mem_append, List.mem_cons, List.not_mem_nil, or_false] at hm
  rcases hm with ((rfl | rfl | rfl) | rfl | rfl | rfl | rfl | rfl | rfl) | rfl | rfl | rfl | rfl
  · exact gd_rr wl wy
  · exact gd_rr wx wm
  · exact gd_rr wx wp
  · exact gd_rr wz1 wz2
  · exact gd_rr wz1 wy
  · exact gd_rr wx wz2
  · exact (Gd.lst (k := 1) (n := 5000) (m := 2) (N := 11000) (fun d hd => by
      simp only [List.mem_cons, List.not_mem_nil, or_false] at hd
      rcases hd with rfl | rfl
      · exact gd_dR wx
      · exact gd_dR wy) (Nat.le_refl _) (by decide)).mono (by decide) (by decide)
  · exact (Gd.tup (k := 1) (n := 5000) (m := 1) (N := 11000) (fun d hd => by
      simp only [List.mem_cons, List.not_mem_nil, or_false] at hd
      rw [hd]; exact gd_dR wx) (Nat.le_refl _) (by decide)).mono (by decide) (by decide)
  · exact gd_none.mono (by decide) (by decide)
  · exact (gd_two (gd_dR wx) (gi wy.top) (N := 11000) (by decide)).mono (by decide) (by decide)
  · exact (gd_two (up (gd_dR wx)) g2 (N := 30000) (by decide)).mono (by decide) (by decide)
  · exact (gd_two gt (up (gd_dR wy)) (N := 30000) (by decide)).mono (by decide) (by decide)
  · exact gd_rr wy wx
theorem ok_law_bent (T : Txt K mg t) : FnOk P w K mg base CX0 5 t.a_law_bent t.d_law_bent ["_law_tape_here", "_law_rule_here"] (sp_law_bent K) := by
  refine T.F_law_bent.ok sc_law_bent (fun vs H Q E h => ?_) (fun cdv A outer s H vs Q E hr h => ?_)
  · obtain ⟨_, _, _, _, rfl, _⟩ := h; rfl
  obtain ⟨t₁, s₀, v, rl, rfl, T0, hv, ok, k⟩ := h
  refine QSs.ok (qss_cons (qs_set (i := 2) sc_law_bent.nd rfl (by first | exact Or.inl rfl | exact Or.inr rfl) (qe_call (ok_law_draw T) (hr.mono (by decide)) rfl T.m_law_draw T.F_law_draw.kp T.b_law_draw .nil pass0 (qa_cons (qv 0) (qa_cons qe_int qa_nil star_con) star_name)))
      (qss_cons (qs_if (qt_cmpR op_eq (qv 2) qe_int (nomark _)) (qss_cons (qs_set (i := 3) sc_law_bent.nd rfl (by first | exact Or.inl rfl | exact Or.inr rfl) (qe_lst (qa_cons (qe_callTy call_list_of (by rfl) T.z_list PyProof.Rows.boot_list (qa_cons (qv 1) qa_nil star_name)) (qa_cons (qe_op op_catU (qv 1) (qe_tup (qa_cons (qe_tup qa_nil) qa_nil star_tup))) (qa_cons (qe_slice sl_tupU (qv 1) qo_none (qo_some qe_int)) (qa_cons qe_non (qa_cons (qe_tup (qa_cons qe_str (qa_cons qe_int qa_nil star_con) star_con)) (qa_cons (qe_tup (qa_cons qe_int (qa_cons qe_int qa_nil star_con) star_con)) (qa_cons (qe_tup (qa_cons qe_str (qa_cons qe_int qa_nil star_con) star_con)) (qa_cons (qe_tup (qa_cons qe_str (qa_cons qe_int qa_nil star_con) star_con)) qa_nil star_tup) star_tup) star_tup) star_tup) star_con) star_sub) star_bin) star_call)))
      (qss_one (qs_ret (qe_ix ix_list (qe_op op_cat (qv 3) (qe_lst (qa_cons (qe_tup (qa_cons qe_str (qa_cons qe_bl qa_nil star_con) star_con)) (qa_cons (qe_tup (qa_cons qe_str (qa_cons (qe_tup (qa_cons qe_int (qa_cons qe_int qa_nil star_con) star_con)) qa_nil star_tup) star_con)) (qa_cons (qe_tup (qa_cons qe_str (qa_cons qe_int qa_nil star_con) star_con)) (qa_cons (qe_tup (qa_cons qe_str (qa_cons (qe_tup qa_nil) qa_nil star_tup) star_con)) qa_nil star_tup) star_tup) star_tup) star_tup))) (qe_call (ok_law_draw T) (hr.mono (by decide)) rfl T.m_law_draw T.F_law_draw.kp T.b_law_draw .nil pass0 (qa_cons (qv 0) (qa_cons qe_int qa_nil star_con) star_name)) (fun _ _ => rfl))))) qss_nil)
      (qss_cons (qs_if (qt_cmpR op_eq (qe_ix ix_tup (qv 1) qe_int (fun _ _ => rfl)) qe_str (nomark _)) (qss_one (qs_ret (qe_tup (qa_cons (qe_ix ix_list (qe_lst (qa_cons qe_str (qa_cons qe_str (qa_cons qe_str qa_nil star_con) star_con) star_con)) (qe_call (ok_law_draw T) (hr.mono (by decide)) rfl T.m_law_draw T.F_law_draw.kp T.b_law_draw .nil pass0 (qa_cons (qv 0) (qa_cons qe_int qa_nil star_con) star_name)) (fun _ _ => rfl)) (qa_cons (qe_ix ix_tup (qv 1) qe_int (fun _ _ => rfl)) qa_nil star_sub) star_sub)))) qss_nil)
      (qss_cons (qs_set (i := 4) sc_law_bent.nd rfl (by first | exact Or.inl rfl | exact Or.inr rfl) (qe_ix ix_tup (qv 1) qe_int (fun _ _ => rfl)))
      (qss_cons (qs_if (qt_cmpR op_eq (qv 2) qe_int (nomark _)) (qss_one (qs_ret (qe_tup (qa_cons qe_str (qa_cons (qe_ix ix_list (qe_lst (qa_cons (qe_callTy call_list_of (by rfl) T.z_list PyProof.Rows.boot_list (qa_cons (qv 4) qa_nil star_name)) (qa_cons (qe_slice sl_tupU (qv 4) qo_none (qo_some qe_int)) (qa_cons (qe_op op_catU (qv 4) (qv 4)) (qa_cons (qe_slice sl_tupU (qv 4) (qo_some qe_int) qo_none) qa_nil star_sub) star_bin) star_sub) star_call)) (qe_call (ok_law_draw T) (hr.mono (by decide)) rfl T.m_law_draw T.F_law_draw.kp T.b_law_draw .nil pass0 (qa_cons (qv 0) (qa_cons qe_int qa_nil star_con) star_name)) (fun _ _ => rfl)) qa_nil star_sub) star_con)))) qss_nil)
      (qss_cons (qs_set (i := 5) sc_law_bent.nd rfl (by first | exact Or.inl rfl | exact Or.inr rfl) (qe_call (ok_law_draw T) (hr.mono (by decide)) rfl T.m_law_draw T.F_law_draw.kp T.b_law_draw .nil pass0 (qa_cons (qv 0) (qa_cons (qe_callB call_len_seq (by rfl) T.z_len PySem.boot_len (qa_cons (qv 4) qa_nil star_name)) qa_nil star_call) star_name)))
      (qss_cons (qs_if (qt_cmpR op_eq (qv 2) qe_int (nomark _)) (qss_one (qs_ret (qe_tup (qa_cons qe_str (qa_cons (qe_op op_catU (qe_slice sl_tupU (qv 4) qo_none (qo_some (qv 5))) (qe_slice sl_tupU (qv 4) (qo_some (qe_op op_add (qv 5) qe_int)) qo_none)) qa_nil star_bin) star_con)))) qss_nil)
      (qss_cons (qs_if (qt_cmpR op_eq (qv 2) qe_int (nomark _)) (qss_one (qs_ret (qe_tup (qa_cons qe_str (qa_cons (qe_op op_catU (qe_op op_catU (qe_slice sl_tupU (qv 4) qo_none (qo_some (qv 5))) (qe_slice sl_tupU (qv 4) (qo_some (qv 5)) (qo_some (qe_op op_add (qv 5) qe_int)))) (qe_slice sl_tupU (qv 4) (qo_some (qv 5)) qo_none)) qa_nil star_bin) star_con)))) qss_nil)
      (qss_one (qs_ret (qe_tup (qa_cons qe_str (qa_cons (qe_op op_catU (qe_op op_catU (qe_slice sl_tupU (qv 4) qo_none (qo_some (qv 5))) (qe_tup (qa_cons (qe_call (ok_law_bent_row T) (hr.mono (by decide)) rfl T.m_law_bent_row T.F_law_bent_row.kp T.b_law_bent_row .nil pass0 (qa_cons (qv 0) (qa_cons (qv 4) (qa_cons (qv 5) qa_nil star_name) star_name) star_name)) qa_nil star_call))) (qe_slice sl_tupU (qv 4) (qo_some (qe_op op_add (qv 5) qe_int)) qo_none)) qa_nil star_bin) star_con)))))))))))) ?_
  have isl := Tape.isL T0
  refine ⟨_, rfl, t₁, s₀, 8, rfl, T0, by decide, by decide, fun r0 x0 a0 b0 T1 => ⟨_, rfl, rfl, _, rfl, ?_⟩⟩
  have S1 := Step.up (ys := x0) T0.lst.choose_spec
  replace hv := hv.mono (Tst.step S1)
  generalize upd H t₁ (.lst x0) = H1 at S1 T1 hv ⊢
  by_cases h0 : r0 = 0
  · refine iteD1 (by rw [h0]) ?_
    obtain ⟨p, b, rfl, hp, hb⟩ := hv.open (tst_noL (K := K) S1 T1)
    refine ⟨_, rfl, p, _, rfl, .inr hp, fun l1 m1 => ?_⟩
    have en1 := same_new m1 (.lst [.str (nmRl rl), b])
    have fr1 := Step.fresh S1 T1 m1
    replace S1 := S1.trans (Step.same en1 T1.lst)
    replace T1 := T1.same en1
    replace hp := Tst.same (K := K) en1 _ _ hp
    replace hb := hb.same (noL_same en1)
    have tn := tst_noL (K := K) S1 T1
    have d1 : Deep K (noL H (upd H1 l1 (.lst [.str (nmRl rl), b]))) (.ref l1) (.list [.str (nmRl rl), dRl2 rl]) := .lst (SqL.of (noL_new fr1)) (.cons (.str _) (.cons hb .nil))
    generalize (upd H1 l1 (.lst [.str (nmRl rl), b])) = Hn1 at S1 T1 hp hb d1 ⊢
    clear en1 tn
    refine ⟨_, rfl, (by show 0 ≤ sizeLine; decide), fun te ke => ?_⟩
    have en2 := same_new ke (.tup [])
    have fr2 := Step.fresh S1 T1 ke
    replace S1 := S1.trans (Step.same en2 T1.lst)
    replace T1 := T1.same en2
    replace hp := Tst.same (K := K) en2 _ _ hp
    replace hb := hb.same (noL_same en2)
    replace d1 := d1.same (noL_same en2)
    have tn := tst_noL (K := K) S1 T1
    have de : Deep K (noL H (upd Hn1 te (.tup []))) (.ref te) (.tuple []) := .tup (SqT.of (noL_new fr2)) .nil
    generalize (upd Hn1 te (.tup [])) = Hn2 at S1 T1 hp hb d1 de ⊢
    clear en2 tn
    refine ⟨(by show 1 ≤ sizeLine; decide), fun tf kf => ?_⟩
    have en3 := same_new kf (.tup [.ref te])
    have fr3 := Step.fresh S1 T1 kf
    replace S1 := S1.trans (Step.same en3 T1.lst)
    replace T1 := T1.same en3
    replace hp := Tst.same (K := K) en3 _ _ hp
    replace hb := hb.same (noL_same en3)
    replace d1 := d1.same (noL_same en3)
    replace de := de.same (noL_same en3)
    have tn := tst_noL (K := K) S1 T1
    have sf : SqT K (upd Hn2 tf (.tup [.ref te])) tf [.ref te] := SqT.of upd_same
    generalize (upd Hn2 tf (.tup [.ref te])) = Hn3 at S1 T1 hp hb d1 de sf ⊢
    clear en3 tn
    refine ⟨p, tf, _, _, rfl, rfl, hp, sf, (by show 3 ≤ sizeLine; decide), fun pc Hc ec sc => ?_⟩
    replace S1 := S1.trans (Step.same ec T1.lst)
    replace T1 := T1.same ec
    replace hp := Tst.same (K := K) ec _ _ hp
    replace hb := hb.same (noL_same ec)
    replace d1 := d1.same (noL_same ec)
    replace de := de.same (noL_same ec)
    replace sf := Tst.same (K := K) ec _ _ sf
    have tn := tst_noL (K := K) S1 T1
    have d2 : Deep K (noL H Hc) (.ref pc) (.tuple [.str (nmRl rl), dRl2 rl, .tuple []]) := .tup (tn _ _ sc) (.cons (.str _) (.cons hb (.cons de .nil)))
    clear ec tn
    refine ⟨_, rfl, 1, rfl, p, _, rfl, hp, fun ps Hs es ss => ?_⟩
    replace S1 := S1.trans (Step.same es T1.lst)
    replace T1 := T1.same es
    replace hp := Tst.same (K := K) es _ _ hp
    replace hb := hb.same (noL_same es)
    replace d1 := d1.same (noL_same es)
    replace de := de.same (noL_same es)
    replace sf := Tst.same (K := K) es _ _ sf
    replace d2 := d2.same (noL_same es)
    have tn := tst_noL (K := K) S1 T1
    have d3 : Deep K (noL H Hs) (.ref ps) (.tuple [.str (nmRl rl)]) := .tup (tn _ _ ss) (.cons (.str _) .nil)
    clear es tn
    refine ⟨(by show 2 ≤ sizeLine; decide), fun t4 k4 => ?_⟩
    have en4 := same_new k4 (.tup [.str (Str.ofString "Power"), .int 2])
    have fr4 := Step.fresh S1 T1 k4
    replace S1 := S1.trans (Step.same en4 T1.lst)
    replace T1 := T1.same en4
    replace hp := Tst.same (K := K) en4 _ _ hp
    replace hb := hb.same (noL_same en4)
    replace d1 := d1.same (noL_same en4)
    replace de := de.same (noL_same en4)
    replace sf := Tst.same (K := K) en4 _ _ sf
    replace d2 := d2.same (noL_same en4)
    replace d3 := d3.same (noL_same en4)
    have tn := tst_noL (K := K) S1 T1
    have d4 : Deep K (noL H (upd Hs t4 (.tup [.str (Str.ofString "Power"), .int 2]))) (.ref t4) (.tuple [.str (Str.ofString "Power"), .int 2]) := .tup (SqT.of (noL_new fr4)) (.cons (.str _) (.cons (.int _) .nil))
    generalize (upd Hs t4 (.tup [.str (Str.ofString "Power"), .int 2])) = Hn4 at S1 T1 hp hb d1 de sf d2 d3 d4 ⊢
    clear en4 tn
    refine ⟨(by show 2 ≤ sizeLine; decide), fun t5 k5 => ?_⟩
    have en5 := same_new k5 (.tup [.int 2, .int 2])
    have fr5 := Step.fresh S1 T1 k5
    replace S1 := S1.trans (Step.same en5 T1.lst)
    replace T1 := T1.same en5
    replace hp := Tst.same (K := K) en5 _ _ hp
    replace hb := hb.same (noL_same en5)
    replace d1 := d1.same (noL_same en5)
    replace de := de.same (noL_same en5)
    replace sf := Tst.same (K := K) en5 _ _ sf
    replace d2 := d2.same (noL_same en5)
    replace d3 := d3.same (noL_same en5)
    replace d4 := d4.same (noL_same en5)
    have tn := tst_noL (K := K) S1 T1
    have d5 : Deep K (noL H (upd Hn4 t5 (.tup [.int 2, .int 2]))) (.ref t5) (.tuple [.int 2, .int 2]) := .tup (SqT.of (noL_new fr5)) (.cons (.int _) (.cons (.int _) .nil))
    generalize (upd Hn4 t5 (.tup [.int 2, .int 2])) = Hn5 at S1 T1 hp hb d1 de sf d2 d3 d4 d5 ⊢
    clear en5 tn
    refine ⟨(by show 2 ≤ sizeLine; decide), fun t6 k6 => ?_⟩
    have en6 := same_new k6 (.tup [.str (Str.ofString "power"), .int 1])
    have fr6 := Step.fresh S1 T1 k6
    replace S1 := S1.trans (Step.same en6 T1.lst)
    replace T1 := T1.same en6
    replace hp := Tst.same (K := K) en6 _ _ hp
    replace hb := hb.same (noL_same en6)
    replace d1 := d1.same (noL_same en6)
    replace de := de.same (noL_same en6)
    replace sf := Tst.same (K := K) en6 _ _ sf
    replace d2 := d2.same (noL_same en6)
    replace d3 := d3.same (noL_same en6)
    replace d4 := d4.same (noL_same en6)
    replace d5 := d5.same (noL_same en6)
    have tn := tst_noL (K := K) S1 T1
    have d6 : Deep K (noL H (upd Hn5 t6 (.tup [.str (Str.ofString "power"), .int 1]))) (.ref t6) (.tuple [.str (Str.ofString "power"), .int 1]) := .tup (SqT.of (noL_new fr6)) (.cons (.str _) (.cons (.int _) .nil))
    generalize (upd Hn5 t6 (.tup [.str (Str.ofString "power"), .int 1])) = Hn6 at S1 T1 hp hb d1 de sf d2 d3 d4 d5 d6 ⊢
    clear en6 tn
    refine ⟨(by show 2 ≤ sizeLine; decide), fun t7 k7 => ?_⟩
    have en7 := same_new k7 (.tup [.str (Str.ofString "power"), .int 5])
    have fr7 := Step.fresh S1 T1 k7
    replace S1 := S1.trans (Step.same en7 T1.lst)
    replace T1 := T1.same en7
    replace hp := Tst.same (K := K) en7 _ _ hp
    replace hb := hb.same (noL_same en7)
    replace d1 := d1.same (noL_same en7)
    replace de := de.same (noL_same en7)
    replace sf := Tst.same (K := K) en7 _ _ sf
    replace d2 := d2.same (noL_same en7)
    replace d3 := d3.same (noL_same en7)
    replace d4 := d4.same (noL_same en7)
    replace d5 := d5.same (noL_same en7)
    replace d6 := d6.same (noL_same en7)
    have tn := tst_noL (K := K) S1 T1
    have d7 : Deep K (noL H (upd Hn6 t7 (.tup [.str (Str.ofString "power"), .int 5]))) (.ref t7) (.tuple [.str (Str.ofString "power"), .int 5]) := .tup (SqT.of (noL_new fr7)) (.cons (.str _) (.cons (.int _) .nil))
    generalize (upd Hn6 t7 (.tup [.str (Str.ofString "power"), .int 5])) = Hn7 at S1 T1 hp hb d1 de sf d2 d3 d4 d5 d6 d7 ⊢
    clear en7 tn
    refine ⟨(by show 8 ≤ sizeLine; decide), fun l2 m2 => ?_⟩
    have en8 := same_new m2 (.lst [.ref l1, .ref pc, .ref ps, .non, .ref t4, .ref t5, .ref t6, .ref t7])
    have fr8 := Step.fresh S1 T1 m2
    replace S1 := S1.trans (Step.same en8 T1.lst)
    replace T1 := T1.same en8
    replace hp := Tst.same (K := K) en8 _ _ hp
    replace hb := hb.same (noL_same en8)
    replace d1 := d1.same (noL_same en8)
    replace de := de.same (noL_same en8)
    replace sf := Tst.same (K := K) en8 _ _ sf
    replace d2 := d2.same (noL_same en8)
    replace d3 := d3.same (noL_same en8)
    replace d4 := d4.same (noL_same en8)
    replace d5 := d5.same (noL_same en8)
    replace d6 := d6.same (noL_same en8)
    replace d7 := d7.same (noL_same en8)
    have tn := tst_noL (K := K) S1 T1
    have f2 : (upd Hn7 l2 (.lst [.ref l1, .ref pc, .ref ps, .non, .ref t4, .ref t5, .ref t6, .ref t7])) l2 = some (.lst [.ref l1, .ref pc, .ref ps, .non, .ref t4, .ref t5, .ref t6, .ref t7]) := upd_same
    have e2 : DeepAll K (noL H (upd Hn7 l2 (.lst [.ref l1, .ref pc, .ref ps, .non, .ref t4, .ref t5, .ref t6, .ref t7]))) [.ref l1, .ref pc, .ref ps, .non, .ref t4, .ref t5, .ref t6, .ref t7] [.list [.str (nmRl rl), dRl2 rl], .tuple [.str (nmRl rl), dRl2 rl, .tuple []], .tuple [.str (nmRl rl)], .none, .tuple [.str (Str.ofString "Power"), .int 2], .tuple [.int 2, .int 2], .tuple [.str (Str.ofString "power"), .int 1], .tuple [.str (Str.ofString "power"), .int 5]] := .cons d1 (.cons d2 (.cons d3 (.cons .non (.cons d4 (.cons d5 (.cons d6 (.cons d7 .nil)))))))
    generalize (upd Hn7 l2 (.lst [.ref l1, .ref pc, .ref ps, .non, .ref t4, .ref t5, .ref t6, .ref t7])) = Hn8 at S1 T1 hp hb d1 de sf d2 d3 d4 d5 d6 d7 f2 e2 ⊢
    clear en8 tn
    refine ⟨_, rfl, (by show 2 ≤ sizeLine; decide), fun t8 k8 => ?_⟩
    have en9 := same_new k8 (.tup [.str (Str.ofString "power"), .bl true])
    have fr9 := Step.fresh S1 T1 k8
    replace S1 := S1.trans (Step.same en9 T1.lst)
    replace T1 := T1.same en9
    replace hp := Tst.same (K := K) en9 _ _ hp
    replace hb := hb.same (noL_same en9)
    replace d1 := d1.same (noL_same en9)
    replace de := de.same (noL_same en9)
    replace sf := Tst.same (K := K) en9 _ _ sf
    replace d2 := d2.same (noL_same en9)
    replace d3 := d3.same (noL_same en9)
    replace d4 := d4.same (noL_same en9)
    replace d5 := d5.same (noL_same en9)
    replace d6 := d6.same (noL_same en9)
    replace d7 := d7.same (noL_same en9)
    replace f2 := en9 _ _ f2
    replace e2 := DeepAll.same (noL_same en9) e2
    have tn := tst_noL (K := K) S1 T1
    have d8 : Deep K (noL H (upd Hn8 t8 (.tup [.str (Str.ofString "power"), .bl true]))) (.ref t8) (.tuple [.str (Str.ofString "power"), .bool true]) := .tup (SqT.of (noL_new fr9)) (.cons (.str _) (.cons (.bl _) .nil))
    generalize (upd Hn8 t8 (.tup [.str (Str.ofString "power"), .bl true])) = Hn9 at S1 T1 hp hb d1 de sf d2 d3 d4 d5 d6 d7 f2 e2 d8 ⊢
    clear en9 tn
    refine ⟨(by show 2 ≤ sizeLine; decide), fun ti ki => ?_⟩
    have en10 := same_new ki (.tup [.int 2, .int 1])
    have fr10 := Step.fresh S1 T1 ki
    replace S1 := S1.trans (Step.same en10 T1.lst)
    replace T1 := T1.same en10
    replace hp := Tst.same (K := K) en10 _ _ hp
    replace hb := hb.same (noL_same en10)
    replace d1 := d1.same (noL_same en10)
    replace de := de.same (noL_same en10)
    replace sf := Tst.same (K := K) en10 _ _ sf
    replace d2 := d2.same (noL_same en10)
    replace d3 := d3.same (noL_same en10)
    replace d4 := d4.same (noL_same en10)
    replace d5 := d5.same (noL_same en10)
    replace d6 := d6.same (noL_same en10)
    replace d7 := d7.same (noL_same en10)
    replace f2 := en10 _ _ f2
    replace e2 := DeepAll.same (noL_same en10) e2
    replace d8 := d8.same (noL_same en10)
    have tn := tst_noL (K := K) S1 T1
    have di : Deep K (noL H (upd Hn9 ti (.tup [.int 2, .int 1]))) (.ref ti) (.tuple [.int 2, .int 1]) := .tup (SqT.of (noL_new fr10)) (.cons (.int _) (.cons (.int _) .nil))
    generalize (upd Hn9 ti (.tup [.int 2, .int 1])) = Hn10 at S1 T1 hp hb d1 de sf d2 d3 d4 d5 d6 d7 f2 e2 d8 di ⊢
    clear en10 tn
    refine ⟨(by show 2 ≤ sizeLine; decide), fun t9 k9 => ?_⟩
    have en11 := same_new k9 (.tup [.str (Str.ofString "power"), .ref ti])
    have fr11 := Step.fresh S1 T1 k9
    replace S1 := S1.trans (Step.same en11 T1.lst)
    replace T1 := T1.same en11
    replace hp := Tst.same (K := K) en11 _ _ hp
    replace hb := hb.same (noL_same en11)
    replace d1 := d1.same (noL_same en11)
    replace de := de.same (noL_same en11)
    replace sf := Tst.same (K := K) en11 _ _ sf
    replace d2 := d2.same (noL_same en11)
    replace d3 := d3.same (noL_same en11)
    replace d4 := d4.same (noL_same en11)
    replace d5 := d5.same (noL_same en11)
    replace d6 := d6.same (noL_same en11)
    replace d7 := d7.same (noL_same en11)
    replace f2 := en11 _ _ f2
    replace e2 := DeepAll.same (noL_same en11) e2
    replace d8 := d8.same (noL_same en11)
    replace di := di.same (noL_same en11)
    have tn := tst_noL (K := K) S1 T1
    have d9 : Deep K (noL H (upd Hn10 t9 (.tup [.str (Str.ofString "power"), .ref ti]))) (.ref t9) (.tuple [.str (Str.ofString "power"), .tuple [.int 2, .int 1]]) := .tup (SqT.of (noL_new fr11)) (.cons (.str _) (.cons di .nil))
    generalize (upd Hn10 t9 (.tup [.str (Str.ofString "power"), .ref ti])) = Hn11 at S1 T1 hp hb d1 de sf d2 d3 d4 d5 d6 d7 f2 e2 d8 di d9 ⊢
    clear en11 tn
    refine ⟨(by show 2 ≤ sizeLine; decide), fun tA kA => ?_⟩
    have en12 := same_new kA (.tup [.str (Str.ofString "table"), .int 2])
    have fr12 := Step.fresh S1 T1 kA
    replace S1 := S1.trans (Step.same en12 T1.lst)
    replace T1 := T1.same en12
    replace hp := Tst.same (K := K) en12 _ _ hp
    replace hb := hb.same (noL_same en12)
    replace d1 := d1.same (noL_same en12)
    replace de := de.same (noL_same en12)
    replace sf := Tst.same (K := K) en12 _ _ sf
    replace d2 := d2.same (noL_same en12)
    replace d3 := d3.same (noL_same en12)
    replace d4 := d4.same (noL_same en12)
    replace d5 := d5.same (noL_same en12)
    replace d6 := d6.same (noL_same en12)
    replace d7 := d7.same (noL_same en12)
    replace f2 := en12 _ _ f2
    replace e2 := DeepAll.same (noL_same en12) e2
    replace d8 := d8.same (noL_same en12)
    replace di := di.same (noL_same en12)
    replace d9 := d9.same (noL_same en12)
    have tn := tst_noL (K := K) S1 T1
    have dA : Deep K (noL H (upd Hn11 tA (.tup [.str (Str.ofString "table"), .int 2]))) (.ref tA) (.tuple [.str (Str.ofString "table"), .int 2]) := .tup (SqT.of (noL_new fr12)) (.cons (.str _) (.cons (.int _) .nil))
    generalize (upd Hn11 tA (.tup [.str (Str.ofString "table"), .int 2])) = Hn12 at S1 T1 hp hb d1 de sf d2 d3 d4 d5 d6 d7 f2 e2 d8 di d9 dA ⊢
    clear en12 tn
    refine ⟨(by show 0 ≤ sizeLine; decide), fun tj kj => ?_⟩
    have en13 := same_new kj (.tup [])
    have fr13 := Step.fresh S1 T1 kj
    replace S1 := S1.trans (Step.same en13 T1.lst)
    replace T1 := T1.same en13
    replace hp := Tst.same (K := K) en13 _ _ hp
    replace hb := hb.same (noL_same en13)
    replace d1 := d1.same (noL_same en13)
    replace de := de.same (noL_same en13)
    replace sf := Tst.same (K := K) en13 _ _ sf
    replace d2 := d2.same (noL_same en13)
    replace d3 := d3.same (noL_same en13)
    replace d4 := d4.same (noL_same en13)
    replace d5 := d5.same (noL_same en13)
    replace d6 := d6.same (noL_same en13)
    replace d7 := d7.same (noL_same en13)
    replace f2 := en13 _ _ f2
    replace e2 := DeepAll.same (noL_same en13) e2
    replace d8 := d8.same (noL_same en13)
    replace di := di.same (noL_same en13)
    replace d9 := d9.same (noL_same en13)
    replace dA := dA.same (noL_same en13)
    have tn := tst_noL (K := K) S1 T1
    have dj : Deep K (noL H (upd Hn12 tj (.tup []))) (.ref tj) (.tuple []) := .tup (SqT.of (noL_new fr13)) .nil
    generalize (upd Hn12 tj (.tup [])) = Hn13 at S1 T1 hp hb d1 de sf d2 d3 d4 d5 d6 d7 f2 e2 d8 di d9 dA dj ⊢
    clear en13 tn
    refine ⟨(by show 2 ≤ sizeLine; decide), fun tB kB => ?_⟩
    have en14 := same_new kB (.tup [.str (Str.ofString "table"), .ref tj])
    have fr14 := Step.fresh S1 T1 kB
    replace S1 := S1.trans (Step.same en14 T1.lst)
    replace T1 := T1.same en14
    replace hp := Tst.same (K := K) en14 _ _ hp
    replace hb := hb.same (noL_same en14)
    replace d1 := d1.same (noL_same en14)
    replace de := de.same (noL_same en14)
    replace sf := Tst.same (K := K) en14 _ _ sf
    replace d2 := d2.same (noL_same en14)
    replace d3 := d3.same (noL_same en14)
    replace d4 := d4.same (noL_same en14)
    replace d5 := d5.same (noL_same en14)
    replace d6 := d6.same (noL_same en14)
    replace d7 := d7.same (noL_same en14)
    replace f2 := en14 _ _ f2
    replace e2 := DeepAll.same (noL_same en14) e2
    replace d8 := d8.same (noL_same en14)
    replace di := di.same (noL_same en14)
    replace d9 := d9.same (noL_same en14)
    replace dA := dA.same (noL_same en14)
    replace dj := dj.same (noL_same en14)
    have tn := tst_noL (K := K) S1 T1
    have dB : Deep K (noL H (upd Hn13 tB (.tup [.str (Str.ofString "table"), .ref tj]))) (.ref tB) (.tuple [.str (Str.ofString "table"), .tuple []]) := .tup (SqT.of (noL_new fr14)) (.cons (.str _) (.cons dj .nil))
    generalize (upd Hn13 tB (.tup [.str (Str.ofString "table"), .ref tj])) = Hn14 at S1 T1 hp hb d1 de sf d2 d3 d4 d5 d6 d7 f2 e2 d8 di d9 dA dj dB ⊢
    clear en14 tn
    refine ⟨(by show 4 ≤ sizeLine; decide), fun l3 m3 => ?_⟩
    have en15 := same_new m3 (.lst [.ref t8, .ref t9, .ref tA, .ref tB])
    have fr15 := Step.fresh S1 T1 m3
    replace S1 := S1.trans (Step.same en15 T1.lst)
    replace T1 := T1.same en15
    replace hp := Tst.same (K := K) en15 _ _ hp
    replace hb := hb.same (noL_same en15)
    replace d1 := d1.same (noL_same en15)
    replace de := de.same (noL_same en15)
    replace sf := Tst.same (K := K) en15 _ _ sf
    replace d2 := d2.same (noL_same en15)
    replace d3 := d3.same (noL_same en15)
    replace d4 := d4.same (noL_same en15)
    replace d5 := d5.same (noL_same en15)
    replace d6 := d6.same (noL_same en15)
    replace d7 := d7.same (noL_same en15)
    replace f2 := en15 _ _ f2
    replace e2 := DeepAll.same (noL_same en15) e2
    replace d8 := d8.same (noL_same en15)
    replace di := di.same (noL_same en15)
    replace d9 := d9.same (noL_same en15)
    replace dA := dA.same (noL_same en15)
    replace dj := dj.same (noL_same en15)
    replace dB := dB.same (noL_same en15)
    have tn := tst_noL (K := K) S1 T1
    have f3 : (upd Hn14 l3 (.lst [.ref t8, .ref t9, .ref tA, .ref tB])) l3 = some (.lst [.ref t8, .ref t9, .ref tA, .ref tB]) := upd_same
    have e3 : DeepAll K (noL H (upd Hn14 l3 (.lst [.ref t8, .ref t9, .ref tA, .ref tB]))) [.ref t8, .ref t9, .ref tA, .ref tB] [.tuple [.str (Str.ofString "power"), .bool true], .tuple [.str (Str.ofString "power"), .tuple [.int 2, .int 1]], .tuple [.str (Str.ofString "table"), .int 2], .tuple [.str (Str.ofString "table"), .tuple []]] := .cons d8 (.cons d9 (.cons dA (.cons dB .nil)))
    generalize (upd Hn14 l3 (.lst [.ref t8, .ref t9, .ref tA, .ref tB])) = Hn15 at S1 T1 hp hb d1 de sf d2 d3 d4 d5 d6 d7 f2 e2 d8 di d9 dA dj dB f3 e3 ⊢
    clear en15 tn
    refine ⟨l2, l3, _, _, rfl, rfl, f2, f3, (by show 12 ≤ sizeLine; decide), fun l4 m4 => ?_⟩
    have n4 : l4 ≠ t₁ := fun e => by subst e; obtain ⟨_, q⟩ := T1.lst; rw [m4] at q; cases q
    have en16 := same_new m4 (.lst ([.ref l1, .ref pc, .ref ps, .non, .ref t4, .ref t5, .ref t6, .ref t7] ++ [.ref t8, .ref t9, .ref tA, .ref tB]))
    have fr16 := Step.fresh S1 T1 m4
    replace S1 := S1.trans (Step.same en16 T1.lst)
    replace T1 := T1.same en16
    replace hp := Tst.same (K := K) en16 _ _ hp
    replace hb := hb.same (noL_same en16)
    replace d1 := d1.same (noL_same en16)
    replace de := de.same (noL_same en16)
    replace sf := Tst.same (K := K) en16 _ _ sf
    replace d2 := d2.same (noL_same en16)
    replace d3 := d3.same (noL_same en16)
    replace d4 := d4.same (noL_same en16)
    replace d5 := d5.same (noL_same en16)
    replace d6 := d6.same (noL_same en16)
    replace d7 := d7.same (noL_same en16)
    replace f2 := en16 _ _ f2
    replace e2 := DeepAll.same (noL_same en16) e2
    replace d8 := d8.same (noL_same en16)
    replace di := di.same (noL_same en16)
    replace d9 := d9.same (noL_same en16)
    replace dA := dA.same (noL_same en16)
    replace dj := dj.same (noL_same en16)
    replace dB := dB.same (noL_same en16)
    replace f3 := en16 _ _ f3
    replace e3 := DeepAll.same (noL_same en16) e3
    have tn := tst_noL (K := K) S1 T1
    have f4 : (upd Hn15 l4 (.lst ([.ref l1, .ref pc, .ref ps, .non, .ref t4, .ref t5, .ref t6, .ref t7] ++ [.ref t8, .ref t9, .ref tA, .ref tB]))) l4 = some (.lst ([.ref l1, .ref pc, .ref ps, .non, .ref t4, .ref t5, .ref t6, .ref t7] ++ [.ref t8, .ref t9, .ref tA, .ref tB])) := upd_same
    have e4 : DeepAll K (noL H (upd Hn15 l4 (.lst ([.ref l1, .ref pc, .ref ps, .non, .ref t4, .ref t5, .ref t6, .ref t7] ++ [.ref t8, .ref t9, .ref tA, .ref tB])))) ([.ref l1, .ref pc, .ref ps, .non, .ref t4, .ref t5, .ref t6, .ref t7] ++ [.ref t8, .ref t9, .ref tA, .ref tB]) ([.list [.str (nmRl rl), dRl2 rl], .tuple [.str (nmRl rl), dRl2 rl, .tuple []], .tuple [.str (nmRl rl)], .none, .tuple [.str (Str.ofString "Power"), .int 2], .tuple [.int 2, .int 2], .tuple [.str (Str.ofString "power"), .int 1], .tuple [.str (Str.ofString "power"), .int 5]] ++ [.tuple [.str (Str.ofString "power"), .bool true], .tuple [.str (Str.ofString "power"), .tuple [.int 2, .int 1]], .tuple [.str (Str.ofString "table"), .int 2], .tuple [.str (Str.ofString "table"), .tuple []]]) := DeepAll.app e2 e3
    generalize (upd Hn15 l4 (.lst ([.ref l1, .ref pc, .ref ps, .non, .ref t4, .ref t5, .ref t6, .ref t7] ++ [.ref t8, .ref t9, .ref tA, .ref tB]))) = Hn16 at S1 T1 hp hb d1 de sf d2 d3 d4 d5 d6 d7 f2 e2 d8 di d9 dA dj dB f3 e3 f4 e4 ⊢
    clear en16 tn
    refine ⟨_, rfl, t₁, s₀, 12, rfl, T1, by decide, by decide, fun r1 x1 a1 b1 T2 => ?_⟩
    have Sf := Step.up (ys := x1) T1.lst.choose_spec
    obtain ⟨v, d, hat, hm, dv⟩ := DeepAll.pick e4 a1 b1
    refine ⟨l4, _, _, v, rfl, rfl, SqL.of (by rw [upd_ne n4]; exact f4), hat, ?_⟩
    refine k v d _ ?_ (S1.trans Sf) T2 (dv.same (noL_up isl))
    exact gd_way0 ok hm
  refine iteD0 (fun z => h0 (by injection z)) ?_
  cases rl with
  | pow kk =>
    obtain ⟨p, rfl, hS⟩ := hv
    refine ⟨_, rfl, p, _, _, _, rfl, rfl, hS, rfl, rfl, _, rfl, iteD1 rfl ?_⟩
    refine ⟨(by show 3 ≤ sizeLine; decide), fun l1 m1 => ?_⟩
    have ne_f1 : l1 ≠ t₁ := fun e => by subst e; obtain ⟨_, q⟩ := T1.lst; rw [m1] at q; cases q
    have en1 := same_new m1 (.lst [.str (Str.ofString "table"), .str (Str.ofString "power"), .str (Str.ofString "step")])
    have fr1 := Step.fresh S1 T1 m1
    replace S1 := S1.trans (Step.same en1 T1.lst)
    replace T1 := T1.same en1
    replace hS := Tst.same (K := K) en1 _ _ hS
    have tn := tst_noL (K := K) S1 T1
    have f1 : (upd H1 l1 (.lst [.str (Str.ofString "table"), .str (Str.ofString "power"), .str (Str.ofString "step")])) l1 = some (.lst [.str (Str.ofString "table"), .str (Str.ofString "power"), .str (Str.ofString "step")]) := upd_same
    generalize (upd H1 l1 (.lst [.str (Str.ofString "table"), .str (Str.ofString "power"), .str (Str.ofString "step")])) = Hn1 at S1 T1 hS f1 ⊢
    clear en1 tn
    refine ⟨_, rfl, t₁, s₀, 3, rfl, T1, by decide, by decide, fun r1 x1 ar1 br1 T1n => ?_⟩
    have Sf := Step.up (ys := x1) T1.lst.choose_spec
    replace S1 := S1.trans Sf
    replace hS := Tst.step (K := K) Sf _ _ hS
    replace f1 := Sf.keep _ _ ne_f1 f1
    clear Sf
    replace T1 := T1n
    generalize upd Hn1 t₁ (.lst x1) = Hn2 at S1 T1 hS f1 ⊢
    obtain ⟨v, d, hat, hm, dv⟩ := DeepAll.pick (K := K) (H := noL H Hn2) (xs := [.str (Str.ofString "table"), .str (Str.ofString "power"), .str (Str.ofString "step")]) (ds := [.str (Str.ofString "table"), .str (Str.ofString "power"), .str (Str.ofString "step")]) (.cons (.str _) (.cons (.str _) (.cons (.str _) .nil))) ar1 br1
    refine ⟨l1, _, _, v, rfl, rfl, SqL.of f1, hat, ?_⟩
    refine ⟨_, rfl, p, _, _, _, rfl, rfl, hS, rfl, (by show 2 ≤ sizeLine; decide), fun t2 k2 => ?_⟩
    have en3 := same_new k2 (.tup [v, .int kk])
    have fr3 := Step.fresh S1 T1 k2
    replace S1 := S1.trans (Step.same en3 T1.lst)
    replace T1 := T1.same en3
    replace hS := Tst.same (K := K) en3 _ _ hS
    replace f1 := en3 _ _ f1
    replace dv := dv.same (noL_same en3)
    have tn := tst_noL (K := K) S1 T1
    have d2 : Deep K (noL H (upd Hn2 t2 (.tup [v, .int kk]))) (.ref t2) (.tuple [d, .int kk]) := .tup (SqT.of (noL_new fr3)) (.cons dv (.cons (.int _) .nil))
    generalize (upd Hn2 t2 (.tup [v, .int kk])) = Hn3 at S1 T1 hS f1 dv d2 ⊢
    clear en3 tn
    refine k _ _ _ ?_ S1 T1 d2
    refine thing_two ?_ (gd_small (by have h' : 2 ≤ kk ∧ kk ≤ 4 := ok; omega))
    simp only [List.mem_cons, List.not_mem_nil, or_false] at hm
    rcases hm with rfl | rfl | rfl <;> exact gd_word (by decide +kernel) (by decide +kernel) (by decide +kernel)
  | tab rows =>
    have ok' : RowsOk rows := ok
    obtain ⟨p, q, xs, rfl, hS, hq, al⟩ := hv
    refine ⟨_, rfl, p, _, _, _, rfl, rfl, hS, rfl, rfl, _, rfl, iteD0 (by decide) ?_⟩
    refine ⟨_, rfl, p, _, _, _, rfl, rfl, hS, rfl, _, rfl, rfl, _, rfl, ?_⟩
    have dx := rows_deep (al.mono fun _ _ z => z.mono (tst_noL (K := K) S1 T1))
    have hl := al.len
    have l2 := ok'.n2
    have l12 := ok'.n12
    have gr := rows_gd ok'
    have gl : (rows.map dRow).length = rows.length := List.length_map ..
    by_cases h1 : r0 = 1
    · refine iteD1 (by rw [h1]) ?_
      refine ⟨_, rfl, q, _, rfl, .inr hq, fun l1 m1 => ?_⟩
      have en1 := same_new m1 (.lst xs)
      have fr1 := Step.fresh S1 T1 m1
      replace S1 := S1.trans (Step.same en1 T1.lst)
      replace T1 := T1.same en1
      replace hS := Tst.same (K := K) en1 _ _ hS
      replace hq := Tst.same (K := K) en1 _ _ hq
      replace dx := DeepAll.same (noL_same en1) dx
      replace al := al.mono fun _ _ q => q.mono (Tst.same (K := K) en1)
      have tn := tst_noL (K := K) S1 T1
      have d1 : Deep K (noL H (upd H1 l1 (.lst xs))) (.ref l1) (.list (rows.map dRow)) := .lst (SqL.of (noL_new fr1)) dx
      generalize (upd H1 l1 (.lst xs)) = Hn1 at S1 T1 hS hq dx al d1 ⊢
      clear en1 tn
      refine ⟨_, rfl, 1, rfl, q, _, rfl, hq, fun p2 H2 e2 s2 => ?_⟩
      rw [show (some 1 : Option Int) = some ((1 : Nat) : Int) from rfl, cut_to (n := 1) (by omega)] at s2
      replace S1 := S1.trans (Step.same e2 T1.lst)
      replace T1 := T1.same e2
      replace hS := Tst.same (K := K) e2 _ _ hS
      replace hq := Tst.same (K := K) e2 _ _ hq
      replace dx := DeepAll.same (noL_same e2) dx
      replace al := al.mono fun _ _ q => q.mono (Tst.same (K := K) e2)
      replace d1 := d1.same (noL_same e2)
      have tn := tst_noL (K := K) S1 T1
      have d2 : Deep K (noL H H2) (.ref p2) (.tuple ((rows.map dRow).take 1)) := .tup (tn _ _ s2) (DeepAll.take 1 dx)
      clear e2 tn
      refine ⟨_, rfl, _, rfl, q, q, _, _, rfl, rfl, hq, hq, Nat.le_trans (show xs.length + xs.length ≤ 24 by omega) (by show 24 ≤ sizeLine; decide), fun p3 H3 e3 s3 => ?_⟩
      replace S1 := S1.trans (Step.same e3 T1.lst)
      replace T1 := T1.same e3
      replace hS := Tst.same (K := K) e3 _ _ hS
      replace hq := Tst.same (K := K) e3 _ _ hq
      replace dx := DeepAll.same (noL_same e3) dx
      replace al := al.mono fun _ _ q => q.mono (Tst.same (K := K) e3)
      replace d1 := d1.same (noL_same e3)
      replace d2 := d2.same (noL_same e3)
      have tn := tst_noL (K := K) S1 T1
      have d3 : Deep K (noL H H3) (.ref p3) (.tuple ((rows.map dRow) ++ (rows.map dRow))) := .tup (tn _ _ s3) (DeepAll.app dx dx)
      clear e3 tn
      refine ⟨_, rfl, 1, rfl, q, _, rfl, hq, fun p4 H4 e4 s4 => ?_⟩
      rw [show (some 1 : Option Int) = some ((1 : Nat) : Int) from rfl, cut_from (n := 1) (by omega)] at s4
      replace S1 := S1.trans (Step.same e4 T1.lst)
      replace T1 := T1.same e4
      replace hS := Tst.same (K := K) e4 _ _ hS
      replace hq := Tst.same (K := K) e4 _ _ hq
      replace dx := DeepAll.same (noL_same e4) dx
      replace al := al.mono fun _ _ q => q.mono (Tst.same (K := K) e4)
      replace d1 := d1.same (noL_same e4)
      replace d2 := d2.same (noL_same e4)
      replace d3 := d3.same (noL_same e4)
      have tn := tst_noL (K := K) S1 T1
      have d4 : Deep K (noL H H4) (.ref p4) (.tuple ((rows.map dRow).drop 1)) := .tup (tn _ _ s4) (DeepAll.drop 1 dx)
      clear e4 tn
      refine ⟨(by show 4 ≤ sizeLine; decide), fun l5 m5 => ?_⟩
      have ne_f5 : l5 ≠ t₁ := fun e => by subst e; obtain ⟨_, q⟩ := T1.lst; rw [m5] at q; cases q
      have en2 := same_new m5 (.lst [.ref l1, .ref p2, .ref p3, .ref p4])
      have fr2 := Step.fresh S1 T1 m5
      replace S1 := S1.trans (Step.same en2 T1.lst)
      replace T1 := T1.same en2
      replace hS := Tst.same (K := K) en2 _ _ hS
      replace hq := Tst.same (K := K) en2 _ _ hq
      replace dx := DeepAll.same (noL_same en2) dx
      replace al := al.mono fun _ _ q => q.mono (Tst.same (K := K) en2)
      replace d1 := d1.same (noL_same en2)
      replace d2 := d2.same (noL_same en2)
      replace d3 := d3.same (noL_same en2)
      replace d4 := d4.same (noL_same en2)
      have tn := tst_noL (K := K) S1 T1
      have f5 : (upd H4 l5 (.lst [.ref l1, .ref p2, .ref p3, .ref p4])) l5 = some (.lst [.ref l1, .ref p2, .ref p3, .ref p4]) := upd_same
      generalize (upd H4 l5 (.lst [.ref l1, .ref p2, .ref p3, .ref p4])) = Hn2 at S1 T1 hS hq dx al d1 d2 d3 d4 f5 ⊢
      clear en2 tn
      refine ⟨_, rfl, t₁, s₀, 4, rfl, T1, by decide, by decide, fun r1 x1 ar1 br1 T1n => ?_⟩
      have Sf := Step.up (ys := x1) T1.lst.choose_spec
      replace S1 := S1.trans Sf
      replace hS := Tst.step (K := K) Sf _ _ hS
      replace hq := Tst.step (K := K) Sf _ _ hq
      replace dx := DeepAll.same (noL_up (o := .lst x1) isl) dx
      replace al := al.mono fun _ _ q => q.mono (Tst.step (K := K) Sf)
      replace d1 := d1.same (noL_up (o := .lst x1) isl)
      replace d2 := d2.same (noL_up (o := .lst x1) isl)
      replace d3 := d3.same (noL_up (o := .lst x1) isl)
      replace d4 := d4.same (noL_up (o := .lst x1) isl)
      replace f5 := Sf.keep _ _ ne_f5 f5
      clear Sf
      replace T1 := T1n
      generalize upd Hn2 t₁ (.lst x1) = Hn3 at S1 T1 hS hq dx al d1 d2 d3 d4 f5 ⊢
      obtain ⟨v, d, hat, hm, dv⟩ := DeepAll.pick (K := K) (H := noL H Hn3) (.cons d1 (.cons d2 (.cons d3 (.cons d4 .nil)))) ar1 br1
      refine ⟨l5, _, _, v, rfl, rfl, SqL.of f5, hat, ?_⟩
      refine ⟨(by show 2 ≤ sizeLine; decide), fun t2 k2 => ?_⟩
      have en4 := same_new k2 (.tup [.str (Str.ofString "table"), v])
      have fr4 := Step.fresh S1 T1 k2
      replace S1 := S1.trans (Step.same en4 T1.lst)
      replace T1 := T1.same en4
      replace hS := Tst.same (K := K) en4 _ _ hS
      replace hq := Tst.same (K := K) en4 _ _ hq
      replace dx := DeepAll.same (noL_same en4) dx
      replace al := al.mono fun _ _ q => q.mono (Tst.same (K := K) en4)
      replace d1 := d1.same (noL_same en4)
      replace d2 := d2.same (noL_same en4)
      replace d3 := d3.same (noL_same en4)
      replace d4 := d4.same (noL_same en4)
      replace f5 := en4 _ _ f5
      replace dv := dv.same (noL_same en4)
      have tn := tst_noL (K := K) S1 T1
      have d6 : Deep K (noL H (upd Hn3 t2 (.tup [.str (Str.ofString "table"), v]))) (.ref t2) (.tuple [.str (Str.ofString "table"), d]) := .tup (SqT.of (noL_new fr4)) (.cons (.str _) (.cons dv .nil))
      generalize (upd Hn3 t2 (.tup [.str (Str.ofString "table"), v])) = Hn4 at S1 T1 hS hq dx al d1 d2 d3 d4 f5 dv d6 ⊢
      clear en4 tn
      refine k _ _ _ (thing_tab ?_) S1 T1 d6
      simp only [List.mem_cons, List.not_mem_nil, or_false] at hm
      rcases hm with rfl | rfl | rfl | rfl
      · exact gd_lsts gr (by omega)
      · exact gd_tups (gd_take 1 gr) (by rw [List.length_take]; omega)
      · exact gd_tups (gd_app gr gr) (by rw [List.length_append]; omega)
      · exact gd_tups (gd_drop 1 gr) (by rw [List.length_drop]; omega)
    refine iteD0 (fun z => h1 (by injection z)) ?_
    refine ⟨_, rfl, _, rfl, q, _, rfl, .inr hq, t₁, s₀, xs.length, rfl, T1, by omega, by omega, fun r1 x1 ar1 br1 T1n => ?_⟩
    have Sf := Step.up (ys := x1) T1.lst.choose_spec
    replace S1 := S1.trans Sf
    replace hS := Tst.step (K := K) Sf _ _ hS
    replace hq := Tst.step (K := K) Sf _ _ hq
    replace dx := DeepAll.same (noL_up (o := .lst x1) isl) dx
    replace al := al.mono fun _ _ q => q.mono (Tst.step (K := K) Sf)
    clear Sf
    replace T1 := T1n
    generalize upd H1 t₁ (.lst x1) = Hn1 at S1 T1 hS hq dx al ⊢
    obtain ⟨n, rfl⟩ : ∃ n : Nat, r1 = n := ⟨r1.toNat, by omega⟩
    have hn : n < xs.length := by omega
    generalize Hn1 = H2 at S1 T1 hS hq dx al ⊢
    refine ⟨_, rfl, rfl, _, rfl, ?_⟩
    by_cases h2 : r0 = 2
    · refine iteD1 (by rw [h2]) ?_
      refine ⟨_, rfl, _, rfl, _, rfl, q, _, rfl, hq, fun p2 Ha e_p2 s_p2 => ?_⟩
      rw [cut_to (n := n) (by omega)] at s_p2
      replace S1 := S1.trans (Step.same e_p2 T1.lst)
      replace T1 := T1.same e_p2
      replace hS := Tst.same (K := K) e_p2 _ _ hS
      replace hq := Tst.same (K := K) e_p2 _ _ hq
      replace dx := DeepAll.same (noL_same e_p2) dx
      replace al := al.mono fun _ _ q => q.mono (Tst.same (K := K) e_p2)
      have tn := tst_noL (K := K) S1 T1
      have q2 : SqT K Ha p2 (xs.take n) := s_p2
      clear e_p2 tn
      clear s_p2
      refine ⟨_, rfl, _, rfl, _, _, rfl, rfl, _, rfl, q, _, rfl, hq, fun p3 Hb e_p3 s_p3 => ?_⟩
      rw [show (n : Int) + 1 = ((n + 1 : Nat) : Int) from rfl, cut_from (n := n + 1) (by omega)] at s_p3
      replace S1 := S1.trans (Step.same e_p3 T1.lst)
      replace T1 := T1.same e_p3
      replace hS := Tst.same (K := K) e_p3 _ _ hS
      replace hq := Tst.same (K := K) e_p3 _ _ hq
      replace dx := DeepAll.same (noL_same e_p3) dx
      replace al := al.mono fun _ _ q => q.mono (Tst.same (K := K) e_p3)
      replace q2 := Tst.same (K := K) e_p3 _ _ q2
      have tn := tst_noL (K := K) S1 T1
      have q3 : SqT K Hb p3 (xs.drop (n + 1)) := s_p3
      clear e_p3 tn
      clear s_p3
      refine ⟨p2, p3, _, _, rfl, rfl, q2, q3, Nat.le_trans (show _ ≤ 40 by simp only [List.length_take, List.length_drop, List.length_append, List.length_cons, List.length_nil]; omega) (by show 40 ≤ sizeLine; decide), fun p4 Hc e_p4 s_p4 => ?_⟩
      replace S1 := S1.trans (Step.same e_p4 T1.lst)
      replace T1 := T1.same e_p4
      replace hS := Tst.same (K := K) e_p4 _ _ hS
      replace hq := Tst.same (K := K) e_p4 _ _ hq
      replace dx := DeepAll.same (noL_same e_p4) dx
      replace al := al.mono fun _ _ q => q.mono (Tst.same (K := K) e_p4)
      replace q2 := Tst.same (K := K) e_p4 _ _ q2
      replace q3 := Tst.same (K := K) e_p4 _ _ q3
      have tn := tst_noL (K := K) S1 T1
      have q4 : SqT K Hc p4 (xs.take n ++ xs.drop (n + 1)) := s_p4
      clear e_p4 tn
      clear s_p4
      refine ⟨(by show 2 ≤ sizeLine; decide), fun t9 k9 => ?_⟩
      have dd : Deep K (noL H Hc) (.ref p4) (.tuple ((rows.map dRow).take n ++ (rows.map dRow).drop (n + 1))) := .tup (tst_noL (K := K) S1 T1 _ _ q4) (DeepAll.app (DeepAll.take n dx) (DeepAll.drop (n + 1) dx))
      have en1 := same_new k9 (.tup [.str (Str.ofString "table"), .ref p4])
      have fr1 := Step.fresh S1 T1 k9
      replace S1 := S1.trans (Step.same en1 T1.lst)
      replace T1 := T1.same en1
      replace hS := Tst.same (K := K) en1 _ _ hS
      replace hq := Tst.same (K := K) en1 _ _ hq
      replace dx := DeepAll.same (noL_same en1) dx
      replace al := al.mono fun _ _ q => q.mono (Tst.same (K := K) en1)
      replace q2 := Tst.same (K := K) en1 _ _ q2
      replace q3 := Tst.same (K := K) en1 _ _ q3
      replace q4 := Tst.same (K := K) en1 _ _ q4
      replace dd := dd.same (noL_same en1)
      have tn := tst_noL (K := K) S1 T1
      have d9 : Deep K (noL H (upd Hc t9 (.tup [.str (Str.ofString "table"), .ref p4]))) (.ref t9) (.tuple [.str (Str.ofString "table"), .tuple ((rows.map dRow).take n ++ (rows.map dRow).drop (n + 1))]) := .tup (SqT.of (noL_new fr1)) (.cons (.str _) (.cons dd .nil))
      generalize (upd Hc t9 (.tup [.str (Str.ofString "table"), .ref p4])) = Hn1 at S1 T1 hS hq dx al q2 q3 q4 dd d9 ⊢
      clear en1 tn
      exact k _ _ _ (thing_tab (gd_tups (gd_app (gd_take n gr) (gd_drop (n + 1) gr)) (by simp only [List.length_take, List.length_drop, List.length_append, List.length_cons, List.length_nil]; omega))) S1 T1 d9
    refine iteD0 (fun z => h2 (by injection z)) ?_
    refine ⟨_, rfl, rfl, _, rfl, ?_⟩
    by_cases h3 : r0 = 3
    · refine iteD1 (by rw [h3]) ?_
      refine ⟨_, rfl, _, rfl, _, rfl, q, _, rfl, hq, fun p2 Ha e_p2 s_p2 => ?_⟩
      rw [cut_to (n := n) (by omega)] at s_p2
      replace S1 := S1.trans (Step.same e_p2 T1.lst)
      replace T1 := T1.same e_p2
      replace hS := Tst.same (K := K) e_p2 _ _ hS
      replace hq := Tst.same (K := K) e_p2 _ _ hq
      replace dx := DeepAll.same (noL_same e_p2) dx
      replace al := al.mono fun _ _ q => q.mono (Tst.same (K := K) e_p2)
      have tn := tst_noL (K := K) S1 T1
      have q2 : SqT K Ha p2 (xs.take n) := s_p2
      clear e_p2 tn
      clear s_p2
      refine ⟨_, rfl, _, rfl, _, rfl, _, rfl, _, _, rfl, rfl, _, rfl, q, _, rfl, hq, fun p3 Hb e_p3 s_p3 => ?_⟩
      rw [show (n : Int) + 1 = ((n + 1 : Nat) : Int) from rfl, cut_mid (n := n) (m := n + 1) (by omega) (by omega)] at s_p3
      replace S1 := S1.trans (Step.same e_p3 T1.lst)
      replace T1 := T1.same e_p3
      replace hS := Tst.same (K := K) e_p3 _ _ hS
      replace hq := Tst.same (K := K) e_p3 _ _ hq
      replace dx := DeepAll.same (noL_same e_p3) dx
      replace al := al.mono fun _ _ q => q.mono (Tst.same (K := K) e_p3)
      replace q2 := Tst.same (K := K) e_p3 _ _ q2
      have tn := tst_noL (K := K) S1 T1
      have q3 : SqT K Hb p3 ((xs.drop n).take (n + 1 - n)) := s_p3
      clear e_p3 tn
      clear s_p3
      refine ⟨p2, p3, _, _, rfl, rfl, q2, q3, Nat.le_trans (show _ ≤ 40 by simp only [List.length_take, List.length_drop, List.length_append, List.length_cons, List.length_nil]; omega) (by show 40 ≤ sizeLine; decide), fun p4 Hc e_p4 s_p4 => ?_⟩
      replace S1 := S1.trans (Step.same e_p4 T1.lst)
      replace T1 := T1.same e_p4
      replace hS := Tst.same (K := K) e_p4 _ _ hS
      replace hq := Tst.same (K := K) e_p4 _ _ hq
      replace dx := DeepAll.same (noL_same e_p4) dx
      replace al := al.mono fun _ _ q => q.mono (Tst.same (K := K) e_p4)
      replace q2 := Tst.same (K := K) e_p4 _ _ q2
      replace q3 := Tst.same (K := K) e_p4 _ _ q3
      have tn := tst_noL (K := K) S1 T1
      have q4 : SqT K Hc p4 (xs.take n ++ (xs.drop n).take (n + 1 - n)) := s_p4
      clear e_p4 tn
      clear s_p4
      refine ⟨_, rfl, _, rfl, _, rfl, q, _, rfl, hq, fun p5 Hd e_p5 s_p5 => ?_⟩
      rw [cut_from (n := n) (by omega)] at s_p5
      replace S1 := S1.trans (Step.same e_p5 T1.lst)
      replace T1 := T1.same e_p5
      replace hS := Tst.same (K := K) e_p5 _ _ hS
      replace hq := Tst.same (K := K) e_p5 _ _ hq
      replace dx := DeepAll.same (noL_same e_p5) dx
      replace al := al.mono fun _ _ q => q.mono (Tst.same (K := K) e_p5)
      replace q2 := Tst.same (K := K) e_p5 _ _ q2
      replace q3 := Tst.same (K := K) e_p5 _ _ q3
      replace q4 := Tst.same (K := K) e_p5 _ _ q4
      have tn := tst_noL (K := K) S1 T1
      have q5 : SqT K Hd p5 (xs.drop n) := s_p5
      clear e_p5 tn
      clear s_p5
      refine ⟨p4, p5, _, _, rfl, rfl, q4, q5, Nat.le_trans (show _ ≤ 40 by simp only [List.length_take, List.length_drop, List.length_append, List.length_cons, List.length_nil]; omega) (by show 40 ≤ sizeLine; decide), fun p6 He e_p6 s_p6 => ?_⟩
      replace S1 := S1.trans (Step.same e_p6 T1.lst)
      replace T1 := T1.same e_p6
      replace hS := Tst.same (K := K) e_p6 _ _ hS
      replace hq := Tst.same (K := K) e_p6 _ _ hq
      replace dx := DeepAll.same (noL_same e_p6) dx
      replace al := al.mono fun _ _ q => q.mono (Tst.same (K := K) e_p6)
      replace q2 := Tst.same (K := K) e_p6 _ _ q2
      replace q3 := Tst.same (K := K) e_p6 _ _ q3
      replace q4 := Tst.same (K := K) e_p6 _ _ q4
      replace q5 := Tst.same (K := K) e_p6 _ _ q5
      have tn := tst_noL (K := K) S1 T1
      have q6 : SqT K He p6 ((xs.take n ++ (xs.drop n).take (n + 1 - n)) ++ xs.drop n) := s_p6
      clear e_p6 tn
      clear s_p6
      refine ⟨(by show 2 ≤ sizeLine; decide), fun t9 k9 => ?_⟩
      have dd : Deep K (noL H He) (.ref p6) (.tuple (((rows.map dRow).take n ++ ((rows.map dRow).drop n).take (n + 1 - n)) ++ (rows.map dRow).drop n)) := .tup (tst_noL (K := K) S1 T1 _ _ q6) (DeepAll.app (DeepAll.app (DeepAll.take n dx) (DeepAll.take (n + 1 - n) (DeepAll.drop n dx))) (DeepAll.drop n dx))
      have en1 := same_new k9 (.tup [.str (Str.ofString "table"), .ref p6])
      have fr1 := Step.fresh S1 T1 k9
      replace S1 := S1.trans (Step.same en1 T1.lst)
      replace T1 := T1.same en1
      replace hS := Tst.same (K := K) en1 _ _ hS
      replace hq := Tst.same (K := K) en1 _ _ hq
      replace dx := DeepAll.same (noL_same en1) dx
      replace al := al.mono fun _ _ q => q.mono (Tst.same (K := K) en1)
      replace q2 := Tst.same (K := K) en1 _ _ q2
      replace q3 := Tst.same (K := K) en1 _ _ q3
      replace q4 := Tst.same (K := K) en1 _ _ q4
      replace q5 := Tst.same (K := K) en1 _ _ q5
      replace q6 := Tst.same (K := K) en1 _ _ q6
      replace dd := dd.same (noL_same en1)
      have tn := tst_noL (K := K) S1 T1
      have d9 : Deep K (noL H (upd He t9 (.tup [.str (Str.ofString "table"), .ref p6]))) (.ref t9) (.tuple [.str (Str.ofString "table"), .tuple (((rows.map dRow).take n ++ ((rows.map dRow).drop n).take (n + 1 - n)) ++ (rows.map dRow).drop n)]) := .tup (SqT.of (noL_new fr1)) (.cons (.str _) (.cons dd .nil))
      generalize (upd He t9 (.tup [.str (Str.ofString "table"), .ref p6])) = Hn1 at S1 T1 hS hq dx al q2 q3 q4 q5 q6 dd d9 ⊢
      clear en1 tn
      exact k _ _ _ (thing_tab (gd_tups (gd_app (gd_app (gd_take n gr) (gd_take _ (gd_drop n gr))) (gd_drop n gr)) (by simp only [List.length_take, List.length_drop, List.length_append, List.length_cons, List.length_nil]; omega))) S1 T1 d9
    refine iteD0 (fun z => h3 (by injection z)) ?_
    refine ⟨_, rfl, _, rfl, _, rfl, q, _, rfl, hq, fun p2 Ha e_p2 s_p2 => ?_⟩
    rw [cut_to (n := n) (by omega)] at s_p2
    replace S1 := S1.trans (Step.same e_p2 T1.lst)
    replace T1 := T1.same e_p2
    replace hS := Tst.same (K := K) e_p2 _ _ hS
    replace hq := Tst.same (K := K) e_p2 _ _ hq
    replace dx := DeepAll.same (noL_same e_p2) dx
    replace al := al.mono fun _ _ q => q.mono (Tst.same (K := K) e_p2)
    have tn := tst_noL (K := K) S1 T1
    have q2 : SqT K Ha p2 (xs.take n) := s_p2
    clear e_p2 tn
    clear s_p2
    refine ⟨_, rfl, _, rfl, _, rfl, t₁, s₀, q, xs, rows, n, rfl, T1, hq, al, ok', by omega, fun v d H5 gd S5 T5 dv => ?_⟩
    replace dv := dv.same (noL_wide S1)
    replace hq := Tst.step (K := K) S5 _ _ hq
    replace hS := Tst.step (K := K) S5 _ _ hS
    replace q2 := Tst.step (K := K) S5 _ _ q2
    replace al := al.mono fun _ _ z => z.mono (Tst.step (K := K) S5)
    replace dx := DeepAll.same (noL_step S5 isl) dx
    replace S1 := S1.trans S5
    replace T1 := T5
    clear S5 T5
    refine ⟨(by show 1 ≤ sizeLine; decide), fun t6 k6 => ?_⟩
    have en1 := same_new k6 (.tup [v])
    have fr1 := Step.fresh S1 T1 k6
    replace S1 := S1.trans (Step.same en1 T1.lst)
    replace T1 := T1.same en1
    replace hS := Tst.same (K := K) en1 _ _ hS
    replace hq := Tst.same (K := K) en1 _ _ hq
    replace dx := DeepAll.same (noL_same en1) dx
    replace al := al.mono fun _ _ q => q.mono (Tst.same (K := K) en1)
    replace q2 := Tst.same (K := K) en1 _ _ q2
    replace dv := dv.same (noL_same en1)
    have tn := tst_noL (K := K) S1 T1
    have q6 : SqT K (upd H5 t6 (.tup [v])) t6 [v] := SqT.of upd_same
    generalize (upd H5 t6 (.tup [v])) = Hn1 at S1 T1 hS hq dx al q2 dv q6 ⊢
    clear en1 tn
    refine ⟨p2, t6, _, _, rfl, rfl, q2, q6, Nat.le_trans (show _ ≤ 40 by simp only [List.length_take, List.length_drop, List.length_append, List.length_cons, List.length_nil]; omega) (by show 40 ≤ sizeLine; decide), fun p4 Hc e_p4 s_p4 => ?_⟩
    replace S1 := S1.trans (Step.same e_p4 T1.lst)
    replace T1 := T1.same e_p4
    replace hS := Tst.same (K := K) e_p4 _ _ hS
    replace hq := Tst.same (K := K) e_p4 _ _ hq
    replace dx := DeepAll.same (noL_same e_p4) dx
    replace al := al.mono fun _ _ q => q.mono (Tst.same (K := K) e_p4)
    replace q2 := Tst.same (K := K) e_p4 _ _ q2
    replace dv := dv.same (noL_same e_p4)
    replace q6 := Tst.same (K := K) e_p4 _ _ q6
    have tn := tst_noL (K := K) S1 T1
    have q4 : SqT K Hc p4 (xs.take n ++ [v]) := s_p4
    clear e_p4 tn
    clear s_p4
    refine ⟨_, rfl, _, rfl, _, _, rfl, rfl, _, rfl, q, _, rfl, hq, fun p3 Hb e_p3 s_p3 => ?_⟩
    rw [show (n : Int) + 1 = ((n + 1 : Nat) : Int) from rfl, cut_from (n := n + 1) (by omega)] at s_p3
    replace S1 := S1.trans (Step.same e_p3 T1.lst)
    replace T1 := T1.same e_p3
    replace hS := Tst.same (K := K) e_p3 _ _ hS
    replace hq := Tst.same (K := K) e_p3 _ _ hq
    replace dx := DeepAll.same (noL_same e_p3) dx
    replace al := al.mono fun _ _ q => q.mono (Tst.same (K := K) e_p3)
    replace q2 := Tst.same (K := K) e_p3 _ _ q2
    replace dv := dv.same (noL_same e_p3)
    replace q6 := Tst.same (K := K) e_p3 _ _ q6
    replace q4 := Tst.same (K := K) e_p3 _ _ q4
    have tn := tst_noL (K := K) S1 T1
    have q3 : SqT K Hb p3 (xs.drop (n + 1)) := s_p3
    clear e_p3 tn
    clear s_p3
    refine ⟨p4, p3, _, _, rfl, rfl, q4, q3, Nat.le_trans (show _ ≤ 40 by simp only [List.length_take, List.length_drop, List.length_append, List.length_cons, List.length_nil]; omega) (by show 40 ≤ sizeLine; decide), fun p7 Hd e_p7 s_p7 => ?_⟩
    replace S1 := S1.trans (Step.same e_p7 T1.lst)
    replace T1 := T1.same e_p7
    replace hS := Tst.same (K := K) e_p7 _ _ hS
    replace hq := Tst.same (K := K) e_p7 _ _ hq
    replace dx := DeepAll.same (noL_same e_p7) dx
    replace al := al.mono fun _ _ q => q.mono (Tst.same (K := K) e_p7)
    replace q2 := Tst.same (K := K) e_p7 _ _ q2
    replace dv := dv.same (noL_same e_p7)
    replace q6 := Tst.same (K := K) e_p7 _ _ q6
    replace q4 := Tst.same (K := K) e_p7 _ _ q4
    replace q3 := Tst.same (K := K) e_p7 _ _ q3
    have tn := tst_noL (K := K) S1 T1
    have q7 : SqT K Hd p7 ((xs.take n ++ [v]) ++ xs.drop (n + 1)) := s_p7
    clear e_p7 tn
    clear s_p7
    refine ⟨(by show 2 ≤ sizeLine; decide), fun t9 k9 => ?_⟩
    have dd : Deep K (noL H Hd) (.ref p7) (.tuple (((rows.map dRow).take n ++ [d]) ++ (rows.map dRow).drop (n + 1))) := .tup (tst_noL (K := K) S1 T1 _ _ q7) (DeepAll.app (DeepAll.app (DeepAll.take n dx) (.cons dv .nil)) (DeepAll.drop (n + 1) dx))
    have en2 := same_new k9 (.tup [.str (Str.ofString "table"), .ref p7])
    have fr2 := Step.fresh S1 T1 k9
    replace S1 := S1.trans (Step.same en2 T1.lst)
    replace T1 := T1.same en2
    replace hS := Tst.same (K := K) en2 _ _ hS
    replace hq := Tst.same (K := K) en2 _ _ hq
    replace dx := DeepAll.same (noL_same en2) dx
    replace al := al.mono fun _ _ q => q.mono (Tst.same (K := K) en2)
    replace q2 := Tst.same (K := K) en2 _ _ q2
    replace dv := dv.same (noL_same en2)
    replace q6 := Tst.same (K := K) en2 _ _ q6
    replace q4 := Tst.same (K := K) en2 _ _ q4
    replace q3 := Tst.same (K := K) en2 _ _ q3
    replace q7 := Tst.same (K := K) en2 _ _ q7
    replace dd := dd.same (noL_same en2)
    have tn := tst_noL (K := K) S1 T1
    have d9 : Deep K (noL H (upd Hd t9 (.tup [.str (Str.ofString "table"), .ref p7]))) (.ref t9) (.tuple [.str (Str.ofString "table"), .tuple (((rows.map dRow).take n ++ [d]) ++ (rows.map dRow).drop (n + 1))]) := .tup (SqT.of (noL_new fr2)) (.cons (.str _) (.cons dd .nil))
    generalize (upd Hd t9 (.tup [.str (Str.ofString "table"), .ref p7])) = Hn2 at S1 T1 hS hq dx al q2 dv q6 q4 q3 q7 dd d9 ⊢
    clear en2 tn
    exact k _ _ _ (thing_tab (gd_tups (gd_app (gd_app (gd_take n gr) (fun e he => by simp only [List.mem_cons, List.not_mem_nil, or_false] at he; rw [he]; exact gd)) (gd_drop (n + 1) gr)) (by simp only [List.length_take, List.length_drop, List.length_append, List.length_cons, List.length_nil]; omega))) S1 T1 d9
theorem ok_NoRule (T : Txt K mg t) : FnOk P w K mg base CX0 2 t.a_NoRule t.d_NoRule ["self", "number"] (sp_NoRule K t.c_NoRule) := by
  refine T.F_NoRule.ok sc_NoRule (fun vs H Q E h => ?_) (fun cdv A outer s H vs Q E hr h => ?_)
  · obtain ⟨_, _, rfl, _⟩ := h; rfl
  obtain ⟨a, n, rfl, ha, k⟩ := h
  refine QSs.ok (qss_one (qs_fldE rfl (qv 0) (qe_call (ok_copied T) (hr.mono (by decide)) rfl T.m_copied T.F_copied.kp T.b_copied .nil pass0 (qa_cons (qv 1) qa_nil star_name)) rfl)) ?_
  exact ⟨_, rfl, n, rfl, _, rfl, a, _, _, rfl, T.X_NoRule.cl, T.n_NoRule_number, .inl ⟨ha, k⟩⟩
theorem ok_right_rule (T : Txt K mg t) : FnOk P w K mg base (CXD P w) 6 t.a_right_rule t.d_right_rule ["thing"] (sp_right_rule K t.c_NoRule) := by
  refine B.Fun.okD T.F_right_rule sc_right_rule (fun vs H Q E h => ?_) (fun cdv A outer s H vs Q E hr h => ?_)
  · obtain ⟨_, _, rfl, _⟩ := h; rfl
  obtain ⟨v, d, rfl, hD, th, k, ke⟩ := h
  refine QSs.ok (qss_cons (qs_if (qt_not (qt_val (qe_call (ok_is_rule_shaped T) (hr.mono (by decide)) rfl T.m_is_rule_shaped T.F_is_rule_shaped.kp T.b_is_rule_shaped .nil pass0 (qa_cons (qv 0) qa_nil star_name)))) (qss_one (qs_raiseD T.X_NoRule (vm_has _) rfl takesD (ok_NoRule T) (hr.mono (by decide)) T.b_NoRule rfl T.m_NoRule (qa_cons (qe_un un_neg qe_int) qa_nil star_un))) qss_nil)
      (qss_cons (qs_if (qt_cmpR (op_eqD hr) (qe_ix ix_tup (qv 0) qe_int (fun _ _ => rfl)) (qe_glob (v := .str "table") rfl T.m_TABLE ⟨_, rfl⟩) (nomark _)) (qss_cons (qs_set (i := 1) sc_right_rule.nd rfl (by first | exact Or.inl rfl | exact Or.inr rfl) (qe_ix ix_tup (qv 0) qe_int (fun _ _ => rfl)))
      (qss_one (qs_for PassesOwn.leaving rfl (qi_enum rfl T.z_enumerate (qa_cons (qv 1) qa_nil star_name)) (qg_tup rfl (qgs_cons (qg_name (i := 2) sc_right_rule.nd rfl (by first | exact Or.inl rfl | exact Or.inr rfl)) (qgs_cons (qg_name (i := 3) sc_right_rule.nd rfl (by first | exact Or.inl rfl | exact Or.inr rfl)) qgs_nil)))
      (qss_one (qs_if (qw_pt (qw_or (qt_not (qt_val (qe_call (ok_is_ratio_pair T) (hr.mono (by decide)) rfl T.m_is_ratio_pair T.F_is_ratio_pair.kp T.b_is_ratio_pair .nil pass0 (qa_cons (qv 3) qa_nil star_name)))) (qw_or1 (qt_not (qt_val (qe_call (ok_is_row_behind T) (hr.mono (by decide)) rfl T.m_is_row_behind T.F_is_row_behind.kp T.b_is_row_behind .nil pass0 (qa_cons (qv 1) (qa_cons (qv 2) qa_nil star_name) star_name))))))) (qss_one (qs_raiseD T.X_NoRule (vm_has _) rfl takesD (ok_NoRule T) (hr.mono (by decide)) T.b_NoRule rfl T.m_NoRule (qa_cons (qv 2) qa_nil star_name))) qss_nil))))) qss_nil)
      (qss_one (qs_ret qe_bl)))) ?_
  refine ⟨_, rfl, v, d, rfl, hD, th.cl, ⟨_, rfl, ?_⟩⟩
  cases sh : shapedD d with
  | false =>
    refine iteT ?_
    have du : dueP d = some (-1) := by unfold dueP; rw [sh]; rfl
    refine ⟨1, rfl, ⟨(by show 1 ≤ sizeLine; decide), fun x hx => ⟨x, -1, rfl, upd_same, fun dd hd nd => ⟨rfl, some dd, (by rw [upd_ne nd.symm]; exact upd_same), ?_⟩⟩⟩⟩
    rw [del_upd3 hx nd]
    rw [upd_ne nd] at hd
    exact ke _ du dd _ (same_new hd _) upd_same
  | true =>
    refine iteF ?_
    have c2 : tupD 2 d = true := by
      cases c : tupD 2 d with
      | true => rfl
      | false => rw [shapedD_no c] at sh; cases sh
    obtain ⟨p, x, y, dx, dy, rfl, rfl, hS, hx, hy⟩ := hD.two c2
    obtain ⟨cl1, cl2⟩ := th.cl _ _ rfl
    refine ⟨_, rfl, p, _, _, _, rfl, rfl, hS, rfl, dx, .str "table", hx, .str _, cl1, by decide +kernel, cl2, _, rfl, ?_⟩
    cases ct : PyData.eqv dx (.str "table") with
    | false =>
      refine iteF ?_
      refine k ?_ H (Same.refl H)
      unfold dueP
      rw [sh, if_pos rfl]
      split
      · rename_i e
        cases e
        rw [ct]; rfl
      · rfl
    | true =>
      refine iteT ?_
      obtain ⟨ds, rfl, n2, n12⟩ := shaped_table sh ct
      have du : dueP (.tuple [dx, .tuple ds]) = (firstBad ds).map fun n => (n : Int) := by
        unfold dueP
        rw [sh, if_pos rfl]
        show (if PyData.eqv dx (.str "table") then (firstBad ds).map fun n => (n : Int) else none) = _
        rw [ct]; rfl
      have ib : ∀ e ∈ ds, ibd e = true := by
        have b : (ibd dx && (ibdAll ds && true)) = true := th.bd
        rw [Bool.and_eq_true, Bool.and_eq_true] at b
        exact ibdAll_mem b.2.1
      cases hy with
      | @tup q xs _ hq hA =>
      have hl := hA.len
      refine ⟨_, rfl, p, _, _, _, rfl, rfl, hS, rfl, ?_⟩
      refine ⟨_, rfl, q, rfl, ⟨_, hq⟩, for_enum (K := K) (a := q) (xs := xs) (fun i σ H' => ∃ (x3 x4 : Option V), σ = [some (.ref p), some (.ref q), x3, x4] ∧ Same H H' ∧ ∀ m, m < i → goodRow ds m = true) ⟨none, none, rfl, Same.refl H, fun m hm => absurd hm (Nat.not_lt_zero _)⟩ (fun i σ H1 _ ⟨_, _, _, sm, _⟩ => Tst.same sm _ _ hq) ?_ ?_⟩
      · rintro i x pt σ H1 hx ⟨x3, x4, rfl, sm, gd⟩ hpt
        have e1 := same_new hpt (.tup [.int i, x])
        refine ⟨pt, _, rfl, SqT.of upd_same, rfl, _, _, rfl, _, _, rfl, rfl, ?_⟩
        have sm1 := sm.trans e1
        have hil : i < ds.length := by have := (List.getElem?_eq_some_iff.mp hx).1; omega
        have hde : ds[i]? = some ds[i] := List.getElem?_eq_getElem hil
        obtain ⟨v, hv, dv⟩ := DeepAll.at hA hde
        rw [hx] at hv
        cases hv
        have hA1 := DeepAll.same sm1 hA
        refine ⟨_, rfl, x, _, rfl, dv.same sm1, _, rfl, ?_⟩
        have bad : goodRow ds i = false → dueP (.tuple [dx, .tuple ds]) = some (i : Int) := fun b => by rw [du, fb_some hil b gd]; rfl
        generalize upd H1 pt (.tup [.int i, x]) = H2 at sm1 hA1 ⊢
        cases pr : pairD ds[i] with
        | false =>
          refine iteT (iteT ?_)
          refine ⟨_, rfl, ⟨(by show 1 ≤ sizeLine; decide), fun x hx => ⟨x, i, rfl, upd_same, fun dd hd nd => ⟨rfl, some dd, (by rw [upd_ne nd.symm]; exact upd_same), ?_⟩⟩⟩⟩
          rw [del_upd3 hx nd]
          rw [upd_ne nd] at hd
          refine ke _ (bad ?_) dd _ (sm1.trans (same_new hd _)) upd_same
          unfold goodRow
          rw [(dec_at hde).2, pr]; rfl
        | true =>
          refine iteF ?_
          have pr' : pairD (ds.getD i .none) = true := by rw [(dec_at hde).2]; exact pr
          refine ⟨_, rfl, _, rfl, q, xs, ds.map decRow, i, rfl, Tst.same sm1 _ _ hq, beh_ok hA1 ib hil pr' gd, fun H3 s3 => ⟨_, rfl, ?_⟩⟩
          have sm3 := sm1.trans s3
          cases bh : behM (ds.map decRow) i with
          | true =>
            refine iteF ?_
            refine ⟨_, _, rfl, sm3, fun m hm => ?_⟩
            by_cases c : m < i
            · exact gd m c
            · have : m = i := by omega
              subst this
              unfold goodRow
              rw [pr', bh]; rfl
          | false =>
            refine iteT ?_
            refine ⟨_, rfl, ⟨(by show 1 ≤ sizeLine; decide), fun x hx => ⟨x, i, rfl, upd_same, fun dd hd nd => ⟨rfl, some dd, (by rw [upd_ne nd.symm]; exact upd_same), ?_⟩⟩⟩⟩
            rw [del_upd3 hx nd]
            rw [upd_ne nd] at hd
            refine ke _ (bad ?_) dd _ (sm3.trans (same_new hd _)) upd_same
            unfold goodRow
            rw [pr', bh]; rfl
      · rintro σ H1 ⟨x3, x4, rfl, sm, gd⟩
        refine k ?_ H1 sm
        rw [du, fb_none fun n hn => gd n (by omega)]; rfl
theorem ok_law_told (T : Txt K mg t) : FnOk P w K mg base CX0 7 t.a_law_told t.d_law_told ["_law_thing"] (sp_law_told K) := by
  refine T.F_law_told.ok sc_law_told (fun vs H Q E h => ?_) (fun cdv A outer s H vs Q E hr h => ?_)
  · obtain ⟨_, _, rfl, _⟩ := h; rfl
  obtain ⟨v, d, rfl, hD, th, k⟩ := h
  refine QSs.ok (qss_cons (qs_set (i := 1) sc_law_told.nd rfl (by first | exact Or.inl rfl | exact Or.inr rfl) qe_str)
      (qss_cons (qs_tryAs (i := 2) (R := (fun C dx H' => C = t.c_NoRule ∧ ∃ (n : Int) (dd : Addr), dueP d = some n ∧ Same H H' ∧ dx = some dd ∧ H' dd = some (dO dd [("number", .int n)]))) rfl rfl rfl rfl T.m_PaceError sc_law_told.nd rfl rfl (fun _ => (qss_one (qs_if (qt_cmpR op_isB (qe_call (ok_right_rule T) (hr.mono (by decide)) rfl T.m_right_rule T.F_right_rule.kp T.b_right_rule .nil (passTD rfl) (qa_cons (qv 0) qa_nil star_name)) qe_bl (nomark _)) (qss_one (qs_set (i := 1) sc_law_told.nd rfl (by first | exact Or.inl rfl | exact Or.inr rfl) qe_non)) qss_nil)))
      (fun _ => (qss_one (qs_if (qw_pt (qw_and (qt_val (qe_callB (call_isK (K := K) rfl) (by rfl) T.z_isinstance PyProof.Rows.boot_isinstance (qa_cons (qv 2) (qa_cons (qe_glob (v := .ref t.c_NoRule) rfl T.m_NoRule rfl) qa_nil star_name) star_name))) (qw_and (qt_val (qe_callB (call_isK (K := K) rfl) (by rfl) T.z_isinstance PyProof.Rows.boot_isinstance (qa_cons (qv 2) (qa_cons (qe_bltn (v := V.ty "ValueError") rfl T.z_ValueError PyProof.Rows.Boot.ValueError rfl) qa_nil star_name) star_name))) (qw_and1 (qt_not (qt_val (qe_callB (call_isK (K := K) rfl) (by rfl) T.z_isinstance PyProof.Rows.boot_isinstance (qa_cons (qv 2) (qa_cons (qe_tup (qa_cons (qe_glob (v := .ref t.c_NoPlan) rfl T.m_NoPlan rfl) (qa_cons (qe_glob (v := .ref t.c_NoSheet) rfl T.m_NoSheet rfl) (qa_cons (qe_glob (v := .ref t.c_NoSpeed) rfl T.m_NoSpeed rfl) qa_nil star_name) star_name) star_name)) qa_nil star_tup) star_name)))))))) (qss_one (qs_set (i := 1) sc_law_told.nd rfl (by first | exact Or.inl rfl | exact Or.inr rfl) (qe_fldE (K := K) rfl (qv 2) rfl))) qss_nil))))
      (qss_one (qs_ret (qv 1))))) ?_
  refine ⟨⟨_, rfl, v, d, rfl, hD, th, fun hn H1 s1 => ⟨true, true, rfl, rfl, _, rfl, iteT ⟨_, rfl, ?_⟩⟩, fun n hn dd H1 s1 hd => ⟨_, rfl, rfl, n, dd, hn, s1, rfl, hd⟩⟩, ?_⟩
  · have := k H1 s1
    rw [hn] at this
    exact this
  rintro C dx H' ⟨rfl, n, dd, hn, s1, rfl, hd⟩
  refine ⟨T.x_catch, dd, rfl, fun x hx => ?_⟩
  have s2 := same_new hx (erO x t.c_NoRule dd)
  have ex := upd_same (H := H') (a := x) (o := erO x t.c_NoRule dd)
  have ed := s2 _ _ hd
  have cl := T.X_NoRule.cl
  have gx := T.g_NoRule
  refine ⟨_, rfl, x, _, dd, _, _, _, true, rfl, ex, ed, cl, gx, .inr (.inl ⟨_, rfl, T.y_self⟩), true, rfl, iteT ?_⟩
  refine ⟨_, rfl, x, _, dd, _, _, _, true, rfl, ex, ed, cl, gx, .inl ⟨_, rfl, T.y_val⟩, true, rfl, iteT ?_⟩
  refine ⟨_, rfl, (by show 3 ≤ sizeLine; decide), fun p2 g2 => ?_⟩
  have s4 := same_new g2 (.tup [.ref t.c_NoPlan, .ref t.c_NoSheet, .ref t.c_NoSpeed])
  refine ⟨x, _, dd, _, _, _, false, rfl, s4 _ _ ex, s4 _ _ ed, cl, gx, .inr (.inr ⟨p2, [t.c_NoPlan, t.c_NoSheet, t.c_NoSpeed], rfl, upd_same, T.y_not⟩), false, rfl, iteT ?_⟩
  refine ⟨_, rfl, x, t.c_NoRule, dd, _, _, .int n, rfl, .inl (s4 _ _ ex), s4 _ _ ed, cl, gx, T.n_NoRule_number, rfl, ?_⟩
  have := k _ ((s1.trans s2).trans s4)
  rw [hn] at this
  exact ⟨_, rfl, this⟩
theorem ok_law (T : Txt K mg t) : FnOk P w K mg base CX0 8 t.a_law t.d_law ["_law_script"] (sp_law K) := by
  refine T.F_law.ok sc_law (fun vs H Q E h => ?_) (fun cdv A outer s H vs Q E hr h => ?_)
  · obtain ⟨_, _, rfl, _⟩ := h; rfl
  obtain ⟨a, ns, rfl, hS, hlen, k⟩ := h
  refine QSs.ok (qss_cons (qs_set (i := 1) sc_law.nd rfl (by first | exact Or.inl rfl | exact Or.inr rfl) (qe_call (ok_law_tape T) (hr.mono (by decide)) rfl T.m_law_tape T.F_law_tape.kp T.b_law_tape .nil pass0 (qa_cons (qv 0) qa_nil star_name)))
      (qss_cons (qs_for PassesOwn.never rfl (qi_range1 rfl T.z_range (qa_cons qe_int qa_nil star_con)) (qg_name (i := 2) sc_law.nd rfl (by first | exact Or.inl rfl | exact Or.inr rfl))
      (qss_cons (qs_set (i := 3) sc_law.nd rfl (by first | exact Or.inl rfl | exact Or.inr rfl) (qe_call (ok_law_rule T) (hr.mono (by decide)) rfl T.m_law_rule T.F_law_rule.kp T.b_law_rule .nil pass0 (qa_cons (qv 1) qa_nil star_name)))
      (qss_one (qs_for PassesOwn.never rfl (qi_list (qe_op op_cat (qe_lst (qa_cons (qv 3) qa_nil star_name)) (qe_lcomp (N' := ["_law_j", "_law_tape_here", "_law_rule_here"]) (src := [none, some 1, some 3]) rfl (by exact (qi_range1 rfl T.z_range (qa_cons qe_int qa_nil star_con))) (fun _ _ _ _ _ => (by exact (by exact qg_name (i := 0) (by show List.Nodup (["_law_j", "_law_tape_here", "_law_rule_here"] : List Str); decide +kernel) (by exact rfl) (by first | exact Or.inl rfl | exact Or.inr rfl)))) (fun _ _ _ _ _ => qts_nil) (fun _ _ _ _ _ => (by exact (by exact (qe_call (ok_law_bent T) (by exact hr.mono (by decide)) (by exact rfl) T.m_law_bent T.F_law_bent.kp T.b_law_bent (by exact .nil) (by exact pass0) (qa_cons (by exact (qv 1)) (qa_cons (by exact (qv 2)) qa_nil star_name) star_name))))) (by exact ⟨rfl, rfl, rfl, rfl, ⟨rfl, rfl, rfl, rfl, trivial⟩⟩) rfl (by decide +kernel) rfl (by decide +kernel) (by exact cells_of rfl ⟨rfl, ⟨rfl, trivial⟩⟩)))) (qg_name (i := 4) sc_law.nd rfl (by first | exact Or.inl rfl | exact Or.inr rfl))
      (qss_cons (qs_set (i := 5) sc_law.nd rfl (by first | exact Or.inl rfl | exact Or.inr rfl) (qe_callB (call_repr hr) (by rfl) T.z_repr PyProof.Rows.boot_repr (qa_cons (qv 4) qa_nil star_name)))
      (qss_one (qs_if (qw_pt (qw_or (qt_cmpR op_ne (qe_callB (call_repr hr) (by rfl) T.z_repr PyProof.Rows.boot_repr (qa_cons (qe_call (ok_law_told T) (hr.mono (by decide)) rfl T.m_law_told T.F_law_told.kp T.b_law_told .nil pass0 (qa_cons (qv 4) qa_nil star_name)) qa_nil star_call)) (qe_callB (call_repr hr) (by rfl) T.z_repr PyProof.Rows.boot_repr (qa_cons (qe_call (ok_law_due T) (hr.mono (by decide)) rfl T.m_law_due T.F_law_due.kp T.b_law_due .nil pass0 (qa_cons (qv 4) qa_nil star_name)) qa_nil star_call)) (nomark _)) (qw_or1 (qt_cmpR op_ne (qe_callB (call_repr hr) (by rfl) T.z_repr PyProof.Rows.boot_repr (qa_cons (qv 4) qa_nil star_name)) (qv 5) (nomark _))))) (qss_one (qs_ret qe_bl)) qss_nil)))))))
      (qss_one (qs_ret qe_bl)))) ?_
  refine ⟨_, rfl, a, ns, rfl, hS, fun t₁ s₀ H0 s0 _ _ T0 => ?_⟩
  refine ⟨5, rfl, by decide, by decide, for_range (lo := 0) (n := 5) (fun i σ H' => ∃ (x3 x4 x5 x6 : Option V), σ = [some (.ref a), some (.ref t₁), x3, x4, x5, x6] ∧ Tape H' t₁ s₀) ⟨none, none, none, none, rfl, T0⟩ ?_ ?_⟩
  · rintro i₀ σ H1 hi₀ ⟨x3, x4, x5, x6, rfl, T1⟩
    refine ⟨_, rfl, t₁, s₀, rfl, T1, fun vr rl H2 okr S2 T2 hr2 => ?_⟩
    refine ⟨_, rfl, (by show 1 ≤ sizeLine; decide), fun l1 m1 => ?_⟩
    have e1 := same_new m1 (.lst [vr])
    have n1 : l1 ≠ t₁ := fun e => by subst e; obtain ⟨_, q⟩ := T2.lst; rw [m1] at q; cases q
    have f1 : upd H2 l1 (.lst [vr]) l1 = some (.lst [vr]) := upd_same
    replace T2 := T2.same e1
    replace hr2 := hr2.mono (Tst.same (K := K) e1)
    clear e1 S2
    generalize upd H2 l1 (.lst [vr]) = Hl at f1 T2 hr2 ⊢
    refine ⟨5, rfl, by decide, by decide, fun D hD => comp_rngD (K := K) (t := t₁) (s := s₀) hD T2 (show 5 ≤ 1000 by decide) (fun i H' hi tst T' R E kR => ?_) fun H3 ys ds S3 T3 hD3 al3 hl3 ok3 => ?_⟩
    · exact ⟨Ext.set rfl, _, rfl, _, rfl, t₁, s₀, vr, rl, rfl, T', hr2.mono tst, okr, fun v d H'' thd Sz Tz hz => kR _ _ _ Sz Tz hz thd⟩
    have f3 := S3.keep _ _ n1 f1
    have hr3 := hr2.mono (Tst.step (K := K) S3)
    have hly := al3.len
    refine ⟨l1, D, _, _, rfl, rfl, f3, hD3, Nat.le_trans (show 1 + ys.length ≤ 6 by omega) (by show 6 ≤ sizeLine; decide), fun l4 m4 => ?_⟩
    have e4 := same_new m4 (.lst ([vr] ++ ys))
    have f4 : upd H3 l4 (.lst ([vr] ++ ys)) l4 = some (.lst ([vr] ++ ys)) := upd_same
    have al4 : DeepAll K (upd H3 l4 (.lst ([vr] ++ ys))) ([vr] ++ ys) (dRl rl :: ds) := .cons (hr3.deep.same e4) (DeepAll.same e4 al3)
    have T4 := T3.same e4
    have ok4 : ∀ d ∈ dRl rl :: ds, Thing d := fun d hd => by
      rcases List.mem_cons.mp hd with rfl | h
      · exact thing_rl okr
      · exact ok3 d h
    clear e4 al3 f3 hr3
    generalize upd H3 l4 (.lst ([vr] ++ ys)) = H4 at f4 al4 T4 ⊢
    generalize [vr] ++ ys = zs at f4 al4 ⊢
    refine ⟨l4, rfl, ⟨_, SqL.of f4⟩, for_list (K := K) (a := l4) (xs := zs) (fun i σ H' => ∃ (y5 y6 : Option V), σ = [some (.ref a), some (.ref t₁), some (.int (0 + (i₀ : Int))), some vr, y5, y6] ∧ Same H4 H') ⟨_, _, rfl, Same.refl H4⟩ (fun i σ H1 _ ⟨_, _, _, sm⟩ => sm.seq (SqL.of f4)) ?_ ?_⟩
    · rintro i x σ H5 hx ⟨y5, y6, rfl, sm⟩
      obtain ⟨d, hd, dv⟩ := DeepAll.get al4 hx
      have th := ok4 d hd
      have shd : Shows d := th.sh.shows (by decide) (by decide)
      have dv5 := dv.same sm
      refine ⟨_, rfl, x, d, rfl, dv5, shd, ?_⟩
      refine ⟨_, rfl, x, d, rfl, dv5, th, fun H6 s6 => ?_⟩
      refine ⟨vOpt (dueP d), dOpt (dueP d), rfl, opt_deep _, opt_shows, ?_⟩
      refine ⟨_, rfl, x, d, rfl, dv5.same s6, th, fun H7 s7 => ?_⟩
      refine ⟨vOpt (dueP d), dOpt (dueP d), rfl, opt_deep _, opt_shows, rfl, _, rfl, iteNS rfl ?_⟩
      refine ⟨_, rfl, x, d, rfl, (dv5.same s6).same s7, shd, _, rfl, rfl, _, rfl, iteNS rfl ?_⟩
      exact ⟨_, _, rfl, (sm.trans s6).trans s7⟩
    · rintro σ H5 ⟨y5, y6, rfl, sm⟩
      exact ⟨_, _, _, _, rfl, T4.same sm⟩
  · rintro σ H1 ⟨x3, x4, x5, x6, rfl, T1⟩
    exact k H1
end
theorem all_mk {l : PySem.W.OpenLaw} {w : World} {K : PySem.W.Frag} {h : Heap} {mg : Str → Option Value} {fa : Addr} (X : K.In h) (G : h.Ns mainGlobals mg) (hfa : mg "law" = some (.ref fa))
    {f_is_whole : Addr} {od_is_whole an_is_whole : Option Addr} {sl_is_whole : Array (Option Value)} {oc_is_whole kV_is_whole dc_is_whole pm_is_whole cd_is_whole ct_is_whole : Value}
    (p_is_whole : PySem.W.nsIn K mainGlobals "is_whole" = some (some (.ref f_is_whole))) (l_is_whole : K.lookup f_is_whole = some ⟨oc_is_whole, od_is_whole, .func (PySem.W.fnOf "is_whole" "is_whole" (defArgs s_is_whole) (defBody s_is_whole) (defScope s_is_whole) .none kV_is_whole dc_is_whole pm_is_whole an_is_whole cd_is_whole ct_is_whole), sl_is_whole⟩) (c_is_whole : PySem.W.codeIn K cd_is_whole "is_whole" = true) (k_is_whole : PySem.W.keepIn K (.ref f_is_whole) = true)
    {f_is_tuple_of : Addr} {od_is_tuple_of an_is_tuple_of : Option Addr} {sl_is_tuple_of : Array (Option Value)} {oc_is_tuple_of kV_is_tuple_of dc_is_tuple_of pm_is_tuple_of cd_is_tuple_of ct_is_tuple_of : Value}
    (p_is_tuple_of : PySem.W.nsIn K mainGlobals "is_tuple_of" = some (some (.ref f_is_tuple_of))) (l_is_tuple_of : K.lookup f_is_tuple_of = some ⟨oc_is_tuple_of, od_is_tuple_of, .func (PySem.W.fnOf "is_tuple_of" "is_tuple_of" (defArgs s_is_tuple_of) (defBody s_is_tuple_of) (defScope s_is_tuple_of) .none kV_is_tuple_of dc_is_tuple_of pm_is_tuple_of an_is_tuple_of cd_is_tuple_of ct_is_tuple_of), sl_is_tuple_of⟩) (c_is_tuple_of : PySem.W.codeIn K cd_is_tuple_of "is_tuple_of" = true) (k_is_tuple_of : PySem.W.keepIn K (.ref f_is_tuple_of) = true)
    {f_copied : Addr} {od_copied an_copied : Option Addr} {sl_copied : Array (Option Value)} {oc_copied kV_copied dc_copied pm_copied cd_copied ct_copied : Value}
    (p_copied : PySem.W.nsIn K mainGlobals "copied" = some (some (.ref f_copied))) (l_copied : K.lookup f_copied = some ⟨oc_copied, od_copied, .func (PySem.W.fnOf "copied" "copied" (defArgs s_copied) (defBody s_copied) (defScope s_copied) .none kV_copied dc_copied pm_copied an_copied cd_copied ct_copied), sl_copied⟩) (c_copied : PySem.W.codeIn K cd_copied "copied" = true) (k_copied : PySem.W.keepIn K (.ref f_copied) = true)
    {f_greatest_divisor : Addr} {od_greatest_divisor an_greatest_divisor : Option Addr} {sl_greatest_divisor : Array (Option Value)} {oc_greatest_divisor kV_greatest_divisor dc_greatest_divisor pm_greatest_divisor cd_greatest_divisor ct_greatest_divisor : Value}
    (p_greatest_divisor : PySem.W.nsIn K mainGlobals "greatest_divisor" = some (some (.ref f_greatest_divisor))) (l_greatest_divisor : K.lookup f_greatest_divisor = some ⟨oc_greatest_divisor, od_greatest_divisor, .func (PySem.W.fnOf "greatest_divisor" "greatest_divisor" (defArgs s_greatest_divisor) (defBody s_greatest_divisor) (defScope s_greatest_divisor) .none kV_greatest_divisor dc_greatest_divisor pm_greatest_divisor an_greatest_divisor cd_greatest_divisor ct_greatest_divisor), sl_greatest_divisor⟩) (c_greatest_divisor : PySem.W.codeIn K cd_greatest_divisor "greatest_divisor" = true) (k_greatest_divisor : PySem.W.keepIn K (.ref f_greatest_divisor) = true)
    {f_is_ratio : Addr} {od_is_ratio an_is_ratio : Option Addr} {sl_is_ratio : Array (Option Value)} {oc_is_ratio kV_is_ratio dc_is_ratio pm_is_ratio cd_is_ratio ct_is_ratio : Value}
    (p_is_ratio : PySem.W.nsIn K mainGlobals "is_ratio" = some (some (.ref f_is_ratio))) (l_is_ratio : K.lookup f_is_ratio = some ⟨oc_is_ratio, od_is_ratio, .func (PySem.W.fnOf "is_ratio" "is_ratio" (defArgs s_is_ratio) (defBody s_is_ratio) (defScope s_is_ratio) .none kV_is_ratio dc_is_ratio pm_is_ratio an_is_ratio cd_is_ratio ct_is_ratio), sl_is_ratio⟩) (c_is_ratio : PySem.W.codeIn K cd_is_ratio "is_ratio" = true) (k_is_ratio : PySem.W.keepIn K (.ref f_is_ratio) = true)
    {f_is_ratio_pair : Addr} {od_is_ratio_pair an_is_ratio_pair : Option Addr} {sl_is_ratio_pair : Array (Option Value)} {oc_is_ratio_pair kV_is_ratio_pair dc_is_ratio_pair pm_is_ratio_pair cd_is_ratio_pair ct_is_ratio_pair : Value}
    (p_is_ratio_pair : PySem.W.nsIn K mainGlobals "is_ratio_pair" = some (some (.ref f_is_ratio_pair))) (l_is_ratio_pair : K.lookup f_is_ratio_pair = some ⟨oc_is_ratio_pair, od_is_ratio_pair, .func (PySem.W.fnOf "is_ratio_pair" "is_ratio_pair" (defArgs s_is_ratio_pair) (defBody s_is_ratio_pair) (defScope s_is_ratio_pair) .none kV_is_ratio_pair dc_is_ratio_pair pm_is_ratio_pair an_is_ratio_pair cd_is_ratio_pair ct_is_ratio_pair), sl_is_ratio_pair⟩) (c_is_ratio_pair : PySem.W.codeIn K cd_is_ratio_pair "is_ratio_pair" = true) (k_is_ratio_pair : PySem.W.keepIn K (.ref f_is_ratio_pair) = true)
    {f_ratio : Addr} {od_ratio an_ratio : Option Addr} {sl_ratio : Array (Option Value)} {oc_ratio kV_ratio dc_ratio pm_ratio cd_ratio ct_ratio : Value}
    (p_ratio : PySem.W.nsIn K mainGlobals "ratio" = some (some (.ref f_ratio))) (l_ratio : K.lookup f_ratio = some ⟨oc_ratio, od_ratio, .func (PySem.W.fnOf "ratio" "ratio" (defArgs s_ratio) (defBody s_ratio) (defScope s_ratio) .none kV_ratio dc_ratio pm_ratio an_ratio cd_ratio ct_ratio), sl_ratio⟩) (c_ratio : PySem.W.codeIn K cd_ratio "ratio" = true) (k_ratio : PySem.W.keepIn K (.ref f_ratio) = true)
    {f_plus : Addr} {od_plus an_plus : Option Addr} {sl_plus : Array (Option Value)} {oc_plus kV_plus dc_plus pm_plus cd_plus ct_plus : Value}
    (p_plus : PySem.W.nsIn K mainGlobals "plus" = some (some (.ref f_plus))) (l_plus : K.lookup f_plus = some ⟨oc_plus, od_plus, .func (PySem.W.fnOf "plus" "plus" (defArgs s_plus) (defBody s_plus) (defScope s_plus) .none kV_plus dc_plus pm_plus an_plus cd_plus ct_plus), sl_plus⟩) (c_plus : PySem.W.codeIn K cd_plus "plus" = true) (k_plus : PySem.W.keepIn K (.ref f_plus) = true)
    {f_minus : Addr} {od_minus an_minus : Option Addr} {sl_minus : Array (Option Value)} {oc_minus kV_minus dc_minus pm_minus cd_minus ct_minus : Value}
    (p_minus : PySem.W.nsIn K mainGlobals "minus" = some (some (.ref f_minus))) (l_minus : K.lookup f_minus = some ⟨oc_minus, od_minus, .func (PySem.W.fnOf "minus" "minus" (defArgs s_minus) (defBody s_minus) (defScope s_minus) .none kV_minus dc_minus pm_minus an_minus cd_minus ct_minus), sl_minus⟩) (c_minus : PySem.W.codeIn K cd_minus "minus" = true) (k_minus : PySem.W.keepIn K (.ref f_minus) = true)
    {f_times : Addr} {od_times an_times : Option Addr} {sl_times : Array (Option Value)} {oc_times kV_times dc_times pm_times cd_times ct_times : Value}
    (p_times : PySem.W.nsIn K mainGlobals "times" = some (some (.ref f_times))) (l_times : K.lookup f_times = some ⟨oc_times, od_times, .func (PySem.W.fnOf "times" "times" (defArgs s_times) (defBody s_times) (defScope s_times) .none kV_times dc_times pm_times an_times cd_times ct_times), sl_times⟩) (c_times : PySem.W.codeIn K cd_times "times" = true) (k_times : PySem.W.keepIn K (.ref f_times) = true)
    {f_over : Addr} {od_over an_over : Option Addr} {sl_over : Array (Option Value)} {oc_over kV_over dc_over pm_over cd_over ct_over : Value}
    (p_over : PySem.W.nsIn K mainGlobals "over" = some (some (.ref f_over))) (l_over : K.lookup f_over = some ⟨oc_over, od_over, .func (PySem.W.fnOf "over" "over" (defArgs s_over) (defBody s_over) (defScope s_over) .none kV_over dc_over pm_over an_over cd_over ct_over), sl_over⟩) (c_over : PySem.W.codeIn K cd_over "over" = true) (k_over : PySem.W.keepIn K (.ref f_over) = true)
    {f_is_less : Addr} {od_is_less an_is_less : Option Addr} {sl_is_less : Array (Option Value)} {oc_is_less kV_is_less dc_is_less pm_is_less cd_is_less ct_is_less : Value}
    (p_is_less : PySem.W.nsIn K mainGlobals "is_less" = some (some (.ref f_is_less))) (l_is_less : K.lookup f_is_less = some ⟨oc_is_less, od_is_less, .func (PySem.W.fnOf "is_less" "is_less" (defArgs s_is_less) (defBody s_is_less) (defScope s_is_less) .none kV_is_less dc_is_less pm_is_less an_is_less cd_is_less ct_is_less), sl_is_less⟩) (c_is_less : PySem.W.codeIn K cd_is_less "is_less" = true) (k_is_less : PySem.W.keepIn K (.ref f_is_less) = true)
    {f_slope_between : Addr} {od_slope_between an_slope_between : Option Addr} {sl_slope_between : Array (Option Value)} {oc_slope_between kV_slope_between dc_slope_between pm_slope_between cd_slope_between ct_slope_between : Value}
    (p_slope_between : PySem.W.nsIn K mainGlobals "slope_between" = some (some (.ref f_slope_between))) (l_slope_between : K.lookup f_slope_between = some ⟨oc_slope_between, od_slope_between, .func (PySem.W.fnOf "slope_between" "slope_between" (defArgs s_slope_between) (defBody s_slope_between) (defScope s_slope_between) .none kV_slope_between dc_slope_between pm_slope_between an_slope_between cd_slope_between ct_slope_between), sl_slope_between⟩) (c_slope_between : PySem.W.codeIn K cd_slope_between "slope_between" = true) (k_slope_between : PySem.W.keepIn K (.ref f_slope_between) = true)
    {f_is_row_behind : Addr} {od_is_row_behind an_is_row_behind : Option Addr} {sl_is_row_behind : Array (Option Value)} {oc_is_row_behind kV_is_row_behind dc_is_row_behind pm_is_row_behind cd_is_row_behind ct_is_row_behind : Value}
    (p_is_row_behind : PySem.W.nsIn K mainGlobals "is_row_behind" = some (some (.ref f_is_row_behind))) (l_is_row_behind : K.lookup f_is_row_behind = some ⟨oc_is_row_behind, od_is_row_behind, .func (PySem.W.fnOf "is_row_behind" "is_row_behind" (defArgs s_is_row_behind) (defBody s_is_row_behind) (defScope s_is_row_behind) .none kV_is_row_behind dc_is_row_behind pm_is_row_behind an_is_row_behind cd_is_row_behind ct_is_row_behind), sl_is_row_behind⟩) (c_is_row_behind : PySem.W.codeIn K cd_is_row_behind "is_row_behind" = true) (k_is_row_behind : PySem.W.keepIn K (.ref f_is_row_behind) = true)
    {f_is_rule_shaped : Addr} {od_is_rule_shaped an_is_rule_shaped : Option Addr} {sl_is_rule_shaped : Array (Option Value)} {oc_is_rule_shaped kV_is_rule_shaped dc_is_rule_shaped pm_is_rule_shaped cd_is_rule_shaped ct_is_rule_shaped : Value}
    (p_is_rule_shaped : PySem.W.nsIn K mainGlobals "is_rule_shaped" = some (some (.ref f_is_rule_shaped))) (l_is_rule_shaped : K.lookup f_is_rule_shaped = some ⟨oc_is_rule_shaped, od_is_rule_shaped, .func (PySem.W.fnOf "is_rule_shaped" "is_rule_shaped" (defArgs s_is_rule_shaped) (defBody s_is_rule_shaped) (defScope s_is_rule_shaped) .none kV_is_rule_shaped dc_is_rule_shaped pm_is_rule_shaped an_is_rule_shaped cd_is_rule_shaped ct_is_rule_shaped), sl_is_rule_shaped⟩) (c_is_rule_shaped : PySem.W.codeIn K cd_is_rule_shaped "is_rule_shaped" = true) (k_is_rule_shaped : PySem.W.keepIn K (.ref f_is_rule_shaped) = true)
    {f_right_rule : Addr} {od_right_rule an_right_rule : Option Addr} {sl_right_rule : Array (Option Value)} {oc_right_rule kV_right_rule dc_right_rule pm_right_rule cd_right_rule ct_right_rule : Value}
    (p_right_rule : PySem.W.nsIn K mainGlobals "right_rule" = some (some (.ref f_right_rule))) (l_right_rule : K.lookup f_right_rule = some ⟨oc_right_rule, od_right_rule, .func (PySem.W.fnOf "right_rule" "right_rule" (defArgs s_right_rule) (defBody s_right_rule) (defScope s_right_rule) .none kV_right_rule dc_right_rule pm_right_rule an_right_rule cd_right_rule ct_right_rule), sl_right_rule⟩) (c_right_rule : PySem.W.codeIn K cd_right_rule "right_rule" = true) (k_right_rule : PySem.W.keepIn K (.ref f_right_rule) = true)
    {f_law_tape : Addr} {od_law_tape an_law_tape : Option Addr} {sl_law_tape : Array (Option Value)} {oc_law_tape kV_law_tape dc_law_tape pm_law_tape cd_law_tape ct_law_tape : Value}
    (p_law_tape : PySem.W.nsIn K mainGlobals "_law_tape" = some (some (.ref f_law_tape))) (l_law_tape : K.lookup f_law_tape = some ⟨oc_law_tape, od_law_tape, .func (PySem.W.fnOf "_law_tape" "_law_tape" (defArgs s_law_tape) (defBody s_law_tape) (defScope s_law_tape) .none kV_law_tape dc_law_tape pm_law_tape an_law_tape cd_law_tape ct_law_tape), sl_law_tape⟩) (c_law_tape : PySem.W.codeIn K cd_law_tape "_law_tape" = true) (k_law_tape : PySem.W.keepIn K (.ref f_law_tape) = true)
    {f_law_draw : Addr} {od_law_draw an_law_draw : Option Addr} {sl_law_draw : Array (Option Value)} {oc_law_draw kV_law_draw dc_law_draw pm_law_draw cd_law_draw ct_law_draw : Value}
    (p_law_draw : PySem.W.nsIn K mainGlobals "_law_draw" = some (some (.ref f_law_draw))) (l_law_draw : K.lookup f_law_draw = some ⟨oc_law_draw, od_law_draw, .func (PySem.W.fnOf "_law_draw" "_law_draw" (defArgs s_law_draw) (defBody s_law_draw) (defScope s_law_draw) .none kV_law_draw dc_law_draw pm_law_draw an_law_draw cd_law_draw ct_law_draw), sl_law_draw⟩) (c_law_draw : PySem.W.codeIn K cd_law_draw "_law_draw" = true) (k_law_draw : PySem.W.keepIn K (.ref f_law_draw) = true)
    {f_law_gcd : Addr} {od_law_gcd an_law_gcd : Option Addr} {sl_law_gcd : Array (Option Value)} {oc_law_gcd kV_law_gcd dc_law_gcd pm_law_gcd cd_law_gcd ct_law_gcd : Value}
    (p_law_gcd : PySem.W.nsIn K mainGlobals "_law_gcd" = some (some (.ref f_law_gcd))) (l_law_gcd : K.lookup f_law_gcd = some ⟨oc_law_gcd, od_law_gcd, .func (PySem.W.fnOf "_law_gcd" "_law_gcd" (defArgs s_law_gcd) (defBody s_law_gcd) (defScope s_law_gcd) .none kV_law_gcd dc_law_gcd pm_law_gcd an_law_gcd cd_law_gcd ct_law_gcd), sl_law_gcd⟩) (c_law_gcd : PySem.W.codeIn K cd_law_gcd "_law_gcd" = true) (k_law_gcd : PySem.W.keepIn K (.ref f_law_gcd) = true)
    {f_law_ratio : Addr} {od_law_ratio an_law_ratio : Option Addr} {sl_law_ratio : Array (Option Value)} {oc_law_ratio kV_law_ratio dc_law_ratio pm_law_ratio cd_law_ratio ct_law_ratio : Value}
    (p_law_ratio : PySem.W.nsIn K mainGlobals "_law_ratio" = some (some (.ref f_law_ratio))) (l_law_ratio : K.lookup f_law_ratio = some ⟨oc_law_ratio, od_law_ratio, .func (PySem.W.fnOf "_law_ratio" "_law_ratio" (defArgs s_law_ratio) (defBody s_law_ratio) (defScope s_law_ratio) .none kV_law_ratio dc_law_ratio pm_law_ratio an_law_ratio cd_law_ratio ct_law_ratio), sl_law_ratio⟩) (c_law_ratio : PySem.W.codeIn K cd_law_ratio "_law_ratio" = true) (k_law_ratio : PySem.W.keepIn K (.ref f_law_ratio) = true)
    {f_law_plus : Addr} {od_law_plus an_law_plus : Option Addr} {sl_law_plus : Array (Option Value)} {oc_law_plus kV_law_plus dc_law_plus pm_law_plus cd_law_plus ct_law_plus : Value}
    (p_law_plus : PySem.W.nsIn K mainGlobals "_law_plus" = some (some (.ref f_law_plus))) (l_law_plus : K.lookup f_law_plus = some ⟨oc_law_plus, od_law_plus, .func (PySem.W.fnOf "_law_plus" "_law_plus" (defArgs s_law_plus) (defBody s_law_plus) (defScope s_law_plus) .none kV_law_plus dc_law_plus pm_law_plus an_law_plus cd_law_plus ct_law_plus), sl_law_plus⟩) (c_law_plus : PySem.W.codeIn K cd_law_plus "_law_plus" = true) (k_law_plus : PySem.W.keepIn K (.ref f_law_plus) = true)
    {f_law_minus : Addr} {od_law_minus an_law_minus : Option Addr} {sl_law_minus : Array (Option Value)} {oc_law_minus kV_law_minus dc_law_minus pm_law_minus cd_law_minus ct_law_minus : Value}
    (p_law_minus : PySem.W.nsIn K mainGlobals "_law_minus" = some (some (.ref f_law_minus))) (l_law_minus : K.lookup f_law_minus = some ⟨oc_law_minus, od_law_minus, .func (PySem.W.fnOf "_law_minus" "_law_minus" (defArgs s_law_minus) (defBody s_law_minus) (defScope s_law_minus) .none kV_law_minus dc_law_minus pm_law_minus an_law_minus cd_law_minus ct_law_minus), sl_law_minus⟩) (c_law_minus : PySem.W.codeIn K cd_law_minus "_law_minus" = true) (k_law_minus : PySem.W.keepIn K (.ref f_law_minus) = true)
    {f_law_times : Addr} {od_law_times an_law_times : Option Addr} {sl_law_times : Array (Option Value)} {oc_law_times kV_law_times dc_law_times pm_law_times cd_law_times ct_law_times : Value}
    (p_law_times : PySem.W.nsIn K mainGlobals "_law_times" = some (some (.ref f_law_times))) (l_law_times : K.lookup f_law_times = some ⟨oc_law_times, od_law_times, .func (PySem.W.fnOf "_law_times" "_law_times" (defArgs s_law_times) (defBody s_law_times) (defScope s_law_times) .none kV_law_times dc_law_times pm_law_times an_law_times cd_law_times ct_law_times), sl_law_times⟩) (c_law_times : PySem.W.codeIn K cd_law_times "_law_times" = true) (k_law_times : PySem.W.keepIn K (.ref f_law_times) = true)
    {f_law_less : Addr} {od_law_less an_law_less : Option Addr} {sl_law_less : Array (Option Value)} {oc_law_less kV_law_less dc_law_less pm_law_less cd_law_less ct_law_less : Value}
    (p_law_less : PySem.W.nsIn K mainGlobals "_law_less" = some (some (.ref f_law_less))) (l_law_less : K.lookup f_law_less = some ⟨oc_law_less, od_law_less, .func (PySem.W.fnOf "_law_less" "_law_less" (defArgs s_law_less) (defBody s_law_less) (defScope s_law_less) .none kV_law_less dc_law_less pm_law_less an_law_less cd_law_less ct_law_less), sl_law_less⟩) (c_law_less : PySem.W.codeIn K cd_law_less "_law_less" = true) (k_law_less : PySem.W.keepIn K (.ref f_law_less) = true)
    {f_law_part : Addr} {od_law_part an_law_part : Option Addr} {sl_law_part : Array (Option Value)} {oc_law_part kV_law_part dc_law_part pm_law_part cd_law_part ct_law_part : Value}
    (p_law_part : PySem.W.nsIn K mainGlobals "_law_part" = some (some (.ref f_law_part))) (l_law_part : K.lookup f_law_part = some ⟨oc_law_part, od_law_part, .func (PySem.W.fnOf "_law_part" "_law_part" (defArgs s_law_part) (defBody s_law_part) (defScope s_law_part) .none kV_law_part dc_law_part pm_law_part an_law_part cd_law_part ct_law_part), sl_law_part⟩) (c_law_part : PySem.W.codeIn K cd_law_part "_law_part" = true) (k_law_part : PySem.W.keepIn K (.ref f_law_part) = true)
    {f_law_table : Addr} {od_law_table an_law_table : Option Addr} {sl_law_table : Array (Option Value)} {oc_law_table kV_law_table dc_law_table pm_law_table cd_law_table ct_law_table : Value}
    (p_law_table : PySem.W.nsIn K mainGlobals "_law_table" = some (some (.ref f_law_table))) (l_law_table : K.lookup f_law_table = some ⟨oc_law_table, od_law_table, .func (PySem.W.fnOf "_law_table" "_law_table" (defArgs s_law_table) (defBody s_law_table) (defScope s_law_table) .none kV_law_table dc_law_table pm_law_table an_law_table cd_law_table ct_law_table), sl_law_table⟩) (c_law_table : PySem.W.codeIn K cd_law_table "_law_table" = true) (k_law_table : PySem.W.keepIn K (.ref f_law_table) = true)
    {f_law_rule : Addr} {od_law_rule an_law_rule : Option Addr} {sl_law_rule : Array (Option Value)} {oc_law_rule kV_law_rule dc_law_rule pm_law_rule cd_law_rule ct_law_rule : Value}
    (p_law_rule : PySem.W.nsIn K mainGlobals "_law_rule" = some (some (.ref f_law_rule))) (l_law_rule : K.lookup f_law_rule = some ⟨oc_law_rule, od_law_rule, .func (PySem.W.fnOf "_law_rule" "_law_rule" (defArgs s_law_rule) (defBody s_law_rule) (defScope s_law_rule) .none kV_law_rule dc_law_rule pm_law_rule an_law_rule cd_law_rule ct_law_rule), sl_law_rule⟩) (c_law_rule : PySem.W.codeIn K cd_law_rule "_law_rule" = true) (k_law_rule : PySem.W.keepIn K (.ref f_law_rule) = true)
    {f_law_whole : Addr} {od_law_whole an_law_whole : Option Addr} {sl_law_whole : Array (Option Value)} {oc_law_whole kV_law_whole dc_law_whole pm_law_whole cd_law_whole ct_law_whole : Value}
    (p_law_whole : PySem.W.nsIn K mainGlobals "_law_whole" = some (some (.ref f_law_whole))) (l_law_whole : K.lookup f_law_whole = some ⟨oc_law_whole, od_law_whole, .func (PySem.W.fnOf "_law_whole" "_law_whole" (defArgs s_law_whole) (defBody s_law_whole) (defScope s_law_whole) .none kV_law_whole dc_law_whole pm_law_whole an_law_whole cd_law_whole ct_law_whole), sl_law_whole⟩) (c_law_whole : PySem.W.codeIn K cd_law_whole "_law_whole" = true) (k_law_whole : PySem.W.keepIn K (.ref f_law_whole) = true)
    {f_law_is_ratio : Addr} {od_law_is_ratio an_law_is_ratio : Option Addr} {sl_law_is_ratio : Array (Option Value)} {oc_law_is_ratio kV_law_is_ratio dc_law_is_ratio pm_law_is_ratio cd_law_is_ratio ct_law_is_ratio : Value}
    (p_law_is_ratio : PySem.W.nsIn K mainGlobals "_law_is_ratio" = some (some (.ref f_law_is_ratio))) (l_law_is_ratio : K.lookup f_law_is_ratio = some ⟨oc_law_is_ratio, od_law_is_ratio, .func (PySem.W.fnOf "_law_is_ratio" "_law_is_ratio" (defArgs s_law_is_ratio) (defBody s_law_is_ratio) (defScope s_law_is_ratio) .none kV_law_is_ratio dc_law_is_ratio pm_law_is_ratio an_law_is_ratio cd_law_is_ratio ct_law_is_ratio), sl_law_is_ratio⟩) (c_law_is_ratio : PySem.W.codeIn K cd_law_is_ratio "_law_is_ratio" = true) (k_law_is_ratio : PySem.W.keepIn K (.ref f_law_is_ratio) = true)
    {f_law_is_pair : Addr} {od_law_is_pair an_law_is_pair : Option Addr} {sl_law_is_pair : Array (Option Value)} {oc_law_is_pair kV_law_is_pair dc_law_is_pair pm_law_is_pair cd_law_is_pair ct_law_is_pair : Value}
    (p_law_is_pair : PySem.W.nsIn K mainGlobals "_law_is_pair" = some (some (.ref f_law_is_pair))) (l_law_is_pair : K.lookup f_law_is_pair = some ⟨oc_law_is_pair, od_law_is_pair, .func (PySem.W.fnOf "_law_is_pair" "_law_is_pair" (defArgs s_law_is_pair) (defBody s_law_is_pair) (defScope s_law_is_pair) .none kV_law_is_pair dc_law_is_pair pm_law_is_pair an_law_is_pair cd_law_is_pair ct_law_is_pair), sl_law_is_pair⟩) (c_law_is_pair : PySem.W.codeIn K cd_law_is_pair "_law_is_pair" = true) (k_law_is_pair : PySem.W.keepIn K (.ref f_law_is_pair) = true)
    {f_law_row_right : Addr} {od_law_row_right an_law_row_right : Option Addr} {sl_law_row_right : Array (Option Value)} {oc_law_row_right kV_law_row_right dc_law_row_right pm_law_row_right cd_law_row_right ct_law_row_right : Value}
    (p_law_row_right : PySem.W.nsIn K mainGlobals "_law_row_right" = some (some (.ref f_law_row_right))) (l_law_row_right : K.lookup f_law_row_right = some ⟨oc_law_row_right, od_law_row_right, .func (PySem.W.fnOf "_law_row_right" "_law_row_right" (defArgs s_law_row_right) (defBody s_law_row_right) (defScope s_law_row_right) .none kV_law_row_right dc_law_row_right pm_law_row_right an_law_row_right cd_law_row_right ct_law_row_right), sl_law_row_right⟩) (c_law_row_right : PySem.W.codeIn K cd_law_row_right "_law_row_right" = true) (k_law_row_right : PySem.W.keepIn K (.ref f_law_row_right) = true)
    {f_law_due : Addr} {od_law_due an_law_due : Option Addr} {sl_law_due : Array (Option Value)} {oc_law_due kV_law_due dc_law_due pm_law_due cd_law_due ct_law_due : Value}
    (p_law_due : PySem.W.nsIn K mainGlobals "_law_due" = some (some (.ref f_law_due))) (l_law_due : K.lookup f_law_due = some ⟨oc_law_due, od_law_due, .func (PySem.W.fnOf "_law_due" "_law_due" (defArgs s_law_due) (defBody s_law_due) (defScope s_law_due) .none kV_law_due dc_law_due pm_law_due an_law_due cd_law_due ct_law_due), sl_law_due⟩) (c_law_due : PySem.W.codeIn K cd_law_due "_law_due" = true) (k_law_due : PySem.W.keepIn K (.ref f_law_due) = true)
    {f_law_bent_row : Addr} {od_law_bent_row an_law_bent_row : Option Addr} {sl_law_bent_row : Array (Option Value)} {oc_law_bent_row kV_law_bent_row dc_law_bent_row pm_law_bent_row cd_law_bent_row ct_law_bent_row : Value}
    (p_law_bent_row : PySem.W.nsIn K mainGlobals "_law_bent_row" = some (some (.ref f_law_bent_row))) (l_law_bent_row : K.lookup f_law_bent_row = some ⟨oc_law_bent_row, od_law_bent_row, .func (PySem.W.fnOf "_law_bent_row" "_law_bent_row" (defArgs s_law_bent_row) (defBody s_law_bent_row) (defScope s_law_bent_row) .none kV_law_bent_row dc_law_bent_row pm_law_bent_row an_law_bent_row cd_law_bent_row ct_law_bent_row), sl_law_bent_row⟩) (c_law_bent_row : PySem.W.codeIn K cd_law_bent_row "_law_bent_row" = true) (k_law_bent_row : PySem.W.keepIn K (.ref f_law_bent_row) = true)
    {f_law_bent : Addr} {od_law_bent an_law_bent : Option Addr} {sl_law_bent : Array (Option Value)} {oc_law_bent kV_law_bent dc_law_bent pm_law_bent cd_law_bent ct_law_bent : Value}
    (p_law_bent : PySem.W.nsIn K mainGlobals "_law_bent" = some (some (.ref f_law_bent))) (l_law_bent : K.lookup f_law_bent = some ⟨oc_law_bent, od_law_bent, .func (PySem.W.fnOf "_law_bent" "_law_bent" (defArgs s_law_bent) (defBody s_law_bent) (defScope s_law_bent) .none kV_law_bent dc_law_bent pm_law_bent an_law_bent cd_law_bent ct_law_bent), sl_law_bent⟩) (c_law_bent : PySem.W.codeIn K cd_law_bent "_law_bent" = true) (k_law_bent : PySem.W.keepIn K (.ref f_law_bent) = true)
    {f_law_told : Addr} {od_law_told an_law_told : Option Addr} {sl_law_told : Array (Option Value)} {oc_law_told kV_law_told dc_law_told pm_law_told cd_law_told ct_law_told : Value}
    (p_law_told : PySem.W.nsIn K mainGlobals "_law_told" = some (some (.ref f_law_told))) (l_law_told : K.lookup f_law_told = some ⟨oc_law_told, od_law_told, .func (PySem.W.fnOf "_law_told" "_law_told" (defArgs s_law_told) (defBody s_law_told) (defScope s_law_told) .none kV_law_told dc_law_told pm_law_told an_law_told cd_law_told ct_law_told), sl_law_told⟩) (c_law_told : PySem.W.codeIn K cd_law_told "_law_told" = true) (k_law_told : PySem.W.keepIn K (.ref f_law_told) = true)
    {f_law : Addr} {od_law an_law : Option Addr} {sl_law : Array (Option Value)} {oc_law kV_law dc_law pm_law cd_law ct_law : Value}
    (p_law : PySem.W.nsIn K mainGlobals "law" = some (some (.ref f_law))) (l_law : K.lookup f_law = some ⟨oc_law, od_law, .func (PySem.W.fnOf "law" "law" (defArgs s_law) (defBody s_law) (defScope s_law) .none kV_law dc_law pm_law an_law cd_law ct_law), sl_law⟩) (c_law : PySem.W.codeIn K cd_law "law" = true) (k_law : PySem.W.keepIn K (.ref f_law) = true)
    {f_NOUGHT : Addr} {od_NOUGHT : Option Addr} {sl_NOUGHT : Array (Option Value)} {tkNOUGHT0 tkNOUGHT1 : Tok} {n_NOUGHT : Nat} (p_NOUGHT : PySem.W.nsIn K mainGlobals "NOUGHT" = some (some (.ref f_NOUGHT))) (l_NOUGHT : K.lookup f_NOUGHT = some ⟨.type "tuple", od_NOUGHT, .seq #[.int (0) tkNOUGHT0, .int (1) tkNOUGHT1] n_NOUGHT, sl_NOUGHT⟩)
    {tkPOWER : Tok} (p_POWER : PySem.W.nsIn K mainGlobals "POWER" = some (some (.str "power" tkPOWER)))
    {tkTABLE : Tok} (p_TABLE : PySem.W.nsIn K mainGlobals "TABLE" = some (some (.str "table" tkTABLE)))
    {tkLEAST_POWER : Tok} (p_LEAST_POWER : PySem.W.nsIn K mainGlobals "LEAST_POWER" = some (some (.int (2) tkLEAST_POWER)))
    {tkMOST_POWER : Tok} (p_MOST_POWER : PySem.W.nsIn K mainGlobals "MOST_POWER" = some (some (.int (4) tkMOST_POWER)))
    {tkLEAST_ROWS : Tok} (p_LEAST_ROWS : PySem.W.nsIn K mainGlobals "LEAST_ROWS" = some (some (.int (2) tkLEAST_ROWS)))
    {tkMOST_ROWS : Tok} (p_MOST_ROWS : PySem.W.nsIn K mainGlobals "MOST_ROWS" = some (some (.int (12) tkMOST_ROWS)))
    {cB NB : Addr} {nmB qB : Str} {bsB : List Value} {hdB : Bool} {snB : List Str} {suB : List Value} {abB : Bool} {coB : Option Bool} {ddB : Option Addr} {j0 j1 j2 j3 j5 : Option Value} {ocB : Value} {odB : Option Addr} {esB : Array DictEntry} {nB : Nat} {slB : Array (Option Value)}
    (pB : PySem.W.nsIn K mainGlobals "PaceError" = some (some (.ref cB))) (lB : K.lookup cB = some (excClassObj nmB qB cB NB bsB [.type "ValueError", .type "Exception", .type "BaseException", .type "object"] hdB snB suB abB coB ddB j0 j1 j2 j3 j5 "ValueError.__new__")) (lnB : K.lookup NB = some ⟨ocB, odB, .dict esB nB, slB⟩) (hsB : strKeysB esB = true) (hnB : (nsFind esB "__init__").isNone = true)
    (cgB : PySem.W.specialIn K (.builtin "object.__class__") "__get__" = some (some (.builtin "getset_descriptor.__get__"))) (ctB : PySem.W.takesIn K (.builtin "object.__class__") = some true)
    {c_NoRule N_NoRule i_NoRule : Addr} {nm_NoRule q_NoRule : Str} {bs_NoRule : List Value} {hd_NoRule : Bool} {sn_NoRule : List Str} {su_NoRule : List Value} {ab_NoRule : Bool} {co_NoRule : Option Bool} {dd_NoRule : Option Addr} {k0_NoRule k1_NoRule k2_NoRule k3_NoRule k5_NoRule : Option Value} {od_NoRule an_NoRule : Option Addr} {sl_NoRule : Array (Option Value)} {oc_NoRule kV_NoRule dc_NoRule pm_NoRule cd_NoRule ct_NoRule : Value}
    (p_NoRule : PySem.W.nsIn K mainGlobals "NoRule" = some (some (.ref c_NoRule))) (lc_NoRule : K.lookup c_NoRule = some (excClassObj nm_NoRule q_NoRule c_NoRule N_NoRule bs_NoRule (.ref cB :: [.type "ValueError", .type "Exception", .type "BaseException", .type "object"]) hd_NoRule sn_NoRule su_NoRule ab_NoRule co_NoRule dd_NoRule k0_NoRule k1_NoRule k2_NoRule k3_NoRule k5_NoRule "ValueError.__new__")) (fi_NoRule : PySem.W.findIn K (.ref c_NoRule) "__init__" = some (some (.ref i_NoRule)))
    (l_NoRule : K.lookup i_NoRule = some ⟨oc_NoRule, od_NoRule, .func (PySem.W.fnOf "__init__" "NoRule.__init__" (defArgs s_NoRule) (defBody s_NoRule) (defScope s_NoRule) .none kV_NoRule dc_NoRule pm_NoRule an_NoRule cd_NoRule ct_NoRule), sl_NoRule⟩) (cd_NoRule_ : PySem.W.codeIn K cd_NoRule "NoRule.__init__" = true) (ki_NoRule : PySem.W.keepIn K (.ref i_NoRule) = true) (ti_NoRule : PySem.W.typeIn K (.ref i_NoRule) = some (.type "function")) (kc_NoRule : PySem.W.keepIn K (.ref c_NoRule) = true)
    (hh_NoRule : PySem.W.hasDictIn K c_NoRule = true) (sa_NoRule : PySem.W.findIn K (.ref c_NoRule) "__setattr__" = some (some (.builtin "object.__setattr__")))
    (na_NoRule_number : PySem.W.findIn K (.ref c_NoRule) "number" = some none) (ga_NoRule : PySem.W.findIn K (.ref c_NoRule) "__getattribute__" = some (some (.builtin "BaseException.__getattribute__"))) (gn_NoRule : PySem.W.findIn K (.ref c_NoRule) "__getattr__" = some none) (cl_NoRule : PySem.W.findIn K (.ref c_NoRule) "__class__" = some (some (.builtin "object.__class__")))
    {c_PaceError : Addr} (p_PaceError : PySem.W.nsIn K mainGlobals "PaceError" = some (some (.ref c_PaceError)))
    {c_NoPlan : Addr} (p_NoPlan : PySem.W.nsIn K mainGlobals "NoPlan" = some (some (.ref c_NoPlan)))
    {c_NoSheet : Addr} (p_NoSheet : PySem.W.nsIn K mainGlobals "NoSheet" = some (some (.ref c_NoSheet)))
    {c_NoSpeed : Addr} (p_NoSpeed : PySem.W.nsIn K mainGlobals "NoSpeed" = some (some (.ref c_NoSpeed)))
    (w_x_catch : PySem.W.exmOne K (.ref c_NoRule) (.ref c_PaceError) = some true)
    (w_y_self : PySem.W.kitOne K (.ref c_NoRule) (.ref c_NoRule) = some true)
    (w_y_val : PySem.W.kitOne K (.ref c_NoRule) (.type "ValueError") = some true)
    (w_y_not : PySem.W.kitAny K (.ref c_NoRule) [.ref c_NoPlan, .ref c_NoSheet, .ref c_NoSpeed] = some false)
    (z_ValueError : PySem.W.nsIn K mainGlobals "ValueError" = some none)
    (z_abs : PySem.W.nsIn K mainGlobals "abs" = some none)
    (z_bool : PySem.W.nsIn K mainGlobals "bool" = some none)
    (z_enumerate : PySem.W.nsIn K mainGlobals "enumerate" = some none)
    (z_int : PySem.W.nsIn K mainGlobals "int" = some none)
    (z_isinstance : PySem.W.nsIn K mainGlobals "isinstance" = some none)
    (z_len : PySem.W.nsIn K mainGlobals "len" = some none)
    (z_list : PySem.W.nsIn K mainGlobals "list" = some none)
    (z_range : PySem.W.nsIn K mainGlobals "range" = some none)
    (z_repr : PySem.W.nsIn K mainGlobals "repr" = some none)
    (z_str : PySem.W.nsIn K mainGlobals "str" = some none)
    (z_tuple : PySem.W.nsIn K mainGlobals "tuple" = some none)
    : ∃ fd : FuncData, (∀ (s : Shared) (v : Value), BindsTo s fd ⟨[v], []⟩ [("_law_script", v)]) ∧ ∀ base : Heap, K.In base → base.Ns mainGlobals mg → FnOk l.prog w K mg base CX0 8 fa fd ["_law_script"] (sp_law K) := by
  have e := hfa.symm.trans (PySem.W.mg_of X G p_law)
  cases e
  have F_is_whole := fun_mk (st := s_is_whole) l_is_whole c_is_whole k_is_whole
  have b_is_whole := F_is_whole.binds (ps := ["thing"]) fun _ _ _ _ _ _ us hl => match us, hl with | [_], _ => rfl
  have F_is_tuple_of := fun_mk (st := s_is_tuple_of) l_is_tuple_of c_is_tuple_of k_is_tuple_of
  have b_is_tuple_of := F_is_tuple_of.binds (ps := ["thing", "length"]) fun _ _ _ _ _ _ us hl => match us, hl with | [_, _], _ => rfl
  have F_copied := fun_mk (st := s_copied) l_copied c_copied k_copied
  have b_copied := F_copied.binds (ps := ["thing"]) fun _ _ _ _ _ _ us hl => match us, hl with | [_], _ => rfl
  have F_greatest_divisor := fun_mk (st := s_greatest_divisor) l_greatest_divisor c_greatest_divisor k_greatest_divisor
  have b_greatest_divisor := F_greatest_divisor.binds (ps := ["one", "other"]) fun _ _ _ _ _ _ us hl => match us, hl with | [_, _], _ => rfl
  have F_is_ratio := fun_mk (st := s_is_ratio) l_is_ratio c_is_ratio k_is_ratio
  have b_is_ratio := F_is_ratio.binds (ps := ["thing"]) fun _ _ _ _ _ _ us hl => match us, hl with | [_], _ => rfl
  have F_is_ratio_pair := fun_mk (st := s_is_ratio_pair) l_is_ratio_pair c_is_ratio_pair k_is_ratio_pair
  have b_is_ratio_pair := F_is_ratio_pair.binds (ps := ["thing"]) fun _ _ _ _ _ _ us hl => match us, hl with | [_], _ => rfl
  have F_ratio := fun_mk (st := s_ratio) l_ratio c_ratio k_ratio
  have b_ratio := F_ratio.binds (ps := ["top", "bottom"]) fun _ _ _ _ _ _ us hl => match us, hl with | [_, _], _ => rfl
  have F_plus := fun_mk (st := s_plus) l_plus c_plus k_plus
  have b_plus := F_plus.binds (ps := ["one", "other"]) fun _ _ _ _ _ _ us hl => match us, hl with | [_, _], _ => rfl
  have F_minus := fun_mk (st := s_minus) l_minus c_minus k_minus
  have b_minus := F_minus.binds (ps := ["one", "other"]) fun _ _ _ _ _ _ us hl => match us, hl with | [_, _], _ => rfl
  have F_times := fun_mk (st := s_times) l_times c_times k_times
  have b_times := F_times.binds (ps := ["one", "other"]) fun _ _ _ _ _ _ us hl => match us, hl with | [_, _], _ => rfl
  have F_over := fun_mk (st := s_over) l_over c_over k_over
  have b_over := F_over.binds (ps := ["one", "other"]) fun _ _ _ _ _ _ us hl => match us, hl with | [_, _], _ => rfl
  have F_is_less := fun_mk (st := s_is_less) l_is_less c_is_less k_is_less
  have b_is_less := F_is_less.binds (ps := ["one", "other"]) fun _ _ _ _ _ _ us hl => match us, hl with | [_, _], _ => rfl
  have F_slope_between := fun_mk (st := s_slope_between) l_slope_between c_slope_between k_slope_between
  have b_slope_between := F_slope_between.binds (ps := ["low", "high"]) fun _ _ _ _ _ _ us hl => match us, hl with | [_, _], _ => rfl
  have F_is_row_behind := fun_mk (st := s_is_row_behind) l_is_row_behind c_is_row_behind k_is_row_behind
  have b_is_row_behind := F_is_row_behind.binds (ps := ["rows", "number"]) fun _ _ _ _ _ _ us hl => match us, hl with | [_, _], _ => rfl
  have F_is_rule_shaped := fun_mk (st := s_is_rule_shaped) l_is_rule_shaped c_is_rule_shaped k_is_rule_shaped
  have b_is_rule_shaped := F_is_rule_shaped.binds (ps := ["thing"]) fun _ _ _ _ _ _ us hl => match us, hl with | [_], _ => rfl
  have F_right_rule := fun_mk (st := s_right_rule) l_right_rule c_right_rule k_right_rule
  have b_right_rule := F_right_rule.binds (ps := ["thing"]) fun _ _ _ _ _ _ us hl => match us, hl with | [_], _ => rfl
  have F_law_tape := fun_mk (st := s_law_tape) l_law_tape c_law_tape k_law_tape
  have b_law_tape := F_law_tape.binds (ps := ["_law_script"]) fun _ _ _ _ _ _ us hl => match us, hl with | [_], _ => rfl
  have F_law_draw := fun_mk (st := s_law_draw) l_law_draw c_law_draw k_law_draw
  have b_law_draw := F_law_draw.binds (ps := ["_law_tape_here", "_law_many"]) fun _ _ _ _ _ _ us hl => match us, hl with | [_, _], _ => rfl
  have F_law_gcd := fun_mk (st := s_law_gcd) l_law_gcd c_law_gcd k_law_gcd
  have b_law_gcd := F_law_gcd.binds (ps := ["_law_one", "_law_other"]) fun _ _ _ _ _ _ us hl => match us, hl with | [_, _], _ => rfl
  have F_law_ratio := fun_mk (st := s_law_ratio) l_law_ratio c_law_ratio k_law_ratio
  have b_law_ratio := F_law_ratio.binds (ps := ["_law_top", "_law_bottom"]) fun _ _ _ _ _ _ us hl => match us, hl with | [_, _], _ => rfl
  have F_law_plus := fun_mk (st := s_law_plus) l_law_plus c_law_plus k_law_plus
  have b_law_plus := F_law_plus.binds (ps := ["_law_one", "_law_other"]) fun _ _ _ _ _ _ us hl => match us, hl with | [_, _], _ => rfl
  have F_law_minus := fun_mk (st := s_law_minus) l_law_minus c_law_minus k_law_minus
  have b_law_minus := F_law_minus.binds (ps := ["_law_one", "_law_other"]) fun _ _ _ _ _ _ us hl => match us, hl with | [_, _], _ => rfl
  have F_law_times := fun_mk (st := s_law_times) l_law_times c_law_times k_law_times
  have b_law_times := F_law_times.binds (ps := ["_law_one", "_law_other"]) fun _ _ _ _ _ _ us hl => match us, hl with | [_, _], _ => rfl
  have F_law_less := fun_mk (st := s_law_less) l_law_less c_law_less k_law_less
  have b_law_less := F_law_less.binds (ps := ["_law_one", "_law_other"]) fun _ _ _ _ _ _ us hl => match us, hl with | [_, _], _ => rfl
  have F_law_part := fun_mk (st := s_law_part) l_law_part c_law_part k_law_part
  have b_law_part := F_law_part.binds (ps := ["_law_tape_here"]) fun _ _ _ _ _ _ us hl => match us, hl with | [_], _ => rfl
  have F_law_table := fun_mk (st := s_law_table) l_law_table c_law_table k_law_table
  have b_law_table := F_law_table.binds (ps := ["_law_tape_here"]) fun _ _ _ _ _ _ us hl => match us, hl with | [_], _ => rfl
  have F_law_rule := fun_mk (st := s_law_rule) l_law_rule c_law_rule k_law_rule
  have b_law_rule := F_law_rule.binds (ps := ["_law_tape_here"]) fun _ _ _ _ _ _ us hl => match us, hl with | [_], _ => rfl
  have F_law_whole := fun_mk (st := s_law_whole) l_law_whole c_law_whole k_law_whole
  have b_law_whole := F_law_whole.binds (ps := ["_law_thing"]) fun _ _ _ _ _ _ us hl => match us, hl with | [_], _ => rfl
  have F_law_is_ratio := fun_mk (st := s_law_is_ratio) l_law_is_ratio c_law_is_ratio k_law_is_ratio
  have b_law_is_ratio := F_law_is_ratio.binds (ps := ["_law_thing"]) fun _ _ _ _ _ _ us hl => match us, hl with | [_], _ => rfl
  have F_law_is_pair := fun_mk (st := s_law_is_pair) l_law_is_pair c_law_is_pair k_law_is_pair
  have b_law_is_pair := F_law_is_pair.binds (ps := ["_law_thing"]) fun _ _ _ _ _ _ us hl => match us, hl with | [_], _ => rfl
  have F_law_row_right := fun_mk (st := s_law_row_right) l_law_row_right c_law_row_right k_law_row_right
  have b_law_row_right := F_law_row_right.binds (ps := ["_law_rows", "_law_n"]) fun _ _ _ _ _ _ us hl => match us, hl with | [_, _], _ => rfl
  have F_law_due := fun_mk (st := s_law_due) l_law_due c_law_due k_law_due
  have b_law_due := F_law_due.binds (ps := ["_law_thing"]) fun _ _ _ _ _ _ us hl => match us, hl with | [_], _ => rfl
  have F_law_bent_row := fun_mk (st := s_law_bent_row) l_law_bent_row c_law_bent_row k_law_bent_row
  have b_law_bent_row := F_law_bent_row.binds (ps := ["_law_tape_here", "_law_rows", "_law_at"]) fun _ _ _ _ _ _ us hl => match us, hl with | [_, _, _], _ => rfl
  have F_law_bent := fun_mk (st := s_law_bent) l_law_bent c_law_bent k_law_bent
  have b_law_bent := F_law_bent.binds (ps := ["_law_tape_here", "_law_rule_here"]) fun _ _ _ _ _ _ us hl => match us, hl with | [_, _], _ => rfl
  have F_law_told := fun_mk (st := s_law_told) l_law_told c_law_told k_law_told
  have b_law_told := F_law_told.binds (ps := ["_law_thing"]) fun _ _ _ _ _ _ us hl => match us, hl with | [_], _ => rfl
  have F_law := fun_mk (st := s_law) l_law c_law k_law
  have b_law := F_law.binds (ps := ["_law_script"]) fun _ _ _ _ _ _ us hl => match us, hl with | [_], _ => rfl
  have F_NoRule := fun_mk (st := s_NoRule) l_NoRule cd_NoRule_ ki_NoRule
  have b_NoRule := F_NoRule.binds (ps := ["self", "number"]) fun _ _ _ _ _ _ us hl => match us, hl with | [_, _], _ => rfl
  have T : Txt K mg ⟨f_is_whole, PySem.W.fnOf "is_whole" "is_whole" (defArgs s_is_whole) (defBody s_is_whole) (defScope s_is_whole) .none kV_is_whole dc_is_whole pm_is_whole an_is_whole cd_is_whole ct_is_whole, f_is_tuple_of, PySem.W.fnOf "is_tuple_of" "is_tuple_of" (defArgs s_is_tuple_of) (defBody s_is_tuple_of) (defScope s_is_tuple_of) .none kV_is_tuple_of dc_is_tuple_of pm_is_tuple_of an_is_tuple_of cd_is_tuple_of ct_is_tuple_of, f_copied, PySem.W.fnOf "copied" "copied" (defArgs s_copied) (defBody s_copied) (defScope s_copied) .none kV_copied dc_copied pm_copied an_copied cd_copied ct_copied, f_greatest_divisor, PySem.W.fnOf "greatest_divisor" "greatest_divisor" (defArgs s_greatest_divisor) (defBody s_greatest_divisor) (defScope s_greatest_divisor) .none kV_greatest_divisor dc_greatest_divisor pm_greatest_divisor an_greatest_divisor cd_greatest_divisor ct_greatest_divisor, f_is_ratio, PySem.W.fnOf "is_ratio" "is_ratio" (defArgs s_is_ratio) (defBody s_is_ratio) (defScope s_is_ratio) .none kV_is_ratio dc_is_ratio pm_is_ratio an_is_ratio cd_is_ratio ct_is_ratio, f_is_ratio_pair, PySem.W.fnOf "is_ratio_pair" "is_ratio_pair" (defArgs s_is_ratio_pair) (defBody s_is_ratio_pair) (defScope s_is_ratio_pair) .none kV_is_ratio_pair dc_is_ratio_pair pm_is_ratio_pair an_is_ratio_pair cd_is_ratio_pair ct_is_ratio_pair, f_ratio, PySem.W.fnOf "ratio" "ratio" (defArgs s_ratio) (defBody s_ratio) (defScope s_ratio) .none kV_ratio dc_ratio pm_ratio an_ratio cd_ratio ct_ratio, f_plus, PySem.W.fnOf "plus" "plus" (defArgs s_plus) (defBody s_plus) (defScope s_plus) .none kV_plus dc_plus pm_plus an_plus cd_plus ct_plus, f_minus, PySem.W.fnOf "minus" "minus" (defArgs s_minus) (defBody s_minus) (defScope s_minus) .none kV_minus dc_minus pm_minus an_minus cd_minus ct_minus, f_times, PySem.W.fnOf "times" "times" (defArgs s_times) (defBody s_times) (defScope s_times) .none kV_times dc_times pm_times an_times cd_times ct_times, f_over, PySem.W.fnOf "over" "over" (defArgs s_over) (defBody s_over) (defScope s_over) .none kV_over dc_over pm_over an_over cd_over ct_over, f_is_less, PySem.W.fnOf "is_less" "is_less" (defArgs s_is_less) (defBody s_is_less) (defScope s_is_less) .none kV_is_less dc_is_less pm_is_less an_is_less cd_is_less ct_is_less, f_slope_between, PySem.W.fnOf "slope_between" "slope_between" (defArgs s_slope_between) (defBody s_slope_between) (defScope s_slope_between) .none kV_slope_between dc_slope_between pm_slope_between an_slope_between cd_slope_between ct_slope_between, f_is_row_behind, PySem.W.fnOf "is_row_behind" "is_row_behind" (defArgs s_is_row_behind) (defBody s_is_row_behind) (defScope s_is_row_behind) .none kV_is_row_behind dc_is_row_behind pm_is_row_behind an_is_row_behind cd_is_row_behind ct_is_row_behind, f_is_rule_shaped, PySem.W.fnOf "is_rule_shaped" "is_rule_shaped" (defArgs s_is_rule_shaped) (defBody s_is_rule_shaped) (defScope s_is_rule_shaped) .none kV_is_rule_shaped dc_is_rule_shaped pm_is_rule_shaped an_is_rule_shaped cd_is_rule_shaped ct_is_rule_shaped, f_right_rule, PySem.W.fnOf "right_rule" "right_rule" (defArgs s_right_rule) (defBody s_right_rule) (defScope s_right_rule) .none kV_right_rule dc_right_rule pm_right_rule an_right_rule cd_right_rule ct_right_rule, f_law_tape, PySem.W.fnOf "_law_tape" "_law_tape" (defArgs s_law_tape) (defBody s_law_tape) (defScope s_law_tape) .none kV_law_tape dc_law_tape pm_law_tape an_law_tape cd_law_tape ct_law_tape, f_law_draw, PySem.W.fnOf "_law_draw" "_law_draw" (defArgs s_law_draw) (defBody s_law_draw) (defScope s_law_draw) .none kV_law_draw dc_law_draw pm_law_draw an_law_draw cd_law_draw ct_law_draw, f_law_gcd, PySem.W.fnOf "_law_gcd" "_law_gcd" (defArgs s_law_gcd) (defBody s_law_gcd) (defScope s_law_gcd) .none kV_law_gcd dc_law_gcd pm_law_gcd an_law_gcd cd_law_gcd ct_law_gcd, f_law_ratio, PySem.W.fnOf "_law_ratio" "_law_ratio" (defArgs s_law_ratio) (defBody s_law_ratio) (defScope s_law_ratio) .none kV_law_ratio dc_law_ratio pm_law_ratio an_law_ratio cd_law_ratio ct_law_ratio, f_law_plus, PySem.W.fnOf "_law_plus" "_law_plus" (defArgs s_law_plus) (defBody s_law_plus) (defScope s_law_plus) .none kV_law_plus dc_law_plus pm_law_plus an_law_plus cd_law_plus ct_law_plus, f_law_minus, PySem.W.fnOf "_law_minus" "_law_minus" (defArgs s_law_minus) (defBody s_law_minus) (defScope s_law_minus) .none kV_law_minus dc_law_minus pm_law_minus an_law_minus cd_law_minus ct_law_minus, f_law_times, PySem.W.fnOf "_law_times" "_law_times" (defArgs s_law_times) (defBody s_law_times) (defScope s_law_times) .none kV_law_times dc_law_times pm_law_times an_law_times cd_law_times ct_law_times, f_law_less, PySem.W.fnOf "_law_less" "_law_less" (defArgs s_law_less) (defBody s_law_less) (defScope s_law_less) .none kV_law_less dc_law_less pm_law_less an_law_less cd_law_less ct_law_less, f_law_part, PySem.W.fnOf "_law_part" "_law_part" (defArgs s_law_part) (defBody s_law_part) (defScope s_law_part) .none kV_law_part dc_law_part pm_law_part an_law_part cd_law_part ct_law_part, f_law_table, PySem.W.fnOf "_law_table" "_law_table" (defArgs s_law_table) (defBody s_law_table) (defScope s_law_table) .none kV_law_table dc_law_table pm_law_table an_law_table cd_law_table ct_law_table, f_law_rule, PySem.W.fnOf "_law_rule" "_law_rule" (defArgs s_law_rule) (defBody s_law_rule) (defScope s_law_rule) .none kV_law_rule dc_law_rule pm_law_rule an_law_rule cd_law_rule ct_law_rule, f_law_whole, PySem.W.fnOf "_law_whole" "_law_whole" (defArgs s_law_whole) (defBody s_law_whole) (defScope s_law_whole) .none kV_law_whole dc_law_whole pm_law_whole an_law_whole cd_law_whole ct_law_whole, f_law_is_ratio, PySem.W.fnOf "_law_is_ratio" "_law_is_ratio" (defArgs s_law_is_ratio) (defBody s_law_is_ratio) (defScope s_law_is_ratio) .none kV_law_is_ratio dc_law_is_ratio pm_law_is_ratio an_law_is_ratio cd_law_is_ratio ct_law_is_ratio, f_law_is_pair, PySem.W.fnOf "_law_is_pair" "_law_is_pair" (defArgs s_law_is_pair) (defBody s_law_is_pair) (defScope s_law_is_pair) .none kV_law_is_pair dc_law_is_pair pm_law_is_pair an_law_is_pair cd_law_is_pair ct_law_is_pair, f_law_row_right, PySem.W.fnOf "_law_row_right" "_law_row_right" (defArgs s_law_row_right) (defBody s_law_row_right) (defScope s_law_row_right) .none kV_law_row_right dc_law_row_right pm_law_row_right an_law_row_right cd_law_row_right ct_law_row_right, f_law_due, PySem.W.fnOf "_law_due" "_law_due" (defArgs s_law_due) (defBody s_law_due) (defScope s_law_due) .none kV_law_due dc_law_due pm_law_due an_law_due cd_law_due ct_law_due, f_law_bent_row, PySem.W.fnOf "_law_bent_row" "_law_bent_row" (defArgs s_law_bent_row) (defBody s_law_bent_row) (defScope s_law_bent_row) .none kV_law_bent_row dc_law_bent_row pm_law_bent_row an_law_bent_row cd_law_bent_row ct_law_bent_row, f_law_bent, PySem.W.fnOf "_law_bent" "_law_bent" (defArgs s_law_bent) (defBody s_law_bent) (defScope s_law_bent) .none kV_law_bent dc_law_bent pm_law_bent an_law_bent cd_law_bent ct_law_bent, f_law_told, PySem.W.fnOf "_law_told" "_law_told" (defArgs s_law_told) (defBody s_law_told) (defScope s_law_told) .none kV_law_told dc_law_told pm_law_told an_law_told cd_law_told ct_law_told, fa, PySem.W.fnOf "law" "law" (defArgs s_law) (defBody s_law) (defScope s_law) .none kV_law dc_law pm_law an_law cd_law ct_law, f_NOUGHT, tkPOWER, tkTABLE, tkLEAST_POWER, tkMOST_POWER, tkLEAST_ROWS, tkMOST_ROWS, cB, c_NoRule, i_NoRule, PySem.W.fnOf "__init__" "NoRule.__init__" (defArgs s_NoRule) (defBody s_NoRule) (defScope s_NoRule) .none kV_NoRule dc_NoRule pm_NoRule an_NoRule cd_NoRule ct_NoRule, c_PaceError, c_NoPlan, c_NoSheet, c_NoSpeed⟩ := {
    F_is_whole := F_is_whole, b_is_whole := b_is_whole, m_is_whole := PySem.W.mg_of X G p_is_whole,
    F_is_tuple_of := F_is_tuple_of, b_is_tuple_of := b_is_tuple_of, m_is_tuple_of := PySem.W.mg_of X G p_is_tuple_of,
    F_copied := F_copied, b_copied := b_copied, m_copied := PySem.W.mg_of X G p_copied,
    F_greatest_divisor := F_greatest_divisor, b_greatest_divisor := b_greatest_divisor, m_greatest_divisor := PySem.W.mg_of X G p_greatest_divisor,
    F_is_ratio := F_is_ratio, b_is_ratio := b_is_ratio, m_is_ratio := PySem.W.mg_of X G p_is_ratio,
    F_is_ratio_pair := F_is_ratio_pair, b_is_ratio_pair := b_is_ratio_pair, m_is_ratio_pair := PySem.W.mg_of X G p_is_ratio_pair,
    F_ratio := F_ratio, b_ratio := b_ratio, m_ratio := PySem.W.mg_of X G p_ratio,
    F_plus := F_plus, b_plus := b_plus, m_plus := PySem.W.mg_of X G p_plus,
    F_minus := F_minus, b_minus := b_minus, m_minus := PySem.W.mg_of X G p_minus,
    F_times := F_times, b_times := b_times, m_times := PySem.W.mg_of X G p_times,
    F_over := F_over, b_over := b_over, m_over := PySem.W.mg_of X G p_over,
    F_is_less := F_is_less, b_is_less := b_is_less, m_is_less := PySem.W.mg_of X G p_is_less,
    F_slope_between := F_slope_between, b_slope_between := b_slope_between, m_slope_between := PySem.W.mg_of X G p_slope_between,
    F_is_row_behind := F_is_row_behind, b_is_row_behind := b_is_row_behind, m_is_row_behind := PySem.W.mg_of X G p_is_row_behind,
    F_is_rule_shaped := F_is_rule_shaped, b_is_rule_shaped := b_is_rule_shaped, m_is_rule_shaped := PySem.W.mg_of X G p_is_rule_shaped,
    F_right_rule := F_right_rule, b_right_rule := b_right_rule, m_right_rule := PySem.W.mg_of X G p_right_rule,
    F_law_tape := F_law_tape, b_law_tape := b_law_tape, m_law_tape := PySem.W.mg_of X G p_law_tape,
    F_law_draw := F_law_draw, b_law_draw := b_law_draw, m_law_draw := PySem.W.mg_of X G p_law_draw,
    F_law_gcd := F_law_gcd, b_law_gcd := b_law_gcd, m_law_gcd := PySem.W.mg_of X G p_law_gcd,
    F_law_ratio := F_law_ratio, b_law_ratio := b_law_ratio, m_law_ratio := PySem.W.mg_of X G p_law_ratio,
    F_law_plus := F_law_plus, b_law_plus := b_law_plus, m_law_plus := PySem.W.mg_of X G p_law_plus,
    F_law_minus := F_law_minus, b_law_minus := b_law_minus, m_law_minus := PySem.W.mg_of X G p_law_minus,
    F_law_times := F_law_times, b_law_times := b_law_times, m_law_times := PySem.W.mg_of X G p_law_times,
    F_law_less := F_law_less, b_law_less := b_law_less, m_law_less := PySem.W.mg_of X G p_law_less,
    F_law_part := F_law_part, b_law_part := b_law_part, m_law_part := PySem.W.mg_of X G p_law_part,
    F_law_table := F_law_table, b_law_table := b_law_table, m_law_table := PySem.W.mg_of X G p_law_table,
    F_law_rule := F_law_rule, b_law_rule := b_law_rule, m_law_rule := PySem.W.mg_of X G p_law_rule,
    F_law_whole := F_law_whole, b_law_whole := b_law_whole, m_law_whole := PySem.W.mg_of X G p_law_whole,
    F_law_is_ratio := F_law_is_ratio, b_law_is_ratio := b_law_is_ratio, m_law_is_ratio := PySem.W.mg_of X G p_law_is_ratio,
    F_law_is_pair := F_law_is_pair, b_law_is_pair := b_law_is_pair, m_law_is_pair := PySem.W.mg_of X G p_law_is_pair,
    F_law_row_right := F_law_row_right, b_law_row_right := b_law_row_right, m_law_row_right := PySem.W.mg_of X G p_law_row_right,
    F_law_due := F_law_due, b_law_due := b_law_due, m_law_due := PySem.W.mg_of X G p_law_due,
    F_law_bent_row := F_law_bent_row, b_law_bent_row := b_law_bent_row, m_law_bent_row := PySem.W.mg_of X G p_law_bent_row,
    F_law_bent := F_law_bent, b_law_bent := b_law_bent, m_law_bent := PySem.W.mg_of X G p_law_bent,
    F_law_told := F_law_told, b_law_told := b_law_told, m_law_told := PySem.W.mg_of X G p_law_told,
    F_law := F_law, b_law := b_law, m_law := PySem.W.mg_of X G p_law,
    m_NOUGHT := PySem.W.mg_of X G p_NOUGHT, q_NOUGHT := fun H => .inr ⟨_, _, _, l_NOUGHT, rfl, rfl, (by show 2 ≤ sizeLine; decide), (.cons ⟨_, rfl⟩ (.cons ⟨_, rfl⟩ .nil))⟩,
    m_POWER := PySem.W.mg_of X G p_POWER,
    m_TABLE := PySem.W.mg_of X G p_TABLE,
    m_LEAST_POWER := PySem.W.mg_of X G p_LEAST_POWER,
    m_MOST_POWER := PySem.W.mg_of X G p_MOST_POWER,
    m_LEAST_ROWS := PySem.W.mg_of X G p_LEAST_ROWS,
    m_MOST_ROWS := PySem.W.mg_of X G p_MOST_ROWS,
    X_NoRule := xc_mk lc_NoRule lB lnB hsB hnB fi_NoRule ti_NoRule kc_NoRule hh_NoRule sa_NoRule, F_NoRule := F_NoRule, b_NoRule := b_NoRule, m_NoRule := PySem.W.mg_of X G p_NoRule, n_NoRule_number := na_NoRule_number, g_NoRule := ⟨ga_NoRule, gn_NoRule, cl_NoRule, cgB, ctB⟩,
    m_PaceError := PySem.W.mg_of X G p_PaceError,
    m_NoPlan := PySem.W.mg_of X G p_NoPlan,
    m_NoSheet := PySem.W.mg_of X G p_NoSheet,
    m_NoSpeed := PySem.W.mg_of X G p_NoSpeed,
    x_catch := w_x_catch,
    y_self := w_y_self,
    y_val := w_y_val,
    y_not := w_y_not,
    z_ValueError := PySem.W.mg_none_of X G z_ValueError, z_abs := PySem.W.mg_none_of X G z_abs, z_bool := PySem.W.mg_none_of X G z_bool, z_enumerate := PySem.W.mg_none_of X G z_enumerate, z_int := PySem.W.mg_none_of X G z_int, z_isinstance := PySem.W.mg_none_of X G z_isinstance, z_len := PySem.W.mg_none_of X G z_len, z_list := PySem.W.mg_none_of X G z_list, z_range := PySem.W.mg_none_of X G z_range, z_repr := PySem.W.mg_none_of X G z_repr, z_str := PySem.W.mg_none_of X G z_str, z_tuple := PySem.W.mg_none_of X G z_tuple }
  exact ⟨_, fun s v => .of_eq rfl, fun base _ _ => ok_law T⟩
theorem walk {l : PySem.W.OpenLaw} {q : Program} {loose : List Str} {XP : (Str → Option Value) → Heap → Prop} {YP : World → Heap → Prop} {d : DefRec} {K : Params → PySem.W.Frag} (hn : l.most = some 63) (hdf : d.params.defaults = [])
    (hY : ∀ (w : World) (h : Heap), YP w h → (K w.params).In h)
    (F : ∀ (w : World) (mg : Str → Option Value) (fa : Addr) (h : Heap), (K w.params).In h → h.Ns mainGlobals mg → mg d.name = some (.ref fa) →
      ∃ fd : FuncData, (∀ (s : Shared) (u : Value), BindsTo s fd ⟨[u], []⟩ [("_law_script", u)]) ∧ ∀ base : Heap, (K w.params).In base → base.Ns mainGlobals mg → FnOk l.prog w (K w.params) mg base CX0 8 fa fd ["_law_script"] (sp_law (K w.params))) :
    PySem.W.WalkO q loose XP YP l.row.toRowW d [] (fun f vs => PySem.call f vs) :=
  L2.walk_of (n := 63) (k := 8) (x := "_law_script") (CX := fun _ => CX0) (sp := fun w => sp_law (K w.params)) hn (by decide) hdf ⟨rfl, by decide, by decide, rfl⟩ hY F (fun _ _ a ns hl _ hS => ⟨a, ns, rfl, hS, hl, fun _ => rfl⟩) fun _ _ _ _ _ z => z
end My
open PySem PySem.W PyProof.Rows
set_option maxRecDepth 100000 in
set_option maxHeartbeats 0 in
theorem PySem.Challenge.cw_paceplan_k09_rules_let_by_or_not_holds : PySem.Challenge.rw_paceplan_k09_rules_let_by_or_not.Holds := by
  w_on; refine HWtop ?_
  k_fill
  refine My.walk (l := PySem.Challenge.rw_paceplan_k09_rules_let_by_or_not) rfl rfl (fun w h Y => PySem.W.kIn_of Y) ?F
  case F =>
    intro w mg fa h KX G hmg
    refine' My.all_mk KX G hmg ?p_is_whole ?l_is_whole ?c_is_whole ?k_is_whole ?p_is_tuple_of ?l_is_tuple_of ?c_is_tuple_of ?k_is_tuple_of ?p_copied ?l_copied ?c_copied ?k_copied ?p_greatest_divisor ?l_greatest_divisor ?c_greatest_divisor ?k_greatest_divisor ?p_is_ratio ?l_is_ratio ?c_is_ratio ?k_is_ratio ?p_is_ratio_pair ?l_is_ratio_pair ?c_is_ratio_pair ?k_is_ratio_pair ?p_ratio ?l_ratio ?c_ratio ?k_ratio ?p_plus ?l_plus ?c_plus ?k_plus ?p_minus ?l_minus ?c_minus ?k_minus ?p_times ?l_times ?c_times ?k_times ?p_over ?l_over ?c_over ?k_over ?p_is_less ?l_is_less ?c_is_less ?k_is_less ?p_slope_between ?l_slope_between ?c_slope_between ?k_slope_between ?p_is_row_behind ?l_is_row_behind ?c_is_row_behind ?k_is_row_behind ?p_is_rule_shaped ?l_is_rule_shaped ?c_is_rule_shaped ?k_is_rule_shaped ?p_right_rule ?l_right_rule ?c_right_rule ?k_right_rule ?p_law_tape ?l_law_tape ?c_law_tape ?k_law_tape ?p_law_draw ?l_law_draw ?c_law_draw ?k_law_draw ?p_law_gcd ?l_law_gcd ?c_law_gcd ?k_law_gcd ?p_law_ratio ?l_law_ratio ?c_law_ratio ?k_law_ratio ?p_law_plus ?l_law_plus ?c_law_plus ?k_law_plus ?p_law_minus ?l_law_minus ?c_law_minus ?k_law_minus ?p_law_times ?l_law_times ?c_law_times ?k_law_times ?p_law_less ?l_law_less ?c_law_less ?k_law_less ?p_law_part ?l_law_part ?c_law_part ?k_law_part ?p_law_table ?l_law_table ?c_law_table ?k_law_table ?p_law_rule ?l_law_rule ?c_law_rule ?k_law_rule ?p_law_whole ?l_law_whole ?c_law_whole ?k_law_whole ?p_law_is_ratio ?l_law_is_ratio ?c_law_is_ratio ?k_law_is_ratio ?p_law_is_pair ?l_law_is_pair ?c_law_is_pair ?k_law_is_pair ?p_law_row_right ?l_law_row_right ?c_law_row_right ?k_law_row_right ?p_law_due ?l_law_due ?c_law_due ?k_law_due ?p_law_bent_row ?l_law_bent_row ?c_law_bent_row ?k_law_bent_row ?p_law_bent ?l_law_bent ?c_law_bent ?k_law_bent ?p_law_told ?l_law_told ?c_law_told ?k_law_told ?p_law ?l_law ?c_law ?k_law ?p_NOUGHT ?l_NOUGHT ?p_POWER ?p_TABLE ?p_LEAST_POWER ?p_MOST_POWER ?p_LEAST_ROWS ?p_MOST_ROWS ?pB ?lB ?lnB ?hsB ?hnB ?cgB ?ctB ?p_NoRule ?lc_NoRule ?fi_NoRule ?l_NoRule ?cd_NoRule_ ?ki_NoRule ?ti_NoRule ?kc_NoRule ?hh_NoRule ?sa_NoRule ?na_NoRule_number ?ga_NoRule ?gn_NoRule ?cl_NoRule ?p_PaceError ?p_NoPlan ?p_NoSheet ?p_NoSpeed ?w_x_catch ?w_y_self ?w_y_val ?w_y_not ?z_ValueError ?z_abs ?z_bool ?z_enumerate ?z_int ?z_isinstance ?z_len ?z_list ?z_range ?z_repr ?z_str ?z_tuple
    (case p_is_whole => k_is)
    (case l_is_whole => k_is)
    (case c_is_whole => k_is)
    (case k_is_whole => k_is)
    (case p_is_tuple_of => k_is)
    (case l_is_tuple_of => k_is)
    (case c_is_tuple_of => k_is)
    (case k_is_tuple_of => k_is)
    (case p_copied => k_is)
    (case l_copied => k_is)
    (case c_copied => k_is)
    (case k_copied => k_is)
    (case p_greatest_divisor => k_is)
    (case l_greatest_divisor => k_is)
    (case c_greatest_divisor => k_is)
    (case k_greatest_divisor => k_is)
    (case p_is_ratio => k_is)
    (case l_is_ratio => k_is)
    (case c_is_ratio => k_is)
    (case k_is_ratio => k_is)
    (case p_is_ratio_pair => k_is)
    (case l_is_ratio_pair => k_is)
    (case c_is_ratio_pair => k_is)
    (case k_is_ratio_pair => k_is)
    (case p_ratio => k_is)
    (case l_ratio => k_is)
    (case c_ratio => k_is)
    (case k_ratio => k_is)
    (case p_plus => k_is)
    (case l_plus => k_is)
    (case c_plus => k_is)
    (case k_plus => k_is)
    (case p_minus => k_is)
    (case l_minus => k_is)
    (case c_minus => k_is)
    (case k_minus => k_is)
    (case p_times => k_is)
    (case l_times => k_is)
    (case c_times => k_is)
    (case k_times => k_is)
    (case p_over => k_is)
    (case l_over => k_is)
    (case c_over => k_is)
    (case k_over => k_is)
    (case p_is_less => k_is)
    (case l_is_less => k_is)
    (case c_is_less => k_is)
    (case k_is_less => k_is)
    (case p_slope_between => k_is)
    (case l_slope_between => k_is)
    (case c_slope_between => k_is)
    (case k_slope_between => k_is)
    (case p_is_row_behind => k_is)
    (case l_is_row_behind => k_is)
    (case c_is_row_behind => k_is)
    (case k_is_row_behind => k_is)
    (case p_is_rule_shaped => k_is)
    (case l_is_rule_shaped => k_is)
    (case c_is_rule_shaped => k_is)
    (case k_is_rule_shaped => k_is)
    (case p_right_rule => k_is)
    (case l_right_rule => k_is)
    (case c_right_rule => k_is)
    (case k_right_rule => k_is)
    (case p_law_tape => k_is)
    (case l_law_tape => k_is)
    (case c_law_tape => k_is)
    (case k_law_tape => k_is)
    (case p_law_draw => k_is)
    (case l_law_draw => k_is)
    (case c_law_draw => k_is)
    (case k_law_draw => k_is)
    (case p_law_gcd => k_is)
    (case l_law_gcd => k_is)
    (case c_law_gcd => k_is)
    (case k_law_gcd => k_is)
    (case p_law_ratio => k_is)
    (case l_law_ratio => k_is)
    (case c_law_ratio => k_is)
    (case k_law_ratio => k_is)
    (case p_law_plus => k_is)
    (case l_law_plus => k_is)
    (case c_law_plus => k_is)
    (case k_law_plus => k_is)
    (case p_law_minus => k_is)
    (case l_law_minus => k_is)
    (case c_law_minus => k_is)
    (case k_law_minus => k_is)
    (case p_law_times => k_is)
    (case l_law_times => k_is)
    (case c_law_times => k_is)
    (case k_law_times => k_is)
    (case p_law_less => k_is)
    (case l_law_less => k_is)
    (case c_law_less => k_is)
    (case k_law_less => k_is)
    (case p_law_part => k_is)
    (case l_law_part => k_is)
    (case c_law_part => k_is)
    (case k_law_part => k_is)
    (case p_law_table => k_is)
    (case l_law_table => k_is)
    (case c_law_table => k_is)
    (case k_law_table => k_is)
    (case p_law_rule => k_is)
    (case l_law_rule => k_is)
    (case c_law_rule => k_is)
    (case k_law_rule => k_is)
    (case p_law_whole => k_is)
    (case l_law_whole => k_is)
    (case c_law_whole => k_is)
    (case k_law_whole => k_is)
    (case p_law_is_ratio => k_is)
    (case l_law_is_ratio => k_is)
    (case c_law_is_ratio => k_is)
    (case k_law_is_ratio => k_is)
    (case p_law_is_pair => k_is)
    (case l_law_is_pair => k_is)
    (case c_law_is_pair => k_is)
    (case k_law_is_pair => k_is)
    (case p_law_row_right => k_is)
    (case l_law_row_right => k_is)
    (case c_law_row_right => k_is)
    (case k_law_row_right => k_is)
    (case p_law_due => k_is)
    (case l_law_due => k_is)
    (case c_law_due => k_is)
    (case k_law_due => k_is)
    (case p_law_bent_row => k_is)
    (case l_law_bent_row => k_is)
    (case c_law_bent_row => k_is)
    (case k_law_bent_row => k_is)
    (case p_law_bent => k_is)
    (case l_law_bent => k_is)
    (case c_law_bent => k_is)
    (case k_law_bent => k_is)
    (case p_law_told => k_is)
    (case l_law_told => k_is)
    (case c_law_told => k_is)
    (case k_law_told => k_is)
    (case p_law => k_is)
    (case l_law => k_is)
    (case c_law => k_is)
    (case k_law => k_is)
    (case p_NOUGHT => k_is)
    (case l_NOUGHT => k_is)
    (case p_POWER => k_is)
    (case p_TABLE => k_is)
    (case p_LEAST_POWER => k_is)
    (case p_MOST_POWER => k_is)
    (case p_LEAST_ROWS => k_is)
    (case p_MOST_ROWS => k_is)
    (case pB => k_is)
    (case lB => k_is)
    (case lnB => k_is)
    (case hsB => rfl)
    (case hnB => rfl)
    (case cgB => k_is)
    (case ctB => k_is)
    (case p_NoRule => k_is)
    (case lc_NoRule => k_is)
    (case fi_NoRule => k_is)
    (case l_NoRule => k_is)
    (case cd_NoRule_ => k_is)
    (case ki_NoRule => k_is)
    (case ti_NoRule => k_is)
    (case kc_NoRule => k_is)
    (case hh_NoRule => k_is)
    (case sa_NoRule => k_is)
    (case na_NoRule_number => k_is)
    (case ga_NoRule => k_is)
    (case gn_NoRule => k_is)
    (case cl_NoRule => k_is)
    (case p_PaceError => k_is)
    (case p_NoPlan => k_is)
    (case p_NoSheet => k_is)
    (case p_NoSpeed => k_is)
    (case w_x_catch => kts_exm)
    (case w_y_self => kit_is)
    (case w_y_val => kit_is)
    (case w_y_not => kit_is)
    (case z_ValueError => k_is)
    (case z_abs => k_is)
    (case z_bool => k_is)
    (case z_enumerate => k_is)
    (case z_int => k_is)
    (case z_isinstance => k_is)
    (case z_len => k_is)
    (case z_list => k_is)
    (case z_range => k_is)
    (case z_repr => k_is)
    (case z_str => k_is)
    (case z_tuple => k_is)
