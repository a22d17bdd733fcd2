import PyProof.Rows.All
import Wide.All
import OpenK.AllK
import Wide.FinOn
import Lean
import PyProof.EqAt
import PyProof.EqKinds
import PyProof.TupleCall
import PyProof.ReprLen
import PyProof.CompUse
import PyProof.ZipIter
import PyProof.DictItemsLoops
import PyProof.EnumMake
import PyProof.Draws
import PyProof.IsRules
import PyProof.AutoListH
import PyProof.RangeFor
import PyProof.SeqRoads2
import PyProof.ListRange
import PyProof.Rows.SumAny
import PyProof.Rows.Range3
import PyProof.ConsumeWalk
import PyProof.Rows.ListMul
import PySem.Challenge.RW_paceplan_k47_whole_a_work_more_lowers_no
set_option Elab.async false
set_option linter.all false
set_option maxRecDepth 100000
/-! The head, run as one piece: the view and the steps are given here, the rest is what the head's own rule asks. -/
namespace HW
open PySem
def keep : List Nat := [1, 2, 4, 5, 6, 7, 8, 9, 10, 11, 13, 14, 16, 17, 18, 19, 20, 21, 22, 24, 25, 26, 27, 28, 29, 30, 31, 32, 33]
def V : Program := PySem.W.view PySem.Challenge.pw_paceplan_k47_whole_a_work_more_lowers_no keep
end HW
section HWs
open PySem PySem.W PyProof.Rows
local macro_rules
  | `(tactic| o_head $H:term) => `(tactic| (
      refine holds_open (q := HW.V) (loose := []) (N := 2632)
        (Xt := fun s => xlAt HW.V [] s && recOk (RowW.records (OpenRow.toRowW (OpenLaw.row PySem.Challenge.rw_paceplan_k47_whole_a_work_more_lowers_no))) s)
        (XP := XL HW.V []) (Yf := Hook.obs $H) (Ya := Hook.val $H) (YP := Hook.says $H)
        ?hl (Hook.of $H) (Hook.keeps $H)
        (fun s e => xl_of s (Bool.and_eq_true_iff.mp e).1) XL.keeps
        (by rfl) (by rfl) (by rfl)
        (fun s e => recFacts_of (Bool.and_eq_true_iff.mp e).2) (by rfl) (by assumption) (by decide +kernel)
        ⟨rfl, rfl, rfl, rfl, rfl, by decide +kernel⟩ ?hw ?hc
      (case hl =>
        intro w
        delta openEnds fencedOpening topFrom
        rw [PySem.W.Fast.te14364793385576792824, PySem.W.Fast.te14082659384304107361, PySem.W.Fast.te10274390034422433532, PySem.W.Fast.te1435165496053646825, PySem.W.Fast.te14289696077712309145, PySem.W.Fast.te4187177175401517315]
        kernel_rfl)))
set_option maxHeartbeats 0 in
open_top HWtop for PySem.Challenge.rw_paceplan_k47_whole_a_work_more_lowers_no
end HWs
/-! THE HAND LAYER, for ints, bools, texts, own classes, LISTS and tuples (index, slices, in, append, pop ..), calls, loops. Paste it whole ahead of your own text; what your proof does not reach may be deleted. -/
namespace L2
open PySem PySem.Spec PyProof.Rows

/-- a key: an int or a str -/
abbrev Key := Sum Int Str
def keyIs : Key → Value → Bool
  | .inl k, v => Value.isInt k v
  | .inr x, v => Value.isStrOf x v
def keyH (w : World) : Key → Int
  | .inl k => hashInt k
  | .inr x => hashStr w x
theorem keyIs_shape : ∀ {k : Key} {v : Value}, keyIs k v = true → (∃ i t, k = Sum.inl i ∧ v = Value.int i t) ∨ (∃ x t, k = Sum.inr x ∧ v = Value.str x t)
  | .inl i, v, h => by
    obtain ⟨t, e⟩ := Value.isInt_shape (k := i) (v := v) h
    exact .inl ⟨i, t, rfl, e⟩
  | .inr x, v, h => by
    obtain ⟨t, e⟩ := Value.isStrOf_shape (x := x) (v := v) h
    exact .inr ⟨x, t, rfl, e⟩
theorem keyIs_int (i : Int) (t : Tok) : keyIs (.inl i) (.int i t) = true := by simp [keyIs, Value.isInt]
theorem keyIs_str (x : Str) (t : Tok) : keyIs (.inr x) (.str x t) = true := by simp [keyIs, Value.isStrOf]
theorem key_ll (a b : Int) : decide ((Sum.inl a : Key) = Sum.inl b) = (a == b) := by
  by_cases e : a = b
  · subst e; simp
  · have h : ¬ (Sum.inl a : Key) = Sum.inl b := fun q => e (Sum.inl.inj q)
    rw [decide_eq_false h]
    exact (beq_eq_false_iff_ne.mpr e).symm
theorem key_rr (a b : Str) : decide ((Sum.inr a : Key) = Sum.inr b) = decide (a = b) := by
  by_cases e : a = b
  · subst e; simp
  · have h : ¬ (Sum.inr a : Key) = Sum.inr b := fun q => e (Sum.inr.inj q)
    rw [decide_eq_false h, decide_eq_false e]
theorem key_lr (a : Int) (b : Str) : decide ((Sum.inl a : Key) = Sum.inr b) = false := decide_eq_false (fun q => nomatch q)
theorem key_rl (a : Str) (b : Int) : decide ((Sum.inr a : Key) = Sum.inl b) = false := decide_eq_false (fun q => nomatch q)

def mixKind (prog : Program) (w : World) : PySem.KeyKind prog w Key where
  is := keyIs
  hash := keyH w
  inj := fun v a b ha hb => by
    rcases keyIs_shape ha with ⟨i, t, rfl, rfl⟩ | ⟨x, t, rfl, rfl⟩
    · rcases keyIs_shape hb with ⟨j, u, rfl, e⟩ | ⟨y, u, rfl, e⟩
      · injection e with e1 _; rw [e1]
      · exact nomatch e
    · rcases keyIs_shape hb with ⟨j, u, rfl, e⟩ | ⟨y, u, rfl, e⟩
      · exact nomatch e
      · injection e with e1 _; rw [e1]
  byValue := fun k v h => by
    rcases keyIs_shape h with ⟨i, t, rfl, rfl⟩ | ⟨x, t, rfl, rfl⟩ <;> rfl
  pyHash := fun hv h => by
    rcases keyIs_shape hv with ⟨i, t, rfl, rfl⟩ | ⟨x, t, rfl, rfl⟩
    · exact wpAny_pyHash_int h
    · exact wpAny_pyHash_str h
  eqBool := fun hu hv h => by
    rcases keyIs_shape hu with ⟨i, t, rfl, rfl⟩ | ⟨x, t, rfl, rfl⟩
    · rcases keyIs_shape hv with ⟨j, u, rfl, rfl⟩ | ⟨y, u, rfl, rfl⟩
      · rw [key_ll] at h; exact wpAny_eqBool_int h
      · rw [key_lr] at h; exact SeqAt.EqAt.int_str i t y u _ _ _ _ h
    · rcases keyIs_shape hv with ⟨j, u, rfl, rfl⟩ | ⟨y, u, rfl, rfl⟩
      · rw [key_rl] at h; exact SeqAt.EqAt.str_int x t j u _ _ _ _ h
      · rw [key_rr] at h; exact wpAny_eqBool_str h
  «strs» := fun k x t v h => by
    rcases keyIs_shape h with ⟨i, u, rfl, e⟩ | ⟨y, u, rfl, e⟩
    · exact nomatch e
    · injection e with e1 _
      subst e1
      cases v <;> rfl

theorem mixKind_int (prog : Program) (w : World) (i : Int) (t : Tok) : (mixKind prog w).is (.inl i) (.int i t) = true := keyIs_int i t
theorem mixKind_str (prog : Program) (w : World) (x : Str) (t : Tok) : (mixKind prog w).is (.inr x) (.str x t) = true := keyIs_str x t
end L2

namespace L2
open PySem PySem.Spec PyProof.Rows

/-- a value, without the heap -/
inductive V where
  | non | bl (b : Bool) | int (i : Int) | str (x : Str) | byt (b : Array UInt8) | flt (b : UInt64) | ref (a : Addr) | ty (n : String)
  deriving DecidableEq

def RelV : V → Value → Prop
  | .non, u => u = Value.none
  | .bl b, u => u = Value.bool b
  | .int i, u => ∃ t, u = Value.int i t
  | .str x, u => ∃ t, u = Value.str x t
  | .byt b, u => ∃ t, u = Value.bytes b t
  | .flt b, u => ∃ t, u = Value.float b t
  | .ref a, u => u = Value.ref a
  | .ty n, u => u = Value.type n

abbrev Vals : List V → List Value → Prop := Paired RelV
theorem Vals.length {xs : List V} {us : List Value} (r : Vals xs us) : xs.length = us.length := Paired.length r
theorem Vals.get : ∀ {xs : List V} {us : List Value} {i : Nat} {x : V}, Vals xs us → xs[i]? = some x → ∃ u, us[i]? = some u ∧ RelV x u
  | _, _, _, _, .nil, e => by simp at e
  | _, _, 0, _, .cons r _, e => by simp at e; subst e; exact ⟨_, rfl, r⟩
  | _, _, i + 1, x, .cons _ t, e => by
    obtain ⟨u, h1, h2⟩ := Vals.get (i := i) (x := x) t (by simpa using e)
    exact ⟨u, by simpa using h1, h2⟩
theorem Vals.set {x : V} {u : Value} (r : RelV x u) : ∀ {xs : List V} {us : List Value} (i : Nat), Vals xs us → Vals (xs.set i x) (us.set i u)
  | _, _, _, .nil => .nil
  | _, _, 0, .cons _ t => .cons r t
  | _, _, i + 1, .cons q t => .cons q (Vals.set r i t)
theorem Vals.append : ∀ {xs ys : List V} {us ws : List Value}, Vals xs us → Vals ys ws → Vals (xs ++ ys) (us ++ ws)
  | _, _, _, _, .nil, s => s
  | _, _, _, _, .cons r t, s => .cons r (Vals.append t s)
theorem Vals.take : ∀ {xs : List V} {us : List Value} (n : Nat), Vals xs us → Vals (xs.take n) (us.take n)
  | _, _, 0, _ => .nil
  | _, _, _ + 1, .nil => .nil
  | _, _, n + 1, .cons r t => .cons r (Vals.take n t)
theorem Vals.drop : ∀ {xs : List V} {us : List Value} (n : Nat), Vals xs us → Vals (xs.drop n) (us.drop n)
  | _, _, 0, r => r
  | _, _, _ + 1, .nil => .nil
  | _, _, n + 1, .cons _ t => Vals.drop n t

def RelO : Option V → Option Value → Prop
  | some v, some u => RelV v u
  | none, none => True
  | _, _ => False
def KV {κ : Type} : List (κ × V) → List (κ × Value) → Prop := Paired fun (p : κ × V) (q : κ × Value) => p.1 = q.1 ∧ RelV p.2 q.2

/-- a key of a dict (00_mix): an int or a text -/
def kV : Key → V
  | .inl i => .int i
  | .inr x => .str x

/-- what stands at a tracked address -/
inductive HO where
  /-- a list -/
  | lst (xs : List V)
  /-- a tuple (never changes) -/
  | tup (xs : List V)
  /-- a dict whose keys are ints and texts; one whose keys are tuples of ints and texts (the empty one is both) -/
  | dK (kvs : List (Key × V)) | dT (kvs : List (List Key × V))
  /-- a set of ints: its members, its size -/
  | set (S : Int → Bool) (n : Nat)
  /-- an instance of the class at C, its dict at dx, its attributes -/
  | ins (C dx : Addr) (fs : List (Str × V))
  /-- the dict of the instance at x -/
  | own (x : Addr)
  /-- the dict of an exception -/
  | xd (fs : List (Str × V))
  /-- a bound method, f of x -/
  | met (f x : Addr)
  /-- a range object lo, lo + 1, .. below hi -/
  | rng (lo hi : Int)
  /-- a thing that is known to the object (the script; a dict while a loop walks it): read, never written while it is so -/
  | frz (o : Obj) (u : HO)
  /-- a code object's table -/
  | tbl (ps : Array Value)
  /-- any other thing, by what is true of its one object (a def of one's own: SetO a S n := HO.ext fun h => ..) -/
  | ext (φ : Heap → Prop)

abbrev Hp := Addr → Option HO
def upd (H : Hp) (a : Addr) (o : HO) : Hp := fun b => if b = a then some o else H b
theorem upd_same {H : Hp} {a : Addr} {o : HO} : upd H a o a = some o := by unfold upd; rw [if_pos rfl]
theorem upd_ne {H : Hp} {a b : Addr} {o : HO} (h : b ≠ a) : upd H a o b = H b := by unfold upd; rw [if_neg h]
theorem upd_upd {H : Hp} {a : Addr} {o u : HO} : upd (upd H a o) a u = upd H a u := by
  funext b; unfold upd; split <;> rfl
/-- two objects of different content stand apart -/
theorem ne_of {H : Hp} {a b : Addr} {o u : HO} (h : H a = some o) (h' : H b = some u) (d : o ≠ u) : a ≠ b := by
  intro e; subst e; rw [h] at h'; exact d (Option.some.inj h')
theorem ne_of_none {H : Hp} {a b : Addr} {o : HO} (h : H a = some o) (h' : H b = none) : a ≠ b := by
  intro e; subst e; rw [h] at h'; cases h'

section
variable (P : Program) (w : World)
def ObjOk (H : Hp) (h : Heap) (a : Addr) : HO → Prop
  | .lst xs => xs.length ≤ sizeLine ∧ ∃ (its : List Value) (n : Nat), Vals xs its ∧ h.get? a = some { cls := .type "list", data := .seq its.toArray n }
  | .tup xs => xs.length ≤ sizeLine ∧ ∃ its : List Value, Vals xs its ∧ IsTup h a its.toArray
  | .dK kvs => kvs.length ≤ sizeLine ∧ (a == sysModules) = false ∧ ∃ vs, KV kvs vs ∧ h.DictOf (mixKind P w) a vs
  | .dT kvs => kvs.length ≤ sizeLine ∧ (a == sysModules) = false ∧ ∃ xs : List (List Key × Addr × Value),
      Paired (fun (p : List Key × V) (q : List Key × Addr × Value) => p.1 = q.1 ∧ H q.2.1 = some (.tup (p.1.map kV)) ∧ RelV p.2 q.2.2) kvs xs ∧
      ∃ o es ep, h.get? a = some o ∧ o.ExactDict ∧ o.data = .dict es ep ∧ es.toList = xs.map (entryOfKey (tupleKind (mixKind P w))) ∧ (xs.map (·.1)).Nodup
  | .set S n => h.SetOf (intKind P w) a S n
  | .ins C dx fs => H dx = some (.own a) ∧ fs.length ≤ 1000 ∧ dx ≠ a ∧ h.get? a = some (PySem.W.instObj C dx) ∧
      ∃ mA, h.Ns1 dx mA ∧ (∀ f, RelO (fs.lookup f) (mA f)) ∧ PySem.Within mA (fs.map (·.1))
  | .own _ => ∃ o, h.get? a = some o
  | .xd fs => ∃ mA, h.Ns1 a mA ∧ ∀ f, RelO (fs.lookup f) (mA f)
  | .rng lo hi => ∃ t u v, h.get? a = some { cls := .type "range", data := .fields #[.int lo t, .int hi u, .int 1 v] }
  | .frz o u => h.get? a = some o ∧ ObjOk H h a u
  | .tbl ps => h.get? a = some { cls := .none, data := .fields ps }
  | .met f x => h.get? a = some (PySem.W.methodObj (.ref f) (.ref x))
  | .ext φ => φ h ∧ (∃ o, h.get? a = some o) ∧ ∀ h1 h2 : Heap, φ h1 → (∀ o, h1.get? a = some o → h2.get? a = some o) → φ h2
/-- the abstract heap is held -/
def HOk (H : Hp) (h : Heap) : Prop := ∀ a o, H a = some o → ObjOk P w H h a o
end

section
variable {P : Program} {w : World} {H H' : Hp} {h h' : Heap} {a : Addr} {o : HO}
theorem ObjOk.lt (x : ObjOk P w H h a o) : a < h.objs.size := by
  cases o with
  | lst xs => obtain ⟨_, _, _, _, e⟩ := x; exact Heap.lt_size e
  | tup xs => obtain ⟨_, _, _, p⟩ := x; exact p.lt
  | dK kvs => obtain ⟨_, _, _, _, o, _, _, e, _⟩ := x; exact Heap.lt_size e
  | dT kvs => obtain ⟨_, _, _, _, o, _, _, e, _⟩ := x; exact Heap.lt_size e
  | set S n => obtain ⟨o, _, _, _, e, _⟩ := x; exact Heap.lt_size e
  | ins C dx fs => obtain ⟨_, _, _, e, _⟩ := x; exact Heap.lt_size e
  | own y => obtain ⟨_, e⟩ := x; exact Heap.lt_size e
  | xd fs => obtain ⟨_, ⟨_, _, _, e, _⟩, _⟩ := x; exact Heap.lt_size e
  | rng lo hi => obtain ⟨_, _, _, e⟩ := x; exact Heap.lt_size e
  | frz ob u => obtain ⟨e, _⟩ := x; exact Heap.lt_size e
  | tbl ps => exact Heap.lt_size (show h.get? a = some _ from x)
  | met f y => exact Heap.lt_size (show h.get? a = some _ from x)
  | ext φ => obtain ⟨_, ⟨_, e⟩, _⟩ := x; exact Heap.lt_size e
theorem Paired.mapP {α β : Type} {F G : α → β → Prop} : ∀ {l₁ : List α} {l₂ : List β}, Paired F l₁ l₂ → (∀ a b, F a b → G a b) → Paired G l₁ l₂
  | _, _, .nil, _ => .nil
  | _, _, .cons r t, f => .cons (f _ _ r) (Paired.mapP t f)
/-- what an object's description leans on: its own object, its own dict, the tuples -/
theorem ObjOk.stay (x : ObjOk P w H h a o) (k : ∀ b u, (b = a ∨ H b = some (.own a)) → h.get? b = some u → h'.get? b = some u)
    (ho : ∀ b, H b = some (.own a) → H' b = some (.own a)) (ht : ∀ b xs, H b = some (.tup xs) → H' b = some (.tup xs)) : ObjOk P w H' h' a o := by
  induction o with
  | lst xs => obtain ⟨z, its, n, r, e⟩ := x; exact ⟨z, its, n, r, k _ _ (.inl rfl) e⟩
  | tup xs => obtain ⟨z, its, r, ob, e, c⟩ := x; exact ⟨z, its, r, ob, k _ _ (.inl rfl) e, c⟩
  | dK kvs => obtain ⟨z, y, vs, r, ob, es, ep, e, c⟩ := x; exact ⟨z, y, vs, r, ob, es, ep, k _ _ (.inl rfl) e, c⟩
  | dT kvs =>
    obtain ⟨z, y, xs, r, ob, es, ep, e, c⟩ := x
    exact ⟨z, y, xs, Paired.mapP r fun p q z => ⟨z.1, ht _ _ z.2.1, z.2.2⟩, ob, es, ep, k _ _ (.inl rfl) e, c⟩
  | set S n => obtain ⟨ob, es, ep, t, e, c⟩ := x; exact ⟨ob, es, ep, t, k _ _ (.inl rfl) e, c⟩
  | ins C dx fs =>
    obtain ⟨d, z, ne, e, mA, ⟨od, es, ep, e2, c⟩, r⟩ := x
    exact ⟨ho _ d, z, ne, k _ _ (.inl rfl) e, mA, ⟨od, es, ep, k _ _ (.inr d) e2, c⟩, r⟩
  | own y => obtain ⟨ob, e⟩ := x; exact ⟨ob, k _ _ (.inl rfl) e⟩
  | xd fs => obtain ⟨mA, ⟨od, es, ep, e, c⟩, r⟩ := x; exact ⟨mA, ⟨od, es, ep, k _ _ (.inl rfl) e, c⟩, r⟩
  | rng lo hi => obtain ⟨t, u, v, e⟩ := x; exact ⟨t, u, v, k _ _ (.inl rfl) e⟩
  | frz ob u ih => obtain ⟨e, q⟩ := x; exact ⟨k _ _ (.inl rfl) e, ih q⟩
  | tbl ps =>
    have e : h.get? a = some { cls := .none, data := .fields ps } := x
    show h'.get? a = some { cls := .none, data := .fields ps }
    exact k a _ (.inl rfl) e
  | met f y =>
    have e : h.get? a = some (PySem.W.methodObj (.ref f) (.ref y)) := x
    show h'.get? a = some (PySem.W.methodObj (.ref f) (.ref y))
    exact k a _ (.inl rfl) e
  | ext φ => obtain ⟨p, ⟨o, e⟩, st⟩ := x; exact ⟨st _ _ p fun o q => k _ _ (.inl rfl) q, ⟨o, k _ _ (.inl rfl) e⟩, st⟩
theorem HOk.lt (x : HOk P w H h) (e : H a = some o) : a < h.objs.size := (x a o e).lt
theorem HOk.fresh (x : HOk P w H h) (e : h.objs.size ≤ a) : H a = none := by
  cases q : H a with
  | none => rfl
  | some u => exact absurd (Nat.lt_of_lt_of_le (x.lt q) e) (Nat.lt_irrefl _)
/-- every object of the heap is kept -/
theorem HOk.kept (x : HOk P w H h) (k : ∀ b u, h.get? b = some u → h'.get? b = some u) : HOk P w H h' := fun a o e =>
  (x a o e).stay (fun b u _ q => k b u q) (fun _ q => q) fun _ _ q => q
/-- a new object is laid and tracked -/
theorem HOk.laid (x : HOk P w H h) (k : ∀ b u, h.get? b = some u → h'.get? b = some u) (hp : h.objs.size ≤ a) (new : ObjOk P w (upd H a o) h' a o) : HOk P w (upd H a o) h' := fun b u e => by
  have hn := x.fresh hp
  by_cases hb : b = a
  · subst hb; rw [upd_same] at e; cases e; exact new
  · rw [upd_ne hb] at e
    exact (x b u e).stay (fun c v _ q => k c v q) (fun c q => by rw [upd_ne (ne_of_none q hn)]; exact q) fun c xs q => by rw [upd_ne (ne_of_none q hn)]; exact q
end

/-- what may be read as u: it is u, or a known u -/
def Rd (H : Hp) (a : Addr) (u : HO) : Prop := H a = some u ∨ ∃ o, H a = some (.frz o u)
theorem Rd.ok {P : Program} {w : World} {H : Hp} {h : Heap} {a : Addr} {u : HO} (r : Rd H a u) (x : HOk P w H h) : ObjOk P w H h a u := by
  rcases r with r | ⟨o, r⟩
  · exact x a u r
  · obtain ⟨_, q⟩ := x a _ r
    exact q
/-- what may be written -/
def Mut : Option HO → Prop
  | some (.lst _) => True
  | some (.dK _) => True
  | some (.dT _) => True
  | some (.set _ _) => True
  | some (.ins _ _ _) => True
  | some (.ext _) => True
  | _ => False
section
variable {P : Program} {w : World} {H : Hp} {h h' : Heap} {x e : Addr} {o' : HO}
/-- the object at e is changed: x itself, or the dict of the instance x -/
theorem HOk.write (ok : HOk P w H h) (mu : Mut (H x)) (he : e = x ∨ H e = some (.own x)) (k : ∀ b u, b ≠ e → h.get? b = some u → h'.get? b = some u) (heo : ∃ u, h'.get? e = some u)
    (new : ObjOk P w (upd H x o') h' x o') : HOk P w (upd H x o') h' := fun b u q => by
  have nown : ∀ c y, H c = some (.own y) → c ≠ x := fun c y r z => by subst z; rw [r] at mu; exact mu
  have ntup : ∀ c xs, H c = some (.tup xs) → c ≠ x := fun c xs r z => by subst z; rw [r] at mu; exact mu
  by_cases hb : b = x
  · subst hb; rw [upd_same] at q; cases q; exact new
  · rw [upd_ne hb] at q
    by_cases hbe : b = e
    · have q' : H b = some (.own x) := by
        rcases he with z | z
        · exact absurd (hbe.trans z) hb
        · rw [hbe]; exact z
      rw [q] at q'; cases q'
      obtain ⟨v, hv⟩ := heo
      exact ⟨v, by rw [hbe]; exact hv⟩
    · refine (ok b u q).stay (fun c v hc r => k c v ?_ r) (fun c r => by rw [upd_ne (nown c b r)]; exact r) fun c xs r => by rw [upd_ne (ntup c xs r)]; exact r
      rcases hc with rfl | hc
      · exact hbe
      · rintro rfl
        rcases he with z | z
        · exact nown c b hc z
        · rw [hc] at z; cases z; exact hb rfl
end

/-! ### kept unless tracked; of the frames at fs (the callers') the slots may change (an exception that passes writes there); of the records at ex (iterators) nothing is said -/
structure Un (fs ex : List Addr) (H H' : Hp) (h h' : Heap) : Prop where
  keep : ∀ b o, h.get? b = some o → H b = none → b ∉ fs → b ∉ ex → h'.get? b = some o
  slot : ∀ b o, h.get? b = some o → H b = none → b ∈ fs → b ∉ ex → ∃ sl, h'.get? b = some { o with slots := sl }
  free : ∀ b o, h.get? b = some o → H b = none → b ∉ ex → H' b = none
  there : ∀ b o, h.get? b = some o → b ∉ ex → ∃ o', h'.get? b = some o'
  tups : ∀ b xs, H b = some (.tup xs) → H' b = some (.tup xs)
  frzs : ∀ b o u, H b = some (.frz o u) → H' b = some (.frz o u)
  tbls : ∀ b ps, H b = some (.tbl ps) → ∃ more, H' b = some (.tbl (ps ++ more))
section
variable {fs fs' ex ex' : List Addr} {H H1 H2 : Hp} {h h1 h2 h' : Heap} {a x e : Addr} {o : HO}
theorem Un.any (u : Un fs ex H H1 h h1) {b : Addr} {ob : Obj} (q : h.get? b = some ob) (n : H b = none) (hx : b ∉ ex) : ∃ sl, h1.get? b = some { ob with slots := sl } := by
  by_cases hb : b ∈ fs
  · exact u.slot b ob q n hb hx
  · exact ⟨ob.slots, u.keep b ob q n hb hx⟩
theorem Un.kept (k : ∀ b u, h.get? b = some u → h'.get? b = some u) : Un fs ex H H h h' :=
  ⟨fun b ob q _ _ _ => k b ob q, fun b ob q _ _ _ => ⟨ob.slots, k b ob q⟩, fun _ _ _ n _ => n, fun b ob q _ => ⟨ob, k b ob q⟩, fun _ _ q => q, fun _ _ _ q => q, fun _ ps q => ⟨#[], by rw [q]; simp⟩⟩
theorem Un.refl : Un fs ex H H h h := Un.kept fun _ _ q => q
theorem Un.laid (k : ∀ b u, h.get? b = some u → h'.get? b = some u) (hp : h.objs.size ≤ a) (hn : H a = none) : Un fs ex H (upd H a o) h h' where
  keep := fun b u q _ _ _ => k b u q
  slot := fun b u q _ _ _ => ⟨u.slots, k b u q⟩
  free := fun b u q n _ => by rw [upd_ne (Nat.ne_of_lt (Nat.lt_of_lt_of_le (Heap.lt_size q) hp))]; exact n
  there := fun b u q _ => ⟨u, k b u q⟩
  tups := fun b xs q => by rw [upd_ne (ne_of_none q hn)]; exact q
  frzs := fun b u xs q => by rw [upd_ne (ne_of_none q hn)]; exact q
  tbls := fun b ps q => ⟨#[], by rw [upd_ne (ne_of_none q hn), q]; simp⟩
theorem Un.write (mu : Mut (H x)) (he : e = x ∨ H e = some (.own x)) (k : ∀ b u, b ≠ e → h.get? b = some u → h'.get? b = some u) (heo : ∃ u, h'.get? e = some u) : Un fs ex H (upd H x o) h h' := by
  have hx : ∀ b, H b = none → b ≠ x := fun b n z => by subst z; rw [n] at mu; exact mu
  have hb : ∀ b, H b = none → b ≠ e := fun b n z => by
    subst z
    rcases he with r | r
    · exact hx b n r
    · rw [n] at r; cases r
  have hm : ∀ b u, H b = some u → ¬ Mut (some u) → b ≠ x := fun b u q nm z => by subst z; rw [q] at mu; exact nm mu
  refine ⟨fun b u q n _ _ => k b u (hb b n) q, fun b u q n _ _ => ⟨u.slots, k b u (hb b n) q⟩, fun b u q n _ => by rw [upd_ne (hx b n)]; exact n, fun b u q _ => ?_,
    fun b xs q => by rw [upd_ne (hm b _ q fun z => z)]; exact q, fun b u xs q => by rw [upd_ne (hm b _ q fun z => z)]; exact q, fun b ps q => ⟨#[], by rw [upd_ne (hm b _ q fun z => z), q]; simp⟩⟩
  by_cases hbe : b = e
  · subst hbe; exact heo
  · exact ⟨u, k b u hbe q⟩
end

/-! ### the heap without what is tracked -/
def trk (h : Heap) (H : Hp) : List Addr := (List.range h.objs.size).filter fun a => (H a).isSome
def hidT (h : Heap) (H : Hp) : Heap := PySem.W.hideAll h (trk h H)
theorem hidT_size (h : Heap) (H : Hp) : (hidT h H).objs.size = h.objs.size := PySem.W.hideAll_size _ _
theorem hidT_get {h : Heap} {H : Hp} {b : Addr} {o : Obj} (e : h.get? b = some o) (n : H b = none) : (hidT h H).get? b = some o :=
  PySem.W.hideAll_get _ e fun hm => by
    have q : (H b).isSome = true := (List.mem_filter.mp hm).2
    rw [n] at q; simp at q
theorem of_hidT {h : Heap} {H : Hp} {b : Addr} {o : Obj} (e : (hidT h H).get? b = some o) : h.get? b = some o ∧ H b = none := by
  have e' : h.get? b = some o := PySem.W.of_hideAll (trk h H) e
  refine ⟨e', ?_⟩
  cases q : H b with
  | none => rfl
  | some x =>
    have hm : b ∈ trk h H := List.mem_filter.mpr ⟨List.mem_range.mpr (Heap.lt_size e'), by simp [q]⟩
    have z : (hidT h H).get? b = none := PySem.W.hideAll_none (trk h H) hm
    rw [z] at e; cases e

/-! ### OpenK's ledger, filled with every new object but one -/
def allNews (g h : Heap) (L : Addr) : List (Addr × Obj) := (List.range h.objs.size).filterMap fun a => if a = L ∨ (g.get? a).isSome = true then none else (h.get? a).map fun o => (a, o)
def rest (g h : Heap) (L d : Addr) : List (Addr × Obj) := (allNews g h L).filter fun p => decide (p.1 ≠ d)
end L2

namespace L2
open PySem PySem.Spec PyProof.Rows

/-- the module's facts, over the base: the heap at the law's entry without what is tracked there -/
structure Mod (K : PySem.W.Frag) (mg : Str → Option Value) (base : Heap) : Prop where
  kin : K.In base
  glob : base.Ns mainGlobals mg
  blt : ∃ mb, base.Ns builtinsNs mb ∧ ∀ x : Str, x ≠ "__name__" → mb x = bootBuiltins x
  nolimit : base.NoLimit

/-- the context: a def's body (or a comprehension's block) running. base: fixed through the whole law; s₀, H₀: the entry; outer: the frames whose slots others may change (a def's callers); stack: all frames that run;
   ex: iterators that were made ahead of the entry and are walked here (a comprehension's); fn: the names whose cells were made at the entry (a def: all; a comprehension's block: its own); calm: not within an except suite; pn: pins that every state bears; xe: what is wanted of an exception that leaves the code -/
structure Cx where
  prog : Program
  w : World
  K : PySem.W.Frag
  mg : Str → Option Value
  base : Heap
  A : Around
  N : List Str
  s₀ : Shared
  H₀ : Hp
  env : Env
  outer : List Env
  stack : List Env
  ex : List Addr
  fn : Str → Bool
  calm : Bool
  pn : List (Addr × Obj)
  xe : Value → Shared → Prop
/-- the callers' frames -/
def frs (l : List Env) : List Addr := l.filterMap (·.frame)
abbrev Cx.fs (X : Cx) : List Addr := frs X.outer

def Vis (sc : Scope) (x : Str) : Prop := sc.names.lookup x = some .local ∨ sc.names.lookup x = some .cell ∨ sc.names.lookup x = some .free
def Loc (sc : Scope) (x : Str) : Prop := sc.names.lookup x = some .local ∨ sc.names.lookup x = some .cell
def Look (env : Env) (h : Heap) (m : Str → Option Value) (x : Str) (u : Value) : Prop :=
  (env.kindOf x = some .local ∧ m x = some u) ∨ ((env.kindOf x = some .cell ∨ env.kindOf x = some .free) ∧ ∃ c, env.cells.lookup x = some c ∧ h.IsCell c (some u))

structure Cx.Ok (X : Cx) : Prop where
  mod : Mod X.K X.mg X.base
  kind : X.env.scope.kind = .function
  glob : X.env.globals = mainGlobals
  blt : X.env.builtins = builtinsNs
  above : X.s₀.heap.objs.size ≤ X.env.locals
  inj : ∀ x y c, X.env.cells.lookup x = some c → X.env.cells.lookup y = some c → x = y
  has : ∀ x, (X.env.kindOf x = some .cell ∨ X.env.kindOf x = some .free) → ∃ c, X.env.cells.lookup x = some c
  cab : ∀ x c, X.fn x = true → X.env.cells.lookup x = some c → X.s₀.heap.objs.size ≤ c
  hd : X.calm = true → X.A.handled = none
  frames : X.A.frames = some X.stack
  stk : X.stack = X.outer ∨ (X.stack = X.env :: X.outer ∧ X.env.frame = some X.env.locals)
  exf : ∀ b ∈ X.ex, b ≠ X.env.locals ∧ ∀ x c, X.env.cells.lookup x = some c → c ≠ b
  bs : ∀ b o, X.base.get? b = some o → X.s₀.heap.get? b = some o ∧ X.H₀ b = none
  bsz : X.base.objs.size ≤ X.s₀.heap.objs.size
  noex : ∀ b o, X.base.get? b = some o → b ∉ X.ex
  exfs : ∀ b ∈ X.ex, b ∉ X.fs
  funs : X.s₀.heap.FunFrames X.base X.outer
  frf : ∀ b ∈ X.fs, X.H₀ b = none

structure Inv (X : Cx) (pins : List (Addr × Obj)) (σ : List (Option V)) (H : Hp) (s : Shared) : Prop where
  ok : X.Ok
  os : s.os = X.s₀.os
  bare : AllBare s.gens
  base : Un X.fs X.ex X.H₀ H X.s₀.heap s.heap
  loc : ∃ m, s.heap.Ns X.env.locals m ∧ ∀ (i : Nat) (x : Str) (v : V), X.N[i]? = some x → σ[i]? = some (some v) → Vis X.env.scope x → ∃ u, RelV v u ∧ Look X.env s.heap m x u
  cell : ∀ x c, X.env.cells.lookup x = some c → ∃ v, s.heap.IsCell c v
  free : H X.env.locals = none
  freeC : ∀ x c, X.env.cells.lookup x = some c → H c = none
  pin : ∀ p ∈ X.pn ++ pins, s.heap.get? p.1 = some p.2 ∧ H p.1 = none ∧ p.1 ≠ X.env.locals ∧ p.1 ∉ X.fs ∧ ∀ v, p.2.data ≠ .cell v
  hok : HOk X.prog X.w H s.heap
  len : σ.length = X.N.length

section
variable {X : Cx} {pins : List (Addr × Obj)} {σ : List (Option V)} {H H' : Hp} {s : Shared} {h' : Heap}

theorem Cx.Ok.nofr (ok : X.Ok) {b : Addr} {o : Obj} (e : X.base.get? b = some o) : b ∉ X.fs := fun hb => by
  have := (ok.funs.mem hb).1
  rw [e] at this; cases this
theorem Inv.bs (I : Inv X pins σ H s) : ∀ b o, X.base.get? b = some o → s.heap.get? b = some o ∧ H b = none := fun b o e =>
  ⟨I.base.keep b o (I.ok.bs b o e).1 (I.ok.bs b o e).2 (I.ok.nofr e) (I.ok.noex b o e), I.base.free b o (I.ok.bs b o e).1 (I.ok.bs b o e).2 (I.ok.noex b o e)⟩
theorem Inv.bk (I : Inv X pins σ H s) : ∀ b o, X.base.get? b = some o → s.heap.get? b = some o := fun b o e => (I.bs b o e).1
theorem Inv.mod (I : Inv X pins σ H s) : Mod X.K X.mg X.base := I.ok.mod
theorem Inv.kIn (I : Inv X pins σ H s) : X.K.In s.heap := I.ok.mod.kin.keeps I.bk
theorem Inv.lt (I : Inv X pins σ H s) : X.env.locals < s.heap.objs.size := let ⟨_, hn, _⟩ := I.loc; hn.lt
theorem Inv.sz (I : Inv X pins σ H s) : X.s₀.heap.objs.size ≤ s.heap.objs.size := Nat.le_trans I.ok.above (Nat.le_of_lt I.lt)
theorem Inv.nofs (I : Inv X pins σ H s) {a : Addr} (h : s.heap.objs.size ≤ a) : a ∉ X.fs := fun hb => by
  obtain ⟨_, o, ho, _⟩ := I.ok.funs.mem hb
  exact absurd (Nat.lt_of_lt_of_le (Heap.lt_size ho) (Nat.le_trans I.sz h)) (Nat.lt_irrefl _)
theorem Inv.cne (I : Inv X pins σ H s) : ∀ x c, X.env.cells.lookup x = some c → c ≠ X.env.locals := fun x c e z => by
  obtain ⟨v, o, ho, hd⟩ := I.cell x c e
  obtain ⟨m, ⟨o', es, ep, ho', hd', _⟩, _⟩ := I.loc
  rw [z, ho'] at ho; cases ho; rw [hd'] at hd; cases hd
theorem Inv.funs (I : Inv X pins σ H s) : s.heap.FunFrames X.base X.outer := by
  have all : ∀ (l : List Env), (∀ b ∈ frs l, b ∈ X.fs) → X.s₀.heap.FunFrames X.base l → s.heap.FunFrames X.base l := by
    intro l
    induction l with
    | nil => intro _ _; trivial
    | cons env r ih =>
      intro hs hl
      obtain ⟨hk, ⟨L, o, hf, hn, ho, hd⟩, hr⟩ := hl
      have hL : L ∈ X.fs := hs L (by unfold frs; rw [List.filterMap_cons, hf]; exact List.mem_cons_self)
      obtain ⟨sl, e⟩ := I.base.slot L o ho (I.ok.frf L hL) hL fun z => I.ok.exfs L z hL
      exact ⟨hk, ⟨L, _, hf, hn, e, hd⟩, ih (fun b hb => hs b (by unfold frs; rw [List.filterMap_cons, hf]; exact List.mem_cons_of_mem _ hb)) hr⟩
  exact all X.outer (fun _ hb => hb) I.ok.funs

/-- the frames that run, for a call -/
theorem Inv.stack (I : Inv X pins σ H s) : s.heap.FunFrames X.base X.stack := by
  rcases I.ok.stk with e | ⟨e, hf⟩
  · rw [e]; exact I.funs
  · rw [e]
    obtain ⟨m, hn, _⟩ := I.loc
    refine .cons (by rw [I.ok.kind]; decide) hf hn ?_ I.funs
    exact Heap.get?_none_of_le (Nat.le_trans I.ok.bsz I.ok.above)
theorem Inv.stkSub (I : Inv X pins σ H s) : ∀ b ∈ frs X.stack, b ∈ X.env.locals :: X.fs := fun b hb => by
  rcases I.ok.stk with e | ⟨e, hf⟩
  · rw [e] at hb; exact List.mem_cons_of_mem _ hb
  · rw [e] at hb
    unfold frs at hb
    rw [List.filterMap_cons, hf] at hb
    exact hb
theorem Inv.stkFree (I : Inv X pins σ H s) : ∀ b ∈ frs X.stack, H b = none := fun b hb => by
  rcases List.mem_cons.mp (I.stkSub b hb) with e | hb
  · rw [e]; exact I.free
  · obtain ⟨_, o, ho, _⟩ := I.ok.funs.mem hb
    exact I.base.free b o ho (I.ok.frf b hb) fun z => I.ok.exfs b z hb

/-- THE STEP: the untracked objects but the frame and the records at ch are kept (the callers' frames up to slots), the frame's map is kept, the new abstract heap is held -/
theorem Inv.step {g' : Array GenState} {t' : Nat} {d' : Drawn} {ch : List Addr} (I : Inv X pins σ H s)
    (hch : ∀ b ∈ ch, (b ∈ X.ex ∨ X.s₀.heap.get? b = none) ∧ b ≠ X.env.locals ∧ (∀ x c, X.env.cells.lookup x = some c → c ≠ b) ∧ ∀ p ∈ X.pn ++ pins, p.1 ≠ b)
    (keep : ∀ b o, b ≠ X.env.locals → b ∉ X.fs → b ∉ ch → s.heap.get? b = some o → H b = none → h'.get? b = some o)
    (slot : ∀ b o, b ≠ X.env.locals → b ∈ X.fs → b ∉ ch → s.heap.get? b = some o → H b = none → ∃ sl, h'.get? b = some { o with slots := sl }) (free : ∀ b o, b ∉ ch → s.heap.get? b = some o → H b = none → H' b = none)
    (there : ∀ b o, b ∉ ch → s.heap.get? b = some o → ∃ o', h'.get? b = some o')
    (tups : ∀ b xs, H b = some (.tup xs) → H' b = some (.tup xs)) (frzs : ∀ b o u, H b = some (.frz o u) → H' b = some (.frz o u)) (tbls : ∀ b ps, H b = some (.tbl ps) → ∃ more, H' b = some (.tbl (ps ++ more)))
    (ns : ∀ m, s.heap.Ns X.env.locals m → h'.Ns X.env.locals m) (hok : HOk X.prog X.w H' h') (hg : AllBare g') :
    Inv X pins σ H' { s with heap := h', gens := g', drawn := d', toks := t' } := by
  have neL : ∀ b o, X.s₀.heap.get? b = some o → b ≠ X.env.locals := fun b o e => Nat.ne_of_lt (Nat.lt_of_lt_of_le (Heap.lt_size e) I.ok.above)
  have neC : ∀ b o, X.s₀.heap.get? b = some o → b ∉ X.ex → b ∉ ch := fun b o e hx hb => by
    rcases (hch b hb).1 with z | z
    · exact hx z
    · rw [e] at z; cases z
  have cellK : ∀ x c, X.env.cells.lookup x = some c → ∀ v, s.heap.IsCell c v → h'.IsCell c v := fun x c e v ⟨o, ho, hd⟩ => by
    have nch : c ∉ ch := fun z => (hch c z).2.2.1 x c e rfl
    by_cases hc : c ∈ X.fs
    · obtain ⟨sl, q⟩ := slot c o (I.cne x c e) hc nch ho (I.freeC x c e)
      exact ⟨_, q, hd⟩
    · exact ⟨o, keep c o (I.cne x c e) hc nch ho (I.freeC x c e), hd⟩
  refine ⟨I.ok, I.os, hg, ⟨fun b o e n hb hx => ?_, fun b o e n hb hx => ?_, fun b o e n hx => ?_, fun b o e hx => ?_, fun b xs e => tups b xs (I.base.tups b xs e), fun b o xs e => frzs b o xs (I.base.frzs b o xs e), fun b ps e => ?_⟩, ?_, fun x c e => ?_, ?_, fun x c e => ?_, fun p hp => ?_, hok, I.len⟩
  · exact keep b o (neL b o e) hb (neC b o e hx) (I.base.keep b o e n hb hx) (I.base.free b o e n hx)
  · obtain ⟨sl, e1⟩ := I.base.slot b o e n hb hx
    obtain ⟨sl', e2⟩ := slot b _ (neL b o e) hb (neC b o e hx) e1 (I.base.free b o e n hx)
    exact ⟨sl', e2⟩
  · obtain ⟨o', e1⟩ := I.base.there b o e hx
    exact free b o' (neC b o e hx) e1 (I.base.free b o e n hx)
  · obtain ⟨o', e1⟩ := I.base.there b o e hx
    exact there b o' (neC b o e hx) e1
  · obtain ⟨m1, e1⟩ := I.base.tbls b ps e
    obtain ⟨m2, e2⟩ := tbls b _ e1
    exact ⟨m1 ++ m2, by rw [e2, Array.append_assoc]⟩
  · obtain ⟨m, hn, hl⟩ := I.loc
    refine ⟨m, ns m hn, fun i x v e1 e2 e3 => ?_⟩
    obtain ⟨u, r, l⟩ := hl i x v e1 e2 e3
    refine ⟨u, r, ?_⟩
    rcases l with l | ⟨k, c, e, z⟩
    · exact .inl l
    · exact .inr ⟨k, c, e, cellK x c e _ z⟩
  · obtain ⟨v, z⟩ := I.cell x c e
    exact ⟨v, cellK x c e v z⟩
  · obtain ⟨m, ⟨o, _, _, ho, _⟩, _⟩ := I.loc
    exact free _ o (fun z => (hch _ z).2.1 rfl) ho I.free
  · obtain ⟨v, o, ho, hd⟩ := I.cell x c e
    exact free c o (fun z => (hch c z).2.2.1 x c e rfl) ho (I.freeC x c e)
  · obtain ⟨e, n, ne, nf, d⟩ := I.pin p hp
    have nch : p.1 ∉ ch := fun z => (hch p.1 z).2.2.2 p hp rfl
    exact ⟨keep p.1 p.2 ne nf nch e n, free p.1 p.2 nch e n, ne, nf, d⟩
/-- .. where the frame's own object is kept too -/
theorem Inv.un {t' : Nat} (I : Inv X pins σ H s) (u : Un X.fs [] H H' s.heap h') (hok : HOk X.prog X.w H' h') : Inv X pins σ H' { s with heap := h', toks := t' } := by
  obtain ⟨m, ⟨o, es, ep, ho, r⟩, _⟩ := id I.loc
  obtain ⟨sl, hL⟩ := u.any ho I.free (by simp)
  exact I.step (g' := s.gens) (d' := s.drawn) (ch := []) (fun _ z => nomatch z) (fun b o _ hb _ e n => u.keep b o e n hb (by simp)) (fun b o _ hb _ e n => u.slot b o e n hb (by simp)) (fun b o _ e n => u.free b o e n (by simp)) (fun b o _ e => u.there b o e (by simp)) u.tups u.frzs u.tbls (fun m' hm => by
    obtain ⟨o', es', ep', ho', r'⟩ := hm
    rw [ho] at ho'; cases ho'
    exact ⟨_, es', ep', hL, r'⟩) hok I.bare
/-- behind a call (or a comprehension's block): the slots of this frame may have changed too, the records at ch may have turned -/
theorem Inv.call {g' : Array GenState} {t' : Nat} {d' : Drawn} {ch : List Addr} (I : Inv X pins σ H s) (u : Un (frs X.stack) ch H H' s.heap h') (hok : HOk X.prog X.w H' h') (hg : AllBare g')
    (hch : ∀ b ∈ ch, (b ∈ X.ex ∨ X.s₀.heap.get? b = none) ∧ b ≠ X.env.locals ∧ (∀ x c, X.env.cells.lookup x = some c → c ≠ b) ∧ ∀ p ∈ X.pn ++ pins, p.1 ≠ b) :
    Inv X pins σ H' { s with heap := h', gens := g', drawn := d', toks := t' } := by
  obtain ⟨m, ⟨o, es, ep, ho, r⟩, _⟩ := id I.loc
  obtain ⟨sl, hL⟩ := u.any ho I.free fun z => (hch _ z).2.1 rfl
  exact I.step (ch := ch) hch (fun b o hL hb hc e n => u.keep b o e n (fun z => (List.mem_cons.mp (I.stkSub b z)).elim hL hb) hc) (fun b o _ _ hc e n => u.any e n hc) (fun b o hc e n => u.free b o e n hc) (fun b o hc e => u.there b o e hc) u.tups u.frzs u.tbls (fun m' hm => by
    obtain ⟨o', es', ep', ho', r'⟩ := hm
    rw [ho] at ho'; cases ho'
    exact ⟨_, es', ep', hL, r'⟩) hok hg
/-- an untracked record of ours (an iterator) has turned -/
theorem Inv.turned {t' : Nat} {it : Addr} (I : Inv X pins σ H s) (k : ∀ b o, b ≠ it → s.heap.get? b = some o → h'.get? b = some o) (hn : H it = none) (hL : it ≠ X.env.locals)
    (h1 : it ∈ X.ex ∨ X.s₀.heap.get? it = none) (h2 : ∀ x c, X.env.cells.lookup x = some c → c ≠ it) (h3 : ∀ p ∈ X.pn ++ pins, p.1 ≠ it) : Inv X pins σ H { s with heap := h', toks := t' } := by
  have nit : ∀ b u, H b = some u → b ≠ it := fun b u e z => by rw [z, hn] at e; cases e
  refine I.step (g' := s.gens) (d' := s.drawn) (ch := [it]) (fun b hb => ?_) (fun b o _ _ hc e _ => k b o (fun z => hc (by simp [z])) e) (fun b o _ _ hc e _ => ⟨o.slots, k b o (fun z => hc (by simp [z])) e⟩) (fun _ _ _ _ n => n)
    (fun b o hc e => ⟨o, k b o (fun z => hc (by simp [z])) e⟩) (fun _ _ e => e) (fun _ _ _ e => e) (fun b ps e => ⟨#[], by rw [e]; simp⟩) (fun m hm => ?_) (fun b u e => ?_) I.bare
  · have e : b = it := by simpa using hb
    subst e
    exact ⟨h1, hL, h2, h3⟩
  · obtain ⟨o, es, ep, ho, r⟩ := hm
    exact ⟨o, es, ep, k _ o (Ne.symm hL) ho, r⟩
  · refine (I.hok b u e).stay (fun c v hc q => k c v ?_ q) (fun _ q => q) fun _ _ q => q
    rcases hc with z | z
    · rw [z]; exact nit b u e
    · exact nit c _ z
theorem Inv.tok (I : Inv X pins σ H s) (t : Nat) : Inv X pins σ H { s with toks := t } := I.un (h' := s.heap) (t' := t) Un.refl I.hok
/-- all objects kept -/
theorem Inv.kept {t' : Nat} (I : Inv X pins σ H s) (k : ∀ b u, s.heap.get? b = some u → h'.get? b = some u) : Inv X pins σ H { s with heap := h', toks := t' } := I.un (Un.kept k) (I.hok.kept k)
/-- a new object laid and tracked -/
theorem Inv.laid {a : Addr} {o : HO} {t' : Nat} (I : Inv X pins σ H s) (k : ∀ b u, s.heap.get? b = some u → h'.get? b = some u) (hp : s.heap.objs.size ≤ a) (new : ObjOk X.prog X.w (upd H a o) h' a o) :
    Inv X pins σ (upd H a o) { s with heap := h', toks := t' } := I.un (Un.laid k hp (I.hok.fresh hp)) (I.hok.laid k hp new)
/-- an object written -/
theorem Inv.write {x e : Addr} {o : HO} {t' : Nat} (I : Inv X pins σ H s) (mu : Mut (H x)) (he : e = x ∨ H e = some (.own x)) (k : ∀ b u, b ≠ e → s.heap.get? b = some u → h'.get? b = some u) (heo : ∃ u, h'.get? e = some u)
    (new : ObjOk X.prog X.w (upd H x o) h' x o) : Inv X pins σ (upd H x o) { s with heap := h', toks := t' } := I.un (Un.write mu he k heo) (I.hok.write mu he k heo new)
/-- forgetting slots, pins -/
theorem Inv.weak {σ' : List (Option V)} (I : Inv X pins σ H s) (hl : σ'.length = σ.length) (w : ∀ (i : Nat) v, σ'[i]? = some (some v) → σ[i]? = some (some v)) : Inv X pins σ' H s :=
  ⟨I.ok, I.os, I.bare, I.base, let ⟨m, hn, hl'⟩ := I.loc; ⟨m, hn, fun i x v e1 e2 e3 => hl' i x v e1 (w i v e2) e3⟩, I.cell, I.free, I.freeC, I.pin, I.hok, hl.trans I.len⟩
theorem Inv.pins_of {pins' : List (Addr × Obj)} (I : Inv X pins σ H s) (h : ∀ p ∈ pins', s.heap.get? p.1 = some p.2 ∧ H p.1 = none ∧ p.1 ≠ X.env.locals ∧ p.1 ∉ X.fs ∧ ∀ v, p.2.data ≠ .cell v) : Inv X pins' σ H s :=
  ⟨I.ok, I.os, I.bare, I.base, I.loc, I.cell, I.free, I.freeC, fun p hp => (List.mem_append.mp hp).elim (fun z => I.pin p (List.mem_append_left _ z)) (h p), I.hok, I.len⟩

theorem nodup_ix {N : List Str} (hN : N.Nodup) {i j : Nat} {x : Str} (a : N[i]? = some x) (b : N[j]? = some x) : i = j := by
  obtain ⟨h1, e1⟩ := List.getElem?_eq_some_iff.mp a
  obtain ⟨h2, e2⟩ := List.getElem?_eq_some_iff.mp b
  exact (List.getElem_inj hN).mp (e1.trans e2.symm)

/-- a name is stored; what changed -/
theorem store_ok2 {M : Model} {A : Around} {E : Value → Shared → Prop} {i : Nat} {x : Str} {v : V} {u : Value} {Q : Unit → Shared → Prop} (I : Inv X pins σ H s) (hN : X.N.Nodup) (hi : X.N[i]? = some x) (hx : Loc X.env.scope x) (r : RelV v u)
    (h : ∀ s', Inv X pins (σ.set i (some v)) H s' → (∃ a, Heap.SameBut a s.heap s'.heap ∧ (a = X.env.locals ∨ X.env.cells.lookup x = some a)) → Q () s') (hf : X.fn x = true ∨ X.env.scope.names.lookup x = some .local := by first | exact .inl rfl | exact .inr rfl | assumption) : wpAny M A (storeName X.env x u) Q E s := by
  obtain ⟨m, hn, hl⟩ := id I.loc
  have hcls : (X.env.scope.kind == .class || (X.env.scope.kind == .module && X.env.locals != X.env.globals)) = false := by rw [I.ok.kind]; rfl
  have hiσ : i < σ.length := by rw [I.len]; exact (List.getElem?_eq_some_iff.mp hi).1
  have cne := I.cne
  have tracked : ∀ {a : Addr} {h' : Heap}, (∃ o, s.heap.get? a = some o ∧ H a = none) → Heap.SameBut a s.heap h' → HOk X.prog X.w H h' := fun {a h'} ha hs b ob e => by
    obtain ⟨_, _, hfree⟩ := ha
    refine (I.hok b ob e).stay (fun c w' hc q => (hs.2 c ?_).trans q) (fun _ q => q) fun _ _ q => q
    rintro rfl
    rcases hc with rfl | hc
    · rw [hfree] at e; cases e
    · rw [hfree] at hc; cases hc
  rcases hx with hk | hk
  · refine wpAny_storeName_local hk hn (fun h' hn' hs => ?_) hcls
    obtain ⟨oL, _, _, hoL, _⟩ := id hn
    refine h _ ⟨I.ok, I.os, I.bare, ⟨fun b o e n hb hx => ?_, fun b o e n hb hx => ?_, I.base.free, fun b o e hx => ?_, I.base.tups, I.base.frzs, I.base.tbls⟩, ⟨_, hn', fun j y v' e1 e2 e3 => ?_⟩, fun y c e => ?_, I.free, I.freeC, fun p hp => ?_, tracked ⟨oL, hoL, I.free⟩ hs, by simpa using I.len⟩ ⟨_, hs, .inl rfl⟩
    · exact (hs.2 b (Nat.ne_of_lt (Nat.lt_of_lt_of_le (Heap.lt_size e) I.ok.above))).trans (I.base.keep b o e n hb hx)
    · obtain ⟨sl, e1⟩ := I.base.slot b o e n hb hx
      exact ⟨sl, (hs.2 b (Nat.ne_of_lt (Nat.lt_of_lt_of_le (Heap.lt_size e) I.ok.above))).trans e1⟩
    · obtain ⟨o', e1⟩ := I.base.there b o e hx
      exact ⟨o', (hs.2 b (Nat.ne_of_lt (Nat.lt_of_lt_of_le (Heap.lt_size e) I.ok.above))).trans e1⟩
    · by_cases hj : j = i
      · subst hj
        rw [hi] at e1; cases e1
        rw [List.getElem?_set_self hiσ] at e2
        cases e2
        exact ⟨u, r, .inl ⟨hk, by simp⟩⟩
      · rw [List.getElem?_set_ne (Ne.symm hj)] at e2
        obtain ⟨u', r', q⟩ := hl j y v' e1 e2 e3
        refine ⟨u', r', ?_⟩
        rcases q with ⟨k, e⟩ | ⟨k, c, e, z⟩
        · refine .inl ⟨k, ?_⟩
          have : y ≠ x := fun e => hj (nodup_ix hN e1 (e ▸ hi))
          simp [this, e]
        · exact .inr ⟨k, c, e, z.sameBut hs (cne y c e)⟩
    · obtain ⟨w', z⟩ := I.cell y c e
      exact ⟨w', z.sameBut hs (cne y c e)⟩
    · obtain ⟨e, n, ne, nf, d⟩ := I.pin p hp
      exact ⟨(hs.2 p.1 ne).trans e, n, ne, nf, d⟩
  · have hfn : X.fn x = true := by
      rcases hf with z | z
      · exact z
      · rw [z] at hk; cases hk
    obtain ⟨c, hc⟩ := I.ok.has x (.inl hk)
    obtain ⟨w', z⟩ := I.cell x c hc
    refine wpAny_storeName_cell I.ok.kind hk hc z (fun h' hc' hs => ?_)
    obtain ⟨oc, hoc, hocd⟩ := id z
    refine h { s with heap := h' } ⟨I.ok, I.os, I.bare, ⟨fun b o e n hb hx => ?_, fun b o e n hb hx => ?_, I.base.free, fun b o e hx => ?_, I.base.tups, I.base.frzs, I.base.tbls⟩, ⟨m, hn.sameBut hs (Ne.symm (cne x c hc)), fun j y v' e1 e2 e3 => ?_⟩, fun y c' e => ?_, I.free, I.freeC, fun p hp => ?_, tracked ⟨oc, hoc, I.freeC x c hc⟩ hs, by simpa using I.len⟩ ⟨c, hs, .inr hc⟩
    · exact (hs.2 b (Nat.ne_of_lt (Nat.lt_of_lt_of_le (Heap.lt_size e) (I.ok.cab x c hfn hc)))).trans (I.base.keep b o e n hb hx)
    · obtain ⟨sl, e1⟩ := I.base.slot b o e n hb hx
      exact ⟨sl, (hs.2 b (Nat.ne_of_lt (Nat.lt_of_lt_of_le (Heap.lt_size e) (I.ok.cab x c hfn hc)))).trans e1⟩
    · obtain ⟨o', e1⟩ := I.base.there b o e hx
      exact ⟨o', (hs.2 b (Nat.ne_of_lt (Nat.lt_of_lt_of_le (Heap.lt_size e) (I.ok.cab x c hfn hc)))).trans e1⟩
    · by_cases hj : j = i
      · subst hj
        rw [hi] at e1; cases e1
        rw [List.getElem?_set_self hiσ] at e2
        cases e2
        exact ⟨u, r, .inr ⟨.inl hk, c, hc, hc'⟩⟩
      · rw [List.getElem?_set_ne (Ne.symm hj)] at e2
        obtain ⟨u', r', q⟩ := hl j y v' e1 e2 e3
        refine ⟨u', r', ?_⟩
        rcases q with q | ⟨k, c', e, z'⟩
        · exact .inl q
        · refine .inr ⟨k, c', e, z'.sameBut hs ?_⟩
          rintro rfl
          exact hj (nodup_ix hN e1 (I.ok.inj _ _ _ e hc ▸ hi))
    · by_cases hcc : c' = c
      · subst hcc; exact ⟨_, hc'⟩
      · obtain ⟨w2, z2⟩ := I.cell y c' e
        exact ⟨w2, z2.sameBut hs hcc⟩
    · obtain ⟨e, n, ne, nf, d⟩ := I.pin p hp
      refine ⟨(hs.2 p.1 ?_).trans e, n, ne, nf, d⟩
      intro q
      rw [q, hoc] at e
      have q' : oc = p.2 := Option.some.inj e
      exact d w' (by rw [← q']; exact hocd)
theorem store_ok {M : Model} {A : Around} {E : Value → Shared → Prop} {i : Nat} {x : Str} {v : V} {u : Value} {Q : Unit → Shared → Prop} (I : Inv X pins σ H s) (hN : X.N.Nodup) (hi : X.N[i]? = some x) (hx : Loc X.env.scope x) (r : RelV v u)
    (h : ∀ s', Inv X pins (σ.set i (some v)) H s' → Q () s') (hf : X.fn x = true ∨ X.env.scope.names.lookup x = some .local := by first | exact .inl rfl | exact .inr rfl | assumption) : wpAny M A (storeName X.env x u) Q E s :=
  store_ok2 I hN hi hx r (fun s' I' _ => h s' I') hf
/-- behind a call or a block, the state as it is -/
theorem Inv.call' {s' : Shared} {ch : List Addr} (I : Inv X pins σ H s) (ho : s'.os = s.os) (u : Un (frs X.stack) ch H H' s.heap s'.heap) (hok : HOk X.prog X.w H' s'.heap) (hg : AllBare s'.gens)
    (hch : ∀ b ∈ ch, (b ∈ X.ex ∨ X.s₀.heap.get? b = none) ∧ b ≠ X.env.locals ∧ (∀ x c, X.env.cells.lookup x = some c → c ≠ b) ∧ ∀ p ∈ X.pn ++ pins, p.1 ≠ b) : Inv X pins σ H' s' := by
  obtain ⟨h', g', d', t', o'⟩ := s'
  have e : o' = s.os := ho
  subst e
  exact I.call (g' := g') (t' := t') (d' := d') u hok hg hch
end

/-! ### the judgements -/
/-- an exception: its class, its own dict's address (where it has one), the abstract heap behind it -/
abbrev XK := Value → Option Addr → Hp → Prop
abbrev St := List (Option V)
abbrev VK := V → Hp → Prop
/-- an expression's reading; a test's; an argument list's -/
abbrev TE := St → Hp → VK → Prop
abbrev TT := St → Hp → (Bool → Hp → Prop) → Prop
abbrev TA := St → Hp → (List V → Hp → Prop) → Prop
/-- what is wanted behind a statement -/
structure Ends where
  nx : St → Hp → Prop
  rt : VK
  bk : St → Hp → Prop := fun _ _ => False
  ct : St → Hp → Prop := fun _ _ => False
abbrev TS := Ends → St → Hp → Prop

def EP (X : Cx) (pins : List (Addr × Obj)) (σ : St) (Q : VK) (u : Value) (s' : Shared) : Prop := ∃ v H', Inv X pins σ H' s' ∧ RelV v u ∧ Q v H'
def TP (X : Cx) (pins : List (Addr × Obj)) (σ : St) (Q : Bool → Hp → Prop) (b : Bool) (s' : Shared) : Prop := ∃ H', Inv X pins σ H' s' ∧ Q b H'
def AP (X : Cx) (pins : List (Addr × Obj)) (σ : St) (Q : List V → Hp → Prop) (us : List Value) (s' : Shared) : Prop := ∃ vs H', Inv X pins σ H' s' ∧ Vals vs us ∧ Q vs H'
def SP (X : Cx) (pins : List (Addr × Obj)) (D : Ends) (f : Flow) (s' : Shared) : Prop :=
  match f with
  | .next => ∃ σ' H', Inv X pins σ' H' s' ∧ D.nx σ' H'
  | .brk => ∃ σ' H', Inv X pins σ' H' s' ∧ D.bk σ' H'
  | .cont => ∃ σ' H', Inv X pins σ' H' s' ∧ D.ct σ' H'
  | .ret u => ∃ v σ' H', Inv X pins σ' H' s' ∧ RelV v u ∧ D.rt v H'

def PE (X : Cx) (e : Expr) (t : TE) : Prop :=
  ∀ (pins : List (Addr × Obj)) (s : Shared) (σ : St) (H : Hp) (Q : VK), Inv X pins σ H s → t σ H Q → wpAny (model X.prog X.w) X.A (eval e X.env) (EP X pins σ Q) X.xe s
def PT (X : Cx) (e : Expr) (t : TT) : Prop :=
  ∀ (pins : List (Addr × Obj)) (s : Shared) (σ : St) (H : Hp) (Q : Bool → Hp → Prop), Inv X pins σ H s → t σ H Q → wpAny (model X.prog X.w) X.A (isTrue e X.env (eval e X.env)) (TP X pins σ Q) X.xe s
/-- a test whatever its 'whole' is (and, or) -/
def PW (X : Cx) (e : Expr) (t : TT) : Prop :=
  ∀ (whole : Sem Value) (pins : List (Addr × Obj)) (s : Shared) (σ : St) (H : Hp) (Q : Bool → Hp → Prop), Inv X pins σ H s → t σ H Q → wpAny (model X.prog X.w) X.A (isTrue e X.env whole) (TP X pins σ Q) X.xe s
theorem PW.pt {X : Cx} {e : Expr} {t : TT} (h : PW X e t) : PT X e t := h _
/-- an argument list (no star), from the left -/
def PA (X : Cx) (es : List Expr) (t : TA) : Prop :=
  ∀ (pos : Pos) (pins : List (Addr × Obj)) (s : Shared) (σ : St) (H : Hp) (Q : List V → Hp → Prop), Inv X pins σ H s → t σ H Q → wpAny (model X.prog X.w) X.A (spliced (backTo pos (starEach es X.env))) (AP X pins σ Q) X.xe s
def PS (X : Cx) (st : Stmt) (t : TS) : Prop :=
  ∀ (pins : List (Addr × Obj)) (s : Shared) (σ : St) (H : Hp) (D : Ends), Inv X pins σ H s → t D σ H → wpAny (model X.prog X.w) X.A (exec st X.env) (SP X pins D) X.xe s
def PSs (X : Cx) (st : List Stmt) (t : TS) : Prop :=
  ∀ (pins : List (Addr × Obj)) (s : Shared) (σ : St) (H : Hp) (D : Ends), Inv X pins σ H s → t D σ H → wpAny (model X.prog X.w) X.A (execs st X.env) (SP X pins D) X.xe s
/-- weaken the end -/
theorem thn {α : Type} {t : Sem α} {Q Q' : α → Shared → Prop} {M : Model} {A : Around} {E : Value → Shared → Prop} {s : Shared} (h : wpAny M A t Q E s) (hQ : ∀ a s, Q a s → Q' a s) : wpAny M A t Q' E s := wpAny_mono h hQ fun _ _ x => x
end L2

namespace L2
open PySem PySem.Spec PyProof.Rows
section
variable {X : Cx}


/-! ### names and constants -/
def tVar (i : Nat) : TE := fun σ H Q => ∃ v, σ[i]? = some (some v) ∧ Q v H
def tC (v : V) : TE := fun _ H Q => Q v H
theorem pe_var {i : Nat} {x : Str} {pos : Pos} (hN : X.N[i]? = some x) (hv : Vis X.env.scope x) (hd : (x == ("__debug__" : Str)) = false := by decide) (hcd : (x == ("__classdict__" : Str)) = false := by decide) : PE X (.Name x pos) (tVar i) := by
  intro pins s σ H Q I h
  obtain ⟨v, e, h⟩ := h
  obtain ⟨m, hn, hl⟩ := I.loc
  obtain ⟨u, r, l⟩ := hl i x v hN e hv
  have fin : EP X pins σ Q u s := ⟨v, H, I, r, h⟩
  rcases l with ⟨hk, hm⟩ | ⟨hk, c, hc, hcell⟩
  · exact wpAny_Name (wpAny_loadName_local I.ok.kind hk hn hm fin) hd
  · rcases hk with hk | hk
    · exact wpAny_Name (wpAny_loadName_cell I.ok.kind hk hc hcell fin) hd
    · exact wpAny_Name (wpAny_loadName_free I.ok.kind hk hc hcell fin hcd) hd
theorem pe_int {i j pos} : PE X (.Constant (.int i) j pos) (tC (.int i)) := fun _ _ _ H _ I h => wpAny_Constant_int ⟨.int i, H, I.tok _, ⟨_, rfl⟩, h⟩
theorem pe_bl {b j pos} : PE X (.Constant (.bool b) j pos) (tC (.bl b)) := fun _ _ _ H _ I h => Constant_bool ⟨.bl b, H, I, rfl, h⟩
theorem pe_non {j pos} : PE X (.Constant .none j pos) (tC .non) := fun _ _ _ H _ I h => Constant_none ⟨.non, H, I, rfl, h⟩

/-- a global name of the def -/
def Gl (X : Cx) (x : Str) : Prop := X.env.kindOf x = some .globalImplicit
theorem ld_glob {E : Value → Shared → Prop} {pins : List (Addr × Obj)} {s : Shared} {σ : St} {H : Hp} {x : Str} {u : Value} {pos : Pos} {Q : Value → Shared → Prop} (I : Inv X pins σ H s) (hg : Gl X x) (hm : X.mg x = some u) (h : Q u s)
    (hd : (x == ("__debug__" : Str)) = false := by decide) : wpAny (model X.prog X.w) X.A (eval (.Name x pos) X.env) Q E s :=
  Calls.Name_function_global I.ok.kind hg (Calls.loadGlobal_global (by rw [I.ok.glob]; exact I.mod.glob.keeps I.bk) hm h) hd
theorem ld_blt {E : Value → Shared → Prop} {pins : List (Addr × Obj)} {s : Shared} {σ : St} {H : Hp} {x : Str} {u : Value} {pos : Pos} {Q : Value → Shared → Prop} (I : Inv X pins σ H s) (hg : Gl X x) (hm : X.mg x = none) (hv : bootBuiltins x = some u) (h : Q u s)
    (hn : x ≠ "__name__" := by decide) (hd : (x == ("__debug__" : Str)) = false := by decide) : wpAny (model X.prog X.w) X.A (eval (.Name x pos) X.env) Q E s := by
  obtain ⟨mb, h1, h2⟩ := I.mod.blt
  exact Calls.Name_function_global I.ok.kind hg (Calls.loadGlobal_builtin (by rw [I.ok.glob]; exact I.mod.glob.keeps I.bk) hm (by rw [I.ok.blt]; exact h1.keeps I.bk) ((h2 x hn).trans hv) h) hd
/-- a module's constant, a class, a function, as a value -/
theorem pe_glob {x : Str} {v : V} {u : Value} {pos : Pos} (hg : Gl X x) (hm : X.mg x = some u) (r : RelV v u) (hd : (x == ("__debug__" : Str)) = false := by decide) : PE X (.Name x pos) (tC v) :=
  fun _ _ _ H _ I h => ld_glob I hg hm ⟨v, H, I, r, h⟩ hd

/-! ### arithmetic -/
/-- two ints -/
def t2I (ta tb : TE) (k : Int → Int → Hp → Prop) : St → Hp → Prop := fun σ H => ta σ H fun x H1 => tb σ H1 fun y H2 => ∃ i j, x = .int i ∧ y = .int j ∧ k i j H2
def tAdd (ta tb : TE) : TE := fun σ H Q => t2I ta tb (fun i j H2 => Q (.int (i + j)) H2) σ H
def tSub (ta tb : TE) : TE := fun σ H Q => t2I ta tb (fun i j H2 => Q (.int (i - j)) H2) σ H
/-- the left factor below 2^64 -/
def tMul (ta tb : TE) : TE := fun σ H Q => t2I ta tb (fun i j H2 => (-(2 ^ 64) < i ∧ i < 2 ^ 64) ∧ Q (.int (i * j)) H2) σ H
variable {a b : Expr} {ta tb : TE} {pos : Pos}

/-! ### comparisons -/
def PC (X : Cx) (op : CmpOp) (a b : Expr) (t : TE) : Prop :=
  ∀ (pins : List (Addr × Obj)) (s : Shared) (σ : St) (H : Hp) (Q : VK), Inv X pins σ H s → t σ H Q →
    wpAny (model X.prog X.w) X.A (eval a X.env) (fun v s₁ => wpAny (model X.prog X.w) X.A (eval b X.env) (fun u s₂ => wpAny (model X.prog X.w) X.A (compareOp op v u) (EP X pins σ Q) X.xe s₂) X.xe s₁) X.xe s
def tCmp (p : Int → Int → Bool) (ta tb : TE) : TE := fun σ H Q => t2I ta tb (fun i j H2 => Q (.bl (p i j)) H2) σ H
abbrev tLt : TE → TE → TE := tCmp fun i j => decide (i < j)
abbrev tLe : TE → TE → TE := tCmp fun i j => decide (i ≤ j)
abbrev tGt : TE → TE → TE := tCmp fun i j => decide (j < i)
abbrev tGe : TE → TE → TE := tCmp fun i j => decide (j ≤ i)
abbrev tEqI : TE → TE → TE := tCmp fun i j => decide (i = j)
abbrev tNeI : TE → TE → TE := tCmp fun i j => !decide (i = j)
/-- is None -/
def tIsN (ta : TE) : TE := fun σ H Q => ta σ H fun x H1 => Q (.bl (decide (x = .non))) H1
def tNotN (ta : TE) : TE := fun σ H Q => ta σ H fun x H1 => Q (.bl (!decide (x = .non))) H1
/-- a comparison as a value, as a test -/
def tB (t : TE) : TT := fun σ H Q => t σ H fun x H1 => ∃ c, x = .bl c ∧ Q c H1
/-- an expression whose value is a bool, as a test -/
theorem pt_val {e : Expr} {t : TE} (h : PE X e t) (he : ∀ whole, isTrue e X.env whole = (do let v ← whole; standAt e.pos; holding [v] (truthy v)) := by intro _; rfl) : PT X e (tB t) := by
  intro pins s σ H Q I hw
  refine isTrue_plain (thn (h pins s σ H _ I hw) fun v s1 ⟨x, H1, I1, r1, q1⟩ => ?_) (he _)
  obtain ⟨d, rfl, q⟩ := q1
  cases r1
  exact wpAny_truthy_bool ⟨H1, I1, q⟩

/-! ### and, or, not -/
variable {tA tB' : TT} {rest : List Expr}
def tAnd (t u : TT) : TT := fun σ H Q => t σ H fun c H1 => if c = true then u σ H1 Q else Q false H1
def tOr (t u : TT) : TT := fun σ H Q => t σ H fun c H1 => if c = true then Q true H1 else u σ H1 Q
def tNot (t : TT) : TT := fun σ H Q => t σ H fun c H1 => Q (!c) H1
theorem pw_and1 (ha : PT X a tA) : PW X (.BoolOp .And [a] pos) tA := by
  intro wh pins s σ H Q I h
  refine isTrue_and (thn (ha pins s σ H Q I h) fun c s1 e => ?_)
  cases c with
  | true => exact isTrue_and_nil e
  | false => exact e
theorem pw_or1 (ha : PT X a tA) : PW X (.BoolOp .Or [a] pos) tA := by
  intro wh pins s σ H Q I h
  refine isTrue_or (thn (ha pins s σ H Q I h) fun c s1 e => ?_)
  cases c with
  | false => exact isTrue_or_nil e
  | true => exact e
theorem pw_and (ha : PT X a tA) (hb : PW X (.BoolOp .And (b :: rest) pos) tB') : PW X (.BoolOp .And (a :: b :: rest) pos) (tAnd tA tB') := by
  intro wh pins s σ H Q I h
  refine isTrue_and (thn (ha pins s σ H _ I h) fun c s1 ⟨H1, I1, q1⟩ => ?_)
  cases c with
  | true => exact hb wh pins s1 σ H1 Q I1 q1
  | false => exact ⟨H1, I1, q1⟩
theorem pw_or (ha : PT X a tA) (hb : PW X (.BoolOp .Or (b :: rest) pos) tB') : PW X (.BoolOp .Or (a :: b :: rest) pos) (tOr tA tB') := by
  intro wh pins s σ H Q I h
  refine isTrue_or (thn (ha pins s σ H _ I h) fun c s1 ⟨H1, I1, q1⟩ => ?_)
  cases c with
  | true => exact ⟨H1, I1, q1⟩
  | false => exact hb wh pins s1 σ H1 Q I1 q1
theorem pt_not (ha : PT X a tA) : PT X (.UnaryOp .Not a pos) (tNot tA) := by
  intro pins s σ H Q I h
  exact isTrue_not (ha pins s σ H (fun c H1 => Q (!c) H1) I h)
/-- .. as values (bools) -/
def tAndV (ta tb : TE) : TE := fun σ H Q => ta σ H fun x H1 => ∃ c, x = .bl c ∧ if c = true then tb σ H1 Q else Q (.bl false) H1
def tOrV (ta tb : TE) : TE := fun σ H Q => ta σ H fun x H1 => ∃ c, x = .bl c ∧ if c = true then Q (.bl true) H1 else tb σ H1 Q
def tNotV (ta : TE) : TE := fun σ H Q => ta σ H fun x H1 => ∃ c, x = .bl c ∧ Q (.bl (!c)) H1
/-- a if t else b -/
def tIf (t : TT) (ta tb : TE) : TE := fun σ H Q => t σ H fun c H1 => if c = true then ta σ H1 Q else tb σ H1 Q
theorem pe_ifExp {c : Expr} (hc : PT X c tA) (ha : PE X a ta) (hb : PE X b tb) : PE X (.IfExp c a b pos) (tIf tA ta tb) := by
  intro pins s σ H Q I h
  refine wpAny_IfExp (thn (hc pins s σ H _ I h) fun d s1 ⟨H1, I1, q1⟩ => ?_)
  cases d with
  | true => exact ha pins s1 σ H1 Q I1 q1
  | false => exact hb pins s1 σ H1 Q I1 q1
end
end L2

namespace L2
open PySem PySem.Spec PyProof.Rows

/-! ### a list, a tuple that is read: tracked, frozen, or an object of the module -/
def SqL (K : PySem.W.Frag) (H : Hp) (a : Addr) (xs : List V) : Prop :=
  Rd H a (.lst xs) ∨
    ∃ (o : Obj) (its : Array Value) (n : Nat), K.lookup a = some o ∧ o.cls = .type "list" ∧ o.dict = none ∧ o.data = .seq its n ∧ its.size ≤ sizeLine ∧ Vals xs its.toList
def SqT (K : PySem.W.Frag) (H : Hp) (a : Addr) (xs : List V) : Prop :=
  Rd H a (.tup xs) ∨
    ∃ (o : Obj) (its : Array Value) (n : Nat), K.lookup a = some o ∧ o.cls = .type "tuple" ∧ o.data = .seq its n ∧ its.size ≤ sizeLine ∧ Vals xs its.toList
def absV : Value → Option V
  | .none => some .non
  | .bool b => some (.bl b)
  | .int i _ => some (.int i)
  | .str x _ => some (.str x)
  | .bytes b _ => some (.byt b)
  | .float b _ => some (.flt b)
  | .ref a => some (.ref a)
  | .type n => some (.ty n)
  | _ => none
theorem RelV.abs {x : V} {u : Value} (r : RelV x u) : absV u = some x := by
  cases x with
  | non => cases r; rfl
  | bl _ => cases r; rfl
  | int _ => obtain ⟨t, rfl⟩ := r; rfl
  | str _ => obtain ⟨t, rfl⟩ := r; rfl
  | byt _ => obtain ⟨t, rfl⟩ := r; rfl
  | flt _ => obtain ⟨t, rfl⟩ := r; rfl
  | ref _ => cases r; rfl
  | ty _ => cases r; rfl
theorem RelV.inj {x y : V} {u : Value} (r : RelV x u) (q : RelV y u) : x = y := Option.some.inj (r.abs.symm.trans q.abs)
theorem Vals.inj : ∀ {xs ys : List V} {us : List Value}, Vals xs us → Vals ys us → xs = ys
  | _, _, _, .nil, .nil => rfl
  | _, _, _, .cons r t, .cons r' t' => by rw [r.inj r', Vals.inj t t']
section
variable {X : Cx} {pins : List (Addr × Obj)} {σ : St} {H : Hp} {s : Shared} {a : Addr} {xs ys : List V}
theorem SqL.of {K : PySem.W.Frag} (h : H a = some (.lst xs)) : SqL K H a xs := .inl (.inl h)
theorem SqT.of {K : PySem.W.Frag} (h : H a = some (.tup xs)) : SqT K H a xs := .inl (.inl h)
theorem Inv.list (I : Inv X pins σ H s) (h : SqL X.K H a xs) : ∃ its : List Value, Vals xs its ∧ PlainL s.heap a its.toArray ∧ xs.length ≤ sizeLine := by
  rcases h with h | ⟨o, its, n, hk, hc, hd, hs, hz, r⟩
  · obtain ⟨z, its, n, r, e⟩ := h.ok I.hok
    exact ⟨its, r, ⟨_, n, e, rfl, rfl, rfl⟩, z⟩
  · refine ⟨its.toList, r, ⟨o, n, I.kIn a o hk, hc, hd, by simpa using hs⟩, ?_⟩
    have e := r.length
    simp only [Array.length_toList] at e
    omega
theorem Inv.tuple (I : Inv X pins σ H s) (h : SqT X.K H a xs) : ∃ its : List Value, Vals xs its ∧ IsTup s.heap a its.toArray ∧ xs.length ≤ sizeLine := by
  rcases h with h | ⟨o, its, n, hk, hc, hs, hz, r⟩
  · obtain ⟨z, its, r, p⟩ := h.ok I.hok
    exact ⟨its, r, p, z⟩
  · refine ⟨its.toList, r, ⟨o, I.kIn a o hk, hc, n, by simpa using hs⟩, ?_⟩
    have e := r.length
    simp only [Array.length_toList] at e
    omega
theorem Inv.list_inj (I : Inv X pins σ H s) (h : SqL X.K H a xs) (h' : SqL X.K H a ys) : xs = ys := by
  obtain ⟨its, r, ⟨o, n, e, _, _, d⟩, _⟩ := I.list h
  obtain ⟨its', r', ⟨o', n', e', _, _, d'⟩, _⟩ := I.list h'
  rw [e] at e'; cases e'
  rw [d] at d'
  injection d' with d1 _
  have : its = its' := by simpa using congrArg Array.toList d1
  subst this
  exact r.inj r'
theorem Inv.tuple_inj (I : Inv X pins σ H s) (h : SqT X.K H a xs) (h' : SqT X.K H a ys) : xs = ys := by
  obtain ⟨its, r, ⟨o, e, _, n, d⟩, _⟩ := I.tuple h
  obtain ⟨its', r', ⟨o', e', _, n', d'⟩, _⟩ := I.tuple h'
  rw [e] at e'; cases e'
  rw [d] at d'
  injection d' with d1 _
  have : its = its' := by simpa using congrArg Array.toList d1
  subst this
  exact r.inj r'
end

/-! ### another wish about exceptions -/
abbrev Cx.wish (X : Cx) (E : Value → Shared → Prop) : Cx := { X with xe := E }
/-- no exception leaves -/
abbrev Cx.nox (X : Cx) : Cx := X.wish fun _ _ => False
theorem Cx.Ok.wish {X : Cx} (ok : X.Ok) (E : Value → Shared → Prop) : (X.wish E).Ok :=
  ⟨ok.mod, ok.kind, ok.glob, ok.blt, ok.above, ok.inj, ok.has, ok.cab, ok.hd, ok.frames, ok.stk, ok.exf, ok.bs, ok.bsz, ok.noex, ok.exfs, ok.funs, ok.frf⟩
theorem Cx.Ok.unwish {X : Cx} {E : Value → Shared → Prop} (ok : (X.wish E).Ok) : X.Ok :=
  ⟨ok.mod, ok.kind, ok.glob, ok.blt, ok.above, ok.inj, ok.has, ok.cab, ok.hd, ok.frames, ok.stk, ok.exf, ok.bs, ok.bsz, ok.noex, ok.exfs, ok.funs, ok.frf⟩
section
variable {X : Cx} {pins : List (Addr × Obj)} {σ : St} {H : Hp} {s : Shared} {E : Value → Shared → Prop}
theorem Inv.wish (I : Inv X pins σ H s) (E : Value → Shared → Prop) : Inv (X.wish E) pins σ H s := ⟨I.ok.wish E, I.os, I.bare, I.base, I.loc, I.cell, I.free, I.freeC, I.pin, I.hok, I.len⟩
theorem Inv.unwish (I : Inv (X.wish E) pins σ H s) : Inv X pins σ H s := ⟨I.ok.unwish, I.os, I.bare, I.base, I.loc, I.cell, I.free, I.freeC, I.pin, I.hok, I.len⟩
theorem SP.unwish {D : Ends} {f : Flow} {s' : Shared} (h : SP (X.wish E) pins D f s') : SP X pins D f s' := by
  cases f with
  | next => obtain ⟨σ', H', I, q⟩ := h; exact ⟨σ', H', I.unwish, q⟩
  | brk => obtain ⟨σ', H', I, q⟩ := h; exact ⟨σ', H', I.unwish, q⟩
  | cont => obtain ⟨σ', H', I, q⟩ := h; exact ⟨σ', H', I.unwish, q⟩
  | ret u => obtain ⟨v, σ', H', I, r, q⟩ := h; exact ⟨v, σ', H', I.unwish, r, q⟩
theorem PSs.nox {st : List Stmt} {t : TS} (h : PSs X.nox st t) : PSs X st t := fun pins s σ H D I hw =>
  wpAny_mono (h pins s σ H D (I.wish _) hw) (fun _ _ q => q.unwish) fun _ _ z => False.elim z
end

/-! ### blocks and small statements -/
section
variable {X : Cx} {st : Stmt} {rest : List Stmt} {t u : TS} {e : Expr} {te : TE} {pos : Pos}
def tNext : TS := fun D σ H => D.nx σ H
def tSeq (t u : TS) : TS := fun D σ H => t { D with nx := u D } σ H
theorem pss_nil : PSs X [] tNext := fun _ _ σ H _ I h => wpAny_execs_nil ⟨σ, H, I, h⟩
theorem pss_cons (h1 : PS X st t) (h2 : PSs X rest u) : PSs X (st :: rest) (tSeq t u) := by
  intro pins s σ H D I h
  refine wpAny_execs_cons (thn (h1 pins s σ H { D with nx := u D } I h) fun f s1 q => ?_)
  cases f with
  | next =>
    obtain ⟨σ', H', I', q⟩ := q
    exact h2 pins s1 σ' H' D I' q
  | ret v => exact q
  | brk => exact q
  | cont => exact q
theorem pss_one (h1 : PS X st t) : PSs X [st] t := by
  intro pins s σ H D I h
  refine wpAny_execs_cons (thn (h1 pins s σ H D I h) fun f s1 q => ?_)
  cases f with
  | next => exact wpAny_execs_nil q
  | ret v => exact q
  | brk => exact q
  | cont => exact q
def tBreak : TS := fun D σ H => D.bk σ H
def tCont : TS := fun D σ H => D.ct σ H
/-- in a def's body nothing is shown -/
theorem Inv.quiet {pins : List (Addr × Obj)} {σ : St} {H : Hp} {s : Shared} (I : Inv X pins σ H s) : interactive X.env = false := by simp [interactive, I.ok.kind]
/-- an expression whose value is dropped -/
def tDrop (te : TE) : TS := fun D σ H => te σ H fun _ H1 => D.nx σ H1
theorem ps_expr (he : PE X e te) (hs : swapsWith e none pos.line X.env = pure false := by rfl) : PS X (.Expr e pos) (tDrop te) := by
  intro pins s σ H D I h
  exact wpAny_Expr_any (thn (he pins s σ H _ I h) fun v s1 ⟨x, H1, I1, r1, q1⟩ => ⟨σ, H1, I1, q1⟩) I.quiet hs
def tRet (te : TE) : TS := fun D σ H => te σ H D.rt
theorem ps_ret (he : PE X e te) : PS X (.Return (some e) pos) (tRet te) := by
  intro pins s σ H D I h
  exact wpAny_Return_some (thn (he pins s σ H _ I h) fun v s1 ⟨x, H1, I1, r1, q1⟩ => ⟨x, σ, H1, I1, r1, q1⟩)
def tRetN : TS := fun D _ H => D.rt .non H
def tIfS (c : TT) (t u : TS) : TS := fun D σ H => c σ H fun b H1 => if b = true then t D σ H1 else u D σ H1
theorem ps_if {c : Expr} {a b : List Stmt} {tc : TT} (hc : PT X c tc) (ha : PSs X a t) (hb : PSs X b u) : PS X (.If c a b pos) (tIfS tc t u) := by
  intro pins s σ H D I h
  refine wpAny_If (thn (hc pins s σ H _ I h) fun d s1 ⟨H1, I1, q1⟩ => ?_)
  cases d with
  | true => exact ha pins s1 σ H1 D I1 q1
  | false => exact hb pins s1 σ H1 D I1 q1
/-- code that the proof never comes to -/
def tNever : TS := fun _ _ _ => False
theorem ps_never : PS X st tNever := fun _ _ _ _ _ _ h => h.elim
end

/-! ### targets -/
abbrev TG := V → St → Hp → (St → Hp → Prop) → Prop
abbrev TGs := List V → St → Hp → (St → Hp → Prop) → Prop
def PG (X : Cx) (target : Expr) (t : TG) : Prop :=
  ∀ (pins : List (Addr × Obj)) (s : Shared) (σ : St) (H : Hp) (v : V) (u : Value) (Q : St → Hp → Prop), Inv X pins σ H s → RelV v u → t v σ H Q →
    wpAny (model X.prog X.w) X.A (assign target X.env u) (fun _ s' => ∃ σ' H', Inv X pins σ' H' s' ∧ Q σ' H') X.xe s
/-- several targets, one after another -/
def PGs (X : Cx) (ts : List Expr) (t : TGs) : Prop :=
  ∀ (pins : List (Addr × Obj)) (s : Shared) (σ : St) (H : Hp) (vs : List V) (us : List Value) (Q : St → Hp → Prop), Inv X pins σ H s → Vals vs us → t vs σ H Q →
    wpAny (model X.prog X.w) X.A (assignInOrder ((assignEach ts X.env).map (·.2)) us) (fun _ s' => ∃ σ' H', Inv X pins σ' H' s' ∧ Q σ' H') X.xe s
/-- o[i] = v, by values -/
abbrev TSet := V → V → V → Hp → (Hp → Prop) → Prop
def PSet (X : Cx) (t : TSet) : Prop :=
  ∀ (pins : List (Addr × Obj)) (s : Shared) (σ : St) (H : Hp) (o i v : V) (ov iv u : Value) (Q : Hp → Prop), Inv X pins σ H s → RelV o ov → RelV i iv → RelV v u → t o i v H Q →
    wpAny (model X.prog X.w) X.A (setItem ov iv u) (fun _ s' => ∃ H', Inv X pins σ H' s' ∧ Q H') X.xe s
/-- a op= b, by values -/
abbrev TIp := V → V → Hp → VK → Prop
def PIp (X : Cx) (op : Operator) (t : TIp) : Prop :=
  ∀ (pins : List (Addr × Obj)) (s : Shared) (σ : St) (H : Hp) (x y : V) (v u : Value) (Q : VK), Inv X pins σ H s → RelV x v → RelV y u → t x y H Q →
    wpAny (model X.prog X.w) X.A (inplaceOp op v u) (EP X pins σ Q) X.xe s
section
variable {X : Cx} {pos : Pos}
def gName (i : Nat) : TG := fun v σ H Q => Q (σ.set i (some v)) H
theorem pg_name {i : Nat} {x : Str} (hN : X.N.Nodup) (hi : X.N[i]? = some x) (hx : Loc X.env.scope x) (hf : X.fn x = true ∨ X.env.scope.names.lookup x = some .local := by first | exact .inl rfl | exact .inr rfl | assumption) : PG X (.Name x pos) (gName i) := by
  intro pins s σ H v u Q I r h
  exact wpAny_assign_Name (store_ok I hN hi hx r (fun s' I' => ⟨_, H, I', h⟩) hf)
def gNil : TGs := fun vs σ H Q => vs = [] ∧ Q σ H
def gCons (t : TG) (u : TGs) : TGs := fun vs σ H Q => ∃ v r, vs = v :: r ∧ t v σ H fun σ' H' => u r σ' H' Q
theorem pgs_nil : PGs X [] gNil := by
  intro pins s σ H vs us Q I r h
  obtain ⟨e, h⟩ := h
  subst e
  cases r
  exact assignInOrder_nil ⟨σ, H, I, h⟩
theorem pgs_cons {e : Expr} {es : List Expr} {t : TG} {u : TGs} (h1 : PG X e t) (h2 : PGs X es u)
    (hs : (assignEach (e :: es) X.env).map (·.2) = assign e X.env :: (assignEach es X.env).map (·.2) := by rfl) : PGs X (e :: es) (gCons t u) := by
  intro pins s σ H vs us Q I r h
  obtain ⟨v, vr, e1, h⟩ := h
  subst e1
  cases r with
  | cons r rr =>
    rw [hs]
    refine assignInOrder_cons (thn (h1 pins s σ H _ _ _ I r h) fun _ s1 ⟨σ1, H1, I1, q1⟩ => ?_)
    exact h2 pins s1 σ1 H1 _ _ Q I1 rr q1
/-- (a, b, ..) = a tuple of that length -/
def gTup (K : PySem.W.Frag) (n : Nat) (t : TGs) : TG := fun v σ H Q => ∃ a xs, v = .ref a ∧ SqT K H a xs ∧ xs.length = n ∧ t xs σ H Q
theorem pg_tup {es : List Expr} {k : Nat} {t : TGs} {n : Nat} (hc : X.calm = true) (h : PGs X es t)
    (hn : (assignEach es X.env).length = n := by rfl) (hst : (assignEach es X.env).findIdx? (·.1) = none := by rfl) : PG X (.Tuple es k pos) (gTup X.K n t) := by
  intro pins s σ H v u Q I r hw
  obtain ⟨a, xs, e1, hq, hl, hw⟩ := hw
  subst e1
  cases r
  obtain ⟨its, rv, ht, hz⟩ := I.tuple hq
  refine assign_Tuple_tuple (I.ok.hd hc) ht (by simp [hn, ← hl, rv.length]) hst fun h' hx => ?_
  have I1 : Inv X pins σ H { s with heap := h' } := I.kept (t' := s.toks) fun b o e => hx b o (Nat.ne_of_lt (Heap.lt_size e)) e
  exact h pins _ σ H xs _ Q I1 (by simpa using rv) hw
/-- o[i] = .. -/
def gSub (to ti : TE) (t : TSet) : TG := fun v σ H Q => to σ H fun o H1 => ti σ H1 fun i H2 => t o i v H2 fun H3 => Q σ H3
theorem pg_sub {o i : Expr} {to ti : TE} {t : TSet} (ho : PE X o to) (hi : PE X i ti) (hs : PSet X t)
    (ha : ∀ v, assign (.Subscript o i pos) X.env v = (do
      let ov ← holding [v] (eval o X.env)
      let iv ← holding [v, ov] (eval i X.env)
      standAt pos
      holding [v, ov, iv] (setItem ov iv v)
      release [v, ov, iv] []) := by intro _; rfl) : PG X (.Subscript o i pos) (gSub to ti t) := by
  intro pins s σ H v u Q I r h
  rw [ha]
  refine wpAny_bind (wpAny_holding (thn (ho pins s σ H _ I h) fun ov s1 ⟨x, H1, I1, r1, q1⟩ => ?_))
  refine wpAny_bind (wpAny_holding (thn (hi pins s1 σ H1 _ I1 q1) fun iv s2 ⟨y, H2, I2, r2, q2⟩ => ?_))
  refine wpAny_bind (wpAny_standAt (wpAny_bind (wpAny_holding (thn (hs pins s2 σ H2 x y v ov iv u _ I2 r1 r2 r q2) fun _ s3 ⟨H3, I3, q3⟩ => ?_))))
  exact wpAny_release ⟨σ, H3, I3, q3⟩
/-- target = value -/
def tAsg (te : TE) (g : TG) : TS := fun D σ H => te σ H fun x H1 => g x σ H1 D.nx
theorem ps_asg {tg e : Expr} {te : TE} {g : TG} (he : PE X e te) (hg : PG X tg g) (hs : swapsWithSole [tg] e pos.line X.env = pure false := by rfl) (hw : swappedStores [tg] e X.env = pure none := by rfl)
    (h1 : (assignEach [tg] X.env).map (·.2) = [assign tg X.env] := by rfl) : PS X (.Assign [tg] e pos) (tAsg te g) := by
  intro pins s σ H D I h
  refine wpAny_Assign_stores (thn (he pins s σ H _ I h) fun v s1 ⟨x, H1, I1, r1, q1⟩ => ?_) hs hw
  rw [h1]
  exact thn (hg pins s1 σ H1 x v _ I1 r1 q1) fun _ s2 q => q
/-- name = value -/
theorem ps_set {i : Nat} {x : Str} {e : Expr} {te : TE} {pos' : Pos} (hN : X.N.Nodup) (hi : X.N[i]? = some x) (hx : Loc X.env.scope x) (he : PE X e te) (hs : swapsWith e (some (.Name x pos')) pos.line X.env = pure false := by rfl) (hf : X.fn x = true ∨ X.env.scope.names.lookup x = some .local := by first | exact .inl rfl | exact .inr rfl | assumption) :
    PS X (.Assign [.Name x pos'] e pos) (tAsg te (gName i)) := by
  intro pins s σ H D I h
  refine wpAny_Assign_Name (thn (he pins s σ H _ I h) fun v s1 ⟨y, H1, I1, r1, q1⟩ => ?_) hs
  exact store_ok I1 hN hi hx r1 (fun s2 I2 => ⟨_, H1, I2, q1⟩) hf
/-- a, b = x, y with plain local names: stored from the right; the pair itself is not tracked (the opening rows as in PyProof/Rows/TupAssign.lean:23) -/
def tPar (i j : Nat) (ta : TA) : TS := fun D σ H => ta σ H fun vs H1 => ∃ v w, vs = [v, w] ∧ D.nx ((σ.set i (some v)).set j (some w)) H1
theorem ps_par {i j : Nat} {x y : Str} {a b : Expr} {ta : TA} {px py pt : Pos} {kt k2 pt2} (hc : X.calm = true) (hN : X.N.Nodup) (hi : X.N[i]? = some x) (hj : X.N[j]? = some y) (hij : i ≠ j)
    (hx : X.env.scope.names.lookup x = some .local) (hy : X.env.scope.names.lookup y = some .local) (ha : PA X [a, b] ta)
    (hw : swappedStores [.Tuple [.Name x px, .Name y py] kt pt] (.Tuple [a, b] k2 pt2) X.env = pure (some [x, y]))
    (hs : swapsWithSole [.Tuple [.Name x px, .Name y py] kt pt] (.Tuple [a, b] k2 pt2) pos.line X.env = pure false := by rfl) :
    PS X (.Assign [.Tuple [.Name x px, .Name y py] kt pt] (.Tuple [a, b] k2 pt2) pos) (tPar i j ta) := by
  intro pins s σ H D I h
  rw [exec_Assign_arm]
  refine wpAny_bind (wpAny_standAt ?_)
  rw [hs]
  refine wpAny_bind (wpAny_pure ?_)
  rw [if_neg (by decide)]
  refine wpAny_bind (Tuple_ (thn (ha _ pins s σ H _ I h) fun us s1 ⟨vs, H1, I1, r1, q1⟩ => ?_))
  obtain ⟨v, w, e1, q1⟩ := q1
  subst e1
  obtain ⟨u1, u2, rfl, rv, rw'⟩ : ∃ u1 u2, us = [u1, u2] ∧ RelV v u1 ∧ RelV w u2 := by
    cases r1 with
    | cons p q =>
      cases q with
      | cons p' q' =>
        cases q'
        exact ⟨_, _, rfl, p, p'⟩
  refine wpAny_newObj_type ?_ (by show 2 ≤ sizeLine; decide)
  have I2 : Inv X pins σ H1 { s1 with heap := s1.heap.push { cls := .type "tuple", data := .seq [u1, u2].toArray } } := I1.kept (t' := s1.toks) fun b o e => Heap.get?_push_of_some _ e
  rw [hw]
  refine wpAny_bind (wpAny_pure ?_)
  show wpAny (model X.prog X.w) X.A (do rule "assign.swapped-stores"; let items ← unpackItems (.ref s1.heap.objs.size) 2 none; assignInOrder [fun v => bindName X.env y v, fun v => bindName X.env x v] items.reverse; pure Flow.next) _ _ _
  refine wpAny_bind (wpAny_rule (wpAny_bind (unpackItems_tuple (items := #[u1, u2]) (I.ok.hd hc) (IsTup.new s1.heap _) fun h' hx' => ?_)))
  have I3 := I2.kept (h' := h') (t' := s1.toks) fun b o e => hx' b o (Nat.ne_of_lt (Heap.lt_size e)) e
  show wpAny _ _ (assignInOrder [fun v => bindName X.env y v, fun v => bindName X.env x v] [u2, u1] >>= fun _ => pure Flow.next) _ _ _
  refine wpAny_bind (assignInOrder_cons (wpAny_bindName (store_ok I3 hN hj (.inl hy) rw' (fun s2 I4 => ?_) (.inr hy))))
  refine assignInOrder_cons (wpAny_bindName (store_ok I4 hN hi (.inl hx) rv (fun s3 I5 => assignInOrder_nil (wpAny_pure ?_)) (.inr hx)))
  rw [List.set_comm _ _ (Ne.symm hij)] at I5
  exact ⟨_, H1, I5, q1⟩
/-- name op= e -/
def tAug (i : Nat) (te : TE) (ti : TIp) : TS := fun D σ H => ∃ x, σ[i]? = some (some x) ∧ te σ H fun y H1 => ti x y H1 fun z H2 => D.nx (σ.set i (some z)) H2
theorem ps_aug {i : Nat} {x : Str} {e : Expr} {te : TE} {op : Operator} {ti : TIp} {pos' : Pos} (hN : X.N.Nodup) (hi : X.N[i]? = some x) (hx : Loc X.env.scope x) (he : PE X e te) (ho : PIp X op ti) (hf : X.fn x = true ∨ X.env.scope.names.lookup x = some .local := by first | exact .inl rfl | exact .inr rfl | assumption) :
    PS X (.AugAssign (.Name x pos') op e pos) (tAug i te ti) := by
  intro pins s σ H D I h
  obtain ⟨v, e1, h⟩ := h
  obtain ⟨m, hn, hl⟩ := I.loc
  have vis : Vis X.env.scope x := by rcases hx with k | k; exact .inl k; exact .inr (.inl k)
  obtain ⟨u, r, l⟩ := hl i x v hi e1 vis
  refine wpAny_AugAssign_Name ?_
  have go : wpAny (model X.prog X.w) X.A (eval e X.env) (fun w s₂ => wpAny (model X.prog X.w) X.A (inplaceOp op u w) (fun r s₃ => wpAny (model X.prog X.w) X.A (storeName X.env x r) (fun _ => SP X pins D .next) X.xe s₃) X.xe s₂) X.xe s := by
    refine thn (he pins s σ H _ I h) fun w s1 ⟨y, H1, I1, r1, q1⟩ => ?_
    refine thn (ho pins s1 σ H1 v y u w _ I1 r r1 q1) fun z s2 ⟨zv, H2, I2, r2, q2⟩ => ?_
    exact store_ok I2 hN hi hx r2 (fun s3 I3 => ⟨_, H2, I3, q2⟩) hf
  rcases l with ⟨hk, hm⟩ | ⟨hk, c, hc, hcell⟩
  · exact wpAny_loadName_local I.ok.kind hk hn hm go
  · rcases hk with hk | hk
    · exact wpAny_loadName_cell I.ok.kind hk hc hcell go
    · rcases hx with k | k
      · have : X.env.scope.names.lookup x = some .free := hk
        rw [k] at this; cases this
      · have : X.env.scope.names.lookup x = some .free := hk
        rw [k] at this; cases this
/-- o[i] op= e -/
def tAugS (to ti te : TE) (tget : V → V → Hp → VK → Prop) (tip : TIp) (tset : TSet) : TS := fun D σ H => to σ H fun o H1 => ti σ H1 fun i H2 => tget o i H2 fun x H3 => te σ H3 fun y H4 => tip x y H4 fun z H5 => tset o i z H5 fun H6 => D.nx σ H6
/-- o[i], by values -/
def PGet (X : Cx) (t : V → V → Hp → VK → Prop) : Prop :=
  ∀ (pins : List (Addr × Obj)) (s : Shared) (σ : St) (H : Hp) (o i : V) (ov iv : Value) (Q : VK), Inv X pins σ H s → RelV o ov → RelV i iv → t o i H Q →
    wpAny (model X.prog X.w) X.A (getItem ov iv) (EP X pins σ Q) X.xe s
/-- ints -/
def ipI (f : Int → Int → Int) : TIp := fun x y H Q => ∃ i j, x = .int i ∧ y = .int j ∧ Q (.int (f i j)) H
theorem ip_sub : PIp X .Sub (ipI fun i j => i - j) := by
  intro pins s σ H x y v u Q I r1 r2 h
  obtain ⟨i, j, e1, e2, q⟩ := h
  subst e1; subst e2
  obtain ⟨t, rfl⟩ := r1
  obtain ⟨t', rfl⟩ := r2
  exact isub_int ⟨.int _, H, I.tok _, ⟨_, rfl⟩, q⟩
end

/-! ### while -/
section
variable {X : Cx} {pos : Pos}
/-- the invariant W with its measure -/
def tWhile (c : TT) (tb : TS) : TS := fun D σ H => ∃ W : Nat → St → Hp → Prop, (∃ m, W m σ H) ∧ ∀ m σ H, W m σ H →
  c σ H fun b H1 => if b = true then ∃ N : St → Hp → Prop, (∀ σ' H', N σ' H' → ∃ m', m' < m ∧ W m' σ' H') ∧ tb { D with nx := N, ct := N, bk := D.nx } σ H1 else D.nx σ H1
theorem ps_while {c : Expr} {body : List Stmt} {tc : TT} {tb : TS} (hp : PassesOwn (model X.prog X.w) X.A X.env X.xe) (hc : PT X c tc) (hb : PSs X body tb) : PS X (.While c body [] pos) (tWhile tc tb) := by
  intro pins s σ H D I h
  obtain ⟨W, ⟨m0, w0⟩, turn⟩ := h
  refine wpAny_While (codeAny_whileLoop (fun n s' => ∃ σ' H', Inv X pins σ' H' s' ∧ W n σ' H') ?_ m0 ⟨σ, H, I, w0⟩)
  rintro n s1 ⟨σ1, H1, I1, w1⟩
  refine wpAny_passesOwn hp (thn (hc pins s1 σ1 H1 _ I1 (turn n σ1 H1 w1)) fun b s2 ⟨H2, I2, q2⟩ => ?_)
  cases b with
  | true =>
    obtain ⟨N, hN, q2⟩ := q2
    rw [if_pos rfl]
    refine wpAny_passesOwn hp (thn (hb pins s2 σ1 H2 _ I2 q2) fun f s3 q3 => ?_)
    cases f with
    | next =>
      obtain ⟨σ3, H3, I3, n3⟩ := q3
      obtain ⟨m', hm, w3⟩ := hN σ3 H3 n3
      exact ⟨m', hm, σ3, H3, I3, w3⟩
    | cont =>
      obtain ⟨σ3, H3, I3, n3⟩ := q3
      obtain ⟨m', hm, w3⟩ := hN σ3 H3 n3
      exact ⟨m', hm, σ3, H3, I3, w3⟩
    | brk => exact q3
    | ret v => exact q3
  | false =>
    rw [if_neg Bool.false_ne_true]
    exact wpAny_execs_nil ⟨σ1, H2, I2, q2⟩
end

/-! ### what a loop or a comprehension walks -/
/-- at turn i: it yields x (the heap may grow), or it stops -/
structure It where
  go : Nat → Hp → Prop
  yld : Nat → Hp → V → Hp → Prop
  stop : Nat → Hp → Prop
/-- the iterator's own objects may turn: they are not the frame's, not pinned, younger than the entry (or a comprehension's own) -/
def FpOk (X : Cx) (pins : List (Addr × Obj)) (H : Hp) (b : Addr) : Prop :=
  H b = none ∧ b ≠ X.env.locals ∧ b ∉ X.fs ∧ (b ∈ X.ex ∨ X.s₀.heap.get? b = none) ∧ (∀ x c, X.env.cells.lookup x = some c → c ≠ b) ∧ ∀ p ∈ X.pn ++ pins, p.1 ≠ b
theorem Inv.fpOk {X : Cx} {pins : List (Addr × Obj)} {σ : St} {H H' : Hp} {s : Shared} {b : Addr} (I : Inv X pins σ H s) (hb : s.heap.objs.size ≤ b) (hn : H' b = none) : FpOk X pins H' b := by
  refine ⟨hn, Nat.ne_of_gt (Nat.lt_of_lt_of_le I.lt hb), I.nofs hb, .inr (Heap.get?_none_of_le (Nat.le_trans I.sz hb)), fun x c e z => ?_, fun p hp z => ?_⟩
  · obtain ⟨v, q⟩ := I.cell x c e
    exact absurd (Nat.lt_of_lt_of_le q.lt (by rw [z]; exact hb)) (Nat.lt_irrefl _)
  · exact absurd (Nat.lt_of_lt_of_le (Heap.lt_size (I.pin p hp).1) (by rw [z]; exact hb)) (Nat.lt_irrefl _)
structure Turn (P : Program) (w : World) (K : PySem.W.Frag) (tg : Expr) (J : It) (fp : List Addr) (it : Addr) (tn : Nat → Heap → Prop) : Prop where
  mem : it ∈ fp
  obj : ∀ i h, tn i h → ∀ b ∈ fp, ∃ o, h.get? b = some o ∧ ∀ v, o.data ≠ .cell v
  keep : ∀ i h h', tn i h → (∀ b ∈ fp, ∀ o, h.get? b = some o → h'.get? b = some o) → tn i h'
  item : ∀ (X : Cx), X.prog = P → X.w = w → X.K = K → X.calm = true → ∀ (i : Nat) (pins : List (Addr × Obj)) (s : Shared) (σ : St) (H : Hp) (E : Value → Shared → Prop), Inv X pins σ H s → (∀ b ∈ fp, FpOk X pins H b) → tn i s.heap → J.go i H →
    wpAny (model P w) X.A (pyNext (.ref it)) (fun r s1 => ∃ u, r = some u ∧
      wpAny (model P w) X.A (letOwnedTupleGo tg (.ref it) u) (fun _ s2 => ∃ x H', Inv X pins σ H' s2 ∧ RelV x u ∧ J.yld i H x H' ∧ tn (i + 1) s2.heap ∧ ∀ b ∈ fp, H' b = none) E s1) E s
  done : ∀ (X : Cx), X.prog = P → X.w = w → X.K = K → X.calm = true → ∀ (i : Nat) (pins : List (Addr × Obj)) (s : Shared) (σ : St) (H : Hp) (E : Value → Shared → Prop), Inv X pins σ H s → (∀ b ∈ fp, FpOk X pins H b) → tn i s.heap → J.stop i H →
    wpAny (model P w) X.A (pyNext (.ref it)) (fun r s1 => r = none ∧ Inv X pins σ H s1) E s
  self : ∀ (A : Around) (i : Nat) (s : Shared) (Q : Value → Shared → Prop) (E : Value → Shared → Prop), tn i s.heap → Q (.ref it) s → wpAny (model P w) A (pyIter (.ref it)) Q E s
abbrev TI := St → Hp → (It → Hp → Prop) → Prop
/-- an iterator has come -/
def PIE (X : Cx) (pins : List (Addr × Obj)) (σ : St) (tg : Expr) (R : It → Hp → Prop) (itv : Value) (s2 : Shared) : Prop :=
  ∃ (it : Addr) (fp : List Addr) (tn : Nat → Heap → Prop) (J : It) (H' : Hp), itv = .ref it ∧ Inv X pins σ H' s2 ∧ Turn X.prog X.w X.K tg J fp it tn ∧ tn 0 s2.heap ∧ (∀ b ∈ fp, FpOk X pins H' b) ∧ R J H'
def PI (X : Cx) (tg iter : Expr) (wi : TI) : Prop :=
  ∀ (pins : List (Addr × Obj)) (s : Shared) (σ : St) (H : Hp) (R : It → Hp → Prop), Inv X pins σ H s → wi σ H R →
    wpAny (model X.prog X.w) X.A (eval iter X.env) (fun v s1 => wpAny (model X.prog X.w) X.A (pyIter v) (PIE X pins σ tg R) X.xe s1) X.xe s

/-- the step ahead of the store is nothing for an iterator that keeps no tuple -/
theorem go_of {M : Model} {A : Around} {E : Value → Shared → Prop} {s : Shared} {tg : Expr} {it : Addr} {u : Value} {o : Obj} {n : String} {vs : Array Value} {Q : Unit → Shared → Prop} (ho : s.heap.get? it = some o) (hc : o.cls = .type n) (hd : o.data = .fields vs)
    (hn : ["enumerate", "zip", "dict_itemiterator", "dict_reverseitemiterator", "odict_iterator", "itertools.zip_longest", "itertools.pairwise"].contains n = false) (hQ : Q () s) : wpAny M A (letOwnedTupleGo tg (.ref it) u) Q E s := by
  unfold letOwnedTupleGo
  cases tg <;> first
    | exact wpAny_pure hQ
    | (cases u <;> first
        | exact wpAny_pure hQ
        | (refine wpAny_bind (wpAny_load ho ?_)
           rw [hc, hd]
           show wpAny M A (if (["enumerate", "zip", "dict_itemiterator", "dict_reverseitemiterator", "odict_iterator", "itertools.zip_longest", "itertools.pairwise"].contains n && vs[0]? == some (rawInt _)) = true then _ else _) Q E s
           rw [if_neg (by intro h; rw [hn, Bool.false_and] at h; cases h)]
           exact wpAny_pure hQ))

/-- the list at a, as it stands at each turn (a loop may append to it) -/
def Itl (K : PySem.W.Frag) (a : Addr) : It :=
  ⟨fun i H => ∃ xs x, SqL K H a xs ∧ xs[i]? = some x, fun i H x H' => H' = H ∧ ∀ xs, SqL K H a xs → xs[i]? = some x, fun i H => ∃ xs, SqL K H a xs ∧ xs.length ≤ i⟩
def Itt (K : PySem.W.Frag) (a : Addr) : It :=
  ⟨fun i H => ∃ xs x, SqT K H a xs ∧ xs[i]? = some x, fun i H x H' => H' = H ∧ ∀ xs, SqT K H a xs → xs[i]? = some x, fun i H => ∃ xs, SqT K H a xs ∧ xs.length ≤ i⟩
/-- lo, lo + 1, .. (n of them) -/
def Itr (lo : Int) (n : Nat) : It := ⟨fun i _ => i < n, fun i H x H' => H' = H ∧ x = .int (lo + i), fun i _ => n ≤ i⟩
theorem turn_list {P : Program} {w : World} {K : PySem.W.Frag} {tg : Expr} (a it : Addr) : Turn P w K tg (Itl K a) [it] it (fun i h => h.IsListIter it a i) where
  mem := by simp
  obj := fun i h st b hb => by
    have e : b = it := by simpa using hb
    subst e
    obtain ⟨o, e, c, d⟩ := st
    exact ⟨o, e, fun v z => by rw [d] at z; cases z⟩
  keep := fun i h h' st k => st.at fun o e => k it (by simp) o e
  item := by
    intro X hP hw hK hc i pins s σ H E I hf st hg
    subst hP hw hK
    obtain ⟨xs, x, hq, hx⟩ := hg
    obtain ⟨its, rv, p, hz⟩ := I.list hq
    obtain ⟨u, hu, ru⟩ := rv.get hx
    obtain ⟨f0, f1, f2, f3, f4, f5⟩ := hf it (by simp)
    refine wpAny_pyNext_list_item st p.isList (x := u) (by simpa using hu) fun h' st' sb => ?_
    have I1 : Inv X pins σ H { s with heap := h' } := I.turned (t' := s.toks) (fun b o hb e => (sb.2 b hb).trans e) f0 f1 f3 f4 f5
    obtain ⟨o, e, c, d⟩ := id st'
    exact ⟨u, rfl, go_of (s := { s with heap := h' }) e c d (by decide) ⟨x, H, I1, ru, ⟨rfl, fun ys hy => by rw [I.list_inj hy hq]; exact hx⟩, st', fun b hb => (hf b hb).1⟩⟩
  done := by
    intro X hP hw hK hc i pins s σ H E I hf st hg
    subst hP hw hK
    obtain ⟨xs, hq, hx⟩ := hg
    obtain ⟨its, rv, p, hz⟩ := I.list hq
    obtain ⟨f0, f1, f2, f3, f4, f5⟩ := hf it (by simp)
    have hl := rv.length
    exact wpAny_pyNext_list_end (I.ok.hd hc) st p.isList (by simp; omega) fun h' eb => ⟨rfl, I.turned (t' := s.toks) (fun b o hb e => eb b o hb e) f0 f1 f3 f4 f5⟩
  self := fun _ _ _ _ _ st h => wpAny_pyIter_listiter st h
theorem turn_tuple {P : Program} {w : World} {K : PySem.W.Frag} {tg : Expr} (a it : Addr) : Turn P w K tg (Itt K a) [it] it (fun i h => h.IsTupleIter it a i) where
  mem := by simp
  obj := fun i h st b hb => by
    have e : b = it := by simpa using hb
    subst e
    obtain ⟨o, e, c, d⟩ := st
    exact ⟨o, e, fun v z => by rw [d] at z; cases z⟩
  keep := fun i h h' st k => st.at fun o e => k it (by simp) o e
  item := by
    intro X hP hw hK hc i pins s σ H E I hf st hg
    subst hP hw hK
    obtain ⟨xs, x, hq, hx⟩ := hg
    obtain ⟨its, rv, p, hz⟩ := I.tuple hq
    obtain ⟨u, hu, ru⟩ := rv.get hx
    obtain ⟨f0, f1, f2, f3, f4, f5⟩ := hf it (by simp)
    refine wpAny_pyNext_tuple_item st (show s.heap.IsTuple a its.toArray from p) (x := u) (by simpa using hu) fun h' st' sb => ?_
    have I1 : Inv X pins σ H { s with heap := h' } := I.turned (t' := s.toks) (fun b o hb e => (sb.2 b hb).trans e) f0 f1 f3 f4 f5
    obtain ⟨o, e, c, d⟩ := id st'
    exact ⟨u, rfl, go_of (s := { s with heap := h' }) e c d (by decide) ⟨x, H, I1, ru, ⟨rfl, fun ys hy => by rw [I.tuple_inj hy hq]; exact hx⟩, st', fun b hb => (hf b hb).1⟩⟩
  done := by
    intro X hP hw hK hc i pins s σ H E I hf st hg
    subst hP hw hK
    obtain ⟨xs, hq, hx⟩ := hg
    obtain ⟨its, rv, p, hz⟩ := I.tuple hq
    obtain ⟨f0, f1, f2, f3, f4, f5⟩ := hf it (by simp)
    have hl := rv.length
    exact wpAny_pyNext_tuple_end (I.ok.hd hc) st (show s.heap.IsTuple a its.toArray from p) (by simp; omega) fun h' eb => ⟨rfl, I.turned (t' := s.toks) (fun b o hb e => eb b o hb e) f0 f1 f3 f4 f5⟩
  self := fun _ _ _ _ _ st h => wpAny_pyIter_tupleiter st h
theorem turn_range {P : Program} {w : World} {K : PySem.W.Frag} {tg : Expr} (it : Addr) (lo : Int) (n : Nat) : Turn P w K tg (Itr lo n) [it] it (fun i h => IsRangeIter h it (lo + (i : Nat) * 1) ((n : Int) - (i : Nat)) 1) where
  mem := by simp
  obj := fun i h st b hb => by
    have e : b = it := by simpa using hb
    subst e
    exact ⟨_, st, fun v z => by
      have z' : Data.fields _ = Data.cell v := z
      cases z'⟩
  keep := fun i h h' st k => k it (by simp) _ st
  item := by
    intro X hP hw hK hc i pins s σ H E I hf st hg
    subst hP hw hK
    obtain ⟨f0, f1, f2, f3, f4, f5⟩ := hf it (by simp)
    have W := Walks.range (prog := X.prog) (w := X.w) (I.ok.hd hc) it lo 1 n
    refine W.item i s _ _ hg st fun v h' tk hv st' kk => ?_
    obtain ⟨t, rfl⟩ := hv
    have I1 : Inv X pins σ H { s with heap := h', toks := tk } := I.turned (fun b o hb e => kk b o (by simpa using hb) e) f0 f1 f3 f4 f5
    refine ⟨_, rfl, go_of (s := { s with heap := h', toks := tk }) (n := "range_iterator") st' rfl rfl (by decide) ⟨.int (lo + i), H, I1, ⟨t, ?_⟩, ⟨rfl, rfl⟩, st', fun b hb => (hf b hb).1⟩⟩
    rw [Int.mul_one]
  done := by
    intro X hP hw hK hc i pins s σ H E I hf st hg
    subst hP hw hK
    obtain ⟨f0, f1, f2, f3, f4, f5⟩ := hf it (by simp)
    exact wpAny_pyNext_range_end (I.ok.hd hc) st (by have : n ≤ i := hg; omega) fun h' eb => ⟨rfl, I.turned (t' := s.toks) (fun b o hb e => eb b o hb e) f0 f1 f3 f4 f5⟩
  self := fun _ _ _ _ _ st h => wpAny_pyIter_rangeiter st h
end L2

namespace L2
open PySem PySem.Spec PyProof.Rows
section
variable {X : Cx} {tg : Expr}
def iList (K : PySem.W.Frag) (tl : TE) : TI := fun σ H R => tl σ H fun x H1 => ∃ a, x = .ref a ∧ (∃ xs, SqL K H1 a xs) ∧ R (Itl K a) H1
def iTup (K : PySem.W.Frag) (tl : TE) : TI := fun σ H R => tl σ H fun x H1 => ∃ a, x = .ref a ∧ (∃ xs, SqT K H1 a xs) ∧ R (Itt K a) H1
theorem pi_list {l : Expr} {tl : TE} (hl : PE X l tl) : PI X tg l (iList X.K tl) := by
  intro pins s σ H R I h
  refine thn (hl pins s σ H _ I h) fun v s1 ⟨x, H1, I1, r1, q1⟩ => ?_
  obtain ⟨a, e, ⟨xs, hq⟩, q⟩ := q1
  subst e
  cases r1
  obtain ⟨its, rv, p, hz⟩ := I1.list hq
  refine wpAny_pyIter_list p.isList ?_
  refine ⟨s1.heap.objs.size, [s1.heap.objs.size], _, _, H1, rfl, I1.kept (t' := s1.toks) fun b o e => Heap.get?_push_of_some _ e, turn_list a _, ⟨_, Heap.get?_push_size _ rfl, rfl, rfl⟩, fun b hb => ?_, q⟩
  have e : b = s1.heap.objs.size := by simpa using hb
  subst e
  exact I1.fpOk (Nat.le_refl _) (I1.hok.fresh (Nat.le_refl _))
theorem pi_tup {l : Expr} {tl : TE} (hl : PE X l tl) : PI X tg l (iTup X.K tl) := by
  intro pins s σ H R I h
  refine thn (hl pins s σ H _ I h) fun v s1 ⟨x, H1, I1, r1, q1⟩ => ?_
  obtain ⟨a, e, ⟨xs, hq⟩, q⟩ := q1
  subst e
  cases r1
  obtain ⟨its, rv, p, hz⟩ := I1.tuple hq
  refine wpAny_pyIter_tuple (show s1.heap.IsTuple a its.toArray from p) ?_
  refine ⟨s1.heap.objs.size, [s1.heap.objs.size], _, _, H1, rfl, I1.kept (t' := s1.toks) fun b o e => Heap.get?_push_of_some _ e, turn_tuple a _, ⟨_, Heap.get?_push_size _ rfl, rfl, rfl⟩, fun b hb => ?_, q⟩
  have e : b = s1.heap.objs.size := by simpa using hb
  subst e
  exact I1.fpOk (Nat.le_refl _) (I1.hok.fresh (Nat.le_refl _))
/-- a range object just made, walked -/
theorem range_it {pins : List (Addr × Obj)} {σ : St} {H : Hp} {s : Shared} {R : It → Hp → Prop} {E : Value → Shared → Prop} {lo hi : Int} {t u v : Tok} {tk : Nat} (I : Inv X pins σ H s) (h1 : -(2 ^ 62) ≤ lo) (h2 : lo < 2 ^ 62) (h3 : -(2 ^ 62) ≤ hi) (h4 : hi < 2 ^ 62)
    (q : R (Itr lo (hi - lo).toNat) H) : wpAny (model X.prog X.w) X.A (pyIter (.ref s.heap.objs.size)) (PIE X pins σ tg R) E { s with heap := s.heap.push { cls := .type "range", data := .fields #[.int lo t, .int hi u, .int 1 v] }, toks := tk } := by
  refine wpAny_pyIter_range (IsRange.new ..) (small_one h1 h2 h3 h4) ?_
  have I1 : Inv X pins σ H { s with heap := s.heap.push { cls := .type "range", data := .fields #[.int lo t, .int hi u, .int 1 v] }, toks := tk } := I.kept fun b o e => Heap.get?_push_of_some _ e
  refine ⟨(s.heap.push { cls := .type "range", data := .fields #[.int lo t, .int hi u, .int 1 v] }).objs.size, [(s.heap.push { cls := .type "range", data := .fields #[.int lo t, .int hi u, .int 1 v] }).objs.size], _, _, H, rfl,
    I1.kept (t' := tk) fun b o e => Heap.get?_push_of_some _ e, turn_range _ lo (hi - lo).toNat, ?_, fun b hb => ?_, q⟩
  · have e1 : lo + ((0 : Nat) : Int) * 1 = lo := by simp
    have e2 : (((hi - lo).toNat : Nat) : Int) - ((0 : Nat) : Int) = Builtin.Range.rangeSize lo hi 1 := by rw [rangeSize_one]; split <;> omega
    show IsRangeIter _ _ (lo + ((0 : Nat) : Int) * 1) ((((hi - lo).toNat : Nat) : Int) - ((0 : Nat) : Int)) 1
    rw [e1, e2]
    exact Heap.get?_push_size _ rfl
  · have e : b = (s.heap.push { cls := .type "range", data := .fields #[.int lo t, .int hi u, .int 1 v] }).objs.size := by simpa using hb
    subst e
    exact I1.fpOk (Nat.le_refl _) (I1.hok.fresh (Nat.le_refl _))
def iRng1 (ta : TA) : TI := fun σ H R => ta σ H fun vs H1 => ∃ j : Int, vs = [.int j] ∧ -(2 ^ 62) ≤ j ∧ j < 2 ^ 62 ∧ R (Itr 0 j.toNat) H1
def iRng2 (ta : TA) : TI := fun σ H R => ta σ H fun vs H1 => ∃ i j : Int, vs = [.int i, .int j] ∧ (-(2 ^ 62) ≤ i ∧ i < 2 ^ 62 ∧ -(2 ^ 62) ≤ j ∧ j < 2 ^ 62) ∧ R (Itr i (j - i).toNat) H1
theorem pi_range1 {a : Expr} {ta : TA} {p pos : Pos} (hg : Gl X "range") (hm : X.mg "range" = none) (ha : PA X [a] ta) (hs : starEach [a] X.env = [(false, eval a X.env)] := by rfl) : PI X tg (.Call (.Name "range" p) [a] [] pos) (iRng1 ta) := by
  intro pins s σ H R I h
  refine Call_ (ld_blt I hg hm boot_range (PyProof.Rows.callWith_type1 (thn (ha pos pins s σ H _ I h) fun us s1 ⟨vs, H1, I1, r1, q1⟩ => ?_) hs rfl))
  obtain ⟨j, e, q1, q2, q⟩ := q1
  subst e
  cases r1 with
  | cons r rr =>
    cases rr
    obtain ⟨t, rfl⟩ := r
    exact call_range_1 (range_it I1 (by omega) (by omega) q1 q2 (by simpa using q))

/-! ### for -/
/-- W: the invariant by the turn and a measure; N: what the body is to reach -/
def tFor (wi : TI) (g : TG) (tb : TS) : TS := fun D σ H => wi σ H fun J H1 => ∃ W : Nat → Nat → St → Hp → Prop, (∃ m, W 0 m σ H1) ∧ ∀ i m σ H, W i m σ H →
  (J.stop i H ∧ D.nx σ H) ∨ (J.go i H ∧ ∃ N : St → Hp → Prop, (∀ σ' H', N σ' H' → ∃ m', m' < m ∧ W (i + 1) m' σ' H') ∧ ∀ x H', J.yld i H x H' → g x σ H' fun σ2 H2 => tb { D with nx := N, ct := N, bk := D.nx } σ2 H2)
/-- the records at fp as they stand -/
def pinsAt (fp : List Addr) (h : Heap) : List (Addr × Obj) := fp.filterMap fun b => (h.get? b).map fun o => (b, o)
theorem mem_pinsAt {fp : List Addr} {h : Heap} {b : Addr} {o : Obj} (hb : b ∈ fp) (e : h.get? b = some o) : (b, o) ∈ pinsAt fp h := List.mem_filterMap.mpr ⟨b, hb, by rw [e]; rfl⟩
theorem of_pinsAt {fp : List Addr} {h : Heap} {p : Addr × Obj} (hp : p ∈ pinsAt fp h) : p.1 ∈ fp ∧ h.get? p.1 = some p.2 := by
  obtain ⟨b, hb, e⟩ := List.mem_filterMap.mp hp
  cases q : h.get? b with
  | none => rw [q] at e; cases e
  | some o =>
    rw [q] at e
    have e' : (b, o) = p := Option.some.inj e
    subst e'
    exact ⟨hb, q⟩
theorem Inv.pinned {pins : List (Addr × Obj)} {σ : St} {H : Hp} {s : Shared} {fp : List Addr} (I : Inv X pins σ H s) (hf : ∀ b ∈ fp, FpOk X pins H b) (ho : ∀ b ∈ fp, ∃ o, s.heap.get? b = some o ∧ ∀ v, o.data ≠ .cell v) : Inv X (pins ++ pinsAt fp s.heap) σ H s :=
  I.pins_of fun p hp => (List.mem_append.mp hp).elim (fun z => I.pin p (List.mem_append_right _ z)) fun z => by
    obtain ⟨hb, e⟩ := of_pinsAt z
    obtain ⟨f0, f1, f2, _⟩ := hf p.1 hb
    obtain ⟨o, e', d⟩ := ho p.1 hb
    rw [e] at e'; cases e'
    exact ⟨e, f0, f1, f2, d⟩
theorem Inv.unpinned {pins pl : List (Addr × Obj)} {σ : St} {H : Hp} {s : Shared} (I : Inv X (pins ++ pl) σ H s) : Inv X pins σ H s := I.pins_of fun p hp => I.pin p (List.mem_append_right _ (List.mem_append_left _ hp))
theorem ps_for {iter : Expr} {body : List Stmt} {wi : TI} {g : TG} {tb : TS} {pos : Pos} (hp : PassesOwn (model X.prog X.w) X.A X.env X.xe) (hc : X.calm = true) (hi : PI X tg iter wi) (hg : PG X tg g) (hb : PSs X body tb)
    (hs : ∀ x, foldedSetIterable iter X.env x = pure x := by intro _; rfl) : PS X (.For tg iter body [] pos) (tFor wi g tb) := by
  intro pins s σ H D I h
  refine wpAny_For (thn (hi pins s σ H _ I h) fun v s1 h1 => thn h1 fun itv s2 h2 => ?_) hs
  obtain ⟨it, fp, tn, J, H2, e, I2, T, st2, f2, W, ⟨m0, w0⟩, turn⟩ := h2
  subst e
  -- what stays true of the iterator's objects through the loop
  have stat : ∀ {H' : Hp}, (∀ b ∈ fp, H' b = none) → ∀ b ∈ fp, FpOk X pins H' b := fun hn b hb => ⟨hn b hb, (f2 b hb).2⟩
  refine codeAny_forLoop_any (fun n s' => ∃ i σ' H', Inv X pins σ' H' s' ∧ tn i s'.heap ∧ (∀ b ∈ fp, H' b = none) ∧ W i n σ' H') ?_ m0 ⟨0, σ, H2, I2, st2, fun b hb => (f2 b hb).1, w0⟩
  rintro n s3 ⟨i, σ3, H3, I3, st3, fr3, w3⟩
  rcases turn i n σ3 H3 w3 with ⟨stop, qn⟩ | ⟨go, N, hN, step⟩
  · refine wpAny_passesOwn hp (thn (T.done X rfl rfl rfl hc i pins s3 σ3 H3 X.xe I3 (stat fr3) st3 stop) fun r s4 ⟨hr, I4⟩ => ?_)
    subst hr
    exact wpAny_execs_nil ⟨σ3, H3, I4, qn⟩
  · refine wpAny_passesOwn hp (thn (T.item X rfl rfl rfl hc i pins s3 σ3 H3 X.xe I3 (stat fr3) st3 go) fun r s4 ⟨u, hr, h4⟩ => ?_)
    subst hr
    refine wpAny_passesOwn hp (thn h4 fun _ s5 ⟨x, H5, I5, r5, y5, st5, fr5⟩ => ?_)
    have I5' := I5.pinned (stat fr5) (T.obj _ _ st5)
    refine wpAny_passesOwn hp (thn (hg _ s5 σ3 H5 x u _ I5' r5 (step x H5 y5)) fun _ s6 ⟨σ6, H6, I6, q6⟩ => ?_)
    refine wpAny_passesOwn hp (thn (hb _ s6 σ6 H6 _ I6 q6) fun f s7 q7 => ?_)
    have again : ∀ {σ7 : St} {H7 : Hp}, Inv X (pins ++ pinsAt fp s5.heap) σ7 H7 s7 → N σ7 H7 → ∃ m, m < n ∧ ∃ i σ' H', Inv X pins σ' H' s7 ∧ tn i s7.heap ∧ (∀ b ∈ fp, H' b = none) ∧ W i m σ' H' := fun {σ7 H7} I7 n7 => by
      obtain ⟨m', hm, w7⟩ := hN σ7 H7 n7
      refine ⟨m', hm, i + 1, σ7, H7, I7.unpinned, T.keep _ _ _ st5 fun b hb o e => (I7.pin (b, o) (List.mem_append_right _ (List.mem_append_right _ (mem_pinsAt hb e)))).1, fun b hb => ?_, w7⟩
      obtain ⟨o, e, d⟩ := T.obj _ _ st5 b hb
      exact (I7.pin (b, o) (List.mem_append_right _ (List.mem_append_right _ (mem_pinsAt hb e)))).2.1
    cases f with
    | next => obtain ⟨σ7, H7, I7, n7⟩ := q7; exact again I7 n7
    | cont => obtain ⟨σ7, H7, I7, n7⟩ := q7; exact again I7 n7
    | brk => obtain ⟨σ7, H7, I7, q7⟩ := q7; exact ⟨σ7, H7, I7.unpinned, q7⟩
    | ret v => obtain ⟨x7, σ7, H7, I7, r7, q7⟩ := q7; exact ⟨x7, σ7, H7, I7.unpinned, r7, q7⟩
end

/-! ### the forms one uses -/
/-- over a list that the body leaves as it is -/
theorem for_list {K : PySem.W.Frag} {a : Addr} {xs : List V} {g : TG} {tb : TS} {D : Ends} {σ : St} {H : Hp} (Pv : Nat → St → Hp → Prop) (h0 : Pv 0 σ H) (hl : ∀ i σ H, i ≤ xs.length → Pv i σ H → SqL K H a xs)
    (hs : ∀ i x σ H, xs[i]? = some x → Pv i σ H → g x σ H fun σ2 H2 => tb { D with nx := Pv (i + 1), ct := Pv (i + 1), bk := D.nx } σ2 H2) (hd : ∀ σ H, Pv xs.length σ H → D.nx σ H) :
    ∃ W : Nat → Nat → St → Hp → Prop, (∃ m, W 0 m σ H) ∧ ∀ i m σ H, W i m σ H →
      ((Itl K a).stop i H ∧ D.nx σ H) ∨ ((Itl K a).go i H ∧ ∃ N : St → Hp → Prop, (∀ σ' H', N σ' H' → ∃ m', m' < m ∧ W (i + 1) m' σ' H') ∧ ∀ x H', (Itl K a).yld i H x H' → g x σ H' fun σ2 H2 => tb { D with nx := N, ct := N, bk := D.nx } σ2 H2) := by
  refine ⟨fun i m σ H => m = xs.length - i ∧ i ≤ xs.length ∧ Pv i σ H, ⟨xs.length, by simp, Nat.zero_le _, h0⟩, ?_⟩
  rintro i m σ H ⟨rfl, hi, p⟩
  have q := hl i σ H hi p
  by_cases hlt : i < xs.length
  · refine .inr ⟨⟨xs, xs[i], q, by simp [hlt]⟩, Pv (i + 1), fun σ' H' p' => ⟨xs.length - (i + 1), by omega, rfl, hlt, p'⟩, fun x H' y => ?_⟩
    obtain ⟨e, y⟩ := y
    subst e
    exact hs i x σ _ (y xs q) p
  · have e : i = xs.length := by omega
    subst e
    exact .inl ⟨⟨xs, q, Nat.le_refl _⟩, hd σ H p⟩
theorem for_tup {K : PySem.W.Frag} {a : Addr} {xs : List V} {g : TG} {tb : TS} {D : Ends} {σ : St} {H : Hp} (Pv : Nat → St → Hp → Prop) (h0 : Pv 0 σ H) (hl : ∀ i σ H, i ≤ xs.length → Pv i σ H → SqT K H a xs)
    (hs : ∀ i x σ H, xs[i]? = some x → Pv i σ H → g x σ H fun σ2 H2 => tb { D with nx := Pv (i + 1), ct := Pv (i + 1), bk := D.nx } σ2 H2) (hd : ∀ σ H, Pv xs.length σ H → D.nx σ H) :
    ∃ W : Nat → Nat → St → Hp → Prop, (∃ m, W 0 m σ H) ∧ ∀ i m σ H, W i m σ H →
      ((Itt K a).stop i H ∧ D.nx σ H) ∨ ((Itt K a).go i H ∧ ∃ N : St → Hp → Prop, (∀ σ' H', N σ' H' → ∃ m', m' < m ∧ W (i + 1) m' σ' H') ∧ ∀ x H', (Itt K a).yld i H x H' → g x σ H' fun σ2 H2 => tb { D with nx := N, ct := N, bk := D.nx } σ2 H2) := by
  refine ⟨fun i m σ H => m = xs.length - i ∧ i ≤ xs.length ∧ Pv i σ H, ⟨xs.length, by simp, Nat.zero_le _, h0⟩, ?_⟩
  rintro i m σ H ⟨rfl, hi, p⟩
  have q := hl i σ H hi p
  by_cases hlt : i < xs.length
  · refine .inr ⟨⟨xs, xs[i], q, by simp [hlt]⟩, Pv (i + 1), fun σ' H' p' => ⟨xs.length - (i + 1), by omega, rfl, hlt, p'⟩, fun x H' y => ?_⟩
    obtain ⟨e, y⟩ := y
    subst e
    exact hs i x σ _ (y xs q) p
  · have e : i = xs.length := by omega
    subst e
    exact .inl ⟨⟨xs, q, Nat.le_refl _⟩, hd σ H p⟩
theorem for_range {lo : Int} {n : Nat} {g : TG} {tb : TS} {D : Ends} {σ : St} {H : Hp} (Pv : Nat → St → Hp → Prop) (h0 : Pv 0 σ H)
    (hs : ∀ i σ H, i < n → Pv i σ H → g (.int (lo + i)) σ H fun σ2 H2 => tb { D with nx := Pv (i + 1), ct := Pv (i + 1), bk := D.nx } σ2 H2) (hd : ∀ σ H, Pv n σ H → D.nx σ H) :
    ∃ W : Nat → Nat → St → Hp → Prop, (∃ m, W 0 m σ H) ∧ ∀ i m σ H, W i m σ H →
      ((Itr lo n).stop i H ∧ D.nx σ H) ∨ ((Itr lo n).go i H ∧ ∃ N : St → Hp → Prop, (∀ σ' H', N σ' H' → ∃ m', m' < m ∧ W (i + 1) m' σ' H') ∧ ∀ x H', (Itr lo n).yld i H x H' → g x σ H' fun σ2 H2 => tb { D with nx := N, ct := N, bk := D.nx } σ2 H2) := by
  refine ⟨fun i m σ H => m = n - i ∧ i ≤ n ∧ Pv i σ H, ⟨n, by simp, Nat.zero_le _, h0⟩, ?_⟩
  rintro i m σ H ⟨rfl, hi, p⟩
  by_cases hlt : i < n
  · refine .inr ⟨hlt, Pv (i + 1), fun σ' H' p' => ⟨n - (i + 1), by omega, rfl, hlt, p'⟩, fun x H' y => ?_⟩
    obtain ⟨e, y⟩ := y
    subst e y
    exact hs i σ _ hlt p
  · have e : i = n := by omega
    subst e
    exact .inl ⟨Nat.le_refl _, hd σ H p⟩
end L2

namespace L2
open PySem PySem.Spec PyProof.Rows

abbrev R2 := V → V → Hp → VK → Prop
/-- a two-place operation on values: f is binaryOp op, inplaceOp op or compareOp op -/
def OpR (X : Cx) (f : Value → Value → Sem Value) (r : R2) : Prop :=
  ∀ (pins : List (Addr × Obj)) (s : Shared) (σ : St) (H : Hp) (x y : V) (v u : Value) (Q : VK), Inv X pins σ H s → RelV x v → RelV y u → r x y H Q →
    wpAny (model X.prog X.w) X.A (f v u) (EP X pins σ Q) X.xe s
/-- a one-place operation -/
def UnR (X : Cx) (f : Value → Sem Value) (r : V → Hp → VK → Prop) : Prop :=
  ∀ (pins : List (Addr × Obj)) (s : Shared) (σ : St) (H : Hp) (x : V) (v : Value) (Q : VK), Inv X pins σ H s → RelV x v → r x H Q →
    wpAny (model X.prog X.w) X.A (f v) (EP X pins σ Q) X.xe s
/-- a call of a value that is known (a builtin, a type) with values -/
def CallR (X : Cx) (f : Value) (r : List V → Hp → VK → Prop) : Prop :=
  ∀ (pins : List (Addr × Obj)) (s : Shared) (σ : St) (H : Hp) (xs : List V) (us : List Value) (Q : VK), Inv X pins σ H s → Vals xs us → r xs H Q →
    wpAny (model X.prog X.w) X.A (call f us) (EP X pins σ Q) X.xe s
/-- a value's truth -/
def TruR (X : Cx) (r : V → Hp → (Bool → Hp → Prop) → Prop) : Prop :=
  ∀ (pins : List (Addr × Obj)) (s : Shared) (σ : St) (H : Hp) (x : V) (v : Value) (Q : Bool → Hp → Prop), Inv X pins σ H s → RelV x v → r x H Q →
    wpAny (model X.prog X.w) X.A (truthy v) (TP X pins σ Q) X.xe s

def tOp (r : R2) (ta tb : TE) : TE := fun σ H Q => ta σ H fun x H1 => tb σ H1 fun y H2 => r x y H2 Q
def tUn (r : V → Hp → VK → Prop) (ta : TE) : TE := fun σ H Q => ta σ H fun x H1 => r x H1 Q
/-- ints in, under C, and a value out -/
def rI (C : Int → Int → Prop) (g : Int → Int → V) : R2 := fun x y H Q => ∃ i j, x = .int i ∧ y = .int j ∧ C i j ∧ Q (g i j) H
def rI0 (g : Int → Int → V) : R2 := fun x y H Q => ∃ i j, x = .int i ∧ y = .int j ∧ Q (g i j) H
def rU (g : Int → V) : V → Hp → VK → Prop := fun x H Q => ∃ i, x = .int i ∧ Q (g i) H

section
variable {X : Cx} {a b c : Expr} {ta tb tc : TE} {pos : Pos}

theorem binT (ha : PE X a ta) (hb : PE X b tb) {pins : List (Addr × Obj)} {s : Shared} {σ : St} {H : Hp} {R : V → V → Hp → Prop} (I : Inv X pins σ H s)
    (h : ta σ H fun x H1 => tb σ H1 fun y H2 => R x y H2) {Q : Value → Shared → Prop} {f : Value → Value → Sem Value}
    (hf : ∀ v u s2 x y H2, Inv X pins σ H2 s2 → RelV x v → RelV y u → R x y H2 → wpAny (model X.prog X.w) X.A (f v u) Q X.xe s2) :
    wpAny (model X.prog X.w) X.A (eval a X.env) (fun v s₁ => wpAny (model X.prog X.w) X.A (eval b X.env) (fun u s₂ => wpAny (model X.prog X.w) X.A (f v u) Q X.xe s₂) X.xe s₁) X.xe s := by
  refine thn (ha pins s σ H _ I h) fun v s1 ⟨x, H1, I1, r1, q1⟩ => ?_
  refine thn (hb pins s1 σ H1 _ I1 q1) fun u s2 ⟨y, H2, I2, r2, q2⟩ => ?_
  exact hf v u s2 x y H2 I2 r1 r2 q2

theorem pe_op {op : Operator} {r : R2} (ho : OpR X (binaryOp op) r) (ha : PE X a ta) (hb : PE X b tb) : PE X (.BinOp a op b pos) (tOp r ta tb) := by
  intro pins s σ H Q I h
  exact wpAny_BinOp (binT ha hb I h fun v u s2 x y H2 I2 rx ry q => ho pins s2 σ H2 x y v u Q I2 rx ry q)
theorem pe_un {op : UnaryOp} {r : V → Hp → VK → Prop} (ho : UnR X (unaryOp op) r) (ha : PE X a ta) : PE X (.UnaryOp op a pos) (tUn r ta) := by
  intro pins s σ H Q I h
  exact UnaryOp_ (thn (ha pins s σ H _ I h) fun v s1 ⟨x, H1, I1, r1, q1⟩ => ho pins s1 σ H1 x v Q I1 r1 q1)

/-! ### ints -/
theorem opI {f : Value → Value → Sem Value} {C : Int → Int → Prop} {g : Int → Int → Int}
    (rule : ∀ (i j : Int) (t u : Tok) (s : Shared) (Q : Value → Shared → Prop) (E : Value → Shared → Prop), C i j → Q (.int (g i j) s.toks) { s with toks := s.toks + 1 } → wpAny (model X.prog X.w) X.A (f (.int i t) (.int j u)) Q E s) :
    OpR X f (rI C fun i j => .int (g i j)) := by
  intro pins s σ H x y v u Q I rx ry h
  obtain ⟨i, j, rfl, rfl, hc, q⟩ := h
  obtain ⟨t, rfl⟩ := rx
  obtain ⟨t', rfl⟩ := ry
  exact rule i j t t' s _ _ hc ⟨.int (g i j), H, I.tok _, ⟨_, rfl⟩, q⟩
theorem opI0 {f : Value → Value → Sem Value} {g : Int → Int → Int}
    (rule : ∀ (i j : Int) (t u : Tok) (s : Shared) (Q : Value → Shared → Prop) (E : Value → Shared → Prop), Q (.int (g i j) s.toks) { s with toks := s.toks + 1 } → wpAny (model X.prog X.w) X.A (f (.int i t) (.int j u)) Q E s) :
    OpR X f (rI0 fun i j => .int (g i j)) := by
  intro pins s σ H x y v u Q I rx ry h
  obtain ⟨i, j, rfl, rfl, q⟩ := h
  obtain ⟨t, rfl⟩ := rx
  obtain ⟨t', rfl⟩ := ry
  exact rule i j t t' s _ _ ⟨.int (g i j), H, I.tok _, ⟨_, rfl⟩, q⟩
theorem opB0 {f : Value → Value → Sem Value} {g : Int → Int → Bool}
    (rule : ∀ (i j : Int) (t u : Tok) (s : Shared) (Q : Value → Shared → Prop) (E : Value → Shared → Prop), Q (.bool (g i j)) s → wpAny (model X.prog X.w) X.A (f (.int i t) (.int j u)) Q E s) :
    OpR X f (rI0 fun i j => .bl (g i j)) := by
  intro pins s σ H x y v u Q I rx ry h
  obtain ⟨i, j, rfl, rfl, q⟩ := h
  obtain ⟨t, rfl⟩ := rx
  obtain ⟨t', rfl⟩ := ry
  exact rule i j t t' s _ _ ⟨.bl (g i j), H, I, rfl, q⟩

def CDiv (i j : Int) : Prop := 0 < j ∧ j < 1073741824
def CDivN (i j : Int) : Prop := j ≠ 0 ∧ j.natAbs < 1073741824
def CPow (i j : Int) : Prop := 0 ≤ j ∧ j ≤ 1000000 ∧ i.natAbs < 2 ^ 64
def CMul (i j : Int) : Prop := (-(2 ^ 64) < i ∧ i < 2 ^ 64) ∨ (-(2 ^ 64) < j ∧ j < 2 ^ 64)
theorem CMul.ok {i j : Int} (h : CMul i j) : IntMulOk i j := by
  rcases h with ⟨h1, h2⟩ | ⟨h1, h2⟩
  · exact .of_left (intBits_le_64 h1 h2)
  · exact .of_right (intBits_le_64 h1 h2)

theorem op_add : OpR X (binaryOp .Add) (rI0 fun i j => .int (i + j)) := opI0 fun _ _ _ _ _ _ _ q => add_int q
theorem op_sub : OpR X (binaryOp .Sub) (rI0 fun i j => .int (i - j)) := opI0 fun _ _ _ _ _ _ _ q => sub_int q
theorem op_mul : OpR X (binaryOp .Mult) (rI CMul fun i j => .int (i * j)) := opI fun _ _ _ _ _ _ _ hc q => mul_int q hc.ok
/-- // by a positive divisor -/
theorem op_fdiv : OpR X (binaryOp .FloorDiv) (rI CDiv fun i j => .int (i / j)) := opI fun i j _ _ _ _ _ hc q => by
  have h1 : (0 : Int) < j := hc.1
  have h2 : j < 1073741824 := hc.2
  exact floordiv_int (by omega) (by rw [Int.fdiv_eq_ediv_of_nonneg i (by omega)]; exact q) (.inl (PyProof.noPylong_small (by omega)))
/-- % by a positive divisor of any size -/
theorem op_mod : OpR X (binaryOp .Mod) (rI (fun _ j => 0 < j) fun i j => .int (i % j)) := opI fun i j _ _ _ _ _ hc q => by
  have h1 : (0 : Int) < j := hc
  exact mod_int' (by omega) (by rw [Int.fmod_eq_emod_of_nonneg i (by omega)]; exact q)
theorem op_pow : OpR X (binaryOp .Pow) (rI CPow fun i j => .int (i ^ j.toNat)) := opI fun _ _ _ _ _ _ _ hc q => pow_int_small hc.1 hc.2.1 hc.2.2 q


theorem unI {f : Value → Sem Value} {g : Int → Int}
    (rule : ∀ (i : Int) (t : Tok) (s : Shared) (Q : Value → Shared → Prop) (E : Value → Shared → Prop), Q (.int (g i) s.toks) { s with toks := s.toks + 1 } → wpAny (model X.prog X.w) X.A (f (.int i t)) Q E s) :
    UnR X f (rU fun i => .int (g i)) := by
  intro pins s σ H x v Q I rx h
  obtain ⟨i, rfl, q⟩ := h
  obtain ⟨t, rfl⟩ := rx
  exact rule i t s _ _ ⟨.int (g i), H, I.tok _, ⟨_, rfl⟩, q⟩
theorem un_neg : UnR X (unaryOp .USub) (rU fun i => .int (-i)) := unI fun _ _ _ _ _ q => neg_int q

/-! ### bools among ints: n += (a < b) -/
end

/-! ### comparisons -/
/-- the scalars that == tells apart as data does -/
def scal : V → V → Bool
  | .non, .non => true | .non, .int _ => true | .int _, .non => true | .non, .bl _ => true | .bl _, .non => true | .non, .str _ => true | .str _, .non => true
  | .int _, .int _ => true | .bl _, .bl _ => true | .str _, .str _ => true | .byt _, .byt _ => true
  | .int _, .str _ => true | .str _, .int _ => true | .bl _, .str _ => true | .str _, .bl _ => true
  | _, _ => false
def rEq : R2 := fun x y H Q => scal x y = true ∧ Q (.bl (decide (x = y))) H
def rNe : R2 := fun x y H Q => scal x y = true ∧ Q (.bl (!decide (x = y))) H

theorem dec_int {i j : Int} : decide (V.int i = V.int j) = (i == j) := by
  rw [Bool.eq_iff_iff]
  simp
theorem dec_bl {i j : Bool} : decide (V.bl i = V.bl j) = (i == j) := by
  rw [Bool.eq_iff_iff]
  simp
theorem dec_str {i j : Str} : decide (V.str i = V.str j) = (i == j) := by
  rw [Bool.eq_iff_iff]
  simp
theorem dec_byt {i j : Array UInt8} : decide (V.byt i = V.byt j) = (i.toList == j.toList) := by
  rw [Bool.eq_iff_iff]
  cases i
  cases j
  simp

section
variable {X : Cx} {a b c : Expr} {ta tb tc : TE} {pos : Pos}
theorem fin_bl {pins : List (Addr × Obj)} {σ : St} {H : Hp} {s : Shared} {Q : VK} {k k' : Bool} (I : Inv X pins σ H s) (q : Q (.bl k) H) (e : k = k') : EP X pins σ Q (.bool k') s := by
  subst e
  exact ⟨.bl k, H, I, rfl, q⟩
theorem op_eq : OpR X (compareOp .Eq) rEq := by
  intro pins s σ H x y v u Q I rx ry h
  obtain ⟨hs, q⟩ := h
  cases x with
  | non =>
    cases rx
    cases y with
    | non => cases ry; exact PySem.EqNone.eq_none_none (fin_bl I q (by simp))
    | bl j => cases ry; exact PySem.EqNone.eq_none_bool (fin_bl I q (by simp))
    | int j => obtain ⟨t', rfl⟩ := ry; exact PySem.EqNone.eq_none_int (fin_bl I q (by simp))
    | str j => obtain ⟨t', rfl⟩ := ry; exact PySem.EqNone.eq_none_str (fin_bl I q (by simp))
    | _ => exact absurd (show false = true from hs) Bool.false_ne_true
  | bl i =>
    cases rx
    cases y with
    | non => cases ry; exact PySem.EqNone.eq_bool_none (fin_bl I q (by simp))
    | bl j => cases ry; exact eq_bool (fin_bl I q dec_bl)
    | str j => obtain ⟨t', rfl⟩ := ry; exact PySem.EqMixed.eq_bool_str (fin_bl I q (by simp))
    | _ => exact absurd (show false = true from hs) Bool.false_ne_true
  | int i =>
    obtain ⟨t, rfl⟩ := rx
    cases y with
    | non => cases ry; exact PySem.EqNone.eq_int_none (fin_bl I q (by simp))
    | int j => obtain ⟨t', rfl⟩ := ry; exact eq_int (fin_bl I q dec_int)
    | str j => obtain ⟨t', rfl⟩ := ry; exact PySem.EqMixed.eq_int_str (fin_bl I q (by simp))
    | _ => exact absurd (show false = true from hs) Bool.false_ne_true
  | str i =>
    obtain ⟨t, rfl⟩ := rx
    cases y with
    | non => cases ry; exact PySem.EqNone.eq_str_none (fin_bl I q (by simp))
    | bl j => cases ry; exact PySem.EqMixed.eq_str_bool (fin_bl I q (by simp))
    | int j => obtain ⟨t', rfl⟩ := ry; exact PySem.EqMixed.eq_str_int (fin_bl I q (by simp))
    | str j => obtain ⟨t', rfl⟩ := ry; exact eq_str (fin_bl I q dec_str)
    | _ => exact absurd (show false = true from hs) Bool.false_ne_true
  | byt i =>
    obtain ⟨t, rfl⟩ := rx
    cases y with
    | byt j => obtain ⟨t', rfl⟩ := ry; exact PySem.W.eq_bytes (fin_bl I q dec_byt)
    | _ => exact absurd (show false = true from hs) Bool.false_ne_true
  | _ => cases y <;> exact absurd (show false = true from hs) Bool.false_ne_true
theorem op_ne : OpR X (compareOp .NotEq) rNe := by
  intro pins s σ H x y v u Q I rx ry h
  obtain ⟨hs, q⟩ := h
  cases x with
  | non =>
    cases rx
    cases y with
    | non => cases ry; exact PySem.EqNone.ne_none_none (fin_bl I q (by simp))
    | bl j => cases ry; exact PySem.EqNone.ne_none_bool (fin_bl I q (by simp))
    | int j => obtain ⟨t', rfl⟩ := ry; exact PySem.EqNone.ne_none_int (fin_bl I q (by simp))
    | str j => obtain ⟨t', rfl⟩ := ry; exact PySem.EqNone.ne_none_str (fin_bl I q (by simp))
    | _ => exact absurd (show false = true from hs) Bool.false_ne_true
  | bl i =>
    cases rx
    cases y with
    | non => cases ry; exact PySem.EqNone.ne_bool_none (fin_bl I q (by simp))
    | bl j => cases ry; exact ne_bool (fin_bl I q (congrArg not dec_bl))
    | str j => obtain ⟨t', rfl⟩ := ry; exact PySem.EqMixed.ne_bool_str (fin_bl I q (by simp))
    | _ => exact absurd (show false = true from hs) Bool.false_ne_true
  | int i =>
    obtain ⟨t, rfl⟩ := rx
    cases y with
    | non => cases ry; exact PySem.EqNone.ne_int_none (fin_bl I q (by simp))
    | int j => obtain ⟨t', rfl⟩ := ry; exact ne_int (fin_bl I q (congrArg not dec_int))
    | str j => obtain ⟨t', rfl⟩ := ry; exact PySem.EqMixed.ne_int_str (fin_bl I q (by simp))
    | _ => exact absurd (show false = true from hs) Bool.false_ne_true
  | str i =>
    obtain ⟨t, rfl⟩ := rx
    cases y with
    | non => cases ry; exact PySem.EqNone.ne_str_none (fin_bl I q (by simp))
    | bl j => cases ry; exact PySem.EqMixed.ne_str_bool (fin_bl I q (by simp))
    | int j => obtain ⟨t', rfl⟩ := ry; exact PySem.EqMixed.ne_str_int (fin_bl I q (by simp))
    | str j => obtain ⟨t', rfl⟩ := ry; exact ne_str (fin_bl I q (congrArg not dec_str))
    | _ => exact absurd (show false = true from hs) Bool.false_ne_true
  | byt i =>
    obtain ⟨t, rfl⟩ := rx
    cases y with
    | byt j => obtain ⟨t', rfl⟩ := ry; exact PySem.W.ne_bytes (fin_bl I q (congrArg not dec_byt))
    | _ => exact absurd (show false = true from hs) Bool.false_ne_true
  | _ => cases y <;> exact absurd (show false = true from hs) Bool.false_ne_true

theorem op_lt : OpR X (compareOp .Lt) (rI0 fun i j => .bl (decide (i < j))) := opB0 fun _ _ _ _ _ _ _ q => lt_int q
theorem op_le : OpR X (compareOp .LtE) (rI0 fun i j => .bl (decide (i ≤ j))) := opB0 fun _ _ _ _ _ _ _ q => le_int q
theorem op_gt : OpR X (compareOp .Gt) (rI0 fun i j => .bl (decide (j < i))) := opB0 fun _ _ _ _ _ _ _ q => gt_int q
theorem op_ge : OpR X (compareOp .GtE) (rI0 fun i j => .bl (decide (j ≤ i))) := opB0 fun _ _ _ _ _ _ _ q => ge_int q

theorem op_notN : OpR X (compareOp .IsNot) (fun x y H Q => y = .non ∧ Q (.bl (!decide (x = .non))) H) := by
  intro pins s σ H x y v u Q I rx ry h
  obtain ⟨rfl, q⟩ := h
  cases ry
  refine isnot_none_gen (fin_bl I q ?_)
  cases x <;> first
    | (cases rx; rfl)
    | (obtain ⟨t, rfl⟩ := rx; rfl)

/-- is, is not of two objects that are tracked lists or instances -/
def isObj : HO → Bool
  | .lst _ => true
  | .ins _ _ _ => true
  | _ => false


theorem nomark (b : Expr) {op : CmpOp} (h : op ≠ .In := by decide) (h2 : op ≠ .NotIn := by decide) : behindInMarks op b = false := by
  have e1 : (op == CmpOp.In) = false := by cases op <;> first | rfl | exact absurd rfl h
  have e2 : (op == CmpOp.NotIn) = false := by cases op <;> first | rfl | exact absurd rfl h2
  cases b <;> simp [behindInMarks, e1, e2]
/-- a comparison as a value; hm: nomark b, or (for in, not in) by with_unfolding_all rfl -/
theorem pe_cmpR {op : CmpOp} {r : R2} (ho : OpR X (compareOp op) r) (ha : PE X a ta) (hb : PE X b tb) (hm : behindInMarks op b = false) : PE X (.Compare a [op] [b] pos) (tOp r ta tb) := by
  intro pins s σ H Q I h
  exact wpAny_Compare1 (binT ha hb I h fun v u s2 x y H2 I2 rx ry q => ho pins s2 σ H2 x y v u Q I2 rx ry q) hm
/-- a reading of a value as a test -/
def tTest (t : TE) : TT := fun σ H Q => t σ H fun x H' => ∃ k, x = .bl k ∧ Q k H'
theorem pt_cmpR {op : CmpOp} {r : R2} (ho : OpR X (compareOp op) r) (ha : PE X a ta) (hb : PE X b tb) (hm : behindInMarks op b = false) : PT X (.Compare a [op] [b] pos) (tTest (tOp r ta tb)) := by
  intro pins s σ H Q I h
  refine wpAny_isTrue_Compare1 (thn (ha pins s σ H _ I h) fun v s1 ⟨x, H1, I1, r1, q1⟩ => thn (hb pins s1 σ H1 _ I1 q1) fun u s2 ⟨y, H2, I2, r2, q2⟩ =>
    thn (ho pins s2 σ H2 x y v u _ I2 r1 r2 q2) fun c s3 ⟨z, H3, I3, r3, k, e, q3⟩ => ?_) hm
  subst e
  cases r3
  exact wpAny_truthy_bool ⟨H3, I3, q3⟩
/-- a op1 b op2 c -/
def tChain (r r' : R2) (ta tb tc : TE) : TE := fun σ H Q => ta σ H fun x H1 => tb σ H1 fun y H2 => r x y H2 fun z H3 => ∃ k, z = .bl k ∧
  (if k = true then tc σ H3 fun w' H4 => r' y w' H4 Q else Q (.bl false) H3)
theorem pe_chain {op op' : CmpOp} {r r' : R2} (ho : OpR X (compareOp op) r) (ho' : OpR X (compareOp op') r') (ha : PE X a ta) (hb : PE X b tb) (hc : PE X c tc)
    (hm : lastMarks [op, op'] [b, c] = false := by with_unfolding_all rfl) : PE X (.Compare a [op, op'] [b, c] pos) (tChain r r' ta tb tc) := by
  intro pins s σ H Q I h
  refine Compare_chain (thn (ha pins s σ H _ I h) fun v s1 ⟨x, H1, I1, r1, q1⟩ => chain_link (thn (hb pins s1 σ H1 _ I1 q1) fun u s2 ⟨y, H2, I2, r2, q2⟩ =>
    thn (ho pins s2 σ H2 x y v u _ I2 r1 r2 q2) fun d s3 ⟨z, H3, I3, r3, k, e, q3⟩ => ?_)) hm
  subst e
  cases r3
  refine wpAny_truthy_bool ?_
  cases k with
  | false => exact ite_ff ⟨.bl false, H3, I3, rfl, q3⟩
  | true => exact ite_tt (chain_last (thn (hc pins s3 σ H3 _ I3 q3) fun w' s4 ⟨z', H4, I4, r4, q4⟩ => ho' pins s4 σ H4 y z' u w' Q I4 r2 r4 q4))

/-! ### truth -/
/-- a value's truth by the abstract heap -/
def TruV (K : PySem.W.Frag) (x : V) (H : Hp) (k : Bool) : Prop :=
  match x with
  | .non => k = false
  | .bl b => k = b
  | .int i => k = (i != 0)
  | .str y => y.length ≤ sizeLine ∧ k = ((y.length : Int) != 0)
  | .byt y => y.size ≤ sizeLine ∧ k = ((y.size : Int) != 0)
  | .ref p => (∃ xs, SqL K H p xs ∧ k = !xs.isEmpty) ∨ (∃ xs, SqT K H p xs ∧ k = !xs.isEmpty) ∨ ∃ kvs, H p = some (.dK kvs) ∧ k = !kvs.isEmpty
  | _ => False
theorem line63 : (sizeLine : Nat) < 2 ^ 63 := by rw [sizeLine_eq]; decide

/-! ### strs and bytes -/

def PlainIxT (b : Expr) : Prop := ∀ o i, subscripted b false o i = operate [o, i] (getItem o i)

/-! ### scalar builtins, by CallR -/
theorem vals1 {x : V} {us : List Value} (r : Vals [x] us) : ∃ u, us = [u] ∧ RelV x u := by
  cases r with
  | cons r1 r2 => cases r2; exact ⟨_, rfl, r1⟩
theorem vals2 {x y : V} {us : List Value} (r : Vals [x, y] us) : ∃ u w', us = [u, w'] ∧ RelV x u ∧ RelV y w' := by
  cases r with
  | cons r1 r2 =>
    cases r2 with
    | cons r3 r4 => cases r4; exact ⟨_, _, rfl, r1, r3⟩
theorem call_abs : CallR X (.builtin "abs") (fun xs H Q => ∃ i, xs = [.int i] ∧ Q (.int (if i < 0 then -i else i)) H) := by
  intro pins s σ H xs us Q I r h
  obtain ⟨i, rfl, q⟩ := h
  obtain ⟨u, rfl, t, rfl⟩ := vals1 r
  exact call_abs_int fun u tk => ⟨.int (if i < 0 then -i else i), H, I.tok _, ⟨_, rfl⟩, q⟩
theorem call_max2 (hc : X.calm = true) : CallR X (.builtin "max") (fun xs H Q => ∃ i j, xs = [.int i, .int j] ∧ Q (.int (if j > i then j else i)) H) := by
  intro pins s σ H xs us Q I r h
  obtain ⟨i, j, rfl, q⟩ := h
  obtain ⟨u, w', rfl, ⟨t, rfl⟩, ⟨t', rfl⟩⟩ := vals2 r
  refine max_two_ints (I.ok.hd hc) fun h' tk k => ⟨_, H, I.kept k, ?_, q⟩
  by_cases hj : j > i
  · rw [if_pos hj, if_pos hj]; exact ⟨_, rfl⟩
  · rw [if_neg hj, if_neg hj]; exact ⟨_, rfl⟩
theorem call_min2 (hc : X.calm = true) : CallR X (.builtin "min") (fun xs H Q => ∃ i j, xs = [.int i, .int j] ∧ Q (.int (if j < i then j else i)) H) := by
  intro pins s σ H xs us Q I r h
  obtain ⟨i, j, rfl, q⟩ := h
  obtain ⟨u, w', rfl, ⟨t, rfl⟩, ⟨t', rfl⟩⟩ := vals2 r
  refine min_two_ints (I.ok.hd hc) fun h' tk k => ⟨_, H, I.kept k, ?_, q⟩
  by_cases hj : j < i
  · rw [if_pos hj, if_pos hj]; exact ⟨_, rfl⟩
  · rw [if_neg hj, if_neg hj]; exact ⟨_, rfl⟩
/-- len of a str, a bytes, a list, a tuple -/
def LenV (K : PySem.W.Frag) (x : V) (H : Hp) (n : Nat) : Prop :=
  match x with
  | .str y => y.length ≤ sizeLine ∧ n = y.length
  | .byt y => y.size ≤ sizeLine ∧ n = y.size
  | .ref p => (∃ xs, SqL K H p xs ∧ n = xs.length) ∨ ∃ xs, SqT K H p xs ∧ n = xs.length
  | _ => False
end
end L2

namespace L2
open PySem PySem.Spec PyProof.Rows

/-! ### an instance, its attributes a map -/
structure ObjM (h : Heap) (x dx C : Addr) (mA : Str → Option Value) : Prop where
  obj : h.get? x = some (PySem.W.instObj C dx)
  ns : h.Ns1 dx mA
  ne : dx ≠ x



section
variable {prog : Program} {w : World} {A : Around} {E : Value → Shared → Prop} {s : Shared} {K : PySem.W.Frag} {x dx C f : Addr} {mA : Str → Option Value} {name : Str} {v : Value}





end

/-! ### the attributes as a list of pairs -/
def putF (f : Str) (v : V) : List (Str × V) → List (Str × V)
  | [] => [(f, v)]
  | (g, x) :: r => if g = f then (g, v) :: r else (g, x) :: putF f v r


section
variable {P : Program} {w : World} {H H' : Hp} {h h' : Heap} {a C dx : Addr} {fs fs' : List (Str × V)}
end

/-! ### what of the text a class must have -/
structure Cls (K : PySem.W.Frag) (C : Addr) : Prop where
  pg : PySem.W.plainGet K C Str.empty = true
  hd : PySem.W.hasDictIn K C = true
  po : PySem.W.plainOver K C = true
  sa : PySem.W.findIn K (.ref C) "__setattr__" = some (some (.builtin "object.__setattr__"))
/-- no class of it has the name -/
def NoAttr (K : PySem.W.Frag) (C : Addr) (f : Str) : Prop := PySem.W.findIn K (.ref C) f = some none
/-- a constant of the class -/
structure Con (K : PySem.W.Frag) (C : Addr) (f : Str) (v : V) (u : Value) : Prop where
  at_ : PySem.W.findIn K (.ref C) f = some (some u)
  rel : RelV v u
  get : PySem.W.specialIn K u "__get__" = some none
  cp : PySem.W.copiedNames.contains f = false
/-- a method: a plain def of the class or of one above it -/
structure Meth (K : PySem.W.Frag) (C : Addr) (m : Str) (f : Addr) : Prop where
  at_ : PySem.W.findIn K (.ref C) m = some (some (.ref f))
  fn : PySem.W.isFn K (.ref f) = true
  kp : PySem.W.keepIn K (.ref f) = true

section
variable {X : Cx} {pins : List (Addr × Obj)} {σ : St} {H : Hp} {s : Shared} {a C dx : Addr} {fs : List (Str × V)} {f : Str} {v : V} {A : Around} {E : Value → Shared → Prop}






end

/-! ### readings and rules -/
/-- e.f, an attribute of the instance -/
def tFld (K : PySem.W.Frag) (ta : TE) (f : Str) : TE := fun σ H Q => ta σ H fun x H1 => ∃ a C dx fs v, x = .ref a ∧ H1 a = some (.ins C dx fs) ∧ Cls K C ∧ NoAttr K C f ∧ fs.lookup f = some v ∧ Q v H1
/-- e.f, a constant of the class -/
def tCon (K : PySem.W.Frag) (ta : TE) (f : Str) : TE := fun σ H Q => ta σ H fun x H1 => ∃ a C dx fs v u, x = .ref a ∧ H1 a = some (.ins C dx fs) ∧ Cls K C ∧ Con K C f v u ∧ fs.lookup f = none ∧ Q v H1
/-- e.f = value -/
def sFld (K : PySem.W.Frag) (ta tv : TE) (f : Str) : TS := fun D σ H => tv σ H fun y H1 => ta σ H1 fun x H2 => ∃ a C dx fs, x = .ref a ∧ H2 a = some (.ins C dx fs) ∧ Cls K C ∧ NoAttr K C f ∧ fs.length < 1000 ∧
  D.nx σ (upd H2 a (.ins C dx (putF f y fs)))
/-- an augmented operator on two values -/
def InOp (X : Cx) (op : Operator) (rd : V → V → Hp → VK → Prop) : Prop :=
  ∀ (pins : List (Addr × Obj)) (s : Shared) (σ : St) (H : Hp) (x y : V) (u v : Value) (Q : VK), Inv X pins σ H s → RelV x u → RelV y v → rd x y H Q → wpAny (model X.prog X.w) X.A (inplaceOp op u v) (EP X pins σ Q) X.xe s
/-- e.f op= value -/
def sFldAug (K : PySem.W.Frag) (ta tv : TE) (rd : V → V → Hp → VK → Prop) (f : Str) : TS := fun D σ H => ta σ H fun x H1 => ∃ a C dx fs v, x = .ref a ∧ H1 a = some (.ins C dx fs) ∧ Cls K C ∧ NoAttr K C f ∧ fs.lookup f = some v ∧
  tv σ H1 fun y H2 => rd v y H2 fun z H3 => ∃ dx' fs', H3 a = some (.ins C dx' fs') ∧ fs'.length < 1000 ∧ D.nx σ (upd H3 a (.ins C dx' (putF f z fs')))

section
variable {X : Cx} {o e value : Expr} {f : Str} {pos pos' tpos : Pos} {ta tv : TE}
def rAdd : V → V → Hp → VK → Prop := fun x y H Q => ∃ i j, x = .int i ∧ y = .int j ∧ Q (.int (i + j)) H
def rSub : V → V → Hp → VK → Prop := fun x y H Q => ∃ i j, x = .int i ∧ y = .int j ∧ Q (.int (i - j)) H

end

/-! ### isinstance -/
section
variable {X : Cx} {pins : List (Addr × Obj)} {σ : St} {H : Hp} {s : Shared} {A : Around} {E : Value → Shared → Prop} {Q : Value → Shared → Prop} {c : Value} {b : Bool}
/-- the type of a value, as the fragment's deciders take it; for an instance its class -/
inductive TyOf (K : PySem.W.Frag) (H : Hp) : V → Value → Prop where
  | non : TyOf K H .non (.type "NoneType")
  | bl (x : Bool) : TyOf K H (.bl x) (.type "bool")
  | int (i : Int) : TyOf K H (.int i) (.type "int")
  | str (x : Str) : TyOf K H (.str x) (.type "str")
  | flt (x : UInt64) : TyOf K H (.flt x) (.type "float")
  | lst {a : Addr} {xs : List V} (e : H a = some (.lst xs)) : TyOf K H (.ref a) (.type "list")
  | frz {a : Addr} {o : Obj} {xs : List V} (e : H a = some (.frz o (.lst xs))) : TyOf K H (.ref a) (.type "list")
  | tup {a : Addr} {xs : List V} (e : H a = some (.tup xs)) : TyOf K H (.ref a) (.type "tuple")
  | dK {a : Addr} {kvs : List (Key × V)} (e : H a = some (.dK kvs)) : TyOf K H (.ref a) (.type "dict")
  | dT {a : Addr} {kvs : List (List Key × V)} (e : H a = some (.dT kvs)) : TyOf K H (.ref a) (.type "dict")
  | ins {a C dx : Addr} {fs : List (Str × V)} (e : H a = some (.ins C dx fs)) (cl : Cls K C) (ha : PySem.W.findIn K (.ref C) "__class__" = some (some (.builtin "object.__class__")))
      (hn : PySem.W.specialIn K (.builtin "object.__class__") "__get__" = some (some (.builtin "getset_descriptor.__get__"))) (htk : PySem.W.takesIn K (.builtin "object.__class__") = some true)
      (hm : PySem.W.mroIn K C (.type "object") = some true) : TyOf K H (.ref a) (.ref C)
end
end L2

namespace L2
open PySem PySem.Spec PyProof.Rows

/-! ### room -/
structure Room (k : Nat) (A : Around) : Prop where
  hd : A.handled = none
  dp : A.depth + 3 * k + 5 < recursionLimit
  un : A.units + 16 * k + 200 < cLine
  gd : A.guards = some []
theorem Room.mono {j k : Nat} {A : Around} (r : Room k A) (h : j ≤ k) : Room j A := ⟨r.hd, by have := r.dp; omega, by have := r.un; omega, r.gd⟩
theorem Room.deeper {k : Nat} {A : Around} (r : Room (k + 1) A) (env : Env) : Room k (A.deeper env) :=
  ⟨r.hd, by have := r.dp; show A.depth + 1 + 3 * k + 5 < _; omega, by have := r.un; show A.units + 3 + 16 * k + 200 < _; omega, r.gd⟩
theorem Room.depth {k : Nat} {A : Around} (r : Room k A) : A.depth < recursionLimit := by have := r.dp; omega
theorem Room.units {k : Nat} {A : Around} (r : Room k A) : A.units + 64 < cLine := by have := r.un; omega

/-! ### argument lists and displays -/
def tNil : TA := fun _ H Q => Q [] H
def tCons (ta : TE) (tr : TA) : TA := fun σ H Q => ta σ H fun x H1 => tr σ H1 fun xs H2 => Q (x :: xs) H2
section
variable {X : Cx} {e : Expr} {es : List Expr} {te : TE} {t : TA} {pos : Pos}
theorem pa_nil : PA X [] tNil := fun _ _ _ _ H Q I h => Calls.spliced_nil ⟨[], H, I, .nil, h⟩
theorem pa_cons (ha : PE X e te) (hr : PA X es t) (hs : starEach (e :: es) X.env = (false, eval e X.env) :: starEach es X.env := by rfl) : PA X (e :: es) (tCons te t) := by
  intro pos pins s σ H Q I h
  rw [hs]
  show wpAny _ _ (spliced ((false, eval e X.env) :: backTo pos (starEach es X.env))) _ _ s
  refine Calls.spliced_cons (thn (ha pins s σ H _ I h) fun u s1 ⟨x, H1, I1, r1, q1⟩ => ?_)
  exact thn (hr pos pins s1 σ H1 _ I1 q1) fun us s2 ⟨xs, H2, I2, r2, q2⟩ => ⟨x :: xs, H2, I2, .cons r1 r2, q2⟩

/-- a tuple, a list of written items -/
def tTup (t : TA) : TE := fun σ H Q => t σ H fun xs H1 => xs.length ≤ sizeLine ∧ ∀ p, H1 p = none → Q (.ref p) (upd H1 p (.tup xs))
def tLst (t : TA) : TE := fun σ H Q => t σ H fun xs H1 => xs.length ≤ sizeLine ∧ ∀ p, H1 p = none → Q (.ref p) (upd H1 p (.lst xs))
theorem pe_tup {x1} (h : PA X es t) : PE X (.Tuple es x1 pos) (tTup t) := by
  intro pins s σ H Q I hq
  refine wpAny_Tuple_spliced (thn (h pos pins s σ H _ I hq) fun us s1 ⟨xs, H1, I1, r, z, q⟩ => ⟨by rw [← r.length]; exact z, ?_⟩)
  have hf : H1 s1.heap.objs.size = none := I1.hok.fresh (Nat.le_refl _)
  refine ⟨.ref s1.heap.objs.size, upd H1 s1.heap.objs.size (.tup xs), I1.laid (t' := s1.toks) (fun b u e => Heap.get?_push_of_some _ e) (Nat.le_refl _) ?_, rfl, q _ hf⟩
  exact ⟨z, us, r, ⟨_, Heap.get?_push_size _ rfl, rfl, _, rfl⟩⟩
theorem pe_lst (h : PA X es t) : PE X (.List es pos) (tLst t) := by
  intro pins s σ H Q I hq
  refine wpAny_List_spliced (thn (h pos pins s σ H _ I hq) fun us s1 ⟨xs, H1, I1, r, z, q⟩ => ⟨by rw [← r.length]; exact z, ?_⟩)
  have hf : H1 s1.heap.objs.size = none := I1.hok.fresh (Nat.le_refl _)
  refine ⟨.ref s1.heap.objs.size, upd H1 s1.heap.objs.size (.lst xs), I1.laid (t' := s1.toks) (fun b u e => Heap.get?_push_of_some _ e) (Nat.le_refl _) ?_, rfl, q _ hf⟩
  exact ⟨z, us, 0, r, Heap.get?_push_size _ rfl⟩
end

/-! ### what a def promises -/
/-- a def's promise: the bound arguments in the parameters' order, the heap, the wanted end, the wanted exception -/
abbrev Sp := List V → Hp → VK → XK → Prop
/-- how an exception lies behind a call (file 08 gives it): the callers' frames, abstract heap and state ahead of the call, the wish, the exception, the state -/
abbrev CXT := List Env → Hp → Shared → XK → Value → Shared → Prop

/-- the state at a call -/
structure Env0 (P : Program) (w : World) (K : PySem.W.Frag) (mg : Str → Option Value) (base : Heap) (A : Around) (outer : List Env) (s : Shared) (H : Hp) : Prop where
  frames : A.frames = some outer
  mod : Mod K mg base
  bs : ∀ b o, base.get? b = some o → s.heap.get? b = some o ∧ H b = none
  bsz : base.objs.size ≤ s.heap.objs.size
  funs : s.heap.FunFrames base outer
  frf : ∀ b ∈ frs outer, H b = none
  hok : HOk P w H s.heap
  bare : AllBare s.gens
/-- a call's end -/
def CE (outer : List Env) (P : Program) (w : World) (H : Hp) (s : Shared) (Q : VK) (u : Value) (s' : Shared) : Prop :=
  ∃ v H', s'.os = s.os ∧ AllBare s'.gens ∧ Un (frs outer) [] H H' s.heap s'.heap ∧ HOk P w H' s'.heap ∧ RelV v u ∧ Q v H'
def CR (CX : CXT) (outer : List Env) (P : Program) (w : World) (H : Hp) (s : Shared) (Q : VK) (E : XK) (r : Result) (s' : Shared) : Prop :=
  match r with
  | .ok (.ret u) => CE outer P w H s Q u s'
  | .ok _ => False
  | .error e => CX outer H s E e s'
structure FnOk (P : Program) (w : World) (K : PySem.W.Frag) (mg : Str → Option Value) (base : Heap) (CX : CXT) (k : Nat) (f : Addr) (fd : FuncData) (ps : List Str) (sp : Sp) : Prop where
  len : ∀ vs H Q E, sp vs H Q E → vs.length = ps.length
  run : ∀ (A : Around) (outer : List Env) (s : Shared) (H : Hp) (args : Args) (us : List Value) (vs : List V) (Q : VK) (E : XK), Room k A → Env0 P w K mg base A outer s H → BindsTo s fd args (ps.zip us) → Vals vs us → sp vs H Q E →
    codeAny (model P w) A (.call (.ref f) args) (CR CX outer P w H s Q E) s


section
variable {X : Cx} {pins : List (Addr × Obj)} {σ : St} {H : Hp} {s s' : Shared}
/-- from a body: what a callee wants -/
theorem Inv.env0 (I : Inv X pins σ H s) : Env0 X.prog X.w X.K X.mg X.base X.A X.stack s H :=
  ⟨I.ok.frames, I.ok.mod, I.bs, Nat.le_trans I.ok.bsz I.sz, I.stack, I.stkFree, I.hok, I.bare⟩
/-- behind a call -/
theorem Inv.after {Q : VK} {u : Value} (I : Inv X pins σ H s) (h : CE X.stack X.prog X.w H s Q u s') : EP X pins σ Q u s' := by
  obtain ⟨v, H', os, bare, un, hok, r, q⟩ := h
  obtain ⟨hh, g, d, t, os'⟩ := s'
  obtain rfl : os' = s.os := os
  exact ⟨v, H', I.call (h' := hh) (g' := g) (d' := d) (t' := t) (ch := []) un hok bare (fun b z => absurd z (by simp)), r, q⟩
end

/-! ### calls -/
/-- f(..): the written arguments, then the defaults dvs; E: what is wanted of an exception -/
def tCall (sp : Sp) (dvs : List V) (E : XK) (t : TA) : TE := fun σ H Q => t σ H fun vs H1 => sp (vs ++ dvs) H1 Q E
/-- o.m(..) of an instance of the class at C -/
def tMeth (C : Addr) (m : Str) (sp : Sp) (dvs : List V) (E : XK) (ta : TE) (t : TA) : TE := fun σ H Q => ta σ H fun x H1 => ∃ a dx fs, x = .ref a ∧ H1 a = some (.ins C dx fs) ∧ fs.lookup m = none ∧
  t σ H1 fun vs H2 => sp (x :: (vs ++ dvs)) H2 Q E
/-- C(..): a new instance and its dict, then __init__ -/
def tMake (C : Addr) (sp : Sp) (dvs : List V) (E : XK) (t : TA) : TE := fun σ H Q => t σ H fun vs H1 => ∀ x dx, H1 x = none → H1 dx = none → dx ≠ x →
  sp (.ref x :: (vs ++ dvs)) (upd (upd H1 dx (.own x)) x (.ins C dx [])) (fun v H2 => v = .non ∧ Q (.ref x) H2) E

/-- how the parameters are bound: us the positional arguments, kw the keywords' values by name, ds the defaults that fill up -/
def Binds (K : PySem.W.Frag) (fd : FuncData) (ps : List Str) (ds : List Value) : Prop :=
  ∀ (s : Shared) (us : List Value), K.In s.heap → (us ++ ds).length = ps.length → BindsTo s fd ⟨us, []⟩ (ps.zip (us ++ ds))
/-- every parameter is given -/
theorem Binds.all {K : PySem.W.Frag} {fd : FuncData} {ps : List Str} (h : ∀ us : List Value, us.length = ps.length → bindArgs fd ⟨us, []⟩ = pure (ps.zip us)) : Binds K fd ps [] := fun s us _ hl => by
  rw [List.append_nil] at hl ⊢
  exact .of_eq (h us hl)

/-- an exception of a callee reaches what this body wants of exceptions -/
def Passes (CX : CXT) (X : Cx) (E : XK) : Prop := ∀ (pins : List (Addr × Obj)) (σ : St) (H : Hp) (s : Shared) (e : Value) (s' : Shared), Inv X pins σ H s → CX X.stack H s E e s' → X.xe e s'

section
variable {X : Cx} {CX : CXT} {k : Nat} {f C : Addr} {fd : FuncData} {ps : List Str} {sp : Sp} {dvs : List V} {ds : List Value} {E : XK} {x m : Str} {p pos apos : Pos} {e o : Expr} {es : List Expr} {ta : TE} {t : TA}

/-- the callee runs -/
theorem run_fn {pins : List (Addr × Obj)} {σ : St} {H : Hp} {s : Shared} {Q : VK} {us : List Value} {vs : List V} (F : FnOk X.prog X.w X.K X.mg X.base CX k f fd ps sp) (hr : Room k X.A) (hb : Binds X.K fd ps ds) (hd : Vals dvs ds) (hx : Passes CX X E)
    (I : Inv X pins σ H s) (r : Vals vs us) (h : sp (vs ++ dvs) H Q E) : wpAny (model X.prog X.w) X.A (call (.ref f) us) (EP X pins σ Q) X.xe s := by
  have r2 : Vals (vs ++ dvs) (us ++ ds) := r.append hd
  have hl : (us ++ ds).length = ps.length := by rw [← r2.length]; exact F.len _ _ _ _ h
  refine wpAny_call (codeAny_mono (F.run X.A X.stack s H ⟨us, []⟩ (us ++ ds) (vs ++ dvs) Q E hr I.env0 (hb s us I.kIn hl) r2 h) fun r s' hq => ?_)
  cases r with
  | error e => exact hx pins σ H s e s' I hq
  | ok fl =>
    cases fl with
    | ret u => exact I.after hq
    | next => exact False.elim hq
    | brk => exact False.elim hq
    | cont => exact False.elim hq

theorem pe_call (F : FnOk X.prog X.w X.K X.mg X.base CX k f fd ps sp) (hr : Room k X.A) (hg : Gl X x) (hm : X.mg x = some (.ref f)) (hk : PySem.W.keepIn X.K (.ref f) = true) (hb : Binds X.K fd ps ds) (hd : Vals dvs ds) (hx : Passes CX X E)
    (ha : PA X (e :: es) t) (hdb : (x == ("__debug__" : Str)) = false := by decide) (he : starEach (e :: es) X.env = (false, eval e X.env) :: starEach es X.env := by rfl) (hpl : (backTo pos (starEach es X.env)).any (·.1) = false := by rfl) :
    PE X (.Call (.Name x p) (e :: es) [] pos) (tCall sp dvs E t) := by
  intro pins s σ H Q I h
  refine wpAny_Call_Name_kw (ld_glob I hg hm ?_ hdb)
  refine PySem.W.callWith_K (h₀ := X.base) I.ok.mod.kin hk (thn (ha pos pins s σ H _ I h) fun us s1 ⟨vs, H1, I1, r, q⟩ => ⟨I1.kIn, ?_⟩) he hpl
  exact run_fn F hr hb hd hx I1 r q


/-- what a class must have to be made -/
structure Mk (K : PySem.W.Frag) (C f : Addr) : Prop where
  makes : PySem.W.makesIn K C = true
  init : PySem.W.findIn K (.ref C) "__init__" = some (some (.ref f))
  fn : PySem.W.isFn K (.ref f) = true
  kp : PySem.W.keepIn K (.ref C) = true

end

/-! ### keywords -/
/-- the values of the keywords, from the left -/
def PK (X : Cx) (kws : List Keyword) (t : TA) : Prop :=
  ∀ (pos : Pos) (pins : List (Addr × Obj)) (s : Shared) (σ : St) (H : Hp) (Q : List V → Hp → Prop), Inv X pins σ H s → t σ H Q → wpAny (model X.prog X.w) X.A (evalAll ((backToKw pos (keywordEach kws X.env)).map (·.2))) (AP X pins σ Q) X.xe s
section
variable {X : Cx} {CX : CXT} {k : Nat} {f C : Addr} {fd : FuncData} {ps ks : List Str} {sp : Sp} {E : XK} {x m : Str} {p pos apos kpos : Pos} {e o : Expr} {es : List Expr} {kws : List Keyword} {te ta : TE} {t tk : TA} {nm : Option Str}

/-- how a call with keywords binds: g puts the positional values us and the keywords' values ws (names ks) in the parameters' order, defaults among them -/
structure KBinds (K : PySem.W.Frag) (fd : FuncData) (ps ks : List Str) (g : List Value → List Value → List Value) (gV : List V → List V → List V) : Prop where
  to : ∀ (s : Shared) (us ws : List Value), K.In s.heap → (g us ws).length = ps.length → BindsTo s fd ⟨us, ks.zip ws⟩ (ps.zip (g us ws))
  rel : ∀ {vs : List V} {us : List Value} {zs : List V} {ws : List Value}, Vals vs us → Vals zs ws → Vals (gV vs zs) (g us ws)
def tCallK (sp : Sp) (gV : List V → List V → List V) (E : XK) (t tk : TA) : TE := fun σ H Q => t σ H fun vs H1 => tk σ H1 fun zs H2 => sp (gV vs zs) H2 Q E
variable {g : List Value → List Value → List Value} {gV : List V → List V → List V}
end

/-! ### a def's body keeps its promise -/
/-- names: the parameters first -/
structure FnScope (N P : List Str) (sc : Scope) : Prop where
  kind : sc.kind = .function
  co : sc.isCoroutine = false
  gen : sc.isGenerator = false
  nd : N.Nodup
  pre : N.take P.length = P
  par : ∀ x ∈ P, sc.names.lookup x = some .local ∨ sc.names.lookup x = some .cell
  nofree : ∀ y ∈ sc.names, y.2 ≠ .free

theorem bindL_out {kindOf : Str → Option NameKind} {x : Str} : ∀ {binds : List (Str × Value)} {m : Str → Option Value}, (∀ v, (x, v) ∉ binds) → bindL kindOf binds m x = m x
  | [], _, _ => rfl
  | (n, v) :: r, m, h => by
    unfold bindL
    rw [bindL_out fun w hw => h w (List.mem_cons_of_mem _ hw)]
    split
    · have : x ≠ n := by rintro rfl; exact h v List.mem_cons_self
      simp [this]
    · rfl
theorem bindC_out {kindOf : Str → Option NameKind} {x : Str} : ∀ {binds : List (Str × Value)} {m : Str → Option Value}, (∀ v, (x, v) ∉ binds) → bindC kindOf binds m x = m x
  | [], _, _ => rfl
  | (n, v) :: r, m, h => by
    unfold bindC
    rw [bindC_out fun w hw => h w (List.mem_cons_of_mem _ hw)]
    split
    · rfl
    · have : x ≠ n := by rintro rfl; exact h v List.mem_cons_self
      simp [this]
theorem bindL_get {kindOf : Str → Option NameKind} {x : Str} {v : Value} : ∀ {P : List Str} {vs : List Value} {i : Nat} {m : Str → Option Value}, P.Nodup → P[i]? = some x → vs[i]? = some v → kindOf x = some .local →
    bindL kindOf (P.zip vs) m x = some v
  | [], _, _, _, _, h, _, _ => by simp at h
  | _ :: _, [], _, _, _, _, h, _ => by simp at h
  | p :: P, w :: vs, 0, m, nd, h1, h2, hk => by
    simp at h1 h2; subst h1; subst h2
    show bindL kindOf ((p, w) :: P.zip vs) m p = _
    unfold bindL
    rw [bindL_out fun v hv => (List.nodup_cons.mp nd).1 (List.of_mem_zip hv).1, if_pos hk]
    simp
  | p :: P, w :: vs, i + 1, m, nd, h1, h2, hk => by
    show bindL kindOf ((p, w) :: P.zip vs) m x = _
    unfold bindL
    exact bindL_get (i := i) (List.nodup_cons.mp nd).2 (by simpa using h1) (by simpa using h2) hk
theorem bindC_get {kindOf : Str → Option NameKind} {x : Str} {v : Value} : ∀ {P : List Str} {vs : List Value} {i : Nat} {m : Str → Option Value}, P.Nodup → P[i]? = some x → vs[i]? = some v → kindOf x ≠ some .local →
    bindC kindOf (P.zip vs) m x = some v
  | [], _, _, _, _, h, _, _ => by simp at h
  | _ :: _, [], _, _, _, _, h, _ => by simp at h
  | p :: P, w :: vs, 0, m, nd, h1, h2, hk => by
    simp at h1 h2; subst h1; subst h2
    show bindC kindOf ((p, w) :: P.zip vs) m p = _
    unfold bindC
    rw [bindC_out fun v hv => (List.nodup_cons.mp nd).1 (List.of_mem_zip hv).1, if_neg hk]
    simp
  | p :: P, w :: vs, i + 1, m, nd, h1, h2, hk => by
    show bindC kindOf ((p, w) :: P.zip vs) m x = _
    unfold bindC
    exact bindC_get (i := i) (List.nodup_cons.mp nd).2 (by simpa using h1) (by simpa using h2) hk

/-- the names' values at the entry -/
def start (N : List Str) (vs : List V) : St := vs.map some ++ List.replicate (N.length - vs.length) none

/-- the context of a def's body, at its entry; an exception leaves the frame, then lies as CX says -/
def cxOf (CX : CXT) (P : Program) (w : World) (K : PySem.W.Frag) (mg : Str → Option Value) (base : Heap) (N : List Str) (qual : Str) (scope : Scope) (f : Addr) (cd : Value) (A : Around) (outer : List Env) (s : Shared) (H : Hp) (E : XK) : Cx where
  prog := P
  w := w
  K := K
  mg := mg
  base := base
  A := A.deeper (envOfC qual scope s.heap.objs.size f cd)
  N := N
  s₀ := s
  H₀ := H
  env := envOfC qual scope s.heap.objs.size f cd
  outer := outer
  stack := envOfC qual scope s.heap.objs.size f cd :: outer
  ex := []
  calm := true
  fn := fun _ => true
  pn := []
  xe := fun e s' => wpAny (model P w) (A.deeper (envOfC qual scope s.heap.objs.size f cd)) (leaving (envOfC qual scope s.heap.objs.size f cd) e) (fun _ s'' => CX outer H s E e s'') (fun e' s'' => CX outer H s E e' s'') s'

theorem cell_has {sc : Scope} {n : Nat} {x : Str} (h : sc.names.lookup x = some .cell) : ∃ c, (cellsFrom n sc.names []).lookup x = some c := by
  have q := PySem.W.cellsFrom_some sc.names n [] (.inl h)
  exact Option.isSome_iff_exists.mp q

theorem inv_start {CX : CXT} {P : Program} {w : World} {K : PySem.W.Frag} {mg : Str → Option Value} {base : Heap} {N ps : List Str} {qual : Str} {scope : Scope} {f : Addr} {cd : Value} {A : Around} {outer : List Env} {s s1 : Shared} {H : Hp} {E : XK} {us : List Value} {vs : List V}
    (S : FnScope N ps scope) (hd : A.handled = none) (e0 : Env0 P w K mg base A outer s H) (hl : vs.length = ps.length) (r : Vals vs us)
    (x : InCallC s s.heap.objs.size (bindL (envOfC qual scope s.heap.objs.size f cd).kindOf (ps.zip us) fun _ => none) (cellsFrom (s.heap.objs.size + 1) scope.names []) (bindC (envOfC qual scope s.heap.objs.size f cd).kindOf (ps.zip us) fun _ => none) s1) :
    Inv (cxOf CX P w K mg base N qual scope f cd A outer s H E) [] (start N vs) H s1 := by
  have hpl : ps.length ≤ N.length := by have := congrArg List.length S.pre; rw [List.length_take] at this; omega
  obtain ⟨h1, tk, rfl, hk⟩ := x.done
  have noA : ∀ b : Addr, b ∉ (cxOf CX P w K mg base N qual scope f cd A outer s H E).ex := fun b z => absurd (show b ∈ ([] : List Addr) from z) (by simp)
  refine ⟨⟨e0.mod, S.kind, rfl, rfl, Nat.le_refl _, fun y z c h1 h2 => ?_, fun y hy => ?_, fun y c _ h => ?_, fun _ => hd, Around.frames_deeper e0.frames, .inr ⟨rfl, rfl⟩, fun b z => absurd z (noA b), e0.bs, e0.bsz, fun b _ _ => noA b, fun b z => absurd z (noA b), e0.funs, e0.frf⟩,
    rfl, e0.bare, Un.kept hk, ⟨_, x.toInCall.ns, fun i y v h1 h2 h3 => ?_⟩, fun y c h => ⟨_, x.cell y c h⟩, e0.hok.fresh (Nat.le_refl _), fun y c h => ?_, fun p hp => absurd (show p ∈ ([] : List (Addr × Obj)) from hp) (by simp), e0.hok.kept hk, ?_⟩
  · exact name_of_addr x.apart (PySem.mem_of_lookup h1) (PySem.mem_of_lookup h2)
  · have hy : scope.names.lookup y = some .cell ∨ scope.names.lookup y = some .free := hy
    rcases hy with hy | hy
    · exact cell_has hy
    · exact absurd rfl (S.nofree _ (PySem.mem_of_lookup hy))
  · exact Nat.le_of_lt (x.above y c (PySem.mem_of_lookup h))
  · have hi : i < vs.length := by
      unfold start at h2
      by_cases hi : i < vs.length
      · exact hi
      · rw [List.getElem?_append_right (by simpa using hi)] at h2
        rw [List.getElem?_replicate] at h2
        split at h2 <;> cases h2
    have ha : vs[i]? = some v := by
      unfold start at h2
      rw [List.getElem?_append_left (by simpa using hi), List.getElem?_map] at h2
      cases e : vs[i]? with
      | none => rw [e] at h2; cases h2
      | some a => rw [e] at h2; cases h2; rfl
    obtain ⟨u, hu, rv⟩ := r.get ha
    have hp : ps[i]? = some y := by
      rw [← S.pre, List.getElem?_take_of_lt (by omega)]; exact h1
    have ndP : ps.Nodup := by rw [← S.pre]; exact S.nd.sublist (List.take_sublist _ _)
    refine ⟨u, rv, ?_⟩
    rcases S.par y (List.mem_of_getElem? hp) with k | k
    · exact .inl ⟨k, bindL_get ndP hp hu k⟩
    · obtain ⟨c, e⟩ := cell_has (n := s.heap.objs.size + 1) k
      refine .inr ⟨.inl k, c, e, ?_⟩
      have q := x.cell y c e
      rw [bindC_get ndP hp hu (by show scope.names.lookup y ≠ _; rw [k]; decide)] at q
      exact q
  · exact e0.hok.fresh (Nat.le_of_lt (x.above y c (PySem.mem_of_lookup h)))
  · unfold start
    show _ = N.length
    rw [List.length_append, List.length_map, List.length_replicate]
    omega

/-- THE RULE: a def (or a method) of the text, by its body. The body's reading t is chosen for each entry; it is run at the parameters' values -/
theorem fn_of {CX : CXT} {P : Program} {w : World} {K : PySem.W.Frag} {mg : Str → Option Value} {base : Heap} {k : Nat} {f : Addr} {name qual : Str} {params : Arguments} {body : List Stmt} {scope : Scope} {dV kV doc pm cdv ct oc : Value} {an od : Option Addr}
    {osl : Array (Option Value)} {N ps : List Str} {sp : Sp} (lk : K.lookup f = some ⟨oc, od, .func (PySem.W.fnOf name qual params body scope dV kV doc pm an cdv ct), osl⟩) (hcd : PySem.W.codeIn K cdv qual = true) (S : FnScope N ps scope)
    (len : ∀ vs H Q E, sp vs H Q E → vs.length = ps.length)
    (hbody : ∀ (A : Around) (outer : List Env) (s : Shared) (H : Hp) (vs : List V) (Q : VK) (E : XK), Room k (A.deeper (envOfC qual scope s.heap.objs.size f cdv)) → sp vs H Q E →
      ∃ t, PSs (cxOf CX P w K mg base N qual scope f cdv A outer s H E) body t ∧ t { nx := fun _ H' => Q .non H', rt := Q } (start N vs) H) :
    FnOk P w K mg base CX (k + 1) f (PySem.W.fnOf name qual params body scope dV kV doc pm an cdv ct) ps sp := by
  refine ⟨len, fun A outer s H args us vs Q E hr e0 hb r hsp => ?_⟩
  have hl := len _ _ _ _ hsp
  have KX : K.In s.heap := e0.mod.kin.keeps fun b o e => (e0.bs b o e).1
  have lim : s.heap.NoLimit := e0.mod.nolimit.keeps fun b o e => (e0.bs b o e).1
  have hkind : ∀ y ∈ ps.zip us, scope.names.lookup y.1 = some .local ∨ (scope.names.lookup y.1 = some .cell ∧ ((cellsFrom (s.heap.objs.size + 1) scope.names []).lookup y.1).isSome = true) := fun ⟨n, v⟩ hy => by
    rcases S.par n (List.of_mem_zip hy).1 with q | q
    · exact .inl q
    · exact .inr ⟨q, PySem.W.cellsFrom_some _ _ _ (.inl q)⟩
  refine codeAny_call_function hr.depth (KX _ _ lk) rfl S.co S.gen rfl (PySem.W.codeRec_of KX hcd) (hb _ _ _ _ ?_)
  refine wpAny_newFunctionEnv_cells S.kind hkind fun env he s1 x => ?_
  subst he
  refine ⟨lim.keeps x.toInCall.keep, codeAny_func ?_⟩
  obtain ⟨t, ht, hq⟩ := hbody A outer s H vs Q E (hr.deeper _) hsp
  have I : Inv (cxOf CX P w K mg base N qual scope f cdv A outer s H E) [] (start N vs) H s1 := inv_start S hr.hd e0 hl r x
  refine wpAny_mono (ht [] s1 (start N vs) H _ I hq) (fun fl s' hs => ?_) fun e s' hs => hs
  have fin : ∀ {σ' : St} {H' : Hp} {v : V} {u : Value}, Inv (cxOf CX P w K mg base N qual scope f cdv A outer s H E) [] σ' H' s' → RelV v u → Q v H' → CE outer P w H s Q u s' :=
    fun {σ' H' v u} J rv q => ⟨v, H', J.os, J.bare, J.base, J.hok, rv, q⟩
  cases fl with
  | ret u =>
    obtain ⟨v, σ', H', J, rv, q⟩ := hs
    exact fin J rv q
  | next =>
    obtain ⟨σ', H', J, q⟩ := hs
    exact fin (v := V.non) (u := Value.none) J rfl q
  | brk =>
    obtain ⟨_, _, _, q⟩ := hs
    exact False.elim q
  | cont =>
    obtain ⟨_, _, _, q⟩ := hs
    exact False.elim q
end L2

namespace L2
open PySem PySem.Spec PyProof.Rows
section
variable {X : Cx} {x : Str} {p pos : Pos} {e : Expr} {es : List Expr} {t : TA} {id T : String} {r : List V → Hp → VK → Prop}

def tCB (r : List V → Hp → VK → Prop) (t : TA) : TE := fun σ H Q => t σ H fun vs H1 => r vs H1 Q
/-- f(e, ..), f a built-in function -/
theorem pe_callB (hc : CallR X (.builtin id) r) (hg : Gl X x) (hm : X.mg x = none) (hv : bootBuiltins x = some (.builtin id)) (ha : PA X (e :: es) t) (hn : x ≠ "__name__" := by decide) (hdb : (x == ("__debug__" : Str)) = false := by decide)
    (he : starEach (e :: es) X.env = (false, eval e X.env) :: starEach es X.env := by rfl) (hpl : (backTo pos (starEach es X.env)).any (·.1) = false := by rfl) : PE X (.Call (.Name x p) (e :: es) [] pos) (tCB r t) := by
  intro pins s σ H Q I h
  refine wpAny_Call_Name_kw (ld_blt I hg hm hv ?_ hn hdb)
  exact PyProof.Rows.callWith_builtin1 (thn (ha pos pins s σ H _ I h) fun us s1 ⟨vs, H1, I1, r1, q1⟩ => hc pins s1 σ H1 vs us Q I1 r1 q1) he hpl
/-- T(e, ..), T a built-in type -/
theorem pe_callTy (hc : CallR X (.type T) r) (hg : Gl X x) (hm : X.mg x = none) (hv : bootBuiltins x = some (.type T)) (ha : PA X (e :: es) t) (hn : x ≠ "__name__" := by decide) (hdb : (x == ("__debug__" : Str)) = false := by decide)
    (he : starEach (e :: es) X.env = (false, eval e X.env) :: starEach es X.env := by rfl) (hpl : (backTo pos (starEach es X.env)).any (·.1) = false := by rfl) : PE X (.Call (.Name x p) (e :: es) [] pos) (tCB r t) := by
  intro pins s σ H Q I h
  refine wpAny_Call_Name_kw (ld_blt I hg hm hv ?_ hn hdb)
  exact PyProof.Rows.callWith_type1 (thn (ha pos pins s σ H _ I h) fun us s1 ⟨vs, H1, I1, r1, q1⟩ => hc pins s1 σ H1 vs us Q I1 r1 q1) he hpl
end
end L2

namespace HT
open PySem PyProof.Rows

/-- t < u of tuples of ints -/
def lexLt : List Int → List Int → Bool
  | [], [] => false
  | [], _ :: _ => true
  | _ :: _, [] => false
  | x :: xs, y :: ys => if x = y then lexLt xs ys else decide (x < y)


section
open PySem.SeqAt
open PySem.AutoSeq1 (wpAny_loadPart')
open PySem.MeetsSeq PySem.MeetsSeq2 PySem.MeetsSeq3

end

section
variable {prog : Program} {w : World} {A : Around} {E : Value → Shared → Prop} {s : Shared}


/-- t + u, t not empty -/
theorem cat_tup {t b : Addr} {vs ws : List Value} {Q : Value → Shared → Prop} (ht : IsTup s.heap t vs.toArray) (hb : IsTup s.heap b ws.toArray) (hv : vs ≠ [])
    (h1 : ws = [] → Q (.ref t) s) (h2 : ws ≠ [] → Q (.ref s.heap.objs.size) { s with heap := s.heap.push { cls := .type "tuple", data := .seq (vs ++ ws).toArray } })
    (hsz : vs.length + ws.length ≤ sizeLine) : wpAny (model prog w) A (binaryOp .Add (.ref t) (.ref b)) Q E s := by
  obtain ⟨⟨cls, dd, data, sl⟩, ho, hc, n, hd⟩ := id ht
  obtain ⟨⟨cls2, dd2, data2, sl2⟩, ho2, hc2, n2, hd2⟩ := id hb
  simp only at hc hd hc2 hd2
  subst hc hd hc2 hd2
  have e : vs.toArray ++ ws.toArray = (vs ++ ws).toArray := by simp
  by_cases hw : ws = []
  · exact concat_meets ⟨_, ho, rfl⟩ ⟨_, ho2, rfl⟩ noFill_tuple_add seq_tuple_add PySem.F.slot_tuple_add PySem.F.entry_tuple_add (PySem.F.args_tuple_add_2 _ _)
      (tuple_addW1 t b vs.toArray ws.toArray n n2 dd dd2 sl sl2 (by simpa using hv) (by simp [hw])) ⟨ho, ho2, h1 hw⟩
  · refine concat_meets ⟨_, ho, rfl⟩ ⟨_, ho2, rfl⟩ noFill_tuple_add seq_tuple_add PySem.F.slot_tuple_add PySem.F.entry_tuple_add (PySem.F.args_tuple_add_2 _ _)
      (tuple_addW2 t b vs.toArray ws.toArray n n2 dd dd2 sl sl2 (by simpa using hv) (by simpa using hw) (by rw [List.size_toArray, List.size_toArray]; exact hsz)) ⟨ho, ho2, ?_⟩
    rw [e]
    exact h2 hw

/-! ### t[a:b], not the whole -/
/-- a slice's bound as a place among n (d where it is left out) -/
def sIx (n d : Nat) : Option Int → Nat
  | none => d
  | some v => if v < 0 then (v + (n : Int)).toNat else min v.toNat n
theorem sIx_none (n d : Nat) : sIx n d none = d := rfl
theorem sIx_nat (n d k : Nat) : sIx n d (some (k : Int)) = min k n := by
  show (if (k : Int) < 0 then ((k : Int) + (n : Int)).toNat else min (k : Int).toNat n) = min k n
  rw [if_neg (by omega), Int.toNat_natCast]
theorem sIx_le (n d : Nat) (hd : d ≤ n) (o : Option Int) : sIx n d o ≤ n := by
  cases o with
  | none => exact hd
  | some v =>
    show (if v < 0 then (v + (n : Int)).toNat else min v.toNat n) ≤ n
    by_cases hv : v < 0
    · rw [if_pos hv]; omega
    · rw [if_neg hv]; exact Nat.min_le_right _ _
theorem clip_eq (v : Int) (n d : Nat) : (if v < 0 then max (v + (n : Int)) 0 else min v (n : Int)) = ((sIx n d (some v) : Nat) : Int) := by
  show (if v < 0 then max (v + (n : Int)) 0 else min v (n : Int)) = (((if v < 0 then (v + (n : Int)).toNat else min v.toNat n) : Nat) : Int)
  by_cases hv : v < 0
  · simp only [if_pos hv]; omega
  · simp only [if_neg hv]; omega
theorem adjust_gen (lo hi : Option Int) (n : Nat) : Builtin.Slice.sliceAdjust lo hi 1 (n : Int) = (((sIx n 0 lo : Nat) : Int), ((sIx n n hi : Nat) : Int)) := by
  have h1 : ¬ ((1 : Int) < 0) := by omega
  unfold Builtin.Slice.sliceAdjust
  simp only [h1, if_false]
  refine Prod.ext ?_ ?_
  · cases lo with
    | none => rfl
    | some v => exact clip_eq v n 0
  · cases hi with
    | none => rfl
    | some v => exact clip_eq v n n
theorem places_gen (i j : Nat) : Builtin.Slice.slicePlaces (i : Int) (j : Int) 1 = j - i := by
  unfold Builtin.Slice.slicePlaces
  have h1 : (1 : Int) > 0 := by omega
  simp only [h1, if_true, Int.ediv_one]
  split <;> omega
theorem slicePart_ {v : Value} {o : Option Int} {Q : Option Int → Shared → Prop} (p : IsPart v o) (h : Q o s) : wpAny (model prog w) A (Builtin.Slice.slicePartIndex v) Q E s := by
  cases p with
  | none => exact slicePart_none h
  | int i t => exact slicePart_int h
theorem sliceApplied_gen {sl : Addr} {vl vu : Value} {lo hi : Option Int} {n : Nat} {Q : Int × Int × Nat → Shared → Prop} (hs : s.heap.IsSliceOf sl vl vu .none) (pl : IsPart vl lo) (pu : IsPart vu hi)
    (h : Q (((sIx n 0 lo : Nat) : Int), 1, sIx n n hi - sIx n 0 lo) s) : wpAny (model prog w) A (Builtin.Slice.sliceApplied (.ref sl) (pure (n : Int))) Q E s := by
  obtain ⟨os, hos, hcs, hds⟩ := id hs
  unfold Builtin.Slice.sliceApplied Builtin.Slice.sliceFields
  refine wpAny_bind (wpAny_bind (wpAny_field hos hds (x := vl) rfl (wpAny_bind (wpAny_field hos hds (x := vu) rfl (wpAny_bind (wpAny_field hos hds (x := .none) rfl (wpAny_pure ?_)))))))
  refine wpAny_bind (slicePart_none ?_)
  show wpAny _ _ (if ((1 : Int) == 0) = true then _ else _) _ _ s
  rw [if_neg (by decide)]
  refine wpAny_bind (slicePart_ pl (wpAny_bind (slicePart_ pu (wpAny_bind (wpAny_pure ?_)))))
  show wpAny _ _ (match Builtin.Slice.sliceAdjust lo hi 1 (n : Int) with | (lo, hi) => pure (lo, (1 : Int), Builtin.Slice.slicePlaces lo hi 1)) _ _ s
  rw [adjust_gen lo hi n]
  show wpAny _ _ (pure (((sIx n 0 lo : Nat) : Int), (1 : Int), Builtin.Slice.slicePlaces ((sIx n 0 lo : Nat) : Int) ((sIx n n hi : Nat) : Int) 1)) _ _ s
  rw [places_gen]
  exact wpAny_pure h
theorem pick_gen (xs : Array Value) (i k : Nat) : ((List.range k).filterMap fun (m : Nat) => xs[((i : Int) + (m : Int) * 1).toNat]?).toArray = ((xs.toList.drop i).take k).toArray := by
  have e : (fun (m : Nat) => xs[((i : Int) + (m : Int) * 1).toNat]?) = fun m => xs[i + m]? := by
    funext m
    have : ((i : Int) + (m : Int) * 1).toNat = i + m := by omega
    rw [this]
  rw [e]
  have := pick_run xs i k
  rw [List.filterMap_map] at this
  have e2 : ((fun x => xs[x]?) ∘ fun x => i + x) = fun m => xs[i + m]? := rfl
  rw [e2] at this
  rw [this]

theorem getItem_tuple_cut {t sl : Addr} {items : Array Value} {vl vu : Value} {lo hi : Option Int} {Q : Value → Shared → Prop} (ht : IsTup s.heap t items) (hs : s.heap.IsSliceOf sl vl vu .none) (pl : IsPart vl lo) (pu : IsPart vu hi)
    (hw : ¬ (sIx items.size 0 lo = 0 ∧ sIx items.size items.size hi = items.size))
    (h : Q (.ref s.heap.objs.size) { s with heap := s.heap.push { cls := .type "tuple", data := .seq ((items.toList.drop (sIx items.size 0 lo)).take (sIx items.size items.size hi - sIx items.size 0 lo)).toArray } })
    (hsz : items.size ≤ sizeLine) : wpAny (model prog w) A (getItem (.ref t) (.ref sl)) Q E s := by
  have htake : sizeOk (.seq ((items.toList.drop (sIx items.size 0 lo)).take (sIx items.size items.size hi - sIx items.size 0 lo)).toArray) := by
    show ((items.toList.drop (sIx items.size 0 lo)).take (sIx items.size items.size hi - sIx items.size 0 lo)).toArray.size ≤ sizeLine
    rw [List.size_toArray, List.length_take, List.length_drop, Array.length_toList]
    omega
  have hj : sIx items.size items.size hi ≤ items.size := sIx_le _ _ (Nat.le_refl _) hi
  obtain ⟨os, hos, hcs, hds⟩ := id hs
  have hTs : s.TypeIs (.ref sl) "slice" := ⟨os, hos, hcs⟩
  unfold getItem
  try with_reducible refine wpAny_holding ?_
  first | refine wpAny_bind (wpAny_pure ?_) | skip
  refine wpAny_bind (wpAny_sequenceKey ht.typeIs (by decide) ?_)
  refine wpAny_bind (wpAny_callSpecial?_slot (name := Str.ofString "__getitem__") ht.typeIs PyProof.Rows.slot_tuple_getitem
    (wpAny_call_entry PyProof.Rows.slot_tuple_getitem ht.typeIs entry_tuple_getitem ?_ (args_tuple_getitem _ _)))
  show wpAny _ _ (Builtin.Tuple.tupleItemsOf (.ref t) >>= _) _ _ s
  refine wpAny_bind (tupleItemsOf_ ht ?_)
  refine wpAny_bind (wpAny_typeOf hTs ?_)
  rw [if_pos (by decide)]
  refine wpAny_bind (sliceApplied_gen hs pl pu ?_)
  have hno : ¬ ((((sIx items.size 0 lo : Nat) : Int) == 0 && (1 : Int) == 1 && (sIx items.size items.size hi - sIx items.size 0 lo) == items.size) = true) := by
    intro q
    rw [Bool.and_eq_true, Bool.and_eq_true] at q
    have q1 : ((sIx items.size 0 lo : Nat) : Int) = 0 := eq_of_beq q.1.1
    have q2 : sIx items.size items.size hi - sIx items.size 0 lo = items.size := eq_of_beq q.2
    exact hw ⟨by omega, by omega⟩
  show wpAny _ _ (if (((sIx items.size 0 lo : Nat) : Int) == 0 && (1 : Int) == 1 && (sIx items.size items.size hi - sIx items.size 0 lo) == items.size) = true then _ else _) _ _ s
  rw [if_neg hno, pick_gen]
  first
    | exact wpAny_bind (m := Builtin.Tuple.tupleExact _) (wpAny_newObj_type (wpAny_pure ⟨_, rfl, wpAny_pure h⟩) htake)
    | exact wpAny_bind (m := Builtin.Tuple.tupleExact _) (wpAny_newObj_type (wpAny_bind (wpAny_pure (wpAny_pure ⟨_, rfl, wpAny_pure h⟩))) htake)
    | exact wpAny_bind (wpAny_bind (m := Builtin.Tuple.tupleExact _) (wpAny_newObj_type (wpAny_pure (wpAny_pure ⟨_, rfl, wpAny_pure h⟩)) htake))
    | exact wpAny_bind (wpAny_bind (m := Builtin.Tuple.tupleExact _) (wpAny_newObj_type (wpAny_pure ⟨_, rfl, wpAny_pure h⟩) htake))
end
end HT

namespace L2
open PySem PySem.Spec PyProof.Rows

/-! ### the parts of a slice -/
abbrev TO := St → Hp → (Option Int → Hp → Prop) → Prop
/-- a slice's part (left out, or an int) -/
def PO (X : Cx) (e : Option Expr) (t : TO) : Prop :=
  ∀ (pins : List (Addr × Obj)) (s : Shared) (σ : St) (H : Hp) (Q : Option Int → Hp → Prop), Inv X pins σ H s → t σ H Q →
    wpAny (model X.prog X.w) X.A (evalPart e X.env) (fun u s' => ∃ o H', Inv X pins σ H' s' ∧ IsPart u o ∧ Q o H') X.xe s
def tNoPart : TO := fun _ H Q => Q none H
def tPart (t : TE) : TO := fun σ H Q => t σ H fun x H1 => ∃ i, x = .int i ∧ Q (some i) H1


section
variable {X : Cx} {e : Expr} {te : TE} {lo hi : Option Expr} {tl th : TO} {pos p2 : Pos}

theorem po_none : PO X none tNoPart := by
  intro pins s σ H Q I h
  rw [evalPart_none]
  exact wpAny_pure ⟨none, H, I, .none, h⟩
theorem po_some (h : PE X e te) : PO X (some e) (tPart te) := by
  intro pins s σ H Q I hw
  rw [evalPart_some]
  refine thn (h pins s σ H _ I hw) fun u s1 ⟨x, H1, I1, r1, q1⟩ => ?_
  obtain ⟨i, rfl, q⟩ := q1
  obtain ⟨t, rfl⟩ := r1
  exact ⟨some i, H1, I1, .int i t, q⟩

/-- what a slice of a value is, by values: the slice object stands at sl -/
def SlR (X : Cx) (r : V → Option Int → Option Int → Hp → VK → Prop) : Prop :=
  ∀ (pins : List (Addr × Obj)) (s : Shared) (σ : St) (H : Hp) (x : V) (v vl vu : Value) (lo hi : Option Int) (sl : Addr) (Q : VK), Inv X pins σ H s → RelV x v → s.heap.IsSliceOf sl vl vu .none → IsPart vl lo → IsPart vu hi → r x lo hi H Q →
    ∃ T id, typeLookup (.type T) "__getitem__" = pure (some (.builtin id)) ∧ s.TypeIs v T ∧ wpAny (model X.prog X.w) X.A (getItem v (.ref sl)) (EP X pins σ Q) X.xe s
theorem SlR.or {r r' : V → Option Int → Option Int → Hp → VK → Prop} (h : SlR X r) (h' : SlR X r') : SlR X (fun x lo hi H Q => r x lo hi H Q ∨ r' x lo hi H Q) := by
  intro pins s σ H x v vl vu lo hi sl Q I rx hs pl pu q
  rcases q with q | q
  · exact h pins s σ H x v vl vu lo hi sl Q I rx hs pl pu q
  · exact h' pins s σ H x v vl vu lo hi sl Q I rx hs pl pu q
def tSl (r : V → Option Int → Option Int → Hp → VK → Prop) (te : TE) (tl th : TO) : TE := fun σ H Q => te σ H fun x H1 => tl σ H1 fun l H2 => th σ H2 fun u H3 => r x l u H3 Q
/-- a[lo:hi], any a -/
theorem pe_slice {r : V → Option Int → Option Int → Hp → VK → Prop} (hr : SlR X r) (he : PE X e te) (hl : PO X lo tl) (hu : PO X hi th) : PE X (.Subscript e (.Slice lo hi none p2) pos) (tSl r te tl th) := by
  intro pins s σ H Q I h
  refine Subscript_ (thn (he pins s σ H _ I h) fun v s1 ⟨x, H1, I1, r1, q1⟩ => ?_)
  refine wpAny_Slice (thn (hl pins s1 σ H1 _ I1 q1) fun vl s2 ⟨l, H2, I2, pl, q2⟩ => thn (hu pins s2 σ H2 _ I2 q2) fun vu s3 ⟨u, H3, I3, pu, q3⟩ => ?_)
  rw [evalPart_none]
  refine wpAny_pure ?_
  have I4 : Inv X pins σ H3 { s3 with heap := s3.heap.push { cls := .type "slice", data := .fields #[vl, vu, .none] } } := I3.kept (t' := s3.toks) fun b ob q => Heap.get?_push_of_some _ q
  obtain ⟨T, id, hT, ht, hg⟩ := hr pins { s3 with heap := s3.heap.push { cls := .type "slice", data := .fields #[vl, vu, .none] } } σ H3 x v vl vu l u s3.heap.objs.size Q I4 r1 (Heap.IsSliceOf.new ..) pl pu q3
  show wpAny (model X.prog X.w) X.A (subscriptTail e (.Slice lo hi none p2) v (.ref s3.heap.objs.size)) (EP X pins σ Q) X.xe { s3 with heap := s3.heap.push { cls := .type "slice", data := .fields #[vl, vu, .none] } }
  exact tail_any (ops := [.ref s3.heap.objs.size, v]) ht hT hg (by with_unfolding_all rfl)

/-- the items of xs[lo:hi] -/
def cutV (xs : List V) (lo hi : Option Int) : List V := (xs.drop (HT.sIx xs.length 0 lo)).take (HT.sIx xs.length xs.length hi - HT.sIx xs.length 0 lo)
theorem cutV_length (xs : List V) (lo hi : Option Int) : (cutV xs lo hi).length ≤ xs.length := by
  unfold cutV
  rw [List.length_take, List.length_drop]
  omega
/-- t[lo:hi], not the whole of it (the whole would be t itself) -/
def rSlT (K : PySem.W.Frag) : V → Option Int → Option Int → Hp → VK → Prop := fun x lo hi H Q => ∃ a xs, x = .ref a ∧ SqT K H a xs ∧
  ¬ (HT.sIx xs.length 0 lo = 0 ∧ HT.sIx xs.length xs.length hi = xs.length) ∧ ∀ p, H p = none → Q (.ref p) (upd H p (.tup (cutV xs lo hi)))
theorem sl_tup : SlR X (rSlT X.K) := by
  intro pins s σ H x v vl vu lo hi sl Q I rx hs pl pu h
  obtain ⟨a, xs, rfl, hx, hw, q⟩ := h
  cases rx
  obtain ⟨its, r, ht, hz⟩ := I.tuple hx
  have hlen : its.toArray.size = xs.length := by rw [List.size_toArray]; exact r.length.symm
  refine ⟨"tuple", _, PyProof.Rows.slot_tuple_getitem.lookup, ht.typeIs, ?_⟩
  refine HT.getItem_tuple_cut ht hs pl pu (by rw [hlen]; exact hw) ?_ (by rw [hlen]; exact hz)
  rw [hlen]
  refine ⟨.ref s.heap.objs.size, _, I.laid (t' := s.toks) (o := .tup (cutV xs lo hi)) (fun b ob q => Heap.get?_push_of_some _ q) (Nat.le_refl _) ?_, rfl, q _ (I.hok.fresh (Nat.le_refl _))⟩
  exact ⟨Nat.le_trans (cutV_length xs lo hi) hz, _, (r.drop (HT.sIx xs.length 0 lo)).take (HT.sIx xs.length xs.length hi - HT.sIx xs.length 0 lo), IsTup.new _ _⟩

/-! ### t < u, t + u -/
def rLtT (K : PySem.W.Frag) : R2 := fun x y H Q => ∃ a b ns ms, x = .ref a ∧ y = .ref b ∧ SqT K H a (ns.map V.int) ∧ SqT K H b (ms.map V.int) ∧ Q (.bl (HT.lexLt ns ms)) H
/-- t + u, t not empty: u empty gives t itself -/
def rCatT (K : PySem.W.Frag) : R2 := fun x y H Q => ∃ a b xs ys, x = .ref a ∧ y = .ref b ∧ SqT K H a xs ∧ SqT K H b ys ∧ xs ≠ [] ∧ xs.length + ys.length ≤ sizeLine ∧
  (ys = [] → Q (.ref a) H) ∧ (ys ≠ [] → ∀ p, H p = none → Q (.ref p) (upd H p (.tup (xs ++ ys))))
theorem Vals.nil_iff {xs : List V} {us : List Value} (r : Vals xs us) : us = [] ↔ xs = [] := by
  cases r with
  | nil => simp
  | cons _ _ => simp
theorem op_catT : OpR X (binaryOp .Add) (rCatT X.K) := by
  intro pins s σ H x y v u Q I rx ry h
  obtain ⟨a, b, xs, ys, rfl, rfl, ha, hb, hx, hz, q1, q2⟩ := h
  cases rx
  cases ry
  obtain ⟨its, r1, p1, _⟩ := I.tuple ha
  obtain ⟨its2, r2, p2, _⟩ := I.tuple hb
  refine HT.cat_tup p1 p2 (fun z => hx (r1.nil_iff.mp z)) (fun z => ⟨.ref a, H, I, rfl, q1 (r2.nil_iff.mp z)⟩) (fun z => ?_) (by rw [← r1.length, ← r2.length]; exact hz)
  refine ⟨.ref s.heap.objs.size, _, I.laid (t' := s.toks) (o := .tup (xs ++ ys)) (fun b ob q => Heap.get?_push_of_some _ q) (Nat.le_refl _) ?_, rfl, q2 (fun w => z (r2.nil_iff.mpr w)) _ (I.hok.fresh (Nat.le_refl _))⟩
  exact ⟨by rw [List.length_append]; exact hz, _, r1.append r2, IsTup.new _ _⟩
end
end L2

namespace L2
open PySem PySem.Spec PyProof.Rows

/-! ### places -/
/-- the place that an index of any sign means -/
def ixN (n : Nat) (i : Int) : Option Nat := if 0 ≤ i then (if i < n then some i.toNat else none) else if -(n : Int) ≤ i then some (i + n).toNat else none
def atI {α : Type} (xs : List α) (i : Int) : Option α := (ixN xs.length i).bind fun j => xs[j]?
theorem ixN_seq {n : Nat} {i : Int} {j : Nat} (h : ixN n i = some j) : seqIndex? i n = some j ∧ j < n ∧ -(n : Int) ≤ i ∧ i < n := by
  unfold ixN at h
  by_cases h0 : 0 ≤ i
  · rw [if_pos h0] at h
    by_cases h1 : i < n
    · rw [if_pos h1] at h
      have e : i.toNat = j := Option.some.inj h
      exact ⟨by rw [seqIndex_of h0 h1, e], by omega, by omega, h1⟩
    · rw [if_neg h1] at h; cases h
  · rw [if_neg h0] at h
    by_cases h1 : -(n : Int) ≤ i
    · rw [if_pos h1] at h
      have e : (i + n).toNat = j := Option.some.inj h
      exact ⟨by rw [seqIndex_neg (by omega) h1, e], by omega, h1, by omega⟩
    · rw [if_neg h1] at h; cases h
theorem atI_get {α : Type} {xs : List α} {i : Int} {v : α} (h : atI xs i = some v) : ∃ j, seqIndex? i xs.length = some j ∧ xs[j]? = some v ∧ j < xs.length ∧ -(xs.length : Int) ≤ i ∧ i < xs.length := by
  unfold atI at h
  cases e : ixN xs.length i with
  | none => rw [e] at h; cases h
  | some j =>
    rw [e] at h
    obtain ⟨h1, h2, h3, h4⟩ := ixN_seq e
    exact ⟨j, h1, h, h2, h3, h4⟩
theorem atI_nat {α : Type} {xs : List α} {j : Nat} {v : α} (h : xs[j]? = some v) : atI xs (j : Int) = some v := by
  have hj : j < xs.length := (List.getElem?_eq_some_iff.mp h).1
  have e : ixN xs.length (j : Int) = some j := by
    unfold ixN
    rw [if_pos (by omega), if_pos (by omega)]; simp
  unfold atI; rw [e]; exact h
theorem atI_last {α : Type} (xs : List α) (v : α) : atI (xs ++ [v]) (-1) = some v := by
  have hl : (xs ++ [v]).length = xs.length + 1 := by simp
  have e : ixN (xs ++ [v]).length (-1) = some xs.length := by
    unfold ixN
    rw [hl, if_neg (by decide), if_pos (by omega)]
    congr 1
    omega
  unfold atI
  rw [e]
  show (xs ++ [v])[xs.length]? = some v
  simp

/-! ### what may be subscripted -/
/-- what stands as an index of a plain subscript -/
def PlainIx (b : Expr) : Prop := ∀ o i, subscripted b false o i = operate [o, i] (getItem o i)
/-- a subscript by values -/
def IxR (X : Cx) (r : R2) : Prop :=
  ∀ (value slice : Expr) (pins : List (Addr × Obj)) (s : Shared) (σ : St) (H : Hp) (x y : V) (v u : Value) (Q : VK), Inv X pins σ H s → RelV x v → RelV y u → r x y H Q →
    subscripted slice false v u = operate [v, u] (getItem v u) → wpAny (model X.prog X.w) X.A (subscriptTail value slice v u) (EP X pins σ Q) X.xe s
/-- a call of a builtin's method by values: the receiver, the arguments -/
def MtR (X : Cx) (id : String) (r : V → List V → Hp → VK → Prop) : Prop :=
  ∀ (pins : List (Addr × Obj)) (s : Shared) (σ : St) (H : Hp) (x : V) (xs : List V) (v : Value) (us : List Value) (Q : VK), Inv X pins σ H s → RelV x v → Vals xs us → r x xs H Q →
    wpAny (model X.prog X.w) X.A (call (.builtin id) (v :: us)) (EP X pins σ Q) X.xe s
section
variable {X : Cx} {a b : Expr} {ta tb : TE} {pos : Pos}
/-- a[b] -/
theorem pe_ix {r : R2} (hr : IxR X r) (ha : PE X a ta) (hb : PE X b tb) (hs : PlainIx b) : PE X (.Subscript a b pos) (tOp r ta tb) := by
  intro pins s σ H Q I h
  exact Subscript_ (binT ha hb I h fun v u s2 x y H2 I2 rx ry q => hr a b pins s2 σ H2 x y v u Q I2 rx ry q (hs _ _))

def rIxL (K : PySem.W.Frag) : R2 := fun x y H Q => ∃ p xs i v, x = .ref p ∧ y = .int i ∧ SqL K H p xs ∧ atI xs i = some v ∧ Q v H
def rIxT (K : PySem.W.Frag) : R2 := fun x y H Q => ∃ p xs i v, x = .ref p ∧ y = .int i ∧ SqT K H p xs ∧ atI xs i = some v ∧ Q v H
def rIxS : R2 := fun x y H Q => ∃ z i c, x = .str z ∧ y = .int i ∧ z.length ≤ sizeLine ∧ atI z.cps.toList i = some c ∧ Q (.str ⟨#[c]⟩) H
theorem ix_list : IxR X (rIxL X.K) := by
  intro value slice pins s σ H x y v u Q I rx ry h hs
  obtain ⟨p, xs, i, z, rfl, rfl, hq, he, q⟩ := h
  cases rx
  obtain ⟨t, rfl⟩ := ry
  obtain ⟨its, r, pl, hz⟩ := I.list hq
  obtain ⟨j, h1, h2, h3, h4, h5⟩ := atI_get he
  obtain ⟨w, ew, rw'⟩ := r.get h2
  have hl := r.length
  have hn := line63
  have fin : EP X pins σ Q w s := ⟨z, H, I, rw', q⟩
  by_cases h0 : 0 ≤ i
  · have hj : i.toNat = j := by
      rw [seqIndex_of h0 h5] at h1
      exact Option.some.inj h1
    exact item_listR pl.isList h0 (by omega) (by rw [hj]; simpa using ew) fin hs
  · have hj : (i + (its.toArray.size : Int)).toNat = j := by
      rw [seqIndex_neg (by omega) h4] at h1
      rw [List.size_toArray, ← hl]
      exact Option.some.inj h1
    exact subscriptTail_builtinR (x := w) pl.isList.typeIs slot_list_getitem.lookup
      (wpAny_getItem_list_neg (Q := fun r s' => r = w ∧ EP X pins σ Q r s') pl.isList (by omega) (by rw [List.size_toArray] <;> omega) (by omega) (by rw [hj]; simpa using ew) ⟨rfl, fin⟩) hs
theorem ix_tup : IxR X (rIxT X.K) := by
  intro value slice pins s σ H x y v u Q I rx ry h hs
  obtain ⟨p, xs, i, z, rfl, rfl, hq, he, q⟩ := h
  cases rx
  obtain ⟨t, rfl⟩ := ry
  obtain ⟨its, r, pl, hz⟩ := I.tuple hq
  obtain ⟨j, h1, h2, h3, h4, h5⟩ := atI_get he
  obtain ⟨w, ew, rw'⟩ := r.get h2
  have hl := r.length
  have hn := line63
  have fin : EP X pins σ Q w s := ⟨z, H, I, rw', q⟩
  exact subscriptTail_builtinR (x := w) pl.typeIs slot_tuple_getitem.lookup
    (getItem_tuple (j := j) (Q := fun r s' => r = w ∧ EP X pins σ Q r s') pl (by omega) (by omega) (by rw [List.size_toArray, ← hl]; exact h1) (by simpa using ew) ⟨rfl, fin⟩) hs
/-- list, tuple or str -/
def rIx (K : PySem.W.Frag) : R2 := fun x y H Q => rIxL K x y H Q ∨ rIxT K x y H Q ∨ rIxS x y H Q

/-! ### xs[i] = v, any sign -/
/-- the list's object behind a store -/
theorem mapSeq_set (its : List Value) (n j : Nat) (u : Value) : Obj.mapSeq (·.setIfInBounds j u) { cls := .type "list", data := .seq its.toArray n } = { cls := .type "list", data := .seq (its.set j u).toArray n } := by
  simp [Obj.mapSeq]
theorem Inv.lst {pins : List (Addr × Obj)} {σ : St} {H : Hp} {s : Shared} {p : Addr} {xs : List V} (I : Inv X pins σ H s) (h : H p = some (.lst xs)) :
    ∃ (its : List Value) (n : Nat), Vals xs its ∧ s.heap.get? p = some { cls := .type "list", data := .seq its.toArray n } ∧ xs.length ≤ sizeLine := by
  obtain ⟨z, its, n, r, e⟩ := I.hok p _ h
  exact ⟨its, n, r, e, z⟩
/-- the list at p is written by an update of its object -/
theorem Inv.lstUpd {pins : List (Addr × Obj)} {σ : St} {H : Hp} {s : Shared} {p : Addr} {xs ys : List V} {its its' : List Value} {n n' : Nat} {f : Obj → Obj} (I : Inv X pins σ H s) (h : H p = some (.lst xs))
    (ho : s.heap.get? p = some { cls := .type "list", data := .seq its.toArray n }) (hf : f { cls := .type "list", data := .seq its.toArray n } = { cls := .type "list", data := .seq its'.toArray n' }) (r : Vals ys its') (hz : ys.length ≤ sizeLine) (t : Nat) :
    Inv X pins σ (upd H p (.lst ys)) { s with heap := s.heap.update p f, toks := t } := by
  have e : (s.heap.update p f).get? p = some { cls := .type "list", data := .seq its'.toArray n' } := by
    rw [Heap.get?_update_self f ho (by rw [hf] <;> rfl), hf]
  refine I.write (x := p) (e := p) (by rw [h]; trivial) (.inl rfl) (fun b u hb q => (Heap.get?_update_other _ _ (Ne.symm hb)).trans q) ⟨_, e⟩ ?_
  exact ⟨hz, its', n', r, e⟩
def rSetL : V → V → V → Hp → (Hp → Prop) → Prop := fun o i v H Q => ∃ p xs k j, o = .ref p ∧ i = .int k ∧ H p = some (.lst xs) ∧ ixN xs.length k = some j ∧ Q (upd H p (.lst (xs.set j v)))
theorem set_list : PSet X rSetL := by
  intro pins s σ H o i v ov iv u Q I ro ri rv h
  obtain ⟨p, xs, k, j, rfl, rfl, hp, hj, q⟩ := h
  cases ro
  obtain ⟨t, rfl⟩ := ri
  obtain ⟨its, n, r, ho, hz⟩ := I.lst hp
  obtain ⟨h1, h2, h3, h4⟩ := ixN_seq hj
  have hl := r.length
  have hn := line63
  have I' : Inv X pins σ (upd H p (.lst (xs.set j v))) { s with heap := s.heap.update p (Obj.mapSeq (·.setIfInBounds j u)) } :=
    I.lstUpd hp ho (mapSeq_set its n j u) (r.set rv j) (by rw [List.length_set]; exact hz) s.toks
  by_cases h0 : 0 ≤ k
  · have hk : k.toNat = j := by
      rw [seqIndex_of h0 h4] at h1
      exact Option.some.inj h1
    exact PySem.W.ki_setAt ho h0 (by omega) (by rw [List.size_toArray, ← hl]; exact h4) (by rw [hk]; exact ⟨_, I', q⟩)
  · have hk : (k + (its.toArray.size : Int)).toNat = j := by
      rw [seqIndex_neg (by omega) h3] at h1
      rw [List.size_toArray, ← hl]
      exact Option.some.inj h1
    exact PySem.W.ki_setBack ho (by omega) (by rw [List.size_toArray, ← hl]; exact h3) (by omega) (by rw [hk]; exact ⟨_, I', q⟩)

/-! ### slices -/
/-- xs[lo:hi] of a list: a new list -/
def rSlL (K : PySem.W.Frag) : V → Option Int → Option Int → Hp → VK → Prop := fun x lo hi H Q => ∃ a xs, x = .ref a ∧ SqL K H a xs ∧ ∀ p, H p = none → Q (.ref p) (upd H p (.lst (cutV xs lo hi)))

/-! ### in, not in: flat items -/
def flatV : V → Bool
  | .non => true
  | .bl _ => true
  | .int _ => true
  | .str _ => true
  | _ => false
/-- == of flat values -/
def eqV : V → V → Bool
  | .non, .non => true
  | .bl a, .bl b => a == b
  | .bl a, .int b => (if a then 1 else 0) == b
  | .int a, .bl b => a == (if b then 1 else 0)
  | .int a, .int b => a == b
  | .str a, .str b => a == b
  | _, _ => false
theorem eqAt_V {A : Around} {s : Shared} {y x : V} {u v : Value} (ry : RelV y u) (rx : RelV x v) (fy : flatV y = true) (fx : flatV x = true) : SeqAt.EqAt A s u v (eqV y x) := by
  cases y with
  | non =>
    cases ry
    cases x with
    | non => cases rx; exact SeqAt.EqAt.same _
    | bl b => cases rx; exact SeqAt.EqAt.none_bool b
    | int b => obtain ⟨t, rfl⟩ := rx; exact SeqAt.EqAt.none_int b t
    | str b => obtain ⟨t, rfl⟩ := rx; exact SeqAt.EqAt.none_str b t
    | _ => exact absurd (show false = true from fx) Bool.false_ne_true
  | bl a =>
    cases ry
    cases x with
    | non => cases rx; exact SeqAt.EqAt.bool_none a
    | bl b => cases rx; exact SeqAt.EqAt.bool_bool a b
    | int b => obtain ⟨t, rfl⟩ := rx; exact SeqAt.EqAt.bool_int a b t
    | str b => obtain ⟨t, rfl⟩ := rx; exact SeqAt.EqAt.bool_str a b t
    | _ => exact absurd (show false = true from fx) Bool.false_ne_true
  | int a =>
    obtain ⟨t', rfl⟩ := ry
    cases x with
    | non => cases rx; exact SeqAt.EqAt.int_none a t'
    | bl b => cases rx; exact SeqAt.EqAt.int_bool a t' b
    | int b => obtain ⟨t, rfl⟩ := rx; exact SeqAt.EqAt.int_int a t' b t
    | str b => obtain ⟨t, rfl⟩ := rx; exact SeqAt.EqAt.int_str a t' b t
    | _ => exact absurd (show false = true from fx) Bool.false_ne_true
  | str a =>
    obtain ⟨t', rfl⟩ := ry
    cases x with
    | non => cases rx; exact SeqAt.EqAt.str_none a t'
    | bl b => cases rx; exact SeqAt.EqAt.str_bool a t' b
    | int b => obtain ⟨t, rfl⟩ := rx; exact SeqAt.EqAt.str_int a t' b t
    | str b => obtain ⟨t, rfl⟩ := rx; exact SeqAt.EqAt.str_str a t' b t
    | _ => exact absurd (show false = true from fx) Bool.false_ne_true
  | _ => exact absurd (show false = true from fy) Bool.false_ne_true
/-- the items' answers, read off the values (a value's own answer does not lean on its token) -/
def eqU (x : V) (u : Value) : Bool := match u with
  | .none => eqV .non x
  | .bool b => eqV (.bl b) x
  | .int i _ => eqV (.int i) x
  | .str z _ => eqV (.str z) x
  | _ => false
theorem eqU_of {x y : V} {u : Value} (r : RelV y u) (f : flatV y = true) : eqU x u = eqV y x := by
  cases y with
  | non => cases r; rfl
  | bl b => cases r; rfl
  | int i => obtain ⟨t, rfl⟩ := r; rfl
  | str z => obtain ⟨t, rfl⟩ := r; rfl
  | _ => exact absurd (show false = true from f) Bool.false_ne_true
theorem any_eqU {x : V} : ∀ {xs : List V} {us : List Value}, Vals xs us → xs.all flatV = true → us.any (eqU x) = xs.any fun y => eqV y x
  | _, _, .nil, _ => rfl
  | y :: xs, u :: us, .cons r t, f => by
    rw [List.all_cons, Bool.and_eq_true] at f
    rw [List.any_cons, List.any_cons, eqU_of r f.1, any_eqU t f.2]
theorem mem_eqAt {A : Around} {s : Shared} {x : V} {v : Value} (rx : RelV x v) (fx : flatV x = true) : ∀ {xs : List V} {us : List Value}, Vals xs us → xs.all flatV = true → ∀ u ∈ us, SeqAt.EqAt A s u v (eqU x u)
  | _, _, .nil, _ => fun u hu => by cases hu
  | y :: xs, u :: us, .cons r t, f => fun u' hu => by
    rw [List.all_cons, Bool.and_eq_true] at f
    rcases List.mem_cons.mp hu with rfl | hu
    · rw [eqU_of r f.1]; exact eqAt_V r rx f.1 fx
    · exact mem_eqAt rx fx t f.2 u' hu
def inV (x : V) (xs : List V) : Bool := xs.any fun y => eqV y x
/-- x in a list or tuple of flat items -/
def rIn (K : PySem.W.Frag) (neg : Bool) : R2 := fun x y H Q => ∃ p xs, y = .ref p ∧ (SqL K H p xs ∨ SqT K H p xs) ∧ flatV x = true ∧ xs.all flatV = true ∧ Q (.bl (if neg then !inV x xs else inV x xs)) H
theorem op_notIn_seq : OpR X (compareOp .NotIn) (rIn X.K true) := by
  intro pins s σ H x y v u Q I rx ry h
  obtain ⟨p, xs, rfl, hq, fx, fs, q⟩ := h
  cases ry
  rcases hq with hq | hq
  · obtain ⟨its, r, pl, hz⟩ := I.list hq
    refine SeqAt.notIn_listAt (eqU x) pl.isList (fun w hw => mem_eqAt rx fx r fs w (by simpa using hw)) ⟨.bl _, H, I, rfl, ?_⟩
    rw [show its.toArray.any (eqU x) = its.any (eqU x) by simp, any_eqU r fs]
    exact q
  · obtain ⟨its, r, pl, hz⟩ := I.tuple hq
    refine SeqAt.notIn_tupleAt (eqU x) pl (fun w hw => mem_eqAt rx fx r fs w (by simpa using hw)) ⟨.bl _, H, I, rfl, ?_⟩
    rw [show its.toArray.any (eqU x) = its.any (eqU x) by simp, any_eqU r fs]
    exact q

/-! ### len, list(x), tuple(x) of any list or tuple that is read -/
theorem call_len_seq : CallR X (.builtin "len") (fun xs H Q => ∃ p ys, xs = [.ref p] ∧ (SqL X.K H p ys ∨ SqT X.K H p ys) ∧ Q (.int ys.length) H) := by
  intro pins s σ H xs us Q I r h
  obtain ⟨p, ys, rfl, hq, q⟩ := h
  obtain ⟨u, rfl, rx⟩ := vals1 r
  cases rx
  have hn := line63
  rcases hq with hq | hq
  · obtain ⟨its, r', pl, hz⟩ := I.list hq
    have hlen := r'.length
    exact Calls.call_len_list pl.isList (by simp only [List.size_toArray] <;> omega) ⟨.int ys.length, H, I.tok _, ⟨s.toks + 1, by rw [List.size_toArray, hlen]⟩, q⟩
  · obtain ⟨its, r', pl, hz⟩ := I.tuple hq
    have hlen := r'.length
    exact len_tuple pl (by simp only [List.size_toArray] <;> omega) ⟨.int ys.length, H, I.tok _, ⟨s.toks + 1, by rw [List.size_toArray, hlen]⟩, q⟩
theorem call_tuple_of : CallR X (.type "tuple") (fun xs H Q => ∃ p ys, xs = [.ref p] ∧ ((SqL X.K H p ys ∧ ∀ l, H l = none → Q (.ref l) (upd H l (.tup ys))) ∨ (SqT X.K H p ys ∧ Q (.ref p) H))) := by
  intro pins s σ H xs us Q I r h
  obtain ⟨p, ys, rfl, h⟩ := h
  obtain ⟨u, rfl, rx⟩ := vals1 r
  cases rx
  rcases h with ⟨hq, q⟩ | ⟨hq, q⟩
  · obtain ⟨its, r', pl, hz⟩ := I.list hq
    have hlen := r'.length
    refine call_tuple_list pl.isList (fun h' kp => ?_) (by simp only [List.size_toArray] <;> omega)
    have I1 : Inv X pins σ H { s with heap := h' } := I.kept (t' := s.toks) kp
    have I2 : Inv X pins σ (upd H h'.objs.size (.tup ys)) { s with heap := h'.push { cls := .type "tuple", data := .seq its.toArray } } :=
      I1.laid (t' := s.toks) (fun b o e => Heap.get?_push_of_some _ e) (Nat.le_refl _) (show ObjOk X.prog X.w _ _ _ (.tup ys) from ⟨hz, its, r', IsTup.new _ _⟩)
    exact ⟨.ref h'.objs.size, _, I2, rfl, q _ (I1.hok.fresh (Nat.le_refl _))⟩
  · obtain ⟨its, r', pl, hz⟩ := I.tuple hq
    exact call_tuple_same pl ⟨.ref p, H, I, rfl, q⟩

/-! ### the call of a builtin's method: o.m(..) -/
/-- the value is of that builtin type -/
def tyV (K : PySem.W.Frag) (T : String) (x : V) (H : Hp) : Prop := match x with
  | .str _ => T = "str"
  | .int _ => T = "int"
  | .ref p => (T = "list" ∧ ∃ xs, SqL K H p xs) ∨ (T = "tuple" ∧ ∃ o, K.lookup p = some o ∧ o.cls = .type "tuple" ∧ o.dict = none) ∨
      (T = "dict" ∧ ((∃ kvs, H p = some (.dK kvs)) ∨ ∃ kvs, H p = some (.dT kvs))) ∨ (T = "set" ∧ ∃ S n, H p = some (.set S n))
  | _ => False
theorem tyV_is {pins : List (Addr × Obj)} {σ : St} {H : Hp} {s : Shared} {T : String} {x : V} {v : Value} (I : Inv X pins σ H s) (r : RelV x v) (ty : tyV X.K T x H) :
    s.TypeIs v T ∧ ∀ a, v = .ref a → ∃ ob, s.heap.get? a = some ob ∧ ob.dict = none := by
  cases x with
  | str z =>
    obtain ⟨t, rfl⟩ := r
    cases (show T = "str" from ty)
    exact ⟨typeIs_str s z t, fun _ e => nomatch e⟩
  | int i =>
    obtain ⟨t, rfl⟩ := r
    cases (show T = "int" from ty)
    exact ⟨typeIs_int s i t, fun _ e => nomatch e⟩
  | ref p =>
    cases r
    rcases ty with ⟨rfl, xs, hq⟩ | ⟨rfl, o, hk, hc, hd⟩ | ⟨rfl, hk⟩ | ⟨rfl, S, n, hk⟩
    · obtain ⟨its, _, pl, _⟩ := I.list hq
      refine ⟨pl.isList.typeIs, fun a e => ?_⟩
      cases e
      obtain ⟨o, n, e, c, hd, _⟩ := pl
      exact ⟨o, e, hd⟩
    · refine ⟨⟨o, I.kIn p o hk, hc⟩, fun a e => ?_⟩
      cases e
      exact ⟨o, I.kIn _ o hk, hd⟩
    · have z : ∃ o, s.heap.get? p = some o ∧ o.ExactDict := by
        rcases hk with ⟨kvs, hk⟩ | ⟨kvs, hk⟩
        · obtain ⟨_, _, _, _, o, _, _, e, ex, _⟩ := I.hok p _ hk
          exact ⟨o, e, ex⟩
        · obtain ⟨_, _, _, _, o, _, _, e, ex, _⟩ := I.hok p _ hk
          exact ⟨o, e, ex⟩
      obtain ⟨o, e, ex⟩ := z
      refine ⟨⟨o, e, ex.1⟩, fun a e2 => ?_⟩
      cases e2
      exact ⟨o, e, ex.2.1⟩
    · obtain ⟨o, _, _, _, e, ex, _⟩ := I.hok p _ hk
      refine ⟨⟨o, e, ex.1⟩, fun a e2 => ?_⟩
      cases e2
      exact ⟨o, e, ex.2.1⟩
  | _ => exact False.elim ty
def tBM0 (K : PySem.W.Frag) (T : String) (r : V → List V → Hp → VK → Prop) (to : TE) : TE := fun σ H Q => to σ H fun x H1 => tyV K T x H1 ∧ r x [] H1 Q
def tBM (K : PySem.W.Frag) (T : String) (r : V → List V → Hp → VK → Prop) (to : TE) (t : TA) : TE := fun σ H Q => to σ H fun x H1 => tyV K T x H1 ∧ t σ H1 fun xs H2 => r x xs H2 Q
variable {o e : Expr} {es : List Expr} {to : TE} {t : TA} {name : Str} {apos cpos : Pos} {T id : String} {r : V → List V → Hp → VK → Prop}
theorem pe_bm (pa : PlainAttrs T) (slot : Slot T name id) (hty : typeOf (.builtin id) = pure (.type "method_descriptor")) (hm : MtR X id r) (ho : PE X o to) (ha : PA X (e :: es) t)
    (hbase : attributeBase o name X.env (eval o X.env) = eval o X.env := by rfl)
    (hfew : ((backTo cpos (starEach (e :: es) X.env)).all (fun x => !x.1) && (backToKw cpos (keywordEach [] X.env)).all (fun x => x.1.isSome)
      && decide ((e :: es).length + ([] : List Keyword).length + (if ([] : List Keyword).isEmpty then 0 else 1) < 30)) = true := by rfl)
    (hline : (apos.endLine == cpos.line) = true := by rfl) (hs : starEach (e :: es) X.env = (false, eval e X.env) :: starEach es X.env := by rfl) (hplain : (backTo cpos (starEach es X.env)).any (·.1) = false := by rfl) :
    PE X (.Call (.Attribute o name apos) (e :: es) [] cpos) (tBM X.K T r to t) := by
  intro pins s σ H Q I h
  refine wpAny_Call_method_late hbase hfew hline rfl (thn (ho pins s σ H _ I h) fun v s1 ⟨x, H1, I1, r1, ty, q1⟩ => ?_)
  obtain ⟨h1, h2⟩ := tyV_is I1 r1 ty
  refine ⟨T, id, pa, slot, hty, h1, h2, ?_⟩
  have hA := ha cpos pins s1 σ H1 _ I1 q1
  rw [hs] at hA ⊢
  refine Calls.callWith_builtin (by show (false || (backTo cpos (starEach es X.env)).any (·.1)) = false; rw [hplain] <;> rfl) (Calls.evalArgs_plain ?_)
  exact thn hA fun us s2 ⟨vs, H2, I2, r2, q2⟩ => hm pins s2 σ H2 x vs v us Q I2 r1 r2 q2
/- xs.append(e), list.index on a module's tuple .. are MtR facts of 06m -/
end
end L2

namespace L2
open PySem PySem.Spec PyProof.Rows

def MtM (X : Cx) (id : String) (r : V → List V → Hp → VK → Prop) : Prop :=
  ∀ (pins : List (Addr × Obj)) (s : Shared) (σ : St) (H : Hp) (x : V) (xs : List V) (v : Value) (us : List Value) (Q : VK), Inv X pins σ H s → RelV x v → Vals xs us → r x xs H Q →
    wpAny (model X.prog X.w) X.A (call (.builtin id) (v :: us)) (EP X pins σ Q) X.xe s

/-! ### lists of values -/
theorem Vals.one : ∀ {x : V} {us : List Value}, Vals [x] us → ∃ u, us = [u] ∧ RelV x u
  | _, _, .cons r .nil => ⟨_, rfl, r⟩

section
variable {X : Cx} {pins : List (Addr × Obj)} {σ : St} {H : Hp} {s : Shared} {l b : Addr} {xs ys zs : List V}

/-! ### the two steps: a tracked list is rewritten, a new list is laid -/
theorem Inv.lset {its its' : List Value} {n : Nat} {f : Array Value → Array Value} {t' : Nat} (I : Inv X pins σ H s) (hH : H l = some (.lst xs))
    (e : s.heap.get? l = some { cls := .type "list", data := .seq its.toArray n }) (hf : f its.toArray = its'.toArray) (hv : Vals ys its') (hz : ys.length ≤ sizeLine) :
    Inv X pins σ (upd H l (.lst ys)) { s with heap := s.heap.update l (Obj.mapSeq f), toks := t' } := by
  have q := PySem.IsL.update e f
  rw [hf] at q
  refine I.write (x := l) (e := l) (by rw [hH]; exact trivial) (.inl rfl) (fun b' u hb hu => (Heap.get?_update_other s.heap (Obj.mapSeq f) (Ne.symm hb)).trans hu) ⟨_, q⟩ ?_
  exact ⟨hz, its', _, hv, q⟩
theorem Inv.lnew {its : List Value} {t' : Nat} (I : Inv X pins σ H s) (hv : Vals ys its) (hz : ys.length ≤ sizeLine) :
    Inv X pins σ (upd H s.heap.objs.size (.lst ys)) { s with heap := s.heap.push { cls := .type "list", data := .seq its.toArray }, toks := t' } :=
  I.laid (fun _ _ q => Heap.get?_push_of_some _ q) (Nat.le_refl _) ⟨hz, its, 0, hv, Heap.get?_push_size _ rfl⟩
theorem Inv.fresh (I : Inv X pins σ H s) : H s.heap.objs.size = none := I.hok.fresh (Nat.le_refl _)
theorem Inv.lstM (I : Inv X pins σ H s) (hH : H l = some (.lst xs)) : xs.length ≤ sizeLine ∧ ∃ (its : List Value) (n : Nat), Vals xs its ∧ xs.length = its.length ∧ s.heap.get? l = some { cls := .type "list", data := .seq its.toArray n } := by
  obtain ⟨z, its, n, r, e⟩ := I.hok l _ hH
  exact ⟨z, its, n, r, r.length, e⟩

end

section
variable {X : Cx}

/-! ### methods -/
def rAppend : V → List V → Hp → VK → Prop := fun x vs H Q => ∃ l xs y, x = .ref l ∧ vs = [y] ∧ H l = some (.lst xs) ∧ xs.length < sizeLine ∧ Q .non (upd H l (.lst (xs ++ [y])))
theorem mt_append : MtM X "list.append" rAppend := by
  intro pins s σ H x vs v us Q I rx rv h
  obtain ⟨l, xs, y, rfl, rfl, hH, hz, q⟩ := h
  cases rx
  obtain ⟨u, rfl, ru⟩ := rv.one
  obtain ⟨z, its, n, r, hl, e⟩ := I.lstM hH
  refine call_meets F.slot_list_append ⟨_, e, rfl⟩ F.entry_list_append (F.args_list_append_2 _ _) (PySem.list_append l its.toArray n u (by rw [List.size_toArray]; omega)) ⟨e, ?_⟩
  refine ⟨.non, _, I.lset (its' := its ++ [u]) hH e (by simp) (r.append (.cons ru .nil)) ?_, rfl, q⟩
  rw [List.length_append, List.length_singleton]
  omega

def rExtend : V → List V → Hp → VK → Prop := fun x vs H Q => ∃ l b xs zs, x = .ref l ∧ vs = [.ref b] ∧ H l = some (.lst xs) ∧ H b = some (.lst zs) ∧ xs.length + zs.length ≤ sizeLine ∧ Q .non (upd H l (.lst (xs ++ zs)))

def rPop : V → List V → Hp → VK → Prop := fun x vs H Q => ∃ l xs y, x = .ref l ∧ vs = [] ∧ H l = some (.lst xs) ∧ xs[xs.length - 1]? = some y ∧ Q y (upd H l (.lst xs.dropLast))

def rPopAt : V → List V → Hp → VK → Prop := fun x vs H Q => ∃ l xs i k y, x = .ref l ∧ vs = [.int i] ∧ H l = some (.lst xs) ∧ -(2 ^ 63) ≤ i ∧ i < 2 ^ 63 ∧ seqIndex? i xs.length = some k ∧ xs[k]? = some y ∧ Q y (upd H l (.lst (xs.eraseIdx k)))

def rReverse : V → List V → Hp → VK → Prop := fun x vs H Q => ∃ l xs, x = .ref l ∧ vs = [] ∧ H l = some (.lst xs) ∧ Q .non (upd H l (.lst xs.reverse))

def rClear : V → List V → Hp → VK → Prop := fun x vs H Q => ∃ l xs, x = .ref l ∧ vs = [] ∧ H l = some (.lst xs) ∧ Q .non (upd H l (.lst []))

/-! ### list + list, list += list, list * int -/
def rCat : R2 := fun x y H Q => ∃ l b xs zs, x = .ref l ∧ y = .ref b ∧ H l = some (.lst xs) ∧ H b = some (.lst zs) ∧ xs.length + zs.length ≤ sizeLine ∧ ∀ p, H p = none → Q (.ref p) (upd H p (.lst (xs ++ zs)))
/-- a list times an int (a negative one is nothing) -/
def rRep : R2 := fun x y H Q => ∃ l k xs, x = .ref l ∧ y = .int k ∧ H l = some (.lst xs) ∧ -(2 ^ 63) ≤ k ∧ k < 2 ^ 63 ∧ xs.length * k.toNat ≤ sizeLine ∧
  ∀ p, H p = none → Q (.ref p) (upd H p (.lst (List.replicate k.toNat xs).flatten))

/-! ### del xs[i] -/
end

/-! ### xs[a:b] = ys -/
section
variable {prog : Program} {w : World} {A : Around} {E : Value → Shared → Prop} {s : Shared}
end

section
variable {X : Cx}
end
end L2

namespace Att
open PySem PySem.W PySem.Calls PyProof.Rows

/-! ### the script -/
theorem ints_of_wellAll {P : Params} {h : Heap} : ∀ (ns : List Int) (vs : List Value), WellAll P h vs (ns.map WData.int) → IntsAre vs ns := by
  intro ns
  induction ns with
  | nil =>
    intro vs w
    rw [List.map_nil] at w
    cases w
    exact .nil
  | cons n ns ih =>
    intro vs w
    rw [List.map_cons] at w
    cases w with
    | cons a b =>
      cases a
      exact .cons _ _ (ih _ b)

theorem script_of {l : OpenLaw} {n : Nat} (hn : l.most = some n) {P : Params} {h : Heap} {args : List WData} {vals : List Value}
    (hpre : l.row.toRowW.claim.pre args = true) (hwl : WellAll P h vals args) :
    ∃ a vs ns, vals = [Value.ref a] ∧ args = [WData.list (ns.map WData.int)] ∧ h.get? a = some { cls := .type "list", data := .seq vs.toArray } ∧ IntsAre vs ns ∧ ns.length ≤ n := by
  have hsh : WShape.hasAll [] args [.list .int] = true := (pre_splitW hpre).1
  have hc : l.pre.holds [] { args := args } = true := (pre_splitW hpre).2
  obtain ⟨d, r, rfl, h1, h2⟩ := hasAllW_cons hsh
  obtain rfl := hasAllW_nil h2
  obtain ⟨xs, rfl, h3⟩ := hasW_list h1
  obtain ⟨ns, rfl⟩ := items_int h3
  have hlen : ns.length ≤ n := by
    unfold OpenLaw.pre at hc
    have h4 : (WTm.not (.lt (.lit (.int (n : Int))) (.len (.arg 0)))).holds [] { args := [.list (ns.map .int)] } = true := by
      have h4 := (holds_andW hc).1
      rw [hn] at h4
      exact h4
    have h5 := condW_of h4 (w_not (w_lt w_lit (w_len_list (w_arg rfl))))
    rw [List.length_map] at h5
    refine Nat.le_of_not_lt fun q => ?_
    have q' : (n : Int) < ((ns.length : Nat) : Int) := by omega
    first
      | (rw [decide_eq_true q'] at h5; exact absurd h5 (by decide))
      | (simp at h5; omega)
  cases hwl with
  | cons w1 w2 =>
    cases w2
    cases w1 with
    | list ho hall => exact ⟨_, _, ns, rfl, rfl, ho, ints_of_wellAll ns _ hall, hlen⟩

theorem post_true (l : OpenLaw) (args : List WData) : l.row.toRowW.claim.post args (.bool true) args = true :=
  postW_of (r := l.row.toRowW) (X := (true == true))
    (show WShape.has [] (.bool true) .bool = true by first | rfl | decide | simp [WShape.has, WShape.arms, WShape.armsAll])
    (show (WTm.eq .res (.lit (.bool true))).value [] { args := args, res := some (.bool true), after := args } = some (.bool (true == true)) from w_eq_bool (w_res rfl) w_lit) rfl

/-! ### the attachment: holds_open's last premise (the goal 'hc' behind k_head) from a wpAny of the law's body -/

/-- the same from a codeAny of the CALL (for a layer whose function contracts speak of calls) -/
theorem attach_call {l : OpenLaw} {n : Nat} {q : Program} {loose : List Str} {XP : (Str → Option Value) → Heap → Prop} {YP : World → Heap → Prop} {d : DefRec}
    (hn : l.most = some n) (hdf : d.params.defaults = [])
    (call : ∀ (w : World) (s₀ s₁ : Shared) (mg mb : Str → Option Value) (fa : Addr) (o : Obj) (pm cd doc : Value) (a : Addr) (vs : List Value) (ns : List Int),
      Ground q loose [] XP w s₀ mg mb s₁.heap → YP w s₁.heap →
      s₁.heap.get? fa = some o → o.data = .func (docDef d.name d.params d.body d.scope pm cd doc) → s₁.heap.CodeRec cd d.name → mg d.name = some (.ref fa) →
      s₁.heap.get? a = some { cls := .type "list", data := .seq vs.toArray } → IntsAre vs ns → ns.length ≤ n → s₁.gens = #[] →
      codeAny (model l.prog w) callerA (.call (.ref fa) ⟨[.ref a], []⟩) (fun r s' => r = .ok (.ret (.bool true)) ∧ OldK s₁.heap s'.heap ∧ s'.os = s₁.os ∧ AllBare s'.gens) s₁) :
    WalkO q loose XP YP l.row.toRowW d [] (fun f vs => PySem.call f vs) := by
  intro w s₀ s₁ mg mb G Y fa o pm cd doc dV kV ho hd hcd hD hmg hg args vals as hpre hlay hrd hwl hlo
  obtain rfl : dV = .none := Dflts.none hD hdf
  obtain rfl : kV = .none := Dflts.noKw hD
  obtain ⟨a, vs, ns, rfl, rfl, hobj, hints, hlen⟩ := script_of hn hpre hwl
  refine enter_call (codeAny_mono (call w s₀ s₁ mg mb fa o pm cd doc a vs ns G Y ho (fd_plain hd) hcd hmg hobj hints hlen hg) fun r s' hq => ?_)
  obtain ⟨rfl, h2, h3, h4⟩ := hq
  exact ⟨.inl ⟨.bool true, .bool true, [], rfl, fun _ => rfl, .bool true, post_true l _, fun _ => ⟨List.Pairwise.nil, fun _ hm => (nomatch hm)⟩⟩, h2, h3, h4⟩


/-! ### rules over ANY heap (no ledger) from facts about the written part K: the library's own take a ledger (News) for what they write -/
section
variable {prog : Program} {w : World} {A : Around} {E : Value → Shared → Prop} {s : Shared} {K : Frag}





/-! the whole heap as the ledger: makes every rule that writes through a ledger a rule over any heap -/
def noObjs (h : Heap) : Heap := { h with objs := #[] }
def ledger (h : Heap) (L d : Addr) : List (Addr × Obj) := (List.range h.objs.size).filterMap fun a => if a = L ∨ a = d then none else (h.get? a).map fun o => (a, o)

end
end Att

namespace L2
open PySem PySem.Spec PyProof.Rows

theorem vals_ints : ∀ {vs : List Value} {ns : List Int}, IntsAre vs ns → Vals (ns.map V.int) vs
  | _, _, .nil => .nil
  | _, _, .cons n t h => .cons ⟨t, rfl⟩ (vals_ints h)

/-- nothing is tracked but the script, known to the object (or it is an object of the module) -/
def Only (H : Hp) : Prop := ∀ b, H b = none ∨ ∃ o xs, H b = some (.frz o (.lst xs))

/-- THE HEAD: the law's promise, at the heap behind the top. F, the promise of the law's def, may use that base is part of the heap (so K.In base, base.Ns mainGlobals mg stand in Mod) -/
theorem law_call {P : Program} {w : World} {K : PySem.W.Frag} {mg mb : Str → Option Value} {CX : CXT} {k : Nat} {fa a : Addr} {fd : FuncData} {x : Str} {sp : Sp} {s₁ : Shared} {vs : List Value} {ns : List Int}
    (KX : K.In s₁.heap) (hns : s₁.heap.Ns mainGlobals mg) (hb : s₁.heap.Ns builtinsNs mb) (hbb : ∀ x : Str, x ≠ "__name__" → mb x = bootBuiltins x) (hlim : s₁.heap.NoLimit) (hg : s₁.gens = #[])
    (ha : s₁.heap.get? a = some { cls := .type "list", data := .seq vs.toArray }) (hi : IntsAre vs ns) (hl : ns.length ≤ sizeLine) (hr : Room k callerA)
    (F : ∀ base : Heap, K.In base → base.Ns mainGlobals mg → FnOk P w K mg base CX k fa fd [x] sp) (hbind : ∀ (s : Shared) (u : Value), BindsTo s fd ⟨[u], []⟩ [(x, u)])
    (hsp : ∀ H : Hp, Only H → SqL K H a (ns.map V.int) → sp [.ref a] H (fun v _ => v = .bl true) fun _ _ _ => False)
    (hCX : ∀ H e s', CX [] H s₁ (fun _ _ _ => False) e s' → False) :
    codeAny (model P w) callerA (.call (.ref fa) ⟨[.ref a], []⟩) (fun r s' => r = .ok (.ret (.bool true)) ∧ OldK s₁.heap s'.heap ∧ s'.os = s₁.os ∧ AllBare s'.gens) s₁ := by
  have rv := vals_ints hi
  have lenV := hi.length
  -- from an abstract heap in which nothing but the script may be tracked
  have core : ∀ H : Hp, Only H → SqL K H a (ns.map V.int) → HOk P w H s₁.heap → (∀ b, H b ≠ none → b = a) → (H a ≠ none → K.lookup a = none) →
      codeAny (model P w) callerA (.call (.ref fa) ⟨[.ref a], []⟩) (fun r s' => r = .ok (.ret (.bool true)) ∧ OldK s₁.heap s'.heap ∧ s'.os = s₁.os ∧ AllBare s'.gens) s₁ := by
    intro H hO hS hok hA hK
    have base_of : ∀ {b : Addr} {o : Obj}, s₁.heap.get? b = some o → H b = none → (hidT s₁.heap H).get? b = some o := fun e n => hidT_get e n
    have noA : ∀ {b : Addr} {o : Obj} {es : Array DictEntry} {ep : Nat}, s₁.heap.get? b = some o → o.data = .dict es ep → H b = none := fun {b o es ep} e d => by
      cases q : H b with
      | none => rfl
      | some u =>
        have e' : b = a := hA b (by rw [q]; simp)
        subst e'
        rw [ha] at e; cases e
        have d' : Data.seq vs.toArray _ = Data.dict es ep := d
        cases d'
    have nsK : ∀ {b : Addr} {m : Str → Option Value}, s₁.heap.Ns b m → (hidT s₁.heap H).Ns b m := fun {b m} ⟨o, es, ep, e, d, r⟩ => ⟨o, es, ep, base_of e (noA e d), d, r⟩
    have hKb : K.In (hidT s₁.heap H) := fun b o e => base_of (KX b o e) (by
      cases q : H b with
      | none => rfl
      | some u =>
        have e' : b = a := hA b (by rw [q]; simp)
        subst e'
        rw [hK (by rw [q]; simp)] at e; cases e)
    have hM : Mod K mg (hidT s₁.heap H) := ⟨hKb, nsK hns, ⟨mb, nsK hb, hbb⟩, let ⟨mc, h1, h2⟩ := hlim; ⟨mc, nsK h1, h2⟩⟩
    have e0 : Env0 P w K mg (hidT s₁.heap H) callerA [] s₁ H := ⟨rfl, hM, fun b o e => of_hidT e, Nat.le_of_eq (hidT_size _ _), trivial, fun b hb => absurd (show b ∈ ([] : List Addr) from hb) (by simp), hok, .of_eq hg⟩
    refine codeAny_mono ((F _ hKb (nsK hns)).run callerA [] s₁ H ⟨[.ref a], []⟩ [.ref a] [.ref a] _ _ hr e0 (hbind s₁ (.ref a)) (.cons rfl .nil) (hsp H hO hS)) fun r s' h => ?_
    cases r with
    | error e => exact (hCX H e s' h).elim
    | ok fl =>
      cases fl with
      | next => exact False.elim h
      | brk => exact False.elim h
      | cont => exact False.elim h
      | ret u =>
        obtain ⟨v, H', os, bare, un, hok', r', q⟩ := h
        have q' : v = .bl true := q
        subst q'
        obtain rfl : u = Value.bool true := r'
        refine ⟨rfl, OldK.of_keep fun b o e => ?_, os, bare⟩
        cases q : H b with
        | none => exact un.keep b o e q (by intro z; exact absurd (show b ∈ ([] : List Addr) from z) (by simp)) (by simp)
        | some u =>
          rcases hO b with z | ⟨ob, xs, z⟩
          · rw [q] at z; cases z
          · have z2 := un.frzs b ob _ z
            obtain ⟨e1, _⟩ := hok b _ z
            obtain ⟨e2, _⟩ := hok' b _ z2
            rw [e] at e1; cases e1
            exact e2
  cases hk : K.lookup a with
  | some o =>
    -- the script is one of the module's own objects
    have e := KX a o hk
    rw [ha] at e
    cases e
    refine core (fun _ => none) (fun _ => .inl rfl) (.inr ⟨_, vs.toArray, _, hk, rfl, rfl, rfl, by rw [List.size_toArray, lenV]; exact hl, by simpa using rv⟩) (fun b u z => by have z' : (none : Option HO) = some u := z; cases z') (fun b z => absurd rfl z) fun z => absurd rfl z
  | none =>
    refine core (fun b => if b = a then some (.frz { cls := .type "list", data := .seq vs.toArray } (.lst (ns.map V.int))) else none) (fun b => ?_) (.inl (.inr ⟨{ cls := .type "list", data := .seq vs.toArray }, if_pos rfl⟩)) (fun b u z => ?_) (fun b z => ?_) fun _ => hk
    · by_cases hb : b = a
      · exact .inr ⟨_, _, if_pos hb⟩
      · exact .inl (if_neg hb)
    · by_cases hb : b = a
      · have z' := (if_pos hb).symm.trans z
        cases z'
        subst hb
        exact ⟨ha, by rw [List.length_map]; exact hl, vs, _, rv, ha⟩
      · have z' := (if_neg hb).symm.trans z
        cases z'
    · by_cases hb : b = a
      · exact hb
      · exact absurd (if_neg hb) z
end L2

namespace L2
open PySem PySem.Spec PyProof.Rows

abbrev KOf {K : PySem.W.Frag} {h : Heap} (_ : K.In h) : PySem.W.Frag := K

/-- the goal that k_head leaves (case hc), from the law's promise. F gives the function object fd (K's own) once, then the promise over every base -/
theorem walk_of {l : PySem.W.OpenLaw} {n k : Nat} {q : Program} {loose : List Str} {XP : (Str → Option Value) → Heap → Prop} {YP : World → Heap → Prop} {d : DefRec} {K : Params → PySem.W.Frag} {CX : World → CXT} {sp : World → Sp} {x : Str}
    (hn : l.most = some n) (hn2 : n ≤ sizeLine) (hdf : d.params.defaults = []) (hr : Room k callerA)
    (hY : ∀ (w : World) (h : Heap), YP w h → (K w.params).In h)
    (F : ∀ (w : World) (mg : Str → Option Value) (fa : Addr) (h : Heap), (K w.params).In h → h.Ns mainGlobals mg → mg d.name = some (.ref fa) →
      ∃ fd : FuncData, (∀ (s : Shared) (u : Value), BindsTo s fd ⟨[u], []⟩ [(x, u)]) ∧
        ∀ base : Heap, (K w.params).In base → base.Ns mainGlobals mg → FnOk l.prog w (K w.params) mg base (CX w) k fa fd [x] (sp w))
    (hsp : ∀ (w : World) (H : Hp) (a : Addr) (ns : List Int), ns.length ≤ n → Only H → SqL (K w.params) H a (ns.map V.int) → sp w [.ref a] H (fun v _ => v = .bl true) fun _ _ _ => False)
    (hCX : ∀ (w : World) (H : Hp) (s : Shared) (e : Value) (s' : Shared), CX w [] H s (fun _ _ _ => False) e s' → False) :
    PySem.W.WalkO q loose XP YP l.row.toRowW d [] (fun f vs => PySem.call f vs) := by
  refine Att.attach_call hn hdf fun w s₀ s₁ mg mb fa o pm cd doc a vs ns G Y ho hd hcd hmg hobj hints hlen hg => ?_
  have KX := hY w _ Y
  obtain ⟨fd, hb, hF⟩ := F w mg fa _ KX G.T.g hmg
  exact law_call KX G.T.g G.T.b G.T.builtins G.T.nolimit hg hobj hints (Nat.le_trans hlen hn2) hr hF hb (fun H hO hS => hsp w H a ns hlen hO hS) fun H e s' => hCX w H s₁ e s'
end L2



/-! SHORT WORDS over the layer: a def of the text, its body, what a loop and a test want. -/
namespace L2
open PySem PySem.Spec PyProof.Rows

/-! ### the text by places -/
/-- the j-th statement of a class's body -/
def inClass (s : Stmt) (j : Nat) : Stmt := match s with
  | .ClassDef _ _ _ body _ _ _ _ _ _ _ => body.getD j (.Pass ⟨0, 0, 0, 0⟩)
  | _ => .Pass ⟨0, 0, 0, 0⟩
def defArgs (s : Stmt) : Arguments := match s with
  | .FunctionDef _ a _ _ _ _ _ _ _ _ => a
  | _ => { posonlyargs := [], args := [], vararg := none, kwonlyargs := [], kw_defaults := [], kwarg := none, defaults := [] }
def defBody (s : Stmt) : List Stmt := match s with
  | .FunctionDef _ _ b _ _ _ _ _ _ _ => b
  | _ => []
def defScope (s : Stmt) : Scope := match s with
  | .FunctionDef _ _ _ _ _ _ sc _ _ _ => sc
  | _ => { kind := .function, names := [], isGenerator := false, isCoroutine := false }

/-! ### no exception leaves a def -/
abbrev CX0 : CXT := fun _ _ _ _ _ _ => False
abbrev E0 : XK := fun _ _ _ => False
theorem pass0 {X : Cx} : Passes CX0 X E0 := fun _ _ _ _ _ _ _ h => h.elim

/-! ### a def (or method) of the text as it stands behind the top -/
structure Fun (K : PySem.W.Frag) (x qual : Str) (st : Stmt) (f : Addr) (fd : FuncData) : Prop where
  ex : ∃ (oc : Value) (od : Option Addr) (kV doc pm : Value) (an : Option Addr) (cdv ct : Value) (osl : Array (Option Value)),
    fd = PySem.W.fnOf x qual (defArgs st) (defBody st) (defScope st) .none kV doc pm an cdv ct ∧ K.lookup f = some ⟨oc, od, .func fd, osl⟩ ∧ PySem.W.codeIn K cdv qual = true
  kp : PySem.W.keepIn K (.ref f) = true
section
variable {P : Program} {w : World} {K : PySem.W.Frag} {mg : Str → Option Value} {base : Heap}
/-- THE RULE for a def: its body as a term of rules, and the reading of that term -/
theorem Fun.ok {x qual : Str} {st : Stmt} {f : Addr} {fd : FuncData} {N ps : List Str} {k : Nat} {sp : Sp} (F : Fun K x qual st f fd) (S : FnScope N ps (defScope st)) (len : ∀ vs H Q E, sp vs H Q E → vs.length = ps.length)
    (hbody : ∀ (cdv : Value) (A : Around) (outer : List Env) (s : Shared) (H : Hp) (vs : List V) (Q : VK) (E : XK), Room k (A.deeper (envOfC qual (defScope st) s.heap.objs.size f cdv)) → sp vs H Q E →
      ∃ t, PSs (cxOf CX0 P w K mg base N qual (defScope st) f cdv A outer s H E).nox (defBody st) t ∧ t { nx := fun _ H' => Q .non H', rt := Q } (start N vs) H) : FnOk P w K mg base CX0 (k + 1) f fd ps sp := by
  obtain ⟨oc, od, kV, doc, pm, an, cdv, ct, osl, rfl, lk, hcd⟩ := F.ex
  refine fn_of lk hcd S len fun A outer s H vs Q E hr hsp => ?_
  obtain ⟨t, h, q⟩ := hbody cdv A outer s H vs Q E hr hsp
  exact ⟨t, h.nox, q⟩
/-- how its arguments bind (no defaults): h is «fun _ _ _ _ _ _ us hl => match us, hl with | [_, _], _ => rfl», one _ a parameter -/
theorem Fun.binds {x qual : Str} {st : Stmt} {f : Addr} {fd : FuncData} {ps : List Str} (F : Fun K x qual st f fd)
    (h : ∀ (kV doc pm : Value) (an : Option Addr) (cdv ct : Value) (us : List Value), us.length = ps.length → bindArgs (PySem.W.fnOf x qual (defArgs st) (defBody st) (defScope st) .none kV doc pm an cdv ct) ⟨us, []⟩ = pure (ps.zip us)) : Binds K fd ps [] := by
  obtain ⟨oc, od, kV, doc, pm, an, cdv, ct, osl, rfl, lk, hcd⟩ := F.ex
  exact .all (h kV doc pm an cdv ct)
theorem fun_mk {x qual : Str} {st : Stmt} {f : Addr} {oc : Value} {od an : Option Addr} {osl : Array (Option Value)} {kV doc pm cdv ct : Value} (l : K.lookup f = some ⟨oc, od, .func (PySem.W.fnOf x qual (defArgs st) (defBody st) (defScope st) .none kV doc pm an cdv ct), osl⟩)
    (c : PySem.W.codeIn K cdv qual = true) (k : PySem.W.keepIn K (.ref f) = true) : Fun K x qual st f (PySem.W.fnOf x qual (defArgs st) (defBody st) (defScope st) .none kV doc pm an cdv ct) := ⟨⟨oc, od, kV, doc, pm, an, cdv, ct, osl, rfl, l, c⟩, k⟩
end
theorem hu_of {A : Around} {k : Nat} (hr : Room k A) : A.units + 1 < cLine := Nat.lt_of_le_of_lt (Nat.add_le_add_left (by decide : 1 ≤ 64) _) hr.units
theorem small1000 {n : Nat} (h : n ≤ 1000) : n < sizeLine := Nat.lt_of_le_of_lt h (by decide)

/-! ### expressions in short: the name that stands in the i-th slot -/
section
variable {X : Cx}
theorem pv (i : Nat) {x : Str} {pos : Pos} (hN : X.N[i]? = some x := by rfl) (hv : Vis X.env.scope x := by first | exact Or.inl rfl | exact Or.inr (Or.inl rfl) | exact Or.inr (Or.inr rfl)) (hd : (x == ("__debug__" : Str)) = false := by decide)
    (hcd : (x == ("__classdict__" : Str)) = false := by decide) : PE X (.Name x pos) (tVar i) := pe_var hN hv hd hcd
end

/-! ### tests -/
theorem iteF {A B : Prop} (h : B) : if false = true then A else B := by
  rw [if_neg Bool.false_ne_true]
  exact h
theorem iteT {A B : Prop} (h : A) : if true = true then A else B := by
  rw [if_pos rfl]
  exact h
theorem ite2 {c A B : Prop} [Decidable c] (h1 : c → A) (h2 : ¬ c → B) : if c then A else B := by
  by_cases h : c
  · rw [if_pos h]
    exact h1 h
  · rw [if_neg h]
    exact h2 h
theorem iteNS {c A B : Prop} [Decidable c] (hc : c) (h : B) : if (!decide c) = true then A else B := by
  rw [decide_eq_true hc]
  exact iteF h

/-! ### heaps -/
/-- all that was tracked is as it was -/
def Same (H H' : Hp) : Prop := ∀ b o, H b = some o → H' b = some o
theorem Same.refl (H : Hp) : Same H H := fun _ _ h => h
theorem Same.trans {H H1 H2 : Hp} (a : Same H H1) (b : Same H1 H2) : Same H H2 := fun c o h => b c o (a c o h)
theorem Same.seq {K : PySem.W.Frag} {H H' : Hp} {a : Addr} {xs : List V} (e : Same H H') (h : SqL K H a xs) : SqL K H' a xs := by
  rcases h with (h | ⟨o, h⟩) | h
  · exact .inl (.inl (e _ _ h))
  · exact .inl (.inr ⟨o, e _ _ h⟩)
  · exact .inr h

end L2

set_option maxHeartbeats 4000000
namespace B
open PySem L2 PyProof.Rows
/-! ### tests that are known -/
theorem iteN1 {c A B : Prop} [Decidable c] (hc : ¬ c) (h : A) : if (!decide c) = true then A else B := by
  have e : (!decide c) = true := by rw [decide_eq_false hc]; rfl
  rw [if_pos e]; exact h
theorem iteD1 {c A B : Prop} [Decidable c] (hc : c) (h : A) : if decide c = true then A else B := by
  rw [if_pos (decide_eq_true hc)]; exact h
theorem iteD0 {c A B : Prop} [Decidable c] (hc : ¬ c) (h : B) : if decide c = true then A else B := by
  have e : ¬ decide c = true := by rw [decide_eq_false hc]; intro z; cases z
  rw [if_neg e]; exact h
theorem iteB1 {b : Bool} {A B : Prop} (hb : b = true) (h : A) : if b = true then A else B := by rw [if_pos hb]; exact h
theorem iteB0 {b : Bool} {A B : Prop} (hb : b = false) (h : B) : if b = true then A else B := by
  rw [if_neg (by rw [hb]; intro z; cases z)]; exact h
/-! ### isinstance against a built-in class -/
def kitTT (A B : String) : Option Bool := if (Value.type A == Value.type B) = true then some true else if PySem.W.kitMeta B = true then (fastBuiltinMro A).map (·.contains (.type B)) else none
/-- a plain thing's kind -/
inductive Ty (H : Hp) : V → String → Prop where
  | non : Ty H .non "NoneType"
  | bl (b : Bool) : Ty H (.bl b) "bool"
  | int (i : Int) : Ty H (.int i) "int"
  | str (x : Str) : Ty H (.str x) "str"
  | lst {a : Addr} {xs : List V} (e : H a = some (.lst xs)) : Ty H (.ref a) "list"
  | tup {a : Addr} {xs : List V} (e : H a = some (.tup xs)) : Ty H (.ref a) "tuple"
def rIsi : List V → Hp → VK → Prop := fun xs H Q => ∃ x n m b, xs = [x, .ty n] ∧ Ty H x m ∧ kitTT m n = some b ∧ Q (.bl b) H
def wholeV : V → Bool
  | .int _ => true
  | _ => false
def tupV (n : String) : Bool := n == "tuple"
/-! ### heaps: all but one list is as it was -/
structure Step (t : Addr) (H H' : Hp) : Prop where
  keep : ∀ b o, b ≠ t → H b = some o → H' b = some o
  tp : ∃ xs, H t = some (.lst xs)
  tp' : ∃ xs, H' t = some (.lst xs)
theorem Step.trans {t : Addr} {H H1 H2 : Hp} (a : Step t H H1) (b : Step t H1 H2) : Step t H H2 := ⟨fun c o n e => b.keep c o n (a.keep c o n e), a.tp, b.tp'⟩
theorem Step.up {t : Addr} {H : Hp} {xs ys : List V} (h : H t = some (.lst xs)) : Step t H (upd H t (.lst ys)) := ⟨fun c o n e => by rw [upd_ne n]; exact e, ⟨_, h⟩, ⟨_, upd_same⟩⟩
theorem same_new {H : Hp} {p : Addr} (h : H p = none) (o : HO) : Same H (upd H p o) := fun b u q => by rw [upd_ne (ne_of_none q h)]; exact q
theorem Step.same {t : Addr} {H H' : Hp} (s : Same H H') (h : ∃ xs, H t = some (.lst xs)) : Step t H H' := ⟨fun c o _ e => s c o e, h, let ⟨xs, e⟩ := h; ⟨xs, s _ _ e⟩⟩
theorem Step.new {t p : Addr} {H : Hp} (h : ∃ xs, H t = some (.lst xs)) (n : H p = none) (o : HO) : Step t H (upd H p o) := Step.same (same_new n o) h
theorem Step.refl {t : Addr} {H : Hp} (h : ∃ xs, H t = some (.lst xs)) : Step t H H := ⟨fun _ _ _ e => e, h, h⟩
/-- a thing whose kind is known, and of a tuple its parts' kinds -/
def Th (H : Hp) (v : V) : Prop := ∃ n, Ty H v n ∧ ∀ a xs, v = .ref a → H a = some (.tup xs) → ∀ x ∈ xs, ∃ m, Ty H x m
/-! ### places -/
theorem pick {xs : List V} {r : Int} (h0 : 0 ≤ r) (h1 : r < (xs.length : Int)) : ∃ v, atI xs r = some v ∧ v ∈ xs := by
  have hk : r.toNat < xs.length := by omega
  have ek : r = ((r.toNat : Nat) : Int) := by omega
  have q : atI xs ((r.toNat : Nat) : Int) = some xs[r.toNat] := atI_nat (List.getElem?_eq_getElem hk)
  rw [← ek] at q
  exact ⟨_, q, List.getElem_mem hk⟩
theorem pickI {ns : List Int} {r : Int} (h0 : 0 ≤ r) (h1 : r < (ns.length : Int)) : ∃ z : Int, atI (ns.map V.int) r = some (.int z) := by
  obtain ⟨v, h, hv⟩ := pick (xs := ns.map V.int) h0 (by rw [List.length_map]; exact h1)
  obtain ⟨z, _, rfl⟩ := List.mem_map.mp hv
  exact ⟨z, h⟩
/-! ### the tape -/
structure Tape (H : Hp) (t s : Addr) : Prop where
  ex : ∃ (ns : List Int) (p q r : Int), H t = some (.lst [.ref s, .int p, .int q, .int r]) ∧ H s = some (.lst (ns.map V.int)) ∧ s ≠ t ∧ ns.length ≤ 63 ∧ 0 ≤ p ∧ 0 ≤ q ∧ 0 ≤ r
def sp_tape (K : PySem.W.Frag) : Sp := fun vs H Q _ => ∃ (a : Addr) (ns : List Int), vs = [.ref a] ∧ SqL K H a (ns.map V.int) ∧ ∀ (t s : Addr) (H' : Hp), Same H H' → H t = none → H s = none → Tape H' t s → Q (.ref t) H'
def sp_draw : Sp := fun vs H Q _ => ∃ (t s : Addr) (m : Int), vs = [.ref t, .int m] ∧ Tape H t s ∧ 0 < m ∧ m < 1073741824 ∧ ∀ (r : Int) (xs : List V), 0 ≤ r → r < m → Tape (upd H t (.lst xs)) t s → Q (.int r) (upd H t (.lst xs))
def sp_lawT (K : PySem.W.Frag) : Sp := fun vs H Q _ => ∃ (a : Addr) (ns : List Int), vs = [.ref a] ∧ SqL K H a (ns.map V.int) ∧ ns.length ≤ 63 ∧ ∀ H', Q (.bl true) H'
/-! ### the greatest divisor, turn by turn -/
theorem gcd_turn {a b : Int} (ha : 0 ≤ a) (hb : 0 < b) : Int.gcd b (a % b) = Int.gcd a b := by
  obtain ⟨n, rfl⟩ := Int.eq_ofNat_of_zero_le ha
  obtain ⟨m, rfl⟩ := Int.eq_ofNat_of_zero_le (Int.le_of_lt hb)
  rw [← Int.natCast_emod]
  show Nat.gcd m (n % m) = Nat.gcd n m
  rw [Nat.gcd_comm m, ← Nat.gcd_rec, Nat.gcd_comm]
theorem abs_if (i : Int) : (if i < 0 then -i else i) = (i.natAbs : Int) := by split <;> omega
end B

namespace B
open PySem PySem.Spec L2 PyProof.Rows
/-! ### a thing whose whole inside is known, and its text -/
mutual
inductive Deep (K : PySem.W.Frag) (H : Hp) : V → PyData → Prop where
  | non : Deep K H .non .none
  | bl (b : Bool) : Deep K H (.bl b) (.bool b)
  | int (i : Int) : Deep K H (.int i) (.int i)
  | str (x : Str) : Deep K H (.str x) (.str x)
  | lst {a : Addr} {xs : List V} {ds : List PyData} (e : SqL K H a xs) (h : DeepAll K H xs ds) : Deep K H (.ref a) (.list ds)
  | tup {a : Addr} {xs : List V} {ds : List PyData} (e : SqT K H a xs) (h : DeepAll K H xs ds) : Deep K H (.ref a) (.tuple ds)
inductive DeepAll (K : PySem.W.Frag) (H : Hp) : List V → List PyData → Prop where
  | nil : DeepAll K H [] []
  | cons {x : V} {d : PyData} {xs : List V} {ds : List PyData} (h : Deep K H x d) (t : DeepAll K H xs ds) : DeepAll K H (x :: xs) (d :: ds)
end
mutual
theorem Deep.reads {X : Cx} {pins : List (Addr × Obj)} {σ : L2.St} {H : Hp} {s : Shared} (I : Inv X pins σ H s) : ∀ {v : V} {d : PyData} {u : Value}, Deep X.K H v d → RelV v u → ∃ as, Reads s.heap u d as
  | _, _, u, .non, r => by cases (show u = Value.none from r); exact ⟨_, .none⟩
  | _, _, u, .bl b, r => by cases (show u = Value.bool b from r); exact ⟨_, .bool b⟩
  | _, _, u, .int i, r => by obtain ⟨t, q⟩ := (show ∃ t, u = Value.int i t from r); cases q; exact ⟨_, .int i t⟩
  | _, _, u, .str x, r => by obtain ⟨t, q⟩ := (show ∃ t, u = Value.str x t from r); cases q; exact ⟨_, .str x t⟩
  | _, _, u, .lst (a := a) e h, r => by
    cases (show u = Value.ref a from r)
    obtain ⟨its, rv, ⟨o, n, ho, hc, _, hd⟩, _⟩ := I.list e
    obtain ⟨as, q⟩ := DeepAll.reads I h rv
    exact ⟨_, .list ho hc hd (by simpa using q)⟩
  | _, _, u, .tup (a := a) e h, r => by
    cases (show u = Value.ref a from r)
    obtain ⟨its, rv, ⟨o, ho, hc, n, hd⟩, _⟩ := I.tuple e
    obtain ⟨as, q⟩ := DeepAll.reads I h rv
    exact ⟨_, .tuple ho hc hd (by simpa using q)⟩
theorem DeepAll.reads {X : Cx} {pins : List (Addr × Obj)} {σ : L2.St} {H : Hp} {s : Shared} (I : Inv X pins σ H s) : ∀ {vs : List V} {ds : List PyData} {us : List Value}, DeepAll X.K H vs ds → Vals vs us → ∃ as, ReadsAll s.heap us ds as
  | _, _, _, .nil, .nil => ⟨_, .nil⟩
  | _, _, _, .cons h t, .cons r q =>
    let ⟨_, a⟩ := Deep.reads I h r
    let ⟨_, b⟩ := DeepAll.reads I t q
    ⟨_, .cons a b⟩
end
/-- what may be shown -/
structure Shows (d : PyData) : Prop where
  sh : d.showable = true
  nd : d.hasDict = false
  sz : d.shown.length ≤ sizeLine
  dp : d.depth ≤ 16
def rRepr (K : PySem.W.Frag) : List V → Hp → VK → Prop := fun xs H Q => ∃ v d, xs = [v] ∧ Deep K H v d ∧ Shows d ∧ Q (.str d.shown) H
end B

namespace B
open PySem PySem.Spec L2 PyProof.Rows
/-! ### a list's comprehension of one clause -/
/-- the block's context: its own names, the cells of the def around it; the iterator's records may turn -/
def cxC (X : Cx) (N' : List Str) (scope : Scope) (cl : List (Str × Addr)) (C : Addr) (fp : List Addr) (pins : List (Addr × Obj)) (s : Shared) (H : Hp) : Cx :=
  { X with N := N', s₀ := s, H₀ := H, env := compEnvC scope cl C X.env, outer := X.stack, stack := X.stack, ex := fp, fn := fun _ => false, pn := X.pn ++ pins, xe := fun _ _ => False }
/-- which name of the def around it stands at each place of the block (none: the block's own) -/
def FreeOk (X : Cx) (scope : Scope) (cl : List (Str × Addr)) : List Str → List (Option Nat) → Prop
  | [], [] => True
  | _ :: N, none :: r => FreeOk X scope cl N r
  | x :: N, some j :: r => X.N[j]? = some x ∧ X.env.kindOf x = some .cell ∧ (compEnvC scope cl 0 X.env).kindOf x = some .cell ∧ cl.lookup x = X.env.cells.lookup x ∧ FreeOk X scope cl N r
  | _, _ => False
def frees (src : List (Option Nat)) (σ : L2.St) : L2.St := src.map fun o => o.bind fun j => (σ[j]?).getD none
theorem FreeOk.len {X : Cx} {scope : Scope} {cl : List (Str × Addr)} : ∀ {N : List Str} {src : List (Option Nat)}, FreeOk X scope cl N src → N.length = src.length
  | [], [], _ => rfl
  | _ :: _, none :: _, h => congrArg (· + 1) (FreeOk.len (X := X) (scope := scope) (cl := cl) h)
  | _ :: _, some _ :: _, h => congrArg (· + 1) (FreeOk.len (X := X) (scope := scope) (cl := cl) h.2.2.2.2)
theorem FreeOk.at {X : Cx} {scope : Scope} {cl : List (Str × Addr)} {σ : L2.St} : ∀ {N : List Str} {src : List (Option Nat)} {i : Nat} {x : Str} {v : V}, FreeOk X scope cl N src → N[i]? = some x → (frees src σ)[i]? = some (some v) →
    ∃ j : Nat, X.N[j]? = some x ∧ σ[j]? = some (some v) ∧ X.env.kindOf x = some .cell ∧ (compEnvC scope cl 0 X.env).kindOf x = some .cell ∧ cl.lookup x = X.env.cells.lookup x
  | y :: N, none :: r, 0, x, v, h, e, q => by cases q
  | y :: N, none :: r, i + 1, x, v, h, e, q => FreeOk.at (N := N) (src := r) (i := i) h e q
  | y :: N, some j :: r, 0, x, v, h, e, q => by
    cases e
    refine ⟨j, h.1, ?_, h.2.1, h.2.2.1, h.2.2.2.1⟩
    have q' : some ((σ[j]?).getD none) = some (some v) := q
    injection q' with q'
    cases z : σ[j]? with
    | none => rw [z] at q'; cases q'
    | some o => rw [z] at q'; exact congrArg some q'
  | y :: N, some j :: r, i + 1, x, v, h, e, q => FreeOk.at (N := N) (src := r) (i := i) h.2.2.2.2 e q
/-- every name of the block that is a cell there has one -/
def CellsOk (X : Cx) (scope : Scope) (cl : List (Str × Addr)) : Prop :=
  (∀ x, ((compEnvC scope cl 0 X.env).kindOf x = some .cell ∨ (compEnvC scope cl 0 X.env).kindOf x = some .free) → ∃ c, cl.lookup x = some c) ∧ ∀ x c, cl.lookup x = some c → X.env.cells.lookup x = some c
def CellsIn (X : Cx) : List (Str × Addr) → Prop
  | [] => True
  | y :: r => X.env.cells.lookup y.1 = some y.2 ∧ CellsIn X r
theorem CellsIn.mem {X : Cx} : ∀ {cl : List (Str × Addr)}, CellsIn X cl → ∀ y ∈ cl, X.env.cells.lookup y.1 = some y.2
  | [], _, y, h => by cases h
  | z :: r, k, y, h => by
    rcases List.mem_cons.mp h with e | h
    · rw [e]; exact k.1
    · exact CellsIn.mem k.2 y h
theorem mem_of_lookup {α : Type} {x : Str} {v : α} : ∀ {l : List (Str × α)}, l.lookup x = some v → (x, v) ∈ l
  | [], h => by cases h
  | (y, w) :: r, h => by
    rw [List.lookup_cons] at h
    cases e : x == y with
    | true =>
      rw [e] at h
      have e' : x = y := eq_of_beq e
      cases h
      rw [e']; exact List.mem_cons_self
    | false =>
      rw [e] at h
      exact List.mem_cons_of_mem _ (mem_of_lookup h)
theorem cells_of {X : Cx} {scope : Scope} {cl : List (Str × Addr)} (h1 : ((relabel scope X.env).names.all fun y => !(y.2 == .cell || y.2 == .free) || (cl.lookup y.1).isSome) = true) (h2 : CellsIn X cl) : CellsOk X scope cl := by
  refine ⟨fun x h => ?_, fun x c e => h2.mem _ (mem_of_lookup e)⟩
  have h3 := List.all_eq_true.mp h1
  have key : ∀ k : NameKind, (k = .cell ∨ k = .free) → (relabel scope X.env).names.lookup x = some k → ∃ c, cl.lookup x = some c := fun k hk e => by
    have q := h3 _ (mem_of_lookup e)
    have z : (k == NameKind.cell || k == NameKind.free) = true := by rcases hk with rfl | rfl <;> rfl
    simp only [z, Bool.not_true, Bool.false_or] at q
    exact Option.isSome_iff_exists.mp q
  rcases h with h | h
  · exact key _ (.inl rfl) h
  · exact key _ (.inr rfl) h
/-- .. as the block's names stay -/
def Ext (σ σ' : L2.St) : Prop := σ'.length = σ.length ∧ ∀ (i : Nat) (v : V), σ[i]? = some (some v) → σ'[i]? = some (some v)
theorem Ext.set {σ : L2.St} {i : Nat} {v : V} (h : σ[i]? = some none) : Ext σ (σ.set i (some v)) := by
  refine ⟨List.length_set, fun j u e => ?_⟩
  have ne : i ≠ j := fun z => by subst z; rw [h] at e; cases e
  rw [List.getElem?_set_ne ne]; exact e
theorem Ext.set' {σ τ : L2.St} {i : Nat} {v : V} (e : Ext σ τ) (h : σ[i]? = some none) : Ext σ (τ.set i (some v)) := by
  refine ⟨by rw [List.length_set]; exact e.1, fun j u q => ?_⟩
  have ne : i ≠ j := fun z => by subst z; rw [h] at q; cases q
  rw [List.getElem?_set_ne ne]; exact e.2 j u q
section
variable {X : Cx} {N' : List Str} {scope : Scope} {cl : List (Str × Addr)} {src : List (Option Nat)} {pins : List (Addr × Obj)} {σ : L2.St} {H : Hp} {s : Shared} {fp : List Addr}
theorem Cx.comp_ok {C : Addr} (I : Inv X pins σ H s) (hC : s.heap.objs.size ≤ C) (hk : scope.kind = .function) (hf : ∀ b ∈ fp, FpOk X pins H b) (hfs : ∀ b ∈ fp, b < s.heap.objs.size) (hc : CellsOk X scope cl) :
    (cxC X N' scope cl C fp pins s H).Ok where
  mod := I.ok.mod
  kind := hk
  glob := I.ok.glob
  blt := I.ok.blt
  above := hC
  inj := fun x y c e1 e2 => I.ok.inj x y c (hc.2 x c e1) (hc.2 y c e2)
  has := fun x h => hc.1 x h
  cab := fun x c z => nomatch z
  hd := I.ok.hd
  frames := I.ok.frames
  stk := .inl rfl
  exf := fun b hb => ⟨fun z => by have := hfs b hb; rw [show b = C from z] at this; exact absurd (Nat.lt_of_lt_of_le this hC) (Nat.lt_irrefl _), fun x c e => (hf b hb).2.2.2.2.1 x c (hc.2 x c e)⟩
  bs := I.bs
  bsz := Nat.le_trans I.ok.bsz I.sz
  noex := fun b o e hb => by
    rcases (hf b hb).2.2.2.1 with z | z
    · exact I.ok.noex b o e z
    · rw [(I.ok.bs b o e).1] at z; cases z
  exfs := fun b hb z => by
    rcases List.mem_cons.mp (I.stkSub b z) with q | q
    · exact (hf b hb).2.1 q
    · exact (hf b hb).2.2.1 q
  funs := I.stack
  frf := I.stkFree
theorem Inv.comp {C : Addr} {h₁ : Heap} {m : Str → Option Value} {tk : Nat} (I : Inv X pins σ H s) (hC : C = s.heap.objs.size) (hns : h₁.Ns C m) (keep : ∀ b o, s.heap.get? b = some o → h₁.get? b = some o)
    (hk : scope.kind = .function) (hf : ∀ b ∈ fp, FpOk X pins H b) (hfs : ∀ b ∈ fp, b < s.heap.objs.size) (hc : CellsOk X scope cl) (hfree : FreeOk X scope cl N' src) :
    Inv (cxC X N' scope cl C fp pins s H) [] (frees src σ) H { s with heap := h₁, toks := tk } where
  ok := Cx.comp_ok I (Nat.le_of_eq hC.symm) hk hf hfs hc
  os := rfl
  bare := I.bare
  base := Un.kept keep
  loc := ⟨m, hns, fun i x v e1 e2 _ => by
    obtain ⟨j, hj, hσ, kc, kc', hl⟩ := hfree.at e1 e2
    obtain ⟨m0, hn0, hl0⟩ := I.loc
    obtain ⟨u, r, l⟩ := hl0 j x v hj hσ (Or.inr (Or.inl kc))
    rcases l with ⟨k, _⟩ | ⟨k, c, e, o, ho, hd⟩
    · rw [kc] at k; cases k
    · exact ⟨u, r, .inr ⟨.inl kc', c, hl.trans e, o, keep c o ho, hd⟩⟩⟩
  cell := fun x c e => let ⟨v, o, ho, hd⟩ := I.cell x c (hc.2 x c e); ⟨v, o, keep _ _ ho, hd⟩
  free := I.hok.fresh (Nat.le_of_eq hC.symm)
  freeC := fun x c e => I.freeC x c (hc.2 x c e)
  pin := fun p hp => by
    have hp' : p ∈ X.pn ++ pins := by
      have z : p ∈ (X.pn ++ pins) ++ [] := hp
      rw [List.append_nil] at z; exact z
    obtain ⟨e, n, ne, nf, d⟩ := I.pin p hp'
    refine ⟨keep _ _ e, n, fun z => ?_, fun z => ?_, d⟩
    · have := Heap.lt_size e; rw [show p.1 = C from z, hC] at this; exact Nat.lt_irrefl _ this
    · rcases List.mem_cons.mp (I.stkSub _ z) with q | q
      · exact ne q
      · exact nf q
  hok := I.hok.kept keep
  len := by show (frees src σ).length = N'.length; unfold frees; rw [List.length_map, hfree.len]
end
/-- the tests of a clause -/
def PTs (X : Cx) (ifs : List Expr) (t : TT) : Prop :=
  ∀ (pins : List (Addr × Obj)) (s : Shared) (σ : L2.St) (H : Hp) (Q : Bool → Hp → Prop), Inv X pins σ H s → t σ H Q →
    wpAny (model X.prog X.w) X.A (forIn ifs true fun c r => if r = true then do let ok ← isTrue c X.env (eval c X.env); pure (ForInStep.yield ok) else pure (ForInStep.yield r)) (TP X pins σ Q) X.xe s
def tYes : TT := fun _ H Q => Q true H
theorem pts_nil {X : Cx} : PTs X [] tYes := fun _ _ _ H _ I h => wpAny_tests_nil ⟨H, I, h⟩
theorem pts_one {X : Cx} {c : Expr} {t : TT} (h : PT X c t) : PTs X [c] t := fun pins s σ H Q I q => wpAny_tests_one (h pins s σ H Q I q)
section
variable {prog : Program} {w : World} {A : Around} {R : Result → Shared → Prop} {s : Shared}
theorem comp_loop {elt target iter : Expr} {ifs : List Expr} {scope : Scope} {pos : Pos} {it acc : Value} {env : Env} (I : Nat → Shared → Prop)
    (turn : ∀ n s, I n s → wpAny (model prog w) A (pyNext it) (fun r s₁ => match r with
      | none => R (.ok .next) s₁
      | some v => wpAny (model prog w) A (letOwnedTupleGo target it v) (fun _ s₁' => wpAny (model prog w) A (assign target env v) (fun _ s₂ =>
          wpAny (model prog w) A (forIn ifs true fun c r => if r = true then do let ok ← isTrue c env (eval c env); pure (ForInStep.yield ok) else pure (ForInStep.yield r)) (fun ok s₃ =>
            if ok = true then wpAny (model prog w) A (eval elt env) (fun x s₄ =>
              wpAny (model prog w) A (call (.builtin "list.append") [acc, x]) (fun _ s₅ => ∃ m, m < n ∧ I m s₅) (fun _ _ => False) s₄) (fun _ _ => False) s₃
            else ∃ m, m < n ∧ I m s₃) (fun _ _ => False) s₂) (fun _ _ => False) s₁') (fun _ _ => False) s₁) (fun _ _ => False) s)
    (n : Nat) (h : I n s) : codeAny (model prog w) A (.compLoop (.ListComp elt [⟨target, iter, ifs, 0⟩] scope pos) 0 it acc env) R s := by
  refine codeAny_loop rfl I (fun n s hI => ?_) n h
  show wpAny _ A ((compTurn (.ListComp elt [⟨target, iter, ifs, 0⟩] scope pos) 0 it acc env).onRaise (fun x => do noteFrame x env; theTreesLotGoes x)) _ _ s
  refine wpAny_noted ?_
  rw [compTurn_list]
  refine wpAny_bind (wpAny_standAt (wpAny_bind (wpAny_mono (turn n s hI) (fun r s₁ h₁ => ?_) fun _ _ h' => h'.elim)))
  cases r with
  | none => exact wpAny_pure h₁
  | some v =>
    refine wpAny_bind (wpAny_mono h₁ (fun _ s₁' h₁' => ?_) fun _ _ h' => h'.elim)
    refine wpAny_bind (wpAny_mono h₁' (fun _ s₂ h₂ => wpAny_bind (wpAny_mono h₂ (fun ok s₃ h₃ => ?_) fun _ _ h' => h'.elim)) fun _ _ h' => h'.elim)
    cases ok with
    | false => exact wpAny_pure ⟨rfl, h₃⟩
    | true =>
      exact wpAny_bind (wpAny_bind (wpAny_mono h₃ (fun x s₄ h₄ => wpAny_bind (wpAny_mono h₄ (fun _ s₅ h₅ => wpAny_pure (wpAny_pure ⟨rfl, h₅⟩)) fun _ _ h' => h'.elim)) fun _ _ h' => h'.elim))
end
/-- a block's own names: apart from all that is kept -/
structure OffC (X : Cx) (pins : List (Addr × Obj)) (H : Hp) (C : Addr) : Prop where
  no : H C = none
  lo : C ≠ X.env.locals
  fs : C ∉ X.fs
  old : X.s₀.heap.get? C = none
  ce : ∀ x c, X.env.cells.lookup x = some c → c ≠ C
  pn : ∀ p ∈ X.pn ++ pins, p.1 ≠ C
theorem OffC.turned {X : Cx} {pins : List (Addr × Obj)} {σ : L2.St} {H : Hp} {C : Addr} {s : Shared} (o : OffC X pins H C) (I : Inv X pins σ H s) {h' : Heap} (sb : Heap.SameBut C s.heap h') : Inv X pins σ H { s with heap := h' } :=
  I.turned (it := C) (t' := s.toks) (fun b u hb e => sb.extBut b u hb e) o.no o.lo (.inr o.old) o.ce o.pn
/-- the reading: D the new list, W the invariant (turn, measure, what stands in the list, heap) -/
def tComp (wi : TI) (src : List (Option Nat)) (g : TG) (tt : TT) (te : TE) : TE := fun σ H Q => wi σ H fun J H1 => ∀ D, H1 D = none → ∃ W : Nat → Nat → List V → Hp → Prop,
  (∃ m, W 0 m [] (upd H1 D (.lst []))) ∧ ∀ i m ys H, W i m ys H → (J.stop i H ∧ Q (.ref D) H) ∨ (J.go i H ∧ ∀ x H', J.yld i H x H' → g x (frees src σ) H' fun σ2 H2 => Ext (frees src σ) σ2 ∧ tt σ2 H2 fun ok H3 =>
    if ok = true then te σ2 H3 fun y H4 => H4 D = some (.lst ys) ∧ ys.length < sizeLine ∧ ∃ m', m' < m ∧ W (i + 1) m' (ys ++ [y]) (upd H4 D (.lst (ys ++ [y]))) else ∃ m', m' < m ∧ W (i + 1) m' ys H3)
section
variable {X : Cx} {N' : List Str} {scope : Scope} {cl : List (Str × Addr)} {src : List (Option Nat)} {tg iter elt : Expr} {ifs : List Expr} {wi : TI} {g : TG} {tt : TT} {te : TE} {pos : Pos}
theorem comp_run (hc : X.calm = true) (hi : PI X tg iter wi) (hg : ∀ C fp pins s H, PG (cxC X N' scope cl C fp pins s H) tg g) (ht : ∀ C fp pins s H, PTs (cxC X N' scope cl C fp pins s H) ifs tt)
    (he : ∀ C fp pins s H, PE (cxC X N' scope cl C fp pins s H) elt te) (hfree : FreeOk X scope cl N' src) (hcell : ∀ x ∈ scope.names, x.2 ≠ .cell) (hkind : scope.kind = .function) (hcl : CellsOk X scope cl)
    {RR : Value → Addr → Result → Shared → Prop} {pins : List (Addr × Obj)} {s : Shared} {σ : L2.St} {H : Hp} {Q : VK} (I : Inv X pins σ H s) (h : tComp wi src g tt te σ H Q)
    (hRR : ∀ D C H' s', Q (.ref D) H' → (∃ m, s'.heap.Ns C m) → Inv X pins σ H' s' → OffC X pins H' C → RR (.ref D) C (.ok .next) s') :
    wpAny (model X.prog X.w) X.A (eval iter X.env) (fun x s₁ => wpAny (model X.prog X.w) X.A (pyIter x) (fun itv s₂ => wpAny (model X.prog X.w) X.A (newList []) (fun acc s₃ =>
      wpAny (model X.prog X.w) X.A (newFunctionEnv scope X.env.globals cl [] X.env.qual none .none (some X.env)) (fun cenv s₄ =>
        codeAny (model X.prog X.w) X.A (.compStart (.ListComp elt [⟨tg, iter, ifs, 0⟩] scope pos) 0 itv acc { cenv with scope := relabel scope X.env }) (RR acc cenv.locals) s₄) X.xe s₃) X.xe s₂) X.xe s₁) X.xe s := by
  refine thn (hi pins s σ H _ I h) fun v s1 h1 => thn h1 fun itv s2 h2 => ?_
  obtain ⟨it, fp, tn, J, H2, e, I2, T, st2, f2, h2⟩ := h2
  subst e
  refine wpAny_newObj_type ?_ (by show 0 ≤ sizeLine; exact Nat.zero_le _)
  have hD : H2 s2.heap.objs.size = none := I2.fresh
  have I3 : Inv X pins σ (upd H2 s2.heap.objs.size (.lst [])) { s2 with heap := s2.heap.push { cls := .type "list", data := .seq ([] : List Value).toArray } } := I2.lnew (t' := s2.toks) (its := []) .nil (Nat.zero_le _)
  obtain ⟨W, ⟨m0, w0⟩, turn⟩ := h2 s2.heap.objs.size hD
  generalize hDe : s2.heap.objs.size = D at I3 turn w0 hD ⊢
  have st3 : tn 0 (s2.heap.push { cls := .type "list", data := .seq ([] : List Value).toArray }) := T.keep _ _ _ st2 fun b _ o e => Heap.get?_push_of_some _ e
  have f3 : ∀ b ∈ fp, FpOk X pins (upd H2 D (.lst [])) b ∧ b < (s2.heap.push { cls := .type "list", data := .seq ([] : List Value).toArray }).objs.size := fun b hb => by
    obtain ⟨o, e, _⟩ := T.obj _ _ st2 b hb
    have l := Heap.lt_size e
    rw [hDe] at l
    refine ⟨⟨?_, (f2 b hb).2⟩, by rw [Heap.size_push, hDe]; exact Nat.lt_succ_of_lt l⟩
    rw [upd_ne (Nat.ne_of_lt l)]; exact (f2 b hb).1
  generalize (s2.heap.push { cls := .type "list", data := .seq ([] : List Value).toArray }) = h3 at I3 st3 f3 ⊢
  refine wpAny_newFunctionEnv hcell (by intro y hy; simp at hy) (fun h₄ hns₄ hsb₄ => ?_) hkind
  have keep : ∀ b o, h3.get? b = some o → h₄.get? b = some o := fun b o e => hsb₄.extBut b o (Nat.ne_of_lt (Heap.lt_size e)) (Heap.get?_push_of_some _ e)
  have I4 := Inv.comp (C := h3.objs.size) (fp := fp) (tk := s2.toks + ([] : List (Str × Value)).length) I3 rfl hns₄ keep hkind (fun b hb => (f3 b hb).1) (fun b hb => (f3 b hb).2) hcl hfree
  have st4 : tn 0 h₄ := T.keep _ _ _ st3 fun b _ o e => keep b o e
  have fpn : ∀ b ∈ fp, (upd H2 D (.lst [])) b = none := fun b hb => (f3 b hb).1.1
  have hn3 : ∀ b ∈ fp, b ≠ h3.objs.size := fun b hb => Nat.ne_of_lt (f3 b hb).2
  have stat : ∀ {H' : Hp}, (∀ b ∈ fp, H' b = none) → ∀ b ∈ fp, FpOk (cxC X N' scope cl h3.objs.size fp pins { s2 with heap := h3 } (upd H2 D (.lst []))) [] H' b := fun hn b hb =>
    ⟨hn b hb, hn3 b hb, I4.ok.exfs b hb, .inl hb, fun x c e => (f3 b hb).1.2.2.2.2.1 x c (hcl.2 x c e), fun p hp => (f3 b hb).1.2.2.2.2.2 p (by
      have z : p ∈ (X.pn ++ pins) ++ [] := hp
      rw [List.append_nil] at z; exact z)⟩
  have back : ∀ {H' : Hp} {s' : Shared}, Inv (cxC X N' scope cl h3.objs.size fp pins { s2 with heap := h3 } (upd H2 D (.lst []))) [] (frees src σ) H' s' → (∃ m, s'.heap.Ns h3.objs.size m) ∧ Inv X pins σ H' s' ∧ OffC X pins H' h3.objs.size := fun {H' s'} I' => by
    have Ib : Inv X pins σ H' s' := I3.call' I'.os I'.base I'.hok I'.bare fun b hb => ⟨(f3 b hb).1.2.2.2.1, (f3 b hb).1.2.1, (f3 b hb).1.2.2.2.2.1, (f3 b hb).1.2.2.2.2.2⟩
    refine ⟨let ⟨m, hm, _⟩ := I'.loc; ⟨m, hm⟩, Ib, ⟨I'.free, fun z => ?_, I3.nofs (Nat.le_refl _), Heap.get?_none_of_le I3.sz, fun x c e z => ?_, fun p hp z => ?_⟩⟩
    · have := I3.lt; rw [← z] at this; exact Nat.lt_irrefl _ this
    · obtain ⟨v, o, ho, _⟩ := I3.cell x c e
      have := Heap.lt_size ho; rw [z] at this; exact Nat.lt_irrefl _ this
    · obtain ⟨e, _⟩ := I3.pin p hp
      have := Heap.lt_size e; rw [z] at this; exact Nat.lt_irrefl _ this
  have loop : codeAny (model X.prog X.w) X.A (.compLoop (.ListComp elt [⟨tg, iter, ifs, 0⟩] scope pos) 0 (.ref it) (.ref D) (compEnvC scope cl h3.objs.size X.env)) (RR (.ref D) h3.objs.size) { s2 with heap := h₄, toks := s2.toks + ([] : List (Str × Value)).length } := by
    refine comp_loop (fun n s' => ∃ i ys H', Inv (cxC X N' scope cl h3.objs.size fp pins { s2 with heap := h3 } (upd H2 D (.lst []))) [] (frees src σ) H' s' ∧ tn i s'.heap ∧ (∀ b ∈ fp, H' b = none) ∧ W i n ys H') ?_ m0 ⟨0, [], _, I4, st4, fpn, w0⟩
    rintro n s5 ⟨i, ys, H5, I5, st5, fr5, w5⟩
    rcases turn i n ys H5 w5 with ⟨stop, qn⟩ | ⟨go, step⟩
    · refine thn (T.done (cxC X N' scope cl h3.objs.size fp pins { s2 with heap := h3 } (upd H2 D (.lst []))) rfl rfl rfl hc i [] s5 _ H5 _ I5 (stat fr5) st5 stop) fun r s6 ⟨hr, I6⟩ => ?_
      subst hr
      obtain ⟨b1, b2, b3⟩ := back I6
      exact hRR D _ H5 s6 qn b1 b2 b3
    · refine thn (T.item (cxC X N' scope cl h3.objs.size fp pins { s2 with heap := h3 } (upd H2 D (.lst []))) rfl rfl rfl hc i [] s5 _ H5 _ I5 (stat fr5) st5 go) fun r s6 ⟨u, hr, h6⟩ => ?_
      subst hr
      refine thn h6 fun _ s7 ⟨x, H7, I7, r7, y7, st7, fr7⟩ => ?_
      have I7' := I7.pinned (stat fr7) (T.obj _ _ st7)
      refine thn (hg _ _ _ _ _ _ s7 _ H7 x u _ I7' r7 (step x H7 y7)) fun _ s8 ⟨σ8, H8, I8, ex8, q8⟩ => ?_
      refine thn (ht _ _ _ _ _ _ s8 σ8 H8 _ I8 q8) fun ok s9 ⟨H9, I9, q9⟩ => ?_
      have again : ∀ {ys' : List V} {Ha : Hp} {sa : Shared}, Inv (cxC X N' scope cl h3.objs.size fp pins { s2 with heap := h3 } (upd H2 D (.lst []))) ([] ++ pinsAt fp s7.heap) σ8 Ha sa → (∃ m', m' < n ∧ W (i + 1) m' ys' Ha) →
          ∃ m, m < n ∧ ∃ i ys H', Inv (cxC X N' scope cl h3.objs.size fp pins { s2 with heap := h3 } (upd H2 D (.lst []))) [] (frees src σ) H' sa ∧ tn i sa.heap ∧ (∀ b ∈ fp, H' b = none) ∧ W i m ys H' := fun {ys' Ha sa} Ia ⟨m', hm, wa⟩ => by
        refine ⟨m', hm, i + 1, ys', Ha, (Ia.unpinned).weak ex8.1.symm ex8.2, T.keep _ _ _ st7 fun b hb o e => (Ia.pin (b, o) (List.mem_append_right _ (List.mem_append_right _ (mem_pinsAt hb e)))).1, fun b hb => ?_, wa⟩
        obtain ⟨o, e, _⟩ := T.obj _ _ st7 b hb
        exact (Ia.pin (b, o) (List.mem_append_right _ (List.mem_append_right _ (mem_pinsAt hb e)))).2.1
      cases ok with
      | false => exact again I9 q9
      | true =>
        refine thn (he _ _ _ _ _ _ s9 σ8 H9 _ I9 q9) fun y s10 ⟨yv, H10, I10, r10, q10, hz, wn⟩ => ?_
        refine thn (mt_append _ s10 σ8 H10 (.ref D) [yv] (.ref D) [y] (fun _ Hz => ∃ m', m' < n ∧ W (i + 1) m' (ys ++ [yv]) Hz) I10 rfl (.cons r10 .nil) ⟨D, ys, yv, rfl, rfl, q10, hz, wn⟩) fun _ s11 ⟨_, H11, I11, _, q11⟩ => ?_
        exact again I11 q11
  exact codeAny_compStart_list loop (T.self _ 0 _ _ _ st4 loop)
theorem pe_lcomp (hc : X.calm = true) (hi : PI X tg iter wi) (hg : ∀ C fp pins s H, PG (cxC X N' scope cl C fp pins s H) tg g) (ht : ∀ C fp pins s H, PTs (cxC X N' scope cl C fp pins s H) ifs tt)
    (he : ∀ C fp pins s H, PE (cxC X N' scope cl C fp pins s H) elt te) (hfree : FreeOk X scope cl N' src) (hclos : closureFor scope X.env = pure cl) (hcell : ∀ x ∈ scope.names, x.2 ≠ .cell) (hkind : scope.kind = .function)
    (hnames : ∀ x ∈ scope.names, x.2 = .local → scope.names.lookup x.1 = some .local) (hcl : CellsOk X scope cl) (hs : ∀ x, foldedSetIterable iter X.env x = pure x := by intro _; rfl) :
    PE X (.ListComp elt [⟨tg, iter, ifs, 0⟩] scope pos) (tComp wi src g tt te) := by
  intro pins s σ H Q I h
  rw [eval_ListComp]
  refine wpAny_comprehension_free (use := none) rfl hs hclos hkind hnames (comp_run hc hi hg ht he hfree hcell hkind hcl (RR := fun acc C => compPost (model X.prog X.w) X.A X.xe none (EP X pins σ Q) acc C) I h fun D C H' s' q hm hI hb => ?_)
  obtain ⟨m, hm⟩ := hm
  exact ⟨m, hm, fun h' sb => ⟨.ref D, H', hb.turned hI sb, rfl, q⟩⟩
/-- x = [e for ..], x a local name -/
theorem ps_setC {i : Nat} {x : Str} {pos' pos2 : Pos} (hN : X.N.Nodup) (hi' : X.N[i]? = some x) (hx : Loc X.env.scope x) (hc : X.calm = true) (hi : PI X tg iter wi) (hg : ∀ C fp pins s H, PG (cxC X N' scope cl C fp pins s H) tg g) (ht : ∀ C fp pins s H, PTs (cxC X N' scope cl C fp pins s H) ifs tt)
    (he : ∀ C fp pins s H, PE (cxC X N' scope cl C fp pins s H) elt te) (hfree : FreeOk X scope cl N' src) (hclos : closureFor scope X.env = pure cl) (hcell : ∀ x ∈ scope.names, x.2 ≠ .cell) (hkind : scope.kind = .function)
    (hnames : ∀ x ∈ scope.names, x.2 = .local → scope.names.lookup x.1 = some .local) (hcl : CellsOk X scope cl) (hs : ∀ x, foldedSetIterable iter X.env x = pure x := by intro _; rfl)
    (hsw : swapsWith (.ListComp elt [⟨tg, iter, ifs, 0⟩] scope pos) (some (.Name x pos')) pos2.line X.env = pure true := by rfl) (hf : X.fn x = true ∨ X.env.scope.names.lookup x = some .local := by first | exact .inl rfl | exact .inr rfl | assumption) :
    PS X (.Assign [.Name x pos'] (.ListComp elt [⟨tg, iter, ifs, 0⟩] scope pos) pos2) (tAsg (tComp wi src g tt te) (gName i)) := by
  intro pins s σ H D I h
  rw [exec_Assign_Name_used _ _ _ _ hsw]
  refine wpAny_bind (wpAny_standAt ?_)
  show wpAny _ _ ((comprehension (.ListComp elt [⟨tg, iter, ifs, 0⟩] scope pos) scope X.env _ (newList []) false (eval iter X.env) (some (assign (.Name x pos') X.env)) >>= fun _ => pure ()) >>= fun _ => pure Flow.next) _ _ s
  refine wpAny_bind (wpAny_bind (wpAny_mono (wpAny_comprehension_free (use := some (assign (.Name x pos') X.env)) (Q := fun _ s'' => SP X pins D .next s'') rfl hs hclos hkind hnames (comp_run hc hi hg ht he hfree hcell hkind hcl (RR := fun acc C => compPost (model X.prog X.w) X.A X.xe (some (assign (.Name x pos') X.env)) (fun _ s'' => SP X pins D .next s'') acc C) I h fun E C H' s' q hm hI hb => ?_)) (fun _ s'' h'' => wpAny_pure (wpAny_pure h'')) fun _ _ e => e))
  obtain ⟨m, o, es, ep, ho, hd, r1, r2⟩ := hm
  have I' : Inv X (pins ++ [(C, o)]) σ H' s' := hI.pins_of fun p hp => by
    rcases List.mem_append.mp hp with h | h
    · exact hI.pin p (List.mem_append_right _ h)
    · rw [List.mem_singleton] at h
      rw [h]
      exact ⟨ho, hb.no, hb.lo, hb.fs, fun v z => by rw [hd] at z; cases z⟩
  refine wpAny_assign_Name (store_ok I' hN hi' hx (show RelV (.ref E) (.ref E) from rfl) (fun s'' I'' => ?_) hf)
  have hC := (I''.pin (C, o) (List.mem_append_right _ (List.mem_append_right _ List.mem_cons_self))).1
  have I3 : Inv X pins (σ.set i (some (.ref E))) H' s'' := I''.pins_of fun p hp => I''.pin p (List.mem_append_right _ (List.mem_append_left _ hp))
  exact ⟨m, ⟨o, es, ep, hC, hd, r1, r2⟩, fun h' sb => ⟨_, H', hb.turned I3 sb, q⟩⟩
end
end B

namespace B
open PySem PySem.Spec L2 PyProof.Rows
/-! ### == and != of things whose inside is known -/
def rNeD (K : PySem.W.Frag) : R2 := fun x y H Q => ∃ d d', Deep K H x d ∧ Deep K H y d' ∧ d.canLay0 = true ∧ d'.canLay0 = true ∧ d.depth ≤ 32 ∧ Q (.bl (!PyData.eqv d d')) H
theorem op_neD {X : Cx} {k : Nat} (hr : Room k X.A) : OpR X (compareOp .NotEq) (rNeD X.K) := by
  intro pins s σ H x y v u Q I rx ry h
  obtain ⟨d, d', hd, hd', c, c', dp, q⟩ := h
  obtain ⟨as, ra⟩ := Deep.reads I hd rx
  obtain ⟨bs, rb⟩ := Deep.reads I hd' ry
  exact SeqAt.compareNe_reads ra rb c c' (by have := hr.units; omega) ⟨.bl _, H, I, rfl, q⟩
/-- the answers of == against x, item by item: x itself, or by what is read -/
noncomputable def hitAt (h : Heap) (x : Value) (d : PyData) (y : Value) : Bool :=
  open Classical in if y = x then true else if z : ∃ d', d'.canLay0 = true ∧ d'.depth ≤ 32 ∧ ∃ as, Reads h y d' as then PyData.eqv z.choose d else false
/-- all items' insides are known -/
def Known (K : PySem.W.Frag) (H : Hp) (xs : List V) : Prop := ∀ x ∈ xs, ∃ d, Deep K H x d ∧ d.canLay0 = true ∧ d.depth ≤ 32
/-- x not in xs, where x is one of them -/
def rNotInS (K : PySem.W.Frag) : R2 := fun x y H Q => ∃ a p xs, x = .ref a ∧ y = .ref p ∧ SqL K H p xs ∧ V.ref a ∈ xs ∧ Known K H xs ∧ Q (.bl false) H
/-- xs.index(x), x one of them: some place with the same inside -/
def rIndexS (K : PySem.W.Frag) : V → List V → Hp → VK → Prop := fun x vs H Q => ∃ p xs a d, x = .ref p ∧ vs = [.ref a] ∧ SqL K H p xs ∧ V.ref a ∈ xs ∧ Known K H xs ∧ Deep K H (.ref a) d ∧ d.canLay0 = true ∧ d.depth ≤ 32 ∧
  ∀ (j : Nat) (v' : V), xs[j]? = some v' → (v' = .ref a ∨ ∀ d', Deep K H v' d' → d'.canLay0 = true → PyData.eqv d' d = true) → Q (.int j) H
end B

namespace B
/-! ### ratios as pairs -/
abbrev R := Int × Int
def mkR (a b : Int) : R := (a / (Int.gcd a b : Int), b / (Int.gcd a b : Int))
structure Wf (n : Nat) (r : R) : Prop where
  pos : 0 < r.2
  top : r.1.natAbs < 2 ^ n
  bot : r.2.natAbs < 2 ^ n
  cop : Int.gcd r.1 r.2 = 1
theorem Wf.mono {n m : Nat} {r : R} (h : Wf n r) (l : n ≤ m) : Wf m r := ⟨h.pos, Nat.lt_of_lt_of_le h.top (Nat.pow_le_pow_right (by decide) l), Nat.lt_of_lt_of_le h.bot (Nat.pow_le_pow_right (by decide) l), h.cop⟩
theorem gcd_posR {a b : Int} (hb : 0 < b) : 0 < (Int.gcd a b : Int) := by
  have h : Int.gcd a b ≠ 0 := fun z => by
    have := (Int.gcd_eq_zero_iff.mp z).2
    omega
  omega
theorem natAbs_div_le (a : Int) {g : Int} (hg : 0 < g) : (a / g).natAbs ≤ a.natAbs := by
  have h1 := Int.ediv_mul_le a (show g ≠ 0 by omega)
  have h2 := Int.lt_ediv_add_one_mul_self a hg
  rcases Int.le_total 0 a with h | h
  · have h3 := Int.ediv_nonneg h (show 0 ≤ g by omega)
    have h4 : a / g ≤ a / g * g := by
      have : a / g * 1 ≤ a / g * g := Int.mul_le_mul_of_nonneg_left (by omega) h3
      omega
    omega
  · have h3 : a / g ≤ 0 := by
      have := Int.ediv_le_ediv hg h
      rw [Int.zero_ediv] at this; exact this
    have h5 : a ≤ a / g := by
      have : a / 1 ≤ a / g := by
        have q : (a / g + 1) * g ≤ (a / g + 1) * 1 ∨ 0 < a / g + 1 := by
          rcases Int.le_total (a / g + 1) 0 with z | z
          · left
            have := Int.mul_le_mul_of_nonneg_left (a := 1) (b := g) (c := -(a / g + 1)) (by omega) (by omega)
            have e1 : -(a / g + 1) * 1 = -((a / g + 1) * 1) := Int.neg_mul _ _
            have e2 : -(a / g + 1) * g = -((a / g + 1) * g) := Int.neg_mul _ _
            omega
          · rcases Int.lt_or_eq_of_le z with z | z
            · right; exact z
            · left; rw [← z]; simp
        rw [Int.ediv_one]
        rcases q with q | q
        · omega
        · omega
      rw [Int.ediv_one] at this; exact this
    omega
theorem mkR_wf {n : Nat} {a b : Int} (hb : 0 < b) (h1 : a.natAbs < 2 ^ n) (h2 : b.natAbs < 2 ^ n) : Wf n (mkR a b) :=
  ⟨Int.ediv_pos_of_pos_of_dvd hb (Int.le_of_lt (gcd_posR hb)) (Int.gcd_dvd_right a b), Nat.lt_of_le_of_lt (natAbs_div_le _ (gcd_posR hb)) h1, Nat.lt_of_le_of_lt (natAbs_div_le _ (gcd_posR hb)) h2, Int.gcd_ediv_gcd_ediv_gcd (by have := gcd_posR (a := a) hb; omega)⟩
def plusR (r q : R) : R := mkR (r.1 * q.2 + q.1 * r.2) (r.2 * q.2)
def timesR (r q : R) : R := mkR (r.1 * q.1) (r.2 * q.2)
def lessR (r q : R) : Bool := decide (r.1 * q.2 < q.1 * r.2)
theorem mul_lt {x y : Int} {n m : Nat} (h1 : x.natAbs < 2 ^ n) (h2 : y.natAbs < 2 ^ m) : (x * y).natAbs < 2 ^ (n + m) := by
  rw [Int.natAbs_mul, Nat.pow_add]
  exact Nat.mul_lt_mul'' h1 h2
theorem plus_top {n m : Nat} {r q : R} (h : Wf n r) (k : Wf m q) : (r.1 * q.2 + q.1 * r.2).natAbs < 2 ^ (n + m + 1) := by
  have a := mul_lt h.top k.bot
  have b := mul_lt k.top h.bot
  rw [Nat.add_comm m n] at b
  have e : 2 ^ (n + m + 1) = 2 * 2 ^ (n + m) := by rw [Nat.pow_succ, Nat.mul_comm]
  have := Int.natAbs_add_le (r.1 * q.2) (q.1 * r.2)
  omega
theorem plus_wf {n m : Nat} {r q : R} (h : Wf n r) (k : Wf m q) : Wf (n + m + 1) (plusR r q) :=
  mkR_wf (Int.mul_pos h.pos k.pos) (plus_top h k) (Nat.lt_of_lt_of_le (mul_lt h.bot k.bot) (Nat.pow_le_pow_right (by decide) (Nat.le_succ _)))
theorem times_wf {n m : Nat} {r q : R} (h : Wf n r) (k : Wf m q) : Wf (n + m) (timesR r q) :=
  mkR_wf (Int.mul_pos h.pos k.pos) (mul_lt h.top k.top) (mul_lt h.bot k.bot)
end B

namespace B
open PySem L2 PyProof.Rows
/-! ### big products and quotients -/
def CBig (i j : Int) : Prop := i.natAbs < 2 ^ 4000 ∧ j.natAbs < 2 ^ 4000
def CQuo (_ j : Int) : Prop := 0 < j ∧ j.natAbs < 2 ^ 4000
theorem bits_of {i : Int} (h : i.natAbs < 2 ^ 4000) : Builtin.Int.intBits i ≤ 2 ^ 20 := by
  unfold Builtin.Int.intBits
  split
  · exact Nat.zero_le _
  · rename_i z
    have hz : i.natAbs ≠ 0 := fun q => z (by have : i = 0 := by omega
                                             rw [this]; rfl)
    have := (Nat.log2_lt hz).mpr h
    have e : (2 : Nat) ^ 20 = 1048576 := by decide
    omega
section
variable {X : Cx}
theorem op_mulB : OpR X (binaryOp .Mult) (rI CBig fun i j => .int (i * j)) := opI fun _ _ _ _ _ _ _ hc q => mul_int q (IntMulOk.of_bits (bits_of hc.1) (bits_of hc.2))
theorem op_quo : OpR X (binaryOp .FloorDiv) (rI CQuo fun i j => .int (i / j)) := opI fun i j _ _ _ _ _ hc q => by
  have h1 : (0 : Int) < j := hc.1
  have h2 : j.natAbs < 2 ^ 4000 := hc.2
  refine floordiv_int (by omega) (by rw [Int.fdiv_eq_ediv_of_nonneg i (by omega)]; exact q) (.inl (PyProof.noPylong_of_log2 ?_))
  exact Nat.lt_trans ((Nat.log2_lt (show j.natAbs ≠ 0 by omega)).mpr h2) (by decide)
end
/-! ### what stays of tuples -/
def Tst (K : PySem.W.Frag) (H H' : Hp) : Prop := ∀ p xs, SqT K H p xs → SqT K H' p xs
theorem Tst.trans {K : PySem.W.Frag} {H H1 H2 : Hp} (a : Tst K H H1) (b : Tst K H1 H2) : Tst K H H2 := fun p xs h => b p xs (a p xs h)
theorem Tst.same {K : PySem.W.Frag} {H H' : Hp} (s : Same H H') : Tst K H H' := fun p xs h => by
  rcases h with (h | ⟨o, h⟩) | h
  · exact .inl (.inl (s _ _ h))
  · exact .inl (.inr ⟨o, s _ _ h⟩)
  · exact .inr h
theorem Tst.step {K : PySem.W.Frag} {t : Addr} {H H' : Hp} (S : Step t H H') : Tst K H H' := fun p xs h => by
  obtain ⟨ys, ht⟩ := S.tp
  rcases h with (h | ⟨o, h⟩) | h
  · exact .inl (.inl (S.keep _ _ (fun z => by subst z; rw [h] at ht; cases ht) h))
  · exact .inl (.inr ⟨o, S.keep _ _ (fun z => by subst z; rw [h] at ht; cases ht) h⟩)
  · exact .inr h
theorem Tst.up {K : PySem.W.Frag} {H : Hp} {l : Addr} {xs : List V} (h : H l = some (.lst xs)) (ys : List V) : Tst K H (upd H l (.lst ys)) := Tst.step (Step.up h)
/-- the value is the ratio r -/
def RV (K : PySem.W.Frag) (H : Hp) (v : V) (r : R) : Prop := ∃ p, v = .ref p ∧ SqT K H p [.int r.1, .int r.2]
theorem RV.mono {K : PySem.W.Frag} {H H' : Hp} {v : V} {r : R} (h : RV K H v r) (t : Tst K H H') : RV K H' v r := let ⟨p, e, q⟩ := h; ⟨p, e, t _ _ q⟩
theorem RV.of {K : PySem.W.Frag} {H : Hp} {p : Addr} {a b : Int} (h : H p = some (.tup [.int a, .int b])) : RV K H (.ref p) (a, b) := ⟨p, rfl, SqT.of h⟩
/-- the values are the ratios rs -/
def RVs (K : PySem.W.Frag) (H : Hp) (xs : List V) (rs : List R) : Prop := xs.length = rs.length ∧ ∀ (i : Nat) (x : V) (r : R), xs[i]? = some x → rs[i]? = some r → RV K H x r
theorem RVs.at {K : PySem.W.Frag} {H : Hp} {xs : List V} {rs : List R} {i : Nat} {x : V} (h : RVs K H xs rs) (e : xs[i]? = some x) : ∃ r, rs[i]? = some r ∧ RV K H x r := by
  have hi := (List.getElem?_eq_some_iff.mp e).1
  have hj : i < rs.length := by rw [← h.1]; exact hi
  exact ⟨rs[i], List.getElem?_eq_getElem hj, h.2 i x _ e (List.getElem?_eq_getElem hj)⟩
/-- r to k -/
def powR (r : R) : Nat → R
  | 0 => (1, 1)
  | k + 1 => timesR (powR r k) r
theorem zero_wf : Wf 1 (0, 1) := ⟨by decide, by decide, by decide, by decide⟩
def sumR (rs : List R) : R := rs.foldl plusR (0, 1)
/-- a ratio's data -/
def dR (r : R) : PyData := .tuple [.int r.1, .int r.2]
theorem RV.deep {K : PySem.W.Frag} {H : Hp} {v : V} {r : R} (h : RV K H v r) : Deep K H v (dR r) := by
  obtain ⟨p, rfl, q⟩ := h
  exact .tup q (.cons (.int _) (.cons (.int _) .nil))
theorem dR_lay (r : R) : (dR r).canLay0 = true := rfl
theorem dR_depth (r : R) : (dR r).depth ≤ 32 := by show max 0 (max 0 0) + 1 ≤ 32; decide
theorem eqv_same (r : R) : PyData.eqv (dR r) (dR r) = true := by
  show (r.1 == r.1 && (r.2 == r.2 && true)) = true
  simp
end B
namespace B
open PySem L2 PyProof.Rows
def dL (rs : List R) : PyData := .list (rs.map dR)
/-- over a list or a tuple -/
def iSeq (K : PySem.W.Frag) (tl : TE) : TI := fun σ H R => tl σ H fun x H1 => (∃ a, x = .ref a ∧ (∃ xs, SqL K H1 a xs) ∧ R (Itl K a) H1) ∨ (∃ a, x = .ref a ∧ (∃ xs, SqT K H1 a xs) ∧ R (Itt K a) H1)
theorem pi_seq {X : Cx} {tg l : Expr} {tl : TE} (hl : PE X l tl) : PI X tg l (iSeq X.K tl) := by
  intro pins s σ H R I h
  refine thn (hl pins s σ H _ I h) fun v s1 ⟨x, H1, I1, r1, q1⟩ => ?_
  rcases q1 with ⟨a, e, ⟨xs, hq⟩, q⟩ | ⟨a, e, ⟨xs, hq⟩, q⟩
  · subst e; cases r1
    obtain ⟨its, rv, p, hz⟩ := I1.list hq
    refine wpAny_pyIter_list p.isList ?_
    refine ⟨s1.heap.objs.size, [s1.heap.objs.size], _, _, H1, rfl, I1.kept (t' := s1.toks) fun b o e => Heap.get?_push_of_some _ e, turn_list a _, ⟨_, Heap.get?_push_size _ rfl, rfl, rfl⟩, fun b hb => ?_, q⟩
    have e : b = s1.heap.objs.size := by simpa using hb
    subst e
    exact I1.fpOk (Nat.le_refl _) (I1.hok.fresh (Nat.le_refl _))
  · subst e; cases r1
    obtain ⟨its, rv, p, hz⟩ := I1.tuple hq
    refine wpAny_pyIter_tuple (show s1.heap.IsTuple a its.toArray from p) ?_
    refine ⟨s1.heap.objs.size, [s1.heap.objs.size], _, _, H1, rfl, I1.kept (t' := s1.toks) fun b o e => Heap.get?_push_of_some _ e, turn_tuple a _, ⟨_, Heap.get?_push_size _ rfl, rfl, rfl⟩, fun b hb => ?_, q⟩
    have e : b = s1.heap.objs.size := by simpa using hb
    subst e
    exact I1.fpOk (Nat.le_refl _) (I1.hok.fresh (Nat.le_refl _))
end B

namespace B
/-! ### ratios in lowest terms -/
structure Red (r : R) : Prop where
  pos : 0 < r.2
  cop : Int.gcd r.1 r.2 = 1
theorem mkR_red {a b : Int} (hb : 0 < b) : Red (mkR a b) :=
  ⟨Int.ediv_pos_of_pos_of_dvd hb (Int.le_of_lt (gcd_posR hb)) (Int.gcd_dvd_right a b), Int.gcd_ediv_gcd_ediv_gcd (by have := gcd_posR (a := a) hb; omega)⟩
theorem mkR_uniq {a b x y : Int} (hb : 0 < b) (hy : 0 < y) (g : Int.gcd x y = 1) (e : x * b = a * y) : mkR a b = (x, y) := by
  have h1 : Int.gcd (a * y) (b * y) = Int.gcd a b * y.natAbs := Int.gcd_mul_right a y b
  have h2 : Int.gcd (x * b) (y * b) = Int.gcd x y * b.natAbs := Int.gcd_mul_right x b y
  rw [e, Int.mul_comm y b, h1, g, Nat.one_mul] at h2
  have h3 : (Int.gcd a b : Int) * y = b := by
    have z : ((Int.gcd a b * y.natAbs : Nat) : Int) = (b.natAbs : Int) := congrArg _ h2
    rw [Int.natCast_mul, Int.natAbs_of_nonneg (by omega), Int.natAbs_of_nonneg (by omega)] at z
    exact z
  have gp := gcd_posR (a := a) hb
  have h4 : a = x * (Int.gcd a b : Int) := by
    have z : x * (Int.gcd a b : Int) * y = a * y := by rw [Int.mul_assoc, h3]; exact e
    exact (Int.eq_of_mul_eq_mul_right (by omega) z).symm
  unfold mkR
  generalize (Int.gcd a b : Int) = G at h3 h4 gp
  subst h4
  subst h3
  rw [Int.mul_ediv_cancel _ (by omega), Int.mul_ediv_cancel_left _ (by omega)]
theorem cop_left {a b c : Int} (h : Int.gcd a b = 1) (d : c ∣ a) : Int.gcd c b = 1 :=
  Int.gcd_eq_one_iff.mpr fun z h1 h2 => Int.gcd_eq_one_iff.mp h z (Int.dvd_trans h1 d) h2
theorem cop_right {a b c : Int} (h : Int.gcd a b = 1) (d : c ∣ b) : Int.gcd a c = 1 := by
  rw [Int.gcd_comm]
  exact cop_left (by rw [Int.gcd_comm]; exact h) d
theorem cop_mul {a b c : Int} (h : Int.gcd a b = 1) (k : Int.gcd a c = 1) : Int.gcd a (b * c) = 1 := by
  rw [Int.gcd_mul_right_right_of_gcd_eq_one h]; exact k
theorem cop_mulL {a b c : Int} (h : Int.gcd a c = 1) (k : Int.gcd b c = 1) : Int.gcd (a * b) c = 1 := by
  rw [Int.gcd_comm]
  exact cop_mul (by rw [Int.gcd_comm]; exact h) (by rw [Int.gcd_comm]; exact k)
/-- a divisor and what is left -/
theorem gcd_parts {a b : Int} (hb : 0 < b) : ∃ g x y : Int, (Int.gcd a b : Int) = g ∧ 0 < g ∧ a = g * x ∧ b = g * y ∧ Int.gcd x y = 1 := by
  have gp := gcd_posR (a := a) hb
  obtain ⟨x, hx⟩ := Int.gcd_dvd_left a b
  obtain ⟨y, hy⟩ := Int.gcd_dvd_right a b
  refine ⟨_, x, y, rfl, gp, hx, hy, ?_⟩
  have z := Int.gcd_ediv_gcd_ediv_gcd (i := a) (j := b) (by omega)
  have e1 : a / (Int.gcd a b : Int) = x := by
    conv => lhs; lhs; rw [hx]
    exact Int.mul_ediv_cancel_left _ (by omega)
  have e2 : b / (Int.gcd a b : Int) = y := by
    conv => lhs; lhs; rw [hy]
    exact Int.mul_ediv_cancel_left _ (by omega)
  rw [e1, e2] at z
  exact z
theorem pos_of {g y b : Int} (hb : 0 < b) (hg : 0 < g) (e : b = g * y) : 0 < y := by
  rcases Int.lt_or_le 0 y with h | h
  · exact h
  · have := Int.mul_le_mul_of_nonneg_left h (Int.le_of_lt hg)
    rw [Int.mul_zero] at this
    omega
/-- the sum as it is reckoned by the divisor of the bottoms -/
def plusG (r q : R) : R :=
  let d : Int := (Int.gcd r.2 q.2 : Nat)
  let t := r.1 * (q.2 / d) + q.1 * (r.2 / d)
  let e : Int := (Int.gcd t d : Nat)
  (t / e, r.2 / d * (q.2 / e))
theorem plusG_eq {r q : R} (hr : Red r) (hq : Red q) : plusG r q = plusR r q := by
  obtain ⟨d, u, v, e0, dp, e1, e2, cuv⟩ := gcd_parts (a := r.2) hq.pos
  have up := pos_of hr.pos dp e1
  have vp := pos_of hq.pos dp e2
  obtain ⟨e, x, w, f0, ep, f1, f2, cxw⟩ := gcd_parts (a := r.1 * v + q.1 * u) dp
  have wp := pos_of dp ep f2
  have du : r.2 / d = u := by rw [e1]; exact Int.mul_ediv_cancel_left _ (by omega)
  have dv : q.2 / d = v := by rw [e2]; exact Int.mul_ediv_cancel_left _ (by omega)
  have te : (r.1 * v + q.1 * u) / e = x := by rw [f1]; exact Int.mul_ediv_cancel_left _ (by omega)
  have qe : q.2 / e = w * v := by rw [e2, f2, Int.mul_assoc]; exact Int.mul_ediv_cancel_left _ (by omega)
  have c1 : Int.gcd r.1 u = 1 := cop_right hr.cop ⟨d, by rw [e1, Int.mul_comm]⟩
  have c2 : Int.gcd q.1 v = 1 := cop_right hq.cop ⟨d, by rw [e2, Int.mul_comm]⟩
  have xd : x ∣ (r.1 * v + q.1 * u) := ⟨e, by rw [f1, Int.mul_comm]⟩
  have t1 : Int.gcd (r.1 * v + q.1 * u) u = 1 := by
    rw [Int.gcd_comm, Int.gcd_add_mul_right_right, Int.gcd_comm]
    exact cop_mulL c1 (by rw [Int.gcd_comm]; exact cuv)
  have t2 : Int.gcd (r.1 * v + q.1 * u) v = 1 := by
    rw [Int.add_comm, Int.gcd_comm, Int.gcd_add_mul_right_right, Int.gcd_comm]
    exact cop_mulL c2 cuv
  have cx : Int.gcd x (u * (w * v)) = 1 := cop_mul (cop_left t1 xd) (cop_mul cxw (cop_left t2 xd))
  have z : plusG r q = (x, u * (w * v)) := by
    unfold plusG
    simp only [e0, du, dv, f0, te, qe]
  rw [z]
  unfold plusR
  refine (mkR_uniq (Int.mul_pos hr.pos hq.pos) (Int.mul_pos up (Int.mul_pos wp vp)) cx ?_).symm
  have k : r.1 * q.2 + q.1 * r.2 = d * (e * x) := by
    rw [e1, e2, ← f1, Int.mul_add]
    rw [Int.mul_left_comm r.1 d v, Int.mul_left_comm q.1 d u]
  rw [k, e1, e2]
  have k2 : d * u * (d * v) = d * u * (e * w * v) := by rw [← f2]
  rw [k2]
  ac_rfl
def timesG (r q : R) : R :=
  let l : Int := (Int.gcd r.1 q.2 : Nat)
  let m : Int := (Int.gcd q.1 r.2 : Nat)
  (r.1 / l * (q.1 / m), r.2 / m * (q.2 / l))
theorem timesG_eq {r q : R} (hr : Red r) (hq : Red q) : timesG r q = timesR r q := by
  obtain ⟨l, a, b, e0, lp, e1, e2, cab⟩ := gcd_parts (a := r.1) hq.pos
  obtain ⟨m, c, d, f0, mp, f1, f2, ccd⟩ := gcd_parts (a := q.1) hr.pos
  have bp := pos_of hq.pos lp e2
  have dp := pos_of hr.pos mp f2
  have z : timesG r q = (a * c, d * b) := by
    unfold timesG
    simp only [e0, f0]
    rw [show r.1 / l = a by rw [e1]; exact Int.mul_ediv_cancel_left _ (by omega), show q.2 / l = b by rw [e2]; exact Int.mul_ediv_cancel_left _ (by omega),
      show q.1 / m = c by rw [f1]; exact Int.mul_ediv_cancel_left _ (by omega), show r.2 / m = d by rw [f2]; exact Int.mul_ediv_cancel_left _ (by omega)]
  have cad : Int.gcd a d = 1 := cop_left (cop_right hr.cop ⟨m, by rw [f2, Int.mul_comm]⟩) ⟨l, by rw [e1, Int.mul_comm]⟩
  have ccb : Int.gcd c b = 1 := cop_left (cop_right hq.cop ⟨l, by rw [e2, Int.mul_comm]⟩) ⟨m, by rw [f1, Int.mul_comm]⟩
  rw [z]
  unfold timesR
  refine (mkR_uniq (Int.mul_pos hr.pos hq.pos) (Int.mul_pos dp bp) (cop_mul (cop_mulL cad ccd) (cop_mulL cab ccb)) ?_).symm
  rw [e1, e2, f1, f2]
  ac_rfl
theorem plus_red {r q : R} (hr : Red r) (hq : Red q) : Red (plusR r q) := mkR_red (Int.mul_pos hr.pos hq.pos)
end B

namespace B
open PySem L2 PyProof.Rows
/-! ### quotients by numbers of either sign -/
def CQuoN (_ j : Int) : Prop := j ≠ 0 ∧ j.natAbs < 2 ^ 4000
/-- the ratio of any two numbers, the second not nought -/
def mkS (a b : Int) : R := if b < 0 then mkR (-a) (-b) else mkR a b
def minusR (r q : R) : R := mkR (r.1 * q.2 - q.1 * r.2) (r.2 * q.2)
def overR (r q : R) : R := mkS (r.1 * q.2) (r.2 * q.1)
/-! ### lists and tuples of short things, shown -/
structure Small (d : PyData) : Prop where
  sh : d.showable = true
  nd : d.hasDict = false
  sz : d.shown.length ≤ 5000
  dp : d.depth ≤ 8
end B

namespace B
theorem mkR_cross {a b : Int} (hb : 0 < b) : (mkR a b).1 * b = a * (mkR a b).2 := by
  obtain ⟨g, x, y, _, gp, e1, e2, c⟩ := gcd_parts (a := a) hb
  have yp := pos_of hb gp e2
  have e : x * b = a * y := by rw [e1, e2]; ac_rfl
  rw [mkR_uniq hb yp c e]
  exact e
end B

namespace B
open PySem PySem.Spec L2 PyProof.Rows
/-! ### several records of ours turn at once -/
theorem turnedL {X : Cx} {pins : List (Addr × Obj)} {σ : L2.St} {H : Hp} {s : Shared} {h' : Heap} {t' : Nat} {fp : List Addr} (I : Inv X pins σ H s)
    (k : ∀ b o, b ∉ fp → s.heap.get? b = some o → h'.get? b = some o) (hf : ∀ b ∈ fp, FpOk X pins H b) : Inv X pins σ H { s with heap := h', toks := t' } := by
  have off : ∀ b u, H b = some u → b ∉ fp := fun b u e z => by rw [(hf b z).1] at e; cases e
  refine I.step (g' := s.gens) (d' := s.drawn) (ch := fp) (fun b hb => ?_) (fun b o _ _ hc e _ => k b o hc e) (fun b o _ _ hc e _ => ⟨o.slots, k b o hc e⟩) (fun _ _ _ _ n => n)
    (fun b o hc e => ⟨o, k b o hc e⟩) (fun _ _ e => e) (fun _ _ _ e => e) (fun b ps e => ⟨#[], by rw [e]; simp⟩) (fun m hm => ?_) (fun b u e => ?_) I.bare
  · obtain ⟨_, f1, _, f3, f4, f5⟩ := hf b hb
    exact ⟨f3, f1, f4, f5⟩
  · obtain ⟨o, es, ep, ho, r⟩ := hm
    exact ⟨o, es, ep, k _ o (fun z => (hf _ z).2.1 rfl) ho, r⟩
  · refine (I.hok b u e).stay (fun c v hc q => k c v ?_ q) (fun _ q => q) fun _ _ q => q
    rcases hc with z | z
    · rw [z]; exact off b u e
    · exact off c _ z
section
variable {prog : Program} {w : World} {A : Around} {E : Value → Shared → Prop} {s : Shared}
/-! ### a tuple's iterator, drawn from by zip and its like -/
theorem nx_item {j t : Addr} {k : Nat} {ys : Array Value} {v : Value} {G : Value → Shared → Prop} (a : s.heap.IsTupleIter j t k) (b : s.heap.IsTuple t ys) (c : ys[k]? = some v)
    (g : ∀ h', h'.IsTupleIter j t (k + 1) → Heap.SameBut j s.heap h' → G v { s with heap := h' }) : wpAny (model prog w) A (Builtin.SmallTypes.nextOf (.ref j)) G E s := by
  obtain ⟨o, e1, e2, e3⟩ := id a
  obtain ⟨q, f1, _, n, f2⟩ := b
  unfold Builtin.SmallTypes.nextOf
  refine wpAny_bind (wpAny_callSpecial?_slot (name := Str.ofString "__next__") a.typeIs F.slot_tuple_iterator_next
    (wpAny_call_entry F.slot_tuple_iterator_next a.typeIs F.entry_tuple_iterator_next ?_ (F.args_tuple_iterator_next_1 _)))
  show wpAny (model prog w) _ (field (.ref j) 0 >>= _) _ _ s
  refine wpAny_bind (wpAny_field e1 e3 (x := .ref t) rfl ?_)
  show wpAny (model prog w) _ (if (Value.ref t == Value.none) = true then _ else _) _ _ s
  rw [if_neg (fun z => Bool.noConfusion z : ¬ ((Value.ref t == Value.none) = true))]
  show wpAny (model prog w) _ (field (.ref j) 1 >>= _) _ _ s
  refine wpAny_bind (wpAny_field e1 e3 (x := .int k 0) rfl ?_)
  show wpAny (model prog w) _ (seqItems? (.ref t) >>= _) _ _ s
  refine wpAny_bind (wpAny_seqItems f1 f2 ?_)
  simp only [c, Int.toNat_natCast]
  refine wpAny_bind (wpAny_setField e1 e3 (by simp) (wpAny_pure ⟨v, rfl, wpAny_pure (g _ ?_ (Heap.SameBut.update ..))⟩))
  refine ⟨_, Heap.get?_update_self _ e1 (Obj.isFreed_of_fields (Obj.data_mapFields e3 _)), (Obj.cls_mapFields ..).trans e2, ?_⟩
  rw [Obj.data_mapFields e3]; simp [rawInt]
theorem nx_end {j t : Addr} {k : Nat} {ys : Array Value} {G : Value → Shared → Prop} (hh : A.handled = none) (a : s.heap.IsTupleIter j t k) (b : s.heap.IsTuple t ys) (c : ys[k]? = none)
    (g : ∀ h' e, Heap.ExtBut j s.heap h' → (∃ o, h'.get? e = some o ∧ o.cls = .type "StopIteration") → E (.ref e) { s with heap := h' }) : wpAny (model prog w) A (Builtin.SmallTypes.nextOf (.ref j)) G E s := by
  obtain ⟨o, e1, e2, e3⟩ := id a
  obtain ⟨q, f1, _, n, f2⟩ := b
  unfold Builtin.SmallTypes.nextOf
  refine wpAny_bind (wpAny_callSpecial?_slot (name := Str.ofString "__next__") a.typeIs F.slot_tuple_iterator_next
    (wpAny_call_entry F.slot_tuple_iterator_next a.typeIs F.entry_tuple_iterator_next ?_ (F.args_tuple_iterator_next_1 _)))
  show wpAny (model prog w) _ (field (.ref j) 0 >>= _) _ _ s
  refine wpAny_bind (wpAny_field e1 e3 (x := .ref t) rfl ?_)
  show wpAny (model prog w) _ (if (Value.ref t == Value.none) = true then _ else _) _ _ s
  rw [if_neg (fun z => Bool.noConfusion z : ¬ ((Value.ref t == Value.none) = true))]
  show wpAny (model prog w) _ (field (.ref j) 1 >>= _) _ _ s
  refine wpAny_bind (wpAny_field e1 e3 (x := .int k 0) rfl ?_)
  show wpAny (model prog w) _ (seqItems? (.ref t) >>= _) _ _ s
  refine wpAny_bind (wpAny_seqItems f1 f2 ?_)
  simp only [c, Int.toNat_natCast]
  refine wpAny_bind (wpAny_rule (wpAny_bind (wpAny_setField e1 e3 (by simp) ?_)))
  show wpAny (model prog w) _ (newExc (.type "StopIteration") [] >>= _) _ _ _
  refine wpAny_bind ?_
  simp only [newTuple, newExc]
  refine wpAny_bind (wpAny_newObj_type ?_ (by size_fits))
  refine wpAny_bind (m := firstArgMember _ _) (wpAny_of_eq (a := Value.none) (by first | rfl | (simp only [firstArgMember] <;> rfl)) ?_)
  refine wpAny_newObj_type ?_ (by size_fits)
  simp only [raiseNew]
  refine wpAny_bind (wpAny_handled ?_)
  first | rw [hh] | rw [show A.in1.handled = none from hh]
  refine wpAny_bind (wpAny_pure (wpAny_throw (g _ _ (((Heap.SameBut.update ..).extBut.push _).push _) ⟨_, Heap.get?_push_size _ rfl, rfl⟩)))
/-! ### zip's turn, whatever it draws from -/
structure Five (z TI TO i1 i2 : Addr) : Prop where
  a1 : TI ≠ z
  a2 : TO ≠ z
  a3 : i1 ≠ z
  a4 : i2 ≠ z
  a5 : TI ≠ TO
  a6 : TI ≠ i1
  a7 : TI ≠ i2
  a8 : TO ≠ i1
  a9 : TO ≠ i2
  b1 : i1 ≠ i2
end
end B

namespace B
open PySem PySem.Spec L2 PyProof.Rows
/-- .. and a new object comes to be known -/
theorem turnedN {X : Cx} {pins : List (Addr × Obj)} {σ : L2.St} {H : Hp} {s : Shared} {h' : Heap} {t' : Nat} {fp : List Addr} {p : Addr} {v : HO} (I : Inv X pins σ H s)
    (k : ∀ b o, b ∉ fp → s.heap.get? b = some o → h'.get? b = some o) (hf : ∀ b ∈ fp, FpOk X pins H b) (hp : s.heap.objs.size ≤ p) (new : ObjOk X.prog X.w (upd H p v) h' p v) :
    Inv X pins σ (upd H p v) { s with heap := h', toks := t' } := by
  have off : ∀ b u, H b = some u → b ∉ fp := fun b u e z => by rw [(hf b z).1] at e; cases e
  have hn : H p = none := I.hok.fresh hp
  have old : ∀ b u, H b = some u → upd H p v b = some u := fun b u e => by rw [upd_ne (ne_of_none e hn)]; exact e
  refine I.step (g' := s.gens) (d' := s.drawn) (ch := fp) (fun b hb => ?_) (fun b o _ _ hc e _ => k b o hc e) (fun b o _ _ hc e _ => ⟨o.slots, k b o hc e⟩) (fun b o _ e n => ?_)
    (fun b o hc e => ⟨o, k b o hc e⟩) (fun b xs e => old b _ e) (fun b o u e => old b _ e) (fun b ps e => ⟨#[], by rw [old b _ e]; simp⟩) (fun m hm => ?_) (fun b u e => ?_) I.bare
  · obtain ⟨_, f1, _, f3, f4, f5⟩ := hf b hb
    exact ⟨f3, f1, f4, f5⟩
  · rw [upd_ne (Nat.ne_of_lt (Nat.lt_of_lt_of_le (Heap.lt_size e) hp))]; exact n
  · obtain ⟨o, es, ep, ho, r⟩ := hm
    exact ⟨o, es, ep, k _ o (fun z => (hf _ z).2.1 rfl) ho, r⟩
  · by_cases hb : b = p
    · subst hb; rw [upd_same] at e; cases e; exact new
    · rw [upd_ne hb] at e
      refine (I.hok b u e).stay (fun c v hc q => k c v ?_ q) (fun c q => old c _ q) fun c xs q => old c _ q
      rcases hc with z | z
      · rw [z]; exact off b u e
      · exact off c _ z
/-- what is read as a tuple is none of an iterator's own records -/
theorem sqT_off {X : Cx} {pins : List (Addr × Obj)} {σ : L2.St} {H : Hp} {s : Shared} {a b : Addr} {xs : List V} (I : Inv X pins σ H s) (h : SqT X.K H a xs) (f : FpOk X pins H b) : a ≠ b := fun z => by
  subst z
  rcases h with (h | ⟨o, h⟩) | ⟨o, its, n, hk, _⟩
  · rw [f.1] at h; cases h
  · rw [f.1] at h; cases h
  · have e := I.ok.mod.kin a o hk
    rcases f.2.2.2.1 with z | z
    · exact I.ok.noex a o e z
    · rw [(I.ok.bs a o e).1] at z; cases z
def Itz (K : PySem.W.Frag) (a b : Addr) : It :=
  ⟨fun i H => ∃ xs ys x y, SqT K H a xs ∧ SqT K H b ys ∧ xs[i]? = some x ∧ ys[i]? = some y,
   fun i H v H' => ∃ p x y, H p = none ∧ v = .ref p ∧ H' = upd H p (.tup [x, y]) ∧ (∀ xs, SqT K H a xs → xs[i]? = some x) ∧ ∀ ys, SqT K H b ys → ys[i]? = some y,
   fun i H => ∃ xs ys, SqT K H a xs ∧ SqT K H b ys ∧ (xs.length ≤ i ∨ ys.length ≤ i)⟩
def ZSt (z TI TO i1 i2 a b : Addr) (i : Nat) (h : Heap) : Prop := IsZip h z TI TO .none ∧ IsPair h TI (.ref i1) (.ref i2) ∧ (∃ u v, IsPair h TO u v) ∧ h.IsTupleIter i1 a i ∧ h.IsTupleIter i2 b i
theorem tupIter_at {h h' : Heap} {i a : Addr} {n : Nat} (x : h.IsTupleIter i a n) (k : ∀ o, h.get? i = some o → h'.get? i = some o) : h'.IsTupleIter i a n := let ⟨o, e, r⟩ := x; ⟨o, k o e, r⟩
theorem tup_at {h h' : Heap} {a : Addr} {ys : Array Value} (x : h.IsTuple a ys) (k : ∀ o, h.get? a = some o → h'.get? a = some o) : h'.IsTuple a ys := let ⟨o, e, r⟩ := x; ⟨o, k o e, r⟩
/-! ### zip(a, b) of two tuples, walked -/
abbrev zA (h : Heap) (a : Addr) : Heap := h.push { cls := .type "tuple_iterator", data := .fields #[.ref a, .int 0 0] }
abbrev zB (h : Heap) (a b : Addr) : Heap := zA (zA h a) b
abbrev zC (h : Heap) (a b : Addr) : Heap := (zB h a b).push { cls := .type "tuple", data := .seq #[.ref h.objs.size, .ref (zA h a).objs.size] }
abbrev zD (h : Heap) (a b : Addr) : Heap := (zC h a b).push { cls := .type "tuple", data := .seq #[.none, .none] }
abbrev zE (h : Heap) (a b : Addr) : Heap := (zD h a b).push { cls := .type "zip", data := .fields #[.none, .bool false, .bool false, .ref (zB h a b).objs.size, .ref (zC h a b).objs.size] }
def iZip (K : PySem.W.Frag) (ta : TA) : TI := fun σ H R => ta σ H fun vs H1 => ∃ a b, vs = [.ref a, .ref b] ∧ (∃ xs, SqT K H1 a xs) ∧ (∃ ys, SqT K H1 b ys) ∧ R (Itz K a b) H1
end B

namespace B
open PySem PySem.Spec L2 PyProof.Rows
/-! ### (a, b, ..) = a list of that length -/
section
variable {prog : Program} {w : World} {A : Around} {E : Value → Shared → Prop}
end
def gLst (K : PySem.W.Frag) (n : Nat) (t : TGs) : TG := fun v σ H Q => ∃ a xs, v = .ref a ∧ SqL K H a xs ∧ xs.length = n ∧ t xs σ H Q
end B

namespace B
open PySem PySem.Spec L2 PyProof.Rows
/-! ### t[lo:hi], the whole of t: t itself -/
section
variable {prog : Program} {w : World} {A : Around} {E : Value → Shared → Prop} {s : Shared}
open HT in
theorem tuple_whole {t sl : Addr} {items : Array Value} {vl vu : Value} {lo hi : Option Int} {Q : Value → Shared → Prop} (ht : IsTup s.heap t items) (hs : s.heap.IsSliceOf sl vl vu .none) (pl : IsPart vl lo) (pu : IsPart vu hi)
    (h1 : sIx items.size 0 lo = 0) (h2 : sIx items.size items.size hi = items.size) (h : Q (.ref t) s) : wpAny (model prog w) A (getItem (.ref t) (.ref sl)) Q E s := by
  obtain ⟨os, hos, hcs, hds⟩ := id hs
  have hTs : s.TypeIs (.ref sl) "slice" := ⟨os, hos, hcs⟩
  unfold getItem
  try with_reducible refine wpAny_holding ?_
  first | refine wpAny_bind (wpAny_pure ?_) | skip
  refine wpAny_bind (wpAny_sequenceKey ht.typeIs (by decide) ?_)
  refine wpAny_bind (wpAny_callSpecial?_slot (name := Str.ofString "__getitem__") ht.typeIs PyProof.Rows.slot_tuple_getitem
    (wpAny_call_entry PyProof.Rows.slot_tuple_getitem ht.typeIs entry_tuple_getitem ?_ (args_tuple_getitem _ _)))
  show wpAny _ _ (Builtin.Tuple.tupleItemsOf (.ref t) >>= _) _ _ s
  refine wpAny_bind (tupleItemsOf_ ht ?_)
  refine wpAny_bind (wpAny_typeOf hTs ?_)
  rw [if_pos (by decide)]
  refine wpAny_bind (sliceApplied_gen hs pl pu ?_)
  have hyes : ((((sIx items.size 0 lo : Nat) : Int) == 0 && (1 : Int) == 1 && (sIx items.size items.size hi - sIx items.size 0 lo) == items.size) = true) := by
    rw [h1, h2]; simp
  show wpAny _ _ (if (((sIx items.size 0 lo : Nat) : Int) == 0 && (1 : Int) == 1 && (sIx items.size items.size hi - sIx items.size 0 lo) == items.size) = true then _ else _) _ _ s
  rw [if_pos hyes]
  refine wpAny_bind ?_
  unfold Builtin.Tuple.tupleIsExact
  refine wpAny_bind (wpAny_typeOf ht.typeIs ?_)
  refine wpAny_pure ?_
  rw [if_pos (by decide)]
  exact wpAny_bind (wpAny_rule (wpAny_pure ⟨_, rfl, wpAny_pure h⟩))
end
def rSlW (K : PySem.W.Frag) : V → Option Int → Option Int → Hp → VK → Prop := fun x lo hi H Q => ∃ a xs, x = .ref a ∧ SqT K H a xs ∧ HT.sIx xs.length 0 lo = 0 ∧ HT.sIx xs.length xs.length hi = xs.length ∧ Q (.ref a) H
theorem sl_tupW {X : Cx} : SlR X (rSlW X.K) := by
  intro pins s σ H x v vl vu lo hi sl Q I rx hs pl pu h
  obtain ⟨a, xs, rfl, hx, h1, h2, q⟩ := h
  cases rx
  obtain ⟨its, r, ht, hz⟩ := I.tuple hx
  have hlen : its.toArray.size = xs.length := by rw [List.size_toArray]; exact r.length.symm
  refine ⟨"tuple", _, PyProof.Rows.slot_tuple_getitem.lookup, ht.typeIs, ?_⟩
  exact tuple_whole ht hs pl pu (by rw [hlen]; exact h1) (by rw [hlen]; exact h2) ⟨.ref a, H, I, rfl, q⟩
/-- any slice of a tuple -/
theorem sl_tupA {X : Cx} : SlR X (fun x lo hi H Q => rSlW X.K x lo hi H Q ∨ rSlT X.K x lo hi H Q) := SlR.or sl_tupW sl_tup
end B

namespace B
/-! ### ratios whose bottoms divide a number and whose values are bounded -/
structure Bq (D N : Nat) (r : R) : Prop where
  pos : 0 < r.2
  cop : Int.gcd r.1 r.2 = 1
  dvd : r.2 ∣ (D : Int)
  le : r.1.natAbs ≤ N * r.2.natAbs
/-! ### the order -/
theorem less_iff {r q : R} : lessR r q = true ↔ r.1 * q.2 < q.1 * r.2 := by unfold lessR; exact decide_eq_true_iff
/-! ### products one behind the other -/
end B

namespace B
open PySem PySem.Spec L2 PyProof.Rows
/-! ### rules of power -/
inductive Rl where
  | pow (k : Int)
  | tab (rows : List (R × R))
def rowD : R × R := ((0, 1), (0, 1))
def slopeR (lo hi : R × R) : R := overR (minusR hi.2 lo.2) (minusR hi.1 lo.1)
def slp (rows : List (R × R)) (k : Nat) : R := slopeR (rows.getD k rowD) (rows.getD (k + 1) rowD)
def pOf (rows : List (R × R)) (s : R) : Nat := rows.countP fun r => lessR r.1 s
def qOf (rows : List (R × R)) (s : R) : Nat := rows.countP fun r => !lessR s r.1
def leftT (rows : List (R × R)) (s : R) : R := if pOf rows s = 0 then (0, 1) else slp rows (pOf rows s - 1)
def rightT (rows : List (R × R)) (s : R) : Option R := if qOf rows s < rows.length then some (slp rows (qOf rows s - 1)) else none
def powS (k : Int) (s : R) : R := timesR (k, 1) (powR s (k - 1).toNat)
def sidesOf : Rl → R → R × Option R
  | .pow k, s => (powS k s, some (powS k s))
  | .tab rows, s => (leftT rows s, rightT rows s)
def Inc (rows : List (R × R)) : Prop := rows.Pairwise fun a b => lessR a.1 b.1 = true
def AllP (rows : List (R × R)) : Prop := ∀ r ∈ rows, 0 < r.1.2
abbrev D0 : Nat := 5822723907000000000
abbrev N0 : Nat := 1000000007
abbrev N1 : Nat := 17179869184
abbrev NR : Nat := 11000000077
abbrev N2 : Nat := 1180591620717411303424
structure RowsOk (rows : List (R × R)) : Prop where
  n2 : 2 ≤ rows.length
  n12 : rows.length ≤ 12
  inc : Inc rows
  zero : ∃ y, rows[0]? = some ((0, 1), y)
  sp : ∀ r ∈ rows, Bq D0 NR r.1
  pw : ∀ r ∈ rows, Bq (D0 * D0) N2 r.2
def RlOk : Rl → Prop
  | .pow k => 2 ≤ k ∧ k ≤ 4
  | .tab rows => RowsOk rows
/-- a speed that may be asked -/
structure SpOk (s : R) : Prop where
  bq : Bq (D0 * 2) N1 s
  nn : 0 ≤ s.1
def Below : Rl → R → Prop
  | .pow _, _ => True
  | .tab rows, s => ∃ r, rows[rows.length - 1]? = some r ∧ lessR r.1 s = false
/-! ### the same by going through the pairs -/
def lAt (rows : List (R × R)) (s : R) (i : Nat) : R := if 0 < pOf rows s ∧ pOf rows s - 1 < i then slp rows (pOf rows s - 1) else (0, 1)
def rAt (rows : List (R × R)) (s : R) (i : Nat) : Option R := if 0 < qOf rows s ∧ qOf rows s - 1 < i then some (slp rows (qOf rows s - 1)) else none
/-- the slope of a power, product by product -/
def powAt (k : Int) (s : R) (j : Nat) : R := mkR (k * s.1 ^ j) (s.2 ^ j)
/-! ### who bears -/
def bearM (l : R) (r : Option R) (g : R) : Bool := !lessR g l && (match r with | none => true | some x => !lessR x g)
end B

namespace B
/-! ### ratios as numbers -/
def val (r : R) : Rat := (r.1 : Rat) / (r.2 : Rat)
theorem ne_cast {b : Int} (h : 0 < b) : (b : Rat) ≠ 0 := fun z => by
  have : b = 0 := Rat.intCast_inj.mp (by rw [z]; rfl)
  omega
theorem val_of {r : R} {a b : Int} (hr : 0 < r.2) (hb : (b : Rat) ≠ 0) (h : r.1 * b = a * r.2) : val r = (a : Rat) / (b : Rat) := by
  have h2 : (r.1 : Rat) * (b : Rat) = (a : Rat) * (r.2 : Rat) := by rw [← Rat.intCast_mul, ← Rat.intCast_mul, h]
  have h1 := ne_cast hr
  unfold val
  generalize (r.1 : Rat) = x at *
  generalize (r.2 : Rat) = y at *
  generalize (a : Rat) = u at *
  generalize (b : Rat) = v at *
  grind
theorem val_mk {a b : Int} (hb : 0 < b) : val (mkR a b) = (a : Rat) / (b : Rat) := val_of (mkR_red hb).pos (ne_cast hb) (mkR_cross hb)
theorem val_plus {r q : R} (hr : 0 < r.2) (hq : 0 < q.2) : val (plusR r q) = val r + val q := by
  unfold plusR
  rw [val_mk (Int.mul_pos hr hq)]
  have h1 := ne_cast hr
  have h2 := ne_cast hq
  unfold val
  rw [Rat.intCast_add, Rat.intCast_mul, Rat.intCast_mul, Rat.intCast_mul]
  generalize (r.1 : Rat) = x at *
  generalize (r.2 : Rat) = y at *
  generalize (q.1 : Rat) = u at *
  generalize (q.2 : Rat) = v at *
  grind
theorem val_times {r q : R} (hr : 0 < r.2) (hq : 0 < q.2) : val (timesR r q) = val r * val q := by
  unfold timesR
  rw [val_mk (Int.mul_pos hr hq)]
  have h1 := ne_cast hr
  have h2 := ne_cast hq
  unfold val
  rw [Rat.intCast_mul, Rat.intCast_mul]
  generalize (r.1 : Rat) = x at *
  generalize (r.2 : Rat) = y at *
  generalize (q.1 : Rat) = u at *
  generalize (q.2 : Rat) = v at *
  grind
theorem val_inj {r q : R} (hr : Red r) (hq : Red q) (h : val r = val q) : r = q := by
  have h1 := ne_cast hr.pos
  have h2 := ne_cast hq.pos
  have e : r.1 * q.2 = q.1 * r.2 := by
    refine Rat.intCast_inj.mp ?_
    rw [Rat.intCast_mul, Rat.intCast_mul]
    unfold val at h
    generalize (r.1 : Rat) = x at *
    generalize (r.2 : Rat) = y at *
    generalize (q.1 : Rat) = u at *
    generalize (q.2 : Rat) = v at *
    grind
  have e1 : mkR r.1 r.2 = (r.1, r.2) := mkR_uniq hr.pos hr.pos hr.cop rfl
  have e2 : mkR r.1 r.2 = (q.1, q.2) := mkR_uniq hr.pos hq.pos hq.cop e.symm
  exact e1.symm.trans e2
end B

namespace L2
open PySem PySem.Spec PyProof.Rows

/-! ### lists of pairs as tables -/
section
variable {κ : Type} [DecidableEq κ]
def valV (kvs : List (κ × V)) (k : κ) : Option V := (kvs.find? fun kv => decide (kv.1 = k)).map (·.2)
/-- in its place, or at the end -/
def putK (kvs : List (κ × V)) (k : κ) (v : V) : List (κ × V) :=
  if (kvs.any fun kv => decide (kv.1 = k)) = true then kvs.map (fun kv => if kv.1 = k then (kv.1, v) else kv) else kvs ++ [(k, v)]
def dropK (kvs : List (κ × V)) (k : κ) : List (κ × V) := kvs.filter fun kv => decide (kv.1 ≠ k)

theorem valV_pos {p : κ × V} {r : List (κ × V)} {k : κ} (e : p.1 = k) : valV (p :: r) k = some p.2 := by simp [valV, List.find?_cons, e]
theorem valV_neg {p : κ × V} {r : List (κ × V)} {k : κ} (e : ¬ p.1 = k) : valV (p :: r) k = valV r k := by simp [valV, List.find?_cons, e]
theorem valV_any (k : κ) : ∀ kvs : List (κ × V), (kvs.any fun kv => decide (kv.1 = k)) = (valV kvs k).isSome
  | [] => rfl
  | p :: r => by
    rw [List.any_cons]
    by_cases e : p.1 = k
    · simp only [valV_pos e, decide_eq_true e, Bool.true_or, Option.isSome_some]
    · rw [valV_neg e, decide_eq_false e, Bool.false_or]; exact valV_any k r
theorem length_putK (kvs : List (κ × V)) (k : κ) (v : V) : (putK kvs k v).length ≤ kvs.length + 1 := by
  unfold putK
  split
  · rw [List.length_map]; omega
  · rw [List.length_append, List.length_cons, List.length_nil]; omega

theorem RelO.isSome_eq {o : Option V} {u : Option Value} (r : RelO o u) : o.isSome = u.isSome := by
  cases o with
  | none => cases u with
    | none => rfl
    | some _ => exact (show False from r).elim
  | some _ => cases u with
    | none => exact (show False from r).elim
    | some _ => rfl
theorem RelO.getD {o : Option V} {u : Option Value} {d : V} {d' : Value} (r : RelO o u) (rd : RelV d d') : RelV (o.getD d) (u.getD d') := by
  cases o with
  | none => cases u with
    | none => exact rd
    | some _ => exact (show False from r).elim
  | some _ => cases u with
    | none => exact (show False from r).elim
    | some _ => exact r

/-- raw tables of the same keys -/
theorem KV.val {kvs : List (κ × V)} {vs : List (κ × Value)} (r : KV kvs vs) (k : κ) : RelO (valV kvs k) (valueAt vs k) := by
  unfold KV at r
  induction r with
  | nil => exact True.intro
  | @cons p q ps qs h t ih =>
    obtain ⟨h1, h2⟩ := h
    by_cases e : p.1 = k
    · have e' : q.1 = k := h1.symm.trans e
      have b : valueAt (q :: qs) k = some q.2 := by simp [valueAt, List.find?_cons, e']
      rw [valV_pos e, b]; exact h2
    · have e' : ¬ q.1 = k := fun z => e (h1.trans z)
      have b : valueAt (q :: qs) k = valueAt qs k := by simp [valueAt, List.find?_cons, e']
      rw [valV_neg e, b]; exact ih
theorem KV.any {kvs : List (κ × V)} {vs : List (κ × Value)} (r : KV kvs vs) (k : κ) : (kvs.any fun kv => decide (kv.1 = k)) = vs.any fun kv => decide (kv.1 = k) := by
  unfold KV at r
  induction r with
  | nil => rfl
  | cons h t ih => rw [List.any_cons, List.any_cons, ih, h.1]
theorem KV.repl {kvs : List (κ × V)} {vs : List (κ × Value)} (r : KV kvs vs) (k : κ) {y : V} {u : Value} (ry : RelV y u) :
    KV (kvs.map fun kv => if kv.1 = k then (kv.1, y) else kv) (vs.map fun kv => if kv.1 = k then (kv.1, u) else kv) := by
  unfold KV at r ⊢
  induction r with
  | nil => exact .nil
  | @cons p q ps qs h t ih =>
    rw [List.map_cons, List.map_cons]
    refine .cons ?_ ih
    obtain ⟨h1, h2⟩ := h
    by_cases e : p.1 = k
    · rw [if_pos e, if_pos (h1.symm.trans e)]; exact ⟨h1, ry⟩
    · rw [if_neg e, if_neg (fun z => e (h1.trans z))]; exact ⟨h1, h2⟩
theorem KV.put {kvs : List (κ × V)} {vs : List (κ × Value)} (r : KV kvs vs) (k : κ) {y : V} {u : Value} (ry : RelV y u) : KV (putK kvs k y) (stored vs k u) := by
  unfold putK stored
  rw [r.any k]
  by_cases e : (vs.any fun kv => decide (kv.1 = k)) = true
  · rw [if_pos e, if_pos e]; exact r.repl k ry
  · rw [if_neg e, if_neg e]; exact Paired.snoc r ⟨rfl, ry⟩
theorem KV.length {kvs : List (κ × V)} {vs : List (κ × Value)} (r : KV kvs vs) : kvs.length = vs.length := Paired.length r
end


/-! ### a tracked dict, its keys ints and texts or tuples of these -/
theorem kV_is {P : Program} {w : World} {k : Key} {u : Value} (r : RelV (kV k) u) : (mixKind P w).is k u = true := by
  cases k with
  | inl i => obtain ⟨t, e⟩ := (show ∃ t, u = Value.int i t from r); subst e; exact mixKind_int P w i t
  | inr x => obtain ⟨t, e⟩ := (show ∃ t, u = Value.str x t from r); subst e; exact mixKind_str P w x t
theorem items_are {P : Program} {w : World} : ∀ {ks : List Key} {us : List Value}, Vals (ks.map kV) us → ItemsAre (mixKind P w) ks us
  | [], _, r => by rw [List.map_nil] at r; cases r; exact .nil
  | k :: ks, _, r => by
    rw [List.map_cons] at r
    cases r with
    | cons h t => exact .cons (kV_is h) (items_are t)

/-- raw entries of a dict with tuple keys -/
abbrev KT (H : Hp) : List (List Key × V) → List (List Key × Addr × Value) → Prop := Paired fun p q => p.1 = q.1 ∧ H q.2.1 = some (.tup (p.1.map kV)) ∧ RelV p.2 q.2.2
theorem KT.val {H : Hp} {kvs : List (List Key × V)} {xs : List (List Key × Addr × Value)} (r : KT H kvs xs) (k : List Key) : RelO (valV kvs k) ((atKey xs k).map (·.2)) := by
  induction r with
  | nil => exact True.intro
  | @cons p q ps qs h t ih =>
    obtain ⟨h1, _, h2⟩ := h
    by_cases e : p.1 = k
    · have e' : q.1 = k := h1.symm.trans e
      have b : atKey (q :: qs) k = some q.2 := by simp [atKey, List.find?_cons, e']
      rw [valV_pos e, b]; exact h2
    · have e' : ¬ q.1 = k := fun z => e (h1.trans z)
      have b : atKey (q :: qs) k = atKey qs k := by simp [atKey, List.find?_cons, e']
      rw [valV_neg e, b]; exact ih
theorem KT.repl {H : Hp} {kvs : List (List Key × V)} {xs : List (List Key × Addr × Value)} (r : KT H kvs xs) (k : List Key) {y : V} {u : Value} (ry : RelV y u) :
    KT H (kvs.map fun kv => if kv.1 = k then (kv.1, y) else kv) (xs.map (putAt k u)) := by
  induction r with
  | nil => exact .nil
  | @cons p q ps qs h t ih =>
    rw [List.map_cons, List.map_cons]
    refine .cons ?_ ih
    obtain ⟨h1, h2, h3⟩ := h
    unfold putAt
    by_cases e : p.1 = k
    · rw [if_pos e, if_pos (h1.symm.trans e)]; exact ⟨h1, h2, ry⟩
    · rw [if_neg e, if_neg (fun z => e (h1.trans z))]; exact ⟨h1, h2, h3⟩
theorem KT.put {H : Hp} {kvs : List (List Key × V)} {xs : List (List Key × Addr × Value)} (r : KT H kvs xs) (k : List Key) {b : Addr} {y : V} {u : Value} (hb : H b = some (.tup (k.map kV))) (ry : RelV y u) :
    KT H (putK kvs k y) (storedH xs k b u) := by
  have e : (kvs.any fun kv => decide (kv.1 = k)) = (atKey xs k).isSome := by
    rw [valV_any, (r.val k).isSome_eq, Option.isSome_map]
  unfold putK storedH
  rw [e]
  by_cases q : (atKey xs k).isSome = true
  · rw [if_pos q, if_pos q]; exact r.repl k ry
  · rw [if_neg q, if_neg q]; exact Paired.snoc r ⟨rfl, hb, ry⟩
theorem KT.keeps {H H' : Hp} {kvs : List (List Key × V)} {xs : List (List Key × Addr × Value)} (r : KT H kvs xs) (ht : ∀ b ys, H b = some (.tup ys) → H' b = some (.tup ys)) : KT H' kvs xs :=
  Paired.mapP r fun _ _ z => ⟨z.1, ht _ _ z.2.1, z.2.2⟩

section
variable {P : Program} {w : World} {H : Hp} {h : Heap} {a : Addr}
theorem rd_of {u : HO} (ok : HOk P w H h) (e : Rd H a u) : ObjOk P w H h a u := e.ok ok
theorem dk_rd {kvs : List (Key × V)} (ok : HOk P w H h) (e : Rd H a (.dK kvs)) : kvs.length ≤ sizeLine ∧ (a == sysModules) = false ∧ ∃ vs, KV kvs vs ∧ h.DictOf (mixKind P w) a vs :=
  show ObjOk P w H h a (.dK kvs) from rd_of ok e
theorem dk_of {kvs : List (Key × V)} (ok : HOk P w H h) (e : H a = some (.dK kvs)) : kvs.length ≤ sizeLine ∧ (a == sysModules) = false ∧ ∃ vs, KV kvs vs ∧ h.DictOf (mixKind P w) a vs := dk_rd ok (.inl e)
/-- a tracked tuple of ints and texts is a key -/
theorem key_of {ks : List Key} (ok : HOk P w H h) (e : H a = some (.tup (ks.map kV))) : (tupleKind (mixKind P w)).is h ks a := by
  obtain ⟨_, its, r, o, h1, h2, n, h3⟩ := (show ObjOk P w H h a (.tup (ks.map kV)) from ok a _ e)
  exact ⟨o, its.toArray, n, h1, h2, h3, by simpa using items_are r⟩
theorem dt_rd {kvs : List (List Key × V)} (ok : HOk P w H h) (e : Rd H a (.dT kvs)) : kvs.length ≤ sizeLine ∧ (a == sysModules) = false ∧
    ∃ xs, KT H kvs xs ∧ h.DictOfH (tupleKind (mixKind P w)) a xs := by
  obtain ⟨z, y, xs, r, o, es, ep, h1, h2, h3, h4, h5⟩ := (show ObjOk P w H h a (.dT kvs) from rd_of ok e)
  refine ⟨z, y, xs, r, o, es, ep, h1, h2, h3, h4, fun x hx => ?_, h5⟩
  have all : ∀ {l : List (List Key × V)} {m : List (List Key × Addr × Value)}, KT H l m → ∀ x ∈ m, (tupleKind (mixKind P w)).is h x.1 x.2.1 := by
    intro l m q
    induction q with
    | nil => intro x hx; exact nomatch hx
    | @cons p q ps qs hq t ih =>
      intro x hx
      rcases List.mem_cons.mp hx with e | hx
      · subst e
        exact key_of ok (by rw [← hq.1]; exact hq.2.1)
      · exact ih x hx
  exact all r x hx
theorem dt_of {kvs : List (List Key × V)} (ok : HOk P w H h) (e : H a = some (.dT kvs)) : kvs.length ≤ sizeLine ∧ (a == sysModules) = false ∧
    ∃ xs, KT H kvs xs ∧ h.DictOfH (tupleKind (mixKind P w)) a xs := dt_rd ok (.inl e)
end

/-- what the dict at a holds at the key y -/
def DGet (H : Hp) (a : Addr) (y : V) (r : Option V) : Prop :=
  (∃ kvs k, Rd H a (.dK kvs) ∧ y = kV k ∧ r = valV kvs k) ∨ ∃ kvs k b, Rd H a (.dT kvs) ∧ y = .ref b ∧ H b = some (.tup (k.map kV)) ∧ r = valV kvs k
/-- the heap behind a[y] = v -/
def DPut (H : Hp) (a : Addr) (y v : V) (H' : Hp) : Prop :=
  (∃ kvs k, H a = some (.dK kvs) ∧ y = kV k ∧ kvs.length < sizeLine ∧ H' = upd H a (.dK (putK kvs k v))) ∨
  ∃ kvs k b, H a = some (.dT kvs) ∧ y = .ref b ∧ H b = some (.tup (k.map kV)) ∧ kvs.length < sizeLine ∧ H' = upd H a (.dT (putK kvs k v))
theorem DGet.k {H : Hp} {a : Addr} {kvs : List (Key × V)} {k : Key} (e : H a = some (.dK kvs)) : DGet H a (kV k) (valV kvs k) := .inl ⟨kvs, k, .inl e, rfl, rfl⟩
theorem DPut.k {H : Hp} {a : Addr} {kvs : List (Key × V)} {k : Key} {v : V} (e : H a = some (.dK kvs)) (hl : kvs.length < sizeLine) : DPut H a (kV k) v (upd H a (.dK (putK kvs k v))) := .inl ⟨kvs, k, e, rfl, hl, rfl⟩


section
variable {X : Cx} {pins : List (Addr × Obj)} {σ : St} {H : Hp} {s : Shared} {a : Addr} {y v : V} {u r : Value} {o : Option V} {A : Around} {E : Value → Shared → Prop}

theorem Inv.big (I : Inv X pins σ H s) : sysModules < s.heap.objs.size := by
  have h : mainGlobals < s.heap.objs.size := (I.mod.glob.keeps I.bk).lt
  exact Nat.lt_trans (by decide) h

/-- a dict's object is replaced -/
theorem d_write {h' : Heap} {t' : Nat} {ob : HO} (I : Inv X pins σ H s) (mu : Mut (H a)) (hs : Heap.SameBut a s.heap h') (he : ∃ q, h'.get? a = some q) (new : ObjOk X.prog X.w (upd H a ob) h' a ob) :
    Inv X pins σ (upd H a ob) { s with heap := h', toks := t' } :=
  I.write (x := a) (e := a) mu (.inl rfl) (fun b q hb z => (hs.2 b hb).trans z) he new
theorem dk_new {P : Program} {w : World} {H' : Hp} {h' : Heap} {kvs : List (Key × V)} {vs : List (Key × Value)} (z : kvs.length ≤ sizeLine) (hd : (a == sysModules) = false) (rel : KV kvs vs) (dd : h'.DictOf (mixKind P w) a vs) :
    ObjOk P w H' h' a (.dK kvs) := ⟨z, hd, vs, rel, dd⟩
/-- d[y] = v -/
theorem d_setItem {H' : Hp} {Q : Unit → Shared → Prop} (hu : A.units + 1 < cLine) (I : Inv X pins σ H s) (g : DPut H a y v H') (ry : RelV y u) (rv : RelV v r) (h : ∀ s', Inv X pins σ H' s' → Q () s') :
    wpAny (model X.prog X.w) A (setItem (.ref a) u r) Q E s := by
  rcases g with ⟨kvs, k, e, ey, l, eH⟩ | ⟨kvs, k, b, e, ey, eb, l, eH⟩
  · subst ey eH
    obtain ⟨z, hd, vs, rel, dd⟩ := dk_of I.hok e
    have hz : vs.length ≤ sizeLine := by rw [← rel.length]; exact z
    have hl : (putK kvs k v).length ≤ sizeLine := by have := length_putK kvs k v; omega
    refine wpAny_setItem_pairs (hsz := hz) (kV_is ry) dd fun h' dd' hs => h _ ?_
    have he : ∃ q, h'.get? a = some q := let ⟨q, _, _, hq, _⟩ := dd'; ⟨q, hq⟩
    exact d_write I (by rw [e]; exact True.intro) hs he (dk_new hl hd (rel.put k rv) dd')
  · subst ey eH
    cases (show u = Value.ref b from ry)
    obtain ⟨z, hd, xs, rel, dd⟩ := dt_of I.hok e
    have hz : xs.length ≤ sizeLine := by rw [← Paired.length rel]; exact z
    have hl : (putK kvs k v).length ≤ sizeLine := by have := length_putK kvs k v; omega
    refine wpAny_setItem_heap (hsz := hz) (tupleKind_room_in1 hu) (key_of I.hok eb) dd fun h' dd' hs => h _ ?_
    obtain ⟨q, es, ep, hq, h2, h3, h4, _, h5⟩ := dd'
    refine d_write I (by rw [e]; exact True.intro) hs ⟨q, hq⟩ ⟨hl, hd, _, (rel.put k eb rv).keeps fun c ys ec => ?_, q, es, ep, hq, h2, h3, h4, h5⟩
    rw [upd_ne (ne_of ec e (fun z => nomatch z))]
    exact ec
end

section
variable {X : Cx} {pins : List (Addr × Obj)} {σ : St} {H : Hp} {s : Shared} {a : Addr} {kvs : List (Key × V)} {k : Key} {u : Value} {A : Around} {E : Value → Shared → Prop}
end


/-! ### readings and rules -/
/-- the element of a subscription, not a slice -/
def NoSl (i : Expr) : Prop := ∀ ov iv, subscripted i false ov iv = operate [ov, iv] (getItem ov iv)


/-- d[y] -/
def tDGet (td ty : TE) : TE := fun σ H Q => td σ H fun x H1 => ty σ H1 fun y H2 => ∃ a v, x = .ref a ∧ DGet H2 a y (some v) ∧ Q v H2
/-- y in d, y not in d -/
def tDIn (ty td : TE) : TE := fun σ H Q => ty σ H fun y H1 => td σ H1 fun x H2 => ∃ a o, x = .ref a ∧ DGet H2 a y o ∧ Q (.bl o.isSome) H2
def tDNotIn (ty td : TE) : TE := fun σ H Q => ty σ H fun y H1 => td σ H1 fun x H2 => ∃ a o, x = .ref a ∧ DGet H2 a y o ∧ Q (.bl (!o.isSome)) H2
/-- d[y] = v -/
def sDPut (td ty tv : TE) : TS := fun D σ H => tv σ H fun v H1 => td σ H1 fun x H2 => ty σ H2 fun y H3 => ∃ a H4, x = .ref a ∧ DPut H3 a y v H4 ∧ D.nx σ H4
/-- d[y] op= v -/
def sDAug (td ty tv : TE) (rd : V → V → Hp → VK → Prop) : TS := fun D σ H => td σ H fun x H1 => ty σ H1 fun y H2 => ∃ a v, x = .ref a ∧ DGet H2 a y (some v) ∧
  tv σ H2 fun y2 H3 => rd v y2 H3 fun z H4 => ∃ H5, DPut H4 a y z H5 ∧ D.nx σ H5
section
variable {X : Cx} {o i e value : Expr} {pos pos' tpos : Pos} {td ty tv : TE}
theorem ps_dput (hu : X.A.units + 1 < cLine) (ho : PE X o td) (hi : PE X i ty) (hv : PE X value tv) (hs : swapsWith value (some (.Subscript o i pos')) pos.line X.env = pure false) :
    PS X (.Assign [.Subscript o i pos'] value pos) (sDPut td ty tv) := by
  intro pins s σ H D I h
  refine wpAny_Assign_Subscript (thn (hv pins s σ H _ I h) fun r s1 ⟨v, H1, I1, rv, q1⟩ => thn (ho pins s1 σ H1 _ I1 q1) fun u s2 ⟨x, H2, I2, rx, q2⟩ => thn (hi pins s2 σ H2 _ I2 q2) fun iv s3 ⟨y, H3, I3, ry, a, H4, ex, g, q3⟩ => ?_) hs
  subst ex
  obtain rfl : u = Value.ref a := rx
  exact d_setItem hu I3 g ry rv fun s4 I4 => ⟨σ, H4, I4, q3⟩
end


/-! ### displays -/
theorem dk_empty {P : Program} {w : World} {H : Hp} (h : Heap) (hb : sysModules < h.objs.size) : ObjOk P w H (h.push { cls := .type "dict", data := .dict #[] }) h.objs.size (.dK []) :=
  ⟨Nat.zero_le _, beq_eq_false_iff_ne.mpr (Ne.symm (Nat.ne_of_lt hb)), [], .nil, Heap.DictOf.new h⟩
/-- {}, to be a dict of the kind that is wanted -/
def tDNewK : TE := fun _ H Q => ∀ p, H p = none → Q (.ref p) (upd H p (.dK []))
section
variable {X : Cx} {pos : Pos}
theorem pe_dnewK : PE X (.Dict [] [] pos) tDNewK := fun pins s σ H Q I h =>
  wpAny_Dict_empty ⟨.ref s.heap.objs.size, _, I.laid (a := s.heap.objs.size) (o := .dK []) (t' := s.toks) (fun _ _ q => Heap.get?_push_of_some _ q) (Nat.le_refl _) (dk_empty s.heap I.big), rfl, h _ (I.hok.fresh (Nat.le_refl _))⟩
end

/-! ### methods -/
/-- a method call o.m(e) of a built-in, with one argument: what must be seen of the text -/
structure M1 (X : Cx) (o : Expr) (m : Str) (apos : Pos) (e : Expr) (cpos : Pos) : Prop where
  base : attributeBase o m X.env (eval o X.env) = eval o X.env
  few : ((backTo cpos (starEach [e] X.env)).all (fun x => !x.1) && (backToKw cpos (keywordEach [] X.env)).all (fun x => x.1.isSome)
    && decide (([e] : List Expr).length + ([] : List Keyword).length + (if ([] : List Keyword).isEmpty then 0 else 1) < 30)) = true
  line : (apos.endLine == cpos.line) = true
  trees : backTo cpos (starEach [e] X.env) = [(false, eval e X.env)]
structure M2 (X : Cx) (o : Expr) (m : Str) (apos : Pos) (e f : Expr) (cpos : Pos) : Prop where
  base : attributeBase o m X.env (eval o X.env) = eval o X.env
  few : ((backTo cpos (starEach [e, f] X.env)).all (fun x => !x.1) && (backToKw cpos (keywordEach [] X.env)).all (fun x => x.1.isSome)
    && decide (([e, f] : List Expr).length + ([] : List Keyword).length + (if ([] : List Keyword).isEmpty then 0 else 1) < 30)) = true
  line : (apos.endLine == cpos.line) = true
  trees : backTo cpos (starEach [e, f] X.env) = [(false, eval e X.env), (false, eval f X.env)]

/-- a is a dict, whatever its keys -/
def IsD (H : Hp) (a : Addr) : Prop := (∃ kvs, Rd H a (.dK kvs)) ∨ ∃ kvs, Rd H a (.dT kvs)
theorem isD_at {X : Cx} {pins : List (Addr × Obj)} {σ : St} {H : Hp} {s : Shared} {a : Addr} (I : Inv X pins σ H s) (d : IsD H a) :
    s.TypeIs (.ref a) "dict" ∧ (∀ b, Value.ref a = .ref b → ∃ ob, s.heap.get? b = some ob ∧ ob.dict = none) ∧ (a == sysModules) = false := by
  rcases d with ⟨kvs, e⟩ | ⟨kvs, e⟩
  · obtain ⟨_, hd, vs, _, dd⟩ := dk_rd I.hok e
    refine ⟨dd.typeIs, fun b q => ?_, hd⟩
    cases q
    obtain ⟨ob, _, _, h1, h2, _⟩ := dd
    exact ⟨ob, h1, h2.2.1⟩
  · obtain ⟨_, hd, xs, _, dd⟩ := dt_rd I.hok e
    refine ⟨dd.typeIs, fun b q => ?_, hd⟩
    cases q
    obtain ⟨ob, _, _, h1, h2, _⟩ := dd
    exact ⟨ob, h1, h2.2.1⟩

section
variable {X : Cx} {pins : List (Addr × Obj)} {σ : St} {H : Hp} {s : Shared} {a : Addr} {y d : V} {u r : Value} {o : Option V} {A : Around} {E : Value → Shared → Prop}
/-- d.get(y, x) -/
theorem d_get2 {Q : Value → Shared → Prop} (hu : A.units + 1 < cLine) (I : Inv X pins σ H s) (g : DGet H a y o) (ry : RelV y u) (rd : RelV d r) (h : ∀ w' s', Inv X pins σ H s' → RelV (o.getD d) w' → Q w' s') :
    wpAny (model X.prog X.w) A (call (.builtin "dict.get") [.ref a, u, r]) Q E s := by
  rcases g with ⟨kvs, k, e, ey, l⟩ | ⟨kvs, k, b, e, ey, eb, l⟩
  · subst ey
    obtain ⟨z, hd, vs, rel, dd⟩ := dk_rd I.hok e
    refine call_meetsIn PySem.F.slot_dict_get dd.typeIs PySem.F.entry_dict_get (PySem.F.args_dict_get_3 _ _ _) (meets_dict_get_default (mixKind X.prog X.w) a (kV_is ry) hd r) ⟨_, dd.mapOf, h _ _ (I.tok _) ?_⟩
    rw [l]
    exact (rel.val k).getD rd
  · subst ey
    cases (show u = Value.ref b from ry)
    obtain ⟨z, hd, xs, rel, dd⟩ := dt_rd I.hok e
    refine call_meetsIn PySem.F.slot_dict_get dd.typeIs PySem.F.entry_dict_get (PySem.F.args_dict_get_3 _ _ _) (meetsH_dict_get_default (tupleKind (mixKind X.prog X.w)) a b hd r) ⟨tupleKind_room_in1 hu, k, xs, key_of I.hok eb, dd, h _ _ (I.tok _) ?_⟩
    rw [l]
    exact (rel.val k).getD rd
end

def tDGet1 (td ty : TE) : TE := fun σ H Q => td σ H fun x H1 => ∃ a, x = .ref a ∧ IsD H1 a ∧ ty σ H1 fun y H2 => ∃ o, DGet H2 a y o ∧ Q (o.getD .non) H2
def tDGet2 (td ty tx : TE) : TE := fun σ H Q => td σ H fun x H1 => ∃ a, x = .ref a ∧ IsD H1 a ∧ ty σ H1 fun y H2 => tx σ H2 fun z H3 => ∃ o, DGet H3 a y o ∧ Q (o.getD z) H3
section
variable {X : Cx} {o e f : Expr} {apos cpos : Pos} {td ty tx : TE}
theorem pe_dget2 (hu : X.A.units + 1 < cLine) (ho : PE X o td) (he : PE X e ty) (hf : PE X f tx) (m : M2 X o "get" apos e f cpos) : PE X (.Call (.Attribute o "get" apos) [e, f] [] cpos) (tDGet2 td ty tx) := by
  intro pins s σ H Q I h
  refine wpAny_Call_method m.base m.few m.line PySem.F.plainAttrs_dict PySem.F.slot_dict_get PySem.F.type_dict_get (thn (ho pins s σ H _ I h) fun u s1 ⟨x, H1, I1, rx, a, ex, d, q1⟩ => ?_)
  subst ex
  obtain rfl : u = Value.ref a := rx
  obtain ⟨t1, t2, _⟩ := isD_at I1 d
  refine ⟨t1, t2, ?_⟩
  rw [m.trees]
  refine Calls.callWith_builtin rfl (Calls.evalArgs_plain (Calls.spliced_cons (thn (he pins s1 σ H1 _ I1 q1) fun iv s2 ⟨y, H2, I2, ry, q2⟩ =>
    Calls.spliced_cons (thn (hf pins s2 σ H2 _ I2 q2) fun fv s3 ⟨z, H3, I3, rz, ov, g, q3⟩ => Calls.spliced_nil ?_))))
  exact d_get2 hu I3 g ry rz fun w' s4 I4 rw' => ⟨_, H3, I4, rw', q3⟩
end
end L2

namespace B
open PySem PySem.Spec L2 PyProof.Rows
/-! ### for k, v in d.items(): the dict stays as it is while it is walked -/
def Iti (d : Addr) (ob : Obj) (kvs : List (Key × V)) : It :=
  ⟨fun i H => H d = some (.frz ob (.dK kvs)) ∧ i < kvs.length,
   fun i H x H' => ∃ p k v, H p = none ∧ x = .ref p ∧ kvs[i]? = some (k, v) ∧ H' = upd H p (.tup [kV k, v]),
   fun i H => H d = some (.frz ob (.dK kvs)) ∧ kvs.length ≤ i⟩
theorem KV.get : ∀ {kvs : List (Key × V)} {vs : List (Key × Value)}, KV kvs vs → ∀ {i : Nat} {k : Key} {v : V}, kvs[i]? = some (k, v) → ∃ u, vs[i]? = some (k, u) ∧ RelV v u
  | _, _, .nil, i, k, v, h => by simp at h
  | (a, b) :: r, (c, d) :: t, .cons h z, 0, k, v, e => by
    have e' : (a, b) = (k, v) := by simpa using e
    cases e'
    obtain ⟨h1, h2⟩ := h
    have h1' : a = c := h1
    subst h1'
    exact ⟨d, rfl, h2⟩
  | _ :: r, _ :: t, .cons h z, i + 1, k, v, e => by
    obtain ⟨u, q, w⟩ := KV.get z (i := i) (by simpa using e)
    exact ⟨u, by simpa using q, w⟩
theorem kV_of {k : Key} {u : Value} (h : keyIs k u = true) : RelV (kV k) u := by
  rcases keyIs_shape h with ⟨i, t, rfl, rfl⟩ | ⟨x, t, rfl, rfl⟩
  · exact ⟨t, rfl⟩
  · exact ⟨t, rfl⟩
theorem en_iit : entryFor table "dict_itemiterator.__iter__" = some Builtin.«dict_keyiterator.__iter__» :=
  entryFor_alias (by kernel_rfl) (by first | rfl | decide +kernel | (unfold String.splitOn; simp +decide [String.splitOnAux])) (by decide +kernel) (by kernel_rfl) (id' := "dict_keyiterator.__iter__")
theorem turn_items {P : Program} {w : World} {K : PySem.W.Frag} {elts : List Expr} {x1} {pos : Pos} {it d : Addr} {ob : Obj} {kvs : List (Key × V)} {es : Array DictEntry} {ep : Nat} (hob : ob.data = .dict es ep) :
    Turn P w K (.Tuple elts x1 pos) (Iti d ob kvs) [it] it (fun i h => ∃ ok ov, IsItemIter h it d i kvs.length ep ok ov) where
  mem := by simp
  obj := fun i h st c hc => by
    obtain ⟨ok, ov, e⟩ := st
    rw [List.mem_singleton] at hc
    subst hc
    exact ⟨_, e, fun v q => by cases (show Data.fields _ = Data.cell v from q)⟩
  keep := fun i h h' ⟨ok, ov, e⟩ k => ⟨ok, ov, k it (by simp) _ e⟩
  item := by
    intro X hP hw hK hc i pins s σ H E I hf st hg
    subst hP hw hK
    obtain ⟨hd, hi⟩ := hg
    obtain ⟨ok, ov, e⟩ := st
    obtain ⟨q0, z, hds, vs, rel, o, es', ep', d1, d2, d3, d4⟩ := (show ObjOk X.prog X.w H s.heap d (.frz ob (.dK kvs)) from I.hok d _ hd)
    have eo : o = ob := Option.some.inj (d1.symm.trans q0)
    subst eo
    rw [hob] at d3
    cases d3
    have dat : s.heap.DictAt (mixKind X.prog X.w) d vs ep := ⟨o, es, d1, d2, hob, d4⟩
    obtain ⟨k, v, hkv'⟩ : ∃ k v, kvs[i]? = some (k, v) := ⟨(kvs[i]'hi).1, (kvs[i]'hi).2, List.getElem?_eq_getElem hi⟩
    obtain ⟨u, hu, ru⟩ := KV.get rel hkv'
    have ndi : it ≠ d := fun q => by rw [q] at hf; have := (hf d (by simp)).1; rw [hd] at this; cases this
    have itl : it < s.heap.objs.size := Heap.lt_size e
    rw [rel.length] at e
    refine wpAny_pyNext_items_item e dat hu fun key h1 hkey eo tup hz hk => ⟨_, rfl, wpAny_letOwnedTupleGo_items eo fun h2 e2 sb => ?_⟩
    have nt : s.heap.objs.size ≠ it := Nat.ne_of_gt itl
    have P : ObjOk X.prog X.w (upd H s.heap.objs.size (.tup [kV k, v])) h2 s.heap.objs.size (.tup [kV k, v]) :=
      ⟨by show 2 ≤ sizeLine; decide, [key, u], .cons (kV_of hkey) (.cons ru .nil), ⟨_, sb.extBut _ _ nt tup, rfl, _, rfl⟩⟩
    have I2 : Inv X pins σ (upd H s.heap.objs.size (.tup [kV k, v])) { s with heap := h2, toks := s.toks } := turnedN I (fun c o' n q => by
      have n' : c ≠ it := fun r => n (by simp [r])
      exact sb.extBut _ _ n' (hk c o' n' q)) hf (Nat.le_refl _) P
    refine ⟨.ref s.heap.objs.size, _, I2, rfl, ⟨_, k, v, I.fresh, rfl, hkv', rfl⟩, ⟨key, u, by rw [rel.length]; exact e2⟩, fun c hc => ?_⟩
    have hc' : c = it := by simpa using hc
    rw [hc', upd_ne (Ne.symm nt)]
    exact (hf it (by simp)).1
  done := by
    intro X hP hw hK hc i pins s σ H E I hf st hg
    subst hP hw hK
    obtain ⟨hd, hi⟩ := hg
    obtain ⟨ok, ov, e⟩ := st
    obtain ⟨q0, z, hds, vs, rel, o, es', ep', d1, d2, d3, d4⟩ := (show ObjOk X.prog X.w H s.heap d (.frz ob (.dK kvs)) from I.hok d _ hd)
    have eo : o = ob := Option.some.inj (d1.symm.trans q0)
    subst eo
    rw [hob] at d3
    cases d3
    have dat : s.heap.DictAt (mixKind X.prog X.w) d vs ep := ⟨o, es, d1, d2, hob, d4⟩
    have hh : X.A.in1.handled = none := I.ok.hd hc
    rw [rel.length] at e hi
    refine wpAny_pyNext_items_end hh e dat (List.getElem?_eq_none hi) fun h1 ex => ⟨rfl, ?_⟩
    exact turnedL (t' := s.toks) I (fun c o' n q => ex c o' (fun r => n (by simp [r])) q) hf
  self := fun A i s Q E st h => by
    obtain ⟨ok, ov, e⟩ := st
    have hT : s.TypeIs (.ref it) "dict_itemiterator" := ⟨_, e, rfl⟩
    refine wpAny_pyIter_slot hT PySem.F.slot_dict_itemiterator_iter (wpAny_call_entry PySem.F.slot_dict_itemiterator_iter hT en_iit ?_ (PySem.F.args_dict_itemiterator_iter_1 _))
    show wpAny _ _ (ret (.ref it)) _ _ s
    exact wpAny_pure ⟨_, rfl, "dict_itemiterator", _, hT, PySem.F.slot_dict_itemiterator_next.lookup, h⟩
def iItems (td : TE) : TI := fun σ H R => td σ H fun x H1 => ∃ d kvs, x = .ref d ∧ H1 d = some (.dK kvs) ∧ ∀ ob, R (Iti d ob kvs) (upd H1 d (.frz ob (.dK kvs)))
theorem pi_items {X : Cx} {elts : List Expr} {x1} {tp apos pos : Pos} {o : Expr} {td : TE} (ho : PE X o td) (hb : attributeBase o "items" X.env (eval o X.env) = eval o X.env := by rfl) (hl : (apos.endLine == pos.line) = true := by rfl) :
    PI X (.Tuple elts x1 tp) (.Call (.Attribute o "items" apos) [] [] pos) (iItems td) := by
  intro pins s σ H R I h
  refine wpAny_Call_method (T := "dict") (id := "dict.items") hb rfl hl PySem.F.plainAttrs_dict PySem.F.slot_dict_items PySem.F.type_dict_items (thn (ho pins s σ H _ I h) fun u s1 ⟨x, H1, I1, rx, d, kvs, ex, e, q⟩ => ?_)
  subst ex
  obtain rfl : u = Value.ref d := rx
  obtain ⟨z, hds, vs, rel, dd⟩ := dk_of I1.hok e
  obtain ⟨t1, t2, _⟩ := isD_at I1 (.inl ⟨kvs, .inl e⟩)
  refine ⟨t1, t2, ?_⟩
  show wpAny _ _ (callWith pos (.builtin "dict.items") [.ref d] [] []) _ _ _
  refine method_meetsIn PySem.F.slot_dict_items PySem.F.entry_dict_items rfl (PySem.evalArgs_none ⟨rfl, t1, PySem.F.args_dict_items_1 _, _, meets_dict_items (mixKind X.prog X.w) d hds, ⟨vs, dd⟩, ?_⟩)
  obtain ⟨o', es, ep, d1, d2, d3, d4⟩ := id dd
  have dat : s1.heap.DictAt (mixKind X.prog X.w) d vs ep := ⟨o', es, d1, d2, d3, d4⟩
  refine wpAny_pyIter_items (d := d) (kvs := vs) (ep := ep) ⟨_, Heap.get?_push_size _ rfl, rfl, rfl⟩ (dat.push _) ?_
  have sz : (s1.heap.push { cls := .type "dict_items", data := .fields #[.ref d] }).objs.size = s1.heap.objs.size + 1 := Heap.size_push ..
  have I2 := I1.kept (t' := s1.toks) (h' := (s1.heap.push { cls := .type "dict_items", data := .fields #[.ref d] }).push { cls := .type "dict_itemiterator", data := .fields #[.none, .bool false, .ref d, .int 0 0, .int vs.length 0, .int ep 0, .none, .none] }) fun b o q => Heap.get?_push_of_some _ (Heap.get?_push_of_some _ q)
  have hit := Heap.get?_push_size (s1.heap.push { cls := .type "dict_items", data := .fields #[.ref d] }) (o := { cls := .type "dict_itemiterator", data := .fields #[.none, .bool false, .ref d, .int 0 0, .int vs.length 0, .int ep 0, .none, .none] }) rfl
  have dl : d < s1.heap.objs.size := Heap.lt_size d1
  have k2 : ∀ b o, s1.heap.get? b = some o → ((s1.heap.push { cls := .type "dict_items", data := .fields #[.ref d] }).push { cls := .type "dict_itemiterator", data := .fields #[.none, .bool false, .ref d, .int 0 0, .int vs.length 0, .int ep 0, .none, .none] }).get? b = some o := fun b o q => Heap.get?_push_of_some _ (Heap.get?_push_of_some _ q)
  generalize (s1.heap.push { cls := .type "dict_items", data := .fields #[.ref d] }).push { cls := .type "dict_itemiterator", data := .fields #[.none, .bool false, .ref d, .int 0 0, .int vs.length 0, .int ep 0, .none, .none] } = hE at I2 hit k2 ⊢
  rw [sz] at hit ⊢
  have I3 := d_write (h' := hE) (t' := s1.toks) (ob := .frz o' (.dK kvs)) I2 (by rw [e]; exact True.intro) ⟨rfl, fun _ _ => rfl⟩ ⟨_, k2 _ _ d1⟩ ⟨k2 _ _ d1, z, hds, vs, rel, o', es, ep, k2 _ _ d1, d2, d3, d4⟩
  have nd : s1.heap.objs.size + 1 ≠ d := Nat.ne_of_gt (Nat.lt_succ_of_lt dl)
  refine ⟨_, [s1.heap.objs.size + 1], _, _, _, rfl, I3, turn_items d3, ⟨.none, .none, by rw [rel.length]; exact hit⟩, fun c hc => ?_, q o'⟩
  have hc' : c = s1.heap.objs.size + 1 := by simpa using hc
  subst hc'
  exact I1.fpOk (Nat.le_succ _) (by rw [upd_ne nd]; exact I1.hok.fresh (Nat.le_succ _))
theorem for_items {d : Addr} {ob : Obj} {kvs : List (Key × V)} {g : TG} {tb : TS} {D : Ends} {σ : L2.St} {H : Hp} (Pv : Nat → L2.St → Hp → Prop) (h0 : Pv 0 σ H)
    (hl : ∀ i σ H, Pv i σ H → H d = some (.frz ob (.dK kvs)))
    (hs : ∀ i k v p σ H, kvs[i]? = some (k, v) → Pv i σ H → H p = none → g (.ref p) σ (upd H p (.tup [kV k, v])) fun σ2 H2 => tb { D with nx := Pv (i + 1), ct := Pv (i + 1), bk := D.nx } σ2 H2) (hd : ∀ σ H, Pv kvs.length σ H → D.nx σ H) :
    ∃ W : Nat → Nat → L2.St → Hp → Prop, (∃ m, W 0 m σ H) ∧ ∀ i m σ H, W i m σ H →
      ((Iti d ob kvs).stop i H ∧ D.nx σ H) ∨ ((Iti d ob kvs).go i H ∧ ∃ N : L2.St → Hp → Prop, (∀ σ' H', N σ' H' → ∃ m', m' < m ∧ W (i + 1) m' σ' H') ∧ ∀ x H', (Iti d ob kvs).yld i H x H' → g x σ H' fun σ2 H2 => tb { D with nx := N, ct := N, bk := D.nx } σ2 H2) := by
  refine ⟨fun i m σ H => m = kvs.length - i ∧ i ≤ kvs.length ∧ Pv i σ H, ⟨_, rfl, Nat.zero_le _, h0⟩, ?_⟩
  rintro i m σ H ⟨rfl, hi, p⟩
  have q := hl i σ H p
  by_cases hlt : i < kvs.length
  · refine .inr ⟨⟨q, hlt⟩, Pv (i + 1), fun σ' H' p' => ⟨kvs.length - (i + 1), by omega, rfl, hlt, p'⟩, fun x H' y => ?_⟩
    obtain ⟨pp, k, v, hp, rfl, hkv, rfl⟩ := y
    exact hs i k v pp σ _ hkv p hp
  · have e : i = kvs.length := by omega
    subst e
    exact .inl ⟨⟨q, Nat.le_refl _⟩, hd σ H p⟩
end B

namespace B
open PySem PySem.Spec L2 PyProof.Rows
/-! ### sums by bottoms, kept in a dict -/
def enc (ps : List (Int × Int)) : List (Key × V) := ps.map fun p => (Sum.inl p.1, V.int p.2)
def topP : List (Int × Int) → Int → Int
  | [], _ => 0
  | (c, u) :: r, b => if c = b then u else topP r b
def addP : List (Int × Int) → Int → Int → List (Int × Int)
  | [], b, t => [(b, 0 + t)]
  | (c, u) :: r, b, t => if c = b then (c, u + t) :: r else (c, u) :: addP r b t
theorem put_here {p : Key × V} {r : List (Key × V)} {k : Key} {v : V} (e : p.1 = k) (n : ∀ q ∈ r, q.1 ≠ k) : putK (p :: r) k v = (k, v) :: r := by
  unfold putK
  rw [if_pos (by simp [e]), List.map_cons, if_pos e, e]
  congr 1
  exact (List.map_congr_left (g := id) (fun q hq => by rw [if_neg (n q hq)]; rfl)).trans (List.map_id r)
theorem put_there {p : Key × V} {r : List (Key × V)} {k : Key} {v : V} (e : ¬ p.1 = k) : putK (p :: r) k v = p :: putK r k v := by
  unfold putK
  rw [List.any_cons, decide_eq_false e, Bool.false_or]
  split
  · rw [List.map_cons, if_neg e]
  · rfl
theorem get_enc : ∀ (ps : List (Int × Int)) (b : Int), (valV (enc ps) (Sum.inl b)).getD (V.int 0) = V.int (topP ps b)
  | [], b => rfl
  | (c, u) :: r, b => by
    show (valV ((Sum.inl c, V.int u) :: enc r) (Sum.inl b)).getD (V.int 0) = V.int (if c = b then u else topP r b)
    by_cases e : c = b
    · rw [if_pos e, valV_pos (by rw [e])]; rfl
    · rw [if_neg e, valV_neg (fun z => e (by injection z)), get_enc r b]
theorem put_enc : ∀ (ps : List (Int × Int)) (b t : Int), (ps.map (·.1)).Nodup → putK (enc ps) (Sum.inl b) (V.int (topP ps b + t)) = enc (addP ps b t)
  | [], b, t, _ => rfl
  | (c, u) :: r, b, t, nd => by
    have nd' := List.nodup_cons.mp nd
    show putK ((Sum.inl c, V.int u) :: enc r) (Sum.inl b) (V.int ((if c = b then u else topP r b) + t)) = enc (if c = b then (c, u + t) :: r else (c, u) :: addP r b t)
    by_cases e : c = b
    · rw [if_pos e, if_pos e, put_here (by rw [e]) (fun q hq z => ?_)]
      · show _ = (Sum.inl c, V.int (u + t)) :: enc r
        rw [e]
      · obtain ⟨p, hp, rfl⟩ := List.mem_map.mp hq
        have z' : p.1 = b := by injection z
        exact nd'.1 (List.mem_map.mpr ⟨p, hp, z'.trans e.symm⟩)
    · rw [if_neg e, if_neg e, put_there (fun z => e (by injection z)), put_enc r b t nd'.2]
      rfl
def sumv : List (Int × Int) → Rat
  | [] => 0
  | p :: r => (p.2 : Rat) / (p.1 : Rat) + sumv r
theorem add_div {a b c : Rat} : (a + b) / c = a / c + b / c := by rw [Rat.div_def, Rat.div_def, Rat.div_def, Rat.add_mul]
theorem sumv_add : ∀ (ps : List (Int × Int)) (b t : Int), sumv (addP ps b t) = sumv ps + (t : Rat) / (b : Rat)
  | [], b, t => by
    show ((0 + t : Int) : Rat) / (b : Rat) + 0 = 0 + (t : Rat) / (b : Rat)
    rw [Int.zero_add]; grind
  | (c, u) :: r, b, t => by
    show sumv (if c = b then (c, u + t) :: r else (c, u) :: addP r b t) = (u : Rat) / (c : Rat) + sumv r + (t : Rat) / (b : Rat)
    by_cases e : c = b
    · rw [if_pos e]
      show ((u + t : Int) : Rat) / (c : Rat) + sumv r = _
      rw [Rat.intCast_add, add_div, e]
      grind
    · rw [if_neg e]
      show (u : Rat) / (c : Rat) + sumv (addP r b t) = _
      rw [sumv_add r b t]
      grind
theorem sumv_snoc : ∀ (ps : List (Int × Int)) (p : Int × Int), sumv (ps ++ [p]) = sumv ps + (p.2 : Rat) / (p.1 : Rat)
  | [], p => by show (p.2 : Rat) / (p.1 : Rat) + 0 = 0 + _; grind
  | q :: r, p => by
    show (q.2 : Rat) / (q.1 : Rat) + sumv (r ++ [p]) = (q.2 : Rat) / (q.1 : Rat) + sumv r + _
    rw [sumv_snoc r p]; grind
structure PsOk (n i : Nat) (ps : List (Int × Int)) : Prop where
  nd : (ps.map (·.1)).Nodup
  len : ps.length ≤ i
  bot : ∀ p ∈ ps, 0 < p.1 ∧ p.1.natAbs < 2 ^ n
  top : ∀ p ∈ ps, p.2.natAbs ≤ i * 2 ^ n
theorem add_keys : ∀ (ps : List (Int × Int)) (b t : Int) (c : Int), c ∈ (addP ps b t).map (·.1) ↔ c ∈ ps.map (·.1) ∨ c = b
  | [], b, t, c => by simp [addP]
  | (d, u) :: r, b, t, c => by
    show c ∈ (if d = b then (d, u + t) :: r else (d, u) :: addP r b t).map (·.1) ↔ _
    by_cases e : d = b
    · rw [if_pos e]
      constructor
      · intro h; exact .inl h
      · rintro (h | h)
        · exact h
        · exact List.mem_cons.mpr (.inl (h.trans e.symm))
    · rw [if_neg e, List.map_cons, List.map_cons, List.mem_cons, List.mem_cons, add_keys r b t c]
      exact or_assoc.symm
theorem add_nd : ∀ (ps : List (Int × Int)) (b t : Int), (ps.map (·.1)).Nodup → ((addP ps b t).map (·.1)).Nodup
  | [], b, t, _ => by simp [addP]
  | (d, u) :: r, b, t, nd => by
    have nd' := List.nodup_cons.mp nd
    show ((if d = b then (d, u + t) :: r else (d, u) :: addP r b t).map (·.1)).Nodup
    by_cases e : d = b
    · rw [if_pos e]; exact nd
    · rw [if_neg e, List.map_cons, List.nodup_cons]
      refine ⟨fun z => ?_, add_nd r b t nd'.2⟩
      rcases (add_keys r b t d).mp z with h | h
      · exact nd'.1 h
      · exact e h
theorem add_len : ∀ (ps : List (Int × Int)) (b t : Int), (addP ps b t).length ≤ ps.length + 1
  | [], b, t => Nat.le_refl 1
  | (d, u) :: r, b, t => by
    show (if d = b then (d, u + t) :: r else (d, u) :: addP r b t).length ≤ _
    split
    · exact Nat.le_succ _
    · exact Nat.succ_le_succ (add_len r b t)
theorem add_top : ∀ (ps : List (Int × Int)) (b t : Int) (M N : Nat), (∀ p ∈ ps, p.2.natAbs ≤ M) → t.natAbs ≤ N → ∀ p ∈ addP ps b t, p.2.natAbs ≤ M + N
  | [], b, t, M, N, _, ht, p, hp => by
    have e : p = (b, 0 + t) := by simpa [addP] using hp
    rw [e]
    show (0 + t).natAbs ≤ M + N
    omega
  | (d, u) :: r, b, t, M, N, h, ht, p, hp => by
    have hu : u.natAbs ≤ M := h (d, u) List.mem_cons_self
    have hr : ∀ q ∈ r, q.2.natAbs ≤ M := fun q hq => h q (List.mem_cons_of_mem _ hq)
    have hp' : p ∈ (if d = b then (d, u + t) :: r else (d, u) :: addP r b t) := hp
    split at hp'
    · rcases List.mem_cons.mp hp' with e | e
      · rw [e]
        show (u + t).natAbs ≤ M + N
        omega
      · have := hr p e
        omega
    · rcases List.mem_cons.mp hp' with e | e
      · rw [e]
        show u.natAbs ≤ M + N
        omega
      · exact add_top r b t M N hr ht p e
theorem PsOk.add {n i : Nat} {ps : List (Int × Int)} (h : PsOk n i ps) {r : R} (w : Wf n r) : PsOk n (i + 1) (addP ps r.2 r.1) where
  nd := add_nd ps r.2 r.1 h.nd
  len := Nat.le_trans (add_len ps r.2 r.1) (Nat.succ_le_succ h.len)
  bot := fun p hp => by
    rcases (add_keys ps r.2 r.1 p.1).mp (List.mem_map.mpr ⟨p, hp, rfl⟩) with z | z
    · obtain ⟨q, hq, e⟩ := List.mem_map.mp z
      rw [← e]
      exact h.bot q hq
    · rw [z]; exact ⟨w.pos, w.bot⟩
  top := fun p hp => by
    have := add_top ps r.2 r.1 (i * 2 ^ n) (2 ^ n) h.top (Nat.le_of_lt w.top) p hp
    rw [Nat.add_mul, Nat.one_mul]
    exact this
theorem PsOk.nil (n : Nat) : PsOk n 0 [] := ⟨List.nodup_nil, Nat.le_refl _, (fun _ h => nomatch h), (fun _ h => nomatch h)⟩
theorem PsOk.wf {n i : Nat} {ps : List (Int × Int)} (h : PsOk n i ps) (hi : i ≤ 255) {p : Int × Int} (hp : p ∈ ps) : Wf (n + 8) (mkR p.2 p.1) := by
  refine mkR_wf (h.bot p hp).1 ?_ (Nat.lt_of_lt_of_le (h.bot p hp).2 (Nat.pow_le_pow_right (by decide) (by omega)))
  have a := h.top p hp
  have b : i * 2 ^ n ≤ 255 * 2 ^ n := Nat.mul_le_mul_right _ hi
  have c : 0 < 2 ^ n := Nat.pow_pos (by decide)
  rw [Nat.pow_add]
  omega
def vsum : List R → Rat
  | [] => 0
  | r :: t => val r + vsum t
theorem vsum_snoc : ∀ (rs : List R) (r : R), vsum (rs ++ [r]) = vsum rs + val r
  | [], r => by show val r + 0 = 0 + val r; grind
  | q :: t, r => by show val q + vsum (t ++ [r]) = val q + vsum t + val r; rw [vsum_snoc t r]; grind
theorem val_fold : ∀ (rs : List R) (acc : R), Red acc → (∀ r ∈ rs, Red r) → Red (rs.foldl plusR acc) ∧ val (rs.foldl plusR acc) = val acc + vsum rs
  | [], acc, ha, _ => ⟨ha, by show val acc = val acc + 0; grind⟩
  | r :: t, acc, ha, h => by
    have hr := h r List.mem_cons_self
    obtain ⟨a, b⟩ := val_fold t (plusR acc r) (plus_red ha hr) fun q hq => h q (List.mem_cons_of_mem _ hq)
    refine ⟨a, ?_⟩
    rw [List.foldl_cons, b, val_plus ha.pos hr.pos]
    show val acc + val r + vsum t = val acc + (val r + vsum t)
    grind
theorem val_nought : val (0, 1) = 0 := by decide +kernel
theorem red_nought : Red (0, 1) := ⟨by decide, by decide⟩
theorem val_sum {rs : List R} (h : ∀ r ∈ rs, Red r) : Red (sumR rs) ∧ val (sumR rs) = vsum rs := by
  obtain ⟨a, b⟩ := val_fold rs (0, 1) red_nought h
  refine ⟨a, b.trans ?_⟩
  rw [val_nought]; grind
theorem sum_is {rs : List R} {x : R} (h : ∀ r ∈ rs, Red r) (hx : Red x) (e : val x = vsum rs) : x = sumR rs :=
  val_inj hx (val_sum h).1 (e.trans (val_sum h).2.symm)
theorem Wf.red {n : Nat} {r : R} (h : Wf n r) : Red r := ⟨h.pos, h.cop⟩
theorem sum_wf' (n : Nat) : ∀ (rs : List R) (m : Nat) (acc : R), Wf m acc → (∀ r ∈ rs, Wf n r) → Wf (m + (n + 1) * rs.length) (rs.foldl plusR acc)
  | [], m, acc, ha, _ => ha
  | r :: t, m, acc, ha, h => by
    refine (sum_wf' n t (m + n + 1) (plusR acc r) (plus_wf ha (h r List.mem_cons_self)) fun q hq => h q (List.mem_cons_of_mem _ hq)).mono ?_
    rw [List.length_cons, Nat.mul_succ]
    omega
theorem sum_wfN {n : Nat} {rs : List R} (h : ∀ r ∈ rs, Wf n r) : Wf (1 + (n + 1) * rs.length) (sumR rs) := sum_wf' n rs 1 (0, 1) zero_wf h
end B

namespace B
open PySem PySem.Spec L2 PyProof.Rows
/-! ### the same rules, each promise kept in a box, so that nothing is unfolded while terms are read -/
structure QE (X : Cx) (e : Expr) (t : TE) : Prop where
  p : PE X e t
structure QT (X : Cx) (e : Expr) (t : TT) : Prop where
  p : PT X e t
structure QW (X : Cx) (e : Expr) (t : TT) : Prop where
  p : PW X e t
structure QA (X : Cx) (es : List Expr) (t : TA) : Prop where
  p : PA X es t
structure QS (X : Cx) (st : Stmt) (t : TS) : Prop where
  p : PS X st t
structure QSs (X : Cx) (st : List Stmt) (t : TS) : Prop where
  p : PSs X st t
structure QI (X : Cx) (tg iter : Expr) (wi : TI) : Prop where
  p : PI X tg iter wi
structure QG (X : Cx) (target : Expr) (t : TG) : Prop where
  p : PG X target t
structure QGs (X : Cx) (ts : List Expr) (t : TGs) : Prop where
  p : PGs X ts t
theorem QSs.ok {X : Cx} {b : List Stmt} {t : TS} {D : Ends} {σ : L2.St} {H : Hp} (h : QSs X b t) (r : t D σ H) : ∃ t : TS, PSs X b t ∧ t D σ H := ⟨t, h.p, r⟩
structure QO (X : Cx) (o : Option Expr) (t : L2.TO) : Prop where
  p : PO X o t
section
set_option autoImplicit true
set_option relaxedAutoImplicit true
theorem qv  (i : Nat) {x : Str} {pos : Pos} (hN : X.N[i]? = some x := by rfl) (hv : Vis X.env.scope x := by first | exact Or.inl rfl | exact Or.inr (Or.inl rfl) | exact Or.inr (Or.inr rfl)) (hd : (x == ("__debug__" : Str)) = false := by decide) (hcd : (x == ("__classdict__" : Str)) = false := by decide) : QE X (.Name x pos) (tVar i) := ⟨pv i hN hv hd hcd⟩
theorem qe_int  {i j pos} : QE X (.Constant (.int i) j pos) (tC (.int i)) := ⟨pe_int ⟩
theorem qe_bl  {b j pos} : QE X (.Constant (.bool b) j pos) (tC (.bl b)) := ⟨pe_bl ⟩
theorem qe_non  {j pos} : QE X (.Constant .none j pos) (tC .non) := ⟨pe_non ⟩
theorem qe_glob  {x : Str} {v : V} {u : Value} {pos : Pos} (hg : Gl X x) (hm : X.mg x = some u) (r : RelV v u) (hd : (x == ("__debug__" : Str)) = false := by decide) : QE X (.Name x pos) (tC v) := ⟨pe_glob hg hm r hd⟩
theorem qe_un  {op : UnaryOp} {r : V → Hp → VK → Prop} (ho : UnR X (unaryOp op) r) (ha : QE X a ta) : QE X (.UnaryOp op a pos) (tUn r ta) := ⟨pe_un ho ha.p⟩
theorem qe_op  {op : Operator} {r : R2} (ho : OpR X (binaryOp op) r) (ha : QE X a ta) (hb : QE X b tb) : QE X (.BinOp a op b pos) (tOp r ta tb) := ⟨pe_op ho ha.p hb.p⟩
theorem qe_cmpR  {op : CmpOp} {r : R2} (ho : OpR X (compareOp op) r) (ha : QE X a ta) (hb : QE X b tb) (hm : behindInMarks op b = false) : QE X (.Compare a [op] [b] pos) (tOp r ta tb) := ⟨pe_cmpR ho ha.p hb.p hm⟩
theorem qe_chain  {op op' : CmpOp} {r r' : R2} (ho : OpR X (compareOp op) r) (ho' : OpR X (compareOp op') r') (ha : QE X a ta) (hb : QE X b tb) (hc : QE X c tc) (hm : lastMarks [op, op'] [b, c] = false := by with_unfolding_all rfl) : QE X (.Compare a [op, op'] [b, c] pos) (tChain r r' ta tb tc) := ⟨pe_chain ho ho' ha.p hb.p hc.p hm⟩
theorem qe_ifExp  {c : Expr} (hc : QT X c tA) (ha : QE X a ta) (hb : QE X b tb) : QE X (.IfExp c a b pos) (tIf tA ta tb) := ⟨pe_ifExp hc.p ha.p hb.p⟩
theorem qe_lst  (h : QA X es t) : QE X (.List es pos) (tLst t) := ⟨pe_lst h.p⟩
theorem qe_tup  {x1} (h : QA X es t) : QE X (.Tuple es x1 pos) (tTup t) := ⟨pe_tup h.p⟩
theorem qe_slice {lo hi : Option Expr} {r : V → Option Int → Option Int → Hp → VK → Prop} (hr : SlR X r) (he : QE X e te) (hl : QO X lo tl) (hu : QO X hi th) : QE X (.Subscript e (.Slice lo hi none p2) pos) (tSl r te tl th) := ⟨pe_slice hr he.p hl.p hu.p⟩
theorem qo_none   : QO X none tNoPart := ⟨po_none ⟩
theorem qo_some  (h : QE X e te) : QO X (some e) (tPart te) := ⟨po_some h.p⟩
theorem qe_ix  {r : R2} (hr : IxR X r) (ha : QE X a ta) (hb : QE X b tb) (hs : PlainIx b) : QE X (.Subscript a b pos) (tOp r ta tb) := ⟨pe_ix hr ha.p hb.p hs⟩
theorem qe_call  (F : FnOk X.prog X.w X.K X.mg X.base CX k f fd ps sp) (hr : Room k X.A) (hg : Gl X x) (hm : X.mg x = some (.ref f)) (hk : PySem.W.keepIn X.K (.ref f) = true) (hb : Binds X.K fd ps ds) (hd : Vals dvs ds) (hx : Passes CX X E) (ha : QA X (e :: es) t) (hdb : (x == ("__debug__" : Str)) = false := by decide) (he : starEach (e :: es) X.env = (false, eval e X.env) :: starEach es X.env := by rfl) (hpl : (backTo pos (starEach es X.env)).any (·.1) = false := by rfl) : QE X (.Call (.Name x p) (e :: es) [] pos) (tCall sp dvs E t) := ⟨pe_call F hr hg hm hk hb hd hx ha.p hdb he hpl⟩
theorem qe_callB {id : String} (hc : CallR X (.builtin id) r) (hg : Gl X x) (hm : X.mg x = none) (hv : bootBuiltins x = some (.builtin id)) (ha : QA X (e :: es) t) (hn : x ≠ "__name__" := by decide) (hdb : (x == ("__debug__" : Str)) = false := by decide) (he : starEach (e :: es) X.env = (false, eval e X.env) :: starEach es X.env := by rfl) (hpl : (backTo pos (starEach es X.env)).any (·.1) = false := by rfl) : QE X (.Call (.Name x p) (e :: es) [] pos) (tCB r t) := ⟨pe_callB hc hg hm hv ha.p hn hdb he hpl⟩
theorem qe_callTy  (hc : CallR X (.type T) r) (hg : Gl X x) (hm : X.mg x = none) (hv : bootBuiltins x = some (.type T)) (ha : QA X (e :: es) t) (hn : x ≠ "__name__" := by decide) (hdb : (x == ("__debug__" : Str)) = false := by decide) (he : starEach (e :: es) X.env = (false, eval e X.env) :: starEach es X.env := by rfl) (hpl : (backTo pos (starEach es X.env)).any (·.1) = false := by rfl) : QE X (.Call (.Name x p) (e :: es) [] pos) (tCB r t) := ⟨pe_callTy hc hg hm hv ha.p hn hdb he hpl⟩
theorem qe_bm {id : String} (pa : PlainAttrs T) (slot : Slot T name id) (hty : typeOf (.builtin id) = pure (.type "method_descriptor")) (hm : MtR X id r) (ho : QE X o to) (ha : QA X (e :: es) t) (hbase : attributeBase o name X.env (eval o X.env) = eval o X.env := by rfl) (hfew : ((backTo cpos (starEach (e :: es) X.env)).all (fun x => !x.1) && (backToKw cpos (keywordEach [] X.env)).all (fun x => x.1.isSome)
      && decide ((e :: es).length + ([] : List Keyword).length + (if ([] : List Keyword).isEmpty then 0 else 1) < 30)) = true := by rfl) (hline : (apos.endLine == cpos.line) = true := by rfl) (hs : starEach (e :: es) X.env = (false, eval e X.env) :: starEach es X.env := by rfl) (hplain : (backTo cpos (starEach es X.env)).any (·.1) = false := by rfl) : QE X (.Call (.Attribute o name apos) (e :: es) [] cpos) (tBM X.K T r to t) := ⟨pe_bm pa slot hty hm ho.p ha.p hbase hfew hline hs hplain⟩
theorem qa_nil   : QA X [] tNil := ⟨pa_nil ⟩
theorem qa_cons  (ha : QE X e te) (hr : QA X es t) (hs : starEach (e :: es) X.env = (false, eval e X.env) :: starEach es X.env := by rfl) : QA X (e :: es) (tCons te t) := ⟨pa_cons ha.p hr.p hs⟩
theorem qt_cmpR  {op : CmpOp} {r : R2} (ho : OpR X (compareOp op) r) (ha : QE X a ta) (hb : QE X b tb) (hm : behindInMarks op b = false) : QT X (.Compare a [op] [b] pos) (tTest (tOp r ta tb)) := ⟨pt_cmpR ho ha.p hb.p hm⟩
theorem qt_val  {e : Expr} {t : TE} (h : QE X e t) (he : ∀ whole, isTrue e X.env whole = (do let v ← whole; standAt e.pos; holding [v] (truthy v)) := by intro _; rfl) : QT X e (tB t) := ⟨pt_val h.p he⟩
theorem qt_not  (ha : QT X a tA) : QT X (.UnaryOp .Not a pos) (tNot tA) := ⟨pt_not ha.p⟩
theorem qw_and {rest : List Expr} (ha : QT X a tA) (hb : QW X (.BoolOp .And (b :: rest) pos) tB') : QW X (.BoolOp .And (a :: b :: rest) pos) (tAnd tA tB') := ⟨pw_and ha.p hb.p⟩
theorem qw_and1  (ha : QT X a tA) : QW X (.BoolOp .And [a] pos) tA := ⟨pw_and1 ha.p⟩
theorem qw_or {rest : List Expr} (ha : QT X a tA) (hb : QW X (.BoolOp .Or (b :: rest) pos) tB') : QW X (.BoolOp .Or (a :: b :: rest) pos) (tOr tA tB') := ⟨pw_or ha.p hb.p⟩
theorem qw_or1  (ha : QT X a tA) : QW X (.BoolOp .Or [a] pos) tA := ⟨pw_or1 ha.p⟩
theorem qw_pt  {X : Cx} {e : Expr} {t : TT} (h : QW X e t) : QT X e t := ⟨PW.pt h.p⟩
theorem qs_set  {i : Nat} {x : Str} {e : Expr} {te : TE} {pos' : Pos} (hN : X.N.Nodup) (hi : X.N[i]? = some x) (hx : Loc X.env.scope x) (he : QE X e te) (hs : swapsWith e (some (.Name x pos')) pos.line X.env = pure false := by rfl) (hf : X.fn x = true ∨ X.env.scope.names.lookup x = some .local := by first | exact .inl rfl | exact .inr rfl | assumption) : QS X (.Assign [.Name x pos'] e pos) (tAsg te (gName i)) := ⟨ps_set hN hi hx he.p hs hf⟩
theorem qs_par  {i j : Nat} {x y : Str} {a b : Expr} {ta : TA} {px py pt : Pos} {kt k2 pt2} (hc : X.calm = true) (hN : X.N.Nodup) (hi : X.N[i]? = some x) (hj : X.N[j]? = some y) (hij : i ≠ j) (hx : X.env.scope.names.lookup x = some .local) (hy : X.env.scope.names.lookup y = some .local) (ha : QA X [a, b] ta) (hw : swappedStores [.Tuple [.Name x px, .Name y py] kt pt] (.Tuple [a, b] k2 pt2) X.env = pure (some [x, y])) (hs : swapsWithSole [.Tuple [.Name x px, .Name y py] kt pt] (.Tuple [a, b] k2 pt2) pos.line X.env = pure false := by rfl) : QS X (.Assign [.Tuple [.Name x px, .Name y py] kt pt] (.Tuple [a, b] k2 pt2) pos) (tPar i j ta) := ⟨ps_par hc hN hi hj hij hx hy ha.p hw hs⟩
theorem qs_asg  {tg e : Expr} {te : TE} {g : TG} (he : QE X e te) (hg : QG X tg g) (hs : swapsWithSole [tg] e pos.line X.env = pure false := by rfl) (hw : swappedStores [tg] e X.env = pure none := by rfl) (h1 : (assignEach [tg] X.env).map (·.2) = [assign tg X.env] := by rfl) : QS X (.Assign [tg] e pos) (tAsg te g) := ⟨ps_asg he.p hg.p hs hw h1⟩
theorem qs_aug  {i : Nat} {x : Str} {e : Expr} {te : TE} {op : Operator} {ti : TIp} {pos' : Pos} (hN : X.N.Nodup) (hi : X.N[i]? = some x) (hx : Loc X.env.scope x) (he : QE X e te) (ho : PIp X op ti) (hf : X.fn x = true ∨ X.env.scope.names.lookup x = some .local := by first | exact .inl rfl | exact .inr rfl | assumption) : QS X (.AugAssign (.Name x pos') op e pos) (tAug i te ti) := ⟨ps_aug hN hi hx he.p ho hf⟩
theorem qs_if  {c : Expr} {a b : List Stmt} {tc : TT} (hc : QT X c tc) (ha : QSs X a t) (hb : QSs X b u) : QS X (.If c a b pos) (tIfS tc t u) := ⟨ps_if hc.p ha.p hb.p⟩
theorem qs_while  {c : Expr} {body : List Stmt} {tc : TT} {tb : TS} (hp : PassesOwn (model X.prog X.w) X.A X.env X.xe) (hc : QT X c tc) (hb : QSs X body tb) : QS X (.While c body [] pos) (tWhile tc tb) := ⟨ps_while hp hc.p hb.p⟩
theorem qs_for  {iter : Expr} {body : List Stmt} {wi : TI} {g : TG} {tb : TS} {pos : Pos} (hp : PassesOwn (model X.prog X.w) X.A X.env X.xe) (hc : X.calm = true) (hi : QI X tg iter wi) (hg : QG X tg g) (hb : QSs X body tb) (hs : ∀ x, foldedSetIterable iter X.env x = pure x := by intro _; rfl) : QS X (.For tg iter body [] pos) (tFor wi g tb) := ⟨ps_for hp hc hi.p hg.p hb.p hs⟩
theorem qs_ret  (he : QE X e te) : QS X (.Return (some e) pos) (tRet te) := ⟨ps_ret he.p⟩
theorem qs_expr  (he : QE X e te) (hs : swapsWith e none pos.line X.env = pure false := by rfl) : QS X (.Expr e pos) (tDrop te) := ⟨ps_expr he.p hs⟩
theorem qs_never {st : Stmt}  : QS X st tNever := ⟨ps_never ⟩
theorem qss_nil   : QSs X [] tNext := ⟨pss_nil ⟩
theorem qss_one {st : Stmt} (h1 : QS X st t) : QSs X [st] t := ⟨pss_one h1.p⟩
theorem qss_cons {st : Stmt} {rest : List Stmt} (h1 : QS X st t) (h2 : QSs X rest u) : QSs X (st :: rest) (tSeq t u) := ⟨pss_cons h1.p h2.p⟩
theorem qi_range1  {a : Expr} {ta : TA} {p pos : Pos} (hg : Gl X "range") (hm : X.mg "range" = none) (ha : QA X [a] ta) (hs : starEach [a] X.env = [(false, eval a X.env)] := by rfl) : QI X tg (.Call (.Name "range" p) [a] [] pos) (iRng1 ta) := ⟨pi_range1 hg hm ha.p hs⟩
theorem qi_list {tg : Expr} {l : Expr} {tl : TE} (hl : QE X l tl) : QI X tg l (iList X.K tl) := ⟨pi_list hl.p⟩
theorem qi_tup  {l : Expr} {tl : TE} (hl : QE X l tl) : QI X tg l (iTup X.K tl) := ⟨pi_tup hl.p⟩
theorem qg_name  {i : Nat} {x : Str} (hN : X.N.Nodup) (hi : X.N[i]? = some x) (hx : Loc X.env.scope x) (hf : X.fn x = true ∨ X.env.scope.names.lookup x = some .local := by first | exact .inl rfl | exact .inr rfl | assumption) : QG X (.Name x pos) (gName i) := ⟨pg_name hN hi hx hf⟩
theorem qg_tup  {es : List Expr} {k : Nat} {t : TGs} {n : Nat} (hc : X.calm = true) (h : QGs X es t) (hn : (assignEach es X.env).length = n := by rfl) (hst : (assignEach es X.env).findIdx? (·.1) = none := by rfl) : QG X (.Tuple es k pos) (gTup X.K n t) := ⟨pg_tup hc h.p hn hst⟩
theorem qg_sub  {o i : Expr} {to ti : TE} {t : TSet} (ho : QE X o to) (hi : QE X i ti) (hs : PSet X t) (ha : ∀ v, assign (.Subscript o i pos) X.env v = (do
      let ov ← holding [v] (eval o X.env)
      let iv ← holding [v, ov] (eval i X.env)
      standAt pos
      holding [v, ov, iv] (setItem ov iv v)
      release [v, ov, iv] []) := by intro _; rfl) : QG X (.Subscript o i pos) (gSub to ti t) := ⟨pg_sub ho.p hi.p hs ha⟩
theorem qgs_nil   : QGs X [] gNil := ⟨pgs_nil ⟩
theorem qgs_cons  {e : Expr} {es : List Expr} {t : TG} {u : TGs} (h1 : QG X e t) (h2 : QGs X es u) (hs : (assignEach (e :: es) X.env).map (·.2) = assign e X.env :: (assignEach es X.env).map (·.2) := by rfl) : QGs X (e :: es) (gCons t u) := ⟨pgs_cons h1.p h2.p hs⟩
end
end B

namespace B
open PySem PySem.Spec L2 PyProof.Rows
structure QTs (X : Cx) (ifs : List Expr) (t : TT) : Prop where
  p : PTs X ifs t
section
set_option autoImplicit true
set_option relaxedAutoImplicit true
theorem qts_nil  {X : Cx} : QTs X [] tYes := ⟨pts_nil ⟩
theorem qts_one  {X : Cx} {c : Expr} {t : TT} (h : QT X c t) : QTs X [c] t := ⟨pts_one h.p⟩
theorem qe_lcomp  (hc : X.calm = true) (hi : QI X tg iter wi) (hg : ∀ C fp pins s H, QG (cxC X N' scope cl C fp pins s H) tg g) (ht : ∀ C fp pins s H, QTs (cxC X N' scope cl C fp pins s H) ifs tt) (he : ∀ C fp pins s H, QE (cxC X N' scope cl C fp pins s H) elt te) (hfree : FreeOk X scope cl N' src) (hclos : closureFor scope X.env = pure cl) (hcell : ∀ x ∈ scope.names, x.2 ≠ .cell) (hkind : scope.kind = .function) (hnames : ∀ x ∈ scope.names, x.2 = .local → scope.names.lookup x.1 = some .local) (hcl : CellsOk X scope cl) (hs : ∀ x, foldedSetIterable iter X.env x = pure x := by intro _; rfl) : QE X (.ListComp elt [⟨tg, iter, ifs, 0⟩] scope pos) (tComp wi src g tt te) := ⟨pe_lcomp hc hi.p (fun z0 z1 z2 z3 z4 => (hg z0 z1 z2 z3 z4).p) (fun z0 z1 z2 z3 z4 => (ht z0 z1 z2 z3 z4).p) (fun z0 z1 z2 z3 z4 => (he z0 z1 z2 z3 z4).p) hfree hclos hcell hkind hnames hcl hs⟩
theorem qs_setC  {i : Nat} {x : Str} {pos' pos2 : Pos} (hN : X.N.Nodup) (hi' : X.N[i]? = some x) (hx : Loc X.env.scope x) (hc : X.calm = true) (hi : QI X tg iter wi) (hg : ∀ C fp pins s H, QG (cxC X N' scope cl C fp pins s H) tg g) (ht : ∀ C fp pins s H, QTs (cxC X N' scope cl C fp pins s H) ifs tt) (he : ∀ C fp pins s H, QE (cxC X N' scope cl C fp pins s H) elt te) (hfree : FreeOk X scope cl N' src) (hclos : closureFor scope X.env = pure cl) (hcell : ∀ x ∈ scope.names, x.2 ≠ .cell) (hkind : scope.kind = .function) (hnames : ∀ x ∈ scope.names, x.2 = .local → scope.names.lookup x.1 = some .local) (hcl : CellsOk X scope cl) (hs : ∀ x, foldedSetIterable iter X.env x = pure x := by intro _; rfl) (hsw : swapsWith (.ListComp elt [⟨tg, iter, ifs, 0⟩] scope pos) (some (.Name x pos')) pos2.line X.env = pure true := by rfl) (hf : X.fn x = true ∨ X.env.scope.names.lookup x = some .local := by first | exact .inl rfl | exact .inr rfl | assumption) : QS X (.Assign [.Name x pos'] (.ListComp elt [⟨tg, iter, ifs, 0⟩] scope pos) pos2) (tAsg (tComp wi src g tt te) (gName i)) := ⟨ps_setC hN hi' hx hc hi.p (fun z0 z1 z2 z3 z4 => (hg z0 z1 z2 z3 z4).p) (fun z0 z1 z2 z3 z4 => (ht z0 z1 z2 z3 z4).p) (fun z0 z1 z2 z3 z4 => (he z0 z1 z2 z3 z4).p) hfree hclos hcell hkind hnames hcl hs hsw hf⟩
end
end B

namespace B
open PySem PySem.Spec L2 PyProof.Rows
/-! ### rules with K spelt out (within a comprehension) -/
section
variable {X : Cx} {K : PySem.W.Frag}
theorem pg_tupK {es : List Expr} {k : Nat} {t : TGs} {n : Nat} {pos : Pos} (hK : X.K = K) (hc : X.calm = true) (h : PGs X es t)
    (hn : (assignEach es X.env).length = n := by rfl) (hst : (assignEach es X.env).findIdx? (·.1) = none := by rfl) : PG X (.Tuple es k pos) (gTup K n t) := hK ▸ pg_tup hc h hn hst
theorem ix_tupK (hK : X.K = K) : IxR X (rIxT K) := hK ▸ ix_tup
theorem ix_listK (hK : X.K = K) : IxR X (rIxL K) := hK ▸ ix_list
def rLen (K : PySem.W.Frag) : List V → Hp → VK → Prop := fun xs H Q => ∃ p ys, xs = [.ref p] ∧ (SqL K H p ys ∨ SqT K H p ys) ∧ Q (.int ys.length) H
end
theorem star_bin {a b : Expr} {op : Operator} {pos : Pos} {es : List Expr} {env : Env} : starEach (.BinOp a op b pos :: es) env = (false, eval (.BinOp a op b pos) env) :: starEach es env := rfl
/-! ### a loop over zip -/
end B

namespace B
open PySem
/-! ### arguments that are no starred ones, by their kind -/
section
variable {es : List Expr} {env : Env}
theorem star_tup {a b c} : starEach (.Tuple a b c :: es) env = (false, eval (.Tuple a b c) env) :: starEach es env := rfl
theorem star_sub {a b c} : starEach (.Subscript a b c :: es) env = (false, eval (.Subscript a b c) env) :: starEach es env := rfl
theorem star_call {a b c d} : starEach (.Call a b c d :: es) env = (false, eval (.Call a b c d) env) :: starEach es env := rfl
theorem star_name {a b} : starEach (.Name a b :: es) env = (false, eval (.Name a b) env) :: starEach es env := rfl
theorem star_con {a b c} : starEach (.Constant a b c :: es) env = (false, eval (.Constant a b c) env) :: starEach es env := rfl
theorem star_un {a b c} : starEach (.UnaryOp a b c :: es) env = (false, eval (.UnaryOp a b c) env) :: starEach es env := rfl
theorem star_lc {a b c d} : starEach (.ListComp a b c d :: es) env = (false, eval (.ListComp a b c d) env) :: starEach es env := rfl
theorem star_if {a b c d} : starEach (.IfExp a b c d :: es) env = (false, eval (.IfExp a b c d) env) :: starEach es env := rfl
end
end B

namespace B
open PySem L2 PyProof.Rows
/-! ### things one by one -/
inductive Als {α : Type} (P : V → α → Prop) : List V → List α → Prop where
  | nil : Als P [] []
  | cons {x : V} {d : α} {xs : List V} {ds : List α} (h : P x d) (t : Als P xs ds) : Als P (x :: xs) (d :: ds)
theorem Als.len {α : Type} {P : V → α → Prop} : ∀ {xs : List V} {ds : List α}, Als P xs ds → xs.length = ds.length
  | _, _, .nil => rfl
  | _, _, .cons _ t => congrArg (· + 1) t.len
theorem Als.mono {α : Type} {P P' : V → α → Prop} (m : ∀ v d, P v d → P' v d) : ∀ {xs : List V} {ds : List α}, Als P xs ds → Als P' xs ds
  | _, _, .nil => .nil
  | _, _, .cons h t => .cons (m _ _ h) (t.mono m)
theorem Als.snoc {α : Type} {P : V → α → Prop} {x : V} {d : α} (k : P x d) : ∀ {xs : List V} {ds : List α}, Als P xs ds → Als P (xs ++ [x]) (ds ++ [d])
  | _, _, .nil => .cons k .nil
  | _, _, .cons h t => .cons h (t.snoc k)
theorem Als.at {α : Type} {P : V → α → Prop} : ∀ {xs : List V} {ds : List α}, Als P xs ds → ∀ {i : Nat} {x : V}, xs[i]? = some x → ∃ d, ds[i]? = some d ∧ P x d
  | _, _, .cons h _, 0, x, e => by
    rw [List.getElem?_cons_zero] at e
    cases e
    exact ⟨_, rfl, h⟩
  | _, _, .cons _ t, i + 1, x, e => t.at (i := i) (by rw [List.getElem?_cons_succ] at e; exact e)
  | _, _, .nil, _, _, e => by cases e
/-! ### [text of x for x in t], t a tuple -/
/-! ### [thing drawn for k in range(n)] -/
end B

namespace B
open PySem PySem.Spec L2 PyProof.Rows
/-! ### comprehensions, the things around staying -/
end B

namespace B
open PySem PySem.Spec L2 PyProof.Rows
section
set_option autoImplicit true
set_option relaxedAutoImplicit true
theorem qi_seq  {X : Cx} {tg l : Expr} {tl : TE} (hl : QE X l tl) : QI X tg l (iSeq X.K tl) := ⟨pi_seq hl.p⟩
theorem qg_tupK {K : PySem.W.Frag} {es : List Expr} {k : Nat} {t : TGs} {n : Nat} {pos : Pos} (hK : X.K = K) (hc : X.calm = true) (h : QGs X es t) (hn : (assignEach es X.env).length = n := by rfl) (hst : (assignEach es X.env).findIdx? (·.1) = none := by rfl) : QG X (.Tuple es k pos) (gTup K n t) := ⟨pg_tupK hK hc h.p hn hst⟩
end
end B

namespace B
open PySem PySem.Spec L2 PyProof.Rows
section
set_option autoImplicit true
set_option relaxedAutoImplicit true
theorem qe_dnewK   : QE X (.Dict [] [] pos) tDNewK := ⟨pe_dnewK ⟩
theorem qe_dget2  (hu : X.A.units + 1 < cLine) (ho : QE X o td) (he : QE X e ty) (hf : QE X f tx) (m : M2 X o "get" apos e f cpos) : QE X (.Call (.Attribute o "get" apos) [e, f] [] cpos) (tDGet2 td ty tx) := ⟨pe_dget2 hu ho.p he.p hf.p m⟩
theorem qs_dput  (hu : X.A.units + 1 < cLine) (ho : QE X o td) (hi : QE X i ty) (hv : QE X value tv) (hs : swapsWith value (some (.Subscript o i pos')) pos.line X.env = pure false) : QS X (.Assign [.Subscript o i pos'] value pos) (sDPut td ty tv) := ⟨ps_dput hu ho.p hi.p hv.p hs⟩
theorem qi_items  {X : Cx} {elts : List Expr} {x1} {tp apos pos : Pos} {o : Expr} {td : TE} (ho : QE X o td) (hb : attributeBase o "items" X.env (eval o X.env) = eval o X.env := by rfl) (hl : (apos.endLine == pos.line) = true := by rfl) : QI X (.Tuple elts x1 tp) (.Call (.Attribute o "items" apos) [] [] pos) (iItems td) := ⟨pi_items ho.p hb hl⟩
end
end B

namespace B
open PySem PySem.Spec L2 PyProof.Rows
theorem draws_tup {prog : Program} {w : World} {A : Around} (hh : A.handled = none) (it a : Addr) (ne : a ≠ it) (items : Array Value) :
    Draws prog w A it [it, a] items.size (fun i v => items[i]? = some v) (fun i h => h.IsTupleIter it a i ∧ h.IsTuple a items) where
  live := fun _ _ st => let ⟨o, ho, _⟩ := st.1; ⟨o, ho⟩
  frame := fun _ _ _ st hk => ⟨tupIter_at st.1 fun o e => hk it (by simp) o e, tup_at st.2 fun o e => hk a (by simp) o e⟩
  item := fun i s Q E hi st hQ => by
    have hx : items[i]? = some (items[i]'hi) := Array.getElem?_eq_getElem hi
    exact nx_item st.1 st.2 hx fun h' i' sb => hQ _ h' s.toks hx ⟨i', tup_at st.2 fun o e => sb.extBut _ _ ne e⟩ sb
  done := fun s Q E st hE => nx_end hh st.1 st.2 (by simp) hE
theorem enum_newT (a : Addr) (xs : Array Value) : Meets (Builtin.«enumerate.__new__» ⟨[.type "enumerate", .ref a], []⟩) (fun _ R s => s.heap.IsTuple a xs ∧
      R (.ok (.ret (.ref (zA s.heap a).objs.size))) { s with heap := (zA s.heap a).push { cls := .type "enumerate", data := .fields #[.none, .bool false, .ref s.heap.objs.size, rawInt 0, .none, .none] } }) :=
  .of_wp fun prog w A R s h => by
    obtain ⟨hp, g, d, tk, os⟩ := s; obtain ⟨hl, h⟩ := h
    obtain ⟨⟨c, dct, dt, sl⟩, ho, hc, n, hd⟩ := id hl
    replace hc : c = .type "tuple" := hc
    replace hd : dt = .seq xs n := hd
    subst hc hd
    have hsub := sub_enumerate
    have L : Heap.IsTuple (Shared.heap ⟨hp, g, d, tk, os⟩) a xs := hl
    wp_walk using AutoSeq1.wpAny_loadPart' ho
    refine wpAny_stack_any fun st => wpAny_pure ?_
    split
    · rename_i c _ _ _ _ _
      cases (c == Value.type "enumerate")
      · wp_walk using AutoSeq1.wpAny_loadPart' ho, wpAny_pyIter_tuple L
        exact ⟨_, rfl, h⟩
      · wp_walk using AutoSeq1.wpAny_loadPart' ho, wpAny_pyIter_tuple L
        exact ⟨_, rfl, h⟩
    · wp_walk using AutoSeq1.wpAny_loadPart' ho, wpAny_pyIter_tuple L
      exact ⟨_, rfl, h⟩
theorem call_enumT {prog : Program} {w : World} {A : Around} {E : Value → Shared → Prop} {s : Shared} {a : Addr} {items : Array Value} {Q : Value → Shared → Prop} (hL : s.heap.IsTuple a items)
    (h : ∀ h', IsEnum h' (s.heap.objs.size + 1) s.heap.objs.size 0 .none → h'.IsTupleIter s.heap.objs.size a 0 → h'.objs.size = s.heap.objs.size + 2 →
      (∀ b o, s.heap.get? b = some o → h'.get? b = some o) → Q (.ref (s.heap.objs.size + 1)) { s with heap := h' }) :
    wpAny (model prog w) A (call (.type "enumerate") [.ref a]) Q E s := by
  refine callType_new F.called_enumerate (by decide) (F.typeCall_enumerate_1 _) (F.newCall_enumerate_1 _) (fun obj => F.args_object_init_2 obj _) F.entry_enumerate_new
    (enum_newT a items) ⟨hL, ?_⟩
  have hz : (zA s.heap a).objs.size = s.heap.objs.size + 1 := Heap.size_push ..
  show _ ∧ _
  rw [hz]
  have he : IsEnum ((zA s.heap a).push { cls := .type "enumerate", data := .fields #[.none, .bool false, .ref s.heap.objs.size, rawInt 0, .none, .none] }) (s.heap.objs.size + 1) s.heap.objs.size 0 .none := by
    have := Heap.get?_push_size (zA s.heap a) (o := { cls := .type "enumerate", data := .fields #[.none, .bool false, .ref s.heap.objs.size, rawInt 0, .none, .none] }) rfl
    rw [hz] at this; exact this
  refine ⟨⟨_, he, rfl⟩, h _ he ⟨_, Heap.get?_push_of_some _ (Heap.get?_push_size _ rfl), rfl, rfl⟩ (by rw [Heap.size_push, hz]) fun b o x => Heap.get?_push_of_some _ (Heap.get?_push_of_some _ x)⟩
theorem sqL_off {X : Cx} {pins : List (Addr × Obj)} {σ : L2.St} {H : Hp} {s : Shared} {a b : Addr} {xs : List V} (I : Inv X pins σ H s) (h : SqL X.K H a xs) (f : FpOk X pins H b) : a ≠ b := fun z => by
  subst z
  rcases h with (h | ⟨o, h⟩) | ⟨o, its, n, hk, _⟩
  · rw [f.1] at h; cases h
  · rw [f.1] at h; cases h
  · have e := I.ok.mod.kin a o hk
    rcases f.2.2.2.1 with z | z
    · exact I.ok.noex a o e z
    · rw [(I.ok.bs a o e).1] at z; cases z
theorem lstIter_at {h h' : Heap} {i a : Addr} {n : Nat} (x : h.IsListIter i a n) (k : ∀ o, h.get? i = some o → h'.get? i = some o) : h'.IsListIter i a n := x.at k

/-! ### enumerate(a tuple), walked -/
def IteT (K : PySem.W.Frag) (a : Addr) : It :=
  ⟨fun i H => ∃ xs x, SqT K H a xs ∧ xs[i]? = some x,
   fun i H v H' => ∃ p x, H p = none ∧ v = .ref p ∧ H' = upd H p (.tup [.int i, x]) ∧ ∀ xs, SqT K H a xs → xs[i]? = some x,
   fun i H => ∃ xs, SqT K H a xs ∧ xs.length ≤ i⟩
theorem turn_enT {P : Program} {w : World} {K : PySem.W.Frag} {elts : List Expr} {x1} {pos : Pos} {e it a : Addr} (hei : e ≠ it) :
    Turn P w K (.Tuple elts x1 pos) (IteT K a) [e, it] e (fun i h => (∃ old, IsEnum h e it (i : Nat) old) ∧ h.IsTupleIter it a i) where
  mem := by simp
  obj := fun i h st c hc => by
    obtain ⟨⟨old, h1⟩, ⟨o2, h2, c2, d2⟩⟩ := st
    simp only [List.mem_cons, List.not_mem_nil, or_false] at hc
    rcases hc with rfl | rfl
    · exact ⟨_, h1, fun v q => by cases (show Data.fields _ = Data.cell v from q)⟩
    · exact ⟨o2, h2, fun v q => by rw [d2] at q; cases q⟩
  keep := fun i h h' st k => by
    obtain ⟨⟨old, h1⟩, h2⟩ := st
    exact ⟨⟨old, k e (by simp) _ h1⟩, tupIter_at h2 fun o q => k it (by simp) o q⟩
  item := by
    intro X hP hw hK hc i pins s σ H E I hf st hg
    subst hP hw hK
    obtain ⟨xs, x, q1, hx⟩ := hg
    obtain ⟨its, rv, p1, z1⟩ := I.tuple q1
    obtain ⟨u, hu, ru⟩ := rv.get hx
    have off : ∀ c ∈ [e, it], a ≠ c := fun c hc => sqT_off I q1 (hf c hc)
    obtain ⟨⟨old, h1⟩, h2⟩ := st
    have hh : X.A.in1.handled = none := I.ok.hd hc
    have na : a ≠ it := off it (by simp)
    have ne : e ∉ [it, a] := fun q => by
      simp only [List.mem_cons, List.not_mem_nil, or_false] at q
      rcases q with q | q
      · exact hei q
      · exact off e (by simp) q.symm
    have hi : i < its.toArray.size := by have := (List.getElem?_eq_some_iff.mp hu).1; simpa using this
    have el : e < s.heap.objs.size := Heap.lt_size h1
    have il : it < s.heap.objs.size := by obtain ⟨o2, q2, _⟩ := h2; exact Heap.lt_size q2
    refine wpAny_pyNext_enum_itemD (draws_tup hh it a na its.toArray) h1 ⟨h2, p1⟩ hi hei ne fun v h' tk hv eo st' tup hz hk => ⟨_, rfl, wpAny_letOwnedTupleGo_enum eo fun h'' e2 sb => ?_⟩
    have ev : v = u := by
      have : its.toArray[i]? = some u := by simpa using hu
      rw [this] at hv
      exact (Option.some.inj hv).symm
    subst ev
    have nt : s.heap.objs.size ≠ e := Nat.ne_of_gt el
    have ni : s.heap.objs.size ≠ it := Nat.ne_of_gt il
    have P : ObjOk X.prog X.w (upd H s.heap.objs.size (.tup [.int i, x])) h'' s.heap.objs.size (.tup [.int i, x]) :=
      ⟨by show 2 ≤ sizeLine; decide, [.int i tk, v], .cons ⟨_, rfl⟩ (.cons ru .nil), ⟨_, sb.extBut _ _ nt tup, rfl, _, rfl⟩⟩
    have I2 : Inv X pins σ (upd H s.heap.objs.size (.tup [.int i, x])) { s with heap := h'', toks := tk + 1 } := turnedN I (fun c o' n q => by
      have n1 : c ≠ e := fun r => n (by simp [r])
      have n2 : c ≠ it := fun r => n (by simp [r])
      exact sb.extBut _ _ n1 (hk c o' n1 n2 q)) hf (Nat.le_refl _) P
    refine ⟨.ref s.heap.objs.size, _, I2, rfl, ⟨_, x, I.fresh, rfl, rfl, fun ys hy => by rw [I.tuple_inj hy q1]; exact hx⟩, ⟨⟨_, by simpa using e2⟩, tupIter_at st'.1 fun o q => sb.extBut _ _ hei.symm q⟩, fun c hc => ?_⟩
    have lt : c < s.heap.objs.size := by
      simp only [List.mem_cons, List.not_mem_nil, or_false] at hc
      rcases hc with rfl | rfl
      · exact el
      · exact il
    rw [upd_ne (Nat.ne_of_lt lt)]
    exact (hf c hc).1
  done := by
    intro X hP hw hK hc i pins s σ H E I hf st hg
    subst hP hw hK
    obtain ⟨xs, q1, hx⟩ := hg
    obtain ⟨its, rv, p1, z1⟩ := I.tuple q1
    have off : ∀ c ∈ [e, it], a ≠ c := fun c hc => sqT_off I q1 (hf c hc)
    obtain ⟨⟨old, h1⟩, h2⟩ := st
    have hh : X.A.in1.handled = none := I.ok.hd hc
    have hl := rv.length
    have nn : its.toArray[i]? = none := by rw [Array.getElem?_eq_none_iff]; simp; omega
    have hT : s.TypeIs (.ref e) "enumerate" := ⟨_, h1, rfl⟩
    unfold pyNext
    refine wpAny_bind (wpAny_attempt (wpAny_callSpecial?_slot (name := Str.ofString "__next__") hT F.slot_enumerate_next
      (wpAny_call_entry F.slot_enumerate_next hT F.entry_enumerate_next ?_ (F.args_enumerate_next_1 _))))
    show wpAny _ _ (field (.ref e) 2 >>= _) _ _ _
    refine wpAny_bind (wpAny_field h1 rfl (x := .ref it) rfl ?_)
    refine wpAny_bind (nx_end hh h2 p1 nn fun h' x he' hx' => ?_)
    obtain ⟨o, ho, hcl⟩ := hx'
    refine wpAny_bind (wpAny_isInstance (T := "StopIteration") (b := true) ⟨o, ho, hcl⟩ isSubtype_stop ?_)
    refine wpAny_pure ⟨rfl, ?_⟩
    exact turnedL (t' := s.toks) I (fun c o' n q => he' c o' (fun r => n (by simp [r])) q) hf
  self := fun A i s Q E st h => by
    obtain ⟨⟨old, h1⟩, _⟩ := st
    exact wpAny_pyIter_enum h1 h
def iEnT (K : PySem.W.Frag) (ta : TA) : TI := fun σ H R => ta σ H fun vs H1 => ∃ a, vs = [.ref a] ∧ (∃ xs, SqT K H1 a xs) ∧ R (IteT K a) H1
theorem pi_enum {X : Cx} {elts : List Expr} {x1} {tp p pos : Pos} {a : Expr} {ta : TA} (hg : Gl X "enumerate") (hm : X.mg "enumerate" = none) (ha : PA X [a] ta) (hs : starEach [a] X.env = [(false, eval a X.env)] := by rfl) :
    PI X (.Tuple elts x1 tp) (.Call (.Name "enumerate" p) [a] [] pos) (iEnT X.K ta) := by
  intro pins s σ H R I h
  refine Call_ (ld_blt I hg hm (show bootBuiltins "enumerate" = some (.type "enumerate") by kernel_rfl) (PyProof.Rows.callWith_type1 (thn (ha pos pins s σ H _ I h) fun us s1 ⟨vs, H1, I1, r1, q1⟩ => ?_) hs rfl))
  obtain ⟨a, e, ⟨xs, hx⟩, q⟩ := q1
  subst e
  obtain ⟨u, rfl, ru⟩ := r1.one
  cases ru
  obtain ⟨its, _, p1, _⟩ := I1.tuple hx
  refine call_enumT p1 fun h' he hi sz kk => wpAny_pyIter_enum he ?_
  have I2 : Inv X pins σ H1 { s1 with heap := h' } := I1.kept (t' := s1.toks) kk
  refine ⟨_, [s1.heap.objs.size + 1, s1.heap.objs.size], _, _, H1, rfl, I2, turn_enT (a := a) (Nat.succ_ne_self _), ⟨⟨_, he⟩, hi⟩, fun c hc => ?_, q⟩
  have le : s1.heap.objs.size ≤ c := by
    simp only [List.mem_cons, List.not_mem_nil, or_false] at hc
    rcases hc with h | h
    · rw [h]; exact Nat.le_succ _
    · rw [h]; exact Nat.le_refl _
  exact I1.fpOk le (I1.hok.fresh le)

/-! ### enumerate(a list), walked -/
def IteL (K : PySem.W.Frag) (a : Addr) : It :=
  ⟨fun i H => ∃ xs x, SqL K H a xs ∧ xs[i]? = some x,
   fun i H v H' => ∃ p x, H p = none ∧ v = .ref p ∧ H' = upd H p (.tup [.int i, x]) ∧ ∀ xs, SqL K H a xs → xs[i]? = some x,
   fun i H => ∃ xs, SqL K H a xs ∧ xs.length ≤ i⟩
theorem turn_enL {P : Program} {w : World} {K : PySem.W.Frag} {elts : List Expr} {x1} {pos : Pos} {e it a : Addr} (hei : e ≠ it) :
    Turn P w K (.Tuple elts x1 pos) (IteL K a) [e, it] e (fun i h => (∃ old, IsEnum h e it (i : Nat) old) ∧ h.IsListIter it a i) where
  mem := by simp
  obj := fun i h st c hc => by
    obtain ⟨⟨old, h1⟩, ⟨o2, h2, c2, d2⟩⟩ := st
    simp only [List.mem_cons, List.not_mem_nil, or_false] at hc
    rcases hc with rfl | rfl
    · exact ⟨_, h1, fun v q => by cases (show Data.fields _ = Data.cell v from q)⟩
    · exact ⟨o2, h2, fun v q => by rw [d2] at q; cases q⟩
  keep := fun i h h' st k => by
    obtain ⟨⟨old, h1⟩, h2⟩ := st
    exact ⟨⟨old, k e (by simp) _ h1⟩, lstIter_at h2 fun o q => k it (by simp) o q⟩
  item := by
    intro X hP hw hK hc i pins s σ H E I hf st hg
    subst hP hw hK
    obtain ⟨xs, x, q1, hx⟩ := hg
    obtain ⟨its, rv, p1, z1⟩ := I.list q1
    obtain ⟨u, hu, ru⟩ := rv.get hx
    have off : ∀ c ∈ [e, it], a ≠ c := fun c hc => sqL_off I q1 (hf c hc)
    obtain ⟨⟨old, h1⟩, h2⟩ := st
    have hh : X.A.in1.handled = none := I.ok.hd hc
    have na : a ≠ it := off it (by simp)
    have ne : e ∉ [it, a] := fun q => by
      simp only [List.mem_cons, List.not_mem_nil, or_false] at q
      rcases q with q | q
      · exact hei q
      · exact off e (by simp) q.symm
    have hi : i < its.toArray.size := by have := (List.getElem?_eq_some_iff.mp hu).1; simpa using this
    have el : e < s.heap.objs.size := Heap.lt_size h1
    have il : it < s.heap.objs.size := by obtain ⟨o2, q2, _⟩ := h2; exact Heap.lt_size q2
    refine wpAny_pyNext_enum_itemD (Draws.list hh it a na its.toArray) h1 ⟨h2, p1.isList⟩ hi hei ne fun v h' tk hv eo st' tup hz hk => ⟨_, rfl, wpAny_letOwnedTupleGo_enum eo fun h'' e2 sb => ?_⟩
    have ev : v = u := by
      have : its.toArray[i]? = some u := by simpa using hu
      rw [this] at hv
      exact (Option.some.inj hv).symm
    subst ev
    have nt : s.heap.objs.size ≠ e := Nat.ne_of_gt el
    have ni : s.heap.objs.size ≠ it := Nat.ne_of_gt il
    have P : ObjOk X.prog X.w (upd H s.heap.objs.size (.tup [.int i, x])) h'' s.heap.objs.size (.tup [.int i, x]) :=
      ⟨by show 2 ≤ sizeLine; decide, [.int i tk, v], .cons ⟨_, rfl⟩ (.cons ru .nil), ⟨_, sb.extBut _ _ nt tup, rfl, _, rfl⟩⟩
    have I2 : Inv X pins σ (upd H s.heap.objs.size (.tup [.int i, x])) { s with heap := h'', toks := tk + 1 } := turnedN I (fun c o' n q => by
      have n1 : c ≠ e := fun r => n (by simp [r])
      have n2 : c ≠ it := fun r => n (by simp [r])
      exact sb.extBut _ _ n1 (hk c o' n1 n2 q)) hf (Nat.le_refl _) P
    refine ⟨.ref s.heap.objs.size, _, I2, rfl, ⟨_, x, I.fresh, rfl, rfl, fun ys hy => by rw [I.list_inj hy q1]; exact hx⟩, ⟨⟨_, by simpa using e2⟩, lstIter_at st'.1 fun o q => sb.extBut _ _ hei.symm q⟩, fun c hc => ?_⟩
    have lt : c < s.heap.objs.size := by
      simp only [List.mem_cons, List.not_mem_nil, or_false] at hc
      rcases hc with rfl | rfl
      · exact el
      · exact il
    rw [upd_ne (Nat.ne_of_lt lt)]
    exact (hf c hc).1
  done := by
    intro X hP hw hK hc i pins s σ H E I hf st hg
    subst hP hw hK
    obtain ⟨xs, q1, hx⟩ := hg
    obtain ⟨its, rv, p1, z1⟩ := I.list q1
    have off : ∀ c ∈ [e, it], a ≠ c := fun c hc => sqL_off I q1 (hf c hc)
    obtain ⟨⟨old, h1⟩, h2⟩ := st
    have hh : X.A.in1.handled = none := I.ok.hd hc
    have hl := rv.length
    have nn : its.toArray[i]? = none := by rw [Array.getElem?_eq_none_iff]; simp; omega
    have hT : s.TypeIs (.ref e) "enumerate" := ⟨_, h1, rfl⟩
    unfold pyNext
    refine wpAny_bind (wpAny_attempt (wpAny_callSpecial?_slot (name := Str.ofString "__next__") hT F.slot_enumerate_next
      (wpAny_call_entry F.slot_enumerate_next hT F.entry_enumerate_next ?_ (F.args_enumerate_next_1 _))))
    show wpAny _ _ (field (.ref e) 2 >>= _) _ _ _
    refine wpAny_bind (wpAny_field h1 rfl (x := .ref it) rfl ?_)
    refine wpAny_bind (wpAny_nextOf_list_end hh h2 p1.isList nn fun h' x he' hx' => ?_)
    obtain ⟨o, ho, hcl⟩ := hx'
    refine wpAny_bind (wpAny_isInstance (T := "StopIteration") (b := true) ⟨o, ho, hcl⟩ isSubtype_stop ?_)
    refine wpAny_pure ⟨rfl, ?_⟩
    exact turnedL (t' := s.toks) I (fun c o' n q => he' c o' (fun r => n (by simp [r])) q) hf
  self := fun A i s Q E st h => by
    obtain ⟨⟨old, h1⟩, _⟩ := st
    exact wpAny_pyIter_enum h1 h
def iEnL (K : PySem.W.Frag) (ta : TA) : TI := fun σ H R => ta σ H fun vs H1 => ∃ a, vs = [.ref a] ∧ (∃ xs, SqL K H1 a xs) ∧ R (IteL K a) H1
theorem pi_enumL {X : Cx} {elts : List Expr} {x1} {tp p pos : Pos} {a : Expr} {ta : TA} (hg : Gl X "enumerate") (hm : X.mg "enumerate" = none) (ha : PA X [a] ta) (hs : starEach [a] X.env = [(false, eval a X.env)] := by rfl) :
    PI X (.Tuple elts x1 tp) (.Call (.Name "enumerate" p) [a] [] pos) (iEnL X.K ta) := by
  intro pins s σ H R I h
  refine Call_ (ld_blt I hg hm (show bootBuiltins "enumerate" = some (.type "enumerate") by kernel_rfl) (PyProof.Rows.callWith_type1 (thn (ha pos pins s σ H _ I h) fun us s1 ⟨vs, H1, I1, r1, q1⟩ => ?_) hs rfl))
  obtain ⟨a, e, ⟨xs, hx⟩, q⟩ := q1
  subst e
  obtain ⟨u, rfl, ru⟩ := r1.one
  cases ru
  obtain ⟨its, _, p1, _⟩ := I1.list hx
  refine call_enumerate_list p1.isList fun h' he hi sz kk => wpAny_pyIter_enum he ?_
  have I2 : Inv X pins σ H1 { s1 with heap := h' } := I1.kept (t' := s1.toks) kk
  refine ⟨_, [s1.heap.objs.size + 1, s1.heap.objs.size], _, _, H1, rfl, I2, turn_enL (a := a) (Nat.succ_ne_self _), ⟨⟨_, he⟩, hi⟩, fun c hc => ?_, q⟩
  have le : s1.heap.objs.size ≤ c := by
    simp only [List.mem_cons, List.not_mem_nil, or_false] at hc
    rcases hc with h | h
    · rw [h]; exact Nat.le_succ _
    · rw [h]; exact Nat.le_refl _
  exact I1.fpOk le (I1.hok.fresh le)

end B

namespace B
open PySem PySem.Spec L2 PyProof.Rows
/-! ### == of things whose inside is known; isinstance of a tuple that is read -/
def rEqD (K : PySem.W.Frag) : R2 := fun x y H Q => ∃ d d', Deep K H x d ∧ Deep K H y d' ∧ d.canLay0 = true ∧ d'.canLay0 = true ∧ d.depth ≤ 32 ∧ Q (.bl (PyData.eqv d d')) H
def rIsiT (K : PySem.W.Frag) : List V → Hp → VK → Prop := fun xs H Q => ∃ a ys n b, xs = [.ref a, .ty n] ∧ SqT K H a ys ∧ kitTT "tuple" n = some b ∧ Q (.bl b) H
end B

namespace B
open PySem PySem.Spec L2 PyProof.Rows
/-- [f(x) for x in t], t a tuple -/
theorem comp_mapT {α β : Type} {K : PySem.W.Frag} {H : Hp} {D a : Addr} {xs : List V} {ds : List α} {P : Hp → V → β → Prop} {f : α → β} {src : List (Option Nat)} {σ : L2.St} {g : TG} {tt : TT} {te : TE} {Q : Hp → Prop}
    (mono : ∀ H H' v d, Tst K H H' → P H v d → P H' v d) (hD : H D = none) (hS : SqT K H a xs) (hl : xs.length = ds.length) (hn : ds.length ≤ 1000)
    (turn : ∀ (i : Nat) (x : V) (d : α) (H' : Hp), xs[i]? = some x → ds[i]? = some d → Same H H' → ∀ (R : VK) (E : Hp → Prop), (∀ v H'', Same H' H'' → P H'' v (f d) → R v H'') →
      g x (frees src σ) H' fun σ2 H2 => Ext (frees src σ) σ2 ∧ tt σ2 H2 fun ok H3 => if ok = true then te σ2 H3 R else E H3)
    (fin : ∀ H' ys, Same H H' → H' D = some (.lst ys) → Als (P H') ys (ds.map f) → Q H') :
    ∃ W : Nat → Nat → List V → Hp → Prop, (∃ m, W 0 m [] (upd H D (.lst []))) ∧ ∀ i m ys H, W i m ys H → ((Itt K a).stop i H ∧ Q H) ∨ ((Itt K a).go i H ∧ ∀ x H', (Itt K a).yld i H x H' →
      g x (frees src σ) H' fun σ2 H2 => Ext (frees src σ) σ2 ∧ tt σ2 H2 fun ok H3 =>
        if ok = true then te σ2 H3 fun y H4 => H4 D = some (.lst ys) ∧ ys.length < sizeLine ∧ ∃ m', m' < m ∧ W (i + 1) m' (ys ++ [y]) (upd H4 D (.lst (ys ++ [y]))) else ∃ m', m' < m ∧ W (i + 1) m' ys H3) := by
  refine ⟨fun i m ys H' => i ≤ ds.length ∧ m = ds.length - i ∧ H' D = some (.lst ys) ∧ Same H H' ∧ Als (P H') ys ((ds.take i).map f), ⟨_, Nat.zero_le _, rfl, upd_same, same_new hD _, .nil⟩, ?_⟩
  rintro i m ys H1 ⟨hi, rfl, d1, s1, al1⟩
  have hS1 : SqT K H1 a xs := Tst.same s1 _ _ hS
  by_cases hix : i < ds.length
  · have hx0 : xs[i]? = some (xs[i]'(by omega)) := List.getElem?_eq_getElem _
    refine .inr ⟨⟨xs, _, hS1, hx0⟩, ?_⟩
    rintro x H2 ⟨rfl, hy⟩
    have hx := hy xs hS1
    obtain ⟨d, hd⟩ : ∃ d, ds[i]? = some d := ⟨_, List.getElem?_eq_getElem hix⟩
    refine turn i x d _ hx hd s1 _ _ fun v H3 s3 p3 => ?_
    have d3 : H3 D = some (.lst ys) := s3 _ _ d1
    have tm : Tst K H2 (upd H3 D (.lst (ys ++ [v]))) := (Tst.same s3).trans (Tst.up d3 _)
    refine ⟨d3, small1000 (by rw [al1.len, List.length_map, List.length_take]; omega), ds.length - (i + 1), by omega, hix, rfl, upd_same, fun b o q => ?_, ?_⟩
    · rw [upd_ne (ne_of_none q hD)]
      exact s3 _ _ (s1 _ _ q)
    · rw [List.take_add_one, hd, List.map_append]
      exact (al1.mono fun v d p => mono _ _ _ _ tm p).snoc (mono _ _ _ _ (Tst.up d3 _) p3)
  · have e : i = ds.length := by omega
    subst e
    rw [List.take_length] at al1
    exact .inl ⟨⟨xs, hS1, by omega⟩, fin H1 ys s1 d1 al1⟩
end B

namespace B
open PySem PySem.Spec L2 PyProof.Rows
/-! ### isinstance of a thing whose inside is known; what the defs of shape tell of it -/
def tyD : PyData → String
  | .none => "NoneType"
  | .bool _ => "bool"
  | .int _ => "int"
  | .str _ => "str"
  | .list _ => "list"
  | .tuple _ => "tuple"
  | .dict _ => "dict"
def rIsiD (K : PySem.W.Frag) : List V → Hp → VK → Prop := fun xs H Q => ∃ v d n b, xs = [v, .ty n] ∧ Deep K H v d ∧ kitTT (tyD d) n = some b ∧ Q (.bl b) H
def wholeD : PyData → Bool
  | .int _ => true
  | _ => false
def tupD (n : Nat) : PyData → Bool
  | .tuple xs => decide (xs.length = n)
  | _ => false
/-- a ratio in lowest terms -/
def ratD : PyData → Bool
  | .tuple [.int a, .int b] => decide (1 ≤ b) && decide (Int.gcd a b = 1)
  | _ => false
def pairD : PyData → Bool
  | .tuple [x, y] => ratD x && ratD y
  | _ => false
end B

namespace B
open PySem PySem.Spec L2 PyProof.Rows
/-! ### things that repr shows: how deep, how long -/
structure Sh (k n : Nat) (d : PyData) : Prop where
  sh : d.showable = true
  nd : d.hasDict = false
  dp : d.depth ≤ k
  sz : d.shown.length ≤ n
mutual
theorem Deep.same {K : PySem.W.Frag} {H H' : Hp} (s : Same H H') : ∀ {v : V} {d : PyData}, Deep K H v d → Deep K H' v d
  | _, _, .non => .non
  | _, _, .bl b => .bl b
  | _, _, .int i => .int i
  | _, _, .str x => .str x
  | _, _, .lst e t => .lst (s.seq e) (DeepAll.same s t)
  | _, _, .tup e t => .tup (Tst.same s _ _ e) (DeepAll.same s t)
theorem DeepAll.same {K : PySem.W.Frag} {H H' : Hp} (s : Same H H') : ∀ {vs : List V} {ds : List PyData}, DeepAll K H vs ds → DeepAll K H' vs ds
  | _, _, .nil => .nil
  | _, _, .cons h t => .cons (Deep.same s h) (DeepAll.same s t)
end
end B

namespace B
open PySem PySem.Spec L2 PyProof.Rows
/-! ### t + u and t[a:b] of any tuples: a tuple that holds what is asked, new or not -/
def rCatU (K : PySem.W.Frag) : R2 := fun x y H Q => ∃ a b xs ys, x = .ref a ∧ y = .ref b ∧ SqT K H a xs ∧ SqT K H b ys ∧ xs.length + ys.length ≤ sizeLine ∧ ∀ p H', Same H H' → SqT K H' p (xs ++ ys) → Q (.ref p) H'
theorem op_catU {X : Cx} : OpR X (binaryOp .Add) (rCatU X.K) := by
  intro pins s σ H x y v u Q I rx ry h
  obtain ⟨a, b, xs, ys, rfl, rfl, ha, hb, hz, q⟩ := h
  by_cases hx : xs = []
  · subst hx
    cases rx
    cases ry
    obtain ⟨its, r1, p1, _⟩ := I.tuple ha
    obtain ⟨its2, r2, p2, _⟩ := I.tuple hb
    have e0 : its = [] := r1.nil_iff.mpr rfl
    subst e0
    obtain ⟨⟨cls, dd, data, sl⟩, ho, hc, n, hd⟩ := id p1
    obtain ⟨⟨cls2, dd2, data2, sl2⟩, ho2, hc2, n2, hd2⟩ := id p2
    simp only at hc hd hc2 hd2
    subst hc hd hc2 hd2
    exact concat_meets ⟨_, ho, rfl⟩ ⟨_, ho2, rfl⟩ noFill_tuple_add seq_tuple_add PySem.F.slot_tuple_add PySem.F.entry_tuple_add (PySem.F.args_tuple_add_2 _ _)
      (tuple_addW0 a b _ _ n n2 dd dd2 sl sl2 (by simp)) ⟨ho, ho2, ⟨.ref b, H, I, rfl, q b H (Same.refl H) hb⟩⟩
  · refine op_catT pins s σ H _ _ v u Q I rx ry ⟨a, b, xs, ys, rfl, rfl, ha, hb, hx, hz, fun e => ?_, fun _ p hp => ?_⟩
    · subst e
      exact q a H (Same.refl H) (by rw [List.append_nil]; exact ha)
    · exact q p _ (same_new hp _) (SqT.of upd_same)
def rSlU (K : PySem.W.Frag) : V → Option Int → Option Int → Hp → VK → Prop := fun x lo hi H Q => ∃ a xs, x = .ref a ∧ SqT K H a xs ∧ ∀ p H', Same H H' → SqT K H' p (cutV xs lo hi) → Q (.ref p) H'
theorem sl_tupU {X : Cx} : SlR X (rSlU X.K) := by
  intro pins s σ H x v vl vu lo hi sl Q I rx hs pl pu h
  obtain ⟨a, xs, rfl, hx, q⟩ := h
  refine sl_tupA pins s σ H _ v vl vu lo hi sl Q I rx hs pl pu ?_
  by_cases c : HT.sIx xs.length 0 lo = 0 ∧ HT.sIx xs.length xs.length hi = xs.length
  · refine .inl ⟨a, xs, rfl, hx, c.1, c.2, q a H (Same.refl H) ?_⟩
    have e : cutV xs lo hi = xs := by
      unfold cutV
      rw [c.1, c.2, List.drop_zero, Nat.sub_zero, List.take_length]
    rw [e]
    exact hx
  · exact .inr ⟨a, xs, rfl, hx, c, fun p hp => q p _ (same_new hp _) (SqT.of upd_same)⟩
theorem cut_to {xs : List V} {n : Nat} (h : n ≤ xs.length) : cutV xs none (some (n : Int)) = xs.take n := by
  unfold cutV
  rw [HT.sIx_nat, HT.sIx_none, Nat.min_eq_left h, Nat.sub_zero, List.drop_zero]
theorem cut_from {xs : List V} {n : Nat} (h : n ≤ xs.length) : cutV xs (some (n : Int)) none = xs.drop n := by
  unfold cutV
  rw [HT.sIx_nat, HT.sIx_none, Nat.min_eq_left h]
  exact List.take_of_length_le (by rw [List.length_drop]; omega)
end B

namespace B
open PySem PySem.Spec L2 PyProof.Rows
/-! ### the tape of three cells, whose first is the script itself -/
def Stat (K : PySem.W.Frag) (s : Addr) : Prop := ∃ ns : List Int, ns.length ≤ 63 ∧ ∀ H : Hp, SqL K H s (ns.map V.int)
structure Tape3 (K : PySem.W.Frag) (H : Hp) (t s : Addr) : Prop where
  ex : ∃ (ns : List Int) (p q : Int), H t = some (.lst [.ref s, .int p, .int q]) ∧ ((Rd H s (.lst (ns.map V.int)) ∧ s ≠ t) ∨ ∀ H', SqL K H' s (ns.map V.int)) ∧ ns.length ≤ 63 ∧ 0 ≤ p ∧ 0 ≤ q
theorem rd_same {H H' : Hp} {a : Addr} {u : HO} (h : Rd H a u) (z : Same H H') : Rd H' a u := by
  rcases h with h | ⟨o, h⟩
  · exact .inl (z _ _ h)
  · exact .inr ⟨o, z _ _ h⟩
theorem rd_upl {H : Hp} {a l : Addr} {u o : HO} (h : Rd H a u) (n : l ≠ a) : Rd (upd H l o) a u := by
  unfold Rd
  rw [upd_ne n.symm]
  exact h
theorem rd_ne {H : Hp} {a l : Addr} {u : HO} (h : Rd H a u) (n : H l = none) : l ≠ a := fun e => by
  subst e
  rcases h with h | ⟨o, h⟩
  · rw [n] at h; cases h
  · rw [n] at h; cases h
theorem Tape3.lst {K : PySem.W.Frag} {H : Hp} {t s : Addr} (h : Tape3 K H t s) : ∃ xs, H t = some (.lst xs) := let ⟨_, _, _, e, _⟩ := h.ex; ⟨_, e⟩
theorem Tape3.same {K : PySem.W.Frag} {H H' : Hp} {t s : Addr} (h : Tape3 K H t s) (z : Same H H') : Tape3 K H' t s := by
  obtain ⟨ns, p, q, h1, h2, h3⟩ := h.ex
  refine ⟨ns, p, q, z _ _ h1, ?_, h3⟩
  rcases h2 with ⟨a, b⟩ | a
  · exact .inl ⟨rd_same a z, b⟩
  · exact .inr a
theorem Tape3.new {K : PySem.W.Frag} {H : Hp} {t s p : Addr} (h : Tape3 K H t s) (n : H p = none) (o : HO) : Tape3 K (upd H p o) t s := h.same (same_new n o)
theorem Tape3.off {K : PySem.W.Frag} {H : Hp} {t s D : Addr} (h : Tape3 K H t s) (n : H D = none) : D ≠ s ∨ Stat K s := by
  obtain ⟨ns, p, q, _, h2, h3, _⟩ := h.ex
  rcases h2 with ⟨a, _⟩ | a
  · exact .inl (rd_ne a n)
  · exact .inr ⟨ns, h3, a⟩
theorem Tape3.upl {K : PySem.W.Frag} {H : Hp} {t s l : Addr} (h : Tape3 K H t s) (a : l ≠ t) (b : l ≠ s ∨ Stat K s) (o : HO) : Tape3 K (upd H l o) t s := by
  obtain ⟨ns, p, q, h1, h2, h3⟩ := h.ex
  rcases b with b | ⟨ms, m3, m⟩
  · refine ⟨ns, p, q, by rw [upd_ne a.symm]; exact h1, ?_, h3⟩
    rcases h2 with ⟨c, d⟩ | c
    · exact .inl ⟨rd_upl c b, d⟩
    · exact .inr c
  · exact ⟨ms, p, q, by rw [upd_ne a.symm]; exact h1, .inr m, m3, h3.2⟩
def sp_tape3 (K : PySem.W.Frag) : Sp := fun vs H Q _ => ∃ (a : Addr) (ns : List Int), vs = [.ref a] ∧ SqL K H a (ns.map V.int) ∧ ns.length ≤ 63 ∧ ∀ (t : Addr) (H' : Hp), Same H H' → H t = none → Tape3 K H' t a → Q (.ref t) H'
def sp_draw3 (K : PySem.W.Frag) : Sp := fun vs H Q _ => ∃ (t s : Addr) (m : Int), vs = [.ref t, .int m] ∧ Tape3 K H t s ∧ 0 < m ∧ m < 1073741824 ∧ ∀ (r : Int) (xs : List V), 0 ≤ r → r < m → Tape3 K (upd H t (.lst xs)) t s → Q (.int r) (upd H t (.lst xs))
theorem Tape3.mk3 {K : PySem.W.Frag} {H : Hp} {t a : Addr} {ns : List Int} (hS : SqL K H a (ns.map V.int)) (hl : ns.length ≤ 63) (ht : H t = none) : Tape3 K (upd H t (.lst [.ref a, .int 0, .int 0])) t a := by
  refine ⟨ns, 0, 0, upd_same, ?_, hl, Int.le_refl _, Int.le_refl _⟩
  rcases hS with h | h
  · exact .inl ⟨rd_upl h (rd_ne h ht), (rd_ne h ht).symm⟩
  · exact .inr fun _ => .inr h
end B

namespace B
open PySem PySem.Spec L2 PyProof.Rows
section
set_option autoImplicit true
set_option relaxedAutoImplicit true
theorem qi_enum  {X : Cx} {elts : List Expr} {x1} {tp p pos : Pos} {a : Expr} {ta : TA} (hg : Gl X "enumerate") (hm : X.mg "enumerate" = none) (ha : QA X [a] ta) (hs : starEach [a] X.env = [(false, eval a X.env)] := by rfl) : QI X (.Tuple elts x1 tp) (.Call (.Name "enumerate" p) [a] [] pos) (iEnT X.K ta) := ⟨pi_enum hg hm ha.p hs⟩
theorem qi_enumL  {X : Cx} {elts : List Expr} {x1} {tp p pos : Pos} {a : Expr} {ta : TA} (hg : Gl X "enumerate") (hm : X.mg "enumerate" = none) (ha : QA X [a] ta) (hs : starEach [a] X.env = [(false, eval a X.env)] := by rfl) : QI X (.Tuple elts x1 tp) (.Call (.Name "enumerate" p) [a] [] pos) (iEnL X.K ta) := ⟨pi_enumL hg hm ha.p hs⟩
end
end B

namespace B
open PySem PySem.Spec L2 PyProof.Rows
/-! ### sum and all of a list -/
theorem ints_of : ∀ {ns : List Int} {us : List Value}, Vals (ns.map V.int) us → IntsAre us ns
  | [], _, .nil => .nil
  | n :: ns, _, .cons r t => by
    obtain ⟨tk, rfl⟩ := (show ∃ t, _ = Value.int n t from r)
    exact .cons _ _ (ints_of t)
theorem call_sumL {X : Cx} (hc : X.calm = true) : CallR X (.builtin "sum") (fun xs H Q => ∃ (p : Addr) (ns : List Int), xs = [.ref p] ∧ SqL X.K H p (ns.map V.int) ∧ Q (.int ns.sum) H) := by
  intro pins s σ H xs us Q I r h
  obtain ⟨p, ns, rfl, hq, q⟩ := h
  obtain ⟨u, rfl, rx⟩ := vals1 r
  cases rx
  obtain ⟨its, rv, pl, hz⟩ := I.list hq
  have hi := ints_of rv
  obtain ⟨zs, ez⟩ := hi.allInts.items
  have hl := pl.isList
  rw [ez] at hl
  have en : numsOf its = ns := hi.numsOf
  rw [show its = its.toArray.toList from rfl, ez, nums_intItems] at en
  refine sum_intListG (I.ok.hd hc) hl fun h' tk t' hk => ?_
  rw [preSum_eq, List.take_of_length_le (by simp), en]
  exact ⟨.int ns.sum, H, I.kept (t' := tk) hk, ⟨_, rfl⟩, q⟩
/-! ### tuple(range(n)), list(range(n)) -/
section
variable {prog : Program} {w : World} {A : Around} {E : Value → Shared → Prop} {s : Shared}
theorem collect_range {Q : List Value → Shared → Prop} {r : Addr} {a b c : Int} {t u v : Tok} {n : Nat} (hh : A.handled = none) (hr : IsRange s.heap r a b c t u v) (hsmall : Builtin.Range.small a b c = true)
    (hn : Builtin.Range.rangeSize a b c = n) (hlen : n ≤ 2 ^ 24)
    (hQ : ∀ h' tk acc, (∀ b o, s.heap.get? b = some o → h'.get? b = some o) → ItemsOf (fun i v => ∃ t, v = .int (a + i * c) t) acc n → Q acc.toList { s with heap := h', toks := tk }) :
    wpAny (model prog w) A (collect (.ref r)) Q E s := by
  unfold collect
  refine wpAny_bind (wpAny_runValue (codeAny_builtin F.entry_proto_collect ?_))
  rw [Around.under_plainId F.plain_proto_collect _]
  show wpAny _ A.in1 (newList [] >>= fun l => again (.builtin "list.__iadd__" ⟨[l, .ref r], []⟩)) _ _ s
  refine wpAny_bind (wpAny_newObj_type ?_)
  refine wpAny_pure ⟨plainId_quiet F.plain_list_iadd _, codeAny_builtin F.entry_list_iadd ?_⟩
  rw [Around.under_plainId F.plain_list_iadd _]
  show wpAny _ A.in1 (Builtin.List.listExtendWith (.ref s.heap.objs.size) (.ref r) (.ref s.heap.objs.size)) _ _ { s with heap := s.heap.push { cls := .type "list", data := .seq ([] : List Value).toArray } }
  refine wpAny_extend_range (R := wants (fun v s' => wpAny (model prog w) A (match v with | .ref a => (do match (← load a).data with | .seq xs _ => pure xs.toList | _ => unsupported "internal:collect") | _ => unsupported "internal:collect") Q E s') E) (s := { s with heap := s.heap.push { cls := .type "list", data := .seq ([] : List Value).toArray } }) hh (Heap.get?_push_of_some _ hr) hsmall hn hlen s.heap.objs.size _ _ (Heap.get?_push_size _ rfl) fun h' tk acc' c' hk hS hI => ?_
  show wpAny _ A (load s.heap.objs.size >>= _) _ _ _
  refine wpAny_bind (wpAny_load hS ?_)
  exact wpAny_pure (hQ h' tk acc' (fun b o e => hk b o (Nat.ne_of_lt (Heap.lt_size e)) (Heap.get?_push_of_some _ e)) hI)
theorem meets_tuple_range {r : Addr} {a b c : Int} {t u v : Tok} {n : Nat} (hsmall : Builtin.Range.small a b c = true) (hn : Builtin.Range.rangeSize a b c = n) (hlen : n ≤ 2 ^ 24) :
    Meets (Builtin.«tuple.__new__» ⟨[.type "tuple", .ref r], []⟩)
      (fun A R s => A.handled = none ∧ IsRange s.heap r a b c t u v ∧ ∀ (h' : Heap) (tk : Nat) (acc : Array Value), (∀ b o, s.heap.get? b = some o → h'.get? b = some o) → ItemsOf (fun i v => ∃ t, v = .int (a + i * c) t) acc n →
        R (.ok (.ret (.ref h'.objs.size))) { s with heap := h'.push { cls := .type "tuple", data := .seq acc }, toks := tk }) :=
  .of_wp fun prog w A R s h => by
    obtain ⟨hh, hr, h⟩ := h
    have hsub := sub_tuple_self
    have hinit := init_tuple_lookup
    have hmh := madeHere_tuple
    have hT : s.TypeIs (.ref r) "range" := ⟨_, hr, rfl⟩
    have hh1 : A.in1.handled = none := hh
    wp_walk using wpAny_typeOf hT, collect_range hh1 hr hsmall hn hlen
    intro h' tk acc hk hacc
    show wpAny _ _ (Builtin.Tuple.tupleExact acc.toList.toArray >>= fun v => ret v) _ _ _
    unfold Builtin.Tuple.tupleExact
    refine wpAny_bind (wpAny_newObj_type ?_ (show acc.toList.toArray.size ≤ sizeLine by simp only [Array.toArray_toList]; rw [hacc.1, sizeLine_eq]; exact hlen))
    refine wpAny_pure ⟨_, rfl, ?_⟩
    have e : acc.toList.toArray = acc := by simp
    rw [e]
    exact h h' tk acc hk hacc
theorem call_tuple_range {Q : Value → Shared → Prop} {r : Addr} {a b c : Int} {t u v : Tok} {n : Nat} (hh : A.handled = none) (hr : IsRange s.heap r a b c t u v) (hsmall : Builtin.Range.small a b c = true)
    (hn : Builtin.Range.rangeSize a b c = n) (hlen : n ≤ 2 ^ 24)
    (hQ : ∀ (h' : Heap) (tk : Nat) (acc : Array Value), (∀ b o, s.heap.get? b = some o → h'.get? b = some o) → ItemsOf (fun i v => ∃ t, v = .int (a + i * c) t) acc n → Q (.ref h'.objs.size) { s with heap := h'.push { cls := .type "tuple", data := .seq acc }, toks := tk }) :
    wpAny (model prog w) A (call (.type "tuple") [.ref r]) Q E s := by
  refine callType_new F.called_tuple (by decide) (F.typeCall_tuple_1 _) (F.newCall_tuple_1 _) (fun obj => F.args_object_init_2 obj _) F.entry_tuple_new
    (meets_tuple_range hsmall hn hlen) ⟨hh, hr, fun h' tk acc hk hacc => ⟨⟨_, Heap.get?_push_size _ rfl, rfl⟩, hQ h' tk acc hk hacc⟩⟩
end
def upTo (n : Nat) : List Int := (List.range n).map fun i : Nat => (i : Int)
theorem vals_range {acc : Array Value} {n : Nat} (h : ItemsOf (fun i v => ∃ t, v = .int ((0 : Int) + i * 1) t) acc n) : Vals ((upTo n).map V.int) acc.toList := by
  obtain ⟨hl, ha⟩ := h
  have key : ∀ m, m ≤ n → Vals ((upTo m).map V.int) (acc.toList.take m) := by
    intro m
    induction m with
    | zero => intro _; rw [List.take_zero]; exact .nil
    | succ m ih =>
      intro hm
      have hlt : m < acc.size := by omega
      have e1 : acc.toList.take (m + 1) = acc.toList.take m ++ [acc[m]] := by
        rw [List.take_add_one]; simp [hlt]
      have e2 : (upTo (m + 1)).map V.int = (upTo m).map V.int ++ [V.int m] := by
        unfold upTo; rw [List.range_succ]; simp
      rw [e1, e2]
      refine (ih (by omega)).append (.cons ?_ .nil)
      obtain ⟨t, e⟩ := ha m acc[m] (by simp [hlt])
      exact ⟨t, by rw [e]; simp⟩
  have := key n (Nat.le_refl _)
  rwa [List.take_of_length_le (by simp [hl])] at this
def tRng1 (ta : TA) : TE := fun σ H Q => ta σ H fun vs H1 => ∃ j : Int, vs = [.int j] ∧ ∀ p, H1 p = none → Q (.ref p) (upd H1 p (.rng 0 j))
theorem pe_rng1 {X : Cx} {a : Expr} {ta : TA} {p pos : Pos} (hg : Gl X "range") (hm : X.mg "range" = none) (ha : PA X [a] ta) (hs : starEach [a] X.env = [(false, eval a X.env)] := by rfl) :
    PE X (.Call (.Name "range" p) [a] [] pos) (tRng1 ta) := by
  intro pins s σ H Q I h
  refine Call_ (ld_blt I hg hm boot_range (PyProof.Rows.callWith_type1 (thn (ha pos pins s σ H _ I h) fun us s1 ⟨vs, H1, I1, r1, q1⟩ => ?_) hs rfl))
  obtain ⟨j, e, q⟩ := q1
  subst e
  obtain ⟨u, rfl, t, rfl⟩ := vals1 r1
  refine call_range_1 ?_
  exact ⟨.ref s1.heap.objs.size, _, I1.laid (o := .rng 0 j) (fun b o e => Heap.get?_push_of_some _ e) (Nat.le_refl _) ⟨_, t, _, Heap.get?_push_size _ rfl⟩, rfl, q _ (I1.hok.fresh (Nat.le_refl _))⟩
theorem size_up (n : Nat) : Builtin.Range.rangeSize 0 n 1 = n := by rw [rangeSize_one]; split <;> omega
theorem call_tupleR {X : Cx} (hc : X.calm = true) : CallR X (.type "tuple") (fun xs H Q => ∃ p, ∃ n : Nat, xs = [.ref p] ∧ H p = some (.rng 0 n) ∧ n ≤ 1000 ∧ ∀ l, H l = none → Q (.ref l) (upd H l (.tup ((upTo n).map V.int)))) := by
  intro pins s σ H xs us Q I r h
  obtain ⟨p, n, rfl, hp, hn, q⟩ := h
  obtain ⟨u, rfl, rx⟩ := vals1 r
  cases rx
  obtain ⟨t, u, w, e⟩ := (show ObjOk X.prog X.w H s.heap p (.rng 0 n) from I.hok p _ hp)
  refine call_tuple_range (I.ok.hd hc) (show IsRange s.heap p 0 n 1 t u w from e) (small_one (by omega) (by omega) (by omega) (by omega)) (size_up n) (by omega) fun h' tk acc hk hi => ?_
  have rv := vals_range hi
  have I1 : Inv X pins σ H { s with heap := h', toks := tk } := I.kept (t' := tk) hk
  have hl : (upTo n).length = n := by unfold upTo; simp
  have I2 : Inv X pins σ (upd H h'.objs.size (.tup ((upTo n).map V.int))) { s with heap := h'.push { cls := .type "tuple", data := .seq acc }, toks := tk } :=
    I1.laid (t' := tk) (fun b o e => Heap.get?_push_of_some _ e) (Nat.le_refl _) (show ObjOk X.prog X.w _ _ _ (.tup ((upTo n).map V.int)) from ⟨by rw [List.length_map, hl, sizeLine_eq]; omega, acc.toList, rv, by have := IsTup.new h' acc; simpa using this⟩)
  exact ⟨.ref h'.objs.size, _, I2, rfl, q _ (I1.hok.fresh (Nat.le_refl _))⟩
/-! ### range(a, b, -1), walked -/
def Itd (hi : Int) (n : Nat) : It := ⟨fun i _ => i < n, fun i H x H' => H' = H ∧ x = .int (hi - i), fun i _ => n ≤ i⟩
theorem turn_down {P : Program} {w : World} {K : PySem.W.Frag} {tg : Expr} (it : Addr) (lo : Int) (n : Nat) : Turn P w K tg (Itd lo n) [it] it (fun i h => IsRangeIter h it (lo + (i : Nat) * (-1)) ((n : Int) - (i : Nat)) (-1)) where
  mem := by simp
  obj := fun i h st b hb => by
    have e : b = it := by simpa using hb
    subst e
    exact ⟨_, st, fun v z => by
      have z' : Data.fields _ = Data.cell v := z
      cases z'⟩
  keep := fun i h h' st k => k it (by simp) _ st
  item := by
    intro X hP hw hK hc i pins s σ H E I hf st hg
    subst hP hw hK
    obtain ⟨f0, f1, f2, f3, f4, f5⟩ := hf it (by simp)
    have W := Walks.range (prog := X.prog) (w := X.w) (I.ok.hd hc) it lo (-1) n
    refine W.item i s _ _ hg st fun v h' tk hv st' kk => ?_
    obtain ⟨t, rfl⟩ := hv
    have I1 : Inv X pins σ H { s with heap := h', toks := tk } := I.turned (fun b o hb e => kk b o (by simpa using hb) e) f0 f1 f3 f4 f5
    refine ⟨_, rfl, go_of (s := { s with heap := h', toks := tk }) (n := "range_iterator") st' rfl rfl (by decide) ⟨.int (lo - i), H, I1, ⟨t, ?_⟩, ⟨rfl, rfl⟩, st', fun b hb => (hf b hb).1⟩⟩
    rw [show lo + (i : Int) * (-1) = lo - i by omega]
  done := by
    intro X hP hw hK hc i pins s σ H E I hf st hg
    subst hP hw hK
    obtain ⟨f0, f1, f2, f3, f4, f5⟩ := hf it (by simp)
    exact wpAny_pyNext_range_end (I.ok.hd hc) st (by have : n ≤ i := hg; omega) fun h' eb => ⟨rfl, I.turned (t' := s.toks) (fun b o hb e => eb b o hb e) f0 f1 f3 f4 f5⟩
  self := fun _ _ _ _ _ st h => wpAny_pyIter_rangeiter st h
theorem size_down (a b : Int) : Builtin.Range.rangeSize a b (-1) = ((a - b).toNat : Nat) := by
  unfold Builtin.Range.rangeSize
  rw [if_neg (by decide)]
  split
  · rw [show (-(-1) : Int) = 1 by decide, Int.ediv_one]; omega
  · omega
theorem small_down {a b : Int} (ha : -1000 ≤ a) (ha' : a ≤ 1000) (hb : -1000 ≤ b) (hb' : b ≤ 1000) : Builtin.Range.small a b (-1) = true := by
  unfold Builtin.Range.small
  rw [size_down]
  simp only [Builtin.Range.rangeFitsLong, Bool.and_eq_true, Bool.or_eq_true, decide_eq_true_eq, beq_iff_eq, show ¬ (-1 : Int) > 0 by decide, if_false]
  omega
def iRngD (ta : TA) : TI := fun σ H R => ta σ H fun vs H1 => ∃ i j : Int, vs = [.int i, .int j, .int (-1)] ∧ (-1000 ≤ i ∧ i ≤ 1000 ∧ -1000 ≤ j ∧ j ≤ 1000) ∧ R (Itd i (i - j).toNat) H1
theorem pi_range3 {X : Cx} {tg : Expr} {a b c : Expr} {ta : TA} {p pos : Pos} (hg : Gl X "range") (hm : X.mg "range" = none) (ha : PA X [a, b, c] ta) (hs : starEach [a, b, c] X.env = [(false, eval a X.env), (false, eval b X.env), (false, eval c X.env)] := by rfl) (hs2 : starEach [b, c] X.env = [(false, eval b X.env), (false, eval c X.env)] := by rfl) :
    PI X tg (.Call (.Name "range" p) [a, b, c] [] pos) (iRngD ta) := by
  intro pins s σ H R I h
  refine Call_ (ld_blt I hg hm boot_range (PyProof.Rows.callWith_type1 (thn (ha pos pins s σ H _ I h) fun us s1 ⟨vs, H1, I1, r1, q1⟩ => ?_) (by rw [hs, hs2]) (by rw [hs2]; rfl)))
  obtain ⟨i, j, e, ⟨q1, q2, q3, q4⟩, q⟩ := q1
  subst e
  cases r1 with
  | cons r rr =>
    cases rr with
    | cons r' rr =>
      cases rr with
      | cons r'' rr =>
        cases rr
        obtain ⟨t, rfl⟩ := r
        obtain ⟨t', rfl⟩ := r'
        obtain ⟨t'', rfl⟩ := r''
        refine call_range_3 (by decide) ?_ (.inl (PyProof.noPylong_small (by decide)))
        refine wpAny_pyIter_range (IsRange.new ..) (small_down q1 q2 q3 q4) ?_
        have I2 : Inv X pins σ H1 { s1 with heap := s1.heap.push { cls := .type "range", data := .fields #[.int i t, .int j t', .int (-1) t''] }, toks := s1.toks } := I1.kept fun b o e => Heap.get?_push_of_some _ e
        refine ⟨(s1.heap.push { cls := .type "range", data := .fields #[.int i t, .int j t', .int (-1) t''] }).objs.size, [(s1.heap.push { cls := .type "range", data := .fields #[.int i t, .int j t', .int (-1) t''] }).objs.size], _, _, H1, rfl,
          I2.kept (t' := s1.toks) fun b o e => Heap.get?_push_of_some _ e, turn_down _ i (i - j).toNat, ?_, fun b hb => ?_, q⟩
        · have e1 : i + ((0 : Nat) : Int) * (-1) = i := by simp
          have e2 : (((i - j).toNat : Nat) : Int) - ((0 : Nat) : Int) = Builtin.Range.rangeSize i j (-1) := by rw [size_down]; omega
          show IsRangeIter _ _ (i + ((0 : Nat) : Int) * (-1)) ((((i - j).toNat : Nat) : Int) - ((0 : Nat) : Int)) (-1)
          rw [e1, e2]
          exact Heap.get?_push_size _ rfl
        · have e : b = (s1.heap.push { cls := .type "range", data := .fields #[.int i t, .int j t', .int (-1) t''] }).objs.size := by simpa using hb
          subst e
          exact I2.fpOk (Nat.le_refl _) (I2.hok.fresh (Nat.le_refl _))
theorem for_down {hi : Int} {n : Nat} {g : TG} {tb : TS} {D : Ends} {σ : L2.St} {H : Hp} (Pv : Nat → L2.St → Hp → Prop) (h0 : Pv 0 σ H)
    (hs : ∀ i σ H, i < n → Pv i σ H → g (.int (hi - i)) σ H fun σ2 H2 => tb { D with nx := Pv (i + 1), ct := Pv (i + 1), bk := D.nx } σ2 H2) (hd : ∀ σ H, Pv n σ H → D.nx σ H) :
    ∃ W : Nat → Nat → L2.St → Hp → Prop, (∃ m, W 0 m σ H) ∧ ∀ i m σ H, W i m σ H →
      ((Itd hi n).stop i H ∧ D.nx σ H) ∨ ((Itd hi n).go i H ∧ ∃ N : L2.St → Hp → Prop, (∀ σ' H', N σ' H' → ∃ m', m' < m ∧ W (i + 1) m' σ' H') ∧ ∀ x H', (Itd hi n).yld i H x H' → g x σ H' fun σ2 H2 => tb { D with nx := N, ct := N, bk := D.nx } σ2 H2) := by
  refine ⟨fun i m σ H => m = n - i ∧ i ≤ n ∧ Pv i σ H, ⟨_, rfl, Nat.zero_le _, h0⟩, ?_⟩
  rintro i m σ H ⟨rfl, hi', p⟩
  by_cases hlt : i < n
  · refine .inr ⟨hlt, Pv (i + 1), fun σ' H' p' => ⟨n - (i + 1), by omega, rfl, hlt, p'⟩, fun x H' y => ?_⟩
    obtain ⟨rfl, rfl⟩ := y
    exact hs i σ _ hlt p
  · have e : i = n := by omega
    subst e
    exact .inl ⟨Nat.le_refl _, hd σ H p⟩
end B

namespace B
open PySem PySem.Spec L2 PyProof.Rows
section
set_option autoImplicit true
set_option relaxedAutoImplicit true
theorem qe_rng1  {X : Cx} {a : Expr} {ta : TA} {p pos : Pos} (hg : Gl X "range") (hm : X.mg "range" = none) (ha : QA X [a] ta) (hs : starEach [a] X.env = [(false, eval a X.env)] := by rfl) : QE X (.Call (.Name "range" p) [a] [] pos) (tRng1 ta) := ⟨pe_rng1 hg hm ha.p hs⟩
theorem qi_range3  {X : Cx} {tg : Expr} {a b c : Expr} {ta : TA} {p pos : Pos} (hg : Gl X "range") (hm : X.mg "range" = none) (ha : QA X [a, b, c] ta) (hs : starEach [a, b, c] X.env = [(false, eval a X.env), (false, eval b X.env), (false, eval c X.env)] := by rfl) (hs2 : starEach [b, c] X.env = [(false, eval b X.env), (false, eval c X.env)] := by rfl) : QI X tg (.Call (.Name "range" p) [a, b, c] [] pos) (iRngD ta) := ⟨pi_range3 hg hm ha.p hs hs2⟩
end
end B

namespace B
/-! ### the tightest stretch: places (begin, end), the densest, the first, the longest -/
abbrev Pl := Nat × Nat
def lenP (p : Pl) : Int := (p.2 : Int) - p.1 + 1
def AheadP (p q : Pl) : Prop := p.1 < q.1 ∨ (p.1 = q.1 ∧ q.2 ≤ p.2)
/-- the best one of those seen -/
structure Bst (S : Pl → Prop) (L : Pl → Int) (p : Pl) : Prop where
  inn : S p
  all : ∀ q, S q → L q * lenP p < L p * lenP q ∨ (L q * lenP p = L p * lenP q ∧ AheadP p q)
def Sec (n : Nat) (p : Pl) : Prop := p.1 ≤ p.2 ∧ p.2 < n
theorem Sec.pos {n : Nat} {p : Pl} (h : Sec n p) : 0 < lenP p := by unfold lenP; have := h.1; omega
/-- the same, amounts all times one number -/
theorem Bst.scale {S : Pl → Prop} {L M : Pl → Int} {p : Pl} {a b : Int} (ha : 0 < a) (hb : 0 < b) (e : ∀ q, M q * a = L q * b) (h : Bst S L p) : Bst S M p := by
  refine ⟨h.inn, fun q hq => ?_⟩
  have k1 : (M q * lenP p) * a = (L q * lenP p) * b := by rw [Int.mul_right_comm, e, Int.mul_right_comm]
  have k2 : (M p * lenP q) * a = (L p * lenP q) * b := by rw [Int.mul_right_comm, e, Int.mul_right_comm]
  rcases h.all q hq with z | ⟨z, o⟩
  · refine .inl (Int.lt_of_mul_lt_mul_right (a := a) ?_ (Int.le_of_lt ha))
    rw [k1, k2]
    exact Int.mul_lt_mul_of_pos_right z hb
  · refine .inr ⟨Int.eq_of_mul_eq_mul_right (Int.ne_of_gt ha) ?_, o⟩
    rw [k1, k2, z]
theorem dens_lt {l p q lr lp lq : Int} (hr : 0 < lr) (hp : 0 < lp) (hq : 0 < lq) (h1 : l * lp ≤ p * lr) (h2 : p * lq < q * lp) : l * lq < q * lr := by
  refine Int.lt_of_mul_lt_mul_right (a := lp) ?_ (Int.le_of_lt hp)
  have a1 : l * lq * lp = l * lp * lq := Int.mul_right_comm _ _ _
  have a2 : q * lr * lp = q * lp * lr := Int.mul_right_comm _ _ _
  have b1 : l * lp * lq ≤ p * lr * lq := Int.mul_le_mul_of_nonneg_right h1 (Int.le_of_lt hq)
  have b2 : p * lr * lq = p * lq * lr := Int.mul_right_comm _ _ _
  have b3 : p * lq * lr < q * lp * lr := Int.mul_lt_mul_of_pos_right h2 hr
  omega
/-- a denser one more -/
theorem Bst.more {n : Nat} {S S' : Pl → Prop} {L : Pl → Int} {p q : Pl} (h : Bst S L p) (st : ∀ r, S' r → Sec n r) (e : ∀ r, S' r ↔ S r ∨ r = q) (gt : L p * lenP q < L q * lenP p) : Bst S' L q := by
  have iq : S' q := (e q).mpr (.inr rfl)
  have ip : S' p := (e p).mpr (.inl h.inn)
  refine ⟨iq, fun r hr => ?_⟩
  rcases (e r).mp hr with z | z
  · refine .inl (dens_lt (st r hr).pos (st p ip).pos (st q iq).pos ?_ gt)
    rcases h.all r z with z | ⟨z, _⟩
    · exact Int.le_of_lt z
    · exact Int.le_of_eq z
  · subst z
    exact .inr ⟨rfl, .inr ⟨rfl, Nat.le_refl _⟩⟩
/-- one more that is not denser, and comes behind -/
theorem Bst.stay {S S' : Pl → Prop} {L : Pl → Int} {p q : Pl} (h : Bst S L p) (e : ∀ r, S' r ↔ S r ∨ r = q) (le : L q * lenP p ≤ L p * lenP q) (o : AheadP p q ∨ L q * lenP p ≠ L p * lenP q) : Bst S' L p := by
  refine ⟨(e p).mpr (.inl h.inn), fun r hr => ?_⟩
  rcases (e r).mp hr with z | z
  · exact h.all r z
  · subst z
    by_cases c : L r * lenP p = L p * lenP r
    · rcases o with o | o
      · exact .inr ⟨c, o⟩
      · exact absurd c o
    · exact .inl (by omega)
theorem Bst.congr {S S' : Pl → Prop} {L : Pl → Int} {p : Pl} (h : Bst S L p) (e : ∀ r, S' r ↔ S r) : Bst S' L p := ⟨(e p).mpr h.inn, fun q hq => h.all q ((e q).mp hq)⟩
/-- seen by rows: all that begin ahead of b, and of b those that end at e or behind (downwards), those ahead of e (upwards) -/
def SeenD (n b e : Nat) (p : Pl) : Prop := Sec n p ∧ (p.1 < b ∨ (p.1 = b ∧ e ≤ p.2))
def SeenU (n b e : Nat) (p : Pl) : Prop := Sec n p ∧ (p.1 < b ∨ (p.1 = b ∧ p.2 < e))
theorem seenD_step {n b e : Nat} (h1 : b ≤ e) (h2 : e < n) (r : Pl) : SeenD n b e r ↔ SeenD n b (e + 1) r ∨ r = (b, e) := by
  obtain ⟨x, y⟩ := r
  unfold SeenD Sec
  rw [Prod.mk.injEq]
  show (x ≤ y ∧ y < n) ∧ _ ↔ ((x ≤ y ∧ y < n) ∧ _) ∨ _
  simp only
  omega
theorem seenD_next {n b : Nat} (r : Pl) : SeenD n (b + 1) n r ↔ SeenD n b b r := by
  obtain ⟨x, y⟩ := r
  unfold SeenD Sec
  simp only
  omega
theorem seenD_all {n : Nat} (r : Pl) : Sec n r ↔ SeenD n n n r := by
  obtain ⟨x, y⟩ := r
  unfold SeenD Sec
  simp only
  omega
/-- what the windows hold -/
abbrev Wn := Option (Nat × Nat)
def holdB (b e : Nat) : Wn → Bool
  | none => false
  | some (x, y) => decide (b ≤ x) && decide (y ≤ e)
def heldM (ws : List Wn) (p : Pl) : List Nat := (List.range ws.length).filter fun i => holdB p.1 p.2 (ws.getD i none)
def loadM (ws : List Wn) (A : Nat → Int) (p : Pl) : Int := ((heldM ws p).map A).sum
theorem sum_nonneg {A : Nat → Int} (h : ∀ i, 0 ≤ A i) : ∀ l : List Nat, 0 ≤ (l.map A).sum
  | [] => Int.le_refl _
  | x :: l => by
    rw [List.map_cons, List.sum_cons]
    have := h x
    have := sum_nonneg h l
    omega
theorem sum_scale {A C : Nat → Int} {a b : Int} : ∀ l : List Nat, (∀ i ∈ l, C i * a = A i * b) → (l.map C).sum * a = (l.map A).sum * b
  | [], _ => by simp
  | x :: l, h => by
    rw [List.map_cons, List.sum_cons, List.map_cons, List.sum_cons, Int.add_mul, Int.add_mul, h x List.mem_cons_self, sum_scale l fun i hi => h i (List.mem_cons_of_mem _ hi)]
end B

namespace B
open PySem PySem.Spec L2 PyProof.Rows
/-! ### comprehensions by place, whatever is walked -/
structure Wlk (J : It) (H : Hp) (n : Nat) (P : Nat → V → Hp → Prop) : Prop where
  go : ∀ i H', i < n → Same H H' → J.go i H'
  stop : ∀ H', Same H H' → J.stop n H'
  yld : ∀ i H' x H'', i < n → Same H H' → J.yld i H' x H'' → Same H' H'' ∧ P i x H''
theorem wlk_lst {K : PySem.W.Frag} {H : Hp} {a : Addr} {xs : List V} (h : SqL K H a xs) : Wlk (Itl K a) H xs.length (fun i x _ => xs[i]? = some x) where
  go := fun i H' hi s => ⟨xs, _, s.seq h, List.getElem?_eq_getElem hi⟩
  stop := fun H' s => ⟨xs, s.seq h, Nat.le_refl _⟩
  yld := fun i H' x H'' hi s y => by obtain ⟨rfl, hy⟩ := y; exact ⟨Same.refl _, hy xs (s.seq h)⟩
theorem wlk_tup {K : PySem.W.Frag} {H : Hp} {a : Addr} {xs : List V} (h : SqT K H a xs) : Wlk (Itt K a) H xs.length (fun i x _ => xs[i]? = some x) where
  go := fun i H' hi s => ⟨xs, _, Tst.same s _ _ h, List.getElem?_eq_getElem hi⟩
  stop := fun H' s => ⟨xs, Tst.same s _ _ h, Nat.le_refl _⟩
  yld := fun i H' x H'' hi s y => by obtain ⟨rfl, hy⟩ := y; exact ⟨Same.refl _, hy xs (Tst.same s _ _ h)⟩
theorem wlk_rng {H : Hp} {lo : Int} {n : Nat} : Wlk (Itr lo n) H n (fun i x _ => x = .int (lo + i)) where
  go := fun i H' hi s => hi
  stop := fun H' s => Nat.le_refl _
  yld := fun i H' x H'' hi s y => by obtain ⟨rfl, rfl⟩ := y; exact ⟨Same.refl _, rfl⟩
theorem wlk_enT {K : PySem.W.Frag} {H : Hp} {a : Addr} {xs : List V} (h : SqT K H a xs) : Wlk (IteT K a) H xs.length (fun i v H' => ∃ p x, v = .ref p ∧ xs[i]? = some x ∧ H' p = some (.tup [.int i, x])) where
  go := fun i H' hi s => ⟨xs, _, Tst.same s _ _ h, List.getElem?_eq_getElem hi⟩
  stop := fun H' s => ⟨xs, Tst.same s _ _ h, Nat.le_refl _⟩
  yld := fun i H' x H'' hi s y => by obtain ⟨p, v, hp, rfl, rfl, hy⟩ := y; exact ⟨same_new hp _, p, v, rfl, hy xs (Tst.same s _ _ h), upd_same⟩
theorem wlk_enL {K : PySem.W.Frag} {H : Hp} {a : Addr} {xs : List V} (h : SqL K H a xs) : Wlk (IteL K a) H xs.length (fun i v H' => ∃ p x, v = .ref p ∧ xs[i]? = some x ∧ H' p = some (.tup [.int i, x])) where
  go := fun i H' hi s => ⟨xs, _, s.seq h, List.getElem?_eq_getElem hi⟩
  stop := fun H' s => ⟨xs, s.seq h, Nat.le_refl _⟩
  yld := fun i H' x H'' hi s y => by obtain ⟨p, v, hp, rfl, rfl, hy⟩ := y; exact ⟨same_new hp _, p, v, rfl, hy xs (s.seq h), upd_same⟩
theorem comp_ix {J : It} {H : Hp} {D : Addr} {n : Nat} {P : Nat → V → Hp → Prop} (w : Wlk J H n P) (c : Nat → Bool) (f : Nat → V) {src : List (Option Nat)} {σ : L2.St} {g : TG} {tt : TT} {te : TE} {Q : Hp → Prop} (hD : H D = none) (hn : n ≤ 1000)
    (turn : ∀ (i : Nat) (x : V) (H' : Hp), i < n → Same H H' → P i x H' → ∀ (R : VK) (E : Hp → Prop), (c i = true → ∀ H'', Same H' H'' → R (f i) H'') → (c i = false → ∀ H'', Same H' H'' → E H'') →
      g x (frees src σ) H' fun σ2 H2 => Ext (frees src σ) σ2 ∧ tt σ2 H2 fun ok H3 => if ok = true then te σ2 H3 R else E H3)
    (fin : ∀ H', Same H H' → H' D = some (.lst (((List.range n).filter c).map f)) → Q H') :
    ∃ W : Nat → Nat → List V → Hp → Prop, (∃ m, W 0 m [] (upd H D (.lst []))) ∧ ∀ i m ys H, W i m ys H → (J.stop i H ∧ Q H) ∨ (J.go i H ∧ ∀ x H', J.yld i H x H' →
      g x (frees src σ) H' fun σ2 H2 => Ext (frees src σ) σ2 ∧ tt σ2 H2 fun ok H3 =>
        if ok = true then te σ2 H3 fun y H4 => H4 D = some (.lst ys) ∧ ys.length < sizeLine ∧ ∃ m', m' < m ∧ W (i + 1) m' (ys ++ [y]) (upd H4 D (.lst (ys ++ [y]))) else ∃ m', m' < m ∧ W (i + 1) m' ys H3) := by
  refine ⟨fun i m ys H' => i ≤ n ∧ m = n - i ∧ ys = ((List.range i).filter c).map f ∧ Same H H' ∧ H' D = some (.lst ys), ⟨_, Nat.zero_le _, rfl, rfl, same_new hD _, upd_same⟩, ?_⟩
  rintro i m ys H1 ⟨hi, rfl, rfl, s1, d1⟩
  by_cases hix : i < n
  · refine .inr ⟨w.go i H1 hix s1, fun x H2 y => ?_⟩
    obtain ⟨s2, p⟩ := w.yld i H1 x H2 hix s1 y
    have d2 := s2 _ _ d1
    have len : (((List.range i).filter c).map f).length ≤ i := by
      rw [List.length_map]
      exact Nat.le_trans (List.length_filter_le _ _) (by rw [List.length_range]; exact Nat.le_refl _)
    refine turn i x H2 hix (s1.trans s2) p _ _ (fun hc H3 s3 => ?_) fun hc H3 s3 => ?_
    · have d3 := s3 _ _ d2
      refine ⟨d3, small1000 (by omega), n - (i + 1), by omega, hix, rfl, ?_, fun b o q => ?_, upd_same⟩
      · rw [List.range_succ, List.filter_append, List.map_append]
        simp [hc]
      · rw [upd_ne (ne_of_none q hD)]
        exact s3 _ _ (s2 _ _ (s1 _ _ q))
    · refine ⟨n - (i + 1), by omega, hix, rfl, ?_, (s1.trans s2).trans s3, s3 _ _ d2⟩
      rw [List.range_succ, List.filter_append, List.map_append]
      simp [hc]
  · have e : i = n := by omega
    subst e
    exact .inl ⟨w.stop H1 s1, fin H1 s1 d1⟩
/-- a list's things by place -/
theorem by_place {α β : Type} (d : α) (p : α → Bool) (f : α → β) : ∀ l : List α, ((List.range l.length).filter fun i => p (l.getD i d)).map (fun i => f (l.getD i d)) = (l.filter p).map f
  | [] => rfl
  | x :: l => by
    have ih := by_place d p f l
    rw [List.length_cons, List.range_succ_eq_map, List.filter_cons, List.filter_cons]
    have e : (((List.range l.length).map Nat.succ).filter fun i => p ((x :: l).getD i d)).map (fun i => f ((x :: l).getD i d)) = (l.filter p).map f := by
      rw [List.filter_map, List.map_map]
      exact ih
    show (if p x = true then _ else _ : List Nat).map _ = _
    cases hp : p x with
    | true =>
      simp only [if_true, List.map_cons]
      rw [e]; rfl
    | false =>
      simp only [Bool.false_eq_true, if_false]
      exact e
theorem by_place_all {α β : Type} (d : α) (f : α → β) (l : List α) : ((List.range l.length).filter fun _ => true).map (fun i => f (l.getD i d)) = l.map f := by
  have := by_place d (fun _ => true) f l
  rw [this, List.filter_eq_self.mpr (by intros; rfl)]
theorem getD_of {α : Type} {l : List α} {i : Nat} {x : α} (d : α) (h : l[i]? = some x) : l.getD i d = x := by rw [List.getD_eq_getElem?_getD, h]; rfl
end B

namespace B
open PySem PySem.Spec L2 PyProof.Rows
/-! ### [x] * n, list(range(n)), x not in a sequence within a comprehension -/
section
variable {prog : Program} {w : World} {A : Around} {E : Value → Shared → Prop} {s : Shared}
theorem rep_list {l : Addr} {items : Array Value} {k : Nat} {x : Int} {u : Tok} {Q : Value → Shared → Prop} (hl : s.heap.get? l = some { cls := .type "list", dict := none, data := .seq items k, slots := #[] })
    (hlo : -(2 ^ 63 : Int) ≤ x) (hhi : x < 2 ^ 63) (hsz : items.size * x.toNat ≤ 2 ^ 24)
    (h : Q (.ref s.heap.objs.size) { s with heap := s.heap.push { cls := .type "list", data := .seq (List.foldl (fun x1 x2 => x1 ++ x2) #[] (List.replicate (if items.isEmpty = true then 0 else x.toNat) items)) } }) :
    wpAny (model prog w) A (binaryOp .Mult (.ref l) (.int x u)) Q E s :=
  wpAny_binaryOp_repeat_ref (T := "list") (U := "int") (by decide) ⟨_, hl, rfl⟩ (fun s' => typeIs_int s' x u) noFill_list_mul F.fills_int_mul F.slot_int_rmul repeat_list F.slot_int_index.lookup
    (call_meets F.slot_int_rmul (typeIs_int s x u) F.entry_int_rmul (F.args_int_rmul_2 _ _) (int___rmul___int_list x u l items k)
      ⟨hl, rfl, ⟨_, hl, rfl⟩, call_meets F.slot_list_mul ⟨_, hl, rfl⟩ F.entry_list_mul (F.args_list_mul_2 _ _)
        (AutoListH.list___mul___list_int_3 l items k x u (by simp [Builtin.List.listFitsIndex]; omega) (by omega) (by simp [Builtin.List.listTooLong, sizeLine]; omega))
        ⟨hl, h⟩⟩)
end
theorem fold_rep (u : Value) : ∀ (n : Nat) (acc : Array Value), (List.foldl (fun x1 x2 => x1 ++ x2) acc (List.replicate n #[u])).toList = acc.toList ++ List.replicate n u
  | 0, acc => by simp
  | n + 1, acc => by
    rw [List.replicate_succ, List.foldl_cons, fold_rep u n, List.replicate_succ]
    simp
theorem vals_rep {v : V} {u : Value} (r : RelV v u) : ∀ n : Nat, Vals (List.replicate n v) (List.replicate n u)
  | 0 => .nil
  | n + 1 => .cons r (vals_rep r n)
theorem op_repL {X : Cx} : OpR X (binaryOp .Mult) (fun x y H Q => ∃ (p : Addr) (v : V) (n : Nat), x = .ref p ∧ y = .int n ∧ H p = some (.lst [v]) ∧ n ≤ 1000 ∧ ∀ l, H l = none → Q (.ref l) (upd H l (.lst (List.replicate n v)))) := by
  intro pins s σ H x y xv yv Q I rx ry h
  obtain ⟨p, v, n, rfl, rfl, hp, hn, q⟩ := h
  cases (show xv = Value.ref p from rx)
  obtain ⟨t, rfl⟩ := (show ∃ t, yv = Value.int n t from ry)
  obtain ⟨_, its, c, rv, e⟩ := (show ObjOk X.prog X.w H s.heap p (.lst [v]) from I.hok p _ hp)
  cases rv with
  | @cons _ u _ _ r0 rr =>
  cases rr
  refine rep_list e (by omega) (by omega) (by simp; omega) ?_
  have el : (List.foldl (fun x1 x2 => x1 ++ x2) #[] (List.replicate (if ([u] : List Value).toArray.isEmpty = true then 0 else (n : Int).toNat) [u].toArray)) = (List.replicate n u).toArray := by
    apply Array.ext'
    have := fold_rep u n #[]
    simpa using this
  rw [el]
  have I2 : Inv X pins σ (upd H s.heap.objs.size (.lst (List.replicate n v))) { s with heap := s.heap.push { cls := .type "list", data := .seq (List.replicate n u).toArray } } :=
    I.laid (t' := s.toks) (fun b o e => Heap.get?_push_of_some _ e) (Nat.le_refl _) (show ObjOk X.prog X.w _ _ _ (.lst (List.replicate n v)) from ⟨by rw [List.length_replicate, sizeLine_eq]; omega, List.replicate n u, _, vals_rep r0 n, Heap.get?_push_size _ rfl⟩)
  exact ⟨.ref s.heap.objs.size, _, I2, rfl, q _ (I.hok.fresh (Nat.le_refl _))⟩
theorem op_notIn_seqK {X : Cx} {K : PySem.W.Frag} (hK : X.K = K) : OpR X (compareOp .NotIn) (rIn K true) := hK ▸ op_notIn_seq
theorem inV_int (t : Nat) (ls : List Nat) : inV (.int t) (ls.map fun n : Nat => V.int n) = ls.contains t := by
  unfold inV
  rw [List.any_map]
  induction ls with
  | nil => rfl
  | cons a r ih =>
    rw [List.any_cons, List.contains_cons, ih]
    congr 1
    show decide (((a : Nat) : Int) = (t : Nat)) = (t == a)
    by_cases h : t = a
    · subst h; simp
    · rw [beq_eq_false_iff_ne.mpr h]
      exact decide_eq_false (by omega)
theorem flat_nat (ls : List Nat) : (ls.map fun n : Nat => V.int n).all flatV = true := by
  rw [List.all_map, List.all_eq_true]
  intro x _
  rfl
end B

namespace My
open PySem L2 B PyProof.Rows
def top (i : Nat) : Stmt := PySem.Challenge.pw_paceplan_k47_whole_a_work_more_lowers_no.main.body.getD i (.Pass ⟨0, 0, 0, 0⟩)
abbrev s_greatest_divisor : Stmt := top 5
abbrev s_ratio : Stmt := top 6
abbrev s_plus : Stmt := top 7
abbrev s_times : Stmt := top 8
abbrev s_over : Stmt := top 9
abbrev s_total : Stmt := top 10
abbrev s_whole_parts : Stmt := top 11
abbrev s_in_window : Stmt := top 14
abbrev s_kept_windows : Stmt := top 16
abbrev s_held : Stmt := top 17
abbrev s_tightest_places : Stmt := top 18
abbrev s_tightest : Stmt := top 19
abbrev s_layers : Stmt := top 20
abbrev s_layer_density : Stmt := top 21
abbrev s_layer_speeds : Stmt := top 22
abbrev s_law_tape : Stmt := top 24
abbrev s_law_draw : Stmt := top 25
abbrev s_law_frac : Stmt := top 26
abbrev s_law_add : Stmt := top 27
abbrev s_law_less : Stmt := top 28
abbrev s_law_sum : Stmt := top 29
abbrev s_law_works : Stmt := top 30
abbrev s_law_least_rise : Stmt := top 31
abbrev s_law_most : Stmt := top 32
abbrev s_law : Stmt := top 33
structure Ad where
  a_greatest_divisor : Addr
  d_greatest_divisor : FuncData
  a_ratio : Addr
  d_ratio : FuncData
  a_plus : Addr
  d_plus : FuncData
  a_times : Addr
  d_times : FuncData
  a_over : Addr
  d_over : FuncData
  a_total : Addr
  d_total : FuncData
  a_whole_parts : Addr
  d_whole_parts : FuncData
  a_in_window : Addr
  d_in_window : FuncData
  a_kept_windows : Addr
  d_kept_windows : FuncData
  a_held : Addr
  d_held : FuncData
  a_tightest_places : Addr
  d_tightest_places : FuncData
  a_tightest : Addr
  d_tightest : FuncData
  a_layers : Addr
  d_layers : FuncData
  a_layer_density : Addr
  d_layer_density : FuncData
  a_layer_speeds : Addr
  d_layer_speeds : FuncData
  a_law_tape : Addr
  d_law_tape : FuncData
  a_law_draw : Addr
  d_law_draw : FuncData
  a_law_frac : Addr
  d_law_frac : FuncData
  a_law_add : Addr
  d_law_add : FuncData
  a_law_less : Addr
  d_law_less : FuncData
  a_law_sum : Addr
  d_law_sum : FuncData
  a_law_works : Addr
  d_law_works : FuncData
  a_law_least_rise : Addr
  d_law_least_rise : FuncData
  a_law_most : Addr
  d_law_most : FuncData
  a_law : Addr
  d_law : FuncData
  c_NOUGHT : Addr
  k_TURNS : Tok
structure Txt (K : PySem.W.Frag) (mg : Str → Option Value) (t : Ad) : Prop where
  F_greatest_divisor : Fun K "greatest_divisor" "greatest_divisor" s_greatest_divisor t.a_greatest_divisor t.d_greatest_divisor
  b_greatest_divisor : Binds K t.d_greatest_divisor ["one", "other"] []
  m_greatest_divisor : mg "greatest_divisor" = some (.ref t.a_greatest_divisor)
  F_ratio : Fun K "ratio" "ratio" s_ratio t.a_ratio t.d_ratio
  b_ratio : Binds K t.d_ratio ["top", "bottom"] []
  m_ratio : mg "ratio" = some (.ref t.a_ratio)
  F_plus : Fun K "plus" "plus" s_plus t.a_plus t.d_plus
  b_plus : Binds K t.d_plus ["one", "other"] []
  m_plus : mg "plus" = some (.ref t.a_plus)
  F_times : Fun K "times" "times" s_times t.a_times t.d_times
  b_times : Binds K t.d_times ["one", "other"] []
  m_times : mg "times" = some (.ref t.a_times)
  F_over : Fun K "over" "over" s_over t.a_over t.d_over
  b_over : Binds K t.d_over ["one", "other"] []
  m_over : mg "over" = some (.ref t.a_over)
  F_total : Fun K "total" "total" s_total t.a_total t.d_total
  b_total : Binds K t.d_total ["some"] []
  m_total : mg "total" = some (.ref t.a_total)
  F_whole_parts : Fun K "whole_parts" "whole_parts" s_whole_parts t.a_whole_parts t.d_whole_parts
  b_whole_parts : Binds K t.d_whole_parts ["some"] []
  m_whole_parts : mg "whole_parts" = some (.ref t.a_whole_parts)
  F_in_window : Fun K "in_window" "in_window" s_in_window t.a_in_window t.d_in_window
  b_in_window : Binds K t.d_in_window ["work", "turn"] []
  m_in_window : mg "in_window" = some (.ref t.a_in_window)
  F_kept_windows : Fun K "kept_windows" "kept_windows" s_kept_windows t.a_kept_windows t.d_kept_windows
  b_kept_windows : Binds K t.d_kept_windows ["works", "left"] []
  m_kept_windows : mg "kept_windows" = some (.ref t.a_kept_windows)
  F_held : Fun K "held" "held" s_held t.a_held t.d_held
  b_held : Binds K t.d_held ["windows", "begin", "end"] []
  m_held : mg "held" = some (.ref t.a_held)
  F_tightest_places : Fun K "tightest_places" "tightest_places" s_tightest_places t.a_tightest_places t.d_tightest_places
  b_tightest_places : Binds K t.d_tightest_places ["windows", "amounts", "count"] []
  m_tightest_places : mg "tightest_places" = some (.ref t.a_tightest_places)
  F_tightest : Fun K "tightest" "tightest" s_tightest t.a_tightest t.d_tightest
  b_tightest : Binds K t.d_tightest ["works", "left"] []
  m_tightest : mg "tightest" = some (.ref t.a_tightest)
  F_layers : Fun K "layers" "layers" s_layers t.a_layers t.d_layers
  b_layers : Binds K t.d_layers ["works"] []
  m_layers : mg "layers" = some (.ref t.a_layers)
  F_layer_density : Fun K "layer_density" "layer_density" s_layer_density t.a_layer_density t.d_layer_density
  b_layer_density : Binds K t.d_layer_density ["works", "layer"] []
  m_layer_density : mg "layer_density" = some (.ref t.a_layer_density)
  F_layer_speeds : Fun K "layer_speeds" "layer_speeds" s_layer_speeds t.a_layer_speeds t.d_layer_speeds
  b_layer_speeds : Binds K t.d_layer_speeds ["works"] []
  m_layer_speeds : mg "layer_speeds" = some (.ref t.a_layer_speeds)
  F_law_tape : Fun K "_law_tape" "_law_tape" s_law_tape t.a_law_tape t.d_law_tape
  b_law_tape : Binds K t.d_law_tape ["_law_script"] []
  m_law_tape : mg "_law_tape" = some (.ref t.a_law_tape)
  F_law_draw : Fun K "_law_draw" "_law_draw" s_law_draw t.a_law_draw t.d_law_draw
  b_law_draw : Binds K t.d_law_draw ["_law_tape_here", "_law_many"] []
  m_law_draw : mg "_law_draw" = some (.ref t.a_law_draw)
  F_law_frac : Fun K "_law_frac" "_law_frac" s_law_frac t.a_law_frac t.d_law_frac
  b_law_frac : Binds K t.d_law_frac ["_law_top", "_law_bottom"] []
  m_law_frac : mg "_law_frac" = some (.ref t.a_law_frac)
  F_law_add : Fun K "_law_add" "_law_add" s_law_add t.a_law_add t.d_law_add
  b_law_add : Binds K t.d_law_add ["_law_one", "_law_other"] []
  m_law_add : mg "_law_add" = some (.ref t.a_law_add)
  F_law_less : Fun K "_law_less" "_law_less" s_law_less t.a_law_less t.d_law_less
  b_law_less : Binds K t.d_law_less ["_law_one", "_law_other"] []
  m_law_less : mg "_law_less" = some (.ref t.a_law_less)
  F_law_sum : Fun K "_law_sum" "_law_sum" s_law_sum t.a_law_sum t.d_law_sum
  b_law_sum : Binds K t.d_law_sum ["_law_some"] []
  m_law_sum : mg "_law_sum" = some (.ref t.a_law_sum)
  F_law_works : Fun K "_law_works" "_law_works" s_law_works t.a_law_works t.d_law_works
  b_law_works : Binds K t.d_law_works ["_law_tape_here", "_law_many"] []
  m_law_works : mg "_law_works" = some (.ref t.a_law_works)
  F_law_least_rise : Fun K "_law_least_rise" "_law_least_rise" s_law_least_rise t.a_law_least_rise t.d_law_least_rise
  b_law_least_rise : Binds K t.d_law_least_rise ["_law_works_here", "_law_more"] []
  m_law_least_rise : mg "_law_least_rise" = some (.ref t.a_law_least_rise)
  F_law_most : Fun K "_law_most" "_law_most" s_law_most t.a_law_most t.d_law_most
  b_law_most : Binds K t.d_law_most ["_law_works_here"] []
  m_law_most : mg "_law_most" = some (.ref t.a_law_most)
  F_law : Fun K "law" "law" s_law t.a_law t.d_law
  b_law : Binds K t.d_law ["_law_script"] []
  m_law : mg "law" = some (.ref t.a_law)
  m_NOUGHT : mg "NOUGHT" = some (.ref t.c_NOUGHT)
  q_NOUGHT : ∀ H, SqT K H t.c_NOUGHT [.int (0), .int (1)]
  m_TURNS : mg "TURNS" = some (.int (24) t.k_TURNS)
  z_abs : mg "abs" = none
  z_enumerate : mg "enumerate" = none
  z_len : mg "len" = none
  z_max : mg "max" = none
  z_min : mg "min" = none
  z_range : mg "range" = none
  z_sum : mg "sum" = none
  z_tuple : mg "tuple" = none
abbrev sp_law_tape := sp_tape3
abbrev sp_law_draw := sp_draw3
def sp_greatest_divisor (_ : PySem.W.Frag) : Sp := fun vs H Q _ => ∃ a b : Int, vs = [.int a, .int b] ∧ Q (.int (Int.gcd a b : Nat)) H
theorem lcm_step {B b : Int} (hB : 0 < B) (hb : 0 < b) (h1 : B ∣ 84) (h2 : b ∣ 84) : 0 < B * (b / (Int.gcd B b : Int)) ∧ B * (b / (Int.gcd B b : Int)) ∣ 84 ∧ B ∣ B * (b / (Int.gcd B b : Int)) ∧ b ∣ B * (b / (Int.gcd B b : Int)) := by
  obtain ⟨m, rfl⟩ := Int.eq_ofNat_of_zero_le (Int.le_of_lt hB)
  obtain ⟨n, rfl⟩ := Int.eq_ofNat_of_zero_le (Int.le_of_lt hb)
  have e : (m : Int) * ((n : Int) / (Int.gcd m n : Int)) = ((Nat.lcm m n : Nat) : Int) := by
    show (m : Int) * ((n : Int) / ((Nat.gcd m n : Nat) : Int)) = _
    rw [← Int.natCast_ediv, ← Int.natCast_mul]
    unfold Nat.lcm
    rw [Nat.mul_div_assoc _ (Nat.gcd_dvd_right m n)]
  rw [e]
  have p := Nat.lcm_pos (show 0 < m by omega) (show 0 < n by omega)
  refine ⟨by omega, ?_, Int.natCast_dvd_natCast.mpr (Nat.dvd_lcm_left m n), Int.natCast_dvd_natCast.mpr (Nat.dvd_lcm_right m n)⟩
  have a1 : m ∣ 84 := Int.natCast_dvd_natCast.mp h1
  have a2 : n ∣ 84 := Int.natCast_dvd_natCast.mp h2
  exact Int.natCast_dvd_natCast.mpr (Nat.lcm_dvd a1 a2)
def newR (H : Hp) (Q : VK) (r : R) : Prop := ∀ p, H p = none → Q (.ref p) (upd H p (.tup [.int r.1, .int r.2]))
def toR (K : PySem.W.Frag) (H : Hp) (Q : VK) (r : R) : Prop := ∀ (v : V) (H' : Hp), Same H H' → RV K H' v r → Q v H'
def sp_ratio (_ : PySem.W.Frag) : Sp := fun vs H Q _ => ∃ a b : Int, vs = [.int a, .int b] ∧ 0 < b ∧ b.natAbs < 2 ^ 4000 ∧ newR H Q (mkR a b)
def sp_plus (K : PySem.W.Frag) : Sp := fun vs H Q _ => ∃ (v w : V) (r q : R) (n m : Nat), vs = [v, w] ∧ RV K H v r ∧ RV K H w q ∧ Wf n r ∧ Wf m q ∧ n + m + 1 ≤ 3000 ∧ newR H Q (plusR r q)
def sp_times (K : PySem.W.Frag) : Sp := fun vs H Q _ => ∃ (v w : V) (r q : R) (n m : Nat), vs = [v, w] ∧ RV K H v r ∧ RV K H w q ∧ Wf n r ∧ Wf m q ∧ n + m + 1 ≤ 3000 ∧ newR H Q (timesR r q)
def Seq (K : PySem.W.Frag) (H : Hp) (a : Addr) (xs : List V) : Prop := SqL K H a xs ∨ SqT K H a xs
def sp_total (K : PySem.W.Frag) : Sp := fun vs H Q _ => ∃ (a : Addr) (xs : List V) (rs : List R) (n : Nat), vs = [.ref a] ∧ Seq K H a xs ∧ RVs K H xs rs ∧ (∀ r ∈ rs, Wf n r) ∧ rs.length ≤ 255 ∧ (n + 9) * (rs.length + 1) ≤ 2990 ∧ ∀ (v' : V) (H' : Hp), Same H H' → RV K H' v' (sumR rs) → Q v' H'
theorem div_lt {a g : Int} (hg : 0 < g) (h : a.natAbs < 2 ^ 4000) : (a / g).natAbs < 2 ^ 4000 := Nat.lt_of_le_of_lt (natAbs_div_le a hg) h
theorem gcd_lt {a b : Int} (hb : 0 < b) (h : b.natAbs < 2 ^ 4000) : ((Int.gcd a b : Nat) : Int).natAbs < 2 ^ 4000 := by
  have z : Int.gcd a b ≤ b.natAbs := Nat.le_of_dvd (by omega) (by have := Int.gcd_dvd_right a b; exact Int.natAbs_dvd_natAbs.mpr this)
  have e : ((Int.gcd a b : Nat) : Int).natAbs = Int.gcd a b := Int.natAbs_natCast _
  omega
theorem big_of {i : Int} {n : Nat} (h : i.natAbs < 2 ^ n) (hn : n ≤ 4000) : i.natAbs < 2 ^ 4000 := Nat.lt_of_lt_of_le h (Nat.pow_le_pow_right (by decide) hn)

abbrev sp_law_frac := sp_ratio
abbrev sp_law_add := sp_plus
def sp_over (K : PySem.W.Frag) : Sp := fun vs H Q _ => ∃ (v w : V) (r : R) (n m : Nat), vs = [v, w] ∧ RV K H v r ∧ RV K H w ((m : Int), 1) ∧ Wf n r ∧ 0 < m ∧ m ≤ 24 ∧ n ≤ 2000 ∧ toR K H Q (timesR r (1, (m : Int)))
def sp_law_sum (K : PySem.W.Frag) : Sp := fun vs H Q _ => ∃ (a : Addr) (xs : List V) (rs : List R), vs = [.ref a] ∧ Seq K H a xs ∧ Als (RV K H) xs rs ∧ (∀ r ∈ rs, Wf 110 r) ∧ rs.length ≤ 24 ∧ ∀ (v' : V) (H' : Hp), Same H H' → RV K H' v' (sumR rs) → Q v' H'
theorem mk_one {m : Nat} (h : 0 < m) : mkR 1 (m : Int) = (1, (m : Int)) := mkR_uniq (by omega) (by omega) (by simp) (by omega)
theorem one_wf {m : Nat} (h : 0 < m) (h' : m ≤ 24) : Wf 5 ((1, (m : Int)) : R) := ⟨by show (0 : Int) < m; omega, by show (1 : Int).natAbs < 2 ^ 5; decide, by show ((m : Int)).natAbs < 32; omega, by simp⟩
theorem als_rvs {K : PySem.W.Frag} {H : Hp} {xs : List V} {rs : List R} (h : Als (RV K H) xs rs) : RVs K H xs rs := ⟨h.len, fun i x r hx hr => by obtain ⟨d, hd, p⟩ := h.at hx; rw [hr] at hd; cases hd; exact p⟩
theorem Als.setI {α : Type} {P : V → α → Prop} {v : V} {d : α} (k : P v d) : ∀ {xs : List V} {ds : List α} (i : Nat), Als P xs ds → Als P (xs.set i v) (ds.set i d)
  | _, _, _, .nil => .nil
  | _, _, 0, .cons _ t => .cons k t
  | _, _, i + 1, .cons h t => .cons h (Als.setI k i t)
theorem Als.rep {α : Type} {P : V → α → Prop} {v : V} {d : α} (k : P v d) : ∀ n : Nat, Als P (List.replicate n v) (List.replicate n d)
  | 0 => .nil
  | n + 1 => .cons k (Als.rep k n)
theorem ixN_nat {n t : Nat} (h : t < n) : ixN n (t : Int) = some t := by
  unfold ixN
  simp
  omega
/-! works: first turn, last turn, amount -/
abbrev Wk := Nat × Nat × R
def WkV (K : PySem.W.Frag) (H : Hp) (v : V) (w : Wk) : Prop := ∃ p x, v = .ref p ∧ SqT K H p [.int w.1, .int w.2.1, x] ∧ RV K H x w.2.2
theorem WkV.mono {K : PySem.W.Frag} {H H' : Hp} {v : V} {w : Wk} (h : WkV K H v w) (t : Tst K H H') : WkV K H' v w := let ⟨p, x, e, s, r⟩ := h; ⟨p, x, e, t _ _ s, r.mono t⟩
structure AmOk (r : R) : Prop where
  top : 1 ≤ r.1
  top' : r.1 ≤ 300
  bot : 1 ≤ r.2
  bot' : r.2 ≤ 84
  dvd : r.2 ∣ 84
  wf : Wf 9 r
structure WkOk (w : Wk) : Prop where
  le : w.1 ≤ w.2.1
  lt : w.2.1 < 24
  am : AmOk w.2.2
def WksV (K : PySem.W.Frag) (H : Hp) (v : V) (ws : List Wk) : Prop := ∃ p xs, v = .ref p ∧ SqT K H p xs ∧ Als (WkV K H) xs ws
theorem WksV.mono {K : PySem.W.Frag} {H H' : Hp} {v : V} {ws : List Wk} (h : WksV K H v ws) (t : Tst K H H') : WksV K H' v ws := let ⟨p, xs, e, s, a⟩ := h; ⟨p, xs, e, t _ _ s, a.mono fun _ _ q => q.mono t⟩
def natV (ls : List Nat) : List V := ls.map fun n : Nat => V.int n
theorem amOk_mk {a b : Int} (h1 : 1 ≤ a) (h2 : a ≤ 12) (h3 : 1 ≤ b) (h4 : b ≤ 7) (h5 : b ∣ 84) : AmOk (mkR a b) := by
  have g0 : 0 < (Int.gcd a b : Int) := gcd_posR (by omega)
  have da : (Int.gcd a b : Int) ∣ a := Int.gcd_dvd_left a b
  have db : (Int.gcd a b : Int) ∣ b := Int.gcd_dvd_right a b
  have p1 : 0 < a / (Int.gcd a b : Int) := Int.ediv_pos_of_pos_of_dvd (by omega) (Int.le_of_lt g0) da
  have p2 : 0 < b / (Int.gcd a b : Int) := Int.ediv_pos_of_pos_of_dvd (by omega) (Int.le_of_lt g0) db
  have q1 : a / (Int.gcd a b : Int) ≤ a := Int.ediv_le_self _ (by omega)
  have q2 : b / (Int.gcd a b : Int) ≤ b := Int.ediv_le_self _ (by omega)
  refine ⟨p1, by show a / (Int.gcd a b : Int) ≤ 300; omega, p2, by show b / (Int.gcd a b : Int) ≤ 84; omega, Int.dvd_trans ?_ h5, mkR_wf (by omega) (by show a.natAbs < 512; omega) (by show b.natAbs < 512; omega)⟩
  exact ⟨(Int.gcd a b : Int), (Int.ediv_mul_cancel db).symm⟩
/-! amounts -/
structure AmS (r : R) : Prop where
  am : AmOk r
  t12 : r.1 ≤ 12
  b7 : r.2 ≤ 7
structure WkS (w : Wk) : Prop where
  le : w.1 ≤ w.2.1
  lt : w.2.1 < 24
  am : AmS w.2.2
theorem WkS.ok {w : Wk} (h : WkS w) : WkOk w := ⟨h.le, h.lt, h.am.am⟩
theorem amS_mk {a b : Int} (h1 : 1 ≤ a) (h2 : a ≤ 12) (h3 : 1 ≤ b) (h4 : b ≤ 7) (h5 : b ∣ 84) : AmS (mkR a b) := by
  have g0 : 0 < (Int.gcd a b : Int) := gcd_posR (by omega)
  have q1 : a / (Int.gcd a b : Int) ≤ a := Int.ediv_le_self _ (by omega)
  have q2 : b / (Int.gcd a b : Int) ≤ b := Int.ediv_le_self _ (by omega)
  exact ⟨amOk_mk h1 h2 h3 h4 h5, by show a / (Int.gcd a b : Int) ≤ 12; omega, by show b / (Int.gcd a b : Int) ≤ 7; omega⟩
def amChk (r : R) : Bool := decide (1 ≤ r.1 ∧ r.1 ≤ 300 ∧ 1 ≤ r.2 ∧ r.2 ≤ 84 ∧ 84 % r.2 = 0 ∧ Int.gcd r.1 r.2 = 1)
theorem amChk_ok {r : R} (h : amChk r = true) : AmOk r := by
  obtain ⟨h1, h2, h3, h4, h5, h6⟩ := of_decide_eq_true h
  exact ⟨h1, h2, h3, h4, Int.dvd_of_emod_eq_zero h5, ⟨by omega, by show r.1.natAbs < 512; omega, by show r.2.natAbs < 512; omega, h6⟩⟩
theorem am_add_all : ∀ (a : Fin 13) (b : Fin 8) (c : Fin 4), (decide (1 ≤ a.1) && decide (1 ≤ b.1) && decide (1 ≤ c.1) && decide (84 % b.1 = 0)) = true → amChk (plusR ((a.1 : Int), (b.1 : Int)) (1, (c.1 : Int))) = true := by decide +kernel
theorem am_add {r : R} (h : AmS r) {c : Int} (c1 : 1 ≤ c) (c3 : c ≤ 3) : AmOk (plusR r (1, c)) := by
  obtain ⟨x, y⟩ := r
  have t1 : 1 ≤ x := h.am.top
  have t2 : x ≤ 12 := h.t12
  have b1 : 1 ≤ y := h.am.bot
  have b2 : y ≤ 7 := h.b7
  have dv : y ∣ 84 := h.am.dvd
  obtain ⟨a, rfl⟩ := Int.eq_ofNat_of_zero_le (show 0 ≤ x by omega)
  obtain ⟨b, rfl⟩ := Int.eq_ofNat_of_zero_le (show 0 ≤ y by omega)
  obtain ⟨d, rfl⟩ := Int.eq_ofNat_of_zero_le (show 0 ≤ c by omega)
  refine amChk_ok (am_add_all ⟨a, by omega⟩ ⟨b, by omega⟩ ⟨d, by omega⟩ ?_)
  have dn : 84 % b = 0 := Nat.mod_eq_zero_of_dvd (Int.natCast_dvd_natCast.mp dv)
  show (decide (1 ≤ a) && decide (1 ≤ b) && decide (1 ≤ d) && decide (84 % b = 0)) = true
  rw [decide_eq_true (show 1 ≤ a by omega), decide_eq_true (show 1 ≤ b by omega), decide_eq_true (show 1 ≤ d by omega), decide_eq_true dn]
  rfl
def sp_law_works (K : PySem.W.Frag) : Sp := fun vs H Q _ => ∃ (t s : Addr) (m : Nat), vs = [.ref t, .int m] ∧ Tape3 K H t s ∧ m ≤ 64 ∧ ∀ (v : V) (ws : List Wk) (H' : Hp), Step t H H' → Tape3 K H' t s → WksV K H' v ws → ws.length = m → (∀ w ∈ ws, WkS w) → Q v H'
def unitsM (ws : List Wk) : List Int := ws.map fun w => w.2.2.1 * 84 / w.2.2.2
def partsM (B : Int) (ws : List Wk) : List Int := ws.map fun w => w.2.2.1 * (B / w.2.2.2)
def sp_whole_parts (K : PySem.W.Frag) : Sp := fun vs H Q _ => ∃ (a : Addr) (xs : List V) (ws : List Wk), vs = [.ref a] ∧ SqL K H a xs ∧ Als (RV K H) xs (ws.map fun w => w.2.2) ∧ ws.length ≤ 64 ∧ (∀ w ∈ ws, WkOk w) ∧ ∀ (l : Addr) (B : Int) (H' : Hp), Same H H' → H l = none → 0 < B → B ∣ 84 → (∀ w ∈ ws, w.2.2.2 ∣ B) → H' l = some (.lst ((partsM B ws).map V.int)) → Q (.ref l) H'
def inW (w : Wk) (t : Nat) : Bool := decide (w.1 ≤ t) && decide (t ≤ w.2.1)
def sp_in_window (K : PySem.W.Frag) : Sp := fun vs H Q _ => ∃ (v : V) (w : Wk) (t : Nat), vs = [v, .int t] ∧ WkV K H v w ∧ Q (.bl (inW w t)) H
def plsM (ls : List Nat) (w : Wk) : List Nat := (List.range ls.length).filter fun i => inW w (ls.getD i 0)
def winM (ls : List Nat) (w : Wk) : Wn := match plsM ls w with
  | [] => none
  | x :: r => some (x, (x :: r).getLast (by simp))
def OptW (K : PySem.W.Frag) (H : Hp) (v : V) : Wn → Prop
  | none => v = .non
  | some q => ∃ p, v = .ref p ∧ SqT K H p [.int q.1, .int q.2]
theorem OptW.mono {K : PySem.W.Frag} {H H' : Hp} {v : V} {o : Wn} (h : OptW K H v o) (t : Tst K H H') : OptW K H' v o := by
  cases o with
  | none => exact h
  | some q => obtain ⟨p, e, s⟩ := h; exact ⟨p, e, t _ _ s⟩
def sp_kept_windows (K : PySem.W.Frag) : Sp := fun vs H Q _ => ∃ (v : V) (q : Addr) (ws : List Wk) (ls : List Nat), vs = [v, .ref q] ∧ WksV K H v ws ∧ ws.length ≤ 64 ∧ SqT K H q (natV ls) ∧ ls.length ≤ 24 ∧ ∀ (l : Addr) (xs : List V) (H' : Hp), Same H H' → H l = none → H' l = some (.lst xs) → Als (OptW K H') xs (ws.map (winM ls)) → Q (.ref l) H'
def sp_held (K : PySem.W.Frag) : Sp := fun vs H Q _ => ∃ (l : Addr) (xs : List V) (os : List Wn) (p : Pl), vs = [.ref l, .int p.1, .int p.2] ∧ SqL K H l xs ∧ Als (OptW K H) xs os ∧ os.length ≤ 64 ∧ ∀ (D : Addr) (H' : Hp), Same H H' → H D = none → H' D = some (.lst (natV (heldM os p))) → Q (.ref D) H'
def amF (as : List Int) (i : Nat) : Int := as.getD i 0
theorem load_bd {os : List Wn} {as : List Int} (hb : ∀ x ∈ as, 0 ≤ x ∧ x ≤ 25200) (hn : os.length ≤ 64) (q : Pl) : 0 ≤ loadM os (amF as) q ∧ loadM os (amF as) q ≤ 1612800 := by
  have h0 : ∀ i, 0 ≤ amF as i ∧ amF as i ≤ 25200 := fun i => by
    unfold amF
    rw [List.getD_eq_getElem?_getD]
    cases e : as[i]? with
    | none => exact ⟨by decide, by decide⟩
    | some x => exact hb x (List.mem_of_getElem? e)
  have key : ∀ l : List Nat, 0 ≤ (l.map (amF as)).sum ∧ (l.map (amF as)).sum ≤ 25200 * (l.length : Int) := by
    intro l
    induction l with
    | nil => exact ⟨by simp, by simp⟩
    | cons x l ih =>
      rw [List.map_cons, List.sum_cons, List.length_cons]
      have := h0 x
      omega
  have k := key (heldM os q)
  have l : (heldM os q).length ≤ os.length := by
    unfold heldM
    exact Nat.le_trans (List.length_filter_le _ _) (by rw [List.length_range]; exact Nat.le_refl _)
  unfold loadM
  omega
/-- what stands when all that are seen are S -/
def BestAt (K : PySem.W.Frag) (H : Hp) (S : Pl → Prop) (L : Pl → Int) (vb : Addr) (ld ln : Int) : Prop := (ld = -1 ∧ ln = 1 ∧ ∀ r, ¬ S r) ∨ ∃ q : Pl, SqT K H vb [.int q.1, .int q.2] ∧ ld = L q ∧ ln = lenP q ∧ Bst S L q
theorem BestAt.mono {K : PySem.W.Frag} {H H' : Hp} {S S' : Pl → Prop} {L : Pl → Int} {vb : Addr} {ld ln : Int} (h : BestAt K H S L vb ld ln) (t : Tst K H H') (e : ∀ r, S' r ↔ S r) : BestAt K H' S' L vb ld ln := by
  rcases h with ⟨a, b, c⟩ | ⟨q, hq, a, b, c⟩
  · exact .inl ⟨a, b, fun r hr => c r ((e r).mp hr)⟩
  · exact .inr ⟨q, t _ _ hq, a, b, c.congr e⟩
theorem bst_first {S : Pl → Prop} {L : Pl → Int} {q : Pl} (e : ∀ r, S r ↔ r = q) : Bst S L q := ⟨(e q).mpr rfl, fun r hr => by rw [(e r).mp hr]; exact .inr ⟨rfl, .inr ⟨rfl, Nat.le_refl _⟩⟩⟩
def sp_tightest_places (K : PySem.W.Frag) : Sp := fun vs H Q _ => ∃ (l a : Addr) (xs : List V) (os : List Wn) (as : List Int) (n : Nat), vs = [.ref l, .ref a, .int n] ∧ SqL K H l xs ∧ Als (OptW K H) xs os ∧ os.length ≤ 64 ∧ SqL K H a (as.map V.int) ∧ as.length = os.length ∧ (∀ x ∈ as, 0 ≤ x ∧ x ≤ 25200) ∧ 1 ≤ n ∧ n ≤ 24 ∧ ∀ (p : Addr) (q : Pl) (H' : Hp), Same H H' → SqT K H' p [.int q.1, .int q.2] → Bst (Sec n) (loadM os (amF as)) q → Q (.ref p) H'
def natD (ls : List Nat) : PyData := .tuple (ls.map fun n : Nat => PyData.int n)
def dTight (ls : List Nat) (os : List Wn) (q : Pl) : PyData := .tuple [natD ((ls.drop q.1).take (q.2 + 1 - q.1)), natD (heldM os q)]
theorem parts_bd {B : Int} {ws : List Wk} (ok : ∀ w ∈ ws, WkOk w) (b0 : 0 < B) (bd : B ∣ 84) : ∀ x ∈ partsM B ws, 0 ≤ x ∧ x ≤ 25200 := by
  intro x hx
  obtain ⟨w, hw, rfl⟩ := List.mem_map.mp hx
  have o := (ok w hw).am
  have B84 := Int.le_of_dvd (by decide) bd
  have q0 : 0 ≤ B / w.2.2.2 := Int.ediv_nonneg (by omega) (by have := o.bot; omega)
  have q1 : B / w.2.2.2 ≤ B := Int.ediv_le_self _ (by omega)
  have t1 := o.top
  have t2 := o.top'
  refine ⟨Int.mul_nonneg (by omega) q0, ?_⟩
  have : w.2.2.1 * (B / w.2.2.2) ≤ 300 * 84 := Int.mul_le_mul t2 (by omega) q0 (by decide)
  omega
theorem units_bd {ws : List Wk} (ok : ∀ w ∈ ws, WkOk w) : ∀ x ∈ unitsM ws, 0 ≤ x ∧ x ≤ 25200 := by
  intro x hx
  obtain ⟨w, hw, rfl⟩ := List.mem_map.mp hx
  have o := (ok w hw).am
  have t1 := o.top
  have t2 := o.top'
  refine ⟨Int.ediv_nonneg (by omega) (by have := o.bot; omega), ?_⟩
  have := Int.ediv_le_self (a := w.2.2.1 * 84) w.2.2.2 (by omega)
  omega
/-- units and parts are the same, but for one number -/
theorem units_parts {B : Int} {ws : List Wk} (ok : ∀ w ∈ ws, WkOk w) (dv : ∀ w ∈ ws, w.2.2.2 ∣ B) (i : Nat) : amF (unitsM ws) i * B = amF (partsM B ws) i * 84 := by
  unfold amF unitsM partsM
  rw [List.getD_eq_getElem?_getD, List.getD_eq_getElem?_getD, List.getElem?_map, List.getElem?_map]
  cases e : ws[i]? with
  | none => simp
  | some w =>
    have hw := List.mem_of_getElem? e
    have o := (ok w hw).am
    obtain ⟨m, hm⟩ := dv w hw
    obtain ⟨n, hn⟩ := o.dvd
    have nz : w.2.2.2 ≠ 0 := by have := o.bot; omega
    show w.2.2.1 * 84 / w.2.2.2 * B = w.2.2.1 * (B / w.2.2.2) * 84
    have e1 : w.2.2.1 * 84 / w.2.2.2 = w.2.2.1 * n := by
      rw [hn, Int.mul_left_comm]
      exact Int.mul_ediv_cancel_left _ nz
    have e2 : B / w.2.2.2 = m := by
      rw [hm]
      exact Int.mul_ediv_cancel_left _ nz
    rw [e1, e2, hm, hn]
    ac_rfl
theorem cut_nat {ls : List Nat} {a b : Nat} (h1 : a ≤ b) (h2 : b ≤ ls.length) : cutV (natV ls) (some (a : Int)) (some (b : Int)) = natV ((ls.drop a).take (b - a)) := by
  unfold cutV natV
  rw [HT.sIx_nat, HT.sIx_nat, List.length_map, show min b ls.length = b from Nat.min_eq_left h2, show min a ls.length = a from Nat.min_eq_left (by omega), List.map_take, List.map_drop]
def LyV (K : PySem.W.Frag) (H : Hp) (v : V) (y : List Nat × List Nat) : Prop := ∃ p a b, v = .ref p ∧ SqT K H p [.ref a, .ref b] ∧ SqT K H a (natV y.1) ∧ SqT K H b (natV y.2)
theorem LyV.mono {K : PySem.W.Frag} {H H' : Hp} {v : V} {y : List Nat × List Nat} (h : LyV K H v y) (t : Tst K H H') : LyV K H' v y := let ⟨p, a, b, e, h1, h2, h3⟩ := h; ⟨p, a, b, e, t _ _ h1, t _ _ h2, t _ _ h3⟩
def cutM (ls : List Nat) (q : Pl) : List Nat := (ls.drop q.1).take (q.2 + 1 - q.1)
def restM (ls : List Nat) (q : Pl) : List Nat := ls.filter fun t => !(cutM ls q).contains t
def nvM (ws : List Wk) (ls : List Nat) : Nat := ws.countP fun w => (winM ls w).isSome
theorem mem_pls {ls : List Nat} {w : Wk} {i : Nat} : i ∈ plsM ls w ↔ i < ls.length ∧ inW w (ls.getD i 0) = true := by
  unfold plsM
  rw [List.mem_filter, List.mem_range]
theorem win_nil {ls : List Nat} {w : Wk} (h : plsM ls w = []) : winM ls w = none := by unfold winM; rw [h]
theorem win_cons {ls : List Nat} {w : Wk} {x : Nat} {r : List Nat} (h : plsM ls w = x :: r) : winM ls w = some (x, (x :: r).getLast (by simp)) := by unfold winM; rw [h]
theorem win_some {ls : List Nat} {w : Wk} : (winM ls w).isSome = true ↔ ∃ t ∈ ls, inW w t = true := by
  cases c : plsM ls w with
  | nil =>
    rw [win_nil c]
    refine ⟨fun h => (by cases h), fun ⟨t, ht, e⟩ => ?_⟩
    obtain ⟨i, hi, rfl⟩ := List.mem_iff_getElem.mp ht
    have m : i ∈ plsM ls w := mem_pls.mpr ⟨hi, by rw [getD_of 0 (List.getElem?_eq_getElem hi)]; exact e⟩
    rw [c] at m
    cases m
  | cons x r =>
    rw [win_cons c]
    refine ⟨fun _ => ?_, fun _ => rfl⟩
    have m : x ∈ plsM ls w := by rw [c]; exact List.mem_cons_self
    obtain ⟨hi, e⟩ := mem_pls.mp m
    rw [getD_of 0 (List.getElem?_eq_getElem hi)] at e
    exact ⟨_, List.getElem_mem hi, e⟩
theorem pls_sorted (ls : List Nat) (w : Wk) : (plsM ls w).Pairwise (· < ·) := List.Pairwise.filter _ List.pairwise_lt_range
theorem win_bds {ls : List Nat} {w : Wk} {a b : Nat} (h : winM ls w = some (a, b)) : a ∈ plsM ls w ∧ b ∈ plsM ls w ∧ ∀ i ∈ plsM ls w, a ≤ i ∧ i ≤ b := by
  cases c : plsM ls w with
  | nil => rw [win_nil c] at h; cases h
  | cons x r =>
    rw [win_cons c] at h
    have srt := pls_sorted ls w
    rw [c] at srt
    injection h with h
    injection h with h1 h2
    subst h1 h2
    refine ⟨List.mem_cons_self, List.getLast_mem _, fun i hi => ⟨?_, ?_⟩⟩
    · rcases List.mem_cons.mp hi with z | z
      · omega
      · have := (List.pairwise_cons.mp srt).1 i z
        omega
    · have e := List.dropLast_concat_getLast (show (x :: r) ≠ [] by simp)
      rw [← e] at srt hi
      rcases List.mem_append.mp hi with z | z
      · have := (List.pairwise_append.mp srt).2.2 i z _ (List.mem_singleton.mpr rfl)
        omega
      · have := List.mem_singleton.mp z
        omega
theorem nd_inj {ls : List Nat} (nd : ls.Nodup) {i j : Nat} {hi : i < ls.length} {hj : j < ls.length} (e : ls[i] = ls[j]) : i = j := by
  have h := List.pairwise_iff_getElem.mp nd
  rcases Nat.lt_trichotomy i j with z | z | z
  · exact absurd e (h i j hi hj z)
  · exact z
  · exact absurd e.symm (h j i hj hi z)
theorem mem_cut {ls : List Nat} {p : Pl} (nd : ls.Nodup) (hp : Sec ls.length p) {i : Nat} (hi : i < ls.length) : ls[i] ∈ cutM ls p ↔ p.1 ≤ i ∧ i ≤ p.2 := by
  have h1 := hp.1
  have h2 := hp.2
  unfold cutM
  constructor
  · intro h
    obtain ⟨j, hj, e⟩ := List.mem_iff_getElem.mp h
    rw [List.length_take, List.length_drop] at hj
    rw [List.getElem_take, List.getElem_drop] at e
    have := nd_inj nd e
    omega
  · rintro ⟨a, b⟩
    refine List.mem_iff_getElem.mpr ⟨i - p.1, by rw [List.length_take, List.length_drop]; omega, ?_⟩
    rw [List.getElem_take, List.getElem_drop]
    congr 1
    omega
theorem rest_some {ls : List Nat} {p : Pl} {w : Wk} (nd : ls.Nodup) (hp : Sec ls.length p) : (winM (restM ls p) w).isSome = ((winM ls w).isSome && !holdB p.1 p.2 (winM ls w)) := by
  have key : (winM (restM ls p) w).isSome = true ↔ ∃ i, ∃ hi : i < ls.length, inW w ls[i] = true ∧ ¬ (p.1 ≤ i ∧ i ≤ p.2) := by
    rw [win_some]
    constructor
    · rintro ⟨t, ht, e⟩
      unfold restM at ht
      obtain ⟨m, c⟩ := List.mem_filter.mp ht
      obtain ⟨i, hi, rfl⟩ := List.mem_iff_getElem.mp m
      refine ⟨i, hi, e, fun z => ?_⟩
      rw [List.contains_iff_mem.mpr ((mem_cut nd hp hi).mpr z)] at c
      cases c
    · rintro ⟨i, hi, e, n⟩
      refine ⟨ls[i], List.mem_filter.mpr ⟨List.getElem_mem hi, ?_⟩, e⟩
      cases c : (cutM ls p).contains ls[i] with
      | false => rfl
      | true => exact absurd ((mem_cut nd hp hi).mp (List.contains_iff_mem.mp c)) n
  have pm : ∀ i, i ∈ plsM ls w ↔ ∃ hi : i < ls.length, inW w ls[i] = true := fun i => by
    rw [mem_pls]
    constructor
    · rintro ⟨hi, e⟩
      rw [getD_of 0 (List.getElem?_eq_getElem hi)] at e
      exact ⟨hi, e⟩
    · rintro ⟨hi, e⟩
      exact ⟨hi, by rw [getD_of 0 (List.getElem?_eq_getElem hi)]; exact e⟩
  cases c : winM ls w with
  | none =>
    have n : ¬ (winM (restM ls p) w).isSome = true := fun h => by
      obtain ⟨i, hi, e, _⟩ := key.mp h
      have := win_some.mpr ⟨ls[i], List.getElem_mem hi, e⟩
      rw [c] at this
      cases this
    simpa using n
  | some q =>
    obtain ⟨a, b⟩ := q
    obtain ⟨m1, m2, bd⟩ := win_bds c
    show (winM (restM ls p) w).isSome = (true && !(decide (p.1 ≤ a) && decide (b ≤ p.2)))
    by_cases h : p.1 ≤ a ∧ b ≤ p.2
    · rw [decide_eq_true h.1, decide_eq_true h.2]
      have n : ¬ (winM (restM ls p) w).isSome = true := fun h' => by
        obtain ⟨i, hi, e, n⟩ := key.mp h'
        have := bd i ((pm i).mpr ⟨hi, e⟩)
        exact n (by omega)
      simpa using n
    · have y : (winM (restM ls p) w).isSome = true := key.mpr (by
        by_cases z : p.1 ≤ a
        · obtain ⟨hi, e⟩ := (pm b).mp m2
          exact ⟨b, hi, e, by omega⟩
        · obtain ⟨hi, e⟩ := (pm a).mp m1
          exact ⟨a, hi, e, by omega⟩)
      rw [y]
      by_cases z : p.1 ≤ a
      · rw [decide_eq_false (show ¬ b ≤ p.2 from fun q => h ⟨z, q⟩), Bool.and_false]; rfl
      · rw [decide_eq_false z]; rfl
theorem held_len (os : List Wn) (p : Pl) : (heldM os p).length = os.countP (holdB p.1 p.2) := by
  have := congrArg List.length (by_place (none : Wn) (holdB p.1 p.2) id os)
  rw [List.length_map, List.length_map] at this
  rw [List.countP_eq_length_filter]
  exact this
theorem nv_rest {ws : List Wk} {ls : List Nat} {p : Pl} (nd : ls.Nodup) (hp : Sec ls.length p) : nvM ws (restM ls p) + (heldM (ws.map (winM ls)) p).length = nvM ws ls := by
  rw [held_len, List.countP_map]
  unfold nvM
  induction ws with
  | nil => rfl
  | cons w ws ih =>
    rw [List.countP_cons, List.countP_cons, List.countP_cons, rest_some nd hp, show (holdB p.1 p.2 ∘ winM ls) w = holdB p.1 p.2 (winM ls w) from rfl]
    cases c : winM ls w with
    | none =>
      have : holdB p.1 p.2 none = false := rfl
      rw [this]
      simp only [Option.isSome_none, Bool.false_and, Bool.false_eq_true, if_false, Nat.add_zero]
      exact ih
    | some q =>
      cases holdB p.1 p.2 (some q) with
      | true =>
        simp only [Option.isSome_some, Bool.not_true, Bool.and_false, Bool.false_eq_true, if_false, if_true, Nat.add_zero]
        omega
      | false =>
        simp only [Option.isSome_some, Bool.not_false, Bool.and_true, Bool.false_eq_true, if_false, if_true, Nat.add_zero]
        omega
theorem rest_nd {ls : List Nat} (nd : ls.Nodup) (p : Pl) : (restM ls p).Nodup := List.Pairwise.filter _ nd
theorem le_sum {A : Nat → Int} (h : ∀ i, 0 ≤ A i) : ∀ {l : List Nat} {i : Nat}, i ∈ l → A i ≤ (l.map A).sum
  | x :: l, i, hi => by
    rw [List.map_cons, List.sum_cons]
    rcases List.mem_cons.mp hi with z | z
    · subst z
      have := sum_nonneg h l
      omega
    · have := le_sum h z
      have := h x
      omega
theorem units_nn {ws : List Wk} (ok : ∀ w ∈ ws, WkOk w) (i : Nat) : 0 ≤ amF (unitsM ws) i := by
  unfold amF
  rw [List.getD_eq_getElem?_getD]
  cases e : (unitsM ws)[i]? with
  | none => decide
  | some x => exact (units_bd ok x (List.mem_of_getElem? e)).1
theorem load_nv {ws : List Wk} {ls : List Nat} (ok : ∀ w ∈ ws, WkOk w) (h : ∀ r, Sec ls.length r → loadM (ws.map (winM ls)) (amF (unitsM ws)) r = 0) : nvM ws ls = 0 := by
  refine List.countP_eq_zero.mpr fun w hw n => ?_
  obtain ⟨q, hq⟩ := Option.isSome_iff_exists.mp n
  obtain ⟨a, b⟩ := q
  obtain ⟨m1, m2, bd⟩ := win_bds hq
  have sec : Sec ls.length (a, b) := ⟨(bd b m2).1, (mem_pls.mp m2).1⟩
  obtain ⟨i, hi, rfl⟩ := List.mem_iff_getElem.mp hw
  have mi : i ∈ heldM (ws.map (winM ls)) (a, b) := by
    unfold heldM
    refine List.mem_filter.mpr ⟨List.mem_range.mpr (by rw [List.length_map]; exact hi), ?_⟩
    rw [getD_of none (show (ws.map (winM ls))[i]? = some (some (a, b)) by rw [List.getElem?_map, List.getElem?_eq_getElem hi]; exact congrArg some hq)]
    show (decide (a ≤ a) && decide (b ≤ b)) = true
    simp
  have l := le_sum (units_nn ok) mi
  have z := h _ sec
  unfold loadM at z
  rw [z] at l
  have o := (ok _ hw).am
  have eu : amF (unitsM ws) i = ws[i].2.2.1 * 84 / ws[i].2.2.2 := getD_of 0 (by unfold unitsM; rw [List.getElem?_map, List.getElem?_eq_getElem hi]; rfl)
  rw [eu] at l
  have t1 := o.top
  have b1 := o.bot
  have b2 := o.bot'
  have : 1 ≤ ws[i].2.2.1 * 84 / ws[i].2.2.2 := (Int.le_ediv_iff_mul_le (by omega)).mpr (by omega)
  omega
/-- the tightest stretch of what is left, if there is one -/
def IsT (ws : List Wk) (ls : List Nat) (p : Pl) : Prop := Bst (Sec ls.length) (loadM (ws.map (winM ls)) (amF (unitsM ws))) p ∧ 0 < loadM (ws.map (winM ls)) (amF (unitsM ws)) p
theorem isT_of {ws : List Wk} {ls : List Nat} {p : Pl} (ok : ∀ w ∈ ws, WkOk w) (b : Bst (Sec ls.length) (loadM (ws.map (winM ls)) (amF (unitsM ws))) p) (h : nvM ws ls ≠ 0) : IsT ws ls p := by
  refine ⟨b, ?_⟩
  have nn : ∀ r, 0 ≤ loadM (ws.map (winM ls)) (amF (unitsM ws)) r := fun r => sum_nonneg (units_nn ok) _
  by_cases c : 0 < loadM (ws.map (winM ls)) (amF (unitsM ws)) p
  · exact c
  · refine absurd (load_nv ok fun r hr => ?_) h
    have z : loadM (ws.map (winM ls)) (amF (unitsM ws)) p = 0 := by have := nn p; omega
    have q := b.all r hr
    have pp := (show Sec ls.length p from b.inn).pos
    rw [z, Int.zero_mul] at q
    by_cases e : loadM (ws.map (winM ls)) (amF (unitsM ws)) r = 0
    · exact e
    · have := Int.mul_pos (show 0 < loadM (ws.map (winM ls)) (amF (unitsM ws)) r by have := nn r; omega) pp
      omega
theorem IsT.held {ws : List Wk} {ls : List Nat} {p : Pl} (h : IsT ws ls p) : 0 < (heldM (ws.map (winM ls)) p).length := by
  have := h.2
  unfold loadM at this
  cases c : heldM (ws.map (winM ls)) p with
  | nil => rw [c] at this; exact absurd this (by simp)
  | cons x r => exact Nat.succ_pos _
abbrev Ly := List Nat × List Nat
def lyM (ws : List Wk) (ls : List Nat) (p : Pl) : Ly := (cutM ls p, heldM (ws.map (winM ls)) p)
/-- the layers of what is left -/
inductive Lys (ws : List Wk) : List Nat → List Ly → Prop where
  | nil {ls : List Nat} (h : nvM ws ls = 0) : Lys ws ls []
  | cons {ls : List Nat} {p : Pl} {r : List Ly} (h : IsT ws ls p) (t : Lys ws (restM ls p) r) : Lys ws ls (lyM ws ls p :: r)
/-- what is known of layers -/
structure LyOk (n : Nat) (y : Ly) : Prop where
  pos : 0 < y.1.length
  few : y.1.length ≤ 24
  lt : ∀ t ∈ y.1, t < 24
  num : ∀ i ∈ y.2, i < n
  len : y.2.length ≤ n
theorem lyM_ok {ws : List Wk} {ls : List Nat} {p : Pl} (hp : Sec ls.length p) (hl : ls.length ≤ 24) (hb : ∀ t ∈ ls, t < 24) : LyOk ws.length (lyM ws ls p) := by
  have h1 := hp.1
  have h2 := hp.2
  have e : (cutM ls p).length = min (p.2 + 1 - p.1) (ls.length - p.1) := by unfold cutM; rw [List.length_take, List.length_drop]
  refine ⟨by show 0 < (cutM ls p).length; omega, by show (cutM ls p).length ≤ 24; omega, fun t ht => hb t (List.mem_of_mem_drop (List.mem_of_mem_take ht)), fun i hi => ?_, ?_⟩
  · have : i ∈ heldM (ws.map (winM ls)) p := hi
    unfold heldM at this
    have := List.mem_range.mp (List.mem_filter.mp this).1
    rw [List.length_map] at this
    exact this
  · show (heldM (ws.map (winM ls)) p).length ≤ ws.length
    rw [held_len]
    exact Nat.le_trans List.countP_le_length (by rw [List.length_map]; exact Nat.le_refl _)
def sp_tightest (K : PySem.W.Frag) : Sp := fun vs H Q _ => ∃ (v : V) (q : Addr) (ws : List Wk) (ls : List Nat), vs = [v, .ref q] ∧ WksV K H v ws ∧ ws.length ≤ 64 ∧ (∀ w ∈ ws, WkOk w) ∧ SqT K H q (natV ls) ∧ 1 ≤ ls.length ∧ ls.length ≤ 24 ∧ ∀ (x : V) (B : Int) (p : Pl) (H' : Hp), Same H H' → 0 < B → B ∣ 84 → (∀ w ∈ ws, w.2.2.2 ∣ B) → Bst (Sec ls.length) (loadM (ws.map (winM ls)) (amF (partsM B ws))) p → LyV K H' x (lyM ws ls p) → Q x H'
def SpV (K : PySem.W.Frag) (H : Hp) (v : V) (s : Nat × Nat × Nat) : Prop := ∃ p, v = .ref p ∧ SqT K H p [.int s.1, .int s.2.1, .int s.2.2]
def spM (os : List Wn) (i : Nat) : List (Nat × Nat × Nat) := (List.range i).filterMap fun j => (os.getD j none).map fun q => (q.1, q.2, j)
def holdS (p : Pl) (s : Nat × Nat × Nat) : Bool := decide (p.1 ≤ s.1) && decide (s.2.1 ≤ p.2)
/-- what the law holds when all that are seen are S -/
def BestU (K : PySem.W.Frag) (H : Hp) (os : List Wn) (S : Pl → Prop) (L : Pl → Int) (pb : Addr) : Prop := ∃ (mn ln bg : Int) (lb : Addr), SqT K H pb [.int mn, .int ln, .int bg, .ref lb] ∧ ((mn = 0 ∧ ln = 1 ∧ bg = 0 ∧ ∀ r, S r → L r = 0) ∨ ∃ q : Pl, 0 < L q ∧ mn = L q ∧ ln = lenP q ∧ bg = (q.1 : Int) ∧ SqL K H lb (natV (heldM os q)) ∧ Bst S L q)
/-! alike: of things that are the same -/
mutual
def smD : PyData → Bool
  | .int _ => true
  | .str _ => true
  | .bool _ => true
  | .none => true
  | .tuple ds => decide (ds.length ≤ 1000) && smAll ds
  | _ => false
def smAll : List PyData → Bool
  | [] => true
  | d :: ds => smD d && smAll ds
end
def dWk (w : Wk) : PyData := .tuple [.int w.1, .int w.2.1, dR w.2.2]
def dWks (ws : List Wk) : PyData := .tuple (ws.map dWk)
def dLy (y : List Nat × List Nat) : PyData := .tuple [natD y.1, natD y.2]
def wk0 : Wk := (0, 0, (0, 1))
def amsM (ws : List Wk) (y : List Nat × List Nat) : List R := y.2.map fun i => (ws.getD i wk0).2.2
def spdM (ws : List Wk) (y : List Nat × List Nat) : R := timesR (sumR (amsM ws y)) (1, (y.1.length : Int))
def setM (r : R) (ss : List R) (ts : List Nat) : List R := ts.foldl (fun s t => s.set t r) ss
def spsM (ws : List Wk) (lys : List (List Nat × List Nat)) : List R := lys.foldl (fun ss y => setM (spdM ws y) ss y.1) (List.replicate 24 (0, 1))
theorem setM_len (r : R) : ∀ (ts : List Nat) (ss : List R), (setM r ss ts).length = ss.length
  | [], _ => rfl
  | t :: ts, ss => by
    show (setM r (ss.set t r) ts).length = _
    rw [setM_len r ts, List.length_set]
theorem sps_len (ws : List Wk) : ∀ (lys : List (List Nat × List Nat)) (ss : List R), (lys.foldl (fun ss y => setM (spdM ws y) ss y.1) ss).length = ss.length
  | [], _ => rfl
  | y :: r, ss => by rw [List.foldl_cons, sps_len ws r, setM_len]
theorem ams_wf {ws : List Wk} {n : Nat} {y : List Nat × List Nat} (ok : ∀ w ∈ ws, WkOk w) (h : LyOk ws.length y) : ∀ r ∈ amsM ws y, Wf 9 r := by
  intro r hr
  obtain ⟨i, hi, rfl⟩ := List.mem_map.mp hr
  have hl := h.num i hi
  rw [getD_of wk0 (List.getElem?_eq_getElem hl)]
  exact (ok _ (List.getElem_mem hl)).am.wf
theorem nv_full {ws : List Wk} (ok : ∀ w ∈ ws, WkOk w) : nvM ws (List.range 24) = ws.length := by
  refine List.countP_eq_length.mpr fun w hw => win_some.mpr ⟨w.1, List.mem_range.mpr ?_, ?_⟩
  · have := (ok w hw).le
    have := (ok w hw).lt
    omega
  · unfold inW
    rw [decide_eq_true (Nat.le_refl _), decide_eq_true (ok w hw).le]
    rfl
theorem nv_nil (ws : List Wk) : nvM ws [] = 0 := List.countP_eq_zero.mpr fun w _ h => by
  obtain ⟨t, ht, _⟩ := win_some.mp h
  cases ht
theorem isT_sec {ws : List Wk} {ls : List Nat} {p : Pl} (h : IsT ws ls p) : Sec ls.length p := h.1.inn
def LysV (K : PySem.W.Frag) (H : Hp) (v : V) (lys : List (List Nat × List Nat)) : Prop := ∃ p xs, v = .ref p ∧ SqT K H p xs ∧ Als (LyV K H) xs lys
def sp_layers (K : PySem.W.Frag) : Sp := fun vs H Q _ => ∃ (v : V) (ws : List Wk), vs = [v] ∧ WksV K H v ws ∧ ws.length ≤ 64 ∧ (∀ w ∈ ws, WkOk w) ∧ ∀ (x : V) (lys : List (List Nat × List Nat)) (H' : Hp), Same H H' → LysV K H' x lys → Lys ws (List.range 24) lys → (∀ y ∈ lys, LyOk ws.length y) → lys.length ≤ 64 → Q x H'
def sp_layer_density (K : PySem.W.Frag) : Sp := fun vs H Q _ => ∃ (v x : V) (ws : List Wk) (y : List Nat × List Nat), vs = [v, x] ∧ WksV K H v ws ∧ ws.length ≤ 64 ∧ (∀ w ∈ ws, WkOk w) ∧ LyV K H x y ∧ LyOk ws.length y ∧ toR K H Q (spdM ws y)
def sp_layer_speeds (K : PySem.W.Frag) : Sp := fun vs H Q _ => ∃ (v : V) (ws : List Wk), vs = [v] ∧ WksV K H v ws ∧ ws.length ≤ 64 ∧ (∀ w ∈ ws, WkOk w) ∧ ∀ (p : Addr) (xs : List V) (lys : List (List Nat × List Nat)) (H' : Hp), Same H H' → SqT K H' p xs → Als (RV K H') xs (spsM ws lys) → Lys ws (List.range 24) lys → (∀ y ∈ lys, LyOk ws.length y) → Q (.ref p) H'
def sp_law_less (K : PySem.W.Frag) : Sp := fun vs H Q _ => ∃ (v w : V) (r q : R) (n m : Nat), vs = [v, w] ∧ RV K H v r ∧ RV K H w q ∧ Wf n r ∧ Wf m q ∧ n + m + 1 ≤ 3000 ∧ Q (.bl (lessR r q)) H
theorem cast_pos {b : Int} (h : 0 < b) : (0 : Rat) < (b : Rat) := by
  have := Rat.intCast_lt_intCast.mpr h
  exact this
theorem val_less {r q : R} (hr : 0 < r.2) (hq : 0 < q.2) : lessR r q = true ↔ val r < val q := by
  rw [less_iff, ← Rat.intCast_lt_intCast, Rat.intCast_mul, Rat.intCast_mul]
  have h1 := cast_pos hr
  have h2 := cast_pos hq
  have e1 : (r.1 : Rat) = val r * (r.2 : Rat) := by
    have := ne_cast hr
    unfold val
    generalize (r.1 : Rat) = x at *
    generalize (r.2 : Rat) = y at *
    grind
  have e2 : (q.1 : Rat) = val q * (q.2 : Rat) := by
    have := ne_cast hq
    unfold val
    generalize (q.1 : Rat) = x at *
    generalize (q.2 : Rat) = y at *
    grind
  rw [e1, e2]
  generalize val r = x at *
  generalize val q = y at *
  generalize (r.2 : Rat) = u at *
  generalize (q.2 : Rat) = v at *
  have c : 0 < u * v := Rat.mul_pos h1 h2
  constructor
  · intro h
    have h' : x * (u * v) < y * (u * v) := by grind
    by_cases w : x < y
    · exact w
    · have z : y ≤ x := Rat.not_lt.mp w
      have := Rat.mul_le_mul_of_nonneg_right z (Rat.le_of_lt c)
      grind
  · intro h
    have := Rat.mul_lt_mul_of_pos_right h c
    grind
theorem val_not {r q : R} (hr : 0 < r.2) (hq : 0 < q.2) : lessR r q = false ↔ val q ≤ val r := by
  have a := val_less hr hq
  cases c : lessR r q with
  | true =>
    have := a.mp c
    constructor
    · intro z; cases z
    · intro z; grind
  | false =>
    constructor
    · intro _
      by_cases w : val r < val q
      · rw [a.mpr w] at c; cases c
      · exact Rat.not_lt.mp w
    · intro _; rfl
/-! sums over lists -/
def ind (b : Bool) (x : Rat) : Rat := if b = true then x else 0
theorem ind_t (x : Rat) : ind true x = x := rfl
theorem ind_f (x : Rat) : ind false x = 0 := rfl
def sQ {α : Type} (f : α → Rat) : List α → Rat
  | [] => 0
  | x :: l => f x + sQ f l
theorem sQ_le {α : Type} {f g : α → Rat} : ∀ {l : List α}, (∀ x ∈ l, f x ≤ g x) → sQ f l ≤ sQ g l
  | [], _ => Rat.le_refl
  | x :: l, h => by
    have a := h x List.mem_cons_self
    have b := sQ_le (l := l) fun y hy => h y (List.mem_cons_of_mem _ hy)
    show f x + sQ f l ≤ g x + sQ g l
    grind
theorem sQ_congr {α : Type} {f g : α → Rat} : ∀ {l : List α}, (∀ x ∈ l, f x = g x) → sQ f l = sQ g l
  | [], _ => rfl
  | x :: l, h => by
    show f x + sQ f l = g x + sQ g l
    rw [h x List.mem_cons_self, sQ_congr fun y hy => h y (List.mem_cons_of_mem _ hy)]
theorem sQ_add {α : Type} {f g : α → Rat} : ∀ l : List α, sQ (fun x => f x + g x) l = sQ f l + sQ g l
  | [] => by show (0 : Rat) = 0 + 0; grind
  | x :: l => by
    show f x + g x + sQ (fun x => f x + g x) l = (f x + sQ f l) + (g x + sQ g l)
    rw [sQ_add l]
    grind
theorem sQ_mul {α : Type} (c : Rat) {f : α → Rat} : ∀ l : List α, sQ (fun x => c * f x) l = c * sQ f l
  | [] => by show (0 : Rat) = c * 0; grind
  | x :: l => by
    show c * f x + sQ (fun x => c * f x) l = c * (f x + sQ f l)
    rw [sQ_mul c l]
    grind
theorem sQ_app {α : Type} {f : α → Rat} : ∀ a b : List α, sQ f (a ++ b) = sQ f a + sQ f b
  | [], b => by show sQ f b = 0 + sQ f b; grind
  | x :: a, b => by
    show f x + sQ f (a ++ b) = (f x + sQ f a) + sQ f b
    rw [sQ_app a b]
    grind
theorem sQ_filter {α : Type} {f : α → Rat} (c : α → Bool) : ∀ l : List α, sQ f (l.filter c) = sQ (fun x => ind (c x) (f x)) l
  | [] => rfl
  | x :: l => by
    have ih := sQ_filter (f := f) c l
    cases e : c x with
    | true =>
      rw [List.filter_cons_of_pos e]
      show f x + sQ f (l.filter c) = ind (c x) (f x) + sQ _ l
      rw [ih, e]; rfl
    | false =>
      rw [List.filter_cons_of_neg (by rw [e]; simp)]
      show sQ f (l.filter c) = ind (c x) (f x) + sQ _ l
      rw [ih, e, ind_f]
      grind
theorem sQ_map {α β : Type} {f : β → Rat} (m : α → β) : ∀ l : List α, sQ f (l.map m) = sQ (fun x => f (m x)) l
  | [] => rfl
  | x :: l => by
    show f (m x) + sQ f (l.map m) = f (m x) + sQ _ l
    rw [sQ_map m l]
theorem sQ_nn {α : Type} {f : α → Rat} {l : List α} (h : ∀ x ∈ l, 0 ≤ f x) : 0 ≤ sQ f l := by
  have := sQ_le (f := fun _ : α => (0 : Rat)) (g := f) (l := l) h
  have z : ∀ l : List α, sQ (fun _ : α => (0 : Rat)) l = 0 := fun l => by
    induction l with
    | nil => rfl
    | cons x l ih => show (0 : Rat) + _ = 0; rw [ih]; grind
  rw [z] at this
  exact this
theorem sQ_getD {α : Type} {f : α → Rat} (d : α) (l : List α) : sQ f l = sQ (fun i => f (l.getD i d)) (List.range l.length) := by
  have e := by_place_all (β := α) d id l
  have e' : (List.range l.length).filter (fun _ => true) = List.range l.length := by simp
  rw [e', List.map_id] at e
  have := sQ_map (f := f) (fun i => id (l.getD i d)) (List.range l.length)
  rw [e] at this
  exact this
/-! counting -/
def cnt (P : Nat → Bool) : Rat := sQ (fun t => ind (P t) 1) (List.range 24)
theorem ind_nn (b : Bool) {x : Rat} (h : 0 ≤ x) : 0 ≤ ind b x := by cases b with | true => exact h | false => exact Rat.le_refl
theorem one_nn : (0 : Rat) ≤ 1 := by decide +kernel
theorem cnt_nn (P : Nat → Bool) : 0 ≤ cnt P := sQ_nn fun _ _ => ind_nn _ one_nn
theorem cnt_congr {P Q : Nat → Bool} (h : ∀ t, t < 24 → P t = Q t) : cnt P = cnt Q := sQ_congr fun t ht => by rw [h t (List.mem_range.mp ht)]
theorem cnt_split {P Q X : Nat → Bool} (h : ∀ t, t < 24 → ind (X t) 1 = ind (P t) 1 + ind (Q t) 1) : cnt X = cnt P + cnt Q := by
  unfold cnt
  rw [← sQ_add]
  exact sQ_congr fun t ht => h t (List.mem_range.mp ht)
theorem cnt_pos {P : Nat → Bool} {t : Nat} (ht : t < 24) (h : P t = true) : 0 < cnt P := by
  have e := cnt_split (X := P) (P := fun u => decide (u = t)) (Q := fun u => P u && !decide (u = t)) (fun u _ => by
    by_cases c : u = t
    · subst c; rw [h, decide_eq_true rfl]; show (1 : Rat) = 1 + 0; grind
    · rw [decide_eq_false c, Bool.not_false, Bool.and_true]; show ind (P u) 1 = 0 + ind (P u) 1; grind)
  have n := cnt_nn fun u => P u && !decide (u = t)
  have o : cnt (fun u => decide (u = t)) = 1 := by
    have : ∀ t : Fin 24, cnt (fun u => decide (u = t.1)) = 1 := by decide +kernel
    exact this ⟨t, ht⟩
  rw [o] at e
  grind
theorem run_on {P : Nat → Bool} {x : Nat} : ∀ d, (∀ i, x ≤ i → i < x + d → P i = true) → sQ (fun t => ind (P t) 1) (List.range (x + d)) = sQ (fun t => ind (P t) 1) (List.range x) + (d : Rat)
  | 0, _ => by show sQ _ (List.range x) = sQ _ (List.range x) + ((0 : Nat) : Rat); rw [show ((0 : Nat) : Rat) = 0 from rfl]; grind
  | d + 1, h => by
    have ih := run_on (P := P) (x := x) d fun i a b => h i a (by omega)
    rw [← Nat.add_assoc, List.range_succ, sQ_app, ih]
    show _ + (ind (P (x + d)) 1 + 0) = _
    rw [h (x + d) (by omega) (by omega), ind_t, show ((d + 1 : Nat) : Rat) = (d : Rat) + 1 from Rat.natCast_add d 1]
    grind
theorem run_off {P : Nat → Bool} {x : Nat} : ∀ d, (∀ i, x ≤ i → i < x + d → P i = false) → sQ (fun t => ind (P t) 1) (List.range (x + d)) = sQ (fun t => ind (P t) 1) (List.range x)
  | 0, _ => rfl
  | d + 1, h => by
    have ih := run_off (P := P) (x := x) d fun i a b => h i a (by omega)
    rw [← Nat.add_assoc, List.range_succ, sQ_app, ih]
    show _ + (ind (P (x + d)) 1 + 0) = _
    rw [h (x + d) (by omega) (by omega), ind_f]
    grind
theorem run_back (P : Nat → Bool) : ∀ k, ∃ x, x ≤ k ∧ (∀ i, x ≤ i → i < k → P i = true) ∧ (x = 0 ∨ P (x - 1) = false)
  | 0 => ⟨0, Nat.le_refl _, fun i a b => by omega, .inl rfl⟩
  | k + 1 => by
    cases c : P k with
    | false => exact ⟨k + 1, Nat.le_refl _, fun i a b => by omega, .inr c⟩
    | true =>
      obtain ⟨x, h1, h2, h3⟩ := run_back P k
      refine ⟨x, by omega, fun i a b => ?_, h3⟩
      by_cases z : i = k
      · rw [z]; exact c
      · exact h2 i a (by omega)
/-! what lies in a set of turns -/
def inB (A : Nat → Bool) (w : Wk) : Bool := (List.range 24).all fun t => !inW w t || A t
theorem inB_iff {A : Nat → Bool} {w : Wk} : inB A w = true ↔ ∀ t, t < 24 → inW w t = true → A t = true := by
  unfold inB
  rw [List.all_eq_true]
  constructor
  · intro h t ht e
    have := h t (List.mem_range.mpr ht)
    rw [e] at this
    simpa using this
  · intro h t ht
    cases e : inW w t with
    | false => rfl
    | true => rw [h t (List.mem_range.mp ht) e]; rfl
theorem inB_mono {A A' : Nat → Bool} {w : Wk} (h : ∀ t, t < 24 → A t = true → A' t = true) (q : inB A w = true) : inB A' w = true := inB_iff.mpr fun t ht e => h t ht (inB_iff.mp q t ht e)
def amV (w : Wk) : Rat := val w.2.2
def FM (ws : List Wk) (A : Nat → Bool) : Rat := sQ (fun w => ind (inB A w) (amV w)) ws
theorem am_pos {w : Wk} (h : WkOk w) : 0 < amV w := by
  have a := h.am
  show 0 < val w.2.2
  unfold val
  have h1 : (0 : Rat) < (w.2.2.1 : Rat) := Rat.intCast_lt_intCast.mpr (show (0 : Int) < w.2.2.1 by have := a.top; omega)
  have h2 : (0 : Rat) < (w.2.2.2 : Rat) := Rat.intCast_lt_intCast.mpr (show (0 : Int) < w.2.2.2 by have := a.bot; omega)
  generalize (w.2.2.1 : Rat) = x at *
  generalize (w.2.2.2 : Rat) = y at *
  exact (Rat.lt_div_iff h2).mpr (by grind)
theorem am_nn {ws : List Wk} (ok : ∀ w ∈ ws, WkOk w) : ∀ w ∈ ws, 0 ≤ amV w := fun w hw => Rat.le_of_lt (am_pos (ok w hw))
theorem ind_le {b c : Bool} {x : Rat} (hx : 0 ≤ x) (h : b = true → c = true) : ind b x ≤ ind c x := by
  cases b with
  | false => exact ind_nn c hx
  | true => rw [h rfl]; exact Rat.le_refl
theorem FM_super {ws : List Wk} (nn : ∀ w ∈ ws, 0 ≤ amV w) (A B : Nat → Bool) : FM ws A + FM ws B ≤ FM ws (fun t => A t || B t) + FM ws (fun t => A t && B t) := by
  unfold FM
  rw [← sQ_add, ← sQ_add]
  refine sQ_le fun w hw => ?_
  have x := nn w hw
  have o1 : inB A w = true → inB (fun t => A t || B t) w = true := inB_mono fun t _ e => by rw [e]; rfl
  have o2 : inB B w = true → inB (fun t => A t || B t) w = true := inB_mono fun t _ e => by rw [e, Bool.or_true]
  have o3 : inB A w = true → inB B w = true → inB (fun t => A t && B t) w = true := fun a b => inB_iff.mpr fun t ht e => by rw [inB_iff.mp a t ht e, inB_iff.mp b t ht e]; rfl
  have n3 := ind_nn (inB (fun t => A t && B t) w) x
  cases a : inB A w with
  | true =>
    cases b : inB B w with
    | true => rw [o1 a, o3 a b]; exact Rat.le_refl
    | false => rw [o1 a, ind_t, ind_f]; grind
  | false =>
    cases b : inB B w with
    | true => rw [o2 b, ind_t, ind_f]; grind
    | false =>
      have n4 := ind_nn (inB (fun t => A t || B t) w) x
      rw [ind_f]; grind
/-! the layers and the sets of turns -/
theorem win_in {q : Nat → Bool} {w : Wk} : (winM ((List.range 24).filter q) w).isSome = !inB (fun t => !q t) w := by
  rw [Bool.eq_iff_iff, win_some]
  constructor
  · rintro ⟨t, ht, e⟩
    obtain ⟨h1, h2⟩ := List.mem_filter.mp ht
    cases c : inB (fun t => !q t) w with
    | false => rfl
    | true =>
      have := inB_iff.mp c t (List.mem_range.mp h1) e
      rw [h2] at this
      cases this
  · intro h
    apply Classical.byContradiction
    intro n
    have : inB (fun t => !q t) w = true := inB_iff.mpr fun t ht e => by
      cases c : q t with
      | false => rfl
      | true => exact absurd ⟨t, List.mem_filter.mpr ⟨List.mem_range.mpr ht, c⟩, e⟩ n
    rw [this] at h
    cases h
def holdW (ls : List Nat) (p : Pl) (w : Wk) : Bool := holdB p.1 p.2 (winM ls w)
def SM (ws : List Wk) (ls : List Nat) (p : Pl) : Rat := sQ (fun w => ind (holdW ls p w) (amV w)) ws
theorem held_ws (ws : List Wk) (ls : List Nat) (p : Pl) : heldM (ws.map (winM ls)) p = (List.range ws.length).filter fun i => holdW ls p (ws.getD i wk0) := by
  unfold heldM holdW
  rw [List.length_map]
  refine List.filter_congr fun i hi => ?_
  have hl := List.mem_range.mp hi
  have h := List.getElem?_eq_getElem hl
  rw [getD_of wk0 h, getD_of none (show (ws.map (winM ls))[i]? = some (winM ls ws[i]) by rw [List.getElem?_map, h]; rfl)]
theorem ams_ws (ws : List Wk) (ls : List Nat) (p : Pl) : amsM ws (lyM ws ls p) = (ws.filter (holdW ls p)).map fun w => w.2.2 := by
  unfold amsM lyM
  rw [held_ws]
  exact by_place wk0 (holdW ls p) (fun w : Wk => w.2.2) ws
theorem vsum_sQ : ∀ rs : List R, vsum rs = sQ val rs
  | [] => rfl
  | r :: rs => by
    show val r + vsum rs = val r + sQ val rs
    rw [vsum_sQ rs]
theorem vsum_SM (ws : List Wk) (ls : List Nat) (p : Pl) : vsum (amsM ws (lyM ws ls p)) = SM ws ls p := by
  rw [ams_ws, vsum_sQ, sQ_map]
  exact sQ_filter _ ws
theorem unit_val {w : Wk} (h : WkOk w) : ((w.2.2.1 * 84 / w.2.2.2 : Int) : Rat) = 84 * amV w := by
  obtain ⟨n, hn⟩ := h.am.dvd
  have b := h.am.bot
  have e : w.2.2.1 * 84 / w.2.2.2 = w.2.2.1 * n := by
    rw [hn, Int.mul_left_comm]
    exact Int.mul_ediv_cancel_left _ (by omega)
  have e2 : (84 : Rat) = (w.2.2.2 : Rat) * (n : Rat) := by
    rw [← Rat.intCast_mul, ← hn]; rfl
  have nz : (w.2.2.2 : Rat) ≠ 0 := ne_cast (by omega)
  rw [e, Rat.intCast_mul, e2]
  show _ = _ * val w.2.2
  unfold val
  generalize (w.2.2.1 : Rat) = x at *
  generalize (w.2.2.2 : Rat) = y at *
  generalize (n : Rat) = z at *
  grind
theorem sum_cast : ∀ l : List Int, ((l.sum : Int) : Rat) = sQ (fun x : Int => (x : Rat)) l
  | [] => rfl
  | x :: l => by
    rw [List.sum_cons, Rat.intCast_add, sum_cast l]
    rfl
theorem load_SM {ws : List Wk} (ok : ∀ w ∈ ws, WkOk w) (ls : List Nat) (p : Pl) : ((loadM (ws.map (winM ls)) (amF (unitsM ws)) p : Int) : Rat) = 84 * SM ws ls p := by
  unfold loadM
  have e : (heldM (ws.map (winM ls)) p).map (amF (unitsM ws)) = (ws.filter (holdW ls p)).map fun w => w.2.2.1 * 84 / w.2.2.2 := by
    rw [held_ws, ← by_place wk0 (holdW ls p) (fun w : Wk => w.2.2.1 * 84 / w.2.2.2) ws]
    refine List.map_congr_left fun i hi => ?_
    have h := List.getElem?_eq_getElem (List.mem_range.mp (List.mem_filter.mp hi).1)
    rw [getD_of wk0 h]
    exact getD_of 0 (by unfold unitsM; rw [List.getElem?_map, h]; rfl)
  rw [e, sum_cast, sQ_map, sQ_filter]
  unfold SM
  rw [← sQ_mul]
  refine sQ_congr fun w hw => ?_
  rw [unit_val (ok w hw)]
  cases holdW ls p w with
  | true => rfl
  | false => show (0 : Rat) = 84 * 0; grind
theorem lenP_pos {n : Nat} {p : Pl} (h : Sec n p) : (0 : Rat) < (lenP p : Rat) := Rat.intCast_lt_intCast.mpr h.pos
/-- no stretch is denser than the tightest one -/
theorem tight_le {ws : List Wk} {ls : List Nat} {p r : Pl} (ok : ∀ w ∈ ws, WkOk w) (h : IsT ws ls p) (hr : Sec ls.length r) : SM ws ls r * (lenP p : Rat) ≤ SM ws ls p * (lenP r : Rat) := by
  have a : loadM (ws.map (winM ls)) (amF (unitsM ws)) r * lenP p ≤ loadM (ws.map (winM ls)) (amF (unitsM ws)) p * lenP r := by
    rcases h.1.all r hr with z | ⟨z, _⟩ <;> omega
  have b := Rat.intCast_le_intCast.mpr a
  rw [Rat.intCast_mul, Rat.intCast_mul, load_SM ok, load_SM ok] at b
  generalize SM ws ls r = x at *
  generalize SM ws ls p = y at *
  generalize (lenP p : Rat) = u at *
  generalize (lenP r : Rat) = v at *
  grind
theorem hold_some {ls : List Nat} {p : Pl} {w : Wk} (h : holdW ls p w = true) : (winM ls w).isSome = true := by
  unfold holdW at h
  cases c : winM ls w with
  | none => rw [c] at h; cases h
  | some x => rfl
theorem hold_bds {ls : List Nat} {p : Pl} {w : Wk} {a b : Nat} (e : winM ls w = some (a, b)) : holdW ls p w = (decide (p.1 ≤ a) && decide (b ≤ p.2)) := by
  unfold holdW
  rw [e]
  rfl
/-- the turns left behind a layer -/
def nx (q : Nat → Bool) (p : Pl) : Nat → Bool := fun t => !(cutM ((List.range 24).filter q) p).contains t && q t
theorem rest_nx (q : Nat → Bool) (p : Pl) : restM ((List.range 24).filter q) p = (List.range 24).filter (nx q p) := by
  unfold restM nx
  rw [List.filter_filter]
theorem ls_nd (q : Nat → Bool) : ((List.range 24).filter q).Nodup := List.Pairwise.filter _ List.nodup_range
theorem nx_F {ws : List Wk} {q : Nat → Bool} {p : Pl} (hp : Sec ((List.range 24).filter q).length p) : FM ws (fun t => !nx q p t) = FM ws (fun t => !q t) + SM ws ((List.range 24).filter q) p := by
  unfold FM SM
  rw [← sQ_add]
  refine sQ_congr fun w _ => ?_
  have e := rest_some (w := w) (ls_nd q) hp
  rw [rest_nx, win_in, win_in] at e
  have hs := hold_some (ls := (List.range 24).filter q) (p := p) (w := w)
  rw [win_in] at hs
  show ind (inB _ w) _ = ind (inB _ w) _ + ind (holdW _ p w) _
  have e' : inB (fun t => !nx q p t) w = (inB (fun t => !q t) w || holdW ((List.range 24).filter q) p w) := by
    have : holdB p.1 p.2 (winM ((List.range 24).filter q) w) = holdW ((List.range 24).filter q) p w := rfl
    rw [this] at e
    cases a : inB (fun t => !nx q p t) w <;> cases b : inB (fun t => !q t) w <;> cases c : holdW ((List.range 24).filter q) p w <;> rw [a, b, c] at e <;> first | rfl | cases e
  rw [e']
  cases b : inB (fun t => !q t) w with
  | true =>
    cases c : holdW ((List.range 24).filter q) p w with
    | true => rw [b] at hs; cases hs c
    | false => show amV w = amV w + 0; grind
  | false =>
    cases c : holdW ((List.range 24).filter q) p w with
    | true => show amV w = 0 + amV w; grind
    | false => show (0 : Rat) = 0 + 0; grind
theorem cnt_ls (q P : Nat → Bool) : cnt (fun t => q t && P t) = sQ (fun i => ind (P (((List.range 24).filter q).getD i 0)) 1) (List.range ((List.range 24).filter q).length) := by
  rw [← sQ_getD (f := fun t => ind (P t) 1) 0 ((List.range 24).filter q), sQ_filter]
  refine sQ_congr fun t _ => ?_
  show ind (q t && P t) 1 = ind (q t) (ind (P t) 1)
  cases q t <;> rfl
theorem nx_cnt {q : Nat → Bool} {p : Pl} (hp : Sec ((List.range 24).filter q).length p) : cnt (fun t => q t && !nx q p t) = (lenP p : Rat) := by
  have e1 : cnt (fun t => q t && !nx q p t) = cnt (fun t => q t && (cutM ((List.range 24).filter q) p).contains t) := cnt_congr fun t _ => by
    unfold nx
    cases q t <;> cases (cutM ((List.range 24).filter q) p).contains t <;> rfl
  rw [e1, cnt_ls]
  have h1 := hp.1
  have h2 := hp.2
  have e2 : sQ (fun i => ind ((cutM ((List.range 24).filter q) p).contains (((List.range 24).filter q).getD i 0)) 1) (List.range ((List.range 24).filter q).length) = sQ (fun i => ind (decide (p.1 ≤ i) && decide (i ≤ p.2)) 1) (List.range ((List.range 24).filter q).length) := sQ_congr fun i hi => by
    have hi' := List.mem_range.mp hi
    have m := mem_cut (ls_nd q) hp hi'
    rw [getD_of 0 (List.getElem?_eq_getElem hi')]
    congr 1
    rw [Bool.eq_iff_iff, List.contains_iff_mem, m, Bool.and_eq_true, decide_eq_true_iff, decide_eq_true_iff]
  rw [e2]
  generalize ((List.range 24).filter q).length = n at *
  obtain ⟨d, rfl⟩ : ∃ d, n = (p.2 + 1) + d := ⟨n - (p.2 + 1), by omega⟩
  rw [run_off (x := p.2 + 1) d fun i a b => by rw [decide_eq_false (show ¬ i ≤ p.2 by omega), Bool.and_false]]
  obtain ⟨e, he⟩ : ∃ e, p.2 + 1 = p.1 + e := ⟨p.2 + 1 - p.1, by omega⟩
  rw [he, run_on (x := p.1) e fun i a b => by rw [decide_eq_true a, decide_eq_true (show i ≤ p.2 by omega)]; rfl]
  have z := run_off (P := fun i => decide (p.1 ≤ i) && decide (i ≤ p.2)) (x := 0) p.1 fun i a b => by
    show (decide (p.1 ≤ i) && _) = false
    rw [decide_eq_false (show ¬ p.1 ≤ i by omega)]; rfl
  rw [Nat.zero_add] at z
  rw [z]
  show (0 : Rat) + (e : Rat) = _
  have : lenP p = (e : Int) := by unfold lenP; omega
  rw [this, Rat.intCast_natCast]
  grind
theorem sorted_ls (q : Nat → Bool) : ((List.range 24).filter q).Pairwise (· < ·) := List.Pairwise.filter _ List.pairwise_lt_range
theorem pls_mid {q : Nat → Bool} {w : Wk} {a b i : Nat} (e : winM ((List.range 24).filter q) w = some (a, b)) (h1 : a ≤ i) (h2 : i ≤ b) : i ∈ plsM ((List.range 24).filter q) w := by
  obtain ⟨m1, m2, _⟩ := win_bds e
  have srt := List.pairwise_iff_getElem.mp (sorted_ls q)
  generalize (List.range 24).filter q = ls at *
  obtain ⟨la, wa⟩ := mem_pls.mp m1
  obtain ⟨lb, wb⟩ := mem_pls.mp m2
  have li : i < ls.length := by omega
  rw [getD_of 0 (List.getElem?_eq_getElem la)] at wa
  rw [getD_of 0 (List.getElem?_eq_getElem lb)] at wb
  refine mem_pls.mpr ⟨li, ?_⟩
  rw [getD_of 0 (List.getElem?_eq_getElem li)]
  unfold inW at wa wb ⊢
  rw [Bool.and_eq_true, decide_eq_true_iff, decide_eq_true_iff] at wa wb ⊢
  have u1 : ls[a] ≤ ls[i] := by
    by_cases z : a = i
    · subst z; exact Nat.le_refl _
    · exact Nat.le_of_lt (srt a i la li (by omega))
  have u2 : ls[i] ≤ ls[b] := by
    by_cases z : i = b
    · subst z; exact Nat.le_refl _
    · exact Nat.le_of_lt (srt i b li lb (by omega))
  omega
def gB (ls : List Nat) (P : Nat → Bool) (k : Nat) (w : Wk) : Bool := (winM ls w).isSome && (plsM ls w).all fun i => decide (i < k) && P i
theorem gB_iff {ls : List Nat} {P : Nat → Bool} {k : Nat} {w : Wk} : gB ls P k w = true ↔ (winM ls w).isSome = true ∧ ∀ i ∈ plsM ls w, i < k ∧ P i = true := by
  unfold gB
  rw [Bool.and_eq_true, List.all_eq_true]
  constructor
  · rintro ⟨a, b⟩
    refine ⟨a, fun i hi => ?_⟩
    have := b i hi
    rw [Bool.and_eq_true, decide_eq_true_iff] at this
    exact this
  · rintro ⟨a, b⟩
    refine ⟨a, fun i hi => ?_⟩
    rw [Bool.and_eq_true, decide_eq_true_iff]
    exact b i hi
def GM (ws : List Wk) (ls : List Nat) (P : Nat → Bool) (k : Nat) : Rat := sQ (fun w => ind (gB ls P k w) (amV w)) ws
theorem GM_bd {ws : List Wk} {q : Nat → Bool} {p : Pl} (ok : ∀ w ∈ ws, WkOk w) (h : IsT ws ((List.range 24).filter q) p) (P : Nat → Bool) : ∀ n k, k ≤ n → k ≤ ((List.range 24).filter q).length → GM ws ((List.range 24).filter q) P k * (lenP p : Rat) ≤ SM ws ((List.range 24).filter q) p * sQ (fun i => ind (P i) 1) (List.range k) := by
  have nn := am_nn ok
  have lp := lenP_pos h.1.inn
  intro n
  induction n with
  | zero =>
    intro k hk _
    obtain rfl : k = 0 := by omega
    have z : GM ws ((List.range 24).filter q) P 0 = 0 := by
      have le : GM ws ((List.range 24).filter q) P 0 ≤ sQ (fun _ : Wk => ind false 0) ws := sQ_le fun w _ => by
        cases c : gB ((List.range 24).filter q) P 0 w with
        | false => exact Rat.le_refl
        | true =>
          obtain ⟨a, b⟩ := gB_iff.mp c
          obtain ⟨⟨x, y⟩, e⟩ := Option.isSome_iff_exists.mp a
          have := (b x (win_bds e).1).1
          omega
      have z0 : ∀ l : List Wk, sQ (fun _ : Wk => ind false 0) l = 0 := fun l => by
        induction l with
        | nil => rfl
        | cons x l ih => show ind false 0 + _ = 0; rw [ih, ind_f]; grind
      rw [z0] at le
      have ge : 0 ≤ GM ws ((List.range 24).filter q) P 0 := sQ_nn fun w hw => ind_nn _ (nn w hw)
      grind
    rw [z]
    show (0 : Rat) * _ ≤ _ * 0
    grind
  | succ n ih =>
    intro k hk hl
    by_cases k0 : k ≤ n
    · exact ih k k0 hl
    obtain rfl : k = n + 1 := by omega
    cases c : P n with
    | false =>
      have e : GM ws ((List.range 24).filter q) P (n + 1) ≤ GM ws ((List.range 24).filter q) P n := sQ_le fun w hw => ind_le (nn w hw) fun g => by
        obtain ⟨a, b⟩ := gB_iff.mp g
        refine gB_iff.mpr ⟨a, fun i hi => ?_⟩
        obtain ⟨x, y⟩ := b i hi
        refine ⟨?_, y⟩
        by_cases z : i = n
        · rw [z, c] at y; cases y
        · omega
      have e2 := Rat.mul_le_mul_of_nonneg_right e (Rat.le_of_lt lp)
      have i1 := ih n (Nat.le_refl _) (by omega)
      rw [List.range_succ (n := n), sQ_app]
      show _ ≤ _ * (_ + (ind (P n) 1 + 0))
      rw [c, ind_f]
      grind
    | true =>
      obtain ⟨x, x1, x2, x3⟩ := run_back P (n + 1)
      have xn : x ≤ n := by
        by_cases z : x = n + 1
        · subst z
          rcases x3 with y | y
          · omega
          · rw [show n + 1 - 1 = n by omega, c] at y; cases y
        · omega
      have e : GM ws ((List.range 24).filter q) P (n + 1) ≤ GM ws ((List.range 24).filter q) P x + SM ws ((List.range 24).filter q) (x, n) := by
        unfold GM SM
        rw [← sQ_add]
        refine sQ_le fun w hw => ?_
        have w0 := nn w hw
        have n1 := ind_nn (gB ((List.range 24).filter q) P x w) w0
        have n2 := ind_nn (holdW ((List.range 24).filter q) (x, n) w) w0
        cases g : gB ((List.range 24).filter q) P (n + 1) w with
        | false => rw [ind_f]; grind
        | true =>
          obtain ⟨a, b⟩ := gB_iff.mp g
          obtain ⟨⟨u, v⟩, eu⟩ := Option.isSome_iff_exists.mp a
          obtain ⟨m1, m2, bd⟩ := win_bds eu
          by_cases z : v < x
          · have : gB ((List.range 24).filter q) P x w = true := gB_iff.mpr ⟨a, fun i hi => ⟨by have := bd i hi; omega, (b i hi).2⟩⟩
            rw [this, ind_t]
            grind
          · have xu : x ≤ u := by
              apply Classical.byContradiction
              intro nu
              have m := pls_mid eu (i := x - 1) (by omega) (by omega)
              have y := (b _ m).2
              rcases x3 with y' | y'
              · omega
              · rw [y'] at y; cases y
            have vn := (b v m2).1
            have : holdW ((List.range 24).filter q) (x, n) w = true := by
              rw [hold_bds eu, Bool.and_eq_true, decide_eq_true_iff, decide_eq_true_iff]
              exact ⟨xu, by show v ≤ n; omega⟩
            rw [this, ind_t]
            grind
      have i1 := ih x xn (by omega)
      have t1 := tight_le ok h (r := (x, n)) ⟨xn, by show n < _; omega⟩
      obtain ⟨d, hd⟩ : ∃ d, n + 1 = x + d := ⟨n + 1 - x, by omega⟩
      have r := run_on (P := P) (x := x) d fun i a b => x2 i a (by omega)
      rw [← hd] at r
      rw [r]
      have ld : (lenP (x, n) : Rat) = (d : Rat) := by
        have : lenP (x, n) = (d : Int) := by show (n : Int) - (x : Int) + 1 = _; omega
        rw [this, Rat.intCast_natCast]
      rw [ld] at t1
      have e2 := Rat.mul_le_mul_of_nonneg_right e (Rat.le_of_lt lp)
      generalize GM ws ((List.range 24).filter q) P (n + 1) = g1 at *
      generalize GM ws ((List.range 24).filter q) P x = g0 at *
      generalize SM ws ((List.range 24).filter q) (x, n) = s1 at *
      generalize SM ws ((List.range 24).filter q) p = sp at *
      generalize (lenP p : Rat) = l at *
      generalize sQ (fun t => ind (P t) 1) (List.range x) = c0 at *
      generalize (d : Rat) = dd at *
      grind
/-- what a set of turns holds more than those that are gone -/
theorem greedy {ws : List Wk} {q : Nat → Bool} {p : Pl} (ok : ∀ w ∈ ws, WkOk w) (h : IsT ws ((List.range 24).filter q) p) {A : Nat → Bool} (hA : ∀ t, t < 24 → q t = false → A t = true) : (FM ws A - FM ws (fun t => !q t)) * (lenP p : Rat) ≤ SM ws ((List.range 24).filter q) p * cnt (fun t => q t && A t) := by
  have g := GM_bd ok h (fun i => A (((List.range 24).filter q).getD i 0)) _ _ (Nat.le_refl _) (Nat.le_refl ((List.range 24).filter q).length)
  rw [cnt_ls]
  have e : FM ws A = FM ws (fun t => !q t) + GM ws ((List.range 24).filter q) (fun i => A (((List.range 24).filter q).getD i 0)) ((List.range 24).filter q).length := by
    unfold FM GM
    rw [← sQ_add]
    refine sQ_congr fun w _ => ?_
    have wi := win_in (q := q) (w := w)
    cases c : inB (fun t => !q t) w with
    | true =>
      have g0 : gB ((List.range 24).filter q) (fun i => A (((List.range 24).filter q).getD i 0)) ((List.range 24).filter q).length w = false := by
        unfold gB
        rw [wi, c]
        rfl
      have a1 : inB A w = true := inB_mono (fun t ht e => hA t ht (by simpa using e)) c
      rw [g0, a1, ind_t, ind_f]
      grind
    | false =>
      rw [c] at wi
      have eq : inB A w = gB ((List.range 24).filter q) (fun i => A (((List.range 24).filter q).getD i 0)) ((List.range 24).filter q).length w := by
        rw [Bool.eq_iff_iff, gB_iff, inB_iff]
        constructor
        · intro z
          refine ⟨wi, fun i hi => ?_⟩
          obtain ⟨li, wl⟩ := mem_pls.mp hi
          refine ⟨li, ?_⟩
          have m := List.getElem_mem li
          rw [getD_of 0 (List.getElem?_eq_getElem li)] at wl ⊢
          exact z _ (List.mem_range.mp (List.mem_filter.mp m).1) wl
        · rintro ⟨_, z⟩ t ht e
          cases cq : q t with
          | false => exact hA t ht cq
          | true =>
            obtain ⟨i, li, ei⟩ := List.mem_iff_getElem.mp (List.mem_filter.mpr ⟨List.mem_range.mpr ht, cq⟩)
            have gd : ((List.range 24).filter q).getD i 0 = t := by rw [getD_of 0 (List.getElem?_eq_getElem li)]; exact ei
            have y := (z i (mem_pls.mpr ⟨li, by rw [gd]; exact e⟩)).2
            rw [gd] at y
            exact y
      rw [eq, ind_f]
      grind
  rw [e]
  grind
/-- the speed of the first layer that holds a turn -/
def spO (ws : List Wk) : List Ly → Nat → Option R
  | [], _ => none
  | y :: r, t => if y.1.contains t then some (spdM ws y) else spO ws r t
theorem spO_cons (ws : List Wk) (y : Ly) (r : List Ly) (t : Nat) : spO ws (y :: r) t = if y.1.contains t then some (spdM ws y) else spO ws r t := by rw [spO]
def spV (ws : List Wk) (lys : List Ly) (t : Nat) : Rat := match spO ws lys t with
  | none => 0
  | some r => val r
theorem spV_nil (ws : List Wk) (t : Nat) : spV ws [] t = 0 := rfl
theorem spV_cons (ws : List Wk) (y : Ly) (r : List Ly) (t : Nat) : spV ws (y :: r) t = if y.1.contains t then val (spdM ws y) else spV ws r t := by
  unfold spV
  rw [spO_cons]
  cases y.1.contains t <;> rfl
theorem spO_left {ws : List Wk} {ls : List Nat} {lys : List Ly} (h : Lys ws ls lys) {t : Nat} : (spO ws lys t).isSome = true → t ∈ ls := by
  induction h with
  | nil z => intro e; cases e
  | @cons ls p r h tl ih =>
    intro e
    rw [spO_cons] at e
    cases c : (lyM ws ls p).1.contains t with
    | true => exact List.mem_of_mem_drop (List.mem_of_mem_take (show t ∈ (ls.drop p.1).take (p.2 + 1 - p.1) from List.contains_iff_mem.mp c))
    | false =>
      rw [c] at e
      exact (List.mem_filter.mp (ih e)).1
theorem setM_get (r : R) (d : R) : ∀ (ts : List Nat) (ss : List R) (t : Nat), t < ss.length → (setM r ss ts).getD t d = if ts.contains t then r else ss.getD t d
  | [], ss, t, _ => rfl
  | u :: ts, ss, t, h => by
    show (setM r (ss.set u r) ts).getD t d = _
    rw [setM_get r d ts (ss.set u r) t (by rw [List.length_set]; exact h), List.contains_cons]
    cases c : ts.contains t with
    | true => simp
    | false =>
      by_cases z : t = u
      · subst z
        simp [List.getD_eq_getElem?_getD, h]
      · have z' : ¬ u = t := fun q => z q.symm
        simp [List.getD_eq_getElem?_getD, z, z', List.getElem?_set_ne]
theorem sps_get {ws : List Wk} {ls : List Nat} {lys : List Ly} (h : Lys ws ls lys) : ∀ (ss : List R) (t : Nat) (d : R), t < ss.length → (lys.foldl (fun ss y => setM (spdM ws y) ss y.1) ss).getD t d = (spO ws lys t).getD (ss.getD t d) := by
  induction h with
  | nil z => intro ss t d _; rfl
  | @cons ls p r h tl ih =>
    intro ss t d ht
    rw [List.foldl_cons, ih _ t d (by rw [setM_len]; exact ht), setM_get _ _ _ _ _ ht, spO_cons]
    cases c : (lyM ws ls p).1.contains t with
    | false => rfl
    | true =>
      have : spO ws r t = none := by
        cases e : spO ws r t with
        | none => rfl
        | some x =>
          have m := spO_left tl (t := t) (by rw [e]; rfl)
          have := (List.mem_filter.mp m).2
          rw [show (cutM ls p).contains t = true from c] at this
          cases this
      rw [this]
      rfl
theorem sps_val {ws : List Wk} {lys : List Ly} (h : Lys ws (List.range 24) lys) {t : Nat} (ht : t < 24) (d : R) : val ((spsM ws lys).getD t d) = spV ws lys t := by
  unfold spsM
  rw [sps_get h _ t d (by rw [List.length_replicate]; exact ht)]
  unfold spV
  cases spO ws lys t with
  | some r => rfl
  | none =>
    show val ((List.replicate 24 ((0, 1) : R)).getD t d) = 0
    rw [getD_of d (show (List.replicate 24 ((0, 1) : R))[t]? = some (0, 1) by rw [List.getElem?_replicate, if_pos ht])]
    exact val_nought
theorem ams_red {ws : List Wk} (ok : ∀ w ∈ ws, WkOk w) (ls : List Nat) (p : Pl) : ∀ r ∈ amsM ws (lyM ws ls p), Red r := by
  intro r hr
  rw [ams_ws] at hr
  obtain ⟨w, hw, rfl⟩ := List.mem_map.mp hr
  exact (ok w (List.mem_filter.mp hw).1).am.wf.red
theorem cut_len {ls : List Nat} {p : Pl} (hp : Sec ls.length p) : (((cutM ls p).length : Nat) : Rat) = (lenP p : Rat) := by
  have h1 := hp.1
  have h2 := hp.2
  have e : (cutM ls p).length = p.2 + 1 - p.1 := by unfold cutM; rw [List.length_take, List.length_drop]; omega
  have : lenP p = (((cutM ls p).length : Nat) : Int) := by rw [e]; unfold lenP; omega
  rw [this, Rat.intCast_natCast]
theorem spd_val {ws : List Wk} {ls : List Nat} {p : Pl} (ok : ∀ w ∈ ws, WkOk w) (hp : Sec ls.length p) : val (spdM ws (lyM ws ls p)) * (lenP p : Rat) = SM ws ls p := by
  obtain ⟨rd, e⟩ := val_sum (ams_red ok ls p)
  have lp := lenP_pos hp
  have cl := cut_len hp
  have pos : (0 : Int) < (((lyM ws ls p).1.length : Nat) : Int) := by
    refine Rat.intCast_lt_intCast.mp ?_
    rw [Rat.intCast_natCast]
    show ((0 : Int) : Rat) < (((cutM ls p).length : Nat) : Rat)
    rw [cl]
    exact lp
  unfold spdM
  rw [val_times rd.pos pos, e, vsum_SM]
  have v1 : val ((1, (((lyM ws ls p).1.length : Nat) : Int)) : R) = 1 / (lenP p : Rat) := by
    unfold val
    show ((1 : Int) : Rat) / ((((cutM ls p).length : Nat) : Int) : Rat) = _
    rw [Rat.intCast_natCast, cl]
    rfl
  rw [v1]
  generalize SM ws ls p = s at *
  generalize (lenP p : Rat) = l at *
  have : l ≠ 0 := fun z => by rw [z] at lp; exact absurd lp (by decide +kernel)
  grind
theorem SM_nn {ws : List Wk} (ok : ∀ w ∈ ws, WkOk w) (ls : List Nat) (p : Pl) : 0 ≤ SM ws ls p := sQ_nn fun w hw => ind_nn _ (am_nn ok w hw)
theorem spd_nn {ws : List Wk} {ls : List Nat} {p : Pl} (ok : ∀ w ∈ ws, WkOk w) (hp : Sec ls.length p) : 0 ≤ val (spdM ws (lyM ws ls p)) := by
  have e := spd_val ok hp
  have s := SM_nn ok ls p
  have lp := lenP_pos hp
  rw [← e] at s
  generalize val (spdM ws (lyM ws ls p)) = d at *
  generalize (lenP p : Rat) = l at *
  by_cases z : 0 ≤ d
  · exact z
  · have z' : d < 0 := Rat.not_le.mp z
    have := Rat.mul_lt_mul_of_pos_right z' lp
    grind
theorem spV_nn {ws : List Wk} {ls : List Nat} {lys : List Ly} (ok : ∀ w ∈ ws, WkOk w) (h : Lys ws ls lys) (t : Nat) : 0 ≤ spV ws lys t := by
  induction h with
  | nil z => exact Rat.le_refl
  | @cons ls p r h tl ih =>
    rw [spV_cons]
    cases c : (lyM ws ls p).1.contains t with
    | true => exact spd_nn ok h.1.inn
    | false => exact ih
/-- of any set of turns beyond those that are gone: at most the first layer's speed a turn -/
theorem greedy_v {ws : List Wk} {q : Nat → Bool} {p : Pl} (ok : ∀ w ∈ ws, WkOk w) (h : IsT ws ((List.range 24).filter q) p) {A : Nat → Bool} (hA : ∀ t, t < 24 → q t = false → A t = true) : FM ws A - FM ws (fun t => !q t) ≤ val (spdM ws (lyM ws ((List.range 24).filter q) p)) * cnt (fun t => q t && A t) := by
  have g := greedy ok h hA
  have e := spd_val ok h.1.inn
  have lp := lenP_pos h.1.inn
  rw [← e] at g
  generalize FM ws A - FM ws (fun t => !q t) = x at *
  generalize val (spdM ws (lyM ws ((List.range 24).filter q) p)) = d at *
  generalize cnt (fun t => q t && A t) = c at *
  generalize (lenP p : Rat) = l at *
  by_cases z : x ≤ d * c
  · exact z
  · have z' : d * c < x := Rat.not_le.mp z
    have := Rat.mul_lt_mul_of_pos_right z' lp
    grind
theorem mul_le {a b c : Rat} (h : a ≤ b) (hc : 0 ≤ c) : a * c ≤ b * c := Rat.mul_le_mul_of_nonneg_right h hc
theorem le_of_mul {a b c : Rat} (hc : 0 < c) (h : a * c ≤ b * c) : a ≤ b := by
  by_cases z : a ≤ b
  · exact z
  · have := Rat.mul_lt_mul_of_pos_right (Rat.not_le.mp z) hc
    grind
theorem ar1 {d c1 c2 l f0 fC : Rat} (g : fC - f0 ≤ d * c2) (sp : l = c1 + c2) : d * c1 ≤ f0 + d * l - fC := by
  subst sp
  rw [Rat.mul_add]
  grind
theorem ar2 {d s0 c1 c2 l f0 fA fN : Rat} (g : fA - f0 ≤ d * c2) (k0 : s0 * c1 ≤ fA - fN) (nF : fN = f0 + d * l) (sp : c2 = c1 + l) : s0 * c1 ≤ d * c1 := by
  subst sp nF
  rw [Rat.mul_add] at g
  grind
theorem ar3 {d s0 c1 c2 c3 l f1 f2 f3 f4 f5 : Rat} (k1 : s0 * c2 ≤ f4 - f1) (k2 : f3 + (f5 + d * l) ≤ f1 + f2) (g2 : f2 - f5 ≤ d * c3) (sp2 : l = c1 + c3) (m : s0 * c1 ≤ d * c1) : s0 * (c2 + c1) ≤ f4 - f3 := by
  subst sp2
  rw [Rat.mul_add] at k2 ⊢
  grind
theorem left_of {q : Nat → Bool} {p : Pl} {t : Nat} : (cutM ((List.range 24).filter q) p).contains t = true → q t = true := fun h => by
  have := List.mem_of_mem_drop (List.mem_of_mem_take (show t ∈ (((List.range 24).filter q).drop p.1).take (p.2 + 1 - p.1) from List.contains_iff_mem.mp h))
  exact (List.mem_filter.mp this).2
/-- a turn of some speed stands in a set whose works can't be done at less -/
theorem lemA {ws : List Wk} (ok : ∀ w ∈ ws, WkOk w) {ls : List Nat} {lys : List Ly} (h : Lys ws ls lys) : ∀ (q : Nat → Bool), ls = (List.range 24).filter q → ∀ t, t < 24 → 0 < spV ws lys t → ∃ A : Nat → Bool, A t = true ∧ q t = true ∧ (∀ u, u < 24 → q u = false → A u = true) ∧ ∀ C : Nat → Bool, (∀ u, u < 24 → q u = false → C u = true) → (∀ u, u < 24 → C u = true → A u = true) → spV ws lys t * cnt (fun u => A u && !C u) ≤ FM ws A - FM ws C := by
  have nn := am_nn ok
  induction h with
  | nil z => intro q e t ht s; exact absurd s (by rw [spV_nil]; decide +kernel)
  | @cons ls p r h tl ih =>
    intro q e t ht s
    subst e
    have hp : Sec ((List.range 24).filter q).length p := h.1.inn
    have nF := nx_F (ws := ws) hp
    have nC := nx_cnt hp
    have sv := spd_val ok hp
    rw [spV_cons] at s ⊢
    cases c : (lyM ws ((List.range 24).filter q) p).1.contains t with
    | true =>
      rw [c, if_pos rfl] at s
      rw [if_pos rfl]
      have qt := left_of (q := q) (p := p) c
      refine ⟨fun u => !nx q p u, ?_, qt, fun u _ qu => ?_, fun C hC hA => ?_⟩
      · show (!nx q p t) = true
        unfold nx
        rw [show (cutM ((List.range 24).filter q) p).contains t = true from c]; rfl
      · show (!nx q p u) = true
        unfold nx
        rw [qu, Bool.and_false]; rfl
      · have g := greedy_v ok h hC
        have sp := cnt_split (X := fun t => q t && !nx q p t) (P := fun u => !nx q p u && !C u) (Q := fun t => q t && C t) (fun u hu => by
          have a1 := hC u hu
          have a2 : C u = true → (!nx q p u) = true := hA u hu
          show ind (q u && !nx q p u) 1 = ind (!nx q p u && !C u) 1 + ind (q u && C u) 1
          cases x : q u <;> cases y : nx q p u <;> cases z : C u <;> rw [x, z] at a1 <;> rw [y, z] at a2 <;> first | (exact absurd (a1 rfl) (by decide)) | (exact absurd (a2 rfl) (by decide)) | (show (1 : Rat) = 1 + 0; grind) | (show (1 : Rat) = 0 + 1; grind) | (show (0 : Rat) = 0 + 0; grind))
        rw [nC] at sp
        rw [nF, ← sv]
        exact ar1 g sp
    | false =>
      rw [c, if_neg (by simp)] at s
      rw [if_neg (by simp)]
      obtain ⟨A, At, nt, hA, key⟩ := ih (nx q p) (rest_nx q p) t ht s
      have nq : ∀ u, nx q p u = true → q u = true := fun u e => by
        unfold nx at e
        rw [Bool.and_eq_true] at e
        exact e.2
      have hA' : ∀ u, u < 24 → q u = false → A u = true := fun u hu e => hA u hu (by cases x : nx q p u with | false => rfl | true => rw [nq u x] at e; cases e)
      have g := greedy_v ok h hA'
      have k0 := key (fun u => !nx q p u) (fun u _ e => by show (!nx q p u) = true; rw [e]; rfl) (fun u hu e => hA u hu (by simpa using e))
      have pos : 0 < cnt (fun u => A u && !!nx q p u) := cnt_pos ht (by show (A t && !!nx q p t) = true; rw [At, nt]; rfl)
      have sp := cnt_split (X := fun t => q t && A t) (P := fun u => A u && !!nx q p u) (Q := fun t => q t && !nx q p t) (fun u hu => by
        have a1 := nq u
        have a2 := hA u hu
        show ind (q u && A u) 1 = ind (A u && !!nx q p u) 1 + ind (q u && !nx q p u) 1
        cases x : q u <;> cases y : nx q p u <;> cases z : A u <;> rw [x, y] at a1 <;> rw [y, z] at a2 <;> first | (exact absurd (a1 rfl) (by decide)) | (exact absurd (a2 rfl) (by decide)) | (show (1 : Rat) = 1 + 0; grind) | (show (1 : Rat) = 0 + 1; grind) | (show (0 : Rat) = 0 + 0; grind))
      rw [nC] at sp
      have dle : spV ws r t ≤ val (spdM ws (lyM ws ((List.range 24).filter q) p)) := by
        refine le_of_mul pos ?_
        rw [← sv] at nF
        exact ar2 g k0 nF sp
      refine ⟨A, At, nq t nt, hA', fun C hC hCA => ?_⟩
      have k1 := key (fun u => C u || !nx q p u) (fun u _ e => by show (C u || !nx q p u) = true; rw [e, Bool.not_false, Bool.or_true]) (fun u hu e => by
        cases x : nx q p u with
        | false => exact hA u hu x
        | true =>
          have e' : (C u || !nx q p u) = true := e
          rw [x, Bool.not_true, Bool.or_false] at e'
          exact hCA u hu e')
      have k2 := FM_super nn C (fun u => !nx q p u)
      have g2 := greedy_v ok h (A := fun t => C t && !nx q p t) (fun u hu e => by
        show (C u && !nx q p u) = true
        rw [hC u hu e]
        unfold nx
        rw [e, Bool.and_false]; rfl)
      have sp2 := cnt_split (X := fun t => q t && !nx q p t) (P := fun u => !nx q p u && !C u) (Q := fun t => q t && (C t && !nx q p t)) (fun u hu => by
        have a1 := hC u hu
        have a2 := nq u
        show ind (q u && !nx q p u) 1 = ind (!nx q p u && !C u) 1 + ind (q u && (C u && !nx q p u)) 1
        cases x : q u <;> cases y : nx q p u <;> cases z : C u <;> rw [x, z] at a1 <;> rw [x, y] at a2 <;> first | (exact absurd (a1 rfl) (by decide)) | (exact absurd (a2 rfl) (by decide)) | (show (1 : Rat) = 1 + 0; grind) | (show (1 : Rat) = 0 + 1; grind) | (show (0 : Rat) = 0 + 0; grind))
      rw [nC] at sp2
      have sp3 := cnt_split (X := fun u => A u && !C u) (P := fun u => A u && !(C u || !nx q p u)) (Q := fun u => !nx q p u && !C u) (fun u hu => by
        have a1 := hA u hu
        show ind (A u && !C u) 1 = ind (A u && !(C u || !nx q p u)) 1 + ind (!nx q p u && !C u) 1
        cases x : A u <;> cases y : nx q p u <;> cases z : C u <;> rw [x, y] at a1 <;> first | (exact absurd (a1 rfl) (by decide)) | (show (1 : Rat) = 1 + 0; grind) | (show (1 : Rat) = 0 + 1; grind) | (show (0 : Rat) = 0 + 0; grind))
      have m := mul_le dle (cnt_nn fun u => !nx q p u && !C u)
      rw [nF, ← sv] at k2
      rw [sp3]
      exact ar3 k1 k2 g2 sp2 m
theorem ar4 {d d1 c x : Rat} (h : x ≤ d1 * c) (l : d1 < d) (hc : 0 < c) : x < d * c := by
  have := Rat.mul_lt_mul_of_pos_right l hc
  grind
/-- the turns of at least some speed: nothing more can be held at it -/
theorem lemB {ws : List Wk} (ok : ∀ w ∈ ws, WkOk w) {ls : List Nat} {lys : List Ly} (h : Lys ws ls lys) : ∀ (q : Nat → Bool), ls = (List.range 24).filter q → ∀ d : Rat, 0 < d → ∃ B : Nat → Bool, (∀ u, u < 24 → q u = false → B u = true) ∧ (∀ u, u < 24 → q u = true → B u = true → d ≤ spV ws lys u) ∧ ∀ A : Nat → Bool, (∀ u, u < 24 → B u = true → A u = true) → 0 < cnt (fun u => A u && !B u) → FM ws A - FM ws B < d * cnt (fun u => A u && !B u) := by
  induction h with
  | @nil ls z =>
    intro q e d hd
    subst e
    refine ⟨fun u => !q u, fun u _ e => by show (!q u) = true; rw [e]; rfl, fun u _ a b => ?_, fun A hA pos => ?_⟩
    · have b' : (!q u) = true := b
      rw [a] at b'
      cases b'
    · have e : FM ws A = FM ws (fun u => !q u) := sQ_congr fun w hw => by
        have n := List.countP_eq_zero.mp z w hw
        rw [win_in] at n
        have i0 : inB (fun t => !q t) w = true := by simpa using n
        rw [i0, inB_mono hA i0]
      rw [e]
      have := Rat.mul_pos hd pos
      grind
  | @cons ls p r h tl ih =>
    intro q e d hd
    subst e
    by_cases c : val (spdM ws (lyM ws ((List.range 24).filter q) p)) < d
    · refine ⟨fun u => !q u, fun u _ e => by show (!q u) = true; rw [e]; rfl, fun u _ a b => ?_, fun A hA pos => ?_⟩
      · have b' : (!q u) = true := b
        rw [a] at b'
        cases b'
      · have g := greedy_v ok h (A := A) fun t ht e => hA t ht (by show (!q t) = true; rw [e]; rfl)
        have e : cnt (fun u => A u && !!q u) = cnt (fun t => q t && A t) := cnt_congr fun u _ => by cases A u <;> cases q u <;> rfl
        rw [e] at pos ⊢
        exact ar4 g c pos
    · obtain ⟨B, h1, h2, h3⟩ := ih (nx q p) (rest_nx q p) d hd
      refine ⟨B, fun u hu e => h1 u hu (by unfold nx; rw [e, Bool.and_false]), fun u hu a b => ?_, h3⟩
      rw [spV_cons]
      cases cu : (lyM ws ((List.range 24).filter q) p).1.contains u with
      | true => exact Rat.not_lt.mp c
      | false =>
        refine h2 u hu ?_ b
        unfold nx
        rw [show (cutM ((List.range 24).filter q) p).contains u = false from cu, a]
        rfl
/-- of works that hold nowhere less of what is more: no turn is slower -/
theorem sp_up {ws ws' : List Wk} (ok : ∀ w ∈ ws, WkOk w) (ok' : ∀ w ∈ ws', WkOk w) {lys lys' : List Ly} (h : Lys ws (List.range 24) lys) (h' : Lys ws' (List.range 24) lys') (D : ∀ X Y : Nat → Bool, (∀ u, u < 24 → X u = true → Y u = true) → FM ws Y - FM ws X ≤ FM ws' Y - FM ws' X) {t : Nat} (ht : t < 24) : spV ws lys t ≤ spV ws' lys' t := by
  have full : List.range 24 = (List.range 24).filter (fun _ => true) := (List.filter_eq_self.mpr fun _ _ => rfl).symm
  by_cases z : 0 < spV ws lys t
  · obtain ⟨A, At, _, _, ka⟩ := lemA ok h _ full t ht z
    obtain ⟨B, _, kb, kc⟩ := lemB ok' h' _ full (spV ws lys t) z
    cases bt : B t with
    | true => exact kb t ht rfl bt
    | false =>
      exfalso
      have k1 := ka (fun u => A u && B u) (fun u _ e => by cases e) (fun u _ e => by rw [Bool.and_eq_true] at e; exact e.1)
      have e1 : cnt (fun u => A u && !(A u && B u)) = cnt (fun u => A u && !B u) := cnt_congr fun u _ => by cases A u <;> cases B u <;> rfl
      have e2 : cnt (fun u => (A u || B u) && !B u) = cnt (fun u => A u && !B u) := cnt_congr fun u _ => by cases A u <;> cases B u <;> rfl
      have pos : 0 < cnt (fun u => A u && !B u) := cnt_pos ht (by rw [At, bt]; rfl)
      have k2 := kc (fun u => A u || B u) (fun u _ e => by rw [e, Bool.or_true]) (by rw [e2]; exact pos)
      have k3 := D B (fun u => A u || B u) (fun u _ e => by rw [e, Bool.or_true])
      have k4 := FM_super (am_nn ok) A B
      rw [e1] at k1
      rw [e2] at k2
      have : ∀ {x a b c d e f : Rat}, x ≤ a - b → c - d < x → e - f ≤ c - d → a + f ≤ e + b → False := by
        intro x a b c d e f h1 h2 h3 h4
        grind
      exact this k1 k2 k3 k4
  · have := spV_nn ok' h' t
    have z' := Rat.not_lt.mp z
    grind
theorem FM_none {ws : List Wk} (ok : ∀ w ∈ ws, WkOk w) : FM ws (fun _ => false) = 0 := by
  have e : FM ws (fun _ => false) = sQ (fun _ : Wk => 0 * (0 : Rat)) ws := sQ_congr fun w hw => by
    have : inB (fun _ => false) w = false := by
      cases c : inB (fun _ => false) w with
      | false => rfl
      | true =>
        have o := ok w hw
        have l1 := o.le
        have l2 := o.lt
        have := inB_iff.mp c w.1 (by omega) (by unfold inW; rw [decide_eq_true (Nat.le_refl _), decide_eq_true l1]; rfl)
        cases this
    rw [this, ind_f]
    grind
  rw [e, sQ_mul]
  grind
/-- of works that hold nowhere more: the greatest speed is not greater -/
theorem sp_top {ws ws' : List Wk} (ok : ∀ w ∈ ws, WkOk w) (ok' : ∀ w ∈ ws', WkOk w) {lys lys' : List Ly} (h : Lys ws (List.range 24) lys) (h' : Lys ws' (List.range 24) lys') (D : ∀ X : Nat → Bool, FM ws' X ≤ FM ws X) {M : Rat} (hM : 0 ≤ M) (hs : ∀ t, t < 24 → spV ws lys t ≤ M) {t : Nat} (ht : t < 24) : spV ws' lys' t ≤ M := by
  have full : List.range 24 = (List.range 24).filter (fun _ => true) := (List.filter_eq_self.mpr fun _ _ => rfl).symm
  by_cases z : 0 < spV ws' lys' t
  · obtain ⟨A, At, _, _, ka⟩ := lemA ok' h' _ full t ht z
    have k1 := ka (fun _ => false) (fun u _ e => by cases e) (fun u _ e => by cases e)
    have e1 : cnt (fun u => A u && !false) = cnt A := cnt_congr fun u _ => by cases A u <;> rfl
    rw [e1, FM_none ok'] at k1
    have pos : 0 < cnt A := cnt_pos ht At
    have k2 : FM ws A ≤ M * cnt A := by
      cases h with
      | nil zz =>
        have e : FM ws A = FM ws (fun _ => false) := sQ_congr fun w hw => by
          have n := List.countP_eq_zero.mp zz w hw
          rw [full, win_in] at n
          have i0 : inB (fun t => !true) w = true := by simpa using n
          have i1 : inB (fun _ => false) w = true := i0
          rw [i1, inB_mono (fun u _ e => by cases e) i1]
        rw [e, FM_none ok]
        exact Rat.mul_nonneg hM (Rat.le_of_lt pos)
      | @cons _ p r hi tl =>
        rw [full] at hi
        have g := greedy_v ok hi (A := A) (fun u _ e => by cases e)
        have e2 : FM ws (fun t => !true) = 0 := FM_none ok
        have e3 : cnt (fun t => true && A t) = cnt A := cnt_congr fun u _ => by cases A u <;> rfl
        rw [e2, e3] at g
        -- some turn of the first layer
        have hp : Sec ((List.range 24).filter fun _ => true).length p := hi.1.inn
        rw [← full] at hp
        have h1 := hp.1
        have h2 := hp.2
        have hl : p.1 < (List.range 24).length := by omega
        have m := (mem_cut (p := p) List.nodup_range hp hl).mpr ⟨Nat.le_refl _, h1⟩
        have v := hs ((List.range 24)[p.1]) (by rw [List.getElem_range]; rw [List.length_range] at hl; exact hl)
        rw [spV_cons, show (lyM ws (List.range 24) p).1.contains ((List.range 24)[p.1]) = true from List.contains_iff_mem.mpr m, if_pos rfl] at v
        rw [← full] at g
        have := mul_le v (Rat.le_of_lt pos)
        grind
    have k3 := D A
    refine le_of_mul pos ?_
    grind
  · have z' := Rat.not_lt.mp z
    grind
/-- all speeds come to all amounts -/
theorem sp_all {ws : List Wk} (ok : ∀ w ∈ ws, WkOk w) {ls : List Nat} {lys : List Ly} (h : Lys ws ls lys) : ∀ (q : Nat → Bool), ls = (List.range 24).filter q → sQ (fun t => ind (q t) (spV ws lys t)) (List.range 24) = FM ws (fun _ => true) - FM ws (fun t => !q t) := by
  induction h with
  | @nil ls z =>
    intro q e
    subst e
    have e : FM ws (fun _ => true) = FM ws (fun u => !q u) := sQ_congr fun w hw => by
      have n := List.countP_eq_zero.mp z w hw
      rw [win_in] at n
      have i0 : inB (fun t => !q t) w = true := by simpa using n
      rw [i0, inB_mono (fun _ _ _ => rfl) i0]
    rw [e]
    have e2 : sQ (fun t => ind (q t) (spV ws [] t)) (List.range 24) = sQ (fun _ : Nat => 0 * (0 : Rat)) (List.range 24) := sQ_congr fun t _ => by
      rw [spV_nil]
      cases q t with
      | true => rw [ind_t]; grind
      | false => rw [ind_f]; grind
    rw [e2, sQ_mul]
    grind
  | @cons ls p r h tl ih =>
    intro q e
    subst e
    have hp : Sec ((List.range 24).filter q).length p := h.1.inn
    have i1 := ih (nx q p) (rest_nx q p)
    have nF := nx_F (ws := ws) hp
    have nC := nx_cnt hp
    have sv := spd_val ok hp
    have e2 : sQ (fun t => ind (q t) (spV ws (lyM ws ((List.range 24).filter q) p :: r) t)) (List.range 24) = sQ (fun t => ind (nx q p t) (spV ws r t) + val (spdM ws (lyM ws ((List.range 24).filter q) p)) * ind (q t && !nx q p t) 1) (List.range 24) := sQ_congr fun t ht => by
      rw [spV_cons]
      have n : nx q p t = (!(cutM ((List.range 24).filter q) p).contains t && q t) := rfl
      have lf := left_of (q := q) (p := p) (t := t)
      rw [show (lyM ws ((List.range 24).filter q) p).1.contains t = (cutM ((List.range 24).filter q) p).contains t from rfl]
      cases a : (cutM ((List.range 24).filter q) p).contains t with
      | true =>
        rw [a] at n lf
        rw [lf rfl, n]
        show val _ = 0 + val _ * 1
        grind
      | false =>
        rw [a] at n
        rw [n]
        cases q t with
        | true => show spV ws r t = spV ws r t + _ * 0; grind
        | false => show (0 : Rat) = 0 + _ * 0; grind
    rw [e2, sQ_add, i1, sQ_mul]
    have : sQ (fun t => ind (q t && !nx q p t) 1) (List.range 24) = (lenP p : Rat) := nC
    rw [this, sv, nF]
    grind
theorem FM_full (ws : List Wk) : FM ws (fun _ => true) = sQ amV ws := sQ_congr fun w _ => by
  have : inB (fun _ => true) w = true := inB_iff.mpr fun _ _ _ => rfl
  rw [this]; rfl
/-- a work more, more of one, a wider one -/
theorem FM_at (a : List Wk) (w : Wk) (b : List Wk) (X : Nat → Bool) : FM (a ++ w :: b) X = FM a X + ind (inB X w) (amV w) + FM b X := by
  unfold FM
  rw [sQ_app]
  show _ + (ind (inB X w) (amV w) + _) = _
  grind
theorem FM_app (a b : List Wk) (X : Nat → Bool) : FM (a ++ b) X = FM a X + FM b X := sQ_app a b
theorem D_more {a b : List Wk} {w : Wk} (ok : WkOk w) (X Y : Nat → Bool) (h : ∀ u, u < 24 → X u = true → Y u = true) : FM (a ++ b) Y - FM (a ++ b) X ≤ FM (a ++ w :: b) Y - FM (a ++ w :: b) X := by
  rw [FM_at, FM_at, FM_app, FM_app]
  have := ind_le (x := amV w) (Rat.le_of_lt (am_pos ok)) (inB_mono (w := w) h)
  generalize ind (inB X w) (amV w) = x at *
  generalize ind (inB Y w) (amV w) = y at *
  generalize FM a Y = fa at *
  generalize FM b Y = fb at *
  generalize FM a X = fc at *
  generalize FM b X = fd at *
  clear h ok
  grind
theorem D_great {a b : List Wk} {w w' : Wk} (e1 : w'.1 = w.1) (e2 : w'.2.1 = w.2.1) (le : amV w ≤ amV w') (X Y : Nat → Bool) (h : ∀ u, u < 24 → X u = true → Y u = true) : FM (a ++ w :: b) Y - FM (a ++ w :: b) X ≤ FM (a ++ w' :: b) Y - FM (a ++ w' :: b) X := by
  rw [FM_at, FM_at, FM_at, FM_at]
  have iw : ∀ Z, inB Z w' = inB Z w := fun Z => by unfold inB inW; rw [e1, e2]
  rw [iw, iw]
  have m := inB_mono (w := w) h
  generalize FM a Y = fa at *
  generalize FM b Y = fb at *
  generalize FM a X = fc at *
  generalize FM b X = fd at *
  generalize amV w = x at *
  generalize amV w' = x' at *
  clear h iw
  cases p : inB X w with
  | true =>
    rw [m p, ind_t, ind_t]
    grind
  | false =>
    rw [ind_f, ind_f]
    cases inB Y w with
    | true => rw [ind_t, ind_t]; grind
    | false => rw [ind_f, ind_f]; grind
theorem D_wide {a b : List Wk} {w w' : Wk} (ok : WkOk w) (e1 : w'.1 ≤ w.1) (e2 : w.2.1 ≤ w'.2.1) (e3 : w'.2.2 = w.2.2) (X : Nat → Bool) : FM (a ++ w' :: b) X ≤ FM (a ++ w :: b) X := by
  rw [FM_at, FM_at]
  have av : amV w' = amV w := by unfold amV; rw [e3]
  have := ind_le (b := inB X w') (c := inB X w) (x := amV w) (Rat.le_of_lt (am_pos ok)) fun q => inB_iff.mpr fun t ht e => inB_iff.mp q t ht (by
    unfold inW at e ⊢
    rw [Bool.and_eq_true, decide_eq_true_iff, decide_eq_true_iff] at e ⊢
    omega)
  rw [av]
  generalize ind (inB X w) (amV w) = x at *
  generalize ind (inB X w') (amV w) = y at *
  clear e1 e2 e3 ok av
  grind
theorem spd_wf {ws : List Wk} {y : Ly} (ok : ∀ w ∈ ws, WkOk w) (hw : ws.length ≤ 8) (h : LyOk ws.length y) : Wf 110 (spdM ws y) := by
  have a := sum_wfN (ams_wf (n := 0) ok h)
  have l : (amsM ws y).length ≤ 8 := by unfold amsM; rw [List.length_map]; have := h.len; omega
  have l' : (9 + 1) * (amsM ws y).length ≤ 10 * 8 := Nat.mul_le_mul_left _ l
  exact (times_wf a (one_wf h.pos h.few)).mono (by omega)
theorem setM_all {P : R → Prop} {r : R} (hr : P r) : ∀ (ts : List Nat) (ss : List R), (∀ x ∈ ss, P x) → ∀ x ∈ setM r ss ts, P x
  | [], _, h => h
  | t :: ts, ss, h => setM_all hr ts (ss.set t r) fun x hx => (List.mem_or_eq_of_mem_set hx).elim (h x) fun e => e ▸ hr
theorem sps_all {P : R → Prop} {ws : List Wk} : ∀ (lys : List Ly) (ss : List R), (∀ y ∈ lys, P (spdM ws y)) → (∀ x ∈ ss, P x) → ∀ x ∈ lys.foldl (fun ss y => setM (spdM ws y) ss y.1) ss, P x
  | [], _, _, h => h
  | y :: r, ss, hy, h => sps_all r _ (fun z hz => hy z (List.mem_cons_of_mem _ hz)) (setM_all (hy y List.mem_cons_self) y.1 ss h)
theorem sps_wf {ws : List Wk} {lys : List Ly} (ok : ∀ w ∈ ws, WkOk w) (hw : ws.length ≤ 8) (lok : ∀ y ∈ lys, LyOk ws.length y) : ∀ r ∈ spsM ws lys, Wf 110 r :=
  sps_all (P := Wf 110) lys _ (fun y hy => spd_wf ok hw (lok y hy)) fun x hx => by rw [(List.mem_replicate.mp hx).2]; exact zero_wf.mono (by decide)
theorem sps_24 (ws : List Wk) (lys : List Ly) : (spsM ws lys).length = 24 := by unfold spsM; rw [sps_len]; rfl
theorem sps_sum {ws : List Wk} {lys : List Ly} (ok : ∀ w ∈ ws, WkOk w) (hw : ws.length ≤ 8) (lok : ∀ y ∈ lys, LyOk ws.length y) (h : Lys ws (List.range 24) lys) : sumR (spsM ws lys) = sumR (ws.map fun w => w.2.2) := by
  have r1 : ∀ r ∈ spsM ws lys, Red r := fun r hr => (sps_wf ok hw lok r hr).red
  have r2 : ∀ r ∈ ws.map (fun w => w.2.2), Red r := fun r hr => by
    obtain ⟨w, hw, rfl⟩ := List.mem_map.mp hr
    exact (ok w hw).am.wf.red
  refine val_inj (val_sum r1).1 (val_sum r2).1 ?_
  rw [(val_sum r1).2, (val_sum r2).2, vsum_sQ, vsum_sQ, sQ_map, sQ_getD (0, 1) (spsM ws lys), sps_24]
  have e := sp_all ok h (fun _ => true) (List.filter_eq_self.mpr fun _ _ => rfl).symm
  have e0 : FM ws (fun t => !true) = 0 := FM_none ok
  rw [e0, FM_full] at e
  have e1 : sQ (fun i => val ((spsM ws lys).getD i (0, 1))) (List.range 24) = sQ (fun t => ind true (spV ws lys t)) (List.range 24) := sQ_congr fun t ht => by
    rw [sps_val h (List.mem_range.mp ht)]; rfl
  rw [e1, e]
  show sQ amV ws - 0 = sQ amV ws
  grind
def sp_law_least_rise (K : PySem.W.Frag) : Sp := fun vs H Q _ => ∃ (v w : V) (ws ws' : List Wk), vs = [v, w] ∧ WksV K H v ws ∧ WksV K H w ws' ∧ ws.length ≤ 8 ∧ ws'.length ≤ 8 ∧ (∀ w ∈ ws, WkOk w) ∧ (∀ w ∈ ws', WkOk w) ∧ (∀ X Y : Nat → Bool, (∀ u, u < 24 → X u = true → Y u = true) → FM ws Y - FM ws X ≤ FM ws' Y - FM ws' X) ∧ ∀ H', Same H H' → Q (.bl true) H'
def sp_law_most (K : PySem.W.Frag) : Sp := fun vs H Q _ => ∃ (v : V) (ws : List Wk), vs = [v] ∧ WksV K H v ws ∧ ws.length ≤ 8 ∧ (∀ w ∈ ws, WkOk w) ∧ ∀ (u : V) (r : R) (lys : List Ly) (H' : Hp), Same H H' → RV K H' u r → Wf 110 r → Lys ws (List.range 24) lys → (∀ t, t < 24 → spV ws lys t ≤ val r) → 0 ≤ val r → (val r = 0 ∨ ∃ t, t < 24 ∧ val r = spV ws lys t) → Q u H'
theorem als_at {α : Type} {P : V → α → Prop} {xs : List V} {ds : List α} (h : Als P xs ds) {i : Nat} (hi : i < ds.length) : ∃ x, xs[i]? = some x ∧ P x ds[i] := by
  have hx : i < xs.length := by rw [h.len]; exact hi
  obtain ⟨d, hd, p⟩ := h.at (List.getElem?_eq_getElem hx)
  rw [List.getElem?_eq_getElem hi] at hd
  cases hd
  exact ⟨_, List.getElem?_eq_getElem hx, p⟩
theorem flat_bl (bs : List Bool) : (bs.map V.bl).all flatV = true := by
  rw [List.all_eq_true]
  intro v hv
  obtain ⟨b, _, rfl⟩ := List.mem_map.mp hv
  rfl
theorem in_bl {bs : List Bool} (h : ∀ b ∈ bs, b = false) : inV (.bl true) (bs.map V.bl) = false := by
  unfold inV
  rw [List.any_eq_false]
  intro v hv
  obtain ⟨b, hb, rfl⟩ := List.mem_map.mp hv
  rw [h b hb]
  decide
theorem Als.takeI {α : Type} {P : V → α → Prop} : ∀ {xs : List V} {ds : List α} (n : Nat), Als P xs ds → Als P (xs.take n) (ds.take n)
  | _, _, 0, _ => by rw [List.take_zero, List.take_zero]; exact .nil
  | _, _, n + 1, .nil => by rw [List.take_nil, List.take_nil]; exact .nil
  | _, _, n + 1, .cons h t => .cons h (Als.takeI n t)
theorem Als.dropI {α : Type} {P : V → α → Prop} : ∀ {xs : List V} {ds : List α} (n : Nat), Als P xs ds → Als P (xs.drop n) (ds.drop n)
  | _, _, 0, h => h
  | _, _, n + 1, .nil => by rw [List.drop_nil, List.drop_nil]; exact .nil
  | _, _, n + 1, .cons h t => Als.dropI n t
theorem Als.appI {α : Type} {P : V → α → Prop} : ∀ {xs ys : List V} {ds es : List α}, Als P xs ds → Als P ys es → Als P (xs ++ ys) (ds ++ es)
  | _, _, _, _, .nil, h => h
  | _, _, _, _, .cons a t, h => .cons a (Als.appI t h)
theorem mem_at {α : Type} {P : α → Prop} {ws : List α} {w : α} {n m : Nat} (h : ∀ x ∈ ws, P x) (hw : P w) : ∀ x ∈ ws.take n ++ w :: ws.drop m, P x := fun x hx => by
  rcases List.mem_append.mp hx with z | z
  · exact h x (List.mem_of_mem_take z)
  · rcases List.mem_cons.mp z with z | z
    · rw [z]; exact hw
    · exact h x (List.mem_of_mem_drop z)
theorem split_at {α : Type} {ws : List α} {n : Nat} {w : α} (h : ws[n]? = some w) : ws = ws.take n ++ w :: ws.drop (n + 1) := by
  obtain ⟨hl, e⟩ := List.getElem?_eq_some_iff.mp h
  rw [← e, ← List.drop_eq_getElem_cons hl, List.take_append_drop]
def sp_law (K : PySem.W.Frag) : Sp := fun vs H Q _ => ∃ (a : Addr) (ns : List Int), vs = [.ref a] ∧ SqL K H a (ns.map V.int) ∧ ns.length ≤ 63 ∧ ∀ H', Q (.bl true) H'
theorem sc_greatest_divisor : FnScope ["one", "other", "high", "low", "rest"] ["one", "other"] (defScope s_greatest_divisor) := ⟨rfl, rfl, rfl, by decide +kernel, rfl, by decide +kernel, by decide +kernel⟩
theorem sc_ratio : FnScope ["top", "bottom", "shared"] ["top", "bottom"] (defScope s_ratio) := ⟨rfl, rfl, rfl, by decide +kernel, rfl, by decide +kernel, by decide +kernel⟩
theorem sc_plus : FnScope ["one", "other", "shared", "top", "rest"] ["one", "other"] (defScope s_plus) := ⟨rfl, rfl, rfl, by decide +kernel, rfl, by decide +kernel, by decide +kernel⟩
theorem sc_times : FnScope ["one", "other", "left", "right"] ["one", "other"] (defScope s_times) := ⟨rfl, rfl, rfl, by decide +kernel, rfl, by decide +kernel, by decide +kernel⟩
theorem sc_over : FnScope ["one", "other"] ["one", "other"] (defScope s_over) := ⟨rfl, rfl, rfl, by decide +kernel, rfl, by decide +kernel, by decide +kernel⟩
theorem sc_total : FnScope ["some", "tops", "one", "so_far", "bottom", "top"] ["some"] (defScope s_total) := ⟨rfl, rfl, rfl, by decide +kernel, rfl, by decide +kernel, by decide +kernel⟩
theorem sc_whole_parts : FnScope ["some", "bottom", "one"] ["some"] (defScope s_whole_parts) := ⟨rfl, rfl, rfl, by decide +kernel, rfl, by decide +kernel, by decide +kernel⟩
theorem sc_in_window : FnScope ["work", "turn"] ["work", "turn"] (defScope s_in_window) := ⟨rfl, rfl, rfl, by decide +kernel, rfl, by decide +kernel, by decide +kernel⟩
theorem sc_kept_windows : FnScope ["works", "left", "windows", "work", "places"] ["works", "left"] (defScope s_kept_windows) := ⟨rfl, rfl, rfl, by decide +kernel, rfl, by decide +kernel, by decide +kernel⟩
theorem sc_held : FnScope ["windows", "begin", "end"] ["windows", "begin", "end"] (defScope s_held) := ⟨rfl, rfl, rfl, by decide +kernel, rfl, by decide +kernel, by decide +kernel⟩
theorem sc_tightest_places : FnScope ["windows", "amounts", "count", "best", "best_load", "best_length", "begin", "end", "load", "length"] ["windows", "amounts", "count"] (defScope s_tightest_places) := ⟨rfl, rfl, rfl, by decide +kernel, rfl, by decide +kernel, by decide +kernel⟩
theorem sc_tightest : FnScope ["works", "left", "windows", "places"] ["works", "left"] (defScope s_tightest) := ⟨rfl, rfl, rfl, by decide +kernel, rfl, by decide +kernel, by decide +kernel⟩
theorem sc_layers : FnScope ["works", "told", "left", "waiting", "layer"] ["works"] (defScope s_layers) := ⟨rfl, rfl, rfl, by decide +kernel, rfl, by decide +kernel, by decide +kernel⟩
theorem sc_layer_density : FnScope ["works", "layer"] ["works", "layer"] (defScope s_layer_density) := ⟨rfl, rfl, rfl, by decide +kernel, rfl, by decide +kernel, by decide +kernel⟩
theorem sc_layer_speeds : FnScope ["works", "speeds", "layer", "speed", "turn"] ["works"] (defScope s_layer_speeds) := ⟨rfl, rfl, rfl, by decide +kernel, rfl, by decide +kernel, by decide +kernel⟩
theorem sc_law_tape : FnScope ["_law_script"] ["_law_script"] (defScope s_law_tape) := ⟨rfl, rfl, rfl, by decide +kernel, rfl, by decide +kernel, by decide +kernel⟩
theorem sc_law_draw : FnScope ["_law_tape_here", "_law_many", "_law_spot", "_law_cell", "_law_mixed", "_law_found"] ["_law_tape_here", "_law_many"] (defScope s_law_draw) := ⟨rfl, rfl, rfl, by decide +kernel, rfl, by decide +kernel, by decide +kernel⟩
theorem sc_law_frac : FnScope ["_law_top", "_law_bottom", "_law_one", "_law_other"] ["_law_top", "_law_bottom"] (defScope s_law_frac) := ⟨rfl, rfl, rfl, by decide +kernel, rfl, by decide +kernel, by decide +kernel⟩
theorem sc_law_add : FnScope ["_law_one", "_law_other"] ["_law_one", "_law_other"] (defScope s_law_add) := ⟨rfl, rfl, rfl, by decide +kernel, rfl, by decide +kernel, by decide +kernel⟩
theorem sc_law_less : FnScope ["_law_one", "_law_other"] ["_law_one", "_law_other"] (defScope s_law_less) := ⟨rfl, rfl, rfl, by decide +kernel, rfl, by decide +kernel, by decide +kernel⟩
theorem sc_law_sum : FnScope ["_law_some", "_law_found", "_law_one"] ["_law_some"] (defScope s_law_sum) := ⟨rfl, rfl, rfl, by decide +kernel, rfl, by decide +kernel, by decide +kernel⟩
theorem sc_law_works : FnScope ["_law_tape_here", "_law_many", "_law_end", "_law_works_here", "_law_k", "_law_first", "_law_last", "_law_way"] ["_law_tape_here", "_law_many"] (defScope s_law_works) := ⟨rfl, rfl, rfl, by decide +kernel, rfl, by decide +kernel, by decide +kernel⟩
theorem sc_law_least_rise : FnScope ["_law_works_here", "_law_more", "_law_slow", "_law_fast"] ["_law_works_here", "_law_more"] (defScope s_law_least_rise) := ⟨rfl, rfl, rfl, by decide +kernel, rfl, by decide +kernel, by decide +kernel⟩
theorem sc_law_most : FnScope ["_law_works_here", "_law_found", "_law_speed"] ["_law_works_here"] (defScope s_law_most) := ⟨rfl, rfl, rfl, by decide +kernel, rfl, by decide +kernel, by decide +kernel⟩
theorem sc_law : FnScope ["_law_script", "_law_tape_here", "_law_k", "_law_works_here", "_law_one", "_law_at", "_law_first", "_law_last", "_law_amount", "_law_great", "_law_wide"] ["_law_script"] (defScope s_law) := ⟨rfl, rfl, rfl, by decide +kernel, rfl, by decide +kernel, by decide +kernel⟩

end My
namespace My
open PySem L2 B PyProof.Rows
section
variable {P : Program} {w : World} {K : PySem.W.Frag} {mg : Str → Option Value} {base : Heap} {t : Ad}
theorem ok_greatest_divisor (T : Txt K mg t) : FnOk P w K mg base CX0 1 t.a_greatest_divisor t.d_greatest_divisor ["one", "other"] (sp_greatest_divisor K) := by
  refine T.F_greatest_divisor.ok sc_greatest_divisor (fun vs H Q E h => ?_) (fun cdv A outer s H vs Q E hr h => ?_)
  · obtain ⟨_, _, rfl, _⟩ := h; rfl
  obtain ⟨a, b, rfl, k⟩ := h
  refine QSs.ok (qss_cons (qs_set (i := 2) sc_greatest_divisor.nd rfl (by first | exact Or.inl rfl | exact Or.inr rfl) (qe_callB call_abs (by rfl) T.z_abs PyProof.Rows.boot_abs (qa_cons (qv 0) qa_nil star_name)))
      (qss_cons (qs_set (i := 3) sc_greatest_divisor.nd rfl (by first | exact Or.inl rfl | exact Or.inr rfl) (qe_callB call_abs (by rfl) T.z_abs PyProof.Rows.boot_abs (qa_cons (qv 1) qa_nil star_name)))
      (qss_cons (qs_while PassesOwn.never (qt_cmpR op_ne (qv 3) qe_int (nomark _))
      (qss_cons (qs_set (i := 4) sc_greatest_divisor.nd rfl (by first | exact Or.inl rfl | exact Or.inr rfl) (qe_op op_mod (qv 2) (qv 3)))
      (qss_cons (qs_set (i := 2) sc_greatest_divisor.nd rfl (by first | exact Or.inl rfl | exact Or.inr rfl) (qv 3))
      (qss_one (qs_set (i := 3) sc_greatest_divisor.nd rfl (by first | exact Or.inl rfl | exact Or.inr rfl) (qv 4))))))
      (qss_one (qs_ret (qv 2)))))) ?_
  refine ⟨_, rfl, _, rfl, _, rfl, _, rfl, ?_⟩
  rw [abs_if, abs_if]
  refine ⟨fun m σ H' => ∃ (x y : Int) (v : Option V), σ = [some (.int a), some (.int b), some (.int x), some (.int y), v] ∧ H' = H ∧ 0 ≤ x ∧ 0 ≤ y ∧ Int.gcd x y = Int.gcd a b ∧ m = y.toNat, ⟨_, _, _, _, rfl, rfl, by omega, by omega, (by simp [Int.gcd]), rfl⟩, ?_⟩
  rintro m σ H' ⟨x, y, v, rfl, rfl, hx, hy, hg, rfl⟩
  refine ⟨_, rfl, rfl, _, rfl, ?_⟩
  by_cases c : y = 0
  · subst c
    refine iteNS rfl ?_
    rw [← hg] at k
    refine ⟨_, rfl, ?_⟩
    have e : (x : Int) = (Int.gcd x 0 : Nat) := by simp [Int.gcd]; omega
    rw [← e] at k
    exact k
  · refine iteN1 (fun z => c (by injection z)) ?_
    refine ⟨_, fun _ _ z => z, ?_⟩
    refine ⟨_, rfl, _, rfl, _, _, rfl, rfl, (by omega), _, rfl, _, rfl, ?_⟩
    refine ⟨_, ?_, y, x % y, _, rfl, rfl, hy, Int.emod_nonneg _ c, ?_, rfl⟩
    · have := Int.emod_lt_of_pos x (show 0 < y by omega)
      have := Int.emod_nonneg x c
      omega
    · rw [gcd_turn hx (by omega), hg]
theorem ok_ratio (T : Txt K mg t) : FnOk P w K mg base CX0 2 t.a_ratio t.d_ratio ["top", "bottom"] (sp_ratio K) := by
  refine T.F_ratio.ok sc_ratio (fun vs H Q E h => ?_) (fun cdv A outer s H vs Q E hr h => ?_)
  · obtain ⟨_, _, rfl, _⟩ := h; rfl
  obtain ⟨a, b, rfl, hb, hz, k⟩ := h
  refine QSs.ok (qss_cons (qs_if (qt_cmpR op_eq (qv 1) qe_int (nomark _)) (qss_one qs_never) qss_nil)
      (qss_cons (qs_set (i := 2) sc_ratio.nd rfl (by first | exact Or.inl rfl | exact Or.inr rfl) (qe_call (ok_greatest_divisor T) (hr.mono (by decide)) rfl T.m_greatest_divisor T.F_greatest_divisor.kp T.b_greatest_divisor .nil pass0 (qa_cons (qv 0) (qa_cons (qv 1) qa_nil star_name) star_name)))
      (qss_cons (qs_if (qt_cmpR op_lt (qv 1) qe_int (nomark _)) (qss_one (qs_set (i := 2) sc_ratio.nd rfl (by first | exact Or.inl rfl | exact Or.inr rfl) (qe_un un_neg (qv 2)))) qss_nil)
      (qss_one (qs_ret (qe_tup (qa_cons (qe_op op_quo (qv 0) (qv 2)) (qa_cons (qe_op op_quo (qv 1) (qv 2)) qa_nil star_bin) star_bin))))))) ?_
  have gp := gcd_posR (a := a) hb
  have gb : ((Int.gcd a b : Nat) : Int).natAbs < 2 ^ 4000 := by
    have z : Int.gcd a b ≤ b.natAbs := Nat.le_of_dvd (by omega) (by have := Int.gcd_dvd_right a b; exact Int.natAbs_dvd_natAbs.mpr this)
    have e : ((Int.gcd a b : Nat) : Int).natAbs = Int.gcd a b := Int.natAbs_natCast _
    omega
  refine ⟨_, rfl, rfl, _, rfl, ?_⟩
  refine iteD0 (fun z => by injection z with z; omega) ?_
  refine ⟨_, rfl, _, rfl, a, b, rfl, ?_⟩
  refine ⟨_, rfl, _, _, rfl, rfl, _, rfl, ?_⟩
  refine iteD0 (by omega) ?_
  refine ⟨_, rfl, _, rfl, _, _, rfl, rfl, ⟨gp, gb⟩, _, rfl, _, rfl, _, _, rfl, rfl, ⟨gp, gb⟩, (by show 2 ≤ sizeLine; decide), fun p hp => ?_⟩
  exact k p hp
theorem ok_plus (T : Txt K mg t) : FnOk P w K mg base CX0 2 t.a_plus t.d_plus ["one", "other"] (sp_plus K) := by
  refine T.F_plus.ok sc_plus (fun vs H Q E h => ?_) (fun cdv A outer s H vs Q E hr h => ?_)
  · obtain ⟨_, _, _, _, _, _, rfl, _⟩ := h; rfl
  obtain ⟨v, w, r, q, n, m, rfl, hv, hw, wr, wq, hz, k⟩ := h
  refine QSs.ok (qss_cons (qs_set (i := 2) sc_plus.nd rfl (by first | exact Or.inl rfl | exact Or.inr rfl) (qe_call (ok_greatest_divisor T) (hr.mono (by decide)) rfl T.m_greatest_divisor T.F_greatest_divisor.kp T.b_greatest_divisor .nil pass0 (qa_cons (qe_ix ix_tup (qv 0) qe_int (fun _ _ => rfl)) (qa_cons (qe_ix ix_tup (qv 1) qe_int (fun _ _ => rfl)) qa_nil star_sub) star_sub)))
      (qss_cons (qs_set (i := 3) sc_plus.nd rfl (by first | exact Or.inl rfl | exact Or.inr rfl) (qe_op op_add (qe_op op_mulB (qe_ix ix_tup (qv 0) qe_int (fun _ _ => rfl)) (qe_op op_quo (qe_ix ix_tup (qv 1) qe_int (fun _ _ => rfl)) (qv 2))) (qe_op op_mulB (qe_ix ix_tup (qv 1) qe_int (fun _ _ => rfl)) (qe_op op_quo (qe_ix ix_tup (qv 0) qe_int (fun _ _ => rfl)) (qv 2)))))
      (qss_cons (qs_set (i := 4) sc_plus.nd rfl (by first | exact Or.inl rfl | exact Or.inr rfl) (qe_call (ok_greatest_divisor T) (hr.mono (by decide)) rfl T.m_greatest_divisor T.F_greatest_divisor.kp T.b_greatest_divisor .nil pass0 (qa_cons (qv 3) (qa_cons (qv 2) qa_nil star_name) star_name)))
      (qss_one (qs_ret (qe_tup (qa_cons (qe_op op_quo (qv 3) (qv 4)) (qa_cons (qe_op op_mulB (qe_op op_quo (qe_ix ix_tup (qv 0) qe_int (fun _ _ => rfl)) (qv 2)) (qe_op op_quo (qe_ix ix_tup (qv 1) qe_int (fun _ _ => rfl)) (qv 4))) qa_nil star_bin) star_bin))))))) ?_
  obtain ⟨p, rfl, hv⟩ := hv
  obtain ⟨p', rfl, hw⟩ := hw
  have c1 := big_of wr.top (show n ≤ 4000 by omega)
  have c2 := big_of wr.bot (show n ≤ 4000 by omega)
  have c3 := big_of wq.top (show m ≤ 4000 by omega)
  have c4 := big_of wq.bot (show m ≤ 4000 by omega)
  have gp : (0 : Int) < (Int.gcd r.2 q.2 : Nat) := gcd_posR wq.pos
  have gb := gcd_lt (a := r.2) wq.pos c4
  refine ⟨_, rfl, p, _, _, _, rfl, rfl, hv, rfl, _, rfl, p', _, _, _, rfl, rfl, hw, rfl, r.2, q.2, rfl, ?_⟩
  have z := plusG_eq ⟨wr.pos, wr.cop⟩ ⟨wq.pos, wq.cop⟩
  have kk : newR H Q (plusG r q) := by rw [z]; exact k
  unfold plusG at kk
  simp only at kk
  generalize ((Int.gcd r.2 q.2 : Nat) : Int) = d at gp gb kk ⊢
  refine ⟨_, rfl, p, _, _, _, rfl, rfl, hv, rfl, _, rfl, p', _, _, _, rfl, rfl, hw, rfl, _, rfl, _, _, rfl, rfl, ⟨gp, gb⟩, _, _, rfl, rfl, ⟨c1, div_lt gp c4⟩, _, rfl, p', _, _, _, rfl, rfl, hw, rfl, _, rfl, p, _, _, _, rfl, rfl, hv, rfl, _, rfl, _, _, rfl, rfl, ⟨gp, gb⟩, _, _, rfl, rfl, ⟨c3, div_lt gp c2⟩, _, _, rfl, rfl, ?_⟩
  refine ⟨_, rfl, _, rfl, _, _, rfl, ?_⟩
  have ep : (0 : Int) < (Int.gcd (r.1 * (q.2 / d) + q.1 * (r.2 / d)) d : Nat) := gcd_posR gp
  have eb := gcd_lt (a := r.1 * (q.2 / d) + q.1 * (r.2 / d)) gp gb
  generalize ((Int.gcd (r.1 * (q.2 / d) + q.1 * (r.2 / d)) d : Nat) : Int) = e at ep eb kk ⊢
  refine ⟨_, rfl, _, rfl, _, _, rfl, rfl, ⟨ep, eb⟩, _, rfl, p, _, _, _, rfl, rfl, hv, rfl, _, rfl, _, _, rfl, rfl, ⟨gp, gb⟩, _, rfl, p', _, _, _, rfl, rfl, hw, rfl, _, rfl, _, _, rfl, rfl, ⟨ep, eb⟩, _, _, rfl, rfl, ⟨div_lt gp c2, div_lt ep c4⟩, (by show 2 ≤ sizeLine; decide), kk⟩
theorem ok_times (T : Txt K mg t) : FnOk P w K mg base CX0 2 t.a_times t.d_times ["one", "other"] (sp_times K) := by
  refine T.F_times.ok sc_times (fun vs H Q E h => ?_) (fun cdv A outer s H vs Q E hr h => ?_)
  · obtain ⟨_, _, _, _, _, _, rfl, _⟩ := h; rfl
  obtain ⟨v, w, r, q, n, m, rfl, hv, hw, wr, wq, hz, k⟩ := h
  refine QSs.ok (qss_cons (qs_set (i := 2) sc_times.nd rfl (by first | exact Or.inl rfl | exact Or.inr rfl) (qe_call (ok_greatest_divisor T) (hr.mono (by decide)) rfl T.m_greatest_divisor T.F_greatest_divisor.kp T.b_greatest_divisor .nil pass0 (qa_cons (qe_ix ix_tup (qv 0) qe_int (fun _ _ => rfl)) (qa_cons (qe_ix ix_tup (qv 1) qe_int (fun _ _ => rfl)) qa_nil star_sub) star_sub)))
      (qss_cons (qs_set (i := 3) sc_times.nd rfl (by first | exact Or.inl rfl | exact Or.inr rfl) (qe_call (ok_greatest_divisor T) (hr.mono (by decide)) rfl T.m_greatest_divisor T.F_greatest_divisor.kp T.b_greatest_divisor .nil pass0 (qa_cons (qe_ix ix_tup (qv 1) qe_int (fun _ _ => rfl)) (qa_cons (qe_ix ix_tup (qv 0) qe_int (fun _ _ => rfl)) qa_nil star_sub) star_sub)))
      (qss_one (qs_ret (qe_tup (qa_cons (qe_op op_mulB (qe_op op_quo (qe_ix ix_tup (qv 0) qe_int (fun _ _ => rfl)) (qv 2)) (qe_op op_quo (qe_ix ix_tup (qv 1) qe_int (fun _ _ => rfl)) (qv 3))) (qa_cons (qe_op op_mulB (qe_op op_quo (qe_ix ix_tup (qv 0) qe_int (fun _ _ => rfl)) (qv 3)) (qe_op op_quo (qe_ix ix_tup (qv 1) qe_int (fun _ _ => rfl)) (qv 2))) qa_nil star_bin) star_bin)))))) ?_
  obtain ⟨p, rfl, hv⟩ := hv
  obtain ⟨p', rfl, hw⟩ := hw
  have c1 := big_of wr.top (show n ≤ 4000 by omega)
  have c2 := big_of wr.bot (show n ≤ 4000 by omega)
  have c3 := big_of wq.top (show m ≤ 4000 by omega)
  have c4 := big_of wq.bot (show m ≤ 4000 by omega)
  have lp : (0 : Int) < (Int.gcd r.1 q.2 : Nat) := gcd_posR wq.pos
  have lb := gcd_lt (a := r.1) wq.pos c4
  have mp : (0 : Int) < (Int.gcd q.1 r.2 : Nat) := gcd_posR wr.pos
  have mb := gcd_lt (a := q.1) wr.pos c2
  have z := timesG_eq ⟨wr.pos, wr.cop⟩ ⟨wq.pos, wq.cop⟩
  have kk : newR H Q (timesG r q) := by rw [z]; exact k
  unfold timesG at kk
  simp only at kk
  refine ⟨_, rfl, p, _, _, _, rfl, rfl, hv, rfl, _, rfl, p', _, _, _, rfl, rfl, hw, rfl, r.1, q.2, rfl, _, rfl, p', _, _, _, rfl, rfl, hw, rfl, _, rfl, p, _, _, _, rfl, rfl, hv, rfl, q.1, r.2, rfl, ?_⟩
  generalize ((Int.gcd r.1 q.2 : Nat) : Int) = l at lp lb kk ⊢
  generalize ((Int.gcd q.1 r.2 : Nat) : Int) = m' at mp mb kk ⊢
  refine ⟨_, rfl, p, _, _, _, rfl, rfl, hv, rfl, _, rfl, _, _, rfl, rfl, ⟨lp, lb⟩, _, rfl, p', _, _, _, rfl, rfl, hw, rfl, _, rfl, _, _, rfl, rfl, ⟨mp, mb⟩, _, _, rfl, rfl, ⟨div_lt lp c1, div_lt mp c3⟩, _, rfl, p, _, _, _, rfl, rfl, hv, rfl, _, rfl, _, _, rfl, rfl, ⟨mp, mb⟩, _, rfl, p', _, _, _, rfl, rfl, hw, rfl, _, rfl, _, _, rfl, rfl, ⟨lp, lb⟩, _, _, rfl, rfl, ⟨div_lt mp c2, div_lt lp c4⟩, (by show 2 ≤ sizeLine; decide), kk⟩
theorem ok_over (T : Txt K mg t) : FnOk P w K mg base CX0 3 t.a_over t.d_over ["one", "other"] (sp_over K) := by
  refine T.F_over.ok sc_over (fun vs H Q E h => ?_) (fun cdv A outer s H vs Q E hr h => ?_)
  · obtain ⟨_, _, _, _, _, rfl, _⟩ := h; rfl
  obtain ⟨v, w, r, n, m, rfl, hv, ⟨pw, rfl, hw⟩, wr, m0, m24, hn, k⟩ := h
  refine QSs.ok (qss_cons (qs_if (qt_cmpR op_eq (qe_ix ix_tup (qv 1) qe_int (fun _ _ => rfl)) qe_int (nomark _)) (qss_one qs_never) qss_nil)
      (qss_one (qs_ret (qe_call (ok_times T) (hr.mono (by decide)) rfl T.m_times T.F_times.kp T.b_times .nil pass0 (qa_cons (qv 0) (qa_cons (qe_call (ok_ratio T) (hr.mono (by decide)) rfl T.m_ratio T.F_ratio.kp T.b_ratio .nil pass0 (qa_cons (qe_ix ix_tup (qv 1) qe_int (fun _ _ => rfl)) (qa_cons (qe_ix ix_tup (qv 1) qe_int (fun _ _ => rfl)) qa_nil star_sub) star_sub)) qa_nil star_call) star_name))))) ?_
  refine ⟨_, rfl, pw, _, _, _, rfl, rfl, hw, rfl, rfl, _, rfl, iteD0 (fun z => by injection z with z; omega) ?_⟩
  refine ⟨_, rfl, _, rfl, pw, _, _, _, rfl, rfl, hw, rfl, _, rfl, pw, _, _, _, rfl, rfl, hw, rfl, 1, m, rfl, by omega, big_of (n := 5) (by show ((m : Int)).natAbs < 32; omega) (by decide), fun pr hpr => ?_⟩
  have s1 := same_new hpr (.tup [.int (mkR 1 m).1, .int (mkR 1 m).2])
  have rr : RV K _ (.ref pr) (mkR 1 m) := RV.of (upd_same (H := H) (a := pr) (o := .tup [.int (mkR 1 m).1, .int (mkR 1 m).2]))
  rw [mk_one m0] at rr s1 ⊢
  refine ⟨v, .ref pr, r, (1, (m : Int)), n, 5, rfl, hv.mono (Tst.same s1), rr, wr, one_wf m0 m24, by omega, fun pt hpt => ?_⟩
  exact k _ _ (s1.trans (same_new hpt _)) (RV.of upd_same)
theorem ok_total (T : Txt K mg t) : FnOk P w K mg base CX0 3 t.a_total t.d_total ["some"] (sp_total K) := by
  refine T.F_total.ok sc_total (fun vs H Q E h => ?_) (fun cdv A outer s H vs Q E hr h => ?_)
  · obtain ⟨_, _, _, _, rfl, _⟩ := h; rfl
  obtain ⟨a, xs, rs, n, rfl, hS, hR, hW, hlen, hbd, k⟩ := h
  refine QSs.ok (qss_cons (qs_set (i := 1) sc_total.nd rfl (by first | exact Or.inl rfl | exact Or.inr rfl) qe_dnewK)
      (qss_cons (qs_for PassesOwn.never rfl (qi_seq (qv 0)) (qg_name (i := 2) sc_total.nd rfl (by first | exact Or.inl rfl | exact Or.inr rfl))
      (qss_one (qs_dput (hu_of hr) (qv 1) (qe_ix ix_tup (qv 2) qe_int (fun _ _ => rfl)) (qe_op op_add (qe_dget2 (hu_of hr) (qv 1) (qe_ix ix_tup (qv 2) qe_int (fun _ _ => rfl)) qe_int ⟨rfl, rfl, rfl, rfl⟩) (qe_ix ix_tup (qv 2) qe_int (fun _ _ => rfl))) rfl)))
      (qss_cons (qs_set (i := 3) sc_total.nd rfl (by first | exact Or.inl rfl | exact Or.inr rfl) (qe_glob (v := .ref t.c_NOUGHT) rfl T.m_NOUGHT rfl))
      (qss_cons (qs_for PassesOwn.never rfl (qi_items (qv 1)) (qg_tup rfl (qgs_cons (qg_name (i := 4) sc_total.nd rfl (by first | exact Or.inl rfl | exact Or.inr rfl)) (qgs_cons (qg_name (i := 5) sc_total.nd rfl (by first | exact Or.inl rfl | exact Or.inr rfl)) qgs_nil)))
      (qss_one (qs_set (i := 3) sc_total.nd rfl (by first | exact Or.inl rfl | exact Or.inr rfl) (qe_call (ok_plus T) (hr.mono (by decide)) rfl T.m_plus T.F_plus.kp T.b_plus .nil pass0 (qa_cons (qv 3) (qa_cons (qe_call (ok_ratio T) (hr.mono (by decide)) rfl T.m_ratio T.F_ratio.kp T.b_ratio .nil pass0 (qa_cons (qv 5) (qa_cons (qv 4) qa_nil star_name) star_name)) qa_nil star_call) star_name)))))
      (qss_one (qs_ret (qv 3))))))) ?_
  refine fun D hDn => ⟨_, rfl, ?_⟩
  have sD := same_new hDn (.dK [])
  rcases hS with hS | hS
  · refine .inl ⟨a, rfl, ⟨_, sD.seq hS⟩, for_list (K := K) (a := a) (xs := xs) (fun i σ H' => ∃ (x : Option V) (ps : List (Int × Int)), σ = [some (.ref a), some (.ref D), x, none, none, none] ∧ Same H H' ∧ H' D = some (.dK (enc ps)) ∧ PsOk n i ps ∧ sumv ps = vsum (rs.take i)) ⟨none, [], rfl, sD, upd_same, PsOk.nil n, rfl⟩ (fun i σ H1 _ ⟨_, _, _, s1, _⟩ => s1.seq hS) ?_ ?_⟩
    · rintro i y σ H1 hi ⟨x, ps, rfl, s1, hD1, ok, ev⟩
      obtain ⟨ry, hry, hyv⟩ := hR.at hi
      have my : ry ∈ rs := List.mem_of_getElem? hry
      have hil := (List.getElem?_eq_some_iff.mp hry).1
      obtain ⟨py, rfl, hSy⟩ := hyv.mono (Tst.same s1)
      have el : (enc ps).length = ps.length := List.length_map _
      have hlp : (enc ps).length < sizeLine := by rw [el]; exact small1000 (by have := ok.len; omega)
      refine ⟨_, rfl, D, rfl, .inl ⟨_, .inl hD1⟩, _, rfl, py, _, _, _, rfl, rfl, hSy, rfl, _, DGet.k (k := Sum.inl ry.2) hD1, _, rfl, py, _, _, _, rfl, rfl, hSy, rfl, topP ps ry.2, ry.1, get_enc ps ry.2, rfl, _, rfl, _, rfl, py, _, _, _, rfl, rfl, hSy, rfl, D, _, rfl, DPut.k (k := Sum.inl ry.2) hD1 hlp, ?_⟩
      refine ⟨_, addP ps ry.2 ry.1, rfl, fun b o q => ?_, ?_, ok.add (hW ry my), ?_⟩
      · rw [upd_ne (ne_of_none q hDn)]
        exact s1 b o q
      · rw [put_enc ps _ _ ok.nd]
        exact upd_same
      · rw [sumv_add, ev, List.take_add_one, hry]
        exact (vsum_snoc _ _).symm
    · rintro σ H1 ⟨x, ps, rfl, s1, hD1, ok, ev⟩
      rw [hR.1, List.take_length] at ev
      rw [hR.1] at ok
      refine ⟨_, rfl, D, enc ps, rfl, hD1, fun ob => for_items (d := D) (ob := ob) (kvs := enc ps) (fun j σ H' => ∃ (u : V) (acc : R) (y4 y5 : Option V), σ = [some (.ref a), some (.ref D), x, some u, y4, y5] ∧ Same H H' ∧ H' D = some (.frz ob (.dK (enc ps))) ∧ RV K H' u acc ∧ Wf (1 + (n + 9) * j) acc ∧ val acc = sumv (ps.take j)) ⟨_, (0, 1), none, none, rfl, ?_, upd_same, ⟨_, rfl, T.q_NOUGHT _⟩, zero_wf, val_nought⟩ (fun i σ H1 ⟨_, _, _, _, _, _, z, _⟩ => z) ?_ ?_⟩
      · intro b o q
        rw [upd_ne (ne_of_none q hDn)]
        exact s1 b o q
      · rintro j kk v p σ H2 hkv ⟨u, acc, y4, y5, rfl, s2, hD2, r2, w2, ev2⟩ hp
        have hkv' : (ps.map fun p => ((Sum.inl p.1 : Key), V.int p.2))[j]? = some (kk, v) := hkv
        rw [List.getElem?_map] at hkv'
        obtain ⟨q, hq, e⟩ := Option.map_eq_some_iff.mp hkv'
        cases e
        have mq := List.mem_of_getElem? hq
        have hjl := (List.getElem?_eq_some_iff.mp hq).1
        have wq := ok.wf hlen mq
        have bq := ok.bot q mq
        have e1 := same_new hp (.tup [kV (Sum.inl q.1), V.int q.2])
        refine ⟨p, _, rfl, SqT.of upd_same, rfl, _, _, rfl, _, _, rfl, rfl, ?_⟩
        have lj : (n + 9) * (j + 1) ≤ (n + 9) * rs.length := Nat.mul_le_mul_left _ (by have := ok.len; omega)
        rw [Nat.mul_succ] at lj hbd
        refine ⟨_, rfl, _, rfl, _, rfl, q.2, q.1, rfl, bq.1, big_of bq.2 (by omega), fun p1 g1 => ?_⟩
        have e2 := same_new g1 (.tup [.int (mkR q.2 q.1).1, .int (mkR q.2 q.1).2])
        refine ⟨u, .ref p1, acc, mkR q.2 q.1, 1 + (n + 9) * j, n + 8, rfl, (r2.mono (Tst.same e1)).mono (Tst.same e2), RV.of upd_same, w2, wq, by omega, fun p2 g2 => ?_⟩
        have e3 := same_new g2 (.tup [.int (plusR acc (mkR q.2 q.1)).1, .int (plusR acc (mkR q.2 q.1)).2])
        have s3 := ((e1.trans e2).trans e3)
        refine ⟨_, plusR acc (mkR q.2 q.1), _, _, rfl, s2.trans s3, s3 _ _ hD2, RV.of upd_same, (plus_wf w2 wq).mono (by rw [Nat.mul_succ]; omega), ?_⟩
        rw [val_plus w2.pos wq.pos, val_mk bq.1, ev2, List.take_add_one, hq]
        exact (sumv_snoc _ _).symm
      · rintro σ H2 ⟨u, acc, y4, y5, rfl, s2, hD2, r2, w2, ev2⟩
        have el : (enc ps).length = ps.length := List.length_map _
        rw [el, List.take_length] at ev2
        have es := sum_is (fun r hr => (hW r hr).red) w2.red (ev2.trans ev)
        rw [es] at r2
        exact ⟨_, rfl, k u H2 s2 r2⟩
  · refine .inr ⟨a, rfl, ⟨_, Tst.same sD _ _ hS⟩, for_tup (K := K) (a := a) (xs := xs) (fun i σ H' => ∃ (x : Option V) (ps : List (Int × Int)), σ = [some (.ref a), some (.ref D), x, none, none, none] ∧ Same H H' ∧ H' D = some (.dK (enc ps)) ∧ PsOk n i ps ∧ sumv ps = vsum (rs.take i)) ⟨none, [], rfl, sD, upd_same, PsOk.nil n, rfl⟩ (fun i σ H1 _ ⟨_, _, _, s1, _⟩ => Tst.same s1 _ _ hS) ?_ ?_⟩
    · rintro i y σ H1 hi ⟨x, ps, rfl, s1, hD1, ok, ev⟩
      obtain ⟨ry, hry, hyv⟩ := hR.at hi
      have my : ry ∈ rs := List.mem_of_getElem? hry
      have hil := (List.getElem?_eq_some_iff.mp hry).1
      obtain ⟨py, rfl, hSy⟩ := hyv.mono (Tst.same s1)
      have el : (enc ps).length = ps.length := List.length_map _
      have hlp : (enc ps).length < sizeLine := by rw [el]; exact small1000 (by have := ok.len; omega)
      refine ⟨_, rfl, D, rfl, .inl ⟨_, .inl hD1⟩, _, rfl, py, _, _, _, rfl, rfl, hSy, rfl, _, DGet.k (k := Sum.inl ry.2) hD1, _, rfl, py, _, _, _, rfl, rfl, hSy, rfl, topP ps ry.2, ry.1, get_enc ps ry.2, rfl, _, rfl, _, rfl, py, _, _, _, rfl, rfl, hSy, rfl, D, _, rfl, DPut.k (k := Sum.inl ry.2) hD1 hlp, ?_⟩
      refine ⟨_, addP ps ry.2 ry.1, rfl, fun b o q => ?_, ?_, ok.add (hW ry my), ?_⟩
      · rw [upd_ne (ne_of_none q hDn)]
        exact s1 b o q
      · rw [put_enc ps _ _ ok.nd]
        exact upd_same
      · rw [sumv_add, ev, List.take_add_one, hry]
        exact (vsum_snoc _ _).symm
    · rintro σ H1 ⟨x, ps, rfl, s1, hD1, ok, ev⟩
      rw [hR.1, List.take_length] at ev
      rw [hR.1] at ok
      refine ⟨_, rfl, D, enc ps, rfl, hD1, fun ob => for_items (d := D) (ob := ob) (kvs := enc ps) (fun j σ H' => ∃ (u : V) (acc : R) (y4 y5 : Option V), σ = [some (.ref a), some (.ref D), x, some u, y4, y5] ∧ Same H H' ∧ H' D = some (.frz ob (.dK (enc ps))) ∧ RV K H' u acc ∧ Wf (1 + (n + 9) * j) acc ∧ val acc = sumv (ps.take j)) ⟨_, (0, 1), none, none, rfl, ?_, upd_same, ⟨_, rfl, T.q_NOUGHT _⟩, zero_wf, val_nought⟩ (fun i σ H1 ⟨_, _, _, _, _, _, z, _⟩ => z) ?_ ?_⟩
      · intro b o q
        rw [upd_ne (ne_of_none q hDn)]
        exact s1 b o q
      · rintro j kk v p σ H2 hkv ⟨u, acc, y4, y5, rfl, s2, hD2, r2, w2, ev2⟩ hp
        have hkv' : (ps.map fun p => ((Sum.inl p.1 : Key), V.int p.2))[j]? = some (kk, v) := hkv
        rw [List.getElem?_map] at hkv'
        obtain ⟨q, hq, e⟩ := Option.map_eq_some_iff.mp hkv'
        cases e
        have mq := List.mem_of_getElem? hq
        have hjl := (List.getElem?_eq_some_iff.mp hq).1
        have wq := ok.wf hlen mq
        have bq := ok.bot q mq
        have e1 := same_new hp (.tup [kV (Sum.inl q.1), V.int q.2])
        refine ⟨p, _, rfl, SqT.of upd_same, rfl, _, _, rfl, _, _, rfl, rfl, ?_⟩
        have lj : (n + 9) * (j + 1) ≤ (n + 9) * rs.length := Nat.mul_le_mul_left _ (by have := ok.len; omega)
        rw [Nat.mul_succ] at lj hbd
        refine ⟨_, rfl, _, rfl, _, rfl, q.2, q.1, rfl, bq.1, big_of bq.2 (by omega), fun p1 g1 => ?_⟩
        have e2 := same_new g1 (.tup [.int (mkR q.2 q.1).1, .int (mkR q.2 q.1).2])
        refine ⟨u, .ref p1, acc, mkR q.2 q.1, 1 + (n + 9) * j, n + 8, rfl, (r2.mono (Tst.same e1)).mono (Tst.same e2), RV.of upd_same, w2, wq, by omega, fun p2 g2 => ?_⟩
        have e3 := same_new g2 (.tup [.int (plusR acc (mkR q.2 q.1)).1, .int (plusR acc (mkR q.2 q.1)).2])
        have s3 := ((e1.trans e2).trans e3)
        refine ⟨_, plusR acc (mkR q.2 q.1), _, _, rfl, s2.trans s3, s3 _ _ hD2, RV.of upd_same, (plus_wf w2 wq).mono (by rw [Nat.mul_succ]; omega), ?_⟩
        rw [val_plus w2.pos wq.pos, val_mk bq.1, ev2, List.take_add_one, hq]
        exact (sumv_snoc _ _).symm
      · rintro σ H2 ⟨u, acc, y4, y5, rfl, s2, hD2, r2, w2, ev2⟩
        have el : (enc ps).length = ps.length := List.length_map _
        rw [el, List.take_length] at ev2
        have es := sum_is (fun r hr => (hW r hr).red) w2.red (ev2.trans ev)
        rw [es] at r2
        exact ⟨_, rfl, k u H2 s2 r2⟩
theorem ok_whole_parts (T : Txt K mg t) : FnOk P w K mg base CX0 2 t.a_whole_parts t.d_whole_parts ["some"] (sp_whole_parts K) := by
  refine T.F_whole_parts.ok sc_whole_parts (fun vs H Q E h => ?_) (fun cdv A outer s H vs Q E hr h => ?_)
  · obtain ⟨_, _, _, rfl, _⟩ := h; rfl
  obtain ⟨a, xs, ws, rfl, hS, al, hn, ok, k⟩ := h
  refine QSs.ok (qss_cons (qs_set (i := 1) sc_whole_parts.nd rfl (by first | exact Or.inl rfl | exact Or.inr rfl) qe_int)
      (qss_cons (qs_for PassesOwn.never rfl (qi_list (qv 0)) (qg_name (i := 2) sc_whole_parts.nd rfl (by first | exact Or.inl rfl | exact Or.inr rfl))
      (qss_one (qs_set (i := 1) sc_whole_parts.nd rfl (by first | exact Or.inl rfl | exact Or.inr rfl) (qe_op op_mul (qv 1) (qe_op op_fdiv (qe_ix ix_tup (qv 2) qe_int (fun _ _ => rfl)) (qe_call (ok_greatest_divisor T) (hr.mono (by decide)) rfl T.m_greatest_divisor T.F_greatest_divisor.kp T.b_greatest_divisor .nil pass0 (qa_cons (qv 1) (qa_cons (qe_ix ix_tup (qv 2) qe_int (fun _ _ => rfl)) qa_nil star_sub) star_name)))))))
      (qss_one (qs_ret (qe_lcomp (N' := ["one", "bottom"]) (src := [none, some 1]) rfl (by exact (qi_list (qv 0))) (fun _ _ _ _ _ => (by exact (by exact qg_name (i := 0) (by show List.Nodup (["one", "bottom"] : List Str); decide +kernel) (by exact rfl) (by first | exact Or.inl rfl | exact Or.inr rfl)))) (fun _ _ _ _ _ => qts_nil) (fun _ _ _ _ _ => (by exact (by exact (qe_op op_mul (by exact (qe_ix (ix_tupK (K := K) (by exact rfl)) (by exact (qv 0)) qe_int (by exact fun _ _ => rfl))) (by exact (qe_op op_fdiv (by exact (qv 1)) (by exact (qe_ix (ix_tupK (K := K) (by exact rfl)) (by exact (qv 0)) qe_int (by exact fun _ _ => rfl))))))))) (by exact ⟨rfl, rfl, rfl, rfl, trivial⟩) rfl (by decide +kernel) rfl (by decide +kernel) (by exact cells_of rfl ⟨rfl, trivial⟩)))))) ?_
  have hlen := al.len
  rw [List.length_map] at hlen
  refine ⟨_, rfl, a, rfl, ⟨_, hS⟩, for_list (K := K) (a := a) (xs := xs) (fun i σ H' => ∃ (B : Int) (x3 : Option V), σ = [some (.ref a), some (.int B), x3] ∧ H' = H ∧ 0 < B ∧ B ∣ 84 ∧ ∀ w ∈ ws.take i, w.2.2.2 ∣ B) ⟨1, none, rfl, rfl, by decide, ⟨84, rfl⟩, by simp⟩ (fun i σ H1 _ ⟨_, _, _, e, _⟩ => by rw [e]; exact hS) ?_ ?_⟩
  · rintro i x σ H1 hx ⟨B, x3, rfl, rfl, b0, bd, all⟩
    obtain ⟨r, hr, px, rfl, hSx⟩ := al.at hx
    rw [List.getElem?_map] at hr
    obtain ⟨w, hw, er⟩ := Option.map_eq_some_iff.mp hr
    subst er
    have okw := ok w (List.mem_of_getElem? hw)
    have c1 := okw.am.bot
    have c2 := okw.am.bot'
    have B84 := Int.le_of_dvd (by decide) bd
    have g0 : 0 < (Int.gcd B w.2.2.2 : Int) := gcd_posR (by omega)
    have g1 : (Int.gcd B w.2.2.2 : Int) ≤ w.2.2.2 := Int.le_of_dvd (by omega) (Int.gcd_dvd_right _ _)
    obtain ⟨l0, l1, l2, l3⟩ := lcm_step b0 (show 0 < w.2.2.2 by omega) bd okw.am.dvd
    refine ⟨_, rfl, _, rfl, px, _, _, _, rfl, rfl, hSx, rfl, _, rfl, _, rfl, px, _, _, _, rfl, rfl, hSx, rfl, B, w.2.2.2, rfl, _, _, rfl, rfl, ⟨by omega, by omega⟩, _, _, rfl, rfl, .inl ⟨by omega, by omega⟩, ?_⟩
    refine ⟨_, _, rfl, rfl, l0, l1, fun z hz => ?_⟩
    rw [List.take_add_one, hw] at hz
    rcases List.mem_append.mp hz with h | h
    · exact Int.dvd_trans (all z h) l2
    · have : z = w := by simpa using h
      subst this
      exact l3
  · rintro σ H1 ⟨B, x3, rfl, rfl, b0, bd, all⟩
    rw [hlen, List.take_length] at all
    have B84 := Int.le_of_dvd (by decide) bd
    refine ⟨_, rfl, a, rfl, ⟨_, hS⟩, fun D hD => comp_ix (wlk_lst hS) (fun _ => true) (fun i => V.int ((partsM B ws).getD i 0)) hD (by omega) (fun i x H' hi s' hx R E kR kE => ?_) fun H4 s4 h4 => ?_⟩
    · obtain ⟨r, hr, px, rfl, hSx⟩ := al.at hx
      rw [List.getElem?_map] at hr
      obtain ⟨w, hw, er⟩ := Option.map_eq_some_iff.mp hr
      subst er
      have okw := ok w (List.mem_of_getElem? hw)
      have t' := Tst.same (K := K) s'
      have e : (partsM B ws).getD i 0 = w.2.2.1 * (B / w.2.2.2) := getD_of 0 (by unfold partsM; rw [List.getElem?_map, hw]; rfl)
      have q := kR rfl _ (Same.refl _)
      rw [e] at q
      have := okw.am.bot
      have := okw.am.bot'
      have := okw.am.top
      have := okw.am.top'
      exact ⟨Ext.set rfl, _, rfl, px, _, _, _, rfl, rfl, t' _ _ hSx, rfl, _, rfl, _, rfl, px, _, _, _, rfl, rfl, t' _ _ hSx, rfl, _, _, rfl, rfl, ⟨by omega, by omega⟩, _, _, rfl, rfl, .inl ⟨by omega, by omega⟩, q⟩
    · refine k D B H4 s4 hD b0 bd all ?_
      rw [h4, show xs.length = (partsM B ws).length by unfold partsM; rw [List.length_map]; exact hlen, by_place_all 0 V.int]
theorem ok_in_window (T : Txt K mg t) : FnOk P w K mg base CX0 1 t.a_in_window t.d_in_window ["work", "turn"] (sp_in_window K) := by
  refine T.F_in_window.ok sc_in_window (fun vs H Q E h => ?_) (fun cdv A outer s H vs Q E hr h => ?_)
  · obtain ⟨_, _, _, rfl, _⟩ := h; rfl
  obtain ⟨v, w, t₀, rfl, ⟨p, x, rfl, hS, rx⟩, k⟩ := h
  refine QSs.ok (qss_one (qs_ret (qe_chain op_le op_le (qe_ix ix_tup (qv 0) qe_int (fun _ _ => rfl)) (qv 1) (qe_ix ix_tup (qv 0) qe_int (fun _ _ => rfl))))) ?_
  refine ⟨_, rfl, p, _, _, _, rfl, rfl, hS, rfl, _, rfl, _, _, rfl, rfl, _, rfl, ?_⟩
  by_cases c : w.1 ≤ t₀
  · refine iteD1 (by omega) ?_
    have e : inW w t₀ = decide ((t₀ : Int) ≤ (w.2.1 : Int)) := by
      unfold inW
      rw [decide_eq_true c, Bool.true_and]
      exact decide_eq_decide.mpr (by omega)
    rw [e] at k
    exact ⟨_, rfl, p, _, _, _, rfl, rfl, hS, rfl, _, _, rfl, rfl, k⟩
  · refine iteD0 (by omega) ?_
    have e : inW w t₀ = false := by
      unfold inW
      rw [decide_eq_false c, Bool.false_and]
    rw [e] at k
    exact k
theorem ok_kept_windows (T : Txt K mg t) : FnOk P w K mg base CX0 2 t.a_kept_windows t.d_kept_windows ["works", "left"] (sp_kept_windows K) := by
  refine T.F_kept_windows.ok sc_kept_windows (fun vs H Q E h => ?_) (fun cdv A outer s H vs Q E hr h => ?_)
  · obtain ⟨_, _, _, _, rfl, _⟩ := h; rfl
  obtain ⟨v, q, ws, ls, rfl, ⟨p, xs, rfl, hS, al⟩, hw, hq, hl, k⟩ := h
  refine QSs.ok (qss_cons (qs_set (i := 2) sc_kept_windows.nd rfl (by first | exact Or.inl rfl | exact Or.inr rfl) (qe_lst qa_nil))
      (qss_cons (qs_for PassesOwn.never rfl (qi_tup (qv 0)) (qg_name (i := 3) sc_kept_windows.nd rfl (by first | exact Or.inl rfl | exact Or.inr rfl))
      (qss_cons (qs_setC (i := 4) (N' := ["place", "turn", "work"]) (src := [none, none, some 3]) sc_kept_windows.nd rfl (by first | exact Or.inl rfl | exact Or.inr rfl) rfl (by exact (qi_enum rfl T.z_enumerate (qa_cons (qv 1) qa_nil star_name))) (fun _ _ _ _ _ => (by exact (by exact qg_tupK (K := K) (n := 2) (by exact rfl) (by exact rfl) (by exact qgs_cons (by exact qg_name (i := 0) (by show List.Nodup (["place", "turn", "work"] : List Str); decide +kernel) (by exact rfl) (by first | exact Or.inl rfl | exact Or.inr rfl)) (by exact qgs_cons (by exact qg_name (i := 1) (by show List.Nodup (["place", "turn", "work"] : List Str); decide +kernel) (by exact rfl) (by first | exact Or.inl rfl | exact Or.inr rfl)) qgs_nil))))) (fun _ _ _ _ _ => (qts_one (qt_val (by exact (qe_call (ok_in_window T) (by exact hr.mono (by decide)) (by exact rfl) T.m_in_window T.F_in_window.kp T.b_in_window (by exact .nil) (by exact pass0) (qa_cons (by exact (qv 2)) (qa_cons (by exact (qv 1)) qa_nil star_name) star_name)))))) (fun _ _ _ _ _ => (by exact (by exact (qv 0)))) (by exact ⟨rfl, rfl, rfl, rfl, trivial⟩) rfl (by decide +kernel) rfl (by decide +kernel) (by exact cells_of rfl ⟨rfl, trivial⟩))
      (qss_one (qs_expr (qe_bm PySem.F.plainAttrs_list PySem.F.slot_list_append PySem.F.type_list_append mt_append (qv 2) (qa_cons (qe_ifExp (qt_cmpR op_gt (qe_callB call_len_seq (by rfl) T.z_len PySem.boot_len (qa_cons (qv 4) qa_nil star_name)) qe_int (nomark _)) (qe_tup (qa_cons (qe_ix ix_list (qv 4) qe_int (fun _ _ => rfl)) (qa_cons (qe_ix ix_list (qv 4) (qe_un un_neg qe_int) (fun _ _ => rfl)) qa_nil star_sub) star_sub)) qe_non) qa_nil star_if))))))
      (qss_one (qs_ret (qv 2))))) ?_
  have hlen := al.len
  refine ⟨(by show 0 ≤ sizeLine; exact Nat.zero_le _), fun l h0 => ?_⟩
  have s0 := same_new h0 (.lst [])
  refine ⟨_, rfl, p, rfl, ⟨_, Tst.same (K := K) s0 _ _ hS⟩, for_tup (K := K) (a := p) (xs := xs) (fun i σ H' => ∃ (ys : List V) (x4 x5 : Option V), σ = [some (.ref p), some (.ref q), some (.ref l), x4, x5] ∧ Same H H' ∧ H' l = some (.lst ys) ∧ Als (OptW K H') ys ((ws.take i).map (winM ls))) ⟨[], none, none, rfl, s0, upd_same, .nil⟩ (fun i σ H1 _ ⟨_, _, _, _, sm, _⟩ => Tst.same sm _ _ hS) ?_ ?_⟩
  · rintro i x σ H1 hx ⟨ys, x4, x5, rfl, s1, hl1, al1⟩
    obtain ⟨w, hwi, wv⟩ := al.at hx
    have hq1 := Tst.same (K := K) s1 _ _ hq
    have nl : (natV ls).length = ls.length := List.length_map _
    refine ⟨_, rfl, q, rfl, ⟨_, hq1⟩, fun D hD => comp_ix (wlk_enT hq1) (fun i => inW w (ls.getD i 0)) (fun i => V.int i) hD (by omega) (fun j y H' hj s' hy R E kR kE => ?_) fun H4 s4 h4 => ?_⟩
    · obtain ⟨pt, z, rfl, hz, hpt⟩ := hy
      obtain ⟨z', hz', rfl⟩ : ∃ z', ls[j]? = some z' ∧ V.int (z' : Nat) = z := by
        unfold natV at hz
        rw [List.getElem?_map] at hz
        exact Option.map_eq_some_iff.mp hz
      rw [getD_of 0 hz'] at kR kE
      refine ⟨pt, _, rfl, SqT.of hpt, rfl, _, _, rfl, _, _, rfl, rfl, (Ext.set rfl).set' rfl, ?_⟩
      refine ⟨_, rfl, _, rfl, x, w, z', rfl, wv.mono (Tst.same (s1.trans s')), _, rfl, ?_⟩
      cases c : inW w z' with
      | true => exact iteT ⟨_, rfl, kR c _ (Same.refl _)⟩
      | false => exact iteF (kE c _ (Same.refl _))
    rw [nl] at h4
    replace h4 : H4 D = some (.lst ((plsM ls w).map fun i : Nat => V.int i)) := h4
    have hl4 := s4 _ _ hl1
    have ne : D ≠ l := fun z => by subst z; rw [hl1] at hD; cases hD
    have hle := al1.len
    rw [List.length_map, List.length_take] at hle
    have ewi : (ws.take (i + 1)).map (winM ls) = (ws.take i).map (winM ls) ++ [winM ls w] := by
      rw [List.take_add_one, hwi, List.map_append]; rfl
    refine ⟨_, rfl, .inl ⟨rfl, _, SqL.of hl4⟩, _, rfl, D, _, rfl, .inl (SqL.of h4), _, _, rfl, rfl, _, rfl, ?_⟩
    cases c : plsM ls w with
    | nil =>
      rw [c] at h4
      refine iteF ?_
      refine ⟨l, _, _, rfl, rfl, hl4, small1000 (by omega), ?_⟩
      refine ⟨_, _, _, rfl, ?_, upd_same, ?_⟩
      · intro b o e
        rw [upd_ne (ne_of_none e h0)]
        exact s4 _ _ (s1 _ _ e)
      · rw [ewi]
        refine (al1.mono fun v d m => m.mono ((Tst.same s4).trans (Tst.up hl4 _))).snoc ?_
        unfold winM
        rw [c]
        rfl
    | cons a r =>
      rw [c] at h4
      refine iteD1 (by show (0 : Int) < ((List.map (fun i : Nat => V.int i) (a :: r)).length : Int); rw [List.length_map, List.length_cons]; omega) ?_
      have hlast : atI ((a :: r).map fun i : Nat => V.int i) (-1) = some (.int ((a :: r).getLast (by simp) : Nat)) := by
        have e := List.dropLast_concat_getLast (show (a :: r) ≠ [] by simp)
        have e2 : (a :: r).map (fun i : Nat => V.int i) = (a :: r).dropLast.map (fun i : Nat => V.int i) ++ [V.int ((a :: r).getLast (by simp) : Nat)] := by
          conv => lhs; rw [← e]
          rw [List.map_append]; rfl
        rw [e2]
        exact atI_last _ _
      have hfst : atI ((a :: r).map fun i : Nat => V.int i) 0 = some (.int (a : Nat)) := atI_nat (j := 0) rfl
      refine ⟨_, rfl, D, _, _, _, rfl, rfl, SqL.of h4, hfst, _, rfl, _, rfl, D, _, _, _, rfl, rfl, SqL.of h4, hlast, (by show 2 ≤ sizeLine; decide), fun pt hpt => ?_⟩
      have s5 := same_new hpt (.tup [.int a, .int ((a :: r).getLast (by simp) : Nat)])
      have hl5 := s5 _ _ hl4
      refine ⟨l, _, _, rfl, rfl, hl5, small1000 (by omega), ?_⟩
      refine ⟨_, _, _, rfl, ?_, upd_same, ?_⟩
      · intro b o e
        rw [upd_ne (ne_of_none e h0)]
        exact s5 _ _ (s4 _ _ (s1 _ _ e))
      · rw [ewi]
        refine (al1.mono fun v d m => m.mono (((Tst.same s4).trans (Tst.same s5)).trans (Tst.up hl5 _))).snoc ?_
        unfold winM
        rw [c]
        exact ⟨pt, rfl, Tst.up (K := K) hl5 _ _ _ (SqT.of upd_same)⟩
  · rintro σ H1 ⟨ys, x4, x5, rfl, s1, hl1, al1⟩
    rw [hlen, List.take_length] at al1
    exact ⟨_, rfl, k l ys H1 s1 h0 hl1 al1⟩
theorem ok_held (T : Txt K mg t) : FnOk P w K mg base CX0 1 t.a_held t.d_held ["windows", "begin", "end"] (sp_held K) := by
  refine T.F_held.ok sc_held (fun vs H Q E h => ?_) (fun cdv A outer s H vs Q E hr h => ?_)
  · obtain ⟨_, _, _, _, rfl, _⟩ := h; rfl
  obtain ⟨l, xs, os, p, rfl, hS, al, hn, k⟩ := h
  refine QSs.ok (qss_one (qs_ret (qe_lcomp (N' := ["number", "window", "begin", "end"]) (src := [none, none, some 1, some 2]) rfl (by exact (qi_enumL rfl T.z_enumerate (qa_cons (qv 0) qa_nil star_name))) (fun _ _ _ _ _ => (by exact (by exact qg_tupK (K := K) (n := 2) (by exact rfl) (by exact rfl) (by exact qgs_cons (by exact qg_name (i := 0) (by show List.Nodup (["number", "window", "begin", "end"] : List Str); decide +kernel) (by exact rfl) (by first | exact Or.inl rfl | exact Or.inr rfl)) (by exact qgs_cons (by exact qg_name (i := 1) (by show List.Nodup (["number", "window", "begin", "end"] : List Str); decide +kernel) (by exact rfl) (by first | exact Or.inl rfl | exact Or.inr rfl)) qgs_nil))))) (fun _ _ _ _ _ => (qts_one (qw_pt (qw_and (qt_cmpR op_notN (by exact (qv 1)) qe_non (nomark _)) (qw_and (qt_cmpR op_le (by exact (qv 2)) (by exact (qe_ix (ix_tupK (K := K) (by exact rfl)) (by exact (qv 1)) qe_int (by exact fun _ _ => rfl))) (nomark _)) (qw_and1 (qt_cmpR op_le (by exact (qe_ix (ix_tupK (K := K) (by exact rfl)) (by exact (qv 1)) qe_int (by exact fun _ _ => rfl))) (by exact (qv 3)) (nomark _)))))))) (fun _ _ _ _ _ => (by exact (by exact (qv 0)))) (by exact ⟨rfl, rfl, rfl, rfl, ⟨rfl, rfl, rfl, rfl, trivial⟩⟩) rfl (by decide +kernel) rfl (by decide +kernel) (by exact cells_of rfl ⟨rfl, ⟨rfl, trivial⟩⟩)))) ?_
  have hlen := al.len
  refine ⟨_, rfl, l, rfl, ⟨_, hS⟩, fun D hD => comp_ix (wlk_enL hS) (fun i => holdB p.1 p.2 (os.getD i none)) (fun i => V.int i) hD (by omega) (fun i y H' hi s' hx R E kR kE => ?_) fun H4 s4 h4 => ?_⟩
  · obtain ⟨pt, x, rfl, hx, hpt⟩ := hx
    obtain ⟨o, ho, ow⟩ := al.at hx
    have eo : os.getD i none = o := getD_of none ho
    rw [eo] at kR kE
    refine ⟨pt, _, rfl, SqT.of hpt, rfl, _, _, rfl, _, _, rfl, rfl, (Ext.set rfl).set' rfl, ?_⟩
    cases o with
    | none =>
      obtain rfl : x = .non := ow
      exact ⟨_, rfl, rfl, _, rfl, iteF (iteF (kE rfl _ (Same.refl _)))⟩
    | some q =>
      obtain ⟨pw, rfl, hw⟩ := ow
      have hw' := Tst.same (K := K) s' _ _ hw
      refine ⟨_, rfl, rfl, _, rfl, iteT ?_⟩
      refine ⟨_, rfl, _, rfl, pw, _, _, _, rfl, rfl, hw', rfl, _, _, rfl, rfl, _, rfl, ?_⟩
      by_cases c : p.1 ≤ q.1
      · refine iteD1 (by omega) ?_
        refine ⟨_, rfl, pw, _, _, _, rfl, rfl, hw', rfl, _, rfl, _, _, rfl, rfl, _, rfl, ?_⟩
        by_cases c' : q.2 ≤ p.2
        · refine iteD1 (by omega) ?_
          exact ⟨_, rfl, kR (by show (decide (p.1 ≤ q.1) && decide (q.2 ≤ p.2)) = true; rw [decide_eq_true c, decide_eq_true c']; rfl) _ (Same.refl _)⟩
        · refine iteD0 (by omega) ?_
          exact kE (by show (decide (p.1 ≤ q.1) && decide (q.2 ≤ p.2)) = false; rw [decide_eq_false c', Bool.and_false]) _ (Same.refl _)
      · refine iteD0 (by omega) (iteF ?_)
        exact kE (by show (decide (p.1 ≤ q.1) && decide (q.2 ≤ p.2)) = false; rw [decide_eq_false c, Bool.false_and]) _ (Same.refl _)
  · refine k D H4 s4 hD ?_
    rw [h4, hlen]
    rfl
theorem ok_tightest_places (T : Txt K mg t) : FnOk P w K mg base CX0 2 t.a_tightest_places t.d_tightest_places ["windows", "amounts", "count"] (sp_tightest_places K) := by
  refine T.F_tightest_places.ok sc_tightest_places (fun vs H Q E h => ?_) (fun cdv A outer s H vs Q E hr h => ?_)
  · obtain ⟨_, _, _, _, _, _, rfl, _⟩ := h; rfl
  obtain ⟨l, a, xs, os, as, n, rfl, hS, al, hn, ha, hlen, hb, n1, n24, k⟩ := h
  refine QSs.ok (qss_cons (qs_set (i := 3) sc_tightest_places.nd rfl (by first | exact Or.inl rfl | exact Or.inr rfl) (qe_tup (qa_cons qe_int (qa_cons qe_int qa_nil star_con) star_con)))
      (qss_cons (qs_set (i := 4) sc_tightest_places.nd rfl (by first | exact Or.inl rfl | exact Or.inr rfl) (qe_un un_neg qe_int))
      (qss_cons (qs_set (i := 5) sc_tightest_places.nd rfl (by first | exact Or.inl rfl | exact Or.inr rfl) qe_int)
      (qss_cons (qs_for PassesOwn.never rfl (qi_range1 rfl T.z_range (qa_cons (qv 2) qa_nil star_name)) (qg_name (i := 6) sc_tightest_places.nd rfl (by first | exact Or.inl rfl | exact Or.inr rfl))
      (qss_one (qs_for PassesOwn.never rfl (qi_range3 rfl T.z_range (qa_cons (qe_op op_sub (qv 2) qe_int) (qa_cons (qe_op op_sub (qv 6) qe_int) (qa_cons (qe_un un_neg qe_int) qa_nil star_un) star_bin) star_bin)) (qg_name (i := 7) sc_tightest_places.nd rfl (by first | exact Or.inl rfl | exact Or.inr rfl))
      (qss_cons (qs_set (i := 8) sc_tightest_places.nd rfl (by first | exact Or.inl rfl | exact Or.inr rfl) (qe_callB (call_sumL rfl) (by rfl) T.z_sum PyProof.Rows.boot_sum (qa_cons (qe_lcomp (N' := ["number", "amounts"]) (src := [none, some 1]) rfl (by exact (qi_list (qe_call (ok_held T) (hr.mono (by decide)) rfl T.m_held T.F_held.kp T.b_held .nil pass0 (qa_cons (qv 0) (qa_cons (qv 6) (qa_cons (qv 7) qa_nil star_name) star_name) star_name)))) (fun _ _ _ _ _ => (by exact (by exact qg_name (i := 0) (by show List.Nodup (["number", "amounts"] : List Str); decide +kernel) (by exact rfl) (by first | exact Or.inl rfl | exact Or.inr rfl)))) (fun _ _ _ _ _ => qts_nil) (fun _ _ _ _ _ => (by exact (by exact (qe_ix (ix_listK (K := K) (by exact rfl)) (by exact (qv 1)) (by exact (qv 0)) (by exact fun _ _ => rfl))))) (by exact ⟨rfl, rfl, rfl, rfl, trivial⟩) rfl (by decide +kernel) rfl (by decide +kernel) (by exact cells_of rfl ⟨rfl, trivial⟩)) qa_nil star_lc)))
      (qss_cons (qs_set (i := 9) sc_tightest_places.nd rfl (by first | exact Or.inl rfl | exact Or.inr rfl) (qe_op op_add (qe_op op_sub (qv 7) (qv 6)) qe_int))
      (qss_one (qs_if (qt_cmpR op_gt (qe_op op_mul (qv 8) (qv 5)) (qe_op op_mul (qv 4) (qv 9)) (nomark _)) (qss_cons (qs_set (i := 3) sc_tightest_places.nd rfl (by first | exact Or.inl rfl | exact Or.inr rfl) (qe_tup (qa_cons (qv 6) (qa_cons (qv 7) qa_nil star_name) star_name)))
      (qss_cons (qs_set (i := 4) sc_tightest_places.nd rfl (by first | exact Or.inl rfl | exact Or.inr rfl) (qv 8))
      (qss_one (qs_set (i := 5) sc_tightest_places.nd rfl (by first | exact Or.inl rfl | exact Or.inr rfl) (qv 9))))) qss_nil)))))))
      (qss_one (qs_ret (qv 3))))))) ?_
  have hxl := al.len
  have LB := fun q => load_bd hb hn q
  generalize hL : loadM os (amF as) = L at LB k
  refine ⟨(by show 2 ≤ sizeLine; decide), fun p0 h0 => ?_⟩
  have s0 := same_new h0 (.tup [.int 0, .int 0])
  refine ⟨_, rfl, _, rfl, n, rfl, by omega, by omega, for_range (lo := 0) (n := (n : Int).toNat) (fun i σ H' => ∃ (vb : Addr) (ld ln : Int) (x7 x8 x9 x10 : Option V), σ = [some (.ref l), some (.ref a), some (.int n), some (.ref vb), some (.int ld), some (.int ln), x7, x8, x9, x10] ∧ Same H H' ∧ BestAt K H' (SeenD n i n) L vb ld ln) ⟨p0, -1, 1, none, none, none, none, rfl, s0, .inl ⟨rfl, rfl, fun r hr => ?_⟩⟩ ?_ ?_⟩
  · unfold SeenD Sec at hr; omega
  · rintro i σ H1 hi ⟨vb, ld, ln, x7, x8, x9, x10, rfl, s1, best⟩
    have hin : i < n := by omega
    rw [Int.zero_add]
    refine ⟨_, rfl, _, _, rfl, rfl, _, rfl, _, _, rfl, rfl, _, rfl, _, _, rfl, ⟨by omega, by omega, by omega, by omega⟩, for_down (hi := (n : Int) - 1) (n := ((n : Int) - 1 - ((i : Int) - 1)).toNat) (fun j σ H' => ∃ (vb : Addr) (ld ln : Int) (x8 x9 x10 : Option V), σ = [some (.ref l), some (.ref a), some (.int n), some (.ref vb), some (.int ld), some (.int ln), some (.int i), x8, x9, x10] ∧ Same H H' ∧ BestAt K H' (SeenD n i (n - j)) L vb ld ln) ⟨vb, ld, ln, x8, x9, x10, rfl, s1, best⟩ ?_ ?_⟩
    · rintro j σ H2 hj ⟨vb, ld, ln, x8, x9, x10, rfl, s2, best⟩
      obtain ⟨e, he⟩ : ∃ e : Nat, n - j = e + 1 := ⟨n - j - 1, by omega⟩
      rw [he] at best
      rw [show (n : Int) - 1 - (j : Int) = (e : Nat) by omega, show n - (j + 1) = e by omega]
      have t2 := Tst.same (K := K) s2
      refine ⟨_, rfl, _, rfl, _, rfl, l, xs, os, (i, e), rfl, s2.seq hS, al.mono (fun _ _ m => m.mono t2), hn, fun D H3 s3 hD h3 => ?_⟩
      refine ⟨D, rfl, ⟨_, SqL.of h3⟩, fun E hE => comp_ix (wlk_lst (SqL.of h3)) (fun _ => true) (fun m => V.int (amF as ((heldM os (i, e)).getD m 0))) hE ?_ (fun m x H' hm s' hx R E kR kE => ?_) fun H4 s4 h4 => ?_⟩
      · unfold natV heldM
        rw [List.length_map]
        have := List.length_filter_le (fun i_1 => holdB i e (os.getD i_1 none)) (List.range os.length)
        rw [List.length_range] at this
        exact Nat.le_trans this (by omega)
      · unfold natV at hx
        rw [List.getElem?_map] at hx
        obtain ⟨z, hz, rfl⟩ := Option.map_eq_some_iff.mp hx
        have q := kR rfl _ (Same.refl _)
        rw [getD_of 0 hz] at q
        have hzl : z < os.length := by
          have := List.mem_of_getElem? hz
          unfold heldM at this
          exact List.mem_range.mp (List.mem_filter.mp this).1
        obtain ⟨y, hy⟩ : ∃ y, as[z]? = some y := ⟨_, List.getElem?_eq_getElem (by omega)⟩
        rw [show amF as z = y from getD_of 0 hy] at q
        exact ⟨Ext.set rfl, _, rfl, _, rfl, a, _, _, _, rfl, rfl, ((s2.trans s3).trans s').seq ha, atI_nat (by rw [List.getElem?_map, hy]; rfl), q⟩
      have e4 : H4 E = some (.lst (((heldM os (i, e)).map (amF as)).map V.int)) := by
        rw [h4, show (natV (heldM os (i, e))).length = (heldM os (i, e)).length from List.length_map _, by_place_all 0 (fun k => V.int (amF as k)), List.map_map]
        rfl
      have s24 := s3.trans s4
      have sH := s2.trans s24
      refine ⟨E, _, rfl, SqL.of e4, ?_⟩
      have eL : ((heldM os (i, e)).map (amF as)).sum = L (i, e) := by rw [← hL]; rfl
      rw [eL]
      have lb := LB (i, e)
      have elen : (e : Int) - (i : Int) + 1 = lenP (i, e) := rfl
      refine ⟨_, rfl, _, rfl, _, _, rfl, rfl, _, _, rfl, rfl, ?_⟩
      have lp : 1 ≤ lenP (i, e) ∧ lenP (i, e) ≤ 24 := by rw [← elen]; omega
      have bl : (ld = -1 ∨ (0 ≤ ld ∧ ld ≤ 1612800)) ∧ 0 < ln := by
        rcases best with ⟨r1, r2, _⟩ | ⟨q, _, r1, r2, b⟩
        · exact ⟨.inl r1, by omega⟩
        · exact ⟨.inr (by rw [r1]; exact LB q), by rw [r2]; exact (show Sec n q from b.inn.1).pos⟩
      refine ⟨_, rfl, _, rfl, _, _, rfl, rfl, .inl ⟨by omega, by omega⟩, _, rfl, _, rfl, _, _, rfl, rfl, .inl ⟨by omega, by omega⟩, _, _, rfl, rfl, _, rfl, ?_⟩
      have st := fun r => seenD_step (n := n) (b := i) (e := e) (by omega) (by omega) r
      by_cases c : ld * lenP (i, e) < L (i, e) * ln
      · refine iteD1 c ?_
        refine ⟨_, rfl, _, rfl, (by show 2 ≤ sizeLine; decide), fun pt hpt => ?_⟩
        have s5 := same_new hpt (.tup [.int (i : Nat), .int (e : Nat)])
        refine ⟨_, rfl, _, rfl, ?_⟩
        refine ⟨pt, L (i, e), lenP (i, e), _, _, _, rfl, sH.trans s5, .inr ⟨(i, e), SqT.of upd_same, rfl, rfl, ?_⟩⟩
        rcases best with ⟨_, _, r3⟩ | ⟨q, _, r1, r2, b⟩
        · exact bst_first fun r => ⟨fun h => ((st r).mp h).elim (fun z => absurd z (r3 r)) id, fun h => (st r).mpr (.inr h)⟩
        · subst r1 r2
          exact b.more (n := n) (fun r hr => hr.1) st c
      · refine iteD0 c ?_
        refine ⟨vb, ld, ln, _, _, _, rfl, sH, ?_⟩
        rcases best with ⟨r1, r2, r3⟩ | ⟨q, hq, r1, r2, b⟩
        · exfalso
          subst r1 r2
          apply c
          omega
        · subst r1 r2
          refine .inr ⟨q, Tst.same s24 _ _ hq, rfl, rfl, b.stay st (by omega) (.inl ?_)⟩
          have := b.inn
          unfold SeenD at this
          unfold AheadP
          show q.1 < i ∨ q.1 = i ∧ e ≤ q.2
          omega
    · rintro σ H2 ⟨vb, ld, ln, x8, x9, x10, rfl, s2, best⟩
      refine ⟨vb, ld, ln, _, _, _, _, rfl, s2, best.mono (fun _ _ h => h) fun r => ?_⟩
      rw [show n - ((n : Int) - 1 - ((i : Int) - 1)).toNat = i by omega]
      exact seenD_next r
  · rintro σ H1 ⟨vb, ld, ln, x7, x8, x9, x10, rfl, s1, best⟩
    rw [show (n : Int).toNat = n by omega] at best
    refine ⟨_, rfl, ?_⟩
    rcases best with ⟨_, _, r3⟩ | ⟨q, hq, _, _, b⟩
    · exact absurd (show SeenD n n n (0, 0) from ⟨⟨Nat.le_refl _, by show 0 < n; omega⟩, .inl (by show 0 < n; omega)⟩) (r3 _)
    · exact k vb q H1 s1 hq (b.congr seenD_all)
theorem ok_tightest (T : Txt K mg t) : FnOk P w K mg base CX0 3 t.a_tightest t.d_tightest ["works", "left"] (sp_tightest K) := by
  refine T.F_tightest.ok sc_tightest (fun vs H Q E h => ?_) (fun cdv A outer s H vs Q E hr h => ?_)
  · obtain ⟨_, _, _, _, rfl, _⟩ := h; rfl
  obtain ⟨v, q, ws, ls, rfl, ⟨p, xs, rfl, hS, al⟩, hw, ok, hq, l1, l24, k⟩ := h
  refine QSs.ok (qss_cons (qs_set (i := 2) sc_tightest.nd rfl (by first | exact Or.inl rfl | exact Or.inr rfl) (qe_call (ok_kept_windows T) (hr.mono (by decide)) rfl T.m_kept_windows T.F_kept_windows.kp T.b_kept_windows .nil pass0 (qa_cons (qv 0) (qa_cons (qv 1) qa_nil star_name) star_name)))
      (qss_cons (qs_set (i := 3) sc_tightest.nd rfl (by first | exact Or.inl rfl | exact Or.inr rfl) (qe_call (ok_tightest_places T) (hr.mono (by decide)) rfl T.m_tightest_places T.F_tightest_places.kp T.b_tightest_places .nil pass0 (qa_cons (qv 2) (qa_cons (qe_call (ok_whole_parts T) (hr.mono (by decide)) rfl T.m_whole_parts T.F_whole_parts.kp T.b_whole_parts .nil pass0 (qa_cons (qe_lcomp (N' := ["work"]) (src := [none]) rfl (by exact (qi_tup (qv 0))) (fun _ _ _ _ _ => (by exact (by exact qg_name (i := 0) (by show List.Nodup (["work"] : List Str); decide +kernel) (by exact rfl) (by first | exact Or.inl rfl | exact Or.inr rfl)))) (fun _ _ _ _ _ => qts_nil) (fun _ _ _ _ _ => (by exact (by exact (qe_ix (ix_tupK (K := K) (by exact rfl)) (by exact (qv 0)) qe_int (by exact fun _ _ => rfl))))) (by exact trivial) rfl (by decide +kernel) rfl (by decide +kernel) (by exact cells_of rfl trivial)) qa_nil star_lc)) (qa_cons (qe_callB call_len_seq (by rfl) T.z_len PySem.boot_len (qa_cons (qv 1) qa_nil star_name)) qa_nil star_call) star_call) star_name)))
      (qss_one (qs_ret (qe_tup (qa_cons (qe_slice sl_tupU (qv 1) (qo_some (qe_ix ix_tup (qv 3) qe_int (fun _ _ => rfl))) (qo_some (qe_op op_add (qe_ix ix_tup (qv 3) qe_int (fun _ _ => rfl)) qe_int))) (qa_cons (qe_callTy call_tuple_of (by rfl) T.z_tuple PyProof.Rows.boot_tuple (qa_cons (qe_call (ok_held T) (hr.mono (by decide)) rfl T.m_held T.F_held.kp T.b_held .nil pass0 (qa_cons (qv 2) (qa_cons (qe_ix ix_tup (qv 3) qe_int (fun _ _ => rfl)) (qa_cons (qe_ix ix_tup (qv 3) qe_int (fun _ _ => rfl)) qa_nil star_sub) star_sub) star_name)) qa_nil star_call)) qa_nil star_call) star_sub)))))) ?_
  have nl : (natV ls).length = ls.length := List.length_map _
  refine ⟨_, rfl, _, rfl, .ref p, q, ws, ls, rfl, ⟨p, xs, rfl, hS, al⟩, hw, hq, l24, fun l ys H1 s1 hl0 hl1 al1 => ?_⟩
  have t1 := Tst.same (K := K) s1
  refine ⟨_, rfl, _, rfl, p, rfl, ⟨_, t1 _ _ hS⟩, fun D hD => comp_mapT (K := K) (P := RV K) (ds := ws) (f := fun w : Wk => w.2.2) (fun _ _ _ _ t p => p.mono t) hD (t1 _ _ hS) al.len (by omega) (fun i x d H' hx hd s' R E kR => ?_) fun H2 ys2 s2 hD2 al2 => ?_⟩
  · obtain ⟨d', hd', pw, xw, rfl, hSw, rx⟩ := al.at hx
    rw [hd] at hd'
    cases hd'
    have t' := Tst.same (K := K) (s1.trans s')
    exact ⟨Ext.set rfl, _, rfl, pw, _, _, _, rfl, rfl, t' _ _ hSw, rfl, kR _ _ (Same.refl _) (rx.mono t')⟩
  refine ⟨D, ys2, ws, rfl, SqL.of hD2, al2, hw, ok, fun l2 B H3 s3 hl2 b0 bd dv hl3 => ?_⟩
  have s13 := s2.trans s3
  have t13 := Tst.same (K := K) s13
  have sH3 := s1.trans s13
  refine ⟨_, rfl, q, _, rfl, .inr (Tst.same (K := K) sH3 _ _ hq), ?_⟩
  refine ⟨l, l2, ys, ws.map (winM ls), partsM B ws, ls.length, (by rw [nl]; rfl), s13.seq (SqL.of hl1), al1.mono (fun _ _ m => m.mono t13), by rw [List.length_map]; exact hw, SqL.of hl3, by unfold partsM; rw [List.length_map, List.length_map], parts_bd ok b0 bd, l1, l24, fun pp pl H4 s4 hpp bst => ?_⟩
  have sec := bst.inn
  have c1 : pl.1 ≤ pl.2 := sec.1
  have c2 : pl.2 < ls.length := sec.2
  have sH4 := sH3.trans s4
  refine ⟨_, rfl, _, rfl, pp, _, _, _, rfl, rfl, hpp, rfl, _, rfl, _, rfl, pp, _, _, _, rfl, rfl, hpp, rfl, _, _, rfl, rfl, _, rfl, q, _, rfl, Tst.same (K := K) sH4 _ _ hq, fun pc H5 s5 hpc => ?_⟩
  rw [show (pl.2 : Int) + 1 = ((pl.2 + 1 : Nat) : Int) by omega, cut_nat (by omega) (by omega)] at hpc
  have t5 := Tst.same (K := K) s5
  have t45 := Tst.same (K := K) (s13.trans (s4.trans s5))
  refine ⟨_, rfl, _, rfl, pp, _, _, _, rfl, rfl, t5 _ _ hpp, rfl, _, rfl, pp, _, _, _, rfl, rfl, t5 _ _ hpp, rfl, l, ys, ws.map (winM ls), pl, rfl, (s13.trans (s4.trans s5)).seq (SqL.of hl1), al1.mono (fun _ _ m => m.mono t45), by rw [List.length_map]; exact hw, fun E H6 s6 hE hE6 => ?_⟩
  refine ⟨E, _, rfl, .inl ⟨SqL.of hE6, fun pe hpe => ?_⟩⟩
  have s7 := same_new hpe (.tup (natV (heldM (ws.map (winM ls)) pl)))
  refine ⟨(by show 2 ≤ sizeLine; decide), fun pr hpr => ?_⟩
  have s8 := same_new hpr (.tup [.ref pc, .ref pe])
  refine k (.ref pr) B pl _ ((((sH4.trans s5).trans s6).trans s7).trans s8) b0 bd dv bst ?_
  exact ⟨pr, pc, pe, rfl, SqT.of upd_same, Tst.same (K := K) ((s6.trans s7).trans s8) _ _ hpc, Tst.same (K := K) s8 _ _ (SqT.of upd_same)⟩
theorem ok_layers (T : Txt K mg t) : FnOk P w K mg base CX0 4 t.a_layers t.d_layers ["works"] (sp_layers K) := by
  refine T.F_layers.ok sc_layers (fun vs H Q E h => ?_) (fun cdv A outer s H vs Q E hr h => ?_)
  · obtain ⟨_, _, rfl, _⟩ := h; rfl
  obtain ⟨v, ws, rfl, ⟨p, xs, rfl, hS, al⟩, hw, ok, k⟩ := h
  refine QSs.ok (qss_cons (qs_set (i := 1) sc_layers.nd rfl (by first | exact Or.inl rfl | exact Or.inr rfl) (qe_lst qa_nil))
      (qss_cons (qs_set (i := 2) sc_layers.nd rfl (by first | exact Or.inl rfl | exact Or.inr rfl) (qe_callTy (call_tupleR rfl) (by rfl) T.z_tuple PyProof.Rows.boot_tuple (qa_cons (qe_rng1 rfl T.z_range (qa_cons (qe_glob (v := .int (24)) rfl T.m_TURNS ⟨_, rfl⟩) qa_nil star_name)) qa_nil star_call)))
      (qss_cons (qs_set (i := 3) sc_layers.nd rfl (by first | exact Or.inl rfl | exact Or.inr rfl) (qe_callB call_len_seq (by rfl) T.z_len PySem.boot_len (qa_cons (qv 0) qa_nil star_name)))
      (qss_cons (qs_while PassesOwn.never (qt_cmpR op_gt (qv 3) qe_int (nomark _))
      (qss_cons (qs_set (i := 4) sc_layers.nd rfl (by first | exact Or.inl rfl | exact Or.inr rfl) (qe_call (ok_tightest T) (hr.mono (by decide)) rfl T.m_tightest T.F_tightest.kp T.b_tightest .nil pass0 (qa_cons (qv 0) (qa_cons (qv 2) qa_nil star_name) star_name)))
      (qss_cons (qs_expr (qe_bm PySem.F.plainAttrs_list PySem.F.slot_list_append PySem.F.type_list_append mt_append (qv 1) (qa_cons (qv 4) qa_nil star_name)))
      (qss_cons (qs_set (i := 2) sc_layers.nd rfl (by first | exact Or.inl rfl | exact Or.inr rfl) (qe_callTy call_tuple_of (by rfl) T.z_tuple PyProof.Rows.boot_tuple (qa_cons (qe_lcomp (N' := ["turn", "layer"]) (src := [none, some 4]) rfl (by exact (qi_tup (qv 2))) (fun _ _ _ _ _ => (by exact (by exact qg_name (i := 0) (by show List.Nodup (["turn", "layer"] : List Str); decide +kernel) (by exact rfl) (by first | exact Or.inl rfl | exact Or.inr rfl)))) (fun _ _ _ _ _ => (qts_one (qt_cmpR (op_notIn_seqK (K := K) (by exact rfl)) (by exact (qv 0)) (by exact (qe_ix (ix_tupK (K := K) (by exact rfl)) (by exact (qv 1)) qe_int (by exact fun _ _ => rfl))) (by with_unfolding_all rfl)))) (fun _ _ _ _ _ => (by exact (by exact (qv 0)))) (by exact ⟨rfl, rfl, rfl, rfl, trivial⟩) rfl (by decide +kernel) rfl (by decide +kernel) (by exact cells_of rfl ⟨rfl, trivial⟩)) qa_nil star_lc)))
      (qss_one (qs_aug (i := 3) sc_layers.nd rfl (by first | exact Or.inl rfl | exact Or.inr rfl) (qe_callB call_len_seq (by rfl) T.z_len PySem.boot_len (qa_cons (qe_ix ix_tup (qv 4) qe_int (fun _ _ => rfl)) qa_nil star_sub)) ip_sub))))))
      (qss_one (qs_ret (qe_callTy call_tuple_of (by rfl) T.z_tuple PyProof.Rows.boot_tuple (qa_cons (qv 1) qa_nil star_name)))))))) ?_
  have hlen := al.len
  refine ⟨(by show 0 ≤ sizeLine; exact Nat.zero_le _), fun l h0 => ?_⟩
  have s0 := same_new h0 (.lst [])
  have hl0 : upd H l (.lst []) l = some (.lst []) := upd_same
  refine ⟨_, rfl, fun pr hpr => ?_⟩
  have s1 := same_new hpr (.rng 0 24)
  refine ⟨pr, 24, rfl, upd_same, by decide, fun q0 hq0 => ?_⟩
  have s2 := same_new hq0 (.tup ((B.upTo 24).map V.int))
  have hq0' : SqT K (upd (upd (upd H l (.lst [])) pr (.rng 0 24)) q0 (.tup ((B.upTo 24).map V.int))) q0 (natV (List.range 24)) := by
    have e : natV (List.range 24) = (B.upTo 24).map V.int := by unfold natV B.upTo; rw [List.map_map]; rfl
    rw [e]
    exact SqT.of (upd_same (H := upd (upd H l (.lst [])) pr (.rng 0 24)) (a := q0) (o := .tup ((B.upTo 24).map V.int)))
  have s02 := (s0.trans s1).trans s2
  have hl2 := s2 _ _ (s1 _ _ hl0)
  refine ⟨_, rfl, p, _, rfl, .inr (Tst.same (K := K) s02 _ _ hS), ?_⟩
  have nf := nv_full ok
  refine ⟨fun m σ H' => ∃ (acc : List (List Nat × List Nat)) (ys : List V) (q : Addr) (ls : List Nat) (x5 : Option V), σ = [some (.ref p), some (.ref l), some (.ref q), some (.int (nvM ws ls)), x5] ∧ Same H H' ∧ H' l = some (.lst ys) ∧ Als (LyV K H') ys acc ∧ SqT K H' q (natV ls) ∧ ls.Nodup ∧ (∀ t ∈ ls, t < 24) ∧ ls.length ≤ 24 ∧ acc.length + nvM ws ls ≤ ws.length ∧ (∀ y ∈ acc, LyOk ws.length y) ∧ (∀ r, Lys ws ls r → Lys ws (List.range 24) (acc ++ r)) ∧ m = nvM ws ls, ⟨_, [], [], q0, List.range 24, none, (by rw [nf, hlen]; rfl), s02, hl2, .nil, hq0', List.nodup_range, (fun t ht => List.mem_range.mp ht), by decide, (by rw [nf]; exact Nat.le_of_eq (Nat.zero_add _)), (fun y hy => by cases hy), (fun r h => h), rfl⟩, ?_⟩
  rintro m σ H1 ⟨acc, ys, q, ls, x5, rfl, sm, hl1, al1, hq, nd, lt, l24, few, lok, con, rfl⟩
  refine ⟨_, rfl, _, _, rfl, rfl, _, rfl, ?_⟩
  by_cases c : nvM ws ls = 0
  · refine iteD0 (by omega) ?_
    have ly := con [] (.nil c)
    rw [List.append_nil] at ly
    refine ⟨_, rfl, l, _, rfl, .inl ⟨SqL.of hl1, fun pt hpt => ?_⟩⟩
    have s5 := same_new hpt (.tup ys)
    exact k (.ref pt) acc _ (sm.trans s5) ⟨pt, ys, rfl, SqT.of upd_same, al1.mono fun _ _ m => m.mono (Tst.same s5)⟩ ly lok (by omega)
  · refine iteD1 (by omega) ?_
    refine ⟨_, fun _ _ z => z, ?_⟩
    have ln1 : 1 ≤ ls.length := by
      cases ls with
      | nil => exact absurd (nv_nil ws) c
      | cons a r => exact Nat.succ_le_succ (Nat.zero_le _)
    refine ⟨_, rfl, _, rfl, .ref p, q, ws, ls, rfl, ⟨p, xs, rfl, Tst.same (K := K) sm _ _ hS, al.mono fun _ _ m => m.mono (Tst.same sm)⟩, hw, ok, hq, ln1, l24, fun x B pl H2 s2 b0 bd dv bst lv => ?_⟩
    have it : IsT ws ls pl := isT_of ok (bst.scale b0 (by decide) fun q => sum_scale _ fun i _ => units_parts ok dv i) c
    have sec := isT_sec it
    have hl2 := s2 _ _ hl1
    have hy := al1.len
    have sm2 := sm.trans s2
    have lyo : LyOk ws.length (lyM ws ls pl) := lyM_ok sec l24 lt
    refine ⟨_, rfl, .inl ⟨rfl, _, SqL.of hl2⟩, _, rfl, l, _, _, rfl, rfl, hl2, small1000 (by omega), ?_⟩
    have t3 : Tst K H2 (upd H2 l (.lst (ys ++ [x]))) := Tst.up hl2 _
    have sm3 : Same H (upd H2 l (.lst (ys ++ [x]))) := fun b o e => by rw [upd_ne (ne_of_none e h0)]; exact sm2 _ _ e
    have hl3 : upd H2 l (.lst (ys ++ [x])) l = some (.lst (ys ++ [x])) := upd_same
    have al3 : Als (LyV K (upd H2 l (.lst (ys ++ [x])))) (ys ++ [x]) (acc ++ [lyM ws ls pl]) := (al1.mono fun _ _ m => m.mono ((Tst.same s2).trans t3)).snoc (lv.mono t3)
    have lv3 := lv.mono t3
    have hq3 := t3 _ _ (Tst.same (K := K) s2 _ _ hq)
    generalize upd H2 l (.lst (ys ++ [x])) = H3 at sm3 hl3 al3 lv3 hq3 ⊢
    obtain ⟨pL, a, b, rfl, hpL, ha, hb⟩ := lv3
    have nl : (natV ls).length = ls.length := List.length_map _
    refine ⟨_, rfl, q, rfl, ⟨_, hq3⟩, fun D hD => comp_ix (wlk_tup hq3) (fun i => !(cutM ls pl).contains (ls.getD i 0)) (fun i => V.int (ls.getD i 0 : Nat)) hD (by omega) (fun i x H' hi s' hx R E kR kE => ?_) fun H4 s4 h4 => ?_⟩
    · unfold natV at hx
      rw [List.getElem?_map] at hx
      obtain ⟨z, hz, rfl⟩ := Option.map_eq_some_iff.mp hx
      rw [getD_of 0 hz] at kR kE
      have t' := Tst.same (K := K) s'
      refine ⟨Ext.set rfl, _, rfl, _, rfl, pL, _, _, _, rfl, rfl, t' _ _ hpL, rfl, a, _, rfl, .inr (t' _ _ ha), rfl, flat_nat _, _, rfl, ?_⟩
      have e : inV (.int (z : Nat)) (natV (lyM ws ls pl).1) = (cutM ls pl).contains z := inV_int z (cutM ls pl)
      cases cz : (cutM ls pl).contains z with
      | true => exact iteB0 (by show (!inV (.int (z : Nat)) (natV (lyM ws ls pl).1)) = false; rw [e, cz]; rfl) (kE (by rw [cz]; rfl) _ (Same.refl _))
      | false => exact iteB1 (by show (!inV (.int (z : Nat)) (natV (lyM ws ls pl).1)) = true; rw [e, cz]; rfl) ⟨_, rfl, kR (by rw [cz]; rfl) _ (Same.refl _)⟩
    rw [nl, by_place 0 (fun t => !(cutM ls pl).contains t) (fun t : Nat => V.int t)] at h4
    replace h4 : H4 D = some (.lst (natV (restM ls pl))) := h4
    refine ⟨D, _, rfl, .inl ⟨SqL.of h4, fun qn hqn => ?_⟩⟩
    have s5 := same_new hqn (.tup (natV (restM ls pl)))
    have hqn5 : SqT K _ qn (natV (restM ls pl)) := SqT.of (upd_same (H := H4) (a := qn) (o := .tup (natV (restM ls pl))))
    have s35 := s4.trans s5
    generalize upd H4 qn (.tup (natV (restM ls pl))) = H5 at s35 hqn5 ⊢
    have t5 := Tst.same (K := K) s35
    have rst := nv_rest (ws := ws) nd sec
    have hp := it.held
    have lb : (natV (lyM ws ls pl).2).length = (heldM (ws.map (winM ls)) pl).length := List.length_map _
    refine ⟨_, rfl, _, rfl, pL, _, _, _, rfl, rfl, t5 _ _ hpL, rfl, b, _, rfl, .inr (t5 _ _ hb), _, _, rfl, rfl, ?_⟩
    have ew : ((nvM ws ls : Nat) : Int) - ((natV (lyM ws ls pl).2).length : Int) = ((nvM ws (restM ls pl) : Nat) : Int) := by rw [lb]; omega
    have rl : (restM ls pl).length ≤ ls.length := List.length_filter_le _ _
    refine ⟨_, ?_, acc ++ [lyM ws ls pl], ys ++ [.ref pL], qn, restM ls pl, _, (by rw [← ew]; rfl), sm3.trans s35, s35 _ _ hl3, al3.mono (fun _ _ m => m.mono t5), hqn5, rest_nd nd pl, (fun t ht => lt t (List.mem_filter.mp ht).1), by omega, (by rw [List.length_append]; show acc.length + 1 + _ ≤ _; omega), (fun y hy => ?_), (fun r hr => ?_), rfl⟩
    · omega
    · rcases List.mem_append.mp hy with h | h
      · exact lok y h
      · rw [List.mem_singleton.mp h]; exact lyo
    · have := con _ (Lys.cons it hr)
      rw [List.append_assoc]
      exact this
theorem ok_layer_density (T : Txt K mg t) : FnOk P w K mg base CX0 4 t.a_layer_density t.d_layer_density ["works", "layer"] (sp_layer_density K) := by
  refine T.F_layer_density.ok sc_layer_density (fun vs H Q E h => ?_) (fun cdv A outer s H vs Q E hr h => ?_)
  · obtain ⟨_, _, _, _, rfl, _⟩ := h; rfl
  obtain ⟨v, x, ws, y, rfl, ⟨p, xs, rfl, hS, al⟩, hw, ok, lv, lok, k⟩ := h
  refine QSs.ok (qss_one (qs_ret (qe_call (ok_over T) (hr.mono (by decide)) rfl T.m_over T.F_over.kp T.b_over .nil pass0 (qa_cons (qe_call (ok_total T) (hr.mono (by decide)) rfl T.m_total T.F_total.kp T.b_total .nil pass0 (qa_cons (qe_lcomp (N' := ["number", "works"]) (src := [none, some 0]) rfl (by exact (qi_tup (qe_ix ix_tup (qv 1) qe_int (fun _ _ => rfl)))) (fun _ _ _ _ _ => (by exact (by exact qg_name (i := 0) (by show List.Nodup (["number", "works"] : List Str); decide +kernel) (by exact rfl) (by first | exact Or.inl rfl | exact Or.inr rfl)))) (fun _ _ _ _ _ => qts_nil) (fun _ _ _ _ _ => (by exact (by exact (qe_ix (ix_tupK (K := K) (by exact rfl)) (by exact (qe_ix (ix_tupK (K := K) (by exact rfl)) (by exact (qv 1)) (by exact (qv 0)) (by exact fun _ _ => rfl))) qe_int (by exact fun _ _ => rfl))))) (by exact ⟨rfl, rfl, rfl, rfl, trivial⟩) rfl (by decide +kernel) rfl (by decide +kernel) (by exact cells_of rfl ⟨rfl, trivial⟩)) qa_nil star_lc)) (qa_cons (qe_tup (qa_cons (qe_callB call_len_seq (by rfl) T.z_len PySem.boot_len (qa_cons (qe_ix ix_tup (qv 1) qe_int (fun _ _ => rfl)) qa_nil star_sub)) (qa_cons qe_int qa_nil star_con) star_call)) qa_nil star_tup) star_call)))) ?_
  have hSl := al.len
  obtain ⟨pL, a, b, rfl, hpL, ha, hb⟩ := lv
  have nb : (natV y.2).length = y.2.length := List.length_map _
  have na : (natV y.1).length = y.1.length := List.length_map _
  have len := lok.len
  refine ⟨_, rfl, pL, _, _, _, rfl, rfl, hpL, rfl, b, rfl, ⟨_, hb⟩, fun D hD => comp_mapT (K := K) (P := RV K) (ds := y.2) (f := fun i => (ws.getD i wk0).2.2) (fun _ _ _ _ t p => p.mono t) hD hb nb (by omega) (fun i x d H' hx hd s' R E kR => ?_) fun H2 ys2 s2 hD2 al2 => ?_⟩
  · have hx' : (natV y.2)[i]? = some (V.int (d : Nat)) := by unfold natV; rw [List.getElem?_map, hd]; rfl
    rw [hx] at hx'
    cases hx'
    have hdl := lok.num d (List.mem_of_getElem? hd)
    obtain ⟨xw, hxw⟩ : ∃ xw, xs[d]? = some xw := ⟨_, List.getElem?_eq_getElem (by omega)⟩
    obtain ⟨w, hwd, pw, xa, rfl, hSw, rx⟩ := al.at hxw
    rw [getD_of wk0 hwd] at kR
    have t' := Tst.same (K := K) s'
    exact ⟨Ext.set rfl, _, rfl, _, rfl, p, _, _, _, rfl, rfl, t' _ _ hS, atI_nat hxw, pw, _, _, _, rfl, rfl, t' _ _ hSw, rfl, kR _ _ (Same.refl _) (rx.mono t')⟩
  have wf := ams_wf (n := ws.length) ok lok
  have la : (amsM ws y).length = y.2.length := List.length_map _

  refine ⟨D, ys2, amsM ws y, 9, rfl, .inl (SqL.of hD2), als_rvs al2, wf, by omega, (by
    have : (9 + 9) * ((amsM ws y).length + 1) ≤ 18 * 65 := Nat.mul_le_mul_left 18 (by omega)
    omega), fun v' H3 s3 rv3 => ?_⟩
  have t23 := Tst.same (K := K) (s2.trans s3)
  refine ⟨_, rfl, pL, _, _, _, rfl, rfl, t23 _ _ hpL, rfl, a, _, rfl, .inr (t23 _ _ ha), (by show 2 ≤ sizeLine; decide), fun pt hpt => ?_⟩
  rw [na]
  have s4 := same_new hpt (.tup [.int (y.1.length : Int), .int 1])
  have pos := lok.pos
  have few := lok.few
  refine ⟨v', .ref pt, sumR (amsM ws y), 1 + (9 + 1) * (amsM ws y).length, y.1.length, rfl, rv3.mono (Tst.same s4), RV.of upd_same, sum_wfN wf, pos, few, by omega, fun u H5 s5 r5 => ?_⟩
  exact k u H5 (((s2.trans s3).trans s4).trans s5) r5
theorem ok_layer_speeds (T : Txt K mg t) : FnOk P w K mg base CX0 5 t.a_layer_speeds t.d_layer_speeds ["works"] (sp_layer_speeds K) := by
  refine T.F_layer_speeds.ok sc_layer_speeds (fun vs H Q E h => ?_) (fun cdv A outer s H vs Q E hr h => ?_)
  · obtain ⟨_, _, rfl, _⟩ := h; rfl
  obtain ⟨v, ws, rfl, ⟨p, xs, rfl, hS, al⟩, hw, ok, k⟩ := h
  refine QSs.ok (qss_cons (qs_set (i := 1) sc_layer_speeds.nd rfl (by first | exact Or.inl rfl | exact Or.inr rfl) (qe_op op_repL (qe_lst (qa_cons (qe_glob (v := .ref t.c_NOUGHT) rfl T.m_NOUGHT rfl) qa_nil star_name)) (qe_glob (v := .int (24)) rfl T.m_TURNS ⟨_, rfl⟩)))
      (qss_cons (qs_for PassesOwn.never rfl (qi_tup (qe_call (ok_layers T) (hr.mono (by decide)) rfl T.m_layers T.F_layers.kp T.b_layers .nil pass0 (qa_cons (qv 0) qa_nil star_name))) (qg_name (i := 2) sc_layer_speeds.nd rfl (by first | exact Or.inl rfl | exact Or.inr rfl))
      (qss_cons (qs_set (i := 3) sc_layer_speeds.nd rfl (by first | exact Or.inl rfl | exact Or.inr rfl) (qe_call (ok_layer_density T) (hr.mono (by decide)) rfl T.m_layer_density T.F_layer_density.kp T.b_layer_density .nil pass0 (qa_cons (qv 0) (qa_cons (qv 2) qa_nil star_name) star_name)))
      (qss_one (qs_for PassesOwn.never rfl (qi_tup (qe_ix ix_tup (qv 2) qe_int (fun _ _ => rfl))) (qg_name (i := 4) sc_layer_speeds.nd rfl (by first | exact Or.inl rfl | exact Or.inr rfl))
      (qss_one (qs_asg (qv 3) (qg_sub (qv 1) (qv 4) set_list)))))))
      (qss_one (qs_ret (qe_callTy call_tuple_of (by rfl) T.z_tuple PyProof.Rows.boot_tuple (qa_cons (qv 1) qa_nil star_name)))))) ?_
  refine ⟨(by show 1 ≤ sizeLine; decide), fun l0 h0 => ?_⟩
  have s0 := same_new h0 (.lst [.ref t.c_NOUGHT])
  refine ⟨l0, .ref t.c_NOUGHT, 24, rfl, rfl, upd_same, by decide, fun l hl => ?_⟩
  have s1 := same_new hl (.lst (List.replicate 24 (.ref t.c_NOUGHT)))
  have s01 := s0.trans s1
  have hln : H l = none := by
    cases e : H l with
    | none => rfl
    | some o => rw [s0 _ _ e] at hl; cases hl
  have hl1 : upd (upd H l0 (.lst [.ref t.c_NOUGHT])) l (.lst (List.replicate 24 (.ref t.c_NOUGHT))) l = some (.lst (List.replicate 24 (.ref t.c_NOUGHT))) := upd_same
  generalize upd (upd H l0 (.lst [.ref t.c_NOUGHT])) l (.lst (List.replicate 24 (.ref t.c_NOUGHT))) = H1 at hl1 s01 ⊢
  refine ⟨_, rfl, .ref p, ws, rfl, ⟨p, xs, rfl, Tst.same (K := K) s01 _ _ hS, al.mono fun _ _ m => m.mono (Tst.same s01)⟩, hw, ok, fun x lys H2 s2 lv ly lok ll => ?_⟩
  obtain ⟨pl, xl, rfl, hpl, all⟩ := lv
  have hl2 := s2 _ _ hl1
  have s02 := s01.trans s2
  have wvS : ∀ H', Same H H' → WksV K H' (.ref p) ws := fun H' s => ⟨p, xs, rfl, Tst.same (K := K) s _ _ hS, al.mono fun _ _ m => m.mono (Tst.same s)⟩
  have smS : ∀ H', Step l H2 H' → Same H H' := fun H' S b o e => S.keep b o (fun z => by subst z; rw [hln] at e; cases e) (s02 _ _ e)
  refine ⟨pl, rfl, ⟨_, hpl⟩, for_tup (K := K) (a := pl) (xs := xl) (fun i σ H' => ∃ (ys : List V) (x3 x4 x5 : Option V), σ = [some (.ref p), some (.ref l), x3, x4, x5] ∧ Step l H2 H' ∧ H' l = some (.lst ys) ∧ Als (RV K H') ys (spsM ws (lys.take i))) ⟨_, none, none, none, rfl, Step.refl ⟨_, hl2⟩, hl2, Als.rep ⟨_, rfl, T.q_NOUGHT _⟩ 24⟩ (fun i σ H' _ ⟨_, _, _, _, _, S, _⟩ => Tst.step (K := K) S _ _ hpl) ?_ ?_⟩
  · rintro i x σ H3 hx ⟨ys, x3, x4, x5, rfl, S3, hl3, al3⟩
    obtain ⟨y, hy, lvy⟩ := all.at hx
    have lyo := lok y (List.mem_of_getElem? hy)
    have sm3 := smS _ S3
    have lv3 := lvy.mono (Tst.step (K := K) S3)
    refine ⟨_, rfl, _, rfl, .ref p, x, ws, y, rfl, wvS _ sm3, hw, ok, lv3, lyo, fun sv H4 s4 rv4 => ?_⟩
    have hl4 := s4 _ _ hl3
    have lv4 := lv3.mono (Tst.same s4)
    obtain ⟨pL, a, b, rfl, hpL, ha, hb⟩ := lv4
    have S4 := S3.trans (Step.same s4 ⟨_, hl3⟩)
    have al4 := al3.mono fun _ _ m => m.mono (Tst.same (K := K) s4)
    have ly24 := al4.len
    rw [show (spsM ws (lys.take i)).length = 24 by unfold spsM; rw [sps_len]; rfl] at ly24
    refine ⟨_, rfl, pL, _, _, _, rfl, rfl, hpL, rfl, a, rfl, ⟨_, ha⟩, for_tup (K := K) (a := a) (xs := natV y.1) (fun j σ H' => ∃ (zs : List V) (x5 : Option V), σ = [some (.ref p), some (.ref l), some (.ref pL), some sv, x5] ∧ Step l H4 H' ∧ H' l = some (.lst zs) ∧ zs.length = 24 ∧ Als (RV K H') zs (setM (spdM ws y) (spsM ws (lys.take i)) (y.1.take j))) ⟨ys, _, rfl, Step.refl ⟨_, hl4⟩, hl4, ly24, al4⟩ (fun j σ H' _ ⟨_, _, _, S, _⟩ => Tst.step (K := K) S _ _ ha) ?_ ?_⟩
    · rintro j tv σ H5 ht ⟨zs, x5, rfl, S5, hl5, zl, al5⟩
      unfold natV at ht
      rw [List.getElem?_map] at ht
      obtain ⟨tt, htt, rfl⟩ := Option.map_eq_some_iff.mp ht
      have lt := lyo.lt tt (List.mem_of_getElem? htt)
      refine ⟨_, rfl, _, rfl, _, rfl, l, zs, _, tt, rfl, rfl, hl5, ixN_nat (by omega), ?_⟩
      have t6 : Tst K H5 (upd H5 l (.lst (zs.set tt sv))) := Tst.up hl5 _
      refine ⟨_, _, rfl, S5.trans (Step.up hl5), upd_same, by rw [List.length_set]; exact zl, ?_⟩
      have e : setM (spdM ws y) (spsM ws (lys.take i)) (y.1.take (j + 1)) = (setM (spdM ws y) (spsM ws (lys.take i)) (y.1.take j)).set tt (spdM ws y) := by
        unfold setM
        rw [List.take_add_one, htt, List.foldl_append]
        rfl
      rw [e]
      exact Als.setI (rv4.mono ((Tst.step (K := K) S5).trans t6)) tt (al5.mono fun _ _ m => m.mono t6)
    · rintro σ H5 ⟨zs, x5, rfl, S5, hl5, zl, al5⟩
      rw [show (natV y.1).length = y.1.length from List.length_map _, List.take_length] at al5
      refine ⟨zs, _, _, _, rfl, S4.trans S5, hl5, ?_⟩
      have e : spsM ws (lys.take (i + 1)) = setM (spdM ws y) (spsM ws (lys.take i)) y.1 := by
        unfold spsM
        rw [List.take_add_one, hy, List.foldl_append]
        rfl
      rw [e]
      exact al5
  · rintro σ H3 ⟨ys, x3, x4, x5, rfl, S3, hl3, al3⟩
    rw [all.len, List.take_length] at al3
    refine ⟨_, rfl, l, _, rfl, .inl ⟨SqL.of hl3, fun pt hpt => ?_⟩⟩
    have s5 := same_new hpt (.tup ys)
    exact k pt ys lys _ ((smS _ S3).trans s5) (SqT.of upd_same) (al3.mono fun _ _ m => m.mono (Tst.same s5)) ly lok
theorem ok_law_tape (T : Txt K mg t) : FnOk P w K mg base CX0 1 t.a_law_tape t.d_law_tape ["_law_script"] (sp_law_tape K) := by
  refine T.F_law_tape.ok sc_law_tape (fun vs H Q E h => ?_) (fun cdv A outer s H vs Q E hr h => ?_)
  · obtain ⟨_, _, rfl, _⟩ := h; rfl
  obtain ⟨a, ns, rfl, hS, hl, k⟩ := h
  refine QSs.ok (qss_one (qs_ret (qe_lst (qa_cons (qv 0) (qa_cons qe_int (qa_cons qe_int qa_nil star_con) star_con) star_name)))) ?_
  refine ⟨_, rfl, (by show 3 ≤ sizeLine; decide), fun t ht => ?_⟩
  exact k t _ (same_new ht _) ht (Tape3.mk3 hS hl ht)
theorem ok_law_draw (T : Txt K mg t) : FnOk P w K mg base CX0 1 t.a_law_draw t.d_law_draw ["_law_tape_here", "_law_many"] (sp_law_draw K) := by
  refine T.F_law_draw.ok sc_law_draw (fun vs H Q E h => ?_) (fun cdv A outer s H vs Q E hr h => ?_)
  · obtain ⟨_, _, _, rfl, _⟩ := h; rfl
  obtain ⟨t₁, s₁, m, rfl, tp, hm0, hm1, k⟩ := h
  refine QSs.ok (qss_cons (qs_if (qt_cmpR op_eq (qe_ix ix_list (qv 0) qe_int (fun _ _ => rfl)) qe_int (nomark _)) (qss_cons (qs_set (i := 2) sc_law_draw.nd rfl (by first | exact Or.inl rfl | exact Or.inr rfl) (qe_ix ix_list (qv 0) qe_int (fun _ _ => rfl)))
      (qss_cons (qs_asg (qe_op op_add (qv 2) qe_int) (qg_sub (qv 0) qe_int set_list))
      (qss_cons (qs_set (i := 3) sc_law_draw.nd rfl (by first | exact Or.inl rfl | exact Or.inr rfl) (qv 2))
      (qss_cons (qs_if (qt_cmpR op_gt (qe_callB call_len_seq (by rfl) T.z_len PySem.boot_len (qa_cons (qe_ix ix_list (qv 0) qe_int (fun _ _ => rfl)) qa_nil star_sub)) qe_int (nomark _)) (qss_one (qs_set (i := 3) sc_law_draw.nd rfl (by first | exact Or.inl rfl | exact Or.inr rfl) (qe_ix ix_list (qe_ix ix_list (qv 0) qe_int (fun _ _ => rfl)) (qe_op op_mod (qv 2) (qe_callB call_len_seq (by rfl) T.z_len PySem.boot_len (qa_cons (qe_ix ix_list (qv 0) qe_int (fun _ _ => rfl)) qa_nil star_sub))) (fun _ _ => rfl)))) qss_nil)
      (qss_cons (qs_if (qw_pt (qw_or (qt_cmpR op_lt (qv 3) (qe_op op_pow qe_int qe_int) (nomark _)) (qw_or1 (qt_cmpR op_ge (qv 2) (qe_callB call_len_seq (by rfl) T.z_len PySem.boot_len (qa_cons (qe_ix ix_list (qv 0) qe_int (fun _ _ => rfl)) qa_nil star_sub)) (nomark _))))) (qss_cons (qs_set (i := 4) sc_law_draw.nd rfl (by first | exact Or.inl rfl | exact Or.inr rfl) (qe_op op_mod (qe_op op_mul (qe_op op_add (qe_op op_mod (qv 3) qe_int) qe_int) (qe_op op_add qe_int (qe_op op_mul qe_int (qe_op op_mod (qv 2) qe_int)))) qe_int))
      (qss_one (qs_ret (qe_op op_mod (qe_op op_fdiv (qe_op op_mod (qe_op op_mul (qe_op op_add (qv 4) (qe_op op_mul qe_int (qv 2))) qe_int) qe_int) qe_int) (qv 1))))) qss_nil)
      (qss_one (qs_asg (qv 3) (qg_sub (qv 0) qe_int set_list)))))))) qss_nil)
      (qss_cons (qs_set (i := 5) sc_law_draw.nd rfl (by first | exact Or.inl rfl | exact Or.inr rfl) (qe_op op_mod (qe_ix ix_list (qv 0) qe_int (fun _ _ => rfl)) (qv 1)))
      (qss_cons (qs_asg (qe_op op_fdiv (qe_ix ix_list (qv 0) qe_int (fun _ _ => rfl)) (qv 1)) (qg_sub (qv 0) qe_int set_list))
      (qss_one (qs_ret (qv 5)))))) ?_
  obtain ⟨ns, p, q, ht, hs, hlen, hp0, hq0⟩ := tp.ex
  have hs' : ∀ o, SqL K (upd H t₁ o) s₁ (ns.map V.int) := fun o => hs.elim (fun z => .inl (rd_upl z.1 z.2.symm)) fun z => z _
  have tap : ∀ (p' q' : Int), 0 ≤ p' → 0 ≤ q' → Tape3 K (upd H t₁ (.lst [.ref s₁, .int p', .int q'])) t₁ s₁ := fun p' q' a b => ⟨ns, p', q', upd_same, hs.elim (fun z => .inl ⟨rd_upl z.1 z.2.symm, z.2⟩) fun z => .inr z, hlen, a, b⟩
  have hl : ((ns.map V.int).length : Int) = (ns.length : Int) := by rw [List.length_map]
  refine ⟨_, rfl, t₁, _, _, _, rfl, rfl, SqL.of ht, rfl, rfl, _, rfl, ?_⟩
  by_cases c0 : q = 0
  · refine iteD1 (by rw [c0]) ?_
    refine ⟨_, rfl, t₁, _, _, _, rfl, rfl, SqL.of ht, rfl, ?_⟩
    refine ⟨_, rfl, _, _, rfl, rfl, _, rfl, t₁, _, _, _, rfl, rfl, ht, rfl, ?_⟩
    refine ⟨_, rfl, ?_⟩
    refine ⟨_, rfl, t₁, _, _, _, rfl, rfl, SqL.of upd_same, rfl, s₁, _, rfl, .inl (hs' _), _, _, rfl, rfl, _, rfl, ?_⟩
    refine ite2 (fun c9 => ?_) (fun _ => ?_)
    · have c8 : (0 : Int) < (ns.length : Int) := by
        have c7 : (0 : Int) < ((ns.map V.int).length : Int) := of_decide_eq_true c9
        rw [hl] at c7; exact c7
      obtain ⟨z, hz⟩ := pickI (ns := ns) (r := p % (ns.length : Int)) (Int.emod_nonneg _ (by omega)) (Int.emod_lt_of_pos _ c8)
      rw [← hl] at hz c8
      refine ⟨_, rfl, t₁, _, _, _, rfl, rfl, SqL.of upd_same, rfl, _, rfl, _, rfl, t₁, _, _, _, rfl, rfl, SqL.of upd_same, rfl, s₁, _, rfl, .inl (hs' _), _, _, rfl, rfl, c8, s₁, _, _, _, rfl, rfl, hs' _, hz, ?_⟩
      refine ⟨_, rfl, _, _, rfl, rfl, ⟨by decide, by decide, by decide⟩, _, _, rfl, rfl, _, rfl, ?_⟩
      refine ite2 (fun _ => ?_) (fun d1 => ?_)
      · refine iteT ?_
        refine ⟨_, rfl, _, _, rfl, rfl, (by show (0 : Int) < _; decide), _, _, rfl, rfl, _, rfl, _, _, rfl, rfl, (by show (0 : Int) < _; decide), _, _, rfl, rfl, .inl ⟨by omega, by omega⟩, _, _, rfl, rfl, _, _, rfl, rfl, .inl ⟨by omega, by omega⟩, _, _, rfl, rfl, (by show (0 : Int) < _; decide), ?_⟩
        refine ⟨_, rfl, _, rfl, _, _, rfl, rfl, .inl ⟨by omega, by omega⟩, _, _, rfl, rfl, _, _, rfl, rfl, .inr ⟨by decide, by decide⟩, _, _, rfl, rfl, (by show (0 : Int) < _; decide), _, _, rfl, rfl, ⟨by decide, by decide⟩, _, rfl, _, _, rfl, rfl, hm0, ?_⟩
        exact k _ _ (Int.emod_nonneg _ (by omega)) (Int.emod_lt_of_pos _ hm0) (tap (p + 1) q (by omega) hq0)
      · refine ⟨_, rfl, _, rfl, t₁, _, _, _, rfl, rfl, SqL.of upd_same, rfl, s₁, _, rfl, .inl (hs' _), _, _, rfl, rfl, _, rfl, ?_⟩
        refine ite2 (fun _ => ?_) (fun _ => ?_)
        · refine ⟨_, rfl, _, _, rfl, rfl, (by show (0 : Int) < _; decide), _, _, rfl, rfl, _, rfl, _, _, rfl, rfl, (by show (0 : Int) < _; decide), _, _, rfl, rfl, .inl ⟨by omega, by omega⟩, _, _, rfl, rfl, _, _, rfl, rfl, .inl ⟨by omega, by omega⟩, _, _, rfl, rfl, (by show (0 : Int) < _; decide), ?_⟩
          refine ⟨_, rfl, _, rfl, _, _, rfl, rfl, .inl ⟨by omega, by omega⟩, _, _, rfl, rfl, _, _, rfl, rfl, .inr ⟨by decide, by decide⟩, _, _, rfl, rfl, (by show (0 : Int) < _; decide), _, _, rfl, rfl, ⟨by decide, by decide⟩, _, rfl, _, _, rfl, rfl, hm0, ?_⟩
          exact k _ _ (Int.emod_nonneg _ (by omega)) (Int.emod_lt_of_pos _ hm0) (tap (p + 1) q (by omega) hq0)
        · have d2 : (0 : Int) ≤ z := by
            have d3 : 1000000000000000000 ≤ z := by simpa using d1
            omega
          refine ⟨_, rfl, _, rfl, t₁, _, _, _, rfl, rfl, upd_same, rfl, ?_⟩
          rw [upd_upd]
          refine ⟨_, rfl, t₁, _, _, _, rfl, rfl, SqL.of upd_same, rfl, _, rfl, _, _, rfl, rfl, hm0, ?_⟩
          refine ⟨_, rfl, t₁, _, _, _, rfl, rfl, SqL.of upd_same, rfl, _, rfl, _, _, rfl, rfl, ⟨hm0, hm1⟩, _, rfl, t₁, _, _, _, rfl, rfl, upd_same, rfl, ?_⟩
          refine ⟨_, rfl, ?_⟩
          rw [upd_upd]
          exact k _ _ (Int.emod_nonneg _ (by omega)) (Int.emod_lt_of_pos _ hm0) (tap (p + 1) (z / m) (by omega) (Int.ediv_nonneg d2 (by omega)))
    · obtain ⟨z, hz⟩ : ∃ z, z = p := ⟨_, rfl⟩
      refine ⟨_, rfl, _, _, rfl, rfl, ⟨by decide, by decide, by decide⟩, _, _, rfl, rfl, _, rfl, ?_⟩
      refine ite2 (fun _ => ?_) (fun d1 => ?_)
      · refine iteT ?_
        refine ⟨_, rfl, _, _, rfl, rfl, (by show (0 : Int) < _; decide), _, _, rfl, rfl, _, rfl, _, _, rfl, rfl, (by show (0 : Int) < _; decide), _, _, rfl, rfl, .inl ⟨by omega, by omega⟩, _, _, rfl, rfl, _, _, rfl, rfl, .inl ⟨by omega, by omega⟩, _, _, rfl, rfl, (by show (0 : Int) < _; decide), ?_⟩
        refine ⟨_, rfl, _, rfl, _, _, rfl, rfl, .inl ⟨by omega, by omega⟩, _, _, rfl, rfl, _, _, rfl, rfl, .inr ⟨by decide, by decide⟩, _, _, rfl, rfl, (by show (0 : Int) < _; decide), _, _, rfl, rfl, ⟨by decide, by decide⟩, _, rfl, _, _, rfl, rfl, hm0, ?_⟩
        exact k _ _ (Int.emod_nonneg _ (by omega)) (Int.emod_lt_of_pos _ hm0) (tap (p + 1) q (by omega) hq0)
      · refine ⟨_, rfl, _, rfl, t₁, _, _, _, rfl, rfl, SqL.of upd_same, rfl, s₁, _, rfl, .inl (hs' _), _, _, rfl, rfl, _, rfl, ?_⟩
        refine ite2 (fun _ => ?_) (fun _ => ?_)
        · refine ⟨_, rfl, _, _, rfl, rfl, (by show (0 : Int) < _; decide), _, _, rfl, rfl, _, rfl, _, _, rfl, rfl, (by show (0 : Int) < _; decide), _, _, rfl, rfl, .inl ⟨by omega, by omega⟩, _, _, rfl, rfl, _, _, rfl, rfl, .inl ⟨by omega, by omega⟩, _, _, rfl, rfl, (by show (0 : Int) < _; decide), ?_⟩
          refine ⟨_, rfl, _, rfl, _, _, rfl, rfl, .inl ⟨by omega, by omega⟩, _, _, rfl, rfl, _, _, rfl, rfl, .inr ⟨by decide, by decide⟩, _, _, rfl, rfl, (by show (0 : Int) < _; decide), _, _, rfl, rfl, ⟨by decide, by decide⟩, _, rfl, _, _, rfl, rfl, hm0, ?_⟩
          exact k _ _ (Int.emod_nonneg _ (by omega)) (Int.emod_lt_of_pos _ hm0) (tap (p + 1) q (by omega) hq0)
        · have d2 : (0 : Int) ≤ p := by
            have d3 : 1000000000000000000 ≤ p := by simpa using d1
            omega
          refine ⟨_, rfl, _, rfl, t₁, _, _, _, rfl, rfl, upd_same, rfl, ?_⟩
          rw [upd_upd]
          refine ⟨_, rfl, t₁, _, _, _, rfl, rfl, SqL.of upd_same, rfl, _, rfl, _, _, rfl, rfl, hm0, ?_⟩
          refine ⟨_, rfl, t₁, _, _, _, rfl, rfl, SqL.of upd_same, rfl, _, rfl, _, _, rfl, rfl, ⟨hm0, hm1⟩, _, rfl, t₁, _, _, _, rfl, rfl, upd_same, rfl, ?_⟩
          refine ⟨_, rfl, ?_⟩
          rw [upd_upd]
          exact k _ _ (Int.emod_nonneg _ (by omega)) (Int.emod_lt_of_pos _ hm0) (tap (p + 1) (p / m) (by omega) (Int.ediv_nonneg d2 (by omega)))
  refine iteD0 (fun z => c0 (by injection z)) ?_
  refine ⟨_, rfl, t₁, _, _, _, rfl, rfl, SqL.of ht, rfl, _, rfl, _, _, rfl, rfl, hm0, ?_⟩
  refine ⟨_, rfl, t₁, _, _, _, rfl, rfl, SqL.of ht, rfl, _, rfl, _, _, rfl, rfl, ⟨hm0, hm1⟩, _, rfl, t₁, _, _, _, rfl, rfl, ht, rfl, ?_⟩
  refine ⟨_, rfl, ?_⟩
  exact k _ _ (Int.emod_nonneg _ (by omega)) (Int.emod_lt_of_pos _ hm0) (tap p (q / m) hp0 (Int.ediv_nonneg hq0 (by omega)))
theorem ok_law_frac (T : Txt K mg t) : FnOk P w K mg base CX0 1 t.a_law_frac t.d_law_frac ["_law_top", "_law_bottom"] (sp_law_frac K) := by
  refine T.F_law_frac.ok sc_law_frac (fun vs H Q E h => ?_) (fun cdv A outer s H vs Q E hr h => ?_)
  · obtain ⟨_, _, rfl, _⟩ := h; rfl
  obtain ⟨a, b, rfl, hb, hz, k⟩ := h
  refine QSs.ok (qss_cons (qs_par (i := 2) (j := 3) rfl sc_law_frac.nd rfl rfl (by decide) rfl rfl (qa_cons (qe_callB call_abs (by rfl) T.z_abs PyProof.Rows.boot_abs (qa_cons (qv 0) qa_nil star_name)) (qa_cons (qv 1) qa_nil star_name) star_call) rfl)
      (qss_cons (qs_while PassesOwn.never (qt_cmpR op_ne (qv 3) qe_int (nomark _))
      (qss_one (qs_par (i := 2) (j := 3) rfl sc_law_frac.nd rfl rfl (by decide) rfl rfl (qa_cons (qv 3) (qa_cons (qe_op op_mod (qv 2) (qv 3)) qa_nil star_bin) star_name) rfl)))
      (qss_one (qs_ret (qe_tup (qa_cons (qe_op op_quo (qv 0) (qv 2)) (qa_cons (qe_op op_quo (qv 1) (qv 2)) qa_nil star_bin) star_bin)))))) ?_
  have gp := gcd_posR (a := a) hb
  have gb := gcd_lt (a := a) hb hz
  refine ⟨_, rfl, _, rfl, _, rfl, _, _, rfl, ?_⟩
  rw [abs_if]
  refine ⟨fun m σ H' => ∃ (x y : Int), σ = [some (.int a), some (.int b), some (.int x), some (.int y)] ∧ H' = H ∧ 0 ≤ x ∧ 0 ≤ y ∧ Int.gcd x y = Int.gcd a b ∧ m = y.toNat, ⟨_, _, _, rfl, rfl, by omega, by omega, (by simp [Int.gcd]), rfl⟩, ?_⟩
  rintro m σ H' ⟨x, y, rfl, rfl, hx, hy, hg, rfl⟩
  refine ⟨_, rfl, rfl, _, rfl, ?_⟩
  by_cases c : y = 0
  · subst c
    refine iteNS rfl ?_
    have e : (x : Int) = (Int.gcd x 0 : Nat) := by simp [Int.gcd]; omega
    rw [hg] at e
    subst e
    exact ⟨_, rfl, _, rfl, _, _, rfl, rfl, ⟨gp, gb⟩, _, rfl, _, rfl, _, _, rfl, rfl, ⟨gp, gb⟩, (by show 2 ≤ sizeLine; decide), fun p hp => k p hp⟩
  · refine iteN1 (fun z => c (by injection z)) ?_
    refine ⟨_, fun _ _ z => z, ?_⟩
    refine ⟨_, rfl, _, rfl, _, rfl, _, _, rfl, rfl, (by omega), _, _, rfl, ?_⟩
    refine ⟨_, ?_, y, x % y, rfl, rfl, hy, Int.emod_nonneg _ c, ?_, rfl⟩
    · have := Int.emod_lt_of_pos x (show 0 < y by omega)
      have := Int.emod_nonneg x c
      omega
    · rw [gcd_turn hx (by omega), hg]
theorem ok_law_add (T : Txt K mg t) : FnOk P w K mg base CX0 2 t.a_law_add t.d_law_add ["_law_one", "_law_other"] (sp_law_add K) := by
  refine T.F_law_add.ok sc_law_add (fun vs H Q E h => ?_) (fun cdv A outer s H vs Q E hr h => ?_)
  · obtain ⟨_, _, _, _, _, _, rfl, _⟩ := h; rfl
  obtain ⟨v, w, r, q, n, m, rfl, hv, hw, wr, wq, hz, k⟩ := h
  refine QSs.ok (qss_one (qs_ret (qe_call (ok_law_frac T) (hr.mono (by decide)) rfl T.m_law_frac T.F_law_frac.kp T.b_law_frac .nil pass0 (qa_cons (qe_op op_add (qe_op op_mulB (qe_ix ix_tup (qv 0) qe_int (fun _ _ => rfl)) (qe_ix ix_tup (qv 1) qe_int (fun _ _ => rfl))) (qe_op op_mulB (qe_ix ix_tup (qv 1) qe_int (fun _ _ => rfl)) (qe_ix ix_tup (qv 0) qe_int (fun _ _ => rfl)))) (qa_cons (qe_op op_mulB (qe_ix ix_tup (qv 0) qe_int (fun _ _ => rfl)) (qe_ix ix_tup (qv 1) qe_int (fun _ _ => rfl))) qa_nil star_bin) star_bin)))) ?_
  obtain ⟨p, rfl, hv⟩ := hv
  obtain ⟨p', rfl, hw⟩ := hw
  have c1 := big_of wr.top (show n ≤ 4000 by omega)
  have c2 := big_of wr.bot (show n ≤ 4000 by omega)
  have c3 := big_of wq.top (show m ≤ 4000 by omega)
  have c4 := big_of wq.bot (show m ≤ 4000 by omega)
  refine ⟨_, rfl, p, _, _, _, rfl, rfl, hv, rfl, _, rfl, p', _, _, _, rfl, rfl, hw, rfl, _, _, rfl, rfl, ⟨c1, c4⟩, _, rfl, p', _, _, _, rfl, rfl, hw, rfl, _, rfl, p, _, _, _, rfl, rfl, hv, rfl, _, _, rfl, rfl, ⟨c3, c2⟩, _, _, rfl, rfl, _, rfl, p, _, _, _, rfl, rfl, hv, rfl, _, rfl, p', _, _, _, rfl, rfl, hw, rfl, _, _, rfl, rfl, ⟨c2, c4⟩, _, _, rfl, Int.mul_pos wr.pos wq.pos, big_of (mul_lt wr.bot wq.bot) (by omega), k⟩
theorem ok_law_less (T : Txt K mg t) : FnOk P w K mg base CX0 1 t.a_law_less t.d_law_less ["_law_one", "_law_other"] (sp_law_less K) := by
  refine T.F_law_less.ok sc_law_less (fun vs H Q E h => ?_) (fun cdv A outer s H vs Q E hr h => ?_)
  · obtain ⟨_, _, _, _, _, _, rfl, _⟩ := h; rfl
  obtain ⟨v, w, r, q, n, m, rfl, hv, hw, wr, wq, hz, k⟩ := h
  refine QSs.ok (qss_one (qs_ret (qe_cmpR op_lt (qe_op op_mulB (qe_ix ix_tup (qv 0) qe_int (fun _ _ => rfl)) (qe_ix ix_tup (qv 1) qe_int (fun _ _ => rfl))) (qe_op op_mulB (qe_ix ix_tup (qv 1) qe_int (fun _ _ => rfl)) (qe_ix ix_tup (qv 0) qe_int (fun _ _ => rfl))) (nomark _)))) ?_
  obtain ⟨p, rfl, hv⟩ := hv
  obtain ⟨p', rfl, hw⟩ := hw
  have c1 := big_of wr.top (show n ≤ 4000 by omega)
  have c2 := big_of wr.bot (show n ≤ 4000 by omega)
  have c3 := big_of wq.top (show m ≤ 4000 by omega)
  have c4 := big_of wq.bot (show m ≤ 4000 by omega)
  refine ⟨_, rfl, p, _, _, _, rfl, rfl, hv, rfl, _, rfl, p', _, _, _, rfl, rfl, hw, rfl, _, _, rfl, rfl, ⟨c1, c4⟩, _, rfl, p', _, _, _, rfl, rfl, hw, rfl, _, rfl, p, _, _, _, rfl, rfl, hv, rfl, _, _, rfl, rfl, ⟨c3, c2⟩, _, _, rfl, rfl, k⟩
theorem ok_law_sum (T : Txt K mg t) : FnOk P w K mg base CX0 3 t.a_law_sum t.d_law_sum ["_law_some"] (sp_law_sum K) := by
  refine T.F_law_sum.ok sc_law_sum (fun vs H Q E h => ?_) (fun cdv A outer s H vs Q E hr h => ?_)
  · obtain ⟨_, _, _, rfl, _⟩ := h; rfl
  obtain ⟨a, xs, rs, rfl, hS, al, wf, hl, k⟩ := h
  refine QSs.ok (qss_cons (qs_set (i := 1) sc_law_sum.nd rfl (by first | exact Or.inl rfl | exact Or.inr rfl) (qe_tup (qa_cons qe_int (qa_cons qe_int qa_nil star_con) star_con)))
      (qss_cons (qs_for PassesOwn.never rfl (qi_seq (qv 0)) (qg_name (i := 2) sc_law_sum.nd rfl (by first | exact Or.inl rfl | exact Or.inr rfl))
      (qss_one (qs_set (i := 1) sc_law_sum.nd rfl (by first | exact Or.inl rfl | exact Or.inr rfl) (qe_call (ok_law_add T) (hr.mono (by decide)) rfl T.m_law_add T.F_law_add.kp T.b_law_add .nil pass0 (qa_cons (qv 1) (qa_cons (qv 2) qa_nil star_name) star_name)))))
      (qss_one (qs_ret (qv 1))))) ?_
  have hlen := al.len
  refine ⟨(by show 2 ≤ sizeLine; decide), fun p0 hp0 => ?_⟩
  have s0 := same_new hp0 (.tup [.int 0, .int 1])
  rcases hS with hS | hS
  · refine ⟨_, rfl, .inl ⟨a, rfl, ⟨_, s0.seq hS⟩, for_list (K := K) (a := a) (xs := xs) (fun i σ H' => ∃ (u : V) (x3 : Option V), σ = [some (.ref a), some u, x3] ∧ Same H H' ∧ RV K H' u (sumR (rs.take i)) ∧ Wf (1 + 111 * i) (sumR (rs.take i))) ⟨_, none, rfl, s0, RV.of upd_same, zero_wf⟩ (fun i σ H1 _ ⟨_, _, _, s1, _⟩ => s1.seq hS) ?_ ?_⟩⟩
    · rintro i y σ H1 hi ⟨u, x3, rfl, s1, ru, wu⟩
      obtain ⟨r, hr, rv⟩ := al.at hi
      have wr := wf r (List.mem_of_getElem? hr)
      have hil := (List.getElem?_eq_some_iff.mp hr).1
      have e : sumR (rs.take (i + 1)) = plusR (sumR (rs.take i)) r := by
        unfold sumR
        rw [List.take_add_one, hr, List.foldl_append]
        rfl
      refine ⟨_, rfl, _, rfl, u, y, sumR (rs.take i), r, 1 + 111 * i, 110, rfl, ru, rv.mono (Tst.same s1), wu, wr, by omega, fun p hp => ?_⟩
      have s2 := same_new hp (.tup [.int (plusR (sumR (rs.take i)) r).1, .int (plusR (sumR (rs.take i)) r).2])
      refine ⟨_, _, rfl, s1.trans s2, ?_, ?_⟩
      · rw [e]; exact RV.of upd_same
      · rw [e]; exact (plus_wf wu wr).mono (by omega)
    · rintro σ H1 ⟨u, x3, rfl, s1, ru, wu⟩
      rw [hlen, List.take_length] at ru
      exact ⟨_, rfl, k u H1 s1 ru⟩
  · refine ⟨_, rfl, .inr ⟨a, rfl, ⟨_, Tst.same (K := K) s0 _ _ hS⟩, for_tup (K := K) (a := a) (xs := xs) (fun i σ H' => ∃ (u : V) (x3 : Option V), σ = [some (.ref a), some u, x3] ∧ Same H H' ∧ RV K H' u (sumR (rs.take i)) ∧ Wf (1 + 111 * i) (sumR (rs.take i))) ⟨_, none, rfl, s0, RV.of upd_same, zero_wf⟩ (fun i σ H1 _ ⟨_, _, _, s1, _⟩ => Tst.same (K := K) s1 _ _ hS) ?_ ?_⟩⟩
    · rintro i y σ H1 hi ⟨u, x3, rfl, s1, ru, wu⟩
      obtain ⟨r, hr, rv⟩ := al.at hi
      have wr := wf r (List.mem_of_getElem? hr)
      have hil := (List.getElem?_eq_some_iff.mp hr).1
      have e : sumR (rs.take (i + 1)) = plusR (sumR (rs.take i)) r := by
        unfold sumR
        rw [List.take_add_one, hr, List.foldl_append]
        rfl
      refine ⟨_, rfl, _, rfl, u, y, sumR (rs.take i), r, 1 + 111 * i, 110, rfl, ru, rv.mono (Tst.same s1), wu, wr, by omega, fun p hp => ?_⟩
      have s2 := same_new hp (.tup [.int (plusR (sumR (rs.take i)) r).1, .int (plusR (sumR (rs.take i)) r).2])
      refine ⟨_, _, rfl, s1.trans s2, ?_, ?_⟩
      · rw [e]; exact RV.of upd_same
      · rw [e]; exact (plus_wf wu wr).mono (by omega)
    · rintro σ H1 ⟨u, x3, rfl, s1, ru, wu⟩
      rw [hlen, List.take_length] at ru
      exact ⟨_, rfl, k u H1 s1 ru⟩
theorem ok_law_works (T : Txt K mg t) : FnOk P w K mg base CX0 2 t.a_law_works t.d_law_works ["_law_tape_here", "_law_many"] (sp_law_works K) := by
  refine T.F_law_works.ok sc_law_works (fun vs H Q E h => ?_) (fun cdv A outer s H vs Q E hr h => ?_)
  · obtain ⟨_, _, _, rfl, _⟩ := h; rfl
  obtain ⟨t₁, s₁, m, rfl, tp, hm, k⟩ := h
  refine QSs.ok (qss_cons (qs_set (i := 2) sc_law_works.nd rfl (by first | exact Or.inl rfl | exact Or.inr rfl) (qe_ix ix_list (qe_lst (qa_cons qe_int (qa_cons qe_int (qa_cons qe_int (qa_cons qe_int qa_nil star_con) star_con) star_con) star_con)) (qe_call (ok_law_draw T) (hr.mono (by decide)) rfl T.m_law_draw T.F_law_draw.kp T.b_law_draw .nil pass0 (qa_cons (qv 0) (qa_cons qe_int qa_nil star_con) star_name)) (fun _ _ => rfl)))
      (qss_cons (qs_set (i := 3) sc_law_works.nd rfl (by first | exact Or.inl rfl | exact Or.inr rfl) (qe_lst qa_nil))
      (qss_cons (qs_for PassesOwn.never rfl (qi_range1 rfl T.z_range (qa_cons (qv 1) qa_nil star_name)) (qg_name (i := 4) sc_law_works.nd rfl (by first | exact Or.inl rfl | exact Or.inr rfl))
      (qss_cons (qs_set (i := 5) sc_law_works.nd rfl (by first | exact Or.inl rfl | exact Or.inr rfl) (qe_call (ok_law_draw T) (hr.mono (by decide)) rfl T.m_law_draw T.F_law_draw.kp T.b_law_draw .nil pass0 (qa_cons (qv 0) (qa_cons (qv 2) qa_nil star_name) star_name)))
      (qss_cons (qs_set (i := 6) sc_law_works.nd rfl (by first | exact Or.inl rfl | exact Or.inr rfl) (qe_op op_add (qv 5) (qe_call (ok_law_draw T) (hr.mono (by decide)) rfl T.m_law_draw T.F_law_draw.kp T.b_law_draw .nil pass0 (qa_cons (qv 0) (qa_cons (qe_op op_sub (qv 2) (qv 5)) qa_nil star_bin) star_name))))
      (qss_cons (qs_set (i := 7) sc_law_works.nd rfl (by first | exact Or.inl rfl | exact Or.inr rfl) (qe_call (ok_law_draw T) (hr.mono (by decide)) rfl T.m_law_draw T.F_law_draw.kp T.b_law_draw .nil pass0 (qa_cons (qv 0) (qa_cons qe_int qa_nil star_con) star_name)))
      (qss_cons (qs_if (qt_cmpR op_eq (qv 7) qe_int (nomark _)) (qss_one (qs_set (i := 6) sc_law_works.nd rfl (by first | exact Or.inl rfl | exact Or.inr rfl) (qv 5))) qss_nil)
      (qss_cons (qs_if (qt_cmpR op_eq (qv 7) qe_int (nomark _)) (qss_one (qs_par (i := 5) (j := 6) rfl sc_law_works.nd rfl rfl (by decide) rfl rfl (qa_cons qe_int (qa_cons (qe_op op_sub (qv 2) qe_int) qa_nil star_bin) star_con) rfl)) qss_nil)
      (qss_cons (qs_if (qw_pt (qw_and (qt_cmpR op_eq (qv 7) qe_int (nomark _)) (qw_and1 (qt_cmpR op_gt (qv 4) qe_int (nomark _))))) (qss_one (qs_asg (qe_slice sl_tupU (qe_ix ix_list (qv 3) (qe_call (ok_law_draw T) (hr.mono (by decide)) rfl T.m_law_draw T.F_law_draw.kp T.b_law_draw .nil pass0 (qa_cons (qv 0) (qa_cons (qv 4) qa_nil star_name) star_name)) (fun _ _ => rfl)) qo_none (qo_some qe_int)) (qg_tup rfl (qgs_cons (qg_name (i := 5) sc_law_works.nd rfl (by first | exact Or.inl rfl | exact Or.inr rfl)) (qgs_cons (qg_name (i := 6) sc_law_works.nd rfl (by first | exact Or.inl rfl | exact Or.inr rfl)) qgs_nil))))) qss_nil)
      (qss_one (qs_expr (qe_bm PySem.F.plainAttrs_list PySem.F.slot_list_append PySem.F.type_list_append mt_append (qv 3) (qa_cons (qe_tup (qa_cons (qv 5) (qa_cons (qv 6) (qa_cons (qe_call (ok_law_frac T) (hr.mono (by decide)) rfl T.m_law_frac T.F_law_frac.kp T.b_law_frac .nil pass0 (qa_cons (qe_op op_add qe_int (qe_call (ok_law_draw T) (hr.mono (by decide)) rfl T.m_law_draw T.F_law_draw.kp T.b_law_draw .nil pass0 (qa_cons (qv 0) (qa_cons qe_int qa_nil star_con) star_name))) (qa_cons (qe_ix ix_list (qe_lst (qa_cons qe_int (qa_cons qe_int (qa_cons qe_int (qa_cons qe_int (qa_cons qe_int (qa_cons qe_int qa_nil star_con) star_con) star_con) star_con) star_con) star_con)) (qe_call (ok_law_draw T) (hr.mono (by decide)) rfl T.m_law_draw T.F_law_draw.kp T.b_law_draw .nil pass0 (qa_cons (qv 0) (qa_cons qe_int qa_nil star_con) star_name)) (fun _ _ => rfl)) qa_nil star_sub) star_bin)) qa_nil star_call) star_name) star_name)) qa_nil star_tup)))))))))))
      (qss_one (qs_ret (qe_callTy call_tuple_of (by rfl) T.z_tuple PyProof.Rows.boot_tuple (qa_cons (qv 3) qa_nil star_name))))))) ?_
  obtain ⟨y0, e0⟩ := tp.lst
  refine ⟨(by show 4 ≤ sizeLine; decide), fun le hle => ?_⟩
  have nle : le ≠ t₁ := fun z => by subst z; rw [e0] at hle; cases hle
  have s0 := same_new hle (.lst [.int 3, .int 7, .int 12, .int 24])
  have T0 := tp.new hle (.lst [.int 3, .int 7, .int 12, .int 24])
  have h00 : upd H le (.lst [.int 3, .int 7, .int 12, .int 24]) le = some (.lst [.int 3, .int 7, .int 12, .int 24]) := upd_same
  generalize upd H le (.lst [.int 3, .int 7, .int 12, .int 24]) = H0 at T0 s0 h00 ⊢
  obtain ⟨y00, e00⟩ := T0.lst
  refine ⟨_, rfl, t₁, s₁, 4, rfl, T0, by omega, by omega, fun r0 x0_ a0 b0 T0 => ?_⟩
  have S0 : Step t₁ H (upd H0 t₁ (.lst x0_)) := (Step.same s0 tp.lst).trans (Step.up e00)
  have h01 : upd H0 t₁ (.lst x0_) le = some (.lst [.int 3, .int 7, .int 12, .int 24]) := by rw [upd_ne nle]; exact h00
  generalize upd H0 t₁ (.lst x0_) = HA at T0 S0 h01 ⊢
  rename_i T0'
  obtain ⟨en, hen, en1, en2⟩ : ∃ e : Nat, atI [V.int 3, .int 7, .int 12, .int 24] r0 = some (.int e) ∧ 3 ≤ e ∧ e ≤ 24 := by
    rcases (show r0 = 0 ∨ r0 = 1 ∨ r0 = 2 ∨ r0 = 3 by omega) with rfl | rfl | rfl | rfl
    · exact ⟨3, rfl, by decide, by decide⟩
    · exact ⟨7, rfl, by decide, by decide⟩
    · exact ⟨12, rfl, by decide, by decide⟩
    · exact ⟨24, rfl, by decide, by decide⟩
  refine ⟨le, _, _, _, rfl, rfl, SqL.of h01, hen, ?_⟩
  refine ⟨(by show 0 ≤ sizeLine; exact Nat.zero_le _), fun lw hlw0 => ?_⟩
  obtain ⟨yA, eA⟩ := T0.lst
  have nl : lw ≠ t₁ := fun z => by subst z; rw [eA] at hlw0; cases hlw0
  have nls := T0.off hlw0
  refine ⟨_, rfl, m, rfl, by omega, by omega, for_range (lo := 0) (n := (m : Int).toNat) (fun i σ H' => ∃ (xs : List V) (ws : List Wk) (x5 x6 x7 x8 : Option V), σ = [some (.ref t₁), some (.int m), some (.int en), some (.ref lw), x5, x6, x7, x8] ∧ Tape3 K H' t₁ s₁ ∧ (∀ b o, b ≠ t₁ → HA b = some o → H' b = some o) ∧ H' lw = some (.lst xs) ∧ Als (WkV K H') xs ws ∧ ws.length = i ∧ ∀ w ∈ ws, WkS w) ⟨[], [], none, none, none, none, rfl, T0.new hlw0 _, (fun b o _ q => same_new hlw0 _ _ _ q), upd_same, .nil, rfl, fun w hw => by cases hw⟩ ?_ ?_⟩
  · rintro i σ H1 hi ⟨xs, ws, x5, x6, x7, x8, rfl, T1, kp, hlw, alw, hlen, okw⟩
    rw [Int.zero_add]
    obtain ⟨y1, e1⟩ := T1.lst
    refine ⟨_, rfl, _, rfl, t₁, s₁, en, rfl, T1, by omega, by omega, fun r2 x2_ a2 b2 T2 => ?_⟩
    obtain ⟨ff, rfl⟩ := Int.eq_ofNat_of_zero_le a2
    have S2 : Step t₁ H1 _ := Step.up (ys := x2_) e1
    generalize upd H1 t₁ (.lst x2_) = H2 at T2 S2 ⊢
    obtain ⟨y2, e2⟩ := T2.lst
    refine ⟨_, rfl, _, rfl, _, rfl, _, rfl, _, _, rfl, rfl, t₁, s₁, (en : Int) - ff, rfl, T2, by omega, by omega, fun r3 x3_ a3 b3 T3 => ?_⟩
    have S3 := S2.trans (Step.up (ys := x3_) e2)
    generalize upd H2 t₁ (.lst x3_) = H3 at T3 S3 ⊢
    obtain ⟨y3, e3⟩ := T3.lst
    refine ⟨_, _, rfl, rfl, ?_⟩
    obtain ⟨la, hla⟩ : ∃ la : Nat, (ff : Int) + r3 = (la : Nat) := ⟨((ff : Int) + r3).toNat, by omega⟩
    dsimp only
    rw [hla]
    refine ⟨_, rfl, t₁, s₁, 7, rfl, T3, by omega, by omega, fun r4 x4_ a4 b4 T4 => ?_⟩
    have S4 := S3.trans (Step.up (ys := x4_) e3)
    generalize hHH : upd H3 t₁ (.lst x4_) = HH at T4 S4 ⊢
    have kp4 := S4.keep
    have tst4 : Tst K H1 HH := Tst.step S4
    refine ⟨_, rfl, rfl, _, rfl, ?_⟩
    by_cases c0 : r4 = 0
    · subst c0
      refine iteD1 rfl ?_
      refine ⟨_, rfl, ?_⟩
      refine ⟨_, rfl, rfl, _, rfl, iteD0 (by intro z; cases z) ?_⟩
      refine ⟨_, rfl, rfl, _, rfl, iteF (iteF ?_)⟩
      obtain ⟨y4, e4⟩ := T4.lst
      have hlw4 : HH lw = some (.lst xs) := kp4 _ _ nl hlw
      refine ⟨_, rfl, .inl ⟨rfl, _, SqL.of hlw4⟩, ?_⟩
      refine ⟨_, rfl, _, rfl, _, rfl, t₁, s₁, 12, rfl, T4, by omega, by omega, fun r5 x5_ a5 b5 T5 => ?_⟩
      have S5 : Step t₁ HH _ := Step.up (ys := x5_) e4
      generalize upd HH t₁ (.lst x5_) = H5 at T5 S5 ⊢
      obtain ⟨y5, e5⟩ := T5.lst
      refine ⟨_, _, rfl, rfl, (by show 6 ≤ sizeLine; decide), fun l6 h6 => ?_⟩
      have S6 := S5.trans (Step.new T5.lst h6 (.lst [.int 1, .int 1, .int 2, .int 3, .int 4, .int 7]))
      have n6 : l6 ≠ t₁ := fun z => by subst z; rw [e5] at h6; cases h6
      have T6' := T5.new h6 (.lst [.int 1, .int 1, .int 2, .int 3, .int 4, .int 7])
      obtain ⟨y6, e6⟩ := T6'.lst
      have h6' : upd H5 l6 (.lst [.int 1, .int 1, .int 2, .int 3, .int 4, .int 7]) l6 = some (.lst [.int 1, .int 1, .int 2, .int 3, .int 4, .int 7]) := upd_same
      generalize upd H5 l6 (.lst [.int 1, .int 1, .int 2, .int 3, .int 4, .int 7]) = H6 at T6' S6 e6 h6' ⊢
      refine ⟨_, rfl, t₁, s₁, 6, rfl, T6', by omega, by omega, fun r7 x7_ a7 b7 T7 => ?_⟩
      have S7 := S6.trans (Step.up (ys := x7_) e6)
      have h67 : upd H6 t₁ (.lst x7_) l6 = some (.lst [.int 1, .int 1, .int 2, .int 3, .int 4, .int 7]) := by rw [upd_ne n6]; exact h6'
      generalize upd H6 t₁ (.lst x7_) = H7 at T7 S7 h67 ⊢
      obtain ⟨bb, hbb, bo1, bo2, bo3⟩ : ∃ b : Int, atI [V.int 1, .int 1, .int 2, .int 3, .int 4, .int 7] r7 = some (.int b) ∧ 1 ≤ b ∧ b ≤ 7 ∧ b ∣ 84 := by
        rcases (show r7 = 0 ∨ r7 = 1 ∨ r7 = 2 ∨ r7 = 3 ∨ r7 = 4 ∨ r7 = 5 by omega) with rfl | rfl | rfl | rfl | rfl | rfl
        · exact ⟨1, rfl, by decide, by decide, by decide⟩
        · exact ⟨1, rfl, by decide, by decide, by decide⟩
        · exact ⟨2, rfl, by decide, by decide, by decide⟩
        · exact ⟨3, rfl, by decide, by decide, by decide⟩
        · exact ⟨4, rfl, by decide, by decide, by decide⟩
        · exact ⟨7, rfl, by decide, by decide, by decide⟩
      refine ⟨l6, _, _, _, rfl, rfl, SqL.of h67, hbb, ?_⟩
      refine ⟨1 + r5, bb, rfl, by omega, big_of (n := 3) (by show bb.natAbs < 8; omega) (by decide), fun pf hpf => ?_⟩
      have am := amS_mk (a := 1 + r5) (by omega) (by omega) bo1 bo2 bo3
      have s8 := same_new hpf (.tup [.int (mkR (1 + r5) bb).1, .int (mkR (1 + r5) bb).2])
      have rf : RV K _ (.ref pf) (mkR (1 + r5) bb) := ⟨pf, rfl, SqT.of (upd_same (H := H7) (a := pf) (o := .tup [.int (mkR (1 + r5) bb).1, .int (mkR (1 + r5) bb).2]))⟩
      have T8 := T7.same s8
      generalize upd H7 pf (.tup [.int (mkR (1 + r5) bb).1, .int (mkR (1 + r5) bb).2]) = H8 at T8 s8 rf ⊢
      refine ⟨(by show 3 ≤ sizeLine; decide), fun pw hpw => ?_⟩
      have s9 := same_new hpw (.tup [.int (ff : Nat), .int (ff : Nat), .ref pf])
      have hpw9 : SqT K _ pw [.int (ff : Nat), .int (ff : Nat), .ref pf] := SqT.of (upd_same (H := H8) (a := pw) (o := .tup [.int (ff : Nat), .int (ff : Nat), .ref pf]))
      have T9 := T8.same s9
      have rf9 := rf.mono (Tst.same (K := K) s9)
      generalize upd H8 pw (.tup [.int (ff : Nat), .int (ff : Nat), .ref pf]) = H9 at T9 s9 rf9 hpw9 ⊢
      have S9 := S7.trans (Step.same (s8.trans s9) T7.lst)
      have hlw9 := S9.keep _ _ nl hlw4
      refine ⟨lw, xs, _, rfl, rfl, hlw9, small1000 (by rw [alw.len]; omega), ?_⟩
      have t9 : Tst K H1 (upd H9 lw (.lst (xs ++ [.ref pw]))) := (tst4.trans (Tst.step S9)).trans (Tst.up hlw9 _)
      refine ⟨_, ws ++ [(ff, ff, mkR (1 + r5) bb)], _, _, _, _, rfl, T9.upl nl nls _, fun b o nb q => ?_, upd_same, (alw.mono fun v d m => m.mono t9).snoc ⟨pw, .ref pf, rfl, Tst.up (K := K) hlw9 _ _ _ hpw9, rf9.mono (Tst.up hlw9 _)⟩, by rw [List.length_append, hlen]; rfl, fun z hz => ?_⟩
      · rw [upd_ne (ne_of_none q hlw0)]
        exact S9.keep _ _ nb (kp4 _ _ nb (kp b o nb q))
      · rcases List.mem_append.mp hz with h | h
        · exact okw z h
        · rw [List.mem_singleton] at h
          subst h
          exact ⟨by show ff ≤ ff; omega, by show ff < 24; omega, am⟩
    refine iteD0 (fun z => c0 (by injection z)) ?_
    refine ⟨_, rfl, rfl, _, rfl, ?_⟩
    by_cases c1 : r4 = 1
    · subst c1
      refine iteD1 rfl ?_
      refine ⟨_, rfl, _, _, rfl, rfl, _, _, rfl, ?_⟩
      refine ⟨_, rfl, rfl, _, rfl, iteF (iteF ?_)⟩
      dsimp only
      rw [show (en : Int) - 1 = ((en - 1 : Nat) : Int) by omega]
      obtain ⟨y4, e4⟩ := T4.lst
      have hlw4 : HH lw = some (.lst xs) := kp4 _ _ nl hlw
      refine ⟨_, rfl, .inl ⟨rfl, _, SqL.of hlw4⟩, ?_⟩
      refine ⟨_, rfl, _, rfl, _, rfl, t₁, s₁, 12, rfl, T4, by omega, by omega, fun r5 x5_ a5 b5 T5 => ?_⟩
      have S5 : Step t₁ HH _ := Step.up (ys := x5_) e4
      generalize upd HH t₁ (.lst x5_) = H5 at T5 S5 ⊢
      obtain ⟨y5, e5⟩ := T5.lst
      refine ⟨_, _, rfl, rfl, (by show 6 ≤ sizeLine; decide), fun l6 h6 => ?_⟩
      have S6 := S5.trans (Step.new T5.lst h6 (.lst [.int 1, .int 1, .int 2, .int 3, .int 4, .int 7]))
      have n6 : l6 ≠ t₁ := fun z => by subst z; rw [e5] at h6; cases h6
      have T6' := T5.new h6 (.lst [.int 1, .int 1, .int 2, .int 3, .int 4, .int 7])
      obtain ⟨y6, e6⟩ := T6'.lst
      have h6' : upd H5 l6 (.lst [.int 1, .int 1, .int 2, .int 3, .int 4, .int 7]) l6 = some (.lst [.int 1, .int 1, .int 2, .int 3, .int 4, .int 7]) := upd_same
      generalize upd H5 l6 (.lst [.int 1, .int 1, .int 2, .int 3, .int 4, .int 7]) = H6 at T6' S6 e6 h6' ⊢
      refine ⟨_, rfl, t₁, s₁, 6, rfl, T6', by omega, by omega, fun r7 x7_ a7 b7 T7 => ?_⟩
      have S7 := S6.trans (Step.up (ys := x7_) e6)
      have h67 : upd H6 t₁ (.lst x7_) l6 = some (.lst [.int 1, .int 1, .int 2, .int 3, .int 4, .int 7]) := by rw [upd_ne n6]; exact h6'
      generalize upd H6 t₁ (.lst x7_) = H7 at T7 S7 h67 ⊢
      obtain ⟨bb, hbb, bo1, bo2, bo3⟩ : ∃ b : Int, atI [V.int 1, .int 1, .int 2, .int 3, .int 4, .int 7] r7 = some (.int b) ∧ 1 ≤ b ∧ b ≤ 7 ∧ b ∣ 84 := by
        rcases (show r7 = 0 ∨ r7 = 1 ∨ r7 = 2 ∨ r7 = 3 ∨ r7 = 4 ∨ r7 = 5 by omega) with rfl | rfl | rfl | rfl | rfl | rfl
        · exact ⟨1, rfl, by decide, by decide, by decide⟩
        · exact ⟨1, rfl, by decide, by decide, by decide⟩
        · exact ⟨2, rfl, by decide, by decide, by decide⟩
        · exact ⟨3, rfl, by decide, by decide, by decide⟩
        · exact ⟨4, rfl, by decide, by decide, by decide⟩
        · exact ⟨7, rfl, by decide, by decide, by decide⟩
      refine ⟨l6, _, _, _, rfl, rfl, SqL.of h67, hbb, ?_⟩
      refine ⟨1 + r5, bb, rfl, by omega, big_of (n := 3) (by show bb.natAbs < 8; omega) (by decide), fun pf hpf => ?_⟩
      have am := amS_mk (a := 1 + r5) (by omega) (by omega) bo1 bo2 bo3
      have s8 := same_new hpf (.tup [.int (mkR (1 + r5) bb).1, .int (mkR (1 + r5) bb).2])
      have rf : RV K _ (.ref pf) (mkR (1 + r5) bb) := ⟨pf, rfl, SqT.of (upd_same (H := H7) (a := pf) (o := .tup [.int (mkR (1 + r5) bb).1, .int (mkR (1 + r5) bb).2]))⟩
      have T8 := T7.same s8
      generalize upd H7 pf (.tup [.int (mkR (1 + r5) bb).1, .int (mkR (1 + r5) bb).2]) = H8 at T8 s8 rf ⊢
      refine ⟨(by show 3 ≤ sizeLine; decide), fun pw hpw => ?_⟩
      have s9 := same_new hpw (.tup [.int (0 : Nat), .int ((en - 1) : Nat), .ref pf])
      have hpw9 : SqT K _ pw [.int (0 : Nat), .int ((en - 1) : Nat), .ref pf] := SqT.of (upd_same (H := H8) (a := pw) (o := .tup [.int (0 : Nat), .int ((en - 1) : Nat), .ref pf]))
      have T9 := T8.same s9
      have rf9 := rf.mono (Tst.same (K := K) s9)
      generalize upd H8 pw (.tup [.int (0 : Nat), .int ((en - 1) : Nat), .ref pf]) = H9 at T9 s9 rf9 hpw9 ⊢
      have S9 := S7.trans (Step.same (s8.trans s9) T7.lst)
      have hlw9 := S9.keep _ _ nl hlw4
      refine ⟨lw, xs, _, rfl, rfl, hlw9, small1000 (by rw [alw.len]; omega), ?_⟩
      have t9 : Tst K H1 (upd H9 lw (.lst (xs ++ [.ref pw]))) := (tst4.trans (Tst.step S9)).trans (Tst.up hlw9 _)
      refine ⟨_, ws ++ [(0, (en - 1), mkR (1 + r5) bb)], _, _, _, _, rfl, T9.upl nl nls _, fun b o nb q => ?_, upd_same, (alw.mono fun v d m => m.mono t9).snoc ⟨pw, .ref pf, rfl, Tst.up (K := K) hlw9 _ _ _ hpw9, rf9.mono (Tst.up hlw9 _)⟩, by rw [List.length_append, hlen]; rfl, fun z hz => ?_⟩
      · rw [upd_ne (ne_of_none q hlw0)]
        exact S9.keep _ _ nb (kp4 _ _ nb (kp b o nb q))
      · rcases List.mem_append.mp hz with h | h
        · exact okw z h
        · rw [List.mem_singleton] at h
          subst h
          exact ⟨by show 0 ≤ (en - 1); omega, by show (en - 1) < 24; omega, am⟩
    refine iteD0 (fun z => c1 (by injection z)) ?_
    refine ⟨_, rfl, rfl, _, rfl, ?_⟩
    by_cases c2 : r4 = 2
    · subst c2
      refine iteT ?_
      refine ⟨_, rfl, _, _, rfl, rfl, _, rfl, ?_⟩
      by_cases ci : 0 < i
      · refine iteD1 (by omega) ?_
        obtain ⟨y4, e4⟩ := T4.lst
        have hlw4 : HH lw = some (.lst xs) := kp4 _ _ nl hlw
        refine ⟨_, rfl, _, rfl, _, rfl, t₁, s₁, i, rfl, T4, by omega, by omega, fun r9 x9_ a9 b9 T9 => ?_⟩
        have S9' := S4.trans (Step.up (ys := x9_) e4)
        have hlwN : upd HH t₁ (.lst x9_) lw = some (.lst xs) := by rw [upd_ne nl]; exact hlw4
        clear hHH kp4 tst4 T4
        generalize upd HH t₁ (.lst x9_) = HN at T9 S9' hlwN ⊢
        obtain ⟨j, rfl⟩ := Int.eq_ofNat_of_zero_le a9
        obtain ⟨xw, hxw⟩ : ∃ xw, xs[j]? = some xw := ⟨_, List.getElem?_eq_getElem (by rw [alw.len]; omega)⟩
        obtain ⟨w, hw, pw0, xa, rfl, hSw, ra⟩ := alw.at hxw
        have okw0 := okw w (List.mem_of_getElem? hw)
        have hSwN := Tst.step (K := K) S9' _ _ hSw
        refine ⟨lw, _, _, _, rfl, rfl, SqL.of hlwN, atI_nat hxw, ?_⟩
        refine ⟨_, rfl, pw0, _, rfl, hSwN, fun pc HQ sQ hpc => ?_⟩
        rw [show cutV [V.int (w.1 : Nat), V.int (w.2.1 : Nat), xa] none (some 2) = [V.int (w.1 : Nat), V.int (w.2.1 : Nat)] from cut_to (n := 2) (by show 2 ≤ 3; decide)] at hpc
        refine ⟨pc, _, rfl, hpc, rfl, _, _, rfl, _, _, rfl, rfl, ?_⟩
        have S4 := S9'.trans (Step.same sQ T9.lst)
        have T4 := T9.same sQ
        have kp4 := S4.keep
        have tst4 : Tst K H1 HQ := Tst.step S4
        have lew := okw0.le
        have ltw := okw0.lt
        obtain ⟨wf, wl, wr⟩ := w
        replace lew : wf ≤ wl := lew
        replace ltw : wl < 24 := ltw
        clear e4 y4 hlw4
        obtain ⟨y4, e4⟩ := T4.lst
        have hlw4 : HQ lw = some (.lst xs) := kp4 _ _ nl hlw
        refine ⟨_, rfl, .inl ⟨rfl, _, SqL.of hlw4⟩, ?_⟩
        refine ⟨_, rfl, _, rfl, _, rfl, t₁, s₁, 12, rfl, T4, by omega, by omega, fun r5 x5_ a5 b5 T5 => ?_⟩
        have S5 : Step t₁ HQ _ := Step.up (ys := x5_) e4
        generalize upd HQ t₁ (.lst x5_) = H5 at T5 S5 ⊢
        obtain ⟨y5, e5⟩ := T5.lst
        refine ⟨_, _, rfl, rfl, (by show 6 ≤ sizeLine; decide), fun l6 h6 => ?_⟩
        have S6 := S5.trans (Step.new T5.lst h6 (.lst [.int 1, .int 1, .int 2, .int 3, .int 4, .int 7]))
        have n6 : l6 ≠ t₁ := fun z => by subst z; rw [e5] at h6; cases h6
        have T6' := T5.new h6 (.lst [.int 1, .int 1, .int 2, .int 3, .int 4, .int 7])
        obtain ⟨y6, e6⟩ := T6'.lst
        have h6' : upd H5 l6 (.lst [.int 1, .int 1, .int 2, .int 3, .int 4, .int 7]) l6 = some (.lst [.int 1, .int 1, .int 2, .int 3, .int 4, .int 7]) := upd_same
        generalize upd H5 l6 (.lst [.int 1, .int 1, .int 2, .int 3, .int 4, .int 7]) = H6 at T6' S6 e6 h6' ⊢
        refine ⟨_, rfl, t₁, s₁, 6, rfl, T6', by omega, by omega, fun r7 x7_ a7 b7 T7 => ?_⟩
        have S7 := S6.trans (Step.up (ys := x7_) e6)
        have h67 : upd H6 t₁ (.lst x7_) l6 = some (.lst [.int 1, .int 1, .int 2, .int 3, .int 4, .int 7]) := by rw [upd_ne n6]; exact h6'
        generalize upd H6 t₁ (.lst x7_) = H7 at T7 S7 h67 ⊢
        obtain ⟨bb, hbb, bo1, bo2, bo3⟩ : ∃ b : Int, atI [V.int 1, .int 1, .int 2, .int 3, .int 4, .int 7] r7 = some (.int b) ∧ 1 ≤ b ∧ b ≤ 7 ∧ b ∣ 84 := by
          rcases (show r7 = 0 ∨ r7 = 1 ∨ r7 = 2 ∨ r7 = 3 ∨ r7 = 4 ∨ r7 = 5 by omega) with rfl | rfl | rfl | rfl | rfl | rfl
          · exact ⟨1, rfl, by decide, by decide, by decide⟩
          · exact ⟨1, rfl, by decide, by decide, by decide⟩
          · exact ⟨2, rfl, by decide, by decide, by decide⟩
          · exact ⟨3, rfl, by decide, by decide, by decide⟩
          · exact ⟨4, rfl, by decide, by decide, by decide⟩
          · exact ⟨7, rfl, by decide, by decide, by decide⟩
        refine ⟨l6, _, _, _, rfl, rfl, SqL.of h67, hbb, ?_⟩
        refine ⟨1 + r5, bb, rfl, by omega, big_of (n := 3) (by show bb.natAbs < 8; omega) (by decide), fun pf hpf => ?_⟩
        have am := amS_mk (a := 1 + r5) (by omega) (by omega) bo1 bo2 bo3
        have s8 := same_new hpf (.tup [.int (mkR (1 + r5) bb).1, .int (mkR (1 + r5) bb).2])
        have rf : RV K _ (.ref pf) (mkR (1 + r5) bb) := ⟨pf, rfl, SqT.of (upd_same (H := H7) (a := pf) (o := .tup [.int (mkR (1 + r5) bb).1, .int (mkR (1 + r5) bb).2]))⟩
        have T8 := T7.same s8
        generalize upd H7 pf (.tup [.int (mkR (1 + r5) bb).1, .int (mkR (1 + r5) bb).2]) = H8 at T8 s8 rf ⊢
        refine ⟨(by show 3 ≤ sizeLine; decide), fun pw hpw => ?_⟩
        have s9 := same_new hpw (.tup [.int (wf : Nat), .int (wl : Nat), .ref pf])
        have hpw9 : SqT K _ pw [.int (wf : Nat), .int (wl : Nat), .ref pf] := SqT.of (upd_same (H := H8) (a := pw) (o := .tup [.int (wf : Nat), .int (wl : Nat), .ref pf]))
        have T9 := T8.same s9
        have rf9 := rf.mono (Tst.same (K := K) s9)
        generalize upd H8 pw (.tup [.int (wf : Nat), .int (wl : Nat), .ref pf]) = H9 at T9 s9 rf9 hpw9 ⊢
        have S9 := S7.trans (Step.same (s8.trans s9) T7.lst)
        have hlw9 := S9.keep _ _ nl hlw4
        refine ⟨lw, xs, _, rfl, rfl, hlw9, small1000 (by rw [alw.len]; omega), ?_⟩
        have t9 : Tst K H1 (upd H9 lw (.lst (xs ++ [.ref pw]))) := (tst4.trans (Tst.step S9)).trans (Tst.up hlw9 _)
        refine ⟨_, ws ++ [(wf, wl, mkR (1 + r5) bb)], _, _, _, _, rfl, T9.upl nl nls _, fun b o nb q => ?_, upd_same, (alw.mono fun v d m => m.mono t9).snoc ⟨pw, .ref pf, rfl, Tst.up (K := K) hlw9 _ _ _ hpw9, rf9.mono (Tst.up hlw9 _)⟩, by rw [List.length_append, hlen]; rfl, fun z hz => ?_⟩
        · rw [upd_ne (ne_of_none q hlw0)]
          exact S9.keep _ _ nb (kp4 _ _ nb (kp b o nb q))
        · rcases List.mem_append.mp hz with h | h
          · exact okw z h
          · rw [List.mem_singleton] at h
            subst h
            exact ⟨by show wf ≤ wl; omega, by show wl < 24; omega, am⟩
      · refine iteD0 (by omega) ?_
        obtain ⟨y4, e4⟩ := T4.lst
        have hlw4 : HH lw = some (.lst xs) := kp4 _ _ nl hlw
        refine ⟨_, rfl, .inl ⟨rfl, _, SqL.of hlw4⟩, ?_⟩
        refine ⟨_, rfl, _, rfl, _, rfl, t₁, s₁, 12, rfl, T4, by omega, by omega, fun r5 x5_ a5 b5 T5 => ?_⟩
        have S5 : Step t₁ HH _ := Step.up (ys := x5_) e4
        generalize upd HH t₁ (.lst x5_) = H5 at T5 S5 ⊢
        obtain ⟨y5, e5⟩ := T5.lst
        refine ⟨_, _, rfl, rfl, (by show 6 ≤ sizeLine; decide), fun l6 h6 => ?_⟩
        have S6 := S5.trans (Step.new T5.lst h6 (.lst [.int 1, .int 1, .int 2, .int 3, .int 4, .int 7]))
        have n6 : l6 ≠ t₁ := fun z => by subst z; rw [e5] at h6; cases h6
        have T6' := T5.new h6 (.lst [.int 1, .int 1, .int 2, .int 3, .int 4, .int 7])
        obtain ⟨y6, e6⟩ := T6'.lst
        have h6' : upd H5 l6 (.lst [.int 1, .int 1, .int 2, .int 3, .int 4, .int 7]) l6 = some (.lst [.int 1, .int 1, .int 2, .int 3, .int 4, .int 7]) := upd_same
        generalize upd H5 l6 (.lst [.int 1, .int 1, .int 2, .int 3, .int 4, .int 7]) = H6 at T6' S6 e6 h6' ⊢
        refine ⟨_, rfl, t₁, s₁, 6, rfl, T6', by omega, by omega, fun r7 x7_ a7 b7 T7 => ?_⟩
        have S7 := S6.trans (Step.up (ys := x7_) e6)
        have h67 : upd H6 t₁ (.lst x7_) l6 = some (.lst [.int 1, .int 1, .int 2, .int 3, .int 4, .int 7]) := by rw [upd_ne n6]; exact h6'
        generalize upd H6 t₁ (.lst x7_) = H7 at T7 S7 h67 ⊢
        obtain ⟨bb, hbb, bo1, bo2, bo3⟩ : ∃ b : Int, atI [V.int 1, .int 1, .int 2, .int 3, .int 4, .int 7] r7 = some (.int b) ∧ 1 ≤ b ∧ b ≤ 7 ∧ b ∣ 84 := by
          rcases (show r7 = 0 ∨ r7 = 1 ∨ r7 = 2 ∨ r7 = 3 ∨ r7 = 4 ∨ r7 = 5 by omega) with rfl | rfl | rfl | rfl | rfl | rfl
          · exact ⟨1, rfl, by decide, by decide, by decide⟩
          · exact ⟨1, rfl, by decide, by decide, by decide⟩
          · exact ⟨2, rfl, by decide, by decide, by decide⟩
          · exact ⟨3, rfl, by decide, by decide, by decide⟩
          · exact ⟨4, rfl, by decide, by decide, by decide⟩
          · exact ⟨7, rfl, by decide, by decide, by decide⟩
        refine ⟨l6, _, _, _, rfl, rfl, SqL.of h67, hbb, ?_⟩
        refine ⟨1 + r5, bb, rfl, by omega, big_of (n := 3) (by show bb.natAbs < 8; omega) (by decide), fun pf hpf => ?_⟩
        have am := amS_mk (a := 1 + r5) (by omega) (by omega) bo1 bo2 bo3
        have s8 := same_new hpf (.tup [.int (mkR (1 + r5) bb).1, .int (mkR (1 + r5) bb).2])
        have rf : RV K _ (.ref pf) (mkR (1 + r5) bb) := ⟨pf, rfl, SqT.of (upd_same (H := H7) (a := pf) (o := .tup [.int (mkR (1 + r5) bb).1, .int (mkR (1 + r5) bb).2]))⟩
        have T8 := T7.same s8
        generalize upd H7 pf (.tup [.int (mkR (1 + r5) bb).1, .int (mkR (1 + r5) bb).2]) = H8 at T8 s8 rf ⊢
        refine ⟨(by show 3 ≤ sizeLine; decide), fun pw hpw => ?_⟩
        have s9 := same_new hpw (.tup [.int (ff : Nat), .int (la : Nat), .ref pf])
        have hpw9 : SqT K _ pw [.int (ff : Nat), .int (la : Nat), .ref pf] := SqT.of (upd_same (H := H8) (a := pw) (o := .tup [.int (ff : Nat), .int (la : Nat), .ref pf]))
        have T9 := T8.same s9
        have rf9 := rf.mono (Tst.same (K := K) s9)
        generalize upd H8 pw (.tup [.int (ff : Nat), .int (la : Nat), .ref pf]) = H9 at T9 s9 rf9 hpw9 ⊢
        have S9 := S7.trans (Step.same (s8.trans s9) T7.lst)
        have hlw9 := S9.keep _ _ nl hlw4
        refine ⟨lw, xs, _, rfl, rfl, hlw9, small1000 (by rw [alw.len]; omega), ?_⟩
        have t9 : Tst K H1 (upd H9 lw (.lst (xs ++ [.ref pw]))) := (tst4.trans (Tst.step S9)).trans (Tst.up hlw9 _)
        refine ⟨_, ws ++ [(ff, la, mkR (1 + r5) bb)], _, _, _, _, rfl, T9.upl nl nls _, fun b o nb q => ?_, upd_same, (alw.mono fun v d m => m.mono t9).snoc ⟨pw, .ref pf, rfl, Tst.up (K := K) hlw9 _ _ _ hpw9, rf9.mono (Tst.up hlw9 _)⟩, by rw [List.length_append, hlen]; rfl, fun z hz => ?_⟩
        · rw [upd_ne (ne_of_none q hlw0)]
          exact S9.keep _ _ nb (kp4 _ _ nb (kp b o nb q))
        · rcases List.mem_append.mp hz with h | h
          · exact okw z h
          · rw [List.mem_singleton] at h
            subst h
            exact ⟨by show ff ≤ la; omega, by show la < 24; omega, am⟩
    refine iteD0 (fun z => c2 (by injection z)) (iteF ?_)
    obtain ⟨y4, e4⟩ := T4.lst
    have hlw4 : HH lw = some (.lst xs) := kp4 _ _ nl hlw
    refine ⟨_, rfl, .inl ⟨rfl, _, SqL.of hlw4⟩, ?_⟩
    refine ⟨_, rfl, _, rfl, _, rfl, t₁, s₁, 12, rfl, T4, by omega, by omega, fun r5 x5_ a5 b5 T5 => ?_⟩
    have S5 : Step t₁ HH _ := Step.up (ys := x5_) e4
    generalize upd HH t₁ (.lst x5_) = H5 at T5 S5 ⊢
    obtain ⟨y5, e5⟩ := T5.lst
    refine ⟨_, _, rfl, rfl, (by show 6 ≤ sizeLine; decide), fun l6 h6 => ?_⟩
    have S6 := S5.trans (Step.new T5.lst h6 (.lst [.int 1, .int 1, .int 2, .int 3, .int 4, .int 7]))
    have n6 : l6 ≠ t₁ := fun z => by subst z; rw [e5] at h6; cases h6
    have T6' := T5.new h6 (.lst [.int 1, .int 1, .int 2, .int 3, .int 4, .int 7])
    obtain ⟨y6, e6⟩ := T6'.lst
    have h6' : upd H5 l6 (.lst [.int 1, .int 1, .int 2, .int 3, .int 4, .int 7]) l6 = some (.lst [.int 1, .int 1, .int 2, .int 3, .int 4, .int 7]) := upd_same
    generalize upd H5 l6 (.lst [.int 1, .int 1, .int 2, .int 3, .int 4, .int 7]) = H6 at T6' S6 e6 h6' ⊢
    refine ⟨_, rfl, t₁, s₁, 6, rfl, T6', by omega, by omega, fun r7 x7_ a7 b7 T7 => ?_⟩
    have S7 := S6.trans (Step.up (ys := x7_) e6)
    have h67 : upd H6 t₁ (.lst x7_) l6 = some (.lst [.int 1, .int 1, .int 2, .int 3, .int 4, .int 7]) := by rw [upd_ne n6]; exact h6'
    generalize upd H6 t₁ (.lst x7_) = H7 at T7 S7 h67 ⊢
    obtain ⟨bb, hbb, bo1, bo2, bo3⟩ : ∃ b : Int, atI [V.int 1, .int 1, .int 2, .int 3, .int 4, .int 7] r7 = some (.int b) ∧ 1 ≤ b ∧ b ≤ 7 ∧ b ∣ 84 := by
      rcases (show r7 = 0 ∨ r7 = 1 ∨ r7 = 2 ∨ r7 = 3 ∨ r7 = 4 ∨ r7 = 5 by omega) with rfl | rfl | rfl | rfl | rfl | rfl
      · exact ⟨1, rfl, by decide, by decide, by decide⟩
      · exact ⟨1, rfl, by decide, by decide, by decide⟩
      · exact ⟨2, rfl, by decide, by decide, by decide⟩
      · exact ⟨3, rfl, by decide, by decide, by decide⟩
      · exact ⟨4, rfl, by decide, by decide, by decide⟩
      · exact ⟨7, rfl, by decide, by decide, by decide⟩
    refine ⟨l6, _, _, _, rfl, rfl, SqL.of h67, hbb, ?_⟩
    refine ⟨1 + r5, bb, rfl, by omega, big_of (n := 3) (by show bb.natAbs < 8; omega) (by decide), fun pf hpf => ?_⟩
    have am := amS_mk (a := 1 + r5) (by omega) (by omega) bo1 bo2 bo3
    have s8 := same_new hpf (.tup [.int (mkR (1 + r5) bb).1, .int (mkR (1 + r5) bb).2])
    have rf : RV K _ (.ref pf) (mkR (1 + r5) bb) := ⟨pf, rfl, SqT.of (upd_same (H := H7) (a := pf) (o := .tup [.int (mkR (1 + r5) bb).1, .int (mkR (1 + r5) bb).2]))⟩
    have T8 := T7.same s8
    generalize upd H7 pf (.tup [.int (mkR (1 + r5) bb).1, .int (mkR (1 + r5) bb).2]) = H8 at T8 s8 rf ⊢
    refine ⟨(by show 3 ≤ sizeLine; decide), fun pw hpw => ?_⟩
    have s9 := same_new hpw (.tup [.int (ff : Nat), .int (la : Nat), .ref pf])
    have hpw9 : SqT K _ pw [.int (ff : Nat), .int (la : Nat), .ref pf] := SqT.of (upd_same (H := H8) (a := pw) (o := .tup [.int (ff : Nat), .int (la : Nat), .ref pf]))
    have T9 := T8.same s9
    have rf9 := rf.mono (Tst.same (K := K) s9)
    generalize upd H8 pw (.tup [.int (ff : Nat), .int (la : Nat), .ref pf]) = H9 at T9 s9 rf9 hpw9 ⊢
    have S9 := S7.trans (Step.same (s8.trans s9) T7.lst)
    have hlw9 := S9.keep _ _ nl hlw4
    refine ⟨lw, xs, _, rfl, rfl, hlw9, small1000 (by rw [alw.len]; omega), ?_⟩
    have t9 : Tst K H1 (upd H9 lw (.lst (xs ++ [.ref pw]))) := (tst4.trans (Tst.step S9)).trans (Tst.up hlw9 _)
    refine ⟨_, ws ++ [(ff, la, mkR (1 + r5) bb)], _, _, _, _, rfl, T9.upl nl nls _, fun b o nb q => ?_, upd_same, (alw.mono fun v d m => m.mono t9).snoc ⟨pw, .ref pf, rfl, Tst.up (K := K) hlw9 _ _ _ hpw9, rf9.mono (Tst.up hlw9 _)⟩, by rw [List.length_append, hlen]; rfl, fun z hz => ?_⟩
    · rw [upd_ne (ne_of_none q hlw0)]
      exact S9.keep _ _ nb (kp4 _ _ nb (kp b o nb q))
    · rcases List.mem_append.mp hz with h | h
      · exact okw z h
      · rw [List.mem_singleton] at h
        subst h
        exact ⟨by show ff ≤ la; omega, by show la < 24; omega, am⟩
  · rintro σ H1 ⟨xs, ws, x5, x6, x7, x8, rfl, T1, kp, hlw, alw, hlen, okw⟩
    refine ⟨_, rfl, lw, _, rfl, .inl ⟨SqL.of hlw, fun p hp => ?_⟩⟩
    have s5 := same_new hp (.tup xs)
    exact k (.ref p) ws _ ((S0.trans ⟨kp, T0.lst, T1.lst⟩).trans (Step.same s5 T1.lst)) (T1.same s5) ⟨p, xs, rfl, SqT.of upd_same, alw.mono fun _ _ q => q.mono (Tst.same s5)⟩ (by rw [hlen]; omega) okw
theorem ok_law_least_rise (T : Txt K mg t) : FnOk P w K mg base CX0 6 t.a_law_least_rise t.d_law_least_rise ["_law_works_here", "_law_more"] (sp_law_least_rise K) := by
  refine T.F_law_least_rise.ok sc_law_least_rise (fun vs H Q E h => ?_) (fun cdv A outer s H vs Q E hr h => ?_)
  · obtain ⟨_, _, _, _, rfl, _⟩ := h; rfl
  obtain ⟨v, w, ws, ws2, rfl, wv, wv2, hw, hw2, ok, ok2, D, k⟩ := h
  refine QSs.ok (qss_cons (qs_set (i := 2) sc_law_least_rise.nd rfl (by first | exact Or.inl rfl | exact Or.inr rfl) (qe_call (ok_layer_speeds T) (hr.mono (by decide)) rfl T.m_layer_speeds T.F_layer_speeds.kp T.b_layer_speeds .nil pass0 (qa_cons (qv 0) qa_nil star_name)))
      (qss_cons (qs_set (i := 3) sc_law_least_rise.nd rfl (by first | exact Or.inl rfl | exact Or.inr rfl) (qe_call (ok_layer_speeds T) (hr.mono (by decide)) rfl T.m_layer_speeds T.F_layer_speeds.kp T.b_layer_speeds .nil pass0 (qa_cons (qv 1) qa_nil star_name)))
      (qss_cons (qs_if (qw_pt (qw_or (qt_cmpR op_ne (qe_callB call_len_seq (by rfl) T.z_len PySem.boot_len (qa_cons (qv 2) qa_nil star_name)) qe_int (nomark _)) (qw_or1 (qt_cmpR op_ne (qe_callB call_len_seq (by rfl) T.z_len PySem.boot_len (qa_cons (qv 3) qa_nil star_name)) qe_int (nomark _))))) (qss_one (qs_ret qe_bl)) qss_nil)
      (qss_cons (qs_if (qt_cmpR (op_neD hr) (qe_call (ok_law_sum T) (hr.mono (by decide)) rfl T.m_law_sum T.F_law_sum.kp T.b_law_sum .nil pass0 (qa_cons (qv 3) qa_nil star_name)) (qe_call (ok_law_sum T) (hr.mono (by decide)) rfl T.m_law_sum T.F_law_sum.kp T.b_law_sum .nil pass0 (qa_cons (qe_lcomp (N' := ["_law_work"]) (src := [none]) rfl (by exact (qi_tup (qv 1))) (fun _ _ _ _ _ => (by exact (by exact qg_name (i := 0) (by show List.Nodup (["_law_work"] : List Str); decide +kernel) (by exact rfl) (by first | exact Or.inl rfl | exact Or.inr rfl)))) (fun _ _ _ _ _ => qts_nil) (fun _ _ _ _ _ => (by exact (by exact (qe_ix (ix_tupK (K := K) (by exact rfl)) (by exact (qv 0)) qe_int (by exact fun _ _ => rfl))))) (by exact trivial) rfl (by decide +kernel) rfl (by decide +kernel) (by exact cells_of rfl trivial)) qa_nil star_lc)) (nomark _)) (qss_one (qs_ret qe_bl)) qss_nil)
      (qss_one (qs_ret (qe_cmpR op_notIn_seq qe_bl (qe_lcomp (N' := ["_law_turn", "_law_fast", "_law_slow"]) (src := [none, some 3, some 2]) rfl (by exact (qi_range1 rfl T.z_range (qa_cons qe_int qa_nil star_con))) (fun _ _ _ _ _ => (by exact (by exact qg_name (i := 0) (by show List.Nodup (["_law_turn", "_law_fast", "_law_slow"] : List Str); decide +kernel) (by exact rfl) (by first | exact Or.inl rfl | exact Or.inr rfl)))) (fun _ _ _ _ _ => qts_nil) (fun _ _ _ _ _ => (by exact (by exact (qe_call (ok_law_less T) (by exact hr.mono (by decide)) (by exact rfl) T.m_law_less T.F_law_less.kp T.b_law_less (by exact .nil) (by exact pass0) (qa_cons (by exact (qe_ix (ix_tupK (K := K) (by exact rfl)) (by exact (qv 1)) (by exact (qv 0)) (by exact fun _ _ => rfl))) (qa_cons (by exact (qe_ix (ix_tupK (K := K) (by exact rfl)) (by exact (qv 2)) (by exact (qv 0)) (by exact fun _ _ => rfl))) qa_nil star_sub) star_sub))))) (by exact ⟨rfl, rfl, rfl, rfl, ⟨rfl, rfl, rfl, rfl, trivial⟩⟩) rfl (by decide +kernel) rfl (by decide +kernel) (by exact cells_of rfl ⟨rfl, ⟨rfl, trivial⟩⟩)) (by with_unfolding_all rfl)))))))) ?_
  refine ⟨_, rfl, v, ws, rfl, wv, by omega, ok, fun p1 xs1 lys1 H1 s1 hp1 al1 ly1 lok1 => ?_⟩
  refine ⟨_, rfl, w, ws2, rfl, wv2.mono (Tst.same s1), by omega, ok2, fun p2 xs2 lys2 H2 s2 hp2 al2 ly2 lok2 => ?_⟩
  have s02 := s1.trans s2
  have hp1' := Tst.same (K := K) s2 _ _ hp1
  have l1 := al1.len
  have l2 := al2.len
  rw [sps_24] at l1 l2
  refine ⟨_, rfl, p1, _, rfl, .inr hp1', rfl, _, rfl, iteNS (by rw [l1]; rfl) ?_⟩
  refine ⟨_, rfl, p2, _, rfl, .inr hp2, rfl, _, rfl, iteNS (by rw [l2]; rfl) ?_⟩
  refine ⟨_, rfl, p2, xs2, _, rfl, .inr hp2, al2, sps_wf ok2 hw2 lok2, by rw [sps_24]; decide, fun va H3 s3 rva => ?_⟩
  obtain ⟨pw, xw, rfl, hpw, alw⟩ := id wv2
  have s03 := s02.trans s3
  have t3 := Tst.same (K := K) s03
  refine ⟨_, rfl, pw, rfl, ⟨_, t3 _ _ hpw⟩, fun E hE => comp_mapT (K := K) (P := RV K) (ds := ws2) (f := fun w : Wk => w.2.2) (fun _ _ _ _ t p => p.mono t) hE (t3 _ _ hpw) alw.len (by omega) (fun i x d H' hx hd s' R E kR => ?_) fun H4 ys4 s4 hE4 al4 => ?_⟩
  · obtain ⟨d', hd', pz, xz, rfl, hSz, rx⟩ := alw.at hx
    rw [hd] at hd'
    cases hd'
    have t' := Tst.same (K := K) (s03.trans s')
    exact ⟨Ext.set rfl, _, rfl, pz, _, _, _, rfl, rfl, t' _ _ hSz, rfl, kR _ _ (Same.refl _) (rx.mono t')⟩
  have wf4 : ∀ r ∈ ws2.map (fun w : Wk => w.2.2), Wf 110 r := fun r hr => by
    obtain ⟨z, hz, rfl⟩ := List.mem_map.mp hr
    exact (ok2 z hz).am.wf.mono (by decide)
  refine ⟨E, ys4, _, rfl, .inl (SqL.of hE4), al4, wf4, by rw [List.length_map]; omega, fun vb H5 s5 rvb => ?_⟩
  rw [← sps_sum ok2 hw2 lok2 ly2] at rvb
  refine ⟨_, _, (rva.mono (Tst.same (s4.trans s5))).deep, rvb.deep, dR_lay _, dR_lay _, dR_depth _, ?_⟩
  rw [eqv_same]
  refine ⟨_, rfl, iteF ?_⟩
  have s25 := (s3.trans s4).trans s5
  have t5 := Tst.same (K := K) s25
  have bads : ∀ i, i < 24 → lessR ((spsM ws2 lys2).getD i (0, 1)) ((spsM ws lys1).getD i (0, 1)) = false := fun i hi => by
    have r1 : ∀ {zs : List Wk} {lz : List Ly}, (∀ r ∈ spsM zs lz, Wf 110 r) → 0 < ((spsM zs lz).getD i (0, 1)).2 := fun {zs lz} h => by
      have hi' : i < (spsM zs lz).length := by rw [sps_24]; exact hi
      rw [getD_of (0, 1) (List.getElem?_eq_getElem hi')]
      exact (h _ (List.getElem_mem hi')).pos
    refine (val_not (r1 (sps_wf ok2 hw2 lok2)) (r1 (sps_wf ok hw lok1))).mpr ?_
    rw [sps_val ly1 hi, sps_val ly2 hi]
    exact sp_up ok ok2 ly1 ly2 D hi
  refine ⟨24, rfl, by decide, by decide, fun F hF => comp_ix (wlk_rng (lo := 0) (n := 24)) (fun _ => true) (fun i => V.bl (lessR ((spsM ws2 lys2).getD i (0, 1)) ((spsM ws lys1).getD i (0, 1)))) hF (by decide) (fun i x H' hi s' hx R E kR kE => ?_) fun H6 s6 h6 => ?_⟩
  · subst hx
    rw [Int.zero_add]
    have t' := Tst.same (K := K) (s25.trans s')
    have i1 : i < (spsM ws lys1).length := by rw [sps_24]; exact hi
    have i2 : i < (spsM ws2 lys2).length := by rw [sps_24]; exact hi
    obtain ⟨x1, hx1, rv1⟩ := als_at al1 i1
    obtain ⟨x2, hx2, rv2⟩ := als_at al2 i2
    have kk := kR rfl _ (Same.refl _)
    rw [getD_of (0, 1) (List.getElem?_eq_getElem i1), getD_of (0, 1) (List.getElem?_eq_getElem i2)] at kk
    exact ⟨Ext.set rfl, _, rfl, _, rfl, p2, _, _, _, rfl, rfl, t' _ _ hp2, atI_nat hx2, _, rfl, _, rfl, p1, _, _, _, rfl, rfl, t' _ _ hp1', atI_nat hx1, x2, x1, _, _, 110, 110, rfl, rv2.mono t', (rv1.mono (Tst.same s2)).mono t', sps_wf ok2 hw2 lok2 _ (List.getElem_mem i2), sps_wf ok hw lok1 _ (List.getElem_mem i1), by decide, kk⟩
  have e6 : (((List.range 24).filter fun _ => true).map fun i => V.bl (lessR ((spsM ws2 lys2).getD i (0, 1)) ((spsM ws lys1).getD i (0, 1)))) = (((List.range 24).filter fun _ => true).map fun i => lessR ((spsM ws2 lys2).getD i (0, 1)) ((spsM ws lys1).getD i (0, 1))).map V.bl := by rw [List.map_map]; rfl
  rw [e6] at h6
  refine ⟨F, _, rfl, .inl (SqL.of h6), rfl, flat_bl _, ?_⟩
  rw [in_bl fun b hb => by
    obtain ⟨i, hi, rfl⟩ := List.mem_map.mp hb
    exact bads i (List.mem_range.mp (List.mem_filter.mp hi).1)]
  exact k _ ((s02.trans s25).trans s6)
theorem ok_law_most (T : Txt K mg t) : FnOk P w K mg base CX0 6 t.a_law_most t.d_law_most ["_law_works_here"] (sp_law_most K) := by
  refine T.F_law_most.ok sc_law_most (fun vs H Q E h => ?_) (fun cdv A outer s H vs Q E hr h => ?_)
  · obtain ⟨_, _, rfl, _⟩ := h; rfl
  obtain ⟨v, ws, rfl, wv, hw, ok, k⟩ := h
  refine QSs.ok (qss_cons (qs_set (i := 1) sc_law_most.nd rfl (by first | exact Or.inl rfl | exact Or.inr rfl) (qe_tup (qa_cons qe_int (qa_cons qe_int qa_nil star_con) star_con)))
      (qss_cons (qs_for PassesOwn.never rfl (qi_tup (qe_call (ok_layer_speeds T) (hr.mono (by decide)) rfl T.m_layer_speeds T.F_layer_speeds.kp T.b_layer_speeds .nil pass0 (qa_cons (qv 0) qa_nil star_name))) (qg_name (i := 2) sc_law_most.nd rfl (by first | exact Or.inl rfl | exact Or.inr rfl))
      (qss_one (qs_set (i := 1) sc_law_most.nd rfl (by first | exact Or.inl rfl | exact Or.inr rfl) (qe_ifExp (qt_val (qe_call (ok_law_less T) (hr.mono (by decide)) rfl T.m_law_less T.F_law_less.kp T.b_law_less .nil pass0 (qa_cons (qv 1) (qa_cons (qv 2) qa_nil star_name) star_name))) (qv 2) (qv 1)))))
      (qss_one (qs_ret (qv 1))))) ?_
  refine ⟨(by show 2 ≤ sizeLine; decide), fun p0 hp0 => ?_⟩
  have s0 := same_new hp0 (.tup [.int 0, .int 1])
  have rz : RV K (upd H p0 (.tup [.int 0, .int 1])) (.ref p0) (0, 1) := RV.of upd_same
  generalize upd H p0 (.tup [.int 0, .int 1]) = H0 at s0 rz ⊢
  refine ⟨_, rfl, v, ws, rfl, wv.mono (Tst.same s0), by omega, ok, fun p1 xs1 lys H1 s1 hp1 al1 ly lok => ?_⟩
  have l1 := al1.len
  rw [sps_24] at l1
  have wfs := sps_wf ok hw lok
  refine ⟨p1, rfl, ⟨_, hp1⟩, for_tup (K := K) (a := p1) (xs := xs1) (fun i σ H' => ∃ (u : V) (r : R) (x3 : Option V), σ = [some v, some u, x3] ∧ Same H1 H' ∧ RV K H' u r ∧ Wf 110 r ∧ (∀ t, t < i → spV ws lys t ≤ val r) ∧ 0 ≤ val r ∧ (val r = 0 ∨ ∃ t, t < 24 ∧ val r = spV ws lys t)) ⟨_, (0, 1), none, rfl, Same.refl _, rz.mono (Tst.same s1), zero_wf.mono (by decide), (fun t ht => absurd ht (Nat.not_lt_zero _)), by rw [val_nought]; exact Rat.le_refl, .inl val_nought⟩ (fun i σ H' _ ⟨_, _, _, _, s, _⟩ => Tst.same (K := K) s _ _ hp1) ?_ ?_⟩
  · rintro i x σ H2 hx ⟨u, r, x3, rfl, s2, ru, wu, mx, nn, is⟩
    obtain ⟨d, hd, rv⟩ := al1.at hx
    have wd := wfs d (List.mem_of_getElem? hd)
    have hi : i < 24 := by have := (List.getElem?_eq_some_iff.mp hx).1; omega
    have ed : val d = spV ws lys i := by
      rw [← sps_val ly hi (0, 1), getD_of (0, 1) hd]
    have rv2 := rv.mono (Tst.same (K := K) s2)
    refine ⟨_, rfl, _, rfl, u, x, r, d, 110, 110, rfl, ru, rv2, wu, wd, by decide, ?_⟩
    cases c : lessR r d with
    | true =>
      have lt := (val_less wu.pos wd.pos).mp c
      refine ⟨_, rfl, iteT ⟨_, rfl, ?_⟩⟩
      refine ⟨x, d, _, rfl, s2, rv2, wd, fun t ht => ?_, by grind, .inr ⟨i, hi, ed⟩⟩
      by_cases z : t = i
      · subst z; rw [ed]; exact Rat.le_refl
      · have := mx t (by omega)
        grind
    | false =>
      have le := (val_not wu.pos wd.pos).mp c
      refine ⟨_, rfl, iteF ⟨_, rfl, ?_⟩⟩
      refine ⟨u, r, _, rfl, s2, ru, wu, fun t ht => ?_, nn, is⟩
      by_cases z : t = i
      · subst z; rw [← ed]; exact le
      · exact mx t (by omega)
  · rintro σ H2 ⟨u, r, x3, rfl, s2, ru, wu, mx, nn, is⟩
    rw [l1] at mx
    exact ⟨_, rfl, k u r lys H2 ((s0.trans s1).trans s2) ru wu ly mx nn is⟩
theorem ok_law (T : Txt K mg t) : FnOk P w K mg base CX0 7 t.a_law t.d_law ["_law_script"] (sp_law K) := by
  refine T.F_law.ok sc_law (fun vs H Q E h => ?_) (fun cdv A outer s H vs Q E hr h => ?_)
  · obtain ⟨_, _, rfl, _⟩ := h; rfl
  obtain ⟨a, ns, rfl, hS, hl, k⟩ := h
  refine QSs.ok (qss_cons (qs_set (i := 1) sc_law.nd rfl (by first | exact Or.inl rfl | exact Or.inr rfl) (qe_call (ok_law_tape T) (hr.mono (by decide)) rfl T.m_law_tape T.F_law_tape.kp T.b_law_tape .nil pass0 (qa_cons (qv 0) qa_nil star_name)))
      (qss_cons (qs_for PassesOwn.never rfl (qi_range1 rfl T.z_range (qa_cons qe_int qa_nil star_con)) (qg_name (i := 2) sc_law.nd rfl (by first | exact Or.inl rfl | exact Or.inr rfl))
      (qss_cons (qs_set (i := 3) sc_law.nd rfl (by first | exact Or.inl rfl | exact Or.inr rfl) (qe_call (ok_law_works T) (hr.mono (by decide)) rfl T.m_law_works T.F_law_works.kp T.b_law_works .nil pass0 (qa_cons (qv 1) (qa_cons (qe_call (ok_law_draw T) (hr.mono (by decide)) rfl T.m_law_draw T.F_law_draw.kp T.b_law_draw .nil pass0 (qa_cons (qv 1) (qa_cons qe_int qa_nil star_con) star_name)) qa_nil star_call) star_name)))
      (qss_cons (qs_for PassesOwn.never rfl (qi_tup (qe_call (ok_law_works T) (hr.mono (by decide)) rfl T.m_law_works T.F_law_works.kp T.b_law_works .nil pass0 (qa_cons (qv 1) (qa_cons qe_int qa_nil star_con) star_name))) (qg_name (i := 4) sc_law.nd rfl (by first | exact Or.inl rfl | exact Or.inr rfl))
      (qss_cons (qs_set (i := 5) sc_law.nd rfl (by first | exact Or.inl rfl | exact Or.inr rfl) (qe_call (ok_law_draw T) (hr.mono (by decide)) rfl T.m_law_draw T.F_law_draw.kp T.b_law_draw .nil pass0 (qa_cons (qv 1) (qa_cons (qe_op op_add (qe_callB call_len_seq (by rfl) T.z_len PySem.boot_len (qa_cons (qv 3) qa_nil star_name)) qe_int) qa_nil star_bin) star_name)))
      (qss_one (qs_if (qt_not (qt_val (qe_call (ok_law_least_rise T) (hr.mono (by decide)) rfl T.m_law_least_rise T.F_law_least_rise.kp T.b_law_least_rise .nil pass0 (qa_cons (qv 3) (qa_cons (qe_op op_catU (qe_op op_catU (qe_slice sl_tupU (qv 3) qo_none (qo_some (qv 5))) (qe_tup (qa_cons (qv 4) qa_nil star_name))) (qe_slice sl_tupU (qv 3) (qo_some (qv 5)) qo_none)) qa_nil star_bin) star_name)))) (qss_one (qs_ret qe_bl)) qss_nil))))
      (qss_one (qs_for PassesOwn.never rfl (qi_range1 rfl T.z_range (qa_cons (qe_callB call_len_seq (by rfl) T.z_len PySem.boot_len (qa_cons (qv 3) qa_nil star_name)) qa_nil star_call)) (qg_name (i := 5) sc_law.nd rfl (by first | exact Or.inl rfl | exact Or.inr rfl))
      (qss_cons (qs_asg (qe_ix ix_tup (qv 3) (qv 5) (fun _ _ => rfl)) (qg_tup rfl (qgs_cons (qg_name (i := 6) sc_law.nd rfl (by first | exact Or.inl rfl | exact Or.inr rfl)) (qgs_cons (qg_name (i := 7) sc_law.nd rfl (by first | exact Or.inl rfl | exact Or.inr rfl)) (qgs_cons (qg_name (i := 8) sc_law.nd rfl (by first | exact Or.inl rfl | exact Or.inr rfl)) qgs_nil)))))
      (qss_cons (qs_set (i := 9) sc_law.nd rfl (by first | exact Or.inl rfl | exact Or.inr rfl) (qe_tup (qa_cons (qv 6) (qa_cons (qv 7) (qa_cons (qe_call (ok_law_add T) (hr.mono (by decide)) rfl T.m_law_add T.F_law_add.kp T.b_law_add .nil pass0 (qa_cons (qv 8) (qa_cons (qe_tup (qa_cons qe_int (qa_cons (qe_op op_add qe_int (qe_call (ok_law_draw T) (hr.mono (by decide)) rfl T.m_law_draw T.F_law_draw.kp T.b_law_draw .nil pass0 (qa_cons (qv 1) (qa_cons qe_int qa_nil star_con) star_name))) qa_nil star_bin) star_con)) qa_nil star_tup) star_name)) qa_nil star_call) star_name) star_name)))
      (qss_cons (qs_if (qt_not (qt_val (qe_call (ok_law_least_rise T) (hr.mono (by decide)) rfl T.m_law_least_rise T.F_law_least_rise.kp T.b_law_least_rise .nil pass0 (qa_cons (qv 3) (qa_cons (qe_op op_catU (qe_op op_catU (qe_slice sl_tupU (qv 3) qo_none (qo_some (qv 5))) (qe_tup (qa_cons (qv 9) qa_nil star_name))) (qe_slice sl_tupU (qv 3) (qo_some (qe_op op_add (qv 5) qe_int)) qo_none)) qa_nil star_bin) star_name)))) (qss_one (qs_ret qe_bl)) qss_nil)
      (qss_cons (qs_set (i := 10) sc_law.nd rfl (by first | exact Or.inl rfl | exact Or.inr rfl) (qe_tup (qa_cons (qe_callB (call_max2 rfl) (by rfl) T.z_max PyProof.Rows.boot_max (qa_cons qe_int (qa_cons (qe_op op_sub (qv 6) qe_int) qa_nil star_bin) star_con)) (qa_cons (qe_callB (call_min2 rfl) (by rfl) T.z_min PyProof.Rows.boot_min (qa_cons qe_int (qa_cons (qe_op op_add (qv 7) qe_int) qa_nil star_bin) star_con)) (qa_cons (qv 8) qa_nil star_name) star_call) star_call)))
      (qss_one (qs_if (qt_val (qe_call (ok_law_less T) (hr.mono (by decide)) rfl T.m_law_less T.F_law_less.kp T.b_law_less .nil pass0 (qa_cons (qe_call (ok_law_most T) (hr.mono (by decide)) rfl T.m_law_most T.F_law_most.kp T.b_law_most .nil pass0 (qa_cons (qv 3) qa_nil star_name)) (qa_cons (qe_call (ok_law_most T) (hr.mono (by decide)) rfl T.m_law_most T.F_law_most.kp T.b_law_most .nil pass0 (qa_cons (qe_op op_catU (qe_op op_catU (qe_slice sl_tupU (qv 3) qo_none (qo_some (qv 5))) (qe_tup (qa_cons (qv 10) qa_nil star_name))) (qe_slice sl_tupU (qv 3) (qo_some (qe_op op_add (qv 5) qe_int)) qo_none)) qa_nil star_bin)) qa_nil star_call) star_call))) (qss_one (qs_ret qe_bl)) qss_nil)))))))))))
      (qss_one (qs_ret qe_bl)))) ?_
  refine ⟨_, rfl, a, ns, rfl, hS, hl, fun t₁ H1 s1 ht T1 => ?_⟩
  refine ⟨3, rfl, by decide, by decide, for_range (lo := 0) (n := 3) (fun i σ H' => ∃ (x3 x4 x5 x6 x7 x8 x9 x10 x11 : Option V), σ = [some (.ref a), some (.ref t₁), x3, x4, x5, x6, x7, x8, x9, x10, x11] ∧ Tape3 K H' t₁ a) ⟨none, none, none, none, none, none, none, none, none, rfl, T1⟩ ?_ ?_⟩
  · rintro i σ H2 hi ⟨x3, x4, x5, x6, x7, x8, x9, x10, x11, rfl, T2⟩
    refine ⟨_, rfl, _, rfl, t₁, a, 8, rfl, T2, by decide, by decide, fun r1 xx a1 b1 T3 => ?_⟩
    generalize upd H2 t₁ (.lst xx) = H3 at T3 ⊢
    obtain ⟨d, rfl⟩ := Int.eq_ofNat_of_zero_le a1
    refine ⟨t₁, a, d, rfl, T3, by omega, fun v ws H4 S4 T4 wv hw oks => ?_⟩
    have ok : ∀ w ∈ ws, WkOk w := fun w h => (oks w h).ok
    obtain ⟨p, xs, rfl, hp, al⟩ := id wv
    have hxl := al.len
    refine ⟨_, rfl, t₁, a, 2, rfl, T4, by decide, fun v2 ws2 H5 S5 T5 wv2 hw2 oks2 => ?_⟩
    obtain ⟨p2, xs2, rfl, hp2, al2⟩ := wv2
    refine ⟨p2, rfl, ⟨_, hp2⟩, for_tup (K := K) (a := p2) (xs := xs2) (fun j σ H' => ∃ (x5 x6 x7 x8 x9 x10 x11 : Option V), σ = [some (.ref a), some (.ref t₁), some (.int (0 + (i : Int))), some (.ref p), x5, x6, x7, x8, x9, x10, x11] ∧ Step t₁ H5 H' ∧ Tape3 K H' t₁ a) ⟨_, _, _, _, _, _, _, rfl, Step.refl T5.lst, T5⟩ (fun j σ H' _ ⟨_, _, _, _, _, _, _, _, S, _⟩ => Tst.step (K := K) S _ _ hp2) ?_ ?_⟩
    · rintro j x σ H6 hx ⟨x5, x6, x7, x8, x9, x10, x11, rfl, S6, T6⟩
      obtain ⟨w, hwj, wx⟩ := al2.at hx
      have okw := (oks2 w (List.mem_of_getElem? hwj)).ok
      have t46 := Tst.step (K := K) (S5.trans S6)
      obtain ⟨y6, e6⟩ := T6.lst
      refine ⟨_, rfl, _, rfl, p, _, rfl, .inr (t46 _ _ hp), _, _, rfl, rfl, t₁, a, _, rfl, T6, by omega, by omega, fun r7 x7' a7 b7 T7 => ?_⟩
      obtain ⟨n, rfl⟩ := Int.eq_ofNat_of_zero_le a7
      have S7 : Step t₁ H6 _ := Step.up (ys := x7') e6
      generalize upd H6 t₁ (.lst x7') = H7 at T7 S7 ⊢
      have t47 := t46.trans (Tst.step (K := K) S7)
      have hpN := t47 _ _ hp
      have hn : n ≤ xs.length := by omega
      refine ⟨_, rfl, _, rfl, _, rfl, _, rfl, p, xs, rfl, hpN, fun q1 Ha sa hq1 => ?_⟩
      rw [cut_to (n := n) (by omega)] at hq1
      refine ⟨_, rfl, (by show 1 ≤ sizeLine; decide), fun q2 hq2 => ?_⟩
      have sb := same_new hq2 (.tup [x])
      have hq2' : SqT K (upd Ha q2 (.tup [x])) q2 [x] := SqT.of upd_same
      generalize upd Ha q2 (.tup [x]) = Hb at sb hq2' ⊢
      refine ⟨q1, q2, _, _, rfl, rfl, Tst.same (K := K) sb _ _ hq1, hq2', Nat.le_of_lt (small1000 (by rw [List.length_take]; show _ + 1 ≤ 1000; omega)), fun q3 Hc sc hq3 => ?_⟩
      have sab := sa.trans (sb.trans sc)
      refine ⟨_, rfl, _, rfl, _, rfl, p, xs, rfl, Tst.same (K := K) sab _ _ hpN, fun q4 Hd sd hq4 => ?_⟩
      rw [cut_from (n := n) (by omega)] at hq4
      refine ⟨q3, q4, _, _, rfl, rfl, Tst.same (K := K) sd _ _ hq3, hq4, Nat.le_of_lt (small1000 (by rw [List.length_append, List.length_take, List.length_drop]; show _ + 1 + _ ≤ 1000; omega)), fun q5 He se hq5 => ?_⟩
      have sN := sab.trans (sd.trans se)
      
      have t4N := t47.trans (Tst.same (K := K) sN)
      have t6N := (Tst.step (K := K) S6).trans ((Tst.step (K := K) S7).trans (Tst.same (K := K) sN))
      have wv' : WksV K He (.ref q5) (ws.take n ++ w :: ws.drop n) := ⟨q5, _, rfl, hq5, by
        have z : Als (WkV K He) (xs.take n ++ x :: xs.drop n) (ws.take n ++ w :: ws.drop n) := Als.appI (Als.takeI n (al.mono fun _ _ q => q.mono t4N)) (.cons (wx.mono t6N) (Als.dropI n (al.mono fun _ _ q => q.mono t4N)))
        rw [show xs.take n ++ [x] ++ xs.drop n = xs.take n ++ x :: xs.drop n by rw [List.append_assoc]; rfl]
        exact z⟩
      have Dm := fun X Y h => D_more (a := ws.take n) (b := ws.drop n) (w := w) okw X Y h
      rw [List.take_append_drop] at Dm
      refine ⟨.ref p, .ref q5, ws, ws.take n ++ w :: ws.drop n, rfl, wv.mono t4N, wv', by omega, by rw [List.length_append, List.length_take, List.length_cons, List.length_drop]; omega, ok, mem_at ok okw, Dm, fun Hf sf => ?_⟩
      refine ⟨_, rfl, iteF ?_⟩
      exact ⟨_, _, _, _, _, _, _, rfl, (S6.trans S7).trans (Step.same (sN.trans sf) T7.lst), (T7.same sN).same sf⟩
    · rintro σ H6 ⟨x5, x6, x7, x8, x9, x10, x11, rfl, S6, T6⟩
      have S46 := S5.trans S6
      refine ⟨_, rfl, p, _, rfl, .inr (Tst.step (K := K) S46 _ _ hp), _, rfl, by omega, by omega, for_range (lo := 0) (n := (xs.length : Int).toNat) (fun j σ H' => ∃ (x5 x6 x7 x8 x9 x10 x11 : Option V), σ = [some (.ref a), some (.ref t₁), some (.int (0 + (i : Int))), some (.ref p), x5, x6, x7, x8, x9, x10, x11] ∧ Step t₁ H4 H' ∧ Tape3 K H' t₁ a) ⟨_, _, _, _, _, _, _, rfl, S46, T6⟩ ?_ ?_⟩
      · rintro n σ H7 hn ⟨x5, x6, x7, x8, x9, x10, x11, rfl, S7, T7⟩
        rw [Int.zero_add]
        have t47 := Tst.step (K := K) S7
        obtain ⟨x, hx⟩ : ∃ x, xs[n]? = some x := ⟨_, List.getElem?_eq_getElem (by omega)⟩
        obtain ⟨w, hwn, pw0, am, rfl, hpw0, ram⟩ := al.at hx
        have okS := oks w (List.mem_of_getElem? hwn)
        have okw := okS.ok
        have l1 := okw.le
        have l2 := okw.lt
        refine ⟨_, rfl, _, rfl, p, _, _, _, rfl, rfl, t47 _ _ hp, atI_nat hx, ?_⟩
        refine ⟨pw0, _, rfl, t47 _ _ hpw0, rfl, _, _, rfl, _, _, rfl, _, _, rfl, rfl, ?_⟩
        obtain ⟨y7, e7⟩ := T7.lst
        refine ⟨_, rfl, _, rfl, _, rfl, _, rfl, t₁, a, 3, rfl, T7, by decide, by decide, fun r8 x8' a8 b8 T8 => ?_⟩
        have S8 := S7.trans (Step.up (ys := x8') e7)
        generalize upd H7 t₁ (.lst x8') = H8 at T8 S8 ⊢
        refine ⟨_, _, rfl, rfl, ?_⟩
        dsimp only
        have c1 : 1 ≤ 1 + r8 := by omega
        have c3 : 1 + r8 ≤ 3 := by omega
        generalize 1 + r8 = cc at c1 c3 ⊢
        refine ⟨(by show 2 ≤ sizeLine; decide), fun po hpo => ?_⟩
        have so := same_new hpo (.tup [.int 1, .int cc])
        have ro : RV K (upd H8 po (.tup [.int 1, .int cc])) (.ref po) (1, cc) := RV.of upd_same
        generalize upd H8 po (.tup [.int 1, .int cc]) = H9 at so ro ⊢
        have T9 := T8.same so
        have S9 := S8.trans (Step.same so T8.lst)
        have wq : Wf 9 ((1, cc) : R) := ⟨by show (0 : Int) < cc; omega, by show (1 : Int).natAbs < 512; decide, by show cc.natAbs < 512; omega, by show Int.gcd 1 cc = 1; simp⟩
        refine ⟨am, .ref po, w.2.2, (1, cc), 9, 9, rfl, ram.mono (Tst.step (K := K) S9), ro, okw.am.wf, wq, by decide, fun pa hpa => ?_⟩
        have sA := same_new hpa (.tup [.int (plusR w.2.2 (1, cc)).1, .int (plusR w.2.2 (1, cc)).2])
        have rA : RV K (upd H9 pa (.tup [.int (plusR w.2.2 (1, cc)).1, .int (plusR w.2.2 (1, cc)).2])) (.ref pa) (plusR w.2.2 (1, cc)) := RV.of upd_same
        generalize upd H9 pa (.tup [.int (plusR w.2.2 (1, cc)).1, .int (plusR w.2.2 (1, cc)).2]) = HA at sA rA ⊢
        refine ⟨(by show 3 ≤ sizeLine; decide), fun pg hpg => ?_⟩
        have sG := same_new hpg (.tup [.int (w.1 : Int), .int (w.2.1 : Int), .ref pa])
        have hG : SqT K (upd HA pg (.tup [.int (w.1 : Int), .int (w.2.1 : Int), .ref pa])) pg [.int (w.1 : Int), .int (w.2.1 : Int), .ref pa] := SqT.of upd_same
        generalize upd HA pg (.tup [.int (w.1 : Int), .int (w.2.1 : Int), .ref pa]) = HG at sG hG ⊢
        have sAG := sA.trans sG
        have TG := T9.same sAG
        have SG := S9.trans (Step.same sAG T9.lst)
        have wg : WkV K HG (.ref pg) (w.1, w.2.1, plusR w.2.2 (1, cc)) := ⟨pg, .ref pa, rfl, hG, rA.mono (Tst.same sG)⟩
        have okg : WkOk (w.1, w.2.1, plusR w.2.2 (1, cc)) := ⟨l1, l2, am_add okS.am c1 c3⟩
        have leg : amV w ≤ amV (w.1, w.2.1, plusR w.2.2 (1, cc)) := by
          show val w.2.2 ≤ val (plusR w.2.2 (1, cc))
          rw [val_plus okw.am.wf.pos wq.pos]
          have : 0 ≤ val ((1, cc) : R) := by
            have := (val_not (r := (1, cc)) (q := (0, 1)) wq.pos (by decide)).mp (by show decide (1 * 1 < 0 * cc) = false; rw [Int.zero_mul]; rfl)
            rw [val_nought] at this
            exact this
          generalize val w.2.2 = u1 at *
          generalize val ((1, cc) : R) = u2 at *
          grind
        have hpN := Tst.step (K := K) SG _ _ hp
        have hnn : n + 1 ≤ xs.length := by omega
        refine ⟨_, rfl, _, rfl, _, rfl, _, rfl, p, xs, rfl, hpN, fun q1 Ha sa hq1 => ?_⟩
        rw [cut_to (n := n) (by omega)] at hq1
        refine ⟨_, rfl, (by show 1 ≤ sizeLine; decide), fun q2 hq2 => ?_⟩
        have sb := same_new hq2 (.tup [.ref pg])
        have hq2' : SqT K (upd Ha q2 (.tup [.ref pg])) q2 [.ref pg] := SqT.of upd_same
        generalize upd Ha q2 (.tup [.ref pg]) = Hb at sb hq2' ⊢
        refine ⟨q1, q2, _, _, rfl, rfl, Tst.same (K := K) sb _ _ hq1, hq2', Nat.le_of_lt (small1000 (by rw [List.length_take]; show _ + 1 ≤ 1000; omega)), fun q3 Hc sc hq3 => ?_⟩
        have sab := sa.trans (sb.trans sc)
        refine ⟨_, rfl, _, rfl, _, _, rfl, rfl, _, rfl, p, xs, rfl, Tst.same (K := K) sab _ _ hpN, fun q4 Hd sd hq4 => ?_⟩
        rw [show (n : Int) + 1 = ((n + 1 : Nat) : Int) from rfl, cut_from (n := n + 1) (by omega)] at hq4
        refine ⟨q3, q4, _, _, rfl, rfl, Tst.same (K := K) sd _ _ hq3, hq4, Nat.le_of_lt (small1000 (by rw [List.length_append, List.length_take, List.length_drop]; show _ + 1 + _ ≤ 1000; omega)), fun q5 He se hq5 => ?_⟩
        have sN := sab.trans (sd.trans se)
        
        have tN := (Tst.step (K := K) SG).trans (Tst.same (K := K) sN)
        have wv' : WksV K He (.ref q5) (ws.take n ++ (w.1, w.2.1, plusR w.2.2 (1, cc)) :: ws.drop (n + 1)) := ⟨q5, _, rfl, hq5, by
          have z : Als (WkV K He) (xs.take n ++ .ref pg :: xs.drop (n + 1)) (ws.take n ++ (w.1, w.2.1, plusR w.2.2 (1, cc)) :: ws.drop (n + 1)) := Als.appI (Als.takeI n (al.mono fun _ _ q => q.mono tN)) (.cons (wg.mono (Tst.same sN)) (Als.dropI (n + 1) (al.mono fun _ _ q => q.mono tN)))
          rw [show xs.take n ++ [V.ref pg] ++ xs.drop (n + 1) = xs.take n ++ .ref pg :: xs.drop (n + 1) by rw [List.append_assoc]; rfl]
          exact z⟩
        have Dm := fun X Y h => D_great (a := ws.take n) (b := ws.drop (n + 1)) (w := w) (w' := (w.1, w.2.1, plusR w.2.2 (1, cc))) rfl rfl leg X Y h
        rw [← split_at hwn] at Dm
        refine ⟨.ref p, .ref q5, ws, _, rfl, wv.mono tN, wv', by omega, by rw [List.length_append, List.length_take, List.length_cons, List.length_drop]; omega, ok, mem_at ok okg, Dm, fun Hf sf => ?_⟩
        refine ⟨_, rfl, iteF ?_⟩
        have sNf := sN.trans sf
        have TF := TG.same sNf
        have SF := SG.trans (Step.same sNf TG.lst)
        clear hpN wv' Dm hq1 hq2 hq2' hq3 hq4 hq5 tN sa sb sc sab sd se sN
        refine ⟨_, rfl, _, _, rfl, rfl, _, _, rfl, _, rfl, _, _, rfl, rfl, _, _, rfl, _, rfl, ?_⟩
        dsimp only
        rw [show (if (w.1 : Int) - 1 > 0 then (w.1 : Int) - 1 else 0) = ((w.1 - 1 : Nat) : Int) by split <;> omega, show (if (w.2.1 : Int) + 1 < 23 then (w.2.1 : Int) + 1 else 23) = ((min 23 (w.2.1 + 1) : Nat) : Int) by split <;> omega]
        have lu1 : w.1 - 1 ≤ w.1 := by omega
        have lu2 : w.2.1 ≤ min 23 (w.2.1 + 1) := by omega
        have lu3 : min 23 (w.2.1 + 1) < 24 := by omega
        generalize w.1 - 1 = u1 at lu1 ⊢
        generalize min 23 (w.2.1 + 1) = u2 at lu2 lu3 ⊢
        refine ⟨(by show 3 ≤ sizeLine; decide), fun pw hpw => ?_⟩
        have sW := same_new hpw (.tup [.int (u1 : Int), .int (u2 : Int), am])
        have hW : SqT K (upd Hf pw (.tup [.int (u1 : Int), .int (u2 : Int), am])) pw [.int (u1 : Int), .int (u2 : Int), am] := SqT.of upd_same
        generalize upd Hf pw (.tup [.int (u1 : Int), .int (u2 : Int), am]) = HW at sW hW ⊢
        have TW := TF.same sW
        have SW := SF.trans (Step.same sW TF.lst)
        have ww : WkV K HW (.ref pw) (u1, u2, w.2.2) := ⟨pw, am, rfl, hW, ram.mono (Tst.step (K := K) SW)⟩
        have okW : WkOk (u1, u2, w.2.2) := ⟨by show u1 ≤ u2; omega, lu3, okw.am⟩
        refine ⟨_, rfl, .ref p, ws, rfl, wv.mono (Tst.step (K := K) SW), by omega, ok, fun y1 m1 lys1 HX sX ry1 wy1 ly1 mx1 nn1 is1 => ?_⟩
        have TX := TW.same sX
        have SX := SW.trans (Step.same sX TW.lst)
        have hpN := Tst.step (K := K) SX _ _ hp
        refine ⟨_, rfl, _, rfl, _, rfl, p, xs, rfl, hpN, fun q1 Ha sa hq1 => ?_⟩
        rw [cut_to (n := n) (by omega)] at hq1
        refine ⟨_, rfl, (by show 1 ≤ sizeLine; decide), fun q2 hq2 => ?_⟩
        have sb := same_new hq2 (.tup [.ref pw])
        have hq2' : SqT K (upd Ha q2 (.tup [.ref pw])) q2 [.ref pw] := SqT.of upd_same
        generalize upd Ha q2 (.tup [.ref pw]) = Hb at sb hq2' ⊢
        refine ⟨q1, q2, _, _, rfl, rfl, Tst.same (K := K) sb _ _ hq1, hq2', Nat.le_of_lt (small1000 (by rw [List.length_take]; show _ + 1 ≤ 1000; omega)), fun q3 Hc sc hq3 => ?_⟩
        have sab := sa.trans (sb.trans sc)
        refine ⟨_, rfl, _, rfl, _, _, rfl, rfl, _, rfl, p, xs, rfl, Tst.same (K := K) sab _ _ hpN, fun q4 Hd sd hq4 => ?_⟩
        rw [show (n : Int) + 1 = ((n + 1 : Nat) : Int) from rfl, cut_from (n := n + 1) (by omega)] at hq4
        refine ⟨q3, q4, _, _, rfl, rfl, Tst.same (K := K) sd _ _ hq3, hq4, Nat.le_of_lt (small1000 (by rw [List.length_append, List.length_take, List.length_drop]; show _ + 1 + _ ≤ 1000; omega)), fun q5 He se hq5 => ?_⟩
        have sN := sab.trans (sd.trans se)
        
        have tN := (Tst.step (K := K) SX).trans (Tst.same (K := K) sN)
        have wv' : WksV K He (.ref q5) (ws.take n ++ (u1, u2, w.2.2) :: ws.drop (n + 1)) := ⟨q5, _, rfl, hq5, by
          have z : Als (WkV K He) (xs.take n ++ .ref pw :: xs.drop (n + 1)) (ws.take n ++ (u1, u2, w.2.2) :: ws.drop (n + 1)) := Als.appI (Als.takeI n (al.mono fun _ _ q => q.mono tN)) (.cons (ww.mono (Tst.same (sX.trans sN))) (Als.dropI (n + 1) (al.mono fun _ _ q => q.mono tN)))
          rw [show xs.take n ++ [V.ref pw] ++ xs.drop (n + 1) = xs.take n ++ .ref pw :: xs.drop (n + 1) by rw [List.append_assoc]; rfl]
          exact z⟩
        have Dm := fun X => D_wide (a := ws.take n) (b := ws.drop (n + 1)) (w := w) (w' := (u1, u2, w.2.2)) okw lu1 lu2 rfl X
        rw [← split_at hwn] at Dm
        have okN := mem_at (n := n) (m := n + 1) ok okW
        refine ⟨.ref q5, _, rfl, wv', by rw [List.length_append, List.length_take, List.length_cons, List.length_drop]; omega, okN, fun y2 m2 lys2 HY sY ry2 wy2 ly2 mx2 nn2 is2 => ?_⟩
        refine ⟨y1, y2, m1, m2, 110, 110, rfl, ry1.mono (Tst.same (sN.trans sY)), ry2, wy1, wy2, by decide, _, rfl, ?_⟩
        have le : val m2 ≤ val m1 := by
          rcases is2 with z | ⟨t, ht, z⟩
          · rw [z]; exact nn1
          · rw [z]; exact sp_top ok okN ly1 ly2 Dm nn1 mx1 ht
        rw [(val_not wy1.pos wy2.pos).mpr le]
        refine iteF ?_
        have sNY := sN.trans sY
        exact ⟨_, _, _, _, _, _, _, rfl, SX.trans (Step.same sNY TX.lst), TX.same sNY⟩
      · rintro σ H7 ⟨x5, x6, x7, x8, x9, x10, x11, rfl, S7, T7⟩
        exact ⟨_, _, _, _, _, _, _, _, _, rfl, T7⟩
  · rintro σ H2 ⟨x3, x4, x5, x6, x7, x8, x9, x10, x11, rfl, T2⟩
    exact k H2
end
theorem all_mk {l : PySem.W.OpenLaw} {w : World} {K : PySem.W.Frag} {h : Heap} {mg : Str → Option Value} {fa : Addr} (X : K.In h) (G : h.Ns mainGlobals mg) (hfa : mg "law" = some (.ref fa))
    {f_greatest_divisor : Addr} {od_greatest_divisor an_greatest_divisor : Option Addr} {sl_greatest_divisor : Array (Option Value)} {oc_greatest_divisor kV_greatest_divisor dc_greatest_divisor pm_greatest_divisor cd_greatest_divisor ct_greatest_divisor : Value}
    (p_greatest_divisor : PySem.W.nsIn K mainGlobals "greatest_divisor" = some (some (.ref f_greatest_divisor))) (l_greatest_divisor : K.lookup f_greatest_divisor = some ⟨oc_greatest_divisor, od_greatest_divisor, .func (PySem.W.fnOf "greatest_divisor" "greatest_divisor" (defArgs s_greatest_divisor) (defBody s_greatest_divisor) (defScope s_greatest_divisor) .none kV_greatest_divisor dc_greatest_divisor pm_greatest_divisor an_greatest_divisor cd_greatest_divisor ct_greatest_divisor), sl_greatest_divisor⟩) (c_greatest_divisor : PySem.W.codeIn K cd_greatest_divisor "greatest_divisor" = true) (k_greatest_divisor : PySem.W.keepIn K (.ref f_greatest_divisor) = true)
    {f_ratio : Addr} {od_ratio an_ratio : Option Addr} {sl_ratio : Array (Option Value)} {oc_ratio kV_ratio dc_ratio pm_ratio cd_ratio ct_ratio : Value}
    (p_ratio : PySem.W.nsIn K mainGlobals "ratio" = some (some (.ref f_ratio))) (l_ratio : K.lookup f_ratio = some ⟨oc_ratio, od_ratio, .func (PySem.W.fnOf "ratio" "ratio" (defArgs s_ratio) (defBody s_ratio) (defScope s_ratio) .none kV_ratio dc_ratio pm_ratio an_ratio cd_ratio ct_ratio), sl_ratio⟩) (c_ratio : PySem.W.codeIn K cd_ratio "ratio" = true) (k_ratio : PySem.W.keepIn K (.ref f_ratio) = true)
    {f_plus : Addr} {od_plus an_plus : Option Addr} {sl_plus : Array (Option Value)} {oc_plus kV_plus dc_plus pm_plus cd_plus ct_plus : Value}
    (p_plus : PySem.W.nsIn K mainGlobals "plus" = some (some (.ref f_plus))) (l_plus : K.lookup f_plus = some ⟨oc_plus, od_plus, .func (PySem.W.fnOf "plus" "plus" (defArgs s_plus) (defBody s_plus) (defScope s_plus) .none kV_plus dc_plus pm_plus an_plus cd_plus ct_plus), sl_plus⟩) (c_plus : PySem.W.codeIn K cd_plus "plus" = true) (k_plus : PySem.W.keepIn K (.ref f_plus) = true)
    {f_times : Addr} {od_times an_times : Option Addr} {sl_times : Array (Option Value)} {oc_times kV_times dc_times pm_times cd_times ct_times : Value}
    (p_times : PySem.W.nsIn K mainGlobals "times" = some (some (.ref f_times))) (l_times : K.lookup f_times = some ⟨oc_times, od_times, .func (PySem.W.fnOf "times" "times" (defArgs s_times) (defBody s_times) (defScope s_times) .none kV_times dc_times pm_times an_times cd_times ct_times), sl_times⟩) (c_times : PySem.W.codeIn K cd_times "times" = true) (k_times : PySem.W.keepIn K (.ref f_times) = true)
    {f_over : Addr} {od_over an_over : Option Addr} {sl_over : Array (Option Value)} {oc_over kV_over dc_over pm_over cd_over ct_over : Value}
    (p_over : PySem.W.nsIn K mainGlobals "over" = some (some (.ref f_over))) (l_over : K.lookup f_over = some ⟨oc_over, od_over, .func (PySem.W.fnOf "over" "over" (defArgs s_over) (defBody s_over) (defScope s_over) .none kV_over dc_over pm_over an_over cd_over ct_over), sl_over⟩) (c_over : PySem.W.codeIn K cd_over "over" = true) (k_over : PySem.W.keepIn K (.ref f_over) = true)
    {f_total : Addr} {od_total an_total : Option Addr} {sl_total : Array (Option Value)} {oc_total kV_total dc_total pm_total cd_total ct_total : Value}
    (p_total : PySem.W.nsIn K mainGlobals "total" = some (some (.ref f_total))) (l_total : K.lookup f_total = some ⟨oc_total, od_total, .func (PySem.W.fnOf "total" "total" (defArgs s_total) (defBody s_total) (defScope s_total) .none kV_total dc_total pm_total an_total cd_total ct_total), sl_total⟩) (c_total : PySem.W.codeIn K cd_total "total" = true) (k_total : PySem.W.keepIn K (.ref f_total) = true)
    {f_whole_parts : Addr} {od_whole_parts an_whole_parts : Option Addr} {sl_whole_parts : Array (Option Value)} {oc_whole_parts kV_whole_parts dc_whole_parts pm_whole_parts cd_whole_parts ct_whole_parts : Value}
    (p_whole_parts : PySem.W.nsIn K mainGlobals "whole_parts" = some (some (.ref f_whole_parts))) (l_whole_parts : K.lookup f_whole_parts = some ⟨oc_whole_parts, od_whole_parts, .func (PySem.W.fnOf "whole_parts" "whole_parts" (defArgs s_whole_parts) (defBody s_whole_parts) (defScope s_whole_parts) .none kV_whole_parts dc_whole_parts pm_whole_parts an_whole_parts cd_whole_parts ct_whole_parts), sl_whole_parts⟩) (c_whole_parts : PySem.W.codeIn K cd_whole_parts "whole_parts" = true) (k_whole_parts : PySem.W.keepIn K (.ref f_whole_parts) = true)
    {f_in_window : Addr} {od_in_window an_in_window : Option Addr} {sl_in_window : Array (Option Value)} {oc_in_window kV_in_window dc_in_window pm_in_window cd_in_window ct_in_window : Value}
    (p_in_window : PySem.W.nsIn K mainGlobals "in_window" = some (some (.ref f_in_window))) (l_in_window : K.lookup f_in_window = some ⟨oc_in_window, od_in_window, .func (PySem.W.fnOf "in_window" "in_window" (defArgs s_in_window) (defBody s_in_window) (defScope s_in_window) .none kV_in_window dc_in_window pm_in_window an_in_window cd_in_window ct_in_window), sl_in_window⟩) (c_in_window : PySem.W.codeIn K cd_in_window "in_window" = true) (k_in_window : PySem.W.keepIn K (.ref f_in_window) = true)
    {f_kept_windows : Addr} {od_kept_windows an_kept_windows : Option Addr} {sl_kept_windows : Array (Option Value)} {oc_kept_windows kV_kept_windows dc_kept_windows pm_kept_windows cd_kept_windows ct_kept_windows : Value}
    (p_kept_windows : PySem.W.nsIn K mainGlobals "kept_windows" = some (some (.ref f_kept_windows))) (l_kept_windows : K.lookup f_kept_windows = some ⟨oc_kept_windows, od_kept_windows, .func (PySem.W.fnOf "kept_windows" "kept_windows" (defArgs s_kept_windows) (defBody s_kept_windows) (defScope s_kept_windows) .none kV_kept_windows dc_kept_windows pm_kept_windows an_kept_windows cd_kept_windows ct_kept_windows), sl_kept_windows⟩) (c_kept_windows : PySem.W.codeIn K cd_kept_windows "kept_windows" = true) (k_kept_windows : PySem.W.keepIn K (.ref f_kept_windows) = true)
    {f_held : Addr} {od_held an_held : Option Addr} {sl_held : Array (Option Value)} {oc_held kV_held dc_held pm_held cd_held ct_held : Value}
    (p_held : PySem.W.nsIn K mainGlobals "held" = some (some (.ref f_held))) (l_held : K.lookup f_held = some ⟨oc_held, od_held, .func (PySem.W.fnOf "held" "held" (defArgs s_held) (defBody s_held) (defScope s_held) .none kV_held dc_held pm_held an_held cd_held ct_held), sl_held⟩) (c_held : PySem.W.codeIn K cd_held "held" = true) (k_held : PySem.W.keepIn K (.ref f_held) = true)
    {f_tightest_places : Addr} {od_tightest_places an_tightest_places : Option Addr} {sl_tightest_places : Array (Option Value)} {oc_tightest_places kV_tightest_places dc_tightest_places pm_tightest_places cd_tightest_places ct_tightest_places : Value}
    (p_tightest_places : PySem.W.nsIn K mainGlobals "tightest_places" = some (some (.ref f_tightest_places))) (l_tightest_places : K.lookup f_tightest_places = some ⟨oc_tightest_places, od_tightest_places, .func (PySem.W.fnOf "tightest_places" "tightest_places" (defArgs s_tightest_places) (defBody s_tightest_places) (defScope s_tightest_places) .none kV_tightest_places dc_tightest_places pm_tightest_places an_tightest_places cd_tightest_places ct_tightest_places), sl_tightest_places⟩) (c_tightest_places : PySem.W.codeIn K cd_tightest_places "tightest_places" = true) (k_tightest_places : PySem.W.keepIn K (.ref f_tightest_places) = true)
    {f_tightest : Addr} {od_tightest an_tightest : Option Addr} {sl_tightest : Array (Option Value)} {oc_tightest kV_tightest dc_tightest pm_tightest cd_tightest ct_tightest : Value}
    (p_tightest : PySem.W.nsIn K mainGlobals "tightest" = some (some (.ref f_tightest))) (l_tightest : K.lookup f_tightest = some ⟨oc_tightest, od_tightest, .func (PySem.W.fnOf "tightest" "tightest" (defArgs s_tightest) (defBody s_tightest) (defScope s_tightest) .none kV_tightest dc_tightest pm_tightest an_tightest cd_tightest ct_tightest), sl_tightest⟩) (c_tightest : PySem.W.codeIn K cd_tightest "tightest" = true) (k_tightest : PySem.W.keepIn K (.ref f_tightest) = true)
    {f_layers : Addr} {od_layers an_layers : Option Addr} {sl_layers : Array (Option Value)} {oc_layers kV_layers dc_layers pm_layers cd_layers ct_layers : Value}
    (p_layers : PySem.W.nsIn K mainGlobals "layers" = some (some (.ref f_layers))) (l_layers : K.lookup f_layers = some ⟨oc_layers, od_layers, .func (PySem.W.fnOf "layers" "layers" (defArgs s_layers) (defBody s_layers) (defScope s_layers) .none kV_layers dc_layers pm_layers an_layers cd_layers ct_layers), sl_layers⟩) (c_layers : PySem.W.codeIn K cd_layers "layers" = true) (k_layers : PySem.W.keepIn K (.ref f_layers) = true)
    {f_layer_density : Addr} {od_layer_density an_layer_density : Option Addr} {sl_layer_density : Array (Option Value)} {oc_layer_density kV_layer_density dc_layer_density pm_layer_density cd_layer_density ct_layer_density : Value}
    (p_layer_density : PySem.W.nsIn K mainGlobals "layer_density" = some (some (.ref f_layer_density))) (l_layer_density : K.lookup f_layer_density = some ⟨oc_layer_density, od_layer_density, .func (PySem.W.fnOf "layer_density" "layer_density" (defArgs s_layer_density) (defBody s_layer_density) (defScope s_layer_density) .none kV_layer_density dc_layer_density pm_layer_density an_layer_density cd_layer_density ct_layer_density), sl_layer_density⟩) (c_layer_density : PySem.W.codeIn K cd_layer_density "layer_density" = true) (k_layer_density : PySem.W.keepIn K (.ref f_layer_density) = true)
    {f_layer_speeds : Addr} {od_layer_speeds an_layer_speeds : Option Addr} {sl_layer_speeds : Array (Option Value)} {oc_layer_speeds kV_layer_speeds dc_layer_speeds pm_layer_speeds cd_layer_speeds ct_layer_speeds : Value}
    (p_layer_speeds : PySem.W.nsIn K mainGlobals "layer_speeds" = some (some (.ref f_layer_speeds))) (l_layer_speeds : K.lookup f_layer_speeds = some ⟨oc_layer_speeds, od_layer_speeds, .func (PySem.W.fnOf "layer_speeds" "layer_speeds" (defArgs s_layer_speeds) (defBody s_layer_speeds) (defScope s_layer_speeds) .none kV_layer_speeds dc_layer_speeds pm_layer_speeds an_layer_speeds cd_layer_speeds ct_layer_speeds), sl_layer_speeds⟩) (c_layer_speeds : PySem.W.codeIn K cd_layer_speeds "layer_speeds" = true) (k_layer_speeds : PySem.W.keepIn K (.ref f_layer_speeds) = true)
    {f_law_tape : Addr} {od_law_tape an_law_tape : Option Addr} {sl_law_tape : Array (Option Value)} {oc_law_tape kV_law_tape dc_law_tape pm_law_tape cd_law_tape ct_law_tape : Value}
    (p_law_tape : PySem.W.nsIn K mainGlobals "_law_tape" = some (some (.ref f_law_tape))) (l_law_tape : K.lookup f_law_tape = some ⟨oc_law_tape, od_law_tape, .func (PySem.W.fnOf "_law_tape" "_law_tape" (defArgs s_law_tape) (defBody s_law_tape) (defScope s_law_tape) .none kV_law_tape dc_law_tape pm_law_tape an_law_tape cd_law_tape ct_law_tape), sl_law_tape⟩) (c_law_tape : PySem.W.codeIn K cd_law_tape "_law_tape" = true) (k_law_tape : PySem.W.keepIn K (.ref f_law_tape) = true)
    {f_law_draw : Addr} {od_law_draw an_law_draw : Option Addr} {sl_law_draw : Array (Option Value)} {oc_law_draw kV_law_draw dc_law_draw pm_law_draw cd_law_draw ct_law_draw : Value}
    (p_law_draw : PySem.W.nsIn K mainGlobals "_law_draw" = some (some (.ref f_law_draw))) (l_law_draw : K.lookup f_law_draw = some ⟨oc_law_draw, od_law_draw, .func (PySem.W.fnOf "_law_draw" "_law_draw" (defArgs s_law_draw) (defBody s_law_draw) (defScope s_law_draw) .none kV_law_draw dc_law_draw pm_law_draw an_law_draw cd_law_draw ct_law_draw), sl_law_draw⟩) (c_law_draw : PySem.W.codeIn K cd_law_draw "_law_draw" = true) (k_law_draw : PySem.W.keepIn K (.ref f_law_draw) = true)
    {f_law_frac : Addr} {od_law_frac an_law_frac : Option Addr} {sl_law_frac : Array (Option Value)} {oc_law_frac kV_law_frac dc_law_frac pm_law_frac cd_law_frac ct_law_frac : Value}
    (p_law_frac : PySem.W.nsIn K mainGlobals "_law_frac" = some (some (.ref f_law_frac))) (l_law_frac : K.lookup f_law_frac = some ⟨oc_law_frac, od_law_frac, .func (PySem.W.fnOf "_law_frac" "_law_frac" (defArgs s_law_frac) (defBody s_law_frac) (defScope s_law_frac) .none kV_law_frac dc_law_frac pm_law_frac an_law_frac cd_law_frac ct_law_frac), sl_law_frac⟩) (c_law_frac : PySem.W.codeIn K cd_law_frac "_law_frac" = true) (k_law_frac : PySem.W.keepIn K (.ref f_law_frac) = true)
    {f_law_add : Addr} {od_law_add an_law_add : Option Addr} {sl_law_add : Array (Option Value)} {oc_law_add kV_law_add dc_law_add pm_law_add cd_law_add ct_law_add : Value}
    (p_law_add : PySem.W.nsIn K mainGlobals "_law_add" = some (some (.ref f_law_add))) (l_law_add : K.lookup f_law_add = some ⟨oc_law_add, od_law_add, .func (PySem.W.fnOf "_law_add" "_law_add" (defArgs s_law_add) (defBody s_law_add) (defScope s_law_add) .none kV_law_add dc_law_add pm_law_add an_law_add cd_law_add ct_law_add), sl_law_add⟩) (c_law_add : PySem.W.codeIn K cd_law_add "_law_add" = true) (k_law_add : PySem.W.keepIn K (.ref f_law_add) = true)
    {f_law_less : Addr} {od_law_less an_law_less : Option Addr} {sl_law_less : Array (Option Value)} {oc_law_less kV_law_less dc_law_less pm_law_less cd_law_less ct_law_less : Value}
    (p_law_less : PySem.W.nsIn K mainGlobals "_law_less" = some (some (.ref f_law_less))) (l_law_less : K.lookup f_law_less = some ⟨oc_law_less, od_law_less, .func (PySem.W.fnOf "_law_less" "_law_less" (defArgs s_law_less) (defBody s_law_less) (defScope s_law_less) .none kV_law_less dc_law_less pm_law_less an_law_less cd_law_less ct_law_less), sl_law_less⟩) (c_law_less : PySem.W.codeIn K cd_law_less "_law_less" = true) (k_law_less : PySem.W.keepIn K (.ref f_law_less) = true)
    {f_law_sum : Addr} {od_law_sum an_law_sum : Option Addr} {sl_law_sum : Array (Option Value)} {oc_law_sum kV_law_sum dc_law_sum pm_law_sum cd_law_sum ct_law_sum : Value}
    (p_law_sum : PySem.W.nsIn K mainGlobals "_law_sum" = some (some (.ref f_law_sum))) (l_law_sum : K.lookup f_law_sum = some ⟨oc_law_sum, od_law_sum, .func (PySem.W.fnOf "_law_sum" "_law_sum" (defArgs s_law_sum) (defBody s_law_sum) (defScope s_law_sum) .none kV_law_sum dc_law_sum pm_law_sum an_law_sum cd_law_sum ct_law_sum), sl_law_sum⟩) (c_law_sum : PySem.W.codeIn K cd_law_sum "_law_sum" = true) (k_law_sum : PySem.W.keepIn K (.ref f_law_sum) = true)
    {f_law_works : Addr} {od_law_works an_law_works : Option Addr} {sl_law_works : Array (Option Value)} {oc_law_works kV_law_works dc_law_works pm_law_works cd_law_works ct_law_works : Value}
    (p_law_works : PySem.W.nsIn K mainGlobals "_law_works" = some (some (.ref f_law_works))) (l_law_works : K.lookup f_law_works = some ⟨oc_law_works, od_law_works, .func (PySem.W.fnOf "_law_works" "_law_works" (defArgs s_law_works) (defBody s_law_works) (defScope s_law_works) .none kV_law_works dc_law_works pm_law_works an_law_works cd_law_works ct_law_works), sl_law_works⟩) (c_law_works : PySem.W.codeIn K cd_law_works "_law_works" = true) (k_law_works : PySem.W.keepIn K (.ref f_law_works) = true)
    {f_law_least_rise : Addr} {od_law_least_rise an_law_least_rise : Option Addr} {sl_law_least_rise : Array (Option Value)} {oc_law_least_rise kV_law_least_rise dc_law_least_rise pm_law_least_rise cd_law_least_rise ct_law_least_rise : Value}
    (p_law_least_rise : PySem.W.nsIn K mainGlobals "_law_least_rise" = some (some (.ref f_law_least_rise))) (l_law_least_rise : K.lookup f_law_least_rise = some ⟨oc_law_least_rise, od_law_least_rise, .func (PySem.W.fnOf "_law_least_rise" "_law_least_rise" (defArgs s_law_least_rise) (defBody s_law_least_rise) (defScope s_law_least_rise) .none kV_law_least_rise dc_law_least_rise pm_law_least_rise an_law_least_rise cd_law_least_rise ct_law_least_rise), sl_law_least_rise⟩) (c_law_least_rise : PySem.W.codeIn K cd_law_least_rise "_law_least_rise" = true) (k_law_least_rise : PySem.W.keepIn K (.ref f_law_least_rise) = true)
    {f_law_most : Addr} {od_law_most an_law_most : Option Addr} {sl_law_most : Array (Option Value)} {oc_law_most kV_law_most dc_law_most pm_law_most cd_law_most ct_law_most : Value}
    (p_law_most : PySem.W.nsIn K mainGlobals "_law_most" = some (some (.ref f_law_most))) (l_law_most : K.lookup f_law_most = some ⟨oc_law_most, od_law_most, .func (PySem.W.fnOf "_law_most" "_law_most" (defArgs s_law_most) (defBody s_law_most) (defScope s_law_most) .none kV_law_most dc_law_most pm_law_most an_law_most cd_law_most ct_law_most), sl_law_most⟩) (c_law_most : PySem.W.codeIn K cd_law_most "_law_most" = true) (k_law_most : PySem.W.keepIn K (.ref f_law_most) = true)
    {f_law : Addr} {od_law an_law : Option Addr} {sl_law : Array (Option Value)} {oc_law kV_law dc_law pm_law cd_law ct_law : Value}
    (p_law : PySem.W.nsIn K mainGlobals "law" = some (some (.ref f_law))) (l_law : K.lookup f_law = some ⟨oc_law, od_law, .func (PySem.W.fnOf "law" "law" (defArgs s_law) (defBody s_law) (defScope s_law) .none kV_law dc_law pm_law an_law cd_law ct_law), sl_law⟩) (c_law : PySem.W.codeIn K cd_law "law" = true) (k_law : PySem.W.keepIn K (.ref f_law) = true)
    {f_NOUGHT : Addr} {od_NOUGHT : Option Addr} {sl_NOUGHT : Array (Option Value)} {tkNOUGHT0 tkNOUGHT1 : Tok} {n_NOUGHT : Nat} (p_NOUGHT : PySem.W.nsIn K mainGlobals "NOUGHT" = some (some (.ref f_NOUGHT))) (l_NOUGHT : K.lookup f_NOUGHT = some ⟨.type "tuple", od_NOUGHT, .seq #[.int (0) tkNOUGHT0, .int (1) tkNOUGHT1] n_NOUGHT, sl_NOUGHT⟩)
    {tkTURNS : Tok} (p_TURNS : PySem.W.nsIn K mainGlobals "TURNS" = some (some (.int (24) tkTURNS)))
    (z_abs : PySem.W.nsIn K mainGlobals "abs" = some none)
    (z_enumerate : PySem.W.nsIn K mainGlobals "enumerate" = some none)
    (z_len : PySem.W.nsIn K mainGlobals "len" = some none)
    (z_max : PySem.W.nsIn K mainGlobals "max" = some none)
    (z_min : PySem.W.nsIn K mainGlobals "min" = some none)
    (z_range : PySem.W.nsIn K mainGlobals "range" = some none)
    (z_sum : PySem.W.nsIn K mainGlobals "sum" = some none)
    (z_tuple : PySem.W.nsIn K mainGlobals "tuple" = some none)
    : ∃ fd : FuncData, (∀ (s : Shared) (v : Value), BindsTo s fd ⟨[v], []⟩ [("_law_script", v)]) ∧ ∀ base : Heap, K.In base → base.Ns mainGlobals mg → FnOk l.prog w K mg base CX0 7 fa fd ["_law_script"] (sp_law K) := by
  have e := hfa.symm.trans (PySem.W.mg_of X G p_law)
  cases e
  have F_greatest_divisor := fun_mk (st := s_greatest_divisor) l_greatest_divisor c_greatest_divisor k_greatest_divisor
  have b_greatest_divisor := F_greatest_divisor.binds (ps := ["one", "other"]) fun _ _ _ _ _ _ us hl => match us, hl with | [_, _], _ => rfl
  have F_ratio := fun_mk (st := s_ratio) l_ratio c_ratio k_ratio
  have b_ratio := F_ratio.binds (ps := ["top", "bottom"]) fun _ _ _ _ _ _ us hl => match us, hl with | [_, _], _ => rfl
  have F_plus := fun_mk (st := s_plus) l_plus c_plus k_plus
  have b_plus := F_plus.binds (ps := ["one", "other"]) fun _ _ _ _ _ _ us hl => match us, hl with | [_, _], _ => rfl
  have F_times := fun_mk (st := s_times) l_times c_times k_times
  have b_times := F_times.binds (ps := ["one", "other"]) fun _ _ _ _ _ _ us hl => match us, hl with | [_, _], _ => rfl
  have F_over := fun_mk (st := s_over) l_over c_over k_over
  have b_over := F_over.binds (ps := ["one", "other"]) fun _ _ _ _ _ _ us hl => match us, hl with | [_, _], _ => rfl
  have F_total := fun_mk (st := s_total) l_total c_total k_total
  have b_total := F_total.binds (ps := ["some"]) fun _ _ _ _ _ _ us hl => match us, hl with | [_], _ => rfl
  have F_whole_parts := fun_mk (st := s_whole_parts) l_whole_parts c_whole_parts k_whole_parts
  have b_whole_parts := F_whole_parts.binds (ps := ["some"]) fun _ _ _ _ _ _ us hl => match us, hl with | [_], _ => rfl
  have F_in_window := fun_mk (st := s_in_window) l_in_window c_in_window k_in_window
  have b_in_window := F_in_window.binds (ps := ["work", "turn"]) fun _ _ _ _ _ _ us hl => match us, hl with | [_, _], _ => rfl
  have F_kept_windows := fun_mk (st := s_kept_windows) l_kept_windows c_kept_windows k_kept_windows
  have b_kept_windows := F_kept_windows.binds (ps := ["works", "left"]) fun _ _ _ _ _ _ us hl => match us, hl with | [_, _], _ => rfl
  have F_held := fun_mk (st := s_held) l_held c_held k_held
  have b_held := F_held.binds (ps := ["windows", "begin", "end"]) fun _ _ _ _ _ _ us hl => match us, hl with | [_, _, _], _ => rfl
  have F_tightest_places := fun_mk (st := s_tightest_places) l_tightest_places c_tightest_places k_tightest_places
  have b_tightest_places := F_tightest_places.binds (ps := ["windows", "amounts", "count"]) fun _ _ _ _ _ _ us hl => match us, hl with | [_, _, _], _ => rfl
  have F_tightest := fun_mk (st := s_tightest) l_tightest c_tightest k_tightest
  have b_tightest := F_tightest.binds (ps := ["works", "left"]) fun _ _ _ _ _ _ us hl => match us, hl with | [_, _], _ => rfl
  have F_layers := fun_mk (st := s_layers) l_layers c_layers k_layers
  have b_layers := F_layers.binds (ps := ["works"]) fun _ _ _ _ _ _ us hl => match us, hl with | [_], _ => rfl
  have F_layer_density := fun_mk (st := s_layer_density) l_layer_density c_layer_density k_layer_density
  have b_layer_density := F_layer_density.binds (ps := ["works", "layer"]) fun _ _ _ _ _ _ us hl => match us, hl with | [_, _], _ => rfl
  have F_layer_speeds := fun_mk (st := s_layer_speeds) l_layer_speeds c_layer_speeds k_layer_speeds
  have b_layer_speeds := F_layer_speeds.binds (ps := ["works"]) fun _ _ _ _ _ _ us hl => match us, hl with | [_], _ => rfl
  have F_law_tape := fun_mk (st := s_law_tape) l_law_tape c_law_tape k_law_tape
  have b_law_tape := F_law_tape.binds (ps := ["_law_script"]) fun _ _ _ _ _ _ us hl => match us, hl with | [_], _ => rfl
  have F_law_draw := fun_mk (st := s_law_draw) l_law_draw c_law_draw k_law_draw
  have b_law_draw := F_law_draw.binds (ps := ["_law_tape_here", "_law_many"]) fun _ _ _ _ _ _ us hl => match us, hl with | [_, _], _ => rfl
  have F_law_frac := fun_mk (st := s_law_frac) l_law_frac c_law_frac k_law_frac
  have b_law_frac := F_law_frac.binds (ps := ["_law_top", "_law_bottom"]) fun _ _ _ _ _ _ us hl => match us, hl with | [_, _], _ => rfl
  have F_law_add := fun_mk (st := s_law_add) l_law_add c_law_add k_law_add
  have b_law_add := F_law_add.binds (ps := ["_law_one", "_law_other"]) fun _ _ _ _ _ _ us hl => match us, hl with | [_, _], _ => rfl
  have F_law_less := fun_mk (st := s_law_less) l_law_less c_law_less k_law_less
  have b_law_less := F_law_less.binds (ps := ["_law_one", "_law_other"]) fun _ _ _ _ _ _ us hl => match us, hl with | [_, _], _ => rfl
  have F_law_sum := fun_mk (st := s_law_sum) l_law_sum c_law_sum k_law_sum
  have b_law_sum := F_law_sum.binds (ps := ["_law_some"]) fun _ _ _ _ _ _ us hl => match us, hl with | [_], _ => rfl
  have F_law_works := fun_mk (st := s_law_works) l_law_works c_law_works k_law_works
  have b_law_works := F_law_works.binds (ps := ["_law_tape_here", "_law_many"]) fun _ _ _ _ _ _ us hl => match us, hl with | [_, _], _ => rfl
  have F_law_least_rise := fun_mk (st := s_law_least_rise) l_law_least_rise c_law_least_rise k_law_least_rise
  have b_law_least_rise := F_law_least_rise.binds (ps := ["_law_works_here", "_law_more"]) fun _ _ _ _ _ _ us hl => match us, hl with | [_, _], _ => rfl
  have F_law_most := fun_mk (st := s_law_most) l_law_most c_law_most k_law_most
  have b_law_most := F_law_most.binds (ps := ["_law_works_here"]) fun _ _ _ _ _ _ us hl => match us, hl with | [_], _ => rfl
  have F_law := fun_mk (st := s_law) l_law c_law k_law
  have b_law := F_law.binds (ps := ["_law_script"]) fun _ _ _ _ _ _ us hl => match us, hl with | [_], _ => rfl
  have T : Txt K mg ⟨f_greatest_divisor, PySem.W.fnOf "greatest_divisor" "greatest_divisor" (defArgs s_greatest_divisor) (defBody s_greatest_divisor) (defScope s_greatest_divisor) .none kV_greatest_divisor dc_greatest_divisor pm_greatest_divisor an_greatest_divisor cd_greatest_divisor ct_greatest_divisor, f_ratio, PySem.W.fnOf "ratio" "ratio" (defArgs s_ratio) (defBody s_ratio) (defScope s_ratio) .none kV_ratio dc_ratio pm_ratio an_ratio cd_ratio ct_ratio, f_plus, PySem.W.fnOf "plus" "plus" (defArgs s_plus) (defBody s_plus) (defScope s_plus) .none kV_plus dc_plus pm_plus an_plus cd_plus ct_plus, f_times, PySem.W.fnOf "times" "times" (defArgs s_times) (defBody s_times) (defScope s_times) .none kV_times dc_times pm_times an_times cd_times ct_times, f_over, PySem.W.fnOf "over" "over" (defArgs s_over) (defBody s_over) (defScope s_over) .none kV_over dc_over pm_over an_over cd_over ct_over, f_total, PySem.W.fnOf "total" "total" (defArgs s_total) (defBody s_total) (defScope s_total) .none kV_total dc_total pm_total an_total cd_total ct_total, f_whole_parts, PySem.W.fnOf "whole_parts" "whole_parts" (defArgs s_whole_parts) (defBody s_whole_parts) (defScope s_whole_parts) .none kV_whole_parts dc_whole_parts pm_whole_parts an_whole_parts cd_whole_parts ct_whole_parts, f_in_window, PySem.W.fnOf "in_window" "in_window" (defArgs s_in_window) (defBody s_in_window) (defScope s_in_window) .none kV_in_window dc_in_window pm_in_window an_in_window cd_in_window ct_in_window, f_kept_windows, PySem.W.fnOf "kept_windows" "kept_windows" (defArgs s_kept_windows) (defBody s_kept_windows) (defScope s_kept_windows) .none kV_kept_windows dc_kept_windows pm_kept_windows an_kept_windows cd_kept_windows ct_kept_windows, f_held, PySem.W.fnOf "held" "held" (defArgs s_held) (defBody s_held) (defScope s_held) .none kV_held dc_held pm_held an_held cd_held ct_held, f_tightest_places, PySem.W.fnOf "tightest_places" "tightest_places" (defArgs s_tightest_places) (defBody s_tightest_places) (defScope s_tightest_places) .none kV_tightest_places dc_tightest_places pm_tightest_places an_tightest_places cd_tightest_places ct_tightest_places, f_tightest, PySem.W.fnOf "tightest" "tightest" (defArgs s_tightest) (defBody s_tightest) (defScope s_tightest) .none kV_tightest dc_tightest pm_tightest an_tightest cd_tightest ct_tightest, f_layers, PySem.W.fnOf "layers" "layers" (defArgs s_layers) (defBody s_layers) (defScope s_layers) .none kV_layers dc_layers pm_layers an_layers cd_layers ct_layers, f_layer_density, PySem.W.fnOf "layer_density" "layer_density" (defArgs s_layer_density) (defBody s_layer_density) (defScope s_layer_density) .none kV_layer_density dc_layer_density pm_layer_density an_layer_density cd_layer_density ct_layer_density, f_layer_speeds, PySem.W.fnOf "layer_speeds" "layer_speeds" (defArgs s_layer_speeds) (defBody s_layer_speeds) (defScope s_layer_speeds) .none kV_layer_speeds dc_layer_speeds pm_layer_speeds an_layer_speeds cd_layer_speeds ct_layer_speeds, f_law_tape, PySem.W.fnOf "_law_tape" "_law_tape" (defArgs s_law_tape) (defBody s_law_tape) (defScope s_law_tape) .none kV_law_tape dc_law_tape pm_law_tape an_law_tape cd_law_tape ct_law_tape, f_law_draw, PySem.W.fnOf "_law_draw" "_law_draw" (defArgs s_law_draw) (defBody s_law_draw) (defScope s_law_draw) .none kV_law_draw dc_law_draw pm_law_draw an_law_draw cd_law_draw ct_law_draw, f_law_frac, PySem.W.fnOf "_law_frac" "_law_frac" (defArgs s_law_frac) (defBody s_law_frac) (defScope s_law_frac) .none kV_law_frac dc_law_frac pm_law_frac an_law_frac cd_law_frac ct_law_frac, f_law_add, PySem.W.fnOf "_law_add" "_law_add" (defArgs s_law_add) (defBody s_law_add) (defScope s_law_add) .none kV_law_add dc_law_add pm_law_add an_law_add cd_law_add ct_law_add, f_law_less, PySem.W.fnOf "_law_less" "_law_less" (defArgs s_law_less) (defBody s_law_less) (defScope s_law_less) .none kV_law_less dc_law_less pm_law_less an_law_less cd_law_less ct_law_less, f_law_sum, PySem.W.fnOf "_law_sum" "_law_sum" (defArgs s_law_sum) (defBody s_law_sum) (defScope s_law_sum) .none kV_law_sum dc_law_sum pm_law_sum an_law_sum cd_law_sum ct_law_sum, f_law_works, PySem.W.fnOf "_law_works" "_law_works" (defArgs s_law_works) (defBody s_law_works) (defScope s_law_works) .none kV_law_works dc_law_works pm_law_works an_law_works cd_law_works ct_law_works, f_law_least_rise, PySem.W.fnOf "_law_least_rise" "_law_least_rise" (defArgs s_law_least_rise) (defBody s_law_least_rise) (defScope s_law_least_rise) .none kV_law_least_rise dc_law_least_rise pm_law_least_rise an_law_least_rise cd_law_least_rise ct_law_least_rise, f_law_most, PySem.W.fnOf "_law_most" "_law_most" (defArgs s_law_most) (defBody s_law_most) (defScope s_law_most) .none kV_law_most dc_law_most pm_law_most an_law_most cd_law_most ct_law_most, fa, PySem.W.fnOf "law" "law" (defArgs s_law) (defBody s_law) (defScope s_law) .none kV_law dc_law pm_law an_law cd_law ct_law, f_NOUGHT, tkTURNS⟩ := {
    F_greatest_divisor := F_greatest_divisor, b_greatest_divisor := b_greatest_divisor, m_greatest_divisor := PySem.W.mg_of X G p_greatest_divisor,
    F_ratio := F_ratio, b_ratio := b_ratio, m_ratio := PySem.W.mg_of X G p_ratio,
    F_plus := F_plus, b_plus := b_plus, m_plus := PySem.W.mg_of X G p_plus,
    F_times := F_times, b_times := b_times, m_times := PySem.W.mg_of X G p_times,
    F_over := F_over, b_over := b_over, m_over := PySem.W.mg_of X G p_over,
    F_total := F_total, b_total := b_total, m_total := PySem.W.mg_of X G p_total,
    F_whole_parts := F_whole_parts, b_whole_parts := b_whole_parts, m_whole_parts := PySem.W.mg_of X G p_whole_parts,
    F_in_window := F_in_window, b_in_window := b_in_window, m_in_window := PySem.W.mg_of X G p_in_window,
    F_kept_windows := F_kept_windows, b_kept_windows := b_kept_windows, m_kept_windows := PySem.W.mg_of X G p_kept_windows,
    F_held := F_held, b_held := b_held, m_held := PySem.W.mg_of X G p_held,
    F_tightest_places := F_tightest_places, b_tightest_places := b_tightest_places, m_tightest_places := PySem.W.mg_of X G p_tightest_places,
    F_tightest := F_tightest, b_tightest := b_tightest, m_tightest := PySem.W.mg_of X G p_tightest,
    F_layers := F_layers, b_layers := b_layers, m_layers := PySem.W.mg_of X G p_layers,
    F_layer_density := F_layer_density, b_layer_density := b_layer_density, m_layer_density := PySem.W.mg_of X G p_layer_density,
    F_layer_speeds := F_layer_speeds, b_layer_speeds := b_layer_speeds, m_layer_speeds := PySem.W.mg_of X G p_layer_speeds,
    F_law_tape := F_law_tape, b_law_tape := b_law_tape, m_law_tape := PySem.W.mg_of X G p_law_tape,
    F_law_draw := F_law_draw, b_law_draw := b_law_draw, m_law_draw := PySem.W.mg_of X G p_law_draw,
    F_law_frac := F_law_frac, b_law_frac := b_law_frac, m_law_frac := PySem.W.mg_of X G p_law_frac,
    F_law_add := F_law_add, b_law_add := b_law_add, m_law_add := PySem.W.mg_of X G p_law_add,
    F_law_less := F_law_less, b_law_less := b_law_less, m_law_less := PySem.W.mg_of X G p_law_less,
    F_law_sum := F_law_sum, b_law_sum := b_law_sum, m_law_sum := PySem.W.mg_of X G p_law_sum,
    F_law_works := F_law_works, b_law_works := b_law_works, m_law_works := PySem.W.mg_of X G p_law_works,
    F_law_least_rise := F_law_least_rise, b_law_least_rise := b_law_least_rise, m_law_least_rise := PySem.W.mg_of X G p_law_least_rise,
    F_law_most := F_law_most, b_law_most := b_law_most, m_law_most := PySem.W.mg_of X G p_law_most,
    F_law := F_law, b_law := b_law, m_law := PySem.W.mg_of X G p_law,
    m_NOUGHT := PySem.W.mg_of X G p_NOUGHT, q_NOUGHT := fun H => .inr ⟨_, _, _, l_NOUGHT, rfl, rfl, (by show 2 ≤ sizeLine; decide), (.cons ⟨_, rfl⟩ (.cons ⟨_, rfl⟩ .nil))⟩,
    m_TURNS := PySem.W.mg_of X G p_TURNS,
    z_abs := PySem.W.mg_none_of X G z_abs, z_enumerate := PySem.W.mg_none_of X G z_enumerate, z_len := PySem.W.mg_none_of X G z_len, z_max := PySem.W.mg_none_of X G z_max, z_min := PySem.W.mg_none_of X G z_min, z_range := PySem.W.mg_none_of X G z_range, z_sum := PySem.W.mg_none_of X G z_sum, z_tuple := PySem.W.mg_none_of X G z_tuple }
  exact ⟨_, fun s v => .of_eq rfl, fun base _ _ => ok_law T⟩
theorem walk {l : PySem.W.OpenLaw} {q : Program} {loose : List Str} {XP : (Str → Option Value) → Heap → Prop} {YP : World → Heap → Prop} {d : DefRec} {K : Params → PySem.W.Frag} (hn : l.most = some 63) (hdf : d.params.defaults = [])
    (hY : ∀ (w : World) (h : Heap), YP w h → (K w.params).In h)
    (F : ∀ (w : World) (mg : Str → Option Value) (fa : Addr) (h : Heap), (K w.params).In h → h.Ns mainGlobals mg → mg d.name = some (.ref fa) →
      ∃ fd : FuncData, (∀ (s : Shared) (u : Value), BindsTo s fd ⟨[u], []⟩ [("_law_script", u)]) ∧ ∀ base : Heap, (K w.params).In base → base.Ns mainGlobals mg → FnOk l.prog w (K w.params) mg base CX0 7 fa fd ["_law_script"] (sp_law (K w.params))) :
    PySem.W.WalkO q loose XP YP l.row.toRowW d [] (fun f vs => PySem.call f vs) :=
  L2.walk_of (n := 63) (k := 7) (x := "_law_script") (CX := fun _ => CX0) (sp := fun w => sp_law (K w.params)) hn (by decide) hdf ⟨rfl, by decide, by decide, rfl⟩ hY F (fun _ _ a ns hl _ hS => ⟨a, ns, rfl, hS, hl, fun _ => rfl⟩) fun _ _ _ _ _ z => z
end My
open PySem PySem.W PyProof.Rows
set_option maxRecDepth 100000 in
set_option maxHeartbeats 0 in
theorem PySem.Challenge.cw_paceplan_k47_whole_a_work_more_lowers_no_holds : PySem.Challenge.rw_paceplan_k47_whole_a_work_more_lowers_no.Holds := by
  w_on; refine HWtop ?_
  k_fill
  refine My.walk (l := PySem.Challenge.rw_paceplan_k47_whole_a_work_more_lowers_no) rfl rfl (fun w h Y => PySem.W.kIn_of Y) ?F
  case F =>
    intro w mg fa h KX G hmg
    refine' My.all_mk KX G hmg ?p_greatest_divisor ?l_greatest_divisor ?c_greatest_divisor ?k_greatest_divisor ?p_ratio ?l_ratio ?c_ratio ?k_ratio ?p_plus ?l_plus ?c_plus ?k_plus ?p_times ?l_times ?c_times ?k_times ?p_over ?l_over ?c_over ?k_over ?p_total ?l_total ?c_total ?k_total ?p_whole_parts ?l_whole_parts ?c_whole_parts ?k_whole_parts ?p_in_window ?l_in_window ?c_in_window ?k_in_window ?p_kept_windows ?l_kept_windows ?c_kept_windows ?k_kept_windows ?p_held ?l_held ?c_held ?k_held ?p_tightest_places ?l_tightest_places ?c_tightest_places ?k_tightest_places ?p_tightest ?l_tightest ?c_tightest ?k_tightest ?p_layers ?l_layers ?c_layers ?k_layers ?p_layer_density ?l_layer_density ?c_layer_density ?k_layer_density ?p_layer_speeds ?l_layer_speeds ?c_layer_speeds ?k_layer_speeds ?p_law_tape ?l_law_tape ?c_law_tape ?k_law_tape ?p_law_draw ?l_law_draw ?c_law_draw ?k_law_draw ?p_law_frac ?l_law_frac ?c_law_frac ?k_law_frac ?p_law_add ?l_law_add ?c_law_add ?k_law_add ?p_law_less ?l_law_less ?c_law_less ?k_law_less ?p_law_sum ?l_law_sum ?c_law_sum ?k_law_sum ?p_law_works ?l_law_works ?c_law_works ?k_law_works ?p_law_least_rise ?l_law_least_rise ?c_law_least_rise ?k_law_least_rise ?p_law_most ?l_law_most ?c_law_most ?k_law_most ?p_law ?l_law ?c_law ?k_law ?p_NOUGHT ?l_NOUGHT ?p_TURNS ?z_abs ?z_enumerate ?z_len ?z_max ?z_min ?z_range ?z_sum ?z_tuple
    (case p_greatest_divisor => k_is)
    (case l_greatest_divisor => k_is)
    (case c_greatest_divisor => k_is)
    (case k_greatest_divisor => k_is)
    (case p_ratio => k_is)
    (case l_ratio => k_is)
    (case c_ratio => k_is)
    (case k_ratio => k_is)
    (case p_plus => k_is)
    (case l_plus => k_is)
    (case c_plus => k_is)
    (case k_plus => k_is)
    (case p_times => k_is)
    (case l_times => k_is)
    (case c_times => k_is)
    (case k_times => k_is)
    (case p_over => k_is)
    (case l_over => k_is)
    (case c_over => k_is)
    (case k_over => k_is)
    (case p_total => k_is)
    (case l_total => k_is)
    (case c_total => k_is)
    (case k_total => k_is)
    (case p_whole_parts => k_is)
    (case l_whole_parts => k_is)
    (case c_whole_parts => k_is)
    (case k_whole_parts => k_is)
    (case p_in_window => k_is)
    (case l_in_window => k_is)
    (case c_in_window => k_is)
    (case k_in_window => k_is)
    (case p_kept_windows => k_is)
    (case l_kept_windows => k_is)
    (case c_kept_windows => k_is)
    (case k_kept_windows => k_is)
    (case p_held => k_is)
    (case l_held => k_is)
    (case c_held => k_is)
    (case k_held => k_is)
    (case p_tightest_places => k_is)
    (case l_tightest_places => k_is)
    (case c_tightest_places => k_is)
    (case k_tightest_places => k_is)
    (case p_tightest => k_is)
    (case l_tightest => k_is)
    (case c_tightest => k_is)
    (case k_tightest => k_is)
    (case p_layers => k_is)
    (case l_layers => k_is)
    (case c_layers => k_is)
    (case k_layers => k_is)
    (case p_layer_density => k_is)
    (case l_layer_density => k_is)
    (case c_layer_density => k_is)
    (case k_layer_density => k_is)
    (case p_layer_speeds => k_is)
    (case l_layer_speeds => k_is)
    (case c_layer_speeds => k_is)
    (case k_layer_speeds => k_is)
    (case p_law_tape => k_is)
    (case l_law_tape => k_is)
    (case c_law_tape => k_is)
    (case k_law_tape => k_is)
    (case p_law_draw => k_is)
    (case l_law_draw => k_is)
    (case c_law_draw => k_is)
    (case k_law_draw => k_is)
    (case p_law_frac => k_is)
    (case l_law_frac => k_is)
    (case c_law_frac => k_is)
    (case k_law_frac => k_is)
    (case p_law_add => k_is)
    (case l_law_add => k_is)
    (case c_law_add => k_is)
    (case k_law_add => k_is)
    (case p_law_less => k_is)
    (case l_law_less => k_is)
    (case c_law_less => k_is)
    (case k_law_less => k_is)
    (case p_law_sum => k_is)
    (case l_law_sum => k_is)
    (case c_law_sum => k_is)
    (case k_law_sum => k_is)
    (case p_law_works => k_is)
    (case l_law_works => k_is)
    (case c_law_works => k_is)
    (case k_law_works => k_is)
    (case p_law_least_rise => k_is)
    (case l_law_least_rise => k_is)
    (case c_law_least_rise => k_is)
    (case k_law_least_rise => k_is)
    (case p_law_most => k_is)
    (case l_law_most => k_is)
    (case c_law_most => k_is)
    (case k_law_most => k_is)
    (case p_law => k_is)
    (case l_law => k_is)
    (case c_law => k_is)
    (case k_law => k_is)
    (case p_NOUGHT => k_is)
    (case l_NOUGHT => k_is)
    (case p_TURNS => k_is)
    (case z_abs => k_is)
    (case z_enumerate => k_is)
    (case z_len => k_is)
    (case z_max => k_is)
    (case z_min => k_is)
    (case z_range => k_is)
    (case z_sum => k_is)
    (case z_tuple => k_is)
