import PyProof.Rows.All
import Wide.All
import OpenK.AllK
import Wide.FinOn
import Lean
import PyProof.EqAt
import PyProof.EqKinds
import PyProof.TupleCall
import PyProof.ReprLen
import PyProof.CompUse
import PyProof.ZipIter
import PyProof.ExcClass2
import PyProof.ExcBaseAll.ValueError
import PyProof.InstStoreFacts
import PyProof.ExcAttrAll.ValueError
import PyProof.RulesAs
import PyProof.NsDelKeeps
import KE.RegKTryMore
import KE.RegKIsAll
import PyProof.Rows.Catch
import PyProof.EnumMake
import PyProof.Draws
import PyProof.IsRules
import PyProof.AutoListH
import PyProof.RangeFor
import PyProof.SeqRoads2
import PyProof.ListRange
import PyProof.Rows.SumAny
import PyProof.Rows.Range3
import PyProof.ConsumeWalk
import PyProof.Rows.ListMul
import PyProof.Rows.SeqCalls
import PyProof.WalksMore
import PyProof.TupleCall
import PyProof.Rows.SeqMore
import PySem.Challenge.RW_paceplan_k68_bills_let_by_or_not
set_option Elab.async false
set_option linter.all false
set_option maxRecDepth 100000
/-! The head, run as one piece: the view and the steps are given here, the rest is what the head's own rule asks. -/
namespace HW
open PySem
def keep : List Nat := [1, 2, 3, 5, 6, 7, 8, 9, 10, 12, 13, 14, 15, 16, 17, 18, 19, 21, 23, 24, 25, 26, 27, 28, 29, 30, 31, 32, 33, 34, 35, 36, 37, 38, 39]
def V : Program := PySem.W.view PySem.Challenge.pw_paceplan_k68_bills_let_by_or_not keep
end HW
section HWs
open PySem PySem.W PyProof.Rows
local macro_rules
  | `(tactic| o_head $H:term) => `(tactic| (
      refine holds_open (q := HW.V) (loose := []) (N := 4828)
        (Xt := fun s => xlAt HW.V [] s && recOk (RowW.records (OpenRow.toRowW (OpenLaw.row PySem.Challenge.rw_paceplan_k68_bills_let_by_or_not))) s)
        (XP := XL HW.V []) (Yf := Hook.obs $H) (Ya := Hook.val $H) (YP := Hook.says $H)
        ?hl (Hook.of $H) (Hook.keeps $H)
        (fun s e => xl_of s (Bool.and_eq_true_iff.mp e).1) XL.keeps
        (by rfl) (by rfl) (by rfl)
        (fun s e => recFacts_of (Bool.and_eq_true_iff.mp e).2) (by rfl) (by assumption) (by decide +kernel)
        ⟨rfl, rfl, rfl, rfl, rfl, by decide +kernel⟩ ?hw ?hc
      (case hl =>
        intro w
        delta openEnds fencedOpening topFrom
        rw [PySem.W.Fast.te14364793385576792824, PySem.W.Fast.te14082659384304107361, PySem.W.Fast.te10274390034422433532, PySem.W.Fast.te1435165496053646825, PySem.W.Fast.te14289696077712309145, PySem.W.Fast.te4187177175401517315]
        kernel_rfl)))
set_option maxHeartbeats 0 in
open_top HWtop for PySem.Challenge.rw_paceplan_k68_bills_let_by_or_not
end HWs
/-! THE HAND LAYER, for ints, bools, texts, own classes, LISTS and tuples (index, slices, in, append, pop ..), calls, loops. Paste it whole ahead of your own text; what your proof does not reach may be deleted. -/
namespace L2
open PySem PySem.Spec PyProof.Rows

/-- a key: an int or a str -/
abbrev Key := Sum Int Str
def keyIs : Key → Value → Bool
  | .inl k, v => Value.isInt k v
  | .inr x, v => Value.isStrOf x v
def keyH (w : World) : Key → Int
  | .inl k => hashInt k
  | .inr x => hashStr w x
theorem keyIs_shape : ∀ {k : Key} {v : Value}, keyIs k v = true → (∃ i t, k = Sum.inl i ∧ v = Value.int i t) ∨ (∃ x t, k = Sum.inr x ∧ v = Value.str x t)
  | .inl i, v, h => by
    obtain ⟨t, e⟩ := Value.isInt_shape (k := i) (v := v) h
    exact .inl ⟨i, t, rfl, e⟩
  | .inr x, v, h => by
    obtain ⟨t, e⟩ := Value.isStrOf_shape (x := x) (v := v) h
    exact .inr ⟨x, t, rfl, e⟩
theorem keyIs_int (i : Int) (t : Tok) : keyIs (.inl i) (.int i t) = true := by simp [keyIs, Value.isInt]
theorem keyIs_str (x : Str) (t : Tok) : keyIs (.inr x) (.str x t) = true := by simp [keyIs, Value.isStrOf]
theorem key_ll (a b : Int) : decide ((Sum.inl a : Key) = Sum.inl b) = (a == b) := by
  by_cases e : a = b
  · subst e; simp
  · have h : ¬ (Sum.inl a : Key) = Sum.inl b := fun q => e (Sum.inl.inj q)
    rw [decide_eq_false h]
    exact (beq_eq_false_iff_ne.mpr e).symm
theorem key_rr (a b : Str) : decide ((Sum.inr a : Key) = Sum.inr b) = decide (a = b) := by
  by_cases e : a = b
  · subst e; simp
  · have h : ¬ (Sum.inr a : Key) = Sum.inr b := fun q => e (Sum.inr.inj q)
    rw [decide_eq_false h, decide_eq_false e]
theorem key_lr (a : Int) (b : Str) : decide ((Sum.inl a : Key) = Sum.inr b) = false := decide_eq_false (fun q => nomatch q)
theorem key_rl (a : Str) (b : Int) : decide ((Sum.inr a : Key) = Sum.inl b) = false := decide_eq_false (fun q => nomatch q)

def mixKind (prog : Program) (w : World) : PySem.KeyKind prog w Key where
  is := keyIs
  hash := keyH w
  inj := fun v a b ha hb => by
    rcases keyIs_shape ha with ⟨i, t, rfl, rfl⟩ | ⟨x, t, rfl, rfl⟩
    · rcases keyIs_shape hb with ⟨j, u, rfl, e⟩ | ⟨y, u, rfl, e⟩
      · injection e with e1 _; rw [e1]
      · exact nomatch e
    · rcases keyIs_shape hb with ⟨j, u, rfl, e⟩ | ⟨y, u, rfl, e⟩
      · exact nomatch e
      · injection e with e1 _; rw [e1]
  byValue := fun k v h => by
    rcases keyIs_shape h with ⟨i, t, rfl, rfl⟩ | ⟨x, t, rfl, rfl⟩ <;> rfl
  pyHash := fun hv h => by
    rcases keyIs_shape hv with ⟨i, t, rfl, rfl⟩ | ⟨x, t, rfl, rfl⟩
    · exact wpAny_pyHash_int h
    · exact wpAny_pyHash_str h
  eqBool := fun hu hv h => by
    rcases keyIs_shape hu with ⟨i, t, rfl, rfl⟩ | ⟨x, t, rfl, rfl⟩
    · rcases keyIs_shape hv with ⟨j, u, rfl, rfl⟩ | ⟨y, u, rfl, rfl⟩
      · rw [key_ll] at h; exact wpAny_eqBool_int h
      · rw [key_lr] at h; exact SeqAt.EqAt.int_str i t y u _ _ _ _ h
    · rcases keyIs_shape hv with ⟨j, u, rfl, rfl⟩ | ⟨y, u, rfl, rfl⟩
      · rw [key_rl] at h; exact SeqAt.EqAt.str_int x t j u _ _ _ _ h
      · rw [key_rr] at h; exact wpAny_eqBool_str h
  «strs» := fun k x t v h => by
    rcases keyIs_shape h with ⟨i, u, rfl, e⟩ | ⟨y, u, rfl, e⟩
    · exact nomatch e
    · injection e with e1 _
      subst e1
      cases v <;> rfl

theorem mixKind_int (prog : Program) (w : World) (i : Int) (t : Tok) : (mixKind prog w).is (.inl i) (.int i t) = true := keyIs_int i t
theorem mixKind_str (prog : Program) (w : World) (x : Str) (t : Tok) : (mixKind prog w).is (.inr x) (.str x t) = true := keyIs_str x t
end L2

namespace L2
open PySem PySem.Spec PyProof.Rows

/-- a value, without the heap -/
inductive V where
  | non | bl (b : Bool) | int (i : Int) | str (x : Str) | byt (b : Array UInt8) | flt (b : UInt64) | ref (a : Addr) | ty (n : String)
  deriving DecidableEq

def RelV : V → Value → Prop
  | .non, u => u = Value.none
  | .bl b, u => u = Value.bool b
  | .int i, u => ∃ t, u = Value.int i t
  | .str x, u => ∃ t, u = Value.str x t
  | .byt b, u => ∃ t, u = Value.bytes b t
  | .flt b, u => ∃ t, u = Value.float b t
  | .ref a, u => u = Value.ref a
  | .ty n, u => u = Value.type n

abbrev Vals : List V → List Value → Prop := Paired RelV
theorem Vals.length {xs : List V} {us : List Value} (r : Vals xs us) : xs.length = us.length := Paired.length r
theorem Vals.get : ∀ {xs : List V} {us : List Value} {i : Nat} {x : V}, Vals xs us → xs[i]? = some x → ∃ u, us[i]? = some u ∧ RelV x u
  | _, _, _, _, .nil, e => by simp at e
  | _, _, 0, _, .cons r _, e => by simp at e; subst e; exact ⟨_, rfl, r⟩
  | _, _, i + 1, x, .cons _ t, e => by
    obtain ⟨u, h1, h2⟩ := Vals.get (i := i) (x := x) t (by simpa using e)
    exact ⟨u, by simpa using h1, h2⟩
theorem Vals.set {x : V} {u : Value} (r : RelV x u) : ∀ {xs : List V} {us : List Value} (i : Nat), Vals xs us → Vals (xs.set i x) (us.set i u)
  | _, _, _, .nil => .nil
  | _, _, 0, .cons _ t => .cons r t
  | _, _, i + 1, .cons q t => .cons q (Vals.set r i t)
theorem Vals.append : ∀ {xs ys : List V} {us ws : List Value}, Vals xs us → Vals ys ws → Vals (xs ++ ys) (us ++ ws)
  | _, _, _, _, .nil, s => s
  | _, _, _, _, .cons r t, s => .cons r (Vals.append t s)
theorem Vals.take : ∀ {xs : List V} {us : List Value} (n : Nat), Vals xs us → Vals (xs.take n) (us.take n)
  | _, _, 0, _ => .nil
  | _, _, _ + 1, .nil => .nil
  | _, _, n + 1, .cons r t => .cons r (Vals.take n t)
theorem Vals.drop : ∀ {xs : List V} {us : List Value} (n : Nat), Vals xs us → Vals (xs.drop n) (us.drop n)
  | _, _, 0, r => r
  | _, _, _ + 1, .nil => .nil
  | _, _, n + 1, .cons _ t => Vals.drop n t

def RelO : Option V → Option Value → Prop
  | some v, some u => RelV v u
  | none, none => True
  | _, _ => False
def KV {κ : Type} : List (κ × V) → List (κ × Value) → Prop := Paired fun (p : κ × V) (q : κ × Value) => p.1 = q.1 ∧ RelV p.2 q.2

/-- a key of a dict (00_mix): an int or a text -/
def kV : Key → V
  | .inl i => .int i
  | .inr x => .str x

/-- what stands at a tracked address -/
inductive HO where
  /-- a list -/
  | lst (xs : List V)
  /-- a tuple (never changes) -/
  | tup (xs : List V)
  /-- a dict whose keys are ints and texts; one whose keys are tuples of ints and texts (the empty one is both) -/
  | dK (kvs : List (Key × V)) | dT (kvs : List (List Key × V))
  /-- a set of ints: its members, its size -/
  | set (S : Int → Bool) (n : Nat)
  /-- an instance of the class at C, its dict at dx, its attributes -/
  | ins (C dx : Addr) (fs : List (Str × V))
  /-- the dict of the instance at x -/
  | own (x : Addr)
  /-- the dict of an exception -/
  | xd (fs : List (Str × V))
  /-- a bound method, f of x -/
  | met (f x : Addr)
  /-- a range object lo, lo + 1, .. below hi -/
  | rng (lo hi : Int)
  /-- a thing that is known to the object (the script; a dict while a loop walks it): read, never written while it is so -/
  | frz (o : Obj) (u : HO)
  /-- a code object's table -/
  | tbl (ps : Array Value)
  /-- any other thing, by what is true of its one object (a def of one's own: SetO a S n := HO.ext fun h => ..) -/
  | ext (φ : Heap → Prop)

abbrev Hp := Addr → Option HO
def upd (H : Hp) (a : Addr) (o : HO) : Hp := fun b => if b = a then some o else H b
theorem upd_same {H : Hp} {a : Addr} {o : HO} : upd H a o a = some o := by unfold upd; rw [if_pos rfl]
theorem upd_ne {H : Hp} {a b : Addr} {o : HO} (h : b ≠ a) : upd H a o b = H b := by unfold upd; rw [if_neg h]
theorem upd_upd {H : Hp} {a : Addr} {o u : HO} : upd (upd H a o) a u = upd H a u := by
  funext b; unfold upd; split <;> rfl
theorem ne_of_none {H : Hp} {a b : Addr} {o : HO} (h : H a = some o) (h' : H b = none) : a ≠ b := by
  intro e; subst e; rw [h] at h'; cases h'

section
variable (P : Program) (w : World)
def ObjOk (H : Hp) (h : Heap) (a : Addr) : HO → Prop
  | .lst xs => xs.length ≤ sizeLine ∧ ∃ (its : List Value) (n : Nat), Vals xs its ∧ h.get? a = some { cls := .type "list", data := .seq its.toArray n }
  | .tup xs => xs.length ≤ sizeLine ∧ ∃ its : List Value, Vals xs its ∧ IsTup h a its.toArray
  | .dK kvs => kvs.length ≤ sizeLine ∧ (a == sysModules) = false ∧ ∃ vs, KV kvs vs ∧ h.DictOf (mixKind P w) a vs
  | .dT kvs => kvs.length ≤ sizeLine ∧ (a == sysModules) = false ∧ ∃ xs : List (List Key × Addr × Value),
      Paired (fun (p : List Key × V) (q : List Key × Addr × Value) => p.1 = q.1 ∧ H q.2.1 = some (.tup (p.1.map kV)) ∧ RelV p.2 q.2.2) kvs xs ∧
      ∃ o es ep, h.get? a = some o ∧ o.ExactDict ∧ o.data = .dict es ep ∧ es.toList = xs.map (entryOfKey (tupleKind (mixKind P w))) ∧ (xs.map (·.1)).Nodup
  | .set S n => h.SetOf (intKind P w) a S n
  | .ins C dx fs => H dx = some (.own a) ∧ fs.length ≤ 1000 ∧ dx ≠ a ∧ h.get? a = some (PySem.W.instObj C dx) ∧
      ∃ mA, h.Ns1 dx mA ∧ (∀ f, RelO (fs.lookup f) (mA f)) ∧ PySem.Within mA (fs.map (·.1))
  | .own _ => ∃ o, h.get? a = some o
  | .xd fs => ∃ mA, h.Ns1 a mA ∧ ∀ f, RelO (fs.lookup f) (mA f)
  | .rng lo hi => ∃ t u v, h.get? a = some { cls := .type "range", data := .fields #[.int lo t, .int hi u, .int 1 v] }
  | .frz o u => h.get? a = some o ∧ ObjOk H h a u
  | .tbl ps => h.get? a = some { cls := .none, data := .fields ps }
  | .met f x => h.get? a = some (PySem.W.methodObj (.ref f) (.ref x))
  | .ext φ => φ h ∧ (∃ o, h.get? a = some o) ∧ ∀ h1 h2 : Heap, φ h1 → (∀ o, h1.get? a = some o → h2.get? a = some o) → φ h2
/-- the abstract heap is held -/
def HOk (H : Hp) (h : Heap) : Prop := ∀ a o, H a = some o → ObjOk P w H h a o
end

section
variable {P : Program} {w : World} {H H' : Hp} {h h' : Heap} {a : Addr} {o : HO}
theorem ObjOk.lt (x : ObjOk P w H h a o) : a < h.objs.size := by
  cases o with
  | lst xs => obtain ⟨_, _, _, _, e⟩ := x; exact Heap.lt_size e
  | tup xs => obtain ⟨_, _, _, p⟩ := x; exact p.lt
  | dK kvs => obtain ⟨_, _, _, _, o, _, _, e, _⟩ := x; exact Heap.lt_size e
  | dT kvs => obtain ⟨_, _, _, _, o, _, _, e, _⟩ := x; exact Heap.lt_size e
  | set S n => obtain ⟨o, _, _, _, e, _⟩ := x; exact Heap.lt_size e
  | ins C dx fs => obtain ⟨_, _, _, e, _⟩ := x; exact Heap.lt_size e
  | own y => obtain ⟨_, e⟩ := x; exact Heap.lt_size e
  | xd fs => obtain ⟨_, ⟨_, _, _, e, _⟩, _⟩ := x; exact Heap.lt_size e
  | rng lo hi => obtain ⟨_, _, _, e⟩ := x; exact Heap.lt_size e
  | frz ob u => obtain ⟨e, _⟩ := x; exact Heap.lt_size e
  | tbl ps => exact Heap.lt_size (show h.get? a = some _ from x)
  | met f y => exact Heap.lt_size (show h.get? a = some _ from x)
  | ext φ => obtain ⟨_, ⟨_, e⟩, _⟩ := x; exact Heap.lt_size e
theorem Paired.mapP {α β : Type} {F G : α → β → Prop} : ∀ {l₁ : List α} {l₂ : List β}, Paired F l₁ l₂ → (∀ a b, F a b → G a b) → Paired G l₁ l₂
  | _, _, .nil, _ => .nil
  | _, _, .cons r t, f => .cons (f _ _ r) (Paired.mapP t f)
/-- what an object's description leans on: its own object, its own dict, the tuples -/
theorem ObjOk.stay (x : ObjOk P w H h a o) (k : ∀ b u, (b = a ∨ H b = some (.own a)) → h.get? b = some u → h'.get? b = some u)
    (ho : ∀ b, H b = some (.own a) → H' b = some (.own a)) (ht : ∀ b xs, H b = some (.tup xs) → H' b = some (.tup xs)) : ObjOk P w H' h' a o := by
  induction o with
  | lst xs => obtain ⟨z, its, n, r, e⟩ := x; exact ⟨z, its, n, r, k _ _ (.inl rfl) e⟩
  | tup xs => obtain ⟨z, its, r, ob, e, c⟩ := x; exact ⟨z, its, r, ob, k _ _ (.inl rfl) e, c⟩
  | dK kvs => obtain ⟨z, y, vs, r, ob, es, ep, e, c⟩ := x; exact ⟨z, y, vs, r, ob, es, ep, k _ _ (.inl rfl) e, c⟩
  | dT kvs =>
    obtain ⟨z, y, xs, r, ob, es, ep, e, c⟩ := x
    exact ⟨z, y, xs, Paired.mapP r fun p q z => ⟨z.1, ht _ _ z.2.1, z.2.2⟩, ob, es, ep, k _ _ (.inl rfl) e, c⟩
  | set S n => obtain ⟨ob, es, ep, t, e, c⟩ := x; exact ⟨ob, es, ep, t, k _ _ (.inl rfl) e, c⟩
  | ins C dx fs =>
    obtain ⟨d, z, ne, e, mA, ⟨od, es, ep, e2, c⟩, r⟩ := x
    exact ⟨ho _ d, z, ne, k _ _ (.inl rfl) e, mA, ⟨od, es, ep, k _ _ (.inr d) e2, c⟩, r⟩
  | own y => obtain ⟨ob, e⟩ := x; exact ⟨ob, k _ _ (.inl rfl) e⟩
  | xd fs => obtain ⟨mA, ⟨od, es, ep, e, c⟩, r⟩ := x; exact ⟨mA, ⟨od, es, ep, k _ _ (.inl rfl) e, c⟩, r⟩
  | rng lo hi => obtain ⟨t, u, v, e⟩ := x; exact ⟨t, u, v, k _ _ (.inl rfl) e⟩
  | frz ob u ih => obtain ⟨e, q⟩ := x; exact ⟨k _ _ (.inl rfl) e, ih q⟩
  | tbl ps =>
    have e : h.get? a = some { cls := .none, data := .fields ps } := x
    show h'.get? a = some { cls := .none, data := .fields ps }
    exact k a _ (.inl rfl) e
  | met f y =>
    have e : h.get? a = some (PySem.W.methodObj (.ref f) (.ref y)) := x
    show h'.get? a = some (PySem.W.methodObj (.ref f) (.ref y))
    exact k a _ (.inl rfl) e
  | ext φ => obtain ⟨p, ⟨o, e⟩, st⟩ := x; exact ⟨st _ _ p fun o q => k _ _ (.inl rfl) q, ⟨o, k _ _ (.inl rfl) e⟩, st⟩
theorem HOk.lt (x : HOk P w H h) (e : H a = some o) : a < h.objs.size := (x a o e).lt
theorem HOk.fresh (x : HOk P w H h) (e : h.objs.size ≤ a) : H a = none := by
  cases q : H a with
  | none => rfl
  | some u => exact absurd (Nat.lt_of_lt_of_le (x.lt q) e) (Nat.lt_irrefl _)
/-- every object of the heap is kept -/
theorem HOk.kept (x : HOk P w H h) (k : ∀ b u, h.get? b = some u → h'.get? b = some u) : HOk P w H h' := fun a o e =>
  (x a o e).stay (fun b u _ q => k b u q) (fun _ q => q) fun _ _ q => q
/-- a new object is laid and tracked -/
theorem HOk.laid (x : HOk P w H h) (k : ∀ b u, h.get? b = some u → h'.get? b = some u) (hp : h.objs.size ≤ a) (new : ObjOk P w (upd H a o) h' a o) : HOk P w (upd H a o) h' := fun b u e => by
  have hn := x.fresh hp
  by_cases hb : b = a
  · subst hb; rw [upd_same] at e; cases e; exact new
  · rw [upd_ne hb] at e
    exact (x b u e).stay (fun c v _ q => k c v q) (fun c q => by rw [upd_ne (ne_of_none q hn)]; exact q) fun c xs q => by rw [upd_ne (ne_of_none q hn)]; exact q
end

/-- what may be read as u: it is u, or a known u -/
def Rd (H : Hp) (a : Addr) (u : HO) : Prop := H a = some u ∨ ∃ o, H a = some (.frz o u)
theorem Rd.ok {P : Program} {w : World} {H : Hp} {h : Heap} {a : Addr} {u : HO} (r : Rd H a u) (x : HOk P w H h) : ObjOk P w H h a u := by
  rcases r with r | ⟨o, r⟩
  · exact x a u r
  · obtain ⟨_, q⟩ := x a _ r
    exact q
/-- what may be written -/
def Mut : Option HO → Prop
  | some (.lst _) => True
  | some (.dK _) => True
  | some (.dT _) => True
  | some (.set _ _) => True
  | some (.ins _ _ _) => True
  | some (.ext _) => True
  | _ => False
section
variable {P : Program} {w : World} {H : Hp} {h h' : Heap} {x e : Addr} {o' : HO}
/-- the object at e is changed: x itself, or the dict of the instance x -/
theorem HOk.write (ok : HOk P w H h) (mu : Mut (H x)) (he : e = x ∨ H e = some (.own x)) (k : ∀ b u, b ≠ e → h.get? b = some u → h'.get? b = some u) (heo : ∃ u, h'.get? e = some u)
    (new : ObjOk P w (upd H x o') h' x o') : HOk P w (upd H x o') h' := fun b u q => by
  have nown : ∀ c y, H c = some (.own y) → c ≠ x := fun c y r z => by subst z; rw [r] at mu; exact mu
  have ntup : ∀ c xs, H c = some (.tup xs) → c ≠ x := fun c xs r z => by subst z; rw [r] at mu; exact mu
  by_cases hb : b = x
  · subst hb; rw [upd_same] at q; cases q; exact new
  · rw [upd_ne hb] at q
    by_cases hbe : b = e
    · have q' : H b = some (.own x) := by
        rcases he with z | z
        · exact absurd (hbe.trans z) hb
        · rw [hbe]; exact z
      rw [q] at q'; cases q'
      obtain ⟨v, hv⟩ := heo
      exact ⟨v, by rw [hbe]; exact hv⟩
    · refine (ok b u q).stay (fun c v hc r => k c v ?_ r) (fun c r => by rw [upd_ne (nown c b r)]; exact r) fun c xs r => by rw [upd_ne (ntup c xs r)]; exact r
      rcases hc with rfl | hc
      · exact hbe
      · rintro rfl
        rcases he with z | z
        · exact nown c b hc z
        · rw [hc] at z; cases z; exact hb rfl
end

/-! ### kept unless tracked; of the frames at fs (the callers') the slots may change (an exception that passes writes there); of the records at ex (iterators) nothing is said -/
structure Un (fs ex : List Addr) (H H' : Hp) (h h' : Heap) : Prop where
  keep : ∀ b o, h.get? b = some o → H b = none → b ∉ fs → b ∉ ex → h'.get? b = some o
  slot : ∀ b o, h.get? b = some o → H b = none → b ∈ fs → b ∉ ex → ∃ sl, h'.get? b = some { o with slots := sl }
  free : ∀ b o, h.get? b = some o → H b = none → b ∉ ex → H' b = none
  there : ∀ b o, h.get? b = some o → b ∉ ex → ∃ o', h'.get? b = some o'
  tups : ∀ b xs, H b = some (.tup xs) → H' b = some (.tup xs)
  frzs : ∀ b o u, H b = some (.frz o u) → H' b = some (.frz o u)
  tbls : ∀ b ps, H b = some (.tbl ps) → ∃ more, H' b = some (.tbl (ps ++ more))
section
variable {fs fs' ex ex' : List Addr} {H H1 H2 : Hp} {h h1 h2 h' : Heap} {a x e : Addr} {o : HO}
theorem Un.any (u : Un fs ex H H1 h h1) {b : Addr} {ob : Obj} (q : h.get? b = some ob) (n : H b = none) (hx : b ∉ ex) : ∃ sl, h1.get? b = some { ob with slots := sl } := by
  by_cases hb : b ∈ fs
  · exact u.slot b ob q n hb hx
  · exact ⟨ob.slots, u.keep b ob q n hb hx⟩
theorem Un.kept (k : ∀ b u, h.get? b = some u → h'.get? b = some u) : Un fs ex H H h h' :=
  ⟨fun b ob q _ _ _ => k b ob q, fun b ob q _ _ _ => ⟨ob.slots, k b ob q⟩, fun _ _ _ n _ => n, fun b ob q _ => ⟨ob, k b ob q⟩, fun _ _ q => q, fun _ _ _ q => q, fun _ ps q => ⟨#[], by rw [q]; simp⟩⟩
theorem Un.refl : Un fs ex H H h h := Un.kept fun _ _ q => q
theorem Un.laid (k : ∀ b u, h.get? b = some u → h'.get? b = some u) (hp : h.objs.size ≤ a) (hn : H a = none) : Un fs ex H (upd H a o) h h' where
  keep := fun b u q _ _ _ => k b u q
  slot := fun b u q _ _ _ => ⟨u.slots, k b u q⟩
  free := fun b u q n _ => by rw [upd_ne (Nat.ne_of_lt (Nat.lt_of_lt_of_le (Heap.lt_size q) hp))]; exact n
  there := fun b u q _ => ⟨u, k b u q⟩
  tups := fun b xs q => by rw [upd_ne (ne_of_none q hn)]; exact q
  frzs := fun b u xs q => by rw [upd_ne (ne_of_none q hn)]; exact q
  tbls := fun b ps q => ⟨#[], by rw [upd_ne (ne_of_none q hn), q]; simp⟩
theorem Un.write (mu : Mut (H x)) (he : e = x ∨ H e = some (.own x)) (k : ∀ b u, b ≠ e → h.get? b = some u → h'.get? b = some u) (heo : ∃ u, h'.get? e = some u) : Un fs ex H (upd H x o) h h' := by
  have hx : ∀ b, H b = none → b ≠ x := fun b n z => by subst z; rw [n] at mu; exact mu
  have hb : ∀ b, H b = none → b ≠ e := fun b n z => by
    subst z
    rcases he with r | r
    · exact hx b n r
    · rw [n] at r; cases r
  have hm : ∀ b u, H b = some u → ¬ Mut (some u) → b ≠ x := fun b u q nm z => by subst z; rw [q] at mu; exact nm mu
  refine ⟨fun b u q n _ _ => k b u (hb b n) q, fun b u q n _ _ => ⟨u.slots, k b u (hb b n) q⟩, fun b u q n _ => by rw [upd_ne (hx b n)]; exact n, fun b u q _ => ?_,
    fun b xs q => by rw [upd_ne (hm b _ q fun z => z)]; exact q, fun b u xs q => by rw [upd_ne (hm b _ q fun z => z)]; exact q, fun b ps q => ⟨#[], by rw [upd_ne (hm b _ q fun z => z), q]; simp⟩⟩
  by_cases hbe : b = e
  · subst hbe; exact heo
  · exact ⟨u, k b u hbe q⟩
end

/-! ### the heap without what is tracked -/
def trk (h : Heap) (H : Hp) : List Addr := (List.range h.objs.size).filter fun a => (H a).isSome
def hidT (h : Heap) (H : Hp) : Heap := PySem.W.hideAll h (trk h H)
theorem hidT_size (h : Heap) (H : Hp) : (hidT h H).objs.size = h.objs.size := PySem.W.hideAll_size _ _
theorem hidT_get {h : Heap} {H : Hp} {b : Addr} {o : Obj} (e : h.get? b = some o) (n : H b = none) : (hidT h H).get? b = some o :=
  PySem.W.hideAll_get _ e fun hm => by
    have q : (H b).isSome = true := (List.mem_filter.mp hm).2
    rw [n] at q; simp at q
theorem of_hidT {h : Heap} {H : Hp} {b : Addr} {o : Obj} (e : (hidT h H).get? b = some o) : h.get? b = some o ∧ H b = none := by
  have e' : h.get? b = some o := PySem.W.of_hideAll (trk h H) e
  refine ⟨e', ?_⟩
  cases q : H b with
  | none => rfl
  | some x =>
    have hm : b ∈ trk h H := List.mem_filter.mpr ⟨List.mem_range.mpr (Heap.lt_size e'), by simp [q]⟩
    have z : (hidT h H).get? b = none := PySem.W.hideAll_none (trk h H) hm
    rw [z] at e; cases e

/-! ### OpenK's ledger, filled with every new object but one -/
def allNews (g h : Heap) (L : Addr) : List (Addr × Obj) := (List.range h.objs.size).filterMap fun a => if a = L ∨ (g.get? a).isSome = true then none else (h.get? a).map fun o => (a, o)
def rest (g h : Heap) (L d : Addr) : List (Addr × Obj) := (allNews g h L).filter fun p => decide (p.1 ≠ d)
end L2

namespace L2
open PySem PySem.Spec PyProof.Rows

/-- the module's facts, over the base: the heap at the law's entry without what is tracked there -/
structure Mod (K : PySem.W.Frag) (mg : Str → Option Value) (base : Heap) : Prop where
  kin : K.In base
  glob : base.Ns mainGlobals mg
  blt : ∃ mb, base.Ns builtinsNs mb ∧ ∀ x : Str, x ≠ "__name__" → mb x = bootBuiltins x
  nolimit : base.NoLimit

/-- the context: a def's body (or a comprehension's block) running. base: fixed through the whole law; s₀, H₀: the entry; outer: the frames whose slots others may change (a def's callers); stack: all frames that run;
   ex: iterators that were made ahead of the entry and are walked here (a comprehension's); fn: the names whose cells were made at the entry (a def: all; a comprehension's block: its own); calm: not within an except suite; pn: pins that every state bears; xe: what is wanted of an exception that leaves the code -/
structure Cx where
  prog : Program
  w : World
  K : PySem.W.Frag
  mg : Str → Option Value
  base : Heap
  A : Around
  N : List Str
  s₀ : Shared
  H₀ : Hp
  env : Env
  outer : List Env
  stack : List Env
  ex : List Addr
  fn : Str → Bool
  calm : Bool
  pn : List (Addr × Obj)
  xe : Value → Shared → Prop
/-- the callers' frames -/
def frs (l : List Env) : List Addr := l.filterMap (·.frame)
abbrev Cx.fs (X : Cx) : List Addr := frs X.outer

def Vis (sc : Scope) (x : Str) : Prop := sc.names.lookup x = some .local ∨ sc.names.lookup x = some .cell ∨ sc.names.lookup x = some .free
def Loc (sc : Scope) (x : Str) : Prop := sc.names.lookup x = some .local ∨ sc.names.lookup x = some .cell
def Look (env : Env) (h : Heap) (m : Str → Option Value) (x : Str) (u : Value) : Prop :=
  (env.kindOf x = some .local ∧ m x = some u) ∨ ((env.kindOf x = some .cell ∨ env.kindOf x = some .free) ∧ ∃ c, env.cells.lookup x = some c ∧ h.IsCell c (some u))

structure Cx.Ok (X : Cx) : Prop where
  mod : Mod X.K X.mg X.base
  kind : X.env.scope.kind = .function
  glob : X.env.globals = mainGlobals
  blt : X.env.builtins = builtinsNs
  above : X.s₀.heap.objs.size ≤ X.env.locals
  inj : ∀ x y c, X.env.cells.lookup x = some c → X.env.cells.lookup y = some c → x = y
  has : ∀ x, (X.env.kindOf x = some .cell ∨ X.env.kindOf x = some .free) → ∃ c, X.env.cells.lookup x = some c
  cab : ∀ x c, X.fn x = true → X.env.cells.lookup x = some c → X.s₀.heap.objs.size ≤ c
  hd : X.calm = true → X.A.handled = none
  frames : X.A.frames = some X.stack
  stk : X.stack = X.outer ∨ (X.stack = X.env :: X.outer ∧ X.env.frame = some X.env.locals)
  exf : ∀ b ∈ X.ex, b ≠ X.env.locals ∧ ∀ x c, X.env.cells.lookup x = some c → c ≠ b
  bs : ∀ b o, X.base.get? b = some o → X.s₀.heap.get? b = some o ∧ X.H₀ b = none
  bsz : X.base.objs.size ≤ X.s₀.heap.objs.size
  noex : ∀ b o, X.base.get? b = some o → b ∉ X.ex
  exfs : ∀ b ∈ X.ex, b ∉ X.fs
  funs : X.s₀.heap.FunFrames X.base X.outer
  frf : ∀ b ∈ X.fs, X.H₀ b = none

structure Inv (X : Cx) (pins : List (Addr × Obj)) (σ : List (Option V)) (H : Hp) (s : Shared) : Prop where
  ok : X.Ok
  os : s.os = X.s₀.os
  bare : AllBare s.gens
  base : Un X.fs X.ex X.H₀ H X.s₀.heap s.heap
  loc : ∃ m, s.heap.Ns X.env.locals m ∧ ∀ (i : Nat) (x : Str) (v : V), X.N[i]? = some x → σ[i]? = some (some v) → Vis X.env.scope x → ∃ u, RelV v u ∧ Look X.env s.heap m x u
  cell : ∀ x c, X.env.cells.lookup x = some c → ∃ v, s.heap.IsCell c v
  free : H X.env.locals = none
  freeC : ∀ x c, X.env.cells.lookup x = some c → H c = none
  pin : ∀ p ∈ X.pn ++ pins, s.heap.get? p.1 = some p.2 ∧ H p.1 = none ∧ p.1 ≠ X.env.locals ∧ p.1 ∉ X.fs ∧ ∀ v, p.2.data ≠ .cell v
  hok : HOk X.prog X.w H s.heap
  len : σ.length = X.N.length

section
variable {X : Cx} {pins : List (Addr × Obj)} {σ : List (Option V)} {H H' : Hp} {s : Shared} {h' : Heap}

theorem Cx.Ok.nofr (ok : X.Ok) {b : Addr} {o : Obj} (e : X.base.get? b = some o) : b ∉ X.fs := fun hb => by
  have := (ok.funs.mem hb).1
  rw [e] at this; cases this
theorem Inv.bs (I : Inv X pins σ H s) : ∀ b o, X.base.get? b = some o → s.heap.get? b = some o ∧ H b = none := fun b o e =>
  ⟨I.base.keep b o (I.ok.bs b o e).1 (I.ok.bs b o e).2 (I.ok.nofr e) (I.ok.noex b o e), I.base.free b o (I.ok.bs b o e).1 (I.ok.bs b o e).2 (I.ok.noex b o e)⟩
theorem Inv.bk (I : Inv X pins σ H s) : ∀ b o, X.base.get? b = some o → s.heap.get? b = some o := fun b o e => (I.bs b o e).1
theorem Inv.mod (I : Inv X pins σ H s) : Mod X.K X.mg X.base := I.ok.mod
theorem Inv.kIn (I : Inv X pins σ H s) : X.K.In s.heap := I.ok.mod.kin.keeps I.bk
theorem Inv.lt (I : Inv X pins σ H s) : X.env.locals < s.heap.objs.size := let ⟨_, hn, _⟩ := I.loc; hn.lt
theorem Inv.sz (I : Inv X pins σ H s) : X.s₀.heap.objs.size ≤ s.heap.objs.size := Nat.le_trans I.ok.above (Nat.le_of_lt I.lt)
theorem Inv.nofs (I : Inv X pins σ H s) {a : Addr} (h : s.heap.objs.size ≤ a) : a ∉ X.fs := fun hb => by
  obtain ⟨_, o, ho, _⟩ := I.ok.funs.mem hb
  exact absurd (Nat.lt_of_lt_of_le (Heap.lt_size ho) (Nat.le_trans I.sz h)) (Nat.lt_irrefl _)
theorem Inv.cne (I : Inv X pins σ H s) : ∀ x c, X.env.cells.lookup x = some c → c ≠ X.env.locals := fun x c e z => by
  obtain ⟨v, o, ho, hd⟩ := I.cell x c e
  obtain ⟨m, ⟨o', es, ep, ho', hd', _⟩, _⟩ := I.loc
  rw [z, ho'] at ho; cases ho; rw [hd'] at hd; cases hd
theorem Inv.funs (I : Inv X pins σ H s) : s.heap.FunFrames X.base X.outer := by
  have all : ∀ (l : List Env), (∀ b ∈ frs l, b ∈ X.fs) → X.s₀.heap.FunFrames X.base l → s.heap.FunFrames X.base l := by
    intro l
    induction l with
    | nil => intro _ _; trivial
    | cons env r ih =>
      intro hs hl
      obtain ⟨hk, ⟨L, o, hf, hn, ho, hd⟩, hr⟩ := hl
      have hL : L ∈ X.fs := hs L (by unfold frs; rw [List.filterMap_cons, hf]; exact List.mem_cons_self)
      obtain ⟨sl, e⟩ := I.base.slot L o ho (I.ok.frf L hL) hL fun z => I.ok.exfs L z hL
      exact ⟨hk, ⟨L, _, hf, hn, e, hd⟩, ih (fun b hb => hs b (by unfold frs; rw [List.filterMap_cons, hf]; exact List.mem_cons_of_mem _ hb)) hr⟩
  exact all X.outer (fun _ hb => hb) I.ok.funs

/-- the frames that run, for a call -/
theorem Inv.stack (I : Inv X pins σ H s) : s.heap.FunFrames X.base X.stack := by
  rcases I.ok.stk with e | ⟨e, hf⟩
  · rw [e]; exact I.funs
  · rw [e]
    obtain ⟨m, hn, _⟩ := I.loc
    refine .cons (by rw [I.ok.kind]; decide) hf hn ?_ I.funs
    exact Heap.get?_none_of_le (Nat.le_trans I.ok.bsz I.ok.above)
theorem Inv.stkSub (I : Inv X pins σ H s) : ∀ b ∈ frs X.stack, b ∈ X.env.locals :: X.fs := fun b hb => by
  rcases I.ok.stk with e | ⟨e, hf⟩
  · rw [e] at hb; exact List.mem_cons_of_mem _ hb
  · rw [e] at hb
    unfold frs at hb
    rw [List.filterMap_cons, hf] at hb
    exact hb
theorem Inv.stkFree (I : Inv X pins σ H s) : ∀ b ∈ frs X.stack, H b = none := fun b hb => by
  rcases List.mem_cons.mp (I.stkSub b hb) with e | hb
  · rw [e]; exact I.free
  · obtain ⟨_, o, ho, _⟩ := I.ok.funs.mem hb
    exact I.base.free b o ho (I.ok.frf b hb) fun z => I.ok.exfs b z hb

/-- THE STEP: the untracked objects but the frame and the records at ch are kept (the callers' frames up to slots), the frame's map is kept, the new abstract heap is held -/
theorem Inv.step {g' : Array GenState} {t' : Nat} {d' : Drawn} {ch : List Addr} (I : Inv X pins σ H s)
    (hch : ∀ b ∈ ch, (b ∈ X.ex ∨ X.s₀.heap.get? b = none) ∧ b ≠ X.env.locals ∧ (∀ x c, X.env.cells.lookup x = some c → c ≠ b) ∧ ∀ p ∈ X.pn ++ pins, p.1 ≠ b)
    (keep : ∀ b o, b ≠ X.env.locals → b ∉ X.fs → b ∉ ch → s.heap.get? b = some o → H b = none → h'.get? b = some o)
    (slot : ∀ b o, b ≠ X.env.locals → b ∈ X.fs → b ∉ ch → s.heap.get? b = some o → H b = none → ∃ sl, h'.get? b = some { o with slots := sl }) (free : ∀ b o, b ∉ ch → s.heap.get? b = some o → H b = none → H' b = none)
    (there : ∀ b o, b ∉ ch → s.heap.get? b = some o → ∃ o', h'.get? b = some o')
    (tups : ∀ b xs, H b = some (.tup xs) → H' b = some (.tup xs)) (frzs : ∀ b o u, H b = some (.frz o u) → H' b = some (.frz o u)) (tbls : ∀ b ps, H b = some (.tbl ps) → ∃ more, H' b = some (.tbl (ps ++ more)))
    (ns : ∀ m, s.heap.Ns X.env.locals m → h'.Ns X.env.locals m) (hok : HOk X.prog X.w H' h') (hg : AllBare g') :
    Inv X pins σ H' { s with heap := h', gens := g', drawn := d', toks := t' } := by
  have neL : ∀ b o, X.s₀.heap.get? b = some o → b ≠ X.env.locals := fun b o e => Nat.ne_of_lt (Nat.lt_of_lt_of_le (Heap.lt_size e) I.ok.above)
  have neC : ∀ b o, X.s₀.heap.get? b = some o → b ∉ X.ex → b ∉ ch := fun b o e hx hb => by
    rcases (hch b hb).1 with z | z
    · exact hx z
    · rw [e] at z; cases z
  have cellK : ∀ x c, X.env.cells.lookup x = some c → ∀ v, s.heap.IsCell c v → h'.IsCell c v := fun x c e v ⟨o, ho, hd⟩ => by
    have nch : c ∉ ch := fun z => (hch c z).2.2.1 x c e rfl
    by_cases hc : c ∈ X.fs
    · obtain ⟨sl, q⟩ := slot c o (I.cne x c e) hc nch ho (I.freeC x c e)
      exact ⟨_, q, hd⟩
    · exact ⟨o, keep c o (I.cne x c e) hc nch ho (I.freeC x c e), hd⟩
  refine ⟨I.ok, I.os, hg, ⟨fun b o e n hb hx => ?_, fun b o e n hb hx => ?_, fun b o e n hx => ?_, fun b o e hx => ?_, fun b xs e => tups b xs (I.base.tups b xs e), fun b o xs e => frzs b o xs (I.base.frzs b o xs e), fun b ps e => ?_⟩, ?_, fun x c e => ?_, ?_, fun x c e => ?_, fun p hp => ?_, hok, I.len⟩
  · exact keep b o (neL b o e) hb (neC b o e hx) (I.base.keep b o e n hb hx) (I.base.free b o e n hx)
  · obtain ⟨sl, e1⟩ := I.base.slot b o e n hb hx
    obtain ⟨sl', e2⟩ := slot b _ (neL b o e) hb (neC b o e hx) e1 (I.base.free b o e n hx)
    exact ⟨sl', e2⟩
  · obtain ⟨o', e1⟩ := I.base.there b o e hx
    exact free b o' (neC b o e hx) e1 (I.base.free b o e n hx)
  · obtain ⟨o', e1⟩ := I.base.there b o e hx
    exact there b o' (neC b o e hx) e1
  · obtain ⟨m1, e1⟩ := I.base.tbls b ps e
    obtain ⟨m2, e2⟩ := tbls b _ e1
    exact ⟨m1 ++ m2, by rw [e2, Array.append_assoc]⟩
  · obtain ⟨m, hn, hl⟩ := I.loc
    refine ⟨m, ns m hn, fun i x v e1 e2 e3 => ?_⟩
    obtain ⟨u, r, l⟩ := hl i x v e1 e2 e3
    refine ⟨u, r, ?_⟩
    rcases l with l | ⟨k, c, e, z⟩
    · exact .inl l
    · exact .inr ⟨k, c, e, cellK x c e _ z⟩
  · obtain ⟨v, z⟩ := I.cell x c e
    exact ⟨v, cellK x c e v z⟩
  · obtain ⟨m, ⟨o, _, _, ho, _⟩, _⟩ := I.loc
    exact free _ o (fun z => (hch _ z).2.1 rfl) ho I.free
  · obtain ⟨v, o, ho, hd⟩ := I.cell x c e
    exact free c o (fun z => (hch c z).2.2.1 x c e rfl) ho (I.freeC x c e)
  · obtain ⟨e, n, ne, nf, d⟩ := I.pin p hp
    have nch : p.1 ∉ ch := fun z => (hch p.1 z).2.2.2 p hp rfl
    exact ⟨keep p.1 p.2 ne nf nch e n, free p.1 p.2 nch e n, ne, nf, d⟩
/-- .. where the frame's own object is kept too -/
theorem Inv.un {t' : Nat} (I : Inv X pins σ H s) (u : Un X.fs [] H H' s.heap h') (hok : HOk X.prog X.w H' h') : Inv X pins σ H' { s with heap := h', toks := t' } := by
  obtain ⟨m, ⟨o, es, ep, ho, r⟩, _⟩ := id I.loc
  obtain ⟨sl, hL⟩ := u.any ho I.free (by simp)
  exact I.step (g' := s.gens) (d' := s.drawn) (ch := []) (fun _ z => nomatch z) (fun b o _ hb _ e n => u.keep b o e n hb (by simp)) (fun b o _ hb _ e n => u.slot b o e n hb (by simp)) (fun b o _ e n => u.free b o e n (by simp)) (fun b o _ e => u.there b o e (by simp)) u.tups u.frzs u.tbls (fun m' hm => by
    obtain ⟨o', es', ep', ho', r'⟩ := hm
    rw [ho] at ho'; cases ho'
    exact ⟨_, es', ep', hL, r'⟩) hok I.bare
/-- behind a call (or a comprehension's block): the slots of this frame may have changed too, the records at ch may have turned -/
theorem Inv.call {g' : Array GenState} {t' : Nat} {d' : Drawn} {ch : List Addr} (I : Inv X pins σ H s) (u : Un (frs X.stack) ch H H' s.heap h') (hok : HOk X.prog X.w H' h') (hg : AllBare g')
    (hch : ∀ b ∈ ch, (b ∈ X.ex ∨ X.s₀.heap.get? b = none) ∧ b ≠ X.env.locals ∧ (∀ x c, X.env.cells.lookup x = some c → c ≠ b) ∧ ∀ p ∈ X.pn ++ pins, p.1 ≠ b) :
    Inv X pins σ H' { s with heap := h', gens := g', drawn := d', toks := t' } := by
  obtain ⟨m, ⟨o, es, ep, ho, r⟩, _⟩ := id I.loc
  obtain ⟨sl, hL⟩ := u.any ho I.free fun z => (hch _ z).2.1 rfl
  exact I.step (ch := ch) hch (fun b o hL hb hc e n => u.keep b o e n (fun z => (List.mem_cons.mp (I.stkSub b z)).elim hL hb) hc) (fun b o _ _ hc e n => u.any e n hc) (fun b o hc e n => u.free b o e n hc) (fun b o hc e => u.there b o e hc) u.tups u.frzs u.tbls (fun m' hm => by
    obtain ⟨o', es', ep', ho', r'⟩ := hm
    rw [ho] at ho'; cases ho'
    exact ⟨_, es', ep', hL, r'⟩) hok hg
/-- an untracked record of ours (an iterator) has turned -/
theorem Inv.turned {t' : Nat} {it : Addr} (I : Inv X pins σ H s) (k : ∀ b o, b ≠ it → s.heap.get? b = some o → h'.get? b = some o) (hn : H it = none) (hL : it ≠ X.env.locals)
    (h1 : it ∈ X.ex ∨ X.s₀.heap.get? it = none) (h2 : ∀ x c, X.env.cells.lookup x = some c → c ≠ it) (h3 : ∀ p ∈ X.pn ++ pins, p.1 ≠ it) : Inv X pins σ H { s with heap := h', toks := t' } := by
  have nit : ∀ b u, H b = some u → b ≠ it := fun b u e z => by rw [z, hn] at e; cases e
  refine I.step (g' := s.gens) (d' := s.drawn) (ch := [it]) (fun b hb => ?_) (fun b o _ _ hc e _ => k b o (fun z => hc (by simp [z])) e) (fun b o _ _ hc e _ => ⟨o.slots, k b o (fun z => hc (by simp [z])) e⟩) (fun _ _ _ _ n => n)
    (fun b o hc e => ⟨o, k b o (fun z => hc (by simp [z])) e⟩) (fun _ _ e => e) (fun _ _ _ e => e) (fun b ps e => ⟨#[], by rw [e]; simp⟩) (fun m hm => ?_) (fun b u e => ?_) I.bare
  · have e : b = it := by simpa using hb
    subst e
    exact ⟨h1, hL, h2, h3⟩
  · obtain ⟨o, es, ep, ho, r⟩ := hm
    exact ⟨o, es, ep, k _ o (Ne.symm hL) ho, r⟩
  · refine (I.hok b u e).stay (fun c v hc q => k c v ?_ q) (fun _ q => q) fun _ _ q => q
    rcases hc with z | z
    · rw [z]; exact nit b u e
    · exact nit c _ z
theorem Inv.tok (I : Inv X pins σ H s) (t : Nat) : Inv X pins σ H { s with toks := t } := I.un (h' := s.heap) (t' := t) Un.refl I.hok
/-- all objects kept -/
theorem Inv.kept {t' : Nat} (I : Inv X pins σ H s) (k : ∀ b u, s.heap.get? b = some u → h'.get? b = some u) : Inv X pins σ H { s with heap := h', toks := t' } := I.un (Un.kept k) (I.hok.kept k)
/-- a new object laid and tracked -/
theorem Inv.laid {a : Addr} {o : HO} {t' : Nat} (I : Inv X pins σ H s) (k : ∀ b u, s.heap.get? b = some u → h'.get? b = some u) (hp : s.heap.objs.size ≤ a) (new : ObjOk X.prog X.w (upd H a o) h' a o) :
    Inv X pins σ (upd H a o) { s with heap := h', toks := t' } := I.un (Un.laid k hp (I.hok.fresh hp)) (I.hok.laid k hp new)
/-- an object written -/
theorem Inv.write {x e : Addr} {o : HO} {t' : Nat} (I : Inv X pins σ H s) (mu : Mut (H x)) (he : e = x ∨ H e = some (.own x)) (k : ∀ b u, b ≠ e → s.heap.get? b = some u → h'.get? b = some u) (heo : ∃ u, h'.get? e = some u)
    (new : ObjOk X.prog X.w (upd H x o) h' x o) : Inv X pins σ (upd H x o) { s with heap := h', toks := t' } := I.un (Un.write mu he k heo) (I.hok.write mu he k heo new)
/-- forgetting slots, pins -/
theorem Inv.weak {σ' : List (Option V)} (I : Inv X pins σ H s) (hl : σ'.length = σ.length) (w : ∀ (i : Nat) v, σ'[i]? = some (some v) → σ[i]? = some (some v)) : Inv X pins σ' H s :=
  ⟨I.ok, I.os, I.bare, I.base, let ⟨m, hn, hl'⟩ := I.loc; ⟨m, hn, fun i x v e1 e2 e3 => hl' i x v e1 (w i v e2) e3⟩, I.cell, I.free, I.freeC, I.pin, I.hok, hl.trans I.len⟩
theorem Inv.pins_of {pins' : List (Addr × Obj)} (I : Inv X pins σ H s) (h : ∀ p ∈ pins', s.heap.get? p.1 = some p.2 ∧ H p.1 = none ∧ p.1 ≠ X.env.locals ∧ p.1 ∉ X.fs ∧ ∀ v, p.2.data ≠ .cell v) : Inv X pins' σ H s :=
  ⟨I.ok, I.os, I.bare, I.base, I.loc, I.cell, I.free, I.freeC, fun p hp => (List.mem_append.mp hp).elim (fun z => I.pin p (List.mem_append_left _ z)) (h p), I.hok, I.len⟩

theorem nodup_ix {N : List Str} (hN : N.Nodup) {i j : Nat} {x : Str} (a : N[i]? = some x) (b : N[j]? = some x) : i = j := by
  obtain ⟨h1, e1⟩ := List.getElem?_eq_some_iff.mp a
  obtain ⟨h2, e2⟩ := List.getElem?_eq_some_iff.mp b
  exact (List.getElem_inj hN).mp (e1.trans e2.symm)

/-- a name is stored; what changed -/
theorem store_ok2 {M : Model} {A : Around} {E : Value → Shared → Prop} {i : Nat} {x : Str} {v : V} {u : Value} {Q : Unit → Shared → Prop} (I : Inv X pins σ H s) (hN : X.N.Nodup) (hi : X.N[i]? = some x) (hx : Loc X.env.scope x) (r : RelV v u)
    (h : ∀ s', Inv X pins (σ.set i (some v)) H s' → (∃ a, Heap.SameBut a s.heap s'.heap ∧ (a = X.env.locals ∨ X.env.cells.lookup x = some a)) → Q () s') (hf : X.fn x = true ∨ X.env.scope.names.lookup x = some .local := by first | exact .inl rfl | exact .inr rfl | assumption) : wpAny M A (storeName X.env x u) Q E s := by
  obtain ⟨m, hn, hl⟩ := id I.loc
  have hcls : (X.env.scope.kind == .class || (X.env.scope.kind == .module && X.env.locals != X.env.globals)) = false := by rw [I.ok.kind]; rfl
  have hiσ : i < σ.length := by rw [I.len]; exact (List.getElem?_eq_some_iff.mp hi).1
  have cne := I.cne
  have tracked : ∀ {a : Addr} {h' : Heap}, (∃ o, s.heap.get? a = some o ∧ H a = none) → Heap.SameBut a s.heap h' → HOk X.prog X.w H h' := fun {a h'} ha hs b ob e => by
    obtain ⟨_, _, hfree⟩ := ha
    refine (I.hok b ob e).stay (fun c w' hc q => (hs.2 c ?_).trans q) (fun _ q => q) fun _ _ q => q
    rintro rfl
    rcases hc with rfl | hc
    · rw [hfree] at e; cases e
    · rw [hfree] at hc; cases hc
  rcases hx with hk | hk
  · refine wpAny_storeName_local hk hn (fun h' hn' hs => ?_) hcls
    obtain ⟨oL, _, _, hoL, _⟩ := id hn
    refine h _ ⟨I.ok, I.os, I.bare, ⟨fun b o e n hb hx => ?_, fun b o e n hb hx => ?_, I.base.free, fun b o e hx => ?_, I.base.tups, I.base.frzs, I.base.tbls⟩, ⟨_, hn', fun j y v' e1 e2 e3 => ?_⟩, fun y c e => ?_, I.free, I.freeC, fun p hp => ?_, tracked ⟨oL, hoL, I.free⟩ hs, by simpa using I.len⟩ ⟨_, hs, .inl rfl⟩
    · exact (hs.2 b (Nat.ne_of_lt (Nat.lt_of_lt_of_le (Heap.lt_size e) I.ok.above))).trans (I.base.keep b o e n hb hx)
    · obtain ⟨sl, e1⟩ := I.base.slot b o e n hb hx
      exact ⟨sl, (hs.2 b (Nat.ne_of_lt (Nat.lt_of_lt_of_le (Heap.lt_size e) I.ok.above))).trans e1⟩
    · obtain ⟨o', e1⟩ := I.base.there b o e hx
      exact ⟨o', (hs.2 b (Nat.ne_of_lt (Nat.lt_of_lt_of_le (Heap.lt_size e) I.ok.above))).trans e1⟩
    · by_cases hj : j = i
      · subst hj
        rw [hi] at e1; cases e1
        rw [List.getElem?_set_self hiσ] at e2
        cases e2
        exact ⟨u, r, .inl ⟨hk, by simp⟩⟩
      · rw [List.getElem?_set_ne (Ne.symm hj)] at e2
        obtain ⟨u', r', q⟩ := hl j y v' e1 e2 e3
        refine ⟨u', r', ?_⟩
        rcases q with ⟨k, e⟩ | ⟨k, c, e, z⟩
        · refine .inl ⟨k, ?_⟩
          have : y ≠ x := fun e => hj (nodup_ix hN e1 (e ▸ hi))
          simp [this, e]
        · exact .inr ⟨k, c, e, z.sameBut hs (cne y c e)⟩
    · obtain ⟨w', z⟩ := I.cell y c e
      exact ⟨w', z.sameBut hs (cne y c e)⟩
    · obtain ⟨e, n, ne, nf, d⟩ := I.pin p hp
      exact ⟨(hs.2 p.1 ne).trans e, n, ne, nf, d⟩
  · have hfn : X.fn x = true := by
      rcases hf with z | z
      · exact z
      · rw [z] at hk; cases hk
    obtain ⟨c, hc⟩ := I.ok.has x (.inl hk)
    obtain ⟨w', z⟩ := I.cell x c hc
    refine wpAny_storeName_cell I.ok.kind hk hc z (fun h' hc' hs => ?_)
    obtain ⟨oc, hoc, hocd⟩ := id z
    refine h { s with heap := h' } ⟨I.ok, I.os, I.bare, ⟨fun b o e n hb hx => ?_, fun b o e n hb hx => ?_, I.base.free, fun b o e hx => ?_, I.base.tups, I.base.frzs, I.base.tbls⟩, ⟨m, hn.sameBut hs (Ne.symm (cne x c hc)), fun j y v' e1 e2 e3 => ?_⟩, fun y c' e => ?_, I.free, I.freeC, fun p hp => ?_, tracked ⟨oc, hoc, I.freeC x c hc⟩ hs, by simpa using I.len⟩ ⟨c, hs, .inr hc⟩
    · exact (hs.2 b (Nat.ne_of_lt (Nat.lt_of_lt_of_le (Heap.lt_size e) (I.ok.cab x c hfn hc)))).trans (I.base.keep b o e n hb hx)
    · obtain ⟨sl, e1⟩ := I.base.slot b o e n hb hx
      exact ⟨sl, (hs.2 b (Nat.ne_of_lt (Nat.lt_of_lt_of_le (Heap.lt_size e) (I.ok.cab x c hfn hc)))).trans e1⟩
    · obtain ⟨o', e1⟩ := I.base.there b o e hx
      exact ⟨o', (hs.2 b (Nat.ne_of_lt (Nat.lt_of_lt_of_le (Heap.lt_size e) (I.ok.cab x c hfn hc)))).trans e1⟩
    · by_cases hj : j = i
      · subst hj
        rw [hi] at e1; cases e1
        rw [List.getElem?_set_self hiσ] at e2
        cases e2
        exact ⟨u, r, .inr ⟨.inl hk, c, hc, hc'⟩⟩
      · rw [List.getElem?_set_ne (Ne.symm hj)] at e2
        obtain ⟨u', r', q⟩ := hl j y v' e1 e2 e3
        refine ⟨u', r', ?_⟩
        rcases q with q | ⟨k, c', e, z'⟩
        · exact .inl q
        · refine .inr ⟨k, c', e, z'.sameBut hs ?_⟩
          rintro rfl
          exact hj (nodup_ix hN e1 (I.ok.inj _ _ _ e hc ▸ hi))
    · by_cases hcc : c' = c
      · subst hcc; exact ⟨_, hc'⟩
      · obtain ⟨w2, z2⟩ := I.cell y c' e
        exact ⟨w2, z2.sameBut hs hcc⟩
    · obtain ⟨e, n, ne, nf, d⟩ := I.pin p hp
      refine ⟨(hs.2 p.1 ?_).trans e, n, ne, nf, d⟩
      intro q
      rw [q, hoc] at e
      have q' : oc = p.2 := Option.some.inj e
      exact d w' (by rw [← q']; exact hocd)
theorem store_ok {M : Model} {A : Around} {E : Value → Shared → Prop} {i : Nat} {x : Str} {v : V} {u : Value} {Q : Unit → Shared → Prop} (I : Inv X pins σ H s) (hN : X.N.Nodup) (hi : X.N[i]? = some x) (hx : Loc X.env.scope x) (r : RelV v u)
    (h : ∀ s', Inv X pins (σ.set i (some v)) H s' → Q () s') (hf : X.fn x = true ∨ X.env.scope.names.lookup x = some .local := by first | exact .inl rfl | exact .inr rfl | assumption) : wpAny M A (storeName X.env x u) Q E s :=
  store_ok2 I hN hi hx r (fun s' I' _ => h s' I') hf
/-- behind a call or a block, the state as it is -/
theorem Inv.call' {s' : Shared} {ch : List Addr} (I : Inv X pins σ H s) (ho : s'.os = s.os) (u : Un (frs X.stack) ch H H' s.heap s'.heap) (hok : HOk X.prog X.w H' s'.heap) (hg : AllBare s'.gens)
    (hch : ∀ b ∈ ch, (b ∈ X.ex ∨ X.s₀.heap.get? b = none) ∧ b ≠ X.env.locals ∧ (∀ x c, X.env.cells.lookup x = some c → c ≠ b) ∧ ∀ p ∈ X.pn ++ pins, p.1 ≠ b) : Inv X pins σ H' s' := by
  obtain ⟨h', g', d', t', o'⟩ := s'
  have e : o' = s.os := ho
  subst e
  exact I.call (g' := g') (t' := t') (d' := d') u hok hg hch
end

/-! ### the judgements -/
/-- an exception: its class, its own dict's address (where it has one), the abstract heap behind it -/
abbrev XK := Value → Option Addr → Hp → Prop
abbrev St := List (Option V)
abbrev VK := V → Hp → Prop
/-- an expression's reading; a test's; an argument list's -/
abbrev TE := St → Hp → VK → Prop
abbrev TT := St → Hp → (Bool → Hp → Prop) → Prop
abbrev TA := St → Hp → (List V → Hp → Prop) → Prop
/-- what is wanted behind a statement -/
structure Ends where
  nx : St → Hp → Prop
  rt : VK
  bk : St → Hp → Prop := fun _ _ => False
  ct : St → Hp → Prop := fun _ _ => False
abbrev TS := Ends → St → Hp → Prop

def EP (X : Cx) (pins : List (Addr × Obj)) (σ : St) (Q : VK) (u : Value) (s' : Shared) : Prop := ∃ v H', Inv X pins σ H' s' ∧ RelV v u ∧ Q v H'
def TP (X : Cx) (pins : List (Addr × Obj)) (σ : St) (Q : Bool → Hp → Prop) (b : Bool) (s' : Shared) : Prop := ∃ H', Inv X pins σ H' s' ∧ Q b H'
def AP (X : Cx) (pins : List (Addr × Obj)) (σ : St) (Q : List V → Hp → Prop) (us : List Value) (s' : Shared) : Prop := ∃ vs H', Inv X pins σ H' s' ∧ Vals vs us ∧ Q vs H'
def SP (X : Cx) (pins : List (Addr × Obj)) (D : Ends) (f : Flow) (s' : Shared) : Prop :=
  match f with
  | .next => ∃ σ' H', Inv X pins σ' H' s' ∧ D.nx σ' H'
  | .brk => ∃ σ' H', Inv X pins σ' H' s' ∧ D.bk σ' H'
  | .cont => ∃ σ' H', Inv X pins σ' H' s' ∧ D.ct σ' H'
  | .ret u => ∃ v σ' H', Inv X pins σ' H' s' ∧ RelV v u ∧ D.rt v H'

def PE (X : Cx) (e : Expr) (t : TE) : Prop :=
  ∀ (pins : List (Addr × Obj)) (s : Shared) (σ : St) (H : Hp) (Q : VK), Inv X pins σ H s → t σ H Q → wpAny (model X.prog X.w) X.A (eval e X.env) (EP X pins σ Q) X.xe s
def PT (X : Cx) (e : Expr) (t : TT) : Prop :=
  ∀ (pins : List (Addr × Obj)) (s : Shared) (σ : St) (H : Hp) (Q : Bool → Hp → Prop), Inv X pins σ H s → t σ H Q → wpAny (model X.prog X.w) X.A (isTrue e X.env (eval e X.env)) (TP X pins σ Q) X.xe s
/-- a test whatever its 'whole' is (and, or) -/
def PW (X : Cx) (e : Expr) (t : TT) : Prop :=
  ∀ (whole : Sem Value) (pins : List (Addr × Obj)) (s : Shared) (σ : St) (H : Hp) (Q : Bool → Hp → Prop), Inv X pins σ H s → t σ H Q → wpAny (model X.prog X.w) X.A (isTrue e X.env whole) (TP X pins σ Q) X.xe s
theorem PW.pt {X : Cx} {e : Expr} {t : TT} (h : PW X e t) : PT X e t := h _
/-- an argument list (no star), from the left -/
def PA (X : Cx) (es : List Expr) (t : TA) : Prop :=
  ∀ (pos : Pos) (pins : List (Addr × Obj)) (s : Shared) (σ : St) (H : Hp) (Q : List V → Hp → Prop), Inv X pins σ H s → t σ H Q → wpAny (model X.prog X.w) X.A (spliced (backTo pos (starEach es X.env))) (AP X pins σ Q) X.xe s
def PS (X : Cx) (st : Stmt) (t : TS) : Prop :=
  ∀ (pins : List (Addr × Obj)) (s : Shared) (σ : St) (H : Hp) (D : Ends), Inv X pins σ H s → t D σ H → wpAny (model X.prog X.w) X.A (exec st X.env) (SP X pins D) X.xe s
def PSs (X : Cx) (st : List Stmt) (t : TS) : Prop :=
  ∀ (pins : List (Addr × Obj)) (s : Shared) (σ : St) (H : Hp) (D : Ends), Inv X pins σ H s → t D σ H → wpAny (model X.prog X.w) X.A (execs st X.env) (SP X pins D) X.xe s
/-- weaken the end -/
theorem thn {α : Type} {t : Sem α} {Q Q' : α → Shared → Prop} {M : Model} {A : Around} {E : Value → Shared → Prop} {s : Shared} (h : wpAny M A t Q E s) (hQ : ∀ a s, Q a s → Q' a s) : wpAny M A t Q' E s := wpAny_mono h hQ fun _ _ x => x
end L2

namespace L2
open PySem PySem.Spec PyProof.Rows
section
variable {X : Cx}


/-! ### names and constants -/
def tVar (i : Nat) : TE := fun σ H Q => ∃ v, σ[i]? = some (some v) ∧ Q v H
def tC (v : V) : TE := fun _ H Q => Q v H
theorem pe_var {i : Nat} {x : Str} {pos : Pos} (hN : X.N[i]? = some x) (hv : Vis X.env.scope x) (hd : (x == ("__debug__" : Str)) = false := by decide) (hcd : (x == ("__classdict__" : Str)) = false := by decide) : PE X (.Name x pos) (tVar i) := by
  intro pins s σ H Q I h
  obtain ⟨v, e, h⟩ := h
  obtain ⟨m, hn, hl⟩ := I.loc
  obtain ⟨u, r, l⟩ := hl i x v hN e hv
  have fin : EP X pins σ Q u s := ⟨v, H, I, r, h⟩
  rcases l with ⟨hk, hm⟩ | ⟨hk, c, hc, hcell⟩
  · exact wpAny_Name (wpAny_loadName_local I.ok.kind hk hn hm fin) hd
  · rcases hk with hk | hk
    · exact wpAny_Name (wpAny_loadName_cell I.ok.kind hk hc hcell fin) hd
    · exact wpAny_Name (wpAny_loadName_free I.ok.kind hk hc hcell fin hcd) hd
theorem pe_int {i j pos} : PE X (.Constant (.int i) j pos) (tC (.int i)) := fun _ _ _ H _ I h => wpAny_Constant_int ⟨.int i, H, I.tok _, ⟨_, rfl⟩, h⟩
theorem pe_bl {b j pos} : PE X (.Constant (.bool b) j pos) (tC (.bl b)) := fun _ _ _ H _ I h => Constant_bool ⟨.bl b, H, I, rfl, h⟩
theorem pe_non {j pos} : PE X (.Constant .none j pos) (tC .non) := fun _ _ _ H _ I h => Constant_none ⟨.non, H, I, rfl, h⟩
theorem pe_str {x j pos} : PE X (.Constant (.str x) j pos) (tC (.str x)) := fun _ _ _ H _ I h => Calls.Constant_str ⟨.str x, H, I.tok _, ⟨_, rfl⟩, h⟩

/-- a global name of the def -/
def Gl (X : Cx) (x : Str) : Prop := X.env.kindOf x = some .globalImplicit
theorem ld_glob {E : Value → Shared → Prop} {pins : List (Addr × Obj)} {s : Shared} {σ : St} {H : Hp} {x : Str} {u : Value} {pos : Pos} {Q : Value → Shared → Prop} (I : Inv X pins σ H s) (hg : Gl X x) (hm : X.mg x = some u) (h : Q u s)
    (hd : (x == ("__debug__" : Str)) = false := by decide) : wpAny (model X.prog X.w) X.A (eval (.Name x pos) X.env) Q E s :=
  Calls.Name_function_global I.ok.kind hg (Calls.loadGlobal_global (by rw [I.ok.glob]; exact I.mod.glob.keeps I.bk) hm h) hd
theorem ld_blt {E : Value → Shared → Prop} {pins : List (Addr × Obj)} {s : Shared} {σ : St} {H : Hp} {x : Str} {u : Value} {pos : Pos} {Q : Value → Shared → Prop} (I : Inv X pins σ H s) (hg : Gl X x) (hm : X.mg x = none) (hv : bootBuiltins x = some u) (h : Q u s)
    (hn : x ≠ "__name__" := by decide) (hd : (x == ("__debug__" : Str)) = false := by decide) : wpAny (model X.prog X.w) X.A (eval (.Name x pos) X.env) Q E s := by
  obtain ⟨mb, h1, h2⟩ := I.mod.blt
  exact Calls.Name_function_global I.ok.kind hg (Calls.loadGlobal_builtin (by rw [I.ok.glob]; exact I.mod.glob.keeps I.bk) hm (by rw [I.ok.blt]; exact h1.keeps I.bk) ((h2 x hn).trans hv) h) hd
/-- a module's constant, a class, a function, as a value -/
theorem pe_glob {x : Str} {v : V} {u : Value} {pos : Pos} (hg : Gl X x) (hm : X.mg x = some u) (r : RelV v u) (hd : (x == ("__debug__" : Str)) = false := by decide) : PE X (.Name x pos) (tC v) :=
  fun _ _ _ H _ I h => ld_glob I hg hm ⟨v, H, I, r, h⟩ hd
theorem pe_bltn {x : Str} {v : V} {u : Value} {pos : Pos} (hg : Gl X x) (hm : X.mg x = none) (hv : bootBuiltins x = some u) (r : RelV v u) (hn : x ≠ "__name__" := by decide) (hd : (x == ("__debug__" : Str)) = false := by decide) : PE X (.Name x pos) (tC v) :=
  fun _ _ _ H _ I h => ld_blt I hg hm hv ⟨v, H, I, r, h⟩ hn hd

/-! ### arithmetic -/
/-- two ints -/
def t2I (ta tb : TE) (k : Int → Int → Hp → Prop) : St → Hp → Prop := fun σ H => ta σ H fun x H1 => tb σ H1 fun y H2 => ∃ i j, x = .int i ∧ y = .int j ∧ k i j H2
def tAdd (ta tb : TE) : TE := fun σ H Q => t2I ta tb (fun i j H2 => Q (.int (i + j)) H2) σ H
def tSub (ta tb : TE) : TE := fun σ H Q => t2I ta tb (fun i j H2 => Q (.int (i - j)) H2) σ H
/-- the left factor below 2^64 -/
def tMul (ta tb : TE) : TE := fun σ H Q => t2I ta tb (fun i j H2 => (-(2 ^ 64) < i ∧ i < 2 ^ 64) ∧ Q (.int (i * j)) H2) σ H
variable {a b : Expr} {ta tb : TE} {pos : Pos}

/-! ### comparisons -/
def PC (X : Cx) (op : CmpOp) (a b : Expr) (t : TE) : Prop :=
  ∀ (pins : List (Addr × Obj)) (s : Shared) (σ : St) (H : Hp) (Q : VK), Inv X pins σ H s → t σ H Q →
    wpAny (model X.prog X.w) X.A (eval a X.env) (fun v s₁ => wpAny (model X.prog X.w) X.A (eval b X.env) (fun u s₂ => wpAny (model X.prog X.w) X.A (compareOp op v u) (EP X pins σ Q) X.xe s₂) X.xe s₁) X.xe s
def tCmp (p : Int → Int → Bool) (ta tb : TE) : TE := fun σ H Q => t2I ta tb (fun i j H2 => Q (.bl (p i j)) H2) σ H
abbrev tLt : TE → TE → TE := tCmp fun i j => decide (i < j)
abbrev tLe : TE → TE → TE := tCmp fun i j => decide (i ≤ j)
abbrev tGt : TE → TE → TE := tCmp fun i j => decide (j < i)
abbrev tGe : TE → TE → TE := tCmp fun i j => decide (j ≤ i)
abbrev tEqI : TE → TE → TE := tCmp fun i j => decide (i = j)
abbrev tNeI : TE → TE → TE := tCmp fun i j => !decide (i = j)
/-- is None -/
def tIsN (ta : TE) : TE := fun σ H Q => ta σ H fun x H1 => Q (.bl (decide (x = .non))) H1
def tNotN (ta : TE) : TE := fun σ H Q => ta σ H fun x H1 => Q (.bl (!decide (x = .non))) H1
/-- a comparison as a value, as a test -/
def tB (t : TE) : TT := fun σ H Q => t σ H fun x H1 => ∃ c, x = .bl c ∧ Q c H1
/-- an expression whose value is a bool, as a test -/
theorem pt_val {e : Expr} {t : TE} (h : PE X e t) (he : ∀ whole, isTrue e X.env whole = (do let v ← whole; standAt e.pos; holding [v] (truthy v)) := by intro _; rfl) : PT X e (tB t) := by
  intro pins s σ H Q I hw
  refine isTrue_plain (thn (h pins s σ H _ I hw) fun v s1 ⟨x, H1, I1, r1, q1⟩ => ?_) (he _)
  obtain ⟨d, rfl, q⟩ := q1
  cases r1
  exact wpAny_truthy_bool ⟨H1, I1, q⟩

/-! ### and, or, not -/
variable {tA tB' : TT} {rest : List Expr}
def tAnd (t u : TT) : TT := fun σ H Q => t σ H fun c H1 => if c = true then u σ H1 Q else Q false H1
def tOr (t u : TT) : TT := fun σ H Q => t σ H fun c H1 => if c = true then Q true H1 else u σ H1 Q
def tNot (t : TT) : TT := fun σ H Q => t σ H fun c H1 => Q (!c) H1
theorem pw_or1 (ha : PT X a tA) : PW X (.BoolOp .Or [a] pos) tA := by
  intro wh pins s σ H Q I h
  refine isTrue_or (thn (ha pins s σ H Q I h) fun c s1 e => ?_)
  cases c with
  | false => exact isTrue_or_nil e
  | true => exact e
theorem pw_or (ha : PT X a tA) (hb : PW X (.BoolOp .Or (b :: rest) pos) tB') : PW X (.BoolOp .Or (a :: b :: rest) pos) (tOr tA tB') := by
  intro wh pins s σ H Q I h
  refine isTrue_or (thn (ha pins s σ H _ I h) fun c s1 ⟨H1, I1, q1⟩ => ?_)
  cases c with
  | true => exact ⟨H1, I1, q1⟩
  | false => exact hb wh pins s1 σ H1 Q I1 q1
theorem pt_not (ha : PT X a tA) : PT X (.UnaryOp .Not a pos) (tNot tA) := by
  intro pins s σ H Q I h
  exact isTrue_not (ha pins s σ H (fun c H1 => Q (!c) H1) I h)
/-- .. as values (bools) -/
def tAndV (ta tb : TE) : TE := fun σ H Q => ta σ H fun x H1 => ∃ c, x = .bl c ∧ if c = true then tb σ H1 Q else Q (.bl false) H1
def tOrV (ta tb : TE) : TE := fun σ H Q => ta σ H fun x H1 => ∃ c, x = .bl c ∧ if c = true then Q (.bl true) H1 else tb σ H1 Q
def tNotV (ta : TE) : TE := fun σ H Q => ta σ H fun x H1 => ∃ c, x = .bl c ∧ Q (.bl (!c)) H1
theorem pe_one {op} {t : TE} (h : PE X a t) : PE X (.BoolOp op [a] pos) t := fun pins s σ H Q I hw => BoolOp_one (h pins s σ H Q I hw)
theorem pe_and (ha : PE X a ta) (hb : PE X (.BoolOp .And (b :: rest) pos) tb) : PE X (.BoolOp .And (a :: b :: rest) pos) (tAndV ta tb) := by
  intro pins s σ H Q I h
  refine BoolOp_and (thn (ha pins s σ H _ I h) fun v s1 ⟨x, H1, I1, r1, q1⟩ => ?_)
  obtain ⟨c, rfl, q1⟩ := q1
  cases r1
  refine wpAny_truthy_bool ?_
  cases c with
  | true => exact hb pins s1 σ H1 Q I1 q1
  | false => exact ⟨.bl false, H1, I1, rfl, q1⟩
theorem pe_not (ha : PE X a ta) : PE X (.UnaryOp .Not a pos) (tNotV ta) := by
  intro pins s σ H Q I h
  refine UnaryOp_ (thn (ha pins s σ H _ I h) fun v s1 ⟨x, H1, I1, r1, q1⟩ => ?_)
  obtain ⟨c, rfl, q1⟩ := q1
  cases r1
  exact not_of (wpAny_truthy_bool ⟨.bl (!c), H1, I1, rfl, q1⟩)
/-- a if t else b -/
def tIf (t : TT) (ta tb : TE) : TE := fun σ H Q => t σ H fun c H1 => if c = true then ta σ H1 Q else tb σ H1 Q
theorem pe_ifExp {c : Expr} (hc : PT X c tA) (ha : PE X a ta) (hb : PE X b tb) : PE X (.IfExp c a b pos) (tIf tA ta tb) := by
  intro pins s σ H Q I h
  refine wpAny_IfExp (thn (hc pins s σ H _ I h) fun d s1 ⟨H1, I1, q1⟩ => ?_)
  cases d with
  | true => exact ha pins s1 σ H1 Q I1 q1
  | false => exact hb pins s1 σ H1 Q I1 q1
end
end L2

namespace L2
open PySem PySem.Spec PyProof.Rows

/-! ### a list, a tuple that is read: tracked, frozen, or an object of the module -/
def SqL (K : PySem.W.Frag) (H : Hp) (a : Addr) (xs : List V) : Prop :=
  Rd H a (.lst xs) ∨
    ∃ (o : Obj) (its : Array Value) (n : Nat), K.lookup a = some o ∧ o.cls = .type "list" ∧ o.dict = none ∧ o.data = .seq its n ∧ its.size ≤ sizeLine ∧ Vals xs its.toList
def SqT (K : PySem.W.Frag) (H : Hp) (a : Addr) (xs : List V) : Prop :=
  Rd H a (.tup xs) ∨
    ∃ (o : Obj) (its : Array Value) (n : Nat), K.lookup a = some o ∧ o.cls = .type "tuple" ∧ o.data = .seq its n ∧ its.size ≤ sizeLine ∧ Vals xs its.toList
def absV : Value → Option V
  | .none => some .non
  | .bool b => some (.bl b)
  | .int i _ => some (.int i)
  | .str x _ => some (.str x)
  | .bytes b _ => some (.byt b)
  | .float b _ => some (.flt b)
  | .ref a => some (.ref a)
  | .type n => some (.ty n)
  | _ => none
theorem RelV.abs {x : V} {u : Value} (r : RelV x u) : absV u = some x := by
  cases x with
  | non => cases r; rfl
  | bl _ => cases r; rfl
  | int _ => obtain ⟨t, rfl⟩ := r; rfl
  | str _ => obtain ⟨t, rfl⟩ := r; rfl
  | byt _ => obtain ⟨t, rfl⟩ := r; rfl
  | flt _ => obtain ⟨t, rfl⟩ := r; rfl
  | ref _ => cases r; rfl
  | ty _ => cases r; rfl
theorem RelV.inj {x y : V} {u : Value} (r : RelV x u) (q : RelV y u) : x = y := Option.some.inj (r.abs.symm.trans q.abs)
theorem Vals.inj : ∀ {xs ys : List V} {us : List Value}, Vals xs us → Vals ys us → xs = ys
  | _, _, _, .nil, .nil => rfl
  | _, _, _, .cons r t, .cons r' t' => by rw [r.inj r', Vals.inj t t']
section
variable {X : Cx} {pins : List (Addr × Obj)} {σ : St} {H : Hp} {s : Shared} {a : Addr} {xs ys : List V}
theorem SqL.of {K : PySem.W.Frag} (h : H a = some (.lst xs)) : SqL K H a xs := .inl (.inl h)
theorem SqT.of {K : PySem.W.Frag} (h : H a = some (.tup xs)) : SqT K H a xs := .inl (.inl h)
theorem Inv.list (I : Inv X pins σ H s) (h : SqL X.K H a xs) : ∃ its : List Value, Vals xs its ∧ PlainL s.heap a its.toArray ∧ xs.length ≤ sizeLine := by
  rcases h with h | ⟨o, its, n, hk, hc, hd, hs, hz, r⟩
  · obtain ⟨z, its, n, r, e⟩ := h.ok I.hok
    exact ⟨its, r, ⟨_, n, e, rfl, rfl, rfl⟩, z⟩
  · refine ⟨its.toList, r, ⟨o, n, I.kIn a o hk, hc, hd, by simpa using hs⟩, ?_⟩
    have e := r.length
    simp only [Array.length_toList] at e
    omega
theorem Inv.tuple (I : Inv X pins σ H s) (h : SqT X.K H a xs) : ∃ its : List Value, Vals xs its ∧ IsTup s.heap a its.toArray ∧ xs.length ≤ sizeLine := by
  rcases h with h | ⟨o, its, n, hk, hc, hs, hz, r⟩
  · obtain ⟨z, its, r, p⟩ := h.ok I.hok
    exact ⟨its, r, p, z⟩
  · refine ⟨its.toList, r, ⟨o, I.kIn a o hk, hc, n, by simpa using hs⟩, ?_⟩
    have e := r.length
    simp only [Array.length_toList] at e
    omega
theorem Inv.list_inj (I : Inv X pins σ H s) (h : SqL X.K H a xs) (h' : SqL X.K H a ys) : xs = ys := by
  obtain ⟨its, r, ⟨o, n, e, _, _, d⟩, _⟩ := I.list h
  obtain ⟨its', r', ⟨o', n', e', _, _, d'⟩, _⟩ := I.list h'
  rw [e] at e'; cases e'
  rw [d] at d'
  injection d' with d1 _
  have : its = its' := by simpa using congrArg Array.toList d1
  subst this
  exact r.inj r'
theorem Inv.tuple_inj (I : Inv X pins σ H s) (h : SqT X.K H a xs) (h' : SqT X.K H a ys) : xs = ys := by
  obtain ⟨its, r, ⟨o, e, _, n, d⟩, _⟩ := I.tuple h
  obtain ⟨its', r', ⟨o', e', _, n', d'⟩, _⟩ := I.tuple h'
  rw [e] at e'; cases e'
  rw [d] at d'
  injection d' with d1 _
  have : its = its' := by simpa using congrArg Array.toList d1
  subst this
  exact r.inj r'
end

/-! ### another wish about exceptions -/
abbrev Cx.wish (X : Cx) (E : Value → Shared → Prop) : Cx := { X with xe := E }
/-- no exception leaves -/
abbrev Cx.nox (X : Cx) : Cx := X.wish fun _ _ => False
theorem Cx.Ok.wish {X : Cx} (ok : X.Ok) (E : Value → Shared → Prop) : (X.wish E).Ok :=
  ⟨ok.mod, ok.kind, ok.glob, ok.blt, ok.above, ok.inj, ok.has, ok.cab, ok.hd, ok.frames, ok.stk, ok.exf, ok.bs, ok.bsz, ok.noex, ok.exfs, ok.funs, ok.frf⟩
theorem Cx.Ok.unwish {X : Cx} {E : Value → Shared → Prop} (ok : (X.wish E).Ok) : X.Ok :=
  ⟨ok.mod, ok.kind, ok.glob, ok.blt, ok.above, ok.inj, ok.has, ok.cab, ok.hd, ok.frames, ok.stk, ok.exf, ok.bs, ok.bsz, ok.noex, ok.exfs, ok.funs, ok.frf⟩
section
variable {X : Cx} {pins : List (Addr × Obj)} {σ : St} {H : Hp} {s : Shared} {E : Value → Shared → Prop}
theorem Inv.wish (I : Inv X pins σ H s) (E : Value → Shared → Prop) : Inv (X.wish E) pins σ H s := ⟨I.ok.wish E, I.os, I.bare, I.base, I.loc, I.cell, I.free, I.freeC, I.pin, I.hok, I.len⟩
theorem Inv.unwish (I : Inv (X.wish E) pins σ H s) : Inv X pins σ H s := ⟨I.ok.unwish, I.os, I.bare, I.base, I.loc, I.cell, I.free, I.freeC, I.pin, I.hok, I.len⟩
theorem SP.unwish {D : Ends} {f : Flow} {s' : Shared} (h : SP (X.wish E) pins D f s') : SP X pins D f s' := by
  cases f with
  | next => obtain ⟨σ', H', I, q⟩ := h; exact ⟨σ', H', I.unwish, q⟩
  | brk => obtain ⟨σ', H', I, q⟩ := h; exact ⟨σ', H', I.unwish, q⟩
  | cont => obtain ⟨σ', H', I, q⟩ := h; exact ⟨σ', H', I.unwish, q⟩
  | ret u => obtain ⟨v, σ', H', I, r, q⟩ := h; exact ⟨v, σ', H', I.unwish, r, q⟩
theorem PSs.nox {st : List Stmt} {t : TS} (h : PSs X.nox st t) : PSs X st t := fun pins s σ H D I hw =>
  wpAny_mono (h pins s σ H D (I.wish _) hw) (fun _ _ q => q.unwish) fun _ _ z => False.elim z
end

/-! ### blocks and small statements -/
section
variable {X : Cx} {st : Stmt} {rest : List Stmt} {t u : TS} {e : Expr} {te : TE} {pos : Pos}
def tNext : TS := fun D σ H => D.nx σ H
def tSeq (t u : TS) : TS := fun D σ H => t { D with nx := u D } σ H
theorem pss_nil : PSs X [] tNext := fun _ _ σ H _ I h => wpAny_execs_nil ⟨σ, H, I, h⟩
theorem pss_cons (h1 : PS X st t) (h2 : PSs X rest u) : PSs X (st :: rest) (tSeq t u) := by
  intro pins s σ H D I h
  refine wpAny_execs_cons (thn (h1 pins s σ H { D with nx := u D } I h) fun f s1 q => ?_)
  cases f with
  | next =>
    obtain ⟨σ', H', I', q⟩ := q
    exact h2 pins s1 σ' H' D I' q
  | ret v => exact q
  | brk => exact q
  | cont => exact q
theorem pss_one (h1 : PS X st t) : PSs X [st] t := by
  intro pins s σ H D I h
  refine wpAny_execs_cons (thn (h1 pins s σ H D I h) fun f s1 q => ?_)
  cases f with
  | next => exact wpAny_execs_nil q
  | ret v => exact q
  | brk => exact q
  | cont => exact q
def tBreak : TS := fun D σ H => D.bk σ H
def tCont : TS := fun D σ H => D.ct σ H
/-- in a def's body nothing is shown -/
theorem Inv.quiet {pins : List (Addr × Obj)} {σ : St} {H : Hp} {s : Shared} (I : Inv X pins σ H s) : interactive X.env = false := by simp [interactive, I.ok.kind]
/-- an expression whose value is dropped -/
def tDrop (te : TE) : TS := fun D σ H => te σ H fun _ H1 => D.nx σ H1
theorem ps_expr (he : PE X e te) (hs : swapsWith e none pos.line X.env = pure false := by rfl) : PS X (.Expr e pos) (tDrop te) := by
  intro pins s σ H D I h
  exact wpAny_Expr_any (thn (he pins s σ H _ I h) fun v s1 ⟨x, H1, I1, r1, q1⟩ => ⟨σ, H1, I1, q1⟩) I.quiet hs
def tRet (te : TE) : TS := fun D σ H => te σ H D.rt
theorem ps_ret (he : PE X e te) : PS X (.Return (some e) pos) (tRet te) := by
  intro pins s σ H D I h
  exact wpAny_Return_some (thn (he pins s σ H _ I h) fun v s1 ⟨x, H1, I1, r1, q1⟩ => ⟨x, σ, H1, I1, r1, q1⟩)
def tRetN : TS := fun D _ H => D.rt .non H
def tIfS (c : TT) (t u : TS) : TS := fun D σ H => c σ H fun b H1 => if b = true then t D σ H1 else u D σ H1
theorem ps_if {c : Expr} {a b : List Stmt} {tc : TT} (hc : PT X c tc) (ha : PSs X a t) (hb : PSs X b u) : PS X (.If c a b pos) (tIfS tc t u) := by
  intro pins s σ H D I h
  refine wpAny_If (thn (hc pins s σ H _ I h) fun d s1 ⟨H1, I1, q1⟩ => ?_)
  cases d with
  | true => exact ha pins s1 σ H1 D I1 q1
  | false => exact hb pins s1 σ H1 D I1 q1
/-- code that the proof never comes to -/
def tNever : TS := fun _ _ _ => False
theorem ps_never : PS X st tNever := fun _ _ _ _ _ _ h => h.elim
end

/-! ### targets -/
abbrev TG := V → St → Hp → (St → Hp → Prop) → Prop
abbrev TGs := List V → St → Hp → (St → Hp → Prop) → Prop
def PG (X : Cx) (target : Expr) (t : TG) : Prop :=
  ∀ (pins : List (Addr × Obj)) (s : Shared) (σ : St) (H : Hp) (v : V) (u : Value) (Q : St → Hp → Prop), Inv X pins σ H s → RelV v u → t v σ H Q →
    wpAny (model X.prog X.w) X.A (assign target X.env u) (fun _ s' => ∃ σ' H', Inv X pins σ' H' s' ∧ Q σ' H') X.xe s
/-- several targets, one after another -/
def PGs (X : Cx) (ts : List Expr) (t : TGs) : Prop :=
  ∀ (pins : List (Addr × Obj)) (s : Shared) (σ : St) (H : Hp) (vs : List V) (us : List Value) (Q : St → Hp → Prop), Inv X pins σ H s → Vals vs us → t vs σ H Q →
    wpAny (model X.prog X.w) X.A (assignInOrder ((assignEach ts X.env).map (·.2)) us) (fun _ s' => ∃ σ' H', Inv X pins σ' H' s' ∧ Q σ' H') X.xe s
/-- o[i] = v, by values -/
abbrev TSet := V → V → V → Hp → (Hp → Prop) → Prop
def PSet (X : Cx) (t : TSet) : Prop :=
  ∀ (pins : List (Addr × Obj)) (s : Shared) (σ : St) (H : Hp) (o i v : V) (ov iv u : Value) (Q : Hp → Prop), Inv X pins σ H s → RelV o ov → RelV i iv → RelV v u → t o i v H Q →
    wpAny (model X.prog X.w) X.A (setItem ov iv u) (fun _ s' => ∃ H', Inv X pins σ H' s' ∧ Q H') X.xe s
/-- a op= b, by values -/
abbrev TIp := V → V → Hp → VK → Prop
def PIp (X : Cx) (op : Operator) (t : TIp) : Prop :=
  ∀ (pins : List (Addr × Obj)) (s : Shared) (σ : St) (H : Hp) (x y : V) (v u : Value) (Q : VK), Inv X pins σ H s → RelV x v → RelV y u → t x y H Q →
    wpAny (model X.prog X.w) X.A (inplaceOp op v u) (EP X pins σ Q) X.xe s
section
variable {X : Cx} {pos : Pos}
def gName (i : Nat) : TG := fun v σ H Q => Q (σ.set i (some v)) H
theorem pg_name {i : Nat} {x : Str} (hN : X.N.Nodup) (hi : X.N[i]? = some x) (hx : Loc X.env.scope x) (hf : X.fn x = true ∨ X.env.scope.names.lookup x = some .local := by first | exact .inl rfl | exact .inr rfl | assumption) : PG X (.Name x pos) (gName i) := by
  intro pins s σ H v u Q I r h
  exact wpAny_assign_Name (store_ok I hN hi hx r (fun s' I' => ⟨_, H, I', h⟩) hf)
def gNil : TGs := fun vs σ H Q => vs = [] ∧ Q σ H
def gCons (t : TG) (u : TGs) : TGs := fun vs σ H Q => ∃ v r, vs = v :: r ∧ t v σ H fun σ' H' => u r σ' H' Q
/-- (a, b, ..) = a tuple of that length -/
def gTup (K : PySem.W.Frag) (n : Nat) (t : TGs) : TG := fun v σ H Q => ∃ a xs, v = .ref a ∧ SqT K H a xs ∧ xs.length = n ∧ t xs σ H Q
/-- o[i] = .. -/
def gSub (to ti : TE) (t : TSet) : TG := fun v σ H Q => to σ H fun o H1 => ti σ H1 fun i H2 => t o i v H2 fun H3 => Q σ H3
theorem pg_sub {o i : Expr} {to ti : TE} {t : TSet} (ho : PE X o to) (hi : PE X i ti) (hs : PSet X t)
    (ha : ∀ v, assign (.Subscript o i pos) X.env v = (do
      let ov ← holding [v] (eval o X.env)
      let iv ← holding [v, ov] (eval i X.env)
      standAt pos
      holding [v, ov, iv] (setItem ov iv v)
      release [v, ov, iv] []) := by intro _; rfl) : PG X (.Subscript o i pos) (gSub to ti t) := by
  intro pins s σ H v u Q I r h
  rw [ha]
  refine wpAny_bind (wpAny_holding (thn (ho pins s σ H _ I h) fun ov s1 ⟨x, H1, I1, r1, q1⟩ => ?_))
  refine wpAny_bind (wpAny_holding (thn (hi pins s1 σ H1 _ I1 q1) fun iv s2 ⟨y, H2, I2, r2, q2⟩ => ?_))
  refine wpAny_bind (wpAny_standAt (wpAny_bind (wpAny_holding (thn (hs pins s2 σ H2 x y v ov iv u _ I2 r1 r2 r q2) fun _ s3 ⟨H3, I3, q3⟩ => ?_))))
  exact wpAny_release ⟨σ, H3, I3, q3⟩
/-- target = value -/
def tAsg (te : TE) (g : TG) : TS := fun D σ H => te σ H fun x H1 => g x σ H1 D.nx
theorem ps_asg {tg e : Expr} {te : TE} {g : TG} (he : PE X e te) (hg : PG X tg g) (hs : swapsWithSole [tg] e pos.line X.env = pure false := by rfl) (hw : swappedStores [tg] e X.env = pure none := by rfl)
    (h1 : (assignEach [tg] X.env).map (·.2) = [assign tg X.env] := by rfl) : PS X (.Assign [tg] e pos) (tAsg te g) := by
  intro pins s σ H D I h
  refine wpAny_Assign_stores (thn (he pins s σ H _ I h) fun v s1 ⟨x, H1, I1, r1, q1⟩ => ?_) hs hw
  rw [h1]
  exact thn (hg pins s1 σ H1 x v _ I1 r1 q1) fun _ s2 q => q
/-- name = value -/
theorem ps_set {i : Nat} {x : Str} {e : Expr} {te : TE} {pos' : Pos} (hN : X.N.Nodup) (hi : X.N[i]? = some x) (hx : Loc X.env.scope x) (he : PE X e te) (hs : swapsWith e (some (.Name x pos')) pos.line X.env = pure false := by rfl) (hf : X.fn x = true ∨ X.env.scope.names.lookup x = some .local := by first | exact .inl rfl | exact .inr rfl | assumption) :
    PS X (.Assign [.Name x pos'] e pos) (tAsg te (gName i)) := by
  intro pins s σ H D I h
  refine wpAny_Assign_Name (thn (he pins s σ H _ I h) fun v s1 ⟨y, H1, I1, r1, q1⟩ => ?_) hs
  exact store_ok I1 hN hi hx r1 (fun s2 I2 => ⟨_, H1, I2, q1⟩) hf
/-- a, b = x, y with plain local names: stored from the right; the pair itself is not tracked (the opening rows as in PyProof/Rows/TupAssign.lean:23) -/
def tPar (i j : Nat) (ta : TA) : TS := fun D σ H => ta σ H fun vs H1 => ∃ v w, vs = [v, w] ∧ D.nx ((σ.set i (some v)).set j (some w)) H1
theorem ps_par {i j : Nat} {x y : Str} {a b : Expr} {ta : TA} {px py pt : Pos} {kt k2 pt2} (hc : X.calm = true) (hN : X.N.Nodup) (hi : X.N[i]? = some x) (hj : X.N[j]? = some y) (hij : i ≠ j)
    (hx : X.env.scope.names.lookup x = some .local) (hy : X.env.scope.names.lookup y = some .local) (ha : PA X [a, b] ta)
    (hw : swappedStores [.Tuple [.Name x px, .Name y py] kt pt] (.Tuple [a, b] k2 pt2) X.env = pure (some [x, y]))
    (hs : swapsWithSole [.Tuple [.Name x px, .Name y py] kt pt] (.Tuple [a, b] k2 pt2) pos.line X.env = pure false := by rfl) :
    PS X (.Assign [.Tuple [.Name x px, .Name y py] kt pt] (.Tuple [a, b] k2 pt2) pos) (tPar i j ta) := by
  intro pins s σ H D I h
  rw [exec_Assign_arm]
  refine wpAny_bind (wpAny_standAt ?_)
  rw [hs]
  refine wpAny_bind (wpAny_pure ?_)
  rw [if_neg (by decide)]
  refine wpAny_bind (Tuple_ (thn (ha _ pins s σ H _ I h) fun us s1 ⟨vs, H1, I1, r1, q1⟩ => ?_))
  obtain ⟨v, w, e1, q1⟩ := q1
  subst e1
  obtain ⟨u1, u2, rfl, rv, rw'⟩ : ∃ u1 u2, us = [u1, u2] ∧ RelV v u1 ∧ RelV w u2 := by
    cases r1 with
    | cons p q =>
      cases q with
      | cons p' q' =>
        cases q'
        exact ⟨_, _, rfl, p, p'⟩
  refine wpAny_newObj_type ?_ (by show 2 ≤ sizeLine; decide)
  have I2 : Inv X pins σ H1 { s1 with heap := s1.heap.push { cls := .type "tuple", data := .seq [u1, u2].toArray } } := I1.kept (t' := s1.toks) fun b o e => Heap.get?_push_of_some _ e
  rw [hw]
  refine wpAny_bind (wpAny_pure ?_)
  show wpAny (model X.prog X.w) X.A (do rule "assign.swapped-stores"; let items ← unpackItems (.ref s1.heap.objs.size) 2 none; assignInOrder [fun v => bindName X.env y v, fun v => bindName X.env x v] items.reverse; pure Flow.next) _ _ _
  refine wpAny_bind (wpAny_rule (wpAny_bind (unpackItems_tuple (items := #[u1, u2]) (I.ok.hd hc) (IsTup.new s1.heap _) fun h' hx' => ?_)))
  have I3 := I2.kept (h' := h') (t' := s1.toks) fun b o e => hx' b o (Nat.ne_of_lt (Heap.lt_size e)) e
  show wpAny _ _ (assignInOrder [fun v => bindName X.env y v, fun v => bindName X.env x v] [u2, u1] >>= fun _ => pure Flow.next) _ _ _
  refine wpAny_bind (assignInOrder_cons (wpAny_bindName (store_ok I3 hN hj (.inl hy) rw' (fun s2 I4 => ?_) (.inr hy))))
  refine assignInOrder_cons (wpAny_bindName (store_ok I4 hN hi (.inl hx) rv (fun s3 I5 => assignInOrder_nil (wpAny_pure ?_)) (.inr hx)))
  rw [List.set_comm _ _ (Ne.symm hij)] at I5
  exact ⟨_, H1, I5, q1⟩
/-- name op= e -/
def tAug (i : Nat) (te : TE) (ti : TIp) : TS := fun D σ H => ∃ x, σ[i]? = some (some x) ∧ te σ H fun y H1 => ti x y H1 fun z H2 => D.nx (σ.set i (some z)) H2
/-- o[i] op= e -/
def tAugS (to ti te : TE) (tget : V → V → Hp → VK → Prop) (tip : TIp) (tset : TSet) : TS := fun D σ H => to σ H fun o H1 => ti σ H1 fun i H2 => tget o i H2 fun x H3 => te σ H3 fun y H4 => tip x y H4 fun z H5 => tset o i z H5 fun H6 => D.nx σ H6
/-- o[i], by values -/
def PGet (X : Cx) (t : V → V → Hp → VK → Prop) : Prop :=
  ∀ (pins : List (Addr × Obj)) (s : Shared) (σ : St) (H : Hp) (o i : V) (ov iv : Value) (Q : VK), Inv X pins σ H s → RelV o ov → RelV i iv → t o i H Q →
    wpAny (model X.prog X.w) X.A (getItem ov iv) (EP X pins σ Q) X.xe s
/-- ints -/
def ipI (f : Int → Int → Int) : TIp := fun x y H Q => ∃ i j, x = .int i ∧ y = .int j ∧ Q (.int (f i j)) H
end

/-! ### while -/
section
variable {X : Cx} {pos : Pos}
/-- the invariant W with its measure -/
def tWhile (c : TT) (tb : TS) : TS := fun D σ H => ∃ W : Nat → St → Hp → Prop, (∃ m, W m σ H) ∧ ∀ m σ H, W m σ H →
  c σ H fun b H1 => if b = true then ∃ N : St → Hp → Prop, (∀ σ' H', N σ' H' → ∃ m', m' < m ∧ W m' σ' H') ∧ tb { D with nx := N, ct := N, bk := D.nx } σ H1 else D.nx σ H1
theorem ps_while {c : Expr} {body : List Stmt} {tc : TT} {tb : TS} (hp : PassesOwn (model X.prog X.w) X.A X.env X.xe) (hc : PT X c tc) (hb : PSs X body tb) : PS X (.While c body [] pos) (tWhile tc tb) := by
  intro pins s σ H D I h
  obtain ⟨W, ⟨m0, w0⟩, turn⟩ := h
  refine wpAny_While (codeAny_whileLoop (fun n s' => ∃ σ' H', Inv X pins σ' H' s' ∧ W n σ' H') ?_ m0 ⟨σ, H, I, w0⟩)
  rintro n s1 ⟨σ1, H1, I1, w1⟩
  refine wpAny_passesOwn hp (thn (hc pins s1 σ1 H1 _ I1 (turn n σ1 H1 w1)) fun b s2 ⟨H2, I2, q2⟩ => ?_)
  cases b with
  | true =>
    obtain ⟨N, hN, q2⟩ := q2
    rw [if_pos rfl]
    refine wpAny_passesOwn hp (thn (hb pins s2 σ1 H2 _ I2 q2) fun f s3 q3 => ?_)
    cases f with
    | next =>
      obtain ⟨σ3, H3, I3, n3⟩ := q3
      obtain ⟨m', hm, w3⟩ := hN σ3 H3 n3
      exact ⟨m', hm, σ3, H3, I3, w3⟩
    | cont =>
      obtain ⟨σ3, H3, I3, n3⟩ := q3
      obtain ⟨m', hm, w3⟩ := hN σ3 H3 n3
      exact ⟨m', hm, σ3, H3, I3, w3⟩
    | brk => exact q3
    | ret v => exact q3
  | false =>
    rw [if_neg Bool.false_ne_true]
    exact wpAny_execs_nil ⟨σ1, H2, I2, q2⟩
end

/-! ### what a loop or a comprehension walks -/
/-- at turn i: it yields x (the heap may grow), or it stops -/
structure It where
  go : Nat → Hp → Prop
  yld : Nat → Hp → V → Hp → Prop
  stop : Nat → Hp → Prop
/-- the iterator's own objects may turn: they are not the frame's, not pinned, younger than the entry (or a comprehension's own) -/
def FpOk (X : Cx) (pins : List (Addr × Obj)) (H : Hp) (b : Addr) : Prop :=
  H b = none ∧ b ≠ X.env.locals ∧ b ∉ X.fs ∧ (b ∈ X.ex ∨ X.s₀.heap.get? b = none) ∧ (∀ x c, X.env.cells.lookup x = some c → c ≠ b) ∧ ∀ p ∈ X.pn ++ pins, p.1 ≠ b
theorem Inv.fpOk {X : Cx} {pins : List (Addr × Obj)} {σ : St} {H H' : Hp} {s : Shared} {b : Addr} (I : Inv X pins σ H s) (hb : s.heap.objs.size ≤ b) (hn : H' b = none) : FpOk X pins H' b := by
  refine ⟨hn, Nat.ne_of_gt (Nat.lt_of_lt_of_le I.lt hb), I.nofs hb, .inr (Heap.get?_none_of_le (Nat.le_trans I.sz hb)), fun x c e z => ?_, fun p hp z => ?_⟩
  · obtain ⟨v, q⟩ := I.cell x c e
    exact absurd (Nat.lt_of_lt_of_le q.lt (by rw [z]; exact hb)) (Nat.lt_irrefl _)
  · exact absurd (Nat.lt_of_lt_of_le (Heap.lt_size (I.pin p hp).1) (by rw [z]; exact hb)) (Nat.lt_irrefl _)
structure Turn (P : Program) (w : World) (K : PySem.W.Frag) (tg : Expr) (J : It) (fp : List Addr) (it : Addr) (tn : Nat → Heap → Prop) : Prop where
  mem : it ∈ fp
  obj : ∀ i h, tn i h → ∀ b ∈ fp, ∃ o, h.get? b = some o ∧ ∀ v, o.data ≠ .cell v
  keep : ∀ i h h', tn i h → (∀ b ∈ fp, ∀ o, h.get? b = some o → h'.get? b = some o) → tn i h'
  item : ∀ (X : Cx), X.prog = P → X.w = w → X.K = K → X.calm = true → ∀ (i : Nat) (pins : List (Addr × Obj)) (s : Shared) (σ : St) (H : Hp) (E : Value → Shared → Prop), Inv X pins σ H s → (∀ b ∈ fp, FpOk X pins H b) → tn i s.heap → J.go i H →
    wpAny (model P w) X.A (pyNext (.ref it)) (fun r s1 => ∃ u, r = some u ∧
      wpAny (model P w) X.A (letOwnedTupleGo tg (.ref it) u) (fun _ s2 => ∃ x H', Inv X pins σ H' s2 ∧ RelV x u ∧ J.yld i H x H' ∧ tn (i + 1) s2.heap ∧ ∀ b ∈ fp, H' b = none) E s1) E s
  done : ∀ (X : Cx), X.prog = P → X.w = w → X.K = K → X.calm = true → ∀ (i : Nat) (pins : List (Addr × Obj)) (s : Shared) (σ : St) (H : Hp) (E : Value → Shared → Prop), Inv X pins σ H s → (∀ b ∈ fp, FpOk X pins H b) → tn i s.heap → J.stop i H →
    wpAny (model P w) X.A (pyNext (.ref it)) (fun r s1 => r = none ∧ Inv X pins σ H s1) E s
  self : ∀ (A : Around) (i : Nat) (s : Shared) (Q : Value → Shared → Prop) (E : Value → Shared → Prop), tn i s.heap → Q (.ref it) s → wpAny (model P w) A (pyIter (.ref it)) Q E s
abbrev TI := St → Hp → (It → Hp → Prop) → Prop
/-- an iterator has come -/
def PIE (X : Cx) (pins : List (Addr × Obj)) (σ : St) (tg : Expr) (R : It → Hp → Prop) (itv : Value) (s2 : Shared) : Prop :=
  ∃ (it : Addr) (fp : List Addr) (tn : Nat → Heap → Prop) (J : It) (H' : Hp), itv = .ref it ∧ Inv X pins σ H' s2 ∧ Turn X.prog X.w X.K tg J fp it tn ∧ tn 0 s2.heap ∧ (∀ b ∈ fp, FpOk X pins H' b) ∧ R J H'
def PI (X : Cx) (tg iter : Expr) (wi : TI) : Prop :=
  ∀ (pins : List (Addr × Obj)) (s : Shared) (σ : St) (H : Hp) (R : It → Hp → Prop), Inv X pins σ H s → wi σ H R →
    wpAny (model X.prog X.w) X.A (eval iter X.env) (fun v s1 => wpAny (model X.prog X.w) X.A (pyIter v) (PIE X pins σ tg R) X.xe s1) X.xe s

/-- the step ahead of the store is nothing for an iterator that keeps no tuple -/
theorem go_of {M : Model} {A : Around} {E : Value → Shared → Prop} {s : Shared} {tg : Expr} {it : Addr} {u : Value} {o : Obj} {n : String} {vs : Array Value} {Q : Unit → Shared → Prop} (ho : s.heap.get? it = some o) (hc : o.cls = .type n) (hd : o.data = .fields vs)
    (hn : ["enumerate", "zip", "dict_itemiterator", "dict_reverseitemiterator", "odict_iterator", "itertools.zip_longest", "itertools.pairwise"].contains n = false) (hQ : Q () s) : wpAny M A (letOwnedTupleGo tg (.ref it) u) Q E s := by
  unfold letOwnedTupleGo
  cases tg <;> first
    | exact wpAny_pure hQ
    | (cases u <;> first
        | exact wpAny_pure hQ
        | (refine wpAny_bind (wpAny_load ho ?_)
           rw [hc, hd]
           show wpAny M A (if (["enumerate", "zip", "dict_itemiterator", "dict_reverseitemiterator", "odict_iterator", "itertools.zip_longest", "itertools.pairwise"].contains n && vs[0]? == some (rawInt _)) = true then _ else _) Q E s
           rw [if_neg (by intro h; rw [hn, Bool.false_and] at h; cases h)]
           exact wpAny_pure hQ))

/-- the list at a, as it stands at each turn (a loop may append to it) -/
def Itl (K : PySem.W.Frag) (a : Addr) : It :=
  ⟨fun i H => ∃ xs x, SqL K H a xs ∧ xs[i]? = some x, fun i H x H' => H' = H ∧ ∀ xs, SqL K H a xs → xs[i]? = some x, fun i H => ∃ xs, SqL K H a xs ∧ xs.length ≤ i⟩
def Itt (K : PySem.W.Frag) (a : Addr) : It :=
  ⟨fun i H => ∃ xs x, SqT K H a xs ∧ xs[i]? = some x, fun i H x H' => H' = H ∧ ∀ xs, SqT K H a xs → xs[i]? = some x, fun i H => ∃ xs, SqT K H a xs ∧ xs.length ≤ i⟩
/-- lo, lo + 1, .. (n of them) -/
def Itr (lo : Int) (n : Nat) : It := ⟨fun i _ => i < n, fun i H x H' => H' = H ∧ x = .int (lo + i), fun i _ => n ≤ i⟩
theorem turn_list {P : Program} {w : World} {K : PySem.W.Frag} {tg : Expr} (a it : Addr) : Turn P w K tg (Itl K a) [it] it (fun i h => h.IsListIter it a i) where
  mem := by simp
  obj := fun i h st b hb => by
    have e : b = it := by simpa using hb
    subst e
    obtain ⟨o, e, c, d⟩ := st
    exact ⟨o, e, fun v z => by rw [d] at z; cases z⟩
  keep := fun i h h' st k => st.at fun o e => k it (by simp) o e
  item := by
    intro X hP hw hK hc i pins s σ H E I hf st hg
    subst hP hw hK
    obtain ⟨xs, x, hq, hx⟩ := hg
    obtain ⟨its, rv, p, hz⟩ := I.list hq
    obtain ⟨u, hu, ru⟩ := rv.get hx
    obtain ⟨f0, f1, f2, f3, f4, f5⟩ := hf it (by simp)
    refine wpAny_pyNext_list_item st p.isList (x := u) (by simpa using hu) fun h' st' sb => ?_
    have I1 : Inv X pins σ H { s with heap := h' } := I.turned (t' := s.toks) (fun b o hb e => (sb.2 b hb).trans e) f0 f1 f3 f4 f5
    obtain ⟨o, e, c, d⟩ := id st'
    exact ⟨u, rfl, go_of (s := { s with heap := h' }) e c d (by decide) ⟨x, H, I1, ru, ⟨rfl, fun ys hy => by rw [I.list_inj hy hq]; exact hx⟩, st', fun b hb => (hf b hb).1⟩⟩
  done := by
    intro X hP hw hK hc i pins s σ H E I hf st hg
    subst hP hw hK
    obtain ⟨xs, hq, hx⟩ := hg
    obtain ⟨its, rv, p, hz⟩ := I.list hq
    obtain ⟨f0, f1, f2, f3, f4, f5⟩ := hf it (by simp)
    have hl := rv.length
    exact wpAny_pyNext_list_end (I.ok.hd hc) st p.isList (by simp; omega) fun h' eb => ⟨rfl, I.turned (t' := s.toks) (fun b o hb e => eb b o hb e) f0 f1 f3 f4 f5⟩
  self := fun _ _ _ _ _ st h => wpAny_pyIter_listiter st h
theorem turn_tuple {P : Program} {w : World} {K : PySem.W.Frag} {tg : Expr} (a it : Addr) : Turn P w K tg (Itt K a) [it] it (fun i h => h.IsTupleIter it a i) where
  mem := by simp
  obj := fun i h st b hb => by
    have e : b = it := by simpa using hb
    subst e
    obtain ⟨o, e, c, d⟩ := st
    exact ⟨o, e, fun v z => by rw [d] at z; cases z⟩
  keep := fun i h h' st k => st.at fun o e => k it (by simp) o e
  item := by
    intro X hP hw hK hc i pins s σ H E I hf st hg
    subst hP hw hK
    obtain ⟨xs, x, hq, hx⟩ := hg
    obtain ⟨its, rv, p, hz⟩ := I.tuple hq
    obtain ⟨u, hu, ru⟩ := rv.get hx
    obtain ⟨f0, f1, f2, f3, f4, f5⟩ := hf it (by simp)
    refine wpAny_pyNext_tuple_item st (show s.heap.IsTuple a its.toArray from p) (x := u) (by simpa using hu) fun h' st' sb => ?_
    have I1 : Inv X pins σ H { s with heap := h' } := I.turned (t' := s.toks) (fun b o hb e => (sb.2 b hb).trans e) f0 f1 f3 f4 f5
    obtain ⟨o, e, c, d⟩ := id st'
    exact ⟨u, rfl, go_of (s := { s with heap := h' }) e c d (by decide) ⟨x, H, I1, ru, ⟨rfl, fun ys hy => by rw [I.tuple_inj hy hq]; exact hx⟩, st', fun b hb => (hf b hb).1⟩⟩
  done := by
    intro X hP hw hK hc i pins s σ H E I hf st hg
    subst hP hw hK
    obtain ⟨xs, hq, hx⟩ := hg
    obtain ⟨its, rv, p, hz⟩ := I.tuple hq
    obtain ⟨f0, f1, f2, f3, f4, f5⟩ := hf it (by simp)
    have hl := rv.length
    exact wpAny_pyNext_tuple_end (I.ok.hd hc) st (show s.heap.IsTuple a its.toArray from p) (by simp; omega) fun h' eb => ⟨rfl, I.turned (t' := s.toks) (fun b o hb e => eb b o hb e) f0 f1 f3 f4 f5⟩
  self := fun _ _ _ _ _ st h => wpAny_pyIter_tupleiter st h
theorem turn_range {P : Program} {w : World} {K : PySem.W.Frag} {tg : Expr} (it : Addr) (lo : Int) (n : Nat) : Turn P w K tg (Itr lo n) [it] it (fun i h => IsRangeIter h it (lo + (i : Nat) * 1) ((n : Int) - (i : Nat)) 1) where
  mem := by simp
  obj := fun i h st b hb => by
    have e : b = it := by simpa using hb
    subst e
    exact ⟨_, st, fun v z => by
      have z' : Data.fields _ = Data.cell v := z
      cases z'⟩
  keep := fun i h h' st k => k it (by simp) _ st
  item := by
    intro X hP hw hK hc i pins s σ H E I hf st hg
    subst hP hw hK
    obtain ⟨f0, f1, f2, f3, f4, f5⟩ := hf it (by simp)
    have W := Walks.range (prog := X.prog) (w := X.w) (I.ok.hd hc) it lo 1 n
    refine W.item i s _ _ hg st fun v h' tk hv st' kk => ?_
    obtain ⟨t, rfl⟩ := hv
    have I1 : Inv X pins σ H { s with heap := h', toks := tk } := I.turned (fun b o hb e => kk b o (by simpa using hb) e) f0 f1 f3 f4 f5
    refine ⟨_, rfl, go_of (s := { s with heap := h', toks := tk }) (n := "range_iterator") st' rfl rfl (by decide) ⟨.int (lo + i), H, I1, ⟨t, ?_⟩, ⟨rfl, rfl⟩, st', fun b hb => (hf b hb).1⟩⟩
    rw [Int.mul_one]
  done := by
    intro X hP hw hK hc i pins s σ H E I hf st hg
    subst hP hw hK
    obtain ⟨f0, f1, f2, f3, f4, f5⟩ := hf it (by simp)
    exact wpAny_pyNext_range_end (I.ok.hd hc) st (by have : n ≤ i := hg; omega) fun h' eb => ⟨rfl, I.turned (t' := s.toks) (fun b o hb e => eb b o hb e) f0 f1 f3 f4 f5⟩
  self := fun _ _ _ _ _ st h => wpAny_pyIter_rangeiter st h
end L2

namespace L2
open PySem PySem.Spec PyProof.Rows
section
variable {X : Cx} {tg : Expr}
def iList (K : PySem.W.Frag) (tl : TE) : TI := fun σ H R => tl σ H fun x H1 => ∃ a, x = .ref a ∧ (∃ xs, SqL K H1 a xs) ∧ R (Itl K a) H1
def iTup (K : PySem.W.Frag) (tl : TE) : TI := fun σ H R => tl σ H fun x H1 => ∃ a, x = .ref a ∧ (∃ xs, SqT K H1 a xs) ∧ R (Itt K a) H1
theorem pi_list {l : Expr} {tl : TE} (hl : PE X l tl) : PI X tg l (iList X.K tl) := by
  intro pins s σ H R I h
  refine thn (hl pins s σ H _ I h) fun v s1 ⟨x, H1, I1, r1, q1⟩ => ?_
  obtain ⟨a, e, ⟨xs, hq⟩, q⟩ := q1
  subst e
  cases r1
  obtain ⟨its, rv, p, hz⟩ := I1.list hq
  refine wpAny_pyIter_list p.isList ?_
  refine ⟨s1.heap.objs.size, [s1.heap.objs.size], _, _, H1, rfl, I1.kept (t' := s1.toks) fun b o e => Heap.get?_push_of_some _ e, turn_list a _, ⟨_, Heap.get?_push_size _ rfl, rfl, rfl⟩, fun b hb => ?_, q⟩
  have e : b = s1.heap.objs.size := by simpa using hb
  subst e
  exact I1.fpOk (Nat.le_refl _) (I1.hok.fresh (Nat.le_refl _))
theorem pi_tup {l : Expr} {tl : TE} (hl : PE X l tl) : PI X tg l (iTup X.K tl) := by
  intro pins s σ H R I h
  refine thn (hl pins s σ H _ I h) fun v s1 ⟨x, H1, I1, r1, q1⟩ => ?_
  obtain ⟨a, e, ⟨xs, hq⟩, q⟩ := q1
  subst e
  cases r1
  obtain ⟨its, rv, p, hz⟩ := I1.tuple hq
  refine wpAny_pyIter_tuple (show s1.heap.IsTuple a its.toArray from p) ?_
  refine ⟨s1.heap.objs.size, [s1.heap.objs.size], _, _, H1, rfl, I1.kept (t' := s1.toks) fun b o e => Heap.get?_push_of_some _ e, turn_tuple a _, ⟨_, Heap.get?_push_size _ rfl, rfl, rfl⟩, fun b hb => ?_, q⟩
  have e : b = s1.heap.objs.size := by simpa using hb
  subst e
  exact I1.fpOk (Nat.le_refl _) (I1.hok.fresh (Nat.le_refl _))
/-- a range object just made, walked -/
theorem range_it {pins : List (Addr × Obj)} {σ : St} {H : Hp} {s : Shared} {R : It → Hp → Prop} {E : Value → Shared → Prop} {lo hi : Int} {t u v : Tok} {tk : Nat} (I : Inv X pins σ H s) (h1 : -(2 ^ 62) ≤ lo) (h2 : lo < 2 ^ 62) (h3 : -(2 ^ 62) ≤ hi) (h4 : hi < 2 ^ 62)
    (q : R (Itr lo (hi - lo).toNat) H) : wpAny (model X.prog X.w) X.A (pyIter (.ref s.heap.objs.size)) (PIE X pins σ tg R) E { s with heap := s.heap.push { cls := .type "range", data := .fields #[.int lo t, .int hi u, .int 1 v] }, toks := tk } := by
  refine wpAny_pyIter_range (IsRange.new ..) (small_one h1 h2 h3 h4) ?_
  have I1 : Inv X pins σ H { s with heap := s.heap.push { cls := .type "range", data := .fields #[.int lo t, .int hi u, .int 1 v] }, toks := tk } := I.kept fun b o e => Heap.get?_push_of_some _ e
  refine ⟨(s.heap.push { cls := .type "range", data := .fields #[.int lo t, .int hi u, .int 1 v] }).objs.size, [(s.heap.push { cls := .type "range", data := .fields #[.int lo t, .int hi u, .int 1 v] }).objs.size], _, _, H, rfl,
    I1.kept (t' := tk) fun b o e => Heap.get?_push_of_some _ e, turn_range _ lo (hi - lo).toNat, ?_, fun b hb => ?_, q⟩
  · have e1 : lo + ((0 : Nat) : Int) * 1 = lo := by simp
    have e2 : (((hi - lo).toNat : Nat) : Int) - ((0 : Nat) : Int) = Builtin.Range.rangeSize lo hi 1 := by rw [rangeSize_one]; split <;> omega
    show IsRangeIter _ _ (lo + ((0 : Nat) : Int) * 1) ((((hi - lo).toNat : Nat) : Int) - ((0 : Nat) : Int)) 1
    rw [e1, e2]
    exact Heap.get?_push_size _ rfl
  · have e : b = (s.heap.push { cls := .type "range", data := .fields #[.int lo t, .int hi u, .int 1 v] }).objs.size := by simpa using hb
    subst e
    exact I1.fpOk (Nat.le_refl _) (I1.hok.fresh (Nat.le_refl _))
def iRng1 (ta : TA) : TI := fun σ H R => ta σ H fun vs H1 => ∃ j : Int, vs = [.int j] ∧ -(2 ^ 62) ≤ j ∧ j < 2 ^ 62 ∧ R (Itr 0 j.toNat) H1
def iRng2 (ta : TA) : TI := fun σ H R => ta σ H fun vs H1 => ∃ i j : Int, vs = [.int i, .int j] ∧ (-(2 ^ 62) ≤ i ∧ i < 2 ^ 62 ∧ -(2 ^ 62) ≤ j ∧ j < 2 ^ 62) ∧ R (Itr i (j - i).toNat) H1
theorem pi_range1 {a : Expr} {ta : TA} {p pos : Pos} (hg : Gl X "range") (hm : X.mg "range" = none) (ha : PA X [a] ta) (hs : starEach [a] X.env = [(false, eval a X.env)] := by rfl) : PI X tg (.Call (.Name "range" p) [a] [] pos) (iRng1 ta) := by
  intro pins s σ H R I h
  refine Call_ (ld_blt I hg hm boot_range (PyProof.Rows.callWith_type1 (thn (ha pos pins s σ H _ I h) fun us s1 ⟨vs, H1, I1, r1, q1⟩ => ?_) hs rfl))
  obtain ⟨j, e, q1, q2, q⟩ := q1
  subst e
  cases r1 with
  | cons r rr =>
    cases rr
    obtain ⟨t, rfl⟩ := r
    exact call_range_1 (range_it I1 (by omega) (by omega) q1 q2 (by simpa using q))

/-! ### for -/
/-- W: the invariant by the turn and a measure; N: what the body is to reach -/
def tFor (wi : TI) (g : TG) (tb : TS) : TS := fun D σ H => wi σ H fun J H1 => ∃ W : Nat → Nat → St → Hp → Prop, (∃ m, W 0 m σ H1) ∧ ∀ i m σ H, W i m σ H →
  (J.stop i H ∧ D.nx σ H) ∨ (J.go i H ∧ ∃ N : St → Hp → Prop, (∀ σ' H', N σ' H' → ∃ m', m' < m ∧ W (i + 1) m' σ' H') ∧ ∀ x H', J.yld i H x H' → g x σ H' fun σ2 H2 => tb { D with nx := N, ct := N, bk := D.nx } σ2 H2)
/-- the records at fp as they stand -/
def pinsAt (fp : List Addr) (h : Heap) : List (Addr × Obj) := fp.filterMap fun b => (h.get? b).map fun o => (b, o)
theorem mem_pinsAt {fp : List Addr} {h : Heap} {b : Addr} {o : Obj} (hb : b ∈ fp) (e : h.get? b = some o) : (b, o) ∈ pinsAt fp h := List.mem_filterMap.mpr ⟨b, hb, by rw [e]; rfl⟩
theorem of_pinsAt {fp : List Addr} {h : Heap} {p : Addr × Obj} (hp : p ∈ pinsAt fp h) : p.1 ∈ fp ∧ h.get? p.1 = some p.2 := by
  obtain ⟨b, hb, e⟩ := List.mem_filterMap.mp hp
  cases q : h.get? b with
  | none => rw [q] at e; cases e
  | some o =>
    rw [q] at e
    have e' : (b, o) = p := Option.some.inj e
    subst e'
    exact ⟨hb, q⟩
theorem Inv.pinned {pins : List (Addr × Obj)} {σ : St} {H : Hp} {s : Shared} {fp : List Addr} (I : Inv X pins σ H s) (hf : ∀ b ∈ fp, FpOk X pins H b) (ho : ∀ b ∈ fp, ∃ o, s.heap.get? b = some o ∧ ∀ v, o.data ≠ .cell v) : Inv X (pins ++ pinsAt fp s.heap) σ H s :=
  I.pins_of fun p hp => (List.mem_append.mp hp).elim (fun z => I.pin p (List.mem_append_right _ z)) fun z => by
    obtain ⟨hb, e⟩ := of_pinsAt z
    obtain ⟨f0, f1, f2, _⟩ := hf p.1 hb
    obtain ⟨o, e', d⟩ := ho p.1 hb
    rw [e] at e'; cases e'
    exact ⟨e, f0, f1, f2, d⟩
theorem Inv.unpinned {pins pl : List (Addr × Obj)} {σ : St} {H : Hp} {s : Shared} (I : Inv X (pins ++ pl) σ H s) : Inv X pins σ H s := I.pins_of fun p hp => I.pin p (List.mem_append_right _ (List.mem_append_left _ hp))
theorem ps_for {iter : Expr} {body : List Stmt} {wi : TI} {g : TG} {tb : TS} {pos : Pos} (hp : PassesOwn (model X.prog X.w) X.A X.env X.xe) (hc : X.calm = true) (hi : PI X tg iter wi) (hg : PG X tg g) (hb : PSs X body tb)
    (hs : ∀ x, foldedSetIterable iter X.env x = pure x := by intro _; rfl) : PS X (.For tg iter body [] pos) (tFor wi g tb) := by
  intro pins s σ H D I h
  refine wpAny_For (thn (hi pins s σ H _ I h) fun v s1 h1 => thn h1 fun itv s2 h2 => ?_) hs
  obtain ⟨it, fp, tn, J, H2, e, I2, T, st2, f2, W, ⟨m0, w0⟩, turn⟩ := h2
  subst e
  -- what stays true of the iterator's objects through the loop
  have stat : ∀ {H' : Hp}, (∀ b ∈ fp, H' b = none) → ∀ b ∈ fp, FpOk X pins H' b := fun hn b hb => ⟨hn b hb, (f2 b hb).2⟩
  refine codeAny_forLoop_any (fun n s' => ∃ i σ' H', Inv X pins σ' H' s' ∧ tn i s'.heap ∧ (∀ b ∈ fp, H' b = none) ∧ W i n σ' H') ?_ m0 ⟨0, σ, H2, I2, st2, fun b hb => (f2 b hb).1, w0⟩
  rintro n s3 ⟨i, σ3, H3, I3, st3, fr3, w3⟩
  rcases turn i n σ3 H3 w3 with ⟨stop, qn⟩ | ⟨go, N, hN, step⟩
  · refine wpAny_passesOwn hp (thn (T.done X rfl rfl rfl hc i pins s3 σ3 H3 X.xe I3 (stat fr3) st3 stop) fun r s4 ⟨hr, I4⟩ => ?_)
    subst hr
    exact wpAny_execs_nil ⟨σ3, H3, I4, qn⟩
  · refine wpAny_passesOwn hp (thn (T.item X rfl rfl rfl hc i pins s3 σ3 H3 X.xe I3 (stat fr3) st3 go) fun r s4 ⟨u, hr, h4⟩ => ?_)
    subst hr
    refine wpAny_passesOwn hp (thn h4 fun _ s5 ⟨x, H5, I5, r5, y5, st5, fr5⟩ => ?_)
    have I5' := I5.pinned (stat fr5) (T.obj _ _ st5)
    refine wpAny_passesOwn hp (thn (hg _ s5 σ3 H5 x u _ I5' r5 (step x H5 y5)) fun _ s6 ⟨σ6, H6, I6, q6⟩ => ?_)
    refine wpAny_passesOwn hp (thn (hb _ s6 σ6 H6 _ I6 q6) fun f s7 q7 => ?_)
    have again : ∀ {σ7 : St} {H7 : Hp}, Inv X (pins ++ pinsAt fp s5.heap) σ7 H7 s7 → N σ7 H7 → ∃ m, m < n ∧ ∃ i σ' H', Inv X pins σ' H' s7 ∧ tn i s7.heap ∧ (∀ b ∈ fp, H' b = none) ∧ W i m σ' H' := fun {σ7 H7} I7 n7 => by
      obtain ⟨m', hm, w7⟩ := hN σ7 H7 n7
      refine ⟨m', hm, i + 1, σ7, H7, I7.unpinned, T.keep _ _ _ st5 fun b hb o e => (I7.pin (b, o) (List.mem_append_right _ (List.mem_append_right _ (mem_pinsAt hb e)))).1, fun b hb => ?_, w7⟩
      obtain ⟨o, e, d⟩ := T.obj _ _ st5 b hb
      exact (I7.pin (b, o) (List.mem_append_right _ (List.mem_append_right _ (mem_pinsAt hb e)))).2.1
    cases f with
    | next => obtain ⟨σ7, H7, I7, n7⟩ := q7; exact again I7 n7
    | cont => obtain ⟨σ7, H7, I7, n7⟩ := q7; exact again I7 n7
    | brk => obtain ⟨σ7, H7, I7, q7⟩ := q7; exact ⟨σ7, H7, I7.unpinned, q7⟩
    | ret v => obtain ⟨x7, σ7, H7, I7, r7, q7⟩ := q7; exact ⟨x7, σ7, H7, I7.unpinned, r7, q7⟩
end

/-! ### the forms one uses -/
/-- over a list that the body leaves as it is -/
theorem for_list {K : PySem.W.Frag} {a : Addr} {xs : List V} {g : TG} {tb : TS} {D : Ends} {σ : St} {H : Hp} (Pv : Nat → St → Hp → Prop) (h0 : Pv 0 σ H) (hl : ∀ i σ H, i ≤ xs.length → Pv i σ H → SqL K H a xs)
    (hs : ∀ i x σ H, xs[i]? = some x → Pv i σ H → g x σ H fun σ2 H2 => tb { D with nx := Pv (i + 1), ct := Pv (i + 1), bk := D.nx } σ2 H2) (hd : ∀ σ H, Pv xs.length σ H → D.nx σ H) :
    ∃ W : Nat → Nat → St → Hp → Prop, (∃ m, W 0 m σ H) ∧ ∀ i m σ H, W i m σ H →
      ((Itl K a).stop i H ∧ D.nx σ H) ∨ ((Itl K a).go i H ∧ ∃ N : St → Hp → Prop, (∀ σ' H', N σ' H' → ∃ m', m' < m ∧ W (i + 1) m' σ' H') ∧ ∀ x H', (Itl K a).yld i H x H' → g x σ H' fun σ2 H2 => tb { D with nx := N, ct := N, bk := D.nx } σ2 H2) := by
  refine ⟨fun i m σ H => m = xs.length - i ∧ i ≤ xs.length ∧ Pv i σ H, ⟨xs.length, by simp, Nat.zero_le _, h0⟩, ?_⟩
  rintro i m σ H ⟨rfl, hi, p⟩
  have q := hl i σ H hi p
  by_cases hlt : i < xs.length
  · refine .inr ⟨⟨xs, xs[i], q, by simp [hlt]⟩, Pv (i + 1), fun σ' H' p' => ⟨xs.length - (i + 1), by omega, rfl, hlt, p'⟩, fun x H' y => ?_⟩
    obtain ⟨e, y⟩ := y
    subst e
    exact hs i x σ _ (y xs q) p
  · have e : i = xs.length := by omega
    subst e
    exact .inl ⟨⟨xs, q, Nat.le_refl _⟩, hd σ H p⟩
theorem for_range {lo : Int} {n : Nat} {g : TG} {tb : TS} {D : Ends} {σ : St} {H : Hp} (Pv : Nat → St → Hp → Prop) (h0 : Pv 0 σ H)
    (hs : ∀ i σ H, i < n → Pv i σ H → g (.int (lo + i)) σ H fun σ2 H2 => tb { D with nx := Pv (i + 1), ct := Pv (i + 1), bk := D.nx } σ2 H2) (hd : ∀ σ H, Pv n σ H → D.nx σ H) :
    ∃ W : Nat → Nat → St → Hp → Prop, (∃ m, W 0 m σ H) ∧ ∀ i m σ H, W i m σ H →
      ((Itr lo n).stop i H ∧ D.nx σ H) ∨ ((Itr lo n).go i H ∧ ∃ N : St → Hp → Prop, (∀ σ' H', N σ' H' → ∃ m', m' < m ∧ W (i + 1) m' σ' H') ∧ ∀ x H', (Itr lo n).yld i H x H' → g x σ H' fun σ2 H2 => tb { D with nx := N, ct := N, bk := D.nx } σ2 H2) := by
  refine ⟨fun i m σ H => m = n - i ∧ i ≤ n ∧ Pv i σ H, ⟨n, by simp, Nat.zero_le _, h0⟩, ?_⟩
  rintro i m σ H ⟨rfl, hi, p⟩
  by_cases hlt : i < n
  · refine .inr ⟨hlt, Pv (i + 1), fun σ' H' p' => ⟨n - (i + 1), by omega, rfl, hlt, p'⟩, fun x H' y => ?_⟩
    obtain ⟨e, y⟩ := y
    subst e y
    exact hs i σ _ hlt p
  · have e : i = n := by omega
    subst e
    exact .inl ⟨Nat.le_refl _, hd σ H p⟩
end L2

namespace L2
open PySem PySem.Spec PyProof.Rows

abbrev R2 := V → V → Hp → VK → Prop
/-- a two-place operation on values: f is binaryOp op, inplaceOp op or compareOp op -/
def OpR (X : Cx) (f : Value → Value → Sem Value) (r : R2) : Prop :=
  ∀ (pins : List (Addr × Obj)) (s : Shared) (σ : St) (H : Hp) (x y : V) (v u : Value) (Q : VK), Inv X pins σ H s → RelV x v → RelV y u → r x y H Q →
    wpAny (model X.prog X.w) X.A (f v u) (EP X pins σ Q) X.xe s
/-- a one-place operation -/
def UnR (X : Cx) (f : Value → Sem Value) (r : V → Hp → VK → Prop) : Prop :=
  ∀ (pins : List (Addr × Obj)) (s : Shared) (σ : St) (H : Hp) (x : V) (v : Value) (Q : VK), Inv X pins σ H s → RelV x v → r x H Q →
    wpAny (model X.prog X.w) X.A (f v) (EP X pins σ Q) X.xe s
/-- a call of a value that is known (a builtin, a type) with values -/
def CallR (X : Cx) (f : Value) (r : List V → Hp → VK → Prop) : Prop :=
  ∀ (pins : List (Addr × Obj)) (s : Shared) (σ : St) (H : Hp) (xs : List V) (us : List Value) (Q : VK), Inv X pins σ H s → Vals xs us → r xs H Q →
    wpAny (model X.prog X.w) X.A (call f us) (EP X pins σ Q) X.xe s
/-- a value's truth -/
def TruR (X : Cx) (r : V → Hp → (Bool → Hp → Prop) → Prop) : Prop :=
  ∀ (pins : List (Addr × Obj)) (s : Shared) (σ : St) (H : Hp) (x : V) (v : Value) (Q : Bool → Hp → Prop), Inv X pins σ H s → RelV x v → r x H Q →
    wpAny (model X.prog X.w) X.A (truthy v) (TP X pins σ Q) X.xe s

def tOp (r : R2) (ta tb : TE) : TE := fun σ H Q => ta σ H fun x H1 => tb σ H1 fun y H2 => r x y H2 Q
def tUn (r : V → Hp → VK → Prop) (ta : TE) : TE := fun σ H Q => ta σ H fun x H1 => r x H1 Q
/-- ints in, under C, and a value out -/
def rI (C : Int → Int → Prop) (g : Int → Int → V) : R2 := fun x y H Q => ∃ i j, x = .int i ∧ y = .int j ∧ C i j ∧ Q (g i j) H
def rI0 (g : Int → Int → V) : R2 := fun x y H Q => ∃ i j, x = .int i ∧ y = .int j ∧ Q (g i j) H
def rU (g : Int → V) : V → Hp → VK → Prop := fun x H Q => ∃ i, x = .int i ∧ Q (g i) H

section
variable {X : Cx} {a b c : Expr} {ta tb tc : TE} {pos : Pos}

theorem binT (ha : PE X a ta) (hb : PE X b tb) {pins : List (Addr × Obj)} {s : Shared} {σ : St} {H : Hp} {R : V → V → Hp → Prop} (I : Inv X pins σ H s)
    (h : ta σ H fun x H1 => tb σ H1 fun y H2 => R x y H2) {Q : Value → Shared → Prop} {f : Value → Value → Sem Value}
    (hf : ∀ v u s2 x y H2, Inv X pins σ H2 s2 → RelV x v → RelV y u → R x y H2 → wpAny (model X.prog X.w) X.A (f v u) Q X.xe s2) :
    wpAny (model X.prog X.w) X.A (eval a X.env) (fun v s₁ => wpAny (model X.prog X.w) X.A (eval b X.env) (fun u s₂ => wpAny (model X.prog X.w) X.A (f v u) Q X.xe s₂) X.xe s₁) X.xe s := by
  refine thn (ha pins s σ H _ I h) fun v s1 ⟨x, H1, I1, r1, q1⟩ => ?_
  refine thn (hb pins s1 σ H1 _ I1 q1) fun u s2 ⟨y, H2, I2, r2, q2⟩ => ?_
  exact hf v u s2 x y H2 I2 r1 r2 q2

theorem pe_op {op : Operator} {r : R2} (ho : OpR X (binaryOp op) r) (ha : PE X a ta) (hb : PE X b tb) : PE X (.BinOp a op b pos) (tOp r ta tb) := by
  intro pins s σ H Q I h
  exact wpAny_BinOp (binT ha hb I h fun v u s2 x y H2 I2 rx ry q => ho pins s2 σ H2 x y v u Q I2 rx ry q)
theorem pe_un {op : UnaryOp} {r : V → Hp → VK → Prop} (ho : UnR X (unaryOp op) r) (ha : PE X a ta) : PE X (.UnaryOp op a pos) (tUn r ta) := by
  intro pins s σ H Q I h
  exact UnaryOp_ (thn (ha pins s σ H _ I h) fun v s1 ⟨x, H1, I1, r1, q1⟩ => ho pins s1 σ H1 x v Q I1 r1 q1)

/-! ### ints -/
theorem opI {f : Value → Value → Sem Value} {C : Int → Int → Prop} {g : Int → Int → Int}
    (rule : ∀ (i j : Int) (t u : Tok) (s : Shared) (Q : Value → Shared → Prop) (E : Value → Shared → Prop), C i j → Q (.int (g i j) s.toks) { s with toks := s.toks + 1 } → wpAny (model X.prog X.w) X.A (f (.int i t) (.int j u)) Q E s) :
    OpR X f (rI C fun i j => .int (g i j)) := by
  intro pins s σ H x y v u Q I rx ry h
  obtain ⟨i, j, rfl, rfl, hc, q⟩ := h
  obtain ⟨t, rfl⟩ := rx
  obtain ⟨t', rfl⟩ := ry
  exact rule i j t t' s _ _ hc ⟨.int (g i j), H, I.tok _, ⟨_, rfl⟩, q⟩
theorem opI0 {f : Value → Value → Sem Value} {g : Int → Int → Int}
    (rule : ∀ (i j : Int) (t u : Tok) (s : Shared) (Q : Value → Shared → Prop) (E : Value → Shared → Prop), Q (.int (g i j) s.toks) { s with toks := s.toks + 1 } → wpAny (model X.prog X.w) X.A (f (.int i t) (.int j u)) Q E s) :
    OpR X f (rI0 fun i j => .int (g i j)) := by
  intro pins s σ H x y v u Q I rx ry h
  obtain ⟨i, j, rfl, rfl, q⟩ := h
  obtain ⟨t, rfl⟩ := rx
  obtain ⟨t', rfl⟩ := ry
  exact rule i j t t' s _ _ ⟨.int (g i j), H, I.tok _, ⟨_, rfl⟩, q⟩
theorem opB0 {f : Value → Value → Sem Value} {g : Int → Int → Bool}
    (rule : ∀ (i j : Int) (t u : Tok) (s : Shared) (Q : Value → Shared → Prop) (E : Value → Shared → Prop), Q (.bool (g i j)) s → wpAny (model X.prog X.w) X.A (f (.int i t) (.int j u)) Q E s) :
    OpR X f (rI0 fun i j => .bl (g i j)) := by
  intro pins s σ H x y v u Q I rx ry h
  obtain ⟨i, j, rfl, rfl, q⟩ := h
  obtain ⟨t, rfl⟩ := rx
  obtain ⟨t', rfl⟩ := ry
  exact rule i j t t' s _ _ ⟨.bl (g i j), H, I, rfl, q⟩

def CDiv (i j : Int) : Prop := 0 < j ∧ j < 1073741824
def CDivN (i j : Int) : Prop := j ≠ 0 ∧ j.natAbs < 1073741824
def CPow (i j : Int) : Prop := 0 ≤ j ∧ j ≤ 1000000 ∧ i.natAbs < 2 ^ 64
def CMul (i j : Int) : Prop := (-(2 ^ 64) < i ∧ i < 2 ^ 64) ∨ (-(2 ^ 64) < j ∧ j < 2 ^ 64)
theorem CMul.ok {i j : Int} (h : CMul i j) : IntMulOk i j := by
  rcases h with ⟨h1, h2⟩ | ⟨h1, h2⟩
  · exact .of_left (intBits_le_64 h1 h2)
  · exact .of_right (intBits_le_64 h1 h2)

theorem op_add : OpR X (binaryOp .Add) (rI0 fun i j => .int (i + j)) := opI0 fun _ _ _ _ _ _ _ q => add_int q
theorem op_sub : OpR X (binaryOp .Sub) (rI0 fun i j => .int (i - j)) := opI0 fun _ _ _ _ _ _ _ q => sub_int q
theorem op_mul : OpR X (binaryOp .Mult) (rI CMul fun i j => .int (i * j)) := opI fun _ _ _ _ _ _ _ hc q => mul_int q hc.ok
/-- // by a positive divisor -/
theorem op_fdiv : OpR X (binaryOp .FloorDiv) (rI CDiv fun i j => .int (i / j)) := opI fun i j _ _ _ _ _ hc q => by
  have h1 : (0 : Int) < j := hc.1
  have h2 : j < 1073741824 := hc.2
  exact floordiv_int (by omega) (by rw [Int.fdiv_eq_ediv_of_nonneg i (by omega)]; exact q) (.inl (PyProof.noPylong_small (by omega)))
/-- % by a positive divisor of any size -/
theorem op_mod : OpR X (binaryOp .Mod) (rI (fun _ j => 0 < j) fun i j => .int (i % j)) := opI fun i j _ _ _ _ _ hc q => by
  have h1 : (0 : Int) < j := hc
  exact mod_int' (by omega) (by rw [Int.fmod_eq_emod_of_nonneg i (by omega)]; exact q)
theorem op_pow : OpR X (binaryOp .Pow) (rI CPow fun i j => .int (i ^ j.toNat)) := opI fun _ _ _ _ _ _ _ hc q => pow_int_small hc.1 hc.2.1 hc.2.2 q


theorem unI {f : Value → Sem Value} {g : Int → Int}
    (rule : ∀ (i : Int) (t : Tok) (s : Shared) (Q : Value → Shared → Prop) (E : Value → Shared → Prop), Q (.int (g i) s.toks) { s with toks := s.toks + 1 } → wpAny (model X.prog X.w) X.A (f (.int i t)) Q E s) :
    UnR X f (rU fun i => .int (g i)) := by
  intro pins s σ H x v Q I rx h
  obtain ⟨i, rfl, q⟩ := h
  obtain ⟨t, rfl⟩ := rx
  exact rule i t s _ _ ⟨.int (g i), H, I.tok _, ⟨_, rfl⟩, q⟩
theorem un_neg : UnR X (unaryOp .USub) (rU fun i => .int (-i)) := unI fun _ _ _ _ _ q => neg_int q

/-! ### bools among ints: n += (a < b) -/
end

/-! ### comparisons -/
/-- the scalars that == tells apart as data does -/
def scal : V → V → Bool
  | .non, .non => true | .non, .int _ => true | .int _, .non => true | .non, .bl _ => true | .bl _, .non => true | .non, .str _ => true | .str _, .non => true
  | .int _, .int _ => true | .bl _, .bl _ => true | .str _, .str _ => true | .byt _, .byt _ => true
  | .int _, .str _ => true | .str _, .int _ => true | .bl _, .str _ => true | .str _, .bl _ => true
  | _, _ => false
def rEq : R2 := fun x y H Q => scal x y = true ∧ Q (.bl (decide (x = y))) H
def rNe : R2 := fun x y H Q => scal x y = true ∧ Q (.bl (!decide (x = y))) H

theorem dec_int {i j : Int} : decide (V.int i = V.int j) = (i == j) := by
  rw [Bool.eq_iff_iff]
  simp
theorem dec_bl {i j : Bool} : decide (V.bl i = V.bl j) = (i == j) := by
  rw [Bool.eq_iff_iff]
  simp
theorem dec_str {i j : Str} : decide (V.str i = V.str j) = (i == j) := by
  rw [Bool.eq_iff_iff]
  simp
theorem dec_byt {i j : Array UInt8} : decide (V.byt i = V.byt j) = (i.toList == j.toList) := by
  rw [Bool.eq_iff_iff]
  cases i
  cases j
  simp

section
variable {X : Cx} {a b c : Expr} {ta tb tc : TE} {pos : Pos}
theorem fin_bl {pins : List (Addr × Obj)} {σ : St} {H : Hp} {s : Shared} {Q : VK} {k k' : Bool} (I : Inv X pins σ H s) (q : Q (.bl k) H) (e : k = k') : EP X pins σ Q (.bool k') s := by
  subst e
  exact ⟨.bl k, H, I, rfl, q⟩
theorem op_eq : OpR X (compareOp .Eq) rEq := by
  intro pins s σ H x y v u Q I rx ry h
  obtain ⟨hs, q⟩ := h
  cases x with
  | non =>
    cases rx
    cases y with
    | non => cases ry; exact PySem.EqNone.eq_none_none (fin_bl I q (by simp))
    | bl j => cases ry; exact PySem.EqNone.eq_none_bool (fin_bl I q (by simp))
    | int j => obtain ⟨t', rfl⟩ := ry; exact PySem.EqNone.eq_none_int (fin_bl I q (by simp))
    | str j => obtain ⟨t', rfl⟩ := ry; exact PySem.EqNone.eq_none_str (fin_bl I q (by simp))
    | _ => exact absurd (show false = true from hs) Bool.false_ne_true
  | bl i =>
    cases rx
    cases y with
    | non => cases ry; exact PySem.EqNone.eq_bool_none (fin_bl I q (by simp))
    | bl j => cases ry; exact eq_bool (fin_bl I q dec_bl)
    | str j => obtain ⟨t', rfl⟩ := ry; exact PySem.EqMixed.eq_bool_str (fin_bl I q (by simp))
    | _ => exact absurd (show false = true from hs) Bool.false_ne_true
  | int i =>
    obtain ⟨t, rfl⟩ := rx
    cases y with
    | non => cases ry; exact PySem.EqNone.eq_int_none (fin_bl I q (by simp))
    | int j => obtain ⟨t', rfl⟩ := ry; exact eq_int (fin_bl I q dec_int)
    | str j => obtain ⟨t', rfl⟩ := ry; exact PySem.EqMixed.eq_int_str (fin_bl I q (by simp))
    | _ => exact absurd (show false = true from hs) Bool.false_ne_true
  | str i =>
    obtain ⟨t, rfl⟩ := rx
    cases y with
    | non => cases ry; exact PySem.EqNone.eq_str_none (fin_bl I q (by simp))
    | bl j => cases ry; exact PySem.EqMixed.eq_str_bool (fin_bl I q (by simp))
    | int j => obtain ⟨t', rfl⟩ := ry; exact PySem.EqMixed.eq_str_int (fin_bl I q (by simp))
    | str j => obtain ⟨t', rfl⟩ := ry; exact eq_str (fin_bl I q dec_str)
    | _ => exact absurd (show false = true from hs) Bool.false_ne_true
  | byt i =>
    obtain ⟨t, rfl⟩ := rx
    cases y with
    | byt j => obtain ⟨t', rfl⟩ := ry; exact PySem.W.eq_bytes (fin_bl I q dec_byt)
    | _ => exact absurd (show false = true from hs) Bool.false_ne_true
  | _ => cases y <;> exact absurd (show false = true from hs) Bool.false_ne_true
theorem op_ne : OpR X (compareOp .NotEq) rNe := by
  intro pins s σ H x y v u Q I rx ry h
  obtain ⟨hs, q⟩ := h
  cases x with
  | non =>
    cases rx
    cases y with
    | non => cases ry; exact PySem.EqNone.ne_none_none (fin_bl I q (by simp))
    | bl j => cases ry; exact PySem.EqNone.ne_none_bool (fin_bl I q (by simp))
    | int j => obtain ⟨t', rfl⟩ := ry; exact PySem.EqNone.ne_none_int (fin_bl I q (by simp))
    | str j => obtain ⟨t', rfl⟩ := ry; exact PySem.EqNone.ne_none_str (fin_bl I q (by simp))
    | _ => exact absurd (show false = true from hs) Bool.false_ne_true
  | bl i =>
    cases rx
    cases y with
    | non => cases ry; exact PySem.EqNone.ne_bool_none (fin_bl I q (by simp))
    | bl j => cases ry; exact ne_bool (fin_bl I q (congrArg not dec_bl))
    | str j => obtain ⟨t', rfl⟩ := ry; exact PySem.EqMixed.ne_bool_str (fin_bl I q (by simp))
    | _ => exact absurd (show false = true from hs) Bool.false_ne_true
  | int i =>
    obtain ⟨t, rfl⟩ := rx
    cases y with
    | non => cases ry; exact PySem.EqNone.ne_int_none (fin_bl I q (by simp))
    | int j => obtain ⟨t', rfl⟩ := ry; exact ne_int (fin_bl I q (congrArg not dec_int))
    | str j => obtain ⟨t', rfl⟩ := ry; exact PySem.EqMixed.ne_int_str (fin_bl I q (by simp))
    | _ => exact absurd (show false = true from hs) Bool.false_ne_true
  | str i =>
    obtain ⟨t, rfl⟩ := rx
    cases y with
    | non => cases ry; exact PySem.EqNone.ne_str_none (fin_bl I q (by simp))
    | bl j => cases ry; exact PySem.EqMixed.ne_str_bool (fin_bl I q (by simp))
    | int j => obtain ⟨t', rfl⟩ := ry; exact PySem.EqMixed.ne_str_int (fin_bl I q (by simp))
    | str j => obtain ⟨t', rfl⟩ := ry; exact ne_str (fin_bl I q (congrArg not dec_str))
    | _ => exact absurd (show false = true from hs) Bool.false_ne_true
  | byt i =>
    obtain ⟨t, rfl⟩ := rx
    cases y with
    | byt j => obtain ⟨t', rfl⟩ := ry; exact PySem.W.ne_bytes (fin_bl I q (congrArg not dec_byt))
    | _ => exact absurd (show false = true from hs) Bool.false_ne_true
  | _ => cases y <;> exact absurd (show false = true from hs) Bool.false_ne_true

theorem op_lt : OpR X (compareOp .Lt) (rI0 fun i j => .bl (decide (i < j))) := opB0 fun _ _ _ _ _ _ _ q => lt_int q
theorem op_gt : OpR X (compareOp .Gt) (rI0 fun i j => .bl (decide (j < i))) := opB0 fun _ _ _ _ _ _ _ q => gt_int q
theorem op_ge : OpR X (compareOp .GtE) (rI0 fun i j => .bl (decide (j ≤ i))) := opB0 fun _ _ _ _ _ _ _ q => ge_int q

/-- is None, is not None: the right side a value none -/
theorem op_isN : OpR X (compareOp .Is) (fun x y H Q => y = .non ∧ Q (.bl (decide (x = .non))) H) := by
  intro pins s σ H x y v u Q I rx ry h
  obtain ⟨rfl, q⟩ := h
  cases ry
  refine is_none_gen (fin_bl I q ?_)
  cases x <;> first
    | (cases rx; rfl)
    | (obtain ⟨t, rfl⟩ := rx; rfl)

/-- is, is not of two objects that are tracked lists or instances -/
def isObj : HO → Bool
  | .lst _ => true
  | .ins _ _ _ => true
  | _ => false


theorem nomark (b : Expr) {op : CmpOp} (h : op ≠ .In := by decide) (h2 : op ≠ .NotIn := by decide) : behindInMarks op b = false := by
  have e1 : (op == CmpOp.In) = false := by cases op <;> first | rfl | exact absurd rfl h
  have e2 : (op == CmpOp.NotIn) = false := by cases op <;> first | rfl | exact absurd rfl h2
  cases b <;> simp [behindInMarks, e1, e2]
/-- a comparison as a value; hm: nomark b, or (for in, not in) by with_unfolding_all rfl -/
theorem pe_cmpR {op : CmpOp} {r : R2} (ho : OpR X (compareOp op) r) (ha : PE X a ta) (hb : PE X b tb) (hm : behindInMarks op b = false) : PE X (.Compare a [op] [b] pos) (tOp r ta tb) := by
  intro pins s σ H Q I h
  exact wpAny_Compare1 (binT ha hb I h fun v u s2 x y H2 I2 rx ry q => ho pins s2 σ H2 x y v u Q I2 rx ry q) hm
/-- a reading of a value as a test -/
def tTest (t : TE) : TT := fun σ H Q => t σ H fun x H' => ∃ k, x = .bl k ∧ Q k H'
theorem pt_cmpR {op : CmpOp} {r : R2} (ho : OpR X (compareOp op) r) (ha : PE X a ta) (hb : PE X b tb) (hm : behindInMarks op b = false) : PT X (.Compare a [op] [b] pos) (tTest (tOp r ta tb)) := by
  intro pins s σ H Q I h
  refine wpAny_isTrue_Compare1 (thn (ha pins s σ H _ I h) fun v s1 ⟨x, H1, I1, r1, q1⟩ => thn (hb pins s1 σ H1 _ I1 q1) fun u s2 ⟨y, H2, I2, r2, q2⟩ =>
    thn (ho pins s2 σ H2 x y v u _ I2 r1 r2 q2) fun c s3 ⟨z, H3, I3, r3, k, e, q3⟩ => ?_) hm
  subst e
  cases r3
  exact wpAny_truthy_bool ⟨H3, I3, q3⟩
/-- a op1 b op2 c -/
def tChain (r r' : R2) (ta tb tc : TE) : TE := fun σ H Q => ta σ H fun x H1 => tb σ H1 fun y H2 => r x y H2 fun z H3 => ∃ k, z = .bl k ∧
  (if k = true then tc σ H3 fun w' H4 => r' y w' H4 Q else Q (.bl false) H3)

/-! ### truth -/
/-- a value's truth by the abstract heap -/
def TruV (K : PySem.W.Frag) (x : V) (H : Hp) (k : Bool) : Prop :=
  match x with
  | .non => k = false
  | .bl b => k = b
  | .int i => k = (i != 0)
  | .str y => y.length ≤ sizeLine ∧ k = ((y.length : Int) != 0)
  | .byt y => y.size ≤ sizeLine ∧ k = ((y.size : Int) != 0)
  | .ref p => (∃ xs, SqL K H p xs ∧ k = !xs.isEmpty) ∨ (∃ xs, SqT K H p xs ∧ k = !xs.isEmpty) ∨ ∃ kvs, H p = some (.dK kvs) ∧ k = !kvs.isEmpty
  | _ => False
theorem line63 : (sizeLine : Nat) < 2 ^ 63 := by rw [sizeLine_eq]; decide

/-! ### strs and bytes -/

def PlainIxT (b : Expr) : Prop := ∀ o i, subscripted b false o i = operate [o, i] (getItem o i)

/-! ### scalar builtins, by CallR -/
theorem vals1 {x : V} {us : List Value} (r : Vals [x] us) : ∃ u, us = [u] ∧ RelV x u := by
  cases r with
  | cons r1 r2 => cases r2; exact ⟨_, rfl, r1⟩
theorem vals2 {x y : V} {us : List Value} (r : Vals [x, y] us) : ∃ u w', us = [u, w'] ∧ RelV x u ∧ RelV y w' := by
  cases r with
  | cons r1 r2 =>
    cases r2 with
    | cons r3 r4 => cases r4; exact ⟨_, _, rfl, r1, r3⟩
theorem call_abs : CallR X (.builtin "abs") (fun xs H Q => ∃ i, xs = [.int i] ∧ Q (.int (if i < 0 then -i else i)) H) := by
  intro pins s σ H xs us Q I r h
  obtain ⟨i, rfl, q⟩ := h
  obtain ⟨u, rfl, t, rfl⟩ := vals1 r
  exact call_abs_int fun u tk => ⟨.int (if i < 0 then -i else i), H, I.tok _, ⟨_, rfl⟩, q⟩
/-- len of a str, a bytes, a list, a tuple -/
def LenV (K : PySem.W.Frag) (x : V) (H : Hp) (n : Nat) : Prop :=
  match x with
  | .str y => y.length ≤ sizeLine ∧ n = y.length
  | .byt y => y.size ≤ sizeLine ∧ n = y.size
  | .ref p => (∃ xs, SqL K H p xs ∧ n = xs.length) ∨ ∃ xs, SqT K H p xs ∧ n = xs.length
  | _ => False
end
end L2

namespace L2
open PySem PySem.Spec PyProof.Rows

/-! ### an instance, its attributes a map -/
structure ObjM (h : Heap) (x dx C : Addr) (mA : Str → Option Value) : Prop where
  obj : h.get? x = some (PySem.W.instObj C dx)
  ns : h.Ns1 dx mA
  ne : dx ≠ x

theorem lookIn_ns {h : Heap} {dx : Addr} {mA : Str → Option Value} (n : h.Ns1 dx mA) : ∃ od, h.get? dx = some od ∧ ∀ name, PySem.W.lookIn name od = some (mA name) := by
  obtain ⟨o, es, ep, ho, hd, hk, _, hm⟩ := n
  refine ⟨o, ho, fun name => ?_⟩
  have e := hm name
  unfold nsFind findBy at e
  rw [← Array.find?_toList] at e
  unfold PySem.W.lookIn
  rw [hd]
  dsimp only
  split
  · rename_i y q
    rw [q] at e
    exact congrArg some e
  · rename_i q
    rw [q] at e
    have a : es.toList.any (·.refKey) = false := by
      rw [List.any_eq_false]
      intro y hy
      obtain ⟨z, t, hkey⟩ := hk y (Array.mem_toList_iff.mp hy)
      simp [DictEntry.refKey, hkey]
    have a' : ¬ es.toList.any (·.refKey) = true := by rw [a]; exact Bool.false_ne_true
    rw [if_neg a']
    exact congrArg some e

theorem ObjM.look {h : Heap} {x dx C : Addr} {mA : Str → Option Value} (I : ObjM h x dx C mA) : ∃ od, PySem.W.InstAt h x (PySem.W.instObj C dx) C (some od) ∧ ∀ name, PySem.W.lookIn name od = some (mA name) :=
  let ⟨od, ho, hl⟩ := lookIn_ns I.ns
  ⟨od, ⟨I.obj, rfl, rfl, ho⟩, hl⟩

section
variable {prog : Program} {w : World} {A : Around} {E : Value → Shared → Prop} {s : Shared} {K : PySem.W.Frag} {x dx C f : Addr} {mA : Str → Option Value} {name : Str} {v : Value}





end

/-! ### the attributes as a list of pairs -/
def putF (f : Str) (v : V) : List (Str × V) → List (Str × V)
  | [] => [(f, v)]
  | (g, x) :: r => if g = f then (g, v) :: r else (g, x) :: putF f v r

theorem RelO.some_of {v : V} {o : Option Value} (r : RelO (some v) o) : ∃ u, o = some u ∧ RelV v u := by
  cases o with
  | none => exact (show False from r).elim
  | some u => exact ⟨u, rfl, r⟩
theorem handed_of {v : V} {u : Value} (r : RelV v u) : PySem.W.handedIn u = true := by
  cases v with
  | non => cases (show u = Value.none from r); rfl
  | bl b => cases (show u = Value.bool b from r); rfl
  | int i => obtain ⟨t, e⟩ := (show ∃ t, u = Value.int i t from r); cases e; rfl
  | str x => obtain ⟨t, e⟩ := (show ∃ t, u = Value.str x t from r); cases e; rfl
  | byt b => obtain ⟨t, e⟩ := (show ∃ t, u = Value.bytes b t from r); cases e; rfl
  | flt b => obtain ⟨t, e⟩ := (show ∃ t, u = Value.float b t from r); cases e; rfl
  | ref a => cases (show u = Value.ref a from r); rfl
  | ty n => cases (show u = Value.type n from r); rfl

section
variable {P : Program} {w : World} {H H' : Hp} {h h' : Heap} {a C dx : Addr} {fs fs' : List (Str × V)}
theorem ins_get (hok : HOk P w H h) (e : H a = some (.ins C dx fs)) : ∃ mA, ObjM h a dx C mA ∧ (∀ f, RelO (fs.lookup f) (mA f)) ∧ PySem.Within mA (fs.map (·.1)) ∧ fs.length ≤ 1000 ∧ H dx = some (.own a) := by
  obtain ⟨d, z, ne, ob, mA, n, r, q⟩ := (show ObjOk P w H h a (.ins C dx fs) from hok a _ e)
  exact ⟨mA, ⟨ob, n, ne⟩, r, q, z, d⟩
end

/-! ### what of the text a class must have -/
structure Cls (K : PySem.W.Frag) (C : Addr) : Prop where
  pg : PySem.W.plainGet K C Str.empty = true
  hd : PySem.W.hasDictIn K C = true
  po : PySem.W.plainOver K C = true
  sa : PySem.W.findIn K (.ref C) "__setattr__" = some (some (.builtin "object.__setattr__"))
theorem Cls.get {K : PySem.W.Frag} {C : Addr} (c : Cls K C) (f : Str) : PySem.W.plainGet K C f = true := c.pg
/-- no class of it has the name -/
def NoAttr (K : PySem.W.Frag) (C : Addr) (f : Str) : Prop := PySem.W.findIn K (.ref C) f = some none
/-- a constant of the class -/
structure Con (K : PySem.W.Frag) (C : Addr) (f : Str) (v : V) (u : Value) : Prop where
  at_ : PySem.W.findIn K (.ref C) f = some (some u)
  rel : RelV v u
  get : PySem.W.specialIn K u "__get__" = some none
  cp : PySem.W.copiedNames.contains f = false
/-- a method: a plain def of the class or of one above it -/
structure Meth (K : PySem.W.Frag) (C : Addr) (m : Str) (f : Addr) : Prop where
  at_ : PySem.W.findIn K (.ref C) m = some (some (.ref f))
  fn : PySem.W.isFn K (.ref f) = true
  kp : PySem.W.keepIn K (.ref f) = true

section
variable {X : Cx} {pins : List (Addr × Obj)} {σ : St} {H : Hp} {s : Shared} {a C dx : Addr} {fs : List (Str × V)} {f : Str} {v : V} {A : Around} {E : Value → Shared → Prop}






/-- e.f where nothing but the object is asked: through attributeBase (super) and the last hold -/
theorem attr_of {prog : Program} {w : World} {env : Env} {e : Expr} {f : Str} {pos : Pos} {s : Shared} {Q : Value → Shared → Prop} (hb : attributeBase e f env (eval e env) = eval e env)
    (h : wpAny (model prog w) A (eval e env) (fun o s₁ => wpAny (model prog w) A (getAttr o f true) Q E s₁) E s) : wpAny (model prog w) A (eval (.Attribute e f pos) env) Q E s :=
  Attribute_any_ h (by rw [arm_eval_Attribute, hb])
end

/-! ### readings and rules -/
/-- e.f, an attribute of the instance -/
def tFld (K : PySem.W.Frag) (ta : TE) (f : Str) : TE := fun σ H Q => ta σ H fun x H1 => ∃ a C dx fs v, x = .ref a ∧ H1 a = some (.ins C dx fs) ∧ Cls K C ∧ NoAttr K C f ∧ fs.lookup f = some v ∧ Q v H1
/-- e.f, a constant of the class -/
def tCon (K : PySem.W.Frag) (ta : TE) (f : Str) : TE := fun σ H Q => ta σ H fun x H1 => ∃ a C dx fs v u, x = .ref a ∧ H1 a = some (.ins C dx fs) ∧ Cls K C ∧ Con K C f v u ∧ fs.lookup f = none ∧ Q v H1
/-- e.f = value -/
def sFld (K : PySem.W.Frag) (ta tv : TE) (f : Str) : TS := fun D σ H => tv σ H fun y H1 => ta σ H1 fun x H2 => ∃ a C dx fs, x = .ref a ∧ H2 a = some (.ins C dx fs) ∧ Cls K C ∧ NoAttr K C f ∧ fs.length < 1000 ∧
  D.nx σ (upd H2 a (.ins C dx (putF f y fs)))
/-- an augmented operator on two values -/
def InOp (X : Cx) (op : Operator) (rd : V → V → Hp → VK → Prop) : Prop :=
  ∀ (pins : List (Addr × Obj)) (s : Shared) (σ : St) (H : Hp) (x y : V) (u v : Value) (Q : VK), Inv X pins σ H s → RelV x u → RelV y v → rd x y H Q → wpAny (model X.prog X.w) X.A (inplaceOp op u v) (EP X pins σ Q) X.xe s
/-- e.f op= value -/
def sFldAug (K : PySem.W.Frag) (ta tv : TE) (rd : V → V → Hp → VK → Prop) (f : Str) : TS := fun D σ H => ta σ H fun x H1 => ∃ a C dx fs v, x = .ref a ∧ H1 a = some (.ins C dx fs) ∧ Cls K C ∧ NoAttr K C f ∧ fs.lookup f = some v ∧
  tv σ H1 fun y H2 => rd v y H2 fun z H3 => ∃ dx' fs', H3 a = some (.ins C dx' fs') ∧ fs'.length < 1000 ∧ D.nx σ (upd H3 a (.ins C dx' (putF f z fs')))

section
variable {X : Cx} {o e value : Expr} {f : Str} {pos pos' tpos : Pos} {ta tv : TE}
def rAdd : V → V → Hp → VK → Prop := fun x y H Q => ∃ i j, x = .int i ∧ y = .int j ∧ Q (.int (i + j)) H
def rSub : V → V → Hp → VK → Prop := fun x y H Q => ∃ i j, x = .int i ∧ y = .int j ∧ Q (.int (i - j)) H

end

/-! ### isinstance -/
section
variable {X : Cx} {pins : List (Addr × Obj)} {σ : St} {H : Hp} {s : Shared} {A : Around} {E : Value → Shared → Prop} {Q : Value → Shared → Prop} {c : Value} {b : Bool}
/-- the type of a value, as the fragment's deciders take it; for an instance its class -/
inductive TyOf (K : PySem.W.Frag) (H : Hp) : V → Value → Prop where
  | non : TyOf K H .non (.type "NoneType")
  | bl (x : Bool) : TyOf K H (.bl x) (.type "bool")
  | int (i : Int) : TyOf K H (.int i) (.type "int")
  | str (x : Str) : TyOf K H (.str x) (.type "str")
  | flt (x : UInt64) : TyOf K H (.flt x) (.type "float")
  | lst {a : Addr} {xs : List V} (e : H a = some (.lst xs)) : TyOf K H (.ref a) (.type "list")
  | frz {a : Addr} {o : Obj} {xs : List V} (e : H a = some (.frz o (.lst xs))) : TyOf K H (.ref a) (.type "list")
  | tup {a : Addr} {xs : List V} (e : H a = some (.tup xs)) : TyOf K H (.ref a) (.type "tuple")
  | dK {a : Addr} {kvs : List (Key × V)} (e : H a = some (.dK kvs)) : TyOf K H (.ref a) (.type "dict")
  | dT {a : Addr} {kvs : List (List Key × V)} (e : H a = some (.dT kvs)) : TyOf K H (.ref a) (.type "dict")
  | ins {a C dx : Addr} {fs : List (Str × V)} (e : H a = some (.ins C dx fs)) (cl : Cls K C) (ha : PySem.W.findIn K (.ref C) "__class__" = some (some (.builtin "object.__class__")))
      (hn : PySem.W.specialIn K (.builtin "object.__class__") "__get__" = some (some (.builtin "getset_descriptor.__get__"))) (htk : PySem.W.takesIn K (.builtin "object.__class__") = some true)
      (hm : PySem.W.mroIn K C (.type "object") = some true) : TyOf K H (.ref a) (.ref C)
/-- isinstance(x, c) for one class c, a built-in or an own one: kitOne's answer -/
theorem isinst_ok {x : V} {u t : Value} (I : Inv X pins σ H s) (rx : RelV x u) (ty : TyOf X.K H x t) (e : PySem.W.kitOne X.K t c = some b) (h : ∀ tk, Q (.bool b) { s with toks := tk }) :
    wpAny (model X.prog X.w) A (call (.builtin "isinstance") [u, c]) Q E s := by
  cases ty with
  | non => cases (show u = Value.none from rx); exact PySem.W.kia_one PySem.W.kitx_none I.kIn True.intro e (fun z => nomatch z) h
  | bl y => cases (show u = Value.bool y from rx); exact PySem.W.kia_one PySem.W.kitx_bool I.kIn True.intro e (fun z => nomatch z) h
  | int i => obtain ⟨t, q⟩ := (show ∃ t, u = Value.int i t from rx); cases q; exact PySem.W.kia_one PySem.W.kitx_int I.kIn True.intro e (fun z => nomatch z) h
  | str y => obtain ⟨t, q⟩ := (show ∃ t, u = Value.str y t from rx); cases q; exact PySem.W.kia_one PySem.W.kitx_str I.kIn True.intro e (fun z => nomatch z) h
  | flt y => obtain ⟨t, q⟩ := (show ∃ t, u = Value.float y t from rx); cases q; exact PySem.W.kia_one PySem.W.kitx_float I.kIn True.intro e (fun z => nomatch z) h
  | @lst a xs ea =>
    cases (show u = Value.ref a from rx)
    obtain ⟨_, _, n, _, h1⟩ := (show ObjOk X.prog X.w H s.heap a (.lst xs) from I.hok a _ ea)
    exact PySem.W.kia_one PySem.W.kitx_list I.kIn ⟨_, h1, rfl⟩ e (fun z => nomatch z) h
  | @frz a ob xs ea =>
    cases (show u = Value.ref a from rx)
    obtain ⟨_, _, _, n, _, h1⟩ := (show ObjOk X.prog X.w H s.heap a (.frz ob (.lst xs)) from I.hok a _ ea)
    exact PySem.W.kia_one PySem.W.kitx_list I.kIn ⟨_, h1, rfl⟩ e (fun z => nomatch z) h
  | @tup a xs ea =>
    cases (show u = Value.ref a from rx)
    obtain ⟨_, _, _, p⟩ := (show ObjOk X.prog X.w H s.heap a (.tup xs) from I.hok a _ ea)
    obtain ⟨o, h1, h2, _⟩ := p
    exact PySem.W.kia_one PySem.W.kitx_tuple I.kIn ⟨o, h1, h2⟩ e (fun z => nomatch z) h
  | @dK a kvs ea =>
    cases (show u = Value.ref a from rx)
    obtain ⟨_, _, vs, _, p⟩ := (show ObjOk X.prog X.w H s.heap a (.dK kvs) from I.hok a _ ea)
    obtain ⟨o, es, ep, h1, h2, _⟩ := p
    exact PySem.W.kia_one PySem.W.kitx_dict I.kIn ⟨o, h1, h2.1⟩ e (fun z => nomatch z) h
  | @dT a kvs ea =>
    cases (show u = Value.ref a from rx)
    obtain ⟨_, _, xs, _, o, es, ep, h1, h2, _⟩ := (show ObjOk X.prog X.w H s.heap a (.dT kvs) from I.hok a _ ea)
    exact PySem.W.kia_one PySem.W.kitx_dict I.kIn ⟨o, h1, h2.1⟩ e (fun z => nomatch z) h
  | @ins a C dx fs ea cl ha hn htk hm =>
    cases (show u = Value.ref a from rx)
    obtain ⟨mA, O, _⟩ := ins_get I.hok ea
    obtain ⟨od, J, _⟩ := O.look
    exact PySem.W.kia_one (PySem.W.kitx_own (cl.get _) cl.hd ha hn htk hm) I.kIn J e (fun z => nomatch z) h
end
end L2

namespace L2
open PySem PySem.Spec PyProof.Rows

/-! ### room -/
structure Room (k : Nat) (A : Around) : Prop where
  hd : A.handled = none
  dp : A.depth + 3 * k + 5 < recursionLimit
  un : A.units + 16 * k + 200 < cLine
  gd : A.guards = some []
theorem Room.mono {j k : Nat} {A : Around} (r : Room k A) (h : j ≤ k) : Room j A := ⟨r.hd, by have := r.dp; omega, by have := r.un; omega, r.gd⟩
theorem Room.deeper {k : Nat} {A : Around} (r : Room (k + 1) A) (env : Env) : Room k (A.deeper env) :=
  ⟨r.hd, by have := r.dp; show A.depth + 1 + 3 * k + 5 < _; omega, by have := r.un; show A.units + 3 + 16 * k + 200 < _; omega, r.gd⟩
theorem make_depth {A : Around} {C : Addr} {us : List Value} {kw : List (Str × Value)} : (A.under (.builtin "type.__call__" ⟨.ref C :: us, kw⟩)).depth = A.depth + 1 := by
  first | rfl | simp [Around.under, Code.weight, Code.isCreation, Code.isGuard, Code.isCaller, Code.frames, Code.isFrame, guardIds]
theorem make_units {A : Around} {C : Addr} {us : List Value} {kw : List (Str × Value)} : (A.under (.builtin "type.__call__" ⟨.ref C :: us, kw⟩)).units = A.units + 1 := by
  first | rfl | simp [Around.under, Code.cUnits, Code.frames, Code.isFrame]
theorem make_guards {A : Around} {C : Addr} {us : List Value} {kw : List (Str × Value)} : (A.under (.builtin "type.__call__" ⟨.ref C :: us, kw⟩)).guards = A.guards := by
  first | rfl | simp [Around.under, Code.guards, Code.isGuard, guardIds, pushGuards]
theorem Room.make {k : Nat} {A : Around} (r : Room (k + 1) A) (C : Addr) (us : List Value) (kw : List (Str × Value)) : Room k (A.under (.builtin "type.__call__" ⟨.ref C :: us, kw⟩)) :=
  ⟨r.hd, by have := r.dp; rw [make_depth]; omega, by have := r.un; rw [make_units]; omega, by rw [make_guards]; exact r.gd⟩
theorem Room.depth {k : Nat} {A : Around} (r : Room k A) : A.depth < recursionLimit := by have := r.dp; omega
theorem Room.units {k : Nat} {A : Around} (r : Room k A) : A.units + 64 < cLine := by have := r.un; omega

/-! ### argument lists and displays -/
def tNil : TA := fun _ H Q => Q [] H
def tCons (ta : TE) (tr : TA) : TA := fun σ H Q => ta σ H fun x H1 => tr σ H1 fun xs H2 => Q (x :: xs) H2
section
variable {X : Cx} {e : Expr} {es : List Expr} {te : TE} {t : TA} {pos : Pos}
theorem pa_nil : PA X [] tNil := fun _ _ _ _ H Q I h => Calls.spliced_nil ⟨[], H, I, .nil, h⟩
theorem pa_cons (ha : PE X e te) (hr : PA X es t) (hs : starEach (e :: es) X.env = (false, eval e X.env) :: starEach es X.env := by rfl) : PA X (e :: es) (tCons te t) := by
  intro pos pins s σ H Q I h
  rw [hs]
  show wpAny _ _ (spliced ((false, eval e X.env) :: backTo pos (starEach es X.env))) _ _ s
  refine Calls.spliced_cons (thn (ha pins s σ H _ I h) fun u s1 ⟨x, H1, I1, r1, q1⟩ => ?_)
  exact thn (hr pos pins s1 σ H1 _ I1 q1) fun us s2 ⟨xs, H2, I2, r2, q2⟩ => ⟨x :: xs, H2, I2, .cons r1 r2, q2⟩

/-- a tuple, a list of written items -/
def tTup (t : TA) : TE := fun σ H Q => t σ H fun xs H1 => xs.length ≤ sizeLine ∧ ∀ p, H1 p = none → Q (.ref p) (upd H1 p (.tup xs))
def tLst (t : TA) : TE := fun σ H Q => t σ H fun xs H1 => xs.length ≤ sizeLine ∧ ∀ p, H1 p = none → Q (.ref p) (upd H1 p (.lst xs))
theorem pe_tup {x1} (h : PA X es t) : PE X (.Tuple es x1 pos) (tTup t) := by
  intro pins s σ H Q I hq
  refine wpAny_Tuple_spliced (thn (h pos pins s σ H _ I hq) fun us s1 ⟨xs, H1, I1, r, z, q⟩ => ⟨by rw [← r.length]; exact z, ?_⟩)
  have hf : H1 s1.heap.objs.size = none := I1.hok.fresh (Nat.le_refl _)
  refine ⟨.ref s1.heap.objs.size, upd H1 s1.heap.objs.size (.tup xs), I1.laid (t' := s1.toks) (fun b u e => Heap.get?_push_of_some _ e) (Nat.le_refl _) ?_, rfl, q _ hf⟩
  exact ⟨z, us, r, ⟨_, Heap.get?_push_size _ rfl, rfl, _, rfl⟩⟩
theorem pe_lst (h : PA X es t) : PE X (.List es pos) (tLst t) := by
  intro pins s σ H Q I hq
  refine wpAny_List_spliced (thn (h pos pins s σ H _ I hq) fun us s1 ⟨xs, H1, I1, r, z, q⟩ => ⟨by rw [← r.length]; exact z, ?_⟩)
  have hf : H1 s1.heap.objs.size = none := I1.hok.fresh (Nat.le_refl _)
  refine ⟨.ref s1.heap.objs.size, upd H1 s1.heap.objs.size (.lst xs), I1.laid (t' := s1.toks) (fun b u e => Heap.get?_push_of_some _ e) (Nat.le_refl _) ?_, rfl, q _ hf⟩
  exact ⟨z, us, 0, r, Heap.get?_push_size _ rfl⟩
end

/-! ### what a def promises -/
/-- a def's promise: the bound arguments in the parameters' order, the heap, the wanted end, the wanted exception -/
abbrev Sp := List V → Hp → VK → XK → Prop
/-- how an exception lies behind a call (file 08 gives it): the callers' frames, abstract heap and state ahead of the call, the wish, the exception, the state -/
abbrev CXT := List Env → Hp → Shared → XK → Value → Shared → Prop

/-- the state at a call -/
structure Env0 (P : Program) (w : World) (K : PySem.W.Frag) (mg : Str → Option Value) (base : Heap) (A : Around) (outer : List Env) (s : Shared) (H : Hp) : Prop where
  frames : A.frames = some outer
  mod : Mod K mg base
  bs : ∀ b o, base.get? b = some o → s.heap.get? b = some o ∧ H b = none
  bsz : base.objs.size ≤ s.heap.objs.size
  funs : s.heap.FunFrames base outer
  frf : ∀ b ∈ frs outer, H b = none
  hok : HOk P w H s.heap
  bare : AllBare s.gens
/-- a call's end -/
def CE (outer : List Env) (P : Program) (w : World) (H : Hp) (s : Shared) (Q : VK) (u : Value) (s' : Shared) : Prop :=
  ∃ v H', s'.os = s.os ∧ AllBare s'.gens ∧ Un (frs outer) [] H H' s.heap s'.heap ∧ HOk P w H' s'.heap ∧ RelV v u ∧ Q v H'
def CR (CX : CXT) (outer : List Env) (P : Program) (w : World) (H : Hp) (s : Shared) (Q : VK) (E : XK) (r : Result) (s' : Shared) : Prop :=
  match r with
  | .ok (.ret u) => CE outer P w H s Q u s'
  | .ok _ => False
  | .error e => CX outer H s E e s'
structure FnOk (P : Program) (w : World) (K : PySem.W.Frag) (mg : Str → Option Value) (base : Heap) (CX : CXT) (k : Nat) (f : Addr) (fd : FuncData) (ps : List Str) (sp : Sp) : Prop where
  len : ∀ vs H Q E, sp vs H Q E → vs.length = ps.length
  run : ∀ (A : Around) (outer : List Env) (s : Shared) (H : Hp) (args : Args) (us : List Value) (vs : List V) (Q : VK) (E : XK), Room k A → Env0 P w K mg base A outer s H → BindsTo s fd args (ps.zip us) → Vals vs us → sp vs H Q E →
    codeAny (model P w) A (.call (.ref f) args) (CR CX outer P w H s Q E) s

theorem Env0.make {P : Program} {w : World} {K : PySem.W.Frag} {mg : Str → Option Value} {base : Heap} {A : Around} {outer : List Env} {s : Shared} {H : Hp} (e : Env0 P w K mg base A outer s H) (C : Addr) (us : List Value) (kw : List (Str × Value)) :
    Env0 P w K mg base (A.under (.builtin "type.__call__" ⟨.ref C :: us, kw⟩)) outer s H := ⟨by first | exact e.frames | (simpa [Around.under, Code.envs, Code.isFrame, pushEnvs] using e.frames), e.mod, e.bs, e.bsz, e.funs, e.frf, e.hok, e.bare⟩

section
variable {X : Cx} {pins : List (Addr × Obj)} {σ : St} {H : Hp} {s s' : Shared}
/-- from a body: what a callee wants -/
theorem Inv.env0 (I : Inv X pins σ H s) : Env0 X.prog X.w X.K X.mg X.base X.A X.stack s H :=
  ⟨I.ok.frames, I.ok.mod, I.bs, Nat.le_trans I.ok.bsz I.sz, I.stack, I.stkFree, I.hok, I.bare⟩
/-- behind a call -/
theorem Inv.after {Q : VK} {u : Value} (I : Inv X pins σ H s) (h : CE X.stack X.prog X.w H s Q u s') : EP X pins σ Q u s' := by
  obtain ⟨v, H', os, bare, un, hok, r, q⟩ := h
  obtain ⟨hh, g, d, t, os'⟩ := s'
  obtain rfl : os' = s.os := os
  exact ⟨v, H', I.call (h' := hh) (g' := g) (d' := d) (t' := t) (ch := []) un hok bare (fun b z => absurd z (by simp)), r, q⟩
end

/-! ### calls -/
/-- f(..): the written arguments, then the defaults dvs; E: what is wanted of an exception -/
def tCall (sp : Sp) (dvs : List V) (E : XK) (t : TA) : TE := fun σ H Q => t σ H fun vs H1 => sp (vs ++ dvs) H1 Q E
/-- o.m(..) of an instance of the class at C -/
def tMeth (C : Addr) (m : Str) (sp : Sp) (dvs : List V) (E : XK) (ta : TE) (t : TA) : TE := fun σ H Q => ta σ H fun x H1 => ∃ a dx fs, x = .ref a ∧ H1 a = some (.ins C dx fs) ∧ fs.lookup m = none ∧
  t σ H1 fun vs H2 => sp (x :: (vs ++ dvs)) H2 Q E
/-- C(..): a new instance and its dict, then __init__ -/
def tMake (C : Addr) (sp : Sp) (dvs : List V) (E : XK) (t : TA) : TE := fun σ H Q => t σ H fun vs H1 => ∀ x dx, H1 x = none → H1 dx = none → dx ≠ x →
  sp (.ref x :: (vs ++ dvs)) (upd (upd H1 dx (.own x)) x (.ins C dx [])) (fun v H2 => v = .non ∧ Q (.ref x) H2) E

/-- how the parameters are bound: us the positional arguments, kw the keywords' values by name, ds the defaults that fill up -/
def Binds (K : PySem.W.Frag) (fd : FuncData) (ps : List Str) (ds : List Value) : Prop :=
  ∀ (s : Shared) (us : List Value), K.In s.heap → (us ++ ds).length = ps.length → BindsTo s fd ⟨us, []⟩ (ps.zip (us ++ ds))
/-- every parameter is given -/
theorem Binds.all {K : PySem.W.Frag} {fd : FuncData} {ps : List Str} (h : ∀ us : List Value, us.length = ps.length → bindArgs fd ⟨us, []⟩ = pure (ps.zip us)) : Binds K fd ps [] := fun s us _ hl => by
  rw [List.append_nil] at hl ⊢
  exact .of_eq (h us hl)

/-- an exception of a callee reaches what this body wants of exceptions -/
def Passes (CX : CXT) (X : Cx) (E : XK) : Prop := ∀ (pins : List (Addr × Obj)) (σ : St) (H : Hp) (s : Shared) (e : Value) (s' : Shared), Inv X pins σ H s → CX X.stack H s E e s' → X.xe e s'

section
variable {X : Cx} {CX : CXT} {k : Nat} {f C : Addr} {fd : FuncData} {ps : List Str} {sp : Sp} {dvs : List V} {ds : List Value} {E : XK} {x m : Str} {p pos apos : Pos} {e o : Expr} {es : List Expr} {ta : TE} {t : TA}

/-- the callee runs -/
theorem run_fn {pins : List (Addr × Obj)} {σ : St} {H : Hp} {s : Shared} {Q : VK} {us : List Value} {vs : List V} (F : FnOk X.prog X.w X.K X.mg X.base CX k f fd ps sp) (hr : Room k X.A) (hb : Binds X.K fd ps ds) (hd : Vals dvs ds) (hx : Passes CX X E)
    (I : Inv X pins σ H s) (r : Vals vs us) (h : sp (vs ++ dvs) H Q E) : wpAny (model X.prog X.w) X.A (call (.ref f) us) (EP X pins σ Q) X.xe s := by
  have r2 : Vals (vs ++ dvs) (us ++ ds) := r.append hd
  have hl : (us ++ ds).length = ps.length := by rw [← r2.length]; exact F.len _ _ _ _ h
  refine wpAny_call (codeAny_mono (F.run X.A X.stack s H ⟨us, []⟩ (us ++ ds) (vs ++ dvs) Q E hr I.env0 (hb s us I.kIn hl) r2 h) fun r s' hq => ?_)
  cases r with
  | error e => exact hx pins σ H s e s' I hq
  | ok fl =>
    cases fl with
    | ret u => exact I.after hq
    | next => exact False.elim hq
    | brk => exact False.elim hq
    | cont => exact False.elim hq

theorem pe_call (F : FnOk X.prog X.w X.K X.mg X.base CX k f fd ps sp) (hr : Room k X.A) (hg : Gl X x) (hm : X.mg x = some (.ref f)) (hk : PySem.W.keepIn X.K (.ref f) = true) (hb : Binds X.K fd ps ds) (hd : Vals dvs ds) (hx : Passes CX X E)
    (ha : PA X (e :: es) t) (hdb : (x == ("__debug__" : Str)) = false := by decide) (he : starEach (e :: es) X.env = (false, eval e X.env) :: starEach es X.env := by rfl) (hpl : (backTo pos (starEach es X.env)).any (·.1) = false := by rfl) :
    PE X (.Call (.Name x p) (e :: es) [] pos) (tCall sp dvs E t) := by
  intro pins s σ H Q I h
  refine wpAny_Call_Name_kw (ld_glob I hg hm ?_ hdb)
  refine PySem.W.callWith_K (h₀ := X.base) I.ok.mod.kin hk (thn (ha pos pins s σ H _ I h) fun us s1 ⟨vs, H1, I1, r, q⟩ => ⟨I1.kIn, ?_⟩) he hpl
  exact run_fn F hr hb hd hx I1 r q


/-- what a class must have to be made -/
structure Mk (K : PySem.W.Frag) (C f : Addr) : Prop where
  makes : PySem.W.makesIn K C = true
  init : PySem.W.findIn K (.ref C) "__init__" = some (some (.ref f))
  fn : PySem.W.isFn K (.ref f) = true
  kp : PySem.W.keepIn K (.ref C) = true

end

/-! ### keywords -/
/-- the values of the keywords, from the left -/
def PK (X : Cx) (kws : List Keyword) (t : TA) : Prop :=
  ∀ (pos : Pos) (pins : List (Addr × Obj)) (s : Shared) (σ : St) (H : Hp) (Q : List V → Hp → Prop), Inv X pins σ H s → t σ H Q → wpAny (model X.prog X.w) X.A (evalAll ((backToKw pos (keywordEach kws X.env)).map (·.2))) (AP X pins σ Q) X.xe s
section
variable {X : Cx} {CX : CXT} {k : Nat} {f C : Addr} {fd : FuncData} {ps ks : List Str} {sp : Sp} {E : XK} {x m : Str} {p pos apos kpos : Pos} {e o : Expr} {es : List Expr} {kws : List Keyword} {te ta : TE} {t tk : TA} {nm : Option Str}

/-- how a call with keywords binds: g puts the positional values us and the keywords' values ws (names ks) in the parameters' order, defaults among them -/
structure KBinds (K : PySem.W.Frag) (fd : FuncData) (ps ks : List Str) (g : List Value → List Value → List Value) (gV : List V → List V → List V) : Prop where
  to : ∀ (s : Shared) (us ws : List Value), K.In s.heap → (g us ws).length = ps.length → BindsTo s fd ⟨us, ks.zip ws⟩ (ps.zip (g us ws))
  rel : ∀ {vs : List V} {us : List Value} {zs : List V} {ws : List Value}, Vals vs us → Vals zs ws → Vals (gV vs zs) (g us ws)
def tCallK (sp : Sp) (gV : List V → List V → List V) (E : XK) (t tk : TA) : TE := fun σ H Q => t σ H fun vs H1 => tk σ H1 fun zs H2 => sp (gV vs zs) H2 Q E
variable {g : List Value → List Value → List Value} {gV : List V → List V → List V}
end

/-! ### a def's body keeps its promise -/
/-- names: the parameters first -/
structure FnScope (N P : List Str) (sc : Scope) : Prop where
  kind : sc.kind = .function
  co : sc.isCoroutine = false
  gen : sc.isGenerator = false
  nd : N.Nodup
  pre : N.take P.length = P
  par : ∀ x ∈ P, sc.names.lookup x = some .local ∨ sc.names.lookup x = some .cell
  nofree : ∀ y ∈ sc.names, y.2 ≠ .free

theorem bindL_out {kindOf : Str → Option NameKind} {x : Str} : ∀ {binds : List (Str × Value)} {m : Str → Option Value}, (∀ v, (x, v) ∉ binds) → bindL kindOf binds m x = m x
  | [], _, _ => rfl
  | (n, v) :: r, m, h => by
    unfold bindL
    rw [bindL_out fun w hw => h w (List.mem_cons_of_mem _ hw)]
    split
    · have : x ≠ n := by rintro rfl; exact h v List.mem_cons_self
      simp [this]
    · rfl
theorem bindC_out {kindOf : Str → Option NameKind} {x : Str} : ∀ {binds : List (Str × Value)} {m : Str → Option Value}, (∀ v, (x, v) ∉ binds) → bindC kindOf binds m x = m x
  | [], _, _ => rfl
  | (n, v) :: r, m, h => by
    unfold bindC
    rw [bindC_out fun w hw => h w (List.mem_cons_of_mem _ hw)]
    split
    · rfl
    · have : x ≠ n := by rintro rfl; exact h v List.mem_cons_self
      simp [this]
theorem bindL_get {kindOf : Str → Option NameKind} {x : Str} {v : Value} : ∀ {P : List Str} {vs : List Value} {i : Nat} {m : Str → Option Value}, P.Nodup → P[i]? = some x → vs[i]? = some v → kindOf x = some .local →
    bindL kindOf (P.zip vs) m x = some v
  | [], _, _, _, _, h, _, _ => by simp at h
  | _ :: _, [], _, _, _, _, h, _ => by simp at h
  | p :: P, w :: vs, 0, m, nd, h1, h2, hk => by
    simp at h1 h2; subst h1; subst h2
    show bindL kindOf ((p, w) :: P.zip vs) m p = _
    unfold bindL
    rw [bindL_out fun v hv => (List.nodup_cons.mp nd).1 (List.of_mem_zip hv).1, if_pos hk]
    simp
  | p :: P, w :: vs, i + 1, m, nd, h1, h2, hk => by
    show bindL kindOf ((p, w) :: P.zip vs) m x = _
    unfold bindL
    exact bindL_get (i := i) (List.nodup_cons.mp nd).2 (by simpa using h1) (by simpa using h2) hk
theorem bindC_get {kindOf : Str → Option NameKind} {x : Str} {v : Value} : ∀ {P : List Str} {vs : List Value} {i : Nat} {m : Str → Option Value}, P.Nodup → P[i]? = some x → vs[i]? = some v → kindOf x ≠ some .local →
    bindC kindOf (P.zip vs) m x = some v
  | [], _, _, _, _, h, _, _ => by simp at h
  | _ :: _, [], _, _, _, _, h, _ => by simp at h
  | p :: P, w :: vs, 0, m, nd, h1, h2, hk => by
    simp at h1 h2; subst h1; subst h2
    show bindC kindOf ((p, w) :: P.zip vs) m p = _
    unfold bindC
    rw [bindC_out fun v hv => (List.nodup_cons.mp nd).1 (List.of_mem_zip hv).1, if_neg hk]
    simp
  | p :: P, w :: vs, i + 1, m, nd, h1, h2, hk => by
    show bindC kindOf ((p, w) :: P.zip vs) m x = _
    unfold bindC
    exact bindC_get (i := i) (List.nodup_cons.mp nd).2 (by simpa using h1) (by simpa using h2) hk

/-- the names' values at the entry -/
def start (N : List Str) (vs : List V) : St := vs.map some ++ List.replicate (N.length - vs.length) none

/-- the context of a def's body, at its entry; an exception leaves the frame, then lies as CX says -/
def cxOf (CX : CXT) (P : Program) (w : World) (K : PySem.W.Frag) (mg : Str → Option Value) (base : Heap) (N : List Str) (qual : Str) (scope : Scope) (f : Addr) (cd : Value) (A : Around) (outer : List Env) (s : Shared) (H : Hp) (E : XK) : Cx where
  prog := P
  w := w
  K := K
  mg := mg
  base := base
  A := A.deeper (envOfC qual scope s.heap.objs.size f cd)
  N := N
  s₀ := s
  H₀ := H
  env := envOfC qual scope s.heap.objs.size f cd
  outer := outer
  stack := envOfC qual scope s.heap.objs.size f cd :: outer
  ex := []
  calm := true
  fn := fun _ => true
  pn := []
  xe := fun e s' => wpAny (model P w) (A.deeper (envOfC qual scope s.heap.objs.size f cd)) (leaving (envOfC qual scope s.heap.objs.size f cd) e) (fun _ s'' => CX outer H s E e s'') (fun e' s'' => CX outer H s E e' s'') s'

theorem cell_has {sc : Scope} {n : Nat} {x : Str} (h : sc.names.lookup x = some .cell) : ∃ c, (cellsFrom n sc.names []).lookup x = some c := by
  have q := PySem.W.cellsFrom_some sc.names n [] (.inl h)
  exact Option.isSome_iff_exists.mp q

theorem inv_start {CX : CXT} {P : Program} {w : World} {K : PySem.W.Frag} {mg : Str → Option Value} {base : Heap} {N ps : List Str} {qual : Str} {scope : Scope} {f : Addr} {cd : Value} {A : Around} {outer : List Env} {s s1 : Shared} {H : Hp} {E : XK} {us : List Value} {vs : List V}
    (S : FnScope N ps scope) (hd : A.handled = none) (e0 : Env0 P w K mg base A outer s H) (hl : vs.length = ps.length) (r : Vals vs us)
    (x : InCallC s s.heap.objs.size (bindL (envOfC qual scope s.heap.objs.size f cd).kindOf (ps.zip us) fun _ => none) (cellsFrom (s.heap.objs.size + 1) scope.names []) (bindC (envOfC qual scope s.heap.objs.size f cd).kindOf (ps.zip us) fun _ => none) s1) :
    Inv (cxOf CX P w K mg base N qual scope f cd A outer s H E) [] (start N vs) H s1 := by
  have hpl : ps.length ≤ N.length := by have := congrArg List.length S.pre; rw [List.length_take] at this; omega
  obtain ⟨h1, tk, rfl, hk⟩ := x.done
  have noA : ∀ b : Addr, b ∉ (cxOf CX P w K mg base N qual scope f cd A outer s H E).ex := fun b z => absurd (show b ∈ ([] : List Addr) from z) (by simp)
  refine ⟨⟨e0.mod, S.kind, rfl, rfl, Nat.le_refl _, fun y z c h1 h2 => ?_, fun y hy => ?_, fun y c _ h => ?_, fun _ => hd, Around.frames_deeper e0.frames, .inr ⟨rfl, rfl⟩, fun b z => absurd z (noA b), e0.bs, e0.bsz, fun b _ _ => noA b, fun b z => absurd z (noA b), e0.funs, e0.frf⟩,
    rfl, e0.bare, Un.kept hk, ⟨_, x.toInCall.ns, fun i y v h1 h2 h3 => ?_⟩, fun y c h => ⟨_, x.cell y c h⟩, e0.hok.fresh (Nat.le_refl _), fun y c h => ?_, fun p hp => absurd (show p ∈ ([] : List (Addr × Obj)) from hp) (by simp), e0.hok.kept hk, ?_⟩
  · exact name_of_addr x.apart (PySem.mem_of_lookup h1) (PySem.mem_of_lookup h2)
  · have hy : scope.names.lookup y = some .cell ∨ scope.names.lookup y = some .free := hy
    rcases hy with hy | hy
    · exact cell_has hy
    · exact absurd rfl (S.nofree _ (PySem.mem_of_lookup hy))
  · exact Nat.le_of_lt (x.above y c (PySem.mem_of_lookup h))
  · have hi : i < vs.length := by
      unfold start at h2
      by_cases hi : i < vs.length
      · exact hi
      · rw [List.getElem?_append_right (by simpa using hi)] at h2
        rw [List.getElem?_replicate] at h2
        split at h2 <;> cases h2
    have ha : vs[i]? = some v := by
      unfold start at h2
      rw [List.getElem?_append_left (by simpa using hi), List.getElem?_map] at h2
      cases e : vs[i]? with
      | none => rw [e] at h2; cases h2
      | some a => rw [e] at h2; cases h2; rfl
    obtain ⟨u, hu, rv⟩ := r.get ha
    have hp : ps[i]? = some y := by
      rw [← S.pre, List.getElem?_take_of_lt (by omega)]; exact h1
    have ndP : ps.Nodup := by rw [← S.pre]; exact S.nd.sublist (List.take_sublist _ _)
    refine ⟨u, rv, ?_⟩
    rcases S.par y (List.mem_of_getElem? hp) with k | k
    · exact .inl ⟨k, bindL_get ndP hp hu k⟩
    · obtain ⟨c, e⟩ := cell_has (n := s.heap.objs.size + 1) k
      refine .inr ⟨.inl k, c, e, ?_⟩
      have q := x.cell y c e
      rw [bindC_get ndP hp hu (by show scope.names.lookup y ≠ _; rw [k]; decide)] at q
      exact q
  · exact e0.hok.fresh (Nat.le_of_lt (x.above y c (PySem.mem_of_lookup h)))
  · unfold start
    show _ = N.length
    rw [List.length_append, List.length_map, List.length_replicate]
    omega

/-- THE RULE: a def (or a method) of the text, by its body. The body's reading t is chosen for each entry; it is run at the parameters' values -/
theorem fn_of {CX : CXT} {P : Program} {w : World} {K : PySem.W.Frag} {mg : Str → Option Value} {base : Heap} {k : Nat} {f : Addr} {name qual : Str} {params : Arguments} {body : List Stmt} {scope : Scope} {dV kV doc pm cdv ct oc : Value} {an od : Option Addr}
    {osl : Array (Option Value)} {N ps : List Str} {sp : Sp} (lk : K.lookup f = some ⟨oc, od, .func (PySem.W.fnOf name qual params body scope dV kV doc pm an cdv ct), osl⟩) (hcd : PySem.W.codeIn K cdv qual = true) (S : FnScope N ps scope)
    (len : ∀ vs H Q E, sp vs H Q E → vs.length = ps.length)
    (hbody : ∀ (A : Around) (outer : List Env) (s : Shared) (H : Hp) (vs : List V) (Q : VK) (E : XK), Room k (A.deeper (envOfC qual scope s.heap.objs.size f cdv)) → sp vs H Q E →
      ∃ t, PSs (cxOf CX P w K mg base N qual scope f cdv A outer s H E) body t ∧ t { nx := fun _ H' => Q .non H', rt := Q } (start N vs) H) :
    FnOk P w K mg base CX (k + 1) f (PySem.W.fnOf name qual params body scope dV kV doc pm an cdv ct) ps sp := by
  refine ⟨len, fun A outer s H args us vs Q E hr e0 hb r hsp => ?_⟩
  have hl := len _ _ _ _ hsp
  have KX : K.In s.heap := e0.mod.kin.keeps fun b o e => (e0.bs b o e).1
  have lim : s.heap.NoLimit := e0.mod.nolimit.keeps fun b o e => (e0.bs b o e).1
  have hkind : ∀ y ∈ ps.zip us, scope.names.lookup y.1 = some .local ∨ (scope.names.lookup y.1 = some .cell ∧ ((cellsFrom (s.heap.objs.size + 1) scope.names []).lookup y.1).isSome = true) := fun ⟨n, v⟩ hy => by
    rcases S.par n (List.of_mem_zip hy).1 with q | q
    · exact .inl q
    · exact .inr ⟨q, PySem.W.cellsFrom_some _ _ _ (.inl q)⟩
  refine codeAny_call_function hr.depth (KX _ _ lk) rfl S.co S.gen rfl (PySem.W.codeRec_of KX hcd) (hb _ _ _ _ ?_)
  refine wpAny_newFunctionEnv_cells S.kind hkind fun env he s1 x => ?_
  subst he
  refine ⟨lim.keeps x.toInCall.keep, codeAny_func ?_⟩
  obtain ⟨t, ht, hq⟩ := hbody A outer s H vs Q E (hr.deeper _) hsp
  have I : Inv (cxOf CX P w K mg base N qual scope f cdv A outer s H E) [] (start N vs) H s1 := inv_start S hr.hd e0 hl r x
  refine wpAny_mono (ht [] s1 (start N vs) H _ I hq) (fun fl s' hs => ?_) fun e s' hs => hs
  have fin : ∀ {σ' : St} {H' : Hp} {v : V} {u : Value}, Inv (cxOf CX P w K mg base N qual scope f cdv A outer s H E) [] σ' H' s' → RelV v u → Q v H' → CE outer P w H s Q u s' :=
    fun {σ' H' v u} J rv q => ⟨v, H', J.os, J.bare, J.base, J.hok, rv, q⟩
  cases fl with
  | ret u =>
    obtain ⟨v, σ', H', J, rv, q⟩ := hs
    exact fin J rv q
  | next =>
    obtain ⟨σ', H', J, q⟩ := hs
    exact fin (v := V.non) (u := Value.none) J rfl q
  | brk =>
    obtain ⟨_, _, _, q⟩ := hs
    exact False.elim q
  | cont =>
    obtain ⟨_, _, _, q⟩ := hs
    exact False.elim q
end L2

namespace L2
open PySem PySem.Spec PyProof.Rows
section
variable {X : Cx} {x : Str} {p pos : Pos} {e : Expr} {es : List Expr} {t : TA} {id T : String} {r : List V → Hp → VK → Prop}

def tCB (r : List V → Hp → VK → Prop) (t : TA) : TE := fun σ H Q => t σ H fun vs H1 => r vs H1 Q
/-- f(e, ..), f a built-in function -/
theorem pe_callB (hc : CallR X (.builtin id) r) (hg : Gl X x) (hm : X.mg x = none) (hv : bootBuiltins x = some (.builtin id)) (ha : PA X (e :: es) t) (hn : x ≠ "__name__" := by decide) (hdb : (x == ("__debug__" : Str)) = false := by decide)
    (he : starEach (e :: es) X.env = (false, eval e X.env) :: starEach es X.env := by rfl) (hpl : (backTo pos (starEach es X.env)).any (·.1) = false := by rfl) : PE X (.Call (.Name x p) (e :: es) [] pos) (tCB r t) := by
  intro pins s σ H Q I h
  refine wpAny_Call_Name_kw (ld_blt I hg hm hv ?_ hn hdb)
  exact PyProof.Rows.callWith_builtin1 (thn (ha pos pins s σ H _ I h) fun us s1 ⟨vs, H1, I1, r1, q1⟩ => hc pins s1 σ H1 vs us Q I1 r1 q1) he hpl
/-- T(e, ..), T a built-in type -/
theorem pe_callTy (hc : CallR X (.type T) r) (hg : Gl X x) (hm : X.mg x = none) (hv : bootBuiltins x = some (.type T)) (ha : PA X (e :: es) t) (hn : x ≠ "__name__" := by decide) (hdb : (x == ("__debug__" : Str)) = false := by decide)
    (he : starEach (e :: es) X.env = (false, eval e X.env) :: starEach es X.env := by rfl) (hpl : (backTo pos (starEach es X.env)).any (·.1) = false := by rfl) : PE X (.Call (.Name x p) (e :: es) [] pos) (tCB r t) := by
  intro pins s σ H Q I h
  refine wpAny_Call_Name_kw (ld_blt I hg hm hv ?_ hn hdb)
  exact PyProof.Rows.callWith_type1 (thn (ha pos pins s σ H _ I h) fun us s1 ⟨vs, H1, I1, r1, q1⟩ => hc pins s1 σ H1 vs us Q I1 r1 q1) he hpl
end
end L2

namespace HT
open PySem PyProof.Rows

/-- t < u of tuples of ints -/
def lexLt : List Int → List Int → Bool
  | [], [] => false
  | [], _ :: _ => true
  | _ :: _, [] => false
  | x :: xs, y :: ys => if x = y then lexLt xs ys else decide (x < y)


section
open PySem.SeqAt
open PySem.AutoSeq1 (wpAny_loadPart')
open PySem.MeetsSeq PySem.MeetsSeq2 PySem.MeetsSeq3

end

section
variable {prog : Program} {w : World} {A : Around} {E : Value → Shared → Prop} {s : Shared}


/-- t + u, t not empty -/
theorem cat_tup {t b : Addr} {vs ws : List Value} {Q : Value → Shared → Prop} (ht : IsTup s.heap t vs.toArray) (hb : IsTup s.heap b ws.toArray) (hv : vs ≠ [])
    (h1 : ws = [] → Q (.ref t) s) (h2 : ws ≠ [] → Q (.ref s.heap.objs.size) { s with heap := s.heap.push { cls := .type "tuple", data := .seq (vs ++ ws).toArray } })
    (hsz : vs.length + ws.length ≤ sizeLine) : wpAny (model prog w) A (binaryOp .Add (.ref t) (.ref b)) Q E s := by
  obtain ⟨⟨cls, dd, data, sl⟩, ho, hc, n, hd⟩ := id ht
  obtain ⟨⟨cls2, dd2, data2, sl2⟩, ho2, hc2, n2, hd2⟩ := id hb
  simp only at hc hd hc2 hd2
  subst hc hd hc2 hd2
  have e : vs.toArray ++ ws.toArray = (vs ++ ws).toArray := by simp
  by_cases hw : ws = []
  · exact concat_meets ⟨_, ho, rfl⟩ ⟨_, ho2, rfl⟩ noFill_tuple_add seq_tuple_add PySem.F.slot_tuple_add PySem.F.entry_tuple_add (PySem.F.args_tuple_add_2 _ _)
      (tuple_addW1 t b vs.toArray ws.toArray n n2 dd dd2 sl sl2 (by simpa using hv) (by simp [hw])) ⟨ho, ho2, h1 hw⟩
  · refine concat_meets ⟨_, ho, rfl⟩ ⟨_, ho2, rfl⟩ noFill_tuple_add seq_tuple_add PySem.F.slot_tuple_add PySem.F.entry_tuple_add (PySem.F.args_tuple_add_2 _ _)
      (tuple_addW2 t b vs.toArray ws.toArray n n2 dd dd2 sl sl2 (by simpa using hv) (by simpa using hw) (by rw [List.size_toArray, List.size_toArray]; exact hsz)) ⟨ho, ho2, ?_⟩
    rw [e]
    exact h2 hw

/-! ### t[a:b], not the whole -/
/-- a slice's bound as a place among n (d where it is left out) -/
def sIx (n d : Nat) : Option Int → Nat
  | none => d
  | some v => if v < 0 then (v + (n : Int)).toNat else min v.toNat n
theorem sIx_none (n d : Nat) : sIx n d none = d := rfl
theorem sIx_nat (n d k : Nat) : sIx n d (some (k : Int)) = min k n := by
  show (if (k : Int) < 0 then ((k : Int) + (n : Int)).toNat else min (k : Int).toNat n) = min k n
  rw [if_neg (by omega), Int.toNat_natCast]
theorem sIx_le (n d : Nat) (hd : d ≤ n) (o : Option Int) : sIx n d o ≤ n := by
  cases o with
  | none => exact hd
  | some v =>
    show (if v < 0 then (v + (n : Int)).toNat else min v.toNat n) ≤ n
    by_cases hv : v < 0
    · rw [if_pos hv]; omega
    · rw [if_neg hv]; exact Nat.min_le_right _ _
theorem clip_eq (v : Int) (n d : Nat) : (if v < 0 then max (v + (n : Int)) 0 else min v (n : Int)) = ((sIx n d (some v) : Nat) : Int) := by
  show (if v < 0 then max (v + (n : Int)) 0 else min v (n : Int)) = (((if v < 0 then (v + (n : Int)).toNat else min v.toNat n) : Nat) : Int)
  by_cases hv : v < 0
  · simp only [if_pos hv]; omega
  · simp only [if_neg hv]; omega
theorem adjust_gen (lo hi : Option Int) (n : Nat) : Builtin.Slice.sliceAdjust lo hi 1 (n : Int) = (((sIx n 0 lo : Nat) : Int), ((sIx n n hi : Nat) : Int)) := by
  have h1 : ¬ ((1 : Int) < 0) := by omega
  unfold Builtin.Slice.sliceAdjust
  simp only [h1, if_false]
  refine Prod.ext ?_ ?_
  · cases lo with
    | none => rfl
    | some v => exact clip_eq v n 0
  · cases hi with
    | none => rfl
    | some v => exact clip_eq v n n
theorem places_gen (i j : Nat) : Builtin.Slice.slicePlaces (i : Int) (j : Int) 1 = j - i := by
  unfold Builtin.Slice.slicePlaces
  have h1 : (1 : Int) > 0 := by omega
  simp only [h1, if_true, Int.ediv_one]
  split <;> omega
theorem slicePart_ {v : Value} {o : Option Int} {Q : Option Int → Shared → Prop} (p : IsPart v o) (h : Q o s) : wpAny (model prog w) A (Builtin.Slice.slicePartIndex v) Q E s := by
  cases p with
  | none => exact slicePart_none h
  | int i t => exact slicePart_int h
theorem sliceApplied_gen {sl : Addr} {vl vu : Value} {lo hi : Option Int} {n : Nat} {Q : Int × Int × Nat → Shared → Prop} (hs : s.heap.IsSliceOf sl vl vu .none) (pl : IsPart vl lo) (pu : IsPart vu hi)
    (h : Q (((sIx n 0 lo : Nat) : Int), 1, sIx n n hi - sIx n 0 lo) s) : wpAny (model prog w) A (Builtin.Slice.sliceApplied (.ref sl) (pure (n : Int))) Q E s := by
  obtain ⟨os, hos, hcs, hds⟩ := id hs
  unfold Builtin.Slice.sliceApplied Builtin.Slice.sliceFields
  refine wpAny_bind (wpAny_bind (wpAny_field hos hds (x := vl) rfl (wpAny_bind (wpAny_field hos hds (x := vu) rfl (wpAny_bind (wpAny_field hos hds (x := .none) rfl (wpAny_pure ?_)))))))
  refine wpAny_bind (slicePart_none ?_)
  show wpAny _ _ (if ((1 : Int) == 0) = true then _ else _) _ _ s
  rw [if_neg (by decide)]
  refine wpAny_bind (slicePart_ pl (wpAny_bind (slicePart_ pu (wpAny_bind (wpAny_pure ?_)))))
  show wpAny _ _ (match Builtin.Slice.sliceAdjust lo hi 1 (n : Int) with | (lo, hi) => pure (lo, (1 : Int), Builtin.Slice.slicePlaces lo hi 1)) _ _ s
  rw [adjust_gen lo hi n]
  show wpAny _ _ (pure (((sIx n 0 lo : Nat) : Int), (1 : Int), Builtin.Slice.slicePlaces ((sIx n 0 lo : Nat) : Int) ((sIx n n hi : Nat) : Int) 1)) _ _ s
  rw [places_gen]
  exact wpAny_pure h
theorem pick_gen (xs : Array Value) (i k : Nat) : ((List.range k).filterMap fun (m : Nat) => xs[((i : Int) + (m : Int) * 1).toNat]?).toArray = ((xs.toList.drop i).take k).toArray := by
  have e : (fun (m : Nat) => xs[((i : Int) + (m : Int) * 1).toNat]?) = fun m => xs[i + m]? := by
    funext m
    have : ((i : Int) + (m : Int) * 1).toNat = i + m := by omega
    rw [this]
  rw [e]
  have := pick_run xs i k
  rw [List.filterMap_map] at this
  have e2 : ((fun x => xs[x]?) ∘ fun x => i + x) = fun m => xs[i + m]? := rfl
  rw [e2] at this
  rw [this]

theorem getItem_tuple_cut {t sl : Addr} {items : Array Value} {vl vu : Value} {lo hi : Option Int} {Q : Value → Shared → Prop} (ht : IsTup s.heap t items) (hs : s.heap.IsSliceOf sl vl vu .none) (pl : IsPart vl lo) (pu : IsPart vu hi)
    (hw : ¬ (sIx items.size 0 lo = 0 ∧ sIx items.size items.size hi = items.size))
    (h : Q (.ref s.heap.objs.size) { s with heap := s.heap.push { cls := .type "tuple", data := .seq ((items.toList.drop (sIx items.size 0 lo)).take (sIx items.size items.size hi - sIx items.size 0 lo)).toArray } })
    (hsz : items.size ≤ sizeLine) : wpAny (model prog w) A (getItem (.ref t) (.ref sl)) Q E s := by
  have htake : sizeOk (.seq ((items.toList.drop (sIx items.size 0 lo)).take (sIx items.size items.size hi - sIx items.size 0 lo)).toArray) := by
    show ((items.toList.drop (sIx items.size 0 lo)).take (sIx items.size items.size hi - sIx items.size 0 lo)).toArray.size ≤ sizeLine
    rw [List.size_toArray, List.length_take, List.length_drop, Array.length_toList]
    omega
  have hj : sIx items.size items.size hi ≤ items.size := sIx_le _ _ (Nat.le_refl _) hi
  obtain ⟨os, hos, hcs, hds⟩ := id hs
  have hTs : s.TypeIs (.ref sl) "slice" := ⟨os, hos, hcs⟩
  unfold getItem
  try with_reducible refine wpAny_holding ?_
  first | refine wpAny_bind (wpAny_pure ?_) | skip
  refine wpAny_bind (wpAny_sequenceKey ht.typeIs (by decide) ?_)
  refine wpAny_bind (wpAny_callSpecial?_slot (name := Str.ofString "__getitem__") ht.typeIs PyProof.Rows.slot_tuple_getitem
    (wpAny_call_entry PyProof.Rows.slot_tuple_getitem ht.typeIs entry_tuple_getitem ?_ (args_tuple_getitem _ _)))
  show wpAny _ _ (Builtin.Tuple.tupleItemsOf (.ref t) >>= _) _ _ s
  refine wpAny_bind (tupleItemsOf_ ht ?_)
  refine wpAny_bind (wpAny_typeOf hTs ?_)
  rw [if_pos (by decide)]
  refine wpAny_bind (sliceApplied_gen hs pl pu ?_)
  have hno : ¬ ((((sIx items.size 0 lo : Nat) : Int) == 0 && (1 : Int) == 1 && (sIx items.size items.size hi - sIx items.size 0 lo) == items.size) = true) := by
    intro q
    rw [Bool.and_eq_true, Bool.and_eq_true] at q
    have q1 : ((sIx items.size 0 lo : Nat) : Int) = 0 := eq_of_beq q.1.1
    have q2 : sIx items.size items.size hi - sIx items.size 0 lo = items.size := eq_of_beq q.2
    exact hw ⟨by omega, by omega⟩
  show wpAny _ _ (if (((sIx items.size 0 lo : Nat) : Int) == 0 && (1 : Int) == 1 && (sIx items.size items.size hi - sIx items.size 0 lo) == items.size) = true then _ else _) _ _ s
  rw [if_neg hno, pick_gen]
  first
    | exact wpAny_bind (m := Builtin.Tuple.tupleExact _) (wpAny_newObj_type (wpAny_pure ⟨_, rfl, wpAny_pure h⟩) htake)
    | exact wpAny_bind (m := Builtin.Tuple.tupleExact _) (wpAny_newObj_type (wpAny_bind (wpAny_pure (wpAny_pure ⟨_, rfl, wpAny_pure h⟩))) htake)
    | exact wpAny_bind (wpAny_bind (m := Builtin.Tuple.tupleExact _) (wpAny_newObj_type (wpAny_pure (wpAny_pure ⟨_, rfl, wpAny_pure h⟩)) htake))
    | exact wpAny_bind (wpAny_bind (m := Builtin.Tuple.tupleExact _) (wpAny_newObj_type (wpAny_pure ⟨_, rfl, wpAny_pure h⟩) htake))
end
end HT

namespace L2
open PySem PySem.Spec PyProof.Rows

/-! ### the parts of a slice -/
abbrev TO := St → Hp → (Option Int → Hp → Prop) → Prop
/-- a slice's part (left out, or an int) -/
def PO (X : Cx) (e : Option Expr) (t : TO) : Prop :=
  ∀ (pins : List (Addr × Obj)) (s : Shared) (σ : St) (H : Hp) (Q : Option Int → Hp → Prop), Inv X pins σ H s → t σ H Q →
    wpAny (model X.prog X.w) X.A (evalPart e X.env) (fun u s' => ∃ o H', Inv X pins σ H' s' ∧ IsPart u o ∧ Q o H') X.xe s
def tNoPart : TO := fun _ H Q => Q none H
def tPart (t : TE) : TO := fun σ H Q => t σ H fun x H1 => ∃ i, x = .int i ∧ Q (some i) H1


section
variable {X : Cx} {e : Expr} {te : TE} {lo hi : Option Expr} {tl th : TO} {pos p2 : Pos}

theorem po_none : PO X none tNoPart := by
  intro pins s σ H Q I h
  rw [evalPart_none]
  exact wpAny_pure ⟨none, H, I, .none, h⟩
theorem po_some (h : PE X e te) : PO X (some e) (tPart te) := by
  intro pins s σ H Q I hw
  rw [evalPart_some]
  refine thn (h pins s σ H _ I hw) fun u s1 ⟨x, H1, I1, r1, q1⟩ => ?_
  obtain ⟨i, rfl, q⟩ := q1
  obtain ⟨t, rfl⟩ := r1
  exact ⟨some i, H1, I1, .int i t, q⟩

/-- what a slice of a value is, by values: the slice object stands at sl -/
def SlR (X : Cx) (r : V → Option Int → Option Int → Hp → VK → Prop) : Prop :=
  ∀ (pins : List (Addr × Obj)) (s : Shared) (σ : St) (H : Hp) (x : V) (v vl vu : Value) (lo hi : Option Int) (sl : Addr) (Q : VK), Inv X pins σ H s → RelV x v → s.heap.IsSliceOf sl vl vu .none → IsPart vl lo → IsPart vu hi → r x lo hi H Q →
    ∃ T id, typeLookup (.type T) "__getitem__" = pure (some (.builtin id)) ∧ s.TypeIs v T ∧ wpAny (model X.prog X.w) X.A (getItem v (.ref sl)) (EP X pins σ Q) X.xe s
theorem SlR.or {r r' : V → Option Int → Option Int → Hp → VK → Prop} (h : SlR X r) (h' : SlR X r') : SlR X (fun x lo hi H Q => r x lo hi H Q ∨ r' x lo hi H Q) := by
  intro pins s σ H x v vl vu lo hi sl Q I rx hs pl pu q
  rcases q with q | q
  · exact h pins s σ H x v vl vu lo hi sl Q I rx hs pl pu q
  · exact h' pins s σ H x v vl vu lo hi sl Q I rx hs pl pu q
def tSl (r : V → Option Int → Option Int → Hp → VK → Prop) (te : TE) (tl th : TO) : TE := fun σ H Q => te σ H fun x H1 => tl σ H1 fun l H2 => th σ H2 fun u H3 => r x l u H3 Q
/-- a[lo:hi], any a -/
theorem pe_slice {r : V → Option Int → Option Int → Hp → VK → Prop} (hr : SlR X r) (he : PE X e te) (hl : PO X lo tl) (hu : PO X hi th) : PE X (.Subscript e (.Slice lo hi none p2) pos) (tSl r te tl th) := by
  intro pins s σ H Q I h
  refine Subscript_ (thn (he pins s σ H _ I h) fun v s1 ⟨x, H1, I1, r1, q1⟩ => ?_)
  refine wpAny_Slice (thn (hl pins s1 σ H1 _ I1 q1) fun vl s2 ⟨l, H2, I2, pl, q2⟩ => thn (hu pins s2 σ H2 _ I2 q2) fun vu s3 ⟨u, H3, I3, pu, q3⟩ => ?_)
  rw [evalPart_none]
  refine wpAny_pure ?_
  have I4 : Inv X pins σ H3 { s3 with heap := s3.heap.push { cls := .type "slice", data := .fields #[vl, vu, .none] } } := I3.kept (t' := s3.toks) fun b ob q => Heap.get?_push_of_some _ q
  obtain ⟨T, id, hT, ht, hg⟩ := hr pins { s3 with heap := s3.heap.push { cls := .type "slice", data := .fields #[vl, vu, .none] } } σ H3 x v vl vu l u s3.heap.objs.size Q I4 r1 (Heap.IsSliceOf.new ..) pl pu q3
  show wpAny (model X.prog X.w) X.A (subscriptTail e (.Slice lo hi none p2) v (.ref s3.heap.objs.size)) (EP X pins σ Q) X.xe { s3 with heap := s3.heap.push { cls := .type "slice", data := .fields #[vl, vu, .none] } }
  exact tail_any (ops := [.ref s3.heap.objs.size, v]) ht hT hg (by with_unfolding_all rfl)

/-- the items of xs[lo:hi] -/
def cutV (xs : List V) (lo hi : Option Int) : List V := (xs.drop (HT.sIx xs.length 0 lo)).take (HT.sIx xs.length xs.length hi - HT.sIx xs.length 0 lo)
theorem cutV_length (xs : List V) (lo hi : Option Int) : (cutV xs lo hi).length ≤ xs.length := by
  unfold cutV
  rw [List.length_take, List.length_drop]
  omega
/-- t[lo:hi], not the whole of it (the whole would be t itself) -/
def rSlT (K : PySem.W.Frag) : V → Option Int → Option Int → Hp → VK → Prop := fun x lo hi H Q => ∃ a xs, x = .ref a ∧ SqT K H a xs ∧
  ¬ (HT.sIx xs.length 0 lo = 0 ∧ HT.sIx xs.length xs.length hi = xs.length) ∧ ∀ p, H p = none → Q (.ref p) (upd H p (.tup (cutV xs lo hi)))
theorem sl_tup : SlR X (rSlT X.K) := by
  intro pins s σ H x v vl vu lo hi sl Q I rx hs pl pu h
  obtain ⟨a, xs, rfl, hx, hw, q⟩ := h
  cases rx
  obtain ⟨its, r, ht, hz⟩ := I.tuple hx
  have hlen : its.toArray.size = xs.length := by rw [List.size_toArray]; exact r.length.symm
  refine ⟨"tuple", _, PyProof.Rows.slot_tuple_getitem.lookup, ht.typeIs, ?_⟩
  refine HT.getItem_tuple_cut ht hs pl pu (by rw [hlen]; exact hw) ?_ (by rw [hlen]; exact hz)
  rw [hlen]
  refine ⟨.ref s.heap.objs.size, _, I.laid (t' := s.toks) (o := .tup (cutV xs lo hi)) (fun b ob q => Heap.get?_push_of_some _ q) (Nat.le_refl _) ?_, rfl, q _ (I.hok.fresh (Nat.le_refl _))⟩
  exact ⟨Nat.le_trans (cutV_length xs lo hi) hz, _, (r.drop (HT.sIx xs.length 0 lo)).take (HT.sIx xs.length xs.length hi - HT.sIx xs.length 0 lo), IsTup.new _ _⟩

/-! ### t < u, t + u -/
def rLtT (K : PySem.W.Frag) : R2 := fun x y H Q => ∃ a b ns ms, x = .ref a ∧ y = .ref b ∧ SqT K H a (ns.map V.int) ∧ SqT K H b (ms.map V.int) ∧ Q (.bl (HT.lexLt ns ms)) H
/-- t + u, t not empty: u empty gives t itself -/
def rCatT (K : PySem.W.Frag) : R2 := fun x y H Q => ∃ a b xs ys, x = .ref a ∧ y = .ref b ∧ SqT K H a xs ∧ SqT K H b ys ∧ xs ≠ [] ∧ xs.length + ys.length ≤ sizeLine ∧
  (ys = [] → Q (.ref a) H) ∧ (ys ≠ [] → ∀ p, H p = none → Q (.ref p) (upd H p (.tup (xs ++ ys))))
theorem Vals.nil_iff {xs : List V} {us : List Value} (r : Vals xs us) : us = [] ↔ xs = [] := by
  cases r with
  | nil => simp
  | cons _ _ => simp
theorem op_catT : OpR X (binaryOp .Add) (rCatT X.K) := by
  intro pins s σ H x y v u Q I rx ry h
  obtain ⟨a, b, xs, ys, rfl, rfl, ha, hb, hx, hz, q1, q2⟩ := h
  cases rx
  cases ry
  obtain ⟨its, r1, p1, _⟩ := I.tuple ha
  obtain ⟨its2, r2, p2, _⟩ := I.tuple hb
  refine HT.cat_tup p1 p2 (fun z => hx (r1.nil_iff.mp z)) (fun z => ⟨.ref a, H, I, rfl, q1 (r2.nil_iff.mp z)⟩) (fun z => ?_) (by rw [← r1.length, ← r2.length]; exact hz)
  refine ⟨.ref s.heap.objs.size, _, I.laid (t' := s.toks) (o := .tup (xs ++ ys)) (fun b ob q => Heap.get?_push_of_some _ q) (Nat.le_refl _) ?_, rfl, q2 (fun w => z (r2.nil_iff.mpr w)) _ (I.hok.fresh (Nat.le_refl _))⟩
  exact ⟨by rw [List.length_append]; exact hz, _, r1.append r2, IsTup.new _ _⟩
end
end L2

namespace L2
open PySem PySem.Spec PyProof.Rows

/-! ### places -/
/-- the place that an index of any sign means -/
def ixN (n : Nat) (i : Int) : Option Nat := if 0 ≤ i then (if i < n then some i.toNat else none) else if -(n : Int) ≤ i then some (i + n).toNat else none
def atI {α : Type} (xs : List α) (i : Int) : Option α := (ixN xs.length i).bind fun j => xs[j]?
theorem ixN_seq {n : Nat} {i : Int} {j : Nat} (h : ixN n i = some j) : seqIndex? i n = some j ∧ j < n ∧ -(n : Int) ≤ i ∧ i < n := by
  unfold ixN at h
  by_cases h0 : 0 ≤ i
  · rw [if_pos h0] at h
    by_cases h1 : i < n
    · rw [if_pos h1] at h
      have e : i.toNat = j := Option.some.inj h
      exact ⟨by rw [seqIndex_of h0 h1, e], by omega, by omega, h1⟩
    · rw [if_neg h1] at h; cases h
  · rw [if_neg h0] at h
    by_cases h1 : -(n : Int) ≤ i
    · rw [if_pos h1] at h
      have e : (i + n).toNat = j := Option.some.inj h
      exact ⟨by rw [seqIndex_neg (by omega) h1, e], by omega, h1, by omega⟩
    · rw [if_neg h1] at h; cases h
theorem atI_get {α : Type} {xs : List α} {i : Int} {v : α} (h : atI xs i = some v) : ∃ j, seqIndex? i xs.length = some j ∧ xs[j]? = some v ∧ j < xs.length ∧ -(xs.length : Int) ≤ i ∧ i < xs.length := by
  unfold atI at h
  cases e : ixN xs.length i with
  | none => rw [e] at h; cases h
  | some j =>
    rw [e] at h
    obtain ⟨h1, h2, h3, h4⟩ := ixN_seq e
    exact ⟨j, h1, h, h2, h3, h4⟩
theorem atI_nat {α : Type} {xs : List α} {j : Nat} {v : α} (h : xs[j]? = some v) : atI xs (j : Int) = some v := by
  have hj : j < xs.length := (List.getElem?_eq_some_iff.mp h).1
  have e : ixN xs.length (j : Int) = some j := by
    unfold ixN
    rw [if_pos (by omega), if_pos (by omega)]; simp
  unfold atI; rw [e]; exact h
theorem atI_last {α : Type} (xs : List α) (v : α) : atI (xs ++ [v]) (-1) = some v := by
  have hl : (xs ++ [v]).length = xs.length + 1 := by simp
  have e : ixN (xs ++ [v]).length (-1) = some xs.length := by
    unfold ixN
    rw [hl, if_neg (by decide), if_pos (by omega)]
    congr 1
    omega
  unfold atI
  rw [e]
  show (xs ++ [v])[xs.length]? = some v
  simp

/-! ### what may be subscripted -/
/-- what stands as an index of a plain subscript -/
def PlainIx (b : Expr) : Prop := ∀ o i, subscripted b false o i = operate [o, i] (getItem o i)
/-- a subscript by values -/
def IxR (X : Cx) (r : R2) : Prop :=
  ∀ (value slice : Expr) (pins : List (Addr × Obj)) (s : Shared) (σ : St) (H : Hp) (x y : V) (v u : Value) (Q : VK), Inv X pins σ H s → RelV x v → RelV y u → r x y H Q →
    subscripted slice false v u = operate [v, u] (getItem v u) → wpAny (model X.prog X.w) X.A (subscriptTail value slice v u) (EP X pins σ Q) X.xe s
/-- a call of a builtin's method by values: the receiver, the arguments -/
def MtR (X : Cx) (id : String) (r : V → List V → Hp → VK → Prop) : Prop :=
  ∀ (pins : List (Addr × Obj)) (s : Shared) (σ : St) (H : Hp) (x : V) (xs : List V) (v : Value) (us : List Value) (Q : VK), Inv X pins σ H s → RelV x v → Vals xs us → r x xs H Q →
    wpAny (model X.prog X.w) X.A (call (.builtin id) (v :: us)) (EP X pins σ Q) X.xe s
section
variable {X : Cx} {a b : Expr} {ta tb : TE} {pos : Pos}
/-- a[b] -/
theorem pe_ix {r : R2} (hr : IxR X r) (ha : PE X a ta) (hb : PE X b tb) (hs : PlainIx b) : PE X (.Subscript a b pos) (tOp r ta tb) := by
  intro pins s σ H Q I h
  exact Subscript_ (binT ha hb I h fun v u s2 x y H2 I2 rx ry q => hr a b pins s2 σ H2 x y v u Q I2 rx ry q (hs _ _))

def rIxL (K : PySem.W.Frag) : R2 := fun x y H Q => ∃ p xs i v, x = .ref p ∧ y = .int i ∧ SqL K H p xs ∧ atI xs i = some v ∧ Q v H
def rIxT (K : PySem.W.Frag) : R2 := fun x y H Q => ∃ p xs i v, x = .ref p ∧ y = .int i ∧ SqT K H p xs ∧ atI xs i = some v ∧ Q v H
def rIxS : R2 := fun x y H Q => ∃ z i c, x = .str z ∧ y = .int i ∧ z.length ≤ sizeLine ∧ atI z.cps.toList i = some c ∧ Q (.str ⟨#[c]⟩) H
theorem ix_list : IxR X (rIxL X.K) := by
  intro value slice pins s σ H x y v u Q I rx ry h hs
  obtain ⟨p, xs, i, z, rfl, rfl, hq, he, q⟩ := h
  cases rx
  obtain ⟨t, rfl⟩ := ry
  obtain ⟨its, r, pl, hz⟩ := I.list hq
  obtain ⟨j, h1, h2, h3, h4, h5⟩ := atI_get he
  obtain ⟨w, ew, rw'⟩ := r.get h2
  have hl := r.length
  have hn := line63
  have fin : EP X pins σ Q w s := ⟨z, H, I, rw', q⟩
  by_cases h0 : 0 ≤ i
  · have hj : i.toNat = j := by
      rw [seqIndex_of h0 h5] at h1
      exact Option.some.inj h1
    exact item_listR pl.isList h0 (by omega) (by rw [hj]; simpa using ew) fin hs
  · have hj : (i + (its.toArray.size : Int)).toNat = j := by
      rw [seqIndex_neg (by omega) h4] at h1
      rw [List.size_toArray, ← hl]
      exact Option.some.inj h1
    exact subscriptTail_builtinR (x := w) pl.isList.typeIs slot_list_getitem.lookup
      (wpAny_getItem_list_neg (Q := fun r s' => r = w ∧ EP X pins σ Q r s') pl.isList (by omega) (by rw [List.size_toArray] <;> omega) (by omega) (by rw [hj]; simpa using ew) ⟨rfl, fin⟩) hs
theorem ix_tup : IxR X (rIxT X.K) := by
  intro value slice pins s σ H x y v u Q I rx ry h hs
  obtain ⟨p, xs, i, z, rfl, rfl, hq, he, q⟩ := h
  cases rx
  obtain ⟨t, rfl⟩ := ry
  obtain ⟨its, r, pl, hz⟩ := I.tuple hq
  obtain ⟨j, h1, h2, h3, h4, h5⟩ := atI_get he
  obtain ⟨w, ew, rw'⟩ := r.get h2
  have hl := r.length
  have hn := line63
  have fin : EP X pins σ Q w s := ⟨z, H, I, rw', q⟩
  exact subscriptTail_builtinR (x := w) pl.typeIs slot_tuple_getitem.lookup
    (getItem_tuple (j := j) (Q := fun r s' => r = w ∧ EP X pins σ Q r s') pl (by omega) (by omega) (by rw [List.size_toArray, ← hl]; exact h1) (by simpa using ew) ⟨rfl, fin⟩) hs
/-- list, tuple or str -/
def rIx (K : PySem.W.Frag) : R2 := fun x y H Q => rIxL K x y H Q ∨ rIxT K x y H Q ∨ rIxS x y H Q

/-! ### xs[i] = v, any sign -/
/-- the list's object behind a store -/
theorem mapSeq_set (its : List Value) (n j : Nat) (u : Value) : Obj.mapSeq (·.setIfInBounds j u) { cls := .type "list", data := .seq its.toArray n } = { cls := .type "list", data := .seq (its.set j u).toArray n } := by
  simp [Obj.mapSeq]
theorem Inv.lst {pins : List (Addr × Obj)} {σ : St} {H : Hp} {s : Shared} {p : Addr} {xs : List V} (I : Inv X pins σ H s) (h : H p = some (.lst xs)) :
    ∃ (its : List Value) (n : Nat), Vals xs its ∧ s.heap.get? p = some { cls := .type "list", data := .seq its.toArray n } ∧ xs.length ≤ sizeLine := by
  obtain ⟨z, its, n, r, e⟩ := I.hok p _ h
  exact ⟨its, n, r, e, z⟩
/-- the list at p is written by an update of its object -/
theorem Inv.lstUpd {pins : List (Addr × Obj)} {σ : St} {H : Hp} {s : Shared} {p : Addr} {xs ys : List V} {its its' : List Value} {n n' : Nat} {f : Obj → Obj} (I : Inv X pins σ H s) (h : H p = some (.lst xs))
    (ho : s.heap.get? p = some { cls := .type "list", data := .seq its.toArray n }) (hf : f { cls := .type "list", data := .seq its.toArray n } = { cls := .type "list", data := .seq its'.toArray n' }) (r : Vals ys its') (hz : ys.length ≤ sizeLine) (t : Nat) :
    Inv X pins σ (upd H p (.lst ys)) { s with heap := s.heap.update p f, toks := t } := by
  have e : (s.heap.update p f).get? p = some { cls := .type "list", data := .seq its'.toArray n' } := by
    rw [Heap.get?_update_self f ho (by rw [hf] <;> rfl), hf]
  refine I.write (x := p) (e := p) (by rw [h]; trivial) (.inl rfl) (fun b u hb q => (Heap.get?_update_other _ _ (Ne.symm hb)).trans q) ⟨_, e⟩ ?_
  exact ⟨hz, its', n', r, e⟩
def rSetL : V → V → V → Hp → (Hp → Prop) → Prop := fun o i v H Q => ∃ p xs k j, o = .ref p ∧ i = .int k ∧ H p = some (.lst xs) ∧ ixN xs.length k = some j ∧ Q (upd H p (.lst (xs.set j v)))
theorem set_list : PSet X rSetL := by
  intro pins s σ H o i v ov iv u Q I ro ri rv h
  obtain ⟨p, xs, k, j, rfl, rfl, hp, hj, q⟩ := h
  cases ro
  obtain ⟨t, rfl⟩ := ri
  obtain ⟨its, n, r, ho, hz⟩ := I.lst hp
  obtain ⟨h1, h2, h3, h4⟩ := ixN_seq hj
  have hl := r.length
  have hn := line63
  have I' : Inv X pins σ (upd H p (.lst (xs.set j v))) { s with heap := s.heap.update p (Obj.mapSeq (·.setIfInBounds j u)) } :=
    I.lstUpd hp ho (mapSeq_set its n j u) (r.set rv j) (by rw [List.length_set]; exact hz) s.toks
  by_cases h0 : 0 ≤ k
  · have hk : k.toNat = j := by
      rw [seqIndex_of h0 h4] at h1
      exact Option.some.inj h1
    exact PySem.W.ki_setAt ho h0 (by omega) (by rw [List.size_toArray, ← hl]; exact h4) (by rw [hk]; exact ⟨_, I', q⟩)
  · have hk : (k + (its.toArray.size : Int)).toNat = j := by
      rw [seqIndex_neg (by omega) h3] at h1
      rw [List.size_toArray, ← hl]
      exact Option.some.inj h1
    exact PySem.W.ki_setBack ho (by omega) (by rw [List.size_toArray, ← hl]; exact h3) (by omega) (by rw [hk]; exact ⟨_, I', q⟩)

/-! ### slices -/
/-- xs[lo:hi] of a list: a new list -/
def rSlL (K : PySem.W.Frag) : V → Option Int → Option Int → Hp → VK → Prop := fun x lo hi H Q => ∃ a xs, x = .ref a ∧ SqL K H a xs ∧ ∀ p, H p = none → Q (.ref p) (upd H p (.lst (cutV xs lo hi)))

/-! ### in, not in: flat items -/
def flatV : V → Bool
  | .non => true
  | .bl _ => true
  | .int _ => true
  | .str _ => true
  | _ => false
/-- == of flat values -/
def eqV : V → V → Bool
  | .non, .non => true
  | .bl a, .bl b => a == b
  | .bl a, .int b => (if a then 1 else 0) == b
  | .int a, .bl b => a == (if b then 1 else 0)
  | .int a, .int b => a == b
  | .str a, .str b => a == b
  | _, _ => false
/-- the items' answers, read off the values (a value's own answer does not lean on its token) -/
def eqU (x : V) (u : Value) : Bool := match u with
  | .none => eqV .non x
  | .bool b => eqV (.bl b) x
  | .int i _ => eqV (.int i) x
  | .str z _ => eqV (.str z) x
  | _ => false
def inV (x : V) (xs : List V) : Bool := xs.any fun y => eqV y x
/-- x in a list or tuple of flat items -/
def rIn (K : PySem.W.Frag) (neg : Bool) : R2 := fun x y H Q => ∃ p xs, y = .ref p ∧ (SqL K H p xs ∨ SqT K H p xs) ∧ flatV x = true ∧ xs.all flatV = true ∧ Q (.bl (if neg then !inV x xs else inV x xs)) H

/-! ### len, list(x), tuple(x) of any list or tuple that is read -/
theorem call_len_seq : CallR X (.builtin "len") (fun xs H Q => ∃ p ys, xs = [.ref p] ∧ (SqL X.K H p ys ∨ SqT X.K H p ys) ∧ Q (.int ys.length) H) := by
  intro pins s σ H xs us Q I r h
  obtain ⟨p, ys, rfl, hq, q⟩ := h
  obtain ⟨u, rfl, rx⟩ := vals1 r
  cases rx
  have hn := line63
  rcases hq with hq | hq
  · obtain ⟨its, r', pl, hz⟩ := I.list hq
    have hlen := r'.length
    exact Calls.call_len_list pl.isList (by simp only [List.size_toArray] <;> omega) ⟨.int ys.length, H, I.tok _, ⟨s.toks + 1, by rw [List.size_toArray, hlen]⟩, q⟩
  · obtain ⟨its, r', pl, hz⟩ := I.tuple hq
    have hlen := r'.length
    exact len_tuple pl (by simp only [List.size_toArray] <;> omega) ⟨.int ys.length, H, I.tok _, ⟨s.toks + 1, by rw [List.size_toArray, hlen]⟩, q⟩
theorem call_list_of : CallR X (.type "list") (fun xs H Q => ∃ p ys, xs = [.ref p] ∧ (SqL X.K H p ys ∨ SqT X.K H p ys) ∧ ∀ l, H l = none → Q (.ref l) (upd H l (.lst ys))) := by
  intro pins s σ H xs us Q I r h
  obtain ⟨p, ys, rfl, hq, q⟩ := h
  obtain ⟨u, rfl, rx⟩ := vals1 r
  cases rx
  have fin : ∀ (its : List Value), Vals ys its → ys.length ≤ sizeLine → ∀ (h' : Heap) (c' : Nat), (∀ b o', s.heap.get? b = some o' → h'.get? b = some o') →
      h'.get? s.heap.objs.size = some { cls := .type "list", dict := none, data := .seq its.toArray c', slots := #[] } → EP X pins σ Q (.ref s.heap.objs.size) { s with heap := h' } := fun its r' hz h' c' kp e =>
    ⟨.ref s.heap.objs.size, _, I.laid (t' := s.toks) kp (Nat.le_refl _) (show ObjOk X.prog X.w _ h' _ (.lst ys) from ⟨hz, its, c', r', e⟩), rfl, q _ (I.hok.fresh (Nat.le_refl _))⟩
  rcases hq with hq | hq
  · obtain ⟨its, r', pl, hz⟩ := I.list hq
    have hlen := r'.length
    obtain ⟨o, ho, hc, n, hd⟩ := pl.isList
    exact call_list_seq p (.inl rfl) ho hc hd (fun h' c' kp e => fin its r' hz h' c' kp e) (by simp only [List.size_toArray] <;> omega)
  · obtain ⟨its, r', pl, hz⟩ := I.tuple hq
    have hlen := r'.length
    obtain ⟨o, ho, hc, n, hd⟩ := pl
    exact call_list_seq p (.inr rfl) ho hc hd (fun h' c' kp e => fin its r' hz h' c' kp e) (by simp only [List.size_toArray] <;> omega)
theorem call_tuple_of : CallR X (.type "tuple") (fun xs H Q => ∃ p ys, xs = [.ref p] ∧ ((SqL X.K H p ys ∧ ∀ l, H l = none → Q (.ref l) (upd H l (.tup ys))) ∨ (SqT X.K H p ys ∧ Q (.ref p) H))) := by
  intro pins s σ H xs us Q I r h
  obtain ⟨p, ys, rfl, h⟩ := h
  obtain ⟨u, rfl, rx⟩ := vals1 r
  cases rx
  rcases h with ⟨hq, q⟩ | ⟨hq, q⟩
  · obtain ⟨its, r', pl, hz⟩ := I.list hq
    have hlen := r'.length
    refine call_tuple_list pl.isList (fun h' kp => ?_) (by simp only [List.size_toArray] <;> omega)
    have I1 : Inv X pins σ H { s with heap := h' } := I.kept (t' := s.toks) kp
    have I2 : Inv X pins σ (upd H h'.objs.size (.tup ys)) { s with heap := h'.push { cls := .type "tuple", data := .seq its.toArray } } :=
      I1.laid (t' := s.toks) (fun b o e => Heap.get?_push_of_some _ e) (Nat.le_refl _) (show ObjOk X.prog X.w _ _ _ (.tup ys) from ⟨hz, its, r', IsTup.new _ _⟩)
    exact ⟨.ref h'.objs.size, _, I2, rfl, q _ (I1.hok.fresh (Nat.le_refl _))⟩
  · obtain ⟨its, r', pl, hz⟩ := I.tuple hq
    exact call_tuple_same pl ⟨.ref p, H, I, rfl, q⟩

/-! ### the call of a builtin's method: o.m(..) -/
/-- the value is of that builtin type -/
def tyV (K : PySem.W.Frag) (T : String) (x : V) (H : Hp) : Prop := match x with
  | .str _ => T = "str"
  | .int _ => T = "int"
  | .ref p => (T = "list" ∧ ∃ xs, SqL K H p xs) ∨ (T = "tuple" ∧ ∃ o, K.lookup p = some o ∧ o.cls = .type "tuple" ∧ o.dict = none) ∨
      (T = "dict" ∧ ((∃ kvs, H p = some (.dK kvs)) ∨ ∃ kvs, H p = some (.dT kvs))) ∨ (T = "set" ∧ ∃ S n, H p = some (.set S n))
  | _ => False
theorem tyV_is {pins : List (Addr × Obj)} {σ : St} {H : Hp} {s : Shared} {T : String} {x : V} {v : Value} (I : Inv X pins σ H s) (r : RelV x v) (ty : tyV X.K T x H) :
    s.TypeIs v T ∧ ∀ a, v = .ref a → ∃ ob, s.heap.get? a = some ob ∧ ob.dict = none := by
  cases x with
  | str z =>
    obtain ⟨t, rfl⟩ := r
    cases (show T = "str" from ty)
    exact ⟨typeIs_str s z t, fun _ e => nomatch e⟩
  | int i =>
    obtain ⟨t, rfl⟩ := r
    cases (show T = "int" from ty)
    exact ⟨typeIs_int s i t, fun _ e => nomatch e⟩
  | ref p =>
    cases r
    rcases ty with ⟨rfl, xs, hq⟩ | ⟨rfl, o, hk, hc, hd⟩ | ⟨rfl, hk⟩ | ⟨rfl, S, n, hk⟩
    · obtain ⟨its, _, pl, _⟩ := I.list hq
      refine ⟨pl.isList.typeIs, fun a e => ?_⟩
      cases e
      obtain ⟨o, n, e, c, hd, _⟩ := pl
      exact ⟨o, e, hd⟩
    · refine ⟨⟨o, I.kIn p o hk, hc⟩, fun a e => ?_⟩
      cases e
      exact ⟨o, I.kIn _ o hk, hd⟩
    · have z : ∃ o, s.heap.get? p = some o ∧ o.ExactDict := by
        rcases hk with ⟨kvs, hk⟩ | ⟨kvs, hk⟩
        · obtain ⟨_, _, _, _, o, _, _, e, ex, _⟩ := I.hok p _ hk
          exact ⟨o, e, ex⟩
        · obtain ⟨_, _, _, _, o, _, _, e, ex, _⟩ := I.hok p _ hk
          exact ⟨o, e, ex⟩
      obtain ⟨o, e, ex⟩ := z
      refine ⟨⟨o, e, ex.1⟩, fun a e2 => ?_⟩
      cases e2
      exact ⟨o, e, ex.2.1⟩
    · obtain ⟨o, _, _, _, e, ex, _⟩ := I.hok p _ hk
      refine ⟨⟨o, e, ex.1⟩, fun a e2 => ?_⟩
      cases e2
      exact ⟨o, e, ex.2.1⟩
  | _ => exact False.elim ty
def tBM0 (K : PySem.W.Frag) (T : String) (r : V → List V → Hp → VK → Prop) (to : TE) : TE := fun σ H Q => to σ H fun x H1 => tyV K T x H1 ∧ r x [] H1 Q
def tBM (K : PySem.W.Frag) (T : String) (r : V → List V → Hp → VK → Prop) (to : TE) (t : TA) : TE := fun σ H Q => to σ H fun x H1 => tyV K T x H1 ∧ t σ H1 fun xs H2 => r x xs H2 Q
variable {o e : Expr} {es : List Expr} {to : TE} {t : TA} {name : Str} {apos cpos : Pos} {T id : String} {r : V → List V → Hp → VK → Prop}
theorem pe_bm (pa : PlainAttrs T) (slot : Slot T name id) (hty : typeOf (.builtin id) = pure (.type "method_descriptor")) (hm : MtR X id r) (ho : PE X o to) (ha : PA X (e :: es) t)
    (hbase : attributeBase o name X.env (eval o X.env) = eval o X.env := by rfl)
    (hfew : ((backTo cpos (starEach (e :: es) X.env)).all (fun x => !x.1) && (backToKw cpos (keywordEach [] X.env)).all (fun x => x.1.isSome)
      && decide ((e :: es).length + ([] : List Keyword).length + (if ([] : List Keyword).isEmpty then 0 else 1) < 30)) = true := by rfl)
    (hline : (apos.endLine == cpos.line) = true := by rfl) (hs : starEach (e :: es) X.env = (false, eval e X.env) :: starEach es X.env := by rfl) (hplain : (backTo cpos (starEach es X.env)).any (·.1) = false := by rfl) :
    PE X (.Call (.Attribute o name apos) (e :: es) [] cpos) (tBM X.K T r to t) := by
  intro pins s σ H Q I h
  refine wpAny_Call_method_late hbase hfew hline rfl (thn (ho pins s σ H _ I h) fun v s1 ⟨x, H1, I1, r1, ty, q1⟩ => ?_)
  obtain ⟨h1, h2⟩ := tyV_is I1 r1 ty
  refine ⟨T, id, pa, slot, hty, h1, h2, ?_⟩
  have hA := ha cpos pins s1 σ H1 _ I1 q1
  rw [hs] at hA ⊢
  refine Calls.callWith_builtin (by show (false || (backTo cpos (starEach es X.env)).any (·.1)) = false; rw [hplain] <;> rfl) (Calls.evalArgs_plain ?_)
  exact thn hA fun us s2 ⟨vs, H2, I2, r2, q2⟩ => hm pins s2 σ H2 x vs v us Q I2 r1 r2 q2
/- xs.append(e), list.index on a module's tuple .. are MtR facts of 06m -/
end
end L2

namespace L2
open PySem PySem.Spec PyProof.Rows

def MtM (X : Cx) (id : String) (r : V → List V → Hp → VK → Prop) : Prop :=
  ∀ (pins : List (Addr × Obj)) (s : Shared) (σ : St) (H : Hp) (x : V) (xs : List V) (v : Value) (us : List Value) (Q : VK), Inv X pins σ H s → RelV x v → Vals xs us → r x xs H Q →
    wpAny (model X.prog X.w) X.A (call (.builtin id) (v :: us)) (EP X pins σ Q) X.xe s

/-! ### lists of values -/
theorem Vals.one : ∀ {x : V} {us : List Value}, Vals [x] us → ∃ u, us = [u] ∧ RelV x u
  | _, _, .cons r .nil => ⟨_, rfl, r⟩

section
variable {X : Cx} {pins : List (Addr × Obj)} {σ : St} {H : Hp} {s : Shared} {l b : Addr} {xs ys zs : List V}

/-! ### the two steps: a tracked list is rewritten, a new list is laid -/
theorem Inv.lset {its its' : List Value} {n : Nat} {f : Array Value → Array Value} {t' : Nat} (I : Inv X pins σ H s) (hH : H l = some (.lst xs))
    (e : s.heap.get? l = some { cls := .type "list", data := .seq its.toArray n }) (hf : f its.toArray = its'.toArray) (hv : Vals ys its') (hz : ys.length ≤ sizeLine) :
    Inv X pins σ (upd H l (.lst ys)) { s with heap := s.heap.update l (Obj.mapSeq f), toks := t' } := by
  have q := PySem.IsL.update e f
  rw [hf] at q
  refine I.write (x := l) (e := l) (by rw [hH]; exact trivial) (.inl rfl) (fun b' u hb hu => (Heap.get?_update_other s.heap (Obj.mapSeq f) (Ne.symm hb)).trans hu) ⟨_, q⟩ ?_
  exact ⟨hz, its', _, hv, q⟩
theorem Inv.lnew {its : List Value} {t' : Nat} (I : Inv X pins σ H s) (hv : Vals ys its) (hz : ys.length ≤ sizeLine) :
    Inv X pins σ (upd H s.heap.objs.size (.lst ys)) { s with heap := s.heap.push { cls := .type "list", data := .seq its.toArray }, toks := t' } :=
  I.laid (fun _ _ q => Heap.get?_push_of_some _ q) (Nat.le_refl _) ⟨hz, its, 0, hv, Heap.get?_push_size _ rfl⟩
theorem Inv.fresh (I : Inv X pins σ H s) : H s.heap.objs.size = none := I.hok.fresh (Nat.le_refl _)
theorem Inv.lstM (I : Inv X pins σ H s) (hH : H l = some (.lst xs)) : xs.length ≤ sizeLine ∧ ∃ (its : List Value) (n : Nat), Vals xs its ∧ xs.length = its.length ∧ s.heap.get? l = some { cls := .type "list", data := .seq its.toArray n } := by
  obtain ⟨z, its, n, r, e⟩ := I.hok l _ hH
  exact ⟨z, its, n, r, r.length, e⟩

end

section
variable {X : Cx}

/-! ### methods -/
def rAppend : V → List V → Hp → VK → Prop := fun x vs H Q => ∃ l xs y, x = .ref l ∧ vs = [y] ∧ H l = some (.lst xs) ∧ xs.length < sizeLine ∧ Q .non (upd H l (.lst (xs ++ [y])))
theorem mt_append : MtM X "list.append" rAppend := by
  intro pins s σ H x vs v us Q I rx rv h
  obtain ⟨l, xs, y, rfl, rfl, hH, hz, q⟩ := h
  cases rx
  obtain ⟨u, rfl, ru⟩ := rv.one
  obtain ⟨z, its, n, r, hl, e⟩ := I.lstM hH
  refine call_meets F.slot_list_append ⟨_, e, rfl⟩ F.entry_list_append (F.args_list_append_2 _ _) (PySem.list_append l its.toArray n u (by rw [List.size_toArray]; omega)) ⟨e, ?_⟩
  refine ⟨.non, _, I.lset (its' := its ++ [u]) hH e (by simp) (r.append (.cons ru .nil)) ?_, rfl, q⟩
  rw [List.length_append, List.length_singleton]
  omega

def rExtend : V → List V → Hp → VK → Prop := fun x vs H Q => ∃ l b xs zs, x = .ref l ∧ vs = [.ref b] ∧ H l = some (.lst xs) ∧ H b = some (.lst zs) ∧ xs.length + zs.length ≤ sizeLine ∧ Q .non (upd H l (.lst (xs ++ zs)))

def rPop : V → List V → Hp → VK → Prop := fun x vs H Q => ∃ l xs y, x = .ref l ∧ vs = [] ∧ H l = some (.lst xs) ∧ xs[xs.length - 1]? = some y ∧ Q y (upd H l (.lst xs.dropLast))

def rPopAt : V → List V → Hp → VK → Prop := fun x vs H Q => ∃ l xs i k y, x = .ref l ∧ vs = [.int i] ∧ H l = some (.lst xs) ∧ -(2 ^ 63) ≤ i ∧ i < 2 ^ 63 ∧ seqIndex? i xs.length = some k ∧ xs[k]? = some y ∧ Q y (upd H l (.lst (xs.eraseIdx k)))

def rReverse : V → List V → Hp → VK → Prop := fun x vs H Q => ∃ l xs, x = .ref l ∧ vs = [] ∧ H l = some (.lst xs) ∧ Q .non (upd H l (.lst xs.reverse))

def rClear : V → List V → Hp → VK → Prop := fun x vs H Q => ∃ l xs, x = .ref l ∧ vs = [] ∧ H l = some (.lst xs) ∧ Q .non (upd H l (.lst []))

/-! ### list + list, list += list, list * int -/
def rCat : R2 := fun x y H Q => ∃ l b xs zs, x = .ref l ∧ y = .ref b ∧ H l = some (.lst xs) ∧ H b = some (.lst zs) ∧ xs.length + zs.length ≤ sizeLine ∧ ∀ p, H p = none → Q (.ref p) (upd H p (.lst (xs ++ zs)))
theorem op_cat : OpR X (binaryOp .Add) rCat := by
  intro pins s σ H x y v u Q I rx ry h
  obtain ⟨l, b, xs, zs, rfl, rfl, hH, hB, hz, q⟩ := h
  cases rx
  cases ry
  obtain ⟨z, its, n, r, hl, e⟩ := I.lstM hH
  obtain ⟨z2, its2, n2, r2, hl2, e2⟩ := I.lstM hB
  refine PySem.P.add_list e e2 ?_ (by rw [List.size_toArray, List.size_toArray]; omega)
  have ea : its.toArray ++ its2.toArray = (its ++ its2).toArray := by simp
  rw [ea]
  exact ⟨.ref _, _, I.lnew (t' := s.toks) (r.append r2) (by rw [List.length_append]; omega), rfl, q _ I.fresh⟩
/-- a list times an int (a negative one is nothing) -/
def rRep : R2 := fun x y H Q => ∃ l k xs, x = .ref l ∧ y = .int k ∧ H l = some (.lst xs) ∧ -(2 ^ 63) ≤ k ∧ k < 2 ^ 63 ∧ xs.length * k.toNat ≤ sizeLine ∧
  ∀ p, H p = none → Q (.ref p) (upd H p (.lst (List.replicate k.toNat xs).flatten))

/-! ### del xs[i] -/
end

/-! ### xs[a:b] = ys -/
section
variable {prog : Program} {w : World} {A : Around} {E : Value → Shared → Prop} {s : Shared}
end

section
variable {X : Cx}
end
end L2

namespace Att
open PySem PySem.W PySem.Calls PyProof.Rows

/-! ### the script -/
theorem ints_of_wellAll {P : Params} {h : Heap} : ∀ (ns : List Int) (vs : List Value), WellAll P h vs (ns.map WData.int) → IntsAre vs ns := by
  intro ns
  induction ns with
  | nil =>
    intro vs w
    rw [List.map_nil] at w
    cases w
    exact .nil
  | cons n ns ih =>
    intro vs w
    rw [List.map_cons] at w
    cases w with
    | cons a b =>
      cases a
      exact .cons _ _ (ih _ b)

theorem script_of {l : OpenLaw} {n : Nat} (hn : l.most = some n) {P : Params} {h : Heap} {args : List WData} {vals : List Value}
    (hpre : l.row.toRowW.claim.pre args = true) (hwl : WellAll P h vals args) :
    ∃ a vs ns, vals = [Value.ref a] ∧ args = [WData.list (ns.map WData.int)] ∧ h.get? a = some { cls := .type "list", data := .seq vs.toArray } ∧ IntsAre vs ns ∧ ns.length ≤ n := by
  have hsh : WShape.hasAll [] args [.list .int] = true := (pre_splitW hpre).1
  have hc : l.pre.holds [] { args := args } = true := (pre_splitW hpre).2
  obtain ⟨d, r, rfl, h1, h2⟩ := hasAllW_cons hsh
  obtain rfl := hasAllW_nil h2
  obtain ⟨xs, rfl, h3⟩ := hasW_list h1
  obtain ⟨ns, rfl⟩ := items_int h3
  have hlen : ns.length ≤ n := by
    unfold OpenLaw.pre at hc
    have h4 : (WTm.not (.lt (.lit (.int (n : Int))) (.len (.arg 0)))).holds [] { args := [.list (ns.map .int)] } = true := by
      have h4 := (holds_andW hc).1
      rw [hn] at h4
      exact h4
    have h5 := condW_of h4 (w_not (w_lt w_lit (w_len_list (w_arg rfl))))
    rw [List.length_map] at h5
    refine Nat.le_of_not_lt fun q => ?_
    have q' : (n : Int) < ((ns.length : Nat) : Int) := by omega
    first
      | (rw [decide_eq_true q'] at h5; exact absurd h5 (by decide))
      | (simp at h5; omega)
  cases hwl with
  | cons w1 w2 =>
    cases w2
    cases w1 with
    | list ho hall => exact ⟨_, _, ns, rfl, rfl, ho, ints_of_wellAll ns _ hall, hlen⟩

theorem post_true (l : OpenLaw) (args : List WData) : l.row.toRowW.claim.post args (.bool true) args = true :=
  postW_of (r := l.row.toRowW) (X := (true == true))
    (show WShape.has [] (.bool true) .bool = true by first | rfl | decide | simp [WShape.has, WShape.arms, WShape.armsAll])
    (show (WTm.eq .res (.lit (.bool true))).value [] { args := args, res := some (.bool true), after := args } = some (.bool (true == true)) from w_eq_bool (w_res rfl) w_lit) rfl

/-! ### the attachment: holds_open's last premise (the goal 'hc' behind k_head) from a wpAny of the law's body -/

/-- the same from a codeAny of the CALL (for a layer whose function contracts speak of calls) -/
theorem attach_call {l : OpenLaw} {n : Nat} {q : Program} {loose : List Str} {XP : (Str → Option Value) → Heap → Prop} {YP : World → Heap → Prop} {d : DefRec}
    (hn : l.most = some n) (hdf : d.params.defaults = [])
    (call : ∀ (w : World) (s₀ s₁ : Shared) (mg mb : Str → Option Value) (fa : Addr) (o : Obj) (pm cd doc : Value) (a : Addr) (vs : List Value) (ns : List Int),
      Ground q loose [] XP w s₀ mg mb s₁.heap → YP w s₁.heap →
      s₁.heap.get? fa = some o → o.data = .func (docDef d.name d.params d.body d.scope pm cd doc) → s₁.heap.CodeRec cd d.name → mg d.name = some (.ref fa) →
      s₁.heap.get? a = some { cls := .type "list", data := .seq vs.toArray } → IntsAre vs ns → ns.length ≤ n → s₁.gens = #[] →
      codeAny (model l.prog w) callerA (.call (.ref fa) ⟨[.ref a], []⟩) (fun r s' => r = .ok (.ret (.bool true)) ∧ OldK s₁.heap s'.heap ∧ s'.os = s₁.os ∧ AllBare s'.gens) s₁) :
    WalkO q loose XP YP l.row.toRowW d [] (fun f vs => PySem.call f vs) := by
  intro w s₀ s₁ mg mb G Y fa o pm cd doc dV kV ho hd hcd hD hmg hg args vals as hpre hlay hrd hwl hlo
  obtain rfl : dV = .none := Dflts.none hD hdf
  obtain rfl : kV = .none := Dflts.noKw hD
  obtain ⟨a, vs, ns, rfl, rfl, hobj, hints, hlen⟩ := script_of hn hpre hwl
  refine enter_call (codeAny_mono (call w s₀ s₁ mg mb fa o pm cd doc a vs ns G Y ho (fd_plain hd) hcd hmg hobj hints hlen hg) fun r s' hq => ?_)
  obtain ⟨rfl, h2, h3, h4⟩ := hq
  exact ⟨.inl ⟨.bool true, .bool true, [], rfl, fun _ => rfl, .bool true, post_true l _, fun _ => ⟨List.Pairwise.nil, fun _ hm => (nomatch hm)⟩⟩, h2, h3, h4⟩


/-! ### rules over ANY heap (no ledger) from facts about the written part K: the library's own take a ledger (News) for what they write -/
section
variable {prog : Program} {w : World} {A : Around} {E : Value → Shared → Prop} {s : Shared} {K : Frag}





/-! the whole heap as the ledger: makes every rule that writes through a ledger a rule over any heap -/
def noObjs (h : Heap) : Heap := { h with objs := #[] }
def ledger (h : Heap) (L d : Addr) : List (Addr × Obj) := (List.range h.objs.size).filterMap fun a => if a = L ∨ a = d then none else (h.get? a).map fun o => (a, o)

end
end Att

namespace L2
open PySem PySem.Spec PyProof.Rows

theorem vals_ints : ∀ {vs : List Value} {ns : List Int}, IntsAre vs ns → Vals (ns.map V.int) vs
  | _, _, .nil => .nil
  | _, _, .cons n t h => .cons ⟨t, rfl⟩ (vals_ints h)

/-- nothing is tracked but the script, known to the object (or it is an object of the module) -/
def Only (H : Hp) : Prop := ∀ b, H b = none ∨ ∃ o xs, H b = some (.frz o (.lst xs))

/-- THE HEAD: the law's promise, at the heap behind the top. F, the promise of the law's def, may use that base is part of the heap (so K.In base, base.Ns mainGlobals mg stand in Mod) -/
theorem law_call {P : Program} {w : World} {K : PySem.W.Frag} {mg mb : Str → Option Value} {CX : CXT} {k : Nat} {fa a : Addr} {fd : FuncData} {x : Str} {sp : Sp} {s₁ : Shared} {vs : List Value} {ns : List Int}
    (KX : K.In s₁.heap) (hns : s₁.heap.Ns mainGlobals mg) (hb : s₁.heap.Ns builtinsNs mb) (hbb : ∀ x : Str, x ≠ "__name__" → mb x = bootBuiltins x) (hlim : s₁.heap.NoLimit) (hg : s₁.gens = #[])
    (ha : s₁.heap.get? a = some { cls := .type "list", data := .seq vs.toArray }) (hi : IntsAre vs ns) (hl : ns.length ≤ sizeLine) (hr : Room k callerA)
    (F : ∀ base : Heap, K.In base → base.Ns mainGlobals mg → FnOk P w K mg base CX k fa fd [x] sp) (hbind : ∀ (s : Shared) (u : Value), BindsTo s fd ⟨[u], []⟩ [(x, u)])
    (hsp : ∀ H : Hp, Only H → SqL K H a (ns.map V.int) → sp [.ref a] H (fun v _ => v = .bl true) fun _ _ _ => False)
    (hCX : ∀ H e s', CX [] H s₁ (fun _ _ _ => False) e s' → False) :
    codeAny (model P w) callerA (.call (.ref fa) ⟨[.ref a], []⟩) (fun r s' => r = .ok (.ret (.bool true)) ∧ OldK s₁.heap s'.heap ∧ s'.os = s₁.os ∧ AllBare s'.gens) s₁ := by
  have rv := vals_ints hi
  have lenV := hi.length
  -- from an abstract heap in which nothing but the script may be tracked
  have core : ∀ H : Hp, Only H → SqL K H a (ns.map V.int) → HOk P w H s₁.heap → (∀ b, H b ≠ none → b = a) → (H a ≠ none → K.lookup a = none) →
      codeAny (model P w) callerA (.call (.ref fa) ⟨[.ref a], []⟩) (fun r s' => r = .ok (.ret (.bool true)) ∧ OldK s₁.heap s'.heap ∧ s'.os = s₁.os ∧ AllBare s'.gens) s₁ := by
    intro H hO hS hok hA hK
    have base_of : ∀ {b : Addr} {o : Obj}, s₁.heap.get? b = some o → H b = none → (hidT s₁.heap H).get? b = some o := fun e n => hidT_get e n
    have noA : ∀ {b : Addr} {o : Obj} {es : Array DictEntry} {ep : Nat}, s₁.heap.get? b = some o → o.data = .dict es ep → H b = none := fun {b o es ep} e d => by
      cases q : H b with
      | none => rfl
      | some u =>
        have e' : b = a := hA b (by rw [q]; simp)
        subst e'
        rw [ha] at e; cases e
        have d' : Data.seq vs.toArray _ = Data.dict es ep := d
        cases d'
    have nsK : ∀ {b : Addr} {m : Str → Option Value}, s₁.heap.Ns b m → (hidT s₁.heap H).Ns b m := fun {b m} ⟨o, es, ep, e, d, r⟩ => ⟨o, es, ep, base_of e (noA e d), d, r⟩
    have hKb : K.In (hidT s₁.heap H) := fun b o e => base_of (KX b o e) (by
      cases q : H b with
      | none => rfl
      | some u =>
        have e' : b = a := hA b (by rw [q]; simp)
        subst e'
        rw [hK (by rw [q]; simp)] at e; cases e)
    have hM : Mod K mg (hidT s₁.heap H) := ⟨hKb, nsK hns, ⟨mb, nsK hb, hbb⟩, let ⟨mc, h1, h2⟩ := hlim; ⟨mc, nsK h1, h2⟩⟩
    have e0 : Env0 P w K mg (hidT s₁.heap H) callerA [] s₁ H := ⟨rfl, hM, fun b o e => of_hidT e, Nat.le_of_eq (hidT_size _ _), trivial, fun b hb => absurd (show b ∈ ([] : List Addr) from hb) (by simp), hok, .of_eq hg⟩
    refine codeAny_mono ((F _ hKb (nsK hns)).run callerA [] s₁ H ⟨[.ref a], []⟩ [.ref a] [.ref a] _ _ hr e0 (hbind s₁ (.ref a)) (.cons rfl .nil) (hsp H hO hS)) fun r s' h => ?_
    cases r with
    | error e => exact (hCX H e s' h).elim
    | ok fl =>
      cases fl with
      | next => exact False.elim h
      | brk => exact False.elim h
      | cont => exact False.elim h
      | ret u =>
        obtain ⟨v, H', os, bare, un, hok', r', q⟩ := h
        have q' : v = .bl true := q
        subst q'
        obtain rfl : u = Value.bool true := r'
        refine ⟨rfl, OldK.of_keep fun b o e => ?_, os, bare⟩
        cases q : H b with
        | none => exact un.keep b o e q (by intro z; exact absurd (show b ∈ ([] : List Addr) from z) (by simp)) (by simp)
        | some u =>
          rcases hO b with z | ⟨ob, xs, z⟩
          · rw [q] at z; cases z
          · have z2 := un.frzs b ob _ z
            obtain ⟨e1, _⟩ := hok b _ z
            obtain ⟨e2, _⟩ := hok' b _ z2
            rw [e] at e1; cases e1
            exact e2
  cases hk : K.lookup a with
  | some o =>
    -- the script is one of the module's own objects
    have e := KX a o hk
    rw [ha] at e
    cases e
    refine core (fun _ => none) (fun _ => .inl rfl) (.inr ⟨_, vs.toArray, _, hk, rfl, rfl, rfl, by rw [List.size_toArray, lenV]; exact hl, by simpa using rv⟩) (fun b u z => by have z' : (none : Option HO) = some u := z; cases z') (fun b z => absurd rfl z) fun z => absurd rfl z
  | none =>
    refine core (fun b => if b = a then some (.frz { cls := .type "list", data := .seq vs.toArray } (.lst (ns.map V.int))) else none) (fun b => ?_) (.inl (.inr ⟨{ cls := .type "list", data := .seq vs.toArray }, if_pos rfl⟩)) (fun b u z => ?_) (fun b z => ?_) fun _ => hk
    · by_cases hb : b = a
      · exact .inr ⟨_, _, if_pos hb⟩
      · exact .inl (if_neg hb)
    · by_cases hb : b = a
      · have z' := (if_pos hb).symm.trans z
        cases z'
        subst hb
        exact ⟨ha, by rw [List.length_map]; exact hl, vs, _, rv, ha⟩
      · have z' := (if_neg hb).symm.trans z
        cases z'
    · by_cases hb : b = a
      · exact hb
      · exact absurd (if_neg hb) z
end L2

namespace L2
open PySem PySem.Spec PyProof.Rows

abbrev KOf {K : PySem.W.Frag} {h : Heap} (_ : K.In h) : PySem.W.Frag := K

/-- the goal that k_head leaves (case hc), from the law's promise. F gives the function object fd (K's own) once, then the promise over every base -/
theorem walk_of {l : PySem.W.OpenLaw} {n k : Nat} {q : Program} {loose : List Str} {XP : (Str → Option Value) → Heap → Prop} {YP : World → Heap → Prop} {d : DefRec} {K : Params → PySem.W.Frag} {CX : World → CXT} {sp : World → Sp} {x : Str}
    (hn : l.most = some n) (hn2 : n ≤ sizeLine) (hdf : d.params.defaults = []) (hr : Room k callerA)
    (hY : ∀ (w : World) (h : Heap), YP w h → (K w.params).In h)
    (F : ∀ (w : World) (mg : Str → Option Value) (fa : Addr) (h : Heap), (K w.params).In h → h.Ns mainGlobals mg → mg d.name = some (.ref fa) →
      ∃ fd : FuncData, (∀ (s : Shared) (u : Value), BindsTo s fd ⟨[u], []⟩ [(x, u)]) ∧
        ∀ base : Heap, (K w.params).In base → base.Ns mainGlobals mg → FnOk l.prog w (K w.params) mg base (CX w) k fa fd [x] (sp w))
    (hsp : ∀ (w : World) (H : Hp) (a : Addr) (ns : List Int), ns.length ≤ n → Only H → SqL (K w.params) H a (ns.map V.int) → sp w [.ref a] H (fun v _ => v = .bl true) fun _ _ _ => False)
    (hCX : ∀ (w : World) (H : Hp) (s : Shared) (e : Value) (s' : Shared), CX w [] H s (fun _ _ _ => False) e s' → False) :
    PySem.W.WalkO q loose XP YP l.row.toRowW d [] (fun f vs => PySem.call f vs) := by
  refine Att.attach_call hn hdf fun w s₀ s₁ mg mb fa o pm cd doc a vs ns G Y ho hd hcd hmg hobj hints hlen hg => ?_
  have KX := hY w _ Y
  obtain ⟨fd, hb, hF⟩ := F w mg fa _ KX G.T.g hmg
  exact law_call KX G.T.g G.T.b G.T.builtins G.T.nolimit hg hobj hints (Nat.le_trans hlen hn2) hr hF hb (fun H hO hS => hsp w H a ns hlen hO hS) fun H e s' => hCX w H s₁ e s'
end L2



/-! SHORT WORDS over the layer: a def of the text, its body, what a loop and a test want. -/
namespace L2
open PySem PySem.Spec PyProof.Rows

/-! ### the text by places -/
/-- the j-th statement of a class's body -/
def inClass (s : Stmt) (j : Nat) : Stmt := match s with
  | .ClassDef _ _ _ body _ _ _ _ _ _ _ => body.getD j (.Pass ⟨0, 0, 0, 0⟩)
  | _ => .Pass ⟨0, 0, 0, 0⟩
def defArgs (s : Stmt) : Arguments := match s with
  | .FunctionDef _ a _ _ _ _ _ _ _ _ => a
  | _ => { posonlyargs := [], args := [], vararg := none, kwonlyargs := [], kw_defaults := [], kwarg := none, defaults := [] }
def defBody (s : Stmt) : List Stmt := match s with
  | .FunctionDef _ _ b _ _ _ _ _ _ _ => b
  | _ => []
def defScope (s : Stmt) : Scope := match s with
  | .FunctionDef _ _ _ _ _ _ sc _ _ _ => sc
  | _ => { kind := .function, names := [], isGenerator := false, isCoroutine := false }

/-! ### no exception leaves a def -/
abbrev CX0 : CXT := fun _ _ _ _ _ _ => False
abbrev E0 : XK := fun _ _ _ => False
theorem pass0 {X : Cx} : Passes CX0 X E0 := fun _ _ _ _ _ _ _ h => h.elim

/-! ### a def (or method) of the text as it stands behind the top -/
structure Fun (K : PySem.W.Frag) (x qual : Str) (st : Stmt) (f : Addr) (fd : FuncData) : Prop where
  ex : ∃ (oc : Value) (od : Option Addr) (kV doc pm : Value) (an : Option Addr) (cdv ct : Value) (osl : Array (Option Value)),
    fd = PySem.W.fnOf x qual (defArgs st) (defBody st) (defScope st) .none kV doc pm an cdv ct ∧ K.lookup f = some ⟨oc, od, .func fd, osl⟩ ∧ PySem.W.codeIn K cdv qual = true
  kp : PySem.W.keepIn K (.ref f) = true
section
variable {P : Program} {w : World} {K : PySem.W.Frag} {mg : Str → Option Value} {base : Heap}
/-- THE RULE for a def: its body as a term of rules, and the reading of that term -/
theorem Fun.ok {x qual : Str} {st : Stmt} {f : Addr} {fd : FuncData} {N ps : List Str} {k : Nat} {sp : Sp} (F : Fun K x qual st f fd) (S : FnScope N ps (defScope st)) (len : ∀ vs H Q E, sp vs H Q E → vs.length = ps.length)
    (hbody : ∀ (cdv : Value) (A : Around) (outer : List Env) (s : Shared) (H : Hp) (vs : List V) (Q : VK) (E : XK), Room k (A.deeper (envOfC qual (defScope st) s.heap.objs.size f cdv)) → sp vs H Q E →
      ∃ t, PSs (cxOf CX0 P w K mg base N qual (defScope st) f cdv A outer s H E).nox (defBody st) t ∧ t { nx := fun _ H' => Q .non H', rt := Q } (start N vs) H) : FnOk P w K mg base CX0 (k + 1) f fd ps sp := by
  obtain ⟨oc, od, kV, doc, pm, an, cdv, ct, osl, rfl, lk, hcd⟩ := F.ex
  refine fn_of lk hcd S len fun A outer s H vs Q E hr hsp => ?_
  obtain ⟨t, h, q⟩ := hbody cdv A outer s H vs Q E hr hsp
  exact ⟨t, h.nox, q⟩
/-- how its arguments bind (no defaults): h is «fun _ _ _ _ _ _ us hl => match us, hl with | [_, _], _ => rfl», one _ a parameter -/
theorem Fun.binds {x qual : Str} {st : Stmt} {f : Addr} {fd : FuncData} {ps : List Str} (F : Fun K x qual st f fd)
    (h : ∀ (kV doc pm : Value) (an : Option Addr) (cdv ct : Value) (us : List Value), us.length = ps.length → bindArgs (PySem.W.fnOf x qual (defArgs st) (defBody st) (defScope st) .none kV doc pm an cdv ct) ⟨us, []⟩ = pure (ps.zip us)) : Binds K fd ps [] := by
  obtain ⟨oc, od, kV, doc, pm, an, cdv, ct, osl, rfl, lk, hcd⟩ := F.ex
  exact .all (h kV doc pm an cdv ct)
theorem fun_mk {x qual : Str} {st : Stmt} {f : Addr} {oc : Value} {od an : Option Addr} {osl : Array (Option Value)} {kV doc pm cdv ct : Value} (l : K.lookup f = some ⟨oc, od, .func (PySem.W.fnOf x qual (defArgs st) (defBody st) (defScope st) .none kV doc pm an cdv ct), osl⟩)
    (c : PySem.W.codeIn K cdv qual = true) (k : PySem.W.keepIn K (.ref f) = true) : Fun K x qual st f (PySem.W.fnOf x qual (defArgs st) (defBody st) (defScope st) .none kV doc pm an cdv ct) := ⟨⟨oc, od, kV, doc, pm, an, cdv, ct, osl, rfl, l, c⟩, k⟩
end
theorem hu_of {A : Around} {k : Nat} (hr : Room k A) : A.units + 1 < cLine := Nat.lt_of_le_of_lt (Nat.add_le_add_left (by decide : 1 ≤ 64) _) hr.units
theorem small1000 {n : Nat} (h : n ≤ 1000) : n < sizeLine := Nat.lt_of_le_of_lt h (by decide)

/-! ### expressions in short: the name that stands in the i-th slot -/
section
variable {X : Cx}
theorem pv (i : Nat) {x : Str} {pos : Pos} (hN : X.N[i]? = some x := by rfl) (hv : Vis X.env.scope x := by first | exact Or.inl rfl | exact Or.inr (Or.inl rfl) | exact Or.inr (Or.inr rfl)) (hd : (x == ("__debug__" : Str)) = false := by decide)
    (hcd : (x == ("__classdict__" : Str)) = false := by decide) : PE X (.Name x pos) (tVar i) := pe_var hN hv hd hcd
end

/-! ### tests -/
theorem iteF {A B : Prop} (h : B) : if false = true then A else B := by
  rw [if_neg Bool.false_ne_true]
  exact h
theorem iteT {A B : Prop} (h : A) : if true = true then A else B := by
  rw [if_pos rfl]
  exact h
theorem ite2 {c A B : Prop} [Decidable c] (h1 : c → A) (h2 : ¬ c → B) : if c then A else B := by
  by_cases h : c
  · rw [if_pos h]
    exact h1 h
  · rw [if_neg h]
    exact h2 h
theorem iteNS {c A B : Prop} [Decidable c] (hc : c) (h : B) : if (!decide c) = true then A else B := by
  rw [decide_eq_true hc]
  exact iteF h

/-! ### heaps -/
/-- all that was tracked is as it was -/
def Same (H H' : Hp) : Prop := ∀ b o, H b = some o → H' b = some o
theorem Same.refl (H : Hp) : Same H H := fun _ _ h => h
theorem Same.trans {H H1 H2 : Hp} (a : Same H H1) (b : Same H1 H2) : Same H H2 := fun c o h => b c o (a c o h)
theorem Same.seq {K : PySem.W.Frag} {H H' : Hp} {a : Addr} {xs : List V} (e : Same H H') (h : SqL K H a xs) : SqL K H' a xs := by
  rcases h with (h | ⟨o, h⟩) | h
  · exact .inl (.inl (e _ _ h))
  · exact .inl (.inr ⟨o, e _ _ h⟩)
  · exact .inr h

end L2

set_option maxHeartbeats 4000000
namespace B
open PySem L2 PyProof.Rows
/-! ### tests that are known -/
theorem iteN1 {c A B : Prop} [Decidable c] (hc : ¬ c) (h : A) : if (!decide c) = true then A else B := by
  have e : (!decide c) = true := by rw [decide_eq_false hc]; rfl
  rw [if_pos e]; exact h
theorem iteD1 {c A B : Prop} [Decidable c] (hc : c) (h : A) : if decide c = true then A else B := by
  rw [if_pos (decide_eq_true hc)]; exact h
theorem iteD0 {c A B : Prop} [Decidable c] (hc : ¬ c) (h : B) : if decide c = true then A else B := by
  have e : ¬ decide c = true := by rw [decide_eq_false hc]; intro z; cases z
  rw [if_neg e]; exact h
/-! ### isinstance against a built-in class -/
def kitTT (A B : String) : Option Bool := if (Value.type A == Value.type B) = true then some true else if PySem.W.kitMeta B = true then (fastBuiltinMro A).map (·.contains (.type B)) else none
theorem kit_of {K : PySem.W.Frag} {A B : String} {b : Bool} (h : kitTT A B = some b) : PySem.W.kitOne K (.type A) (.type B) = some b := h
/-- a plain thing's kind -/
inductive Ty (H : Hp) : V → String → Prop where
  | non : Ty H .non "NoneType"
  | bl (b : Bool) : Ty H (.bl b) "bool"
  | int (i : Int) : Ty H (.int i) "int"
  | str (x : Str) : Ty H (.str x) "str"
  | lst {a : Addr} {xs : List V} (e : H a = some (.lst xs)) : Ty H (.ref a) "list"
  | tup {a : Addr} {xs : List V} (e : H a = some (.tup xs)) : Ty H (.ref a) "tuple"
theorem Ty.of {H : Hp} {v : V} {n : String} (K : PySem.W.Frag) (h : Ty H v n) : TyOf K H v (.type n) := by
  cases h with
  | non => exact .non
  | bl b => exact .bl b
  | int i => exact .int i
  | str x => exact .str x
  | lst e => exact .lst e
  | tup e => exact .tup e
def rIsi : List V → Hp → VK → Prop := fun xs H Q => ∃ x n m b, xs = [x, .ty n] ∧ Ty H x m ∧ kitTT m n = some b ∧ Q (.bl b) H
theorem call_isi {X : Cx} : CallR X (.builtin "isinstance") rIsi := by
  intro pins s σ H xs us Q I r h
  obtain ⟨x, n, m, b, rfl, ty, e, q⟩ := h
  obtain ⟨u, u2, rfl, rx, ry⟩ := vals2 r
  obtain rfl : u2 = Value.type n := ry
  exact isinst_ok I rx (ty.of X.K) (kit_of e) fun tk => ⟨.bl b, H, I.tok tk, rfl, q⟩
def wholeV : V → Bool
  | .int _ => true
  | _ => false
def tupV (n : String) : Bool := n == "tuple"
/-! ### heaps: all but one list is as it was -/
structure Step (t : Addr) (H H' : Hp) : Prop where
  keep : ∀ b o, b ≠ t → H b = some o → H' b = some o
  tp : ∃ xs, H t = some (.lst xs)
  tp' : ∃ xs, H' t = some (.lst xs)
theorem Step.trans {t : Addr} {H H1 H2 : Hp} (a : Step t H H1) (b : Step t H1 H2) : Step t H H2 := ⟨fun c o n e => b.keep c o n (a.keep c o n e), a.tp, b.tp'⟩
theorem Step.up {t : Addr} {H : Hp} {xs ys : List V} (h : H t = some (.lst xs)) : Step t H (upd H t (.lst ys)) := ⟨fun c o n e => by rw [upd_ne n]; exact e, ⟨_, h⟩, ⟨_, upd_same⟩⟩
theorem same_new {H : Hp} {p : Addr} (h : H p = none) (o : HO) : Same H (upd H p o) := fun b u q => by rw [upd_ne (ne_of_none q h)]; exact q
theorem Step.same {t : Addr} {H H' : Hp} (s : Same H H') (h : ∃ xs, H t = some (.lst xs)) : Step t H H' := ⟨fun c o _ e => s c o e, h, let ⟨xs, e⟩ := h; ⟨xs, s _ _ e⟩⟩
/-- a thing whose kind is known, and of a tuple its parts' kinds -/
def Th (H : Hp) (v : V) : Prop := ∃ n, Ty H v n ∧ ∀ a xs, v = .ref a → H a = some (.tup xs) → ∀ x ∈ xs, ∃ m, Ty H x m
/-! ### places -/
theorem pick {xs : List V} {r : Int} (h0 : 0 ≤ r) (h1 : r < (xs.length : Int)) : ∃ v, atI xs r = some v ∧ v ∈ xs := by
  have hk : r.toNat < xs.length := by omega
  have ek : r = ((r.toNat : Nat) : Int) := by omega
  have q : atI xs ((r.toNat : Nat) : Int) = some xs[r.toNat] := atI_nat (List.getElem?_eq_getElem hk)
  rw [← ek] at q
  exact ⟨_, q, List.getElem_mem hk⟩
theorem pickI {ns : List Int} {r : Int} (h0 : 0 ≤ r) (h1 : r < (ns.length : Int)) : ∃ z : Int, atI (ns.map V.int) r = some (.int z) := by
  obtain ⟨v, h, hv⟩ := pick (xs := ns.map V.int) h0 (by rw [List.length_map]; exact h1)
  obtain ⟨z, _, rfl⟩ := List.mem_map.mp hv
  exact ⟨z, h⟩
/-! ### the tape -/
structure Tape (H : Hp) (t s : Addr) : Prop where
  ex : ∃ (ns : List Int) (p q r : Int), H t = some (.lst [.ref s, .int p, .int q, .int r]) ∧ H s = some (.lst (ns.map V.int)) ∧ s ≠ t ∧ ns.length ≤ 63 ∧ 0 ≤ p ∧ 0 ≤ q ∧ 0 ≤ r
def sp_tape (K : PySem.W.Frag) : Sp := fun vs H Q _ => ∃ (a : Addr) (ns : List Int), vs = [.ref a] ∧ SqL K H a (ns.map V.int) ∧ ∀ (t s : Addr) (H' : Hp), Same H H' → H t = none → H s = none → Tape H' t s → Q (.ref t) H'
def sp_draw : Sp := fun vs H Q _ => ∃ (t s : Addr) (m : Int), vs = [.ref t, .int m] ∧ Tape H t s ∧ 0 < m ∧ m < 1073741824 ∧ ∀ (r : Int) (xs : List V), 0 ≤ r → r < m → Tape (upd H t (.lst xs)) t s → Q (.int r) (upd H t (.lst xs))
def sp_lawT (K : PySem.W.Frag) : Sp := fun vs H Q _ => ∃ (a : Addr) (ns : List Int), vs = [.ref a] ∧ SqL K H a (ns.map V.int) ∧ ns.length ≤ 63 ∧ ∀ H', Q (.bl true) H'
/-! ### the greatest divisor, turn by turn -/
theorem gcd_turn {a b : Int} (ha : 0 ≤ a) (hb : 0 < b) : Int.gcd b (a % b) = Int.gcd a b := by
  obtain ⟨n, rfl⟩ := Int.eq_ofNat_of_zero_le ha
  obtain ⟨m, rfl⟩ := Int.eq_ofNat_of_zero_le (Int.le_of_lt hb)
  rw [← Int.natCast_emod]
  show Nat.gcd m (n % m) = Nat.gcd n m
  rw [Nat.gcd_comm m, ← Nat.gcd_rec, Nat.gcd_comm]
theorem abs_if (i : Int) : (if i < 0 then -i else i) = (i.natAbs : Int) := by split <;> omega
end B

namespace B
open PySem PySem.Spec L2 PyProof.Rows
/-! ### a thing whose whole inside is known, and its text -/
mutual
inductive Deep (K : PySem.W.Frag) (H : Hp) : V → PyData → Prop where
  | non : Deep K H .non .none
  | bl (b : Bool) : Deep K H (.bl b) (.bool b)
  | int (i : Int) : Deep K H (.int i) (.int i)
  | str (x : Str) : Deep K H (.str x) (.str x)
  | lst {a : Addr} {xs : List V} {ds : List PyData} (e : SqL K H a xs) (h : DeepAll K H xs ds) : Deep K H (.ref a) (.list ds)
  | tup {a : Addr} {xs : List V} {ds : List PyData} (e : SqT K H a xs) (h : DeepAll K H xs ds) : Deep K H (.ref a) (.tuple ds)
inductive DeepAll (K : PySem.W.Frag) (H : Hp) : List V → List PyData → Prop where
  | nil : DeepAll K H [] []
  | cons {x : V} {d : PyData} {xs : List V} {ds : List PyData} (h : Deep K H x d) (t : DeepAll K H xs ds) : DeepAll K H (x :: xs) (d :: ds)
end
mutual
theorem Deep.reads {X : Cx} {pins : List (Addr × Obj)} {σ : L2.St} {H : Hp} {s : Shared} (I : Inv X pins σ H s) : ∀ {v : V} {d : PyData} {u : Value}, Deep X.K H v d → RelV v u → ∃ as, Reads s.heap u d as
  | _, _, u, .non, r => by cases (show u = Value.none from r); exact ⟨_, .none⟩
  | _, _, u, .bl b, r => by cases (show u = Value.bool b from r); exact ⟨_, .bool b⟩
  | _, _, u, .int i, r => by obtain ⟨t, q⟩ := (show ∃ t, u = Value.int i t from r); cases q; exact ⟨_, .int i t⟩
  | _, _, u, .str x, r => by obtain ⟨t, q⟩ := (show ∃ t, u = Value.str x t from r); cases q; exact ⟨_, .str x t⟩
  | _, _, u, .lst (a := a) e h, r => by
    cases (show u = Value.ref a from r)
    obtain ⟨its, rv, ⟨o, n, ho, hc, _, hd⟩, _⟩ := I.list e
    obtain ⟨as, q⟩ := DeepAll.reads I h rv
    exact ⟨_, .list ho hc hd (by simpa using q)⟩
  | _, _, u, .tup (a := a) e h, r => by
    cases (show u = Value.ref a from r)
    obtain ⟨its, rv, ⟨o, ho, hc, n, hd⟩, _⟩ := I.tuple e
    obtain ⟨as, q⟩ := DeepAll.reads I h rv
    exact ⟨_, .tuple ho hc hd (by simpa using q)⟩
theorem DeepAll.reads {X : Cx} {pins : List (Addr × Obj)} {σ : L2.St} {H : Hp} {s : Shared} (I : Inv X pins σ H s) : ∀ {vs : List V} {ds : List PyData} {us : List Value}, DeepAll X.K H vs ds → Vals vs us → ∃ as, ReadsAll s.heap us ds as
  | _, _, _, .nil, .nil => ⟨_, .nil⟩
  | _, _, _, .cons h t, .cons r q =>
    let ⟨_, a⟩ := Deep.reads I h r
    let ⟨_, b⟩ := DeepAll.reads I t q
    ⟨_, .cons a b⟩
end
/-- what may be shown -/
structure Shows (d : PyData) : Prop where
  sh : d.showable = true
  nd : d.hasDict = false
  sz : d.shown.length ≤ sizeLine
  dp : d.depth ≤ 16
def rRepr (K : PySem.W.Frag) : List V → Hp → VK → Prop := fun xs H Q => ∃ v d, xs = [v] ∧ Deep K H v d ∧ Shows d ∧ Q (.str d.shown) H
theorem call_repr {X : Cx} {k : Nat} (hr : Room k X.A) : CallR X (.builtin "repr") (rRepr X.K) := by
  intro pins s σ H xs us Q I r h
  obtain ⟨v, d, rfl, dp, sh, q⟩ := h
  obtain ⟨u, rfl, ru⟩ := vals1 r
  cases dp with
  | non => cases (show u = Value.none from ru); exact PySem.P.repr_of_none ⟨.str "None", H, I.tok _, ⟨_, rfl⟩, q⟩
  | bl b => cases (show u = Value.bool b from ru); exact PySem.P.repr_of_bool ⟨.str _, H, I.tok _, ⟨_, rfl⟩, q⟩
  | int i =>
    obtain ⟨t, e⟩ := (show ∃ t, u = Value.int i t from ru)
    cases e
    exact PySem.P.repr_of_int (of_decide_eq_true sh.sh) ⟨.str _, H, I.tok _, ⟨_, rfl⟩, q⟩
  | str x =>
    obtain ⟨t, e⟩ := (show ∃ t, u = Value.str x t from ru)
    cases e
    exact PySem.P.repr_of_str ⟨.str _, H, I.tok _, ⟨_, rfl⟩, q⟩ sh.sz
  | @lst a ys ds e h =>
    cases (show u = Value.ref a from ru)
    obtain ⟨as, rd⟩ := Deep.reads I (.lst e h) (show RelV (.ref a) (.ref a) from rfl)
    exact repr_of_reads' rd sh.sh (fun z => by rw [sh.nd] at z; cases z) hr.gd (by have := hr.units; have := sh.dp; omega) (fun _ _ z => z) (fun h' u tk hk => ⟨.str _, H, I.kept hk, ⟨_, rfl⟩, q⟩) sh.sz
  | @tup a ys ds e h =>
    cases (show u = Value.ref a from ru)
    obtain ⟨as, rd⟩ := Deep.reads I (.tup e h) (show RelV (.ref a) (.ref a) from rfl)
    exact repr_of_reads' rd sh.sh (fun z => by rw [sh.nd] at z; cases z) hr.gd (by have := hr.units; have := sh.dp; omega) (fun _ _ z => z) (fun h' u tk hk => ⟨.str _, H, I.kept hk, ⟨_, rfl⟩, q⟩) sh.sz
end B

namespace B
open PySem PySem.Spec L2 PyProof.Rows
/-! ### a list's comprehension of one clause -/
/-- the block's context: its own names, the cells of the def around it; the iterator's records may turn -/
def cxC (X : Cx) (N' : List Str) (scope : Scope) (cl : List (Str × Addr)) (C : Addr) (fp : List Addr) (pins : List (Addr × Obj)) (s : Shared) (H : Hp) : Cx :=
  { X with N := N', s₀ := s, H₀ := H, env := compEnvC scope cl C X.env, outer := X.stack, stack := X.stack, ex := fp, fn := fun _ => false, pn := X.pn ++ pins, xe := fun _ _ => False }
/-- which name of the def around it stands at each place of the block (none: the block's own) -/
def FreeOk (X : Cx) (scope : Scope) (cl : List (Str × Addr)) : List Str → List (Option Nat) → Prop
  | [], [] => True
  | _ :: N, none :: r => FreeOk X scope cl N r
  | x :: N, some j :: r => X.N[j]? = some x ∧ X.env.kindOf x = some .cell ∧ (compEnvC scope cl 0 X.env).kindOf x = some .cell ∧ cl.lookup x = X.env.cells.lookup x ∧ FreeOk X scope cl N r
  | _, _ => False
def frees (src : List (Option Nat)) (σ : L2.St) : L2.St := src.map fun o => o.bind fun j => (σ[j]?).getD none
theorem FreeOk.len {X : Cx} {scope : Scope} {cl : List (Str × Addr)} : ∀ {N : List Str} {src : List (Option Nat)}, FreeOk X scope cl N src → N.length = src.length
  | [], [], _ => rfl
  | _ :: _, none :: _, h => congrArg (· + 1) (FreeOk.len (X := X) (scope := scope) (cl := cl) h)
  | _ :: _, some _ :: _, h => congrArg (· + 1) (FreeOk.len (X := X) (scope := scope) (cl := cl) h.2.2.2.2)
theorem FreeOk.at {X : Cx} {scope : Scope} {cl : List (Str × Addr)} {σ : L2.St} : ∀ {N : List Str} {src : List (Option Nat)} {i : Nat} {x : Str} {v : V}, FreeOk X scope cl N src → N[i]? = some x → (frees src σ)[i]? = some (some v) →
    ∃ j : Nat, X.N[j]? = some x ∧ σ[j]? = some (some v) ∧ X.env.kindOf x = some .cell ∧ (compEnvC scope cl 0 X.env).kindOf x = some .cell ∧ cl.lookup x = X.env.cells.lookup x
  | y :: N, none :: r, 0, x, v, h, e, q => by cases q
  | y :: N, none :: r, i + 1, x, v, h, e, q => FreeOk.at (N := N) (src := r) (i := i) h e q
  | y :: N, some j :: r, 0, x, v, h, e, q => by
    cases e
    refine ⟨j, h.1, ?_, h.2.1, h.2.2.1, h.2.2.2.1⟩
    have q' : some ((σ[j]?).getD none) = some (some v) := q
    injection q' with q'
    cases z : σ[j]? with
    | none => rw [z] at q'; cases q'
    | some o => rw [z] at q'; exact congrArg some q'
  | y :: N, some j :: r, i + 1, x, v, h, e, q => FreeOk.at (N := N) (src := r) (i := i) h.2.2.2.2 e q
/-- every name of the block that is a cell there has one -/
def CellsOk (X : Cx) (scope : Scope) (cl : List (Str × Addr)) : Prop :=
  (∀ x, ((compEnvC scope cl 0 X.env).kindOf x = some .cell ∨ (compEnvC scope cl 0 X.env).kindOf x = some .free) → ∃ c, cl.lookup x = some c) ∧ ∀ x c, cl.lookup x = some c → X.env.cells.lookup x = some c
def CellsIn (X : Cx) : List (Str × Addr) → Prop
  | [] => True
  | y :: r => X.env.cells.lookup y.1 = some y.2 ∧ CellsIn X r
theorem CellsIn.mem {X : Cx} : ∀ {cl : List (Str × Addr)}, CellsIn X cl → ∀ y ∈ cl, X.env.cells.lookup y.1 = some y.2
  | [], _, y, h => by cases h
  | z :: r, k, y, h => by
    rcases List.mem_cons.mp h with e | h
    · rw [e]; exact k.1
    · exact CellsIn.mem k.2 y h
theorem mem_of_lookup {α : Type} {x : Str} {v : α} : ∀ {l : List (Str × α)}, l.lookup x = some v → (x, v) ∈ l
  | [], h => by cases h
  | (y, w) :: r, h => by
    rw [List.lookup_cons] at h
    cases e : x == y with
    | true =>
      rw [e] at h
      have e' : x = y := eq_of_beq e
      cases h
      rw [e']; exact List.mem_cons_self
    | false =>
      rw [e] at h
      exact List.mem_cons_of_mem _ (mem_of_lookup h)
theorem cells_of {X : Cx} {scope : Scope} {cl : List (Str × Addr)} (h1 : ((relabel scope X.env).names.all fun y => !(y.2 == .cell || y.2 == .free) || (cl.lookup y.1).isSome) = true) (h2 : CellsIn X cl) : CellsOk X scope cl := by
  refine ⟨fun x h => ?_, fun x c e => h2.mem _ (mem_of_lookup e)⟩
  have h3 := List.all_eq_true.mp h1
  have key : ∀ k : NameKind, (k = .cell ∨ k = .free) → (relabel scope X.env).names.lookup x = some k → ∃ c, cl.lookup x = some c := fun k hk e => by
    have q := h3 _ (mem_of_lookup e)
    have z : (k == NameKind.cell || k == NameKind.free) = true := by rcases hk with rfl | rfl <;> rfl
    simp only [z, Bool.not_true, Bool.false_or] at q
    exact Option.isSome_iff_exists.mp q
  rcases h with h | h
  · exact key _ (.inl rfl) h
  · exact key _ (.inr rfl) h
/-- .. as the block's names stay -/
def Ext (σ σ' : L2.St) : Prop := σ'.length = σ.length ∧ ∀ (i : Nat) (v : V), σ[i]? = some (some v) → σ'[i]? = some (some v)
theorem Ext.set {σ : L2.St} {i : Nat} {v : V} (h : σ[i]? = some none) : Ext σ (σ.set i (some v)) := by
  refine ⟨List.length_set, fun j u e => ?_⟩
  have ne : i ≠ j := fun z => by subst z; rw [h] at e; cases e
  rw [List.getElem?_set_ne ne]; exact e
section
variable {X : Cx} {N' : List Str} {scope : Scope} {cl : List (Str × Addr)} {src : List (Option Nat)} {pins : List (Addr × Obj)} {σ : L2.St} {H : Hp} {s : Shared} {fp : List Addr}
theorem Cx.comp_ok {C : Addr} (I : Inv X pins σ H s) (hC : s.heap.objs.size ≤ C) (hk : scope.kind = .function) (hf : ∀ b ∈ fp, FpOk X pins H b) (hfs : ∀ b ∈ fp, b < s.heap.objs.size) (hc : CellsOk X scope cl) :
    (cxC X N' scope cl C fp pins s H).Ok where
  mod := I.ok.mod
  kind := hk
  glob := I.ok.glob
  blt := I.ok.blt
  above := hC
  inj := fun x y c e1 e2 => I.ok.inj x y c (hc.2 x c e1) (hc.2 y c e2)
  has := fun x h => hc.1 x h
  cab := fun x c z => nomatch z
  hd := I.ok.hd
  frames := I.ok.frames
  stk := .inl rfl
  exf := fun b hb => ⟨fun z => by have := hfs b hb; rw [show b = C from z] at this; exact absurd (Nat.lt_of_lt_of_le this hC) (Nat.lt_irrefl _), fun x c e => (hf b hb).2.2.2.2.1 x c (hc.2 x c e)⟩
  bs := I.bs
  bsz := Nat.le_trans I.ok.bsz I.sz
  noex := fun b o e hb => by
    rcases (hf b hb).2.2.2.1 with z | z
    · exact I.ok.noex b o e z
    · rw [(I.ok.bs b o e).1] at z; cases z
  exfs := fun b hb z => by
    rcases List.mem_cons.mp (I.stkSub b z) with q | q
    · exact (hf b hb).2.1 q
    · exact (hf b hb).2.2.1 q
  funs := I.stack
  frf := I.stkFree
theorem Inv.comp {C : Addr} {h₁ : Heap} {m : Str → Option Value} {tk : Nat} (I : Inv X pins σ H s) (hC : C = s.heap.objs.size) (hns : h₁.Ns C m) (keep : ∀ b o, s.heap.get? b = some o → h₁.get? b = some o)
    (hk : scope.kind = .function) (hf : ∀ b ∈ fp, FpOk X pins H b) (hfs : ∀ b ∈ fp, b < s.heap.objs.size) (hc : CellsOk X scope cl) (hfree : FreeOk X scope cl N' src) :
    Inv (cxC X N' scope cl C fp pins s H) [] (frees src σ) H { s with heap := h₁, toks := tk } where
  ok := Cx.comp_ok I (Nat.le_of_eq hC.symm) hk hf hfs hc
  os := rfl
  bare := I.bare
  base := Un.kept keep
  loc := ⟨m, hns, fun i x v e1 e2 _ => by
    obtain ⟨j, hj, hσ, kc, kc', hl⟩ := hfree.at e1 e2
    obtain ⟨m0, hn0, hl0⟩ := I.loc
    obtain ⟨u, r, l⟩ := hl0 j x v hj hσ (Or.inr (Or.inl kc))
    rcases l with ⟨k, _⟩ | ⟨k, c, e, o, ho, hd⟩
    · rw [kc] at k; cases k
    · exact ⟨u, r, .inr ⟨.inl kc', c, hl.trans e, o, keep c o ho, hd⟩⟩⟩
  cell := fun x c e => let ⟨v, o, ho, hd⟩ := I.cell x c (hc.2 x c e); ⟨v, o, keep _ _ ho, hd⟩
  free := I.hok.fresh (Nat.le_of_eq hC.symm)
  freeC := fun x c e => I.freeC x c (hc.2 x c e)
  pin := fun p hp => by
    have hp' : p ∈ X.pn ++ pins := by
      have z : p ∈ (X.pn ++ pins) ++ [] := hp
      rw [List.append_nil] at z; exact z
    obtain ⟨e, n, ne, nf, d⟩ := I.pin p hp'
    refine ⟨keep _ _ e, n, fun z => ?_, fun z => ?_, d⟩
    · have := Heap.lt_size e; rw [show p.1 = C from z, hC] at this; exact Nat.lt_irrefl _ this
    · rcases List.mem_cons.mp (I.stkSub _ z) with q | q
      · exact ne q
      · exact nf q
  hok := I.hok.kept keep
  len := by show (frees src σ).length = N'.length; unfold frees; rw [List.length_map, hfree.len]
end
/-- the tests of a clause -/
def PTs (X : Cx) (ifs : List Expr) (t : TT) : Prop :=
  ∀ (pins : List (Addr × Obj)) (s : Shared) (σ : L2.St) (H : Hp) (Q : Bool → Hp → Prop), Inv X pins σ H s → t σ H Q →
    wpAny (model X.prog X.w) X.A (forIn ifs true fun c r => if r = true then do let ok ← isTrue c X.env (eval c X.env); pure (ForInStep.yield ok) else pure (ForInStep.yield r)) (TP X pins σ Q) X.xe s
def tYes : TT := fun _ H Q => Q true H
theorem pts_nil {X : Cx} : PTs X [] tYes := fun _ _ _ H _ I h => wpAny_tests_nil ⟨H, I, h⟩
theorem pts_one {X : Cx} {c : Expr} {t : TT} (h : PT X c t) : PTs X [c] t := fun pins s σ H Q I q => wpAny_tests_one (h pins s σ H Q I q)
section
variable {prog : Program} {w : World} {A : Around} {R : Result → Shared → Prop} {s : Shared}
theorem comp_loop {elt target iter : Expr} {ifs : List Expr} {scope : Scope} {pos : Pos} {it acc : Value} {env : Env} (I : Nat → Shared → Prop)
    (turn : ∀ n s, I n s → wpAny (model prog w) A (pyNext it) (fun r s₁ => match r with
      | none => R (.ok .next) s₁
      | some v => wpAny (model prog w) A (letOwnedTupleGo target it v) (fun _ s₁' => wpAny (model prog w) A (assign target env v) (fun _ s₂ =>
          wpAny (model prog w) A (forIn ifs true fun c r => if r = true then do let ok ← isTrue c env (eval c env); pure (ForInStep.yield ok) else pure (ForInStep.yield r)) (fun ok s₃ =>
            if ok = true then wpAny (model prog w) A (eval elt env) (fun x s₄ =>
              wpAny (model prog w) A (call (.builtin "list.append") [acc, x]) (fun _ s₅ => ∃ m, m < n ∧ I m s₅) (fun _ _ => False) s₄) (fun _ _ => False) s₃
            else ∃ m, m < n ∧ I m s₃) (fun _ _ => False) s₂) (fun _ _ => False) s₁') (fun _ _ => False) s₁) (fun _ _ => False) s)
    (n : Nat) (h : I n s) : codeAny (model prog w) A (.compLoop (.ListComp elt [⟨target, iter, ifs, 0⟩] scope pos) 0 it acc env) R s := by
  refine codeAny_loop rfl I (fun n s hI => ?_) n h
  show wpAny _ A ((compTurn (.ListComp elt [⟨target, iter, ifs, 0⟩] scope pos) 0 it acc env).onRaise (fun x => do noteFrame x env; theTreesLotGoes x)) _ _ s
  refine wpAny_noted ?_
  rw [compTurn_list]
  refine wpAny_bind (wpAny_standAt (wpAny_bind (wpAny_mono (turn n s hI) (fun r s₁ h₁ => ?_) fun _ _ h' => h'.elim)))
  cases r with
  | none => exact wpAny_pure h₁
  | some v =>
    refine wpAny_bind (wpAny_mono h₁ (fun _ s₁' h₁' => ?_) fun _ _ h' => h'.elim)
    refine wpAny_bind (wpAny_mono h₁' (fun _ s₂ h₂ => wpAny_bind (wpAny_mono h₂ (fun ok s₃ h₃ => ?_) fun _ _ h' => h'.elim)) fun _ _ h' => h'.elim)
    cases ok with
    | false => exact wpAny_pure ⟨rfl, h₃⟩
    | true =>
      exact wpAny_bind (wpAny_bind (wpAny_mono h₃ (fun x s₄ h₄ => wpAny_bind (wpAny_mono h₄ (fun _ s₅ h₅ => wpAny_pure (wpAny_pure ⟨rfl, h₅⟩)) fun _ _ h' => h'.elim)) fun _ _ h' => h'.elim))
end
/-- a block's own names: apart from all that is kept -/
structure OffC (X : Cx) (pins : List (Addr × Obj)) (H : Hp) (C : Addr) : Prop where
  no : H C = none
  lo : C ≠ X.env.locals
  fs : C ∉ X.fs
  old : X.s₀.heap.get? C = none
  ce : ∀ x c, X.env.cells.lookup x = some c → c ≠ C
  pn : ∀ p ∈ X.pn ++ pins, p.1 ≠ C
theorem OffC.turned {X : Cx} {pins : List (Addr × Obj)} {σ : L2.St} {H : Hp} {C : Addr} {s : Shared} (o : OffC X pins H C) (I : Inv X pins σ H s) {h' : Heap} (sb : Heap.SameBut C s.heap h') : Inv X pins σ H { s with heap := h' } :=
  I.turned (it := C) (t' := s.toks) (fun b u hb e => sb.extBut b u hb e) o.no o.lo (.inr o.old) o.ce o.pn
/-- the reading: D the new list, W the invariant (turn, measure, what stands in the list, heap) -/
def tComp (wi : TI) (src : List (Option Nat)) (g : TG) (tt : TT) (te : TE) : TE := fun σ H Q => wi σ H fun J H1 => ∀ D, H1 D = none → ∃ W : Nat → Nat → List V → Hp → Prop,
  (∃ m, W 0 m [] (upd H1 D (.lst []))) ∧ ∀ i m ys H, W i m ys H → (J.stop i H ∧ Q (.ref D) H) ∨ (J.go i H ∧ ∀ x H', J.yld i H x H' → g x (frees src σ) H' fun σ2 H2 => Ext (frees src σ) σ2 ∧ tt σ2 H2 fun ok H3 =>
    if ok = true then te σ2 H3 fun y H4 => H4 D = some (.lst ys) ∧ ys.length < sizeLine ∧ ∃ m', m' < m ∧ W (i + 1) m' (ys ++ [y]) (upd H4 D (.lst (ys ++ [y]))) else ∃ m', m' < m ∧ W (i + 1) m' ys H3)
section
variable {X : Cx} {N' : List Str} {scope : Scope} {cl : List (Str × Addr)} {src : List (Option Nat)} {tg iter elt : Expr} {ifs : List Expr} {wi : TI} {g : TG} {tt : TT} {te : TE} {pos : Pos}
theorem comp_run (hc : X.calm = true) (hi : PI X tg iter wi) (hg : ∀ C fp pins s H, PG (cxC X N' scope cl C fp pins s H) tg g) (ht : ∀ C fp pins s H, PTs (cxC X N' scope cl C fp pins s H) ifs tt)
    (he : ∀ C fp pins s H, PE (cxC X N' scope cl C fp pins s H) elt te) (hfree : FreeOk X scope cl N' src) (hcell : ∀ x ∈ scope.names, x.2 ≠ .cell) (hkind : scope.kind = .function) (hcl : CellsOk X scope cl)
    {RR : Value → Addr → Result → Shared → Prop} {pins : List (Addr × Obj)} {s : Shared} {σ : L2.St} {H : Hp} {Q : VK} (I : Inv X pins σ H s) (h : tComp wi src g tt te σ H Q)
    (hRR : ∀ D C H' s', Q (.ref D) H' → (∃ m, s'.heap.Ns C m) → Inv X pins σ H' s' → OffC X pins H' C → RR (.ref D) C (.ok .next) s') :
    wpAny (model X.prog X.w) X.A (eval iter X.env) (fun x s₁ => wpAny (model X.prog X.w) X.A (pyIter x) (fun itv s₂ => wpAny (model X.prog X.w) X.A (newList []) (fun acc s₃ =>
      wpAny (model X.prog X.w) X.A (newFunctionEnv scope X.env.globals cl [] X.env.qual none .none (some X.env)) (fun cenv s₄ =>
        codeAny (model X.prog X.w) X.A (.compStart (.ListComp elt [⟨tg, iter, ifs, 0⟩] scope pos) 0 itv acc { cenv with scope := relabel scope X.env }) (RR acc cenv.locals) s₄) X.xe s₃) X.xe s₂) X.xe s₁) X.xe s := by
  refine thn (hi pins s σ H _ I h) fun v s1 h1 => thn h1 fun itv s2 h2 => ?_
  obtain ⟨it, fp, tn, J, H2, e, I2, T, st2, f2, h2⟩ := h2
  subst e
  refine wpAny_newObj_type ?_ (by show 0 ≤ sizeLine; exact Nat.zero_le _)
  have hD : H2 s2.heap.objs.size = none := I2.fresh
  have I3 : Inv X pins σ (upd H2 s2.heap.objs.size (.lst [])) { s2 with heap := s2.heap.push { cls := .type "list", data := .seq ([] : List Value).toArray } } := I2.lnew (t' := s2.toks) (its := []) .nil (Nat.zero_le _)
  obtain ⟨W, ⟨m0, w0⟩, turn⟩ := h2 s2.heap.objs.size hD
  generalize hDe : s2.heap.objs.size = D at I3 turn w0 hD ⊢
  have st3 : tn 0 (s2.heap.push { cls := .type "list", data := .seq ([] : List Value).toArray }) := T.keep _ _ _ st2 fun b _ o e => Heap.get?_push_of_some _ e
  have f3 : ∀ b ∈ fp, FpOk X pins (upd H2 D (.lst [])) b ∧ b < (s2.heap.push { cls := .type "list", data := .seq ([] : List Value).toArray }).objs.size := fun b hb => by
    obtain ⟨o, e, _⟩ := T.obj _ _ st2 b hb
    have l := Heap.lt_size e
    rw [hDe] at l
    refine ⟨⟨?_, (f2 b hb).2⟩, by rw [Heap.size_push, hDe]; exact Nat.lt_succ_of_lt l⟩
    rw [upd_ne (Nat.ne_of_lt l)]; exact (f2 b hb).1
  generalize (s2.heap.push { cls := .type "list", data := .seq ([] : List Value).toArray }) = h3 at I3 st3 f3 ⊢
  refine wpAny_newFunctionEnv hcell (by intro y hy; simp at hy) (fun h₄ hns₄ hsb₄ => ?_) hkind
  have keep : ∀ b o, h3.get? b = some o → h₄.get? b = some o := fun b o e => hsb₄.extBut b o (Nat.ne_of_lt (Heap.lt_size e)) (Heap.get?_push_of_some _ e)
  have I4 := Inv.comp (C := h3.objs.size) (fp := fp) (tk := s2.toks + ([] : List (Str × Value)).length) I3 rfl hns₄ keep hkind (fun b hb => (f3 b hb).1) (fun b hb => (f3 b hb).2) hcl hfree
  have st4 : tn 0 h₄ := T.keep _ _ _ st3 fun b _ o e => keep b o e
  have fpn : ∀ b ∈ fp, (upd H2 D (.lst [])) b = none := fun b hb => (f3 b hb).1.1
  have hn3 : ∀ b ∈ fp, b ≠ h3.objs.size := fun b hb => Nat.ne_of_lt (f3 b hb).2
  have stat : ∀ {H' : Hp}, (∀ b ∈ fp, H' b = none) → ∀ b ∈ fp, FpOk (cxC X N' scope cl h3.objs.size fp pins { s2 with heap := h3 } (upd H2 D (.lst []))) [] H' b := fun hn b hb =>
    ⟨hn b hb, hn3 b hb, I4.ok.exfs b hb, .inl hb, fun x c e => (f3 b hb).1.2.2.2.2.1 x c (hcl.2 x c e), fun p hp => (f3 b hb).1.2.2.2.2.2 p (by
      have z : p ∈ (X.pn ++ pins) ++ [] := hp
      rw [List.append_nil] at z; exact z)⟩
  have back : ∀ {H' : Hp} {s' : Shared}, Inv (cxC X N' scope cl h3.objs.size fp pins { s2 with heap := h3 } (upd H2 D (.lst []))) [] (frees src σ) H' s' → (∃ m, s'.heap.Ns h3.objs.size m) ∧ Inv X pins σ H' s' ∧ OffC X pins H' h3.objs.size := fun {H' s'} I' => by
    have Ib : Inv X pins σ H' s' := I3.call' I'.os I'.base I'.hok I'.bare fun b hb => ⟨(f3 b hb).1.2.2.2.1, (f3 b hb).1.2.1, (f3 b hb).1.2.2.2.2.1, (f3 b hb).1.2.2.2.2.2⟩
    refine ⟨let ⟨m, hm, _⟩ := I'.loc; ⟨m, hm⟩, Ib, ⟨I'.free, fun z => ?_, I3.nofs (Nat.le_refl _), Heap.get?_none_of_le I3.sz, fun x c e z => ?_, fun p hp z => ?_⟩⟩
    · have := I3.lt; rw [← z] at this; exact Nat.lt_irrefl _ this
    · obtain ⟨v, o, ho, _⟩ := I3.cell x c e
      have := Heap.lt_size ho; rw [z] at this; exact Nat.lt_irrefl _ this
    · obtain ⟨e, _⟩ := I3.pin p hp
      have := Heap.lt_size e; rw [z] at this; exact Nat.lt_irrefl _ this
  have loop : codeAny (model X.prog X.w) X.A (.compLoop (.ListComp elt [⟨tg, iter, ifs, 0⟩] scope pos) 0 (.ref it) (.ref D) (compEnvC scope cl h3.objs.size X.env)) (RR (.ref D) h3.objs.size) { s2 with heap := h₄, toks := s2.toks + ([] : List (Str × Value)).length } := by
    refine comp_loop (fun n s' => ∃ i ys H', Inv (cxC X N' scope cl h3.objs.size fp pins { s2 with heap := h3 } (upd H2 D (.lst []))) [] (frees src σ) H' s' ∧ tn i s'.heap ∧ (∀ b ∈ fp, H' b = none) ∧ W i n ys H') ?_ m0 ⟨0, [], _, I4, st4, fpn, w0⟩
    rintro n s5 ⟨i, ys, H5, I5, st5, fr5, w5⟩
    rcases turn i n ys H5 w5 with ⟨stop, qn⟩ | ⟨go, step⟩
    · refine thn (T.done (cxC X N' scope cl h3.objs.size fp pins { s2 with heap := h3 } (upd H2 D (.lst []))) rfl rfl rfl hc i [] s5 _ H5 _ I5 (stat fr5) st5 stop) fun r s6 ⟨hr, I6⟩ => ?_
      subst hr
      obtain ⟨b1, b2, b3⟩ := back I6
      exact hRR D _ H5 s6 qn b1 b2 b3
    · refine thn (T.item (cxC X N' scope cl h3.objs.size fp pins { s2 with heap := h3 } (upd H2 D (.lst []))) rfl rfl rfl hc i [] s5 _ H5 _ I5 (stat fr5) st5 go) fun r s6 ⟨u, hr, h6⟩ => ?_
      subst hr
      refine thn h6 fun _ s7 ⟨x, H7, I7, r7, y7, st7, fr7⟩ => ?_
      have I7' := I7.pinned (stat fr7) (T.obj _ _ st7)
      refine thn (hg _ _ _ _ _ _ s7 _ H7 x u _ I7' r7 (step x H7 y7)) fun _ s8 ⟨σ8, H8, I8, ex8, q8⟩ => ?_
      refine thn (ht _ _ _ _ _ _ s8 σ8 H8 _ I8 q8) fun ok s9 ⟨H9, I9, q9⟩ => ?_
      have again : ∀ {ys' : List V} {Ha : Hp} {sa : Shared}, Inv (cxC X N' scope cl h3.objs.size fp pins { s2 with heap := h3 } (upd H2 D (.lst []))) ([] ++ pinsAt fp s7.heap) σ8 Ha sa → (∃ m', m' < n ∧ W (i + 1) m' ys' Ha) →
          ∃ m, m < n ∧ ∃ i ys H', Inv (cxC X N' scope cl h3.objs.size fp pins { s2 with heap := h3 } (upd H2 D (.lst []))) [] (frees src σ) H' sa ∧ tn i sa.heap ∧ (∀ b ∈ fp, H' b = none) ∧ W i m ys H' := fun {ys' Ha sa} Ia ⟨m', hm, wa⟩ => by
        refine ⟨m', hm, i + 1, ys', Ha, (Ia.unpinned).weak ex8.1.symm ex8.2, T.keep _ _ _ st7 fun b hb o e => (Ia.pin (b, o) (List.mem_append_right _ (List.mem_append_right _ (mem_pinsAt hb e)))).1, fun b hb => ?_, wa⟩
        obtain ⟨o, e, _⟩ := T.obj _ _ st7 b hb
        exact (Ia.pin (b, o) (List.mem_append_right _ (List.mem_append_right _ (mem_pinsAt hb e)))).2.1
      cases ok with
      | false => exact again I9 q9
      | true =>
        refine thn (he _ _ _ _ _ _ s9 σ8 H9 _ I9 q9) fun y s10 ⟨yv, H10, I10, r10, q10, hz, wn⟩ => ?_
        refine thn (mt_append _ s10 σ8 H10 (.ref D) [yv] (.ref D) [y] (fun _ Hz => ∃ m', m' < n ∧ W (i + 1) m' (ys ++ [yv]) Hz) I10 rfl (.cons r10 .nil) ⟨D, ys, yv, rfl, rfl, q10, hz, wn⟩) fun _ s11 ⟨_, H11, I11, _, q11⟩ => ?_
        exact again I11 q11
  exact codeAny_compStart_list loop (T.self _ 0 _ _ _ st4 loop)
theorem pe_lcomp (hc : X.calm = true) (hi : PI X tg iter wi) (hg : ∀ C fp pins s H, PG (cxC X N' scope cl C fp pins s H) tg g) (ht : ∀ C fp pins s H, PTs (cxC X N' scope cl C fp pins s H) ifs tt)
    (he : ∀ C fp pins s H, PE (cxC X N' scope cl C fp pins s H) elt te) (hfree : FreeOk X scope cl N' src) (hclos : closureFor scope X.env = pure cl) (hcell : ∀ x ∈ scope.names, x.2 ≠ .cell) (hkind : scope.kind = .function)
    (hnames : ∀ x ∈ scope.names, x.2 = .local → scope.names.lookup x.1 = some .local) (hcl : CellsOk X scope cl) (hs : ∀ x, foldedSetIterable iter X.env x = pure x := by intro _; rfl) :
    PE X (.ListComp elt [⟨tg, iter, ifs, 0⟩] scope pos) (tComp wi src g tt te) := by
  intro pins s σ H Q I h
  rw [eval_ListComp]
  refine wpAny_comprehension_free (use := none) rfl hs hclos hkind hnames (comp_run hc hi hg ht he hfree hcell hkind hcl (RR := fun acc C => compPost (model X.prog X.w) X.A X.xe none (EP X pins σ Q) acc C) I h fun D C H' s' q hm hI hb => ?_)
  obtain ⟨m, hm⟩ := hm
  exact ⟨m, hm, fun h' sb => ⟨.ref D, H', hb.turned hI sb, rfl, q⟩⟩
end
end B

namespace B
open PySem PySem.Spec L2 PyProof.Rows
/-! ### == and != of things whose inside is known -/
def rNeD (K : PySem.W.Frag) : R2 := fun x y H Q => ∃ d d', Deep K H x d ∧ Deep K H y d' ∧ d.canLay0 = true ∧ d'.canLay0 = true ∧ d.depth ≤ 32 ∧ Q (.bl (!PyData.eqv d d')) H
theorem op_neD {X : Cx} {k : Nat} (hr : Room k X.A) : OpR X (compareOp .NotEq) (rNeD X.K) := by
  intro pins s σ H x y v u Q I rx ry h
  obtain ⟨d, d', hd, hd', c, c', dp, q⟩ := h
  obtain ⟨as, ra⟩ := Deep.reads I hd rx
  obtain ⟨bs, rb⟩ := Deep.reads I hd' ry
  exact SeqAt.compareNe_reads ra rb c c' (by have := hr.units; omega) ⟨.bl _, H, I, rfl, q⟩
/-- the answers of == against x, item by item: x itself, or by what is read -/
noncomputable def hitAt (h : Heap) (x : Value) (d : PyData) (y : Value) : Bool :=
  open Classical in if y = x then true else if z : ∃ d', d'.canLay0 = true ∧ d'.depth ≤ 32 ∧ ∃ as, Reads h y d' as then PyData.eqv z.choose d else false
/-- all items' insides are known -/
def Known (K : PySem.W.Frag) (H : Hp) (xs : List V) : Prop := ∀ x ∈ xs, ∃ d, Deep K H x d ∧ d.canLay0 = true ∧ d.depth ≤ 32
/-- x not in xs, where x is one of them -/
def rNotInS (K : PySem.W.Frag) : R2 := fun x y H Q => ∃ a p xs, x = .ref a ∧ y = .ref p ∧ SqL K H p xs ∧ V.ref a ∈ xs ∧ Known K H xs ∧ Q (.bl false) H
/-- xs.index(x), x one of them: some place with the same inside -/
def rIndexS (K : PySem.W.Frag) : V → List V → Hp → VK → Prop := fun x vs H Q => ∃ p xs a d, x = .ref p ∧ vs = [.ref a] ∧ SqL K H p xs ∧ V.ref a ∈ xs ∧ Known K H xs ∧ Deep K H (.ref a) d ∧ d.canLay0 = true ∧ d.depth ≤ 32 ∧
  ∀ (j : Nat) (v' : V), xs[j]? = some v' → (v' = .ref a ∨ ∀ d', Deep K H v' d' → d'.canLay0 = true → PyData.eqv d' d = true) → Q (.int j) H
end B

namespace B
/-! ### ratios as pairs -/
abbrev R := Int × Int
def mkR (a b : Int) : R := (a / (Int.gcd a b : Int), b / (Int.gcd a b : Int))
structure Wf (n : Nat) (r : R) : Prop where
  pos : 0 < r.2
  top : r.1.natAbs < 2 ^ n
  bot : r.2.natAbs < 2 ^ n
  cop : Int.gcd r.1 r.2 = 1
theorem Wf.mono {n m : Nat} {r : R} (h : Wf n r) (l : n ≤ m) : Wf m r := ⟨h.pos, Nat.lt_of_lt_of_le h.top (Nat.pow_le_pow_right (by decide) l), Nat.lt_of_lt_of_le h.bot (Nat.pow_le_pow_right (by decide) l), h.cop⟩
theorem gcd_posR {a b : Int} (hb : 0 < b) : 0 < (Int.gcd a b : Int) := by
  have h : Int.gcd a b ≠ 0 := fun z => by
    have := (Int.gcd_eq_zero_iff.mp z).2
    omega
  omega
theorem natAbs_div_le (a : Int) {g : Int} (hg : 0 < g) : (a / g).natAbs ≤ a.natAbs := by
  have h1 := Int.ediv_mul_le a (show g ≠ 0 by omega)
  have h2 := Int.lt_ediv_add_one_mul_self a hg
  rcases Int.le_total 0 a with h | h
  · have h3 := Int.ediv_nonneg h (show 0 ≤ g by omega)
    have h4 : a / g ≤ a / g * g := by
      have : a / g * 1 ≤ a / g * g := Int.mul_le_mul_of_nonneg_left (by omega) h3
      omega
    omega
  · have h3 : a / g ≤ 0 := by
      have := Int.ediv_le_ediv hg h
      rw [Int.zero_ediv] at this; exact this
    have h5 : a ≤ a / g := by
      have : a / 1 ≤ a / g := by
        have q : (a / g + 1) * g ≤ (a / g + 1) * 1 ∨ 0 < a / g + 1 := by
          rcases Int.le_total (a / g + 1) 0 with z | z
          · left
            have := Int.mul_le_mul_of_nonneg_left (a := 1) (b := g) (c := -(a / g + 1)) (by omega) (by omega)
            have e1 : -(a / g + 1) * 1 = -((a / g + 1) * 1) := Int.neg_mul _ _
            have e2 : -(a / g + 1) * g = -((a / g + 1) * g) := Int.neg_mul _ _
            omega
          · rcases Int.lt_or_eq_of_le z with z | z
            · right; exact z
            · left; rw [← z]; simp
        rw [Int.ediv_one]
        rcases q with q | q
        · omega
        · omega
      rw [Int.ediv_one] at this; exact this
    omega
theorem mkR_wf {n : Nat} {a b : Int} (hb : 0 < b) (h1 : a.natAbs < 2 ^ n) (h2 : b.natAbs < 2 ^ n) : Wf n (mkR a b) :=
  ⟨Int.ediv_pos_of_pos_of_dvd hb (Int.le_of_lt (gcd_posR hb)) (Int.gcd_dvd_right a b), Nat.lt_of_le_of_lt (natAbs_div_le _ (gcd_posR hb)) h1, Nat.lt_of_le_of_lt (natAbs_div_le _ (gcd_posR hb)) h2, Int.gcd_ediv_gcd_ediv_gcd (by have := gcd_posR (a := a) hb; omega)⟩
def plusR (r q : R) : R := mkR (r.1 * q.2 + q.1 * r.2) (r.2 * q.2)
def timesR (r q : R) : R := mkR (r.1 * q.1) (r.2 * q.2)
def lessR (r q : R) : Bool := decide (r.1 * q.2 < q.1 * r.2)
theorem mul_lt {x y : Int} {n m : Nat} (h1 : x.natAbs < 2 ^ n) (h2 : y.natAbs < 2 ^ m) : (x * y).natAbs < 2 ^ (n + m) := by
  rw [Int.natAbs_mul, Nat.pow_add]
  exact Nat.mul_lt_mul'' h1 h2
theorem plus_top {n m : Nat} {r q : R} (h : Wf n r) (k : Wf m q) : (r.1 * q.2 + q.1 * r.2).natAbs < 2 ^ (n + m + 1) := by
  have a := mul_lt h.top k.bot
  have b := mul_lt k.top h.bot
  rw [Nat.add_comm m n] at b
  have e : 2 ^ (n + m + 1) = 2 * 2 ^ (n + m) := by rw [Nat.pow_succ, Nat.mul_comm]
  have := Int.natAbs_add_le (r.1 * q.2) (q.1 * r.2)
  omega
theorem plus_wf {n m : Nat} {r q : R} (h : Wf n r) (k : Wf m q) : Wf (n + m + 1) (plusR r q) :=
  mkR_wf (Int.mul_pos h.pos k.pos) (plus_top h k) (Nat.lt_of_lt_of_le (mul_lt h.bot k.bot) (Nat.pow_le_pow_right (by decide) (Nat.le_succ _)))
theorem times_wf {n m : Nat} {r q : R} (h : Wf n r) (k : Wf m q) : Wf (n + m) (timesR r q) :=
  mkR_wf (Int.mul_pos h.pos k.pos) (mul_lt h.top k.top) (mul_lt h.bot k.bot)
end B

namespace B
open PySem L2 PyProof.Rows
/-! ### big products and quotients -/
def CBig (i j : Int) : Prop := i.natAbs < 2 ^ 4000 ∧ j.natAbs < 2 ^ 4000
def CQuo (_ j : Int) : Prop := 0 < j ∧ j.natAbs < 2 ^ 4000
theorem bits_of {i : Int} (h : i.natAbs < 2 ^ 4000) : Builtin.Int.intBits i ≤ 2 ^ 20 := by
  unfold Builtin.Int.intBits
  split
  · exact Nat.zero_le _
  · rename_i z
    have hz : i.natAbs ≠ 0 := fun q => z (by have : i = 0 := by omega
                                             rw [this]; rfl)
    have := (Nat.log2_lt hz).mpr h
    have e : (2 : Nat) ^ 20 = 1048576 := by decide
    omega
section
variable {X : Cx}
theorem op_mulB : OpR X (binaryOp .Mult) (rI CBig fun i j => .int (i * j)) := opI fun _ _ _ _ _ _ _ hc q => mul_int q (IntMulOk.of_bits (bits_of hc.1) (bits_of hc.2))
theorem op_quo : OpR X (binaryOp .FloorDiv) (rI CQuo fun i j => .int (i / j)) := opI fun i j _ _ _ _ _ hc q => by
  have h1 : (0 : Int) < j := hc.1
  have h2 : j.natAbs < 2 ^ 4000 := hc.2
  refine floordiv_int (by omega) (by rw [Int.fdiv_eq_ediv_of_nonneg i (by omega)]; exact q) (.inl (PyProof.noPylong_of_log2 ?_))
  exact Nat.lt_trans ((Nat.log2_lt (show j.natAbs ≠ 0 by omega)).mpr h2) (by decide)
end
/-! ### what stays of tuples -/
def Tst (K : PySem.W.Frag) (H H' : Hp) : Prop := ∀ p xs, SqT K H p xs → SqT K H' p xs
theorem Tst.refl (K : PySem.W.Frag) (H : Hp) : Tst K H H := fun _ _ h => h
theorem Tst.trans {K : PySem.W.Frag} {H H1 H2 : Hp} (a : Tst K H H1) (b : Tst K H1 H2) : Tst K H H2 := fun p xs h => b p xs (a p xs h)
theorem Tst.same {K : PySem.W.Frag} {H H' : Hp} (s : Same H H') : Tst K H H' := fun p xs h => by
  rcases h with (h | ⟨o, h⟩) | h
  · exact .inl (.inl (s _ _ h))
  · exact .inl (.inr ⟨o, s _ _ h⟩)
  · exact .inr h
theorem Tst.step {K : PySem.W.Frag} {t : Addr} {H H' : Hp} (S : Step t H H') : Tst K H H' := fun p xs h => by
  obtain ⟨ys, ht⟩ := S.tp
  rcases h with (h | ⟨o, h⟩) | h
  · exact .inl (.inl (S.keep _ _ (fun z => by subst z; rw [h] at ht; cases ht) h))
  · exact .inl (.inr ⟨o, S.keep _ _ (fun z => by subst z; rw [h] at ht; cases ht) h⟩)
  · exact .inr h
theorem Tst.up {K : PySem.W.Frag} {H : Hp} {l : Addr} {xs : List V} (h : H l = some (.lst xs)) (ys : List V) : Tst K H (upd H l (.lst ys)) := Tst.step (Step.up h)
/-- the value is the ratio r -/
def RV (K : PySem.W.Frag) (H : Hp) (v : V) (r : R) : Prop := ∃ p, v = .ref p ∧ SqT K H p [.int r.1, .int r.2]
theorem RV.mono {K : PySem.W.Frag} {H H' : Hp} {v : V} {r : R} (h : RV K H v r) (t : Tst K H H') : RV K H' v r := let ⟨p, e, q⟩ := h; ⟨p, e, t _ _ q⟩
theorem RV.of {K : PySem.W.Frag} {H : Hp} {p : Addr} {a b : Int} (h : H p = some (.tup [.int a, .int b])) : RV K H (.ref p) (a, b) := ⟨p, rfl, SqT.of h⟩
/-- the values are the ratios rs -/
def RVs (K : PySem.W.Frag) (H : Hp) (xs : List V) (rs : List R) : Prop := xs.length = rs.length ∧ ∀ (i : Nat) (x : V) (r : R), xs[i]? = some x → rs[i]? = some r → RV K H x r
/-- r to k -/
def powR (r : R) : Nat → R
  | 0 => (1, 1)
  | k + 1 => timesR (powR r k) r
theorem zero_wf : Wf 1 (0, 1) := ⟨by decide, by decide, by decide, by decide⟩
def sumR (rs : List R) : R := rs.foldl plusR (0, 1)
/-- a ratio's data -/
def dR (r : R) : PyData := .tuple [.int r.1, .int r.2]
theorem RV.deep {K : PySem.W.Frag} {H : Hp} {v : V} {r : R} (h : RV K H v r) : Deep K H v (dR r) := by
  obtain ⟨p, rfl, q⟩ := h
  exact .tup q (.cons (.int _) (.cons (.int _) .nil))
theorem dR_lay (r : R) : (dR r).canLay0 = true := rfl
theorem log_of {i : Int} {n : Nat} (h : i.natAbs < 2 ^ n) (hn : n ≤ 1900) : i.natAbs.log2 < 1920 := by
  by_cases z : i.natAbs = 0
  · rw [z]; decide
  · have := (Nat.log2_lt z).mpr (Nat.lt_of_lt_of_le h (Nat.pow_le_pow_right (by decide) hn))
    omega
theorem len_of {i : Int} {n : Nat} (h : i.natAbs < 2 ^ n) (hn : n ≤ 1900) : (PyData.int i).shown.length ≤ 1921 := by
  have q := int_text_length_le (a := i) (k := 1920) (by decide) (log_of h hn)
  have e : (PyData.int i).shown.length = (toString i).length := by
    show (Str.ofString (toString i)).length = _
    exact PySem.ofString_length _
  omega
theorem dR_shows {r : R} {n : Nat} (h : Wf n r) (hn : n ≤ 1900) : Shows (dR r) where
  sh := by
    show (decide (r.1.natAbs.log2 < 1920) && (decide (r.2.natAbs.log2 < 1920) && true)) = true
    rw [decide_eq_true (log_of h.top hn), decide_eq_true (log_of h.bot hn)]; rfl
  nd := rfl
  sz := by
    have a := len_of h.top hn
    have b := len_of h.bot hn
    have q := tupleText_len_le [(PyData.int r.1).shown, (PyData.int r.2).shown]
    have e : (dR r).shown = tupleText [(PyData.int r.1).shown, (PyData.int r.2).shown] := rfl
    rw [e]
    simp only [List.map_cons, List.map_nil, List.sum_cons, List.sum_nil, List.length_cons, List.length_nil] at q
    have : sizeLine = 16777216 := by decide
    omega
  dp := by show max 0 (max 0 0) + 1 ≤ 16; decide
theorem eqv_dR {r q : R} (h : PyData.eqv (dR r) (dR q) = true) : r = q := by
  have z : (r.1 == q.1 && (r.2 == q.2 && true)) = true := h
  simp only [Bool.and_true, Bool.and_eq_true, beq_iff_eq] at z
  exact Prod.ext z.1 z.2
theorem eqv_same (r : R) : PyData.eqv (dR r) (dR r) = true := by
  show (r.1 == r.1 && (r.2 == r.2 && true)) = true
  simp
end B
namespace B
open PySem L2 PyProof.Rows
def dL (rs : List R) : PyData := .list (rs.map dR)
/-- over a list or a tuple -/
def iSeq (K : PySem.W.Frag) (tl : TE) : TI := fun σ H R => tl σ H fun x H1 => (∃ a, x = .ref a ∧ (∃ xs, SqL K H1 a xs) ∧ R (Itl K a) H1) ∨ (∃ a, x = .ref a ∧ (∃ xs, SqT K H1 a xs) ∧ R (Itt K a) H1)
end B

namespace B
/-! ### ratios in lowest terms -/
structure Red (r : R) : Prop where
  pos : 0 < r.2
  cop : Int.gcd r.1 r.2 = 1
theorem mkR_red {a b : Int} (hb : 0 < b) : Red (mkR a b) :=
  ⟨Int.ediv_pos_of_pos_of_dvd hb (Int.le_of_lt (gcd_posR hb)) (Int.gcd_dvd_right a b), Int.gcd_ediv_gcd_ediv_gcd (by have := gcd_posR (a := a) hb; omega)⟩
theorem mkR_uniq {a b x y : Int} (hb : 0 < b) (hy : 0 < y) (g : Int.gcd x y = 1) (e : x * b = a * y) : mkR a b = (x, y) := by
  have h1 : Int.gcd (a * y) (b * y) = Int.gcd a b * y.natAbs := Int.gcd_mul_right a y b
  have h2 : Int.gcd (x * b) (y * b) = Int.gcd x y * b.natAbs := Int.gcd_mul_right x b y
  rw [e, Int.mul_comm y b, h1, g, Nat.one_mul] at h2
  have h3 : (Int.gcd a b : Int) * y = b := by
    have z : ((Int.gcd a b * y.natAbs : Nat) : Int) = (b.natAbs : Int) := congrArg _ h2
    rw [Int.natCast_mul, Int.natAbs_of_nonneg (by omega), Int.natAbs_of_nonneg (by omega)] at z
    exact z
  have gp := gcd_posR (a := a) hb
  have h4 : a = x * (Int.gcd a b : Int) := by
    have z : x * (Int.gcd a b : Int) * y = a * y := by rw [Int.mul_assoc, h3]; exact e
    exact (Int.eq_of_mul_eq_mul_right (by omega) z).symm
  unfold mkR
  generalize (Int.gcd a b : Int) = G at h3 h4 gp
  subst h4
  subst h3
  rw [Int.mul_ediv_cancel _ (by omega), Int.mul_ediv_cancel_left _ (by omega)]
theorem cop_left {a b c : Int} (h : Int.gcd a b = 1) (d : c ∣ a) : Int.gcd c b = 1 :=
  Int.gcd_eq_one_iff.mpr fun z h1 h2 => Int.gcd_eq_one_iff.mp h z (Int.dvd_trans h1 d) h2
theorem cop_right {a b c : Int} (h : Int.gcd a b = 1) (d : c ∣ b) : Int.gcd a c = 1 := by
  rw [Int.gcd_comm]
  exact cop_left (by rw [Int.gcd_comm]; exact h) d
theorem cop_mul {a b c : Int} (h : Int.gcd a b = 1) (k : Int.gcd a c = 1) : Int.gcd a (b * c) = 1 := by
  rw [Int.gcd_mul_right_right_of_gcd_eq_one h]; exact k
theorem cop_mulL {a b c : Int} (h : Int.gcd a c = 1) (k : Int.gcd b c = 1) : Int.gcd (a * b) c = 1 := by
  rw [Int.gcd_comm]
  exact cop_mul (by rw [Int.gcd_comm]; exact h) (by rw [Int.gcd_comm]; exact k)
/-- a divisor and what is left -/
theorem gcd_parts {a b : Int} (hb : 0 < b) : ∃ g x y : Int, (Int.gcd a b : Int) = g ∧ 0 < g ∧ a = g * x ∧ b = g * y ∧ Int.gcd x y = 1 := by
  have gp := gcd_posR (a := a) hb
  obtain ⟨x, hx⟩ := Int.gcd_dvd_left a b
  obtain ⟨y, hy⟩ := Int.gcd_dvd_right a b
  refine ⟨_, x, y, rfl, gp, hx, hy, ?_⟩
  have z := Int.gcd_ediv_gcd_ediv_gcd (i := a) (j := b) (by omega)
  have e1 : a / (Int.gcd a b : Int) = x := by
    conv => lhs; lhs; rw [hx]
    exact Int.mul_ediv_cancel_left _ (by omega)
  have e2 : b / (Int.gcd a b : Int) = y := by
    conv => lhs; lhs; rw [hy]
    exact Int.mul_ediv_cancel_left _ (by omega)
  rw [e1, e2] at z
  exact z
theorem pos_of {g y b : Int} (hb : 0 < b) (hg : 0 < g) (e : b = g * y) : 0 < y := by
  rcases Int.lt_or_le 0 y with h | h
  · exact h
  · have := Int.mul_le_mul_of_nonneg_left h (Int.le_of_lt hg)
    rw [Int.mul_zero] at this
    omega
/-- the sum as it is reckoned by the divisor of the bottoms -/
def plusG (r q : R) : R :=
  let d : Int := (Int.gcd r.2 q.2 : Nat)
  let t := r.1 * (q.2 / d) + q.1 * (r.2 / d)
  let e : Int := (Int.gcd t d : Nat)
  (t / e, r.2 / d * (q.2 / e))
theorem plusG_eq {r q : R} (hr : Red r) (hq : Red q) : plusG r q = plusR r q := by
  obtain ⟨d, u, v, e0, dp, e1, e2, cuv⟩ := gcd_parts (a := r.2) hq.pos
  have up := pos_of hr.pos dp e1
  have vp := pos_of hq.pos dp e2
  obtain ⟨e, x, w, f0, ep, f1, f2, cxw⟩ := gcd_parts (a := r.1 * v + q.1 * u) dp
  have wp := pos_of dp ep f2
  have du : r.2 / d = u := by rw [e1]; exact Int.mul_ediv_cancel_left _ (by omega)
  have dv : q.2 / d = v := by rw [e2]; exact Int.mul_ediv_cancel_left _ (by omega)
  have te : (r.1 * v + q.1 * u) / e = x := by rw [f1]; exact Int.mul_ediv_cancel_left _ (by omega)
  have qe : q.2 / e = w * v := by rw [e2, f2, Int.mul_assoc]; exact Int.mul_ediv_cancel_left _ (by omega)
  have c1 : Int.gcd r.1 u = 1 := cop_right hr.cop ⟨d, by rw [e1, Int.mul_comm]⟩
  have c2 : Int.gcd q.1 v = 1 := cop_right hq.cop ⟨d, by rw [e2, Int.mul_comm]⟩
  have xd : x ∣ (r.1 * v + q.1 * u) := ⟨e, by rw [f1, Int.mul_comm]⟩
  have t1 : Int.gcd (r.1 * v + q.1 * u) u = 1 := by
    rw [Int.gcd_comm, Int.gcd_add_mul_right_right, Int.gcd_comm]
    exact cop_mulL c1 (by rw [Int.gcd_comm]; exact cuv)
  have t2 : Int.gcd (r.1 * v + q.1 * u) v = 1 := by
    rw [Int.add_comm, Int.gcd_comm, Int.gcd_add_mul_right_right, Int.gcd_comm]
    exact cop_mulL c2 cuv
  have cx : Int.gcd x (u * (w * v)) = 1 := cop_mul (cop_left t1 xd) (cop_mul cxw (cop_left t2 xd))
  have z : plusG r q = (x, u * (w * v)) := by
    unfold plusG
    simp only [e0, du, dv, f0, te, qe]
  rw [z]
  unfold plusR
  refine (mkR_uniq (Int.mul_pos hr.pos hq.pos) (Int.mul_pos up (Int.mul_pos wp vp)) cx ?_).symm
  have k : r.1 * q.2 + q.1 * r.2 = d * (e * x) := by
    rw [e1, e2, ← f1, Int.mul_add]
    rw [Int.mul_left_comm r.1 d v, Int.mul_left_comm q.1 d u]
  rw [k, e1, e2]
  have k2 : d * u * (d * v) = d * u * (e * w * v) := by rw [← f2]
  rw [k2]
  ac_rfl
def timesG (r q : R) : R :=
  let l : Int := (Int.gcd r.1 q.2 : Nat)
  let m : Int := (Int.gcd q.1 r.2 : Nat)
  (r.1 / l * (q.1 / m), r.2 / m * (q.2 / l))
theorem timesG_eq {r q : R} (hr : Red r) (hq : Red q) : timesG r q = timesR r q := by
  obtain ⟨l, a, b, e0, lp, e1, e2, cab⟩ := gcd_parts (a := r.1) hq.pos
  obtain ⟨m, c, d, f0, mp, f1, f2, ccd⟩ := gcd_parts (a := q.1) hr.pos
  have bp := pos_of hq.pos lp e2
  have dp := pos_of hr.pos mp f2
  have z : timesG r q = (a * c, d * b) := by
    unfold timesG
    simp only [e0, f0]
    rw [show r.1 / l = a by rw [e1]; exact Int.mul_ediv_cancel_left _ (by omega), show q.2 / l = b by rw [e2]; exact Int.mul_ediv_cancel_left _ (by omega),
      show q.1 / m = c by rw [f1]; exact Int.mul_ediv_cancel_left _ (by omega), show r.2 / m = d by rw [f2]; exact Int.mul_ediv_cancel_left _ (by omega)]
  have cad : Int.gcd a d = 1 := cop_left (cop_right hr.cop ⟨m, by rw [f2, Int.mul_comm]⟩) ⟨l, by rw [e1, Int.mul_comm]⟩
  have ccb : Int.gcd c b = 1 := cop_left (cop_right hq.cop ⟨l, by rw [e2, Int.mul_comm]⟩) ⟨m, by rw [f1, Int.mul_comm]⟩
  rw [z]
  unfold timesR
  refine (mkR_uniq (Int.mul_pos hr.pos hq.pos) (Int.mul_pos dp bp) (cop_mul (cop_mulL cad ccd) (cop_mulL cab ccb)) ?_).symm
  rw [e1, e2, f1, f2]
  ac_rfl
theorem times_red {r q : R} (hr : Red r) (hq : Red q) : Red (timesR r q) := mkR_red (Int.mul_pos hr.pos hq.pos)
theorem pow_eq_red {r : R} (hr : Red r) : ∀ k : Nat, powR r k = (r.1 ^ k, r.2 ^ k)
  | 0 => by rw [Int.pow_zero, Int.pow_zero]; rfl
  | k + 1 => by
    show timesR (powR r k) r = _
    rw [pow_eq_red hr k]
    unfold timesR
    refine mkR_uniq (Int.mul_pos (Int.pow_pos hr.pos) hr.pos) (Int.pow_pos hr.pos) (Int.pow_gcd_pow_of_gcd_eq_one hr.cop) ?_
    rw [Int.pow_succ, Int.pow_succ]
end B

namespace B
open PySem L2 PyProof.Rows
/-! ### quotients by numbers of either sign -/
def CQuoN (_ j : Int) : Prop := j ≠ 0 ∧ j.natAbs < 2 ^ 4000
/-- the ratio of any two numbers, the second not nought -/
def mkS (a b : Int) : R := if b < 0 then mkR (-a) (-b) else mkR a b
def minusR (r q : R) : R := mkR (r.1 * q.2 - q.1 * r.2) (r.2 * q.2)
def overR (r q : R) : R := mkS (r.1 * q.2) (r.2 * q.1)
theorem minus_wf {n m : Nat} {r q : R} (h : Wf n r) (k : Wf m q) : Wf (n + m + 1) (minusR r q) := by
  refine mkR_wf (Int.mul_pos h.pos k.pos) ?_ (Nat.lt_of_lt_of_le (mul_lt h.bot k.bot) (Nat.pow_le_pow_right (by decide) (Nat.le_succ _)))
  have a := mul_lt h.top k.bot
  have b := mul_lt k.top h.bot
  rw [Nat.add_comm m n] at b
  have e : 2 ^ (n + m + 1) = 2 * 2 ^ (n + m) := by rw [Nat.pow_succ, Nat.mul_comm]
  have := Int.natAbs_sub_le (r.1 * q.2) (q.1 * r.2)
  omega
/-! ### lists and tuples of short things, shown -/
structure Small (d : PyData) : Prop where
  sh : d.showable = true
  nd : d.hasDict = false
  sz : d.shown.length ≤ 5000
  dp : d.depth ≤ 8
theorem small_dR {r : R} {n : Nat} (h : Wf n r) (hn : n ≤ 1900) : Small (dR r) where
  sh := (dR_shows h hn).sh
  nd := rfl
  sz := by
    have a := len_of h.top hn
    have b := len_of h.bot hn
    have q := tupleText_len_le [(PyData.int r.1).shown, (PyData.int r.2).shown]
    have e : (dR r).shown = tupleText [(PyData.int r.1).shown, (PyData.int r.2).shown] := rfl
    rw [e]
    simp only [List.map_cons, List.map_nil, List.sum_cons, List.sum_nil, List.length_cons, List.length_nil] at q
    omega
  dp := by show max 0 (max 0 0) + 1 ≤ 8; decide
end B

namespace B
theorem mkR_cross {a b : Int} (hb : 0 < b) : (mkR a b).1 * b = a * (mkR a b).2 := by
  obtain ⟨g, x, y, _, gp, e1, e2, c⟩ := gcd_parts (a := a) hb
  have yp := pos_of hb gp e2
  have e : x * b = a * y := by rw [e1, e2]; ac_rfl
  rw [mkR_uniq hb yp c e]
  exact e
theorem minus_eq (r q : R) : plusR r (-q.1, q.2) = minusR r q := by
  unfold plusR minusR
  rw [Int.neg_mul, ← Int.sub_eq_add_neg]
end B

namespace B
open PySem PySem.Spec L2 PyProof.Rows
/-! ### an own class of errors, made: its own __init__ behind BaseException's __new__ -/
section
variable {prog : Program} {w : World} {A : Around} {E : Value → Shared → Prop} {h : Heap} {g : Array GenState} {d : Drawn} {t : Nat} {os : OsState} {K : PySem.W.Frag}
variable {nm q : Str} {C N : Addr} {bs bm bmB : List Value} {hdct : Bool} {sn : List Str} {sub : List Value} {ab : Bool} {col : Option Bool} {dd : Option Addr} {k0 k1 k2 k3 k5 : Option Value} {bN newId initId : String}
theorem exc_typecall (F : ExcBaseFacts bN newId initId bmB) (T : OwnTail h bmB bm) {rest : List Value} {fI : Addr} {Q : Fin → Shared → Prop} (X : K.In h)
    (hC : h.get? C = some (excClassObj nm q C N bs bm hdct sn sub ab col dd k0 k1 k2 k3 k5 newId)) (hi : PySem.W.findIn K (.ref C) "__init__" = some (some (.ref fI))) (hf : PySem.W.typeIn K (.ref fI) = some (.type "function"))
    (hq : ∀ h' e, Heap.MadeExcOf h h' e (.ref C) rest → wpAny (model prog w) A (call (.ref fI) (.ref e :: rest)) (fun r s' => r = .none ∧ Q (.done (.ret (.ref e))) s') E ⟨h', g, d, t, os⟩) (hz : rest.length ≤ sizeLine) :
    wpAny (model prog w) A (Builtin.«type.__call__» ⟨.ref C :: rest, []⟩) Q E ⟨h, g, d, t, os⟩ := by
  repeat (first
    | with_reducible refine wpAny_loadPart_at hC ?_
    | with_reducible refine wpAny_madeBy_exc hC ?_
    | wp_step)
  refine codeAny_call_builtin_code (Code.quiet_builtin _ F.quiet)
    (wpAny_check_new_subT F T hC ?_)
  refine codeAny_exc_new_subT F T hC ?_ hz
  show wpAny _ _ _ _ _ _
  have up : ∀ b o, h.get? b = some o → ((h.push { cls := .type "tuple", data := .seq rest.toArray }).push
      { cls := .ref C, data := .fields #[.ref h.objs.size, .none, .none, .none, .bool false, .none] }).get? b = some o := fun b o e =>
    Heap.get?_push_of_some _ (Heap.get?_push_of_some _ e)
  have hC₁ := up _ _ hC
  have X₁ := X.keeps up
  have hx : ((h.push { cls := .type "tuple", data := .seq rest.toArray }).push
      { cls := .ref C, data := .fields #[.ref h.objs.size, .none, .none, .none, .bool false, .none] }).get? (h.objs.size + 1) =
      some { cls := .ref C, data := .fields #[.ref h.objs.size, .none, .none, .none, .bool false, .none] } := by heap_get
  have hcC : (Value.ref C :: bm).contains (.ref C) = true := by simp
  unfold isInstance
  repeat (first
    | with_reducible refine wpAny_loadPart_at hx ?_
    | (with_reducible refine wpAny_isSubtype_exc hC₁ ?_
       rw [hcC])
    | wp_step)
  show wpAny _ _ (typeLookup (.ref C) _) _ _ _
  refine (PySem.W.looks_findIn X₁ hi) _ _ _ _ (fun _ _ e => e) ?_
  refine wpAny_holding (wpAny_bind ?_)
  refine (PySem.W.bind_fn X₁ _ hf) _ _ _ _ (fun _ _ e => e) ?_
  refine wpAny_bind (wpAny_mono (hq _ (h.objs.size + 1)
    ⟨up, Heap.get?_none_of_le (Nat.le_succ _), h.objs.size, hx, Heap.get?_none_of_le (Nat.le_refl _), ?_⟩) (fun r s' hr => ?_) fun _ _ y => y)
  · exact Heap.get?_push_of_some _ (Heap.get?_push_at rfl rfl)
  · obtain ⟨rfl, hQ⟩ := hr
    wp_walk
    exact hQ
theorem exc_call (F : ExcBaseFacts bN newId initId bmB) (T : OwnTail h bmB bm) {rest : List Value} {fI : Addr} {Q : Value → Shared → Prop} (X : K.In h)
    (hC : h.get? C = some (excClassObj nm q C N bs bm hdct sn sub ab col dd k0 k1 k2 k3 k5 newId)) (hi : PySem.W.findIn K (.ref C) "__init__" = some (some (.ref fI))) (hf : PySem.W.typeIn K (.ref fI) = some (.type "function"))
    (hq : ∀ h' e, Heap.MadeExcOf h h' e (.ref C) rest → wpAny (model prog w) (A.under (.builtin "type.__call__" ⟨.ref C :: rest, []⟩)) (call (.ref fI) (.ref e :: rest)) (fun r s' => r = .none ∧ Q (.ref e) s') E ⟨h', g, d, t, os⟩) (hz : rest.length ≤ sizeLine) :
    wpAny (model prog w) A (call (.ref C) rest) Q E ⟨h, g, d, t, os⟩ := by
  have f1 := tc_lookup
  have f2 := tc_bind (.ref C)
  have hT : (⟨h, g, d, t, os⟩ : Shared).TypeIs (.ref C) "type" := ⟨_, hC, rfl⟩
  refine wpAny_call (codeAny_of_tree ?_)
  show wpAny _ _ (callAny (.ref C) _) _ _ _
  repeat (any_goals (first
    | assumption
    | with_reducible refine wpAny_loadPart_at hC ?_
    | wp_step))
  refine ⟨rfl, ?_⟩
  refine codeAny_call_builtin_at (Code.quiet_builtin _ (by decide +kernel)) entry_typeCall
    (wpAny_check_type_call_sub hC (exc_typecall F T X hC hi hf (fun h' e hm => ?_) hz))
  exact hq h' e hm
end
end B
namespace B
open PySem PySem.Spec L2 PyProof.Rows
def vMro : List Value := [.type "ValueError", .type "Exception", .type "BaseException", .type "object"]
/-- what storing into an error asks of its class -/
structure ClsX (K : PySem.W.Frag) (C : Addr) (bm : List Value) : Prop where
  ob : ∃ nm q N bs hdct sn sub ab col dd k0 k1 k2 k3 k5, K.lookup C = some (excClassObj nm q C N bs bm hdct sn sub ab col dd k0 k1 k2 k3 k5 "ValueError.__new__")
  tl : ∀ h : Heap, K.In h → OwnTail h vMro bm
  hd : PySem.W.hasDictIn K C = true
  sa : PySem.W.findIn K (.ref C) "__setattr__" = some (some (.builtin "object.__setattr__"))
theorem lets_by {h : Heap} {tl : List Value} (T : OwnTail h vMro tl) (self : Value) : refuseLoop self "__setattr__" tl = pure () := by
  induction T with
  | base => exact PySem.F.store_ValueError.passes self
  | own _ _ _ _ ih => rw [refuseLoop_ref]; exact ih
theorem clsX_cls {K : PySem.W.Frag} {C : Addr} {bm : List Value} (c : ClsX K C bm) : ∃ cd, PySem.W.clsIn K C = some cd ∧ cd.mro = .ref C :: bm := by
  obtain ⟨nm, q, N, bs, hdct, sn, sub, ab, col, dd, k0, k1, k2, k3, k5, lk⟩ := c.ob
  unfold PySem.W.clsIn
  rw [lk]
  exact ⟨_, rfl, rfl⟩
section
variable {prog : Program} {w : World} {A : Around} {s : Shared} {K : PySem.W.Frag} {x C : Addr} {R : Result → Shared → Prop}
theorem store_err {ox : Obj} {od : Option Obj} {name : Str} {tk : Tok} {v : Value} {bm : List Value} (X : K.In s.heap) (I : PySem.W.InstAt s.heap x ox C od) (c : ClsX K C bm) (n : NoAttr K C name)
    (h : ∀ b, wpAny (model prog w) A.in1 (Builtin.ObjectAttr.storeInOwnDict (.ref x) (.ref C) (.str name tk) name v b) (fun fin s' => match fin with
      | .done f => R (.ok f) s'
      | .again c' => c'.quiet = true ∧ codeAny (model prog w) A c' R s') (fun e s' => R (.error e) s') s) :
    codeAny (model prog w) A (.call (.builtin "object.__setattr__") ⟨[.ref x, .str name tk, v], []⟩) R s := by
  have sf := PySem.F.store_object
  obtain ⟨cd, hc, hm⟩ := clsX_cls c
  have T := c.tl _ X
  have hob : (Value.ref C :: bm).contains (.type "object") = true := by
    rw [List.contains_cons, T.hasType (X := "object") (b := true) (by decide +kernel), Bool.or_true]
  have isO : PySem.W.Looks (model prog w) s.heap (isInstance (.ref x) (.type "object")) true := by
    refine I.type.andThen (PySem.W.looks_mroIn X ?_)
    unfold PySem.W.mroIn
    rw [hc]
    show (if cd.mro.isEmpty = true then none else some (cd.mro.contains (.type "object"))) = some true
    rw [hm, hob]; rfl
  have ms : PySem.W.Looks (model prog w) s.heap (mroOf (.ref C)) (.ref C :: bm) := by
    rw [← hm]; exact (PySem.W.looks_clsIn X hc).andThen .now
  refine codeAny_call_builtin sf.slot.plain sf.entry (PySem.W.check_slot (i := "object.__setattr__") (owner := "object") (n := "__setattr__") sf.kind sf.split isO (sf.args _ _ _) ?_)
  rw [PySem.W.osa_eq, refuse_eq]
  refine wpAny_bind (wpAny_bind (I.type.here (wpAny_bind (ms.here ?_))))
  rw [refuseLoop_ref, lets_by T]
  refine wpAny_pure (wpAny_bind (I.type.here (wpAny_bind ((PySem.W.looks_findIn X n).here (wpAny_bind ?_)))))
  exact PySem.W.Looks.here (r := none) .now (h _)
end
/-! ### an error as a tracked thing -/
def ExcO (a C : Addr) (dx : Option Addr) : Heap → Prop := fun h => ∃ t : Addr, h.get? a = some { cls := .ref C, dict := dx, data := .fields #[.ref t, .none, .none, .none, .bool false, .none] }
def exO (a C : Addr) (dx : Option Addr) : HO := .ext (ExcO a C dx)
theorem exO_ok {P : Program} {w : World} {H : Hp} {h : Heap} {a C : Addr} {dx : Option Addr} (e : ExcO a C dx h) : ObjOk P w H h a (exO a C dx) :=
  ⟨e, let ⟨_, q⟩ := e; ⟨_, q⟩, fun _ _ ⟨t, q⟩ k => ⟨t, k _ q⟩⟩
/-- no longer tracked -/
def del (H : Hp) (a : Addr) : Hp := fun b => if b = a then none else H b
theorem del_same {H : Hp} {a : Addr} : del H a a = none := by unfold del; rw [if_pos rfl]
theorem del_ne {H : Hp} {a b : Addr} (h : b ≠ a) : del H a b = H b := by unfold del; rw [if_neg h]
section
variable {X : Cx} {pins : List (Addr × Obj)} {σ : L2.St} {H : Hp} {s : Shared} {a C : Addr} {dx : Option Addr}
theorem Inv.forget {φ : Heap → Prop} (I : L2.Inv X pins σ H s) (e : H a = some (.ext φ)) (new : X.s₀.heap.get? a = none) : L2.Inv X pins σ (del H a) s := by
  have none_of : ∀ b, H b = none → del H a b = none := fun b h => by
    by_cases z : b = a
    · rw [z]; exact del_same
    · rw [del_ne z]; exact h
  refine ⟨I.ok, I.os, I.bare, ⟨I.base.keep, I.base.slot, fun b o q n hx => none_of b (I.base.free b o q n hx), I.base.there, fun b xs q => ?_, fun b o u q => ?_, fun b ps q => ?_⟩, I.loc, I.cell, none_of _ I.free, fun x c q => none_of _ (I.freeC x c q), fun p hp => ?_, fun b o q => ?_, I.len⟩
  · have z := I.base.tups b xs q
    rw [del_ne (fun k => by rw [k, e] at z; cases z)]; exact z
  · have z := I.base.frzs b o u q
    rw [del_ne (fun k => by rw [k, e] at z; cases z)]; exact z
  · obtain ⟨m, z⟩ := I.base.tbls b ps q
    exact ⟨m, by rw [del_ne (fun k => by rw [k, e] at z; cases z)]; exact z⟩
  · obtain ⟨p1, p2, p3⟩ := I.pin p hp
    exact ⟨p1, none_of _ p2, p3⟩
  · have nb : b ≠ a := fun z => by rw [z, del_same] at q; cases q
    rw [del_ne nb] at q
    refine (I.hok b o q).stay (fun c u _ z => z) (fun c z => ?_) (fun c xs z => ?_)
    · rw [del_ne (fun k => by rw [k, e] at z; cases z)]; exact z
    · rw [del_ne (fun k => by rw [k, e] at z; cases z)]; exact z
end
end B

namespace B
open PySem PySem.Spec L2 PyProof.Rows
theorem ObjOk.get {P : Program} {w : World} {H : Hp} {h : Heap} {a : Addr} {o : HO} (x : L2.ObjOk P w H h a o) : ∃ u, h.get? a = some u := by
  cases o with
  | lst xs => obtain ⟨_, _, _, _, e⟩ := x; exact ⟨_, e⟩
  | tup xs => obtain ⟨_, _, _, o, e, _⟩ := x; exact ⟨_, e⟩
  | dK kvs => obtain ⟨_, _, _, _, o, _, _, e, _⟩ := x; exact ⟨_, e⟩
  | dT kvs => obtain ⟨_, _, _, _, o, _, _, e, _⟩ := x; exact ⟨_, e⟩
  | set S n => obtain ⟨o, _, _, _, e, _⟩ := x; exact ⟨_, e⟩
  | ins C dx fs => obtain ⟨_, _, _, e, _⟩ := x; exact ⟨_, e⟩
  | own y => exact x
  | xd fs => obtain ⟨_, ⟨_, _, _, e, _⟩, _⟩ := x; exact ⟨_, e⟩
  | rng lo hi => obtain ⟨_, _, _, e⟩ := x; exact ⟨_, e⟩
  | frz ob u => obtain ⟨e, _⟩ := x; exact ⟨_, e⟩
  | tbl ps => exact ⟨_, show h.get? a = some _ from x⟩
  | met f y => exact ⟨_, show h.get? a = some _ from x⟩
  | ext φ => exact x.2.1
/-- an error that has left a frame: its record and its newest entry -/
def Trc (h : Heap) (H : Hp) (x C T : Addr) (a0 : Value) : Prop :=
  ∃ oe vs oT ts, h.get? x = some oe ∧ oe.cls = .ref C ∧ vs[0]? = some a0 ∧ oe.data = .fields vs ∧ vs[1]? = some (.ref T) ∧ H T = none ∧ T ≠ x ∧ h.get? T = some oT ∧ oT.data = .fields ts ∧ ts[3]? = some .none
/-- how an error lies behind a call -/
def CXR (P : Program) (w : World) : CXT := fun outer H s E e s' => ∃ (x C T : Addr) (a0 : Value) (H' : Hp), e = .ref x ∧ s'.os = s.os ∧ AllBare s'.gens ∧ Un (frs outer) [] H H' s.heap s'.heap ∧ HOk P w H' s'.heap ∧ s.heap.get? x = none ∧ s.heap.get? T = none ∧ H' x = none ∧
  Trc s'.heap H' x C T a0 ∧ E (.ref C) none H'
/-- an address that nothing of the context stands at -/
structure NewAt (X : Cx) (pins : List (Addr × Obj)) (a : Addr) : Prop where
  st : X.s₀.heap.get? a = none
  lo : a ≠ X.env.locals
  ce : ∀ x c, X.env.cells.lookup x = some c → c ≠ a
  pi : ∀ p ∈ X.pn ++ pins, p.1 ≠ a
  fr : a ∉ frs X.stack
section
variable {X : Cx} {pins : List (Addr × Obj)} {σ : L2.St} {H H' : Hp} {s : Shared} {a : Addr}
theorem Inv.newAt (I : L2.Inv X pins σ H s) (hex : X.ex = []) (h : s.heap.get? a = none) : NewAt X pins a where
  st := by
    cases e : X.s₀.heap.get? a with
    | none => rfl
    | some o =>
      obtain ⟨o', q⟩ := I.base.there a o e (by rw [hex]; simp)
      rw [h] at q; cases q
  lo := fun z => by
    obtain ⟨m, ⟨o, _, _, q, _⟩, _⟩ := I.loc
    rw [← z, h] at q; cases q
  ce := fun x c e z => by
    obtain ⟨v, o, q, _⟩ := I.cell x c e
    rw [z, h] at q; cases q
  pi := fun p hp z => by
    obtain ⟨q, _⟩ := I.pin p hp
    rw [z, h] at q; cases q
  fr := fun z => by
    obtain ⟨_, o, q, _⟩ := I.stack.mem z
    rw [h] at q; cases q
end
end B

namespace B
open PySem PySem.Spec L2 PyProof.Rows
section
variable {X : Cx} {pins : List (Addr × Obj)} {σ : L2.St} {H : Hp} {s : Shared} {a : Addr} {o : HO}
/-- a new thing of the heap is tracked from here on -/
theorem Inv.adopt (I : L2.Inv X pins σ H s) (na : NewAt X pins a) (ha : H a = none) (hex : X.ex = []) (new : L2.ObjOk X.prog X.w (upd H a o) s.heap a o) : L2.Inv X pins σ (upd H a o) s := by
  have keep : ∀ b u, H b = some u → upd H a o b = some u := fun b u q => by rw [upd_ne (ne_of_none q ha)]; exact q
  have nn : ∀ b, b ≠ a → H b = none → upd H a o b = none := fun b nb q => by rw [upd_ne nb]; exact q
  refine ⟨I.ok, I.os, I.bare, ⟨I.base.keep, I.base.slot, fun b u q n hx => nn b (fun z => by rw [z, na.st] at q; cases q) (I.base.free b u q n hx), I.base.there, fun b xs q => keep _ _ (I.base.tups b xs q), fun b u v q => keep _ _ (I.base.frzs b u v q), fun b ps q => ?_⟩, I.loc, I.cell, nn _ na.lo.symm I.free, fun x c q => nn _ (na.ce x c q) (I.freeC x c q), fun p hp => ?_, fun b u q => ?_, I.len⟩
  · obtain ⟨m, z⟩ := I.base.tbls b ps q
    exact ⟨m, keep _ _ z⟩
  · obtain ⟨p1, p2, p3⟩ := I.pin p hp
    exact ⟨p1, nn _ (na.pi p hp) p2, p3⟩
  · by_cases z : b = a
    · subst z
      rw [upd_same] at q; cases q
      exact new
    · rw [upd_ne z] at q
      exact (I.hok b u q).stay (fun c v _ w => w) (fun c w => keep _ _ w) (fun c xs w => keep _ _ w)
theorem Inv.none_of (I : L2.Inv X pins σ H s) (h : s.heap.get? a = none) : H a = none := by
  cases q : H a with
  | none => rfl
  | some o => obtain ⟨u, z⟩ := ObjOk.get (I.hok a o q); rw [h] at z; cases z
end
/-- what of the text an own class of errors must have: C with its __init__ f, straight under P0, that one under ValueError -/
structure XC (K : PySem.W.Frag) (C f : Addr) (bm : List Value) : Prop where
  ob : ∃ nm q N bs hdct sn sub ab col dd k0 k1 k2 k3 k5, K.lookup C = some (excClassObj nm q C N bs bm hdct sn sub ab col dd k0 k1 k2 k3 k5 "ValueError.__new__")
  tl : ∀ h : Heap, K.In h → OwnTail h vMro bm
  init : PySem.W.findIn K (.ref C) "__init__" = some (some (.ref f))
  fn : PySem.W.typeIn K (.ref f) = some (.type "function")
  kp : PySem.W.keepIn K (.ref C) = true
  cl : ClsX K C bm
section
variable {X : Cx} {k : Nat} {f C : Addr} {fd : FuncData} {ps : List Str} {sp : Sp} {bm : List Value}
theorem run_exc {pins : List (Addr × Obj)} {σ : L2.St} {H : Hp} {s : Shared} {Q : Addr → Hp → Prop} {us : List Value} {vs : List V} {E' : Value → Shared → Prop} (M : XC X.K C f bm) (hex : X.ex = []) (F : FnOk X.prog X.w X.K X.mg X.base CX0 k f fd ps sp) (hr : Room (k + 1) X.A) (hb : Binds X.K fd ps [])
    (I : L2.Inv X pins σ H s) (r : Vals vs us) (hz : us.length ≤ sizeLine) (h : ∀ a, H a = none → sp (.ref a :: vs) (upd H a (exO a C none)) (fun v H2 => v = .non ∧ Q a H2) E0) :
    wpAny (model X.prog X.w) X.A (call (.ref C) us) (fun v s' => ∃ a H', v = .ref a ∧ NewAt X pins a ∧ L2.Inv X pins σ H' s' ∧ Q a H') E' s := by
  obtain ⟨nm, q, N, bs, hdct, sn, sub, ab, col, dd, k0, k1, k2, k3, k5, lk⟩ := M.ob
  obtain ⟨hp, g, d, t, os⟩ := s
  refine exc_call PySem.F.excBase_ValueError (M.tl hp I.kIn) I.kIn (I.kIn _ _ lk) M.init M.fn (fun h' e hm => ?_) hz
  have na := B.Inv.newAt I hex hm.new
  have he := B.Inv.none_of I hm.new
  obtain ⟨tt, ho, _⟩ := hm.there
  have I1 : L2.Inv X pins σ H ⟨h', g, d, t, os⟩ := I.kept (t' := t) hm.keeps
  have I2 : L2.Inv X pins σ (upd H e (exO e C none)) ⟨h', g, d, t, os⟩ := B.Inv.adopt I1 na he hex (exO_ok ⟨tt, ho⟩)
  have hq := h e he
  have r2 : Vals (V.ref e :: vs) (Value.ref e :: us) := .cons rfl r
  have hl : (Value.ref e :: us).length = ps.length := by
    have z := r2.length
    rw [F.len _ _ _ _ hq] at z
    exact z.symm
  have hbd := hb ⟨h', g, d, t, os⟩ (Value.ref e :: us) I2.kIn (by rw [List.append_nil]; exact hl)
  rw [List.append_nil] at hbd
  refine wpAny_call (codeAny_mono (F.run _ X.stack _ _ ⟨Value.ref e :: us, []⟩ (Value.ref e :: us) _ _ E0 (hr.make C us []) (I2.env0.make C us []) hbd r2 hq) fun r s' hq' => ?_)
  cases r with
  | error e => exact False.elim hq'
  | ok fl =>
    cases fl with
    | ret u =>
      obtain ⟨v, H', I3, rv, ev, q3⟩ := I2.after hq'
      subst ev
      exact ⟨rv, e, H', rfl, na, I3, q3⟩
    | next => exact False.elim hq'
    | brk => exact False.elim hq'
    | cont => exact False.elim hq'
/-- the context takes an error that is made in it -/
def Takes (X : Cx) (E : XK) : Prop := ∀ (pins : List (Addr × Obj)) (σ : L2.St) (H : Hp) (s : Shared) (a C : Addr) (oe : Obj) (vs : Array Value) (a0 : Value), L2.Inv X pins σ H s → H a = none → NewAt X pins a → s.heap.get? a = some oe → oe.data = .fields vs →
  vs[0]? = some a0 → vs[1]? = some .none → oe.cls = .ref C → E (.ref C) none H → X.xe (.ref a) s
/-- raise, of an error just made -/
theorem raise_own {M : Model} {A : Around} {E : Value → Shared → Prop} {env : Env} {nm q : Str} {N : Addr} {bs : List Value} {hdct : Bool} {sn : List Str} {sub : List Value} {ab : Bool} {col : Option Bool} {dd : Option Addr} {k0 k1 k2 k3 k5 : Option Value} {newId : String}
    {s : Shared} {x : Sem Value} {Q : Flow → Shared → Prop} (hbase : bm.contains (.type "BaseException") = true) (hh : A.handled = none)
    (h : wpAny M A x (fun v s₁ => ∃ e t dx, v = .ref e ∧ s₁.heap.get? C = some (excClassObj nm q C N bs bm hdct sn sub ab col dd k0 k1 k2 k3 k5 newId) ∧
      s₁.heap.get? e = some { cls := .ref C, dict := dx, data := .fields #[.ref t, .none, .none, .none, .bool false, .none] } ∧ E (.ref e) s₁) E s) :
    wpAny M A (raiseStmt env (some x) none) Q E s := by
  have hcB : (Value.ref C :: bm).contains (.type "BaseException") = true := by rw [List.contains_cons, hbase, Bool.or_true]
  unfold raiseStmt
  refine wpAny_bind (wpAny_mono h (fun v s₁ h₁ => ?_) fun _ _ y => y)
  obtain ⟨e, t, dx, rfl, hC, he, hE⟩ := h₁
  obtain ⟨hp, g, d, tk, os⟩ := s₁
  repeat (first
    | with_reducible refine wpAny_loadPart_at he ?_
    | with_reducible refine wpAny_loadPart_at hC ?_
    | (with_reducible refine wpAny_isSubtype_exc hC ?_
       rw [hcB])
    | wp_step)
  exact wpAny_raiseNew_none hh hE
/-- raise C(e, ..) -/
def tRaise (C : Addr) (sp : Sp) (E : XK) (t : TA) : TS := fun _ σ H => t σ H fun vs H1 => vs.length ≤ sizeLine ∧ ∀ a, H1 a = none → sp (.ref a :: vs) (upd H1 a (exO a C none)) (fun v H2 => v = .non ∧ (∃ dx, H2 a = some (exO a C dx)) ∧ E (.ref C) none (del H2 a)) E0
end
end B

namespace B
open PySem PySem.Spec L2 PyProof.Rows
/-! ### try: a callee's error is caught -/
section
variable {X : Cx} {pins : List (Addr × Obj)} {σ : L2.St} {H : Hp} {s : Shared} {a C T : Addr} {a0 : Value}
end
/-- the names forgotten -/
def hid (N : List Str) : L2.St := List.replicate N.length none
theorem hid_weak {X : Cx} {pins : List (Addr × Obj)} {σ : L2.St} {H : Hp} {s : Shared} (I : L2.Inv X pins σ H s) : L2.Inv X pins (hid X.N) H s :=
  I.weak (by rw [I.len]; exact List.length_replicate) fun i v q => by
    unfold hid at q
    rw [List.getElem?_replicate] at q
    split at q <;> cases q
/-- how an error flies in a try's body -/
def Fly (X : Cx) (pins : List (Addr × Obj)) (R : Addr → Hp → Prop) : Value → Shared → Prop := fun e s => ∃ (x C T : Addr) (a0 : Value) (H : Hp), e = .ref x ∧ L2.Inv X pins (hid X.N) H s ∧ H x = none ∧ NewAt X pins x ∧ NewAt X pins T ∧ Trc s.heap H x C T a0 ∧ R C H
/-- a try's body -/
def inTry (X : Cx) (pins : List (Addr × Obj)) (R : Addr → Hp → Prop) : Cx := { X with pn := X.pn ++ pins, xe := Fly X pins R }
/-- an except's suite -/
def inExc (X : Cx) (e : Addr) : Cx := { X with A := X.A.mark (some (.ref e)), calm := false, xe := fun _ _ => False }
section
variable {X : Cx} {pins pins' : List (Addr × Obj)} {σ : L2.St} {H : Hp} {s : Shared} {R : Addr → Hp → Prop} {e : Addr}
theorem toExc (I : L2.Inv X pins σ H s) : L2.Inv (inExc X e) pins σ H s :=
  ⟨⟨I.ok.mod, I.ok.kind, I.ok.glob, I.ok.blt, I.ok.above, I.ok.inj, I.ok.has, I.ok.cab, (fun z => nomatch z), I.ok.frames, I.ok.stk, I.ok.exf, I.ok.bs, I.ok.bsz, I.ok.noex, I.ok.exfs, I.ok.funs, I.ok.frf⟩, I.os, I.bare, I.base, I.loc, I.cell, I.free, I.freeC, I.pin, I.hok, I.len⟩
theorem ofExc (ok : X.Ok) (I : L2.Inv (inExc X e) pins σ H s) : L2.Inv X pins σ H s :=
  ⟨ok, I.os, I.bare, I.base, I.loc, I.cell, I.free, I.freeC, I.pin, I.hok, I.len⟩
end
/-- try: body except C: suite, where the error is always one of C -/
def tTry (N : List Str) (R : Addr → Hp → Prop) (Ok : Addr → Prop) (tb : TS) (th : TS) : TS := fun D σ H => tb D σ H ∧ ∀ C H', R C H' → Ok C ∧ th D (hid N) H'
section
variable {X : Cx} {R : Addr → Hp → Prop} {body : List Stmt} {b₀ : Stmt} {suite : List Stmt} {x : Str} {p hpos pos : Pos} {u : Value} {tb th : TS}
end
/-! ### e.f = v, in an error's __init__ -/
section
variable {X : Cx} {o value : Expr} {f : Str} {ta tv : TE} {pos' pos : Pos}
def sFldX (K : PySem.W.Frag) (ta tv : TE) (f : Str) : TS := fun D σ H => tv σ H fun _ H1 => ta σ H1 fun x H2 => ∃ a C bm, x = .ref a ∧ H2 a = some (exO a C none) ∧ ClsX K C bm ∧ NoAttr K C f ∧ ∀ d, D.nx σ (upd H2 a (exO a C (some d)))
end
end B
namespace B
open PySem PySem.Spec L2 PyProof.Rows
def EofR (R : Addr → Hp → Prop) : XK := fun v _ H => ∃ C, v = .ref C ∧ R C H
theorem vm_has (a : Addr) : (Value.ref a :: vMro).contains (.type "BaseException") = true := by rw [List.contains_cons, (by decide +kernel : vMro.contains (.type "BaseException") = true), Bool.or_true]
def strKeysB (es : Array DictEntry) : Bool := es.toList.all fun e => match e.key with
  | .str _ _ => true
  | _ => false
theorem strKeys_of {es : Array DictEntry} (h : strKeysB es = true) : StrKeys es := fun e he => by
  have z := List.all_eq_true.mp h e (Array.mem_toList_iff.mpr he)
  revert z
  cases e.key <;> intro z <;> first | exact ⟨_, _, rfl⟩ | (cases z)
/-- the facts of an own class of errors -/
theorem xc_mk {K : PySem.W.Frag} {C f B0 NB : Addr} {nm q nmB qB : Str} {N : Addr} {bs bsB : List Value} {hdct hdctB : Bool} {sn snB : List Str} {sub subB : List Value} {ab abB : Bool} {col colB : Option Bool} {dd ddB : Option Addr} {k0 k1 k2 k3 k5 j0 j1 j2 j3 j5 : Option Value}
    {oc : Value} {od : Option Addr} {es : Array DictEntry} {n : Nat} {sl : Array (Option Value)}
    (lc : K.lookup C = some (excClassObj nm q C N bs (.ref B0 :: [.type "ValueError", .type "Exception", .type "BaseException", .type "object"]) hdct sn sub ab col dd k0 k1 k2 k3 k5 "ValueError.__new__"))
    (lb : K.lookup B0 = some (excClassObj nmB qB B0 NB bsB [.type "ValueError", .type "Exception", .type "BaseException", .type "object"] hdctB snB subB abB colB ddB j0 j1 j2 j3 j5 "ValueError.__new__"))
    (ln : K.lookup NB = some ⟨oc, od, .dict es n, sl⟩) (hs : strKeysB es = true) (hn : (nsFind es "__init__").isNone = true)
    (fi : PySem.W.findIn K (.ref C) "__init__" = some (some (.ref f))) (ti : PySem.W.typeIn K (.ref f) = some (.type "function")) (kc : PySem.W.keepIn K (.ref C) = true) (hh : PySem.W.hasDictIn K C = true) (sa : PySem.W.findIn K (.ref C) "__setattr__" = some (some (.builtin "object.__setattr__"))) : XC K C f (.ref B0 :: vMro) :=
  have ob : ∃ nm q N bs hdct sn sub ab col dd k0 k1 k2 k3 k5, K.lookup C = some (excClassObj nm q C N bs (.ref B0 :: vMro) hdct sn sub ab col dd k0 k1 k2 k3 k5 "ValueError.__new__") := ⟨_, _, _, _, _, _, _, _, _, _, _, _, _, _, _, lc⟩
  have tl : ∀ h : Heap, K.In h → OwnTail h vMro (.ref B0 :: vMro) := fun h X => .own (X _ _ lb) ⟨_, es, n, X _ _ ln, rfl, strKeys_of hs, fun _ => rfl⟩ (Option.isNone_iff_eq_none.mp hn) .base
  ⟨ob, tl, fi, ti, kc, ob, tl, hh, sa⟩
end B

namespace B
open PySem PySem.Spec L2 PyProof.Rows
/-! ### what an error's attribute is -/
/-- what reading of an error asks of its class -/
structure GetX (K : PySem.W.Frag) (C : Addr) : Prop where
  ga : PySem.W.findIn K (.ref C) "__getattribute__" = some (some (.builtin "BaseException.__getattribute__"))
  gn : PySem.W.findIn K (.ref C) "__getattr__" = some none
  cl : PySem.W.findIn K (.ref C) "__class__" = some (some (.builtin "object.__class__"))
  cg : PySem.W.specialIn K (.builtin "object.__class__") "__get__" = some (some (.builtin "getset_descriptor.__get__"))
  ct : PySem.W.takesIn K (.builtin "object.__class__") = some true
section
variable {prog : Program} {w : World} {A : Around} {E : Value → Shared → Prop} {s : Shared} {K : PySem.W.Frag} {x C : Addr} {ox : Obj} {odo : Option Obj} {bm : List Value} {name : Str} {tk : Tok} {R : Result → Shared → Prop}
theorem err_open {fill ex : Bool} {Q : Value → Shared → Prop} (X : K.In s.heap) (I : PySem.W.InstAt s.heap x ox C odo) (g : GetX K C)
    (h : codeAny (model prog w) A (.call (.builtin "BaseException.__getattribute__") ⟨[.ref x, .str name tk], []⟩) (fun r s' => ∃ v, r = .ok (.ret v) ∧ PySem.W.handedIn v = true ∧ Q v s') s) :
    wpAny (model prog w) A (getAttrBy (.ref x) (.str name tk) fill ex) Q E s := by
  have FB := PySem.F.attrBase_ValueError
  unfold getAttrBy
  refine wpAny_holding (wpAny_bind (I.type.here (wpAny_bind ((PySem.W.looks_findIn X g.ga).here ?_))))
  have e2 : (Value.builtin "BaseException.__getattribute__" == Value.builtin "object.__getattribute__") = false := by decide +kernel
  dsimp only
  rw [e2, Bool.and_false, if_neg Bool.false_ne_true]
  unfold getAttrByItsOwn hookBefore
  rw [if_pos (show onTheHeap (Value.ref C) = true from rfl)]
  refine wpAny_bind ((PySem.W.looks_findIn X g.gn).here (wpAny_bind (wpAny_attempt (wpAny_holding ?_))))
  unfold callGetattribute
  rw [if_neg (by cases ex <;> decide)]
  unfold boundAndCalled
  rw [FB.ga.bind (.ref x)]
  refine wpAny_bind (wpAny_pure (wpAny_call (codeAny_mono h fun r s' hq => ?_)))
  obtain ⟨v, rfl, hh, q⟩ := hq
  exact PySem.W.handed_on hh q
theorem isB {X : K.In s.heap} (I : PySem.W.InstAt s.heap x ox C odo) (c : ClsX K C bm) (T : String) (hT : vMro.contains (.type T) = true) : PySem.W.Looks (model prog w) s.heap (isInstance (.ref x) (.type T)) true := by
  obtain ⟨cd, hc, hm⟩ := clsX_cls c
  have hob : (Value.ref C :: bm).contains (.type T) = true := by
    rw [List.contains_cons, (c.tl _ X).hasType (X := T) (b := true) hT, Bool.or_true]
  refine I.type.andThen (PySem.W.looks_mroIn X ?_)
  unfold PySem.W.mroIn
  rw [hc]
  show (if cd.mro.isEmpty = true then none else some (cd.mro.contains (.type T))) = some true
  rw [hm, hob]; rfl
theorem err_body (X : K.In s.heap) (I : PySem.W.InstAt s.heap x ox C odo) (c : ClsX K C bm)
    (h : wpAny (model prog w) A.in1 (Builtin.«object.__getattribute__» ⟨[.ref x, .str name tk], []⟩) (fun fin s' => match fin with
      | .done f => R (.ok f) s'
      | .again c' => c'.quiet = true ∧ codeAny (model prog w) A c' R s') (fun e s' => R (.error e) s') s) :
    codeAny (model prog w) A (.call (.builtin "BaseException.__getattribute__") ⟨[.ref x, .str name tk], []⟩) R s := by
  have FB := PySem.F.attrBase_ValueError
  exact codeAny_call_builtin FB.ga.plain PySem.F.entry_bexc_ga (PySem.W.check_slot (i := "BaseException.__getattribute__") (owner := "BaseException") (n := "__getattribute__") (by decide +kernel) (by decide +kernel) (isB (X := X) I c "BaseException" (by decide +kernel)) (PySem.F.args_bexc_ga _ _) h)
theorem err_val {v : Value} (X : K.In s.heap) (I : PySem.W.InstAt s.heap x ox C odo) (c : ClsX K C bm) (hf : PySem.W.findObj K C odo name = some (.value v)) (h : R (.ok (.ret v)) s) :
    codeAny (model prog w) A (.call (.builtin "BaseException.__getattribute__") ⟨[.ref x, .str name tk], []⟩) R s := by
  refine err_body X I c ?_
  unfold Builtin.«object.__getattribute__»
  have L := PySem.W.looks_find (M := model prog w) X I hf
  refine wpAny_bind (wpAny_pure (wpAny_bind (wpAny_pure (wpAny_bind (I.type.here (wpAny_bind (L.here ?_)))))))
  exact wpAny_pure h
theorem err_class {od : Obj} (X : K.In s.heap) (I : PySem.W.InstAt s.heap x ox C (some od)) (c : ClsX K C bm) (g : GetX K C) (h : R (.ok (.ret (.ref C))) s) :
    codeAny (model prog w) A (.call (.builtin "BaseException.__getattribute__") ⟨[.ref x, .str "__class__" tk], []⟩) R s := by
  refine err_body X I c ?_
  unfold Builtin.«object.__getattribute__»
  obtain ⟨cd, hc, hm⟩ := clsX_cls c
  have hf := PySem.W.findObj_data (K := K) (C := C) (od := od) (name := "__class__") (by rw [hc]; rfl) g.cl g.cg g.ct
  have L := PySem.W.looks_find (M := model prog w) X I hf
  have mo : PySem.W.mroIn K C (.type "object") = some true := by
    unfold PySem.W.mroIn
    rw [hc]
    show (if cd.mro.isEmpty = true then none else some (cd.mro.contains (.type "object"))) = some true
    rw [hm, List.contains_cons, (c.tl _ X).hasType (X := "object") (b := true) (by decide +kernel), Bool.or_true]; rfl
  refine wpAny_bind (wpAny_pure (wpAny_bind (wpAny_pure (wpAny_bind (I.type.here (wpAny_bind (L.here ?_)))))))
  show wpAny _ _ (holding [Value.builtin "object.__class__"] (call (.builtin "getset_descriptor.__get__") [.builtin "object.__class__", .ref x, .ref C]) >>= ret) _ _ _
  exact wpAny_bind (wpAny_holding (wpAny_call (PySem.W.class_get X I mo (wpAny_pure h))))
end
section
variable {K : PySem.W.Frag} {x C : Addr} {ox od : Obj} {bm : List Value}
theorem kitx_err (c : ClsX K C bm) (g : GetX K C) : PySem.W.KitX K (.ref x) (.ref C) (fun h => PySem.W.InstAt h x ox C (some od)) where
  ty := fun _ _ _ I => I.type
  it := fun _ _ X _ => by
    obtain ⟨nm, q, N, bs, hdct, sn, sub, ab, col, dd, k0, k1, k2, k3, k5, lk⟩ := c.ob
    intro A' Q' E' s' k q
    unfold isType loadHead
    exact wpAny_bind (wpAny_loadPart (k _ _ (X _ _ lk)) (wpAny_pure q))
  ne := fun h tp dd its n sl X htp => by
    obtain ⟨nm, q, N, bs, hdct, sn, sub, ab, col, dd', k0, k1, k2, k3, k5, lk⟩ := c.ob
    refine Bool.eq_false_iff.mpr fun z => ?_
    have e : C = tp := Value.ref.inj (beq_iff_eq.mp z)
    subst e
    have z2 := congrArg Obj.cls (Option.some.inj ((X _ _ lk).symm.trans htp))
    exact absurd (show Value.type "type" = Value.type "tuple" from z2) (by decide +kernel)
  ca := fun {prog w A E Q s} X I k => by
    unfold getAttr? getAttrBy?
    refine wpAny_bind (wpAny_mkText (wpAny_bind (wpAny_attempt ?_)))
    exact err_open (s := { s with toks := s.toks + 1 }) X I g (err_class (s := { s with toks := s.toks + 1 }) X I c g ⟨_, rfl, rfl, wpAny_pure k⟩)
end
end B

namespace B
open PySem PySem.Spec L2 PyProof.Rows
/-! ### how an error is noted at a frame, its dict kept -/
/-- all but the frames (their slots) and the records at ch is as it was -/
structure Kept (S ch : List Addr) (h h' : Heap) : Prop where
  same : ∀ b o, b ∉ S → b ∉ ch → h.get? b = some o → h'.get? b = some o
  slot : ∀ b o, b ∉ ch → h.get? b = some o → ∃ sl, h'.get? b = some { o with slots := sl }
theorem Kept.trans {S c1 c2 : List Addr} {h h1 h2 : Heap} (a : Kept S c1 h h1) (b : Kept S c2 h1 h2) : Kept S (c1 ++ c2) h h2 where
  same := fun x o n1 n2 q => b.same x o n1 (fun z => n2 (List.mem_append_right _ z)) (a.same x o n1 (fun z => n2 (List.mem_append_left _ z)) q)
  slot := fun x o n2 q => by
    obtain ⟨sl, z⟩ := a.slot x o (fun z => n2 (List.mem_append_left _ z)) q
    obtain ⟨sl', z'⟩ := b.slot x _ (fun z => n2 (List.mem_append_right _ z)) z
    exact ⟨sl', z'⟩
theorem Kept.upd {S : List Addr} {h : Heap} {T : Addr} {f : Obj → Obj} : Kept S [T] h (h.update T f) where
  same := fun b o _ n q => by rw [Heap.get?_update_other _ _ (fun z => n (by rw [z]; exact List.mem_singleton.mpr rfl))]; exact q
  slot := fun b o n q => ⟨o.slots, by rw [Heap.get?_update_other _ _ (fun z => n (by rw [z]; exact List.mem_singleton.mpr rfl))]; exact q⟩
/-- the record of an error with its newest entry, where that one flies -/
def TrcD (h : Heap) (x C T : Addr) (dx : Option Addr) (fl : Value) : Prop :=
  ∃ oe vs oT ts, h.get? x = some oe ∧ oe.cls = .ref C ∧ oe.dict = dx ∧ oe.data = .fields vs ∧ vs[1]? = some (.ref T) ∧ T ≠ x ∧ h.get? T = some oT ∧ oT.data = .fields ts ∧ ts[3]? = some fl
section
variable {M : Model} {A : Around} {E : Value → Shared → Prop} {s : Shared} {base : Heap} {env : Env} {outer : List Env} {L e C T : Addr} {oe : Obj} {vs : Array Value} {dx : Option Addr} {fl : Value}
theorem dict_mapF (f : Array Value → Array Value) (o : Obj) : (Obj.mapFields f o).dict = o.dict := by
  unfold Obj.mapFields; split <;> rfl
theorem entryD {hadNext : Bool} {head : Value} {Q : Unit → Shared → Prop} (hfr : A.frames = some (env :: outer)) (hl : s.heap.FunFrames base (env :: outer)) (hf : env.frame = some L)
    (he : s.heap.get? e = some oe) (hd : oe.data = .fields vs) (hsz : 1 < vs.size) (hc : oe.cls = .ref C) (hx : oe.dict = dx)
    (h : ∀ h' T, Kept (frs (env :: outer)) [e] s.heap h' → s.heap.get? T = none → TrcD h' e C T dx (rawInt L) → Q () { s with heap := h' }) :
    wpAny M A (do let a ← frameOf env; let pl ← entryPlaceOf L hadNext; let b ← EntryCells.newEntry head a .none (rawInt L) .none pl; setField (.ref e) 1 b) Q E s := by
  have hene : e ∉ frs (env :: outer) := fun hm => by
    obtain ⟨_, o, ho, hnf⟩ := hl.mem hm
    rw [he] at ho; cases ho; exact hnf vs hd
  refine wpAny_bind (wpAny_frameOf_fun hfr hl hf fun h1 s1 => wpAny_bind (wpAny_entryPlaceOf fun pl hpl => ?_))
  unfold EntryCells.newEntry newFields
  refine wpAny_bind (wpAny_newObj_type ?_ (hpl.sizeOk5 _ _ _ _ _))
  have he1 : h1.get? e = some oe := (s1.2.1 e hene).trans he
  generalize hob : ({ cls := .type "traceback", dict := none, data := .fields ([head, .ref L, .none, rawInt L, .none] ++ (if pl.isEmpty then List.replicate 6 Value.none else pl)).toArray } : Obj) = ob
  have he2 := Heap.get?_push_of_some (h := h1) ob he1
  refine wpAny_setField he2 hd hsz (h _ h1.objs.size ⟨fun b o n1 n2 q => ?_, fun b o n2 q => ?_⟩ ?_ ?_)
  · rw [Heap.get?_update_other _ _ (fun z => n2 (by rw [z]; exact List.mem_singleton.mpr rfl))]
    exact Heap.get?_push_of_some _ ((s1.2.1 b n1).trans q)
  · obtain ⟨sl, z⟩ := s1.2.2 b o q
    refine ⟨sl, ?_⟩
    rw [Heap.get?_update_other _ _ (fun z => n2 (by rw [z]; exact List.mem_singleton.mpr rfl))]
    exact Heap.get?_push_of_some _ z
  · exact Heap.get?_none_of_le (Nat.le_of_eq s1.1.symm)
  · have nT : h1.objs.size ≠ e := Nat.ne_of_gt (Heap.lt_size he1)
    have d3 := Obj.data_mapFields hd (·.setIfInBounds 1 (Value.ref h1.objs.size))
    refine ⟨_, _, ob, _, Heap.get?_update_self _ he2 (Obj.isFreed_of_fields d3), (Obj.cls_mapFields _ _).trans hc, (dict_mapF _ _).trans hx, d3, by simp [hsz], nT, ?_, by rw [← hob], ?_⟩
    · rw [Heap.get?_update_other _ _ (Ne.symm nT)]
      exact Heap.get?_push_size h1 (by rw [← hob]; rfl)
    · first | (simp; done) | (rcases hpl with rfl | ⟨_, _, _, _, _, _, _, rfl⟩ <;> simp)
theorem flightD {Q : Unit → Shared → Prop} (t : TrcD s.heap e C T dx fl) (h : ∀ h', Kept [] [T] s.heap h' → TrcD h' e C T dx .none → Q () { s with heap := h' }) : wpAny M A (setFlight (.ref e) none) Q E s := by
  obtain ⟨oe, vs, oT, ts, q1, q2, q3, q4, q5, q6, q7, q8, q9⟩ := t
  have z3 : 3 < ts.size := (Array.getElem?_eq_some_iff.mp q9).1
  unfold setFlight
  refine wpAny_bind (wpAny_field q1 q4 q5 ?_)
  rw [if_pos (by simp)]
  refine wpAny_setField q7 q8 z3 (h _ Kept.upd ?_)
  have d3 := Obj.data_mapFields q8 (·.setIfInBounds 3 ((none : Option Addr).elim Value.none fun f => rawInt f))
  exact ⟨oe, vs, _, _, (Heap.get?_update_other _ _ q6).trans q1, q2, q3, q4, q5, q6, Heap.get?_update_self _ q7 (Obj.isFreed_of_fields d3), d3, by simp [z3]⟩
theorem note1 {Q : Unit → Shared → Prop} (hfr : A.frames = some (env :: outer)) (hl : s.heap.FunFrames base (env :: outer)) (hf : env.frame = some L) (he : s.heap.get? e = some oe) (hd : oe.data = .fields vs) (h1 : vs[1]? = some .none) (hc : oe.cls = .ref C) (hx : oe.dict = dx)
    (h : ∀ h' T, Kept (frs (env :: outer)) [e] s.heap h' → s.heap.get? T = none → TrcD h' e C T dx (rawInt L) → Q () { s with heap := h' }) : wpAny M A (noteFrame (.ref e) env) Q E s := by
  unfold noteFrame
  simp only [hf]
  refine wpAny_bind (wpAny_field he hd h1 ?_)
  rw [if_neg (by decide)]
  exact entryD hfr hl hf he hd (Array.getElem?_eq_some_iff.mp h1).1 hc hx h
theorem noteN {Q : Unit → Shared → Prop} (hfr : A.frames = some (env :: outer)) (hl : s.heap.FunFrames base (env :: outer)) (hf : env.frame = some L) (t : TrcD s.heap e C T dx .none)
    (h : ∀ h' T', Kept (frs (env :: outer)) [T, e] s.heap h' → s.heap.get? T' = none → TrcD h' e C T' dx (rawInt L) → Q () { s with heap := h' }) : wpAny M A (noteFrame (.ref e) env) Q E s := by
  obtain ⟨oe, vs, oT, ts, q1, q2, q3, q4, q5, q6, q7, q8, q9⟩ := t
  unfold noteFrame
  simp only [hf]
  refine wpAny_bind (wpAny_field q1 q4 q5 ?_)
  rw [if_pos (by simp)]
  refine wpAny_bind (wpAny_field q7 q8 q9 ?_)
  rw [if_neg (by simp [rawInt])]
  refine wpAny_bind (wpAny_setField q7 q8 (Array.getElem?_eq_some_iff.mp q9).1 ?_)
  have k1 : Kept (frs (env :: outer)) [T] s.heap (s.heap.update T (Obj.mapFields (·.setIfInBounds 3 Value.none))) := Kept.upd
  have nf : ∀ b o, s.heap.get? b = some o → (∀ us, o.data ≠ .fields us) → b ∉ [T] := fun b o hb hn z => by
    rw [List.mem_singleton.mp z, q7] at hb; cases hb; exact hn ts q8
  refine entryD (base := base) hfr (hl.of_keeps fun b o hb hn => ?_) hf ((Heap.get?_update_other _ _ q6).trans q1) q4 (Array.getElem?_eq_some_iff.mp q5).1 q2 q3 fun h' T' k nT t' => h h' T' (k1.trans k) ?_ t'
  · obtain ⟨sl, z⟩ := k1.slot b o (nf b o hb hn) hb
    exact ⟨_, z, rfl⟩
  · cases q : s.heap.get? T' with
    | none => rfl
    | some o =>
      exfalso
      by_cases z : T' = T
      · have d3 := Obj.data_mapFields q8 (·.setIfInBounds 3 Value.none)
        rw [z, Heap.get?_update_self _ q7 (Obj.isFreed_of_fields d3)] at nT; cases nT
      · rw [Heap.get?_update_other _ _ (Ne.symm z)] at nT; rw [q] at nT; cases nT
end
end B

namespace B
open PySem PySem.Spec L2 PyProof.Rows
/-! ### an error's dict -/
def DicO (d : Addr) (fs : List (Str × V)) : Heap → Prop := fun h => ∃ mA, h.Ns1 d mA ∧ ∀ f, RelO (fs.lookup f) (mA f)
def dO (d : Addr) (fs : List (Str × V)) : HO := .ext (DicO d fs)
theorem dO_ok {P : Program} {w : World} {H : Hp} {h : Heap} {d : Addr} {fs : List (Str × V)} (e : DicO d fs h) : ObjOk P w H h d (dO d fs) :=
  ⟨e, let ⟨_, ⟨_, _, _, q, _⟩, _⟩ := e; ⟨_, q⟩, fun _ _ ⟨mA, n, r⟩ k => ⟨mA, n.at k, r⟩⟩
theorem relO_none {a : Option V} {b : Option Value} (r : RelO a b) (h : b ≠ none) : a ≠ none := fun z => by
  subst z
  cases b with
  | none => exact h rfl
  | some _ => exact r.elim
theorem relO_cons {fs : List (Str × V)} {mA : Str → Option Value} {f : Str} {y : V} {u : Value} (r : ∀ g, RelO (fs.lookup g) (mA g)) (q : RelV y u) : ∀ g, RelO (((f, y) :: fs).lookup g) (if g = f then some u else mA g) := fun g => by
  by_cases z : g = f
  · subst z
    rw [if_pos rfl, List.lookup_cons_self]; exact q
  · rw [if_neg z, List.lookup_cons, beq_eq_false_iff_ne.mpr z]; exact r g
theorem within_of {fs : List (Str × V)} {mA : Str → Option Value} (r : ∀ g, RelO (fs.lookup g) (mA g)) : PySem.Within mA (fs.map (·.1)) := fun g hg => by
  have z := relO_none (r g) hg
  cases q : fs.lookup g with
  | none => exact absurd q z
  | some v =>
    obtain ⟨l1, l2, e, _⟩ := List.lookup_eq_some_iff.mp q
    rw [e]; simp
section
variable {X : Cx} {pins : List (Addr × Obj)} {σ : L2.St} {H : Hp} {s : Shared} {a C : Addr}
/-- e.f = v, the first attribute of an error: its dict is made -/
theorem setX1 {A : Around} {E : Value → Shared → Prop} {f : Str} {y : V} {u : Value} {bm : List Value} {Q : Unit → Shared → Prop} (hex : X.ex = []) (I : L2.Inv X pins σ H s) (e : H a = some (exO a C none)) (c : ClsX X.K C bm) (n : NoAttr X.K C f) (ry : RelV y u)
    (h : ∀ d s', H d = none → d ≠ a → L2.Inv X pins σ (upd (upd H a (exO a C (some d))) d (dO d [(f, y)])) s' → Q () s') : wpAny (model X.prog X.w) A (setAttr (.ref a) f u) Q E s := by
  obtain ⟨t, hx⟩ := (show ObjOk X.prog X.w H s.heap a (exO a C none) from I.hok a _ e).1
  have J : PySem.W.InstAt s.heap a _ C none := ⟨hx, rfl, rfl, trivial⟩
  refine PySem.W.set_plain I.kIn J c.sa (store_err (s := { s with toks := s.toks + 1 }) I.kIn J c n fun b => ?_)
  obtain ⟨cd, hc, hd'⟩ := PySem.W.any_some c.hd
  refine wpAny_bind (wpAny_pure (wpAny_bind (wpAny_bind (wpAny_loadPart hx (wpAny_bind (PySem.W.Looks.here (s := { s with toks := s.toks + 1 }) (PySem.W.looks_clsIn I.kIn hc) ?_))))))
  rw [hd']
  show wpAny _ _ (alloc { cls := .type "dict", data := .dict #[] } >>= fun d => update a (fun o => { o with dict := some d }) >>= fun _ => dictMade (.ref C) a d) _ _ _
  have la : a < s.heap.objs.size := Heap.lt_size hx
  have nad : s.heap.objs.size ≠ a := Nat.ne_of_gt la
  have g1 := Heap.get?_push_of_some (h := s.heap) { cls := .type "dict", data := .dict #[] } hx
  refine wpAny_bind (wpAny_alloc (wpAny_bind (wpAny_update g1 ?_)))
  have g2 := Heap.get?_update_self (fun o => { o with dict := some s.heap.objs.size }) g1 rfl
  have e1 : ((s.heap.push { cls := .type "dict", data := .dict #[] }).update a fun o => { o with dict := some s.heap.objs.size }).get? s.heap.objs.size = some { cls := .type "dict", data := .dict #[] } := by
    rw [Heap.get?_update_other _ _ nad.symm]; exact Heap.get?_push_size s.heap rfl
  have e3 : ((s.heap.push { cls := .type "dict", data := .dict #[] }).update a fun o => { o with dict := some s.heap.objs.size }).Ns s.heap.objs.size (fun _ => none) :=
    ⟨_, #[], _, e1, rfl, (fun e he => absurd he (by simp)), fun _ => rfl⟩
  have keep : ∀ b o, b ≠ a → s.heap.get? b = some o → ((s.heap.push { cls := .type "dict", data := .dict #[] }).update a fun o => { o with dict := some s.heap.objs.size }).get? b = some o := fun b o nb q => by
    rw [Heap.get?_update_other _ _ (Ne.symm nb)]; exact Heap.get?_push_of_some _ q
  refine wpAny_pure (a := some s.heap.objs.size) (wpAny_bind (wpAny_pure (wpAny_bind ?_)))
  refine wpAny_nsSet1 (Heap.Ns1.of_empty e3) fun h' hn2 hs2 => ?_
  have rel : ∀ g, RelO ([(f, y)].lookup g) (if g = f then some u else none) := relO_cons (fs := []) (mA := fun _ => none) (fun _ => trivial) ry
  obtain ⟨oD, esD, epD, hoD, hdD, hcD⟩ := hn2.count (within_of rel)
  refine wpAny_bind (wpAny_lookBehind hoD (by rw [hdD]; exact pastItsLine_dict (Nat.le_trans hcD (Nat.le_add_left _ _))) ?_)
  have hno : s.heap.get? s.heap.objs.size = none := Heap.get?_none_of_le (Nat.le_refl _)
  have hH : H s.heap.objs.size = none := B.Inv.none_of I hno
  refine wpAny_pure (h s.heap.objs.size _ hH nad ?_)
  have ga : h'.get? a = some { cls := .ref C, dict := some s.heap.objs.size, data := .fields #[.ref t, .none, .none, .none, .bool false, .none] } := (hs2.2 a nad.symm).trans g2
  have I2 : L2.Inv X pins σ (upd H a (exO a C (some s.heap.objs.size))) { s with heap := h', toks := s.toks + 1 + 1 } := I.write (x := a) (e := a) (o := exO a C (some s.heap.objs.size)) (h' := h') (by rw [e]; trivial) (.inl rfl) (fun b o nb q => by
    have nb2 : b ≠ s.heap.objs.size := Nat.ne_of_lt (Heap.lt_size q)
    exact (hs2.2 b nb2).trans (keep b o nb q)) ⟨_, ga⟩ (exO_ok ⟨t, ga⟩)
  exact B.Inv.adopt I2 (B.Inv.newAt I hex hno) (by rw [upd_ne nad]; exact hH) hex (dO_ok ⟨_, hn2, rel⟩)
/-- e.f = v, a further attribute -/
theorem setX2 {A : Around} {E : Value → Shared → Prop} {f : Str} {y : V} {u : Value} {bm : List Value} {d : Addr} {fs : List (Str × V)} {Q : Unit → Shared → Prop} (I : L2.Inv X pins σ H s) (e : H a = some (exO a C (some d))) (ed : H d = some (dO d fs)) (hl : fs.length ≤ 100) (c : ClsX X.K C bm) (n : NoAttr X.K C f) (ry : RelV y u)
    (h : ∀ s', L2.Inv X pins σ (upd H d (dO d ((f, y) :: fs))) s' → Q () s') : wpAny (model X.prog X.w) A (setAttr (.ref a) f u) Q E s := by
  obtain ⟨t, hx⟩ := (show ObjOk X.prog X.w H s.heap a (exO a C (some d)) from I.hok a _ e).1
  obtain ⟨mA, hn, rel0⟩ := (show ObjOk X.prog X.w H s.heap d (dO d fs) from I.hok d _ ed).1
  obtain ⟨od, _, _, hod, _⟩ := id hn
  have J : PySem.W.InstAt s.heap a _ C (some od) := ⟨hx, rfl, rfl, hod⟩
  refine PySem.W.set_plain I.kIn J c.sa (store_err (s := { s with toks := s.toks + 1 }) I.kIn J c n fun b => ?_)
  obtain ⟨cd, hc, hd'⟩ := PySem.W.any_some c.hd
  refine wpAny_bind (wpAny_pure (wpAny_bind (wpAny_bind (wpAny_loadPart hx (wpAny_bind (PySem.W.Looks.here (s := { s with toks := s.toks + 1 }) (PySem.W.looks_clsIn I.kIn hc) ?_))))))
  rw [hd']
  refine wpAny_pure (a := some d) (wpAny_bind (wpAny_pure (wpAny_bind ?_)))
  refine wpAny_nsSet1 (s := { s with toks := s.toks + 1 }) hn fun h' hn2 hs2 => ?_
  have rel := relO_cons (f := f) rel0 ry
  obtain ⟨oD, esD, epD, hoD, hdD, hcD⟩ := hn2.count (within_of rel)
  have hz : esD.size ≤ 101 := by rw [List.length_map, List.length_cons] at hcD; omega
  refine wpAny_bind (wpAny_lookBehind hoD (by rw [hdD]; exact pastItsLine_dict (Nat.le_trans hz (by decide))) ?_)
  refine wpAny_pure (h _ ?_)
  exact I.write (x := d) (e := d) (o := dO d ((f, y) :: fs)) (h' := h') (by rw [ed]; trivial) (.inl rfl) (fun b o nb q => (hs2.2 b nb).trans q) ⟨_, hoD⟩ (dO_ok ⟨_, hn2, rel⟩)
end
section
variable {X : Cx} {o value : Expr} {f : Str} {ta tv : TE} {pos' pos : Pos}
def sFldE (K : PySem.W.Frag) (ta tv : TE) (f : Str) : TS := fun D σ H => tv σ H fun y H1 => ta σ H1 fun x H2 => ∃ a C bm, x = .ref a ∧ ClsX K C bm ∧ NoAttr K C f ∧
  ((H2 a = some (exO a C none) ∧ ∀ d, H2 d = none → d ≠ a → D.nx σ (upd (upd H2 a (exO a C (some d))) d (dO d [(f, y)]))) ∨
   ∃ d fs, H2 a = some (exO a C (some d)) ∧ H2 d = some (dO d fs) ∧ fs.length ≤ 100 ∧ D.nx σ (upd H2 d (dO d ((f, y) :: fs))))
theorem ps_fldE (hex : X.ex = []) (ha : PE X o ta) (hv : PE X value tv) (hs : swapsWith value (some (.Attribute o f pos')) pos.line X.env = pure false) : PS X (.Assign [.Attribute o f pos'] value pos) (sFldE X.K ta tv f) := by
  intro pins s σ H D I h
  refine plainObj_wpAny_Assign_Attribute (thn (hv pins s σ H _ I h) fun u s1 ⟨y, H1, I1, ry, q⟩ => thn (ha pins s1 σ H1 _ I1 q) fun ov s2 ⟨x, H2, I2, rx, a, C, bm, ex, c, n, q2⟩ => ?_) hs
  subst ex
  obtain rfl : ov = Value.ref a := rx
  rcases q2 with ⟨ea, k⟩ | ⟨d, fs, ea, ed, hl, k⟩
  · exact B.setX1 hex I2 ea c n ry fun d s' hd nd I' => ⟨σ, _, I', k d hd nd⟩
  · exact B.setX2 I2 ea ed hl c n ry fun s' I' => ⟨σ, _, I', k⟩
end
/-! ### errors that leave frames, their dicts kept -/
theorem Kept.any {S ch : List Addr} {h h' : Heap} (k : Kept [] ch h h') : Kept S ch h h' := ⟨fun b o _ n q => k.same b o (fun z => by cases z) n q, k.slot⟩
section
variable {X : Cx} {pins : List (Addr × Obj)} {σ : L2.St} {H : Hp} {s : Shared} {a C T : Addr} {dx : Option Addr} {fl : Value}
theorem Inv.leftK {ch : List Addr} {h' : Heap} {tk : Nat} (I : L2.Inv X pins σ H s) (hch : ∀ b ∈ ch, H b = none ∧ NewAt X pins b) (k : Kept (frs X.stack) ch s.heap h') : L2.Inv X pins σ H { s with heap := h', toks := tk } := by
  have trk : ∀ b o, H b = some o → b ∉ frs X.stack ∧ b ∉ ch := fun b o q =>
    ⟨(fun z => by rw [I.stkFree b z] at q; cases q), (fun z => by rw [(hch b z).1] at q; cases q)⟩
  refine I.call' (s' := { s with heap := h', toks := tk }) (ch := ch) rfl ⟨fun b o q _ n1 n2 => k.same b o n1 n2 q, fun b o q _ n1 n2 => k.slot b o n2 q, fun b o _ n _ => n, fun b o q n2 => ?_, fun b xs q => q, fun b o u q => q, fun b ps q => ⟨#[], by rw [Array.append_empty]; exact q⟩⟩ (fun b o q => ?_) I.bare
    (fun b hb => ⟨.inr (hch b hb).2.st, (hch b hb).2.lo, (hch b hb).2.ce, (hch b hb).2.pi⟩)
  · obtain ⟨sl, z⟩ := k.slot b o n2 q
    exact ⟨_, z⟩
  · refine (I.hok b o q).stay (fun c u hc z => ?_) (fun c z => z) (fun c xs z => z)
    rcases hc with rfl | hc
    · obtain ⟨n1, n2⟩ := trk _ _ q; exact k.same _ _ n1 n2 z
    · obtain ⟨n1, n2⟩ := trk _ _ hc; exact k.same _ _ n1 n2 z
theorem noted1 {A : Around} {E' : Value → Shared → Prop} {Q : Shared → Prop} {oe : Obj} {vs : Array Value} (hA : A.frames = X.A.frames) (I : L2.Inv X pins σ H s) (hex : X.ex = []) (hst : X.stack = X.env :: X.outer) (hfr : X.env.frame = some X.env.locals)
    (ha : H a = none) (na : NewAt X pins a) (hx : s.heap.get? a = some oe) (hd : oe.data = .fields vs) (h1 : vs[1]? = some .none) (hc : oe.cls = .ref C) (hdx : oe.dict = dx)
    (h : ∀ (s' : Shared) (T : Addr), L2.Inv X pins σ H s' → NewAt X pins T → H T = none → TrcD s'.heap a C T dx .none → Q s') :
    wpAny (model X.prog X.w) A (noteFrame (.ref a) X.env) (fun _ s2 => wpAny (model X.prog X.w) A (setFlight (.ref a) none) (fun _ s3 => Q s3) E' s2) E' s := by
  have hfrm : A.frames = some (X.env :: X.outer) := by rw [hA, I.ok.frames, hst]
  refine note1 (base := X.base) hfrm (by rw [← hst]; exact I.stack) hfr hx hd h1 hc hdx fun h1 T k1 nT t1 => ?_
  refine flightD (s := { s with heap := h1 }) t1 fun h2 k2 t2 => ?_
  have nt := B.Inv.newAt I hex nT
  have hT := B.Inv.none_of I nT
  rw [← hst] at k1
  refine h { s with heap := h2 } T (B.Inv.leftK (tk := s.toks) I (fun b hb => ?_) (k1.trans k2.any)) nt hT t2
  simp only [List.cons_append, List.nil_append, List.mem_cons, List.not_mem_nil, or_false] at hb
  rcases hb with rfl | rfl
  · exact ⟨ha, na⟩
  · exact ⟨hT, nt⟩
theorem notedN {A : Around} {E' : Value → Shared → Prop} {Q : Shared → Prop} (hA : A.frames = X.A.frames) (I : L2.Inv X pins σ H s) (hex : X.ex = []) (hst : X.stack = X.env :: X.outer) (hfr : X.env.frame = some X.env.locals)
    (ha : H a = none) (na : NewAt X pins a) (hT : H T = none) (nT : NewAt X pins T) (t : TrcD s.heap a C T dx .none)
    (h : ∀ (s' : Shared) (T' : Addr), L2.Inv X pins σ H s' → NewAt X pins T' → H T' = none → TrcD s'.heap a C T' dx .none → Q s') :
    wpAny (model X.prog X.w) A (noteFrame (.ref a) X.env) (fun _ s2 => wpAny (model X.prog X.w) A (setFlight (.ref a) none) (fun _ s3 => Q s3) E' s2) E' s := by
  have hfrm : A.frames = some (X.env :: X.outer) := by rw [hA, I.ok.frames, hst]
  refine noteN (base := X.base) hfrm (by rw [← hst]; exact I.stack) hfr t fun h1 T' k1 nT' t1 => ?_
  refine flightD (s := { s with heap := h1 }) t1 fun h2 k2 t2 => ?_
  have nt := B.Inv.newAt I hex nT'
  have hT' := B.Inv.none_of I nT'
  rw [← hst] at k1
  refine h { s with heap := h2 } T' (B.Inv.leftK (tk := s.toks) I (fun b hb => ?_) (k1.trans k2.any)) nt hT' t2
  simp only [List.cons_append, List.nil_append, List.mem_cons, List.not_mem_nil, or_false] at hb
  rcases hb with rfl | rfl | rfl
  · exact ⟨hT, nT⟩
  · exact ⟨ha, na⟩
  · exact ⟨hT', nt⟩
theorem flownN {A : Around} {E' : Value → Shared → Prop} {Q : Shared → Prop} (I : L2.Inv X pins σ H s) (hT : H T = none) (nT : NewAt X pins T) (t : TrcD s.heap a C T dx .none)
    (h : ∀ (s' : Shared), L2.Inv X pins σ H s' → TrcD s'.heap a C T dx .none → Q s') : wpAny (model X.prog X.w) A (setFlight (.ref a) none) (fun _ s3 => Q s3) E' s := by
  refine flightD t fun h2 k2 t2 => h _ (B.Inv.leftK (tk := s.toks) I (fun b hb => ?_) k2.any) t2
  rw [List.mem_singleton.mp hb]; exact ⟨hT, nT⟩
end
/-- how an error lies behind a call -/
def CXD (P : Program) (w : World) : CXT := fun outer H s E e s' => ∃ (x C T : Addr) (dx : Option Addr) (H' : Hp), e = .ref x ∧ s'.os = s.os ∧ AllBare s'.gens ∧ Un (frs outer) [] H H' s.heap s'.heap ∧ HOk P w H' s'.heap ∧ s.heap.get? x = none ∧ s.heap.get? T = none ∧ H' x = none ∧ H' T = none ∧
  TrcD s'.heap x C T dx .none ∧ E (.ref C) dx H'
section
variable {P : Program} {w : World} {K : PySem.W.Frag} {mg : Str → Option Value} {base : Heap} {N : List Str} {qual : Str} {scope : Scope} {f : Addr} {cd : Value} {A : Around} {outer : List Env} {s : Shared} {H : Hp} {E : XK}
/-- the context takes an error that is made in it -/
def TakesD (X : Cx) (E : XK) : Prop := ∀ (pins : List (Addr × Obj)) (σ : L2.St) (H : Hp) (s : Shared) (a C : Addr) (dx : Option Addr) (oe : Obj) (vs : Array Value), L2.Inv X pins σ H s → H a = none → NewAt X pins a → s.heap.get? a = some oe → oe.data = .fields vs →
  vs[1]? = some .none → oe.cls = .ref C → oe.dict = dx → E (.ref C) dx H → X.xe (.ref a) s
theorem takesD : TakesD (cxOf (CXD P w) P w K mg base N qual scope f cd A outer s H E) E := by
  intro pins σ H1 s1 a C dx oe vs I ha na hx hd h1 hc hdx hE
  show wpAny (model P w) _ (leaving _ _) _ _ s1
  unfold leaving
  refine wpAny_bind (noted1 rfl I rfl rfl rfl ha na hx hd h1 hc hdx fun s3 T' I3 nT' hT' tr' => ?_)
  exact ⟨a, C, T', dx, H1, rfl, I3.os, I3.bare, I3.base, I3.hok, na.st, nT'.st, ha, hT', tr', hE⟩
theorem Fun.okD {x : Str} {st : Stmt} {fd : FuncData} {ps : List Str} {k : Nat} {sp : Sp} (F : Fun K x qual st f fd) (S : FnScope N ps (defScope st)) (len : ∀ vs H Q E, sp vs H Q E → vs.length = ps.length)
    (hbody : ∀ (cdv : Value) (A : Around) (outer : List Env) (s : Shared) (H : Hp) (vs : List V) (Q : VK) (E : XK), Room k (A.deeper (envOfC qual (defScope st) s.heap.objs.size f cdv)) → sp vs H Q E →
      ∃ t, PSs (cxOf (CXD P w) P w K mg base N qual (defScope st) f cdv A outer s H E) (defBody st) t ∧ t { nx := fun _ H' => Q .non H', rt := Q } (start N vs) H) : FnOk P w K mg base (CXD P w) (k + 1) f fd ps sp := by
  obtain ⟨oc, od, kV, doc, pm, an, cdv, ct, osl, rfl, lk, hcd⟩ := F.ex
  exact fn_of lk hcd S len fun A outer s H vs Q E hr hsp => hbody cdv A outer s H vs Q E hr hsp
end
section
variable {X : Cx} {k : Nat} {f C : Addr} {fd : FuncData} {ps : List Str} {sp : Sp} {bm : List Value}
def tRaiseD (C : Addr) (sp : Sp) (E : XK) (t : TA) : TS := fun _ σ H => t σ H fun vs H1 => vs.length ≤ sizeLine ∧ ∀ a, H1 a = none → sp (.ref a :: vs) (upd H1 a (exO a C none)) (fun v H2 => v = .non ∧ ∃ dx, H2 a = some (exO a C dx) ∧ E (.ref C) dx (del H2 a)) E0
theorem ps_raiseD {x : Str} {p cpos pos : Pos} {e : Expr} {es : List Expr} {t : TA} {E : XK} (M : XC X.K C f bm) (hbase : bm.contains (.type "BaseException") = true) (hex : X.ex = []) (tk : TakesD X E) (F : FnOk X.prog X.w X.K X.mg X.base CX0 k f fd ps sp) (hr : Room (k + 1) X.A) (hb : Binds X.K fd ps [])
    (hg : Gl X x) (hm : X.mg x = some (.ref C)) (ha : PA X (e :: es) t) (hdb : (x == ("__debug__" : Str)) = false := by decide) (he : starEach (e :: es) X.env = (false, eval e X.env) :: starEach es X.env := by rfl) (hpl : (backTo cpos (starEach es X.env)).any (·.1) = false := by rfl) :
    PS X (.Raise (some (.Call (.Name x p) (e :: es) [] cpos)) none pos) (tRaiseD C sp E t) := by
  intro pins s σ H D I h
  obtain ⟨nm, q, N, bs, hdct, sn, sub, ab, col, dd, k0, k1, k2, k3, k5, lk⟩ := M.ob
  rw [arm_exec_Raise]
  refine wpAny_bind (wpAny_standAt (raise_own (C := C) (bm := bm) (nm := nm) (q := q) (N := N) (bs := bs) (hdct := hdct) (sn := sn) (sub := sub) (ab := ab) (col := col) (dd := dd) (k0 := k0) (k1 := k1) (k2 := k2) (k3 := k3) (k5 := k5) (newId := "ValueError.__new__") hbase hr.hd ?_))
  refine wpAny_bind (wpAny_mono (Q := fun v s' => ∃ a H', v = .ref a ∧ NewAt X pins a ∧ L2.Inv X pins σ H' s' ∧ ∃ dx, H' a = some (exO a C dx) ∧ E (.ref C) dx (del H' a)) ?_ (fun v s1 h1 => wpAny_bind (wpAny_standAt (wpAny_pure ?_))) fun _ _ y => y)
  · refine wpAny_Call_Name_kw (ld_glob I hg hm ?_ hdb)
    refine PySem.W.callWith_K (h₀ := X.base) I.ok.mod.kin M.kp (thn (ha cpos pins s σ H _ I h) fun us s1 ⟨vs, H1, I1, r, hz, q⟩ => ⟨I1.kIn, ?_⟩) he hpl
    exact run_exc M hex F hr hb I1 (us := [] ++ us) r (by rw [List.nil_append, ← r.length]; exact hz) q
  · obtain ⟨a, H', rfl, na, I1, dx, hx, hE⟩ := h1
    obtain ⟨tt, ho⟩ := (show L2.ObjOk X.prog X.w H' s1.heap a (exO a C dx) from I1.hok a _ hx).1
    exact ⟨a, tt, dx, rfl, I1.kIn _ _ lk, ho, tk pins σ (del H' a) s1 a C dx _ _ (B.Inv.forget I1 hx na.st) del_same na ho rfl rfl rfl rfl hE⟩
end
end B

namespace B
open PySem PySem.Spec L2 PyProof.Rows
/-! ### try, with or without a name -/
abbrev RX := Addr → Option Addr → Hp → Prop
def FlyD (X : Cx) (pins : List (Addr × Obj)) (R : RX) : Value → Shared → Prop := fun e s => ∃ (x C T : Addr) (dx : Option Addr) (H : Hp), e = .ref x ∧ L2.Inv X pins (hid X.N) H s ∧ H x = none ∧ NewAt X pins x ∧ H T = none ∧ NewAt X pins T ∧ TrcD s.heap x C T dx .none ∧ R C dx H
def inTryD (X : Cx) (pins : List (Addr × Obj)) (R : RX) : Cx := { X with pn := X.pn ++ pins, xe := FlyD X pins R }
section
variable {X : Cx} {pins pins' : List (Addr × Obj)} {σ : L2.St} {H : Hp} {s : Shared} {R : RX} {e : Addr}
theorem toTryD (I : L2.Inv X pins σ H s) : L2.Inv (inTryD X pins R) [] σ H s :=
  ⟨⟨I.ok.mod, I.ok.kind, I.ok.glob, I.ok.blt, I.ok.above, I.ok.inj, I.ok.has, I.ok.cab, I.ok.hd, I.ok.frames, I.ok.stk, I.ok.exf, I.ok.bs, I.ok.bsz, I.ok.noex, I.ok.exfs, I.ok.funs, I.ok.frf⟩, I.os, I.bare, I.base, I.loc, I.cell, I.free, I.freeC,
    fun p hp => I.pin p (by rw [List.append_nil] at hp; exact hp), I.hok, I.len⟩
theorem ofTryD (I : L2.Inv (inTryD X pins R) pins' σ H s) : L2.Inv X pins σ H s :=
  ⟨⟨I.ok.mod, I.ok.kind, I.ok.glob, I.ok.blt, I.ok.above, I.ok.inj, I.ok.has, I.ok.cab, I.ok.hd, I.ok.frames, I.ok.stk, I.ok.exf, I.ok.bs, I.ok.bsz, I.ok.noex, I.ok.exfs, I.ok.funs, I.ok.frf⟩, I.os, I.bare, I.base, I.loc, I.cell, I.free, I.freeC,
    fun p hp => I.pin p (List.mem_append_left _ hp), I.hok, I.len⟩
def EofD (R : RX) : XK := fun v dx H => ∃ C, v = .ref C ∧ R C dx H
/-- a callee's error in a try's body -/
theorem passTD (hex : X.ex = []) : Passes (CXD X.prog X.w) (inTryD X pins R) (EofD R) := by
  intro pins' σ H1 s1 e s2 I hx
  obtain ⟨x, C, T, dx, H2, rfl, ho, hb, un, hok, nx, nT, hx2, hT2, tr, C', e', hr⟩ := hx
  cases e'
  have na := B.Inv.newAt I hex nx
  have nt := B.Inv.newAt I hex nT
  have I2 : L2.Inv (inTryD X pins R) pins' σ H2 s2 := I.call' ho un hok hb (fun b hb => by cases hb)
  exact ⟨x, C, T, dx, H2, rfl, hid_weak (ofTryD I2), hx2, ⟨na.st, na.lo, na.ce, fun p hp => na.pi p (List.mem_append_left _ hp), na.fr⟩, hT2, ⟨nt.st, nt.lo, nt.ce, fun p hp => nt.pi p (List.mem_append_left _ hp), nt.fr⟩, tr, hr⟩
theorem SP.ofTryD {D : Ends} {f : Flow} (h : SP (inTryD X pins R) [] D f s) : SP X pins D f s := by
  cases f with
  | next => obtain ⟨σ', H', I, q⟩ := h; exact ⟨σ', H', B.ofTryD I, q⟩
  | brk => obtain ⟨σ', H', I, q⟩ := h; exact ⟨σ', H', B.ofTryD I, q⟩
  | cont => obtain ⟨σ', H', I, q⟩ := h; exact ⟨σ', H', B.ofTryD I, q⟩
  | ret u => obtain ⟨v, σ', H', I, r, q⟩ := h; exact ⟨v, σ', H', B.ofTryD I, r, q⟩
end
/-- the name of an except goes behind its suite -/
theorem name_gone {X : Cx} {pins : List (Addr × Obj)} {σ : L2.St} {H : Hp} {s : Shared} {M : Model} {A : Around} {E : Value → Shared → Prop} {i : Nat} {x : Str} {pos : Pos} {Q : Unit → Shared → Prop} (I : L2.Inv X pins σ H s) (hN : X.N.Nodup) (hi : X.N[i]? = some x) (hk : X.env.scope.names.lookup x = some .local)
    (h : ∀ s', L2.Inv X pins (σ.set i none) H s' → Q () s') : wpAny M A (do bindName X.env x .none; unbindBehindTheSuite X.env x pos) Q E s := by
  obtain ⟨m, hn, hl⟩ := id I.loc
  have hiσ : i < σ.length := by rw [I.len]; exact (List.getElem?_eq_some_iff.mp hi).1
  have lt : ∀ b o, X.s₀.heap.get? b = some o → b ≠ X.env.locals := fun b o e => Nat.ne_of_lt (Nat.lt_of_lt_of_le (Heap.lt_size e) I.ok.above)
  refine wpAny_nameGoes_keeps hk hn (by rw [I.ok.kind]; rfl) fun h' v hn' hs => h _ ?_
  refine ⟨I.ok, I.os, I.bare, ⟨fun b o e n hb hx => (hs.2 b (lt b o e)).trans (I.base.keep b o e n hb hx), fun b o e n hb hx => ?_, I.base.free, fun b o e hx => ?_, I.base.tups, I.base.frzs, I.base.tbls⟩, ⟨_, hn', fun j y v' e1 e2 e3 => ?_⟩, fun y c e => ?_, I.free, I.freeC, fun p hp => ?_, fun b ob e => ?_, by simpa using I.len⟩
  · obtain ⟨sl, e1⟩ := I.base.slot b o e n hb hx
    exact ⟨sl, (hs.2 b (lt b o e)).trans e1⟩
  · obtain ⟨o', e1⟩ := I.base.there b o e hx
    exact ⟨o', (hs.2 b (lt b o e)).trans e1⟩
  · have hj : j ≠ i := fun z => by subst z; rw [List.getElem?_set_self hiσ] at e2; cases e2
    rw [List.getElem?_set_ne (Ne.symm hj)] at e2
    obtain ⟨u', r', q⟩ := hl j y v' e1 e2 e3
    refine ⟨u', r', ?_⟩
    rcases q with ⟨k, e⟩ | ⟨k, c, e, z⟩
    · refine .inl ⟨k, ?_⟩
      have ny : y ≠ x := fun e => hj (nodup_ix hN e1 (e ▸ hi))
      show (if y = x then v else m y) = some u'
      rw [if_neg ny]; exact e
    · exact .inr ⟨k, c, e, z.sameBut hs (I.cne y c e)⟩
  · obtain ⟨w', z⟩ := I.cell y c e
    exact ⟨w', z.sameBut hs (I.cne y c e)⟩
  · obtain ⟨e, n, ne, nf, d⟩ := I.pin p hp
    exact ⟨(hs.2 p.1 ne).trans e, n, ne, nf, d⟩
  · refine (I.hok b ob e).stay (fun c w' hc q => (hs.2 c ?_).trans q) (fun _ q => q) fun _ _ q => q
    rintro rfl
    rcases hc with rfl | hc
    · rw [I.free] at e; cases e
    · rw [I.free] at hc; cases hc
/-- a caught error -/
def ErO (a C d : Addr) : Heap → Prop := fun h => ∃ oe, h.get? a = some oe ∧ oe.cls = .ref C ∧ oe.dict = some d ∧ PySem.W.notCls oe = true
def erO (a C d : Addr) : HO := .ext (ErO a C d)
theorem erO_ok {P : Program} {w : World} {H : Hp} {h : Heap} {a C d : Addr} (e : ErO a C d h) : ObjOk P w H h a (erO a C d) :=
  ⟨e, let ⟨_, q, _⟩ := e; ⟨_, q⟩, fun _ _ ⟨o, q, r⟩ k => ⟨o, k _ q, r⟩⟩
theorem TrcD.er {h : Heap} {x C T d : Addr} {fl : Value} (t : TrcD h x C T (some d) fl) : ErO x C d h := by
  obtain ⟨oe, vs, oT, ts, q1, q2, q3, q4, _⟩ := t
  exact ⟨oe, q1, q2, q3, by unfold PySem.W.notCls; rw [q4]⟩
def gone (i : Nat) (D : Ends) : Ends := { nx := fun σ H => D.nx (σ.set i none) H, rt := D.rt, bk := fun σ H => D.bk (σ.set i none) H, ct := fun σ H => D.ct (σ.set i none) H }
def tTryD (N : List Str) (R : RX) (Ok : Addr → Prop) (tb th : TS) : TS := fun D σ H => tb D σ H ∧ ∀ C dx H', R C dx H' → Ok C ∧ th D (hid N) H'
def tTryAs (N : List Str) (i : Nat) (R : RX) (Ok : Addr → Prop) (tb th : TS) : TS := fun D σ H => tb D σ H ∧ ∀ C dx H', R C dx H' → Ok C ∧ ∃ d, dx = some d ∧ ∀ a, H' a = none → th (gone i D) ((hid N).set i (some (.ref a))) (upd H' a (erO a C d))
section
variable {X : Cx} {R : RX} {body : List Stmt} {b₀ : Stmt} {suite : List Stmt} {x : Str} {p hpos pos : Pos} {u : Value} {tb th : TS}
theorem typ_of {M : Model} {h : Heap} {a C T : Addr} {dx : Option Addr} {fl : Value} (t : TrcD h a C T dx fl) : PySem.W.Looks M h (typeOf (.ref a)) (.ref C) := by
  obtain ⟨oe, _, _, _, q1, q2, _⟩ := t
  rw [← q2]
  exact (PySem.W.Looks.ld q1).andThen .now
theorem ps_tryAs {i : Nat} {n : Str} (hex : X.ex = []) (hst : X.stack = X.env :: X.outer) (hfr : X.env.frame = some X.env.locals) (hg : Gl X x) (hm : X.mg x = some u) (hN : X.N.Nodup) (hi : X.N[i]? = some n) (hn : X.env.scope.names.lookup n = some .local)
    (hb : ∀ pins, PSs (inTryD X pins R) body tb) (hs : ∀ e, PSs (inExc X e) (b₀ :: suite) th) (hd : (x == ("__debug__" : Str)) = false := by decide) :
    PS X (.Try body [.ExceptHandler (some (.Name x p)) (some n) (b₀ :: suite) hpos] [] [] pos) (tTryAs X.N i R (fun C => PySem.W.exmOne X.K (.ref C) u = some true) tb th) := by
  intro pins s σ H D I ⟨h1, h2⟩
  refine wpAny_Try_except (wpAny_mono (hb pins [] s σ H D (toTryD I) h1) (fun f s1 q => ?_) fun e s1 q => ?_)
  · have q' := SP.ofTryD q
    cases f with
    | next => exact wpAny_execs_nil q'
    | brk => exact q'
    | cont => exact q'
    | ret u => exact q'
  · obtain ⟨a, C, T, dx, H1, rfl, I1, ha, na, hT, nT, tr, hR⟩ := q
    obtain ⟨hk, d, rfl, hth⟩ := h2 C dx H1 hR
    refine notedN rfl I1 hex hst hfr ha na hT nT tr fun s2 T2 I2 nT2 hT2 tr2 => ?_
    refine wpAny_handleBy_cons (codeAny_handlers_test ?_) (by intro z; cases z)
    refine ld_glob (X := inExc X a) (toExc I2) hg hm ?_ hd
    refine PySem.W.Looks.here (s := s2) (PySem.W.exm_one (M := model X.prog X.w) I2.kIn (typ_of tr2) hk) ?_
    refine codeAny_handlers_suite_as ?_
    refine flownN I2 hT2 nT2 tr2 fun s3 I3 tr3 => ?_
    have I4 : L2.Inv X pins (hid X.N) (upd H1 a (erO a C d)) s3 := B.Inv.adopt I3 na ha hex (erO_ok tr3.er)
    refine store_ok (X := inExc X a) (toExc I4) hN hi (.inl hn) (v := .ref a) (u := .ref a) rfl (fun s5 I5 => ?_) (.inr hn)
    refine wpAny_mono (hs a pins s5 _ _ (gone i D) I5 (hth a ha)) (fun f s6 q6 => ?_) fun _ _ z => z.elim
    cases f with
    | next => obtain ⟨σ', H', J, q⟩ := q6; exact name_gone (ofExc I.ok J) hN hi hn fun s' J' => ⟨_, _, J', q⟩
    | brk => obtain ⟨σ', H', J, q⟩ := q6; exact name_gone (ofExc I.ok J) hN hi hn fun s' J' => ⟨_, _, J', q⟩
    | cont => obtain ⟨σ', H', J, q⟩ := q6; exact name_gone (ofExc I.ok J) hN hi hn fun s' J' => ⟨_, _, J', q⟩
    | ret u => obtain ⟨v, σ', H', J, r, q⟩ := q6; exact name_gone (ofExc I.ok J) hN hi hn fun s' J' => ⟨v, _, _, J', r, q⟩
end
/-! ### isinstance(e, ..) of a caught error -/
def rIsE (K : PySem.W.Frag) : List V → Hp → VK → Prop := fun xs H Q => ∃ (a C d : Addr) (fs : List (Str × V)) (bm : List Value) (c : V) (b : Bool), xs = [.ref a, c] ∧ H a = some (erO a C d) ∧ H d = some (dO d fs) ∧ ClsX K C bm ∧ GetX K C ∧
  ((∃ n, c = .ty n ∧ PySem.W.kitOne K (.ref C) (.type n) = some b) ∨ (∃ D, c = .ref D ∧ PySem.W.kitOne K (.ref C) (.ref D) = some b) ∨
   ∃ (p : Addr) (cs : List Addr), c = .ref p ∧ H p = some (.tup (cs.map V.ref)) ∧ PySem.W.kitAny K (.ref C) (cs.map Value.ref) = some b) ∧ Q (.bl b) H
theorem vals_refs : ∀ {cs : List Addr} {us : List Value}, Vals (cs.map V.ref) us → us = cs.map Value.ref
  | [], _, .nil => rfl
  | c :: cs, _, .cons r q => by
    rw [List.map_cons, vals_refs q, (show _ = Value.ref c from r)]
theorem call_isE {X : Cx} : CallR X (.builtin "isinstance") (rIsE X.K) := by
  intro pins s σ H xs us Q I r h
  obtain ⟨a, C, d, fs, bm, c, b, rfl, ea, ed, cl, gx, k, q⟩ := h
  obtain ⟨u, u2, rfl, rx, ry⟩ := vals2 r
  obtain rfl : u = Value.ref a := rx
  obtain ⟨oe, h1, h2, h3, h4⟩ := (show ObjOk X.prog X.w H s.heap a (erO a C d) from I.hok a _ ea).1
  obtain ⟨mA, ⟨od, es, ep, h5, _⟩, _⟩ := (show ObjOk X.prog X.w H s.heap d (dO d fs) from I.hok d _ ed).1
  have J : PySem.W.InstAt s.heap a oe C (some od) := ⟨h1, h2, h4, by rw [h3]; exact h5⟩
  rcases k with ⟨n, rfl, e⟩ | ⟨D, rfl, e⟩ | ⟨p, cs, rfl, hp, e⟩
  · obtain rfl : u2 = Value.type n := ry
    exact PySem.W.kia_one (kitx_err cl gx) I.kIn J e (fun z => nomatch z) fun tk => ⟨.bl b, H, I.tok tk, rfl, q⟩
  · obtain rfl : u2 = Value.ref D := ry
    exact PySem.W.kia_one (kitx_err cl gx) I.kIn J e (fun z => nomatch z) fun tk => ⟨.bl b, H, I.tok tk, rfl, q⟩
  · obtain rfl : u2 = Value.ref p := ry
    obtain ⟨_, its, rv, o, ho, hc, n, hd⟩ := (show ObjOk X.prog X.w H s.heap p (.tup (cs.map V.ref)) from I.hok p _ hp)
    rw [vals_refs rv] at hd
    obtain ⟨oc, odd, oda, osl⟩ := o
    dsimp only at hc hd
    subst hc; subst hd
    exact PySem.W.kia_tup (kitx_err cl gx) I.kIn J ho e (fun z => nomatch z) fun tk => ⟨.bl b, H, I.tok tk, rfl, q⟩
theorem call_isK {X : Cx} {K : PySem.W.Frag} (h : X.K = K) : CallR X (.builtin "isinstance") (rIsE K) := by
  subst h; exact call_isE
end B

namespace B
open PySem PySem.Spec L2 PyProof.Rows
/-! ### errors as values: made, asked, read -/
/-- an error at a with its dict at d: caught, or made and not raised -/
def IsErr (H : Hp) (a C d : Addr) : Prop := H a = some (erO a C d) ∨ H a = some (exO a C (some d))
section
variable {X : Cx} {pins : List (Addr × Obj)} {σ : L2.St} {H : Hp} {s : Shared} {a C d : Addr} {fs : List (Str × V)}
theorem IsErr.inst (I : L2.Inv X pins σ H s) (h : IsErr H a C d) (ed : H d = some (dO d fs)) : ∃ (oe od : Obj) (mA : Str → Option Value), PySem.W.InstAt s.heap a oe C (some od) ∧ (∀ name, PySem.W.lookIn name od = some (mA name)) ∧ ∀ f, RelO (fs.lookup f) (mA f) := by
  obtain ⟨mA, hn, r⟩ := (show ObjOk X.prog X.w H s.heap d (dO d fs) from I.hok d _ ed).1
  obtain ⟨od, ho, hl⟩ := lookIn_ns hn
  rcases h with h | h
  · obtain ⟨oe, h1, h2, h3, h4⟩ := (show ObjOk X.prog X.w H s.heap a (erO a C d) from I.hok a _ h).1
    exact ⟨oe, od, mA, ⟨h1, h2, h4, by rw [h3]; exact ho⟩, hl, r⟩
  · obtain ⟨t, h1⟩ := (show ObjOk X.prog X.w H s.heap a (exO a C (some d)) from I.hok a _ h).1
    exact ⟨_, od, mA, ⟨h1, rfl, rfl, ho⟩, hl, r⟩
end
/-- e.f of an error -/
def tFldE (K : PySem.W.Frag) (ta : TE) (f : Str) : TE := fun σ H Q => ta σ H fun x H1 => ∃ a C d fs bm v, x = .ref a ∧ IsErr H1 a C d ∧ H1 d = some (dO d fs) ∧ ClsX K C bm ∧ GetX K C ∧ NoAttr K C f ∧ fs.lookup f = some v ∧ Q v H1
theorem pe_fldE {X : Cx} {e : Expr} {f : Str} {pos : Pos} {ta : TE} {K : PySem.W.Frag} (hK : X.K = K) (he : PE X e ta) (hb : attributeBase e f X.env (eval e X.env) = eval e X.env) : PE X (.Attribute e f pos) (tFldE K ta f) := by
  subst hK
  intro pins s σ H Q I h
  refine attr_of hb (thn (he pins s σ H _ I h) fun u s1 ⟨x, H1, I1, rx, a, C, d, fs, bm, v, ex, ea, ed, c, g, n, l, q⟩ => ?_)
  subst ex
  obtain rfl : u = Value.ref a := rx
  obtain ⟨oe, od, mA, J, hl, r⟩ := IsErr.inst I1 ea ed
  obtain ⟨u', hu, ru⟩ := RelO.some_of (v := v) (o := mA f) (by rw [← l]; exact r f)
  unfold getAttr
  refine wpAny_bind (wpAny_mkText ?_)
  refine err_open (s := { s1 with toks := s1.toks + 1 }) I1.kIn J g ?_
  refine err_val (s := { s1 with toks := s1.toks + 1 }) I1.kIn J c (PySem.W.findObj_own c.hd n rfl (by rw [hl, hu])) ?_
  exact ⟨u', rfl, handed_of ru, v, H1, I1.tok _, ru, q⟩
/-- isinstance(e, ..) of an error -/
def rIsX (K : PySem.W.Frag) : List V → Hp → VK → Prop := fun xs H Q => ∃ (a C d : Addr) (fs : List (Str × V)) (bm : List Value) (c : V) (b : Bool), xs = [.ref a, c] ∧ IsErr H a C d ∧ H d = some (dO d fs) ∧ ClsX K C bm ∧ GetX K C ∧
  ((∃ n, c = .ty n ∧ PySem.W.kitOne K (.ref C) (.type n) = some b) ∨ (∃ D, c = .ref D ∧ PySem.W.kitOne K (.ref C) (.ref D) = some b) ∨
   ∃ (p : Addr) (cs : List Addr), c = .ref p ∧ H p = some (.tup (cs.map V.ref)) ∧ PySem.W.kitAny K (.ref C) (cs.map Value.ref) = some b) ∧ Q (.bl b) H
/-- C(e, ..): an error made as a value -/
def tMakeE (C : Addr) (sp : Sp) (t : TA) : TE := fun σ H Q => t σ H fun vs H1 => vs.length ≤ sizeLine ∧ ∀ a, H1 a = none → sp (.ref a :: vs) (upd H1 a (exO a C none)) (fun v H2 => v = .non ∧ Q (.ref a) H2) E0
end B

namespace B
open PySem PySem.Spec L2 PyProof.Rows
/-! ### several records of ours turn at once -/
section
variable {prog : Program} {w : World} {A : Around} {E : Value → Shared → Prop} {s : Shared}
/-! ### a tuple's iterator, drawn from by zip and its like -/
/-! ### zip's turn, whatever it draws from -/
structure Five (z TI TO i1 i2 : Addr) : Prop where
  a1 : TI ≠ z
  a2 : TO ≠ z
  a3 : i1 ≠ z
  a4 : i2 ≠ z
  a5 : TI ≠ TO
  a6 : TI ≠ i1
  a7 : TI ≠ i2
  a8 : TO ≠ i1
  a9 : TO ≠ i2
  b1 : i1 ≠ i2
end
end B

namespace B
open PySem PySem.Spec L2 PyProof.Rows
def Itz (K : PySem.W.Frag) (a b : Addr) : It :=
  ⟨fun i H => ∃ xs ys x y, SqT K H a xs ∧ SqT K H b ys ∧ xs[i]? = some x ∧ ys[i]? = some y,
   fun i H v H' => ∃ p x y, H p = none ∧ v = .ref p ∧ H' = upd H p (.tup [x, y]) ∧ (∀ xs, SqT K H a xs → xs[i]? = some x) ∧ ∀ ys, SqT K H b ys → ys[i]? = some y,
   fun i H => ∃ xs ys, SqT K H a xs ∧ SqT K H b ys ∧ (xs.length ≤ i ∨ ys.length ≤ i)⟩
def ZSt (z TI TO i1 i2 a b : Addr) (i : Nat) (h : Heap) : Prop := IsZip h z TI TO .none ∧ IsPair h TI (.ref i1) (.ref i2) ∧ (∃ u v, IsPair h TO u v) ∧ h.IsTupleIter i1 a i ∧ h.IsTupleIter i2 b i
/-! ### zip(a, b) of two tuples, walked -/
abbrev zA (h : Heap) (a : Addr) : Heap := h.push { cls := .type "tuple_iterator", data := .fields #[.ref a, .int 0 0] }
abbrev zB (h : Heap) (a b : Addr) : Heap := zA (zA h a) b
abbrev zC (h : Heap) (a b : Addr) : Heap := (zB h a b).push { cls := .type "tuple", data := .seq #[.ref h.objs.size, .ref (zA h a).objs.size] }
abbrev zD (h : Heap) (a b : Addr) : Heap := (zC h a b).push { cls := .type "tuple", data := .seq #[.none, .none] }
abbrev zE (h : Heap) (a b : Addr) : Heap := (zD h a b).push { cls := .type "zip", data := .fields #[.none, .bool false, .bool false, .ref (zB h a b).objs.size, .ref (zC h a b).objs.size] }
def iZip (K : PySem.W.Frag) (ta : TA) : TI := fun σ H R => ta σ H fun vs H1 => ∃ a b, vs = [.ref a, .ref b] ∧ (∃ xs, SqT K H1 a xs) ∧ (∃ ys, SqT K H1 b ys) ∧ R (Itz K a b) H1
end B

namespace B
open PySem PySem.Spec L2 PyProof.Rows

/-! ### enumerate(a tuple), walked -/
def IteT (K : PySem.W.Frag) (a : Addr) : It :=
  ⟨fun i H => ∃ xs x, SqT K H a xs ∧ xs[i]? = some x,
   fun i H v H' => ∃ p x, H p = none ∧ v = .ref p ∧ H' = upd H p (.tup [.int i, x]) ∧ ∀ xs, SqT K H a xs → xs[i]? = some x,
   fun i H => ∃ xs, SqT K H a xs ∧ xs.length ≤ i⟩
def iEnT (K : PySem.W.Frag) (ta : TA) : TI := fun σ H R => ta σ H fun vs H1 => ∃ a, vs = [.ref a] ∧ (∃ xs, SqT K H1 a xs) ∧ R (IteT K a) H1

/-! ### enumerate(a list), walked -/
def IteL (K : PySem.W.Frag) (a : Addr) : It :=
  ⟨fun i H => ∃ xs x, SqL K H a xs ∧ xs[i]? = some x,
   fun i H v H' => ∃ p x, H p = none ∧ v = .ref p ∧ H' = upd H p (.tup [.int i, x]) ∧ ∀ xs, SqL K H a xs → xs[i]? = some x,
   fun i H => ∃ xs, SqL K H a xs ∧ xs.length ≤ i⟩
def iEnL (K : PySem.W.Frag) (ta : TA) : TI := fun σ H R => ta σ H fun vs H1 => ∃ a, vs = [.ref a] ∧ (∃ xs, SqL K H1 a xs) ∧ R (IteL K a) H1

end B

namespace B
open PySem PySem.Spec L2 PyProof.Rows
/-! ### (a, b, ..) = a list of that length -/
section
variable {prog : Program} {w : World} {A : Around} {E : Value → Shared → Prop}
end
def gLst (K : PySem.W.Frag) (n : Nat) (t : TGs) : TG := fun v σ H Q => ∃ a xs, v = .ref a ∧ SqL K H a xs ∧ xs.length = n ∧ t xs σ H Q
end B

namespace B
open PySem PySem.Spec L2 PyProof.Rows
/-! ### t[lo:hi], the whole of t: t itself -/
section
variable {prog : Program} {w : World} {A : Around} {E : Value → Shared → Prop} {s : Shared}
open HT in
theorem tuple_whole {t sl : Addr} {items : Array Value} {vl vu : Value} {lo hi : Option Int} {Q : Value → Shared → Prop} (ht : IsTup s.heap t items) (hs : s.heap.IsSliceOf sl vl vu .none) (pl : IsPart vl lo) (pu : IsPart vu hi)
    (h1 : sIx items.size 0 lo = 0) (h2 : sIx items.size items.size hi = items.size) (h : Q (.ref t) s) : wpAny (model prog w) A (getItem (.ref t) (.ref sl)) Q E s := by
  obtain ⟨os, hos, hcs, hds⟩ := id hs
  have hTs : s.TypeIs (.ref sl) "slice" := ⟨os, hos, hcs⟩
  unfold getItem
  try with_reducible refine wpAny_holding ?_
  first | refine wpAny_bind (wpAny_pure ?_) | skip
  refine wpAny_bind (wpAny_sequenceKey ht.typeIs (by decide) ?_)
  refine wpAny_bind (wpAny_callSpecial?_slot (name := Str.ofString "__getitem__") ht.typeIs PyProof.Rows.slot_tuple_getitem
    (wpAny_call_entry PyProof.Rows.slot_tuple_getitem ht.typeIs entry_tuple_getitem ?_ (args_tuple_getitem _ _)))
  show wpAny _ _ (Builtin.Tuple.tupleItemsOf (.ref t) >>= _) _ _ s
  refine wpAny_bind (tupleItemsOf_ ht ?_)
  refine wpAny_bind (wpAny_typeOf hTs ?_)
  rw [if_pos (by decide)]
  refine wpAny_bind (sliceApplied_gen hs pl pu ?_)
  have hyes : ((((sIx items.size 0 lo : Nat) : Int) == 0 && (1 : Int) == 1 && (sIx items.size items.size hi - sIx items.size 0 lo) == items.size) = true) := by
    rw [h1, h2]; simp
  show wpAny _ _ (if (((sIx items.size 0 lo : Nat) : Int) == 0 && (1 : Int) == 1 && (sIx items.size items.size hi - sIx items.size 0 lo) == items.size) = true then _ else _) _ _ s
  rw [if_pos hyes]
  refine wpAny_bind ?_
  unfold Builtin.Tuple.tupleIsExact
  refine wpAny_bind (wpAny_typeOf ht.typeIs ?_)
  refine wpAny_pure ?_
  rw [if_pos (by decide)]
  exact wpAny_bind (wpAny_rule (wpAny_pure ⟨_, rfl, wpAny_pure h⟩))
end
def rSlW (K : PySem.W.Frag) : V → Option Int → Option Int → Hp → VK → Prop := fun x lo hi H Q => ∃ a xs, x = .ref a ∧ SqT K H a xs ∧ HT.sIx xs.length 0 lo = 0 ∧ HT.sIx xs.length xs.length hi = xs.length ∧ Q (.ref a) H
theorem sl_tupW {X : Cx} : SlR X (rSlW X.K) := by
  intro pins s σ H x v vl vu lo hi sl Q I rx hs pl pu h
  obtain ⟨a, xs, rfl, hx, h1, h2, q⟩ := h
  cases rx
  obtain ⟨its, r, ht, hz⟩ := I.tuple hx
  have hlen : its.toArray.size = xs.length := by rw [List.size_toArray]; exact r.length.symm
  refine ⟨"tuple", _, PyProof.Rows.slot_tuple_getitem.lookup, ht.typeIs, ?_⟩
  exact tuple_whole ht hs pl pu (by rw [hlen]; exact h1) (by rw [hlen]; exact h2) ⟨.ref a, H, I, rfl, q⟩
/-- any slice of a tuple -/
theorem sl_tupA {X : Cx} : SlR X (fun x lo hi H Q => rSlW X.K x lo hi H Q ∨ rSlT X.K x lo hi H Q) := SlR.or sl_tupW sl_tup
end B

namespace B
/-! ### ratios whose bottoms divide a number and whose values are bounded -/
theorem mkR_eq {a b c d : Int} (hb : 0 < b) (hd : 0 < d) (e : a * d = c * b) : mkR a b = mkR c d := by
  have hr := mkR_red (a := c) hd
  have hc := mkR_cross (a := c) hd
  generalize mkR c d = m at hr hc ⊢
  refine mkR_uniq hb hr.pos hr.cop ?_
  refine Int.eq_of_mul_eq_mul_right (show d ≠ 0 by omega) ?_
  have e1 : m.1 * b * d = m.1 * d * b := by ac_rfl
  have e2 : a * m.2 * d = a * d * m.2 := by ac_rfl
  rw [e1, hc, e2, e]
  ac_rfl
structure Bq (D N : Nat) (r : R) : Prop where
  pos : 0 < r.2
  cop : Int.gcd r.1 r.2 = 1
  dvd : r.2 ∣ (D : Int)
  le : r.1.natAbs ≤ N * r.2.natAbs
theorem bq_mk {D N : Nat} {a b : Int} (hb : 0 < b) (hd : b ∣ (D : Int)) (hl : a.natAbs ≤ N * b.natAbs) : Bq D N (mkR a b) := by
  obtain ⟨g, x, y, e0, gp, e1, e2, c⟩ := gcd_parts (a := a) hb
  have yp := pos_of hb gp e2
  have e : mkR a b = (x, y) := by
    unfold mkR
    rw [e0, show a / g = x by rw [e1]; exact Int.mul_ediv_cancel_left _ (by omega), show b / g = y by rw [e2]; exact Int.mul_ediv_cancel_left _ (by omega)]
  rw [e]
  refine ⟨yp, c, Int.dvd_trans ⟨g, by rw [e2, Int.mul_comm]⟩ hd, ?_⟩
  rw [e1, e2, Int.natAbs_mul, Int.natAbs_mul] at hl
  have gn : 0 < g.natAbs := by omega
  refine Nat.le_of_mul_le_mul_left (c := g.natAbs) ?_ gn
  show g.natAbs * x.natAbs ≤ g.natAbs * (N * y.natAbs)
  rw [Nat.mul_left_comm]
  exact hl
theorem Bq.mono {D N D' N' : Nat} {r : R} (h : Bq D N r) (hd : D ∣ D') (hn : N ≤ N') : Bq D' N' r :=
  ⟨h.pos, h.cop, Int.dvd_trans h.dvd (Int.ofNat_dvd.mpr hd), Nat.le_trans h.le (Nat.mul_le_mul_right _ hn)⟩
theorem Bq.plus {D N M : Nat} {r q : R} (hD : 0 < D) (h : Bq D N r) (k : Bq D M q) : Bq D (N + M) (plusR r q) := by
  obtain ⟨y, ey⟩ := h.dvd
  obtain ⟨v, ev⟩ := k.dvd
  have dp : (0 : Int) < (D : Int) := by omega
  have e : plusR r q = mkR (r.1 * y + q.1 * v) (D : Int) := by
    unfold plusR
    refine mkR_eq (Int.mul_pos h.pos k.pos) dp ?_
    rw [Int.add_mul, Int.add_mul]
    have a1 : r.1 * q.2 * (D : Int) = r.1 * y * (r.2 * q.2) := by rw [ey]; ac_rfl
    have a2 : q.1 * r.2 * (D : Int) = q.1 * v * (r.2 * q.2) := by rw [ev]; ac_rfl
    rw [a1, a2]
  rw [e]
  refine bq_mk dp (Int.dvd_refl _) ?_
  have b1 : (r.1 * y).natAbs ≤ N * D := by
    have : (D : Int).natAbs = r.2.natAbs * y.natAbs := by rw [ey, Int.natAbs_mul]
    rw [Int.natAbs_mul]
    have z := Nat.mul_le_mul_right y.natAbs h.le
    rw [Nat.mul_assoc, ← this] at z
    simpa using z
  have b2 : (q.1 * v).natAbs ≤ M * D := by
    have : (D : Int).natAbs = q.2.natAbs * v.natAbs := by rw [ev, Int.natAbs_mul]
    rw [Int.natAbs_mul]
    have z := Nat.mul_le_mul_right v.natAbs k.le
    rw [Nat.mul_assoc, ← this] at z
    simpa using z
  have b3 := Int.natAbs_add_le (r.1 * y) (q.1 * v)
  have b4 : (D : Int).natAbs = D := Int.natAbs_natCast D
  rw [b4, Nat.add_mul]
  omega
theorem Bq.neg {D N : Nat} {r : R} (h : Bq D N r) : Bq D N (-r.1, r.2) := ⟨h.pos, by show Int.gcd (-r.1) r.2 = 1; rw [Int.neg_gcd]; exact h.cop, h.dvd, by show (-r.1).natAbs ≤ _; rw [Int.natAbs_neg]; exact h.le⟩
theorem Bq.minus {D N M : Nat} {r q : R} (hD : 0 < D) (h : Bq D N r) (k : Bq D M q) : Bq D (N + M) (minusR r q) := by
  rw [← minus_eq]
  exact h.plus hD k.neg
theorem Bq.times {D N E M : Nat} {r q : R} (h : Bq D N r) (k : Bq E M q) : Bq (D * E) (N * M) (timesR r q) := by
  refine bq_mk (Int.mul_pos h.pos k.pos) ?_ ?_
  · rw [Int.natCast_mul]; exact Int.mul_dvd_mul h.dvd k.dvd
  · rw [Int.natAbs_mul, Int.natAbs_mul]
    have z := Nat.mul_le_mul h.le k.le
    calc r.1.natAbs * q.1.natAbs ≤ N * r.2.natAbs * (M * q.2.natAbs) := z
      _ = N * M * (r.2.natAbs * q.2.natAbs) := by ac_rfl
theorem Bq.bot {D N : Nat} {r : R} (hD : 0 < D) (h : Bq D N r) : r.2.natAbs ≤ D := by
  have := Int.natAbs_dvd_natAbs.mpr h.dvd
  rw [Int.natAbs_natCast] at this
  exact Nat.le_of_dvd hD this
theorem Bq.wf {D N n : Nat} {r : R} (h : Bq D N r) (hD : 0 < D) (h1 : D < 2 ^ n) (h2 : N * D < 2 ^ n) : Wf n r :=
  ⟨h.pos, Nat.lt_of_le_of_lt (Nat.le_trans h.le (Nat.mul_le_mul_left _ (h.bot hD))) h2, Nat.lt_of_le_of_lt (h.bot hD) h1, h.cop⟩
/-! ### the order -/
theorem less_iff {r q : R} : lessR r q = true ↔ r.1 * q.2 < q.1 * r.2 := by unfold lessR; exact decide_eq_true_iff
/-! ### products one behind the other -/
end B

namespace B
open PySem PySem.Spec L2 PyProof.Rows
/-! ### rules of power -/
inductive Rl where
  | pow (k : Int)
  | tab (rows : List (R × R))
def rowD : R × R := ((0, 1), (0, 1))
def slopeR (lo hi : R × R) : R := overR (minusR hi.2 lo.2) (minusR hi.1 lo.1)
def slp (rows : List (R × R)) (k : Nat) : R := slopeR (rows.getD k rowD) (rows.getD (k + 1) rowD)
def pOf (rows : List (R × R)) (s : R) : Nat := rows.countP fun r => lessR r.1 s
def qOf (rows : List (R × R)) (s : R) : Nat := rows.countP fun r => !lessR s r.1
def leftT (rows : List (R × R)) (s : R) : R := if pOf rows s = 0 then (0, 1) else slp rows (pOf rows s - 1)
def rightT (rows : List (R × R)) (s : R) : Option R := if qOf rows s < rows.length then some (slp rows (qOf rows s - 1)) else none
def powS (k : Int) (s : R) : R := timesR (k, 1) (powR s (k - 1).toNat)
def sidesOf : Rl → R → R × Option R
  | .pow k, s => (powS k s, some (powS k s))
  | .tab rows, s => (leftT rows s, rightT rows s)
def Inc (rows : List (R × R)) : Prop := rows.Pairwise fun a b => lessR a.1 b.1 = true
def AllP (rows : List (R × R)) : Prop := ∀ r ∈ rows, 0 < r.1.2
abbrev D0 : Nat := 5822723907000000000
abbrev N0 : Nat := 1000000007
abbrev N1 : Nat := 17179869184
abbrev NR : Nat := 11000000077
abbrev N2 : Nat := 1180591620717411303424
structure RowsOk (rows : List (R × R)) : Prop where
  n2 : 2 ≤ rows.length
  n12 : rows.length ≤ 12
  inc : Inc rows
  zero : ∃ y, rows[0]? = some ((0, 1), y)
  sp : ∀ r ∈ rows, Bq D0 NR r.1
  pw : ∀ r ∈ rows, Bq (D0 * D0) N2 r.2
def RlOk : Rl → Prop
  | .pow k => 2 ≤ k ∧ k ≤ 4
  | .tab rows => RowsOk rows
/-- a speed that may be asked -/
structure SpOk (s : R) : Prop where
  bq : Bq (D0 * 2) N1 s
  nn : 0 ≤ s.1
def Below : Rl → R → Prop
  | .pow _, _ => True
  | .tab rows, s => ∃ r, rows[rows.length - 1]? = some r ∧ lessR r.1 s = false
/-! ### the same by going through the pairs -/
def lAt (rows : List (R × R)) (s : R) (i : Nat) : R := if 0 < pOf rows s ∧ pOf rows s - 1 < i then slp rows (pOf rows s - 1) else (0, 1)
def rAt (rows : List (R × R)) (s : R) (i : Nat) : Option R := if 0 < qOf rows s ∧ qOf rows s - 1 < i then some (slp rows (qOf rows s - 1)) else none
/-- the slope of a power, product by product -/
def powAt (k : Int) (s : R) (j : Nat) : R := mkR (k * s.1 ^ j) (s.2 ^ j)
/-! ### who bears -/
def bearM (l : R) (r : Option R) (g : R) : Bool := !lessR g l && (match r with | none => true | some x => !lessR x g)
end B

namespace B
/-! ### ratios as numbers -/
def val (r : R) : Rat := (r.1 : Rat) / (r.2 : Rat)
theorem ne_cast {b : Int} (h : 0 < b) : (b : Rat) ≠ 0 := fun z => by
  have : b = 0 := Rat.intCast_inj.mp (by rw [z]; rfl)
  omega
theorem val_of {r : R} {a b : Int} (hr : 0 < r.2) (hb : (b : Rat) ≠ 0) (h : r.1 * b = a * r.2) : val r = (a : Rat) / (b : Rat) := by
  have h2 : (r.1 : Rat) * (b : Rat) = (a : Rat) * (r.2 : Rat) := by rw [← Rat.intCast_mul, ← Rat.intCast_mul, h]
  have h1 := ne_cast hr
  unfold val
  generalize (r.1 : Rat) = x at *
  generalize (r.2 : Rat) = y at *
  generalize (a : Rat) = u at *
  generalize (b : Rat) = v at *
  grind
theorem val_mk {a b : Int} (hb : 0 < b) : val (mkR a b) = (a : Rat) / (b : Rat) := val_of (mkR_red hb).pos (ne_cast hb) (mkR_cross hb)
theorem val_times {r q : R} (hr : 0 < r.2) (hq : 0 < q.2) : val (timesR r q) = val r * val q := by
  unfold timesR
  rw [val_mk (Int.mul_pos hr hq)]
  have h1 := ne_cast hr
  have h2 := ne_cast hq
  unfold val
  rw [Rat.intCast_mul, Rat.intCast_mul]
  generalize (r.1 : Rat) = x at *
  generalize (r.2 : Rat) = y at *
  generalize (q.1 : Rat) = u at *
  generalize (q.2 : Rat) = v at *
  grind
end B

namespace B
open PySem PySem.Spec L2 PyProof.Rows
/-! ### the same rules, each promise kept in a box, so that nothing is unfolded while terms are read -/
structure QE (X : Cx) (e : Expr) (t : TE) : Prop where
  p : PE X e t
structure QT (X : Cx) (e : Expr) (t : TT) : Prop where
  p : PT X e t
structure QW (X : Cx) (e : Expr) (t : TT) : Prop where
  p : PW X e t
structure QA (X : Cx) (es : List Expr) (t : TA) : Prop where
  p : PA X es t
structure QS (X : Cx) (st : Stmt) (t : TS) : Prop where
  p : PS X st t
structure QSs (X : Cx) (st : List Stmt) (t : TS) : Prop where
  p : PSs X st t
structure QI (X : Cx) (tg iter : Expr) (wi : TI) : Prop where
  p : PI X tg iter wi
structure QG (X : Cx) (target : Expr) (t : TG) : Prop where
  p : PG X target t
structure QGs (X : Cx) (ts : List Expr) (t : TGs) : Prop where
  p : PGs X ts t
theorem QSs.ok {X : Cx} {b : List Stmt} {t : TS} {D : Ends} {σ : L2.St} {H : Hp} (h : QSs X b t) (r : t D σ H) : ∃ t : TS, PSs X b t ∧ t D σ H := ⟨t, h.p, r⟩
structure QO (X : Cx) (o : Option Expr) (t : L2.TO) : Prop where
  p : PO X o t
section
set_option autoImplicit true
set_option relaxedAutoImplicit true
theorem qv  (i : Nat) {x : Str} {pos : Pos} (hN : X.N[i]? = some x := by rfl) (hv : Vis X.env.scope x := by first | exact Or.inl rfl | exact Or.inr (Or.inl rfl) | exact Or.inr (Or.inr rfl)) (hd : (x == ("__debug__" : Str)) = false := by decide) (hcd : (x == ("__classdict__" : Str)) = false := by decide) : QE X (.Name x pos) (tVar i) := ⟨pv i hN hv hd hcd⟩
theorem qe_int  {i j pos} : QE X (.Constant (.int i) j pos) (tC (.int i)) := ⟨pe_int ⟩
theorem qe_bl  {b j pos} : QE X (.Constant (.bool b) j pos) (tC (.bl b)) := ⟨pe_bl ⟩
theorem qe_non  {j pos} : QE X (.Constant .none j pos) (tC .non) := ⟨pe_non ⟩
theorem qe_str  {x j pos} : QE X (.Constant (.str x) j pos) (tC (.str x)) := ⟨pe_str ⟩
theorem qe_glob  {x : Str} {v : V} {u : Value} {pos : Pos} (hg : Gl X x) (hm : X.mg x = some u) (r : RelV v u) (hd : (x == ("__debug__" : Str)) = false := by decide) : QE X (.Name x pos) (tC v) := ⟨pe_glob hg hm r hd⟩
theorem qe_bltn  {x : Str} {v : V} {u : Value} {pos : Pos} (hg : Gl X x) (hm : X.mg x = none) (hv : bootBuiltins x = some u) (r : RelV v u) (hn : x ≠ "__name__" := by decide) (hd : (x == ("__debug__" : Str)) = false := by decide) : QE X (.Name x pos) (tC v) := ⟨pe_bltn hg hm hv r hn hd⟩
theorem qe_un  {op : UnaryOp} {r : V → Hp → VK → Prop} (ho : UnR X (unaryOp op) r) (ha : QE X a ta) : QE X (.UnaryOp op a pos) (tUn r ta) := ⟨pe_un ho ha.p⟩
theorem qe_not  (ha : QE X a ta) : QE X (.UnaryOp .Not a pos) (tNotV ta) := ⟨pe_not ha.p⟩
theorem qe_op  {op : Operator} {r : R2} (ho : OpR X (binaryOp op) r) (ha : QE X a ta) (hb : QE X b tb) : QE X (.BinOp a op b pos) (tOp r ta tb) := ⟨pe_op ho ha.p hb.p⟩
theorem qe_one  {op} {t : TE} (h : QE X a t) : QE X (.BoolOp op [a] pos) t := ⟨pe_one h.p⟩
theorem qe_and {rest : List Expr} (ha : QE X a ta) (hb : QE X (.BoolOp .And (b :: rest) pos) tb) : QE X (.BoolOp .And (a :: b :: rest) pos) (tAndV ta tb) := ⟨pe_and ha.p hb.p⟩
theorem qe_cmpR  {op : CmpOp} {r : R2} (ho : OpR X (compareOp op) r) (ha : QE X a ta) (hb : QE X b tb) (hm : behindInMarks op b = false) : QE X (.Compare a [op] [b] pos) (tOp r ta tb) := ⟨pe_cmpR ho ha.p hb.p hm⟩
theorem qe_ifExp  {c : Expr} (hc : QT X c tA) (ha : QE X a ta) (hb : QE X b tb) : QE X (.IfExp c a b pos) (tIf tA ta tb) := ⟨pe_ifExp hc.p ha.p hb.p⟩
theorem qe_lst  (h : QA X es t) : QE X (.List es pos) (tLst t) := ⟨pe_lst h.p⟩
theorem qe_tup  {x1} (h : QA X es t) : QE X (.Tuple es x1 pos) (tTup t) := ⟨pe_tup h.p⟩
theorem qe_slice {lo hi : Option Expr} {r : V → Option Int → Option Int → Hp → VK → Prop} (hr : SlR X r) (he : QE X e te) (hl : QO X lo tl) (hu : QO X hi th) : QE X (.Subscript e (.Slice lo hi none p2) pos) (tSl r te tl th) := ⟨pe_slice hr he.p hl.p hu.p⟩
theorem qo_none   : QO X none tNoPart := ⟨po_none ⟩
theorem qo_some  (h : QE X e te) : QO X (some e) (tPart te) := ⟨po_some h.p⟩
theorem qe_ix  {r : R2} (hr : IxR X r) (ha : QE X a ta) (hb : QE X b tb) (hs : PlainIx b) : QE X (.Subscript a b pos) (tOp r ta tb) := ⟨pe_ix hr ha.p hb.p hs⟩
theorem qe_call  (F : FnOk X.prog X.w X.K X.mg X.base CX k f fd ps sp) (hr : Room k X.A) (hg : Gl X x) (hm : X.mg x = some (.ref f)) (hk : PySem.W.keepIn X.K (.ref f) = true) (hb : Binds X.K fd ps ds) (hd : Vals dvs ds) (hx : Passes CX X E) (ha : QA X (e :: es) t) (hdb : (x == ("__debug__" : Str)) = false := by decide) (he : starEach (e :: es) X.env = (false, eval e X.env) :: starEach es X.env := by rfl) (hpl : (backTo pos (starEach es X.env)).any (·.1) = false := by rfl) : QE X (.Call (.Name x p) (e :: es) [] pos) (tCall sp dvs E t) := ⟨pe_call F hr hg hm hk hb hd hx ha.p hdb he hpl⟩
theorem qe_callB {id : String} (hc : CallR X (.builtin id) r) (hg : Gl X x) (hm : X.mg x = none) (hv : bootBuiltins x = some (.builtin id)) (ha : QA X (e :: es) t) (hn : x ≠ "__name__" := by decide) (hdb : (x == ("__debug__" : Str)) = false := by decide) (he : starEach (e :: es) X.env = (false, eval e X.env) :: starEach es X.env := by rfl) (hpl : (backTo pos (starEach es X.env)).any (·.1) = false := by rfl) : QE X (.Call (.Name x p) (e :: es) [] pos) (tCB r t) := ⟨pe_callB hc hg hm hv ha.p hn hdb he hpl⟩
theorem qe_callTy  (hc : CallR X (.type T) r) (hg : Gl X x) (hm : X.mg x = none) (hv : bootBuiltins x = some (.type T)) (ha : QA X (e :: es) t) (hn : x ≠ "__name__" := by decide) (hdb : (x == ("__debug__" : Str)) = false := by decide) (he : starEach (e :: es) X.env = (false, eval e X.env) :: starEach es X.env := by rfl) (hpl : (backTo pos (starEach es X.env)).any (·.1) = false := by rfl) : QE X (.Call (.Name x p) (e :: es) [] pos) (tCB r t) := ⟨pe_callTy hc hg hm hv ha.p hn hdb he hpl⟩
theorem qe_bm {id : String} (pa : PlainAttrs T) (slot : Slot T name id) (hty : typeOf (.builtin id) = pure (.type "method_descriptor")) (hm : MtR X id r) (ho : QE X o to) (ha : QA X (e :: es) t) (hbase : attributeBase o name X.env (eval o X.env) = eval o X.env := by rfl) (hfew : ((backTo cpos (starEach (e :: es) X.env)).all (fun x => !x.1) && (backToKw cpos (keywordEach [] X.env)).all (fun x => x.1.isSome)
      && decide ((e :: es).length + ([] : List Keyword).length + (if ([] : List Keyword).isEmpty then 0 else 1) < 30)) = true := by rfl) (hline : (apos.endLine == cpos.line) = true := by rfl) (hs : starEach (e :: es) X.env = (false, eval e X.env) :: starEach es X.env := by rfl) (hplain : (backTo cpos (starEach es X.env)).any (·.1) = false := by rfl) : QE X (.Call (.Attribute o name apos) (e :: es) [] cpos) (tBM X.K T r to t) := ⟨pe_bm pa slot hty hm ho.p ha.p hbase hfew hline hs hplain⟩
theorem qa_nil   : QA X [] tNil := ⟨pa_nil ⟩
theorem qa_cons  (ha : QE X e te) (hr : QA X es t) (hs : starEach (e :: es) X.env = (false, eval e X.env) :: starEach es X.env := by rfl) : QA X (e :: es) (tCons te t) := ⟨pa_cons ha.p hr.p hs⟩
theorem qt_cmpR  {op : CmpOp} {r : R2} (ho : OpR X (compareOp op) r) (ha : QE X a ta) (hb : QE X b tb) (hm : behindInMarks op b = false) : QT X (.Compare a [op] [b] pos) (tTest (tOp r ta tb)) := ⟨pt_cmpR ho ha.p hb.p hm⟩
theorem qt_val  {e : Expr} {t : TE} (h : QE X e t) (he : ∀ whole, isTrue e X.env whole = (do let v ← whole; standAt e.pos; holding [v] (truthy v)) := by intro _; rfl) : QT X e (tB t) := ⟨pt_val h.p he⟩
theorem qt_not  (ha : QT X a tA) : QT X (.UnaryOp .Not a pos) (tNot tA) := ⟨pt_not ha.p⟩
theorem qw_or {rest : List Expr} (ha : QT X a tA) (hb : QW X (.BoolOp .Or (b :: rest) pos) tB') : QW X (.BoolOp .Or (a :: b :: rest) pos) (tOr tA tB') := ⟨pw_or ha.p hb.p⟩
theorem qw_or1  (ha : QT X a tA) : QW X (.BoolOp .Or [a] pos) tA := ⟨pw_or1 ha.p⟩
theorem qw_pt  {X : Cx} {e : Expr} {t : TT} (h : QW X e t) : QT X e t := ⟨PW.pt h.p⟩
theorem qs_set  {i : Nat} {x : Str} {e : Expr} {te : TE} {pos' : Pos} (hN : X.N.Nodup) (hi : X.N[i]? = some x) (hx : Loc X.env.scope x) (he : QE X e te) (hs : swapsWith e (some (.Name x pos')) pos.line X.env = pure false := by rfl) (hf : X.fn x = true ∨ X.env.scope.names.lookup x = some .local := by first | exact .inl rfl | exact .inr rfl | assumption) : QS X (.Assign [.Name x pos'] e pos) (tAsg te (gName i)) := ⟨ps_set hN hi hx he.p hs hf⟩
theorem qs_par  {i j : Nat} {x y : Str} {a b : Expr} {ta : TA} {px py pt : Pos} {kt k2 pt2} (hc : X.calm = true) (hN : X.N.Nodup) (hi : X.N[i]? = some x) (hj : X.N[j]? = some y) (hij : i ≠ j) (hx : X.env.scope.names.lookup x = some .local) (hy : X.env.scope.names.lookup y = some .local) (ha : QA X [a, b] ta) (hw : swappedStores [.Tuple [.Name x px, .Name y py] kt pt] (.Tuple [a, b] k2 pt2) X.env = pure (some [x, y])) (hs : swapsWithSole [.Tuple [.Name x px, .Name y py] kt pt] (.Tuple [a, b] k2 pt2) pos.line X.env = pure false := by rfl) : QS X (.Assign [.Tuple [.Name x px, .Name y py] kt pt] (.Tuple [a, b] k2 pt2) pos) (tPar i j ta) := ⟨ps_par hc hN hi hj hij hx hy ha.p hw hs⟩
theorem qs_asg  {tg e : Expr} {te : TE} {g : TG} (he : QE X e te) (hg : QG X tg g) (hs : swapsWithSole [tg] e pos.line X.env = pure false := by rfl) (hw : swappedStores [tg] e X.env = pure none := by rfl) (h1 : (assignEach [tg] X.env).map (·.2) = [assign tg X.env] := by rfl) : QS X (.Assign [tg] e pos) (tAsg te g) := ⟨ps_asg he.p hg.p hs hw h1⟩
theorem qs_if  {c : Expr} {a b : List Stmt} {tc : TT} (hc : QT X c tc) (ha : QSs X a t) (hb : QSs X b u) : QS X (.If c a b pos) (tIfS tc t u) := ⟨ps_if hc.p ha.p hb.p⟩
theorem qs_while  {c : Expr} {body : List Stmt} {tc : TT} {tb : TS} (hp : PassesOwn (model X.prog X.w) X.A X.env X.xe) (hc : QT X c tc) (hb : QSs X body tb) : QS X (.While c body [] pos) (tWhile tc tb) := ⟨ps_while hp hc.p hb.p⟩
theorem qs_for  {iter : Expr} {body : List Stmt} {wi : TI} {g : TG} {tb : TS} {pos : Pos} (hp : PassesOwn (model X.prog X.w) X.A X.env X.xe) (hc : X.calm = true) (hi : QI X tg iter wi) (hg : QG X tg g) (hb : QSs X body tb) (hs : ∀ x, foldedSetIterable iter X.env x = pure x := by intro _; rfl) : QS X (.For tg iter body [] pos) (tFor wi g tb) := ⟨ps_for hp hc hi.p hg.p hb.p hs⟩
theorem qs_ret  (he : QE X e te) : QS X (.Return (some e) pos) (tRet te) := ⟨ps_ret he.p⟩
theorem qs_expr  (he : QE X e te) (hs : swapsWith e none pos.line X.env = pure false := by rfl) : QS X (.Expr e pos) (tDrop te) := ⟨ps_expr he.p hs⟩
theorem qs_never {st : Stmt}  : QS X st tNever := ⟨ps_never ⟩
theorem qss_nil   : QSs X [] tNext := ⟨pss_nil ⟩
theorem qss_one {st : Stmt} (h1 : QS X st t) : QSs X [st] t := ⟨pss_one h1.p⟩
theorem qss_cons {st : Stmt} {rest : List Stmt} (h1 : QS X st t) (h2 : QSs X rest u) : QSs X (st :: rest) (tSeq t u) := ⟨pss_cons h1.p h2.p⟩
theorem qi_range1  {a : Expr} {ta : TA} {p pos : Pos} (hg : Gl X "range") (hm : X.mg "range" = none) (ha : QA X [a] ta) (hs : starEach [a] X.env = [(false, eval a X.env)] := by rfl) : QI X tg (.Call (.Name "range" p) [a] [] pos) (iRng1 ta) := ⟨pi_range1 hg hm ha.p hs⟩
theorem qi_list {tg : Expr} {l : Expr} {tl : TE} (hl : QE X l tl) : QI X tg l (iList X.K tl) := ⟨pi_list hl.p⟩
theorem qi_tup  {l : Expr} {tl : TE} (hl : QE X l tl) : QI X tg l (iTup X.K tl) := ⟨pi_tup hl.p⟩
theorem qg_name  {i : Nat} {x : Str} (hN : X.N.Nodup) (hi : X.N[i]? = some x) (hx : Loc X.env.scope x) (hf : X.fn x = true ∨ X.env.scope.names.lookup x = some .local := by first | exact .inl rfl | exact .inr rfl | assumption) : QG X (.Name x pos) (gName i) := ⟨pg_name hN hi hx hf⟩
theorem qg_sub  {o i : Expr} {to ti : TE} {t : TSet} (ho : QE X o to) (hi : QE X i ti) (hs : PSet X t) (ha : ∀ v, assign (.Subscript o i pos) X.env v = (do
      let ov ← holding [v] (eval o X.env)
      let iv ← holding [v, ov] (eval i X.env)
      standAt pos
      holding [v, ov, iv] (setItem ov iv v)
      release [v, ov, iv] []) := by intro _; rfl) : QG X (.Subscript o i pos) (gSub to ti t) := ⟨pg_sub ho.p hi.p hs ha⟩
end
end B

namespace B
open PySem PySem.Spec L2 PyProof.Rows
structure QTs (X : Cx) (ifs : List Expr) (t : TT) : Prop where
  p : PTs X ifs t
section
set_option autoImplicit true
set_option relaxedAutoImplicit true
theorem qts_nil  {X : Cx} : QTs X [] tYes := ⟨pts_nil ⟩
theorem qts_one  {X : Cx} {c : Expr} {t : TT} (h : QT X c t) : QTs X [c] t := ⟨pts_one h.p⟩
theorem qe_lcomp  (hc : X.calm = true) (hi : QI X tg iter wi) (hg : ∀ C fp pins s H, QG (cxC X N' scope cl C fp pins s H) tg g) (ht : ∀ C fp pins s H, QTs (cxC X N' scope cl C fp pins s H) ifs tt) (he : ∀ C fp pins s H, QE (cxC X N' scope cl C fp pins s H) elt te) (hfree : FreeOk X scope cl N' src) (hclos : closureFor scope X.env = pure cl) (hcell : ∀ x ∈ scope.names, x.2 ≠ .cell) (hkind : scope.kind = .function) (hnames : ∀ x ∈ scope.names, x.2 = .local → scope.names.lookup x.1 = some .local) (hcl : CellsOk X scope cl) (hs : ∀ x, foldedSetIterable iter X.env x = pure x := by intro _; rfl) : QE X (.ListComp elt [⟨tg, iter, ifs, 0⟩] scope pos) (tComp wi src g tt te) := ⟨pe_lcomp hc hi.p (fun z0 z1 z2 z3 z4 => (hg z0 z1 z2 z3 z4).p) (fun z0 z1 z2 z3 z4 => (ht z0 z1 z2 z3 z4).p) (fun z0 z1 z2 z3 z4 => (he z0 z1 z2 z3 z4).p) hfree hclos hcell hkind hnames hcl hs⟩
end
end B

namespace B
open PySem PySem.Spec L2 PyProof.Rows
/-! ### rules with K spelt out (within a comprehension) -/
section
variable {X : Cx} {K : PySem.W.Frag}
def rLen (K : PySem.W.Frag) : List V → Hp → VK → Prop := fun xs H Q => ∃ p ys, xs = [.ref p] ∧ (SqL K H p ys ∨ SqT K H p ys) ∧ Q (.int ys.length) H
end
theorem star_bin {a b : Expr} {op : Operator} {pos : Pos} {es : List Expr} {env : Env} : starEach (.BinOp a op b pos :: es) env = (false, eval (.BinOp a op b pos) env) :: starEach es env := rfl
/-! ### a loop over zip -/
end B

namespace B
open PySem
/-! ### arguments that are no starred ones, by their kind -/
section
variable {es : List Expr} {env : Env}
theorem star_tup {a b c} : starEach (.Tuple a b c :: es) env = (false, eval (.Tuple a b c) env) :: starEach es env := rfl
theorem star_lst {a b} : starEach (.List a b :: es) env = (false, eval (.List a b) env) :: starEach es env := rfl
theorem star_sub {a b c} : starEach (.Subscript a b c :: es) env = (false, eval (.Subscript a b c) env) :: starEach es env := rfl
theorem star_call {a b c d} : starEach (.Call a b c d :: es) env = (false, eval (.Call a b c d) env) :: starEach es env := rfl
theorem star_name {a b} : starEach (.Name a b :: es) env = (false, eval (.Name a b) env) :: starEach es env := rfl
theorem star_con {a b c} : starEach (.Constant a b c :: es) env = (false, eval (.Constant a b c) env) :: starEach es env := rfl
theorem star_un {a b c} : starEach (.UnaryOp a b c :: es) env = (false, eval (.UnaryOp a b c) env) :: starEach es env := rfl
theorem star_att {a b c} : starEach (.Attribute a b c :: es) env = (false, eval (.Attribute a b c) env) :: starEach es env := rfl
theorem star_lc {a b c d} : starEach (.ListComp a b c d :: es) env = (false, eval (.ListComp a b c d) env) :: starEach es env := rfl
theorem star_if {a b c d} : starEach (.IfExp a b c d :: es) env = (false, eval (.IfExp a b c d) env) :: starEach es env := rfl
end
end B

namespace B
open PySem L2 PyProof.Rows
/-! ### things one by one -/
inductive Als {α : Type} (P : V → α → Prop) : List V → List α → Prop where
  | nil : Als P [] []
  | cons {x : V} {d : α} {xs : List V} {ds : List α} (h : P x d) (t : Als P xs ds) : Als P (x :: xs) (d :: ds)
theorem Als.len {α : Type} {P : V → α → Prop} : ∀ {xs : List V} {ds : List α}, Als P xs ds → xs.length = ds.length
  | _, _, .nil => rfl
  | _, _, .cons _ t => congrArg (· + 1) t.len
theorem Als.mono {α : Type} {P P' : V → α → Prop} (m : ∀ v d, P v d → P' v d) : ∀ {xs : List V} {ds : List α}, Als P xs ds → Als P' xs ds
  | _, _, .nil => .nil
  | _, _, .cons h t => .cons (m _ _ h) (t.mono m)
theorem Als.snoc {α : Type} {P : V → α → Prop} {x : V} {d : α} (k : P x d) : ∀ {xs : List V} {ds : List α}, Als P xs ds → Als P (xs ++ [x]) (ds ++ [d])
  | _, _, .nil => .cons k .nil
  | _, _, .cons h t => .cons h (t.snoc k)
theorem Als.at {α : Type} {P : V → α → Prop} : ∀ {xs : List V} {ds : List α}, Als P xs ds → ∀ {i : Nat} {x : V}, xs[i]? = some x → ∃ d, ds[i]? = some d ∧ P x d
  | _, _, .cons h _, 0, x, e => by
    rw [List.getElem?_cons_zero] at e
    cases e
    exact ⟨_, rfl, h⟩
  | _, _, .cons _ t, i + 1, x, e => t.at (i := i) (by rw [List.getElem?_cons_succ] at e; exact e)
  | _, _, .nil, _, _, e => by cases e
theorem Als.deep {α : Type} {K : PySem.W.Frag} {H : Hp} {P : V → α → Prop} {f : α → PyData} (m : ∀ v d, P v d → Deep K H v (f d)) : ∀ {xs : List V} {ds : List α}, Als P xs ds → DeepAll K H xs (ds.map f)
  | _, _, .nil => .nil
  | _, _, .cons h t => .cons (m _ _ h) (t.deep m)
/-! ### [text of x for x in t], t a tuple -/
/-! ### [thing drawn for k in range(n)] -/
end B

namespace B
open PySem PySem.Spec L2 PyProof.Rows
/-! ### comprehensions, the things around staying -/
/-- the last one of two rows of things -/
theorem Als.last {α : Type} {P : V → α → Prop} {xs : List V} {ds : List α} {n : Nat} (h : Als P xs ds) (hn : ds.length = n + 1) : ∃ x d, atI xs (-1) = some x ∧ ds[n]? = some d ∧ P x d ∧ xs[n]? = some x := by
  have hl := h.len
  have hx : xs[n]? = some (xs[n]'(by omega)) := List.getElem?_eq_getElem _
  obtain ⟨d, hd, p⟩ := h.at hx
  refine ⟨_, d, ?_, hd, p, hx⟩
  have e : xs = xs.take n ++ [xs[n]'(by omega)] := by
    have := List.take_append_drop n xs
    rw [List.drop_eq_getElem_cons (by omega)] at this
    rw [List.drop_eq_nil_of_le (by omega)] at this
    exact this.symm
  have := atI_last (xs.take n) (xs[n]'(by omega))
  rw [← e] at this
  exact this
end B

namespace B
open PySem PySem.Spec L2 PyProof.Rows
section
set_option autoImplicit true
set_option relaxedAutoImplicit true
end
end B

namespace B
open PySem PySem.Spec L2 PyProof.Rows
/-! ### == of things whose inside is known; isinstance of a tuple that is read -/
def rEqD (K : PySem.W.Frag) : R2 := fun x y H Q => ∃ d d', Deep K H x d ∧ Deep K H y d' ∧ d.canLay0 = true ∧ d'.canLay0 = true ∧ d.depth ≤ 32 ∧ Q (.bl (PyData.eqv d d')) H
theorem op_eqD {X : Cx} {k : Nat} (hr : Room k X.A) : OpR X (compareOp .Eq) (rEqD X.K) := by
  intro pins s σ H x y v u Q I rx ry h
  obtain ⟨d, d', hd, hd', c, c', dp, q⟩ := h
  obtain ⟨as, ra⟩ := Deep.reads I hd rx
  obtain ⟨bs, rb⟩ := Deep.reads I hd' ry
  exact SeqAt.compareEq_reads ra rb c c' (by have := hr.units; omega) ⟨.bl _, H, I, rfl, q⟩
def rIsiT (K : PySem.W.Frag) : List V → Hp → VK → Prop := fun xs H Q => ∃ a ys n b, xs = [.ref a, .ty n] ∧ SqT K H a ys ∧ kitTT "tuple" n = some b ∧ Q (.bl b) H
theorem call_isiT {X : Cx} : CallR X (.builtin "isinstance") (rIsiT X.K) := by
  intro pins s σ H xs us Q I r h
  obtain ⟨a, ys, n, b, rfl, hS, e, q⟩ := h
  obtain ⟨u, u2, rfl, rx, ry⟩ := vals2 r
  obtain rfl : u2 = Value.type n := ry
  cases (show u = Value.ref a from rx)
  obtain ⟨its, _, ⟨o, h1, h2, _⟩, _⟩ := I.tuple hS
  exact PySem.W.kia_one PySem.W.kitx_tuple I.kIn ⟨o, h1, h2⟩ (kit_of e) (fun z => nomatch z) fun tk => ⟨.bl b, H, I.tok tk, rfl, q⟩
end B

namespace B
open PySem PySem.Spec L2 PyProof.Rows
section
set_option autoImplicit true
set_option relaxedAutoImplicit true
theorem qe_fldE  {X : Cx} {e : Expr} {f : Str} {pos : Pos} {ta : TE} {K : PySem.W.Frag} (hK : X.K = K) (he : QE X e ta) (hb : attributeBase e f X.env (eval e X.env) = eval e X.env) : QE X (.Attribute e f pos) (tFldE K ta f) := ⟨pe_fldE hK he.p hb⟩
theorem qs_fldE  (hex : X.ex = []) (ha : QE X o ta) (hv : QE X value tv) (hs : swapsWith value (some (.Attribute o f pos')) pos.line X.env = pure false) : QS X (.Assign [.Attribute o f pos'] value pos) (sFldE X.K ta tv f) := ⟨ps_fldE hex ha.p hv.p hs⟩
theorem qs_raiseD  {x : Str} {p cpos pos : Pos} {e : Expr} {es : List Expr} {t : TA} {E : XK} (M : XC X.K C f bm) (hbase : bm.contains (.type "BaseException") = true) (hex : X.ex = []) (tk : TakesD X E) (F : FnOk X.prog X.w X.K X.mg X.base CX0 k f fd ps sp) (hr : Room (k + 1) X.A) (hb : Binds X.K fd ps []) (hg : Gl X x) (hm : X.mg x = some (.ref C)) (ha : QA X (e :: es) t) (hdb : (x == ("__debug__" : Str)) = false := by decide) (he : starEach (e :: es) X.env = (false, eval e X.env) :: starEach es X.env := by rfl) (hpl : (backTo cpos (starEach es X.env)).any (·.1) = false := by rfl) : QS X (.Raise (some (.Call (.Name x p) (e :: es) [] cpos)) none pos) (tRaiseD C sp E t) := ⟨ps_raiseD M hbase hex tk F hr hb hg hm ha.p hdb he hpl⟩
theorem qs_tryAs {R : RX} {suite : List Stmt} {i : Nat} {n : Str} (hex : X.ex = []) (hst : X.stack = X.env :: X.outer) (hfr : X.env.frame = some X.env.locals) (hg : Gl X x) (hm : X.mg x = some u) (hN : X.N.Nodup) (hi : X.N[i]? = some n) (hn : X.env.scope.names.lookup n = some .local) (hb : ∀ pins, QSs (inTryD X pins R) body tb) (hs : ∀ e, QSs (inExc X e) (b₀ :: suite) th) (hd : (x == ("__debug__" : Str)) = false := by decide) : QS X (.Try body [.ExceptHandler (some (.Name x p)) (some n) (b₀ :: suite) hpos] [] [] pos) (tTryAs X.N i R (fun C => PySem.W.exmOne X.K (.ref C) u = some true) tb th) := ⟨ps_tryAs hex hst hfr hg hm hN hi hn (fun z0 => (hb z0).p) (fun z0 => (hs z0).p) hd⟩
end
end B

namespace L2
open PySem PySem.Spec PyProof.Rows

/-! ### lists of pairs as tables -/
section
variable {κ : Type} [DecidableEq κ]
def valV (kvs : List (κ × V)) (k : κ) : Option V := (kvs.find? fun kv => decide (kv.1 = k)).map (·.2)
/-- in its place, or at the end -/
def putK (kvs : List (κ × V)) (k : κ) (v : V) : List (κ × V) :=
  if (kvs.any fun kv => decide (kv.1 = k)) = true then kvs.map (fun kv => if kv.1 = k then (kv.1, v) else kv) else kvs ++ [(k, v)]
def dropK (kvs : List (κ × V)) (k : κ) : List (κ × V) := kvs.filter fun kv => decide (kv.1 ≠ k)

theorem valV_pos {p : κ × V} {r : List (κ × V)} {k : κ} (e : p.1 = k) : valV (p :: r) k = some p.2 := by simp [valV, List.find?_cons, e]
theorem valV_neg {p : κ × V} {r : List (κ × V)} {k : κ} (e : ¬ p.1 = k) : valV (p :: r) k = valV r k := by simp [valV, List.find?_cons, e]
theorem length_putK (kvs : List (κ × V)) (k : κ) (v : V) : (putK kvs k v).length ≤ kvs.length + 1 := by
  unfold putK
  split
  · rw [List.length_map]; omega
  · rw [List.length_append, List.length_cons, List.length_nil]; omega


/-- raw tables of the same keys -/
theorem KV.val {kvs : List (κ × V)} {vs : List (κ × Value)} (r : KV kvs vs) (k : κ) : RelO (valV kvs k) (valueAt vs k) := by
  unfold KV at r
  induction r with
  | nil => exact True.intro
  | @cons p q ps qs h t ih =>
    obtain ⟨h1, h2⟩ := h
    by_cases e : p.1 = k
    · have e' : q.1 = k := h1.symm.trans e
      have b : valueAt (q :: qs) k = some q.2 := by simp [valueAt, List.find?_cons, e']
      rw [valV_pos e, b]; exact h2
    · have e' : ¬ q.1 = k := fun z => e (h1.trans z)
      have b : valueAt (q :: qs) k = valueAt qs k := by simp [valueAt, List.find?_cons, e']
      rw [valV_neg e, b]; exact ih
theorem KV.any {kvs : List (κ × V)} {vs : List (κ × Value)} (r : KV kvs vs) (k : κ) : (kvs.any fun kv => decide (kv.1 = k)) = vs.any fun kv => decide (kv.1 = k) := by
  unfold KV at r
  induction r with
  | nil => rfl
  | cons h t ih => rw [List.any_cons, List.any_cons, ih, h.1]
theorem KV.repl {kvs : List (κ × V)} {vs : List (κ × Value)} (r : KV kvs vs) (k : κ) {y : V} {u : Value} (ry : RelV y u) :
    KV (kvs.map fun kv => if kv.1 = k then (kv.1, y) else kv) (vs.map fun kv => if kv.1 = k then (kv.1, u) else kv) := by
  unfold KV at r ⊢
  induction r with
  | nil => exact .nil
  | @cons p q ps qs h t ih =>
    rw [List.map_cons, List.map_cons]
    refine .cons ?_ ih
    obtain ⟨h1, h2⟩ := h
    by_cases e : p.1 = k
    · rw [if_pos e, if_pos (h1.symm.trans e)]; exact ⟨h1, ry⟩
    · rw [if_neg e, if_neg (fun z => e (h1.trans z))]; exact ⟨h1, h2⟩
theorem KV.put {kvs : List (κ × V)} {vs : List (κ × Value)} (r : KV kvs vs) (k : κ) {y : V} {u : Value} (ry : RelV y u) : KV (putK kvs k y) (stored vs k u) := by
  unfold putK stored
  rw [r.any k]
  by_cases e : (vs.any fun kv => decide (kv.1 = k)) = true
  · rw [if_pos e, if_pos e]; exact r.repl k ry
  · rw [if_neg e, if_neg e]; exact Paired.snoc r ⟨rfl, ry⟩
end


/-! ### a tracked dict, its keys ints and texts or tuples of these -/
theorem kV_is {P : Program} {w : World} {k : Key} {u : Value} (r : RelV (kV k) u) : (mixKind P w).is k u = true := by
  cases k with
  | inl i => obtain ⟨t, e⟩ := (show ∃ t, u = Value.int i t from r); subst e; exact mixKind_int P w i t
  | inr x => obtain ⟨t, e⟩ := (show ∃ t, u = Value.str x t from r); subst e; exact mixKind_str P w x t
theorem items_are {P : Program} {w : World} : ∀ {ks : List Key} {us : List Value}, Vals (ks.map kV) us → ItemsAre (mixKind P w) ks us
  | [], _, r => by rw [List.map_nil] at r; cases r; exact .nil
  | k :: ks, _, r => by
    rw [List.map_cons] at r
    cases r with
    | cons h t => exact .cons (kV_is h) (items_are t)

/-- raw entries of a dict with tuple keys -/
abbrev KT (H : Hp) : List (List Key × V) → List (List Key × Addr × Value) → Prop := Paired fun p q => p.1 = q.1 ∧ H q.2.1 = some (.tup (p.1.map kV)) ∧ RelV p.2 q.2.2
theorem KT.val {H : Hp} {kvs : List (List Key × V)} {xs : List (List Key × Addr × Value)} (r : KT H kvs xs) (k : List Key) : RelO (valV kvs k) ((atKey xs k).map (·.2)) := by
  induction r with
  | nil => exact True.intro
  | @cons p q ps qs h t ih =>
    obtain ⟨h1, _, h2⟩ := h
    by_cases e : p.1 = k
    · have e' : q.1 = k := h1.symm.trans e
      have b : atKey (q :: qs) k = some q.2 := by simp [atKey, List.find?_cons, e']
      rw [valV_pos e, b]; exact h2
    · have e' : ¬ q.1 = k := fun z => e (h1.trans z)
      have b : atKey (q :: qs) k = atKey qs k := by simp [atKey, List.find?_cons, e']
      rw [valV_neg e, b]; exact ih

section
variable {P : Program} {w : World} {H : Hp} {h : Heap} {a : Addr}
theorem rd_of {u : HO} (ok : HOk P w H h) (e : Rd H a u) : ObjOk P w H h a u := e.ok ok
theorem dk_rd {kvs : List (Key × V)} (ok : HOk P w H h) (e : Rd H a (.dK kvs)) : kvs.length ≤ sizeLine ∧ (a == sysModules) = false ∧ ∃ vs, KV kvs vs ∧ h.DictOf (mixKind P w) a vs :=
  show ObjOk P w H h a (.dK kvs) from rd_of ok e
theorem dk_of {kvs : List (Key × V)} (ok : HOk P w H h) (e : H a = some (.dK kvs)) : kvs.length ≤ sizeLine ∧ (a == sysModules) = false ∧ ∃ vs, KV kvs vs ∧ h.DictOf (mixKind P w) a vs := dk_rd ok (.inl e)
/-- a tracked tuple of ints and texts is a key -/
theorem key_of {ks : List Key} (ok : HOk P w H h) (e : H a = some (.tup (ks.map kV))) : (tupleKind (mixKind P w)).is h ks a := by
  obtain ⟨_, its, r, o, h1, h2, n, h3⟩ := (show ObjOk P w H h a (.tup (ks.map kV)) from ok a _ e)
  exact ⟨o, its.toArray, n, h1, h2, h3, by simpa using items_are r⟩
theorem dt_rd {kvs : List (List Key × V)} (ok : HOk P w H h) (e : Rd H a (.dT kvs)) : kvs.length ≤ sizeLine ∧ (a == sysModules) = false ∧
    ∃ xs, KT H kvs xs ∧ h.DictOfH (tupleKind (mixKind P w)) a xs := by
  obtain ⟨z, y, xs, r, o, es, ep, h1, h2, h3, h4, h5⟩ := (show ObjOk P w H h a (.dT kvs) from rd_of ok e)
  refine ⟨z, y, xs, r, o, es, ep, h1, h2, h3, h4, fun x hx => ?_, h5⟩
  have all : ∀ {l : List (List Key × V)} {m : List (List Key × Addr × Value)}, KT H l m → ∀ x ∈ m, (tupleKind (mixKind P w)).is h x.1 x.2.1 := by
    intro l m q
    induction q with
    | nil => intro x hx; exact nomatch hx
    | @cons p q ps qs hq t ih =>
      intro x hx
      rcases List.mem_cons.mp hx with e | hx
      · subst e
        exact key_of ok (by rw [← hq.1]; exact hq.2.1)
      · exact ih x hx
  exact all r x hx
end

/-- what the dict at a holds at the key y -/
def DGet (H : Hp) (a : Addr) (y : V) (r : Option V) : Prop :=
  (∃ kvs k, Rd H a (.dK kvs) ∧ y = kV k ∧ r = valV kvs k) ∨ ∃ kvs k b, Rd H a (.dT kvs) ∧ y = .ref b ∧ H b = some (.tup (k.map kV)) ∧ r = valV kvs k
/-- the heap behind a[y] = v -/
def DPut (H : Hp) (a : Addr) (y v : V) (H' : Hp) : Prop :=
  (∃ kvs k, H a = some (.dK kvs) ∧ y = kV k ∧ kvs.length < sizeLine ∧ H' = upd H a (.dK (putK kvs k v))) ∨
  ∃ kvs k b, H a = some (.dT kvs) ∧ y = .ref b ∧ H b = some (.tup (k.map kV)) ∧ kvs.length < sizeLine ∧ H' = upd H a (.dT (putK kvs k v))
theorem DGet.k {H : Hp} {a : Addr} {kvs : List (Key × V)} {k : Key} (e : H a = some (.dK kvs)) : DGet H a (kV k) (valV kvs k) := .inl ⟨kvs, k, .inl e, rfl, rfl⟩


section
variable {X : Cx} {pins : List (Addr × Obj)} {σ : St} {H : Hp} {s : Shared} {a : Addr} {y v : V} {u r : Value} {o : Option V} {A : Around} {E : Value → Shared → Prop}

theorem Inv.big (I : Inv X pins σ H s) : sysModules < s.heap.objs.size := by
  have h : mainGlobals < s.heap.objs.size := (I.mod.glob.keeps I.bk).lt
  exact Nat.lt_trans (by decide) h

/-- d[y], there -/
theorem d_getItem {Q : Value → Shared → Prop} (hu : A.units + 1 < cLine) (I : Inv X pins σ H s) (g : DGet H a y (some v)) (ry : RelV y u) (h : ∀ w' s', Inv X pins σ H s' → RelV v w' → Q w' s') :
    wpAny (model X.prog X.w) A (getItem (.ref a) u) Q E s := by
  rcases g with ⟨kvs, k, e, ey, l⟩ | ⟨kvs, k, b, e, ey, eb, l⟩
  · subst ey
    obtain ⟨z, hd, vs, rel, dd⟩ := dk_rd I.hok e
    obtain ⟨w', hw, rw'⟩ := RelO.some_of (v := v) (o := valueAt vs k) (by rw [l]; exact rel.val k)
    exact wpAny_getItem_of (kV_is ry) dd.mapOf hw (h w' _ (I.tok _) rw')
  · subst ey
    cases (show u = Value.ref b from ry)
    obtain ⟨z, hd, xs, rel, dd⟩ := dt_rd I.hok e
    obtain ⟨w', hw, rw'⟩ := RelO.some_of (v := v) (o := (atKey xs k).map (·.2)) (by rw [l]; exact rel.val k)
    obtain ⟨p, hp, hp2⟩ := Option.map_eq_some_iff.mp hw
    refine wpAny_getItem_heap (tupleKind_room_in1 hu) (key_of I.hok eb) dd hp ?_
    rw [hp2]
    exact h w' _ (I.tok _) rw'
/-- a dict's object is replaced -/
theorem d_write {h' : Heap} {t' : Nat} {ob : HO} (I : Inv X pins σ H s) (mu : Mut (H a)) (hs : Heap.SameBut a s.heap h') (he : ∃ q, h'.get? a = some q) (new : ObjOk X.prog X.w (upd H a ob) h' a ob) :
    Inv X pins σ (upd H a ob) { s with heap := h', toks := t' } :=
  I.write (x := a) (e := a) mu (.inl rfl) (fun b q hb z => (hs.2 b hb).trans z) he new
theorem dk_new {P : Program} {w : World} {H' : Hp} {h' : Heap} {kvs : List (Key × V)} {vs : List (Key × Value)} (z : kvs.length ≤ sizeLine) (hd : (a == sysModules) = false) (rel : KV kvs vs) (dd : h'.DictOf (mixKind P w) a vs) :
    ObjOk P w H' h' a (.dK kvs) := ⟨z, hd, vs, rel, dd⟩
end

section
variable {X : Cx} {pins : List (Addr × Obj)} {σ : St} {H : Hp} {s : Shared} {a : Addr} {kvs : List (Key × V)} {k : Key} {u : Value} {A : Around} {E : Value → Shared → Prop}
end


/-! ### readings and rules -/
/-- the element of a subscription, not a slice -/
def NoSl (i : Expr) : Prop := ∀ ov iv, subscripted i false ov iv = operate [ov, iv] (getItem ov iv)
theorem subD_of {prog : Program} {w : World} {A : Around} {E : Value → Shared → Prop} {s : Shared} {env : Env} {value slice : Expr} {pos : Pos} {T id : String} {Q : Value → Shared → Prop}
    (hl : typeLookup (.type T) "__getitem__" = pure (some (.builtin id))) (hs : NoSl slice)
    (h : wpAny (model prog w) A (eval value env) (fun o s₁ => wpAny (model prog w) A (eval slice env) (fun i s₂ => s₂.TypeIs o T ∧ wpAny (model prog w) A (getItem o i) Q E s₂) E s₁) E s) :
    wpAny (model prog w) A (eval (.Subscript value slice pos) env) Q E s := by
  refine Subscript_ (wpAny_mono h (fun o s₁ h₁ => wpAny_mono h₁ (fun i s₂ h₂ => ?_) fun _ _ x => x) fun _ _ x => x)
  obtain ⟨hT, h₂⟩ := h₂
  unfold subscriptTail
  refine wpAny_bind ?_
  rw [getitemInPython_of_ne hT.not_modules]
  refine wpAny_bind (wpAny_specialOf hT hl ?_)
  have fin : wpAny (model prog w) A (subscripted slice false o i) (fun r s₃ => wpAny (model prog w) A (letTemporaryGo value o r >>= fun _ => pure r) Q E s₃) E s₂ := by
    rw [hs o i]
    exact wpAny_operating (wpAny_mono h₂ (fun r s₃ h₃ => wpAny_bind (wpAny_letTemporaryGo (wpAny_pure h₃))) fun _ _ x => x)
  first
    | exact wpAny_pure (wpAny_bind fin)
    | exact wpAny_bind (wpAny_pure (wpAny_bind fin))
    | exact wpAny_bind fin

theorem dict_typeIs {X : Cx} {pins : List (Addr × Obj)} {σ : St} {H : Hp} {s : Shared} {a : Addr} {y : V} {o : Option V} (I : Inv X pins σ H s) (g : DGet H a y o) : s.TypeIs (.ref a) "dict" := by
  rcases g with ⟨kvs, k, e, _, _⟩ | ⟨kvs, k, b, e, _, _, _⟩
  · obtain ⟨_, _, vs, _, dd⟩ := dk_rd I.hok e
    exact dd.typeIs
  · obtain ⟨_, _, xs, _, dd⟩ := dt_rd I.hok e
    exact dd.typeIs

/-- d[y] -/
def tDGet (td ty : TE) : TE := fun σ H Q => td σ H fun x H1 => ty σ H1 fun y H2 => ∃ a v, x = .ref a ∧ DGet H2 a y (some v) ∧ Q v H2
/-- y in d, y not in d -/
def tDIn (ty td : TE) : TE := fun σ H Q => ty σ H fun y H1 => td σ H1 fun x H2 => ∃ a o, x = .ref a ∧ DGet H2 a y o ∧ Q (.bl o.isSome) H2
def tDNotIn (ty td : TE) : TE := fun σ H Q => ty σ H fun y H1 => td σ H1 fun x H2 => ∃ a o, x = .ref a ∧ DGet H2 a y o ∧ Q (.bl (!o.isSome)) H2
/-- d[y] = v -/
def sDPut (td ty tv : TE) : TS := fun D σ H => tv σ H fun v H1 => td σ H1 fun x H2 => ty σ H2 fun y H3 => ∃ a H4, x = .ref a ∧ DPut H3 a y v H4 ∧ D.nx σ H4
/-- d[y] op= v -/
def sDAug (td ty tv : TE) (rd : V → V → Hp → VK → Prop) : TS := fun D σ H => td σ H fun x H1 => ty σ H1 fun y H2 => ∃ a v, x = .ref a ∧ DGet H2 a y (some v) ∧
  tv σ H2 fun y2 H3 => rd v y2 H3 fun z H4 => ∃ H5, DPut H4 a y z H5 ∧ D.nx σ H5
section
variable {X : Cx} {o i e value : Expr} {pos pos' tpos : Pos} {td ty tv : TE}
theorem pe_dget (hu : X.A.units + 1 < cLine) (ho : PE X o td) (hi : PE X i ty) (hs : NoSl i) : PE X (.Subscript o i pos) (tDGet td ty) := by
  intro pins s σ H Q I h
  refine subD_of PySem.F.slot_dict_getitem.lookup hs (thn (ho pins s σ H _ I h) fun u s1 ⟨x, H1, I1, rx, q1⟩ => thn (hi pins s1 σ H1 _ I1 q1) fun iv s2 ⟨y, H2, I2, ry, a, v, ex, g, q2⟩ => ?_)
  subst ex
  obtain rfl : u = Value.ref a := rx
  exact ⟨dict_typeIs I2 g, d_getItem hu I2 g ry fun w' s3 I3 rw' => ⟨v, H2, I3, rw', q2⟩⟩
end


/-! ### displays -/
theorem dk_empty {P : Program} {w : World} {H : Hp} (h : Heap) (hb : sysModules < h.objs.size) : ObjOk P w H (h.push { cls := .type "dict", data := .dict #[] }) h.objs.size (.dK []) :=
  ⟨Nat.zero_le _, beq_eq_false_iff_ne.mpr (Ne.symm (Nat.ne_of_lt hb)), [], .nil, Heap.DictOf.new h⟩
/-- {}, to be a dict of the kind that is wanted -/
def tDNewK : TE := fun _ H Q => ∀ p, H p = none → Q (.ref p) (upd H p (.dK []))
section
variable {X : Cx} {pos : Pos}
end

/-- the pairs of a display, from the left -/
def tPairs : List (TE × TE) → St → Hp → (List (V × V) → Hp → Prop) → Prop
  | [], _, H, Q => Q [] H
  | (tk, tv) :: r, σ, H, Q => tk σ H fun x H1 => tv σ H1 fun y H2 => tPairs r σ H2 fun ps H3 => Q ((x, y) :: ps) H3
abbrev VV : List (V × V) → List (Value × Value) → Prop := Paired fun p q => RelV p.1 q.1 ∧ RelV p.2 q.2
def PPs (X : Cx) (pos : Pos) (keys : List (Option Expr)) (values : List Expr) (trs : List (TE × TE)) : Prop :=
  ∀ (pins : List (Addr × Obj)) (s : Shared) (σ : St) (H : Hp) (Q : List (V × V) → Hp → Prop), Inv X pins σ H s → tPairs trs σ H Q →
    wpAny (model X.prog X.w) X.A (evalPairs (pairTrees keys values X.env pos)) (fun vs s' => ∃ ps H', Inv X pins σ H' s' ∧ VV ps vs ∧ Q ps H') X.xe s
theorem pps_nil {X : Cx} {pos : Pos} : PPs X pos [] [] [] := fun pins s σ H Q I h => pairTrees_nil_walk ⟨[], H, I, .nil, h⟩
theorem pps_cons {X : Cx} {pos : Pos} {k v : Expr} {ks : List (Option Expr)} {vs : List Expr} {tk tv : TE} {trs : List (TE × TE)} (hk : PE X k tk) (hv : PE X v tv) (hr : PPs X pos ks vs trs) :
    PPs X pos (some k :: ks) (v :: vs) ((tk, tv) :: trs) := fun pins s σ H Q I h =>
  pairTrees_cons_walk (thn (hk pins s σ H _ I h) fun u s1 ⟨x, H1, I1, rx, q1⟩ => thn (hv pins s1 σ H1 _ I1 q1) fun w2 s2 ⟨y, H2, I2, ry, q2⟩ =>
    thn (hr pins s2 σ H2 _ I2 q2) fun ws s3 ⟨ps, H3, I3, rel, q3⟩ => ⟨(x, y) :: ps, H3, I3, .cons ⟨rx, ry⟩ rel, q3⟩)

def mergeK (kvs more : List (Key × V)) : List (Key × V) := more.foldl (fun acc kv => putK acc kv.1 kv.2) kvs
theorem KV.merge : ∀ {more : List (Key × V)} {rs : List (Key × Value)} {kvs : List (Key × V)} {vs : List (Key × Value)}, KV more rs → KV kvs vs → KV (mergeK kvs more) (merged vs rs) := by
  intro more rs kvs vs r
  unfold KV at r
  induction r generalizing kvs vs with
  | nil => intro q; exact q
  | @cons p q ps qs h t ih =>
    intro r0
    have e : KV (putK kvs p.1 p.2) (stored vs q.1 q.2) := by
      have := r0.put p.1 h.2
      rw [← h.1]; exact this
    exact ih e
theorem length_mergeK : ∀ (more kvs : List (Key × V)), (mergeK kvs more).length ≤ kvs.length + more.length
  | [], kvs => by show kvs.length ≤ kvs.length + 0; omega
  | p :: r, kvs => by
    have h1 := length_mergeK r (putK kvs p.1 p.2)
    have h2 := length_putK kvs p.1 p.2
    show (mergeK (putK kvs p.1 p.2) r).length ≤ _
    rw [List.length_cons]; omega
theorem carries_of {P : Program} {w : World} : ∀ {kvs : List (Key × V)} {ws : List (Value × Value)}, VV (kvs.map fun kv => (kV kv.1, kv.2)) ws → ∃ rs, Carries (mixKind P w) ws rs ∧ KV kvs rs
  | [], _, r => by rw [List.map_nil] at r; cases r; exact ⟨[], True.intro, .nil⟩
  | p :: kvs, _, r => by
    rw [List.map_cons] at r
    cases r with
    | @cons a b as bs h t =>
      obtain ⟨rs, c, q⟩ := carries_of (P := P) (w := w) t
      obtain ⟨b1, b2⟩ := b
      exact ⟨(p.1, b2) :: rs, ⟨kV_is h.1, rfl, c⟩, .cons ⟨rfl, h.2⟩ q⟩
/-- {k: v, ..} with keys ints and texts; the new dict stands empty while the pairs are made -/
def tDisp (trs : List (TE × TE)) : TE := fun σ H Q => ∀ p, H p = none → tPairs trs σ (upd H p (.dK [])) fun ps H2 => H2 p = some (.dK []) ∧ ∃ kvs : List (Key × V), ps = kvs.map (fun kv => (kV kv.1, kv.2)) ∧ kvs.length ≤ 15 ∧ Q (.ref p) (upd H2 p (.dK (mergeK [] kvs)))
theorem pe_disp {X : Cx} {pos : Pos} {keys : List (Option Expr)} {values : List Expr} {trs : List (TE × TE)} (h : PPs X pos keys values trs) (hall : keys.all (·.isSome) = true) (hl : keys.length = values.length) (h0 : keys ≠ [])
    (h15 : keys.length ≤ 15) : PE X (.Dict keys values pos) (tDisp trs) := by
  intro pins s σ H Q I q
  have hn := I.hok.fresh (Nat.le_refl s.heap.objs.size)
  have I1 := I.laid (a := s.heap.objs.size) (o := .dK []) (h' := s.heap.push { cls := .type "dict", data := .dict #[] }) (t' := s.toks) (fun _ _ q => Heap.get?_push_of_some _ q) (Nat.le_refl _) (dk_empty s.heap I.big)
  refine wpAny_Dict_walk (knd := mixKind X.prog X.w) hall hl h0 h15 (thn (h pins _ σ _ _ I1 (q _ hn)) fun ws s2 ⟨ps, H2, I2, rel, e, kvs, ep, lk, q2⟩ => ?_)
  subst ep
  obtain ⟨rs, c, rk⟩ := carries_of (P := X.prog) (w := X.w) rel
  obtain ⟨z, hd, vs0, r0, dd⟩ := dk_of I2.hok e
  cases r0
  refine ⟨rs, c, dd, fun h' dd' hs => ⟨.ref s.heap.objs.size, _, ?_, rfl, q2⟩⟩
  have hz : (mergeK [] kvs).length ≤ sizeLine := by
    have h1 := length_mergeK kvs []
    rw [List.length_nil] at h1
    rw [sizeLine_eq]; omega
  have he : ∃ q, h'.get? s.heap.objs.size = some q := let ⟨q, _, _, hq, _⟩ := dd'; ⟨q, hq⟩
  exact d_write I2 (by rw [e]; exact True.intro) hs he (dk_new hz hd (rk.merge .nil) dd')


/-! ### methods -/
/-- a method call o.m(e) of a built-in, with one argument: what must be seen of the text -/
structure M1 (X : Cx) (o : Expr) (m : Str) (apos : Pos) (e : Expr) (cpos : Pos) : Prop where
  base : attributeBase o m X.env (eval o X.env) = eval o X.env
  few : ((backTo cpos (starEach [e] X.env)).all (fun x => !x.1) && (backToKw cpos (keywordEach [] X.env)).all (fun x => x.1.isSome)
    && decide (([e] : List Expr).length + ([] : List Keyword).length + (if ([] : List Keyword).isEmpty then 0 else 1) < 30)) = true
  line : (apos.endLine == cpos.line) = true
  trees : backTo cpos (starEach [e] X.env) = [(false, eval e X.env)]
structure M2 (X : Cx) (o : Expr) (m : Str) (apos : Pos) (e f : Expr) (cpos : Pos) : Prop where
  base : attributeBase o m X.env (eval o X.env) = eval o X.env
  few : ((backTo cpos (starEach [e, f] X.env)).all (fun x => !x.1) && (backToKw cpos (keywordEach [] X.env)).all (fun x => x.1.isSome)
    && decide (([e, f] : List Expr).length + ([] : List Keyword).length + (if ([] : List Keyword).isEmpty then 0 else 1) < 30)) = true
  line : (apos.endLine == cpos.line) = true
  trees : backTo cpos (starEach [e, f] X.env) = [(false, eval e X.env), (false, eval f X.env)]

/-- a is a dict, whatever its keys -/
def IsD (H : Hp) (a : Addr) : Prop := (∃ kvs, Rd H a (.dK kvs)) ∨ ∃ kvs, Rd H a (.dT kvs)

section
variable {X : Cx} {pins : List (Addr × Obj)} {σ : St} {H : Hp} {s : Shared} {a : Addr} {y d : V} {u r : Value} {o : Option V} {A : Around} {E : Value → Shared → Prop}
end

def tDGet1 (td ty : TE) : TE := fun σ H Q => td σ H fun x H1 => ∃ a, x = .ref a ∧ IsD H1 a ∧ ty σ H1 fun y H2 => ∃ o, DGet H2 a y o ∧ Q (o.getD .non) H2
def tDGet2 (td ty tx : TE) : TE := fun σ H Q => td σ H fun x H1 => ∃ a, x = .ref a ∧ IsD H1 a ∧ ty σ H1 fun y H2 => tx σ H2 fun z H3 => ∃ o, DGet H3 a y o ∧ Q (o.getD z) H3
section
variable {X : Cx} {o e f : Expr} {apos cpos : Pos} {td ty tx : TE}
end
end L2

namespace B
open PySem PySem.Spec L2 PyProof.Rows
end B

namespace B
open PySem PySem.Spec L2 PyProof.Rows
/-! ### isinstance of a thing whose inside is known; what the defs of shape tell of it -/
def tyD : PyData → String
  | .none => "NoneType"
  | .bool _ => "bool"
  | .int _ => "int"
  | .str _ => "str"
  | .list _ => "list"
  | .tuple _ => "tuple"
  | .dict _ => "dict"
def rIsiD (K : PySem.W.Frag) : List V → Hp → VK → Prop := fun xs H Q => ∃ v d n b, xs = [v, .ty n] ∧ Deep K H v d ∧ kitTT (tyD d) n = some b ∧ Q (.bl b) H
theorem call_isiD {X : Cx} : CallR X (.builtin "isinstance") (rIsiD X.K) := by
  intro pins s σ H xs us Q I r h
  obtain ⟨v, d, n, b, rfl, hD, e, q⟩ := h
  cases hD with
  | non => exact call_isi pins s σ H _ us Q I r ⟨_, n, _, b, rfl, .non, e, q⟩
  | bl c => exact call_isi pins s σ H _ us Q I r ⟨_, n, _, b, rfl, .bl c, e, q⟩
  | int i => exact call_isi pins s σ H _ us Q I r ⟨_, n, _, b, rfl, .int i, e, q⟩
  | str x => exact call_isi pins s σ H _ us Q I r ⟨_, n, _, b, rfl, .str x, e, q⟩
  | @tup a ys ds hS hA => exact call_isiT pins s σ H _ us Q I r ⟨a, ys, n, b, rfl, hS, e, q⟩
  | @lst a ys ds hS hA =>
    obtain ⟨u, u2, rfl, rx, ry⟩ := vals2 r
    obtain rfl : u2 = Value.type n := ry
    cases (show u = Value.ref a from rx)
    obtain ⟨its, _, ⟨o, k, h1, h2, _⟩, _⟩ := I.list hS
    exact PySem.W.kia_one PySem.W.kitx_list I.kIn ⟨o, h1, h2⟩ (kit_of e) (fun z => nomatch z) fun tk => ⟨.bl b, H, I.tok tk, rfl, q⟩
def wholeD : PyData → Bool
  | .int _ => true
  | _ => false
def tupD (n : Nat) : PyData → Bool
  | .tuple xs => decide (xs.length = n)
  | _ => false
/-- a ratio in lowest terms -/
def ratD : PyData → Bool
  | .tuple [.int a, .int b] => decide (1 ≤ b) && decide (Int.gcd a b = 1)
  | _ => false
def pairD : PyData → Bool
  | .tuple [x, y] => ratD x && ratD y
  | _ => false
theorem isi_int {K : PySem.W.Frag} {H : Hp} {v : V} {d : PyData} (h : Deep K H v d) : ∃ b c, kitTT (tyD d) "int" = some b ∧ kitTT (tyD d) "bool" = some c ∧ wholeD d = (b && !c) := by
  cases h with
  | non => exact ⟨false, false, by simp only [tyD]; decide +kernel, by simp only [tyD]; decide +kernel, rfl⟩
  | bl b => exact ⟨true, true, by simp only [tyD]; decide +kernel, by simp only [tyD]; decide +kernel, rfl⟩
  | int i => exact ⟨true, false, by simp only [tyD]; decide +kernel, by simp only [tyD]; decide +kernel, rfl⟩
  | str x => exact ⟨false, false, by simp only [tyD]; decide +kernel, by simp only [tyD]; decide +kernel, rfl⟩
  | lst e t => exact ⟨false, false, by simp only [tyD]; decide +kernel, by simp only [tyD]; decide +kernel, rfl⟩
  | tup e t => exact ⟨false, false, by simp only [tyD]; decide +kernel, by simp only [tyD]; decide +kernel, rfl⟩
theorem isi_tup {K : PySem.W.Frag} {H : Hp} {v : V} {d : PyData} (h : Deep K H v d) : (kitTT (tyD d) "tuple" = some true ∧ ∃ a xs ds, v = .ref a ∧ d = .tuple ds ∧ SqT K H a xs ∧ DeepAll K H xs ds) ∨ (kitTT (tyD d) "tuple" = some false ∧ ∀ ds, d ≠ .tuple ds) := by
  cases h with
  | non => exact .inr ⟨by simp only [tyD]; decide +kernel, fun _ z => nomatch z⟩
  | bl b => exact .inr ⟨by simp only [tyD]; decide +kernel, fun _ z => nomatch z⟩
  | int i => exact .inr ⟨by simp only [tyD]; decide +kernel, fun _ z => nomatch z⟩
  | str x => exact .inr ⟨by simp only [tyD]; decide +kernel, fun _ z => nomatch z⟩
  | lst e t => exact .inr ⟨by simp only [tyD]; decide +kernel, fun _ z => nomatch z⟩
  | tup e t => exact .inl ⟨by simp only [tyD]; decide +kernel, _, _, _, rfl, rfl, e, t⟩
theorem tupD_no {d : PyData} {n : Nat} (h : ∀ ds, d ≠ .tuple ds) : tupD n d = false := by
  cases d <;> first | rfl | exact absurd rfl (h _)
theorem DeepAll.len {K : PySem.W.Frag} {H : Hp} : ∀ {xs : List V} {ds : List PyData}, DeepAll K H xs ds → xs.length = ds.length
  | _, _, .nil => rfl
  | _, _, .cons _ t => congrArg Nat.succ t.len
/-- a pair, whose parts are known -/
theorem Deep.two {K : PySem.W.Frag} {H : Hp} {v : V} {d : PyData} (h : Deep K H v d) (c : tupD 2 d = true) : ∃ a x y dx dy, v = .ref a ∧ d = .tuple [dx, dy] ∧ SqT K H a [x, y] ∧ Deep K H x dx ∧ Deep K H y dy := by
  cases h with
  | @tup a xs ds e t =>
    have l : ds.length = 2 := of_decide_eq_true c
    cases t with
    | nil => cases l
    | cons hx t => cases t with
      | nil => cases l
      | cons hy t => cases t with
        | nil => exact ⟨a, _, _, _, _, rfl, rfl, e, hx, hy⟩
        | cons hz t => simp at l
  | _ => cases c
theorem ratD_no {d : PyData} (h : tupD 2 d = false) : ratD d = false := by
  cases c : ratD d with
  | false => rfl
  | true =>
    unfold ratD at c
    split at c
    · cases h
    · cases c
end B

namespace B
open PySem PySem.Spec L2 PyProof.Rows
/-! ### things that repr shows: how deep, how long -/
structure Sh (k n : Nat) (d : PyData) : Prop where
  sh : d.showable = true
  nd : d.hasDict = false
  dp : d.depth ≤ k
  sz : d.shown.length ≤ n
theorem Sh.mono {k n k' n' : Nat} {d : PyData} (h : Sh k n d) (hk : k ≤ k') (hn : n ≤ n') : Sh k' n' d := ⟨h.sh, h.nd, Nat.le_trans h.dp hk, Nat.le_trans h.sz hn⟩
theorem Sh.all {k n : Nat} : ∀ {ds : List PyData}, (∀ d ∈ ds, Sh k n d) → PyData.showableAll ds = true ∧ PyData.hasDictAll ds = false ∧ PyData.depthAll ds ≤ k ∧ ((PyData.shownAll ds).map (·.length)).sum ≤ n * ds.length ∧ (PyData.shownAll ds).length = ds.length
  | [], _ => ⟨rfl, rfl, Nat.zero_le _, Nat.zero_le _, rfl⟩
  | d :: ds, h => by
    obtain ⟨a, b, c, e, f⟩ := Sh.all (ds := ds) fun x hx => h x (List.mem_cons_of_mem _ hx)
    have z := h d List.mem_cons_self
    refine ⟨?_, ?_, ?_, ?_, ?_⟩
    · show (d.showable && PyData.showableAll ds) = true
      rw [z.sh, a]; rfl
    · show (d.hasDict || PyData.hasDictAll ds) = false
      rw [z.nd, b]; rfl
    · show max d.depth (PyData.depthAll ds) ≤ k
      exact Nat.max_le.mpr ⟨z.dp, c⟩
    · show d.shown.length + ((PyData.shownAll ds).map (·.length)).sum ≤ n * (ds.length + 1)
      have := z.sz
      rw [Nat.mul_succ]; omega
    · show (PyData.shownAll ds).length + 1 = ds.length + 1
      rw [f]
theorem Sh.tup {k n m N : Nat} {ds : List PyData} (h : ∀ d ∈ ds, Sh k n d) (hm : ds.length ≤ m) (hN : (n + 3) * m + 8 ≤ N) : Sh (k + 1) N (.tuple ds) := by
  obtain ⟨a, b, c, e, f⟩ := Sh.all h
  refine ⟨a, b, Nat.succ_le_succ c, ?_⟩
  show (tupleText (PyData.shownAll ds)).length ≤ N
  have q := tupleText_len_le (PyData.shownAll ds)
  have l : n * ds.length + 3 * ds.length ≤ (n + 3) * m := by
    rw [← Nat.add_mul]
    exact Nat.mul_le_mul_left _ hm
  omega
theorem Sh.shows {k n : Nat} {d : PyData} (h : Sh k n d) (hk : k ≤ 16) (hn : n ≤ 16777216) : Shows d := ⟨h.sh, h.nd, Nat.le_trans h.sz (Nat.le_trans hn (by decide)), Nat.le_trans h.dp hk⟩
theorem sh_dR {r : R} {n : Nat} (h : Wf n r) (hn : n ≤ 1900) : Sh 1 5000 (dR r) := ⟨(small_dR h hn).sh, rfl, (by show max 0 (max 0 0) + 1 ≤ 1; decide), (small_dR h hn).sz⟩
mutual
theorem Deep.same {K : PySem.W.Frag} {H H' : Hp} (s : Same H H') : ∀ {v : V} {d : PyData}, Deep K H v d → Deep K H' v d
  | _, _, .non => .non
  | _, _, .bl b => .bl b
  | _, _, .int i => .int i
  | _, _, .str x => .str x
  | _, _, .lst e t => .lst (s.seq e) (DeepAll.same s t)
  | _, _, .tup e t => .tup (Tst.same s _ _ e) (DeepAll.same s t)
theorem DeepAll.same {K : PySem.W.Frag} {H H' : Hp} (s : Same H H') : ∀ {vs : List V} {ds : List PyData}, DeepAll K H vs ds → DeepAll K H' vs ds
  | _, _, .nil => .nil
  | _, _, .cons h t => .cons (Deep.same s h) (DeepAll.same s t)
end
end B

namespace B
open PySem PySem.Spec L2 PyProof.Rows
/-! ### t + u and t[a:b] of any tuples: a tuple that holds what is asked, new or not -/
def rCatU (K : PySem.W.Frag) : R2 := fun x y H Q => ∃ a b xs ys, x = .ref a ∧ y = .ref b ∧ SqT K H a xs ∧ SqT K H b ys ∧ xs.length + ys.length ≤ sizeLine ∧ ∀ p H', Same H H' → SqT K H' p (xs ++ ys) → Q (.ref p) H'
theorem op_catU {X : Cx} : OpR X (binaryOp .Add) (rCatU X.K) := by
  intro pins s σ H x y v u Q I rx ry h
  obtain ⟨a, b, xs, ys, rfl, rfl, ha, hb, hz, q⟩ := h
  by_cases hx : xs = []
  · subst hx
    cases rx
    cases ry
    obtain ⟨its, r1, p1, _⟩ := I.tuple ha
    obtain ⟨its2, r2, p2, _⟩ := I.tuple hb
    have e0 : its = [] := r1.nil_iff.mpr rfl
    subst e0
    obtain ⟨⟨cls, dd, data, sl⟩, ho, hc, n, hd⟩ := id p1
    obtain ⟨⟨cls2, dd2, data2, sl2⟩, ho2, hc2, n2, hd2⟩ := id p2
    simp only at hc hd hc2 hd2
    subst hc hd hc2 hd2
    exact concat_meets ⟨_, ho, rfl⟩ ⟨_, ho2, rfl⟩ noFill_tuple_add seq_tuple_add PySem.F.slot_tuple_add PySem.F.entry_tuple_add (PySem.F.args_tuple_add_2 _ _)
      (tuple_addW0 a b _ _ n n2 dd dd2 sl sl2 (by simp)) ⟨ho, ho2, ⟨.ref b, H, I, rfl, q b H (Same.refl H) hb⟩⟩
  · refine op_catT pins s σ H _ _ v u Q I rx ry ⟨a, b, xs, ys, rfl, rfl, ha, hb, hx, hz, fun e => ?_, fun _ p hp => ?_⟩
    · subst e
      exact q a H (Same.refl H) (by rw [List.append_nil]; exact ha)
    · exact q p _ (same_new hp _) (SqT.of upd_same)
def rSlU (K : PySem.W.Frag) : V → Option Int → Option Int → Hp → VK → Prop := fun x lo hi H Q => ∃ a xs, x = .ref a ∧ SqT K H a xs ∧ ∀ p H', Same H H' → SqT K H' p (cutV xs lo hi) → Q (.ref p) H'
theorem sl_tupU {X : Cx} : SlR X (rSlU X.K) := by
  intro pins s σ H x v vl vu lo hi sl Q I rx hs pl pu h
  obtain ⟨a, xs, rfl, hx, q⟩ := h
  refine sl_tupA pins s σ H _ v vl vu lo hi sl Q I rx hs pl pu ?_
  by_cases c : HT.sIx xs.length 0 lo = 0 ∧ HT.sIx xs.length xs.length hi = xs.length
  · refine .inl ⟨a, xs, rfl, hx, c.1, c.2, q a H (Same.refl H) ?_⟩
    have e : cutV xs lo hi = xs := by
      unfold cutV
      rw [c.1, c.2, List.drop_zero, Nat.sub_zero, List.take_length]
    rw [e]
    exact hx
  · exact .inr ⟨a, xs, rfl, hx, c, fun p hp => q p _ (same_new hp _) (SqT.of upd_same)⟩
theorem cut_to {xs : List V} {n : Nat} (h : n ≤ xs.length) : cutV xs none (some (n : Int)) = xs.take n := by
  unfold cutV
  rw [HT.sIx_nat, HT.sIx_none, Nat.min_eq_left h, Nat.sub_zero, List.drop_zero]
theorem cut_from {xs : List V} {n : Nat} (h : n ≤ xs.length) : cutV xs (some (n : Int)) none = xs.drop n := by
  unfold cutV
  rw [HT.sIx_nat, HT.sIx_none, Nat.min_eq_left h]
  exact List.take_of_length_le (by rw [List.length_drop]; omega)
end B

namespace B
open PySem PySem.Spec L2 PyProof.Rows
/-! ### the tape of three cells, whose first is the script itself -/
def Stat (K : PySem.W.Frag) (s : Addr) : Prop := ∃ ns : List Int, ns.length ≤ 63 ∧ ∀ H : Hp, SqL K H s (ns.map V.int)
structure Tape3 (K : PySem.W.Frag) (H : Hp) (t s : Addr) : Prop where
  ex : ∃ (ns : List Int) (p q : Int), H t = some (.lst [.ref s, .int p, .int q]) ∧ ((Rd H s (.lst (ns.map V.int)) ∧ s ≠ t) ∨ ∀ H', SqL K H' s (ns.map V.int)) ∧ ns.length ≤ 63 ∧ 0 ≤ p ∧ 0 ≤ q
def sp_tape3 (K : PySem.W.Frag) : Sp := fun vs H Q _ => ∃ (a : Addr) (ns : List Int), vs = [.ref a] ∧ SqL K H a (ns.map V.int) ∧ ns.length ≤ 63 ∧ ∀ (t : Addr) (H' : Hp), Same H H' → H t = none → Tape3 K H' t a → Q (.ref t) H'
def sp_draw3 (K : PySem.W.Frag) : Sp := fun vs H Q _ => ∃ (t s : Addr) (m : Int), vs = [.ref t, .int m] ∧ Tape3 K H t s ∧ 0 < m ∧ m < 1073741824 ∧ ∀ (r : Int) (xs : List V), 0 ≤ r → r < m → Tape3 K (upd H t (.lst xs)) t s → Q (.int r) (upd H t (.lst xs))
end B

namespace B
open PySem PySem.Spec L2 PyProof.Rows
section
set_option autoImplicit true
set_option relaxedAutoImplicit true
end
end B

namespace B
open PySem PySem.Spec L2 PyProof.Rows
/-! ### sum and all of a list -/
theorem bools_at : ∀ {bs : List Bool} {us : List Value}, Vals (bs.map V.bl) us → ∀ {i : Nat} {v : Value}, us[i]? = some v → v = .bool (bs.getD i true)
  | [], _, .nil, i, v, e => by cases e
  | b :: bs, _, .cons r t, 0, v, e => by
    rw [List.getElem?_cons_zero] at e
    cases e
    exact (show _ = Value.bool b from r)
  | b :: bs, _, .cons r t, i + 1, v, e => by
    rw [List.getElem?_cons_succ] at e
    exact bools_at t e
theorem all_range : ∀ (bs : List Bool), (List.range bs.length).all (fun i => bs.getD i true) = bs.all id
  | [] => rfl
  | b :: bs => by
    rw [List.length_cons, List.range_succ_eq_map, List.all_cons, List.all_map, List.all_cons]
    have := all_range bs
    show (b && (List.range bs.length).all (fun i => bs.getD i true)) = (id b && bs.all id)
    rw [this]; rfl
theorem call_allL {X : Cx} (hc : X.calm = true) : CallR X (.builtin "all") (fun xs H Q => ∃ (p : Addr) (bs : List Bool), xs = [.ref p] ∧ SqL X.K H p (bs.map V.bl) ∧ Q (.bl (bs.all id)) H) := by
  intro pins s σ H xs us Q I r h
  obtain ⟨p, bs, rfl, hq, q⟩ := h
  obtain ⟨u, rfl, rx⟩ := vals1 r
  cases rx
  obtain ⟨its, rv, pl, hz⟩ := I.list hq
  have ne : p ≠ s.heap.objs.size := by
    obtain ⟨o, ho, _⟩ := pl.isList
    exact Nat.ne_of_lt (Heap.lt_size ho)
  have hlen : its.toArray.size = bs.length := by rw [List.size_toArray, ← rv.length, List.length_map]
  refine call_all_walk (wpAny_pyIter_list pl.isList ?_)
  refine ⟨_, _, _, _, _, _, fun i => bs.getD i true, rfl, Walks.list (A := X.A.in1) (I.ok.hd hc) _ p ne its.toArray, ⟨⟨_, Heap.get?_push_size _ rfl, rfl, rfl⟩, pl.isList.push _⟩, fun i v s' Q' E' hv hQ => ?_, fun h' tk hk => ?_⟩
  · have e := bools_at rv (i := i) (v := v) (by simpa using hv)
    subst e
    exact wpAny_truthy_bool hQ
  · rw [hlen, all_range]
    refine ⟨.bl _, H, I.kept (t' := tk) fun b o e => hk b o (fun z => ?_) (Heap.get?_push_of_some _ e), rfl, q⟩
    rw [List.mem_singleton.mp z] at e
    exact absurd (Heap.lt_size e) (Nat.lt_irrefl _)
/-! ### tuple(range(n)), list(range(n)) -/
section
variable {prog : Program} {w : World} {A : Around} {E : Value → Shared → Prop} {s : Shared}
end
def upTo (n : Nat) : List Int := (List.range n).map fun i : Nat => (i : Int)
def tRng1 (ta : TA) : TE := fun σ H Q => ta σ H fun vs H1 => ∃ j : Int, vs = [.int j] ∧ ∀ p, H1 p = none → Q (.ref p) (upd H1 p (.rng 0 j))
/-! ### range(a, b, -1), walked -/
def Itd (hi : Int) (n : Nat) : It := ⟨fun i _ => i < n, fun i H x H' => H' = H ∧ x = .int (hi - i), fun i _ => n ≤ i⟩
def iRngD (ta : TA) : TI := fun σ H R => ta σ H fun vs H1 => ∃ i j : Int, vs = [.int i, .int j, .int (-1)] ∧ (-1000 ≤ i ∧ i ≤ 1000 ∧ -1000 ≤ j ∧ j ≤ 1000) ∧ R (Itd i (i - j).toNat) H1
end B

namespace B
open PySem PySem.Spec L2 PyProof.Rows
section
set_option autoImplicit true
set_option relaxedAutoImplicit true
end
end B

namespace B
open PySem PySem.Spec L2 PyProof.Rows
/-! ### comprehensions by place, whatever is walked -/
structure Wlk (J : It) (H : Hp) (n : Nat) (P : Nat → V → Hp → Prop) : Prop where
  go : ∀ i H', i < n → Same H H' → J.go i H'
  stop : ∀ H', Same H H' → J.stop n H'
  yld : ∀ i H' x H'', i < n → Same H H' → J.yld i H' x H'' → Same H' H'' ∧ P i x H''
theorem wlk_tup {K : PySem.W.Frag} {H : Hp} {a : Addr} {xs : List V} (h : SqT K H a xs) : Wlk (Itt K a) H xs.length (fun i x _ => xs[i]? = some x) where
  go := fun i H' hi s => ⟨xs, _, Tst.same s _ _ h, List.getElem?_eq_getElem hi⟩
  stop := fun H' s => ⟨xs, Tst.same s _ _ h, Nat.le_refl _⟩
  yld := fun i H' x H'' hi s y => by obtain ⟨rfl, hy⟩ := y; exact ⟨Same.refl _, hy xs (Tst.same s _ _ h)⟩
theorem comp_ix {J : It} {H : Hp} {D : Addr} {n : Nat} {P : Nat → V → Hp → Prop} (w : Wlk J H n P) (c : Nat → Bool) (f : Nat → V) {src : List (Option Nat)} {σ : L2.St} {g : TG} {tt : TT} {te : TE} {Q : Hp → Prop} (hD : H D = none) (hn : n ≤ 1000)
    (turn : ∀ (i : Nat) (x : V) (H' : Hp), i < n → Same H H' → P i x H' → ∀ (R : VK) (E : Hp → Prop), (c i = true → ∀ H'', Same H' H'' → R (f i) H'') → (c i = false → ∀ H'', Same H' H'' → E H'') →
      g x (frees src σ) H' fun σ2 H2 => Ext (frees src σ) σ2 ∧ tt σ2 H2 fun ok H3 => if ok = true then te σ2 H3 R else E H3)
    (fin : ∀ H', Same H H' → H' D = some (.lst (((List.range n).filter c).map f)) → Q H') :
    ∃ W : Nat → Nat → List V → Hp → Prop, (∃ m, W 0 m [] (upd H D (.lst []))) ∧ ∀ i m ys H, W i m ys H → (J.stop i H ∧ Q H) ∨ (J.go i H ∧ ∀ x H', J.yld i H x H' →
      g x (frees src σ) H' fun σ2 H2 => Ext (frees src σ) σ2 ∧ tt σ2 H2 fun ok H3 =>
        if ok = true then te σ2 H3 fun y H4 => H4 D = some (.lst ys) ∧ ys.length < sizeLine ∧ ∃ m', m' < m ∧ W (i + 1) m' (ys ++ [y]) (upd H4 D (.lst (ys ++ [y]))) else ∃ m', m' < m ∧ W (i + 1) m' ys H3) := by
  refine ⟨fun i m ys H' => i ≤ n ∧ m = n - i ∧ ys = ((List.range i).filter c).map f ∧ Same H H' ∧ H' D = some (.lst ys), ⟨_, Nat.zero_le _, rfl, rfl, same_new hD _, upd_same⟩, ?_⟩
  rintro i m ys H1 ⟨hi, rfl, rfl, s1, d1⟩
  by_cases hix : i < n
  · refine .inr ⟨w.go i H1 hix s1, fun x H2 y => ?_⟩
    obtain ⟨s2, p⟩ := w.yld i H1 x H2 hix s1 y
    have d2 := s2 _ _ d1
    have len : (((List.range i).filter c).map f).length ≤ i := by
      rw [List.length_map]
      exact Nat.le_trans (List.length_filter_le _ _) (by rw [List.length_range]; exact Nat.le_refl _)
    refine turn i x H2 hix (s1.trans s2) p _ _ (fun hc H3 s3 => ?_) fun hc H3 s3 => ?_
    · have d3 := s3 _ _ d2
      refine ⟨d3, small1000 (by omega), n - (i + 1), by omega, hix, rfl, ?_, fun b o q => ?_, upd_same⟩
      · rw [List.range_succ, List.filter_append, List.map_append]
        simp [hc]
      · rw [upd_ne (ne_of_none q hD)]
        exact s3 _ _ (s2 _ _ (s1 _ _ q))
    · refine ⟨n - (i + 1), by omega, hix, rfl, ?_, (s1.trans s2).trans s3, s3 _ _ d2⟩
      rw [List.range_succ, List.filter_append, List.map_append]
      simp [hc]
  · have e : i = n := by omega
    subst e
    exact .inl ⟨w.stop H1 s1, fin H1 s1 d1⟩
theorem getD_of {α : Type} {l : List α} {i : Nat} {x : α} (d : α) (h : l[i]? = some x) : l.getD i d = x := by rw [List.getD_eq_getElem?_getD, h]; rfl
end B

namespace B
open PySem PySem.Spec L2 PyProof.Rows
/-! ### [x] * n, list(range(n)), x not in a sequence within a comprehension -/
section
variable {prog : Program} {w : World} {A : Around} {E : Value → Shared → Prop} {s : Shared}
end
theorem fold_rep (u : Value) : ∀ (n : Nat) (acc : Array Value), (List.foldl (fun x1 x2 => x1 ++ x2) acc (List.replicate n #[u])).toList = acc.toList ++ List.replicate n u
  | 0, acc => by simp
  | n + 1, acc => by
    rw [List.replicate_succ, List.foldl_cons, fold_rep u n, List.replicate_succ]
    simp
theorem vals_rep {v : V} {u : Value} (r : RelV v u) : ∀ n : Nat, Vals (List.replicate n v) (List.replicate n u)
  | 0 => .nil
  | n + 1 => .cons r (vals_rep r n)
end B

namespace B
open PySem PySem.Spec L2 PyProof.Rows
/-! ### in, not in, index of things whose inside is known; insert -/
def Lays (ds : List PyData) : Prop := ∀ e ∈ ds, e.canLay0 = true ∧ e.depth ≤ 32
def rInD (K : PySem.W.Frag) : R2 := fun x y H Q => ∃ p xs ds d, y = .ref p ∧ SqL K H p xs ∧ DeepAll K H xs ds ∧ Lays ds ∧ Deep K H x d ∧ d.canLay0 = true ∧ PyData.eqv d d = true ∧ Q (.bl (ds.any fun e => PyData.eqv e d)) H
def rNotInD (K : PySem.W.Frag) : R2 := fun x y H Q => ∃ p xs ds d, y = .ref p ∧ SqL K H p xs ∧ DeepAll K H xs ds ∧ Lays ds ∧ Deep K H x d ∧ d.canLay0 = true ∧ PyData.eqv d d = true ∧ Q (.bl (!ds.any fun e => PyData.eqv e d)) H
/-- the same of a tuple -/
def rInDT (K : PySem.W.Frag) : R2 := fun x y H Q => ∃ p xs ds d, y = .ref p ∧ SqT K H p xs ∧ DeepAll K H xs ds ∧ Lays ds ∧ Deep K H x d ∧ d.canLay0 = true ∧ PyData.eqv d d = true ∧ Q (.bl (ds.any fun e => PyData.eqv e d)) H
/-- xs.index(x): the first place -/
def rIndexD (K : PySem.W.Frag) : V → List V → Hp → VK → Prop := fun x vs H Q => ∃ p xs ds w d, x = .ref p ∧ vs = [w] ∧ SqL K H p xs ∧ DeepAll K H xs ds ∧ Lays ds ∧ Deep K H w d ∧ d.canLay0 = true ∧ PyData.eqv d d = true ∧ (∃ e ∈ ds, PyData.eqv e d = true) ∧
  ∀ (j : Nat) (e : PyData), ds[j]? = some e → PyData.eqv e d = true → (∀ m f, m < j → ds[m]? = some f → PyData.eqv f d = false) → Q (.int j) H
/-- xs.insert(j, x) -/
def rInsert : V → List V → Hp → VK → Prop := fun x vs H Q => ∃ (l : Addr) (xs : List V) (j : Nat) (y : V), x = .ref l ∧ vs = [.int j, y] ∧ H l = some (.lst xs) ∧ j ≤ xs.length ∧ xs.length < sizeLine ∧ Q .non (upd H l (.lst (xs.take j ++ y :: xs.drop j)))
end B

namespace B
open PySem PySem.Spec L2 PyProof.Rows
/-! ### things of any kind, whose numbers are small -/
mutual
def ibd : PyData → Bool
  | .int i => decide (i.natAbs < 2 ^ 230)
  | .tuple ds => ibdAll ds
  | .list ds => ibdAll ds
  | .dict _ => false
  | _ => true
def ibdAll : List PyData → Bool
  | [] => true
  | d :: ds => ibd d && ibdAll ds
end
theorem ibdAll_of : ∀ {ds : List PyData}, (∀ d ∈ ds, ibd d = true) → ibdAll ds = true
  | [], _ => rfl
  | d :: ds, h => by
    show (ibd d && ibdAll ds) = true
    rw [h d List.mem_cons_self, ibdAll_of fun e he => h e (List.mem_cons_of_mem _ he)]; rfl
theorem ibdAll_mem : ∀ {ds : List PyData}, ibdAll ds = true → ∀ d ∈ ds, ibd d = true
  | d :: ds, h, e, he => by
    have h' : (ibd d && ibdAll ds) = true := h
    rw [Bool.and_eq_true] at h'
    rcases List.mem_cons.mp he with rfl | he
    · exact h'.1
    · exact ibdAll_mem h'.2 e he
theorem layAll_of : ∀ {ds : List PyData}, (∀ d ∈ ds, d.canLay0 = true) → PyData.canLayAll0 ds = true
  | [], _ => rfl
  | d :: ds, h => by
    show (d.canLay0 && PyData.canLayAll0 ds) = true
    rw [h d List.mem_cons_self, layAll_of fun e he => h e (List.mem_cons_of_mem _ he)]; rfl
structure Gd (k n : Nat) (d : PyData) : Prop where
  sh : Sh k n d
  lay : d.canLay0 = true
  bd : ibd d = true
theorem Gd.mono {k n k' n' : Nat} {d : PyData} (h : Gd k n d) (hk : k ≤ k') (hn : n ≤ n') : Gd k' n' d := ⟨h.sh.mono hk hn, h.lay, h.bd⟩
theorem Gd.tup {k n m N : Nat} {ds : List PyData} (h : ∀ d ∈ ds, Gd k n d) (hm : ds.length ≤ m) (hN : (n + 3) * m + 8 ≤ N) : Gd (k + 1) N (.tuple ds) :=
  ⟨Sh.tup (fun d hd => (h d hd).sh) hm hN, layAll_of fun d hd => (h d hd).lay, ibdAll_of fun d hd => (h d hd).bd⟩
theorem Sh.lst {k n m N : Nat} {ds : List PyData} (h : ∀ d ∈ ds, Sh k n d) (hm : ds.length ≤ m) (hN : (n + 3) * m + 8 ≤ N) : Sh (k + 1) N (.list ds) := by
  obtain ⟨a, b, c, e, f⟩ := Sh.all h
  refine ⟨a, b, Nat.succ_le_succ c, ?_⟩
  show (listText (PyData.shownAll ds)).length ≤ N
  have q := listText_len_le (PyData.shownAll ds)
  have l : n * ds.length + 3 * ds.length ≤ (n + 3) * m := by
    rw [← Nat.add_mul]
    exact Nat.mul_le_mul_left _ hm
  omega
theorem Gd.lst {k n m N : Nat} {ds : List PyData} (h : ∀ d ∈ ds, Gd k n d) (hm : ds.length ≤ m) (hN : (n + 3) * m + 8 ≤ N) : Gd (k + 1) N (.list ds) :=
  ⟨Sh.lst (fun d hd => (h d hd).sh) hm hN, layAll_of fun d hd => (h d hd).lay, ibdAll_of fun d hd => (h d hd).bd⟩
theorem gd_none : Gd 0 5000 .none := ⟨⟨rfl, rfl, Nat.le_refl _, by decide⟩, rfl, rfl⟩
theorem gd_bool (b : Bool) : Gd 0 5000 (.bool b) := by cases b <;> exact ⟨⟨rfl, rfl, Nat.le_refl _, by decide⟩, rfl, rfl⟩
theorem gd_str {x : Str} (h : (PyData.str x).showable = true) (l : (PyData.str x).shown.length ≤ 5000) (c : (PyData.str x).canLay0 = true) : Gd 0 5000 (.str x) := ⟨⟨h, rfl, Nat.le_refl _, l⟩, c, rfl⟩
theorem gd_dR {r : R} (h : Wf 230 r) : Gd 1 5000 (dR r) := ⟨sh_dR h (by decide), dR_lay r, by
  show (decide (r.1.natAbs < 2 ^ 230) && (decide (r.2.natAbs < 2 ^ 230) && true)) = true
  rw [decide_eq_true h.top, decide_eq_true h.bot]; rfl⟩
theorem gd_int {i : Int} (h : i.natAbs < 2 ^ 230) : Gd 0 5000 (.int i) := ⟨⟨(show decide (i.natAbs.log2 < 1920) = true from decide_eq_true (log_of h (by decide))), rfl, Nat.le_refl _, Nat.le_trans (len_of h (by decide)) (by decide)⟩, rfl, decide_eq_true h⟩
def decR : PyData → R
  | .tuple [.int a, .int b] => (a, b)
  | _ => (0, 1)
def decRow : PyData → R × R
  | .tuple [x, y] => (decR x, decR y)
  | _ => rowD
end B

namespace B
open PySem PySem.Spec L2 PyProof.Rows
/-! ### things made beside the tape: the heap without the tape's own list -/
theorem dl_same {t : Addr} {H H' : Hp} (s : Same H H') : Same (del H t) (del H' t) := fun b o q => by
  unfold del at q ⊢
  by_cases c : b = t
  · rw [if_pos c] at q; cases q
  · rw [if_neg c] at q ⊢; exact s _ _ q
theorem dl_step {t : Addr} {H H' : Hp} (S : Step t H H') : Same (del H t) (del H' t) := fun b o q => by
  unfold del at q ⊢
  by_cases c : b = t
  · rw [if_pos c] at q; cases q
  · rw [if_neg c] at q ⊢; exact S.keep _ _ c q
theorem dl_full {t : Addr} {H : Hp} : Same (del H t) H := fun b o q => by
  unfold del at q
  by_cases c : b = t
  · rw [if_pos c] at q; cases q
  · rw [if_neg c] at q; exact q
theorem dl_new {t p : Addr} {H : Hp} {o : HO} (g : H p = none) (h : ∃ xs, H t = some (.lst xs)) : del (upd H p o) t p = some o := by
  have n : p ≠ t := fun z => by subst z; obtain ⟨xs, e⟩ := h; rw [g] at e; cases e
  unfold del
  rw [if_neg n, upd_same]
theorem dl_tst {K : PySem.W.Frag} {t : Addr} {H : Hp} (h : ∃ xs, H t = some (.lst xs)) : Tst K H (del H t) := fun p xs q => by
  obtain ⟨ys, e⟩ := h
  rcases q with q | q
  · rcases q with q | ⟨o, q⟩
    · have n : p ≠ t := fun z => by subst z; rw [e] at q; cases q
      exact .inl (.inl (by unfold del; rw [if_neg n]; exact q))
    · have n : p ≠ t := fun z => by subst z; rw [e] at q; cases q
      exact .inl (.inr ⟨o, by unfold del; rw [if_neg n]; exact q⟩)
  · exact .inr q
theorem DeepAll.app {K : PySem.W.Frag} {H : Hp} : ∀ {xs ys : List V} {ds es : List PyData}, DeepAll K H xs ds → DeepAll K H ys es → DeepAll K H (xs ++ ys) (ds ++ es)
  | _, _, _, _, .nil, h => h
  | _, _, _, _, .cons a t, h => .cons a (DeepAll.app t h)
theorem DeepAll.takeN {K : PySem.W.Frag} {H : Hp} : ∀ (n : Nat) {xs : List V} {ds : List PyData}, DeepAll K H xs ds → DeepAll K H (xs.take n) (ds.take n)
  | 0, _, _, _ => .nil
  | _ + 1, _, _, .nil => .nil
  | n + 1, _, _, .cons h t => .cons h (DeepAll.takeN n t)
theorem DeepAll.dropN {K : PySem.W.Frag} {H : Hp} : ∀ (n : Nat) {xs : List V} {ds : List PyData}, DeepAll K H xs ds → DeepAll K H (xs.drop n) (ds.drop n)
  | 0, _, _, h => h
  | _ + 1, _, _, .nil => .nil
  | n + 1, _, _, .cons _ t => DeepAll.dropN n t
theorem DeepAll.atN {K : PySem.W.Frag} {H : Hp} : ∀ {xs : List V} {ds : List PyData}, DeepAll K H xs ds → ∀ {i : Nat} {d : PyData}, ds[i]? = some d → ∃ x, xs[i]? = some x ∧ Deep K H x d
  | _, _, .cons h _, 0, d, e => by
    rw [List.getElem?_cons_zero] at e
    cases e
    exact ⟨_, rfl, h⟩
  | _, _, .cons _ t, i + 1, d, e => DeepAll.atN t (i := i) (by rw [List.getElem?_cons_succ] at e; exact e)
  | _, _, .nil, _, _, e => by cases e
theorem DeepAll.pick {K : PySem.W.Frag} {H : Hp} {xs : List V} {ds : List PyData} (h : DeepAll K H xs ds) {r : Int} (h0 : 0 ≤ r) (h1 : r < xs.length) : ∃ v d, atI xs r = some v ∧ d ∈ ds ∧ Deep K H v d := by
  have hl := h.len
  have e : ds[r.toNat]? = some (ds[r.toNat]'(by omega)) := List.getElem?_eq_getElem _
  obtain ⟨v, a, b⟩ := DeepAll.atN h e
  have q : atI xs ((r.toNat : Nat) : Int) = some v := atI_nat a
  rw [show ((r.toNat : Nat) : Int) = r by omega] at q
  exact ⟨v, _, q, List.getElem_mem _, b⟩
theorem gd_app {k n : Nat} {ds es : List PyData} (h : ∀ d ∈ ds, Gd k n d) (h' : ∀ d ∈ es, Gd k n d) : ∀ d ∈ ds ++ es, Gd k n d := fun d hd => (List.mem_append.mp hd).elim (h d) (h' d)
theorem gd_take {k n : Nat} {ds : List PyData} (m : Nat) (h : ∀ d ∈ ds, Gd k n d) : ∀ d ∈ ds.take m, Gd k n d := fun d hd => h d (List.mem_of_mem_take hd)
theorem gd_drop {k n : Nat} {ds : List PyData} (m : Nat) (h : ∀ d ∈ ds, Gd k n d) : ∀ d ∈ ds.drop m, Gd k n d := fun d hd => h d (List.mem_of_mem_drop hd)
theorem gd_wide {k n k' n' : Nat} {ds : List PyData} (hk : k ≤ k') (hn : n ≤ n') (h : ∀ d ∈ ds, Gd k n d) : ∀ d ∈ ds, Gd k' n' d := fun d hd => (h d hd).mono hk hn
end B

namespace B
open PySem PySem.Spec L2 PyProof.Rows
/-! ### (x,) * n -/
theorem noFill_tuple_mul : fillsNumberSlot (.type "tuple") "mul" = pure false :=
  PySem.fillsNumberSlot_seq (id := "tuple.__mul__") (r := some (.builtin "tuple.__rmul__")) F.slot_tuple_mul.lookup (by decide +kernel) F.slot_tuple_rmul.lookup (by decide +kernel)
theorem repeat_tuple : seqRepeat? (.type "tuple") = pure (some (.builtin "tuple.__mul__")) := by
  unfold seqRepeat?
  rw [PySem.seqSlot_of (T := "tuple") (name := "__mul__") (id := "tuple.__mul__") F.slot_tuple_mul.lookup (by decide +kernel), PySem.seqSlot_of (T := "tuple") (name := "__rmul__") (id := "tuple.__rmul__") F.slot_tuple_rmul.lookup (by decide +kernel)]
  rfl
theorem int_rmul_tuple (a : Int) (t : Tok) (l : Addr) (items : Array Value) (n : Nat) (dd : Option Addr) (sl : Array (Option Value)) :
    Meets (Builtin.«int.__rmul__» ⟨[.int a t, .ref l], []⟩) (fun _ R s => s.heap.get? l = some { cls := .type "tuple", dict := dd, data := .seq items n, slots := sl } ∧ R (.ok (.ret Value.notImplemented)) s) :=
  .of_wp fun prog w A R s h => by obtain ⟨hp, g, d, tk, os⟩ := s; obtain ⟨hl, h⟩ := h; wp_walk; exact ⟨_, rfl, h⟩
theorem tuple_mulW (l : Addr) (items : Array Value) (n : Nat) (dd : Option Addr) (sl : Array (Option Value)) (x : Int) (u : Tok) (hc0 : ¬(decide (x < -(2 ^ 63)) || decide (x ≥ 2 ^ 63)) = true) (hc1 : ¬(items.isEmpty || x == 1) = true) (hc2 : ¬(decide (x ≤ 0) || items.isEmpty) = true) (hc3 : ¬(items.size : Int) * x > (2 ^ 63 - 1) / 8) (hc4 : ¬Builtin.Tuple.tupleTooMany (items.size * x) = true) (hsz : (List.foldl (fun x1 x2 => x1 ++ x2) #[] (List.replicate x.toNat items)).size ≤ sizeLine) :
    Meets (Builtin.«tuple.__mul__» ⟨[.ref l, .int x u], []⟩) (fun _ R s => s.heap.get? l = some { cls := .type "tuple", dict := dd, data := .seq items n, slots := sl } ∧ R (.ok (.ret (Value.ref s.heap.objs.size))) { s with heap := s.heap.push { cls := Value.type "tuple", data := Data.seq (List.foldl (fun x1 x2 => x1 ++ x2) #[] (List.replicate x.toNat items)) }, toks := s.toks }) :=
  .of_wp fun prog w A R s h => by
    obtain ⟨hp, g, d, tk, os⟩ := s; obtain ⟨hl, h⟩ := h
    have f1 := AutoSeq1.idx_int; have f2 := AutoSeq1.sub_tuple_tuple; have f3 := AutoSeq1.sub_list_list; have f4 := AutoSeq1.sub_tuple_list; have f5 := AutoSeq1.sub_list_tuple
    wp_walk using wpAny_loadPart' hl
    refine wpAny_ite_false (decide_eq_false hc0) ?_
    wp_walk using wpAny_loadPart' hl
    refine wpAny_ite_false (decide_eq_false hc3) ?_
    wp_walk using wpAny_loadPart' hl
    exact ⟨_, rfl, h⟩
theorem op_repT {X : Cx} : OpR X (binaryOp .Mult) (fun x y H Q => ∃ (p : Addr) (v : V) (n : Nat), x = .ref p ∧ y = .int n ∧ SqT X.K H p [v] ∧ 2 ≤ n ∧ n ≤ 1000 ∧ ∀ l, H l = none → Q (.ref l) (upd H l (.tup (List.replicate n v)))) := by
  intro pins s σ H x y xv yv Q I rx ry h
  obtain ⟨p, v, n, rfl, rfl, hp, h2, hn, q⟩ := h
  cases (show xv = Value.ref p from rx)
  obtain ⟨t, rfl⟩ := (show ∃ t, yv = Value.int n t from ry)
  obtain ⟨its, rv, p1, _⟩ := I.tuple hp
  obtain ⟨⟨cls, dd, data, sl⟩, ho, hc, k, hd⟩ := id p1
  simp only at hc hd
  subst hc hd
  cases rv with
  | @cons _ u _ _ r0 rr =>
  cases rr
  have el : (List.foldl (fun x1 x2 => x1 ++ x2) #[] (List.replicate (n : Int).toNat ([u] : List Value).toArray)) = (List.replicate n u).toArray := by
    apply Array.ext'
    have := fold_rep u n #[]
    simpa using this
  refine wpAny_binaryOp_repeat_ref (T := "tuple") (U := "int") (by decide) ⟨_, ho, rfl⟩ (fun s' => typeIs_int s' _ t) noFill_tuple_mul F.fills_int_mul F.slot_int_rmul repeat_tuple F.slot_int_index.lookup
    (call_meets F.slot_int_rmul (typeIs_int s _ t) F.entry_int_rmul (F.args_int_rmul_2 _ _) (int_rmul_tuple _ t p _ k dd sl)
      ⟨ho, rfl, ⟨_, ho, rfl⟩, call_meets F.slot_tuple_mul ⟨_, ho, rfl⟩ F.entry_tuple_mul (F.args_tuple_mul_2 _ _)
        (tuple_mulW p _ k dd sl n t (by simp; omega) (by simp; omega) (by simp; omega) (by simp; omega) (by simp [Builtin.Tuple.tupleTooMany, sizeLine]; omega) (by rw [el, sizeLine_eq]; simp; omega))
        ⟨ho, ?_⟩⟩)
  rw [el]
  have I2 : Inv X pins σ (upd H s.heap.objs.size (.tup (List.replicate n v))) { s with heap := s.heap.push { cls := .type "tuple", data := .seq (List.replicate n u).toArray } } :=
    I.laid (t' := s.toks) (fun b o e => Heap.get?_push_of_some _ e) (Nat.le_refl _) (show ObjOk X.prog X.w _ _ _ (.tup (List.replicate n v)) from ⟨by rw [List.length_replicate, sizeLine_eq]; omega, List.replicate n u, vals_rep r0 n, IsTup.new _ _⟩)
  exact ⟨.ref s.heap.objs.size, _, I2, rfl, q _ (I.hok.fresh (Nat.le_refl _))⟩
theorem DeepAll.rep {K : PySem.W.Frag} {H : Hp} {x : V} {d : PyData} (h : Deep K H x d) : ∀ n : Nat, DeepAll K H (List.replicate n x) (List.replicate n d)
  | 0 => .nil
  | n + 1 => .cons h (DeepAll.rep h n)
theorem gd_rep {k n : Nat} {d : PyData} (h : Gd k n d) (m : Nat) : ∀ e ∈ List.replicate m d, Gd k n e := fun e he => by rw [List.eq_of_mem_replicate he]; exact h
theorem cut_any {xs : List V} {n : Nat} : cutV xs none (some (n : Int)) = xs.take n := by
  by_cases h : n ≤ xs.length
  · exact cut_to h
  · unfold cutV
    rw [HT.sIx_nat, HT.sIx_none, Nat.sub_zero, List.drop_zero, Nat.min_eq_right (by omega), List.take_of_length_le (Nat.le_refl _), List.take_of_length_le (by omega)]
end B

namespace B
open PySem PySem.Spec L2 PyProof.Rows
/-! ### t[::-1] of a tuple -/
section
variable {prog : Program} {w : World} {A : Around} {E : Value → Shared → Prop} {s : Shared}
open HT in
theorem sliceApplied_rev {sl : Addr} {n : Nat} {u : Tok} {Q : Int × Int × Nat → Shared → Prop} (hs : s.heap.IsSliceOf sl .none .none (.int (-1) u))
    (h : Q ((n : Int) - 1, -1, n) s) : wpAny (model prog w) A (Builtin.Slice.sliceApplied (.ref sl) (pure (n : Int))) Q E s := by
  obtain ⟨os, hos, hcs, hds⟩ := id hs
  unfold Builtin.Slice.sliceApplied Builtin.Slice.sliceFields
  refine wpAny_bind (wpAny_bind (wpAny_field hos hds (x := .none) rfl (wpAny_bind (wpAny_field hos hds (x := .none) rfl (wpAny_bind (wpAny_field hos hds (x := .int (-1) u) rfl (wpAny_pure ?_)))))))
  refine wpAny_bind (slicePart_ (.int (-1) u) ?_)
  show wpAny _ _ (if ((-1 : Int) == 0) = true then _ else _) _ _ s
  rw [if_neg (by decide)]
  refine wpAny_bind (slicePart_none (wpAny_bind (slicePart_none (wpAny_bind (wpAny_pure ?_)))))
  show wpAny _ _ (pure ((n : Int) - 1, (-1 : Int), Builtin.Slice.slicePlaces ((n : Int) - 1) (-1) (-1))) _ _ s
  have e : Builtin.Slice.slicePlaces ((n : Int) - 1) (-1) (-1) = n := by
    unfold Builtin.Slice.slicePlaces
    rw [if_neg (by decide)]
    by_cases c : (n : Int) - 1 > -1
    · rw [if_pos c, show (-(-1) : Int) = 1 by decide, Int.ediv_one]; omega
    · rw [if_neg c]; omega
  rw [e]
  exact wpAny_pure h
theorem pick_rev (xs : Array Value) : ((List.range xs.size).filterMap fun (m : Nat) => xs[(((xs.size : Int) - 1) + (m : Int) * (-1)).toNat]?) = xs.toList.reverse := by
  have key : ∀ k, k ≤ xs.size → ((List.range k).filterMap fun (m : Nat) => xs[(((xs.size : Int) - 1) + (m : Int) * (-1)).toNat]?) = xs.toList.reverse.take k := by
    intro k
    induction k with
    | zero => intro _; rfl
    | succ k ih =>
      intro hk
      rw [List.range_succ, List.filterMap_append, ih (by omega), List.take_add_one]
      congr 1
      have e : (((xs.size : Int) - 1) + (k : Int) * (-1)).toNat = xs.size - 1 - k := by omega
      rw [List.filterMap_cons, e]
      rw [List.getElem?_reverse (by rw [Array.length_toList]; omega), Array.length_toList]
      rw [show xs.toList[xs.size - 1 - k]? = xs[xs.size - 1 - k]? by simp]
      cases xs[xs.size - 1 - k]? <;> rfl
  have := key xs.size (Nat.le_refl _)
  rwa [List.take_of_length_le (by simp)] at this
open HT in
theorem tuple_rev {t sl : Addr} {items : Array Value} {u : Tok} {Q : Value → Shared → Prop} (ht : IsTup s.heap t items) (hs : s.heap.IsSliceOf sl .none .none (.int (-1) u))
    (h : Q (.ref s.heap.objs.size) { s with heap := s.heap.push { cls := .type "tuple", data := .seq items.toList.reverse.toArray } })
    (hsz : items.size ≤ sizeLine) : wpAny (model prog w) A (getItem (.ref t) (.ref sl)) Q E s := by
  have htake : sizeOk (.seq items.toList.reverse.toArray) := by
    show items.toList.reverse.toArray.size ≤ sizeLine
    rw [List.size_toArray, List.length_reverse, Array.length_toList]
    exact hsz
  obtain ⟨os, hos, hcs, hds⟩ := id hs
  have hTs : s.TypeIs (.ref sl) "slice" := ⟨os, hos, hcs⟩
  unfold getItem
  try with_reducible refine wpAny_holding ?_
  first | refine wpAny_bind (wpAny_pure ?_) | skip
  refine wpAny_bind (wpAny_sequenceKey ht.typeIs (by decide) ?_)
  refine wpAny_bind (wpAny_callSpecial?_slot (name := Str.ofString "__getitem__") ht.typeIs PyProof.Rows.slot_tuple_getitem
    (wpAny_call_entry PyProof.Rows.slot_tuple_getitem ht.typeIs entry_tuple_getitem ?_ (args_tuple_getitem _ _)))
  show wpAny _ _ (Builtin.Tuple.tupleItemsOf (.ref t) >>= _) _ _ s
  refine wpAny_bind (tupleItemsOf_ ht ?_)
  refine wpAny_bind (wpAny_typeOf hTs ?_)
  rw [if_pos (by decide)]
  refine wpAny_bind (sliceApplied_rev hs ?_)
  have hno : ¬ ((((items.size : Int) - 1) == 0 && (-1 : Int) == 1 && items.size == items.size) = true) := by
    intro q
    rw [Bool.and_eq_true, Bool.and_eq_true] at q
    exact absurd q.1.2 (by decide)
  show wpAny _ _ (if (((items.size : Int) - 1) == 0 && (-1 : Int) == 1 && items.size == items.size) = true then _ else _) _ _ s
  rw [if_neg hno, pick_rev]
  first
    | exact wpAny_bind (m := Builtin.Tuple.tupleExact _) (wpAny_newObj_type (wpAny_pure ⟨_, rfl, wpAny_pure h⟩) htake)
    | exact wpAny_bind (m := Builtin.Tuple.tupleExact _) (wpAny_newObj_type (wpAny_bind (wpAny_pure (wpAny_pure ⟨_, rfl, wpAny_pure h⟩))) htake)
    | exact wpAny_bind (wpAny_bind (m := Builtin.Tuple.tupleExact _) (wpAny_newObj_type (wpAny_pure (wpAny_pure ⟨_, rfl, wpAny_pure h⟩)) htake))
    | exact wpAny_bind (wpAny_bind (m := Builtin.Tuple.tupleExact _) (wpAny_newObj_type (wpAny_pure ⟨_, rfl, wpAny_pure h⟩) htake))
end
theorem Vals.rev : ∀ {xs : List V} {us : List Value}, Vals xs us → Vals xs.reverse us.reverse
  | _, _, .nil => .nil
  | x :: xs, u :: us, .cons r t => by
    rw [List.reverse_cons, List.reverse_cons]
    exact (Vals.rev t).append (.cons r .nil)
def tRev (K : PySem.W.Frag) (te : TE) : TE := fun σ H Q => te σ H fun x H1 => ∃ a xs, x = .ref a ∧ SqT K H1 a xs ∧ ∀ p, H1 p = none → Q (.ref p) (upd H1 p (.tup xs.reverse))
theorem pe_rev {X : Cx} {e : Expr} {te : TE} {j : Nat} {p1 p2 p3 pos : Pos} (he : PE X e te) : PE X (.Subscript e (.Slice none none (some (.UnaryOp .USub (.Constant (.int 1) j p1) p2)) p3) pos) (tRev X.K te) := by
  intro pins s σ H Q I h
  refine Subscript_ (thn (he pins s σ H _ I h) fun v s1 ⟨x, H1, I1, r1, q1⟩ => ?_)
  refine wpAny_Slice ?_
  rw [evalPart_none]
  refine wpAny_pure (wpAny_pure ?_)
  rw [evalPart_some]
  refine thn ((pe_un (X := X) un_neg (pe_int (i := 1))) pins s1 σ H1 (fun y H2 => y = .int (-1) ∧ H2 = H1) I1 ⟨1, rfl, rfl, rfl⟩) fun u s2 ⟨y, H2, I2, r2, e1, e2⟩ => ?_
  subst e1 e2
  obtain ⟨t, rfl⟩ := r2
  obtain ⟨a, xs, rfl, hx, q⟩ := q1
  cases r1
  have I4 : Inv X pins σ H2 { s2 with heap := s2.heap.push { cls := .type "slice", data := .fields #[.none, .none, .int (-1) t] } } := I2.kept (t' := s2.toks) fun b ob q => Heap.get?_push_of_some _ q
  obtain ⟨its, r, ht, hz⟩ := I4.tuple hx
  have hlen : its.toArray.size = xs.length := by rw [List.size_toArray]; exact r.length.symm
  show wpAny (model X.prog X.w) X.A (subscriptTail e (.Slice none none (some (.UnaryOp .USub (.Constant (.int 1) j p1) p2)) p3) (.ref a) (.ref s2.heap.objs.size)) (EP X pins σ Q) X.xe { s2 with heap := s2.heap.push { cls := .type "slice", data := .fields #[.none, .none, .int (-1) t] } }
  refine tail_any (ops := [.ref a, .ref s2.heap.objs.size]) ht.typeIs PyProof.Rows.slot_tuple_getitem.lookup (tuple_rev ht (Heap.IsSliceOf.new ..) ?_ (by rw [hlen]; exact hz)) (by with_unfolding_all rfl)
  refine ⟨.ref _, _, I4.laid (t' := s2.toks) (o := .tup xs.reverse) (fun b ob q => Heap.get?_push_of_some _ q) (Nat.le_refl _) ?_, rfl, q _ (I4.hok.fresh (Nat.le_refl _))⟩
  exact ⟨by rw [List.length_reverse]; exact hz, _, Vals.rev r, IsTup.new _ _⟩
end B

namespace B
open PySem PySem.Spec L2 PyProof.Rows
/-! ### {2: a, 3: b, 4: c}[i], boxed -/
theorem qe_d3 {X : Cx} {i : Expr} {ti : TE} {j1 j2 j3 j4 j5 j6 : Nat} {a b c d e f : Int} {p1 p2 p3 p4 p5 p6 p7 pos : Pos} (hu : X.A.units + 1 < cLine) (hi : QE X i ti) (hs : NoSl i) :
    QE X (.Subscript (.Dict [some (.Constant (.int a) j1 p1), some (.Constant (.int c) j3 p3), some (.Constant (.int e) j5 p5)] [.Constant (.int b) j2 p2, .Constant (.int d) j4 p4, .Constant (.int f) j6 p6] p7) i pos)
      (tDGet (tDisp [(tC (.int a), tC (.int b)), (tC (.int c), tC (.int d)), (tC (.int e), tC (.int f))]) ti) :=
  ⟨pe_dget hu (pe_disp (pps_cons pe_int pe_int (pps_cons pe_int pe_int (pps_cons pe_int pe_int pps_nil))) rfl rfl (by simp) (by show 3 ≤ 15; decide)) hi.p hs⟩
/-! ### t[::-1], boxed -/
theorem qe_rev {X : Cx} {e : Expr} {te : TE} {j : Nat} {p1 p2 p3 pos : Pos} (he : QE X e te) : QE X (.Subscript e (.Slice none none (some (.UnaryOp .USub (.Constant (.int 1) j p1) p2)) p3) pos) (tRev X.K te) := ⟨pe_rev he.p⟩
end B

namespace B
open PySem PySem.Spec L2 PyProof.Rows
theorem tuple_mulW1 (l : Addr) (items : Array Value) (n : Nat) (dd : Option Addr) (sl : Array (Option Value)) (u : Tok) :
    Meets (Builtin.«tuple.__mul__» ⟨[.ref l, .int 1 u], []⟩) (fun _ R s => s.heap.get? l = some { cls := .type "tuple", dict := dd, data := .seq items n, slots := sl } ∧ R (.ok (.ret (Value.ref l))) { s with heap := s.heap, toks := s.toks }) :=
  .of_wp fun prog w A R s h => by
    obtain ⟨hp, g, d, tk, os⟩ := s; obtain ⟨hl, h⟩ := h
    have f1 := AutoSeq1.idx_int; have f2 := AutoSeq1.sub_tuple_tuple; have f3 := AutoSeq1.sub_list_list; have f4 := AutoSeq1.sub_tuple_list; have f5 := AutoSeq1.sub_list_tuple
    have hc1 : (items.isEmpty || (1 : Int) == 1) = true := by simp
    wp_walk using wpAny_loadPart' hl
    exact ⟨_, rfl, h⟩
theorem op_repU {X : Cx} : OpR X (binaryOp .Mult) (fun x y H Q => ∃ (p : Addr) (v : V) (n : Nat), x = .ref p ∧ y = .int n ∧ SqT X.K H p [v] ∧ 1 ≤ n ∧ n ≤ 1000 ∧ ∀ q H', Same H H' → SqT X.K H' q (List.replicate n v) → Q (.ref q) H') := by
  intro pins s σ H x y xv yv Q I rx ry h
  obtain ⟨p, v, n, rfl, rfl, hp, h1, hn, q⟩ := h
  by_cases c : n = 1
  · subst c
    cases (show xv = Value.ref p from rx)
    obtain ⟨t, rfl⟩ := (show ∃ t, yv = Value.int (1 : Nat) t from ry)
    obtain ⟨its, rv, p1, _⟩ := I.tuple hp
    obtain ⟨⟨cls, dd, data, sl⟩, ho, hc, k, hd⟩ := id p1
    simp only at hc hd
    subst hc hd
    exact wpAny_binaryOp_repeat_ref (T := "tuple") (U := "int") (by decide) ⟨_, ho, rfl⟩ (fun s' => typeIs_int s' _ t) noFill_tuple_mul F.fills_int_mul F.slot_int_rmul repeat_tuple F.slot_int_index.lookup
      (call_meets F.slot_int_rmul (typeIs_int s _ t) F.entry_int_rmul (F.args_int_rmul_2 _ _) (int_rmul_tuple _ t p _ k dd sl)
        ⟨ho, rfl, ⟨_, ho, rfl⟩, call_meets F.slot_tuple_mul ⟨_, ho, rfl⟩ F.entry_tuple_mul (F.args_tuple_mul_2 _ _)
          (tuple_mulW1 p _ k dd sl t) ⟨ho, ⟨.ref p, H, I, rfl, q p H (Same.refl H) hp⟩⟩⟩)
  · refine op_repT pins s σ H _ _ xv yv Q I rx ry ⟨p, v, n, rfl, rfl, hp, by omega, hn, fun l hl => q l _ (same_new hl _) (SqT.of upd_same)⟩
end B

namespace My
open PySem L2 B PyProof.Rows
def top (i : Nat) : Stmt := PySem.Challenge.pw_paceplan_k68_bills_let_by_or_not.main.body.getD i (.Pass ⟨0, 0, 0, 0⟩)
abbrev s_is_whole : Stmt := top 1
abbrev s_is_tuple_of : Stmt := top 2
abbrev s_copied : Stmt := top 3
abbrev s_greatest_divisor : Stmt := top 13
abbrev s_is_ratio : Stmt := top 14
abbrev s_plus : Stmt := top 15
abbrev s_minus : Stmt := top 16
abbrev s_times : Stmt := top 17
abbrev s_raised : Stmt := top 18
abbrev s_is_less : Stmt := top 19
abbrev s_lets_bill : Stmt := top 21
abbrev s_law_cell_at : Stmt := top 23
abbrev s_law_draws : Stmt := top 24
abbrev s_law_take : Stmt := top 25
abbrev s_law_made : Stmt := top 26
abbrev s_law_plus : Stmt := top 27
abbrev s_law_minus : Stmt := top 28
abbrev s_law_times : Stmt := top 29
abbrev s_law_is_less : Stmt := top 30
abbrev s_law_raised : Stmt := top 31
abbrev s_law_is_ratio : Stmt := top 32
abbrev s_law_billed : Stmt := top 33
abbrev s_law_greatest_bill : Stmt := top 34
abbrev s_law_speeds_by : Stmt := top 35
abbrev s_law_told : Stmt := top 36
abbrev s_law_bent : Stmt := top 37
abbrev s_law_right : Stmt := top 38
abbrev s_law : Stmt := top 39
abbrev s_NoBill : Stmt := inClass (top 10) 0
structure Ad where
  a_is_whole : Addr
  d_is_whole : FuncData
  a_is_tuple_of : Addr
  d_is_tuple_of : FuncData
  a_copied : Addr
  d_copied : FuncData
  a_greatest_divisor : Addr
  d_greatest_divisor : FuncData
  a_is_ratio : Addr
  d_is_ratio : FuncData
  a_plus : Addr
  d_plus : FuncData
  a_minus : Addr
  d_minus : FuncData
  a_times : Addr
  d_times : FuncData
  a_raised : Addr
  d_raised : FuncData
  a_is_less : Addr
  d_is_less : FuncData
  a_lets_bill : Addr
  d_lets_bill : FuncData
  a_law_cell_at : Addr
  d_law_cell_at : FuncData
  a_law_draws : Addr
  d_law_draws : FuncData
  a_law_take : Addr
  d_law_take : FuncData
  a_law_made : Addr
  d_law_made : FuncData
  a_law_plus : Addr
  d_law_plus : FuncData
  a_law_minus : Addr
  d_law_minus : FuncData
  a_law_times : Addr
  d_law_times : FuncData
  a_law_is_less : Addr
  d_law_is_less : FuncData
  a_law_raised : Addr
  d_law_raised : FuncData
  a_law_is_ratio : Addr
  d_law_is_ratio : FuncData
  a_law_billed : Addr
  d_law_billed : FuncData
  a_law_greatest_bill : Addr
  d_law_greatest_bill : FuncData
  a_law_speeds_by : Addr
  d_law_speeds_by : FuncData
  a_law_told : Addr
  d_law_told : FuncData
  a_law_bent : Addr
  d_law_bent : FuncData
  a_law_right : Addr
  d_law_right : FuncData
  a_law : Addr
  d_law : FuncData
  c_NOUGHT : Addr
  c_base : Addr
  c_NoBill : Addr
  a_NoBill : Addr
  d_NoBill : FuncData
  c_PaceError : Addr
  c_NoLeast : Addr
  c_NoMix : Addr
  c_NoPlan : Addr
  c_NoStretch : Addr
structure Txt (K : PySem.W.Frag) (mg : Str → Option Value) (t : Ad) : Prop where
  F_is_whole : Fun K "is_whole" "is_whole" s_is_whole t.a_is_whole t.d_is_whole
  b_is_whole : Binds K t.d_is_whole ["thing"] []
  m_is_whole : mg "is_whole" = some (.ref t.a_is_whole)
  F_is_tuple_of : Fun K "is_tuple_of" "is_tuple_of" s_is_tuple_of t.a_is_tuple_of t.d_is_tuple_of
  b_is_tuple_of : Binds K t.d_is_tuple_of ["thing", "length"] []
  m_is_tuple_of : mg "is_tuple_of" = some (.ref t.a_is_tuple_of)
  F_copied : Fun K "copied" "copied" s_copied t.a_copied t.d_copied
  b_copied : Binds K t.d_copied ["thing"] []
  m_copied : mg "copied" = some (.ref t.a_copied)
  F_greatest_divisor : Fun K "greatest_divisor" "greatest_divisor" s_greatest_divisor t.a_greatest_divisor t.d_greatest_divisor
  b_greatest_divisor : Binds K t.d_greatest_divisor ["one", "other"] []
  m_greatest_divisor : mg "greatest_divisor" = some (.ref t.a_greatest_divisor)
  F_is_ratio : Fun K "is_ratio" "is_ratio" s_is_ratio t.a_is_ratio t.d_is_ratio
  b_is_ratio : Binds K t.d_is_ratio ["thing"] []
  m_is_ratio : mg "is_ratio" = some (.ref t.a_is_ratio)
  F_plus : Fun K "plus" "plus" s_plus t.a_plus t.d_plus
  b_plus : Binds K t.d_plus ["one", "other"] []
  m_plus : mg "plus" = some (.ref t.a_plus)
  F_minus : Fun K "minus" "minus" s_minus t.a_minus t.d_minus
  b_minus : Binds K t.d_minus ["one", "other"] []
  m_minus : mg "minus" = some (.ref t.a_minus)
  F_times : Fun K "times" "times" s_times t.a_times t.d_times
  b_times : Binds K t.d_times ["one", "other"] []
  m_times : mg "times" = some (.ref t.a_times)
  F_raised : Fun K "raised" "raised" s_raised t.a_raised t.d_raised
  b_raised : Binds K t.d_raised ["one", "power"] []
  m_raised : mg "raised" = some (.ref t.a_raised)
  F_is_less : Fun K "is_less" "is_less" s_is_less t.a_is_less t.d_is_less
  b_is_less : Binds K t.d_is_less ["one", "other"] []
  m_is_less : mg "is_less" = some (.ref t.a_is_less)
  F_lets_bill : Fun K "lets_bill" "lets_bill" s_lets_bill t.a_lets_bill t.d_lets_bill
  b_lets_bill : Binds K t.d_lets_bill ["k", "one", "other", "thing"] []
  m_lets_bill : mg "lets_bill" = some (.ref t.a_lets_bill)
  F_law_cell_at : Fun K "_law_cell_at" "_law_cell_at" s_law_cell_at t.a_law_cell_at t.d_law_cell_at
  b_law_cell_at : Binds K t.d_law_cell_at ["_law_script", "_law_k"] []
  m_law_cell_at : mg "_law_cell_at" = some (.ref t.a_law_cell_at)
  F_law_draws : Fun K "_law_draws" "_law_draws" s_law_draws t.a_law_draws t.d_law_draws
  b_law_draws : Binds K t.d_law_draws ["_law_cell", "_law_many"] []
  m_law_draws : mg "_law_draws" = some (.ref t.a_law_draws)
  F_law_take : Fun K "_law_take" "_law_take" s_law_take t.a_law_take t.d_law_take
  b_law_take : Binds K t.d_law_take ["_law_tape", "_law_many"] []
  m_law_take : mg "_law_take" = some (.ref t.a_law_take)
  F_law_made : Fun K "_law_made" "_law_made" s_law_made t.a_law_made t.d_law_made
  b_law_made : Binds K t.d_law_made ["_law_top", "_law_bottom"] []
  m_law_made : mg "_law_made" = some (.ref t.a_law_made)
  F_law_plus : Fun K "_law_plus" "_law_plus" s_law_plus t.a_law_plus t.d_law_plus
  b_law_plus : Binds K t.d_law_plus ["_law_one", "_law_other"] []
  m_law_plus : mg "_law_plus" = some (.ref t.a_law_plus)
  F_law_minus : Fun K "_law_minus" "_law_minus" s_law_minus t.a_law_minus t.d_law_minus
  b_law_minus : Binds K t.d_law_minus ["_law_one", "_law_other"] []
  m_law_minus : mg "_law_minus" = some (.ref t.a_law_minus)
  F_law_times : Fun K "_law_times" "_law_times" s_law_times t.a_law_times t.d_law_times
  b_law_times : Binds K t.d_law_times ["_law_one", "_law_other"] []
  m_law_times : mg "_law_times" = some (.ref t.a_law_times)
  F_law_is_less : Fun K "_law_is_less" "_law_is_less" s_law_is_less t.a_law_is_less t.d_law_is_less
  b_law_is_less : Binds K t.d_law_is_less ["_law_one", "_law_other"] []
  m_law_is_less : mg "_law_is_less" = some (.ref t.a_law_is_less)
  F_law_raised : Fun K "_law_raised" "_law_raised" s_law_raised t.a_law_raised t.d_law_raised
  b_law_raised : Binds K t.d_law_raised ["_law_one", "_law_many"] []
  m_law_raised : mg "_law_raised" = some (.ref t.a_law_raised)
  F_law_is_ratio : Fun K "_law_is_ratio" "_law_is_ratio" s_law_is_ratio t.a_law_is_ratio t.d_law_is_ratio
  b_law_is_ratio : Binds K t.d_law_is_ratio ["_law_thing"] []
  m_law_is_ratio : mg "_law_is_ratio" = some (.ref t.a_law_is_ratio)
  F_law_billed : Fun K "_law_billed" "_law_billed" s_law_billed t.a_law_billed t.d_law_billed
  b_law_billed : Binds K t.d_law_billed ["_law_k", "_law_one", "_law_other", "_law_thing"] []
  m_law_billed : mg "_law_billed" = some (.ref t.a_law_billed)
  F_law_greatest_bill : Fun K "_law_greatest_bill" "_law_greatest_bill" s_law_greatest_bill t.a_law_greatest_bill t.d_law_greatest_bill
  b_law_greatest_bill : Binds K t.d_law_greatest_bill ["_law_k", "_law_one", "_law_other", "_law_begin"] []
  m_law_greatest_bill : mg "_law_greatest_bill" = some (.ref t.a_law_greatest_bill)
  F_law_speeds_by : Fun K "_law_speeds_by" "_law_speeds_by" s_law_speeds_by t.a_law_speeds_by t.d_law_speeds_by
  b_law_speeds_by : Binds K t.d_law_speeds_by ["_law_tape", "_law_many", "_law_most"] []
  m_law_speeds_by : mg "_law_speeds_by" = some (.ref t.a_law_speeds_by)
  F_law_told : Fun K "_law_told" "_law_told" s_law_told t.a_law_told t.d_law_told
  b_law_told : Binds K t.d_law_told ["_law_k", "_law_one", "_law_other", "_law_thing"] []
  m_law_told : mg "_law_told" = some (.ref t.a_law_told)
  F_law_bent : Fun K "_law_bent" "_law_bent" s_law_bent t.a_law_bent t.d_law_bent
  b_law_bent : Binds K t.d_law_bent ["_law_tape", "_law_paper"] []
  m_law_bent : mg "_law_bent" = some (.ref t.a_law_bent)
  F_law_right : Fun K "_law_right" "_law_right" s_law_right t.a_law_right t.d_law_right
  b_law_right : Binds K t.d_law_right ["_law_k", "_law_one", "_law_other", "_law_thing"] []
  m_law_right : mg "_law_right" = some (.ref t.a_law_right)
  F_law : Fun K "law" "law" s_law t.a_law t.d_law
  b_law : Binds K t.d_law ["_law_script"] []
  m_law : mg "law" = some (.ref t.a_law)
  m_NOUGHT : mg "NOUGHT" = some (.ref t.c_NOUGHT)
  q_NOUGHT : ∀ H, SqT K H t.c_NOUGHT [.int (0), .int (1)]
  X_NoBill : XC K t.c_NoBill t.a_NoBill (.ref t.c_base :: vMro)
  F_NoBill : Fun K "__init__" "NoBill.__init__" s_NoBill t.a_NoBill t.d_NoBill
  b_NoBill : Binds K t.d_NoBill ["self", "word", "number"] []
  m_NoBill : mg "NoBill" = some (.ref t.c_NoBill)
  n_NoBill_word : NoAttr K t.c_NoBill "word"
  n_NoBill_number : NoAttr K t.c_NoBill "number"
  g_NoBill : GetX K t.c_NoBill
  m_PaceError : mg "PaceError" = some (.ref t.c_PaceError)
  m_NoLeast : mg "NoLeast" = some (.ref t.c_NoLeast)
  m_NoMix : mg "NoMix" = some (.ref t.c_NoMix)
  m_NoPlan : mg "NoPlan" = some (.ref t.c_NoPlan)
  m_NoStretch : mg "NoStretch" = some (.ref t.c_NoStretch)
  x_catch : PySem.W.exmOne K (.ref t.c_NoBill) (.ref t.c_PaceError) = some true
  y_self : PySem.W.kitOne K (.ref t.c_NoBill) (.ref t.c_NoBill) = some true
  y_not : PySem.W.kitAny K (.ref t.c_NoBill) [.ref t.c_NoLeast, .ref t.c_NoMix, .ref t.c_NoPlan, .ref t.c_NoStretch] = some false
  z_abs : mg "abs" = none
  z_all : mg "all" = none
  z_bool : mg "bool" = none
  z_int : mg "int" = none
  z_isinstance : mg "isinstance" = none
  z_len : mg "len" = none
  z_list : mg "list" = none
  z_range : mg "range" = none
  z_repr : mg "repr" = none
  z_tuple : mg "tuple" = none
def newR (H : Hp) (Q : VK) (r : R) : Prop := ∀ p, H p = none → Q (.ref p) (upd H p (.tup [.int r.1, .int r.2]))
def toR (K : PySem.W.Frag) (H : Hp) (Q : VK) (r : R) : Prop := ∀ (v : V) (H' : Hp), Same H H' → RV K H' v r → Q v H'
def sp_greatest_divisor (_ : PySem.W.Frag) : Sp := fun vs H Q _ => ∃ a b : Int, vs = [.int a, .int b] ∧ Q (.int (Int.gcd a b : Nat)) H
def sp_law_made (_ : PySem.W.Frag) : Sp := fun vs H Q _ => ∃ a b : Int, vs = [.int a, .int b] ∧ 0 < b ∧ b.natAbs < 2 ^ 4000 ∧ newR H Q (mkR a b)
def sp_plus (K : PySem.W.Frag) : Sp := fun vs H Q _ => ∃ (v w : V) (r q : R) (n m : Nat), vs = [v, w] ∧ RV K H v r ∧ RV K H w q ∧ Wf n r ∧ Wf m q ∧ n + m + 1 ≤ 3000 ∧ newR H Q (plusR r q)
abbrev sp_law_plus := sp_plus
def sp_times (K : PySem.W.Frag) : Sp := fun vs H Q _ => ∃ (v w : V) (r q : R) (n m : Nat), vs = [v, w] ∧ RV K H v r ∧ RV K H w q ∧ Wf n r ∧ Wf m q ∧ n + m + 1 ≤ 3000 ∧ newR H Q (timesR r q)
abbrev sp_law_times := sp_times
def sp_is_less (K : PySem.W.Frag) : Sp := fun vs H Q _ => ∃ (v w : V) (r q : R) (n m : Nat), vs = [v, w] ∧ RV K H v r ∧ RV K H w q ∧ Wf n r ∧ Wf m q ∧ n + m + 1 ≤ 3000 ∧ Q (.bl (lessR r q)) H
abbrev sp_law_is_less := sp_is_less
def sp_raised (K : PySem.W.Frag) : Sp := fun vs H Q _ => ∃ (v : V) (r : R) (k : Int), vs = [v, .int k] ∧ RV K H v r ∧ Wf 31 r ∧ 0 ≤ k ∧ k ≤ 6 ∧ ∀ (v' : V) (H' : Hp), Same H H' → RV K H' v' (powR r k.toNat) → Q v' H'
theorem pow_lt {a : Int} {i : Nat} (h : a.natAbs < 2 ^ 31) (hi : i ≤ 6) : (a ^ i).natAbs < 2 ^ 4000 := by
  rw [Int.natAbs_pow]
  refine Nat.lt_of_le_of_lt (Nat.pow_le_pow_left (Nat.le_of_lt h) i) ?_
  rw [← Nat.pow_mul]
  exact Nat.pow_lt_pow_right (by decide) (by omega)
theorem div_lt {a g : Int} (hg : 0 < g) (h : a.natAbs < 2 ^ 4000) : (a / g).natAbs < 2 ^ 4000 := Nat.lt_of_le_of_lt (natAbs_div_le a hg) h
theorem gcd_lt {a b : Int} (hb : 0 < b) (h : b.natAbs < 2 ^ 4000) : ((Int.gcd a b : Nat) : Int).natAbs < 2 ^ 4000 := by
  have z : Int.gcd a b ≤ b.natAbs := Nat.le_of_dvd (by omega) (by have := Int.gcd_dvd_right a b; exact Int.natAbs_dvd_natAbs.mpr this)
  have e : ((Int.gcd a b : Nat) : Int).natAbs = Int.gcd a b := Int.natAbs_natCast _
  omega
theorem two63 {n : Int} (h0 : 0 ≤ n) (h1 : n ≤ 100) : -(2 ^ 62) ≤ n ∧ n < 2 ^ 62 := by constructor <;> omega
theorem big_of {i : Int} {n : Nat} (h : i.natAbs < 2 ^ n) (hn : n ≤ 4000) : i.natAbs < 2 ^ 4000 := Nat.lt_of_lt_of_le h (Nat.pow_le_pow_right (by decide) hn)

theorem cop_neg' {a b : Int} (h : Int.gcd a b = 1) : Int.gcd (-a) b = 1 := by rw [Int.neg_gcd]; exact h
def sp_minus (K : PySem.W.Frag) : Sp := fun vs H Q _ => ∃ (v w : V) (r q : R) (n m : Nat), vs = [v, w] ∧ RV K H v r ∧ RV K H w q ∧ Wf n r ∧ Wf m q ∧ n + m + 1 ≤ 3000 ∧ toR K H Q (minusR r q)
def sp_law_minus (K : PySem.W.Frag) : Sp := fun vs H Q _ => ∃ (v w : V) (r q : R) (n m : Nat), vs = [v, w] ∧ RV K H v r ∧ RV K H w q ∧ Wf n r ∧ Wf m q ∧ n + m + 1 ≤ 3000 ∧ newR H Q (minusR r q)
abbrev sp_law_raised := sp_raised
theorem powR_wf {n : Nat} {r : R} (h : Wf n r) : ∀ k : Nat, Wf (1 + n * k) (powR r k)
  | 0 => ⟨by show (0 : Int) < 1; decide, by show (1 : Int).natAbs < 2 ^ 1; decide, by show (1 : Int).natAbs < 2 ^ 1; decide, by show Int.gcd 1 1 = 1; decide⟩
  | k + 1 => (times_wf (powR_wf h k) h).mono (by rw [Nat.mul_succ]; omega)
theorem del_same {H H' : Hp} {x : Addr} {o0 : HO} (hx : H x = none) (kp : ∀ b o, b ≠ x → upd H x o0 b = some o → H' b = some o) : Same H (del H' x) := fun b o e => by
  have nb : b ≠ x := ne_of_none e hx
  unfold del
  rw [if_neg nb]
  exact kp b o nb (by rw [upd_ne nb]; exact e)
theorem del_at {H : Hp} {x d : Addr} (n : d ≠ x) : del H x d = H d := by unfold del; rw [if_neg n]
def sp_copied (_ : PySem.W.Frag) : Sp := fun vs H Q _ => ∃ v : V, vs = [v] ∧ ((∃ i, v = .int i) ∨ ∃ x, v = .str x) ∧ Q v H
structure TapeB (H : Hp) (t l : Addr) : Prop where
  ex : ∃ (ns : List Int) (p : Int), H t = some (.lst [.ref l, .int p]) ∧ H l = some (.lst (ns.map V.int)) ∧ l ≠ t ∧ 0 < ns.length ∧ ns.length ≤ 1000
theorem TapeB.lst {H : Hp} {t l : Addr} (h : TapeB H t l) : ∃ xs, H t = some (.lst xs) := let ⟨_, _, e, _⟩ := h.ex; ⟨_, e⟩
theorem TapeB.lst' {H : Hp} {t l : Addr} (h : TapeB H t l) : ∃ xs, H l = some (.lst xs) := let ⟨_, _, _, e, _⟩ := h.ex; ⟨_, e⟩
theorem TapeB.same {H H' : Hp} {t l : Addr} (h : TapeB H t l) (s : Same H H') : TapeB H' t l := let ⟨ns, p, a, b, c⟩ := h.ex; ⟨ns, p, s _ _ a, s _ _ b, c⟩
theorem TapeB.upl {H : Hp} {t l a : Addr} (h : TapeB H t l) (h1 : a ≠ t) (h2 : a ≠ l) (o : HO) : TapeB (upd H a o) t l := by
  obtain ⟨ns, p, e, f, c⟩ := h.ex
  exact ⟨ns, p, by rw [upd_ne h1.symm]; exact e, by rw [upd_ne h2.symm]; exact f, c⟩
def sp_law_take (_ : PySem.W.Frag) : Sp := fun vs H Q _ => ∃ (t l : Addr) (m : Int), vs = [.ref t, .int m] ∧ TapeB H t l ∧ 0 < m ∧ m < 1073741824 ∧ ∀ (r : Int) (xs : List V), 0 ≤ r → r < m → TapeB (upd H t (.lst xs)) t l → Q (.int r) (upd H t (.lst xs))
def sp_law_cell_at (K : PySem.W.Frag) : Sp := fun vs H Q _ => ∃ (a : Addr) (ns : List Int) (k : Nat), vs = [.ref a, .int k] ∧ SqL K H a (ns.map V.int) ∧ ∀ z : Int, Q (.int z) H
def sp_law_draws (_ : PySem.W.Frag) : Sp := fun vs H Q _ => ∃ (c : Int) (m : Nat), vs = [.int c, .int m] ∧ 0 < m ∧ m ≤ 1000 ∧ ∀ (l : Addr) (ns : List Int) (H' : Hp), Same H H' → H l = none → H' l = some (.lst (ns.map V.int)) → ns.length = m → Q (.ref l) H'
def kkM (k : Int) : Int := if k = 2 then 4 else if k = 3 then 27 else 256
def r0 : R := (0, 1)
def mostM (k : Int) (o p : R) : R := minusR (timesR (kkM k, 1) (powR p k.toNat)) (powR o k.toNat)
def stepB (k : Int) (o p a b : R) : Bool := !lessR (powR (timesR (k, 1) p) k.toNat) (plusR (powR o k.toNat) (minusR b a))
def RsV (K : PySem.W.Frag) (H : Hp) (v : V) (rs : List R) : Prop := ∃ p xs, v = .ref p ∧ SqT K H p xs ∧ Als (RV K H) xs rs
theorem RsV.mono {K : PySem.W.Frag} {H H' : Hp} {v : V} {rs : List R} (h : RsV K H v rs) (t : Tst K H H') : RsV K H' v rs := let ⟨p, xs, e, s, a⟩ := h; ⟨p, xs, e, t _ _ s, a.mono fun _ _ q => q.mono t⟩
theorem cast_pos {b : Int} (h : 0 < b) : (0 : Rat) < (b : Rat) := by
  have := Rat.intCast_lt_intCast.mpr h
  exact this
theorem val_less {r q : R} (hr : 0 < r.2) (hq : 0 < q.2) : lessR r q = true ↔ val r < val q := by
  rw [less_iff, ← Rat.intCast_lt_intCast, Rat.intCast_mul, Rat.intCast_mul]
  have h1 := cast_pos hr
  have h2 := cast_pos hq
  have e1 : (r.1 : Rat) = val r * (r.2 : Rat) := by
    have := ne_cast hr
    unfold val
    generalize (r.1 : Rat) = x at *
    generalize (r.2 : Rat) = y at *
    grind
  have e2 : (q.1 : Rat) = val q * (q.2 : Rat) := by
    have := ne_cast hq
    unfold val
    generalize (q.1 : Rat) = x at *
    generalize (q.2 : Rat) = y at *
    grind
  rw [e1, e2]
  generalize val r = x at *
  generalize val q = y at *
  generalize (r.2 : Rat) = u at *
  generalize (q.2 : Rat) = v at *
  have c : 0 < u * v := Rat.mul_pos h1 h2
  constructor
  · intro h
    have h' : x * (u * v) < y * (u * v) := by grind
    by_cases w : x < y
    · exact w
    · have z : y ≤ x := Rat.not_lt.mp w
      have := Rat.mul_le_mul_of_nonneg_right z (Rat.le_of_lt c)
      grind
  · intro h
    have := Rat.mul_lt_mul_of_pos_right h c
    grind
theorem pow_red' {s : R} (h : Red s) (n : Nat) : Red (powR s n) := by cases n with | zero => exact ⟨by show (0 : Int) < 1; decide, by show Int.gcd 1 1 = 1; decide⟩ | succ n => exact times_red (pow_red' h n) h
theorem val_k' (k : Int) : val (k, 1) = (k : Rat) := by unfold val; show (k : Rat) / ((1 : Int) : Rat) = k; rw [show ((1 : Int) : Rat) = 1 from rfl]; grind
theorem val_pow {s : R} (h : Red s) : ∀ n : Nat, val (powR s n) = val s ^ n
  | 0 => by show val (1, 1) = _; rw [val_k', Rat.pow_zero]; rfl
  | n + 1 => by
    show val (timesR (powR s n) s) = _
    rw [val_times (pow_red' h n).pos h.pos, val_pow h n, Rat.pow_succ]
theorem red_k (k : Int) : Red ((k, 1) : R) := ⟨by show (0 : Int) < 1; decide, by show Int.gcd k 1 = 1; simp⟩
theorem kk_pow {k : Int} (h2 : 2 ≤ k) (h4 : k ≤ 4) (x : Rat) : ((k : Rat) * x) ^ k.toNat = (kkM k : Rat) * x ^ k.toNat := by
  rcases (show k = 2 ∨ k = 3 ∨ k = 4 by omega) with rfl | rfl | rfl
  · show ((2 : Rat) * x) ^ 2 = (4 : Rat) * x ^ 2
    grind
  · show ((3 : Rat) * x) ^ 3 = (27 : Rat) * x ^ 3
    grind
  · show ((4 : Rat) * x) ^ 4 = (256 : Rat) * x ^ 4
    grind
theorem wf_red {n : Nat} {r : R} (h : Wf n r) : Red r := ⟨h.pos, h.cop⟩
theorem RsV.same {K : PySem.W.Frag} {H H' : Hp} {v : V} {rs : List R} (h : RsV K H v rs) (s : Same H H') : RsV K H' v rs := h.mono (Tst.same s)
def sp_is_whole (K : PySem.W.Frag) : Sp := fun vs H Q _ => ∃ (v : V) (d : PyData), vs = [v] ∧ Deep K H v d ∧ Q (.bl (wholeD d)) H
def sp_is_tuple_of (K : PySem.W.Frag) : Sp := fun vs H Q _ => ∃ (v : V) (d : PyData) (m : Nat), vs = [v, .int m] ∧ Deep K H v d ∧ Q (.bl (tupD m d)) H
def sp_is_ratio (K : PySem.W.Frag) : Sp := fun vs H Q _ => ∃ (v : V) (d : PyData), vs = [v] ∧ Deep K H v d ∧ Q (.bl (ratD d)) H
theorem wholeD_int {d : PyData} (h : wholeD d = true) : ∃ i, d = .int i := by
  cases d with
  | int i => exact ⟨i, rfl⟩
  | _ => cases h
theorem rat_x {x y : PyData} (h : wholeD x = false) : ratD (.tuple [x, y]) = false := by
  cases x with
  | int i => cases h
  | _ => rfl
theorem rat_y {x y : PyData} (h : wholeD y = false) : ratD (.tuple [x, y]) = false := by
  cases y with
  | int i => cases h
  | _ => cases x <;> rfl


def sp_NoBill (_ : PySem.W.Frag) (C : Addr) : Sp := fun vs H Q _ => ∃ (a : Addr) (x : Str) (n : Int), vs = [.ref a, .str x, .int n] ∧ H a = some (exO a C none) ∧ ∀ (d : Addr) (H' : Hp), H d = none → d ≠ a → (∀ b o, b ≠ a → H b = some o → H' b = some o) → H' a = some (exO a C (some d)) → H' d = some (dO d [("number", .int n), ("word", .str x)]) → Q .non H'
theorem call_isiDK {X : Cx} {K : PySem.W.Frag} (hK : X.K = K) : CallR X (.builtin "isinstance") (rIsiD K) := hK ▸ call_isiD
/-! what a bill is told to be -/
def toRD : PyData → R
  | .tuple [.int a, .int b] => (a, b)
  | _ => (0, 1)
def tsD : PyData → List R
  | .tuple ds => ds.map toRD
  | _ => []
def shpD (n : Nat) : PyData → Bool
  | .tuple ds => decide (ds.length = n) && ds.all ratD
  | _ => false
def foundB (k : Int) (os ps ts : List R) : Option (Str × Int) :=
  if lessR (0, 1) (ts.getD 0 r0) = true then some (Str.ofString "begin", 0) else
  match (List.range os.length).find? (fun i => !stepB k (os.getD i r0) (ps.getD i r0) (ts.getD i r0) (ts.getD (i + 1) r0)) with
  | some i => some (Str.ofString "turn", (i : Int))
  | none => if lessR (ts.getD os.length r0) (0, 1) = true then some (Str.ofString "end", (os.length : Int)) else none
def billD (k : Int) (os ps : List R) (d : PyData) : Option (Str × Int) := if shpD (os.length + 1) d = true then foundB k os ps (tsD d) else some (Str.ofString "shape", -1)
theorem rat_two {d : PyData} (h : ratD d = true) : ∃ a b, d = .tuple [.int a, .int b] ∧ 1 ≤ b ∧ Int.gcd a b = 1 := by
  unfold ratD at h
  split at h
  · rename_i a b
    rw [Bool.and_eq_true, decide_eq_true_iff, decide_eq_true_iff] at h
    exact ⟨a, b, rfl, h⟩
  · cases h
theorem rv_rat {K : PySem.W.Frag} {H : Hp} {v : V} {d : PyData} (h : Deep K H v d) (r : ratD d = true) (b : ibd d = true) : RV K H v (toRD d) ∧ Wf 230 (toRD d) := by
  obtain ⟨x, y, rfl, h1, h2⟩ := rat_two r
  obtain ⟨p, v1, v2, d1, d2, rfl, e, hS, hx, hy⟩ := h.two (show tupD 2 (.tuple [.int x, .int y]) = true from rfl)
  cases e
  cases hx
  cases hy
  have b1 := of_decide_eq_true (show decide (x.natAbs < 2 ^ 230) = true from ibdAll_mem (show ibdAll [.int x, .int y] = true from b) (.int x) List.mem_cons_self)
  have b2 := of_decide_eq_true (show decide (y.natAbs < 2 ^ 230) = true from ibdAll_mem (show ibdAll [.int x, .int y] = true from b) (.int y) (List.mem_cons_of_mem _ List.mem_cons_self))
  exact ⟨⟨p, rfl, hS⟩, by show 0 < y; omega, b1, b2, h2⟩
theorem rvs_of {K : PySem.W.Frag} {H : Hp} : ∀ {xs : List V} {ds : List PyData}, DeepAll K H xs ds → ds.all ratD = true → ibdAll ds = true → Als (RV K H) xs (ds.map toRD) ∧ ∀ r ∈ ds.map toRD, Wf 230 r
  | _, _, .nil, _, _ => ⟨.nil, fun r hr => by cases hr⟩
  | _, _, .cons (d := d) (ds := ds) h t, a, b => by
    have b' : (ibd d && ibdAll ds) = true := b
    rw [Bool.and_eq_true] at b'
    rw [List.all_cons, Bool.and_eq_true] at a
    obtain ⟨c1, c2⟩ := rv_rat h a.1 b'.1
    obtain ⟨e1, e2⟩ := rvs_of t a.2 b'.2
    refine ⟨.cons c1 e1, fun r hr => ?_⟩
    rcases List.mem_cons.mp hr with z | z
    · rw [z]; exact c2
    · exact e2 r z
theorem all_getD {f : PyData → Bool} (ds : List PyData) : ((List.range ds.length).map fun i => f (ds.getD i .none)).all id = ds.all f := by
  rw [Bool.eq_iff_iff, List.all_eq_true, List.all_eq_true]
  constructor
  · intro h d hd
    obtain ⟨i, hi, e⟩ := List.mem_iff_getElem.mp hd
    have := h (f (ds.getD i .none)) (List.mem_map.mpr ⟨i, List.mem_range.mpr hi, rfl⟩)
    rw [getD_of PyData.none (List.getElem?_eq_getElem hi), e] at this
    exact this
  · intro h b hb
    obtain ⟨i, hi, rfl⟩ := List.mem_map.mp hb
    have hi' := List.mem_range.mp hi
    rw [getD_of PyData.none (List.getElem?_eq_getElem hi')]
    exact h _ (List.getElem_mem hi')
structure TwoOk (k : Int) (os ps : List R) : Prop where
  k2 : 2 ≤ k
  k4 : k ≤ 4
  lp : ps.length = os.length
  few : os.length ≤ 60
  wo : ∀ r ∈ os, Wf 8 r
  wp : ∀ r ∈ ps, Wf 8 r
def sp_lets_bill (K : PySem.W.Frag) (C : Addr) : Sp := fun vs H Q E => ∃ (k : Int) (a b c : V) (os ps : List R) (d : PyData), vs = [.int k, a, b, c] ∧ RsV K H a os ∧ RsV K H b ps ∧ Deep K H c d ∧ ibd d = true ∧ TwoOk k os ps ∧ (billD k os ps d = none → ∀ H', Same H H' → Q (.bl true) H') ∧
  (∀ x n, billD k os ps d = some (x, n) → ∀ (dd : Addr) (H' : Hp), Same H H' → H' dd = some (dO dd [("number", .int n), ("word", .str x)]) → E (.ref C) (some dd) H')
def tuV (r : Option (Str × Int)) : PyData := match r with
  | none => .bool true
  | some (x, n) => .tuple [.str x, .int n]
def duV (r : Option (Str × Int)) : PyData := match r with
  | none => .none
  | some (x, n) => .tuple [.str x, .int n]
def sp_law_told (K : PySem.W.Frag) : Sp := fun vs H Q _ => ∃ (k : Int) (a b c : V) (os ps : List R) (d : PyData), vs = [.int k, a, b, c] ∧ RsV K H a os ∧ RsV K H b ps ∧ Deep K H c d ∧ ibd d = true ∧ TwoOk k os ps ∧ ∀ (u : V) (H' : Hp), Same H H' → Deep K H' u (tuV (billD k os ps d)) → Q u H'
def sp_law_billed (K : PySem.W.Frag) : Sp := fun vs H Q _ => ∃ (k : Int) (a b c : V) (os ps : List R) (d : PyData), vs = [.int k, a, b, c] ∧ RsV K H a os ∧ RsV K H b ps ∧ Deep K H c d ∧ ibd d = true ∧ d.canLay0 = true ∧ d.depth ≤ 31 ∧ TwoOk k os ps ∧ ∀ (u : V) (H' : Hp), Same H H' → Deep K H' u (duV (billD k os ps d)) → Q u H'
def sp_law_is_ratio (K : PySem.W.Frag) : Sp := fun vs H Q _ => ∃ (v : V) (d : PyData), vs = [v] ∧ Deep K H v d ∧ ibd d = true ∧ d.canLay0 = true ∧ d.depth ≤ 30 ∧ ∀ H', Same H H' → Q (.bl (ratD d)) H'
theorem find_at {n i : Nat} {f : Nat → Bool} (hi : i < n) (h : f i = true) (b : ∀ j, j < i → f j = false) : (List.range n).find? f = some i := by
  rw [List.find?_range_eq_some]
  exact ⟨h, List.mem_range.mpr hi, fun j hj => by rw [b j hj]; rfl⟩
theorem find_no {n : Nat} {f : Nat → Bool} (b : ∀ j, j < n → f j = false) : (List.range n).find? f = none := by
  rw [List.find?_eq_none]
  intro j hj
  rw [b j (List.mem_range.mp hj)]
  exact Bool.false_ne_true


theorem ratD_f {d : PyData} (h : ∀ a b : Int, d = .tuple [.int a, .int b] → ¬ (1 ≤ b ∧ Int.gcd a b = 1)) : ratD d = false := by
  cases c : ratD d with
  | false => rfl
  | true =>
    obtain ⟨a, b, e, z1, z2⟩ := rat_two c
    exact absurd ⟨z1, z2⟩ (h a b e)
theorem mkR_is {a b : Int} (hb : 0 < b) : mkR a b = (a, b) ↔ Int.gcd a b = 1 := by
  constructor
  · intro e
    have := (mkR_red (a := a) hb).cop
    rw [e] at this
    exact this
  · exact fun g => mkR_uniq hb hb g rfl
theorem lay_two {x y : PyData} (h : (PyData.tuple [x, y]).canLay0 = true) : x.canLay0 = true ∧ y.canLay0 = true := by
  have h' : (x.canLay0 && (y.canLay0 && true)) = true := h
  rw [Bool.and_eq_true, Bool.and_eq_true] at h'
  exact ⟨h'.1, h'.2.1⟩
theorem dep_two {x y : PyData} {n : Nat} (h : (PyData.tuple [x, y]).depth ≤ n) : x.depth + 1 ≤ n ∧ y.depth + 1 ≤ n := by
  have h' : max x.depth (max y.depth 0) + 1 ≤ n := h
  omega
theorem lay_mem : ∀ {ds : List PyData}, (PyData.tuple ds).canLay0 = true → ∀ d ∈ ds, d.canLay0 = true
  | [], _, d, hd => by cases hd
  | e :: ds, h, d, hd => by
    have h' : (e.canLay0 && PyData.canLayAll0 ds) = true := h
    rw [Bool.and_eq_true] at h'
    rcases List.mem_cons.mp hd with z | z
    · rw [z]; exact h'.1
    · exact lay_mem (show (PyData.tuple ds).canLay0 = true from h'.2) d z
theorem dep_mem : ∀ {ds : List PyData} {n : Nat}, (PyData.tuple ds).depth ≤ n + 1 → ∀ d ∈ ds, d.depth ≤ n
  | [], _, _, d, hd => by cases hd
  | e :: ds, n, h, d, hd => by
    have h' : max e.depth (PyData.depthAll ds) + 1 ≤ n + 1 := h
    rcases List.mem_cons.mp hd with z | z
    · rw [z]; omega
    · exact dep_mem (show PyData.depthAll ds + 1 ≤ n + 1 by omega) d z
theorem paid_same {k : Int} {o p a b : R} (h2 : 2 ≤ k) (h4 : k ≤ 4) (hp : Red p) (q : R) (hq : 0 < q.2) : lessR (timesR (kkM k, 1) (powR p k.toNat)) q = lessR (powR (timesR (k, 1) p) k.toNat) q := by
  have r1 : Red (timesR (kkM k, 1) (powR p k.toNat)) := times_red (red_k _) (pow_red' hp _)
  have r2 : Red (powR (timesR (k, 1) p) k.toNat) := pow_red' (times_red (red_k _) hp) _
  have e : val (timesR (kkM k, 1) (powR p k.toNat)) = val (powR (timesR (k, 1) p) k.toNat) := by
    rw [val_times (red_k _).pos (pow_red' hp _).pos, val_pow (times_red (red_k _) hp), val_times (red_k _).pos hp.pos, val_k', val_k', val_pow hp, kk_pow h2 h4]
  rw [Bool.eq_iff_iff, val_less r1.pos hq, val_less r2.pos hq, e]

def dRs (rs : List R) : PyData := .tuple (rs.map dR)
theorem RsV.deep {K : PySem.W.Frag} {H : Hp} {v : V} {rs : List R} (h : RsV K H v rs) : Deep K H v (dRs rs) := by
  obtain ⟨p, xs, rfl, hS, al⟩ := h
  exact .tup hS (al.deep fun _ _ q => q.deep)
theorem gd_bw {x : Str} {n : Int} (hx : x = Str.ofString "shape" ∨ x = Str.ofString "begin" ∨ x = Str.ofString "turn" ∨ x = Str.ofString "end") (hn : n.natAbs < 100) : Gd 1 20000 (.tuple [.str x, .int n]) := Gd.tup (m := 2) (n := 5000) (k := 0) (fun d hd => by
  simp only [List.mem_cons, List.not_mem_nil, or_false] at hd
  rcases hd with rfl | rfl
  · rcases hx with rfl | rfl | rfl | rfl <;> exact gd_str (by decide +kernel) (by decide +kernel) (by decide +kernel)
  · exact gd_int (Nat.lt_of_lt_of_le hn (by decide))) (Nat.le_refl _) (by decide)
theorem bill_word {kk : Int} {os ps : List R} {d : PyData} (few : os.length ≤ 60) {x : Str} {n : Int} (h : billD kk os ps d = some (x, n)) : (x = Str.ofString "shape" ∨ x = Str.ofString "begin" ∨ x = Str.ofString "turn" ∨ x = Str.ofString "end") ∧ n.natAbs < 100 := by
  unfold billD at h
  split at h
  · unfold foundB at h
    split at h
    · cases h; exact ⟨.inr (.inl rfl), by decide⟩
    · split at h
      · rename_i i hi
        have := List.mem_range.mp (List.mem_of_find?_eq_some hi)
        cases h
        exact ⟨.inr (.inr (.inl rfl)), by omega⟩
      · split at h
        · cases h; exact ⟨.inr (.inr (.inr rfl)), by omega⟩
        · cases h
  · cases h; exact ⟨.inl rfl, by decide⟩
theorem bill_gd (kk : Int) (os ps : List R) (d : PyData) (few : os.length ≤ 60) : Gd 1 20000 (tuV (billD kk os ps d)) ∧ Gd 1 20000 (duV (billD kk os ps d)) := by
  cases h : billD kk os ps d with
  | none => exact ⟨(gd_bool true).mono (by decide) (by decide), gd_none.mono (by decide) (by decide)⟩
  | some z =>
    obtain ⟨x, n⟩ := z
    have := bill_word few h
    exact ⟨gd_bw this.1 this.2, gd_bw this.1 this.2⟩
def sp_law_right (K : PySem.W.Frag) : Sp := fun vs H Q _ => ∃ (k : Int) (a b c : V) (os ps : List R) (d : PyData), vs = [.int k, a, b, c] ∧ RsV K H a os ∧ RsV K H b ps ∧ Deep K H c d ∧ Gd 8 2000000 d ∧ TwoOk k os ps ∧ Shows (.tuple [dRs os, dRs ps, d]) ∧ ∀ H', Same H H' → Q (.bl true) H'

structure SpB (r : R) : Prop where
  w : Wf 5 r
  b : Bq 42 20 r
def sp_law_speeds_by (K : PySem.W.Frag) : Sp := fun vs H Q _ => ∃ (t l : Addr) (n : Nat) (m : Int), vs = [.ref t, .int n, .int m] ∧ TapeB H t l ∧ n ≤ 60 ∧ 0 < m ∧ m ≤ 20 ∧ ∀ (v : V) (rs : List R) (H' : Hp), Step t H H' → TapeB H' t l → RsV K H' v rs → rs.length = n → (∀ r ∈ rs, SpB r) → Q v H'
theorem bq_pow {D N : Nat} {r : R} (h : Bq D N r) : ∀ k : Nat, Bq (D ^ k) (N ^ k) (powR r k)
  | 0 => ⟨by show (0 : Int) < 1; decide, by show Int.gcd 1 1 = 1; decide, by show (1 : Int) ∣ _; exact Int.one_dvd _, by show (1 : Int).natAbs ≤ N ^ 0 * (1 : Int).natAbs; rw [Nat.pow_zero]; decide⟩
  | k + 1 => (bq_pow h k).times h
theorem bq_pw {r : R} {k : Int} (h : Bq 42 20 r) (h2 : 2 ≤ k) (h4 : k ≤ 4) : Bq 3111696 160000 (powR r k.toNat) := by
  rcases (show k = 2 ∨ k = 3 ∨ k = 4 by omega) with rfl | rfl | rfl
  · exact (bq_pow h 2).mono ⟨1764, by decide⟩ (by decide)
  · exact (bq_pow h 3).mono ⟨42, by decide⟩ (by decide)
  · exact (bq_pow h 4).mono ⟨1, by decide⟩ (by decide)
theorem bq_kk (k : Int) : Bq 1 256 ((kkM k, 1) : R) := ⟨by show (0 : Int) < 1; decide, by show Int.gcd (kkM k) 1 = 1; simp, by show (1 : Int) ∣ _; exact Int.one_dvd _, by
  show (kkM k).natAbs ≤ 256 * (1 : Int).natAbs
  unfold kkM
  split
  · decide
  · split <;> decide⟩
theorem bq_most {k : Int} {o p : R} (ho : Bq 42 20 o) (hp : Bq 42 20 p) (h2 : 2 ≤ k) (h4 : k ≤ 4) : Bq 3111696 41120000 (mostM k o p) := by
  have a := (bq_kk k).times (bq_pw hp h2 h4)
  have b := Bq.minus (D := 3111696) (by decide) (a.mono (D' := 3111696) ⟨1, by decide⟩ (Nat.le_refl _)) (bq_pw ho h2 h4)
  exact b.mono ⟨1, by decide⟩ (by decide)
def sp_law_greatest_bill (K : PySem.W.Frag) : Sp := fun vs H Q _ => ∃ (k : Int) (a b c : V) (os ps : List R) (bg : R), vs = [.int k, a, b, c] ∧ RsV K H a os ∧ RsV K H b ps ∧ RV K H c bg ∧ Bq 3111696 50 bg ∧ 2 ≤ k ∧ k ≤ 4 ∧ ps.length = os.length ∧ os.length ≤ 60 ∧ (∀ r ∈ os, SpB r) ∧ (∀ r ∈ ps, SpB r) ∧ ∀ (v : V) (rs : List R) (H' : Hp), Same H H' → RsV K H' v rs → rs.length = os.length + 1 → (∀ r ∈ rs, Bq 3111696 2467200050 r) → Q v H'
theorem bq_w {r : R} (h : Bq 3111696 2467200050 r) : Wf 60 r := h.wf (by decide) (by decide) (by decide)

def hid (H : Hp) (t D : Addr) : Hp := del (del H t) D
theorem hd_same {t D : Addr} {H H' : Hp} (s : Same H H') : Same (hid H t D) (hid H' t D) := dl_same (dl_same s)
theorem hd_step {t D : Addr} {H H' : Hp} (S : Step t H H') : Same (hid H t D) (hid H' t D) := dl_same (dl_step S)
theorem hd_full {t D : Addr} {H : Hp} : Same (hid H t D) H := dl_full.trans dl_full
theorem hd_at {t D : Addr} {H : Hp} (n : D ≠ t) (h : ∃ ys, H D = some (.lst ys)) : ∃ ys, del H t D = some (.lst ys) := let ⟨ys, q⟩ := h; ⟨ys, by rw [del_at n]; exact q⟩
theorem hd_new {t D p : Addr} {H : Hp} {o : HO} (g : H p = none) (h : ∃ xs, H t = some (.lst xs)) (h2 : ∃ ys, H D = some (.lst ys)) : hid (upd H p o) t D p = some o := by
  unfold hid
  rw [del_at (show p ≠ D from fun z => by subst z; obtain ⟨_, q⟩ := h2; rw [g] at q; cases q)]
  exact dl_new g h
theorem hd_tst {K : PySem.W.Frag} {t D : Addr} {H : Hp} (h : ∃ xs, H t = some (.lst xs)) (n : D ≠ t) (h2 : ∃ ys, H D = some (.lst ys)) : Tst K H (hid H t D) := (dl_tst h).trans (dl_tst (hd_at n h2))
theorem nwO {t D p : Addr} {H : Hp} {o : HO} (g : H p = none) (h : ∃ xs, H t = some (.lst xs)) (h2 : ∃ ys, H D = some (.lst ys)) : Same H (upd H p o) ∧ upd H p o p = some o ∧ hid (upd H p o) t D p = some o := ⟨same_new g o, upd_same, hd_new g h h2⟩
theorem nwN {t p : Addr} {H : Hp} (g : H p = none) (h : ∃ xs, H t = some (.lst xs)) : p ≠ t := fun z => by subst z; obtain ⟨_, q⟩ := h; rw [g] at q; cases q
theorem tS {K : PySem.W.Frag} {H H' : Hp} (e : Same H H') {p : Addr} {xs : List V} (h : SqT K H p xs) : SqT K H' p xs := Tst.same e _ _ h
theorem tP {K : PySem.W.Frag} {t : Addr} {H H' : Hp} (e : Step t H H') {p : Addr} {xs : List V} (h : SqT K H p xs) : SqT K H' p xs := Tst.step e _ _ h
theorem dS {K : PySem.W.Frag} {t D : Addr} {H H' : Hp} (e : Same H H') {v : V} {d : PyData} (h : Deep K (hid H t D) v d) : Deep K (hid H' t D) v d := h.same (hd_same e)
theorem dP {K : PySem.W.Frag} {t D : Addr} {H H' : Hp} (e : Step t H H') {v : V} {d : PyData} (h : Deep K (hid H t D) v d) : Deep K (hid H' t D) v d := h.same (hd_step e)
theorem aS {K : PySem.W.Frag} {t D : Addr} {H H' : Hp} (e : Same H H') {v : List V} {d : List PyData} (h : DeepAll K (hid H t D) v d) : DeepAll K (hid H' t D) v d := DeepAll.same (hd_same e) h
theorem aP {K : PySem.W.Frag} {t D : Addr} {H H' : Hp} (e : Step t H H') {v : List V} {d : List PyData} (h : DeepAll K (hid H t D) v d) : DeepAll K (hid H' t D) v d := DeepAll.same (hd_step e) h
theorem dpT {K : PySem.W.Frag} {H : Hp} {p : Addr} {xs : List V} {ds : List PyData} (h : H p = some (.tup xs)) (a : DeepAll K H xs ds) : Deep K H (.ref p) (.tuple ds) := .tup (SqT.of h) a
theorem dpL {K : PySem.W.Frag} {H : Hp} {p : Addr} {xs : List V} {ds : List PyData} (h : H p = some (.lst xs)) (a : DeepAll K H xs ds) : Deep K H (.ref p) (.list ds) := .lst (SqL.of h) a
theorem gW {k n k' n' : Nat} {d : PyData} (h : Gd k n d) (hk : k ≤ k' := by decide) (hn : n ≤ n' := by decide) : Gd k' n' d := h.mono hk hn
theorem gN {k n : Nat} : ∀ d ∈ ([] : List PyData), Gd k n d := fun d hd => by cases hd
theorem gC {k n : Nat} {e : PyData} {ds : List PyData} (h : Gd k n e) (t : ∀ d ∈ ds, Gd k n d) : ∀ d ∈ e :: ds, Gd k n d := fun d hd => (List.mem_cons.mp hd).elim (fun z => z ▸ h) (t d)
theorem gTu {k n : Nat} {ds : List PyData} (m N : Nat) (h : ∀ d ∈ ds, Gd k n d) (hm : ds.length ≤ m := by exact Nat.le_refl _) (hN : (n + 3) * m + 8 ≤ N := by decide) : Gd (k + 1) N (.tuple ds) := Gd.tup (m := m) h hm hN
theorem gLs {k n : Nat} {ds : List PyData} (m N : Nat) (h : ∀ d ∈ ds, Gd k n d) (hm : ds.length ≤ m := by exact Nat.le_refl _) (hN : (n + 3) * m + 8 ≤ N := by decide) : Gd (k + 1) N (.list ds) := Gd.lst (m := m) h hm hN

theorem cut_but {xs : List V} : cutV xs none (some (-1)) = xs.take (xs.length - 1) := by
  unfold cutV
  rw [HT.sIx_none, Nat.sub_zero, List.drop_zero]
  congr 1
  show (if (-1 : Int) < 0 then ((-1 : Int) + (xs.length : Int)).toNat else min (-1 : Int).toNat xs.length) = _
  rw [if_pos (by decide)]
  omega
theorem DeepAll.rev {K : PySem.W.Frag} {H : Hp} : ∀ {xs : List V} {ds : List PyData}, DeepAll K H xs ds → DeepAll K H xs.reverse ds.reverse
  | _, _, .nil => .nil
  | _, _, .cons h t => by
    rw [List.reverse_cons, List.reverse_cons]
    exact DeepAll.app (DeepAll.rev t) (.cons h .nil)
theorem gd_rev {k n : Nat} {ds : List PyData} (h : ∀ d ∈ ds, Gd k n d) : ∀ d ∈ ds.reverse, Gd k n d := fun d hd => h d (List.mem_reverse.mp hd)
def sp_law_bent (K : PySem.W.Frag) : Sp := fun vs H Q _ => ∃ (t l p : Addr) (xs : List V) (rs : List R), vs = [.ref t, .ref p] ∧ TapeB H t l ∧ SqT K H p xs ∧ Als (RV K H) xs rs ∧ 1 ≤ rs.length ∧ rs.length ≤ 61 ∧ (∀ r ∈ rs, Wf 62 r) ∧ ∀ (u : V) (d : PyData) (H' : Hp), Step t H H' → TapeB H' t l → Deep K (hid H' t l) u d → Gd 8 2000000 d → Q u H'

theorem gd_rs {rs : List R} (h : ∀ r ∈ rs, Wf 230 r) (l : rs.length ≤ 61) : Gd 2 305191 (dRs rs) := Gd.tup (m := 61) (n := 5000) (fun d hd => by
  obtain ⟨r, hr, rfl⟩ := List.mem_map.mp hd
  exact gd_dR (h r hr)) (by rw [List.length_map]; exact l) (by decide)
theorem sh_three {os ps : List R} {d : PyData} (ho : ∀ r ∈ os, SpB r) (hp : ∀ r ∈ ps, SpB r) (lo : os.length ≤ 60) (lp : ps.length ≤ 60) (g : Gd 8 2000000 d) : Shows (.tuple [dRs os, dRs ps, d]) :=
  (Gd.tup (m := 3) (k := 8) (n := 2000000) (N := 6000017) (gC (gW (gd_rs (fun r hr => (ho r hr).w.mono (by decide)) (by omega))) (gC (gW (gd_rs (fun r hr => (hp r hr).w.mono (by decide)) (by omega))) (gC g gN))) (Nat.le_refl _) (by decide)).sh.shows (by decide) (by decide)
theorem two_ok {k : Int} {os ps : List R} (h2 : 2 ≤ k) (h4 : k ≤ 4) (l : ps.length = os.length) (few : os.length ≤ 60) (ho : ∀ r ∈ os, SpB r) (hp : ∀ r ∈ ps, SpB r) : TwoOk k os ps := ⟨h2, h4, l, few, fun r hr => (ho r hr).w.mono (by decide), fun r hr => (hp r hr).w.mono (by decide)⟩
theorem bq_lit {a b : Int} (hb : 0 < b) (hd : b ∣ ((3111696 : Nat) : Int)) (hl : a.natAbs ≤ 50 * b.natAbs) (g : Int.gcd a b = 1) : Bq 3111696 50 ((a, b) : R) := by
  have := bq_mk (D := 3111696) (N := 50) hb hd hl
  rw [mkR_uniq hb hb g rfl] at this
  exact this
def sp_law (K : PySem.W.Frag) : Sp := fun vs H Q _ => ∃ (a : Addr) (ns : List Int), vs = [.ref a] ∧ SqL K H a (ns.map V.int) ∧ ns.length ≤ 63 ∧ ∀ H', Q (.bl true) H'
theorem sc_is_whole : FnScope ["thing"] ["thing"] (defScope s_is_whole) := ⟨rfl, rfl, rfl, by decide +kernel, rfl, by decide +kernel, by decide +kernel⟩
theorem sc_is_tuple_of : FnScope ["thing", "length"] ["thing", "length"] (defScope s_is_tuple_of) := ⟨rfl, rfl, rfl, by decide +kernel, rfl, by decide +kernel, by decide +kernel⟩
theorem sc_copied : FnScope ["thing"] ["thing"] (defScope s_copied) := ⟨rfl, rfl, rfl, by decide +kernel, rfl, by decide +kernel, by decide +kernel⟩
theorem sc_greatest_divisor : FnScope ["one", "other", "high", "low", "rest"] ["one", "other"] (defScope s_greatest_divisor) := ⟨rfl, rfl, rfl, by decide +kernel, rfl, by decide +kernel, by decide +kernel⟩
theorem sc_is_ratio : FnScope ["thing", "top", "bottom"] ["thing"] (defScope s_is_ratio) := ⟨rfl, rfl, rfl, by decide +kernel, rfl, by decide +kernel, by decide +kernel⟩
theorem sc_plus : FnScope ["one", "other", "shared", "top", "rest"] ["one", "other"] (defScope s_plus) := ⟨rfl, rfl, rfl, by decide +kernel, rfl, by decide +kernel, by decide +kernel⟩
theorem sc_minus : FnScope ["one", "other"] ["one", "other"] (defScope s_minus) := ⟨rfl, rfl, rfl, by decide +kernel, rfl, by decide +kernel, by decide +kernel⟩
theorem sc_times : FnScope ["one", "other", "left", "right"] ["one", "other"] (defScope s_times) := ⟨rfl, rfl, rfl, by decide +kernel, rfl, by decide +kernel, by decide +kernel⟩
theorem sc_raised : FnScope ["one", "power", "top", "bottom", "step"] ["one", "power"] (defScope s_raised) := ⟨rfl, rfl, rfl, by decide +kernel, rfl, by decide +kernel, by decide +kernel⟩
theorem sc_is_less : FnScope ["one", "other"] ["one", "other"] (defScope s_is_less) := ⟨rfl, rfl, rfl, by decide +kernel, rfl, by decide +kernel, by decide +kernel⟩
theorem sc_lets_bill : FnScope ["k", "one", "other", "thing", "count", "turn", "spent"] ["k", "one", "other", "thing"] (defScope s_lets_bill) := ⟨rfl, rfl, rfl, by decide +kernel, rfl, by decide +kernel, by decide +kernel⟩
theorem sc_law_cell_at : FnScope ["_law_script", "_law_k"] ["_law_script", "_law_k"] (defScope s_law_cell_at) := ⟨rfl, rfl, rfl, by decide +kernel, rfl, by decide +kernel, by decide +kernel⟩
theorem sc_law_draws : FnScope ["_law_cell", "_law_many", "_law_found", "_law_number", "_law_mixed", "_law_k"] ["_law_cell", "_law_many"] (defScope s_law_draws) := ⟨rfl, rfl, rfl, by decide +kernel, rfl, by decide +kernel, by decide +kernel⟩
theorem sc_law_take : FnScope ["_law_tape", "_law_many"] ["_law_tape", "_law_many"] (defScope s_law_take) := ⟨rfl, rfl, rfl, by decide +kernel, rfl, by decide +kernel, by decide +kernel⟩
theorem sc_law_made : FnScope ["_law_top", "_law_bottom", "_law_one", "_law_other"] ["_law_top", "_law_bottom"] (defScope s_law_made) := ⟨rfl, rfl, rfl, by decide +kernel, rfl, by decide +kernel, by decide +kernel⟩
theorem sc_law_plus : FnScope ["_law_one", "_law_other"] ["_law_one", "_law_other"] (defScope s_law_plus) := ⟨rfl, rfl, rfl, by decide +kernel, rfl, by decide +kernel, by decide +kernel⟩
theorem sc_law_minus : FnScope ["_law_one", "_law_other"] ["_law_one", "_law_other"] (defScope s_law_minus) := ⟨rfl, rfl, rfl, by decide +kernel, rfl, by decide +kernel, by decide +kernel⟩
theorem sc_law_times : FnScope ["_law_one", "_law_other"] ["_law_one", "_law_other"] (defScope s_law_times) := ⟨rfl, rfl, rfl, by decide +kernel, rfl, by decide +kernel, by decide +kernel⟩
theorem sc_law_is_less : FnScope ["_law_one", "_law_other"] ["_law_one", "_law_other"] (defScope s_law_is_less) := ⟨rfl, rfl, rfl, by decide +kernel, rfl, by decide +kernel, by decide +kernel⟩
theorem sc_law_raised : FnScope ["_law_one", "_law_many", "_law_found", "_law_k"] ["_law_one", "_law_many"] (defScope s_law_raised) := ⟨rfl, rfl, rfl, by decide +kernel, rfl, by decide +kernel, by decide +kernel⟩
theorem sc_law_is_ratio : FnScope ["_law_thing"] ["_law_thing"] (defScope s_law_is_ratio) := ⟨rfl, rfl, rfl, by decide +kernel, rfl, by decide +kernel, by decide +kernel⟩
theorem sc_law_billed : FnScope ["_law_k", "_law_one", "_law_other", "_law_thing", "_law_t", "_law_paid"] ["_law_k", "_law_one", "_law_other", "_law_thing"] (defScope s_law_billed) := ⟨rfl, rfl, rfl, by decide +kernel, rfl, by decide +kernel, by decide +kernel⟩
theorem sc_law_greatest_bill : FnScope ["_law_k", "_law_one", "_law_other", "_law_begin", "_law_rows", "_law_t", "_law_most"] ["_law_k", "_law_one", "_law_other", "_law_begin"] (defScope s_law_greatest_bill) := ⟨rfl, rfl, rfl, by decide +kernel, rfl, by decide +kernel, by decide +kernel⟩
theorem sc_law_speeds_by : FnScope ["_law_tape", "_law_many", "_law_most", "_law_some", "_law_t"] ["_law_tape", "_law_many", "_law_most"] (defScope s_law_speeds_by) := ⟨rfl, rfl, rfl, by decide +kernel, rfl, by decide +kernel, by decide +kernel⟩
theorem sc_law_told : FnScope ["_law_k", "_law_one", "_law_other", "_law_thing", "e"] ["_law_k", "_law_one", "_law_other", "_law_thing"] (defScope s_law_told) := ⟨rfl, rfl, rfl, by decide +kernel, rfl, by decide +kernel, by decide +kernel⟩
theorem sc_law_bent : FnScope ["_law_tape", "_law_paper", "_law_at", "_law_one", "_law_little", "_law_some", "_law_way"] ["_law_tape", "_law_paper"] (defScope s_law_bent) := ⟨rfl, rfl, rfl, by decide +kernel, rfl, by decide +kernel, by decide +kernel⟩
theorem sc_law_right : FnScope ["_law_k", "_law_one", "_law_other", "_law_thing", "_law_due", "_law_kept_one", "_law_found"] ["_law_k", "_law_one", "_law_other", "_law_thing"] (defScope s_law_right) := ⟨rfl, rfl, rfl, by decide +kernel, rfl, by decide +kernel, by decide +kernel⟩
theorem sc_law : FnScope ["_law_script", "_law_turn", "_law_tape", "_law_k", "_law_many", "_law_other", "_law_one", "_law_begin", "_law_paper", "_law_less", "_law_t", "_law_thing", "_law_j"] ["_law_script"] (defScope s_law) := ⟨rfl, rfl, rfl, by decide +kernel, rfl, by decide +kernel, by decide +kernel⟩
theorem sc_NoBill : FnScope ["self", "word", "number"] ["self", "word", "number"] (defScope s_NoBill) := ⟨rfl, rfl, rfl, by decide +kernel, rfl, by decide +kernel, by decide +kernel⟩
end My
namespace My
open PySem L2 B PyProof.Rows
section
variable {P : Program} {w : World} {K : PySem.W.Frag} {mg : Str → Option Value} {base : Heap} {t : Ad}
theorem ok_is_whole (T : Txt K mg t) : FnOk P w K mg base CX0 1 t.a_is_whole t.d_is_whole ["thing"] (sp_is_whole K) := by
  refine T.F_is_whole.ok sc_is_whole (fun vs H Q E h => ?_) (fun cdv A outer s H vs Q E hr h => ?_)
  · obtain ⟨_, _, rfl, _⟩ := h; rfl
  obtain ⟨v, d, rfl, hD, k⟩ := h
  obtain ⟨b, c, e1, e2, e3⟩ := isi_int hD
  refine QSs.ok (qss_one (qs_ret (qe_and (qe_callB call_isiD (by rfl) T.z_isinstance PyProof.Rows.boot_isinstance (qa_cons (qv 0) (qa_cons (qe_bltn (v := V.ty "int") rfl T.z_int PyProof.Rows.boot_int rfl) qa_nil star_name) star_name)) (qe_one (qe_not (qe_callB call_isiD (by rfl) T.z_isinstance PyProof.Rows.boot_isinstance (qa_cons (qv 0) (qa_cons (qe_bltn (v := V.ty "bool") rfl T.z_bool PyProof.Rows.boot_bool rfl) qa_nil star_name) star_name))))))) ?_
  rw [e3] at k
  refine ⟨_, rfl, _, _, _, _, rfl, hD, e1, _, rfl, ?_⟩
  cases b with
  | false => exact k
  | true => exact ⟨_, rfl, _, _, _, _, rfl, hD, e2, _, rfl, k⟩
theorem ok_is_tuple_of (T : Txt K mg t) : FnOk P w K mg base CX0 1 t.a_is_tuple_of t.d_is_tuple_of ["thing", "length"] (sp_is_tuple_of K) := by
  refine T.F_is_tuple_of.ok sc_is_tuple_of (fun vs H Q E h => ?_) (fun cdv A outer s H vs Q E hr h => ?_)
  · obtain ⟨_, _, _, rfl, _⟩ := h; rfl
  obtain ⟨v, d, m, rfl, hD, k⟩ := h
  refine QSs.ok (qss_one (qs_ret (qe_and (qe_callB call_isiD (by rfl) T.z_isinstance PyProof.Rows.boot_isinstance (qa_cons (qv 0) (qa_cons (qe_bltn (v := V.ty "tuple") rfl T.z_tuple PyProof.Rows.boot_tuple rfl) qa_nil star_name) star_name)) (qe_one (qe_cmpR op_eq (qe_callB call_len_seq (by rfl) T.z_len PySem.boot_len (qa_cons (qv 0) qa_nil star_name)) (qv 1) (nomark _)))))) ?_
  rcases isi_tup hD with ⟨e, p, xs, ds, rfl, rfl, hS, hA⟩ | ⟨e, no⟩
  · refine ⟨_, rfl, _, _, _, _, rfl, hD, e, _, rfl, ?_⟩
    refine ⟨_, rfl, p, _, rfl, .inr hS, _, rfl, rfl, ?_⟩
    have q : decide ((V.int xs.length : V) = .int m) = tupD m (.tuple ds) := by
      show _ = decide (ds.length = m)
      rw [hA.len]
      refine decide_eq_decide.mpr ⟨fun z => by injection z with z; omega, fun z => by rw [z]⟩
    rw [q]
    exact k
  · refine ⟨_, rfl, _, _, _, _, rfl, hD, e, _, rfl, ?_⟩
    rw [tupD_no no] at k
    exact k
theorem ok_copied (T : Txt K mg t) : FnOk P w K mg base CX0 1 t.a_copied t.d_copied ["thing"] (sp_copied K) := by
  refine T.F_copied.ok sc_copied (fun vs H Q E h => ?_) (fun cdv A outer s H vs Q E hr h => ?_)
  · obtain ⟨_, rfl, _⟩ := h; rfl
  obtain ⟨v, rfl, hv, k⟩ := h
  refine QSs.ok (qss_cons (qs_if (qt_val (qe_callB call_isi (by rfl) T.z_isinstance PyProof.Rows.boot_isinstance (qa_cons (qv 0) (qa_cons (qe_bltn (v := V.ty "list") rfl T.z_list PyProof.Rows.boot_list rfl) qa_nil star_name) star_name))) (qss_one qs_never) qss_nil)
      (qss_cons (qs_if (qt_val (qe_callB call_isi (by rfl) T.z_isinstance PyProof.Rows.boot_isinstance (qa_cons (qv 0) (qa_cons (qe_bltn (v := V.ty "tuple") rfl T.z_tuple PyProof.Rows.boot_tuple rfl) qa_nil star_name) star_name))) (qss_one qs_never) qss_nil)
      (qss_one (qs_ret (qv 0))))) ?_
  rcases hv with ⟨i, rfl⟩ | ⟨x, rfl⟩
  · refine ⟨_, rfl, _, _, "int", false, rfl, .int i, by decide +kernel, false, rfl, iteF ?_⟩
    refine ⟨_, rfl, _, _, "int", false, rfl, .int i, by decide +kernel, false, rfl, iteF ?_⟩
    exact ⟨_, rfl, k⟩
  · refine ⟨_, rfl, _, _, "str", false, rfl, .str x, by decide +kernel, false, rfl, iteF ?_⟩
    refine ⟨_, rfl, _, _, "str", false, rfl, .str x, by decide +kernel, false, rfl, iteF ?_⟩
    exact ⟨_, rfl, k⟩
theorem ok_greatest_divisor (T : Txt K mg t) : FnOk P w K mg base CX0 1 t.a_greatest_divisor t.d_greatest_divisor ["one", "other"] (sp_greatest_divisor K) := by
  refine T.F_greatest_divisor.ok sc_greatest_divisor (fun vs H Q E h => ?_) (fun cdv A outer s H vs Q E hr h => ?_)
  · obtain ⟨_, _, rfl, _⟩ := h; rfl
  obtain ⟨a, b, rfl, k⟩ := h
  refine QSs.ok (qss_cons (qs_set (i := 2) sc_greatest_divisor.nd rfl (by first | exact Or.inl rfl | exact Or.inr rfl) (qe_callB call_abs (by rfl) T.z_abs PyProof.Rows.boot_abs (qa_cons (qv 0) qa_nil star_name)))
      (qss_cons (qs_set (i := 3) sc_greatest_divisor.nd rfl (by first | exact Or.inl rfl | exact Or.inr rfl) (qe_callB call_abs (by rfl) T.z_abs PyProof.Rows.boot_abs (qa_cons (qv 1) qa_nil star_name)))
      (qss_cons (qs_while PassesOwn.never (qt_cmpR op_ne (qv 3) qe_int (nomark _))
      (qss_cons (qs_set (i := 4) sc_greatest_divisor.nd rfl (by first | exact Or.inl rfl | exact Or.inr rfl) (qe_op op_mod (qv 2) (qv 3)))
      (qss_cons (qs_set (i := 2) sc_greatest_divisor.nd rfl (by first | exact Or.inl rfl | exact Or.inr rfl) (qv 3))
      (qss_one (qs_set (i := 3) sc_greatest_divisor.nd rfl (by first | exact Or.inl rfl | exact Or.inr rfl) (qv 4))))))
      (qss_one (qs_ret (qv 2)))))) ?_
  refine ⟨_, rfl, _, rfl, _, rfl, _, rfl, ?_⟩
  rw [abs_if, abs_if]
  refine ⟨fun m σ H' => ∃ (x y : Int) (v : Option V), σ = [some (.int a), some (.int b), some (.int x), some (.int y), v] ∧ H' = H ∧ 0 ≤ x ∧ 0 ≤ y ∧ Int.gcd x y = Int.gcd a b ∧ m = y.toNat, ⟨_, _, _, _, rfl, rfl, by omega, by omega, (by simp [Int.gcd]), rfl⟩, ?_⟩
  rintro m σ H' ⟨x, y, v, rfl, rfl, hx, hy, hg, rfl⟩
  refine ⟨_, rfl, rfl, _, rfl, ?_⟩
  by_cases c : y = 0
  · subst c
    refine iteNS rfl ?_
    rw [← hg] at k
    refine ⟨_, rfl, ?_⟩
    have e : (x : Int) = (Int.gcd x 0 : Nat) := by simp [Int.gcd]; omega
    rw [← e] at k
    exact k
  · refine iteN1 (fun z => c (by injection z)) ?_
    refine ⟨_, fun _ _ z => z, ?_⟩
    refine ⟨_, rfl, _, rfl, _, _, rfl, rfl, (by omega), _, rfl, _, rfl, ?_⟩
    refine ⟨_, ?_, y, x % y, _, rfl, rfl, hy, Int.emod_nonneg _ c, ?_, rfl⟩
    · have := Int.emod_lt_of_pos x (show 0 < y by omega)
      have := Int.emod_nonneg x c
      omega
    · rw [gcd_turn hx (by omega), hg]
theorem ok_is_ratio (T : Txt K mg t) : FnOk P w K mg base CX0 2 t.a_is_ratio t.d_is_ratio ["thing"] (sp_is_ratio K) := by
  refine T.F_is_ratio.ok sc_is_ratio (fun vs H Q E h => ?_) (fun cdv A outer s H vs Q E hr h => ?_)
  · obtain ⟨_, _, rfl, _⟩ := h; rfl
  obtain ⟨v, d, rfl, hD, k⟩ := h
  refine QSs.ok (qss_cons (qs_if (qt_not (qt_val (qe_call (ok_is_tuple_of T) (hr.mono (by decide)) rfl T.m_is_tuple_of T.F_is_tuple_of.kp T.b_is_tuple_of .nil pass0 (qa_cons (qv 0) (qa_cons qe_int qa_nil star_con) star_name)))) (qss_one (qs_ret qe_bl)) qss_nil)
      (qss_cons (qs_set (i := 1) sc_is_ratio.nd rfl (by first | exact Or.inl rfl | exact Or.inr rfl) (qe_ix ix_tup (qv 0) qe_int (fun _ _ => rfl)))
      (qss_cons (qs_set (i := 2) sc_is_ratio.nd rfl (by first | exact Or.inl rfl | exact Or.inr rfl) (qe_ix ix_tup (qv 0) qe_int (fun _ _ => rfl)))
      (qss_cons (qs_if (qw_pt (qw_or (qt_not (qt_val (qe_call (ok_is_whole T) (hr.mono (by decide)) rfl T.m_is_whole T.F_is_whole.kp T.b_is_whole .nil pass0 (qa_cons (qv 1) qa_nil star_name)))) (qw_or (qt_not (qt_val (qe_call (ok_is_whole T) (hr.mono (by decide)) rfl T.m_is_whole T.F_is_whole.kp T.b_is_whole .nil pass0 (qa_cons (qv 2) qa_nil star_name)))) (qw_or1 (qt_cmpR op_lt (qv 2) qe_int (nomark _)))))) (qss_one (qs_ret qe_bl)) qss_nil)
      (qss_one (qs_ret (qe_cmpR op_eq (qe_call (ok_greatest_divisor T) (hr.mono (by decide)) rfl T.m_greatest_divisor T.F_greatest_divisor.kp T.b_greatest_divisor .nil pass0 (qa_cons (qv 1) (qa_cons (qv 2) qa_nil star_name) star_name)) qe_int (nomark _)))))))) ?_
  refine ⟨_, rfl, v, d, 2, rfl, hD, ⟨_, rfl, ?_⟩⟩
  cases c2 : tupD 2 d with
  | false =>
    refine iteT ?_
    rw [ratD_no c2] at k
    exact k
  | true =>
    refine iteF ?_
    obtain ⟨p, x, y, dx, dy, rfl, rfl, hS, hx, hy⟩ := hD.two c2
    refine ⟨_, rfl, p, _, _, _, rfl, rfl, hS, rfl, _, rfl, p, _, _, _, rfl, rfl, hS, rfl, ?_⟩
    refine ⟨_, rfl, x, dx, rfl, hx, _, rfl, ?_⟩
    cases cx : wholeD dx with
    | false =>
      refine iteT (iteT ?_)
      rw [rat_x cx] at k
      exact k
    | true =>
      refine iteF ?_
      refine ⟨_, rfl, y, dy, rfl, hy, _, rfl, ?_⟩
      cases cy : wholeD dy with
      | false =>
        refine iteT (iteT ?_)
        rw [rat_y cy] at k
        exact k
      | true =>
        refine iteF ?_
        obtain ⟨i, rfl⟩ := wholeD_int cx
        obtain ⟨j, rfl⟩ := wholeD_int cy
        cases hx
        cases hy
        have kk : Q (.bl (decide (1 ≤ j) && decide (Int.gcd i j = 1))) H := k
        refine ⟨_, rfl, _, _, rfl, rfl, _, rfl, ?_⟩
        by_cases c : j < 1
        · refine iteD1 c ?_
          rw [decide_eq_false (show ¬ 1 ≤ j by omega)] at kk
          exact kk
        · refine iteD0 c ?_
          refine ⟨_, rfl, _, rfl, i, j, rfl, rfl, ?_⟩
          rw [decide_eq_true (show 1 ≤ j by omega), Bool.true_and] at kk
          have q : decide ((V.int (Int.gcd i j : Nat) : V) = .int 1) = decide (Int.gcd i j = 1) := decide_eq_decide.mpr ⟨fun z => by injection z with z; omega, fun z => by rw [z]; rfl⟩
          rw [q]
          exact kk
theorem ok_plus (T : Txt K mg t) : FnOk P w K mg base CX0 2 t.a_plus t.d_plus ["one", "other"] (sp_plus K) := by
  refine T.F_plus.ok sc_plus (fun vs H Q E h => ?_) (fun cdv A outer s H vs Q E hr h => ?_)
  · obtain ⟨_, _, _, _, _, _, rfl, _⟩ := h; rfl
  obtain ⟨v, w, r, q, n, m, rfl, hv, hw, wr, wq, hz, k⟩ := h
  refine QSs.ok (qss_cons (qs_set (i := 2) sc_plus.nd rfl (by first | exact Or.inl rfl | exact Or.inr rfl) (qe_call (ok_greatest_divisor T) (hr.mono (by decide)) rfl T.m_greatest_divisor T.F_greatest_divisor.kp T.b_greatest_divisor .nil pass0 (qa_cons (qe_ix ix_tup (qv 0) qe_int (fun _ _ => rfl)) (qa_cons (qe_ix ix_tup (qv 1) qe_int (fun _ _ => rfl)) qa_nil star_sub) star_sub)))
      (qss_cons (qs_set (i := 3) sc_plus.nd rfl (by first | exact Or.inl rfl | exact Or.inr rfl) (qe_op op_add (qe_op op_mulB (qe_ix ix_tup (qv 0) qe_int (fun _ _ => rfl)) (qe_op op_quo (qe_ix ix_tup (qv 1) qe_int (fun _ _ => rfl)) (qv 2))) (qe_op op_mulB (qe_ix ix_tup (qv 1) qe_int (fun _ _ => rfl)) (qe_op op_quo (qe_ix ix_tup (qv 0) qe_int (fun _ _ => rfl)) (qv 2)))))
      (qss_cons (qs_set (i := 4) sc_plus.nd rfl (by first | exact Or.inl rfl | exact Or.inr rfl) (qe_call (ok_greatest_divisor T) (hr.mono (by decide)) rfl T.m_greatest_divisor T.F_greatest_divisor.kp T.b_greatest_divisor .nil pass0 (qa_cons (qv 3) (qa_cons (qv 2) qa_nil star_name) star_name)))
      (qss_one (qs_ret (qe_tup (qa_cons (qe_op op_quo (qv 3) (qv 4)) (qa_cons (qe_op op_mulB (qe_op op_quo (qe_ix ix_tup (qv 0) qe_int (fun _ _ => rfl)) (qv 2)) (qe_op op_quo (qe_ix ix_tup (qv 1) qe_int (fun _ _ => rfl)) (qv 4))) qa_nil star_bin) star_bin))))))) ?_
  obtain ⟨p, rfl, hv⟩ := hv
  obtain ⟨p', rfl, hw⟩ := hw
  have c1 := big_of wr.top (show n ≤ 4000 by omega)
  have c2 := big_of wr.bot (show n ≤ 4000 by omega)
  have c3 := big_of wq.top (show m ≤ 4000 by omega)
  have c4 := big_of wq.bot (show m ≤ 4000 by omega)
  have gp : (0 : Int) < (Int.gcd r.2 q.2 : Nat) := gcd_posR wq.pos
  have gb := gcd_lt (a := r.2) wq.pos c4
  refine ⟨_, rfl, p, _, _, _, rfl, rfl, hv, rfl, _, rfl, p', _, _, _, rfl, rfl, hw, rfl, r.2, q.2, rfl, ?_⟩
  have z := plusG_eq ⟨wr.pos, wr.cop⟩ ⟨wq.pos, wq.cop⟩
  have kk : newR H Q (plusG r q) := by rw [z]; exact k
  unfold plusG at kk
  simp only at kk
  generalize ((Int.gcd r.2 q.2 : Nat) : Int) = d at gp gb kk ⊢
  refine ⟨_, rfl, p, _, _, _, rfl, rfl, hv, rfl, _, rfl, p', _, _, _, rfl, rfl, hw, rfl, _, rfl, _, _, rfl, rfl, ⟨gp, gb⟩, _, _, rfl, rfl, ⟨c1, div_lt gp c4⟩, _, rfl, p', _, _, _, rfl, rfl, hw, rfl, _, rfl, p, _, _, _, rfl, rfl, hv, rfl, _, rfl, _, _, rfl, rfl, ⟨gp, gb⟩, _, _, rfl, rfl, ⟨c3, div_lt gp c2⟩, _, _, rfl, rfl, ?_⟩
  refine ⟨_, rfl, _, rfl, _, _, rfl, ?_⟩
  have ep : (0 : Int) < (Int.gcd (r.1 * (q.2 / d) + q.1 * (r.2 / d)) d : Nat) := gcd_posR gp
  have eb := gcd_lt (a := r.1 * (q.2 / d) + q.1 * (r.2 / d)) gp gb
  generalize ((Int.gcd (r.1 * (q.2 / d) + q.1 * (r.2 / d)) d : Nat) : Int) = e at ep eb kk ⊢
  refine ⟨_, rfl, _, rfl, _, _, rfl, rfl, ⟨ep, eb⟩, _, rfl, p, _, _, _, rfl, rfl, hv, rfl, _, rfl, _, _, rfl, rfl, ⟨gp, gb⟩, _, rfl, p', _, _, _, rfl, rfl, hw, rfl, _, rfl, _, _, rfl, rfl, ⟨ep, eb⟩, _, _, rfl, rfl, ⟨div_lt gp c2, div_lt ep c4⟩, (by show 2 ≤ sizeLine; decide), kk⟩
theorem ok_minus (T : Txt K mg t) : FnOk P w K mg base CX0 3 t.a_minus t.d_minus ["one", "other"] (sp_minus K) := by
  refine T.F_minus.ok sc_minus (fun vs H Q E h => ?_) (fun cdv A outer s H vs Q E hr h => ?_)
  · obtain ⟨_, _, _, _, _, _, rfl, _⟩ := h; rfl
  obtain ⟨v, w, r, q, n, m, rfl, hv, hw, wr, wq, hz, k⟩ := h
  refine QSs.ok (qss_one (qs_ret (qe_call (ok_plus T) (hr.mono (by decide)) rfl T.m_plus T.F_plus.kp T.b_plus .nil pass0 (qa_cons (qv 0) (qa_cons (qe_tup (qa_cons (qe_un un_neg (qe_ix ix_tup (qv 1) qe_int (fun _ _ => rfl))) (qa_cons (qe_ix ix_tup (qv 1) qe_int (fun _ _ => rfl)) qa_nil star_sub) star_un)) qa_nil star_tup) star_name)))) ?_
  obtain ⟨p', rfl, hw⟩ := hw
  refine ⟨_, rfl, _, rfl, p', _, _, _, rfl, rfl, hw, rfl, _, rfl, _, rfl, p', _, _, _, rfl, rfl, hw, rfl, (by show 2 ≤ sizeLine; decide), fun pt ht => ?_⟩
  have s1 := same_new ht (.tup [.int (-q.1), .int q.2])
  refine ⟨v, .ref pt, r, (-q.1, q.2), n, m, rfl, hv.mono (Tst.same s1), RV.of upd_same, wr, ⟨wq.pos, by show (-q.1).natAbs < _; rw [Int.natAbs_neg]; exact wq.top, wq.bot, cop_neg' wq.cop⟩, hz, fun p hp => ?_⟩
  refine k _ _ (s1.trans (same_new hp _)) ?_
  rw [← minus_eq]
  exact RV.of upd_same
theorem ok_times (T : Txt K mg t) : FnOk P w K mg base CX0 2 t.a_times t.d_times ["one", "other"] (sp_times K) := by
  refine T.F_times.ok sc_times (fun vs H Q E h => ?_) (fun cdv A outer s H vs Q E hr h => ?_)
  · obtain ⟨_, _, _, _, _, _, rfl, _⟩ := h; rfl
  obtain ⟨v, w, r, q, n, m, rfl, hv, hw, wr, wq, hz, k⟩ := h
  refine QSs.ok (qss_cons (qs_set (i := 2) sc_times.nd rfl (by first | exact Or.inl rfl | exact Or.inr rfl) (qe_call (ok_greatest_divisor T) (hr.mono (by decide)) rfl T.m_greatest_divisor T.F_greatest_divisor.kp T.b_greatest_divisor .nil pass0 (qa_cons (qe_ix ix_tup (qv 0) qe_int (fun _ _ => rfl)) (qa_cons (qe_ix ix_tup (qv 1) qe_int (fun _ _ => rfl)) qa_nil star_sub) star_sub)))
      (qss_cons (qs_set (i := 3) sc_times.nd rfl (by first | exact Or.inl rfl | exact Or.inr rfl) (qe_call (ok_greatest_divisor T) (hr.mono (by decide)) rfl T.m_greatest_divisor T.F_greatest_divisor.kp T.b_greatest_divisor .nil pass0 (qa_cons (qe_ix ix_tup (qv 1) qe_int (fun _ _ => rfl)) (qa_cons (qe_ix ix_tup (qv 0) qe_int (fun _ _ => rfl)) qa_nil star_sub) star_sub)))
      (qss_one (qs_ret (qe_tup (qa_cons (qe_op op_mulB (qe_op op_quo (qe_ix ix_tup (qv 0) qe_int (fun _ _ => rfl)) (qv 2)) (qe_op op_quo (qe_ix ix_tup (qv 1) qe_int (fun _ _ => rfl)) (qv 3))) (qa_cons (qe_op op_mulB (qe_op op_quo (qe_ix ix_tup (qv 0) qe_int (fun _ _ => rfl)) (qv 3)) (qe_op op_quo (qe_ix ix_tup (qv 1) qe_int (fun _ _ => rfl)) (qv 2))) qa_nil star_bin) star_bin)))))) ?_
  obtain ⟨p, rfl, hv⟩ := hv
  obtain ⟨p', rfl, hw⟩ := hw
  have c1 := big_of wr.top (show n ≤ 4000 by omega)
  have c2 := big_of wr.bot (show n ≤ 4000 by omega)
  have c3 := big_of wq.top (show m ≤ 4000 by omega)
  have c4 := big_of wq.bot (show m ≤ 4000 by omega)
  have lp : (0 : Int) < (Int.gcd r.1 q.2 : Nat) := gcd_posR wq.pos
  have lb := gcd_lt (a := r.1) wq.pos c4
  have mp : (0 : Int) < (Int.gcd q.1 r.2 : Nat) := gcd_posR wr.pos
  have mb := gcd_lt (a := q.1) wr.pos c2
  have z := timesG_eq ⟨wr.pos, wr.cop⟩ ⟨wq.pos, wq.cop⟩
  have kk : newR H Q (timesG r q) := by rw [z]; exact k
  unfold timesG at kk
  simp only at kk
  refine ⟨_, rfl, p, _, _, _, rfl, rfl, hv, rfl, _, rfl, p', _, _, _, rfl, rfl, hw, rfl, r.1, q.2, rfl, _, rfl, p', _, _, _, rfl, rfl, hw, rfl, _, rfl, p, _, _, _, rfl, rfl, hv, rfl, q.1, r.2, rfl, ?_⟩
  generalize ((Int.gcd r.1 q.2 : Nat) : Int) = l at lp lb kk ⊢
  generalize ((Int.gcd q.1 r.2 : Nat) : Int) = m' at mp mb kk ⊢
  refine ⟨_, rfl, p, _, _, _, rfl, rfl, hv, rfl, _, rfl, _, _, rfl, rfl, ⟨lp, lb⟩, _, rfl, p', _, _, _, rfl, rfl, hw, rfl, _, rfl, _, _, rfl, rfl, ⟨mp, mb⟩, _, _, rfl, rfl, ⟨div_lt lp c1, div_lt mp c3⟩, _, rfl, p, _, _, _, rfl, rfl, hv, rfl, _, rfl, _, _, rfl, rfl, ⟨mp, mb⟩, _, rfl, p', _, _, _, rfl, rfl, hw, rfl, _, rfl, _, _, rfl, rfl, ⟨lp, lb⟩, _, _, rfl, rfl, ⟨div_lt mp c2, div_lt lp c4⟩, (by show 2 ≤ sizeLine; decide), kk⟩
theorem ok_raised (T : Txt K mg t) : FnOk P w K mg base CX0 1 t.a_raised t.d_raised ["one", "power"] (sp_raised K) := by
  refine T.F_raised.ok sc_raised (fun vs H Q E h => ?_) (fun cdv A outer s H vs Q E hr h => ?_)
  · obtain ⟨_, _, _, rfl, _⟩ := h; rfl
  obtain ⟨v, r, k₁, rfl, hv, wr, h0, h6, k⟩ := h
  refine QSs.ok (qss_cons (qs_set (i := 2) sc_raised.nd rfl (by first | exact Or.inl rfl | exact Or.inr rfl) qe_int)
      (qss_cons (qs_set (i := 3) sc_raised.nd rfl (by first | exact Or.inl rfl | exact Or.inr rfl) qe_int)
      (qss_cons (qs_for PassesOwn.never rfl (qi_range1 rfl T.z_range (qa_cons (qv 1) qa_nil star_name)) (qg_name (i := 4) sc_raised.nd rfl (by first | exact Or.inl rfl | exact Or.inr rfl))
      (qss_cons (qs_set (i := 2) sc_raised.nd rfl (by first | exact Or.inl rfl | exact Or.inr rfl) (qe_op op_mulB (qv 2) (qe_ix ix_tup (qv 0) qe_int (fun _ _ => rfl))))
      (qss_one (qs_set (i := 3) sc_raised.nd rfl (by first | exact Or.inl rfl | exact Or.inr rfl) (qe_op op_mulB (qv 3) (qe_ix ix_tup (qv 0) qe_int (fun _ _ => rfl)))))))
      (qss_one (qs_ret (qe_tup (qa_cons (qv 2) (qa_cons (qv 3) qa_nil star_name) star_name))))))) ?_
  have kb := two63 h0 (by omega : k₁ ≤ 100)
  obtain ⟨p, rfl, hv⟩ := hv
  refine ⟨_, rfl, k₁, rfl, kb.1, kb.2, for_range (lo := 0) (n := k₁.toNat) (fun i σ H' => ∃ (x : Option V), σ = [some (.ref p), some (.int k₁), some (.int (r.1 ^ i)), some (.int (r.2 ^ i)), x] ∧ H' = H) ⟨none, by rw [Int.pow_zero, Int.pow_zero] <;> rfl, rfl⟩ ?_ ?_⟩
  · rintro i σ H1 hi ⟨x, rfl, rfl⟩
    have b1 := pow_lt (i := i) wr.top (by omega)
    have b2 := pow_lt (i := i) wr.bot (by omega)
    refine ⟨_, rfl, _, rfl, p, _, _, _, rfl, rfl, hv, rfl, _, _, rfl, rfl, ⟨b1, big_of wr.top (by decide)⟩, ?_⟩
    refine ⟨_, rfl, _, rfl, p, _, _, _, rfl, rfl, hv, rfl, _, _, rfl, rfl, ⟨b2, big_of wr.bot (by decide)⟩, ?_⟩
    exact ⟨_, by rw [Int.pow_succ, Int.pow_succ] <;> rfl, rfl⟩
  · rintro σ H1 ⟨x, rfl, rfl⟩
    refine ⟨_, rfl, _, rfl, (by show 2 ≤ sizeLine; decide), fun q hq => ?_⟩
    have e := pow_eq_red ⟨wr.pos, wr.cop⟩ k₁.toNat
    refine k _ _ (same_new hq _) ?_
    rw [e]
    exact RV.of upd_same
theorem ok_is_less (T : Txt K mg t) : FnOk P w K mg base CX0 1 t.a_is_less t.d_is_less ["one", "other"] (sp_is_less K) := by
  refine T.F_is_less.ok sc_is_less (fun vs H Q E h => ?_) (fun cdv A outer s H vs Q E hr h => ?_)
  · obtain ⟨_, _, _, _, _, _, rfl, _⟩ := h; rfl
  obtain ⟨v, w, r, q, n, m, rfl, hv, hw, wr, wq, hz, k⟩ := h
  refine QSs.ok (qss_one (qs_ret (qe_cmpR op_lt (qe_op op_mulB (qe_ix ix_tup (qv 0) qe_int (fun _ _ => rfl)) (qe_ix ix_tup (qv 1) qe_int (fun _ _ => rfl))) (qe_op op_mulB (qe_ix ix_tup (qv 1) qe_int (fun _ _ => rfl)) (qe_ix ix_tup (qv 0) qe_int (fun _ _ => rfl))) (nomark _)))) ?_
  obtain ⟨p, rfl, hv⟩ := hv
  obtain ⟨p', rfl, hw⟩ := hw
  have c1 := big_of wr.top (show n ≤ 4000 by omega)
  have c2 := big_of wr.bot (show n ≤ 4000 by omega)
  have c3 := big_of wq.top (show m ≤ 4000 by omega)
  have c4 := big_of wq.bot (show m ≤ 4000 by omega)
  refine ⟨_, rfl, p, _, _, _, rfl, rfl, hv, rfl, _, rfl, p', _, _, _, rfl, rfl, hw, rfl, _, _, rfl, rfl, ⟨c1, c4⟩, _, rfl, p', _, _, _, rfl, rfl, hw, rfl, _, rfl, p, _, _, _, rfl, rfl, hv, rfl, _, _, rfl, rfl, ⟨c3, c2⟩, _, _, rfl, rfl, k⟩
theorem ok_law_cell_at (T : Txt K mg t) : FnOk P w K mg base CX0 1 t.a_law_cell_at t.d_law_cell_at ["_law_script", "_law_k"] (sp_law_cell_at K) := by
  refine T.F_law_cell_at.ok sc_law_cell_at (fun vs H Q E h => ?_) (fun cdv A outer s H vs Q E hr h => ?_)
  · obtain ⟨_, _, _, rfl, _⟩ := h; rfl
  obtain ⟨a, ns, k₀, rfl, hS, k⟩ := h
  refine QSs.ok (qss_cons (qs_if (qt_cmpR op_lt (qv 1) (qe_callB call_len_seq (by rfl) T.z_len PySem.boot_len (qa_cons (qv 0) qa_nil star_name)) (nomark _)) (qss_one (qs_ret (qe_ix ix_list (qv 0) (qv 1) (fun _ _ => rfl)))) qss_nil)
      (qss_one (qs_ret qe_int))) ?_
  have hlm : ((ns.map V.int).length : Int) = (ns.length : Int) := by rw [List.length_map]
  refine ⟨_, rfl, _, rfl, a, _, rfl, .inl hS, _, _, rfl, rfl, _, rfl, ?_⟩
  by_cases c : (k₀ : Int) < ((ns.map V.int).length : Int)
  · refine iteD1 c ?_
    obtain ⟨z, hz⟩ := pickI (ns := ns) (r := (k₀ : Int)) (by omega) (by omega)
    exact ⟨_, rfl, _, rfl, a, _, _, _, rfl, rfl, hS, hz, k z⟩
  · exact iteD0 c (k 0)
theorem ok_law_draws (T : Txt K mg t) : FnOk P w K mg base CX0 1 t.a_law_draws t.d_law_draws ["_law_cell", "_law_many"] (sp_law_draws K) := by
  refine T.F_law_draws.ok sc_law_draws (fun vs H Q E h => ?_) (fun cdv A outer s H vs Q E hr h => ?_)
  · obtain ⟨_, _, rfl, _⟩ := h; rfl
  obtain ⟨c, m, rfl, m0, m1, k⟩ := h
  refine QSs.ok (qss_cons (qs_set (i := 2) sc_law_draws.nd rfl (by first | exact Or.inl rfl | exact Or.inr rfl) (qe_lst qa_nil))
      (qss_cons (qs_set (i := 3) sc_law_draws.nd rfl (by first | exact Or.inl rfl | exact Or.inr rfl) qe_int)
      (qss_cons (qs_if (qt_cmpR op_ge (qv 0) (qe_op op_pow qe_int qe_int) (nomark _)) (qss_one (qs_set (i := 3) sc_law_draws.nd rfl (by first | exact Or.inl rfl | exact Or.inr rfl) (qv 0))) qss_nil)
      (qss_cons (qs_set (i := 4) sc_law_draws.nd rfl (by first | exact Or.inl rfl | exact Or.inr rfl) (qe_op op_add (qe_op op_mod (qv 0) qe_int) qe_int))
      (qss_cons (qs_for PassesOwn.never rfl (qi_range1 rfl T.z_range (qa_cons (qv 1) qa_nil star_name)) (qg_name (i := 5) sc_law_draws.nd rfl (by first | exact Or.inl rfl | exact Or.inr rfl))
      (qss_cons (qs_set (i := 4) sc_law_draws.nd rfl (by first | exact Or.inl rfl | exact Or.inr rfl) (qe_op op_mod (qe_op op_add (qe_op op_add (qe_op op_mul (qv 4) (qv 4)) (qe_op op_mul qe_int (qv 4))) (qe_op op_mul qe_int (qv 5))) qe_int))
      (qss_one (qs_if (qt_cmpR op_gt (qv 3) qe_int (nomark _)) (qss_cons (qs_expr (qe_bm PySem.F.plainAttrs_list PySem.F.slot_list_append PySem.F.type_list_append mt_append (qv 2) (qa_cons (qe_op op_mod (qv 3) qe_int) qa_nil star_bin)))
      (qss_one (qs_set (i := 3) sc_law_draws.nd rfl (by first | exact Or.inl rfl | exact Or.inr rfl) (qe_op op_fdiv (qv 3) qe_int)))) (qss_one (qs_expr (qe_bm PySem.F.plainAttrs_list PySem.F.slot_list_append PySem.F.type_list_append mt_append (qv 2) (qa_cons (qe_op op_fdiv (qe_op op_mod (qe_op op_add (qe_op op_mul (qv 4) qe_int) (qe_op op_mul qe_int (qv 5))) qe_int) qe_int) qa_nil star_bin))))))))
      (qss_one (qs_ret (qv 2)))))))) ?_
  refine ⟨(by show 0 ≤ sizeLine; exact Nat.zero_le _), fun l h0 => ?_⟩
  have s0 := same_new h0 (.lst [])
  have q0 := Int.emod_nonneg c (show (2147483629 : Int) ≠ 0 by decide)
  have q1 := Int.emod_lt_of_pos c (show (0 : Int) < 2147483629 by decide)
  refine ⟨_, rfl, _, _, rfl, rfl, ⟨by decide, by decide, by decide⟩, _, _, rfl, rfl, _, rfl, ite2 (fun _ => ?_) (fun _ => ?_)⟩
  · refine ⟨_, rfl, ?_⟩
    refine ⟨_, rfl, _, _, rfl, rfl, (by show (0 : Int) < _; decide), _, _, rfl, rfl, ?_⟩
    refine ⟨_, rfl, m, rfl, by omega, by omega, for_range (lo := 0) (n := (m : Int).toNat) (fun i σ H' => ∃ (ns : List Int) (num mx : Int) (x6 : Option V), σ = [some (.int c), some (.int m), some (.ref l), some (.int num), some (.int mx), x6] ∧ Same H H' ∧ H' l = some (.lst (ns.map V.int)) ∧ ns.length = i ∧ 0 ≤ mx ∧ mx < 2147540000) ⟨[], c, _, none, rfl, s0, upd_same, rfl, by omega, by omega⟩ ?_ ?_⟩
    · rintro i σ H1 hi ⟨ns, num, mx, x6, rfl, s1, hl1, hn, x0, x1⟩
      refine ⟨_, rfl, _, rfl, _, _, rfl, rfl, .inl ⟨by omega, by omega⟩, _, rfl, _, _, rfl, rfl, .inl ⟨by decide, by decide⟩, _, _, rfl, rfl, _, rfl, _, _, rfl, rfl, .inl ⟨by decide, by decide⟩, _, _, rfl, rfl, _, _, rfl, rfl, (by show (0 : Int) < _; decide), ?_⟩
      have y0 := Int.emod_nonneg (mx * mx + 48271 * mx + 7 * (0 + (i : Int))) (show (2147483647 : Int) ≠ 0 by decide)
      have y1 := Int.emod_lt_of_pos (mx * mx + 48271 * mx + 7 * (0 + (i : Int))) (show (0 : Int) < 2147483647 by decide)
      have fin : ∀ (z : Int), ∃ ns' : List Int, upd H1 l (.lst (ns.map V.int ++ [.int z])) l = some (.lst (ns'.map V.int)) ∧ ns'.length = i + 1 := fun z => ⟨ns ++ [z], by rw [upd_same, List.map_append]; rfl, by rw [List.length_append, hn]; rfl⟩
      have sm : ∀ o, Same H (upd H1 l o) := fun o b u e => by rw [upd_ne (ne_of_none e h0)]; exact s1 _ _ e
      refine ⟨_, rfl, _, _, rfl, rfl, _, rfl, ite2 (fun _ => ?_) (fun _ => ?_)⟩
      · refine ⟨_, rfl, .inl ⟨rfl, _, SqL.of hl1⟩, _, rfl, _, _, rfl, rfl, (by show (0 : Int) < _; decide), l, _, _, rfl, rfl, hl1, small1000 (by rw [List.length_map]; omega), ?_⟩
        refine ⟨_, rfl, _, _, rfl, rfl, ⟨by decide, by decide⟩, ?_⟩
        obtain ⟨ns', e, el⟩ := fin (num % 720720)
        exact ⟨ns', _, _, _, rfl, sm _, e, el, y0, by omega⟩
      · refine ⟨_, rfl, .inl ⟨rfl, _, SqL.of hl1⟩, _, rfl, _, _, rfl, rfl, .inr ⟨by decide, by decide⟩, _, rfl, _, _, rfl, rfl, .inl ⟨by decide, by decide⟩, _, _, rfl, rfl, _, _, rfl, rfl, (by show (0 : Int) < _; decide), _, _, rfl, rfl, ⟨by decide, by decide⟩, l, _, _, rfl, rfl, hl1, small1000 (by rw [List.length_map]; omega), ?_⟩
        obtain ⟨ns', e, el⟩ := fin (((mx * mx + 48271 * mx + 7 * (0 + (i : Int))) % 2147483647 * 69621 + 13 * (0 + (i : Int))) % 2147483629 / 3)
        exact ⟨ns', _, _, _, rfl, sm _, e, el, y0, by omega⟩
    · rintro σ H1 ⟨ns, num, mx, x6, rfl, s1, hl1, hn, x0, x1⟩
      exact ⟨_, rfl, k l ns H1 s1 h0 hl1 (by rw [hn]; omega)⟩
  · refine ⟨_, rfl, _, _, rfl, rfl, (by show (0 : Int) < _; decide), _, _, rfl, rfl, ?_⟩
    refine ⟨_, rfl, m, rfl, by omega, by omega, for_range (lo := 0) (n := (m : Int).toNat) (fun i σ H' => ∃ (ns : List Int) (num mx : Int) (x6 : Option V), σ = [some (.int c), some (.int m), some (.ref l), some (.int num), some (.int mx), x6] ∧ Same H H' ∧ H' l = some (.lst (ns.map V.int)) ∧ ns.length = i ∧ 0 ≤ mx ∧ mx < 2147540000) ⟨[], 0, _, none, rfl, s0, upd_same, rfl, by omega, by omega⟩ ?_ ?_⟩
    · rintro i σ H1 hi ⟨ns, num, mx, x6, rfl, s1, hl1, hn, x0, x1⟩
      refine ⟨_, rfl, _, rfl, _, _, rfl, rfl, .inl ⟨by omega, by omega⟩, _, rfl, _, _, rfl, rfl, .inl ⟨by decide, by decide⟩, _, _, rfl, rfl, _, rfl, _, _, rfl, rfl, .inl ⟨by decide, by decide⟩, _, _, rfl, rfl, _, _, rfl, rfl, (by show (0 : Int) < _; decide), ?_⟩
      have y0 := Int.emod_nonneg (mx * mx + 48271 * mx + 7 * (0 + (i : Int))) (show (2147483647 : Int) ≠ 0 by decide)
      have y1 := Int.emod_lt_of_pos (mx * mx + 48271 * mx + 7 * (0 + (i : Int))) (show (0 : Int) < 2147483647 by decide)
      have fin : ∀ (z : Int), ∃ ns' : List Int, upd H1 l (.lst (ns.map V.int ++ [.int z])) l = some (.lst (ns'.map V.int)) ∧ ns'.length = i + 1 := fun z => ⟨ns ++ [z], by rw [upd_same, List.map_append]; rfl, by rw [List.length_append, hn]; rfl⟩
      have sm : ∀ o, Same H (upd H1 l o) := fun o b u e => by rw [upd_ne (ne_of_none e h0)]; exact s1 _ _ e
      refine ⟨_, rfl, _, _, rfl, rfl, _, rfl, ite2 (fun _ => ?_) (fun _ => ?_)⟩
      · refine ⟨_, rfl, .inl ⟨rfl, _, SqL.of hl1⟩, _, rfl, _, _, rfl, rfl, (by show (0 : Int) < _; decide), l, _, _, rfl, rfl, hl1, small1000 (by rw [List.length_map]; omega), ?_⟩
        refine ⟨_, rfl, _, _, rfl, rfl, ⟨by decide, by decide⟩, ?_⟩
        obtain ⟨ns', e, el⟩ := fin (num % 720720)
        exact ⟨ns', _, _, _, rfl, sm _, e, el, y0, by omega⟩
      · refine ⟨_, rfl, .inl ⟨rfl, _, SqL.of hl1⟩, _, rfl, _, _, rfl, rfl, .inr ⟨by decide, by decide⟩, _, rfl, _, _, rfl, rfl, .inl ⟨by decide, by decide⟩, _, _, rfl, rfl, _, _, rfl, rfl, (by show (0 : Int) < _; decide), _, _, rfl, rfl, ⟨by decide, by decide⟩, l, _, _, rfl, rfl, hl1, small1000 (by rw [List.length_map]; omega), ?_⟩
        obtain ⟨ns', e, el⟩ := fin (((mx * mx + 48271 * mx + 7 * (0 + (i : Int))) % 2147483647 * 69621 + 13 * (0 + (i : Int))) % 2147483629 / 3)
        exact ⟨ns', _, _, _, rfl, sm _, e, el, y0, by omega⟩
    · rintro σ H1 ⟨ns, num, mx, x6, rfl, s1, hl1, hn, x0, x1⟩
      exact ⟨_, rfl, k l ns H1 s1 h0 hl1 (by rw [hn]; omega)⟩
theorem ok_law_take (T : Txt K mg t) : FnOk P w K mg base CX0 1 t.a_law_take t.d_law_take ["_law_tape", "_law_many"] (sp_law_take K) := by
  refine T.F_law_take.ok sc_law_take (fun vs H Q E h => ?_) (fun cdv A outer s H vs Q E hr h => ?_)
  · obtain ⟨_, _, _, rfl, _⟩ := h; rfl
  obtain ⟨t₁, l, m, rfl, tp, hm0, hm1, k⟩ := h
  refine QSs.ok (qss_cons (qs_asg (qe_op op_add (qe_ix ix_list (qv 0) qe_int (fun _ _ => rfl)) qe_int) (qg_sub (qv 0) qe_int set_list))
      (qss_one (qs_ret (qe_op op_mod (qe_ix ix_list (qe_ix ix_list (qv 0) qe_int (fun _ _ => rfl)) (qe_op op_mod (qe_op op_sub (qe_ix ix_list (qv 0) qe_int (fun _ _ => rfl)) qe_int) (qe_callB call_len_seq (by rfl) T.z_len PySem.boot_len (qa_cons (qe_ix ix_list (qv 0) qe_int (fun _ _ => rfl)) qa_nil star_sub))) (fun _ _ => rfl)) (qv 1))))) ?_
  obtain ⟨ns, p, ht, hl, nl, n0, n1⟩ := tp.ex
  refine ⟨_, rfl, t₁, _, _, _, rfl, rfl, SqL.of ht, rfl, _, _, rfl, rfl, _, rfl, t₁, _, _, _, rfl, rfl, ht, rfl, ?_⟩
  have hl' : ∀ o, upd H t₁ o l = some (.lst (ns.map V.int)) := fun o => by rw [upd_ne nl]; exact hl
  have hlm : ((ns.map V.int).length : Int) = (ns.length : Int) := by rw [List.length_map]
  obtain ⟨z, hz⟩ := pickI (ns := ns) (r := (p + 1 - 1) % ((ns.map V.int).length : Int)) (Int.emod_nonneg _ (by omega)) (by have := Int.emod_lt_of_pos (p + 1 - 1) (show (0 : Int) < ((ns.map V.int).length : Int) by omega); omega)
  refine ⟨_, rfl, t₁, _, _, _, rfl, rfl, SqL.of upd_same, rfl, _, rfl, t₁, _, _, _, rfl, rfl, SqL.of upd_same, rfl, _, _, rfl, rfl, _, rfl, t₁, _, _, _, rfl, rfl, SqL.of upd_same, rfl, l, _, rfl, .inl (SqL.of (hl' _)), _, _, rfl, rfl, (by omega), l, _, _, _, rfl, rfl, SqL.of (hl' _), hz, _, rfl, _, _, rfl, rfl, hm0, ?_⟩
  exact k _ _ (Int.emod_nonneg _ (by omega)) (Int.emod_lt_of_pos _ hm0) ⟨ns, _, upd_same, hl' _, nl, n0, n1⟩
theorem ok_law_made (T : Txt K mg t) : FnOk P w K mg base CX0 1 t.a_law_made t.d_law_made ["_law_top", "_law_bottom"] (sp_law_made K) := by
  refine T.F_law_made.ok sc_law_made (fun vs H Q E h => ?_) (fun cdv A outer s H vs Q E hr h => ?_)
  · obtain ⟨_, _, rfl, _⟩ := h; rfl
  obtain ⟨a, b, rfl, hb, hz, k⟩ := h
  refine QSs.ok (qss_cons (qs_par (i := 2) (j := 3) rfl sc_law_made.nd rfl rfl (by decide) rfl rfl (qa_cons (qe_callB call_abs (by rfl) T.z_abs PyProof.Rows.boot_abs (qa_cons (qv 0) qa_nil star_name)) (qa_cons (qv 1) qa_nil star_name) star_call) rfl)
      (qss_cons (qs_while PassesOwn.never (qt_cmpR op_gt (qv 3) qe_int (nomark _))
      (qss_one (qs_par (i := 2) (j := 3) rfl sc_law_made.nd rfl rfl (by decide) rfl rfl (qa_cons (qv 3) (qa_cons (qe_op op_mod (qv 2) (qv 3)) qa_nil star_bin) star_name) rfl)))
      (qss_one (qs_ret (qe_tup (qa_cons (qe_op op_quo (qv 0) (qv 2)) (qa_cons (qe_op op_quo (qv 1) (qv 2)) qa_nil star_bin) star_bin)))))) ?_
  have gp := gcd_posR (a := a) hb
  have gb := gcd_lt (a := a) hb hz
  refine ⟨_, rfl, _, rfl, _, rfl, _, _, rfl, ?_⟩
  rw [abs_if]
  refine ⟨fun m σ H' => ∃ (x y : Int), σ = [some (.int a), some (.int b), some (.int x), some (.int y)] ∧ H' = H ∧ 0 ≤ x ∧ 0 ≤ y ∧ Int.gcd x y = Int.gcd a b ∧ m = y.toNat, ⟨_, _, _, rfl, rfl, by omega, by omega, (by simp [Int.gcd]), rfl⟩, ?_⟩
  rintro m σ H' ⟨x, y, rfl, rfl, hx, hy, hg, rfl⟩
  refine ⟨_, rfl, _, _, rfl, rfl, _, rfl, ?_⟩
  by_cases c : y = 0
  · subst c
    refine iteD0 (by decide) ?_
    have e : (x : Int) = (Int.gcd x 0 : Nat) := by simp [Int.gcd]; omega
    rw [hg] at e
    subst e
    exact ⟨_, rfl, _, rfl, _, _, rfl, rfl, ⟨gp, gb⟩, _, rfl, _, rfl, _, _, rfl, rfl, ⟨gp, gb⟩, (by show 2 ≤ sizeLine; decide), fun p hp => k p hp⟩
  · refine iteD1 (by omega) ?_
    refine ⟨_, fun _ _ z => z, ?_⟩
    refine ⟨_, rfl, _, rfl, _, rfl, _, _, rfl, rfl, (by omega), _, _, rfl, ?_⟩
    refine ⟨_, ?_, y, x % y, rfl, rfl, hy, Int.emod_nonneg _ c, ?_, rfl⟩
    · have := Int.emod_lt_of_pos x (show 0 < y by omega)
      have := Int.emod_nonneg x c
      omega
    · rw [gcd_turn hx (by omega), hg]
theorem ok_law_plus (T : Txt K mg t) : FnOk P w K mg base CX0 2 t.a_law_plus t.d_law_plus ["_law_one", "_law_other"] (sp_law_plus K) := by
  refine T.F_law_plus.ok sc_law_plus (fun vs H Q E h => ?_) (fun cdv A outer s H vs Q E hr h => ?_)
  · obtain ⟨_, _, _, _, _, _, rfl, _⟩ := h; rfl
  obtain ⟨v, w, r, q, n, m, rfl, hv, hw, wr, wq, hz, k⟩ := h
  refine QSs.ok (qss_one (qs_ret (qe_call (ok_law_made T) (hr.mono (by decide)) rfl T.m_law_made T.F_law_made.kp T.b_law_made .nil pass0 (qa_cons (qe_op op_add (qe_op op_mulB (qe_ix ix_tup (qv 0) qe_int (fun _ _ => rfl)) (qe_ix ix_tup (qv 1) qe_int (fun _ _ => rfl))) (qe_op op_mulB (qe_ix ix_tup (qv 1) qe_int (fun _ _ => rfl)) (qe_ix ix_tup (qv 0) qe_int (fun _ _ => rfl)))) (qa_cons (qe_op op_mulB (qe_ix ix_tup (qv 0) qe_int (fun _ _ => rfl)) (qe_ix ix_tup (qv 1) qe_int (fun _ _ => rfl))) qa_nil star_bin) star_bin)))) ?_
  obtain ⟨p, rfl, hv⟩ := hv
  obtain ⟨p', rfl, hw⟩ := hw
  have c1 := big_of wr.top (show n ≤ 4000 by omega)
  have c2 := big_of wr.bot (show n ≤ 4000 by omega)
  have c3 := big_of wq.top (show m ≤ 4000 by omega)
  have c4 := big_of wq.bot (show m ≤ 4000 by omega)
  refine ⟨_, rfl, p, _, _, _, rfl, rfl, hv, rfl, _, rfl, p', _, _, _, rfl, rfl, hw, rfl, _, _, rfl, rfl, ⟨c1, c4⟩, _, rfl, p', _, _, _, rfl, rfl, hw, rfl, _, rfl, p, _, _, _, rfl, rfl, hv, rfl, _, _, rfl, rfl, ⟨c3, c2⟩, _, _, rfl, rfl, _, rfl, p, _, _, _, rfl, rfl, hv, rfl, _, rfl, p', _, _, _, rfl, rfl, hw, rfl, _, _, rfl, rfl, ⟨c2, c4⟩, _, _, rfl, Int.mul_pos wr.pos wq.pos, big_of (mul_lt wr.bot wq.bot) (by omega), k⟩
theorem ok_law_minus (T : Txt K mg t) : FnOk P w K mg base CX0 2 t.a_law_minus t.d_law_minus ["_law_one", "_law_other"] (sp_law_minus K) := by
  refine T.F_law_minus.ok sc_law_minus (fun vs H Q E h => ?_) (fun cdv A outer s H vs Q E hr h => ?_)
  · obtain ⟨_, _, _, _, _, _, rfl, _⟩ := h; rfl
  obtain ⟨v, w, r, q, n, m, rfl, hv, hw, wr, wq, hz, k⟩ := h
  refine QSs.ok (qss_one (qs_ret (qe_call (ok_law_made T) (hr.mono (by decide)) rfl T.m_law_made T.F_law_made.kp T.b_law_made .nil pass0 (qa_cons (qe_op op_sub (qe_op op_mulB (qe_ix ix_tup (qv 0) qe_int (fun _ _ => rfl)) (qe_ix ix_tup (qv 1) qe_int (fun _ _ => rfl))) (qe_op op_mulB (qe_ix ix_tup (qv 1) qe_int (fun _ _ => rfl)) (qe_ix ix_tup (qv 0) qe_int (fun _ _ => rfl)))) (qa_cons (qe_op op_mulB (qe_ix ix_tup (qv 0) qe_int (fun _ _ => rfl)) (qe_ix ix_tup (qv 1) qe_int (fun _ _ => rfl))) qa_nil star_bin) star_bin)))) ?_
  obtain ⟨p, rfl, hv⟩ := hv
  obtain ⟨p', rfl, hw⟩ := hw
  have c1 := big_of wr.top (show n ≤ 4000 by omega)
  have c2 := big_of wr.bot (show n ≤ 4000 by omega)
  have c3 := big_of wq.top (show m ≤ 4000 by omega)
  have c4 := big_of wq.bot (show m ≤ 4000 by omega)
  refine ⟨_, rfl, p, _, _, _, rfl, rfl, hv, rfl, _, rfl, p', _, _, _, rfl, rfl, hw, rfl, _, _, rfl, rfl, ⟨c1, c4⟩, _, rfl, p', _, _, _, rfl, rfl, hw, rfl, _, rfl, p, _, _, _, rfl, rfl, hv, rfl, _, _, rfl, rfl, ⟨c3, c2⟩, _, _, rfl, rfl, _, rfl, p, _, _, _, rfl, rfl, hv, rfl, _, rfl, p', _, _, _, rfl, rfl, hw, rfl, _, _, rfl, rfl, ⟨c2, c4⟩, _, _, rfl, Int.mul_pos wr.pos wq.pos, big_of (mul_lt wr.bot wq.bot) (by omega), k⟩
theorem ok_law_times (T : Txt K mg t) : FnOk P w K mg base CX0 2 t.a_law_times t.d_law_times ["_law_one", "_law_other"] (sp_law_times K) := by
  refine T.F_law_times.ok sc_law_times (fun vs H Q E h => ?_) (fun cdv A outer s H vs Q E hr h => ?_)
  · obtain ⟨_, _, _, _, _, _, rfl, _⟩ := h; rfl
  obtain ⟨v, w, r, q, n, m, rfl, hv, hw, wr, wq, hz, k⟩ := h
  refine QSs.ok (qss_one (qs_ret (qe_call (ok_law_made T) (hr.mono (by decide)) rfl T.m_law_made T.F_law_made.kp T.b_law_made .nil pass0 (qa_cons (qe_op op_mulB (qe_ix ix_tup (qv 0) qe_int (fun _ _ => rfl)) (qe_ix ix_tup (qv 1) qe_int (fun _ _ => rfl))) (qa_cons (qe_op op_mulB (qe_ix ix_tup (qv 0) qe_int (fun _ _ => rfl)) (qe_ix ix_tup (qv 1) qe_int (fun _ _ => rfl))) qa_nil star_bin) star_bin)))) ?_
  obtain ⟨p, rfl, hv⟩ := hv
  obtain ⟨p', rfl, hw⟩ := hw
  have c1 := big_of wr.top (show n ≤ 4000 by omega)
  have c2 := big_of wr.bot (show n ≤ 4000 by omega)
  have c3 := big_of wq.top (show m ≤ 4000 by omega)
  have c4 := big_of wq.bot (show m ≤ 4000 by omega)
  refine ⟨_, rfl, p, _, _, _, rfl, rfl, hv, rfl, _, rfl, p', _, _, _, rfl, rfl, hw, rfl, _, _, rfl, rfl, ⟨c1, c3⟩, _, rfl, p, _, _, _, rfl, rfl, hv, rfl, _, rfl, p', _, _, _, rfl, rfl, hw, rfl, _, _, rfl, rfl, ⟨c2, c4⟩, _, _, rfl, Int.mul_pos wr.pos wq.pos, big_of (mul_lt wr.bot wq.bot) (by omega), k⟩
theorem ok_law_is_less (T : Txt K mg t) : FnOk P w K mg base CX0 1 t.a_law_is_less t.d_law_is_less ["_law_one", "_law_other"] (sp_law_is_less K) := by
  refine T.F_law_is_less.ok sc_law_is_less (fun vs H Q E h => ?_) (fun cdv A outer s H vs Q E hr h => ?_)
  · obtain ⟨_, _, _, _, _, _, rfl, _⟩ := h; rfl
  obtain ⟨v, w, r, q, n, m, rfl, hv, hw, wr, wq, hz, k⟩ := h
  refine QSs.ok (qss_one (qs_ret (qe_cmpR op_lt (qe_op op_mulB (qe_ix ix_tup (qv 0) qe_int (fun _ _ => rfl)) (qe_ix ix_tup (qv 1) qe_int (fun _ _ => rfl))) (qe_op op_mulB (qe_ix ix_tup (qv 1) qe_int (fun _ _ => rfl)) (qe_ix ix_tup (qv 0) qe_int (fun _ _ => rfl))) (nomark _)))) ?_
  obtain ⟨p, rfl, hv⟩ := hv
  obtain ⟨p', rfl, hw⟩ := hw
  have c1 := big_of wr.top (show n ≤ 4000 by omega)
  have c2 := big_of wr.bot (show n ≤ 4000 by omega)
  have c3 := big_of wq.top (show m ≤ 4000 by omega)
  have c4 := big_of wq.bot (show m ≤ 4000 by omega)
  refine ⟨_, rfl, p, _, _, _, rfl, rfl, hv, rfl, _, rfl, p', _, _, _, rfl, rfl, hw, rfl, _, _, rfl, rfl, ⟨c1, c4⟩, _, rfl, p', _, _, _, rfl, rfl, hw, rfl, _, rfl, p, _, _, _, rfl, rfl, hv, rfl, _, _, rfl, rfl, ⟨c3, c2⟩, _, _, rfl, rfl, k⟩
theorem ok_law_raised (T : Txt K mg t) : FnOk P w K mg base CX0 3 t.a_law_raised t.d_law_raised ["_law_one", "_law_many"] (sp_law_raised K) := by
  refine T.F_law_raised.ok sc_law_raised (fun vs H Q E h => ?_) (fun cdv A outer s H vs Q E hr h => ?_)
  · obtain ⟨_, _, _, rfl, _⟩ := h; rfl
  obtain ⟨v, r, k₁, rfl, hv, wr, h0, h6, k⟩ := h
  refine QSs.ok (qss_cons (qs_set (i := 2) sc_law_raised.nd rfl (by first | exact Or.inl rfl | exact Or.inr rfl) (qe_tup (qa_cons qe_int (qa_cons qe_int qa_nil star_con) star_con)))
      (qss_cons (qs_for PassesOwn.never rfl (qi_range1 rfl T.z_range (qa_cons (qv 1) qa_nil star_name)) (qg_name (i := 3) sc_law_raised.nd rfl (by first | exact Or.inl rfl | exact Or.inr rfl))
      (qss_one (qs_set (i := 2) sc_law_raised.nd rfl (by first | exact Or.inl rfl | exact Or.inr rfl) (qe_call (ok_law_times T) (hr.mono (by decide)) rfl T.m_law_times T.F_law_times.kp T.b_law_times .nil pass0 (qa_cons (qv 2) (qa_cons (qv 0) qa_nil star_name) star_name)))))
      (qss_one (qs_ret (qv 2))))) ?_
  have kb := two63 h0 (by omega : k₁ ≤ 100)
  refine ⟨(by show 2 ≤ sizeLine; decide), fun p0 hp0 => ?_⟩
  have s0 := same_new hp0 (.tup [.int 1, .int 1])
  refine ⟨_, rfl, k₁, rfl, kb.1, kb.2, for_range (lo := 0) (n := k₁.toNat) (fun i σ H' => ∃ (u : V) (x : Option V), σ = [some v, some (.int k₁), some u, x] ∧ Same H H' ∧ RV K H' u (powR r i) ∧ Wf (1 + 31 * i) (powR r i)) ⟨_, none, rfl, s0, RV.of upd_same, powR_wf wr 0⟩ ?_ ?_⟩
  · rintro i σ H1 hi ⟨u, x, rfl, s1, ru, wu⟩
    refine ⟨_, rfl, _, rfl, u, v, powR r i, r, 1 + 31 * i, 31, rfl, ru, hv.mono (Tst.same s1), wu, wr, by omega, fun p hp => ?_⟩
    exact ⟨_, _, rfl, s1.trans (same_new hp _), RV.of upd_same, powR_wf wr (i + 1)⟩
  · rintro σ H1 ⟨u, x, rfl, s1, ru, wu⟩
    exact ⟨_, rfl, k u H1 s1 ru⟩
theorem ok_law_is_ratio (T : Txt K mg t) : FnOk P w K mg base CX0 2 t.a_law_is_ratio t.d_law_is_ratio ["_law_thing"] (sp_law_is_ratio K) := by
  refine T.F_law_is_ratio.ok sc_law_is_ratio (fun vs H Q E h => ?_) (fun cdv A outer s H vs Q E hr h => ?_)
  · obtain ⟨_, _, rfl, _⟩ := h; rfl
  obtain ⟨v, d, rfl, hD, hb, hlay, hdp, k⟩ := h
  refine QSs.ok (qss_cons (qs_if (qw_pt (qw_or (qt_not (qt_val (qe_callB call_isiD (by rfl) T.z_isinstance PyProof.Rows.boot_isinstance (qa_cons (qv 0) (qa_cons (qe_bltn (v := V.ty "tuple") rfl T.z_tuple PyProof.Rows.boot_tuple rfl) qa_nil star_name) star_name)))) (qw_or1 (qt_cmpR op_ne (qe_callB call_len_seq (by rfl) T.z_len PySem.boot_len (qa_cons (qv 0) qa_nil star_name)) qe_int (nomark _))))) (qss_one (qs_ret qe_bl)) qss_nil)
      (qss_cons (qs_if (qt_cmpR (op_neD hr) (qe_lcomp (N' := ["_law_one"]) (src := [none]) rfl (by exact (qi_tup (qv 0))) (fun _ _ _ _ _ => (by exact (by exact qg_name (i := 0) (by show List.Nodup (["_law_one"] : List Str); decide +kernel) (by exact rfl) (by first | exact Or.inl rfl | exact Or.inr rfl)))) (fun _ _ _ _ _ => (qts_one (qw_pt (qw_or (qt_val (by exact (qe_callB (call_isiDK (K := K) (by exact rfl)) (by exact rfl) T.z_isinstance PyProof.Rows.boot_isinstance (qa_cons (by exact (qv 0)) (qa_cons (by exact (qe_bltn (v := V.ty "bool") rfl T.z_bool PyProof.Rows.boot_bool rfl)) qa_nil star_name) star_name)))) (qw_or1 (qt_not (qt_val (by exact (qe_callB (call_isiDK (K := K) (by exact rfl)) (by exact rfl) T.z_isinstance PyProof.Rows.boot_isinstance (qa_cons (by exact (qv 0)) (qa_cons (by exact (qe_bltn (v := V.ty "int") rfl T.z_int PyProof.Rows.boot_int rfl)) qa_nil star_name) star_name)))))))))) (fun _ _ _ _ _ => (by exact (by exact (qv 0)))) (by exact trivial) rfl (by decide +kernel) rfl (by decide +kernel) (by exact cells_of rfl trivial)) (qe_lst qa_nil) (nomark _)) (qss_one (qs_ret qe_bl)) qss_nil)
      (qss_one (qs_ret (qe_and (qe_cmpR op_gt (qe_ix ix_tup (qv 0) qe_int (fun _ _ => rfl)) qe_int (nomark _)) (qe_one (qe_cmpR (op_eqD hr) (qe_call (ok_law_made T) (hr.mono (by decide)) rfl T.m_law_made T.F_law_made.kp T.b_law_made .nil pass0 (qa_cons (qe_ix ix_tup (qv 0) qe_int (fun _ _ => rfl)) (qa_cons (qe_ix ix_tup (qv 0) qe_int (fun _ _ => rfl)) qa_nil star_sub) star_sub)) (qv 0) (nomark _)))))))) ?_
  rcases isi_tup hD with ⟨e, p, xs, ds, rfl, rfl, hS, hA⟩ | ⟨e, no⟩
  rotate_left
  · refine ⟨_, rfl, _, _, _, _, rfl, hD, e, _, rfl, iteT (iteT ?_)⟩
    have := k _ (Same.refl _)
    rw [ratD_f fun a b z => absurd z (no _)] at this
    exact this
  refine ⟨_, rfl, _, _, _, _, rfl, hD, e, _, rfl, iteF ?_⟩
  have hl := hA.len
  refine ⟨_, rfl, p, _, rfl, .inr hS, rfl, _, rfl, ?_⟩
  by_cases c2 : ds.length = 2
  rotate_left
  · refine iteN1 (fun z => c2 (by injection z with z; omega)) ?_
    have := k _ (Same.refl _)
    rw [ratD_f fun a b z => by cases z; exact absurd rfl c2] at this
    exact this
  refine iteNS (by rw [hl, c2]; rfl) ?_
  obtain ⟨q, x, y, dx, dy, e1, e2, hS', hx, hy⟩ := hD.two (show decide (ds.length = 2) = true from decide_eq_true c2)
  cases e1
  cases e2
  obtain ⟨lx, ly⟩ := lay_two hlay
  obtain ⟨px, py⟩ := dep_two hdp
  refine ⟨_, rfl, p, rfl, ⟨_, hS'⟩, fun D hDn => comp_ix (wlk_tup hS') (fun i => !wholeD ([dx, dy].getD i .none)) (fun i => [x, y].getD i .non) hDn (by show 2 ≤ 1000; decide) (fun i u H' hi s' hu R E kR kE => ?_) fun H1 s1 h1 => ?_⟩
  · have hi2 : i < 2 := hi
    rcases (show i = 0 ∨ i = 1 by omega) with rfl | rfl
    · cases hu
      obtain ⟨b, c, e1, e2, e3⟩ := isi_int (hx.same s')
      have w : wholeD dx = (b && !c) := e3
      refine ⟨Ext.set rfl, ?_⟩
      refine ⟨_, rfl, _, _, _, _, rfl, hx.same s', e2, _, rfl, ?_⟩
      cases c with
      | true => exact iteT (iteT ⟨_, rfl, kR (by show (!wholeD dx) = true; rw [w]; cases b <;> rfl) _ (Same.refl _)⟩)
      | false =>
        refine iteF ⟨_, rfl, _, _, _, _, rfl, hx.same s', e1, _, rfl, ?_⟩
        cases b with
        | true => exact iteF (kE (by show (!wholeD dx) = false; rw [w]; rfl) _ (Same.refl _))
        | false => exact iteT ⟨_, rfl, kR (by show (!wholeD dx) = true; rw [w]; rfl) _ (Same.refl _)⟩
    · cases hu
      obtain ⟨b, c, e1, e2, e3⟩ := isi_int (hy.same s')
      have w : wholeD dy = (b && !c) := e3
      refine ⟨Ext.set rfl, ?_⟩
      refine ⟨_, rfl, _, _, _, _, rfl, hy.same s', e2, _, rfl, ?_⟩
      cases c with
      | true => exact iteT (iteT ⟨_, rfl, kR (by show (!wholeD dy) = true; rw [w]; cases b <;> rfl) _ (Same.refl _)⟩)
      | false =>
        refine iteF ⟨_, rfl, _, _, _, _, rfl, hy.same s', e1, _, rfl, ?_⟩
        cases b with
        | true => exact iteF (kE (by show (!wholeD dy) = false; rw [w]; rfl) _ (Same.refl _))
        | false => exact iteT ⟨_, rfl, kR (by show (!wholeD dy) = true; rw [w]; rfl) _ (Same.refl _)⟩
  replace h1 : H1 D = some (.lst ((([0, 1] : List Nat).filter (fun i => !wholeD ([dx, dy].getD i .none))).map fun i => [x, y].getD i .non)) := h1
  refine ⟨(by show 0 ≤ sizeLine; exact Nat.zero_le _), fun q0 hq0 => ?_⟩
  have s2 := same_new hq0 (.lst [])
  cases wx : wholeD dx with
  | false =>
   cases wy : wholeD dy with
   | false =>
    simp [wx, wy] at h1
    refine ⟨.list [dx, dy], .list [], .lst (SqL.of (s2 _ _ h1)) (.cons ((hx.same s1).same s2) (.cons ((hy.same s1).same s2) .nil)), .lst (SqL.of upd_same) .nil, (by show (dx.canLay0 && (dy.canLay0 && true)) = true; rw [lx, ly]; rfl), rfl, (by show max dx.depth (max dy.depth 0) + 1 ≤ 32; omega), _, rfl, iteT ?_⟩
    have := k _ (s1.trans s2)
    rw [rat_x wx] at this
    exact this
   | true =>
    simp [wx, wy] at h1
    refine ⟨.list [dx], .list [], .lst (SqL.of (s2 _ _ h1)) (.cons ((hx.same s1).same s2) .nil), .lst (SqL.of upd_same) .nil, (by show (dx.canLay0 && true) = true; rw [lx]; rfl), rfl, (by show max dx.depth 0 + 1 ≤ 32; omega), _, rfl, iteT ?_⟩
    have := k _ (s1.trans s2)
    rw [rat_x wx] at this
    exact this
  | true =>
   cases wy : wholeD dy with
   | false =>
    simp [wx, wy] at h1
    refine ⟨.list [dy], .list [], .lst (SqL.of (s2 _ _ h1)) (.cons ((hy.same s1).same s2) .nil), .lst (SqL.of upd_same) .nil, (by show (dy.canLay0 && true) = true; rw [ly]; rfl), rfl, (by show max dy.depth 0 + 1 ≤ 32; omega), _, rfl, iteT ?_⟩
    have := k _ (s1.trans s2)
    rw [rat_y wy] at this
    exact this
   | true =>
    simp [wx, wy] at h1
    obtain ⟨i, rfl⟩ := wholeD_int wx
    obtain ⟨j, rfl⟩ := wholeD_int wy
    cases hx
    cases hy
    refine ⟨.list [], .list [], .lst (SqL.of (s2 _ _ h1)) .nil, .lst (SqL.of upd_same) .nil, rfl, rfl, (by decide), _, rfl, iteF ?_⟩
    have s12 := s1.trans s2
    have hS2 := Tst.same (K := K) s12 _ _ hS'
    generalize upd H1 q0 (.lst []) = H2 at s12 hS2 ⊢
    refine ⟨_, rfl, p, _, _, _, rfl, rfl, hS2, rfl, _, _, rfl, rfl, _, rfl, ?_⟩
    by_cases j0 : 0 < j
    rotate_left
    · refine iteD0 j0 ?_
      have := k _ s12
      rw [ratD_f fun a b z => by cases z; omega] at this
      exact this
    refine iteD1 j0 ?_
    have b2 := of_decide_eq_true (show decide (j.natAbs < 2 ^ 230) = true from ibdAll_mem (show ibdAll [.int i, .int j] = true from hb) (.int j) (List.mem_cons_of_mem _ List.mem_cons_self))
    refine ⟨_, rfl, p, _, _, _, rfl, rfl, hS2, rfl, _, rfl, p, _, _, _, rfl, rfl, hS2, rfl, i, j, rfl, j0, big_of (n := 230) b2 (by decide), fun pm hm => ?_⟩
    have s3 := same_new hm (.tup [.int (mkR i j).1, .int (mkR i j).2])
    refine ⟨_, rfl, dR (mkR i j), dR (i, j), (RV.of (K := K) upd_same).deep, .tup (Tst.same (K := K) s3 _ _ hS2) (.cons (.int _) (.cons (.int _) .nil)), dR_lay _, dR_lay _, (by show max 0 (max 0 0) + 1 ≤ 32; decide), ?_⟩
    have := k _ (s12.trans s3)
    have ev : PyData.eqv (dR (mkR i j)) (dR (i, j)) = ratD (.tuple [.int i, .int j]) := by
      show _ = (decide (1 ≤ j) && decide (Int.gcd i j = 1))
      rw [decide_eq_true (show 1 ≤ j by omega), Bool.true_and]
      by_cases g : Int.gcd i j = 1
      · rw [decide_eq_true g, (mkR_is j0).mpr g]; exact eqv_same _
      · rw [decide_eq_false g]
        cases z : PyData.eqv (dR (mkR i j)) (dR (i, j)) with
        | false => rfl
        | true => exact absurd ((mkR_is j0).mp (eqv_dR z)) g
    rw [ev]
    exact this
theorem ok_law_billed (T : Txt K mg t) : FnOk P w K mg base CX0 4 t.a_law_billed t.d_law_billed ["_law_k", "_law_one", "_law_other", "_law_thing"] (sp_law_billed K) := by
  refine T.F_law_billed.ok sc_law_billed (fun vs H Q E h => ?_) (fun cdv A outer s H vs Q E hr h => ?_)
  · obtain ⟨_, _, _, _, _, _, _, rfl, _⟩ := h; rfl
  obtain ⟨kk, a, b, c, os, ps, d, rfl, ⟨pa, xa, rfl, hA, alA⟩, ⟨pb, xb, rfl, hB, alB⟩, hDp, hbd, hlay, hdep, ok, k⟩ := h
  refine QSs.ok (qss_cons (qs_if (qw_pt (qw_or (qt_not (qt_val (qe_callB call_isiD (by rfl) T.z_isinstance PyProof.Rows.boot_isinstance (qa_cons (qv 3) (qa_cons (qe_bltn (v := V.ty "tuple") rfl T.z_tuple PyProof.Rows.boot_tuple rfl) qa_nil star_name) star_name)))) (qw_or (qt_cmpR op_ne (qe_callB call_len_seq (by rfl) T.z_len PySem.boot_len (qa_cons (qv 3) qa_nil star_name)) (qe_op op_add (qe_callB call_len_seq (by rfl) T.z_len PySem.boot_len (qa_cons (qv 1) qa_nil star_name)) qe_int) (nomark _)) (qw_or1 (qt_not (qt_val (qe_callB (call_allL rfl) (by rfl) T.z_all PyProof.Rows.boot_all (qa_cons (qe_lcomp (N' := ["_law_row"]) (src := [none]) rfl (by exact (qi_tup (qv 3))) (fun _ _ _ _ _ => (by exact (by exact qg_name (i := 0) (by show List.Nodup (["_law_row"] : List Str); decide +kernel) (by exact rfl) (by first | exact Or.inl rfl | exact Or.inr rfl)))) (fun _ _ _ _ _ => qts_nil) (fun _ _ _ _ _ => (by exact (by exact (qe_call (ok_law_is_ratio T) (by exact hr.mono (by decide)) (by exact rfl) T.m_law_is_ratio T.F_law_is_ratio.kp T.b_law_is_ratio (by exact .nil) (by exact pass0) (qa_cons (by exact (qv 0)) qa_nil star_name))))) (by exact trivial) rfl (by decide +kernel) rfl (by decide +kernel) (by exact cells_of rfl trivial)) qa_nil star_lc)))))))) (qss_one (qs_ret (qe_tup (qa_cons qe_str (qa_cons (qe_un un_neg qe_int) qa_nil star_un) star_con)))) qss_nil)
      (qss_cons (qs_if (qt_cmpR op_gt (qe_ix ix_tup (qe_ix ix_tup (qv 3) qe_int (fun _ _ => rfl)) qe_int (fun _ _ => rfl)) qe_int (nomark _)) (qss_one (qs_ret (qe_tup (qa_cons qe_str (qa_cons qe_int qa_nil star_con) star_con)))) qss_nil)
      (qss_cons (qs_for PassesOwn.never rfl (qi_range1 rfl T.z_range (qa_cons (qe_callB call_len_seq (by rfl) T.z_len PySem.boot_len (qa_cons (qv 1) qa_nil star_name)) qa_nil star_call)) (qg_name (i := 4) sc_law_billed.nd rfl (by first | exact Or.inl rfl | exact Or.inr rfl))
      (qss_cons (qs_set (i := 5) sc_law_billed.nd rfl (by first | exact Or.inl rfl | exact Or.inr rfl) (qe_call (ok_law_plus T) (hr.mono (by decide)) rfl T.m_law_plus T.F_law_plus.kp T.b_law_plus .nil pass0 (qa_cons (qe_call (ok_law_raised T) (hr.mono (by decide)) rfl T.m_law_raised T.F_law_raised.kp T.b_law_raised .nil pass0 (qa_cons (qe_ix ix_tup (qv 1) (qv 4) (fun _ _ => rfl)) (qa_cons (qv 0) qa_nil star_name) star_sub)) (qa_cons (qe_call (ok_law_minus T) (hr.mono (by decide)) rfl T.m_law_minus T.F_law_minus.kp T.b_law_minus .nil pass0 (qa_cons (qe_ix ix_tup (qv 3) (qe_op op_add (qv 4) qe_int) (fun _ _ => rfl)) (qa_cons (qe_ix ix_tup (qv 3) (qv 4) (fun _ _ => rfl)) qa_nil star_sub) star_sub)) qa_nil star_call) star_call)))
      (qss_one (qs_if (qt_val (qe_call (ok_law_is_less T) (hr.mono (by decide)) rfl T.m_law_is_less T.F_law_is_less.kp T.b_law_is_less .nil pass0 (qa_cons (qe_call (ok_law_times T) (hr.mono (by decide)) rfl T.m_law_times T.F_law_times.kp T.b_law_times .nil pass0 (qa_cons (qe_tup (qa_cons (qe_d3 (hu_of hr) (qv 0) (fun _ _ => rfl)) (qa_cons qe_int qa_nil star_con) star_sub)) (qa_cons (qe_call (ok_law_raised T) (hr.mono (by decide)) rfl T.m_law_raised T.F_law_raised.kp T.b_law_raised .nil pass0 (qa_cons (qe_ix ix_tup (qv 2) (qv 4) (fun _ _ => rfl)) (qa_cons (qv 0) qa_nil star_name) star_sub)) qa_nil star_call) star_tup)) (qa_cons (qv 5) qa_nil star_name) star_call))) (qss_one (qs_ret (qe_tup (qa_cons qe_str (qa_cons (qv 4) qa_nil star_name) star_con)))) qss_nil))))
      (qss_one (qs_ret (qe_ifExp (qt_cmpR op_lt (qe_ix ix_tup (qe_ix ix_tup (qv 3) (qe_un un_neg qe_int) (fun _ _ => rfl)) qe_int (fun _ _ => rfl)) qe_int (nomark _)) (qe_tup (qa_cons qe_str (qa_cons (qe_callB call_len_seq (by rfl) T.z_len PySem.boot_len (qa_cons (qv 1) qa_nil star_name)) qa_nil star_call) star_con)) qe_non)))))) ?_
  have la := alA.len
  have lb := alB.len
  have lp := ok.lp
  have few := ok.few
  have k2 := ok.k2
  have k4 := ok.k4
  have kt : kk.toNat ≤ 4 := by omega
  have ktp : ∀ n : Nat, n * kk.toNat ≤ n * 4 := fun n => Nat.mul_le_mul_left n kt
  have hdg : valV (mergeK [] [((Sum.inl 2 : Key), V.int 4), ((Sum.inl 3 : Key), V.int 27), ((Sum.inl 4 : Key), V.int 256)]) (Sum.inl kk) = some (V.int (kkM kk)) := by
    rcases (show kk = 2 ∨ kk = 3 ∨ kk = 4 by omega) with rfl | rfl | rfl <;> rfl
  have wkk : Wf 9 ((kkM kk, 1) : R) := by
    refine ⟨by show (0 : Int) < 1; decide, ?_, by show (1 : Int).natAbs < 512; decide, by show Int.gcd (kkM kk) 1 = 1; simp⟩
    show (kkM kk).natAbs < 512
    unfold kkM
    split
    · decide
    · split <;> decide
  have shp : shpD (os.length + 1) d = false → ∀ (H0 : Hp), Same H H0 → ∀ (p9 : Addr), H0 p9 = none → Q (.ref p9) (upd H0 p9 (.tup [.str (Str.ofString "shape"), .int (-1)])) := fun sh H0 s0 p9 g9 => by
    have bd : billD kk os ps d = some (Str.ofString "shape", -1) := by unfold billD; rw [sh]; rfl
    refine k _ _ (s0.trans (same_new g9 _)) ?_
    rw [bd]
    exact .tup (SqT.of upd_same) (.cons (.str _) (.cons (.int _) .nil))
  rcases isi_tup hDp with ⟨e, pc, xc, ds, rfl, rfl, hC, alD⟩ | ⟨e, no⟩
  rotate_left
  · refine ⟨_, rfl, _, _, _, _, rfl, hDp, e, _, rfl, iteT (iteT ?_)⟩
    exact ⟨_, rfl, (by show 2 ≤ sizeLine; decide), fun p9 g9 => shp (by cases d with | tuple ds => exact absurd rfl (no _) | _ => rfl) _ (Same.refl _) p9 g9⟩
  refine ⟨_, rfl, _, _, _, _, rfl, hDp, e, _, rfl, iteF ?_⟩
  have lcd := alD.len
  refine ⟨_, rfl, pc, _, rfl, .inr hC, _, rfl, pa, _, rfl, .inr hA, _, _, rfl, rfl, rfl, _, rfl, ?_⟩
  by_cases ldd : ds.length = os.length + 1
  rotate_left
  · refine iteN1 (fun z => ldd (by injection z with z; omega)) (iteT ?_)
    exact ⟨_, rfl, (by show 2 ≤ sizeLine; decide), fun p9 g9 => shp (by show (decide (ds.length = os.length + 1) && ds.all ratD) = false; rw [decide_eq_false ldd]; rfl) _ (Same.refl _) p9 g9⟩
  refine iteNS (by rw [show (xc.length : Int) = (xa.length : Int) + 1 by omega]) ?_
  refine ⟨_, rfl, pc, rfl, ⟨_, hC⟩, fun D hD => comp_ix (wlk_tup hC) (fun _ => true) (fun i => V.bl (ratD (ds.getD i .none))) hD (by omega) (fun i x H' hi s' hx R E kR kE => ?_) fun H1 s1 h1 => ?_⟩
  · have hil : i < ds.length := by omega
    obtain ⟨v, hv, dv⟩ := DeepAll.atN alD (List.getElem?_eq_getElem hil)
    rw [hx] at hv
    cases hv
    rw [getD_of PyData.none (List.getElem?_eq_getElem hil)] at kR
    have mm : ds[i] ∈ ds := List.getElem_mem hil
    exact ⟨Ext.set rfl, _, rfl, x, _, rfl, dv.same s', ibdAll_mem (show ibdAll ds = true from hbd) _ mm, lay_mem hlay _ mm, dep_mem (n := 30) hdep _ mm, fun H'' s'' => kR rfl _ s''⟩
  have e1 : (((List.range xc.length).filter fun _ => true).map fun i => V.bl (ratD (ds.getD i .none))) = ((List.range xc.length).map fun i => ratD (ds.getD i .none)).map V.bl := by rw [List.filter_eq_self.mpr (fun _ _ => rfl), List.map_map]; rfl
  rw [e1] at h1
  refine ⟨D, _, rfl, SqL.of h1, ⟨_, rfl, ?_⟩⟩
  rw [lcd, all_getD]
  cases alr : ds.all ratD with
  | false =>
    refine iteT ?_
    exact ⟨_, rfl, (by show 2 ≤ sizeLine; decide), fun p9 g9 => shp (by show (decide (ds.length = os.length + 1) && ds.all ratD) = false; rw [alr, Bool.and_false]) _ s1 p9 g9⟩
  | true =>
  refine iteF ?_
  clear shp
  have shq : shpD (os.length + 1) (.tuple ds) = true := by show (decide (ds.length = os.length + 1) && ds.all ratD) = true; rw [alr, decide_eq_true ldd]; rfl
  obtain ⟨alC, wt⟩ := rvs_of alD alr hbd
  have bdd : billD kk os ps (.tuple ds) = foundB kk os ps (ds.map toRD) := by unfold billD; rw [shq]; rfl
  rw [bdd] at k
  generalize hts : ds.map toRD = ts at alC wt k
  have lc := alC.len
  have lt : ts.length = os.length + 1 := by rw [← hts, List.length_map]; exact ldd
  have t1 := Tst.same (K := K) s1
  obtain ⟨x0, hx0⟩ : ∃ x0, xc[0]? = some x0 := ⟨_, List.getElem?_eq_getElem (by omega)⟩
  obtain ⟨q0, hq0, p0, rfl, rv0⟩ := alC.at hx0
  have w0 := wt q0 (List.mem_of_getElem? hq0)
  have g0 : ts.getD 0 r0 = q0 := getD_of r0 hq0
  have l0 : lessR (0, 1) q0 = decide (0 < q0.1) := by unfold lessR; simp
  refine ⟨_, rfl, pc, _, _, _, rfl, rfl, t1 _ _ hC, atI_nat (j := 0) hx0, p0, _, _, _, rfl, rfl, t1 _ _ rv0, rfl, _, _, rfl, rfl, _, rfl, ?_⟩
  by_cases c0 : 0 < q0.1
  · refine iteD1 c0 ?_
    refine ⟨(by show 2 ≤ sizeLine; decide), fun p9 g9 => k _ _ (s1.trans (same_new g9 _)) ?_⟩
    have lf : foundB kk os ps ts = some (Str.ofString "begin", 0) := by unfold foundB; rw [g0, l0, decide_eq_true c0]; rfl
    rw [lf]
    exact .tup (SqT.of upd_same) (.cons (.str _) (.cons (.int _) .nil))
  refine iteD0 c0 ?_
  refine ⟨_, rfl, pa, _, rfl, .inr (t1 _ _ hA), _, rfl, by omega, by omega, for_range (lo := 0) (n := (xa.length : Int).toNat) (fun i σ H' => ∃ (x6 x7 : Option V), σ = [some (.int kk), some (.ref pa), some (.ref pb), some (.ref pc), x6, x7] ∧ Same H H' ∧ ∀ m, m < i → stepB kk (os.getD m r0) (ps.getD m r0) (ts.getD m r0) (ts.getD (m + 1) r0) = true) ⟨none, none, rfl, s1, fun m hm => absurd hm (Nat.not_lt_zero _)⟩ ?_ ?_⟩
  · rintro i σ H2 hi ⟨x6, x7, rfl, s2, gd⟩
    rw [Int.zero_add]
    have t2 := Tst.same (K := K) s2
    obtain ⟨xo, hxo⟩ : ∃ x, xa[i]? = some x := ⟨_, List.getElem?_eq_getElem (by omega)⟩
    obtain ⟨o, ho, rvo⟩ := alA.at hxo
    obtain ⟨xp, hxp⟩ : ∃ x, xb[i]? = some x := ⟨_, List.getElem?_eq_getElem (by omega)⟩
    obtain ⟨p, hp, rvp⟩ := alB.at hxp
    obtain ⟨xu, hxu⟩ : ∃ x, xc[i]? = some x := ⟨_, List.getElem?_eq_getElem (by omega)⟩
    obtain ⟨u, hu, rvu⟩ := alC.at hxu
    obtain ⟨xv, hxv⟩ : ∃ x, xc[i + 1]? = some x := ⟨_, List.getElem?_eq_getElem (by omega)⟩
    obtain ⟨v, hv, rvv⟩ := alC.at hxv
    have wo := ok.wo o (List.mem_of_getElem? ho)
    have wp := ok.wp p (List.mem_of_getElem? hp)
    have wu := wt u (List.mem_of_getElem? hu)
    have wv := wt v (List.mem_of_getElem? hv)
    refine ⟨_, rfl, _, rfl, pa, _, _, _, rfl, rfl, t2 _ _ hA, atI_nat hxo, _, rfl, xo, o, kk, rfl, rvo.mono t2, wo.mono (by decide), by omega, by omega, fun v1 H3 s3 r3 => ?_⟩
    have s23 := s2.trans s3
    have t3 := Tst.same (K := K) s23
    refine ⟨_, rfl, _, rfl, _, _, rfl, rfl, pc, _, _, _, rfl, rfl, t3 _ _ hC, atI_nat (j := i + 1) hxv, _, rfl, _, rfl, pc, _, _, _, rfl, rfl, t3 _ _ hC, atI_nat hxu, xv, xu, v, u, 230, 230, rfl, rvv.mono t3, rvu.mono t3, wv, wu, by decide, fun p4 h4 => ?_⟩
    have s4 := same_new h4 (.tup [.int (minusR v u).1, .int (minusR v u).2])
    have r4 : RV K (upd H3 p4 (.tup [.int (minusR v u).1, .int (minusR v u).2])) (.ref p4) (minusR v u) := RV.of upd_same
    generalize upd H3 p4 (.tup [.int (minusR v u).1, .int (minusR v u).2]) = H4 at s4 r4 ⊢
    have w1 := powR_wf wo kk.toNat
    have w2 := minus_wf wv wu
    have b1 := ktp 8
    refine ⟨v1, .ref p4, powR o kk.toNat, minusR v u, 1 + 8 * kk.toNat, 461, rfl, r3.mono (Tst.same s4), r4, w1, w2, by omega, fun p5 h5 => ?_⟩
    have s5 := same_new h5 (.tup [.int (plusR (powR o kk.toNat) (minusR v u)).1, .int (plusR (powR o kk.toNat) (minusR v u)).2])
    have r5 : RV K (upd H4 p5 (.tup [.int (plusR (powR o kk.toNat) (minusR v u)).1, .int (plusR (powR o kk.toNat) (minusR v u)).2])) (.ref p5) (plusR (powR o kk.toNat) (minusR v u)) := RV.of upd_same
    have s25 := (s23.trans s4).trans s5
    generalize upd H4 p5 (.tup [.int (plusR (powR o kk.toNat) (minusR v u)).1, .int (plusR (powR o kk.toNat) (minusR v u)).2]) = H5 at r5 s25 ⊢
    have w5 := plus_wf w1 w2
    have t5 := Tst.same (K := K) s25
    refine fun pd hpd => ⟨upd_same, [((Sum.inl 2 : Key), V.int 4), ((Sum.inl 3 : Key), V.int 27), ((Sum.inl 4 : Key), V.int 256)], rfl, by decide, _, rfl, pd, .int (kkM kk), rfl, ?_, ?_⟩
    · have := DGet.k (k := Sum.inl kk) (upd_same (H := upd H5 pd (.dK [])) (a := pd) (o := .dK (mergeK [] [((Sum.inl 2 : Key), V.int 4), ((Sum.inl 3 : Key), V.int 27), ((Sum.inl 4 : Key), V.int 256)])))
      rw [hdg] at this
      exact this
    have sK : Same H5 (upd (upd H5 pd (.dK [])) pd (.dK (mergeK [] [((Sum.inl 2 : Key), V.int 4), ((Sum.inl 3 : Key), V.int 27), ((Sum.inl 4 : Key), V.int 256)]))) := by rw [upd_upd]; exact same_new hpd _
    generalize upd (upd H5 pd (.dK [])) pd (.dK (mergeK [] [((Sum.inl 2 : Key), V.int 4), ((Sum.inl 3 : Key), V.int 27), ((Sum.inl 4 : Key), V.int 256)])) = HK at sK ⊢
    refine ⟨(by show 2 ≤ sizeLine; decide), fun pk hpk => ?_⟩
    have s6 := same_new hpk (.tup [.int (kkM kk), .int 1])
    have rk : RV K (upd HK pk (.tup [.int (kkM kk), .int 1])) (.ref pk) (kkM kk, 1) := RV.of upd_same
    generalize upd HK pk (.tup [.int (kkM kk), .int 1]) = H6 at s6 rk ⊢
    have s26 := (s25.trans sK).trans s6
    have t6 := Tst.same (K := K) s26
    refine ⟨_, rfl, _, rfl, pb, _, _, _, rfl, rfl, t6 _ _ hB, atI_nat hxp, _, rfl, xp, p, kk, rfl, rvp.mono t6, wp.mono (by decide), by omega, by omega, fun v7 H7 s7 r7 => ?_⟩
    have w7 := powR_wf wp kk.toNat
    refine ⟨.ref pk, v7, (kkM kk, 1), powR p kk.toNat, 9, 1 + 8 * kk.toNat, rfl, rk.mono (Tst.same s7), r7, wkk, w7, by omega, fun p8 h8 => ?_⟩
    have s8 := same_new h8 (.tup [.int (timesR (kkM kk, 1) (powR p kk.toNat)).1, .int (timesR (kkM kk, 1) (powR p kk.toNat)).2])
    have w8 := times_wf wkk w7
    have s78 := s7.trans s8
    have s28 := s26.trans s78
    refine ⟨_, rfl, .ref p8, .ref p5, timesR (kkM kk, 1) (powR p kk.toNat), plusR (powR o kk.toNat) (minusR v u), _, _, rfl, RV.of upd_same, r5.mono (Tst.same ((sK.trans s6).trans s78)), w8, w5, by omega, _, rfl, ?_⟩
    rw [paid_same (o := o) (a := u) (b := v) k2 k4 (wf_red wp) _ w5.pos]
    have eqs : stepB kk (os.getD i r0) (ps.getD i r0) (ts.getD i r0) (ts.getD (i + 1) r0) = !lessR (powR (timesR (kk, 1) p) kk.toNat) (plusR (powR o kk.toNat) (minusR v u)) := by
      rw [getD_of r0 ho, getD_of r0 hp, getD_of r0 hu, getD_of r0 hv]; rfl
    cases cl : lessR (powR (timesR (kk, 1) p) kk.toNat) (plusR (powR o kk.toNat) (minusR v u)) with
    | true =>
      refine iteT ?_
      have lf : foundB kk os ps ts = some (Str.ofString "turn", (i : Int)) := by
        unfold foundB
        rw [g0, l0, decide_eq_false c0, find_at (i := i) (show i < os.length by omega) (by rw [eqs, cl]; rfl) (fun j hj => by rw [gd j hj]; rfl)]
        rfl
      refine ⟨_, rfl, (by show 2 ≤ sizeLine; decide), fun p9 g9 => k _ _ (s28.trans (same_new g9 _)) ?_⟩
      rw [lf]
      exact .tup (SqT.of upd_same) (.cons (.str _) (.cons (.int _) .nil))
    | false =>
      refine iteF ?_
      refine ⟨_, _, rfl, s28, fun m hm => ?_⟩
      by_cases z : m < i
      · exact gd m z
      · have : m = i := by omega
        subst this
        rw [eqs, cl]; rfl
  · rintro σ H2 ⟨x6, x7, rfl, s2, gd⟩
    have t2 := Tst.same (K := K) s2
    obtain ⟨xn, q, hlast, hq, ⟨pq, rfl, rvq⟩, hxn⟩ := alC.last (n := os.length) lt
    have gn : ts.getD os.length r0 = q := getD_of r0 hq
    have ln : lessR q (0, 1) = decide (q.1 < 0) := by unfold lessR; simp
    have fb : foundB kk os ps ts = if lessR q (0, 1) = true then some (Str.ofString "end", (os.length : Int)) else none := by
      unfold foundB
      rw [g0, l0, decide_eq_false c0, find_no (fun j hj => by rw [gd j (by omega)]; rfl), gn]
      rfl
    refine ⟨_, rfl, _, rfl, pc, _, _, _, rfl, rfl, t2 _ _ hC, hlast, pq, _, _, _, rfl, rfl, t2 _ _ rvq, rfl, _, _, rfl, rfl, _, rfl, ?_⟩
    by_cases cl : q.1 < 0
    · refine iteD1 cl ?_
      refine ⟨_, rfl, pa, _, rfl, .inr (t2 _ _ hA), (by show 2 ≤ sizeLine; decide), fun p9 g9 => k _ _ (s2.trans (same_new g9 _)) ?_⟩
      rw [fb, ln, decide_eq_true cl, ← la]
      exact .tup (SqT.of upd_same) (.cons (.str _) (.cons (.int _) .nil))
    · refine iteD0 cl ?_
      refine k _ _ s2 ?_
      rw [fb, ln, decide_eq_false cl]
      exact .non
theorem ok_law_greatest_bill (T : Txt K mg t) : FnOk P w K mg base CX0 4 t.a_law_greatest_bill t.d_law_greatest_bill ["_law_k", "_law_one", "_law_other", "_law_begin"] (sp_law_greatest_bill K) := by
  refine T.F_law_greatest_bill.ok sc_law_greatest_bill (fun vs H Q E h => ?_) (fun cdv A outer s H vs Q E hr h => ?_)
  · obtain ⟨_, _, _, _, _, _, _, rfl, _⟩ := h; rfl
  obtain ⟨kk, a, b, c, os, ps, bg, rfl, ⟨pa, xa, rfl, hA, alA⟩, ⟨pb, xb, rfl, hB, alB⟩, rc, hbg, k2, k4, lp, few, wo, wp, k⟩ := h
  refine QSs.ok (qss_cons (qs_set (i := 4) sc_law_greatest_bill.nd rfl (by first | exact Or.inl rfl | exact Or.inr rfl) (qe_lst (qa_cons (qv 3) qa_nil star_name)))
      (qss_cons (qs_for PassesOwn.never rfl (qi_range1 rfl T.z_range (qa_cons (qe_callB call_len_seq (by rfl) T.z_len PySem.boot_len (qa_cons (qv 1) qa_nil star_name)) qa_nil star_call)) (qg_name (i := 5) sc_law_greatest_bill.nd rfl (by first | exact Or.inl rfl | exact Or.inr rfl))
      (qss_cons (qs_set (i := 6) sc_law_greatest_bill.nd rfl (by first | exact Or.inl rfl | exact Or.inr rfl) (qe_call (ok_law_minus T) (hr.mono (by decide)) rfl T.m_law_minus T.F_law_minus.kp T.b_law_minus .nil pass0 (qa_cons (qe_call (ok_law_times T) (hr.mono (by decide)) rfl T.m_law_times T.F_law_times.kp T.b_law_times .nil pass0 (qa_cons (qe_tup (qa_cons (qe_d3 (hu_of hr) (qv 0) (fun _ _ => rfl)) (qa_cons qe_int qa_nil star_con) star_sub)) (qa_cons (qe_call (ok_law_raised T) (hr.mono (by decide)) rfl T.m_law_raised T.F_law_raised.kp T.b_law_raised .nil pass0 (qa_cons (qe_ix ix_tup (qv 2) (qv 5) (fun _ _ => rfl)) (qa_cons (qv 0) qa_nil star_name) star_sub)) qa_nil star_call) star_tup)) (qa_cons (qe_call (ok_law_raised T) (hr.mono (by decide)) rfl T.m_law_raised T.F_law_raised.kp T.b_law_raised .nil pass0 (qa_cons (qe_ix ix_tup (qv 1) (qv 5) (fun _ _ => rfl)) (qa_cons (qv 0) qa_nil star_name) star_sub)) qa_nil star_call) star_call)))
      (qss_one (qs_expr (qe_bm PySem.F.plainAttrs_list PySem.F.slot_list_append PySem.F.type_list_append mt_append (qv 4) (qa_cons (qe_call (ok_law_plus T) (hr.mono (by decide)) rfl T.m_law_plus T.F_law_plus.kp T.b_law_plus .nil pass0 (qa_cons (qe_ix ix_list (qv 4) (qe_un un_neg qe_int) (fun _ _ => rfl)) (qa_cons (qv 6) qa_nil star_name) star_sub)) qa_nil star_call))))))
      (qss_one (qs_ret (qe_callTy call_tuple_of (by rfl) T.z_tuple PyProof.Rows.boot_tuple (qa_cons (qv 4) qa_nil star_name)))))) ?_
  have la := alA.len
  have lb := alB.len
  have kt : kk.toNat ≤ 4 := by omega
  have b8 : 8 * kk.toNat ≤ 8 * 4 := Nat.mul_le_mul_left 8 kt
  have hdg : valV (mergeK [] [((Sum.inl 2 : Key), V.int 4), ((Sum.inl 3 : Key), V.int 27), ((Sum.inl 4 : Key), V.int 256)]) (Sum.inl kk) = some (V.int (kkM kk)) := by
    rcases (show kk = 2 ∨ kk = 3 ∨ kk = 4 by omega) with rfl | rfl | rfl <;> rfl
  have wkk : Wf 9 ((kkM kk, 1) : R) := by
    refine ⟨by show (0 : Int) < 1; decide, ?_, by show (1 : Int).natAbs < 512; decide, by show Int.gcd (kkM kk) 1 = 1; simp⟩
    show (kkM kk).natAbs < 512
    unfold kkM
    split
    · decide
    · split <;> decide
  refine ⟨_, rfl, (by show 1 ≤ sizeLine; decide), fun ls h0 => ?_⟩
  have s0 := same_new h0 (.lst [c])
  refine ⟨_, rfl, pa, _, rfl, .inr (Tst.same (K := K) s0 _ _ hA), _, rfl, by omega, by omega, for_range (lo := 0) (n := (xa.length : Int).toNat) (fun i σ H' => ∃ (ys : List V) (rs : List R) (x6 x7 : Option V), σ = [some (.int kk), some (.ref pa), some (.ref pb), some c, some (.ref ls), x6, x7] ∧ Same H H' ∧ H' ls = some (.lst ys) ∧ Als (RV K H') ys rs ∧ rs.length = i + 1 ∧ ∀ r ∈ rs, Bq 3111696 (50 + 41120000 * i) r) ⟨[c], [bg], none, none, rfl, s0, upd_same, .cons (rc.mono (Tst.same s0)) .nil, rfl, fun r hr => by rw [List.mem_singleton.mp hr]; exact hbg⟩ ?_ ?_⟩
  · rintro i σ H1 hi ⟨ys, rs, x6, x7, rfl, s1, hl1, al1, lrs, wr⟩
    rw [Int.zero_add]
    obtain ⟨xo, hxo⟩ : ∃ x, xa[i]? = some x := ⟨_, List.getElem?_eq_getElem (by omega)⟩
    obtain ⟨o, ho, rvo⟩ := alA.at hxo
    obtain ⟨xp, hxp⟩ : ∃ x, xb[i]? = some x := ⟨_, List.getElem?_eq_getElem (by omega)⟩
    obtain ⟨p, hp, rvp⟩ := alB.at hxp
    have so := wo o (List.mem_of_getElem? ho)
    have wo_ : Wf 8 o := so.w.mono (by decide)
    have sp := wp p (List.mem_of_getElem? hp)
    have wp_ : Wf 8 p := sp.w.mono (by decide)
    obtain ⟨xl, rl, hlast, hrl, rvl, _⟩ := al1.last (n := i) lrs
    have hyl := al1.len
    have brl := wr rl (List.mem_of_getElem? hrl)
    have hi60 : i < 60 := by omega
    have wrl : Wf 60 rl := bq_w (brl.mono ⟨1, by decide⟩ (by omega))
    refine fun pd hpd => ⟨upd_same, [((Sum.inl 2 : Key), V.int 4), ((Sum.inl 3 : Key), V.int 27), ((Sum.inl 4 : Key), V.int 256)], rfl, by decide, _, rfl, pd, .int (kkM kk), rfl, ?_, ?_⟩
    · have := DGet.k (k := Sum.inl kk) (upd_same (H := upd H1 pd (.dK [])) (a := pd) (o := .dK (mergeK [] [((Sum.inl 2 : Key), V.int 4), ((Sum.inl 3 : Key), V.int 27), ((Sum.inl 4 : Key), V.int 256)])))
      rw [hdg] at this
      exact this
    have s2 : Same H1 (upd (upd H1 pd (.dK [])) pd (.dK (mergeK [] [((Sum.inl 2 : Key), V.int 4), ((Sum.inl 3 : Key), V.int 27), ((Sum.inl 4 : Key), V.int 256)]))) := by rw [upd_upd]; exact same_new hpd _
    generalize upd (upd H1 pd (.dK [])) pd (.dK (mergeK [] [((Sum.inl 2 : Key), V.int 4), ((Sum.inl 3 : Key), V.int 27), ((Sum.inl 4 : Key), V.int 256)])) = H2 at s2 ⊢
    refine ⟨(by show 2 ≤ sizeLine; decide), fun pk hpk => ?_⟩
    have s3 := same_new hpk (.tup [.int (kkM kk), .int 1])
    have rk : RV K (upd H2 pk (.tup [.int (kkM kk), .int 1])) (.ref pk) (kkM kk, 1) := RV.of upd_same
    generalize upd H2 pk (.tup [.int (kkM kk), .int 1]) = H3 at s3 rk ⊢
    have s13 := (s1.trans s2).trans s3
    have t3 := Tst.same (K := K) s13
    refine ⟨_, rfl, _, rfl, pb, _, _, _, rfl, rfl, t3 _ _ hB, atI_nat hxp, _, rfl, xp, p, kk, rfl, rvp.mono t3, wp_.mono (by decide), by omega, by omega, fun v4 H4 s4 r4 => ?_⟩
    have w4 := powR_wf wp_ kk.toNat
    refine ⟨.ref pk, v4, (kkM kk, 1), powR p kk.toNat, 9, 1 + 8 * kk.toNat, rfl, rk.mono (Tst.same s4), r4, wkk, w4, by omega, fun p5 h5 => ?_⟩
    have s5 := same_new h5 (.tup [.int (timesR (kkM kk, 1) (powR p kk.toNat)).1, .int (timesR (kkM kk, 1) (powR p kk.toNat)).2])
    have r5 : RV K (upd H4 p5 (.tup [.int (timesR (kkM kk, 1) (powR p kk.toNat)).1, .int (timesR (kkM kk, 1) (powR p kk.toNat)).2])) (.ref p5) (timesR (kkM kk, 1) (powR p kk.toNat)) := RV.of upd_same
    generalize upd H4 p5 (.tup [.int (timesR (kkM kk, 1) (powR p kk.toNat)).1, .int (timesR (kkM kk, 1) (powR p kk.toNat)).2]) = H5 at s5 r5 ⊢
    have s15 := (s13.trans s4).trans s5
    have t5 := Tst.same (K := K) s15
    refine ⟨_, rfl, _, rfl, pa, _, _, _, rfl, rfl, t5 _ _ hA, atI_nat hxo, _, rfl, xo, o, kk, rfl, rvo.mono t5, wo_.mono (by decide), by omega, by omega, fun v6 H6 s6 r6 => ?_⟩
    have w5 := times_wf wkk w4
    have w6 := powR_wf wo_ kk.toNat
    refine ⟨.ref p5, v6, _, powR o kk.toNat, _, _, rfl, r5.mono (Tst.same s6), r6, w5, w6, by omega, fun p7 h7 => ?_⟩
    have wm : Wf 76 (mostM kk o p) := (minus_wf w5 w6).mono (by omega)
    have s7 := same_new h7 (.tup [.int (mostM kk o p).1, .int (mostM kk o p).2])
    have r7 : RV K (upd H6 p7 (.tup [.int (mostM kk o p).1, .int (mostM kk o p).2])) (.ref p7) (mostM kk o p) := RV.of upd_same
    have s17 := (s15.trans s6).trans s7
    have sH : Same H1 (upd H6 p7 (.tup [.int (mostM kk o p).1, .int (mostM kk o p).2])) := ((((s2.trans s3).trans s4).trans s5).trans s6).trans s7
    generalize hH7 : upd H6 p7 (.tup [.int (mostM kk o p).1, .int (mostM kk o p).2]) = H7 at r7 s17 sH
    show _
    rw [show upd H6 p7 (.tup [.int (minusR (timesR (kkM kk, 1) (powR p kk.toNat)) (powR o kk.toNat)).1, .int (minusR (timesR (kkM kk, 1) (powR p kk.toNat)) (powR o kk.toNat)).2]) = H7 from hH7]
    have hl7 := sH _ _ hl1
    refine ⟨_, rfl, .inl ⟨rfl, _, SqL.of hl7⟩, _, rfl, _, rfl, ls, _, _, _, rfl, rfl, SqL.of hl7, hlast, _, rfl, xl, .ref p7, rl, mostM kk o p, 60, 76, rfl, rvl.mono (Tst.same sH), r7, wrl, wm, by omega, fun p8 h8 => ?_⟩
    have s8 := same_new h8 (.tup [.int (plusR (rl) (mostM kk o p)).1, .int (plusR (rl) (mostM kk o p)).2])
    have hl8 := s8 _ _ hl7
    refine ⟨ls, ys, _, rfl, rfl, hl8, small1000 (by omega), ?_⟩
    refine ⟨_, rs ++ [plusR rl (mostM kk o p)], _, _, rfl, fun b o_ q => ?_, upd_same, ?_, by rw [List.length_append, lrs]; rfl, fun m hm => ?_⟩
    · rw [upd_ne (ne_of_none q h0)]
      exact s8 _ _ (s17 _ _ q)
    · refine (al1.mono fun _ _ q => q.mono ((Tst.same (sH.trans s8)).trans (Tst.up hl8 _))).snoc ?_
      exact (RV.of upd_same : RV K _ (.ref p8) (plusR rl (mostM kk o p))).mono (Tst.up hl8 _)
    · rcases List.mem_append.mp hm with z | z
      · exact (wr m z).mono ⟨1, by decide⟩ (by omega)
      · rw [List.mem_singleton.mp z]
        exact (Bq.plus (by decide) brl (bq_most so.b sp.b k2 k4)).mono ⟨1, by decide⟩ (by omega)
  · rintro σ H1 ⟨ys, rs, x6, x7, rfl, s1, hl1, al1, lrs, wr⟩
    refine ⟨_, rfl, ls, _, rfl, .inl ⟨SqL.of hl1, fun p hp => ?_⟩⟩
    have s5 := same_new hp (.tup ys)
    exact k (.ref p) rs _ (s1.trans s5) ⟨p, ys, rfl, SqT.of upd_same, al1.mono fun _ _ q => q.mono (Tst.same s5)⟩ (by omega) fun r hr => (wr r hr).mono ⟨1, by decide⟩ (by omega)
theorem ok_law_speeds_by (T : Txt K mg t) : FnOk P w K mg base CX0 2 t.a_law_speeds_by t.d_law_speeds_by ["_law_tape", "_law_many", "_law_most"] (sp_law_speeds_by K) := by
  refine T.F_law_speeds_by.ok sc_law_speeds_by (fun vs H Q E h => ?_) (fun cdv A outer s H vs Q E hr h => ?_)
  · obtain ⟨_, _, _, _, rfl, _⟩ := h; rfl
  obtain ⟨t₁, l₁, n, m, rfl, tp, hn, m0, m20, k⟩ := h
  refine QSs.ok (qss_cons (qs_set (i := 3) sc_law_speeds_by.nd rfl (by first | exact Or.inl rfl | exact Or.inr rfl) (qe_lst qa_nil))
      (qss_cons (qs_for PassesOwn.never rfl (qi_range1 rfl T.z_range (qa_cons (qv 1) qa_nil star_name)) (qg_name (i := 4) sc_law_speeds_by.nd rfl (by first | exact Or.inl rfl | exact Or.inr rfl))
      (qss_one (qs_expr (qe_bm PySem.F.plainAttrs_list PySem.F.slot_list_append PySem.F.type_list_append mt_append (qv 3) (qa_cons (qe_call (ok_law_made T) (hr.mono (by decide)) rfl T.m_law_made T.F_law_made.kp T.b_law_made .nil pass0 (qa_cons (qe_call (ok_law_take T) (hr.mono (by decide)) rfl T.m_law_take T.F_law_take.kp T.b_law_take .nil pass0 (qa_cons (qv 0) (qa_cons (qv 2) qa_nil star_name) star_name)) (qa_cons (qe_ix ix_list (qe_lst (qa_cons qe_int (qa_cons qe_int (qa_cons qe_int (qa_cons qe_int (qa_cons qe_int qa_nil star_con) star_con) star_con) star_con) star_con)) (qe_call (ok_law_take T) (hr.mono (by decide)) rfl T.m_law_take T.F_law_take.kp T.b_law_take .nil pass0 (qa_cons (qv 0) (qa_cons qe_int qa_nil star_con) star_name)) (fun _ _ => rfl)) qa_nil star_sub) star_call)) qa_nil star_call)))))
      (qss_one (qs_ret (qe_callTy call_tuple_of (by rfl) T.z_tuple PyProof.Rows.boot_tuple (qa_cons (qv 3) qa_nil star_name)))))) ?_
  obtain ⟨y0, e0⟩ := tp.lst
  obtain ⟨y0', e0'⟩ := tp.lst'
  refine ⟨(by show 0 ≤ sizeLine; exact Nat.zero_le _), fun ls h0 => ?_⟩
  have nt : ls ≠ t₁ := fun z => by subst z; rw [e0] at h0; cases h0
  have nl : ls ≠ l₁ := fun z => by subst z; rw [e0'] at h0; cases h0
  have s0 := same_new h0 (.lst [])
  refine ⟨_, rfl, n, rfl, by omega, by omega, for_range (lo := 0) (n := (n : Int).toNat) (fun i σ H' => ∃ (xs : List V) (rs : List R) (x5 : Option V), σ = [some (.ref t₁), some (.int n), some (.int m), some (.ref ls), x5] ∧ TapeB H' t₁ l₁ ∧ (∀ b o, b ≠ t₁ → H b = some o → H' b = some o) ∧ H' ls = some (.lst xs) ∧ Als (RV K H') xs rs ∧ rs.length = i ∧ ∀ r ∈ rs, SpB r) ⟨[], [], none, rfl, tp.same s0, (fun b o _ q => s0 _ _ q), upd_same, .nil, rfl, fun r hr => by cases hr⟩ ?_ ?_⟩
  · rintro i σ H1 hi ⟨xs, rs, x5, rfl, T1, kp, hl1, al1, hlen, wf⟩
    obtain ⟨y1, e1⟩ := T1.lst
    refine ⟨_, rfl, .inl ⟨rfl, _, SqL.of hl1⟩, _, rfl, _, rfl, t₁, l₁, m, rfl, T1, m0, by omega, fun r1 z1 a1 b1 T2 => ?_⟩
    have S2 : Step t₁ H1 _ := Step.up (ys := z1) e1
    generalize upd H1 t₁ (.lst z1) = H2 at T2 S2 ⊢
    obtain ⟨y2, e2⟩ := T2.lst
    refine ⟨(by show 5 ≤ sizeLine; decide), fun l5 h5 => ?_⟩
    have n5 : l5 ≠ t₁ := fun z => by subst z; rw [e2] at h5; cases h5
    have s3 := same_new h5 (.lst [.int 1, .int 1, .int 2, .int 3, .int 7])
    have T3 := T2.same s3
    have h53 : upd H2 l5 (.lst [.int 1, .int 1, .int 2, .int 3, .int 7]) l5 = some (.lst [.int 1, .int 1, .int 2, .int 3, .int 7]) := upd_same
    generalize upd H2 l5 (.lst [.int 1, .int 1, .int 2, .int 3, .int 7]) = H3 at T3 s3 h53 ⊢
    obtain ⟨y3, e3⟩ := T3.lst
    refine ⟨_, rfl, t₁, l₁, 5, rfl, T3, by decide, by decide, fun r2 z2 a2 b2 T4 => ?_⟩
    have S4 := (S2.trans (Step.same s3 T2.lst)).trans (Step.up (ys := z2) e3)
    have h54 : upd H3 t₁ (.lst z2) l5 = some (.lst [.int 1, .int 1, .int 2, .int 3, .int 7]) := by rw [upd_ne n5]; exact h53
    generalize upd H3 t₁ (.lst z2) = H4 at T4 S4 h54 ⊢
    obtain ⟨bb, hbb, bo1, bo2, bdv⟩ : ∃ b : Int, atI [V.int 1, .int 1, .int 2, .int 3, .int 7] r2 = some (.int b) ∧ 1 ≤ b ∧ b ≤ 7 ∧ b ∣ ((42 : Nat) : Int) := by
      rcases (show r2 = 0 ∨ r2 = 1 ∨ r2 = 2 ∨ r2 = 3 ∨ r2 = 4 by omega) with rfl | rfl | rfl | rfl | rfl
      · exact ⟨1, rfl, by decide, by decide, ⟨42, by decide⟩⟩
      · exact ⟨1, rfl, by decide, by decide, ⟨42, by decide⟩⟩
      · exact ⟨2, rfl, by decide, by decide, ⟨21, by decide⟩⟩
      · exact ⟨3, rfl, by decide, by decide, ⟨14, by decide⟩⟩
      · exact ⟨7, rfl, by decide, by decide, ⟨6, by decide⟩⟩
    refine ⟨l5, _, _, _, rfl, rfl, SqL.of h54, hbb, ?_⟩
    refine ⟨r1, bb, rfl, by omega, big_of (n := 3) (by show bb.natAbs < 8; omega) (by decide), fun pf hpf => ?_⟩
    have w : SpB (mkR r1 bb) := ⟨mkR_wf (by omega) (by show r1.natAbs < 32; omega) (by show bb.natAbs < 32; omega), bq_mk (by omega) bdv (by omega)⟩
    have s5 := same_new hpf (.tup [.int (mkR r1 bb).1, .int (mkR r1 bb).2])
    have rf : RV K (upd H4 pf (.tup [.int (mkR r1 bb).1, .int (mkR r1 bb).2])) (.ref pf) (mkR r1 bb) := RV.of upd_same
    have T5 := T4.same s5
    generalize upd H4 pf (.tup [.int (mkR r1 bb).1, .int (mkR r1 bb).2]) = H5 at T5 s5 rf ⊢
    have S5 := S4.trans (Step.same s5 T4.lst)
    have hl5 := S5.keep _ _ nt hl1
    refine ⟨ls, xs, _, rfl, rfl, hl5, small1000 (by rw [al1.len]; omega), ?_⟩
    refine ⟨_, rs ++ [mkR r1 bb], _, rfl, T5.upl nt nl _, fun b o nb q => ?_, upd_same, (al1.mono fun _ _ q => q.mono ((Tst.step S5).trans (Tst.up hl5 _))).snoc (rf.mono (Tst.up hl5 _)), by rw [List.length_append, hlen]; rfl, fun z hz => ?_⟩
    · rw [upd_ne (ne_of_none q h0)]
      exact S5.keep _ _ nb (kp b o nb q)
    · rcases List.mem_append.mp hz with h | h
      · exact wf z h
      · rw [List.mem_singleton.mp h]; exact w
  · rintro σ H1 ⟨xs, rs, x5, rfl, T1, kp, hl1, al1, hlen, wf⟩
    refine ⟨_, rfl, ls, _, rfl, .inl ⟨SqL.of hl1, fun p hp => ?_⟩⟩
    have s5 := same_new hp (.tup xs)
    exact k (.ref p) rs _ (Step.trans ⟨kp, ⟨_, e0⟩, T1.lst⟩ (Step.same s5 T1.lst)) (T1.same s5) ⟨p, xs, rfl, SqT.of upd_same, al1.mono fun _ _ q => q.mono (Tst.same s5)⟩ (by rw [hlen]; omega) wf
theorem ok_law_bent (T : Txt K mg t) : FnOk P w K mg base CX0 3 t.a_law_bent t.d_law_bent ["_law_tape", "_law_paper"] (sp_law_bent K) := by
  refine T.F_law_bent.ok sc_law_bent (fun vs H Q E h => ?_) (fun cdv A outer s H vs Q E hr h => ?_)
  · obtain ⟨_, _, _, _, _, rfl, _⟩ := h; rfl
  obtain ⟨t₁, D, pp, xs, rs, rfl, tp, hSp, alp, r1, r61, wfs, k⟩ := h
  refine QSs.ok (qss_cons (qs_set (i := 2) sc_law_bent.nd rfl (by first | exact Or.inl rfl | exact Or.inr rfl) (qe_call (ok_law_take T) (hr.mono (by decide)) rfl T.m_law_take T.F_law_take.kp T.b_law_take .nil pass0 (qa_cons (qv 0) (qa_cons (qe_callB call_len_seq (by rfl) T.z_len PySem.boot_len (qa_cons (qv 1) qa_nil star_name)) qa_nil star_call) star_name)))
      (qss_cons (qs_set (i := 3) sc_law_bent.nd rfl (by first | exact Or.inl rfl | exact Or.inr rfl) (qe_ix ix_tup (qv 1) (qv 2) (fun _ _ => rfl)))
      (qss_cons (qs_set (i := 4) sc_law_bent.nd rfl (by first | exact Or.inl rfl | exact Or.inr rfl) (qe_tup (qa_cons qe_int (qa_cons (qe_ix ix_list (qe_lst (qa_cons qe_int (qa_cons qe_int (qa_cons qe_int qa_nil star_con) star_con) star_con)) (qe_call (ok_law_take T) (hr.mono (by decide)) rfl T.m_law_take T.F_law_take.kp T.b_law_take .nil pass0 (qa_cons (qv 0) (qa_cons qe_int qa_nil star_con) star_name)) (fun _ _ => rfl)) qa_nil star_sub) star_con)))
      (qss_cons (qs_set (i := 5) sc_law_bent.nd rfl (by first | exact Or.inl rfl | exact Or.inr rfl) (qe_lst (qa_cons (qe_call (ok_law_plus T) (hr.mono (by decide)) rfl T.m_law_plus T.F_law_plus.kp T.b_law_plus .nil pass0 (qa_cons (qv 3) (qa_cons (qv 4) qa_nil star_name) star_name)) (qa_cons (qe_call (ok_law_minus T) (hr.mono (by decide)) rfl T.m_law_minus T.F_law_minus.kp T.b_law_minus .nil pass0 (qa_cons (qv 3) (qa_cons (qv 4) qa_nil star_name) star_name)) (qa_cons (qe_tup (qa_cons (qe_op op_sub qe_int (qe_ix ix_tup (qv 3) qe_int (fun _ _ => rfl))) (qa_cons (qe_ix ix_tup (qv 3) qe_int (fun _ _ => rfl)) qa_nil star_sub) star_bin)) (qa_cons (qe_tup (qa_cons (qe_op op_mul qe_int (qe_ix ix_tup (qv 3) qe_int (fun _ _ => rfl))) (qa_cons (qe_op op_mul qe_int (qe_ix ix_tup (qv 3) qe_int (fun _ _ => rfl))) qa_nil star_bin) star_bin)) qa_nil star_tup) star_tup) star_call) star_call)))
      (qss_cons (qs_set (i := 5) sc_law_bent.nd rfl (by first | exact Or.inl rfl | exact Or.inr rfl) (qe_op op_cat (qv 5) (qe_lst (qa_cons (qe_ix ix_tup (qv 3) qe_int (fun _ _ => rfl)) (qa_cons qe_non (qa_cons (qe_tup (qa_cons qe_bl (qa_cons qe_int qa_nil star_con) star_con)) (qa_cons (qe_tup (qa_cons (qe_ix ix_tup (qv 3) qe_int (fun _ _ => rfl)) (qa_cons (qe_op op_sub qe_int (qe_ix ix_tup (qv 3) qe_int (fun _ _ => rfl))) qa_nil star_bin) star_sub)) (qa_cons (qe_tup (qa_cons (qe_ix ix_tup (qv 3) qe_int (fun _ _ => rfl)) qa_nil star_sub)) (qa_cons (qe_callTy call_list_of (by rfl) T.z_list PyProof.Rows.boot_list (qa_cons (qv 3) qa_nil star_name)) (qa_cons (qe_tup (qa_cons (qe_ix ix_tup (qv 3) qe_int (fun _ _ => rfl)) (qa_cons qe_int qa_nil star_con) star_sub)) (qa_cons (qe_op op_catU (qv 3) (qe_tup (qa_cons qe_int qa_nil star_con))) (qa_cons qe_str qa_nil star_con) star_bin) star_tup) star_call) star_tup) star_tup) star_tup) star_con) star_sub))))
      (qss_cons (qs_set (i := 6) sc_law_bent.nd rfl (by first | exact Or.inl rfl | exact Or.inr rfl) (qe_call (ok_law_take T) (hr.mono (by decide)) rfl T.m_law_take T.F_law_take.kp T.b_law_take .nil pass0 (qa_cons (qv 0) (qa_cons qe_int qa_nil star_con) star_name)))
      (qss_cons (qs_if (qt_cmpR op_lt (qv 6) qe_int (nomark _)) (qss_one (qs_ret (qe_op op_catU (qe_op op_catU (qe_slice sl_tupU (qv 1) qo_none (qo_some (qv 2))) (qe_tup (qa_cons (qe_ix ix_list (qv 5) (qv 6) (fun _ _ => rfl)) qa_nil star_sub))) (qe_slice sl_tupU (qv 1) (qo_some (qe_op op_add (qv 2) qe_int)) qo_none)))) qss_nil)
      (qss_one (qs_ret (qe_ix ix_list (qe_lst (qa_cons (qe_op op_catU (qv 1) (qe_slice sl_tupU (qv 1) qo_none (qo_some qe_int))) (qa_cons (qe_slice sl_tupU (qv 1) qo_none (qo_some (qe_un un_neg qe_int))) (qa_cons (qe_callTy call_list_of (by rfl) T.z_list PyProof.Rows.boot_list (qa_cons (qv 1) qa_nil star_name)) (qa_cons (qe_rev (qv 1)) (qa_cons (qv 1) (qa_cons (qe_tup (qa_cons (qv 1) qa_nil star_name)) qa_nil star_tup) star_name) star_sub) star_call) star_sub) star_bin)) (qe_op op_sub (qv 6) qe_int) (fun _ _ => rfl))))))))))) ?_
  obtain ⟨_, _, _, _, nD, _, _⟩ := tp.ex
  have hd_ := tp.lst'
  have hxl := alp.len
  have S0 : Step t₁ H H := ⟨fun _ _ _ q => q, tp.lst, tp.lst⟩
  have tD := hd_tst (K := K) tp.lst nD hd_
  have dap : DeepAll K (hid H t₁ D) xs (rs.map dR) := (alp.mono fun _ _ q => q.mono tD).deep fun _ _ q => q.deep
  have dpp : Deep K (hid H t₁ D) (.ref pp) (.tuple (rs.map dR)) := .tup (tD _ _ hSp) dap
  have gep : ∀ d ∈ rs.map dR, Gd 1 5000 d := fun d hd => by
    obtain ⟨w, hw, rfl⟩ := List.mem_map.mp hd
    exact gd_dR ((wfs w hw).mono (by decide))
  have gdp : Gd 2 305191 (.tuple (rs.map dR)) := gTu 61 305191 gep (by rw [List.length_map]; exact r61)
  refine ⟨_, rfl, _, rfl, pp, _, rfl, .inr hSp, t₁, D, _, rfl, tp, by omega, by omega, fun ra1 za1 aa1 ba1 Ta1 => ?_⟩
  have Sa1 := Step.up (ys := za1) tp.lst.choose_spec
  replace S0 := S0.trans Sa1
  replace hd_ := hd_.imp fun _ q => Sa1.keep _ _ nD q
  replace hSp := tP Sa1 hSp
  replace alp := alp.mono fun _ _ q => q.mono (Tst.step (K := K) Sa1)
  replace dap := aP Sa1 dap
  replace dpp := dP Sa1 dpp
  replace tp := Ta1
  clear Ta1 Sa1
  generalize upd H t₁ (.lst za1) = Ha1 at S0 tp hd_ hSp alp dap dpp ⊢
  obtain ⟨at_, rfl⟩ := Int.eq_ofNat_of_zero_le aa1
  obtain ⟨xw, hxw⟩ : ∃ x, xs[at_]? = some x := ⟨_, List.getElem?_eq_getElem (by omega)⟩
  obtain ⟨⟨a, b⟩, hr0, po, rfl, hpo⟩ := alp.at hxw
  have wr := wfs _ (List.mem_of_getElem? hr0)
  have ba : a.natAbs < 2 ^ 62 := wr.top
  have bb : b.natAbs < 2 ^ 62 := wr.bot
  replace hpo : SqT K Ha1 po [V.int a, V.int b] := hpo
  have dao : DeepAll K (hid Ha1 t₁ D) [V.int a, V.int b] [PyData.int a, PyData.int b] := .cons (.int _) (.cons (.int _) .nil)
  have dpo : Deep K (hid Ha1 t₁ D) (.ref po) (.tuple [PyData.int a, PyData.int b]) := .tup (hd_tst (K := K) tp.lst nD hd_ _ _ hpo) dao
  have geo : ∀ d ∈ ([PyData.int a, PyData.int b] : List PyData), Gd 0 5000 d := gC (gd_int (by omega)) (gC (gd_int (by omega)) gN)
  have gdo := gTu 2 10014 geo
  refine ⟨_, rfl, _, rfl, pp, _, _, _, rfl, rfl, hSp, atI_nat hxw, (by show 3 ≤ sizeLine; decide), fun pa2 ga2 => ?_⟩
  obtain ⟨ea2, ha2, da2⟩ := nwO (o := (.lst [V.int (1), V.int (997), V.int (97)])) ga2 tp.lst hd_
  generalize upd Ha1 pa2 (.lst [V.int (1), V.int (997), V.int (97)]) = Ha2 at ea2 ha2 da2 ⊢
  have na2 := nwN ga2 tp.lst
  replace S0 := S0.trans (.same ea2 tp.lst)
  replace tp := tp.same ea2
  replace hd_ := hd_.imp fun _ q => ea2 _ _ q
  replace hSp := tS ea2 hSp
  replace alp := alp.mono fun _ _ q => q.mono (Tst.same (K := K) ea2)
  replace dap := aS ea2 dap
  replace dpp := dS ea2 dpp
  replace hpo := tS ea2 hpo
  replace dao := aS ea2 dao
  replace dpo := dS ea2 dpo
  have lsa2 := ha2
  have daa2 : DeepAll K (hid Ha2 t₁ D) [V.int (1), V.int (997), V.int (97)] [PyData.int (1), PyData.int (997), PyData.int (97)] := (.cons (.int _) (.cons (.int _) (.cons (.int _) .nil)))
  have dpa2 := dpL da2 daa2
  clear ea2 ha2 da2
  have gea2 : ∀ d ∈ ([PyData.int (1), PyData.int (997), PyData.int (97)] : List PyData), Gd 0 5000 d := (gC (gW (gd_int (by decide))) (gC (gW (gd_int (by decide))) (gC (gW (gd_int (by decide))) gN)))
  have gda2 := gLs 3 15017 gea2
  refine ⟨_, rfl, t₁, D, 3, rfl, tp, by decide, by decide, fun ra3 za3 aa3 ba3 Ta3 => ?_⟩
  have Sa3 := Step.up (ys := za3) tp.lst.choose_spec
  replace S0 := S0.trans Sa3
  replace hd_ := hd_.imp fun _ q => Sa3.keep _ _ nD q
  replace hSp := tP Sa3 hSp
  replace alp := alp.mono fun _ _ q => q.mono (Tst.step (K := K) Sa3)
  replace dap := aP Sa3 dap
  replace dpp := dP Sa3 dpp
  replace hpo := tP Sa3 hpo
  replace dao := aP Sa3 dao
  replace dpo := dP Sa3 dpo
  replace lsa2 := Sa3.keep _ _ na2 lsa2
  replace daa2 := aP Sa3 daa2
  replace dpa2 := dP Sa3 dpa2
  replace tp := Ta3
  clear Ta3 Sa3
  generalize upd Ha2 t₁ (.lst za3) = Ha3 at S0 tp hd_ hSp alp dap dpp hpo dao dpo lsa2 daa2 dpa2 ⊢
  obtain ⟨z, hz, z1, z2⟩ : ∃ z : Int, atI [V.int (1), V.int (997), V.int (97)] ra3 = some (.int z) ∧ 1 ≤ z ∧ z ≤ 997 := by
    rcases (show ra3 = 0 ∨ ra3 = 1 ∨ ra3 = 2 by omega) with rfl | rfl | rfl
    · exact ⟨1, rfl, by decide, by decide⟩
    · exact ⟨997, rfl, by decide, by decide⟩
    · exact ⟨97, rfl, by decide, by decide⟩
  have wl : Wf 10 ((1, z) : R) := ⟨by show 0 < z; omega, by show (1 : Int).natAbs < 1024; decide, by show z.natAbs < 1024; omega, by show Int.gcd 1 z = 1; simp⟩
  have wpl := plus_wf wr wl
  have wmi := minus_wf wr wl
  refine ⟨pa2, _, _, _, rfl, rfl, SqL.of lsa2, hz, (by show 2 ≤ sizeLine; decide), fun pa4 ga4 => ?_⟩
  obtain ⟨ea4, ha4, da4⟩ := nwO (o := (.tup [V.int (1), V.int (z)])) ga4 tp.lst hd_
  generalize upd Ha3 pa4 (.tup [V.int (1), V.int (z)]) = Ha4 at ea4 ha4 da4 ⊢
  replace S0 := S0.trans (.same ea4 tp.lst)
  replace tp := tp.same ea4
  replace hd_ := hd_.imp fun _ q => ea4 _ _ q
  replace hSp := tS ea4 hSp
  replace alp := alp.mono fun _ _ q => q.mono (Tst.same (K := K) ea4)
  replace dap := aS ea4 dap
  replace dpp := dS ea4 dpp
  replace hpo := tS ea4 hpo
  replace dao := aS ea4 dao
  replace dpo := dS ea4 dpo
  replace lsa2 := ea4 _ _ lsa2
  replace daa2 := aS ea4 daa2
  replace dpa2 := dS ea4 dpa2
  have sqa4 := SqT.of (K := K) ha4
  have daa4 : DeepAll K (hid Ha4 t₁ D) [V.int (1), V.int (z)] [PyData.int (1), PyData.int (z)] := (.cons (.int _) (.cons (.int _) .nil))
  have dpa4 := dpT da4 daa4
  clear ea4 ha4 da4
  have gea4 : ∀ d ∈ ([PyData.int (1), PyData.int (z)] : List PyData), Gd 0 5000 d := (gC (gW (gd_int (by decide))) (gC (gW (gd_int (by omega))) gN))
  have gda4 := gTu 2 10014 gea4
  refine ⟨_, rfl, _, rfl, .ref po, .ref pa4, (a, b), (1, z), 62, 10, rfl, ⟨_, rfl, hpo⟩, ⟨_, rfl, sqa4⟩, wr, wl, by decide, fun pa5 ga5 => ?_⟩
  obtain ⟨ea5, ha5, da5⟩ := nwO (o := (.tup [V.int ((plusR (a, b) (1, z)).1), V.int ((plusR (a, b) (1, z)).2)])) ga5 tp.lst hd_
  generalize upd Ha4 pa5 (.tup [V.int ((plusR (a, b) (1, z)).1), V.int ((plusR (a, b) (1, z)).2)]) = Ha5 at ea5 ha5 da5 ⊢
  replace S0 := S0.trans (.same ea5 tp.lst)
  replace tp := tp.same ea5
  replace hd_ := hd_.imp fun _ q => ea5 _ _ q
  replace hSp := tS ea5 hSp
  replace alp := alp.mono fun _ _ q => q.mono (Tst.same (K := K) ea5)
  replace dap := aS ea5 dap
  replace dpp := dS ea5 dpp
  replace hpo := tS ea5 hpo
  replace dao := aS ea5 dao
  replace dpo := dS ea5 dpo
  replace lsa2 := ea5 _ _ lsa2
  replace daa2 := aS ea5 daa2
  replace dpa2 := dS ea5 dpa2
  replace sqa4 := tS ea5 sqa4
  replace daa4 := aS ea5 daa4
  replace dpa4 := dS ea5 dpa4
  have daa5 : DeepAll K (hid Ha5 t₁ D) [V.int ((plusR (a, b) (1, z)).1), V.int ((plusR (a, b) (1, z)).2)] [PyData.int ((plusR (a, b) (1, z)).1), PyData.int ((plusR (a, b) (1, z)).2)] := .cons (.int _) (.cons (.int _) .nil)
  have dpa5 := dpT da5 daa5
  clear ea5 ha5 da5
  have gea5 : ∀ d ∈ ([PyData.int ((plusR (a, b) (1, z)).1), PyData.int ((plusR (a, b) (1, z)).2)] : List PyData), Gd 0 5000 d := (gC (gW (gd_int (Nat.lt_of_lt_of_le wpl.top (by decide)))) (gC (gW (gd_int (Nat.lt_of_lt_of_le wpl.bot (by decide)))) gN))
  have gda5 := gTu 2 10014 gea5
  refine ⟨_, rfl, _, rfl, .ref po, .ref pa4, (a, b), (1, z), 62, 10, rfl, ⟨_, rfl, hpo⟩, ⟨_, rfl, sqa4⟩, wr, wl, by decide, fun pa6 ga6 => ?_⟩
  obtain ⟨ea6, ha6, da6⟩ := nwO (o := (.tup [V.int ((minusR (a, b) (1, z)).1), V.int ((minusR (a, b) (1, z)).2)])) ga6 tp.lst hd_
  generalize upd Ha5 pa6 (.tup [V.int ((minusR (a, b) (1, z)).1), V.int ((minusR (a, b) (1, z)).2)]) = Ha6 at ea6 ha6 da6 ⊢
  replace S0 := S0.trans (.same ea6 tp.lst)
  replace tp := tp.same ea6
  replace hd_ := hd_.imp fun _ q => ea6 _ _ q
  replace hSp := tS ea6 hSp
  replace alp := alp.mono fun _ _ q => q.mono (Tst.same (K := K) ea6)
  replace dap := aS ea6 dap
  replace dpp := dS ea6 dpp
  replace hpo := tS ea6 hpo
  replace dao := aS ea6 dao
  replace dpo := dS ea6 dpo
  replace lsa2 := ea6 _ _ lsa2
  replace daa2 := aS ea6 daa2
  replace dpa2 := dS ea6 dpa2
  replace sqa4 := tS ea6 sqa4
  replace daa4 := aS ea6 daa4
  replace dpa4 := dS ea6 dpa4
  replace daa5 := aS ea6 daa5
  replace dpa5 := dS ea6 dpa5
  have daa6 : DeepAll K (hid Ha6 t₁ D) [V.int ((minusR (a, b) (1, z)).1), V.int ((minusR (a, b) (1, z)).2)] [PyData.int ((minusR (a, b) (1, z)).1), PyData.int ((minusR (a, b) (1, z)).2)] := .cons (.int _) (.cons (.int _) .nil)
  have dpa6 := dpT da6 daa6
  clear ea6 ha6 da6
  have gea6 : ∀ d ∈ ([PyData.int ((minusR (a, b) (1, z)).1), PyData.int ((minusR (a, b) (1, z)).2)] : List PyData), Gd 0 5000 d := (gC (gW (gd_int (Nat.lt_of_lt_of_le wmi.top (by decide)))) (gC (gW (gd_int (Nat.lt_of_lt_of_le wmi.bot (by decide)))) gN))
  have gda6 := gTu 2 10014 gea6
  refine ⟨_, rfl, po, _, _, _, rfl, rfl, hpo, rfl, _, _, rfl, rfl, _, rfl, po, _, _, _, rfl, rfl, hpo, rfl, (by show 2 ≤ sizeLine; decide), fun pa7 ga7 => ?_⟩
  obtain ⟨ea7, ha7, da7⟩ := nwO (o := (.tup [V.int (0 - a), V.int (b)])) ga7 tp.lst hd_
  generalize upd Ha6 pa7 (.tup [V.int (0 - a), V.int (b)]) = Ha7 at ea7 ha7 da7 ⊢
  replace S0 := S0.trans (.same ea7 tp.lst)
  replace tp := tp.same ea7
  replace hd_ := hd_.imp fun _ q => ea7 _ _ q
  replace hSp := tS ea7 hSp
  replace alp := alp.mono fun _ _ q => q.mono (Tst.same (K := K) ea7)
  replace dap := aS ea7 dap
  replace dpp := dS ea7 dpp
  replace hpo := tS ea7 hpo
  replace dao := aS ea7 dao
  replace dpo := dS ea7 dpo
  replace lsa2 := ea7 _ _ lsa2
  replace daa2 := aS ea7 daa2
  replace dpa2 := dS ea7 dpa2
  replace sqa4 := tS ea7 sqa4
  replace daa4 := aS ea7 daa4
  replace dpa4 := dS ea7 dpa4
  replace daa5 := aS ea7 daa5
  replace dpa5 := dS ea7 dpa5
  replace daa6 := aS ea7 daa6
  replace dpa6 := dS ea7 dpa6
  have sqa7 := SqT.of (K := K) ha7
  have daa7 : DeepAll K (hid Ha7 t₁ D) [V.int (0 - a), V.int (b)] [PyData.int (0 - a), PyData.int (b)] := (.cons (.int _) (.cons (.int _) .nil))
  have dpa7 := dpT da7 daa7
  clear ea7 ha7 da7
  have gea7 : ∀ d ∈ ([PyData.int (0 - a), PyData.int (b)] : List PyData), Gd 0 5000 d := (gC (gW (gd_int (by omega))) (gC (gW (gd_int (by omega))) gN))
  have gda7 := gTu 2 10014 gea7
  refine ⟨_, rfl, po, _, _, _, rfl, rfl, hpo, rfl, _, _, rfl, rfl, .inl ⟨by decide, by decide⟩, _, rfl, po, _, _, _, rfl, rfl, hpo, rfl, _, _, rfl, rfl, .inl ⟨by decide, by decide⟩, (by show 2 ≤ sizeLine; decide), fun pa8 ga8 => ?_⟩
  obtain ⟨ea8, ha8, da8⟩ := nwO (o := (.tup [V.int (2 * a), V.int (2 * b)])) ga8 tp.lst hd_
  generalize upd Ha7 pa8 (.tup [V.int (2 * a), V.int (2 * b)]) = Ha8 at ea8 ha8 da8 ⊢
  replace S0 := S0.trans (.same ea8 tp.lst)
  replace tp := tp.same ea8
  replace hd_ := hd_.imp fun _ q => ea8 _ _ q
  replace hSp := tS ea8 hSp
  replace alp := alp.mono fun _ _ q => q.mono (Tst.same (K := K) ea8)
  replace dap := aS ea8 dap
  replace dpp := dS ea8 dpp
  replace hpo := tS ea8 hpo
  replace dao := aS ea8 dao
  replace dpo := dS ea8 dpo
  replace lsa2 := ea8 _ _ lsa2
  replace daa2 := aS ea8 daa2
  replace dpa2 := dS ea8 dpa2
  replace sqa4 := tS ea8 sqa4
  replace daa4 := aS ea8 daa4
  replace dpa4 := dS ea8 dpa4
  replace daa5 := aS ea8 daa5
  replace dpa5 := dS ea8 dpa5
  replace daa6 := aS ea8 daa6
  replace dpa6 := dS ea8 dpa6
  replace sqa7 := tS ea8 sqa7
  replace daa7 := aS ea8 daa7
  replace dpa7 := dS ea8 dpa7
  have sqa8 := SqT.of (K := K) ha8
  have daa8 : DeepAll K (hid Ha8 t₁ D) [V.int (2 * a), V.int (2 * b)] [PyData.int (2 * a), PyData.int (2 * b)] := (.cons (.int _) (.cons (.int _) .nil))
  have dpa8 := dpT da8 daa8
  clear ea8 ha8 da8
  have gea8 : ∀ d ∈ ([PyData.int (2 * a), PyData.int (2 * b)] : List PyData), Gd 0 5000 d := (gC (gW (gd_int (by omega))) (gC (gW (gd_int (by omega))) gN))
  have gda8 := gTu 2 10014 gea8
  refine ⟨(by show 4 ≤ sizeLine; decide), fun pa9 ga9 => ?_⟩
  obtain ⟨ea9, ha9, da9⟩ := nwO (o := (.lst [V.ref pa5, V.ref pa6, V.ref pa7, V.ref pa8])) ga9 tp.lst hd_
  generalize upd Ha8 pa9 (.lst [V.ref pa5, V.ref pa6, V.ref pa7, V.ref pa8]) = Ha9 at ea9 ha9 da9 ⊢
  have na9 := nwN ga9 tp.lst
  replace S0 := S0.trans (.same ea9 tp.lst)
  replace tp := tp.same ea9
  replace hd_ := hd_.imp fun _ q => ea9 _ _ q
  replace hSp := tS ea9 hSp
  replace alp := alp.mono fun _ _ q => q.mono (Tst.same (K := K) ea9)
  replace dap := aS ea9 dap
  replace dpp := dS ea9 dpp
  replace hpo := tS ea9 hpo
  replace dao := aS ea9 dao
  replace dpo := dS ea9 dpo
  replace lsa2 := ea9 _ _ lsa2
  replace daa2 := aS ea9 daa2
  replace dpa2 := dS ea9 dpa2
  replace sqa4 := tS ea9 sqa4
  replace daa4 := aS ea9 daa4
  replace dpa4 := dS ea9 dpa4
  replace daa5 := aS ea9 daa5
  replace dpa5 := dS ea9 dpa5
  replace daa6 := aS ea9 daa6
  replace dpa6 := dS ea9 dpa6
  replace sqa7 := tS ea9 sqa7
  replace daa7 := aS ea9 daa7
  replace dpa7 := dS ea9 dpa7
  replace sqa8 := tS ea9 sqa8
  replace daa8 := aS ea9 daa8
  replace dpa8 := dS ea9 dpa8
  have lsa9 := ha9
  have daa9 : DeepAll K (hid Ha9 t₁ D) [V.ref pa5, V.ref pa6, V.ref pa7, V.ref pa8] [PyData.tuple [PyData.int ((plusR (a, b) (1, z)).1), PyData.int ((plusR (a, b) (1, z)).2)], PyData.tuple [PyData.int ((minusR (a, b) (1, z)).1), PyData.int ((minusR (a, b) (1, z)).2)], PyData.tuple [PyData.int (0 - a), PyData.int (b)], PyData.tuple [PyData.int (2 * a), PyData.int (2 * b)]] := (.cons dpa5 (.cons dpa6 (.cons dpa7 (.cons dpa8 .nil))))
  have dpa9 := dpL da9 daa9
  clear ea9 ha9 da9
  have gea9 : ∀ d ∈ ([PyData.tuple [PyData.int ((plusR (a, b) (1, z)).1), PyData.int ((plusR (a, b) (1, z)).2)], PyData.tuple [PyData.int ((minusR (a, b) (1, z)).1), PyData.int ((minusR (a, b) (1, z)).2)], PyData.tuple [PyData.int (0 - a), PyData.int (b)], PyData.tuple [PyData.int (2 * a), PyData.int (2 * b)]] : List PyData), Gd 1 10014 d := (gC (gW gda5) (gC (gW gda6) (gC (gW gda7) (gC (gW gda8) gN))))
  have gda9 := gLs 4 40076 gea9
  refine ⟨_, rfl, _, rfl, po, _, _, _, rfl, rfl, hpo, rfl, (by show 2 ≤ sizeLine; decide), fun pa10 ga10 => ?_⟩
  obtain ⟨ea10, ha10, da10⟩ := nwO (o := (.tup [V.bl true, V.int (1)])) ga10 tp.lst hd_
  generalize upd Ha9 pa10 (.tup [V.bl true, V.int (1)]) = Ha10 at ea10 ha10 da10 ⊢
  replace S0 := S0.trans (.same ea10 tp.lst)
  replace tp := tp.same ea10
  replace hd_ := hd_.imp fun _ q => ea10 _ _ q
  replace hSp := tS ea10 hSp
  replace alp := alp.mono fun _ _ q => q.mono (Tst.same (K := K) ea10)
  replace dap := aS ea10 dap
  replace dpp := dS ea10 dpp
  replace hpo := tS ea10 hpo
  replace dao := aS ea10 dao
  replace dpo := dS ea10 dpo
  replace lsa2 := ea10 _ _ lsa2
  replace daa2 := aS ea10 daa2
  replace dpa2 := dS ea10 dpa2
  replace sqa4 := tS ea10 sqa4
  replace daa4 := aS ea10 daa4
  replace dpa4 := dS ea10 dpa4
  replace daa5 := aS ea10 daa5
  replace dpa5 := dS ea10 dpa5
  replace daa6 := aS ea10 daa6
  replace dpa6 := dS ea10 dpa6
  replace sqa7 := tS ea10 sqa7
  replace daa7 := aS ea10 daa7
  replace dpa7 := dS ea10 dpa7
  replace sqa8 := tS ea10 sqa8
  replace daa8 := aS ea10 daa8
  replace dpa8 := dS ea10 dpa8
  replace lsa9 := ea10 _ _ lsa9
  replace daa9 := aS ea10 daa9
  replace dpa9 := dS ea10 dpa9
  have sqa10 := SqT.of (K := K) ha10
  have daa10 : DeepAll K (hid Ha10 t₁ D) [V.bl true, V.int (1)] [PyData.bool true, PyData.int (1)] := (.cons (.bl _) (.cons (.int _) .nil))
  have dpa10 := dpT da10 daa10
  clear ea10 ha10 da10
  have gea10 : ∀ d ∈ ([PyData.bool true, PyData.int (1)] : List PyData), Gd 0 5000 d := (gC (gW (gd_bool true)) (gC (gW (gd_int (by decide))) gN))
  have gda10 := gTu 2 10014 gea10
  refine ⟨_, rfl, po, _, _, _, rfl, rfl, hpo, rfl, _, rfl, po, _, _, _, rfl, rfl, hpo, rfl, _, _, rfl, rfl, (by show 2 ≤ sizeLine; decide), fun pa11 ga11 => ?_⟩
  obtain ⟨ea11, ha11, da11⟩ := nwO (o := (.tup [V.int (a), V.int (0 - b)])) ga11 tp.lst hd_
  generalize upd Ha10 pa11 (.tup [V.int (a), V.int (0 - b)]) = Ha11 at ea11 ha11 da11 ⊢
  replace S0 := S0.trans (.same ea11 tp.lst)
  replace tp := tp.same ea11
  replace hd_ := hd_.imp fun _ q => ea11 _ _ q
  replace hSp := tS ea11 hSp
  replace alp := alp.mono fun _ _ q => q.mono (Tst.same (K := K) ea11)
  replace dap := aS ea11 dap
  replace dpp := dS ea11 dpp
  replace hpo := tS ea11 hpo
  replace dao := aS ea11 dao
  replace dpo := dS ea11 dpo
  replace lsa2 := ea11 _ _ lsa2
  replace daa2 := aS ea11 daa2
  replace dpa2 := dS ea11 dpa2
  replace sqa4 := tS ea11 sqa4
  replace daa4 := aS ea11 daa4
  replace dpa4 := dS ea11 dpa4
  replace daa5 := aS ea11 daa5
  replace dpa5 := dS ea11 dpa5
  replace daa6 := aS ea11 daa6
  replace dpa6 := dS ea11 dpa6
  replace sqa7 := tS ea11 sqa7
  replace daa7 := aS ea11 daa7
  replace dpa7 := dS ea11 dpa7
  replace sqa8 := tS ea11 sqa8
  replace daa8 := aS ea11 daa8
  replace dpa8 := dS ea11 dpa8
  replace lsa9 := ea11 _ _ lsa9
  replace daa9 := aS ea11 daa9
  replace dpa9 := dS ea11 dpa9
  replace sqa10 := tS ea11 sqa10
  replace daa10 := aS ea11 daa10
  replace dpa10 := dS ea11 dpa10
  have sqa11 := SqT.of (K := K) ha11
  have daa11 : DeepAll K (hid Ha11 t₁ D) [V.int (a), V.int (0 - b)] [PyData.int (a), PyData.int (0 - b)] := (.cons (.int _) (.cons (.int _) .nil))
  have dpa11 := dpT da11 daa11
  clear ea11 ha11 da11
  have gea11 : ∀ d ∈ ([PyData.int (a), PyData.int (0 - b)] : List PyData), Gd 0 5000 d := (gC (gW (gd_int (by omega))) (gC (gW (gd_int (by omega))) gN))
  have gda11 := gTu 2 10014 gea11
  refine ⟨_, rfl, po, _, _, _, rfl, rfl, hpo, rfl, (by show 1 ≤ sizeLine; decide), fun pa12 ga12 => ?_⟩
  obtain ⟨ea12, ha12, da12⟩ := nwO (o := (.tup [V.int (a)])) ga12 tp.lst hd_
  generalize upd Ha11 pa12 (.tup [V.int (a)]) = Ha12 at ea12 ha12 da12 ⊢
  replace S0 := S0.trans (.same ea12 tp.lst)
  replace tp := tp.same ea12
  replace hd_ := hd_.imp fun _ q => ea12 _ _ q
  replace hSp := tS ea12 hSp
  replace alp := alp.mono fun _ _ q => q.mono (Tst.same (K := K) ea12)
  replace dap := aS ea12 dap
  replace dpp := dS ea12 dpp
  replace hpo := tS ea12 hpo
  replace dao := aS ea12 dao
  replace dpo := dS ea12 dpo
  replace lsa2 := ea12 _ _ lsa2
  replace daa2 := aS ea12 daa2
  replace dpa2 := dS ea12 dpa2
  replace sqa4 := tS ea12 sqa4
  replace daa4 := aS ea12 daa4
  replace dpa4 := dS ea12 dpa4
  replace daa5 := aS ea12 daa5
  replace dpa5 := dS ea12 dpa5
  replace daa6 := aS ea12 daa6
  replace dpa6 := dS ea12 dpa6
  replace sqa7 := tS ea12 sqa7
  replace daa7 := aS ea12 daa7
  replace dpa7 := dS ea12 dpa7
  replace sqa8 := tS ea12 sqa8
  replace daa8 := aS ea12 daa8
  replace dpa8 := dS ea12 dpa8
  replace lsa9 := ea12 _ _ lsa9
  replace daa9 := aS ea12 daa9
  replace dpa9 := dS ea12 dpa9
  replace sqa10 := tS ea12 sqa10
  replace daa10 := aS ea12 daa10
  replace dpa10 := dS ea12 dpa10
  replace sqa11 := tS ea12 sqa11
  replace daa11 := aS ea12 daa11
  replace dpa11 := dS ea12 dpa11
  have sqa12 := SqT.of (K := K) ha12
  have daa12 : DeepAll K (hid Ha12 t₁ D) [V.int (a)] [PyData.int (a)] := (.cons (.int _) .nil)
  have dpa12 := dpT da12 daa12
  clear ea12 ha12 da12
  have gea12 : ∀ d ∈ ([PyData.int (a)] : List PyData), Gd 0 5000 d := (gC (gW (gd_int (by omega))) gN)
  have gda12 := gTu 1 5011 gea12
  refine ⟨_, rfl, po, _, rfl, .inr hpo, fun pa13 ga13 => ?_⟩
  obtain ⟨ea13, ha13, da13⟩ := nwO (o := (.lst [V.int a, V.int b])) ga13 tp.lst hd_
  generalize upd Ha12 pa13 (.lst [V.int a, V.int b]) = Ha13 at ea13 ha13 da13 ⊢
  have na13 := nwN ga13 tp.lst
  replace S0 := S0.trans (.same ea13 tp.lst)
  replace tp := tp.same ea13
  replace hd_ := hd_.imp fun _ q => ea13 _ _ q
  replace hSp := tS ea13 hSp
  replace alp := alp.mono fun _ _ q => q.mono (Tst.same (K := K) ea13)
  replace dap := aS ea13 dap
  replace dpp := dS ea13 dpp
  replace hpo := tS ea13 hpo
  replace dao := aS ea13 dao
  replace dpo := dS ea13 dpo
  replace lsa2 := ea13 _ _ lsa2
  replace daa2 := aS ea13 daa2
  replace dpa2 := dS ea13 dpa2
  replace sqa4 := tS ea13 sqa4
  replace daa4 := aS ea13 daa4
  replace dpa4 := dS ea13 dpa4
  replace daa5 := aS ea13 daa5
  replace dpa5 := dS ea13 dpa5
  replace daa6 := aS ea13 daa6
  replace dpa6 := dS ea13 dpa6
  replace sqa7 := tS ea13 sqa7
  replace daa7 := aS ea13 daa7
  replace dpa7 := dS ea13 dpa7
  replace sqa8 := tS ea13 sqa8
  replace daa8 := aS ea13 daa8
  replace dpa8 := dS ea13 dpa8
  replace lsa9 := ea13 _ _ lsa9
  replace daa9 := aS ea13 daa9
  replace dpa9 := dS ea13 dpa9
  replace sqa10 := tS ea13 sqa10
  replace daa10 := aS ea13 daa10
  replace dpa10 := dS ea13 dpa10
  replace sqa11 := tS ea13 sqa11
  replace daa11 := aS ea13 daa11
  replace dpa11 := dS ea13 dpa11
  replace sqa12 := tS ea13 sqa12
  replace daa12 := aS ea13 daa12
  replace dpa12 := dS ea13 dpa12
  have lsa13 : Ha13 pa13 = some (.lst [V.int a, V.int b]) := ha13
  have dpa13 : Deep K (hid Ha13 t₁ D) (.ref pa13) (.list [PyData.int a, PyData.int b]) := .lst (SqL.of da13) dao
  clear ea13 ha13 da13
  have gda13 : Gd 1 10014 (.list [PyData.int a, PyData.int b]) := Gd.lst (m := 2) geo (by first | omega | (simp <;> omega)) (by decide)
  refine ⟨_, rfl, po, _, _, _, rfl, rfl, hpo, rfl, (by show 2 ≤ sizeLine; decide), fun pa14 ga14 => ?_⟩
  obtain ⟨ea14, ha14, da14⟩ := nwO (o := (.tup [V.int (a), V.int (0)])) ga14 tp.lst hd_
  generalize upd Ha13 pa14 (.tup [V.int (a), V.int (0)]) = Ha14 at ea14 ha14 da14 ⊢
  replace S0 := S0.trans (.same ea14 tp.lst)
  replace tp := tp.same ea14
  replace hd_ := hd_.imp fun _ q => ea14 _ _ q
  replace hSp := tS ea14 hSp
  replace alp := alp.mono fun _ _ q => q.mono (Tst.same (K := K) ea14)
  replace dap := aS ea14 dap
  replace dpp := dS ea14 dpp
  replace hpo := tS ea14 hpo
  replace dao := aS ea14 dao
  replace dpo := dS ea14 dpo
  replace lsa2 := ea14 _ _ lsa2
  replace daa2 := aS ea14 daa2
  replace dpa2 := dS ea14 dpa2
  replace sqa4 := tS ea14 sqa4
  replace daa4 := aS ea14 daa4
  replace dpa4 := dS ea14 dpa4
  replace daa5 := aS ea14 daa5
  replace dpa5 := dS ea14 dpa5
  replace daa6 := aS ea14 daa6
  replace dpa6 := dS ea14 dpa6
  replace sqa7 := tS ea14 sqa7
  replace daa7 := aS ea14 daa7
  replace dpa7 := dS ea14 dpa7
  replace sqa8 := tS ea14 sqa8
  replace daa8 := aS ea14 daa8
  replace dpa8 := dS ea14 dpa8
  replace lsa9 := ea14 _ _ lsa9
  replace daa9 := aS ea14 daa9
  replace dpa9 := dS ea14 dpa9
  replace sqa10 := tS ea14 sqa10
  replace daa10 := aS ea14 daa10
  replace dpa10 := dS ea14 dpa10
  replace sqa11 := tS ea14 sqa11
  replace daa11 := aS ea14 daa11
  replace dpa11 := dS ea14 dpa11
  replace sqa12 := tS ea14 sqa12
  replace daa12 := aS ea14 daa12
  replace dpa12 := dS ea14 dpa12
  replace lsa13 := ea14 _ _ lsa13
  replace dpa13 := dS ea14 dpa13
  have sqa14 := SqT.of (K := K) ha14
  have daa14 : DeepAll K (hid Ha14 t₁ D) [V.int (a), V.int (0)] [PyData.int (a), PyData.int (0)] := (.cons (.int _) (.cons (.int _) .nil))
  have dpa14 := dpT da14 daa14
  clear ea14 ha14 da14
  have gea14 : ∀ d ∈ ([PyData.int (a), PyData.int (0)] : List PyData), Gd 0 5000 d := (gC (gW (gd_int (by omega))) (gC (gW (gd_int (by decide))) gN))
  have gda14 := gTu 2 10014 gea14
  refine ⟨_, rfl, (by show 1 ≤ sizeLine; decide), fun pa15 ga15 => ?_⟩
  obtain ⟨ea15, ha15, da15⟩ := nwO (o := (.tup [V.int (1)])) ga15 tp.lst hd_
  generalize upd Ha14 pa15 (.tup [V.int (1)]) = Ha15 at ea15 ha15 da15 ⊢
  replace S0 := S0.trans (.same ea15 tp.lst)
  replace tp := tp.same ea15
  replace hd_ := hd_.imp fun _ q => ea15 _ _ q
  replace hSp := tS ea15 hSp
  replace alp := alp.mono fun _ _ q => q.mono (Tst.same (K := K) ea15)
  replace dap := aS ea15 dap
  replace dpp := dS ea15 dpp
  replace hpo := tS ea15 hpo
  replace dao := aS ea15 dao
  replace dpo := dS ea15 dpo
  replace lsa2 := ea15 _ _ lsa2
  replace daa2 := aS ea15 daa2
  replace dpa2 := dS ea15 dpa2
  replace sqa4 := tS ea15 sqa4
  replace daa4 := aS ea15 daa4
  replace dpa4 := dS ea15 dpa4
  replace daa5 := aS ea15 daa5
  replace dpa5 := dS ea15 dpa5
  replace daa6 := aS ea15 daa6
  replace dpa6 := dS ea15 dpa6
  replace sqa7 := tS ea15 sqa7
  replace daa7 := aS ea15 daa7
  replace dpa7 := dS ea15 dpa7
  replace sqa8 := tS ea15 sqa8
  replace daa8 := aS ea15 daa8
  replace dpa8 := dS ea15 dpa8
  replace lsa9 := ea15 _ _ lsa9
  replace daa9 := aS ea15 daa9
  replace dpa9 := dS ea15 dpa9
  replace sqa10 := tS ea15 sqa10
  replace daa10 := aS ea15 daa10
  replace dpa10 := dS ea15 dpa10
  replace sqa11 := tS ea15 sqa11
  replace daa11 := aS ea15 daa11
  replace dpa11 := dS ea15 dpa11
  replace sqa12 := tS ea15 sqa12
  replace daa12 := aS ea15 daa12
  replace dpa12 := dS ea15 dpa12
  replace lsa13 := ea15 _ _ lsa13
  replace dpa13 := dS ea15 dpa13
  replace sqa14 := tS ea15 sqa14
  replace daa14 := aS ea15 daa14
  replace dpa14 := dS ea15 dpa14
  have sqa15 := SqT.of (K := K) ha15
  have daa15 : DeepAll K (hid Ha15 t₁ D) [V.int (1)] [PyData.int (1)] := (.cons (.int _) .nil)
  have dpa15 := dpT da15 daa15
  clear ea15 ha15 da15
  have gea15 : ∀ d ∈ ([PyData.int (1)] : List PyData), Gd 0 5000 d := (gC (gW (gd_int (by decide))) gN)
  have gda15 := gTu 1 5011 gea15
  refine ⟨po, pa15, _, _, rfl, rfl, hpo, sqa15, Nat.le_trans (show _ ≤ 1000 by first | omega | (simp <;> omega)) (by show 1000 ≤ sizeLine; decide), fun pa16 Ha16 ea16 ca16 => ?_⟩
  replace S0 := S0.trans (.same ea16 tp.lst)
  replace tp := tp.same ea16
  replace hd_ := hd_.imp fun _ q => ea16 _ _ q
  replace hSp := tS ea16 hSp
  replace alp := alp.mono fun _ _ q => q.mono (Tst.same (K := K) ea16)
  replace dap := aS ea16 dap
  replace dpp := dS ea16 dpp
  replace hpo := tS ea16 hpo
  replace dao := aS ea16 dao
  replace dpo := dS ea16 dpo
  replace lsa2 := ea16 _ _ lsa2
  replace daa2 := aS ea16 daa2
  replace dpa2 := dS ea16 dpa2
  replace sqa4 := tS ea16 sqa4
  replace daa4 := aS ea16 daa4
  replace dpa4 := dS ea16 dpa4
  replace daa5 := aS ea16 daa5
  replace dpa5 := dS ea16 dpa5
  replace daa6 := aS ea16 daa6
  replace dpa6 := dS ea16 dpa6
  replace sqa7 := tS ea16 sqa7
  replace daa7 := aS ea16 daa7
  replace dpa7 := dS ea16 dpa7
  replace sqa8 := tS ea16 sqa8
  replace daa8 := aS ea16 daa8
  replace dpa8 := dS ea16 dpa8
  replace lsa9 := ea16 _ _ lsa9
  replace daa9 := aS ea16 daa9
  replace dpa9 := dS ea16 dpa9
  replace sqa10 := tS ea16 sqa10
  replace daa10 := aS ea16 daa10
  replace dpa10 := dS ea16 dpa10
  replace sqa11 := tS ea16 sqa11
  replace daa11 := aS ea16 daa11
  replace dpa11 := dS ea16 dpa11
  replace sqa12 := tS ea16 sqa12
  replace daa12 := aS ea16 daa12
  replace dpa12 := dS ea16 dpa12
  replace lsa13 := ea16 _ _ lsa13
  replace dpa13 := dS ea16 dpa13
  replace sqa14 := tS ea16 sqa14
  replace daa14 := aS ea16 daa14
  replace dpa14 := dS ea16 dpa14
  replace sqa15 := tS ea16 sqa15
  replace daa15 := aS ea16 daa15
  replace dpa15 := dS ea16 dpa15
  have sqa16 : SqT K Ha16 pa16 ([V.int a, V.int b] ++ [V.int (1)]) := ca16
  have daa16 : DeepAll K (hid Ha16 t₁ D) ([V.int a, V.int b] ++ [V.int (1)]) ([PyData.int a, PyData.int b] ++ [PyData.int (1)]) := DeepAll.app dao daa15
  have dpa16 : Deep K (hid Ha16 t₁ D) (.ref pa16) (.tuple ([PyData.int a, PyData.int b] ++ [PyData.int (1)])) := .tup (hd_tst (K := K) tp.lst nD hd_ _ _ ca16) daa16
  clear ea16
  have gea16 : ∀ d ∈ ([PyData.int a, PyData.int b] ++ [PyData.int (1)] : List PyData), Gd 0 5000 d := (gd_app (gd_wide (by decide) (by decide) geo) (gd_wide (by decide) (by decide) gea15))
  have gda16 : Gd 1 15017 (.tuple ([PyData.int a, PyData.int b] ++ [PyData.int (1)])) := Gd.tup (m := 3) gea16 (by first | omega | (simp <;> omega)) (by decide)
  refine ⟨(by show 9 ≤ sizeLine; decide), fun pa17 ga17 => ?_⟩
  obtain ⟨ea17, ha17, da17⟩ := nwO (o := (.lst [V.int (a), V.non, V.ref pa10, V.ref pa11, V.ref pa12, V.ref pa13, V.ref pa14, V.ref pa16, V.str (Str.ofString "1")])) ga17 tp.lst hd_
  generalize upd Ha16 pa17 (.lst [V.int (a), V.non, V.ref pa10, V.ref pa11, V.ref pa12, V.ref pa13, V.ref pa14, V.ref pa16, V.str (Str.ofString "1")]) = Ha17 at ea17 ha17 da17 ⊢
  have na17 := nwN ga17 tp.lst
  replace S0 := S0.trans (.same ea17 tp.lst)
  replace tp := tp.same ea17
  replace hd_ := hd_.imp fun _ q => ea17 _ _ q
  replace hSp := tS ea17 hSp
  replace alp := alp.mono fun _ _ q => q.mono (Tst.same (K := K) ea17)
  replace dap := aS ea17 dap
  replace dpp := dS ea17 dpp
  replace hpo := tS ea17 hpo
  replace dao := aS ea17 dao
  replace dpo := dS ea17 dpo
  replace lsa2 := ea17 _ _ lsa2
  replace daa2 := aS ea17 daa2
  replace dpa2 := dS ea17 dpa2
  replace sqa4 := tS ea17 sqa4
  replace daa4 := aS ea17 daa4
  replace dpa4 := dS ea17 dpa4
  replace daa5 := aS ea17 daa5
  replace dpa5 := dS ea17 dpa5
  replace daa6 := aS ea17 daa6
  replace dpa6 := dS ea17 dpa6
  replace sqa7 := tS ea17 sqa7
  replace daa7 := aS ea17 daa7
  replace dpa7 := dS ea17 dpa7
  replace sqa8 := tS ea17 sqa8
  replace daa8 := aS ea17 daa8
  replace dpa8 := dS ea17 dpa8
  replace lsa9 := ea17 _ _ lsa9
  replace daa9 := aS ea17 daa9
  replace dpa9 := dS ea17 dpa9
  replace sqa10 := tS ea17 sqa10
  replace daa10 := aS ea17 daa10
  replace dpa10 := dS ea17 dpa10
  replace sqa11 := tS ea17 sqa11
  replace daa11 := aS ea17 daa11
  replace dpa11 := dS ea17 dpa11
  replace sqa12 := tS ea17 sqa12
  replace daa12 := aS ea17 daa12
  replace dpa12 := dS ea17 dpa12
  replace lsa13 := ea17 _ _ lsa13
  replace dpa13 := dS ea17 dpa13
  replace sqa14 := tS ea17 sqa14
  replace daa14 := aS ea17 daa14
  replace dpa14 := dS ea17 dpa14
  replace sqa15 := tS ea17 sqa15
  replace daa15 := aS ea17 daa15
  replace dpa15 := dS ea17 dpa15
  replace sqa16 := tS ea17 sqa16
  replace daa16 := aS ea17 daa16
  replace dpa16 := dS ea17 dpa16
  have lsa17 := ha17
  have daa17 : DeepAll K (hid Ha17 t₁ D) [V.int (a), V.non, V.ref pa10, V.ref pa11, V.ref pa12, V.ref pa13, V.ref pa14, V.ref pa16, V.str (Str.ofString "1")] [PyData.int (a), PyData.none, PyData.tuple [PyData.bool true, PyData.int (1)], PyData.tuple [PyData.int (a), PyData.int (0 - b)], PyData.tuple [PyData.int (a)], PyData.list [PyData.int a, PyData.int b], PyData.tuple [PyData.int (a), PyData.int (0)], PyData.tuple ([PyData.int a, PyData.int b] ++ [PyData.int (1)]), PyData.str (Str.ofString "1")] := (.cons (.int _) (.cons .non (.cons dpa10 (.cons dpa11 (.cons dpa12 (.cons dpa13 (.cons dpa14 (.cons dpa16 (.cons (.str _) .nil)))))))))
  have dpa17 := dpL da17 daa17
  clear ea17 ha17 da17
  have gea17 : ∀ d ∈ ([PyData.int (a), PyData.none, PyData.tuple [PyData.bool true, PyData.int (1)], PyData.tuple [PyData.int (a), PyData.int (0 - b)], PyData.tuple [PyData.int (a)], PyData.list [PyData.int a, PyData.int b], PyData.tuple [PyData.int (a), PyData.int (0)], PyData.tuple ([PyData.int a, PyData.int b] ++ [PyData.int (1)]), PyData.str (Str.ofString "1")] : List PyData), Gd 1 15017 d := (gC (gW (gd_int (by omega))) (gC (gW gd_none) (gC (gW gda10) (gC (gW gda11) (gC (gW gda12) (gC (gW gda13) (gC (gW gda14) (gC (gW gda16) (gC (gW (gd_str (by decide +kernel) (by decide +kernel) (by decide +kernel))) gN)))))))))
  have gda17 := gLs 9 135188 gea17
  refine ⟨pa9, pa17, _, _, rfl, rfl, lsa9, lsa17, Nat.le_trans (show _ ≤ 1000 by first | omega | (simp <;> omega)) (by show 1000 ≤ sizeLine; decide), fun pa18 ga18 => ?_⟩
  obtain ⟨ea18, ha18, da18⟩ := nwO (o := (.lst ([V.ref pa5, V.ref pa6, V.ref pa7, V.ref pa8] ++ [V.int (a), V.non, V.ref pa10, V.ref pa11, V.ref pa12, V.ref pa13, V.ref pa14, V.ref pa16, V.str (Str.ofString "1")]))) ga18 tp.lst hd_
  generalize upd Ha17 pa18 (.lst ([V.ref pa5, V.ref pa6, V.ref pa7, V.ref pa8] ++ [V.int (a), V.non, V.ref pa10, V.ref pa11, V.ref pa12, V.ref pa13, V.ref pa14, V.ref pa16, V.str (Str.ofString "1")])) = Ha18 at ea18 ha18 da18 ⊢
  have na18 := nwN ga18 tp.lst
  replace S0 := S0.trans (.same ea18 tp.lst)
  replace tp := tp.same ea18
  replace hd_ := hd_.imp fun _ q => ea18 _ _ q
  replace hSp := tS ea18 hSp
  replace alp := alp.mono fun _ _ q => q.mono (Tst.same (K := K) ea18)
  replace dap := aS ea18 dap
  replace dpp := dS ea18 dpp
  replace hpo := tS ea18 hpo
  replace dao := aS ea18 dao
  replace dpo := dS ea18 dpo
  replace lsa2 := ea18 _ _ lsa2
  replace daa2 := aS ea18 daa2
  replace dpa2 := dS ea18 dpa2
  replace sqa4 := tS ea18 sqa4
  replace daa4 := aS ea18 daa4
  replace dpa4 := dS ea18 dpa4
  replace daa5 := aS ea18 daa5
  replace dpa5 := dS ea18 dpa5
  replace daa6 := aS ea18 daa6
  replace dpa6 := dS ea18 dpa6
  replace sqa7 := tS ea18 sqa7
  replace daa7 := aS ea18 daa7
  replace dpa7 := dS ea18 dpa7
  replace sqa8 := tS ea18 sqa8
  replace daa8 := aS ea18 daa8
  replace dpa8 := dS ea18 dpa8
  replace lsa9 := ea18 _ _ lsa9
  replace daa9 := aS ea18 daa9
  replace dpa9 := dS ea18 dpa9
  replace sqa10 := tS ea18 sqa10
  replace daa10 := aS ea18 daa10
  replace dpa10 := dS ea18 dpa10
  replace sqa11 := tS ea18 sqa11
  replace daa11 := aS ea18 daa11
  replace dpa11 := dS ea18 dpa11
  replace sqa12 := tS ea18 sqa12
  replace daa12 := aS ea18 daa12
  replace dpa12 := dS ea18 dpa12
  replace lsa13 := ea18 _ _ lsa13
  replace dpa13 := dS ea18 dpa13
  replace sqa14 := tS ea18 sqa14
  replace daa14 := aS ea18 daa14
  replace dpa14 := dS ea18 dpa14
  replace sqa15 := tS ea18 sqa15
  replace daa15 := aS ea18 daa15
  replace dpa15 := dS ea18 dpa15
  replace sqa16 := tS ea18 sqa16
  replace daa16 := aS ea18 daa16
  replace dpa16 := dS ea18 dpa16
  replace lsa17 := ea18 _ _ lsa17
  replace daa17 := aS ea18 daa17
  replace dpa17 := dS ea18 dpa17
  have lsa18 : Ha18 pa18 = some (.lst ([V.ref pa5, V.ref pa6, V.ref pa7, V.ref pa8] ++ [V.int (a), V.non, V.ref pa10, V.ref pa11, V.ref pa12, V.ref pa13, V.ref pa14, V.ref pa16, V.str (Str.ofString "1")])) := ha18
  have daa18 : DeepAll K (hid Ha18 t₁ D) ([V.ref pa5, V.ref pa6, V.ref pa7, V.ref pa8] ++ [V.int (a), V.non, V.ref pa10, V.ref pa11, V.ref pa12, V.ref pa13, V.ref pa14, V.ref pa16, V.str (Str.ofString "1")]) ([PyData.tuple [PyData.int ((plusR (a, b) (1, z)).1), PyData.int ((plusR (a, b) (1, z)).2)], PyData.tuple [PyData.int ((minusR (a, b) (1, z)).1), PyData.int ((minusR (a, b) (1, z)).2)], PyData.tuple [PyData.int (0 - a), PyData.int (b)], PyData.tuple [PyData.int (2 * a), PyData.int (2 * b)]] ++ [PyData.int (a), PyData.none, PyData.tuple [PyData.bool true, PyData.int (1)], PyData.tuple [PyData.int (a), PyData.int (0 - b)], PyData.tuple [PyData.int (a)], PyData.list [PyData.int a, PyData.int b], PyData.tuple [PyData.int (a), PyData.int (0)], PyData.tuple ([PyData.int a, PyData.int b] ++ [PyData.int (1)]), PyData.str (Str.ofString "1")]) := DeepAll.app daa9 daa17
  have dpa18 : Deep K (hid Ha18 t₁ D) (.ref pa18) (.list ([PyData.tuple [PyData.int ((plusR (a, b) (1, z)).1), PyData.int ((plusR (a, b) (1, z)).2)], PyData.tuple [PyData.int ((minusR (a, b) (1, z)).1), PyData.int ((minusR (a, b) (1, z)).2)], PyData.tuple [PyData.int (0 - a), PyData.int (b)], PyData.tuple [PyData.int (2 * a), PyData.int (2 * b)]] ++ [PyData.int (a), PyData.none, PyData.tuple [PyData.bool true, PyData.int (1)], PyData.tuple [PyData.int (a), PyData.int (0 - b)], PyData.tuple [PyData.int (a)], PyData.list [PyData.int a, PyData.int b], PyData.tuple [PyData.int (a), PyData.int (0)], PyData.tuple ([PyData.int a, PyData.int b] ++ [PyData.int (1)]), PyData.str (Str.ofString "1")])) := .lst (SqL.of da18) daa18
  clear ea18 ha18 da18
  have gea18 : ∀ d ∈ ([PyData.tuple [PyData.int ((plusR (a, b) (1, z)).1), PyData.int ((plusR (a, b) (1, z)).2)], PyData.tuple [PyData.int ((minusR (a, b) (1, z)).1), PyData.int ((minusR (a, b) (1, z)).2)], PyData.tuple [PyData.int (0 - a), PyData.int (b)], PyData.tuple [PyData.int (2 * a), PyData.int (2 * b)]] ++ [PyData.int (a), PyData.none, PyData.tuple [PyData.bool true, PyData.int (1)], PyData.tuple [PyData.int (a), PyData.int (0 - b)], PyData.tuple [PyData.int (a)], PyData.list [PyData.int a, PyData.int b], PyData.tuple [PyData.int (a), PyData.int (0)], PyData.tuple ([PyData.int a, PyData.int b] ++ [PyData.int (1)]), PyData.str (Str.ofString "1")] : List PyData), Gd 1 15017 d := (gd_app (gd_wide (by decide) (by decide) gea9) (gd_wide (by decide) (by decide) gea17))
  have gda18 : Gd 2 195268 (.list ([PyData.tuple [PyData.int ((plusR (a, b) (1, z)).1), PyData.int ((plusR (a, b) (1, z)).2)], PyData.tuple [PyData.int ((minusR (a, b) (1, z)).1), PyData.int ((minusR (a, b) (1, z)).2)], PyData.tuple [PyData.int (0 - a), PyData.int (b)], PyData.tuple [PyData.int (2 * a), PyData.int (2 * b)]] ++ [PyData.int (a), PyData.none, PyData.tuple [PyData.bool true, PyData.int (1)], PyData.tuple [PyData.int (a), PyData.int (0 - b)], PyData.tuple [PyData.int (a)], PyData.list [PyData.int a, PyData.int b], PyData.tuple [PyData.int (a), PyData.int (0)], PyData.tuple ([PyData.int a, PyData.int b] ++ [PyData.int (1)]), PyData.str (Str.ofString "1")])) := Gd.lst (m := 13) gea18 (by first | omega | (simp <;> omega)) (by decide)
  refine ⟨_, rfl, t₁, D, 19, rfl, tp, by decide, by decide, fun ra19 za19 aa19 ba19 Ta19 => ?_⟩
  have Sa19 := Step.up (ys := za19) tp.lst.choose_spec
  replace S0 := S0.trans Sa19
  replace hd_ := hd_.imp fun _ q => Sa19.keep _ _ nD q
  replace hSp := tP Sa19 hSp
  replace alp := alp.mono fun _ _ q => q.mono (Tst.step (K := K) Sa19)
  replace dap := aP Sa19 dap
  replace dpp := dP Sa19 dpp
  replace hpo := tP Sa19 hpo
  replace dao := aP Sa19 dao
  replace dpo := dP Sa19 dpo
  replace lsa2 := Sa19.keep _ _ na2 lsa2
  replace daa2 := aP Sa19 daa2
  replace dpa2 := dP Sa19 dpa2
  replace sqa4 := tP Sa19 sqa4
  replace daa4 := aP Sa19 daa4
  replace dpa4 := dP Sa19 dpa4
  replace daa5 := aP Sa19 daa5
  replace dpa5 := dP Sa19 dpa5
  replace daa6 := aP Sa19 daa6
  replace dpa6 := dP Sa19 dpa6
  replace sqa7 := tP Sa19 sqa7
  replace daa7 := aP Sa19 daa7
  replace dpa7 := dP Sa19 dpa7
  replace sqa8 := tP Sa19 sqa8
  replace daa8 := aP Sa19 daa8
  replace dpa8 := dP Sa19 dpa8
  replace lsa9 := Sa19.keep _ _ na9 lsa9
  replace daa9 := aP Sa19 daa9
  replace dpa9 := dP Sa19 dpa9
  replace sqa10 := tP Sa19 sqa10
  replace daa10 := aP Sa19 daa10
  replace dpa10 := dP Sa19 dpa10
  replace sqa11 := tP Sa19 sqa11
  replace daa11 := aP Sa19 daa11
  replace dpa11 := dP Sa19 dpa11
  replace sqa12 := tP Sa19 sqa12
  replace daa12 := aP Sa19 daa12
  replace dpa12 := dP Sa19 dpa12
  replace lsa13 := Sa19.keep _ _ na13 lsa13
  replace dpa13 := dP Sa19 dpa13
  replace sqa14 := tP Sa19 sqa14
  replace daa14 := aP Sa19 daa14
  replace dpa14 := dP Sa19 dpa14
  replace sqa15 := tP Sa19 sqa15
  replace daa15 := aP Sa19 daa15
  replace dpa15 := dP Sa19 dpa15
  replace sqa16 := tP Sa19 sqa16
  replace daa16 := aP Sa19 daa16
  replace dpa16 := dP Sa19 dpa16
  replace lsa17 := Sa19.keep _ _ na17 lsa17
  replace daa17 := aP Sa19 daa17
  replace dpa17 := dP Sa19 dpa17
  replace lsa18 := Sa19.keep _ _ na18 lsa18
  replace daa18 := aP Sa19 daa18
  replace dpa18 := dP Sa19 dpa18
  replace tp := Ta19
  clear Ta19 Sa19
  generalize upd Ha18 t₁ (.lst za19) = Ha19 at S0 tp hd_ hSp alp dap dpp hpo dao dpo lsa2 daa2 dpa2 sqa4 daa4 dpa4 daa5 dpa5 daa6 dpa6 sqa7 daa7 dpa7 sqa8 daa8 dpa8 lsa9 daa9 dpa9 sqa10 daa10 dpa10 sqa11 daa11 dpa11 sqa12 daa12 dpa12 lsa13 dpa13 sqa14 daa14 dpa14 sqa15 daa15 dpa15 sqa16 daa16 dpa16 lsa17 daa17 dpa17 lsa18 daa18 dpa18 ⊢
  refine ⟨_, rfl, _, _, rfl, rfl, _, rfl, ite2 (fun cw => ?_) (fun cw => ?_)⟩
  · refine ⟨_, rfl, _, rfl, _, rfl, pp, _, rfl, hSp, fun pb1 Hb1 eb1 cb1 => ?_⟩
    replace S0 := S0.trans (.same eb1 tp.lst)
    replace tp := tp.same eb1
    replace hd_ := hd_.imp fun _ q => eb1 _ _ q
    replace hSp := tS eb1 hSp
    replace dap := aS eb1 dap
    replace lsa18 := eb1 _ _ lsa18
    replace daa18 := aS eb1 daa18
    rw [show (some ((at_ : Nat)) : Option Int) = some ((at_ : Nat) : Int) from rfl, cut_any (n := at_)] at cb1
    have sqb1 : SqT K Hb1 pb1 (xs.take at_) := cb1
    have dab1 : DeepAll K (hid Hb1 t₁ D) (xs.take at_) (((rs.map dR)).take at_) := DeepAll.takeN at_ dap
    have dpb1 : Deep K (hid Hb1 t₁ D) (.ref pb1) (.tuple (((rs.map dR)).take at_)) := .tup (hd_tst (K := K) tp.lst nD hd_ _ _ cb1) dab1
    clear eb1
    have geb1 : ∀ d ∈ (((rs.map dR)).take at_ : List PyData), Gd 1 5000 d := gd_take at_ gep
    have gdb1 : Gd 2 305191 (.tuple (((rs.map dR)).take at_)) := Gd.tup (m := 61) geb1 (by first | omega | (simp <;> omega)) (by decide)
    obtain ⟨vb2, wb2, atb2, meb2, dvb2⟩ := DeepAll.pick daa18 (r := ra19) aa19 (of_decide_eq_true cw)
    refine ⟨_, rfl, _, rfl, pa18, _, _, vb2, rfl, rfl, SqL.of lsa18, atb2, (by show 1 ≤ sizeLine; decide), fun pb3 gb3 => ?_⟩
    obtain ⟨eb3, hb3, db3⟩ := nwO (o := (.tup [vb2])) gb3 tp.lst hd_
    generalize upd Hb1 pb3 (.tup [vb2]) = Hb3 at eb3 hb3 db3 ⊢
    replace S0 := S0.trans (.same eb3 tp.lst)
    replace tp := tp.same eb3
    replace hd_ := hd_.imp fun _ q => eb3 _ _ q
    replace hSp := tS eb3 hSp
    replace dap := aS eb3 dap
    replace sqb1 := tS eb3 sqb1
    replace dab1 := aS eb3 dab1
    replace dvb2 := dS eb3 dvb2
    have sqb3 := SqT.of (K := K) hb3
    have dab3 : DeepAll K (hid Hb3 t₁ D) [vb2] [wb2] := (.cons dvb2 .nil)
    have dpb3 := dpT db3 dab3
    clear eb3 hb3 db3
    have geb3 : ∀ d ∈ ([wb2] : List PyData), Gd 1 15017 d := (gC (gW (gea18 _ meb2)) gN)
    have gdb3 := gTu 1 15028 geb3
    refine ⟨pb1, pb3, _, _, rfl, rfl, sqb1, sqb3, Nat.le_trans (show _ ≤ 1000 by first | omega | (simp <;> omega)) (by show 1000 ≤ sizeLine; decide), fun pb4 Hb4 eb4 cb4 => ?_⟩
    replace S0 := S0.trans (.same eb4 tp.lst)
    replace tp := tp.same eb4
    replace hd_ := hd_.imp fun _ q => eb4 _ _ q
    replace hSp := tS eb4 hSp
    replace dap := aS eb4 dap
    replace dab1 := aS eb4 dab1
    replace dab3 := aS eb4 dab3
    have sqb4 : SqT K Hb4 pb4 ((xs.take at_) ++ [vb2]) := cb4
    have dab4 : DeepAll K (hid Hb4 t₁ D) ((xs.take at_) ++ [vb2]) ((((rs.map dR)).take at_) ++ [wb2]) := DeepAll.app dab1 dab3
    have dpb4 : Deep K (hid Hb4 t₁ D) (.ref pb4) (.tuple ((((rs.map dR)).take at_) ++ [wb2])) := .tup (hd_tst (K := K) tp.lst nD hd_ _ _ cb4) dab4
    clear eb4
    have geb4 : ∀ d ∈ ((((rs.map dR)).take at_) ++ [wb2] : List PyData), Gd 1 15017 d := (gd_app (gd_wide (by decide) (by decide) geb1) (gd_wide (by decide) (by decide) geb3))
    have gdb4 : Gd 2 931248 (.tuple ((((rs.map dR)).take at_) ++ [wb2])) := Gd.tup (m := 62) geb4 (by first | omega | (simp <;> omega)) (by decide)
    refine ⟨_, rfl, _, rfl, _, _, rfl, rfl, _, rfl, pp, _, rfl, hSp, fun pb5 Hb5 eb5 cb5 => ?_⟩
    replace S0 := S0.trans (.same eb5 tp.lst)
    replace tp := tp.same eb5
    replace hd_ := hd_.imp fun _ q => eb5 _ _ q
    replace dap := aS eb5 dap
    replace sqb4 := tS eb5 sqb4
    replace dab4 := aS eb5 dab4
    rw [show (some ((at_ : Nat) + 1) : Option Int) = some ((at_ + 1 : Nat) : Int) from rfl, cut_from (n := at_ + 1) (by first | omega | (simp <;> omega))] at cb5
    have sqb5 : SqT K Hb5 pb5 (xs.drop (at_ + 1)) := cb5
    have dab5 : DeepAll K (hid Hb5 t₁ D) (xs.drop (at_ + 1)) (((rs.map dR)).drop (at_ + 1)) := DeepAll.dropN (at_ + 1) dap
    have dpb5 : Deep K (hid Hb5 t₁ D) (.ref pb5) (.tuple (((rs.map dR)).drop (at_ + 1))) := .tup (hd_tst (K := K) tp.lst nD hd_ _ _ cb5) dab5
    clear eb5
    have geb5 : ∀ d ∈ (((rs.map dR)).drop (at_ + 1) : List PyData), Gd 1 5000 d := gd_drop (at_ + 1) gep
    have gdb5 : Gd 2 305191 (.tuple (((rs.map dR)).drop (at_ + 1))) := Gd.tup (m := 61) geb5 (by first | omega | (simp <;> omega)) (by decide)
    refine ⟨pb4, pb5, _, _, rfl, rfl, sqb4, sqb5, Nat.le_trans (show _ ≤ 1000 by first | omega | (simp <;> omega)) (by show 1000 ≤ sizeLine; decide), fun pb6 Hb6 eb6 cb6 => ?_⟩
    replace S0 := S0.trans (.same eb6 tp.lst)
    replace tp := tp.same eb6
    replace hd_ := hd_.imp fun _ q => eb6 _ _ q
    replace dab4 := aS eb6 dab4
    replace dab5 := aS eb6 dab5
    have sqb6 : SqT K Hb6 pb6 (((xs.take at_) ++ [vb2]) ++ (xs.drop (at_ + 1))) := cb6
    have dab6 : DeepAll K (hid Hb6 t₁ D) (((xs.take at_) ++ [vb2]) ++ (xs.drop (at_ + 1))) (((((rs.map dR)).take at_) ++ [wb2]) ++ (((rs.map dR)).drop (at_ + 1))) := DeepAll.app dab4 dab5
    have dpb6 : Deep K (hid Hb6 t₁ D) (.ref pb6) (.tuple (((((rs.map dR)).take at_) ++ [wb2]) ++ (((rs.map dR)).drop (at_ + 1)))) := .tup (hd_tst (K := K) tp.lst nD hd_ _ _ cb6) dab6
    clear eb6
    have geb6 : ∀ d ∈ (((((rs.map dR)).take at_) ++ [wb2]) ++ (((rs.map dR)).drop (at_ + 1)) : List PyData), Gd 1 15017 d := (gd_app (gd_wide (by decide) (by decide) geb4) (gd_wide (by decide) (by decide) geb5))
    have gdb6 : Gd 2 1847468 (.tuple (((((rs.map dR)).take at_) ++ [wb2]) ++ (((rs.map dR)).drop (at_ + 1)))) := Gd.tup (m := 123) geb6 (by first | omega | (simp <;> omega)) (by decide)
    exact k (V.ref pb6) (PyData.tuple (((((rs.map dR)).take at_) ++ [wb2]) ++ (((rs.map dR)).drop (at_ + 1)))) _ S0 tp dpb6 (gW gdb6)
  have cw2 : ¬ ra19 < 13 := of_decide_eq_false (by cases hh : decide (ra19 < 13) with | false => rfl | true => exact absurd hh cw)
  refine ⟨_, rfl, _, rfl, _, rfl, pp, _, rfl, hSp, fun pc1 Hc1 ec1 cc1 => ?_⟩
  replace S0 := S0.trans (.same ec1 tp.lst)
  replace tp := tp.same ec1
  replace hd_ := hd_.imp fun _ q => ec1 _ _ q
  replace hSp := tS ec1 hSp
  replace dap := aS ec1 dap
  replace dpp := dS ec1 dpp
  rw [show (some (1) : Option Int) = some ((1 : Nat) : Int) from rfl, cut_any (n := 1)] at cc1
  have sqc1 : SqT K Hc1 pc1 (xs.take 1) := cc1
  have dac1 : DeepAll K (hid Hc1 t₁ D) (xs.take 1) (((rs.map dR)).take 1) := DeepAll.takeN 1 dap
  have dpc1 : Deep K (hid Hc1 t₁ D) (.ref pc1) (.tuple (((rs.map dR)).take 1)) := .tup (hd_tst (K := K) tp.lst nD hd_ _ _ cc1) dac1
  clear ec1
  have gec1 : ∀ d ∈ (((rs.map dR)).take 1 : List PyData), Gd 1 5000 d := gd_take 1 gep
  have gdc1 : Gd 2 305191 (.tuple (((rs.map dR)).take 1)) := Gd.tup (m := 61) gec1 (by first | omega | (simp <;> omega)) (by decide)
  refine ⟨pp, pc1, _, _, rfl, rfl, hSp, sqc1, Nat.le_trans (show _ ≤ 1000 by first | omega | (simp <;> omega)) (by show 1000 ≤ sizeLine; decide), fun pc2 Hc2 ec2 cc2 => ?_⟩
  replace S0 := S0.trans (.same ec2 tp.lst)
  replace tp := tp.same ec2
  replace hd_ := hd_.imp fun _ q => ec2 _ _ q
  replace hSp := tS ec2 hSp
  replace dap := aS ec2 dap
  replace dpp := dS ec2 dpp
  replace dac1 := aS ec2 dac1
  have sqc2 : SqT K Hc2 pc2 (xs ++ (xs.take 1)) := cc2
  have dac2 : DeepAll K (hid Hc2 t₁ D) (xs ++ (xs.take 1)) (((rs.map dR)) ++ (((rs.map dR)).take 1)) := DeepAll.app dap dac1
  have dpc2 : Deep K (hid Hc2 t₁ D) (.ref pc2) (.tuple (((rs.map dR)) ++ (((rs.map dR)).take 1))) := .tup (hd_tst (K := K) tp.lst nD hd_ _ _ cc2) dac2
  clear ec2
  have gec2 : ∀ d ∈ (((rs.map dR)) ++ (((rs.map dR)).take 1) : List PyData), Gd 1 5000 d := (gd_app (gd_wide (by decide) (by decide) gep) (gd_wide (by decide) (by decide) gec1))
  have gdc2 : Gd 2 610374 (.tuple (((rs.map dR)) ++ (((rs.map dR)).take 1))) := Gd.tup (m := 122) gec2 (by first | omega | (simp <;> omega)) (by decide)
  refine ⟨_, rfl, _, rfl, _, rfl, pp, _, rfl, hSp, fun pc3 Hc3 ec3 cc3 => ?_⟩
  replace S0 := S0.trans (.same ec3 tp.lst)
  replace tp := tp.same ec3
  replace hd_ := hd_.imp fun _ q => ec3 _ _ q
  replace hSp := tS ec3 hSp
  replace dap := aS ec3 dap
  replace dpp := dS ec3 dpp
  replace dpc2 := dS ec3 dpc2
  rw [cut_but] at cc3
  have sqc3 : SqT K Hc3 pc3 (xs.take (xs.length - 1)) := cc3
  have dac3 : DeepAll K (hid Hc3 t₁ D) (xs.take (xs.length - 1)) (((rs.map dR)).take (xs.length - 1)) := DeepAll.takeN (xs.length - 1) dap
  have dpc3 : Deep K (hid Hc3 t₁ D) (.ref pc3) (.tuple (((rs.map dR)).take (xs.length - 1))) := .tup (hd_tst (K := K) tp.lst nD hd_ _ _ cc3) dac3
  clear ec3
  have gec3 : ∀ d ∈ (((rs.map dR)).take (xs.length - 1) : List PyData), Gd 1 5000 d := gd_take (xs.length - 1) gep
  have gdc3 : Gd 2 305191 (.tuple (((rs.map dR)).take (xs.length - 1))) := Gd.tup (m := 61) gec3 (by first | omega | (simp <;> omega)) (by decide)
  refine ⟨_, rfl, pp, _, rfl, .inr hSp, fun pc4 gc4 => ?_⟩
  obtain ⟨ec4, hc4, dc4⟩ := nwO (o := (.lst xs)) gc4 tp.lst hd_
  generalize upd Hc3 pc4 (.lst xs) = Hc4 at ec4 hc4 dc4 ⊢
  have nc4 := nwN gc4 tp.lst
  replace S0 := S0.trans (.same ec4 tp.lst)
  replace tp := tp.same ec4
  replace hd_ := hd_.imp fun _ q => ec4 _ _ q
  replace hSp := tS ec4 hSp
  replace dap := aS ec4 dap
  replace dpp := dS ec4 dpp
  replace dpc2 := dS ec4 dpc2
  replace dpc3 := dS ec4 dpc3
  have lsc4 : Hc4 pc4 = some (.lst xs) := hc4
  have dpc4 : Deep K (hid Hc4 t₁ D) (.ref pc4) (.list ((rs.map dR))) := .lst (SqL.of dc4) dap
  clear ec4 hc4 dc4
  have gdc4 : Gd 2 305191 (.list ((rs.map dR))) := Gd.lst (m := 61) gep (by first | omega | (simp <;> omega)) (by decide)
  refine ⟨_, rfl, pp, _, rfl, hSp, fun pc5 gc5 => ?_⟩
  obtain ⟨ec5, hc5, dc5⟩ := nwO (o := (.tup xs.reverse)) gc5 tp.lst hd_
  generalize upd Hc4 pc5 (.tup xs.reverse) = Hc5 at ec5 hc5 dc5 ⊢
  replace S0 := S0.trans (.same ec5 tp.lst)
  replace tp := tp.same ec5
  replace hd_ := hd_.imp fun _ q => ec5 _ _ q
  replace dap := aS ec5 dap
  replace dpp := dS ec5 dpp
  replace dpc2 := dS ec5 dpc2
  replace dpc3 := dS ec5 dpc3
  replace dpc4 := dS ec5 dpc4
  have dac5 : DeepAll K (hid Hc5 t₁ D) xs.reverse (rs.map dR).reverse := DeepAll.rev dap
  have dpc5 := dpT dc5 dac5
  clear ec5 hc5 dc5
  have gdc5 := gTu 61 305191 (gd_rev gep) (by first | omega | (simp <;> omega))
  refine ⟨_, rfl, _, rfl, (by show 1 ≤ sizeLine; decide), fun pc6 gc6 => ?_⟩
  obtain ⟨ec6, hc6, dc6⟩ := nwO (o := (.tup [V.ref pp])) gc6 tp.lst hd_
  generalize upd Hc5 pc6 (.tup [V.ref pp]) = Hc6 at ec6 hc6 dc6 ⊢
  replace S0 := S0.trans (.same ec6 tp.lst)
  replace tp := tp.same ec6
  replace hd_ := hd_.imp fun _ q => ec6 _ _ q
  replace dpp := dS ec6 dpp
  replace dpc2 := dS ec6 dpc2
  replace dpc3 := dS ec6 dpc3
  replace dpc4 := dS ec6 dpc4
  replace dpc5 := dS ec6 dpc5
  have sqc6 := SqT.of (K := K) hc6
  have dac6 : DeepAll K (hid Hc6 t₁ D) [V.ref pp] [PyData.tuple (rs.map dR)] := (.cons dpp .nil)
  have dpc6 := dpT dc6 dac6
  clear ec6 hc6 dc6
  have gec6 : ∀ d ∈ ([PyData.tuple (rs.map dR)] : List PyData), Gd 2 305191 d := (gC (gW gdp) gN)
  have gdc6 := gTu 1 305202 gec6
  refine ⟨(by show 6 ≤ sizeLine; decide), fun pc7 gc7 => ?_⟩
  obtain ⟨ec7, hc7, dc7⟩ := nwO (o := (.lst [V.ref pc2, V.ref pc3, V.ref pc4, V.ref pc5, V.ref pp, V.ref pc6])) gc7 tp.lst hd_
  generalize upd Hc6 pc7 (.lst [V.ref pc2, V.ref pc3, V.ref pc4, V.ref pc5, V.ref pp, V.ref pc6]) = Hc7 at ec7 hc7 dc7 ⊢
  have nc7 := nwN gc7 tp.lst
  replace S0 := S0.trans (.same ec7 tp.lst)
  replace tp := tp.same ec7
  replace hd_ := hd_.imp fun _ q => ec7 _ _ q
  replace dpp := dS ec7 dpp
  replace dpc2 := dS ec7 dpc2
  replace dpc3 := dS ec7 dpc3
  replace dpc4 := dS ec7 dpc4
  replace dpc5 := dS ec7 dpc5
  replace dpc6 := dS ec7 dpc6
  have lsc7 := hc7
  have dac7 : DeepAll K (hid Hc7 t₁ D) [V.ref pc2, V.ref pc3, V.ref pc4, V.ref pc5, V.ref pp, V.ref pc6] [PyData.tuple (((rs.map dR)) ++ (((rs.map dR)).take 1)), PyData.tuple (((rs.map dR)).take (xs.length - 1)), PyData.list ((rs.map dR)), PyData.tuple (rs.map dR).reverse, PyData.tuple (rs.map dR), PyData.tuple [PyData.tuple (rs.map dR)]] := (.cons dpc2 (.cons dpc3 (.cons dpc4 (.cons dpc5 (.cons dpp (.cons dpc6 .nil))))))
  have dpc7 := dpL dc7 dac7
  clear ec7 hc7 dc7
  have gec7 : ∀ d ∈ ([PyData.tuple (((rs.map dR)) ++ (((rs.map dR)).take 1)), PyData.tuple (((rs.map dR)).take (xs.length - 1)), PyData.list ((rs.map dR)), PyData.tuple (rs.map dR).reverse, PyData.tuple (rs.map dR), PyData.tuple [PyData.tuple (rs.map dR)]] : List PyData), Gd 3 610374 d := (gC (gW gdc2) (gC (gW gdc3) (gC (gW gdc4) (gC (gW gdc5) (gC (gW gdp) (gC (gW gdc6) gN))))))
  have gdc7 := gLs 6 3662270 gec7
  obtain ⟨vc8, wc8, atc8, mec8, dvc8⟩ := DeepAll.pick dac7 (r := ra19 - 13) (by omega) (show ra19 - 13 < (6 : Int) by omega)
  refine ⟨_, rfl, _, _, rfl, rfl, pc7, _, _, vc8, rfl, rfl, SqL.of lsc7, atc8, ?_⟩
  exact k (vc8) (wc8) _ S0 tp dvc8 (gW (gec7 _ mec8))
theorem ok_NoBill (T : Txt K mg t) : FnOk P w K mg base CX0 2 t.a_NoBill t.d_NoBill ["self", "word", "number"] (sp_NoBill K t.c_NoBill) := by
  refine T.F_NoBill.ok sc_NoBill (fun vs H Q E h => ?_) (fun cdv A outer s H vs Q E hr h => ?_)
  · obtain ⟨_, _, _, rfl, _⟩ := h; rfl
  obtain ⟨a, x, n, rfl, ha, k⟩ := h
  refine QSs.ok (qss_cons (qs_fldE rfl (qv 0) (qe_call (ok_copied T) (hr.mono (by decide)) rfl T.m_copied T.F_copied.kp T.b_copied .nil pass0 (qa_cons (qv 1) qa_nil star_name)) rfl)
      (qss_one (qs_fldE rfl (qv 0) (qe_call (ok_copied T) (hr.mono (by decide)) rfl T.m_copied T.F_copied.kp T.b_copied .nil pass0 (qa_cons (qv 2) qa_nil star_name)) rfl))) ?_
  refine ⟨_, rfl, _, rfl, .inr ⟨x, rfl⟩, _, rfl, a, _, _, rfl, T.X_NoBill.cl, T.n_NoBill_word, .inl ⟨ha, fun d hd nd => ?_⟩⟩
  have ha2 : upd (upd H a (exO a t.c_NoBill (some d))) d (dO d [("word", .str x)]) a = some (exO a t.c_NoBill (some d)) := by rw [upd_ne nd.symm, upd_same]
  refine ⟨_, rfl, _, rfl, .inl ⟨n, rfl⟩, _, rfl, a, _, _, rfl, T.X_NoBill.cl, T.n_NoBill_number, .inr ⟨d, _, ha2, upd_same, by show 1 ≤ 100; decide, ?_⟩⟩
  have hd0 : H d = none := hd
  refine k d _ hd0 nd (fun b o nb q => ?_) (by rw [upd_ne nd.symm]; exact ha2) upd_same
  have nbd : b ≠ d := ne_of_none q hd0
  rw [upd_ne nbd, upd_ne nbd, upd_ne nb]
  exact q
theorem ok_lets_bill (T : Txt K mg t) : FnOk P w K mg base (CXD P w) 4 t.a_lets_bill t.d_lets_bill ["k", "one", "other", "thing"] (sp_lets_bill K t.c_NoBill) := by
  refine B.Fun.okD T.F_lets_bill sc_lets_bill (fun vs H Q E h => ?_) (fun cdv A outer s H vs Q E hr h => ?_)
  · obtain ⟨_, _, _, _, _, _, _, rfl, _⟩ := h; rfl
  obtain ⟨kk, a, b, c, os, ps, dd, rfl, ⟨pa, xa, rfl, hA, alA⟩, ⟨pb, xb, rfl, hB, alB⟩, hDp, hbd, ok, k, ke⟩ := h
  refine QSs.ok (qss_cons (qs_set (i := 4) sc_lets_bill.nd rfl (by first | exact Or.inl rfl | exact Or.inr rfl) (qe_callB call_len_seq (by rfl) T.z_len PySem.boot_len (qa_cons (qv 1) qa_nil star_name)))
      (qss_cons (qs_if (qw_pt (qw_or (qt_not (qt_val (qe_call (ok_is_tuple_of T) (hr.mono (by decide)) rfl T.m_is_tuple_of T.F_is_tuple_of.kp T.b_is_tuple_of .nil pass0 (qa_cons (qv 3) (qa_cons (qe_op op_add (qv 4) qe_int) qa_nil star_bin) star_name)))) (qw_or1 (qt_not (qt_val (qe_callB (call_allL rfl) (by rfl) T.z_all PyProof.Rows.boot_all (qa_cons (qe_lcomp (N' := ["part"]) (src := [none]) rfl (by exact (qi_tup (qv 3))) (fun _ _ _ _ _ => (by exact (by exact qg_name (i := 0) (by show List.Nodup (["part"] : List Str); decide +kernel) (by exact rfl) (by first | exact Or.inl rfl | exact Or.inr rfl)))) (fun _ _ _ _ _ => qts_nil) (fun _ _ _ _ _ => (by exact (by exact (qe_call (ok_is_ratio T) (by exact hr.mono (by decide)) (by exact rfl) T.m_is_ratio T.F_is_ratio.kp T.b_is_ratio (by exact .nil) (by exact pass0) (qa_cons (by exact (qv 0)) qa_nil star_name))))) (by exact trivial) rfl (by decide +kernel) rfl (by decide +kernel) (by exact cells_of rfl trivial)) qa_nil star_lc))))))) (qss_one (qs_raiseD T.X_NoBill (vm_has _) rfl takesD (ok_NoBill T) (hr.mono (by decide)) T.b_NoBill rfl T.m_NoBill (qa_cons qe_str (qa_cons (qe_un un_neg qe_int) qa_nil star_un) star_con))) qss_nil)
      (qss_cons (qs_if (qt_val (qe_call (ok_is_less T) (hr.mono (by decide)) rfl T.m_is_less T.F_is_less.kp T.b_is_less .nil pass0 (qa_cons (qe_glob (v := .ref t.c_NOUGHT) rfl T.m_NOUGHT rfl) (qa_cons (qe_ix ix_tup (qv 3) qe_int (fun _ _ => rfl)) qa_nil star_sub) star_name))) (qss_one (qs_raiseD T.X_NoBill (vm_has _) rfl takesD (ok_NoBill T) (hr.mono (by decide)) T.b_NoBill rfl T.m_NoBill (qa_cons qe_str (qa_cons qe_int qa_nil star_con) star_con))) qss_nil)
      (qss_cons (qs_for PassesOwn.leaving rfl (qi_range1 rfl T.z_range (qa_cons (qv 4) qa_nil star_name)) (qg_name (i := 5) sc_lets_bill.nd rfl (by first | exact Or.inl rfl | exact Or.inr rfl))
      (qss_cons (qs_set (i := 6) sc_lets_bill.nd rfl (by first | exact Or.inl rfl | exact Or.inr rfl) (qe_call (ok_plus T) (hr.mono (by decide)) rfl T.m_plus T.F_plus.kp T.b_plus .nil pass0 (qa_cons (qe_call (ok_raised T) (hr.mono (by decide)) rfl T.m_raised T.F_raised.kp T.b_raised .nil pass0 (qa_cons (qe_ix ix_tup (qv 1) (qv 5) (fun _ _ => rfl)) (qa_cons (qv 0) qa_nil star_name) star_sub)) (qa_cons (qe_call (ok_minus T) (hr.mono (by decide)) rfl T.m_minus T.F_minus.kp T.b_minus .nil pass0 (qa_cons (qe_ix ix_tup (qv 3) (qe_op op_add (qv 5) qe_int) (fun _ _ => rfl)) (qa_cons (qe_ix ix_tup (qv 3) (qv 5) (fun _ _ => rfl)) qa_nil star_sub) star_sub)) qa_nil star_call) star_call)))
      (qss_one (qs_if (qt_val (qe_call (ok_is_less T) (hr.mono (by decide)) rfl T.m_is_less T.F_is_less.kp T.b_is_less .nil pass0 (qa_cons (qe_call (ok_raised T) (hr.mono (by decide)) rfl T.m_raised T.F_raised.kp T.b_raised .nil pass0 (qa_cons (qe_call (ok_times T) (hr.mono (by decide)) rfl T.m_times T.F_times.kp T.b_times .nil pass0 (qa_cons (qe_tup (qa_cons (qv 0) (qa_cons qe_int qa_nil star_con) star_name)) (qa_cons (qe_ix ix_tup (qv 2) (qv 5) (fun _ _ => rfl)) qa_nil star_sub) star_tup)) (qa_cons (qv 0) qa_nil star_name) star_call)) (qa_cons (qv 6) qa_nil star_name) star_call))) (qss_one (qs_raiseD T.X_NoBill (vm_has _) rfl takesD (ok_NoBill T) (hr.mono (by decide)) T.b_NoBill rfl T.m_NoBill (qa_cons qe_str (qa_cons (qv 5) qa_nil star_name) star_con))) qss_nil))))
      (qss_cons (qs_if (qt_val (qe_call (ok_is_less T) (hr.mono (by decide)) rfl T.m_is_less T.F_is_less.kp T.b_is_less .nil pass0 (qa_cons (qe_ix ix_tup (qv 3) (qv 4) (fun _ _ => rfl)) (qa_cons (qe_glob (v := .ref t.c_NOUGHT) rfl T.m_NOUGHT rfl) qa_nil star_name) star_sub))) (qss_one (qs_raiseD T.X_NoBill (vm_has _) rfl takesD (ok_NoBill T) (hr.mono (by decide)) T.b_NoBill rfl T.m_NoBill (qa_cons qe_str (qa_cons (qv 4) qa_nil star_name) star_con))) qss_nil)
      (qss_one (qs_ret qe_bl))))))) ?_
  have la := alA.len
  have lb := alB.len
  have lp := ok.lp
  have few := ok.few
  have k2 := ok.k2
  have k4 := ok.k4
  have kt : kk.toNat ≤ 4 := by omega
  have ktp : ∀ n : Nat, n * kk.toNat ≤ n * 4 := fun n => Nat.mul_le_mul_left n kt
  have wk : Wf 3 ((kk, 1) : R) := ⟨by show (0 : Int) < 1; decide, by show kk.natAbs < 8; omega, by show (1 : Int).natAbs < 8; decide, by show Int.gcd kk 1 = 1; simp⟩
  refine ⟨_, rfl, pa, _, rfl, .inr hA, ?_⟩
  cases shp : shpD (os.length + 1) dd with
  | false =>
    have bd : billD kk os ps dd = some (Str.ofString "shape", -1) := by unfold billD; rw [shp]; rfl
    refine ⟨_, rfl, _, rfl, _, _, rfl, rfl, c, dd, os.length + 1, (by show [c, V.int ((xa.length : Int) + 1)] = [c, V.int ((os.length + 1 : Nat) : Int)]; rw [show (xa.length : Int) + 1 = ((os.length + 1 : Nat) : Int) by omega]), hDp, ⟨_, rfl, ?_⟩⟩
    cases ct : tupD (os.length + 1) dd with
    | false =>
      refine iteT (iteT ?_)
      refine ⟨_, rfl, ⟨(by show 2 ≤ sizeLine; decide), fun x hx => ⟨x, _, _, rfl, upd_same, fun d' H' hd nd kp ha hd' => ⟨rfl, some d', ha, ?_⟩⟩⟩⟩
      exact ke _ _ bd d' _ (del_same hx kp) (by rw [del_at nd]; exact hd')
    | true =>
      refine iteF ?_
      obtain ⟨pc, xc, ds, rfl, rfl, hC, alD⟩ : ∃ pc xc ds, c = .ref pc ∧ dd = .tuple ds ∧ SqT K H pc xc ∧ DeepAll K H xc ds := by
        cases hDp with
        | tup e t => exact ⟨_, _, _, rfl, rfl, e, t⟩
        | _ => cases ct
      have lcd := alD.len
      have ldd := of_decide_eq_true (show decide (ds.length = os.length + 1) = true from ct)
      refine ⟨_, rfl, pc, rfl, ⟨_, hC⟩, fun D hD => comp_ix (wlk_tup hC) (fun _ => true) (fun i => V.bl (ratD (ds.getD i .none))) hD (by omega) (fun i x H' hi s' hx R E kR kE => ?_) fun H1 s1 h1 => ?_⟩
      · obtain ⟨v, hv, dv⟩ := DeepAll.atN alD (List.getElem?_eq_getElem (show i < ds.length by omega))
        rw [hx] at hv
        cases hv
        rw [getD_of PyData.none (List.getElem?_eq_getElem (show i < ds.length by omega))] at kR
        exact ⟨Ext.set rfl, _, rfl, x, _, rfl, dv.same s', kR rfl _ (Same.refl _)⟩
      have e1 : (((List.range xc.length).filter fun _ => true).map fun i => V.bl (ratD (ds.getD i .none))) = ((List.range xc.length).map fun i => ratD (ds.getD i .none)).map V.bl := by rw [List.filter_eq_self.mpr (fun _ _ => rfl), List.map_map]; rfl
      rw [e1] at h1
      have sh' : (decide (ds.length = os.length + 1) && ds.all ratD) = false := shp
      rw [decide_eq_true ldd, Bool.true_and] at sh'
      have al : ((List.range xc.length).map fun i => ratD (ds.getD i .none)).all id = false := by rw [lcd, all_getD]; exact sh'
      refine ⟨D, _, rfl, SqL.of h1, ⟨_, rfl, ?_⟩⟩
      rw [al]
      refine iteT ?_
      refine ⟨_, rfl, ⟨(by show 2 ≤ sizeLine; decide), fun x hx => ⟨x, _, _, rfl, upd_same, fun d' H' hd nd kp ha hd' => ⟨rfl, some d', ha, ?_⟩⟩⟩⟩
      exact ke _ _ bd d' _ (s1.trans (del_same hx kp)) (by rw [del_at nd]; exact hd')
  | true =>
  obtain ⟨pc, xc, ds, rfl, rfl, hC, alD⟩ : ∃ pc xc ds, c = .ref pc ∧ dd = .tuple ds ∧ SqT K H pc xc ∧ DeepAll K H xc ds := by
    cases hDp with
    | tup e t => exact ⟨_, _, _, rfl, rfl, e, t⟩
    | _ => cases shp
  have sh' : (decide (ds.length = os.length + 1) && ds.all ratD) = true := shp
  rw [Bool.and_eq_true, decide_eq_true_iff] at sh'
  obtain ⟨ldd, alr⟩ := sh'
  obtain ⟨alC, wt⟩ := rvs_of alD alr hbd
  have bdd : billD kk os ps (.tuple ds) = foundB kk os ps (ds.map toRD) := by unfold billD; rw [shp]; rfl
  rw [bdd] at k
  replace ke := fun x n h => ke x n (bdd.trans h)
  generalize hts : ds.map toRD = ts at alC wt k ke
  have lc := alC.len
  have lt : ts.length = os.length + 1 := by rw [← hts, List.length_map]; exact ldd
  refine ⟨_, rfl, _, rfl, _, _, rfl, rfl, .ref pc, .tuple ds, os.length + 1, (by show [V.ref pc, V.int ((xa.length : Int) + 1)] = [V.ref pc, V.int ((os.length + 1 : Nat) : Int)]; rw [show (xa.length : Int) + 1 = ((os.length + 1 : Nat) : Int) by omega]), hDp, ⟨_, rfl, ?_⟩⟩
  rw [show tupD (os.length + 1) (.tuple ds) = true from decide_eq_true ldd]
  refine iteF ?_
  have lcd := alD.len
  refine ⟨_, rfl, pc, rfl, ⟨_, hC⟩, fun D hD => comp_ix (wlk_tup hC) (fun _ => true) (fun i => V.bl (ratD (ds.getD i .none))) hD (by omega) (fun i x H' hi s' hx R E kR kE => ?_) fun H1 s1 h1 => ?_⟩
  · obtain ⟨v, hv, dv⟩ := DeepAll.atN alD (List.getElem?_eq_getElem (show i < ds.length by omega))
    rw [hx] at hv
    cases hv
    rw [getD_of PyData.none (List.getElem?_eq_getElem (show i < ds.length by omega))] at kR
    exact ⟨Ext.set rfl, _, rfl, x, _, rfl, dv.same s', kR rfl _ (Same.refl _)⟩
  have e1 : (((List.range xc.length).filter fun _ => true).map fun i => V.bl (ratD (ds.getD i .none))) = ((List.range xc.length).map fun i => ratD (ds.getD i .none)).map V.bl := by rw [List.filter_eq_self.mpr (fun _ _ => rfl), List.map_map]; rfl
  rw [e1] at h1
  have al : ((List.range xc.length).map fun i => ratD (ds.getD i .none)).all id = true := by rw [lcd, all_getD]; exact alr
  refine ⟨D, _, rfl, SqL.of h1, ⟨_, rfl, ?_⟩⟩
  rw [al]
  refine iteF ?_
  have t1 := Tst.same (K := K) s1
  obtain ⟨x0, hx0⟩ : ∃ x0, xc[0]? = some x0 := ⟨_, List.getElem?_eq_getElem (by omega)⟩
  obtain ⟨q0, hq0, rv0⟩ := alC.at hx0
  have w0 := wt q0 (List.mem_of_getElem? hq0)
  have g0 : ts.getD 0 r0 = q0 := getD_of r0 hq0
  refine ⟨_, rfl, pc, _, _, _, rfl, rfl, t1 _ _ hC, atI_nat hx0, .ref t.c_NOUGHT, x0, (0, 1), q0, 1, 230, rfl, ⟨_, rfl, T.q_NOUGHT _⟩, rv0.mono t1, zero_wf, w0, by omega, _, rfl, ?_⟩
  cases c0 : lessR (0, 1) q0 with
  | true =>
    refine iteT ?_
    have lf : foundB kk os ps ts = some (Str.ofString "begin", 0) := by unfold foundB; rw [g0, c0]; rfl
    refine ⟨(by show 2 ≤ sizeLine; decide), fun x hx => ⟨x, _, _, rfl, upd_same, fun d' H' hd nd kp ha hd' => ⟨rfl, some d', ha, ?_⟩⟩⟩
    exact ke _ _ lf d' _ (s1.trans (del_same hx kp)) (by rw [del_at nd]; exact hd')
  | false =>
  refine iteF ?_
  refine ⟨_, rfl, _, rfl, by omega, by omega, for_range (lo := 0) (n := (xa.length : Int).toNat) (fun i σ H' => ∃ (x6 x7 : Option V), σ = [some (.int kk), some (.ref pa), some (.ref pb), some (.ref pc), some (.int xa.length), x6, x7] ∧ Same H H' ∧ ∀ m, m < i → stepB kk (os.getD m r0) (ps.getD m r0) (ts.getD m r0) (ts.getD (m + 1) r0) = true) ⟨none, none, rfl, s1, fun m hm => absurd hm (Nat.not_lt_zero _)⟩ ?_ ?_⟩
  · rintro i σ H2 hi ⟨x6, x7, rfl, s2, gd⟩
    rw [Int.zero_add]
    have t2 := Tst.same (K := K) s2
    obtain ⟨xo, hxo⟩ : ∃ x, xa[i]? = some x := ⟨_, List.getElem?_eq_getElem (by omega)⟩
    obtain ⟨o, ho, rvo⟩ := alA.at hxo
    obtain ⟨xp, hxp⟩ : ∃ x, xb[i]? = some x := ⟨_, List.getElem?_eq_getElem (by omega)⟩
    obtain ⟨p, hp, rvp⟩ := alB.at hxp
    obtain ⟨xu, hxu⟩ : ∃ x, xc[i]? = some x := ⟨_, List.getElem?_eq_getElem (by omega)⟩
    obtain ⟨u, hu, rvu⟩ := alC.at hxu
    obtain ⟨xv, hxv⟩ : ∃ x, xc[i + 1]? = some x := ⟨_, List.getElem?_eq_getElem (by omega)⟩
    obtain ⟨v, hv, rvv⟩ := alC.at hxv
    have wo := ok.wo o (List.mem_of_getElem? ho)
    have wp := ok.wp p (List.mem_of_getElem? hp)
    have wu := wt u (List.mem_of_getElem? hu)
    have wv := wt v (List.mem_of_getElem? hv)
    refine ⟨_, rfl, _, rfl, pa, _, _, _, rfl, rfl, t2 _ _ hA, atI_nat hxo, _, rfl, xo, o, kk, rfl, rvo.mono t2, wo.mono (by decide), by omega, by omega, fun v1 H3 s3 r3 => ?_⟩
    have s23 := s2.trans s3
    have t3 := Tst.same (K := K) s23
    refine ⟨_, rfl, _, rfl, _, _, rfl, rfl, pc, _, _, _, rfl, rfl, t3 _ _ hC, atI_nat (j := i + 1) hxv, _, rfl, _, rfl, pc, _, _, _, rfl, rfl, t3 _ _ hC, atI_nat hxu, xv, xu, v, u, 230, 230, rfl, rvv.mono t3, rvu.mono t3, wv, wu, by decide, fun v2 H4 s4 r4 => ?_⟩
    have w1 := powR_wf wo kk.toNat
    have w2 := minus_wf wv wu
    have b1 := ktp 8
    refine ⟨v1, v2, powR o kk.toNat, minusR v u, 1 + 8 * kk.toNat, 461, rfl, r3.mono (Tst.same s4), r4, w1, w2, by omega, fun p5 h5 => ?_⟩
    have s5 := same_new h5 (.tup [.int (plusR (powR o kk.toNat) (minusR v u)).1, .int (plusR (powR o kk.toNat) (minusR v u)).2])
    have r5 : RV K (upd H4 p5 (.tup [.int (plusR (powR o kk.toNat) (minusR v u)).1, .int (plusR (powR o kk.toNat) (minusR v u)).2])) (.ref p5) (plusR (powR o kk.toNat) (minusR v u)) := RV.of upd_same
    have s25 := (s23.trans s4).trans s5
    generalize upd H4 p5 (.tup [.int (plusR (powR o kk.toNat) (minusR v u)).1, .int (plusR (powR o kk.toNat) (minusR v u)).2]) = H5 at r5 s25 ⊢
    have w5 := plus_wf w1 w2
    have t5 := Tst.same (K := K) s25
    refine ⟨_, rfl, (by show 2 ≤ sizeLine; decide), fun pk hpk => ?_⟩
    have s6 := same_new hpk (.tup [.int kk, .int 1])
    have s26 := s25.trans s6
    have t6 := Tst.same (K := K) s26
    refine ⟨_, rfl, _, rfl, pb, _, _, _, rfl, rfl, t6 _ _ hB, atI_nat hxp, .ref pk, xp, (kk, 1), p, 3, 8, rfl, RV.of upd_same, rvp.mono t6, wk, wp, by decide, fun p7 h7 => ?_⟩
    have s7 := same_new h7 (.tup [.int (timesR (kk, 1) p).1, .int (timesR (kk, 1) p).2])
    have w7 := times_wf wk wp
    refine ⟨_, rfl, .ref p7, timesR (kk, 1) p, kk, rfl, RV.of upd_same, w7.mono (by decide), by omega, by omega, fun v8 H8 s8 r8 => ?_⟩
    have s78 := s7.trans s8
    have s28 := s26.trans s78
    have w8 := powR_wf w7 kk.toNat
    have b2 := ktp (3 + 8)
    refine ⟨_, rfl, v8, .ref p5, powR (timesR (kk, 1) p) kk.toNat, plusR (powR o kk.toNat) (minusR v u), _, _, rfl, r8, r5.mono (Tst.same (s6.trans s78)), w8, w5, by omega, _, rfl, ?_⟩
    have eqs : stepB kk (os.getD i r0) (ps.getD i r0) (ts.getD i r0) (ts.getD (i + 1) r0) = !lessR (powR (timesR (kk, 1) p) kk.toNat) (plusR (powR o kk.toNat) (minusR v u)) := by
      rw [getD_of r0 ho, getD_of r0 hp, getD_of r0 hu, getD_of r0 hv]; rfl
    cases cl : lessR (powR (timesR (kk, 1) p) kk.toNat) (plusR (powR o kk.toNat) (minusR v u)) with
    | true =>
      refine iteT ?_
      have lf : foundB kk os ps ts = some (Str.ofString "turn", (i : Int)) := by
        unfold foundB
        rw [g0, c0, find_at (i := i) (show i < os.length by omega) (by rw [eqs, cl]; rfl) (fun j hj => by rw [gd j hj]; rfl)]
        rfl
      refine ⟨_, rfl, ⟨(by show 2 ≤ sizeLine; decide), fun x hx => ⟨x, _, _, rfl, upd_same, fun d' H' hd nd kp ha hd' => ⟨rfl, some d', ha, ?_⟩⟩⟩⟩
      exact ke _ _ lf d' _ (s28.trans (del_same hx kp)) (by rw [del_at nd]; exact hd')
    | false =>
      refine iteF ?_
      refine ⟨_, _, rfl, s28, fun m hm => ?_⟩
      by_cases z : m < i
      · exact gd m z
      · have : m = i := by omega
        subst this
        rw [eqs, cl]; rfl
  · rintro σ H2 ⟨x6, x7, rfl, s2, gd⟩
    have t2 := Tst.same (K := K) s2
    obtain ⟨xn, hxn⟩ : ∃ x, xc[xa.length]? = some x := ⟨_, List.getElem?_eq_getElem (by omega)⟩
    obtain ⟨q, hq, rvq⟩ := alC.at hxn
    have wq := wt q (List.mem_of_getElem? hq)
    have gn : ts.getD os.length r0 = q := getD_of r0 (by rw [← la]; exact hq)
    refine ⟨_, rfl, _, rfl, pc, _, _, _, rfl, rfl, t2 _ _ hC, atI_nat hxn, xn, .ref t.c_NOUGHT, q, (0, 1), 230, 1, rfl, rvq.mono t2, ⟨_, rfl, T.q_NOUGHT _⟩, wq, zero_wf, by omega, _, rfl, ?_⟩
    cases cl : lessR q (0, 1) with
    | true =>
      refine iteT ?_
      have lf : foundB kk os ps ts = some (Str.ofString "end", (os.length : Int)) := by
        unfold foundB
        rw [g0, c0, find_no (fun j hj => by rw [gd j (by omega)]; rfl), gn, cl]
        rfl
      rw [← la] at lf
      refine ⟨_, rfl, ⟨(by show 2 ≤ sizeLine; decide), fun x hx => ⟨x, _, _, rfl, upd_same, fun d' H' hd nd kp ha hd' => ⟨rfl, some d', ha, ?_⟩⟩⟩⟩
      exact ke _ _ lf d' _ (s2.trans (del_same hx kp)) (by rw [del_at nd]; exact hd')
    | false =>
      refine iteF ?_
      refine k ?_ H2 s2
      unfold foundB
      rw [g0, c0, find_no (fun j hj => by rw [gd j (by omega)]; rfl), gn, cl]
      rfl
theorem ok_law_told (T : Txt K mg t) : FnOk P w K mg base CX0 5 t.a_law_told t.d_law_told ["_law_k", "_law_one", "_law_other", "_law_thing"] (sp_law_told K) := by
  refine T.F_law_told.ok sc_law_told (fun vs H Q E h => ?_) (fun cdv A outer s H vs Q E hr h => ?_)
  · obtain ⟨_, _, _, _, _, _, _, rfl, _⟩ := h; rfl
  obtain ⟨kk, a, b, c, os, ps, d, rfl, ra, rb, hD, hbd, ok, k⟩ := h
  refine QSs.ok (qss_one (qs_tryAs (i := 4) (R := (fun C dx H' => C = t.c_NoBill ∧ Same H H' ∧ ∃ (dd : Addr) (x : Str) (n : Int), dx = some dd ∧ H' dd = some (dO dd [("number", .int n), ("word", .str x)]) ∧ billD kk os ps d = some (x, n))) rfl rfl rfl rfl T.m_PaceError sc_law_told.nd rfl rfl (fun _ => (qss_one (qs_ret (qe_call (ok_lets_bill T) (hr.mono (by decide)) rfl T.m_lets_bill T.F_lets_bill.kp T.b_lets_bill .nil (passTD rfl) (qa_cons (qv 0) (qa_cons (qv 1) (qa_cons (qv 2) (qa_cons (qv 3) qa_nil star_name) star_name) star_name) star_name)))))
      (fun _ => (qss_cons (qs_if (qw_pt (qw_or (qt_not (qt_val (qe_callB (call_isK (K := K) rfl) (by rfl) T.z_isinstance PyProof.Rows.boot_isinstance (qa_cons (qv 4) (qa_cons (qe_glob (v := .ref t.c_NoBill) rfl T.m_NoBill rfl) qa_nil star_name) star_name)))) (qw_or1 (qt_val (qe_callB (call_isK (K := K) rfl) (by rfl) T.z_isinstance PyProof.Rows.boot_isinstance (qa_cons (qv 4) (qa_cons (qe_tup (qa_cons (qe_glob (v := .ref t.c_NoLeast) rfl T.m_NoLeast rfl) (qa_cons (qe_glob (v := .ref t.c_NoMix) rfl T.m_NoMix rfl) (qa_cons (qe_glob (v := .ref t.c_NoPlan) rfl T.m_NoPlan rfl) (qa_cons (qe_glob (v := .ref t.c_NoStretch) rfl T.m_NoStretch rfl) qa_nil star_name) star_name) star_name) star_name)) qa_nil star_tup) star_name)))))) (qss_one (qs_ret qe_str)) qss_nil)
      (qss_one (qs_ret (qe_tup (qa_cons (qe_fldE (K := K) rfl (qv 4) rfl) (qa_cons (qe_fldE (K := K) rfl (qv 4) rfl) qa_nil star_att) star_att)))))))) ?_
  refine ⟨⟨_, rfl, _, rfl, _, rfl, _, rfl, kk, a, b, c, os, ps, d, rfl, ra, rb, hD, hbd, ok, fun du H1 s1 => ?_, fun x n du dd H1 s1 hd => ⟨_, rfl, rfl, s1, dd, x, n, rfl, hd, du⟩⟩, ?_⟩
  · refine k _ H1 s1 ?_
    rw [du]
    exact .bl _
  rintro C dx H' ⟨rfl, s1, dd, w, n, rfl, hd, du⟩
  refine ⟨T.x_catch, dd, rfl, fun x hx => ?_⟩
  have s2 := same_new hx (erO x t.c_NoBill dd)
  have ex := upd_same (H := H') (a := x) (o := erO x t.c_NoBill dd)
  have ed := s2 _ _ hd
  have cl := T.X_NoBill.cl
  have gx := T.g_NoBill
  refine ⟨_, rfl, x, _, dd, _, _, _, true, rfl, ex, ed, cl, gx, .inr (.inl ⟨_, rfl, T.y_self⟩), true, rfl, iteF ?_⟩
  refine ⟨_, rfl, (by show 4 ≤ sizeLine; decide), fun p2 g2 => ?_⟩
  have s4 := same_new g2 (.tup [.ref t.c_NoLeast, .ref t.c_NoMix, .ref t.c_NoPlan, .ref t.c_NoStretch])
  refine ⟨x, _, dd, _, _, _, false, rfl, s4 _ _ ex, s4 _ _ ed, cl, gx, .inr (.inr ⟨p2, [t.c_NoLeast, t.c_NoMix, t.c_NoPlan, t.c_NoStretch], rfl, upd_same, T.y_not⟩), false, rfl, iteF ?_⟩
  refine ⟨_, rfl, x, t.c_NoBill, dd, _, _, .str w, rfl, .inl (s4 _ _ ex), s4 _ _ ed, cl, gx, T.n_NoBill_word, rfl, ?_⟩
  refine ⟨_, rfl, x, t.c_NoBill, dd, _, _, .int n, rfl, .inl (s4 _ _ ex), s4 _ _ ed, cl, gx, T.n_NoBill_number, rfl, (by show 2 ≤ sizeLine; decide), fun p3 g3 => ?_⟩
  have s5 := same_new g3 (.tup [.str w, .int n])
  refine k _ _ (((s1.trans s2).trans s4).trans s5) ?_
  rw [du]
  exact .tup (SqT.of upd_same) (.cons (.str _) (.cons (.int _) .nil))
theorem ok_law_right (T : Txt K mg t) : FnOk P w K mg base CX0 6 t.a_law_right t.d_law_right ["_law_k", "_law_one", "_law_other", "_law_thing"] (sp_law_right K) := by
  refine T.F_law_right.ok sc_law_right (fun vs H Q E h => ?_) (fun cdv A outer s H vs Q E hr h => ?_)
  · obtain ⟨_, _, _, _, _, _, _, rfl, _⟩ := h; rfl
  obtain ⟨kk, a, b, c, os, ps, d, rfl, ra, rb, hD, gd, ok, sw, k⟩ := h
  refine QSs.ok (qss_cons (qs_set (i := 4) sc_law_right.nd rfl (by first | exact Or.inl rfl | exact Or.inr rfl) (qe_call (ok_law_billed T) (hr.mono (by decide)) rfl T.m_law_billed T.F_law_billed.kp T.b_law_billed .nil pass0 (qa_cons (qv 0) (qa_cons (qv 1) (qa_cons (qv 2) (qa_cons (qv 3) qa_nil star_name) star_name) star_name) star_name)))
      (qss_cons (qs_set (i := 5) sc_law_right.nd rfl (by first | exact Or.inl rfl | exact Or.inr rfl) (qe_callB (call_repr hr) (by rfl) T.z_repr PyProof.Rows.boot_repr (qa_cons (qe_tup (qa_cons (qv 1) (qa_cons (qv 2) (qa_cons (qv 3) qa_nil star_name) star_name) star_name)) qa_nil star_tup)))
      (qss_cons (qs_set (i := 6) sc_law_right.nd rfl (by first | exact Or.inl rfl | exact Or.inr rfl) (qe_call (ok_law_told T) (hr.mono (by decide)) rfl T.m_law_told T.F_law_told.kp T.b_law_told .nil pass0 (qa_cons (qv 0) (qa_cons (qv 1) (qa_cons (qv 2) (qa_cons (qv 3) qa_nil star_name) star_name) star_name) star_name)))
      (qss_one (qs_ret (qe_and (qe_cmpR op_eq (qe_callB (call_repr hr) (by rfl) T.z_repr PyProof.Rows.boot_repr (qa_cons (qv 6) qa_nil star_name)) (qe_callB (call_repr hr) (by rfl) T.z_repr PyProof.Rows.boot_repr (qa_cons (qe_ifExp (qt_cmpR op_isN (qv 4) qe_non (nomark _)) qe_bl (qv 4)) qa_nil star_if)) (nomark _)) (qe_one (qe_cmpR op_eq (qe_callB (call_repr hr) (by rfl) T.z_repr PyProof.Rows.boot_repr (qa_cons (qe_tup (qa_cons (qv 1) (qa_cons (qv 2) (qa_cons (qv 3) qa_nil star_name) star_name) star_name)) qa_nil star_tup)) (qv 5) (nomark _))))))))) ?_
  refine ⟨_, rfl, _, rfl, _, rfl, _, rfl, kk, a, b, c, os, ps, d, rfl, ra, rb, hD, gd.bd, gd.lay, Nat.le_trans gd.sh.dp (by decide), ok, fun u H1 s1 du => ?_⟩
  refine ⟨_, rfl, _, rfl, _, rfl, (by show 3 ≤ sizeLine; decide), fun p2 g2 => ?_⟩
  have s2 := same_new g2 (.tup [a, b, c])
  have s12 := s1.trans s2
  have d2 : Deep K (upd H1 p2 (.tup [a, b, c])) (.ref p2) (.tuple [dRs os, dRs ps, d]) := .tup (SqT.of upd_same) (.cons (ra.same s12).deep (.cons (rb.same s12).deep (.cons (hD.same s12) .nil)))
  have du2 := du.same s2
  generalize upd H1 p2 (.tup [a, b, c]) = H2 at s12 d2 du2 ⊢
  refine ⟨.ref p2, _, rfl, d2, sw, ?_⟩
  refine ⟨_, rfl, _, rfl, _, rfl, _, rfl, kk, a, b, c, os, ps, d, rfl, ra.same s12, rb.same s12, hD.same s12, gd.bd, ok, fun w H3 s3 dw => ?_⟩
  have s13 := s12.trans s3
  have du3 := du2.same s3
  have gb := bill_gd kk os ps d ok.few
  refine ⟨_, rfl, w, _, rfl, dw, gb.1.sh.shows (by decide) (by decide), ?_⟩
  cases hb : billD kk os ps d with
  | none =>
    rw [hb] at du3
    cases du3
    refine ⟨_, rfl, rfl, _, rfl, iteD1 rfl ?_⟩
    refine ⟨.bl true, .bool true, rfl, .bl _, (gd_bool true).sh.shows (by decide) (by decide), rfl, _, rfl, iteD1 rfl ?_⟩
    refine ⟨_, rfl, _, rfl, _, rfl, (by show 3 ≤ sizeLine; decide), fun p5 g5 => ?_⟩
    have s5 := same_new g5 (.tup [a, b, c])
    have s15 := s13.trans s5
    refine ⟨.ref p5, _, rfl, .tup (SqT.of upd_same) (.cons (ra.same s15).deep (.cons (rb.same s15).deep (.cons (hD.same s15) .nil))), sw, _, rfl, rfl, ?_⟩
    dsimp only
    rw [decide_eq_true (rfl : V.str (PyData.tuple [dRs os, dRs ps, d]).shown = _)]
    exact k _ s15
  | some z =>
    obtain ⟨x, n⟩ := z
    rw [hb] at du3 gb
    have du4 := du3
    cases du3
    refine ⟨_, rfl, rfl, _, rfl, iteD0 (by intro z; cases z) ?_⟩
    refine ⟨_, rfl, _, _, rfl, du4, gb.2.sh.shows (by decide) (by decide), rfl, _, rfl, iteD1 rfl ?_⟩
    refine ⟨_, rfl, _, rfl, _, rfl, (by show 3 ≤ sizeLine; decide), fun p5 g5 => ?_⟩
    have s5 := same_new g5 (.tup [a, b, c])
    have s15 := s13.trans s5
    refine ⟨.ref p5, _, rfl, .tup (SqT.of upd_same) (.cons (ra.same s15).deep (.cons (rb.same s15).deep (.cons (hD.same s15) .nil))), sw, _, rfl, rfl, ?_⟩
    dsimp only
    rw [decide_eq_true (rfl : V.str (PyData.tuple [dRs os, dRs ps, d]).shown = _)]
    exact k _ s15
theorem ok_law (T : Txt K mg t) : FnOk P w K mg base CX0 7 t.a_law t.d_law ["_law_script"] (sp_law K) := by
  refine T.F_law.ok sc_law (fun vs H Q E h => ?_) (fun cdv A outer s H vs Q E hr h => ?_)
  · obtain ⟨_, _, rfl, _⟩ := h; rfl
  obtain ⟨a, ns, rfl, hS, hl, k⟩ := h
  refine QSs.ok (qss_cons (qs_for PassesOwn.never rfl (qi_range1 rfl T.z_range (qa_cons qe_int qa_nil star_con)) (qg_name (i := 1) sc_law.nd rfl (by first | exact Or.inl rfl | exact Or.inr rfl))
      (qss_cons (qs_set (i := 2) sc_law.nd rfl (by first | exact Or.inl rfl | exact Or.inr rfl) (qe_lst (qa_cons (qe_call (ok_law_draws T) (hr.mono (by decide)) rfl T.m_law_draws T.F_law_draws.kp T.b_law_draws .nil pass0 (qa_cons (qe_op op_add (qe_call (ok_law_cell_at T) (hr.mono (by decide)) rfl T.m_law_cell_at T.F_law_cell_at.kp T.b_law_cell_at .nil pass0 (qa_cons (qv 0) (qa_cons (qv 1) qa_nil star_name) star_name)) (qe_op op_mul qe_int (qv 1))) (qa_cons qe_int qa_nil star_con) star_bin)) (qa_cons qe_int qa_nil star_con) star_call)))
      (qss_cons (qs_set (i := 3) sc_law.nd rfl (by first | exact Or.inl rfl | exact Or.inr rfl) (qe_op op_add qe_int (qe_call (ok_law_take T) (hr.mono (by decide)) rfl T.m_law_take T.F_law_take.kp T.b_law_take .nil pass0 (qa_cons (qv 2) (qa_cons qe_int qa_nil star_con) star_name))))
      (qss_cons (qs_set (i := 4) sc_law.nd rfl (by first | exact Or.inl rfl | exact Or.inr rfl) (qe_ix ix_list (qe_lst (qa_cons (qe_call (ok_law_take T) (hr.mono (by decide)) rfl T.m_law_take T.F_law_take.kp T.b_law_take .nil pass0 (qa_cons (qv 2) (qa_cons qe_int qa_nil star_con) star_name)) (qa_cons (qe_op op_add qe_int (qe_call (ok_law_take T) (hr.mono (by decide)) rfl T.m_law_take T.F_law_take.kp T.b_law_take .nil pass0 (qa_cons (qv 2) (qa_cons qe_int qa_nil star_con) star_name))) (qa_cons qe_int qa_nil star_con) star_bin) star_call)) (qe_op op_fdiv (qe_call (ok_law_take T) (hr.mono (by decide)) rfl T.m_law_take T.F_law_take.kp T.b_law_take .nil pass0 (qa_cons (qv 2) (qa_cons qe_int qa_nil star_con) star_name)) qe_int) (fun _ _ => rfl)))
      (qss_cons (qs_set (i := 5) sc_law.nd rfl (by first | exact Or.inl rfl | exact Or.inr rfl) (qe_call (ok_law_speeds_by T) (hr.mono (by decide)) rfl T.m_law_speeds_by T.F_law_speeds_by.kp T.b_law_speeds_by .nil pass0 (qa_cons (qv 2) (qa_cons (qv 4) (qa_cons qe_int qa_nil star_con) star_name) star_name)))
      (qss_cons (qs_set (i := 6) sc_law.nd rfl (by first | exact Or.inl rfl | exact Or.inr rfl) (qe_call (ok_law_speeds_by T) (hr.mono (by decide)) rfl T.m_law_speeds_by T.F_law_speeds_by.kp T.b_law_speeds_by .nil pass0 (qa_cons (qv 2) (qa_cons (qv 4) (qa_cons (qe_ix ix_list (qe_lst (qa_cons qe_int (qa_cons (qe_op op_mul qe_int (qv 3)) qa_nil star_bin) star_con)) (qe_call (ok_law_take T) (hr.mono (by decide)) rfl T.m_law_take T.F_law_take.kp T.b_law_take .nil pass0 (qa_cons (qv 2) (qa_cons qe_int qa_nil star_con) star_name)) (fun _ _ => rfl)) qa_nil star_sub) star_name) star_name)))
      (qss_cons (qs_set (i := 7) sc_law.nd rfl (by first | exact Or.inl rfl | exact Or.inr rfl) (qe_ix ix_list (qe_lst (qa_cons (qe_tup (qa_cons qe_int (qa_cons qe_int qa_nil star_con) star_con)) (qa_cons (qe_tup (qa_cons qe_int (qa_cons qe_int qa_nil star_con) star_con)) (qa_cons (qe_tup (qa_cons (qe_un un_neg qe_int) (qa_cons qe_int qa_nil star_con) star_un)) (qa_cons (qe_tup (qa_cons (qe_un un_neg qe_int) (qa_cons qe_int qa_nil star_con) star_un)) (qa_cons (qe_tup (qa_cons qe_int (qa_cons qe_int qa_nil star_con) star_con)) qa_nil star_tup) star_tup) star_tup) star_tup) star_tup)) (qe_call (ok_law_take T) (hr.mono (by decide)) rfl T.m_law_take T.F_law_take.kp T.b_law_take .nil pass0 (qa_cons (qv 2) (qa_cons qe_int qa_nil star_con) star_name)) (fun _ _ => rfl)))
      (qss_cons (qs_set (i := 8) sc_law.nd rfl (by first | exact Or.inl rfl | exact Or.inr rfl) (qe_call (ok_law_greatest_bill T) (hr.mono (by decide)) rfl T.m_law_greatest_bill T.F_law_greatest_bill.kp T.b_law_greatest_bill .nil pass0 (qa_cons (qv 3) (qa_cons (qv 6) (qa_cons (qv 5) (qa_cons (qv 7) qa_nil star_name) star_name) star_name) star_name)))
      (qss_cons (qs_set (i := 9) sc_law.nd rfl (by first | exact Or.inl rfl | exact Or.inr rfl) (qe_lst (qa_cons (qe_ix ix_tup (qv 8) qe_int (fun _ _ => rfl)) qa_nil star_sub)))
      (qss_cons (qs_for PassesOwn.never rfl (qi_range1 rfl T.z_range (qa_cons (qv 4) qa_nil star_name)) (qg_name (i := 10) sc_law.nd rfl (by first | exact Or.inl rfl | exact Or.inr rfl))
      (qss_one (qs_expr (qe_bm PySem.F.plainAttrs_list PySem.F.slot_list_append PySem.F.type_list_append mt_append (qv 9) (qa_cons (qe_call (ok_law_minus T) (hr.mono (by decide)) rfl T.m_law_minus T.F_law_minus.kp T.b_law_minus .nil pass0 (qa_cons (qe_ix ix_tup (qv 8) (qe_op op_add (qv 10) qe_int) (fun _ _ => rfl)) (qa_cons (qe_call (ok_law_made T) (hr.mono (by decide)) rfl T.m_law_made T.F_law_made.kp T.b_law_made .nil pass0 (qa_cons (qe_op op_mul (qe_op op_add (qv 10) qe_int) (qe_call (ok_law_take T) (hr.mono (by decide)) rfl T.m_law_take T.F_law_take.kp T.b_law_take .nil pass0 (qa_cons (qv 2) (qa_cons qe_int qa_nil star_con) star_name))) (qa_cons (qe_op op_add qe_int (qe_call (ok_law_take T) (hr.mono (by decide)) rfl T.m_law_take T.F_law_take.kp T.b_law_take .nil pass0 (qa_cons (qv 2) (qa_cons qe_int qa_nil star_con) star_name))) qa_nil star_bin) star_bin)) qa_nil star_call) star_sub)) qa_nil star_call)))))
      (qss_cons (qs_for PassesOwn.never rfl (qi_list (qe_lst (qa_cons (qv 8) (qa_cons (qe_callTy call_tuple_of (by rfl) T.z_tuple PyProof.Rows.boot_tuple (qa_cons (qv 9) qa_nil star_name)) (qa_cons (qe_op op_repU (qe_tup (qa_cons (qe_tup (qa_cons qe_int (qa_cons qe_int qa_nil star_con) star_con)) qa_nil star_tup)) (qe_op op_add (qv 4) qe_int)) (qa_cons qe_non (qa_cons (qe_tup qa_nil) (qa_cons qe_int (qa_cons qe_str (qa_cons (qe_lst (qa_cons (qe_tup (qa_cons qe_int (qa_cons qe_int qa_nil star_con) star_con)) qa_nil star_tup)) (qa_cons (qe_tup (qa_cons (qe_tup (qa_cons qe_int (qa_cons qe_int qa_nil star_con) star_con)) qa_nil star_tup)) qa_nil star_tup) star_lst) star_con) star_con) star_tup) star_con) star_bin) star_call) star_name))) (qg_name (i := 11) sc_law.nd rfl (by first | exact Or.inl rfl | exact Or.inr rfl))
      (qss_one (qs_if (qw_pt (qw_or (qt_not (qt_val (qe_call (ok_law_right T) (hr.mono (by decide)) rfl T.m_law_right T.F_law_right.kp T.b_law_right .nil pass0 (qa_cons (qv 3) (qa_cons (qv 6) (qa_cons (qv 5) (qa_cons (qv 11) qa_nil star_name) star_name) star_name) star_name)))) (qw_or1 (qt_not (qt_val (qe_call (ok_law_right T) (hr.mono (by decide)) rfl T.m_law_right T.F_law_right.kp T.b_law_right .nil pass0 (qa_cons (qv 3) (qa_cons (qv 5) (qa_cons (qv 6) (qa_cons (qv 11) qa_nil star_name) star_name) star_name) star_name))))))) (qss_one (qs_ret qe_bl)) qss_nil)))
      (qss_one (qs_for PassesOwn.never rfl (qi_range1 rfl T.z_range (qa_cons qe_int qa_nil star_con)) (qg_name (i := 12) sc_law.nd rfl (by first | exact Or.inl rfl | exact Or.inr rfl))
      (qss_one (qs_if (qt_not (qt_val (qe_call (ok_law_right T) (hr.mono (by decide)) rfl T.m_law_right T.F_law_right.kp T.b_law_right .nil pass0 (qa_cons (qv 3) (qa_cons (qv 6) (qa_cons (qv 5) (qa_cons (qe_call (ok_law_bent T) (hr.mono (by decide)) rfl T.m_law_bent T.F_law_bent.kp T.b_law_bent .nil pass0 (qa_cons (qv 2) (qa_cons (qe_ix ix_list (qe_lst (qa_cons (qv 8) (qa_cons (qe_callTy call_tuple_of (by rfl) T.z_tuple PyProof.Rows.boot_tuple (qa_cons (qv 9) qa_nil star_name)) qa_nil star_call) star_name)) (qe_op op_mod (qv 12) qe_int) (fun _ _ => rfl)) qa_nil star_sub) star_name)) qa_nil star_call) star_name) star_name) star_name)))) (qss_one (qs_ret qe_bl)) qss_nil)))))))))))))))
      (qss_one (qs_ret qe_bl))) ?_
  refine ⟨4, rfl, by decide, by decide, for_range (lo := 0) (n := 4) (fun i σ H' => ∃ (x1 x2 x3 x4 x5 x6 x7 x8 x9 x10 x11 x12 : Option V), σ = [some (.ref a), x1, x2, x3, x4, x5, x6, x7, x8, x9, x10, x11, x12] ∧ Same H H') ⟨none, none, none, none, none, none, none, none, none, none, none, none, rfl, Same.refl H⟩ ?_ ?_⟩
  · rintro i₀ σ H1 hi ⟨x1, x2, x3, x4, x5, x6, x7, x8, x9, x10, x11, x12, rfl, sm1⟩
    rw [Int.zero_add]
    refine ⟨_, rfl, _, rfl, a, ns, i₀, rfl, sm1.seq hS, fun z => ?_⟩
    refine ⟨_, rfl, _, _, rfl, rfl, .inl ⟨by decide, by decide⟩, _, _, rfl, rfl, _, 90, rfl, by decide, by decide, fun l₁ nz H2 s2 hl0 hl2 hln => ?_⟩
    refine ⟨(by show 2 ≤ sizeLine; decide), fun t₁ ht => ?_⟩
    have n1 : l₁ ≠ t₁ := fun z => by subst z; rw [hl2] at ht; cases ht
    have s3 := same_new ht (.lst [.ref l₁, .int 0])
    have T3 : TapeB (upd H2 t₁ (.lst [.ref l₁, .int 0])) t₁ l₁ := ⟨nz, 0, upd_same, s3 _ _ hl2, n1, by omega, by omega⟩
    have sm3 := (sm1.trans s2).trans s3
    have tN : H t₁ = none := by
      cases e : H t₁ with
      | none => rfl
      | some o => rw [s2 _ _ (sm1 _ _ e)] at ht; cases ht
    generalize upd H2 t₁ (.lst [.ref l₁, .int 0]) = H3 at T3 sm3 ⊢
    have stp : ∀ {A B : Hp}, Same H A → Step t₁ A B → Same H B := fun sA S b o e => S.keep b o (fun z => by subst z; rw [tN] at e; cases e) (sA _ _ e)
    obtain ⟨y4, e4⟩ := T3.lst
    refine ⟨_, rfl, t₁, l₁, 3, rfl, T3, by decide, by decide, fun r4 z4 a4 b4 T4 => ?_⟩
    have S4 := Step.up (ys := z4) e4
    generalize upd H3 t₁ (.lst z4) = H4 at T4 S4 ⊢
    refine ⟨_, _, rfl, rfl, ?_⟩
    obtain ⟨kk, hkk⟩ : ∃ kk, kk = 2 + r4 := ⟨_, rfl⟩
    dsimp only
    rw [← hkk]
    have k2 : 2 ≤ kk := by omega
    have k4 : kk ≤ 4 := by omega
    obtain ⟨y5, e5⟩ := T4.lst
    refine ⟨_, rfl, t₁, l₁, 9, rfl, T4, by decide, by decide, fun r5 z5 a5 b5 T5 => ?_⟩
    have S5 := Step.up (ys := z5) e5
    generalize upd H4 t₁ (.lst z5) = H5 at T5 S5 ⊢
    obtain ⟨y6, e6⟩ := T5.lst
    refine ⟨_, rfl, t₁, l₁, 8, rfl, T5, by decide, by decide, fun r6 z6 a6 b6 T6 => ?_⟩
    have S6 := Step.up (ys := z6) e6
    generalize upd H5 t₁ (.lst z6) = H6 at T6 S6 ⊢
    refine ⟨_, _, rfl, rfl, (by show 3 ≤ sizeLine; decide), fun lm hlm => ?_⟩
    have slm := same_new hlm (.lst [.int r5, .int (1 + r6), .int 60])
    have hlm2 : upd H6 lm (.lst [.int r5, .int (1 + r6), .int 60]) lm = some (.lst [.int r5, .int (1 + r6), .int 60]) := upd_same
    have TM := T6.same slm
    generalize upd H6 lm (.lst [.int r5, .int (1 + r6), .int 60]) = HM at slm hlm2 TM ⊢
    have nlm : lm ≠ t₁ := fun z => by subst z; obtain ⟨_, _, q, _⟩ := TM.ex; rw [hlm2] at q; cases q
    obtain ⟨y7, e7⟩ := TM.lst
    refine ⟨_, rfl, t₁, l₁, 13, rfl, TM, by decide, by decide, fun r7 z7 a7 b7 T7 => ?_⟩
    have S7 := Step.up (ys := z7) e7
    generalize upd HM t₁ (.lst z7) = H7 at T7 S7 ⊢
    have hlm3 := S7.keep _ _ nlm hlm2
    obtain ⟨nn, hnn, n60⟩ : ∃ nn : Nat, atI [V.int r5, .int (1 + r6), .int 60] (r7 / 6) = some (.int nn) ∧ nn ≤ 60 := by
      rcases (show r7 / 6 = 0 ∨ r7 / 6 = 1 ∨ r7 / 6 = 2 by omega) with e | e | e
      · exact ⟨r5.toNat, by rw [e, Int.toNat_of_nonneg a5]; rfl, by omega⟩
      · exact ⟨(1 + r6).toNat, by rw [e, Int.toNat_of_nonneg (by omega)]; rfl, by omega⟩
      · exact ⟨60, by rw [e]; rfl, by omega⟩
    refine ⟨_, _, rfl, rfl, ⟨by decide, by decide⟩, lm, _, _, _, rfl, rfl, SqL.of hlm3, hnn, ?_⟩
    refine ⟨_, rfl, _, rfl, t₁, l₁, nn, 5, rfl, T7, n60, by decide, by decide, fun vo ps H8 S8 T8 rvo lps wps => ?_⟩
    refine ⟨_, rfl, _, rfl, _, rfl, _, _, rfl, rfl, .inl ⟨by decide, by decide⟩, (by show 2 ≤ sizeLine; decide), fun lk hlk => ?_⟩
    have slk := same_new hlk (.lst [.int 5, .int (5 * kk)])
    have hlk2 : upd H8 lk (.lst [.int 5, .int (5 * kk)]) lk = some (.lst [.int 5, .int (5 * kk)]) := upd_same
    have TK := T8.same slk
    generalize upd H8 lk (.lst [.int 5, .int (5 * kk)]) = HK at slk hlk2 TK ⊢
    have nlk : lk ≠ t₁ := fun z => by subst z; obtain ⟨_, _, q, _⟩ := TK.ex; rw [hlk2] at q; cases q
    obtain ⟨y9, e9⟩ := TK.lst
    refine ⟨_, rfl, t₁, l₁, 2, rfl, TK, by decide, by decide, fun r9 z9 a9 b9 T9 => ?_⟩
    have S9 := Step.up (ys := z9) e9
    generalize upd HK t₁ (.lst z9) = H9 at T9 S9 ⊢
    have hlk3 := S9.keep _ _ nlk hlk2
    obtain ⟨mm, hmm, m0, m20⟩ : ∃ mm : Int, atI [V.int 5, .int (5 * kk)] r9 = some (.int mm) ∧ 0 < mm ∧ mm ≤ 20 := by
      rcases (show r9 = 0 ∨ r9 = 1 by omega) with rfl | rfl
      · exact ⟨5, rfl, by decide, by decide⟩
      · exact ⟨5 * kk, rfl, by omega, by omega⟩
    refine ⟨lk, _, _, _, rfl, rfl, SqL.of hlk3, hmm, t₁, l₁, nn, mm, rfl, T9, n60, m0, m20, fun vn os H10 S10 T10 rvn los wos => ?_⟩
    have S8' := ((Step.same slk T8.lst).trans S9).trans S10
    have rvo2 := rvo.mono (Tst.step (K := K) S8')
    refine ⟨(by show 2 ≤ sizeLine; decide), fun q0 hq0 => ?_⟩
    have sq0 := same_new hq0 (.tup [.int (0), .int 1])
    have rv0 : RV K (upd H10 q0 (.tup [.int (0), .int 1])) (.ref q0) (0, 1) := RV.of upd_same
    generalize upd H10 q0 (.tup [.int (0), .int 1]) = HB0 at sq0 rv0 ⊢
    have sB0 := sq0
    refine ⟨(by show 2 ≤ sizeLine; decide), fun q1 hq1 => ?_⟩
    have sq1 := same_new hq1 (.tup [.int (0), .int 1])
    have rv1 : RV K (upd HB0 q1 (.tup [.int (0), .int 1])) (.ref q1) (0, 1) := RV.of upd_same
    generalize upd HB0 q1 (.tup [.int (0), .int 1]) = HB1 at sq1 rv1 ⊢
    have sB1 := sB0.trans sq1
    replace rv0 := rv0.mono (Tst.same (K := K) sq1)
    refine ⟨_, rfl, (by show 2 ≤ sizeLine; decide), fun q2 hq2 => ?_⟩
    have sq2 := same_new hq2 (.tup [.int (-1), .int 3])
    have rv2 : RV K (upd HB1 q2 (.tup [.int (-1), .int 3])) (.ref q2) (-1, 3) := RV.of upd_same
    generalize upd HB1 q2 (.tup [.int (-1), .int 3]) = HB2 at sq2 rv2 ⊢
    have sB2 := sB1.trans sq2
    replace rv0 := rv0.mono (Tst.same (K := K) sq2)
    replace rv1 := rv1.mono (Tst.same (K := K) sq2)
    refine ⟨_, rfl, (by show 2 ≤ sizeLine; decide), fun q3 hq3 => ?_⟩
    have sq3 := same_new hq3 (.tup [.int (-50), .int 1])
    have rv3 : RV K (upd HB2 q3 (.tup [.int (-50), .int 1])) (.ref q3) (-50, 1) := RV.of upd_same
    generalize upd HB2 q3 (.tup [.int (-50), .int 1]) = HB3 at sq3 rv3 ⊢
    have sB3 := sB2.trans sq3
    replace rv0 := rv0.mono (Tst.same (K := K) sq3)
    replace rv1 := rv1.mono (Tst.same (K := K) sq3)
    replace rv2 := rv2.mono (Tst.same (K := K) sq3)
    refine ⟨(by show 2 ≤ sizeLine; decide), fun q4 hq4 => ?_⟩
    have sq4 := same_new hq4 (.tup [.int (1), .int 3])
    have rv4 : RV K (upd HB3 q4 (.tup [.int (1), .int 3])) (.ref q4) (1, 3) := RV.of upd_same
    generalize upd HB3 q4 (.tup [.int (1), .int 3]) = HB4 at sq4 rv4 ⊢
    have sB4 := sB3.trans sq4
    replace rv0 := rv0.mono (Tst.same (K := K) sq4)
    replace rv1 := rv1.mono (Tst.same (K := K) sq4)
    replace rv2 := rv2.mono (Tst.same (K := K) sq4)
    replace rv3 := rv3.mono (Tst.same (K := K) sq4)
    refine ⟨(by show 5 ≤ sizeLine; decide), fun lb hlb => ?_⟩
    have slb := same_new hlb (.lst [.ref q0, .ref q1, .ref q2, .ref q3, .ref q4])
    have hlb2 : upd HB4 lb (.lst [.ref q0, .ref q1, .ref q2, .ref q3, .ref q4]) lb = some (.lst [.ref q0, .ref q1, .ref q2, .ref q3, .ref q4]) := upd_same
    generalize upd HB4 lb (.lst [.ref q0, .ref q1, .ref q2, .ref q3, .ref q4]) = HL at slb hlb2 ⊢
    have sHL := sB4.trans slb
    have TL := T10.same sHL
    have nlb : lb ≠ t₁ := fun z => by subst z; obtain ⟨_, _, q, _⟩ := TL.ex; rw [hlb2] at q; cases q
    obtain ⟨y20, e20⟩ := TL.lst
    refine ⟨_, rfl, t₁, l₁, 5, rfl, TL, by decide, by decide, fun r20 z20 a20 b20 T20 => ?_⟩
    have S20 := Step.up (ys := z20) e20
    generalize upd HL t₁ (.lst z20) = H20 at T20 S20 ⊢
    have hlb3 := S20.keep _ _ nlb hlb2
    have tB := (Tst.same (K := K) slb).trans (Tst.step (K := K) S20)
    obtain ⟨vb, bg, hvb, rvb, bqb⟩ : ∃ (vb : V) (bg : R), atI ([.ref q0, .ref q1, .ref q2, .ref q3, .ref q4] : List V) r20 = some vb ∧ RV K H20 vb bg ∧ Bq 3111696 50 bg := by
      rcases (show r20 = 0 ∨ r20 = 1 ∨ r20 = 2 ∨ r20 = 3 ∨ r20 = 4 by omega) with rfl | rfl | rfl | rfl | rfl
      · exact ⟨_, _, rfl, rv0.mono tB, bq_lit (by decide) ⟨3111696, by decide⟩ (by decide) (by decide)⟩
      · exact ⟨_, _, rfl, rv1.mono tB, bq_lit (by decide) ⟨3111696, by decide⟩ (by decide) (by decide)⟩
      · exact ⟨_, _, rfl, rv2.mono tB, bq_lit (by decide) ⟨1037232, by decide⟩ (by decide) (by decide)⟩
      · exact ⟨_, _, rfl, rv3.mono tB, bq_lit (by decide) ⟨3111696, by decide⟩ (by decide) (by decide)⟩
      · exact ⟨_, _, rfl, rv4.mono tB, bq_lit (by decide) ⟨1037232, by decide⟩ (by decide) (by decide)⟩
    refine ⟨lb, _, _, _, rfl, rfl, SqL.of hlb3, hvb, ?_⟩
    have S10' := (Step.same sHL T10.lst).trans S20
    have rvo3 := rvo2.mono (Tst.step (K := K) S10')
    have rvn3 := rvn.mono (Tst.step (K := K) S10')
    refine ⟨_, rfl, _, rfl, _, rfl, _, rfl, kk, vn, vo, vb, os, ps, bg, rfl, rvn3, rvo3, rvb, bqb, k2, k4, by omega, by omega, wos, wps, fun vp rs H21 s21 rvp lrs wrs => ?_⟩
    obtain ⟨pp, xs, rfl, hSp, alp⟩ := rvp
    have hxl := alp.len
    have T21 := T20.same s21
    have S4a : Step t₁ H3 H6 := (S4.trans S5).trans S6
    have S37 : Step t₁ H3 H7 := (S4a.trans (Step.same slm T6.lst)).trans S7
    have S321 : Step t₁ H3 H21 := ((((S37.trans S8).trans S8').trans S10').trans (Step.same s21 T20.lst))
    have sm21 := stp sm3 S321
    have rvo4 := rvo3.same s21
    have rvn4 := rvn3.same s21
    clear rvo rvn rvo2 rvo3 rvn3
    obtain ⟨x0, hx0⟩ : ∃ x, xs[0]? = some x := ⟨_, List.getElem?_eq_getElem (by omega)⟩
    obtain ⟨q0', hq0', rvx0⟩ := alp.at hx0
    refine ⟨_, rfl, pp, _, _, _, rfl, rfl, hSp, atI_nat (j := 0) hx0, (by show 1 ≤ sizeLine; decide), fun ll hll0 => ?_⟩
    have sll := same_new hll0 (.lst [x0])
    have hll1 : upd H21 ll (.lst [x0]) ll = some (.lst [x0]) := upd_same
    have T22 := T21.same sll
    have nll : ll ≠ t₁ := fun z => by subst z; obtain ⟨_, q⟩ := T21.lst; rw [hll0] at q; cases q
    have nld : ll ≠ l₁ := fun z => by subst z; obtain ⟨_, q⟩ := T21.lst'; rw [hll0] at q; cases q
    have t22 := Tst.same (K := K) sll
    have rvx0' := rvx0.mono t22
    have hSp2 := t22 _ _ hSp
    have alp2 := alp.mono fun _ _ q => q.mono t22
    have rvo5 := rvo4.same sll
    have rvn5 := rvn4.same sll
    have sm22 := sm21.trans sll
    have hlln : H ll = none := by
      cases e : H ll with
      | none => rfl
      | some o => rw [sm21 _ _ e] at hll0; cases hll0
    generalize upd H21 ll (.lst [x0]) = H22 at hll1 T22 rvx0' hSp2 alp2 rvo5 rvn5 sm22 ⊢
    refine ⟨_, rfl, nn, rfl, by omega, by omega, for_range (lo := 0) (n := (nn : Int).toNat) (fun i σ H' => ∃ (ys2 : List V) (rs2 : List R) (x10 : Option V), σ = [some (.ref a), some (.int (i₀ : Int)), some (.ref t₁), some (.int kk), some (.int nn), some vo, some vn, some vb, some (.ref pp), some (.ref ll), x10, x11, x12] ∧ TapeB H' t₁ l₁ ∧ Same H H' ∧ Tst K H22 H' ∧ H' ll = some (.lst ys2) ∧ Als (RV K H') ys2 rs2 ∧ rs2.length = i + 1 ∧ ∀ r ∈ rs2, Bq 3111696 2467200111 r) ⟨[x0], [q0'], _, rfl, T22, sm22, Tst.refl _ _, hll1, .cons rvx0' .nil, rfl, fun r hr => by rw [List.mem_singleton.mp hr]; exact (wrs _ (List.mem_of_getElem? hq0')).mono ⟨1, by decide⟩ (by decide)⟩ ?_ ?_⟩
    · rintro i σ HI hi' ⟨ys2, rs2, x10, rfl, TI, smI, tI, hlI, al2, lr2, w2⟩
      rw [Int.zero_add]
      have hyl := al2.len
      obtain ⟨xt, hxt⟩ : ∃ x, xs[i + 1]? = some x := ⟨_, List.getElem?_eq_getElem (by omega)⟩
      obtain ⟨rt_, hrt, rvt⟩ := alp2.at hxt
      have bt := wrs rt_ (List.mem_of_getElem? hrt)
      obtain ⟨y30, e30⟩ := TI.lst
      refine ⟨_, rfl, .inl ⟨rfl, _, SqL.of hlI⟩, _, rfl, _, rfl, _, _, rfl, rfl, pp, _, _, _, rfl, rfl, tI _ _ hSp2, atI_nat (j := i + 1) hxt, _, rfl, _, _, rfl, rfl, _, rfl, t₁, l₁, 2, rfl, TI, by decide, by decide, fun r30 z30 a30 b30 T30 => ?_⟩
      have S30 := Step.up (ys := z30) e30
      generalize upd HI t₁ (.lst z30) = H30 at T30 S30 ⊢
      obtain ⟨y31, e31⟩ := T30.lst
      refine ⟨_, _, rfl, rfl, .inl ⟨by omega, by omega⟩, _, rfl, t₁, l₁, 3, rfl, T30, by decide, by decide, fun r31 z31 a31 b31 T31 => ?_⟩
      have S31 := Step.up (ys := z31) e31
      generalize upd H30 t₁ (.lst z31) = H31 at T31 S31 ⊢
      refine ⟨_, _, rfl, rfl, ((i : Int) + 1) * r30, 1 + r31, rfl, by omega, big_of (n := 3) (by show (1 + r31).natAbs < 8; omega) (by decide), fun pm hpm => ?_⟩
      have bm : Bq 3111696 61 (mkR (((i : Int) + 1) * r30) (1 + r31)) := by
        refine bq_mk (by omega) ?_ ?_
        · rcases (show r31 = 0 ∨ r31 = 1 ∨ r31 = 2 by omega) with rfl | rfl | rfl
          · exact ⟨3111696, by decide⟩
          · exact ⟨1555848, by decide⟩
          · exact ⟨1037232, by decide⟩
        · rcases (show r30 = 0 ∨ r30 = 1 by omega) with rfl | rfl
          · rw [Int.mul_zero]; exact Nat.zero_le _
          · rw [Int.mul_one]; omega
      have S3 := S30.trans S31
      have smm := same_new hpm (.tup [.int (mkR (((i : Int) + 1) * r30) (1 + r31)).1, .int (mkR (((i : Int) + 1) * r30) (1 + r31)).2])
      have rm : RV K (upd H31 pm (.tup [.int (mkR (((i : Int) + 1) * r30) (1 + r31)).1, .int (mkR (((i : Int) + 1) * r30) (1 + r31)).2])) (.ref pm) (mkR (((i : Int) + 1) * r30) (1 + r31)) := RV.of upd_same
      generalize mkR (((i : Int) + 1) * r30) (1 + r31) = mr at bm rm smm ⊢
      have TMm := T31.same smm
      generalize upd H31 pm (.tup [.int mr.1, .int mr.2]) = H32 at rm smm TMm ⊢
      have S32 := S3.trans (Step.same smm T31.lst)
      have t32 := tI.trans (Tst.step (K := K) S32)
      refine ⟨xt, .ref pm, rt_, mr, 60, 60, rfl, rvt.mono t32, rm, bq_w bt, bm.wf (by decide) (by decide) (by decide), by decide, fun pn hpn => ?_⟩
      have bn : Bq 3111696 2467200111 (minusR rt_ mr) := Bq.minus (by decide) bt bm
      have s33 := same_new hpn (.tup [.int (minusR rt_ mr).1, .int (minusR rt_ mr).2])
      have rn : RV K (upd H32 pn (.tup [.int (minusR rt_ mr).1, .int (minusR rt_ mr).2])) (.ref pn) (minusR rt_ mr) := RV.of upd_same
      have T33 := TMm.same s33
      generalize upd H32 pn (.tup [.int (minusR rt_ mr).1, .int (minusR rt_ mr).2]) = H33 at s33 rn T33 ⊢
      have S33 := S32.trans (Step.same s33 TMm.lst)
      have hl33 := S33.keep _ _ nll hlI
      refine ⟨ll, ys2, _, rfl, rfl, hl33, small1000 (by omega), ?_⟩
      have tu : Tst K H33 (upd H33 ll (.lst (ys2 ++ [.ref pn]))) := Tst.up hl33 _
      refine ⟨_, rs2 ++ [minusR rt_ mr], _, rfl, T33.upl nll nld _, fun b o q => ?_, (tI.trans (Tst.step (K := K) S33)).trans tu, upd_same, (al2.mono fun _ _ q => q.mono ((Tst.step (K := K) S33).trans tu)).snoc (rn.mono tu), by rw [List.length_append, lr2]; rfl, fun z hz => ?_⟩
      · rw [upd_ne (ne_of_none q hlln)]
        exact stp smI S33 b o q
      · rcases List.mem_append.mp hz with h | h
        · exact w2 z h
        · rw [List.mem_singleton.mp h]; exact bn
    rintro σ HW ⟨ys2, rs2, x10, rfl, TW, smW, tW, hll, all2, lr2, w2⟩
    have hyl := all2.len
    rw [show (nn : Int).toNat = nn from by omega] at lr2
    have hSp3 := tW _ _ hSp2
    have alp3 := alp2.mono fun _ _ q => q.mono tW
    have rvo6 := rvo5.mono tW
    have rvn6 := rvn5.mono tW
    clear hSp alp alp2 hSp2 hll1
    have hSp := hSp3
    have alp := alp3
    clear hSp3 alp3
    have w1 : ∀ r ∈ rs, Wf 62 r := fun r hr => (bq_w (wrs r hr)).mono (by decide)
    have w3 : ∀ r ∈ rs2, Wf 62 r := fun r hr => (w2 r hr).wf (by decide) (by decide) (by decide)
    obtain ⟨D, hD_⟩ : ∃ D, D = l₁ := ⟨_, rfl⟩
    have nD : D ≠ t₁ := by rw [hD_]; exact n1
    have hd_ : ∃ ys, HW D = some (.lst ys) := by rw [hD_]; exact TW.lst'
    have SW : Step t₁ HW HW := ⟨fun _ _ _ q => q, TW.lst, TW.lst⟩
    have tD := hd_tst (K := K) TW.lst nD hd_
    have dap : DeepAll K (hid HW t₁ D) xs (rs.map dR) := (alp.mono fun _ _ q => q.mono tD).deep fun _ _ q => q.deep
    have dpp : Deep K (hid HW t₁ D) (.ref pp) (.tuple (rs.map dR)) := .tup (tD _ _ hSp) dap
    have dal : DeepAll K (hid HW t₁ D) ys2 (rs2.map dR) := (all2.mono fun _ _ q => q.mono tD).deep fun _ _ q => q.deep
    have gep : ∀ d ∈ rs.map dR, Gd 1 5000 d := fun d hd => by
      obtain ⟨w, hw, rfl⟩ := List.mem_map.mp hd
      exact gd_dR ((w1 w hw).mono (by decide))
    have ge2 : ∀ d ∈ rs2.map dR, Gd 1 5000 d := fun d hd => by
      obtain ⟨w, hw, rfl⟩ := List.mem_map.mp hd
      exact gd_dR ((w3 w hw).mono (by decide))
    have gdp : Gd 2 305191 (.tuple (rs.map dR)) := gTu 61 305191 gep (by rw [List.length_map]; omega)
    have ok1 : TwoOk kk os ps := two_ok k2 k4 (by omega) (by omega) wos wps
    have ok2 : TwoOk kk ps os := two_ok k2 k4 (by omega) (by omega) wps wos
    have HWo : Hp := HW
    have rSW := SW
    refine ⟨_, rfl, _, rfl, ll, _, rfl, .inl ⟨SqL.of hll, ?_⟩⟩
    intro pf1 gf1
    obtain ⟨ef1, hf1, df1⟩ := nwO (o := (.tup ys2)) gf1 TW.lst hd_
    generalize upd HW pf1 (.tup ys2) = Hf1 at ef1 hf1 df1 ⊢
    replace SW := SW.trans (.same ef1 TW.lst)
    replace TW := TW.same ef1
    replace hd_ := hd_.imp fun _ q => ef1 _ _ q
    replace hSp := tS ef1 hSp
    replace alp := alp.mono fun _ _ q => q.mono (Tst.same (K := K) ef1)
    replace dpp := dS ef1 dpp
    replace hll := ef1 _ _ hll
    replace all2 := all2.mono fun _ _ q => q.mono (Tst.same (K := K) ef1)
    replace dal := aS ef1 dal
    have daf1 : DeepAll K (hid Hf1 t₁ D) ys2 (rs2.map dR) := dal
    have dpf1 := dpT df1 daf1
    clear ef1 hf1 df1
    have gdf1 := gTu 61 305191 ge2 (by first | omega | (simp <;> omega))
    refine ⟨(by show 2 ≤ sizeLine; decide), fun pf2 gf2 => ?_⟩
    obtain ⟨ef2, hf2, df2⟩ := nwO (o := (.tup [V.int (0), V.int (1)])) gf2 TW.lst hd_
    generalize upd Hf1 pf2 (.tup [V.int (0), V.int (1)]) = Hf2 at ef2 hf2 df2 ⊢
    replace SW := SW.trans (.same ef2 TW.lst)
    replace TW := TW.same ef2
    replace hd_ := hd_.imp fun _ q => ef2 _ _ q
    replace hSp := tS ef2 hSp
    replace alp := alp.mono fun _ _ q => q.mono (Tst.same (K := K) ef2)
    replace dpp := dS ef2 dpp
    replace hll := ef2 _ _ hll
    replace all2 := all2.mono fun _ _ q => q.mono (Tst.same (K := K) ef2)
    replace dpf1 := dS ef2 dpf1
    have sqf2 := SqT.of (K := K) hf2
    have daf2 : DeepAll K (hid Hf2 t₁ D) [V.int (0), V.int (1)] [PyData.int (0), PyData.int (1)] := (.cons (.int _) (.cons (.int _) .nil))
    have dpf2 := dpT df2 daf2
    clear ef2 hf2 df2
    have gef2 : ∀ d ∈ ([PyData.int (0), PyData.int (1)] : List PyData), Gd 0 5000 d := (gC (gW (gd_int (by decide))) (gC (gW (gd_int (by decide))) gN))
    have gdf2 := gTu 2 10014 gef2
    refine ⟨(by show 1 ≤ sizeLine; decide), fun pf3 gf3 => ?_⟩
    obtain ⟨ef3, hf3, df3⟩ := nwO (o := (.tup [V.ref pf2])) gf3 TW.lst hd_
    generalize upd Hf2 pf3 (.tup [V.ref pf2]) = Hf3 at ef3 hf3 df3 ⊢
    replace SW := SW.trans (.same ef3 TW.lst)
    replace TW := TW.same ef3
    replace hd_ := hd_.imp fun _ q => ef3 _ _ q
    replace hSp := tS ef3 hSp
    replace alp := alp.mono fun _ _ q => q.mono (Tst.same (K := K) ef3)
    replace dpp := dS ef3 dpp
    replace hll := ef3 _ _ hll
    replace all2 := all2.mono fun _ _ q => q.mono (Tst.same (K := K) ef3)
    replace dpf1 := dS ef3 dpf1
    replace dpf2 := dS ef3 dpf2
    have sqf3 := SqT.of (K := K) hf3
    have daf3 : DeepAll K (hid Hf3 t₁ D) [V.ref pf2] [PyData.tuple [PyData.int (0), PyData.int (1)]] := (.cons dpf2 .nil)
    have dpf3 := dpT df3 daf3
    clear ef3 hf3 df3
    have gef3 : ∀ d ∈ ([PyData.tuple [PyData.int (0), PyData.int (1)]] : List PyData), Gd 1 10014 d := (gC (gW gdf2) gN)
    have gdf3 := gTu 1 10025 gef3
    refine ⟨_, rfl, _, _, rfl, rfl, pf3, _, nn + 1, rfl, rfl, sqf3, by omega, by omega, fun pf4 Hf4 ef4 cf4 => ?_⟩
    replace SW := SW.trans (.same ef4 TW.lst)
    replace TW := TW.same ef4
    replace hd_ := hd_.imp fun _ q => ef4 _ _ q
    replace hSp := tS ef4 hSp
    replace alp := alp.mono fun _ _ q => q.mono (Tst.same (K := K) ef4)
    replace dpp := dS ef4 dpp
    replace hll := ef4 _ _ hll
    replace all2 := all2.mono fun _ _ q => q.mono (Tst.same (K := K) ef4)
    replace dpf1 := dS ef4 dpf1
    replace dpf2 := dS ef4 dpf2
    have daf4 : DeepAll K (hid Hf4 t₁ D) (List.replicate (nn + 1) (V.ref pf2)) (List.replicate (nn + 1) (PyData.tuple [PyData.int (0), PyData.int (1)])) := DeepAll.rep dpf2 (nn + 1)
    have dpf4 : Deep K (hid Hf4 t₁ D) (.ref pf4) (.tuple (List.replicate (nn + 1) (PyData.tuple [PyData.int (0), PyData.int (1)]))) := .tup (hd_tst (K := K) TW.lst nD hd_ _ _ cf4) daf4
    clear ef4
    have gdf4 := gTu 61 611045 (gd_rep gdf2 (nn + 1)) (by rw [List.length_replicate]; omega)
    refine ⟨(by show 0 ≤ sizeLine; decide), fun pf5 gf5 => ?_⟩
    obtain ⟨ef5, hf5, df5⟩ := nwO (o := (.tup [])) gf5 TW.lst hd_
    generalize upd Hf4 pf5 (.tup []) = Hf5 at ef5 hf5 df5 ⊢
    replace SW := SW.trans (.same ef5 TW.lst)
    replace TW := TW.same ef5
    replace hd_ := hd_.imp fun _ q => ef5 _ _ q
    replace hSp := tS ef5 hSp
    replace alp := alp.mono fun _ _ q => q.mono (Tst.same (K := K) ef5)
    replace dpp := dS ef5 dpp
    replace hll := ef5 _ _ hll
    replace all2 := all2.mono fun _ _ q => q.mono (Tst.same (K := K) ef5)
    replace dpf1 := dS ef5 dpf1
    replace dpf4 := dS ef5 dpf4
    have sqf5 := SqT.of (K := K) hf5
    have daf5 : DeepAll K (hid Hf5 t₁ D) [] [] := .nil
    have dpf5 := dpT df5 daf5
    clear ef5 hf5 df5
    have gef5 : ∀ d ∈ ([] : List PyData), Gd 0 0 d := gN
    have gdf5 := gTu 0 8 gef5
    refine ⟨(by show 2 ≤ sizeLine; decide), fun pf6 gf6 => ?_⟩
    obtain ⟨ef6, hf6, df6⟩ := nwO (o := (.tup [V.int (0), V.int (1)])) gf6 TW.lst hd_
    generalize upd Hf5 pf6 (.tup [V.int (0), V.int (1)]) = Hf6 at ef6 hf6 df6 ⊢
    replace SW := SW.trans (.same ef6 TW.lst)
    replace TW := TW.same ef6
    replace hd_ := hd_.imp fun _ q => ef6 _ _ q
    replace hSp := tS ef6 hSp
    replace alp := alp.mono fun _ _ q => q.mono (Tst.same (K := K) ef6)
    replace dpp := dS ef6 dpp
    replace hll := ef6 _ _ hll
    replace all2 := all2.mono fun _ _ q => q.mono (Tst.same (K := K) ef6)
    replace dpf1 := dS ef6 dpf1
    replace dpf4 := dS ef6 dpf4
    replace dpf5 := dS ef6 dpf5
    have sqf6 := SqT.of (K := K) hf6
    have daf6 : DeepAll K (hid Hf6 t₁ D) [V.int (0), V.int (1)] [PyData.int (0), PyData.int (1)] := (.cons (.int _) (.cons (.int _) .nil))
    have dpf6 := dpT df6 daf6
    clear ef6 hf6 df6
    have gef6 : ∀ d ∈ ([PyData.int (0), PyData.int (1)] : List PyData), Gd 0 5000 d := (gC (gW (gd_int (by decide))) (gC (gW (gd_int (by decide))) gN))
    have gdf6 := gTu 2 10014 gef6
    refine ⟨(by show 1 ≤ sizeLine; decide), fun pf7 gf7 => ?_⟩
    obtain ⟨ef7, hf7, df7⟩ := nwO (o := (.lst [V.ref pf6])) gf7 TW.lst hd_
    generalize upd Hf6 pf7 (.lst [V.ref pf6]) = Hf7 at ef7 hf7 df7 ⊢
    have nf7 := nwN gf7 TW.lst
    replace SW := SW.trans (.same ef7 TW.lst)
    replace TW := TW.same ef7
    replace hd_ := hd_.imp fun _ q => ef7 _ _ q
    replace hSp := tS ef7 hSp
    replace alp := alp.mono fun _ _ q => q.mono (Tst.same (K := K) ef7)
    replace dpp := dS ef7 dpp
    replace hll := ef7 _ _ hll
    replace all2 := all2.mono fun _ _ q => q.mono (Tst.same (K := K) ef7)
    replace dpf1 := dS ef7 dpf1
    replace dpf4 := dS ef7 dpf4
    replace dpf5 := dS ef7 dpf5
    replace dpf6 := dS ef7 dpf6
    have lsf7 := hf7
    have daf7 : DeepAll K (hid Hf7 t₁ D) [V.ref pf6] [PyData.tuple [PyData.int (0), PyData.int (1)]] := (.cons dpf6 .nil)
    have dpf7 := dpL df7 daf7
    clear ef7 hf7 df7
    have gef7 : ∀ d ∈ ([PyData.tuple [PyData.int (0), PyData.int (1)]] : List PyData), Gd 1 10014 d := (gC (gW gdf6) gN)
    have gdf7 := gLs 1 10025 gef7
    refine ⟨(by show 2 ≤ sizeLine; decide), fun pf8 gf8 => ?_⟩
    obtain ⟨ef8, hf8, df8⟩ := nwO (o := (.tup [V.int (0), V.int (1)])) gf8 TW.lst hd_
    generalize upd Hf7 pf8 (.tup [V.int (0), V.int (1)]) = Hf8 at ef8 hf8 df8 ⊢
    replace SW := SW.trans (.same ef8 TW.lst)
    replace TW := TW.same ef8
    replace hd_ := hd_.imp fun _ q => ef8 _ _ q
    replace hSp := tS ef8 hSp
    replace alp := alp.mono fun _ _ q => q.mono (Tst.same (K := K) ef8)
    replace dpp := dS ef8 dpp
    replace hll := ef8 _ _ hll
    replace all2 := all2.mono fun _ _ q => q.mono (Tst.same (K := K) ef8)
    replace dpf1 := dS ef8 dpf1
    replace dpf4 := dS ef8 dpf4
    replace dpf5 := dS ef8 dpf5
    replace dpf7 := dS ef8 dpf7
    have sqf8 := SqT.of (K := K) hf8
    have daf8 : DeepAll K (hid Hf8 t₁ D) [V.int (0), V.int (1)] [PyData.int (0), PyData.int (1)] := (.cons (.int _) (.cons (.int _) .nil))
    have dpf8 := dpT df8 daf8
    clear ef8 hf8 df8
    have gef8 : ∀ d ∈ ([PyData.int (0), PyData.int (1)] : List PyData), Gd 0 5000 d := (gC (gW (gd_int (by decide))) (gC (gW (gd_int (by decide))) gN))
    have gdf8 := gTu 2 10014 gef8
    refine ⟨(by show 1 ≤ sizeLine; decide), fun pf9 gf9 => ?_⟩
    obtain ⟨ef9, hf9, df9⟩ := nwO (o := (.tup [V.ref pf8])) gf9 TW.lst hd_
    generalize upd Hf8 pf9 (.tup [V.ref pf8]) = Hf9 at ef9 hf9 df9 ⊢
    replace SW := SW.trans (.same ef9 TW.lst)
    replace TW := TW.same ef9
    replace hd_ := hd_.imp fun _ q => ef9 _ _ q
    replace hSp := tS ef9 hSp
    replace alp := alp.mono fun _ _ q => q.mono (Tst.same (K := K) ef9)
    replace dpp := dS ef9 dpp
    replace hll := ef9 _ _ hll
    replace all2 := all2.mono fun _ _ q => q.mono (Tst.same (K := K) ef9)
    replace dpf1 := dS ef9 dpf1
    replace dpf4 := dS ef9 dpf4
    replace dpf5 := dS ef9 dpf5
    replace dpf7 := dS ef9 dpf7
    replace dpf8 := dS ef9 dpf8
    have sqf9 := SqT.of (K := K) hf9
    have daf9 : DeepAll K (hid Hf9 t₁ D) [V.ref pf8] [PyData.tuple [PyData.int (0), PyData.int (1)]] := (.cons dpf8 .nil)
    have dpf9 := dpT df9 daf9
    clear ef9 hf9 df9
    have gef9 : ∀ d ∈ ([PyData.tuple [PyData.int (0), PyData.int (1)]] : List PyData), Gd 1 10014 d := (gC (gW gdf8) gN)
    have gdf9 := gTu 1 10025 gef9
    refine ⟨(by show 9 ≤ sizeLine; decide), fun pf10 gf10 => ?_⟩
    obtain ⟨ef10, hf10, df10⟩ := nwO (o := (.lst [V.ref pp, V.ref pf1, V.ref pf4, V.non, V.ref pf5, V.int (7), V.str (Str.ofString "bill"), V.ref pf7, V.ref pf9])) gf10 TW.lst hd_
    generalize upd Hf9 pf10 (.lst [V.ref pp, V.ref pf1, V.ref pf4, V.non, V.ref pf5, V.int (7), V.str (Str.ofString "bill"), V.ref pf7, V.ref pf9]) = Hf10 at ef10 hf10 df10 ⊢
    have nf10 := nwN gf10 TW.lst
    replace SW := SW.trans (.same ef10 TW.lst)
    replace TW := TW.same ef10
    replace hd_ := hd_.imp fun _ q => ef10 _ _ q
    replace hSp := tS ef10 hSp
    replace alp := alp.mono fun _ _ q => q.mono (Tst.same (K := K) ef10)
    replace dpp := dS ef10 dpp
    replace hll := ef10 _ _ hll
    replace all2 := all2.mono fun _ _ q => q.mono (Tst.same (K := K) ef10)
    replace dpf1 := dS ef10 dpf1
    replace dpf4 := dS ef10 dpf4
    replace dpf5 := dS ef10 dpf5
    replace dpf7 := dS ef10 dpf7
    replace dpf9 := dS ef10 dpf9
    have lsf10 := hf10
    have daf10 : DeepAll K (hid Hf10 t₁ D) [V.ref pp, V.ref pf1, V.ref pf4, V.non, V.ref pf5, V.int (7), V.str (Str.ofString "bill"), V.ref pf7, V.ref pf9] [PyData.tuple (rs.map dR), PyData.tuple (rs2.map dR), PyData.tuple (List.replicate (nn + 1) (PyData.tuple [PyData.int (0), PyData.int (1)])), PyData.none, PyData.tuple [], PyData.int (7), PyData.str (Str.ofString "bill"), PyData.list [PyData.tuple [PyData.int (0), PyData.int (1)]], PyData.tuple [PyData.tuple [PyData.int (0), PyData.int (1)]]] := (.cons dpp (.cons dpf1 (.cons dpf4 (.cons .non (.cons dpf5 (.cons (.int _) (.cons (.str _) (.cons dpf7 (.cons dpf9 .nil)))))))))
    have dpf10 := dpL df10 daf10
    clear ef10 hf10 df10
    have gef10 : ∀ d ∈ ([PyData.tuple (rs.map dR), PyData.tuple (rs2.map dR), PyData.tuple (List.replicate (nn + 1) (PyData.tuple [PyData.int (0), PyData.int (1)])), PyData.none, PyData.tuple [], PyData.int (7), PyData.str (Str.ofString "bill"), PyData.list [PyData.tuple [PyData.int (0), PyData.int (1)]], PyData.tuple [PyData.tuple [PyData.int (0), PyData.int (1)]]] : List PyData), Gd 2 611045 d := (gC (gW gdp) (gC (gW gdf1) (gC (gW gdf4) (gC (gW gd_none) (gC (gW gdf5) (gC (gW (gd_int (by decide))) (gC (gW (gd_str (by decide +kernel) (by decide +kernel) (by decide +kernel))) (gC (gW gdf7) (gC (gW gdf9) gN)))))))))
    have gdf10 := gLs 9 5499440 gef10
    have rvoX := rvo6.mono (Tst.step (K := K) SW)
    have rvnX := rvn6.mono (Tst.step (K := K) SW)
    have smX := stp smW SW
    have dax := DeepAll.same hd_full daf10
    have lsx := lsf10
    have gex := gd_wide (k' := 8) (n' := 2000000) (by decide) (by decide) gef10
    refine ⟨pf10, rfl, ⟨_, SqL.of lsx⟩, for_list (K := K) (a := pf10) (xs := [V.ref pp, V.ref pf1, V.ref pf4, V.non, V.ref pf5, V.int (7), V.str (Str.ofString "bill"), V.ref pf7, V.ref pf9]) (fun j σ H' => ∃ (x11 : Option V), σ = [some (.ref a), some (.int (i₀ : Int)), some (.ref t₁), some (.int kk), some (.int nn), some vo, some vn, some vb, some (.ref pp), some (.ref ll), x10, x11, x12] ∧ Same Hf10 H') ⟨_, rfl, Same.refl _⟩ (fun j σ H' _ ⟨_, _, s⟩ => s.seq (SqL.of lsx)) ?_ ?_⟩
    · rintro j x σ H40 hx ⟨x11', rfl, s40⟩
      obtain ⟨de, hde⟩ : ∃ d, ([PyData.tuple (rs.map dR), PyData.tuple (rs2.map dR), PyData.tuple (List.replicate (nn + 1) (PyData.tuple [PyData.int (0), PyData.int (1)])), PyData.none, PyData.tuple [], PyData.int (7), PyData.str (Str.ofString "bill"), PyData.list [PyData.tuple [PyData.int (0), PyData.int (1)]], PyData.tuple [PyData.tuple [PyData.int (0), PyData.int (1)]]] : List PyData)[j]? = some d := ⟨_, List.getElem?_eq_getElem (by have h1 := (List.getElem?_eq_some_iff.mp hx).1; have h2 := dax.len; omega)⟩
      obtain ⟨xv, hxv, dv⟩ := DeepAll.atN dax hde
      rw [hx] at hxv
      cases hxv
      have dv := dv.same s40
      have gv := gex de (List.mem_of_getElem? hde)
      refine ⟨_, rfl, _, rfl, _, rfl, _, rfl, kk, vn, vo, x, os, ps, de, rfl, rvnX.same s40, rvoX.same s40, dv, gv, ok1, sh_three wos wps (by omega) (by omega) gv, fun H41 s41 => ⟨_, rfl, iteF ?_⟩⟩
      refine ⟨_, rfl, _, rfl, _, rfl, _, rfl, kk, vo, vn, x, ps, os, de, rfl, (rvoX.same s40).same s41, (rvnX.same s40).same s41, dv.same s41, gv, ok2, sh_three wps wos (by omega) (by omega) gv, fun H42 s42 => ⟨_, rfl, iteF ?_⟩⟩
      exact ⟨_, rfl, (s40.trans s41).trans s42⟩
    rintro σ H43 ⟨x11', rfl, s43⟩
    have T43 := TW.same s43
    have hSp4 := Tst.same (K := K) s43 _ _ hSp
    have alp4 := alp.mono fun _ _ q => q.mono (Tst.same (K := K) s43)
    have hll4 := s43 _ _ hll
    have all4 := all2.mono fun _ _ q => q.mono (Tst.same (K := K) s43)
    have rvoY := rvoX.same s43
    have rvnY := rvnX.same s43
    have smY := smX.trans s43
    refine ⟨12, rfl, by decide, by decide, for_range (lo := 0) (n := 12) (fun j σ H' => ∃ (x12 : Option V), σ = [some (.ref a), some (.int (i₀ : Int)), some (.ref t₁), some (.int kk), some (.int nn), some vo, some vn, some vb, some (.ref pp), some (.ref ll), x10, x11', x12] ∧ Step t₁ H43 H' ∧ TapeB H' t₁ l₁) ⟨_, rfl, ⟨fun _ _ _ q => q, T43.lst, T43.lst⟩, T43⟩ ?_ ?_⟩
    · rintro j σ H44 hj ⟨x12', rfl, S44, T44⟩
      have t44 := Tst.step (K := K) S44
      have hll5 := S44.keep _ _ nll hll4
      refine ⟨_, rfl, _, rfl, _, rfl, _, rfl, _, rfl, _, rfl, ll, _, rfl, .inl ⟨SqL.of hll5, fun p5 h5 => ?_⟩⟩
      have s45 := same_new h5 (.tup ys2)
      have hp5 : SqT K (upd H44 p5 (.tup ys2)) p5 ys2 := SqT.of upd_same
      have T45 := T44.same s45
      generalize upd H44 p5 (.tup ys2) = H45 at s45 hp5 T45 ⊢
      refine ⟨(by show 2 ≤ sizeLine; decide), fun l6 h6 => ?_⟩
      have s46 := same_new h6 (.lst [.ref pp, .ref p5])
      have hl6 : upd H45 l6 (.lst [.ref pp, .ref p5]) l6 = some (.lst [.ref pp, .ref p5]) := upd_same
      have T46 := T45.same s46
      generalize upd H45 l6 (.lst [.ref pp, .ref p5]) = H46 at s46 hl6 T46 ⊢
      have s456 := s45.trans s46
      have t46 := t44.trans (Tst.same (K := K) s456)
      obtain ⟨pq, xq, rq, hat, hSq, alq, lq1, lq2, wq⟩ : ∃ (pq : Addr) (xq : List V) (rq : List R), atI ([.ref pp, .ref p5] : List V) ((0 + (j : Int)) % 2) = some (.ref pq) ∧ SqT K H46 pq xq ∧ Als (RV K H46) xq rq ∧ 1 ≤ rq.length ∧ rq.length ≤ 61 ∧ ∀ r ∈ rq, Wf 62 r := by
        rcases (show (0 + (j : Int)) % 2 = 0 ∨ (0 + (j : Int)) % 2 = 1 by omega) with e | e
        · exact ⟨pp, xs, rs, by rw [e]; rfl, t46 _ _ hSp4, alp4.mono fun _ _ q => q.mono t46, by omega, by omega, w1⟩
        · exact ⟨p5, ys2, rs2, by rw [e]; rfl, Tst.same (K := K) s46 _ _ hp5, all4.mono fun _ _ q => q.mono t46, by omega, by omega, w3⟩
      refine ⟨_, rfl, _, _, rfl, rfl, (by show (0 : Int) < 2; decide), l6, _, _, _, rfl, rfl, SqL.of hl6, hat, t₁, l₁, pq, xq, rq, rfl, T46, hSq, alq, lq1, lq2, wq, fun u d H47 S47 T47 dd gg => ?_⟩
      have S47' := (S44.trans (Step.same s456 T44.lst)).trans S47
      have t47 := Tst.step (K := K) S47'
      refine ⟨kk, vn, vo, u, os, ps, d, rfl, rvnY.mono t47, rvoY.mono t47, dd.same hd_full, gg, ok1, sh_three wos wps (by omega) (by omega) gg, fun H48 s48 => ⟨_, rfl, iteF ?_⟩⟩
      exact ⟨_, rfl, S47'.trans (Step.same s48 T47.lst), T47.same s48⟩
    · rintro σ H44 ⟨x12', rfl, S44, T44⟩
      exact ⟨_, _, _, _, _, _, _, _, _, _, _, _, rfl, stp smY S44⟩
  · rintro σ H1 ⟨x1, x2, x3, x4, x5, x6, x7, x8, x9, x10, x11, x12, rfl, sm1⟩
    exact k _
end
theorem all_mk {l : PySem.W.OpenLaw} {w : World} {K : PySem.W.Frag} {h : Heap} {mg : Str → Option Value} {fa : Addr} (X : K.In h) (G : h.Ns mainGlobals mg) (hfa : mg "law" = some (.ref fa))
    {f_is_whole : Addr} {od_is_whole an_is_whole : Option Addr} {sl_is_whole : Array (Option Value)} {oc_is_whole kV_is_whole dc_is_whole pm_is_whole cd_is_whole ct_is_whole : Value}
    (p_is_whole : PySem.W.nsIn K mainGlobals "is_whole" = some (some (.ref f_is_whole))) (l_is_whole : K.lookup f_is_whole = some ⟨oc_is_whole, od_is_whole, .func (PySem.W.fnOf "is_whole" "is_whole" (defArgs s_is_whole) (defBody s_is_whole) (defScope s_is_whole) .none kV_is_whole dc_is_whole pm_is_whole an_is_whole cd_is_whole ct_is_whole), sl_is_whole⟩) (c_is_whole : PySem.W.codeIn K cd_is_whole "is_whole" = true) (k_is_whole : PySem.W.keepIn K (.ref f_is_whole) = true)
    {f_is_tuple_of : Addr} {od_is_tuple_of an_is_tuple_of : Option Addr} {sl_is_tuple_of : Array (Option Value)} {oc_is_tuple_of kV_is_tuple_of dc_is_tuple_of pm_is_tuple_of cd_is_tuple_of ct_is_tuple_of : Value}
    (p_is_tuple_of : PySem.W.nsIn K mainGlobals "is_tuple_of" = some (some (.ref f_is_tuple_of))) (l_is_tuple_of : K.lookup f_is_tuple_of = some ⟨oc_is_tuple_of, od_is_tuple_of, .func (PySem.W.fnOf "is_tuple_of" "is_tuple_of" (defArgs s_is_tuple_of) (defBody s_is_tuple_of) (defScope s_is_tuple_of) .none kV_is_tuple_of dc_is_tuple_of pm_is_tuple_of an_is_tuple_of cd_is_tuple_of ct_is_tuple_of), sl_is_tuple_of⟩) (c_is_tuple_of : PySem.W.codeIn K cd_is_tuple_of "is_tuple_of" = true) (k_is_tuple_of : PySem.W.keepIn K (.ref f_is_tuple_of) = true)
    {f_copied : Addr} {od_copied an_copied : Option Addr} {sl_copied : Array (Option Value)} {oc_copied kV_copied dc_copied pm_copied cd_copied ct_copied : Value}
    (p_copied : PySem.W.nsIn K mainGlobals "copied" = some (some (.ref f_copied))) (l_copied : K.lookup f_copied = some ⟨oc_copied, od_copied, .func (PySem.W.fnOf "copied" "copied" (defArgs s_copied) (defBody s_copied) (defScope s_copied) .none kV_copied dc_copied pm_copied an_copied cd_copied ct_copied), sl_copied⟩) (c_copied : PySem.W.codeIn K cd_copied "copied" = true) (k_copied : PySem.W.keepIn K (.ref f_copied) = true)
    {f_greatest_divisor : Addr} {od_greatest_divisor an_greatest_divisor : Option Addr} {sl_greatest_divisor : Array (Option Value)} {oc_greatest_divisor kV_greatest_divisor dc_greatest_divisor pm_greatest_divisor cd_greatest_divisor ct_greatest_divisor : Value}
    (p_greatest_divisor : PySem.W.nsIn K mainGlobals "greatest_divisor" = some (some (.ref f_greatest_divisor))) (l_greatest_divisor : K.lookup f_greatest_divisor = some ⟨oc_greatest_divisor, od_greatest_divisor, .func (PySem.W.fnOf "greatest_divisor" "greatest_divisor" (defArgs s_greatest_divisor) (defBody s_greatest_divisor) (defScope s_greatest_divisor) .none kV_greatest_divisor dc_greatest_divisor pm_greatest_divisor an_greatest_divisor cd_greatest_divisor ct_greatest_divisor), sl_greatest_divisor⟩) (c_greatest_divisor : PySem.W.codeIn K cd_greatest_divisor "greatest_divisor" = true) (k_greatest_divisor : PySem.W.keepIn K (.ref f_greatest_divisor) = true)
    {f_is_ratio : Addr} {od_is_ratio an_is_ratio : Option Addr} {sl_is_ratio : Array (Option Value)} {oc_is_ratio kV_is_ratio dc_is_ratio pm_is_ratio cd_is_ratio ct_is_ratio : Value}
    (p_is_ratio : PySem.W.nsIn K mainGlobals "is_ratio" = some (some (.ref f_is_ratio))) (l_is_ratio : K.lookup f_is_ratio = some ⟨oc_is_ratio, od_is_ratio, .func (PySem.W.fnOf "is_ratio" "is_ratio" (defArgs s_is_ratio) (defBody s_is_ratio) (defScope s_is_ratio) .none kV_is_ratio dc_is_ratio pm_is_ratio an_is_ratio cd_is_ratio ct_is_ratio), sl_is_ratio⟩) (c_is_ratio : PySem.W.codeIn K cd_is_ratio "is_ratio" = true) (k_is_ratio : PySem.W.keepIn K (.ref f_is_ratio) = true)
    {f_plus : Addr} {od_plus an_plus : Option Addr} {sl_plus : Array (Option Value)} {oc_plus kV_plus dc_plus pm_plus cd_plus ct_plus : Value}
    (p_plus : PySem.W.nsIn K mainGlobals "plus" = some (some (.ref f_plus))) (l_plus : K.lookup f_plus = some ⟨oc_plus, od_plus, .func (PySem.W.fnOf "plus" "plus" (defArgs s_plus) (defBody s_plus) (defScope s_plus) .none kV_plus dc_plus pm_plus an_plus cd_plus ct_plus), sl_plus⟩) (c_plus : PySem.W.codeIn K cd_plus "plus" = true) (k_plus : PySem.W.keepIn K (.ref f_plus) = true)
    {f_minus : Addr} {od_minus an_minus : Option Addr} {sl_minus : Array (Option Value)} {oc_minus kV_minus dc_minus pm_minus cd_minus ct_minus : Value}
    (p_minus : PySem.W.nsIn K mainGlobals "minus" = some (some (.ref f_minus))) (l_minus : K.lookup f_minus = some ⟨oc_minus, od_minus, .func (PySem.W.fnOf "minus" "minus" (defArgs s_minus) (defBody s_minus) (defScope s_minus) .none kV_minus dc_minus pm_minus an_minus cd_minus ct_minus), sl_minus⟩) (c_minus : PySem.W.codeIn K cd_minus "minus" = true) (k_minus : PySem.W.keepIn K (.ref f_minus) = true)
    {f_times : Addr} {od_times an_times : Option Addr} {sl_times : Array (Option Value)} {oc_times kV_times dc_times pm_times cd_times ct_times : Value}
    (p_times : PySem.W.nsIn K mainGlobals "times" = some (some (.ref f_times))) (l_times : K.lookup f_times = some ⟨oc_times, od_times, .func (PySem.W.fnOf "times" "times" (defArgs s_times) (defBody s_times) (defScope s_times) .none kV_times dc_times pm_times an_times cd_times ct_times), sl_times⟩) (c_times : PySem.W.codeIn K cd_times "times" = true) (k_times : PySem.W.keepIn K (.ref f_times) = true)
    {f_raised : Addr} {od_raised an_raised : Option Addr} {sl_raised : Array (Option Value)} {oc_raised kV_raised dc_raised pm_raised cd_raised ct_raised : Value}
    (p_raised : PySem.W.nsIn K mainGlobals "raised" = some (some (.ref f_raised))) (l_raised : K.lookup f_raised = some ⟨oc_raised, od_raised, .func (PySem.W.fnOf "raised" "raised" (defArgs s_raised) (defBody s_raised) (defScope s_raised) .none kV_raised dc_raised pm_raised an_raised cd_raised ct_raised), sl_raised⟩) (c_raised : PySem.W.codeIn K cd_raised "raised" = true) (k_raised : PySem.W.keepIn K (.ref f_raised) = true)
    {f_is_less : Addr} {od_is_less an_is_less : Option Addr} {sl_is_less : Array (Option Value)} {oc_is_less kV_is_less dc_is_less pm_is_less cd_is_less ct_is_less : Value}
    (p_is_less : PySem.W.nsIn K mainGlobals "is_less" = some (some (.ref f_is_less))) (l_is_less : K.lookup f_is_less = some ⟨oc_is_less, od_is_less, .func (PySem.W.fnOf "is_less" "is_less" (defArgs s_is_less) (defBody s_is_less) (defScope s_is_less) .none kV_is_less dc_is_less pm_is_less an_is_less cd_is_less ct_is_less), sl_is_less⟩) (c_is_less : PySem.W.codeIn K cd_is_less "is_less" = true) (k_is_less : PySem.W.keepIn K (.ref f_is_less) = true)
    {f_lets_bill : Addr} {od_lets_bill an_lets_bill : Option Addr} {sl_lets_bill : Array (Option Value)} {oc_lets_bill kV_lets_bill dc_lets_bill pm_lets_bill cd_lets_bill ct_lets_bill : Value}
    (p_lets_bill : PySem.W.nsIn K mainGlobals "lets_bill" = some (some (.ref f_lets_bill))) (l_lets_bill : K.lookup f_lets_bill = some ⟨oc_lets_bill, od_lets_bill, .func (PySem.W.fnOf "lets_bill" "lets_bill" (defArgs s_lets_bill) (defBody s_lets_bill) (defScope s_lets_bill) .none kV_lets_bill dc_lets_bill pm_lets_bill an_lets_bill cd_lets_bill ct_lets_bill), sl_lets_bill⟩) (c_lets_bill : PySem.W.codeIn K cd_lets_bill "lets_bill" = true) (k_lets_bill : PySem.W.keepIn K (.ref f_lets_bill) = true)
    {f_law_cell_at : Addr} {od_law_cell_at an_law_cell_at : Option Addr} {sl_law_cell_at : Array (Option Value)} {oc_law_cell_at kV_law_cell_at dc_law_cell_at pm_law_cell_at cd_law_cell_at ct_law_cell_at : Value}
    (p_law_cell_at : PySem.W.nsIn K mainGlobals "_law_cell_at" = some (some (.ref f_law_cell_at))) (l_law_cell_at : K.lookup f_law_cell_at = some ⟨oc_law_cell_at, od_law_cell_at, .func (PySem.W.fnOf "_law_cell_at" "_law_cell_at" (defArgs s_law_cell_at) (defBody s_law_cell_at) (defScope s_law_cell_at) .none kV_law_cell_at dc_law_cell_at pm_law_cell_at an_law_cell_at cd_law_cell_at ct_law_cell_at), sl_law_cell_at⟩) (c_law_cell_at : PySem.W.codeIn K cd_law_cell_at "_law_cell_at" = true) (k_law_cell_at : PySem.W.keepIn K (.ref f_law_cell_at) = true)
    {f_law_draws : Addr} {od_law_draws an_law_draws : Option Addr} {sl_law_draws : Array (Option Value)} {oc_law_draws kV_law_draws dc_law_draws pm_law_draws cd_law_draws ct_law_draws : Value}
    (p_law_draws : PySem.W.nsIn K mainGlobals "_law_draws" = some (some (.ref f_law_draws))) (l_law_draws : K.lookup f_law_draws = some ⟨oc_law_draws, od_law_draws, .func (PySem.W.fnOf "_law_draws" "_law_draws" (defArgs s_law_draws) (defBody s_law_draws) (defScope s_law_draws) .none kV_law_draws dc_law_draws pm_law_draws an_law_draws cd_law_draws ct_law_draws), sl_law_draws⟩) (c_law_draws : PySem.W.codeIn K cd_law_draws "_law_draws" = true) (k_law_draws : PySem.W.keepIn K (.ref f_law_draws) = true)
    {f_law_take : Addr} {od_law_take an_law_take : Option Addr} {sl_law_take : Array (Option Value)} {oc_law_take kV_law_take dc_law_take pm_law_take cd_law_take ct_law_take : Value}
    (p_law_take : PySem.W.nsIn K mainGlobals "_law_take" = some (some (.ref f_law_take))) (l_law_take : K.lookup f_law_take = some ⟨oc_law_take, od_law_take, .func (PySem.W.fnOf "_law_take" "_law_take" (defArgs s_law_take) (defBody s_law_take) (defScope s_law_take) .none kV_law_take dc_law_take pm_law_take an_law_take cd_law_take ct_law_take), sl_law_take⟩) (c_law_take : PySem.W.codeIn K cd_law_take "_law_take" = true) (k_law_take : PySem.W.keepIn K (.ref f_law_take) = true)
    {f_law_made : Addr} {od_law_made an_law_made : Option Addr} {sl_law_made : Array (Option Value)} {oc_law_made kV_law_made dc_law_made pm_law_made cd_law_made ct_law_made : Value}
    (p_law_made : PySem.W.nsIn K mainGlobals "_law_made" = some (some (.ref f_law_made))) (l_law_made : K.lookup f_law_made = some ⟨oc_law_made, od_law_made, .func (PySem.W.fnOf "_law_made" "_law_made" (defArgs s_law_made) (defBody s_law_made) (defScope s_law_made) .none kV_law_made dc_law_made pm_law_made an_law_made cd_law_made ct_law_made), sl_law_made⟩) (c_law_made : PySem.W.codeIn K cd_law_made "_law_made" = true) (k_law_made : PySem.W.keepIn K (.ref f_law_made) = true)
    {f_law_plus : Addr} {od_law_plus an_law_plus : Option Addr} {sl_law_plus : Array (Option Value)} {oc_law_plus kV_law_plus dc_law_plus pm_law_plus cd_law_plus ct_law_plus : Value}
    (p_law_plus : PySem.W.nsIn K mainGlobals "_law_plus" = some (some (.ref f_law_plus))) (l_law_plus : K.lookup f_law_plus = some ⟨oc_law_plus, od_law_plus, .func (PySem.W.fnOf "_law_plus" "_law_plus" (defArgs s_law_plus) (defBody s_law_plus) (defScope s_law_plus) .none kV_law_plus dc_law_plus pm_law_plus an_law_plus cd_law_plus ct_law_plus), sl_law_plus⟩) (c_law_plus : PySem.W.codeIn K cd_law_plus "_law_plus" = true) (k_law_plus : PySem.W.keepIn K (.ref f_law_plus) = true)
    {f_law_minus : Addr} {od_law_minus an_law_minus : Option Addr} {sl_law_minus : Array (Option Value)} {oc_law_minus kV_law_minus dc_law_minus pm_law_minus cd_law_minus ct_law_minus : Value}
    (p_law_minus : PySem.W.nsIn K mainGlobals "_law_minus" = some (some (.ref f_law_minus))) (l_law_minus : K.lookup f_law_minus = some ⟨oc_law_minus, od_law_minus, .func (PySem.W.fnOf "_law_minus" "_law_minus" (defArgs s_law_minus) (defBody s_law_minus) (defScope s_law_minus) .none kV_law_minus dc_law_minus pm_law_minus an_law_minus cd_law_minus ct_law_minus), sl_law_minus⟩) (c_law_minus : PySem.W.codeIn K cd_law_minus "_law_minus" = true) (k_law_minus : PySem.W.keepIn K (.ref f_law_minus) = true)
    {f_law_times : Addr} {od_law_times an_law_times : Option Addr} {sl_law_times : Array (Option Value)} {oc_law_times kV_law_times dc_law_times pm_law_times cd_law_times ct_law_times : Value}
    (p_law_times : PySem.W.nsIn K mainGlobals "_law_times" = some (some (.ref f_law_times))) (l_law_times : K.lookup f_law_times = some ⟨oc_law_times, od_law_times, .func (PySem.W.fnOf "_law_times" "_law_times" (defArgs s_law_times) (defBody s_law_times) (defScope s_law_times) .none kV_law_times dc_law_times pm_law_times an_law_times cd_law_times ct_law_times), sl_law_times⟩) (c_law_times : PySem.W.codeIn K cd_law_times "_law_times" = true) (k_law_times : PySem.W.keepIn K (.ref f_law_times) = true)
    {f_law_is_less : Addr} {od_law_is_less an_law_is_less : Option Addr} {sl_law_is_less : Array (Option Value)} {oc_law_is_less kV_law_is_less dc_law_is_less pm_law_is_less cd_law_is_less ct_law_is_less : Value}
    (p_law_is_less : PySem.W.nsIn K mainGlobals "_law_is_less" = some (some (.ref f_law_is_less))) (l_law_is_less : K.lookup f_law_is_less = some ⟨oc_law_is_less, od_law_is_less, .func (PySem.W.fnOf "_law_is_less" "_law_is_less" (defArgs s_law_is_less) (defBody s_law_is_less) (defScope s_law_is_less) .none kV_law_is_less dc_law_is_less pm_law_is_less an_law_is_less cd_law_is_less ct_law_is_less), sl_law_is_less⟩) (c_law_is_less : PySem.W.codeIn K cd_law_is_less "_law_is_less" = true) (k_law_is_less : PySem.W.keepIn K (.ref f_law_is_less) = true)
    {f_law_raised : Addr} {od_law_raised an_law_raised : Option Addr} {sl_law_raised : Array (Option Value)} {oc_law_raised kV_law_raised dc_law_raised pm_law_raised cd_law_raised ct_law_raised : Value}
    (p_law_raised : PySem.W.nsIn K mainGlobals "_law_raised" = some (some (.ref f_law_raised))) (l_law_raised : K.lookup f_law_raised = some ⟨oc_law_raised, od_law_raised, .func (PySem.W.fnOf "_law_raised" "_law_raised" (defArgs s_law_raised) (defBody s_law_raised) (defScope s_law_raised) .none kV_law_raised dc_law_raised pm_law_raised an_law_raised cd_law_raised ct_law_raised), sl_law_raised⟩) (c_law_raised : PySem.W.codeIn K cd_law_raised "_law_raised" = true) (k_law_raised : PySem.W.keepIn K (.ref f_law_raised) = true)
    {f_law_is_ratio : Addr} {od_law_is_ratio an_law_is_ratio : Option Addr} {sl_law_is_ratio : Array (Option Value)} {oc_law_is_ratio kV_law_is_ratio dc_law_is_ratio pm_law_is_ratio cd_law_is_ratio ct_law_is_ratio : Value}
    (p_law_is_ratio : PySem.W.nsIn K mainGlobals "_law_is_ratio" = some (some (.ref f_law_is_ratio))) (l_law_is_ratio : K.lookup f_law_is_ratio = some ⟨oc_law_is_ratio, od_law_is_ratio, .func (PySem.W.fnOf "_law_is_ratio" "_law_is_ratio" (defArgs s_law_is_ratio) (defBody s_law_is_ratio) (defScope s_law_is_ratio) .none kV_law_is_ratio dc_law_is_ratio pm_law_is_ratio an_law_is_ratio cd_law_is_ratio ct_law_is_ratio), sl_law_is_ratio⟩) (c_law_is_ratio : PySem.W.codeIn K cd_law_is_ratio "_law_is_ratio" = true) (k_law_is_ratio : PySem.W.keepIn K (.ref f_law_is_ratio) = true)
    {f_law_billed : Addr} {od_law_billed an_law_billed : Option Addr} {sl_law_billed : Array (Option Value)} {oc_law_billed kV_law_billed dc_law_billed pm_law_billed cd_law_billed ct_law_billed : Value}
    (p_law_billed : PySem.W.nsIn K mainGlobals "_law_billed" = some (some (.ref f_law_billed))) (l_law_billed : K.lookup f_law_billed = some ⟨oc_law_billed, od_law_billed, .func (PySem.W.fnOf "_law_billed" "_law_billed" (defArgs s_law_billed) (defBody s_law_billed) (defScope s_law_billed) .none kV_law_billed dc_law_billed pm_law_billed an_law_billed cd_law_billed ct_law_billed), sl_law_billed⟩) (c_law_billed : PySem.W.codeIn K cd_law_billed "_law_billed" = true) (k_law_billed : PySem.W.keepIn K (.ref f_law_billed) = true)
    {f_law_greatest_bill : Addr} {od_law_greatest_bill an_law_greatest_bill : Option Addr} {sl_law_greatest_bill : Array (Option Value)} {oc_law_greatest_bill kV_law_greatest_bill dc_law_greatest_bill pm_law_greatest_bill cd_law_greatest_bill ct_law_greatest_bill : Value}
    (p_law_greatest_bill : PySem.W.nsIn K mainGlobals "_law_greatest_bill" = some (some (.ref f_law_greatest_bill))) (l_law_greatest_bill : K.lookup f_law_greatest_bill = some ⟨oc_law_greatest_bill, od_law_greatest_bill, .func (PySem.W.fnOf "_law_greatest_bill" "_law_greatest_bill" (defArgs s_law_greatest_bill) (defBody s_law_greatest_bill) (defScope s_law_greatest_bill) .none kV_law_greatest_bill dc_law_greatest_bill pm_law_greatest_bill an_law_greatest_bill cd_law_greatest_bill ct_law_greatest_bill), sl_law_greatest_bill⟩) (c_law_greatest_bill : PySem.W.codeIn K cd_law_greatest_bill "_law_greatest_bill" = true) (k_law_greatest_bill : PySem.W.keepIn K (.ref f_law_greatest_bill) = true)
    {f_law_speeds_by : Addr} {od_law_speeds_by an_law_speeds_by : Option Addr} {sl_law_speeds_by : Array (Option Value)} {oc_law_speeds_by kV_law_speeds_by dc_law_speeds_by pm_law_speeds_by cd_law_speeds_by ct_law_speeds_by : Value}
    (p_law_speeds_by : PySem.W.nsIn K mainGlobals "_law_speeds_by" = some (some (.ref f_law_speeds_by))) (l_law_speeds_by : K.lookup f_law_speeds_by = some ⟨oc_law_speeds_by, od_law_speeds_by, .func (PySem.W.fnOf "_law_speeds_by" "_law_speeds_by" (defArgs s_law_speeds_by) (defBody s_law_speeds_by) (defScope s_law_speeds_by) .none kV_law_speeds_by dc_law_speeds_by pm_law_speeds_by an_law_speeds_by cd_law_speeds_by ct_law_speeds_by), sl_law_speeds_by⟩) (c_law_speeds_by : PySem.W.codeIn K cd_law_speeds_by "_law_speeds_by" = true) (k_law_speeds_by : PySem.W.keepIn K (.ref f_law_speeds_by) = true)
    {f_law_told : Addr} {od_law_told an_law_told : Option Addr} {sl_law_told : Array (Option Value)} {oc_law_told kV_law_told dc_law_told pm_law_told cd_law_told ct_law_told : Value}
    (p_law_told : PySem.W.nsIn K mainGlobals "_law_told" = some (some (.ref f_law_told))) (l_law_told : K.lookup f_law_told = some ⟨oc_law_told, od_law_told, .func (PySem.W.fnOf "_law_told" "_law_told" (defArgs s_law_told) (defBody s_law_told) (defScope s_law_told) .none kV_law_told dc_law_told pm_law_told an_law_told cd_law_told ct_law_told), sl_law_told⟩) (c_law_told : PySem.W.codeIn K cd_law_told "_law_told" = true) (k_law_told : PySem.W.keepIn K (.ref f_law_told) = true)
    {f_law_bent : Addr} {od_law_bent an_law_bent : Option Addr} {sl_law_bent : Array (Option Value)} {oc_law_bent kV_law_bent dc_law_bent pm_law_bent cd_law_bent ct_law_bent : Value}
    (p_law_bent : PySem.W.nsIn K mainGlobals "_law_bent" = some (some (.ref f_law_bent))) (l_law_bent : K.lookup f_law_bent = some ⟨oc_law_bent, od_law_bent, .func (PySem.W.fnOf "_law_bent" "_law_bent" (defArgs s_law_bent) (defBody s_law_bent) (defScope s_law_bent) .none kV_law_bent dc_law_bent pm_law_bent an_law_bent cd_law_bent ct_law_bent), sl_law_bent⟩) (c_law_bent : PySem.W.codeIn K cd_law_bent "_law_bent" = true) (k_law_bent : PySem.W.keepIn K (.ref f_law_bent) = true)
    {f_law_right : Addr} {od_law_right an_law_right : Option Addr} {sl_law_right : Array (Option Value)} {oc_law_right kV_law_right dc_law_right pm_law_right cd_law_right ct_law_right : Value}
    (p_law_right : PySem.W.nsIn K mainGlobals "_law_right" = some (some (.ref f_law_right))) (l_law_right : K.lookup f_law_right = some ⟨oc_law_right, od_law_right, .func (PySem.W.fnOf "_law_right" "_law_right" (defArgs s_law_right) (defBody s_law_right) (defScope s_law_right) .none kV_law_right dc_law_right pm_law_right an_law_right cd_law_right ct_law_right), sl_law_right⟩) (c_law_right : PySem.W.codeIn K cd_law_right "_law_right" = true) (k_law_right : PySem.W.keepIn K (.ref f_law_right) = true)
    {f_law : Addr} {od_law an_law : Option Addr} {sl_law : Array (Option Value)} {oc_law kV_law dc_law pm_law cd_law ct_law : Value}
    (p_law : PySem.W.nsIn K mainGlobals "law" = some (some (.ref f_law))) (l_law : K.lookup f_law = some ⟨oc_law, od_law, .func (PySem.W.fnOf "law" "law" (defArgs s_law) (defBody s_law) (defScope s_law) .none kV_law dc_law pm_law an_law cd_law ct_law), sl_law⟩) (c_law : PySem.W.codeIn K cd_law "law" = true) (k_law : PySem.W.keepIn K (.ref f_law) = true)
    {f_NOUGHT : Addr} {od_NOUGHT : Option Addr} {sl_NOUGHT : Array (Option Value)} {tkNOUGHT0 tkNOUGHT1 : Tok} {n_NOUGHT : Nat} (p_NOUGHT : PySem.W.nsIn K mainGlobals "NOUGHT" = some (some (.ref f_NOUGHT))) (l_NOUGHT : K.lookup f_NOUGHT = some ⟨.type "tuple", od_NOUGHT, .seq #[.int (0) tkNOUGHT0, .int (1) tkNOUGHT1] n_NOUGHT, sl_NOUGHT⟩)
    {cB NB : Addr} {nmB qB : Str} {bsB : List Value} {hdB : Bool} {snB : List Str} {suB : List Value} {abB : Bool} {coB : Option Bool} {ddB : Option Addr} {j0 j1 j2 j3 j5 : Option Value} {ocB : Value} {odB : Option Addr} {esB : Array DictEntry} {nB : Nat} {slB : Array (Option Value)}
    (pB : PySem.W.nsIn K mainGlobals "PaceError" = some (some (.ref cB))) (lB : K.lookup cB = some (excClassObj nmB qB cB NB bsB [.type "ValueError", .type "Exception", .type "BaseException", .type "object"] hdB snB suB abB coB ddB j0 j1 j2 j3 j5 "ValueError.__new__")) (lnB : K.lookup NB = some ⟨ocB, odB, .dict esB nB, slB⟩) (hsB : strKeysB esB = true) (hnB : (nsFind esB "__init__").isNone = true)
    (cgB : PySem.W.specialIn K (.builtin "object.__class__") "__get__" = some (some (.builtin "getset_descriptor.__get__"))) (ctB : PySem.W.takesIn K (.builtin "object.__class__") = some true)
    {c_NoBill N_NoBill i_NoBill : Addr} {nm_NoBill q_NoBill : Str} {bs_NoBill : List Value} {hd_NoBill : Bool} {sn_NoBill : List Str} {su_NoBill : List Value} {ab_NoBill : Bool} {co_NoBill : Option Bool} {dd_NoBill : Option Addr} {k0_NoBill k1_NoBill k2_NoBill k3_NoBill k5_NoBill : Option Value} {od_NoBill an_NoBill : Option Addr} {sl_NoBill : Array (Option Value)} {oc_NoBill kV_NoBill dc_NoBill pm_NoBill cd_NoBill ct_NoBill : Value}
    (p_NoBill : PySem.W.nsIn K mainGlobals "NoBill" = some (some (.ref c_NoBill))) (lc_NoBill : K.lookup c_NoBill = some (excClassObj nm_NoBill q_NoBill c_NoBill N_NoBill bs_NoBill (.ref cB :: [.type "ValueError", .type "Exception", .type "BaseException", .type "object"]) hd_NoBill sn_NoBill su_NoBill ab_NoBill co_NoBill dd_NoBill k0_NoBill k1_NoBill k2_NoBill k3_NoBill k5_NoBill "ValueError.__new__")) (fi_NoBill : PySem.W.findIn K (.ref c_NoBill) "__init__" = some (some (.ref i_NoBill)))
    (l_NoBill : K.lookup i_NoBill = some ⟨oc_NoBill, od_NoBill, .func (PySem.W.fnOf "__init__" "NoBill.__init__" (defArgs s_NoBill) (defBody s_NoBill) (defScope s_NoBill) .none kV_NoBill dc_NoBill pm_NoBill an_NoBill cd_NoBill ct_NoBill), sl_NoBill⟩) (cd_NoBill_ : PySem.W.codeIn K cd_NoBill "NoBill.__init__" = true) (ki_NoBill : PySem.W.keepIn K (.ref i_NoBill) = true) (ti_NoBill : PySem.W.typeIn K (.ref i_NoBill) = some (.type "function")) (kc_NoBill : PySem.W.keepIn K (.ref c_NoBill) = true)
    (hh_NoBill : PySem.W.hasDictIn K c_NoBill = true) (sa_NoBill : PySem.W.findIn K (.ref c_NoBill) "__setattr__" = some (some (.builtin "object.__setattr__")))
    (na_NoBill_word : PySem.W.findIn K (.ref c_NoBill) "word" = some none) (na_NoBill_number : PySem.W.findIn K (.ref c_NoBill) "number" = some none) (ga_NoBill : PySem.W.findIn K (.ref c_NoBill) "__getattribute__" = some (some (.builtin "BaseException.__getattribute__"))) (gn_NoBill : PySem.W.findIn K (.ref c_NoBill) "__getattr__" = some none) (cl_NoBill : PySem.W.findIn K (.ref c_NoBill) "__class__" = some (some (.builtin "object.__class__")))
    {c_PaceError : Addr} (p_PaceError : PySem.W.nsIn K mainGlobals "PaceError" = some (some (.ref c_PaceError)))
    {c_NoLeast : Addr} (p_NoLeast : PySem.W.nsIn K mainGlobals "NoLeast" = some (some (.ref c_NoLeast)))
    {c_NoMix : Addr} (p_NoMix : PySem.W.nsIn K mainGlobals "NoMix" = some (some (.ref c_NoMix)))
    {c_NoPlan : Addr} (p_NoPlan : PySem.W.nsIn K mainGlobals "NoPlan" = some (some (.ref c_NoPlan)))
    {c_NoStretch : Addr} (p_NoStretch : PySem.W.nsIn K mainGlobals "NoStretch" = some (some (.ref c_NoStretch)))
    (w_x_catch : PySem.W.exmOne K (.ref c_NoBill) (.ref c_PaceError) = some true)
    (w_y_self : PySem.W.kitOne K (.ref c_NoBill) (.ref c_NoBill) = some true)
    (w_y_not : PySem.W.kitAny K (.ref c_NoBill) [.ref c_NoLeast, .ref c_NoMix, .ref c_NoPlan, .ref c_NoStretch] = some false)
    (z_abs : PySem.W.nsIn K mainGlobals "abs" = some none)
    (z_all : PySem.W.nsIn K mainGlobals "all" = some none)
    (z_bool : PySem.W.nsIn K mainGlobals "bool" = some none)
    (z_int : PySem.W.nsIn K mainGlobals "int" = some none)
    (z_isinstance : PySem.W.nsIn K mainGlobals "isinstance" = some none)
    (z_len : PySem.W.nsIn K mainGlobals "len" = some none)
    (z_list : PySem.W.nsIn K mainGlobals "list" = some none)
    (z_range : PySem.W.nsIn K mainGlobals "range" = some none)
    (z_repr : PySem.W.nsIn K mainGlobals "repr" = some none)
    (z_tuple : PySem.W.nsIn K mainGlobals "tuple" = some none)
    : ∃ fd : FuncData, (∀ (s : Shared) (v : Value), BindsTo s fd ⟨[v], []⟩ [("_law_script", v)]) ∧ ∀ base : Heap, K.In base → base.Ns mainGlobals mg → FnOk l.prog w K mg base CX0 7 fa fd ["_law_script"] (sp_law K) := by
  have e := hfa.symm.trans (PySem.W.mg_of X G p_law)
  cases e
  have F_is_whole := fun_mk (st := s_is_whole) l_is_whole c_is_whole k_is_whole
  have b_is_whole := F_is_whole.binds (ps := ["thing"]) fun _ _ _ _ _ _ us hl => match us, hl with | [_], _ => rfl
  have F_is_tuple_of := fun_mk (st := s_is_tuple_of) l_is_tuple_of c_is_tuple_of k_is_tuple_of
  have b_is_tuple_of := F_is_tuple_of.binds (ps := ["thing", "length"]) fun _ _ _ _ _ _ us hl => match us, hl with | [_, _], _ => rfl
  have F_copied := fun_mk (st := s_copied) l_copied c_copied k_copied
  have b_copied := F_copied.binds (ps := ["thing"]) fun _ _ _ _ _ _ us hl => match us, hl with | [_], _ => rfl
  have F_greatest_divisor := fun_mk (st := s_greatest_divisor) l_greatest_divisor c_greatest_divisor k_greatest_divisor
  have b_greatest_divisor := F_greatest_divisor.binds (ps := ["one", "other"]) fun _ _ _ _ _ _ us hl => match us, hl with | [_, _], _ => rfl
  have F_is_ratio := fun_mk (st := s_is_ratio) l_is_ratio c_is_ratio k_is_ratio
  have b_is_ratio := F_is_ratio.binds (ps := ["thing"]) fun _ _ _ _ _ _ us hl => match us, hl with | [_], _ => rfl
  have F_plus := fun_mk (st := s_plus) l_plus c_plus k_plus
  have b_plus := F_plus.binds (ps := ["one", "other"]) fun _ _ _ _ _ _ us hl => match us, hl with | [_, _], _ => rfl
  have F_minus := fun_mk (st := s_minus) l_minus c_minus k_minus
  have b_minus := F_minus.binds (ps := ["one", "other"]) fun _ _ _ _ _ _ us hl => match us, hl with | [_, _], _ => rfl
  have F_times := fun_mk (st := s_times) l_times c_times k_times
  have b_times := F_times.binds (ps := ["one", "other"]) fun _ _ _ _ _ _ us hl => match us, hl with | [_, _], _ => rfl
  have F_raised := fun_mk (st := s_raised) l_raised c_raised k_raised
  have b_raised := F_raised.binds (ps := ["one", "power"]) fun _ _ _ _ _ _ us hl => match us, hl with | [_, _], _ => rfl
  have F_is_less := fun_mk (st := s_is_less) l_is_less c_is_less k_is_less
  have b_is_less := F_is_less.binds (ps := ["one", "other"]) fun _ _ _ _ _ _ us hl => match us, hl with | [_, _], _ => rfl
  have F_lets_bill := fun_mk (st := s_lets_bill) l_lets_bill c_lets_bill k_lets_bill
  have b_lets_bill := F_lets_bill.binds (ps := ["k", "one", "other", "thing"]) fun _ _ _ _ _ _ us hl => match us, hl with | [_, _, _, _], _ => rfl
  have F_law_cell_at := fun_mk (st := s_law_cell_at) l_law_cell_at c_law_cell_at k_law_cell_at
  have b_law_cell_at := F_law_cell_at.binds (ps := ["_law_script", "_law_k"]) fun _ _ _ _ _ _ us hl => match us, hl with | [_, _], _ => rfl
  have F_law_draws := fun_mk (st := s_law_draws) l_law_draws c_law_draws k_law_draws
  have b_law_draws := F_law_draws.binds (ps := ["_law_cell", "_law_many"]) fun _ _ _ _ _ _ us hl => match us, hl with | [_, _], _ => rfl
  have F_law_take := fun_mk (st := s_law_take) l_law_take c_law_take k_law_take
  have b_law_take := F_law_take.binds (ps := ["_law_tape", "_law_many"]) fun _ _ _ _ _ _ us hl => match us, hl with | [_, _], _ => rfl
  have F_law_made := fun_mk (st := s_law_made) l_law_made c_law_made k_law_made
  have b_law_made := F_law_made.binds (ps := ["_law_top", "_law_bottom"]) fun _ _ _ _ _ _ us hl => match us, hl with | [_, _], _ => rfl
  have F_law_plus := fun_mk (st := s_law_plus) l_law_plus c_law_plus k_law_plus
  have b_law_plus := F_law_plus.binds (ps := ["_law_one", "_law_other"]) fun _ _ _ _ _ _ us hl => match us, hl with | [_, _], _ => rfl
  have F_law_minus := fun_mk (st := s_law_minus) l_law_minus c_law_minus k_law_minus
  have b_law_minus := F_law_minus.binds (ps := ["_law_one", "_law_other"]) fun _ _ _ _ _ _ us hl => match us, hl with | [_, _], _ => rfl
  have F_law_times := fun_mk (st := s_law_times) l_law_times c_law_times k_law_times
  have b_law_times := F_law_times.binds (ps := ["_law_one", "_law_other"]) fun _ _ _ _ _ _ us hl => match us, hl with | [_, _], _ => rfl
  have F_law_is_less := fun_mk (st := s_law_is_less) l_law_is_less c_law_is_less k_law_is_less
  have b_law_is_less := F_law_is_less.binds (ps := ["_law_one", "_law_other"]) fun _ _ _ _ _ _ us hl => match us, hl with | [_, _], _ => rfl
  have F_law_raised := fun_mk (st := s_law_raised) l_law_raised c_law_raised k_law_raised
  have b_law_raised := F_law_raised.binds (ps := ["_law_one", "_law_many"]) fun _ _ _ _ _ _ us hl => match us, hl with | [_, _], _ => rfl
  have F_law_is_ratio := fun_mk (st := s_law_is_ratio) l_law_is_ratio c_law_is_ratio k_law_is_ratio
  have b_law_is_ratio := F_law_is_ratio.binds (ps := ["_law_thing"]) fun _ _ _ _ _ _ us hl => match us, hl with | [_], _ => rfl
  have F_law_billed := fun_mk (st := s_law_billed) l_law_billed c_law_billed k_law_billed
  have b_law_billed := F_law_billed.binds (ps := ["_law_k", "_law_one", "_law_other", "_law_thing"]) fun _ _ _ _ _ _ us hl => match us, hl with | [_, _, _, _], _ => rfl
  have F_law_greatest_bill := fun_mk (st := s_law_greatest_bill) l_law_greatest_bill c_law_greatest_bill k_law_greatest_bill
  have b_law_greatest_bill := F_law_greatest_bill.binds (ps := ["_law_k", "_law_one", "_law_other", "_law_begin"]) fun _ _ _ _ _ _ us hl => match us, hl with | [_, _, _, _], _ => rfl
  have F_law_speeds_by := fun_mk (st := s_law_speeds_by) l_law_speeds_by c_law_speeds_by k_law_speeds_by
  have b_law_speeds_by := F_law_speeds_by.binds (ps := ["_law_tape", "_law_many", "_law_most"]) fun _ _ _ _ _ _ us hl => match us, hl with | [_, _, _], _ => rfl
  have F_law_told := fun_mk (st := s_law_told) l_law_told c_law_told k_law_told
  have b_law_told := F_law_told.binds (ps := ["_law_k", "_law_one", "_law_other", "_law_thing"]) fun _ _ _ _ _ _ us hl => match us, hl with | [_, _, _, _], _ => rfl
  have F_law_bent := fun_mk (st := s_law_bent) l_law_bent c_law_bent k_law_bent
  have b_law_bent := F_law_bent.binds (ps := ["_law_tape", "_law_paper"]) fun _ _ _ _ _ _ us hl => match us, hl with | [_, _], _ => rfl
  have F_law_right := fun_mk (st := s_law_right) l_law_right c_law_right k_law_right
  have b_law_right := F_law_right.binds (ps := ["_law_k", "_law_one", "_law_other", "_law_thing"]) fun _ _ _ _ _ _ us hl => match us, hl with | [_, _, _, _], _ => rfl
  have F_law := fun_mk (st := s_law) l_law c_law k_law
  have b_law := F_law.binds (ps := ["_law_script"]) fun _ _ _ _ _ _ us hl => match us, hl with | [_], _ => rfl
  have F_NoBill := fun_mk (st := s_NoBill) l_NoBill cd_NoBill_ ki_NoBill
  have b_NoBill := F_NoBill.binds (ps := ["self", "word", "number"]) fun _ _ _ _ _ _ us hl => match us, hl with | [_, _, _], _ => rfl
  have T : Txt K mg ⟨f_is_whole, PySem.W.fnOf "is_whole" "is_whole" (defArgs s_is_whole) (defBody s_is_whole) (defScope s_is_whole) .none kV_is_whole dc_is_whole pm_is_whole an_is_whole cd_is_whole ct_is_whole, f_is_tuple_of, PySem.W.fnOf "is_tuple_of" "is_tuple_of" (defArgs s_is_tuple_of) (defBody s_is_tuple_of) (defScope s_is_tuple_of) .none kV_is_tuple_of dc_is_tuple_of pm_is_tuple_of an_is_tuple_of cd_is_tuple_of ct_is_tuple_of, f_copied, PySem.W.fnOf "copied" "copied" (defArgs s_copied) (defBody s_copied) (defScope s_copied) .none kV_copied dc_copied pm_copied an_copied cd_copied ct_copied, f_greatest_divisor, PySem.W.fnOf "greatest_divisor" "greatest_divisor" (defArgs s_greatest_divisor) (defBody s_greatest_divisor) (defScope s_greatest_divisor) .none kV_greatest_divisor dc_greatest_divisor pm_greatest_divisor an_greatest_divisor cd_greatest_divisor ct_greatest_divisor, f_is_ratio, PySem.W.fnOf "is_ratio" "is_ratio" (defArgs s_is_ratio) (defBody s_is_ratio) (defScope s_is_ratio) .none kV_is_ratio dc_is_ratio pm_is_ratio an_is_ratio cd_is_ratio ct_is_ratio, f_plus, PySem.W.fnOf "plus" "plus" (defArgs s_plus) (defBody s_plus) (defScope s_plus) .none kV_plus dc_plus pm_plus an_plus cd_plus ct_plus, f_minus, PySem.W.fnOf "minus" "minus" (defArgs s_minus) (defBody s_minus) (defScope s_minus) .none kV_minus dc_minus pm_minus an_minus cd_minus ct_minus, f_times, PySem.W.fnOf "times" "times" (defArgs s_times) (defBody s_times) (defScope s_times) .none kV_times dc_times pm_times an_times cd_times ct_times, f_raised, PySem.W.fnOf "raised" "raised" (defArgs s_raised) (defBody s_raised) (defScope s_raised) .none kV_raised dc_raised pm_raised an_raised cd_raised ct_raised, f_is_less, PySem.W.fnOf "is_less" "is_less" (defArgs s_is_less) (defBody s_is_less) (defScope s_is_less) .none kV_is_less dc_is_less pm_is_less an_is_less cd_is_less ct_is_less, f_lets_bill, PySem.W.fnOf "lets_bill" "lets_bill" (defArgs s_lets_bill) (defBody s_lets_bill) (defScope s_lets_bill) .none kV_lets_bill dc_lets_bill pm_lets_bill an_lets_bill cd_lets_bill ct_lets_bill, f_law_cell_at, PySem.W.fnOf "_law_cell_at" "_law_cell_at" (defArgs s_law_cell_at) (defBody s_law_cell_at) (defScope s_law_cell_at) .none kV_law_cell_at dc_law_cell_at pm_law_cell_at an_law_cell_at cd_law_cell_at ct_law_cell_at, f_law_draws, PySem.W.fnOf "_law_draws" "_law_draws" (defArgs s_law_draws) (defBody s_law_draws) (defScope s_law_draws) .none kV_law_draws dc_law_draws pm_law_draws an_law_draws cd_law_draws ct_law_draws, f_law_take, PySem.W.fnOf "_law_take" "_law_take" (defArgs s_law_take) (defBody s_law_take) (defScope s_law_take) .none kV_law_take dc_law_take pm_law_take an_law_take cd_law_take ct_law_take, f_law_made, PySem.W.fnOf "_law_made" "_law_made" (defArgs s_law_made) (defBody s_law_made) (defScope s_law_made) .none kV_law_made dc_law_made pm_law_made an_law_made cd_law_made ct_law_made, f_law_plus, PySem.W.fnOf "_law_plus" "_law_plus" (defArgs s_law_plus) (defBody s_law_plus) (defScope s_law_plus) .none kV_law_plus dc_law_plus pm_law_plus an_law_plus cd_law_plus ct_law_plus, f_law_minus, PySem.W.fnOf "_law_minus" "_law_minus" (defArgs s_law_minus) (defBody s_law_minus) (defScope s_law_minus) .none kV_law_minus dc_law_minus pm_law_minus an_law_minus cd_law_minus ct_law_minus, f_law_times, PySem.W.fnOf "_law_times" "_law_times" (defArgs s_law_times) (defBody s_law_times) (defScope s_law_times) .none kV_law_times dc_law_times pm_law_times an_law_times cd_law_times ct_law_times, f_law_is_less, PySem.W.fnOf "_law_is_less" "_law_is_less" (defArgs s_law_is_less) (defBody s_law_is_less) (defScope s_law_is_less) .none kV_law_is_less dc_law_is_less pm_law_is_less an_law_is_less cd_law_is_less ct_law_is_less, f_law_raised, PySem.W.fnOf "_law_raised" "_law_raised" (defArgs s_law_raised) (defBody s_law_raised) (defScope s_law_raised) .none kV_law_raised dc_law_raised pm_law_raised an_law_raised cd_law_raised ct_law_raised, f_law_is_ratio, PySem.W.fnOf "_law_is_ratio" "_law_is_ratio" (defArgs s_law_is_ratio) (defBody s_law_is_ratio) (defScope s_law_is_ratio) .none kV_law_is_ratio dc_law_is_ratio pm_law_is_ratio an_law_is_ratio cd_law_is_ratio ct_law_is_ratio, f_law_billed, PySem.W.fnOf "_law_billed" "_law_billed" (defArgs s_law_billed) (defBody s_law_billed) (defScope s_law_billed) .none kV_law_billed dc_law_billed pm_law_billed an_law_billed cd_law_billed ct_law_billed, f_law_greatest_bill, PySem.W.fnOf "_law_greatest_bill" "_law_greatest_bill" (defArgs s_law_greatest_bill) (defBody s_law_greatest_bill) (defScope s_law_greatest_bill) .none kV_law_greatest_bill dc_law_greatest_bill pm_law_greatest_bill an_law_greatest_bill cd_law_greatest_bill ct_law_greatest_bill, f_law_speeds_by, PySem.W.fnOf "_law_speeds_by" "_law_speeds_by" (defArgs s_law_speeds_by) (defBody s_law_speeds_by) (defScope s_law_speeds_by) .none kV_law_speeds_by dc_law_speeds_by pm_law_speeds_by an_law_speeds_by cd_law_speeds_by ct_law_speeds_by, f_law_told, PySem.W.fnOf "_law_told" "_law_told" (defArgs s_law_told) (defBody s_law_told) (defScope s_law_told) .none kV_law_told dc_law_told pm_law_told an_law_told cd_law_told ct_law_told, f_law_bent, PySem.W.fnOf "_law_bent" "_law_bent" (defArgs s_law_bent) (defBody s_law_bent) (defScope s_law_bent) .none kV_law_bent dc_law_bent pm_law_bent an_law_bent cd_law_bent ct_law_bent, f_law_right, PySem.W.fnOf "_law_right" "_law_right" (defArgs s_law_right) (defBody s_law_right) (defScope s_law_right) .none kV_law_right dc_law_right pm_law_right an_law_right cd_law_right ct_law_right, fa, PySem.W.fnOf "law" "law" (defArgs s_law) (defBody s_law) (defScope s_law) .none kV_law dc_law pm_law an_law cd_law ct_law, f_NOUGHT, cB, c_NoBill, i_NoBill, PySem.W.fnOf "__init__" "NoBill.__init__" (defArgs s_NoBill) (defBody s_NoBill) (defScope s_NoBill) .none kV_NoBill dc_NoBill pm_NoBill an_NoBill cd_NoBill ct_NoBill, c_PaceError, c_NoLeast, c_NoMix, c_NoPlan, c_NoStretch⟩ := {
    F_is_whole := F_is_whole, b_is_whole := b_is_whole, m_is_whole := PySem.W.mg_of X G p_is_whole,
    F_is_tuple_of := F_is_tuple_of, b_is_tuple_of := b_is_tuple_of, m_is_tuple_of := PySem.W.mg_of X G p_is_tuple_of,
    F_copied := F_copied, b_copied := b_copied, m_copied := PySem.W.mg_of X G p_copied,
    F_greatest_divisor := F_greatest_divisor, b_greatest_divisor := b_greatest_divisor, m_greatest_divisor := PySem.W.mg_of X G p_greatest_divisor,
    F_is_ratio := F_is_ratio, b_is_ratio := b_is_ratio, m_is_ratio := PySem.W.mg_of X G p_is_ratio,
    F_plus := F_plus, b_plus := b_plus, m_plus := PySem.W.mg_of X G p_plus,
    F_minus := F_minus, b_minus := b_minus, m_minus := PySem.W.mg_of X G p_minus,
    F_times := F_times, b_times := b_times, m_times := PySem.W.mg_of X G p_times,
    F_raised := F_raised, b_raised := b_raised, m_raised := PySem.W.mg_of X G p_raised,
    F_is_less := F_is_less, b_is_less := b_is_less, m_is_less := PySem.W.mg_of X G p_is_less,
    F_lets_bill := F_lets_bill, b_lets_bill := b_lets_bill, m_lets_bill := PySem.W.mg_of X G p_lets_bill,
    F_law_cell_at := F_law_cell_at, b_law_cell_at := b_law_cell_at, m_law_cell_at := PySem.W.mg_of X G p_law_cell_at,
    F_law_draws := F_law_draws, b_law_draws := b_law_draws, m_law_draws := PySem.W.mg_of X G p_law_draws,
    F_law_take := F_law_take, b_law_take := b_law_take, m_law_take := PySem.W.mg_of X G p_law_take,
    F_law_made := F_law_made, b_law_made := b_law_made, m_law_made := PySem.W.mg_of X G p_law_made,
    F_law_plus := F_law_plus, b_law_plus := b_law_plus, m_law_plus := PySem.W.mg_of X G p_law_plus,
    F_law_minus := F_law_minus, b_law_minus := b_law_minus, m_law_minus := PySem.W.mg_of X G p_law_minus,
    F_law_times := F_law_times, b_law_times := b_law_times, m_law_times := PySem.W.mg_of X G p_law_times,
    F_law_is_less := F_law_is_less, b_law_is_less := b_law_is_less, m_law_is_less := PySem.W.mg_of X G p_law_is_less,
    F_law_raised := F_law_raised, b_law_raised := b_law_raised, m_law_raised := PySem.W.mg_of X G p_law_raised,
    F_law_is_ratio := F_law_is_ratio, b_law_is_ratio := b_law_is_ratio, m_law_is_ratio := PySem.W.mg_of X G p_law_is_ratio,
    F_law_billed := F_law_billed, b_law_billed := b_law_billed, m_law_billed := PySem.W.mg_of X G p_law_billed,
    F_law_greatest_bill := F_law_greatest_bill, b_law_greatest_bill := b_law_greatest_bill, m_law_greatest_bill := PySem.W.mg_of X G p_law_greatest_bill,
    F_law_speeds_by := F_law_speeds_by, b_law_speeds_by := b_law_speeds_by, m_law_speeds_by := PySem.W.mg_of X G p_law_speeds_by,
    F_law_told := F_law_told, b_law_told := b_law_told, m_law_told := PySem.W.mg_of X G p_law_told,
    F_law_bent := F_law_bent, b_law_bent := b_law_bent, m_law_bent := PySem.W.mg_of X G p_law_bent,
    F_law_right := F_law_right, b_law_right := b_law_right, m_law_right := PySem.W.mg_of X G p_law_right,
    F_law := F_law, b_law := b_law, m_law := PySem.W.mg_of X G p_law,
    m_NOUGHT := PySem.W.mg_of X G p_NOUGHT, q_NOUGHT := fun H => .inr ⟨_, _, _, l_NOUGHT, rfl, rfl, (by show 2 ≤ sizeLine; decide), (.cons ⟨_, rfl⟩ (.cons ⟨_, rfl⟩ .nil))⟩,
    X_NoBill := xc_mk lc_NoBill lB lnB hsB hnB fi_NoBill ti_NoBill kc_NoBill hh_NoBill sa_NoBill, F_NoBill := F_NoBill, b_NoBill := b_NoBill, m_NoBill := PySem.W.mg_of X G p_NoBill, n_NoBill_word := na_NoBill_word, n_NoBill_number := na_NoBill_number, g_NoBill := ⟨ga_NoBill, gn_NoBill, cl_NoBill, cgB, ctB⟩,
    m_PaceError := PySem.W.mg_of X G p_PaceError,
    m_NoLeast := PySem.W.mg_of X G p_NoLeast,
    m_NoMix := PySem.W.mg_of X G p_NoMix,
    m_NoPlan := PySem.W.mg_of X G p_NoPlan,
    m_NoStretch := PySem.W.mg_of X G p_NoStretch,
    x_catch := w_x_catch,
    y_self := w_y_self,
    y_not := w_y_not,
    z_abs := PySem.W.mg_none_of X G z_abs, z_all := PySem.W.mg_none_of X G z_all, z_bool := PySem.W.mg_none_of X G z_bool, z_int := PySem.W.mg_none_of X G z_int, z_isinstance := PySem.W.mg_none_of X G z_isinstance, z_len := PySem.W.mg_none_of X G z_len, z_list := PySem.W.mg_none_of X G z_list, z_range := PySem.W.mg_none_of X G z_range, z_repr := PySem.W.mg_none_of X G z_repr, z_tuple := PySem.W.mg_none_of X G z_tuple }
  exact ⟨_, fun s v => .of_eq rfl, fun base _ _ => ok_law T⟩
theorem walk {l : PySem.W.OpenLaw} {q : Program} {loose : List Str} {XP : (Str → Option Value) → Heap → Prop} {YP : World → Heap → Prop} {d : DefRec} {K : Params → PySem.W.Frag} (hn : l.most = some 63) (hdf : d.params.defaults = [])
    (hY : ∀ (w : World) (h : Heap), YP w h → (K w.params).In h)
    (F : ∀ (w : World) (mg : Str → Option Value) (fa : Addr) (h : Heap), (K w.params).In h → h.Ns mainGlobals mg → mg d.name = some (.ref fa) →
      ∃ fd : FuncData, (∀ (s : Shared) (u : Value), BindsTo s fd ⟨[u], []⟩ [("_law_script", u)]) ∧ ∀ base : Heap, (K w.params).In base → base.Ns mainGlobals mg → FnOk l.prog w (K w.params) mg base CX0 7 fa fd ["_law_script"] (sp_law (K w.params))) :
    PySem.W.WalkO q loose XP YP l.row.toRowW d [] (fun f vs => PySem.call f vs) :=
  L2.walk_of (n := 63) (k := 7) (x := "_law_script") (CX := fun _ => CX0) (sp := fun w => sp_law (K w.params)) hn (by decide) hdf ⟨rfl, by decide, by decide, rfl⟩ hY F (fun _ _ a ns hl _ hS => ⟨a, ns, rfl, hS, hl, fun _ => rfl⟩) fun _ _ _ _ _ z => z
end My
open PySem PySem.W PyProof.Rows
set_option maxRecDepth 100000 in
set_option maxHeartbeats 0 in
theorem PySem.Challenge.cw_paceplan_k68_bills_let_by_or_not_holds : PySem.Challenge.rw_paceplan_k68_bills_let_by_or_not.Holds := by
  w_on; refine HWtop ?_
  k_fill
  refine My.walk (l := PySem.Challenge.rw_paceplan_k68_bills_let_by_or_not) rfl rfl (fun w h Y => PySem.W.kIn_of Y) ?F
  case F =>
    intro w mg fa h KX G hmg
    refine' My.all_mk KX G hmg ?p_is_whole ?l_is_whole ?c_is_whole ?k_is_whole ?p_is_tuple_of ?l_is_tuple_of ?c_is_tuple_of ?k_is_tuple_of ?p_copied ?l_copied ?c_copied ?k_copied ?p_greatest_divisor ?l_greatest_divisor ?c_greatest_divisor ?k_greatest_divisor ?p_is_ratio ?l_is_ratio ?c_is_ratio ?k_is_ratio ?p_plus ?l_plus ?c_plus ?k_plus ?p_minus ?l_minus ?c_minus ?k_minus ?p_times ?l_times ?c_times ?k_times ?p_raised ?l_raised ?c_raised ?k_raised ?p_is_less ?l_is_less ?c_is_less ?k_is_less ?p_lets_bill ?l_lets_bill ?c_lets_bill ?k_lets_bill ?p_law_cell_at ?l_law_cell_at ?c_law_cell_at ?k_law_cell_at ?p_law_draws ?l_law_draws ?c_law_draws ?k_law_draws ?p_law_take ?l_law_take ?c_law_take ?k_law_take ?p_law_made ?l_law_made ?c_law_made ?k_law_made ?p_law_plus ?l_law_plus ?c_law_plus ?k_law_plus ?p_law_minus ?l_law_minus ?c_law_minus ?k_law_minus ?p_law_times ?l_law_times ?c_law_times ?k_law_times ?p_law_is_less ?l_law_is_less ?c_law_is_less ?k_law_is_less ?p_law_raised ?l_law_raised ?c_law_raised ?k_law_raised ?p_law_is_ratio ?l_law_is_ratio ?c_law_is_ratio ?k_law_is_ratio ?p_law_billed ?l_law_billed ?c_law_billed ?k_law_billed ?p_law_greatest_bill ?l_law_greatest_bill ?c_law_greatest_bill ?k_law_greatest_bill ?p_law_speeds_by ?l_law_speeds_by ?c_law_speeds_by ?k_law_speeds_by ?p_law_told ?l_law_told ?c_law_told ?k_law_told ?p_law_bent ?l_law_bent ?c_law_bent ?k_law_bent ?p_law_right ?l_law_right ?c_law_right ?k_law_right ?p_law ?l_law ?c_law ?k_law ?p_NOUGHT ?l_NOUGHT ?pB ?lB ?lnB ?hsB ?hnB ?cgB ?ctB ?p_NoBill ?lc_NoBill ?fi_NoBill ?l_NoBill ?cd_NoBill_ ?ki_NoBill ?ti_NoBill ?kc_NoBill ?hh_NoBill ?sa_NoBill ?na_NoBill_word ?na_NoBill_number ?ga_NoBill ?gn_NoBill ?cl_NoBill ?p_PaceError ?p_NoLeast ?p_NoMix ?p_NoPlan ?p_NoStretch ?w_x_catch ?w_y_self ?w_y_not ?z_abs ?z_all ?z_bool ?z_int ?z_isinstance ?z_len ?z_list ?z_range ?z_repr ?z_tuple
    (case p_is_whole => k_is)
    (case l_is_whole => k_is)
    (case c_is_whole => k_is)
    (case k_is_whole => k_is)
    (case p_is_tuple_of => k_is)
    (case l_is_tuple_of => k_is)
    (case c_is_tuple_of => k_is)
    (case k_is_tuple_of => k_is)
    (case p_copied => k_is)
    (case l_copied => k_is)
    (case c_copied => k_is)
    (case k_copied => k_is)
    (case p_greatest_divisor => k_is)
    (case l_greatest_divisor => k_is)
    (case c_greatest_divisor => k_is)
    (case k_greatest_divisor => k_is)
    (case p_is_ratio => k_is)
    (case l_is_ratio => k_is)
    (case c_is_ratio => k_is)
    (case k_is_ratio => k_is)
    (case p_plus => k_is)
    (case l_plus => k_is)
    (case c_plus => k_is)
    (case k_plus => k_is)
    (case p_minus => k_is)
    (case l_minus => k_is)
    (case c_minus => k_is)
    (case k_minus => k_is)
    (case p_times => k_is)
    (case l_times => k_is)
    (case c_times => k_is)
    (case k_times => k_is)
    (case p_raised => k_is)
    (case l_raised => k_is)
    (case c_raised => k_is)
    (case k_raised => k_is)
    (case p_is_less => k_is)
    (case l_is_less => k_is)
    (case c_is_less => k_is)
    (case k_is_less => k_is)
    (case p_lets_bill => k_is)
    (case l_lets_bill => k_is)
    (case c_lets_bill => k_is)
    (case k_lets_bill => k_is)
    (case p_law_cell_at => k_is)
    (case l_law_cell_at => k_is)
    (case c_law_cell_at => k_is)
    (case k_law_cell_at => k_is)
    (case p_law_draws => k_is)
    (case l_law_draws => k_is)
    (case c_law_draws => k_is)
    (case k_law_draws => k_is)
    (case p_law_take => k_is)
    (case l_law_take => k_is)
    (case c_law_take => k_is)
    (case k_law_take => k_is)
    (case p_law_made => k_is)
    (case l_law_made => k_is)
    (case c_law_made => k_is)
    (case k_law_made => k_is)
    (case p_law_plus => k_is)
    (case l_law_plus => k_is)
    (case c_law_plus => k_is)
    (case k_law_plus => k_is)
    (case p_law_minus => k_is)
    (case l_law_minus => k_is)
    (case c_law_minus => k_is)
    (case k_law_minus => k_is)
    (case p_law_times => k_is)
    (case l_law_times => k_is)
    (case c_law_times => k_is)
    (case k_law_times => k_is)
    (case p_law_is_less => k_is)
    (case l_law_is_less => k_is)
    (case c_law_is_less => k_is)
    (case k_law_is_less => k_is)
    (case p_law_raised => k_is)
    (case l_law_raised => k_is)
    (case c_law_raised => k_is)
    (case k_law_raised => k_is)
    (case p_law_is_ratio => k_is)
    (case l_law_is_ratio => k_is)
    (case c_law_is_ratio => k_is)
    (case k_law_is_ratio => k_is)
    (case p_law_billed => k_is)
    (case l_law_billed => k_is)
    (case c_law_billed => k_is)
    (case k_law_billed => k_is)
    (case p_law_greatest_bill => k_is)
    (case l_law_greatest_bill => k_is)
    (case c_law_greatest_bill => k_is)
    (case k_law_greatest_bill => k_is)
    (case p_law_speeds_by => k_is)
    (case l_law_speeds_by => k_is)
    (case c_law_speeds_by => k_is)
    (case k_law_speeds_by => k_is)
    (case p_law_told => k_is)
    (case l_law_told => k_is)
    (case c_law_told => k_is)
    (case k_law_told => k_is)
    (case p_law_bent => k_is)
    (case l_law_bent => k_is)
    (case c_law_bent => k_is)
    (case k_law_bent => k_is)
    (case p_law_right => k_is)
    (case l_law_right => k_is)
    (case c_law_right => k_is)
    (case k_law_right => k_is)
    (case p_law => k_is)
    (case l_law => k_is)
    (case c_law => k_is)
    (case k_law => k_is)
    (case p_NOUGHT => k_is)
    (case l_NOUGHT => k_is)
    (case pB => k_is)
    (case lB => k_is)
    (case lnB => k_is)
    (case hsB => rfl)
    (case hnB => rfl)
    (case cgB => k_is)
    (case ctB => k_is)
    (case p_NoBill => k_is)
    (case lc_NoBill => k_is)
    (case fi_NoBill => k_is)
    (case l_NoBill => k_is)
    (case cd_NoBill_ => k_is)
    (case ki_NoBill => k_is)
    (case ti_NoBill => k_is)
    (case kc_NoBill => k_is)
    (case hh_NoBill => k_is)
    (case sa_NoBill => k_is)
    (case na_NoBill_word => k_is)
    (case na_NoBill_number => k_is)
    (case ga_NoBill => k_is)
    (case gn_NoBill => k_is)
    (case cl_NoBill => k_is)
    (case p_PaceError => k_is)
    (case p_NoLeast => k_is)
    (case p_NoMix => k_is)
    (case p_NoPlan => k_is)
    (case p_NoStretch => k_is)
    (case w_x_catch => kts_exm)
    (case w_y_self => kit_is)
    (case w_y_not => kit_is)
    (case z_abs => k_is)
    (case z_all => k_is)
    (case z_bool => k_is)
    (case z_int => k_is)
    (case z_isinstance => k_is)
    (case z_len => k_is)
    (case z_list => k_is)
    (case z_range => k_is)
    (case z_repr => k_is)
    (case z_tuple => k_is)
