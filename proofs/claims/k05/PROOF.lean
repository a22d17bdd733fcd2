import PyProof.Rows.All
import Wide.All
import OpenK.AllK
import Wide.FinOn
import Lean
import PyProof.EqAt
import PyProof.EqKinds
import PyProof.TupleCall
import PyProof.ReprLen
import PyProof.CompUse
import PyProof.ZipIter
import PyProof.ExcClass2
import PyProof.ExcBaseAll.ValueError
import PyProof.InstStoreFacts
import PyProof.ExcAttrAll.ValueError
import PyProof.RulesAs
import PyProof.NsDelKeeps
import KE.RegKTryMore
import KE.RegKIsAll
import PyProof.Rows.Catch
import PyProof.EnumMake
import PyProof.Draws
import PyProof.IsRules
import PyProof.AutoListH
import PyProof.RangeFor
import PyProof.SeqRoads2
import PyProof.ListRange
import PyProof.Rows.SumAny
import PyProof.Rows.Range3
import PyProof.ConsumeWalk
import PyProof.Rows.ListMul
import PyProof.Rows.SeqCalls
import PyProof.WalksMore
import PyProof.TupleCall
import PyProof.Rows.SeqMore
import PySem.Challenge.RW_paceplan_k05_sheets_let_by_or_not
set_option Elab.async false
set_option linter.all false
set_option maxRecDepth 100000
/-! The head, run as one piece: the view and the steps are given here, the rest is what the head's own rule asks. -/
namespace HW
open PySem
def keep : List Nat := [1, 2, 3, 4, 6, 7, 8, 9, 10, 12, 13, 14, 16, 17, 18, 19, 20, 21, 22, 23, 24, 25, 27, 28, 29, 30, 31, 32, 33, 34, 35, 36, 37, 38, 39, 40, 41, 42]
def V : Program := PySem.W.view PySem.Challenge.pw_paceplan_k05_sheets_let_by_or_not keep
end HW
section HWs
open PySem PySem.W PyProof.Rows
local macro_rules
  | `(tactic| o_head $H:term) => `(tactic| (
      refine holds_open (q := HW.V) (loose := []) (N := 4458)
        (Xt := fun s => xlAt HW.V [] s && recOk (RowW.records (OpenRow.toRowW (OpenLaw.row PySem.Challenge.rw_paceplan_k05_sheets_let_by_or_not))) s)
        (XP := XL HW.V []) (Yf := Hook.obs $H) (Ya := Hook.val $H) (YP := Hook.says $H)
        ?hl (Hook.of $H) (Hook.keeps $H)
        (fun s e => xl_of s (Bool.and_eq_true_iff.mp e).1) XL.keeps
        (by rfl) (by rfl) (by rfl)
        (fun s e => recFacts_of (Bool.and_eq_true_iff.mp e).2) (by rfl) (by assumption) (by decide +kernel)
        ⟨rfl, rfl, rfl, rfl, rfl, by decide +kernel⟩ ?hw ?hc
      (case hl =>
        intro w
        delta openEnds fencedOpening topFrom
        rw [PySem.W.Fast.te14364793385576792824, PySem.W.Fast.te14082659384304107361, PySem.W.Fast.te10274390034422433532, PySem.W.Fast.te1435165496053646825, PySem.W.Fast.te14289696077712309145, PySem.W.Fast.te4187177175401517315]
        kernel_rfl)))
set_option maxHeartbeats 0 in
open_top HWtop for PySem.Challenge.rw_paceplan_k05_sheets_let_by_or_not
end HWs
/-! THE HAND LAYER, for ints, bools, texts, own classes, LISTS and tuples (index, slices, in, append, pop ..), calls, loops. Paste it whole ahead of your own text; what your proof does not reach may be deleted. -/
namespace L2
open PySem PySem.Spec PyProof.Rows

/-- a key: an int or a str -/
abbrev Key := Sum Int Str
def keyIs : Key → Value → Bool
  | .inl k, v => Value.isInt k v
  | .inr x, v => Value.isStrOf x v
def keyH (w : World) : Key → Int
  | .inl k => hashInt k
  | .inr x => hashStr w x
theorem keyIs_shape : ∀ {k : Key} {v : Value}, keyIs k v = true → (∃ i t, k = Sum.inl i ∧ v = Value.int i t) ∨ (∃ x t, k = Sum.inr x ∧ v = Value.str x t)
  | .inl i, v, h => by
    obtain ⟨t, e⟩ := Value.isInt_shape (k := i) (v := v) h
    exact .inl ⟨i, t, rfl, e⟩
  | .inr x, v, h => by
    obtain ⟨t, e⟩ := Value.isStrOf_shape (x := x) (v := v) h
    exact .inr ⟨x, t, rfl, e⟩
theorem key_ll (a b : Int) : decide ((Sum.inl a : Key) = Sum.inl b) = (a == b) := by
  by_cases e : a = b
  · subst e; simp
  · have h : ¬ (Sum.inl a : Key) = Sum.inl b := fun q => e (Sum.inl.inj q)
    rw [decide_eq_false h]
    exact (beq_eq_false_iff_ne.mpr e).symm
theorem key_rr (a b : Str) : decide ((Sum.inr a : Key) = Sum.inr b) = decide (a = b) := by
  by_cases e : a = b
  · subst e; simp
  · have h : ¬ (Sum.inr a : Key) = Sum.inr b := fun q => e (Sum.inr.inj q)
    rw [decide_eq_false h, decide_eq_false e]
theorem key_lr (a : Int) (b : Str) : decide ((Sum.inl a : Key) = Sum.inr b) = false := decide_eq_false (fun q => nomatch q)
theorem key_rl (a : Str) (b : Int) : decide ((Sum.inr a : Key) = Sum.inl b) = false := decide_eq_false (fun q => nomatch q)

def mixKind (prog : Program) (w : World) : PySem.KeyKind prog w Key where
  is := keyIs
  hash := keyH w
  inj := fun v a b ha hb => by
    rcases keyIs_shape ha with ⟨i, t, rfl, rfl⟩ | ⟨x, t, rfl, rfl⟩
    · rcases keyIs_shape hb with ⟨j, u, rfl, e⟩ | ⟨y, u, rfl, e⟩
      · injection e with e1 _; rw [e1]
      · exact nomatch e
    · rcases keyIs_shape hb with ⟨j, u, rfl, e⟩ | ⟨y, u, rfl, e⟩
      · exact nomatch e
      · injection e with e1 _; rw [e1]
  byValue := fun k v h => by
    rcases keyIs_shape h with ⟨i, t, rfl, rfl⟩ | ⟨x, t, rfl, rfl⟩ <;> rfl
  pyHash := fun hv h => by
    rcases keyIs_shape hv with ⟨i, t, rfl, rfl⟩ | ⟨x, t, rfl, rfl⟩
    · exact wpAny_pyHash_int h
    · exact wpAny_pyHash_str h
  eqBool := fun hu hv h => by
    rcases keyIs_shape hu with ⟨i, t, rfl, rfl⟩ | ⟨x, t, rfl, rfl⟩
    · rcases keyIs_shape hv with ⟨j, u, rfl, rfl⟩ | ⟨y, u, rfl, rfl⟩
      · rw [key_ll] at h; exact wpAny_eqBool_int h
      · rw [key_lr] at h; exact SeqAt.EqAt.int_str i t y u _ _ _ _ h
    · rcases keyIs_shape hv with ⟨j, u, rfl, rfl⟩ | ⟨y, u, rfl, rfl⟩
      · rw [key_rl] at h; exact SeqAt.EqAt.str_int x t j u _ _ _ _ h
      · rw [key_rr] at h; exact wpAny_eqBool_str h
  «strs» := fun k x t v h => by
    rcases keyIs_shape h with ⟨i, u, rfl, e⟩ | ⟨y, u, rfl, e⟩
    · exact nomatch e
    · injection e with e1 _
      subst e1
      cases v <;> rfl

end L2

namespace L2
open PySem PySem.Spec PyProof.Rows

/-- a value, without the heap -/
inductive V where
  | non | bl (b : Bool) | int (i : Int) | str (x : Str) | byt (b : Array UInt8) | flt (b : UInt64) | ref (a : Addr) | ty (n : String)
  deriving DecidableEq

def RelV : V → Value → Prop
  | .non, u => u = Value.none
  | .bl b, u => u = Value.bool b
  | .int i, u => ∃ t, u = Value.int i t
  | .str x, u => ∃ t, u = Value.str x t
  | .byt b, u => ∃ t, u = Value.bytes b t
  | .flt b, u => ∃ t, u = Value.float b t
  | .ref a, u => u = Value.ref a
  | .ty n, u => u = Value.type n

abbrev Vals : List V → List Value → Prop := Paired RelV
theorem Vals.length {xs : List V} {us : List Value} (r : Vals xs us) : xs.length = us.length := Paired.length r
theorem Vals.get : ∀ {xs : List V} {us : List Value} {i : Nat} {x : V}, Vals xs us → xs[i]? = some x → ∃ u, us[i]? = some u ∧ RelV x u
  | _, _, _, _, .nil, e => by simp at e
  | _, _, 0, _, .cons r _, e => by simp at e; subst e; exact ⟨_, rfl, r⟩
  | _, _, i + 1, x, .cons _ t, e => by
    obtain ⟨u, h1, h2⟩ := Vals.get (i := i) (x := x) t (by simpa using e)
    exact ⟨u, by simpa using h1, h2⟩
theorem Vals.set {x : V} {u : Value} (r : RelV x u) : ∀ {xs : List V} {us : List Value} (i : Nat), Vals xs us → Vals (xs.set i x) (us.set i u)
  | _, _, _, .nil => .nil
  | _, _, 0, .cons _ t => .cons r t
  | _, _, i + 1, .cons q t => .cons q (Vals.set r i t)
theorem Vals.append : ∀ {xs ys : List V} {us ws : List Value}, Vals xs us → Vals ys ws → Vals (xs ++ ys) (us ++ ws)
  | _, _, _, _, .nil, s => s
  | _, _, _, _, .cons r t, s => .cons r (Vals.append t s)
theorem Vals.take : ∀ {xs : List V} {us : List Value} (n : Nat), Vals xs us → Vals (xs.take n) (us.take n)
  | _, _, 0, _ => .nil
  | _, _, _ + 1, .nil => .nil
  | _, _, n + 1, .cons r t => .cons r (Vals.take n t)
theorem Vals.drop : ∀ {xs : List V} {us : List Value} (n : Nat), Vals xs us → Vals (xs.drop n) (us.drop n)
  | _, _, 0, r => r
  | _, _, _ + 1, .nil => .nil
  | _, _, n + 1, .cons _ t => Vals.drop n t

def RelO : Option V → Option Value → Prop
  | some v, some u => RelV v u
  | none, none => True
  | _, _ => False
def KV {κ : Type} : List (κ × V) → List (κ × Value) → Prop := Paired fun (p : κ × V) (q : κ × Value) => p.1 = q.1 ∧ RelV p.2 q.2

/-- a key of a dict (00_mix): an int or a text -/
def kV : Key → V
  | .inl i => .int i
  | .inr x => .str x

/-- what stands at a tracked address -/
inductive HO where
  /-- a list -/
  | lst (xs : List V)
  /-- a tuple (never changes) -/
  | tup (xs : List V)
  /-- a dict whose keys are ints and texts; one whose keys are tuples of ints and texts (the empty one is both) -/
  | dK (kvs : List (Key × V)) | dT (kvs : List (List Key × V))
  /-- a set of ints: its members, its size -/
  | set (S : Int → Bool) (n : Nat)
  /-- an instance of the class at C, its dict at dx, its attributes -/
  | ins (C dx : Addr) (fs : List (Str × V))
  /-- the dict of the instance at x -/
  | own (x : Addr)
  /-- the dict of an exception -/
  | xd (fs : List (Str × V))
  /-- a bound method, f of x -/
  | met (f x : Addr)
  /-- a range object lo, lo + 1, .. below hi -/
  | rng (lo hi : Int)
  /-- a thing that is known to the object (the script; a dict while a loop walks it): read, never written while it is so -/
  | frz (o : Obj) (u : HO)
  /-- a code object's table -/
  | tbl (ps : Array Value)
  /-- any other thing, by what is true of its one object (a def of one's own: SetO a S n := HO.ext fun h => ..) -/
  | ext (φ : Heap → Prop)

abbrev Hp := Addr → Option HO
def upd (H : Hp) (a : Addr) (o : HO) : Hp := fun b => if b = a then some o else H b
theorem upd_same {H : Hp} {a : Addr} {o : HO} : upd H a o a = some o := by unfold upd; rw [if_pos rfl]
theorem upd_ne {H : Hp} {a b : Addr} {o : HO} (h : b ≠ a) : upd H a o b = H b := by unfold upd; rw [if_neg h]
theorem upd_upd {H : Hp} {a : Addr} {o u : HO} : upd (upd H a o) a u = upd H a u := by
  funext b; unfold upd; split <;> rfl
theorem ne_of_none {H : Hp} {a b : Addr} {o : HO} (h : H a = some o) (h' : H b = none) : a ≠ b := by
  intro e; subst e; rw [h] at h'; cases h'

section
variable (P : Program) (w : World)
def ObjOk (H : Hp) (h : Heap) (a : Addr) : HO → Prop
  | .lst xs => xs.length ≤ sizeLine ∧ ∃ (its : List Value) (n : Nat), Vals xs its ∧ h.get? a = some { cls := .type "list", data := .seq its.toArray n }
  | .tup xs => xs.length ≤ sizeLine ∧ ∃ its : List Value, Vals xs its ∧ IsTup h a its.toArray
  | .dK kvs => kvs.length ≤ sizeLine ∧ (a == sysModules) = false ∧ ∃ vs, KV kvs vs ∧ h.DictOf (mixKind P w) a vs
  | .dT kvs => kvs.length ≤ sizeLine ∧ (a == sysModules) = false ∧ ∃ xs : List (List Key × Addr × Value),
      Paired (fun (p : List Key × V) (q : List Key × Addr × Value) => p.1 = q.1 ∧ H q.2.1 = some (.tup (p.1.map kV)) ∧ RelV p.2 q.2.2) kvs xs ∧
      ∃ o es ep, h.get? a = some o ∧ o.ExactDict ∧ o.data = .dict es ep ∧ es.toList = xs.map (entryOfKey (tupleKind (mixKind P w))) ∧ (xs.map (·.1)).Nodup
  | .set S n => h.SetOf (intKind P w) a S n
  | .ins C dx fs => H dx = some (.own a) ∧ fs.length ≤ 1000 ∧ dx ≠ a ∧ h.get? a = some (PySem.W.instObj C dx) ∧
      ∃ mA, h.Ns1 dx mA ∧ (∀ f, RelO (fs.lookup f) (mA f)) ∧ PySem.Within mA (fs.map (·.1))
  | .own _ => ∃ o, h.get? a = some o
  | .xd fs => ∃ mA, h.Ns1 a mA ∧ ∀ f, RelO (fs.lookup f) (mA f)
  | .rng lo hi => ∃ t u v, h.get? a = some { cls := .type "range", data := .fields #[.int lo t, .int hi u, .int 1 v] }
  | .frz o u => h.get? a = some o ∧ ObjOk H h a u
  | .tbl ps => h.get? a = some { cls := .none, data := .fields ps }
  | .met f x => h.get? a = some (PySem.W.methodObj (.ref f) (.ref x))
  | .ext φ => φ h ∧ (∃ o, h.get? a = some o) ∧ ∀ h1 h2 : Heap, φ h1 → (∀ o, h1.get? a = some o → h2.get? a = some o) → φ h2
/-- the abstract heap is held -/
def HOk (H : Hp) (h : Heap) : Prop := ∀ a o, H a = some o → ObjOk P w H h a o
end

section
variable {P : Program} {w : World} {H H' : Hp} {h h' : Heap} {a : Addr} {o : HO}
theorem ObjOk.lt (x : ObjOk P w H h a o) : a < h.objs.size := by
  cases o with
  | lst xs => obtain ⟨_, _, _, _, e⟩ := x; exact Heap.lt_size e
  | tup xs => obtain ⟨_, _, _, p⟩ := x; exact p.lt
  | dK kvs => obtain ⟨_, _, _, _, o, _, _, e, _⟩ := x; exact Heap.lt_size e
  | dT kvs => obtain ⟨_, _, _, _, o, _, _, e, _⟩ := x; exact Heap.lt_size e
  | set S n => obtain ⟨o, _, _, _, e, _⟩ := x; exact Heap.lt_size e
  | ins C dx fs => obtain ⟨_, _, _, e, _⟩ := x; exact Heap.lt_size e
  | own y => obtain ⟨_, e⟩ := x; exact Heap.lt_size e
  | xd fs => obtain ⟨_, ⟨_, _, _, e, _⟩, _⟩ := x; exact Heap.lt_size e
  | rng lo hi => obtain ⟨_, _, _, e⟩ := x; exact Heap.lt_size e
  | frz ob u => obtain ⟨e, _⟩ := x; exact Heap.lt_size e
  | tbl ps => exact Heap.lt_size (show h.get? a = some _ from x)
  | met f y => exact Heap.lt_size (show h.get? a = some _ from x)
  | ext φ => obtain ⟨_, ⟨_, e⟩, _⟩ := x; exact Heap.lt_size e
theorem Paired.mapP {α β : Type} {F G : α → β → Prop} : ∀ {l₁ : List α} {l₂ : List β}, Paired F l₁ l₂ → (∀ a b, F a b → G a b) → Paired G l₁ l₂
  | _, _, .nil, _ => .nil
  | _, _, .cons r t, f => .cons (f _ _ r) (Paired.mapP t f)
/-- what an object's description leans on: its own object, its own dict, the tuples -/
theorem ObjOk.stay (x : ObjOk P w H h a o) (k : ∀ b u, (b = a ∨ H b = some (.own a)) → h.get? b = some u → h'.get? b = some u)
    (ho : ∀ b, H b = some (.own a) → H' b = some (.own a)) (ht : ∀ b xs, H b = some (.tup xs) → H' b = some (.tup xs)) : ObjOk P w H' h' a o := by
  induction o with
  | lst xs => obtain ⟨z, its, n, r, e⟩ := x; exact ⟨z, its, n, r, k _ _ (.inl rfl) e⟩
  | tup xs => obtain ⟨z, its, r, ob, e, c⟩ := x; exact ⟨z, its, r, ob, k _ _ (.inl rfl) e, c⟩
  | dK kvs => obtain ⟨z, y, vs, r, ob, es, ep, e, c⟩ := x; exact ⟨z, y, vs, r, ob, es, ep, k _ _ (.inl rfl) e, c⟩
  | dT kvs =>
    obtain ⟨z, y, xs, r, ob, es, ep, e, c⟩ := x
    exact ⟨z, y, xs, Paired.mapP r fun p q z => ⟨z.1, ht _ _ z.2.1, z.2.2⟩, ob, es, ep, k _ _ (.inl rfl) e, c⟩
  | set S n => obtain ⟨ob, es, ep, t, e, c⟩ := x; exact ⟨ob, es, ep, t, k _ _ (.inl rfl) e, c⟩
  | ins C dx fs =>
    obtain ⟨d, z, ne, e, mA, ⟨od, es, ep, e2, c⟩, r⟩ := x
    exact ⟨ho _ d, z, ne, k _ _ (.inl rfl) e, mA, ⟨od, es, ep, k _ _ (.inr d) e2, c⟩, r⟩
  | own y => obtain ⟨ob, e⟩ := x; exact ⟨ob, k _ _ (.inl rfl) e⟩
  | xd fs => obtain ⟨mA, ⟨od, es, ep, e, c⟩, r⟩ := x; exact ⟨mA, ⟨od, es, ep, k _ _ (.inl rfl) e, c⟩, r⟩
  | rng lo hi => obtain ⟨t, u, v, e⟩ := x; exact ⟨t, u, v, k _ _ (.inl rfl) e⟩
  | frz ob u ih => obtain ⟨e, q⟩ := x; exact ⟨k _ _ (.inl rfl) e, ih q⟩
  | tbl ps =>
    have e : h.get? a = some { cls := .none, data := .fields ps } := x
    show h'.get? a = some { cls := .none, data := .fields ps }
    exact k a _ (.inl rfl) e
  | met f y =>
    have e : h.get? a = some (PySem.W.methodObj (.ref f) (.ref y)) := x
    show h'.get? a = some (PySem.W.methodObj (.ref f) (.ref y))
    exact k a _ (.inl rfl) e
  | ext φ => obtain ⟨p, ⟨o, e⟩, st⟩ := x; exact ⟨st _ _ p fun o q => k _ _ (.inl rfl) q, ⟨o, k _ _ (.inl rfl) e⟩, st⟩
theorem HOk.lt (x : HOk P w H h) (e : H a = some o) : a < h.objs.size := (x a o e).lt
theorem HOk.fresh (x : HOk P w H h) (e : h.objs.size ≤ a) : H a = none := by
  cases q : H a with
  | none => rfl
  | some u => exact absurd (Nat.lt_of_lt_of_le (x.lt q) e) (Nat.lt_irrefl _)
/-- every object of the heap is kept -/
theorem HOk.kept (x : HOk P w H h) (k : ∀ b u, h.get? b = some u → h'.get? b = some u) : HOk P w H h' := fun a o e =>
  (x a o e).stay (fun b u _ q => k b u q) (fun _ q => q) fun _ _ q => q
/-- a new object is laid and tracked -/
theorem HOk.laid (x : HOk P w H h) (k : ∀ b u, h.get? b = some u → h'.get? b = some u) (hp : h.objs.size ≤ a) (new : ObjOk P w (upd H a o) h' a o) : HOk P w (upd H a o) h' := fun b u e => by
  have hn := x.fresh hp
  by_cases hb : b = a
  · subst hb; rw [upd_same] at e; cases e; exact new
  · rw [upd_ne hb] at e
    exact (x b u e).stay (fun c v _ q => k c v q) (fun c q => by rw [upd_ne (ne_of_none q hn)]; exact q) fun c xs q => by rw [upd_ne (ne_of_none q hn)]; exact q
end

/-- what may be read as u: it is u, or a known u -/
def Rd (H : Hp) (a : Addr) (u : HO) : Prop := H a = some u ∨ ∃ o, H a = some (.frz o u)
theorem Rd.ok {P : Program} {w : World} {H : Hp} {h : Heap} {a : Addr} {u : HO} (r : Rd H a u) (x : HOk P w H h) : ObjOk P w H h a u := by
  rcases r with r | ⟨o, r⟩
  · exact x a u r
  · obtain ⟨_, q⟩ := x a _ r
    exact q
/-- what may be written -/
def Mut : Option HO → Prop
  | some (.lst _) => True
  | some (.dK _) => True
  | some (.dT _) => True
  | some (.set _ _) => True
  | some (.ins _ _ _) => True
  | some (.ext _) => True
  | _ => False
section
variable {P : Program} {w : World} {H : Hp} {h h' : Heap} {x e : Addr} {o' : HO}
/-- the object at e is changed: x itself, or the dict of the instance x -/
theorem HOk.write (ok : HOk P w H h) (mu : Mut (H x)) (he : e = x ∨ H e = some (.own x)) (k : ∀ b u, b ≠ e → h.get? b = some u → h'.get? b = some u) (heo : ∃ u, h'.get? e = some u)
    (new : ObjOk P w (upd H x o') h' x o') : HOk P w (upd H x o') h' := fun b u q => by
  have nown : ∀ c y, H c = some (.own y) → c ≠ x := fun c y r z => by subst z; rw [r] at mu; exact mu
  have ntup : ∀ c xs, H c = some (.tup xs) → c ≠ x := fun c xs r z => by subst z; rw [r] at mu; exact mu
  by_cases hb : b = x
  · subst hb; rw [upd_same] at q; cases q; exact new
  · rw [upd_ne hb] at q
    by_cases hbe : b = e
    · have q' : H b = some (.own x) := by
        rcases he with z | z
        · exact absurd (hbe.trans z) hb
        · rw [hbe]; exact z
      rw [q] at q'; cases q'
      obtain ⟨v, hv⟩ := heo
      exact ⟨v, by rw [hbe]; exact hv⟩
    · refine (ok b u q).stay (fun c v hc r => k c v ?_ r) (fun c r => by rw [upd_ne (nown c b r)]; exact r) fun c xs r => by rw [upd_ne (ntup c xs r)]; exact r
      rcases hc with rfl | hc
      · exact hbe
      · rintro rfl
        rcases he with z | z
        · exact nown c b hc z
        · rw [hc] at z; cases z; exact hb rfl
end

/-! ### kept unless tracked; of the frames at fs (the callers') the slots may change (an exception that passes writes there); of the records at ex (iterators) nothing is said -/
structure Un (fs ex : List Addr) (H H' : Hp) (h h' : Heap) : Prop where
  keep : ∀ b o, h.get? b = some o → H b = none → b ∉ fs → b ∉ ex → h'.get? b = some o
  slot : ∀ b o, h.get? b = some o → H b = none → b ∈ fs → b ∉ ex → ∃ sl, h'.get? b = some { o with slots := sl }
  free : ∀ b o, h.get? b = some o → H b = none → b ∉ ex → H' b = none
  there : ∀ b o, h.get? b = some o → b ∉ ex → ∃ o', h'.get? b = some o'
  tups : ∀ b xs, H b = some (.tup xs) → H' b = some (.tup xs)
  frzs : ∀ b o u, H b = some (.frz o u) → H' b = some (.frz o u)
  tbls : ∀ b ps, H b = some (.tbl ps) → ∃ more, H' b = some (.tbl (ps ++ more))
section
variable {fs fs' ex ex' : List Addr} {H H1 H2 : Hp} {h h1 h2 h' : Heap} {a x e : Addr} {o : HO}
theorem Un.any (u : Un fs ex H H1 h h1) {b : Addr} {ob : Obj} (q : h.get? b = some ob) (n : H b = none) (hx : b ∉ ex) : ∃ sl, h1.get? b = some { ob with slots := sl } := by
  by_cases hb : b ∈ fs
  · exact u.slot b ob q n hb hx
  · exact ⟨ob.slots, u.keep b ob q n hb hx⟩
theorem Un.kept (k : ∀ b u, h.get? b = some u → h'.get? b = some u) : Un fs ex H H h h' :=
  ⟨fun b ob q _ _ _ => k b ob q, fun b ob q _ _ _ => ⟨ob.slots, k b ob q⟩, fun _ _ _ n _ => n, fun b ob q _ => ⟨ob, k b ob q⟩, fun _ _ q => q, fun _ _ _ q => q, fun _ ps q => ⟨#[], by rw [q]; simp⟩⟩
theorem Un.refl : Un fs ex H H h h := Un.kept fun _ _ q => q
theorem Un.laid (k : ∀ b u, h.get? b = some u → h'.get? b = some u) (hp : h.objs.size ≤ a) (hn : H a = none) : Un fs ex H (upd H a o) h h' where
  keep := fun b u q _ _ _ => k b u q
  slot := fun b u q _ _ _ => ⟨u.slots, k b u q⟩
  free := fun b u q n _ => by rw [upd_ne (Nat.ne_of_lt (Nat.lt_of_lt_of_le (Heap.lt_size q) hp))]; exact n
  there := fun b u q _ => ⟨u, k b u q⟩
  tups := fun b xs q => by rw [upd_ne (ne_of_none q hn)]; exact q
  frzs := fun b u xs q => by rw [upd_ne (ne_of_none q hn)]; exact q
  tbls := fun b ps q => ⟨#[], by rw [upd_ne (ne_of_none q hn), q]; simp⟩
theorem Un.write (mu : Mut (H x)) (he : e = x ∨ H e = some (.own x)) (k : ∀ b u, b ≠ e → h.get? b = some u → h'.get? b = some u) (heo : ∃ u, h'.get? e = some u) : Un fs ex H (upd H x o) h h' := by
  have hx : ∀ b, H b = none → b ≠ x := fun b n z => by subst z; rw [n] at mu; exact mu
  have hb : ∀ b, H b = none → b ≠ e := fun b n z => by
    subst z
    rcases he with r | r
    · exact hx b n r
    · rw [n] at r; cases r
  have hm : ∀ b u, H b = some u → ¬ Mut (some u) → b ≠ x := fun b u q nm z => by subst z; rw [q] at mu; exact nm mu
  refine ⟨fun b u q n _ _ => k b u (hb b n) q, fun b u q n _ _ => ⟨u.slots, k b u (hb b n) q⟩, fun b u q n _ => by rw [upd_ne (hx b n)]; exact n, fun b u q _ => ?_,
    fun b xs q => by rw [upd_ne (hm b _ q fun z => z)]; exact q, fun b u xs q => by rw [upd_ne (hm b _ q fun z => z)]; exact q, fun b ps q => ⟨#[], by rw [upd_ne (hm b _ q fun z => z), q]; simp⟩⟩
  by_cases hbe : b = e
  · subst hbe; exact heo
  · exact ⟨u, k b u hbe q⟩
end

/-! ### the heap without what is tracked -/
def trk (h : Heap) (H : Hp) : List Addr := (List.range h.objs.size).filter fun a => (H a).isSome
def hidT (h : Heap) (H : Hp) : Heap := PySem.W.hideAll h (trk h H)
theorem hidT_size (h : Heap) (H : Hp) : (hidT h H).objs.size = h.objs.size := PySem.W.hideAll_size _ _
theorem hidT_get {h : Heap} {H : Hp} {b : Addr} {o : Obj} (e : h.get? b = some o) (n : H b = none) : (hidT h H).get? b = some o :=
  PySem.W.hideAll_get _ e fun hm => by
    have q : (H b).isSome = true := (List.mem_filter.mp hm).2
    rw [n] at q; simp at q
theorem of_hidT {h : Heap} {H : Hp} {b : Addr} {o : Obj} (e : (hidT h H).get? b = some o) : h.get? b = some o ∧ H b = none := by
  have e' : h.get? b = some o := PySem.W.of_hideAll (trk h H) e
  refine ⟨e', ?_⟩
  cases q : H b with
  | none => rfl
  | some x =>
    have hm : b ∈ trk h H := List.mem_filter.mpr ⟨List.mem_range.mpr (Heap.lt_size e'), by simp [q]⟩
    have z : (hidT h H).get? b = none := PySem.W.hideAll_none (trk h H) hm
    rw [z] at e; cases e

/-! ### OpenK's ledger, filled with every new object but one -/
def allNews (g h : Heap) (L : Addr) : List (Addr × Obj) := (List.range h.objs.size).filterMap fun a => if a = L ∨ (g.get? a).isSome = true then none else (h.get? a).map fun o => (a, o)
def rest (g h : Heap) (L d : Addr) : List (Addr × Obj) := (allNews g h L).filter fun p => decide (p.1 ≠ d)
end L2

namespace L2
open PySem PySem.Spec PyProof.Rows

/-- the module's facts, over the base: the heap at the law's entry without what is tracked there -/
structure Mod (K : PySem.W.Frag) (mg : Str → Option Value) (base : Heap) : Prop where
  kin : K.In base
  glob : base.Ns mainGlobals mg
  blt : ∃ mb, base.Ns builtinsNs mb ∧ ∀ x : Str, x ≠ "__name__" → mb x = bootBuiltins x
  nolimit : base.NoLimit

/-- the context: a def's body (or a comprehension's block) running. base: fixed through the whole law; s₀, H₀: the entry; outer: the frames whose slots others may change (a def's callers); stack: all frames that run;
   ex: iterators that were made ahead of the entry and are walked here (a comprehension's); fn: the names whose cells were made at the entry (a def: all; a comprehension's block: its own); calm: not within an except suite; pn: pins that every state bears; xe: what is wanted of an exception that leaves the code -/
structure Cx where
  prog : Program
  w : World
  K : PySem.W.Frag
  mg : Str → Option Value
  base : Heap
  A : Around
  N : List Str
  s₀ : Shared
  H₀ : Hp
  env : Env
  outer : List Env
  stack : List Env
  ex : List Addr
  fn : Str → Bool
  calm : Bool
  pn : List (Addr × Obj)
  xe : Value → Shared → Prop
/-- the callers' frames -/
def frs (l : List Env) : List Addr := l.filterMap (·.frame)
abbrev Cx.fs (X : Cx) : List Addr := frs X.outer

def Vis (sc : Scope) (x : Str) : Prop := sc.names.lookup x = some .local ∨ sc.names.lookup x = some .cell ∨ sc.names.lookup x = some .free
def Loc (sc : Scope) (x : Str) : Prop := sc.names.lookup x = some .local ∨ sc.names.lookup x = some .cell
def Look (env : Env) (h : Heap) (m : Str → Option Value) (x : Str) (u : Value) : Prop :=
  (env.kindOf x = some .local ∧ m x = some u) ∨ ((env.kindOf x = some .cell ∨ env.kindOf x = some .free) ∧ ∃ c, env.cells.lookup x = some c ∧ h.IsCell c (some u))

structure Cx.Ok (X : Cx) : Prop where
  mod : Mod X.K X.mg X.base
  kind : X.env.scope.kind = .function
  glob : X.env.globals = mainGlobals
  blt : X.env.builtins = builtinsNs
  above : X.s₀.heap.objs.size ≤ X.env.locals
  inj : ∀ x y c, X.env.cells.lookup x = some c → X.env.cells.lookup y = some c → x = y
  has : ∀ x, (X.env.kindOf x = some .cell ∨ X.env.kindOf x = some .free) → ∃ c, X.env.cells.lookup x = some c
  cab : ∀ x c, X.fn x = true → X.env.cells.lookup x = some c → X.s₀.heap.objs.size ≤ c
  hd : X.calm = true → X.A.handled = none
  frames : X.A.frames = some X.stack
  stk : X.stack = X.outer ∨ (X.stack = X.env :: X.outer ∧ X.env.frame = some X.env.locals)
  exf : ∀ b ∈ X.ex, b ≠ X.env.locals ∧ ∀ x c, X.env.cells.lookup x = some c → c ≠ b
  bs : ∀ b o, X.base.get? b = some o → X.s₀.heap.get? b = some o ∧ X.H₀ b = none
  bsz : X.base.objs.size ≤ X.s₀.heap.objs.size
  noex : ∀ b o, X.base.get? b = some o → b ∉ X.ex
  exfs : ∀ b ∈ X.ex, b ∉ X.fs
  funs : X.s₀.heap.FunFrames X.base X.outer
  frf : ∀ b ∈ X.fs, X.H₀ b = none

structure Inv (X : Cx) (pins : List (Addr × Obj)) (σ : List (Option V)) (H : Hp) (s : Shared) : Prop where
  ok : X.Ok
  os : s.os = X.s₀.os
  bare : AllBare s.gens
  base : Un X.fs X.ex X.H₀ H X.s₀.heap s.heap
  loc : ∃ m, s.heap.Ns X.env.locals m ∧ ∀ (i : Nat) (x : Str) (v : V), X.N[i]? = some x → σ[i]? = some (some v) → Vis X.env.scope x → ∃ u, RelV v u ∧ Look X.env s.heap m x u
  cell : ∀ x c, X.env.cells.lookup x = some c → ∃ v, s.heap.IsCell c v
  free : H X.env.locals = none
  freeC : ∀ x c, X.env.cells.lookup x = some c → H c = none
  pin : ∀ p ∈ X.pn ++ pins, s.heap.get? p.1 = some p.2 ∧ H p.1 = none ∧ p.1 ≠ X.env.locals ∧ p.1 ∉ X.fs ∧ ∀ v, p.2.data ≠ .cell v
  hok : HOk X.prog X.w H s.heap
  len : σ.length = X.N.length

section
variable {X : Cx} {pins : List (Addr × Obj)} {σ : List (Option V)} {H H' : Hp} {s : Shared} {h' : Heap}

theorem Cx.Ok.nofr (ok : X.Ok) {b : Addr} {o : Obj} (e : X.base.get? b = some o) : b ∉ X.fs := fun hb => by
  have := (ok.funs.mem hb).1
  rw [e] at this; cases this
theorem Inv.bs (I : Inv X pins σ H s) : ∀ b o, X.base.get? b = some o → s.heap.get? b = some o ∧ H b = none := fun b o e =>
  ⟨I.base.keep b o (I.ok.bs b o e).1 (I.ok.bs b o e).2 (I.ok.nofr e) (I.ok.noex b o e), I.base.free b o (I.ok.bs b o e).1 (I.ok.bs b o e).2 (I.ok.noex b o e)⟩
theorem Inv.bk (I : Inv X pins σ H s) : ∀ b o, X.base.get? b = some o → s.heap.get? b = some o := fun b o e => (I.bs b o e).1
theorem Inv.mod (I : Inv X pins σ H s) : Mod X.K X.mg X.base := I.ok.mod
theorem Inv.kIn (I : Inv X pins σ H s) : X.K.In s.heap := I.ok.mod.kin.keeps I.bk
theorem Inv.lt (I : Inv X pins σ H s) : X.env.locals < s.heap.objs.size := let ⟨_, hn, _⟩ := I.loc; hn.lt
theorem Inv.sz (I : Inv X pins σ H s) : X.s₀.heap.objs.size ≤ s.heap.objs.size := Nat.le_trans I.ok.above (Nat.le_of_lt I.lt)
theorem Inv.nofs (I : Inv X pins σ H s) {a : Addr} (h : s.heap.objs.size ≤ a) : a ∉ X.fs := fun hb => by
  obtain ⟨_, o, ho, _⟩ := I.ok.funs.mem hb
  exact absurd (Nat.lt_of_lt_of_le (Heap.lt_size ho) (Nat.le_trans I.sz h)) (Nat.lt_irrefl _)
theorem Inv.cne (I : Inv X pins σ H s) : ∀ x c, X.env.cells.lookup x = some c → c ≠ X.env.locals := fun x c e z => by
  obtain ⟨v, o, ho, hd⟩ := I.cell x c e
  obtain ⟨m, ⟨o', es, ep, ho', hd', _⟩, _⟩ := I.loc
  rw [z, ho'] at ho; cases ho; rw [hd'] at hd; cases hd
theorem Inv.funs (I : Inv X pins σ H s) : s.heap.FunFrames X.base X.outer := by
  have all : ∀ (l : List Env), (∀ b ∈ frs l, b ∈ X.fs) → X.s₀.heap.FunFrames X.base l → s.heap.FunFrames X.base l := by
    intro l
    induction l with
    | nil => intro _ _; trivial
    | cons env r ih =>
      intro hs hl
      obtain ⟨hk, ⟨L, o, hf, hn, ho, hd⟩, hr⟩ := hl
      have hL : L ∈ X.fs := hs L (by unfold frs; rw [List.filterMap_cons, hf]; exact List.mem_cons_self)
      obtain ⟨sl, e⟩ := I.base.slot L o ho (I.ok.frf L hL) hL fun z => I.ok.exfs L z hL
      exact ⟨hk, ⟨L, _, hf, hn, e, hd⟩, ih (fun b hb => hs b (by unfold frs; rw [List.filterMap_cons, hf]; exact List.mem_cons_of_mem _ hb)) hr⟩
  exact all X.outer (fun _ hb => hb) I.ok.funs

/-- the frames that run, for a call -/
theorem Inv.stack (I : Inv X pins σ H s) : s.heap.FunFrames X.base X.stack := by
  rcases I.ok.stk with e | ⟨e, hf⟩
  · rw [e]; exact I.funs
  · rw [e]
    obtain ⟨m, hn, _⟩ := I.loc
    refine .cons (by rw [I.ok.kind]; decide) hf hn ?_ I.funs
    exact Heap.get?_none_of_le (Nat.le_trans I.ok.bsz I.ok.above)
theorem Inv.stkSub (I : Inv X pins σ H s) : ∀ b ∈ frs X.stack, b ∈ X.env.locals :: X.fs := fun b hb => by
  rcases I.ok.stk with e | ⟨e, hf⟩
  · rw [e] at hb; exact List.mem_cons_of_mem _ hb
  · rw [e] at hb
    unfold frs at hb
    rw [List.filterMap_cons, hf] at hb
    exact hb
theorem Inv.stkFree (I : Inv X pins σ H s) : ∀ b ∈ frs X.stack, H b = none := fun b hb => by
  rcases List.mem_cons.mp (I.stkSub b hb) with e | hb
  · rw [e]; exact I.free
  · obtain ⟨_, o, ho, _⟩ := I.ok.funs.mem hb
    exact I.base.free b o ho (I.ok.frf b hb) fun z => I.ok.exfs b z hb

/-- THE STEP: the untracked objects but the frame and the records at ch are kept (the callers' frames up to slots), the frame's map is kept, the new abstract heap is held -/
theorem Inv.step {g' : Array GenState} {t' : Nat} {d' : Drawn} {ch : List Addr} (I : Inv X pins σ H s)
    (hch : ∀ b ∈ ch, (b ∈ X.ex ∨ X.s₀.heap.get? b = none) ∧ b ≠ X.env.locals ∧ (∀ x c, X.env.cells.lookup x = some c → c ≠ b) ∧ ∀ p ∈ X.pn ++ pins, p.1 ≠ b)
    (keep : ∀ b o, b ≠ X.env.locals → b ∉ X.fs → b ∉ ch → s.heap.get? b = some o → H b = none → h'.get? b = some o)
    (slot : ∀ b o, b ≠ X.env.locals → b ∈ X.fs → b ∉ ch → s.heap.get? b = some o → H b = none → ∃ sl, h'.get? b = some { o with slots := sl }) (free : ∀ b o, b ∉ ch → s.heap.get? b = some o → H b = none → H' b = none)
    (there : ∀ b o, b ∉ ch → s.heap.get? b = some o → ∃ o', h'.get? b = some o')
    (tups : ∀ b xs, H b = some (.tup xs) → H' b = some (.tup xs)) (frzs : ∀ b o u, H b = some (.frz o u) → H' b = some (.frz o u)) (tbls : ∀ b ps, H b = some (.tbl ps) → ∃ more, H' b = some (.tbl (ps ++ more)))
    (ns : ∀ m, s.heap.Ns X.env.locals m → h'.Ns X.env.locals m) (hok : HOk X.prog X.w H' h') (hg : AllBare g') :
    Inv X pins σ H' { s with heap := h', gens := g', drawn := d', toks := t' } := by
  have neL : ∀ b o, X.s₀.heap.get? b = some o → b ≠ X.env.locals := fun b o e => Nat.ne_of_lt (Nat.lt_of_lt_of_le (Heap.lt_size e) I.ok.above)
  have neC : ∀ b o, X.s₀.heap.get? b = some o → b ∉ X.ex → b ∉ ch := fun b o e hx hb => by
    rcases (hch b hb).1 with z | z
    · exact hx z
    · rw [e] at z; cases z
  have cellK : ∀ x c, X.env.cells.lookup x = some c → ∀ v, s.heap.IsCell c v → h'.IsCell c v := fun x c e v ⟨o, ho, hd⟩ => by
    have nch : c ∉ ch := fun z => (hch c z).2.2.1 x c e rfl
    by_cases hc : c ∈ X.fs
    · obtain ⟨sl, q⟩ := slot c o (I.cne x c e) hc nch ho (I.freeC x c e)
      exact ⟨_, q, hd⟩
    · exact ⟨o, keep c o (I.cne x c e) hc nch ho (I.freeC x c e), hd⟩
  refine ⟨I.ok, I.os, hg, ⟨fun b o e n hb hx => ?_, fun b o e n hb hx => ?_, fun b o e n hx => ?_, fun b o e hx => ?_, fun b xs e => tups b xs (I.base.tups b xs e), fun b o xs e => frzs b o xs (I.base.frzs b o xs e), fun b ps e => ?_⟩, ?_, fun x c e => ?_, ?_, fun x c e => ?_, fun p hp => ?_, hok, I.len⟩
  · exact keep b o (neL b o e) hb (neC b o e hx) (I.base.keep b o e n hb hx) (I.base.free b o e n hx)
  · obtain ⟨sl, e1⟩ := I.base.slot b o e n hb hx
    obtain ⟨sl', e2⟩ := slot b _ (neL b o e) hb (neC b o e hx) e1 (I.base.free b o e n hx)
    exact ⟨sl', e2⟩
  · obtain ⟨o', e1⟩ := I.base.there b o e hx
    exact free b o' (neC b o e hx) e1 (I.base.free b o e n hx)
  · obtain ⟨o', e1⟩ := I.base.there b o e hx
    exact there b o' (neC b o e hx) e1
  · obtain ⟨m1, e1⟩ := I.base.tbls b ps e
    obtain ⟨m2, e2⟩ := tbls b _ e1
    exact ⟨m1 ++ m2, by rw [e2, Array.append_assoc]⟩
  · obtain ⟨m, hn, hl⟩ := I.loc
    refine ⟨m, ns m hn, fun i x v e1 e2 e3 => ?_⟩
    obtain ⟨u, r, l⟩ := hl i x v e1 e2 e3
    refine ⟨u, r, ?_⟩
    rcases l with l | ⟨k, c, e, z⟩
    · exact .inl l
    · exact .inr ⟨k, c, e, cellK x c e _ z⟩
  · obtain ⟨v, z⟩ := I.cell x c e
    exact ⟨v, cellK x c e v z⟩
  · obtain ⟨m, ⟨o, _, _, ho, _⟩, _⟩ := I.loc
    exact free _ o (fun z => (hch _ z).2.1 rfl) ho I.free
  · obtain ⟨v, o, ho, hd⟩ := I.cell x c e
    exact free c o (fun z => (hch c z).2.2.1 x c e rfl) ho (I.freeC x c e)
  · obtain ⟨e, n, ne, nf, d⟩ := I.pin p hp
    have nch : p.1 ∉ ch := fun z => (hch p.1 z).2.2.2 p hp rfl
    exact ⟨keep p.1 p.2 ne nf nch e n, free p.1 p.2 nch e n, ne, nf, d⟩
/-- .. where the frame's own object is kept too -/
theorem Inv.un {t' : Nat} (I : Inv X pins σ H s) (u : Un X.fs [] H H' s.heap h') (hok : HOk X.prog X.w H' h') : Inv X pins σ H' { s with heap := h', toks := t' } := by
  obtain ⟨m, ⟨o, es, ep, ho, r⟩, _⟩ := id I.loc
  obtain ⟨sl, hL⟩ := u.any ho I.free (by simp)
  exact I.step (g' := s.gens) (d' := s.drawn) (ch := []) (fun _ z => nomatch z) (fun b o _ hb _ e n => u.keep b o e n hb (by simp)) (fun b o _ hb _ e n => u.slot b o e n hb (by simp)) (fun b o _ e n => u.free b o e n (by simp)) (fun b o _ e => u.there b o e (by simp)) u.tups u.frzs u.tbls (fun m' hm => by
    obtain ⟨o', es', ep', ho', r'⟩ := hm
    rw [ho] at ho'; cases ho'
    exact ⟨_, es', ep', hL, r'⟩) hok I.bare
/-- behind a call (or a comprehension's block): the slots of this frame may have changed too, the records at ch may have turned -/
theorem Inv.call {g' : Array GenState} {t' : Nat} {d' : Drawn} {ch : List Addr} (I : Inv X pins σ H s) (u : Un (frs X.stack) ch H H' s.heap h') (hok : HOk X.prog X.w H' h') (hg : AllBare g')
    (hch : ∀ b ∈ ch, (b ∈ X.ex ∨ X.s₀.heap.get? b = none) ∧ b ≠ X.env.locals ∧ (∀ x c, X.env.cells.lookup x = some c → c ≠ b) ∧ ∀ p ∈ X.pn ++ pins, p.1 ≠ b) :
    Inv X pins σ H' { s with heap := h', gens := g', drawn := d', toks := t' } := by
  obtain ⟨m, ⟨o, es, ep, ho, r⟩, _⟩ := id I.loc
  obtain ⟨sl, hL⟩ := u.any ho I.free fun z => (hch _ z).2.1 rfl
  exact I.step (ch := ch) hch (fun b o hL hb hc e n => u.keep b o e n (fun z => (List.mem_cons.mp (I.stkSub b z)).elim hL hb) hc) (fun b o _ _ hc e n => u.any e n hc) (fun b o hc e n => u.free b o e n hc) (fun b o hc e => u.there b o e hc) u.tups u.frzs u.tbls (fun m' hm => by
    obtain ⟨o', es', ep', ho', r'⟩ := hm
    rw [ho] at ho'; cases ho'
    exact ⟨_, es', ep', hL, r'⟩) hok hg
/-- an untracked record of ours (an iterator) has turned -/
theorem Inv.turned {t' : Nat} {it : Addr} (I : Inv X pins σ H s) (k : ∀ b o, b ≠ it → s.heap.get? b = some o → h'.get? b = some o) (hn : H it = none) (hL : it ≠ X.env.locals)
    (h1 : it ∈ X.ex ∨ X.s₀.heap.get? it = none) (h2 : ∀ x c, X.env.cells.lookup x = some c → c ≠ it) (h3 : ∀ p ∈ X.pn ++ pins, p.1 ≠ it) : Inv X pins σ H { s with heap := h', toks := t' } := by
  have nit : ∀ b u, H b = some u → b ≠ it := fun b u e z => by rw [z, hn] at e; cases e
  refine I.step (g' := s.gens) (d' := s.drawn) (ch := [it]) (fun b hb => ?_) (fun b o _ _ hc e _ => k b o (fun z => hc (by simp [z])) e) (fun b o _ _ hc e _ => ⟨o.slots, k b o (fun z => hc (by simp [z])) e⟩) (fun _ _ _ _ n => n)
    (fun b o hc e => ⟨o, k b o (fun z => hc (by simp [z])) e⟩) (fun _ _ e => e) (fun _ _ _ e => e) (fun b ps e => ⟨#[], by rw [e]; simp⟩) (fun m hm => ?_) (fun b u e => ?_) I.bare
  · have e : b = it := by simpa using hb
    subst e
    exact ⟨h1, hL, h2, h3⟩
  · obtain ⟨o, es, ep, ho, r⟩ := hm
    exact ⟨o, es, ep, k _ o (Ne.symm hL) ho, r⟩
  · refine (I.hok b u e).stay (fun c v hc q => k c v ?_ q) (fun _ q => q) fun _ _ q => q
    rcases hc with z | z
    · rw [z]; exact nit b u e
    · exact nit c _ z
theorem Inv.tok (I : Inv X pins σ H s) (t : Nat) : Inv X pins σ H { s with toks := t } := I.un (h' := s.heap) (t' := t) Un.refl I.hok
/-- all objects kept -/
theorem Inv.kept {t' : Nat} (I : Inv X pins σ H s) (k : ∀ b u, s.heap.get? b = some u → h'.get? b = some u) : Inv X pins σ H { s with heap := h', toks := t' } := I.un (Un.kept k) (I.hok.kept k)
/-- a new object laid and tracked -/
theorem Inv.laid {a : Addr} {o : HO} {t' : Nat} (I : Inv X pins σ H s) (k : ∀ b u, s.heap.get? b = some u → h'.get? b = some u) (hp : s.heap.objs.size ≤ a) (new : ObjOk X.prog X.w (upd H a o) h' a o) :
    Inv X pins σ (upd H a o) { s with heap := h', toks := t' } := I.un (Un.laid k hp (I.hok.fresh hp)) (I.hok.laid k hp new)
/-- an object written -/
theorem Inv.write {x e : Addr} {o : HO} {t' : Nat} (I : Inv X pins σ H s) (mu : Mut (H x)) (he : e = x ∨ H e = some (.own x)) (k : ∀ b u, b ≠ e → s.heap.get? b = some u → h'.get? b = some u) (heo : ∃ u, h'.get? e = some u)
    (new : ObjOk X.prog X.w (upd H x o) h' x o) : Inv X pins σ (upd H x o) { s with heap := h', toks := t' } := I.un (Un.write mu he k heo) (I.hok.write mu he k heo new)
/-- forgetting slots, pins -/
theorem Inv.weak {σ' : List (Option V)} (I : Inv X pins σ H s) (hl : σ'.length = σ.length) (w : ∀ (i : Nat) v, σ'[i]? = some (some v) → σ[i]? = some (some v)) : Inv X pins σ' H s :=
  ⟨I.ok, I.os, I.bare, I.base, let ⟨m, hn, hl'⟩ := I.loc; ⟨m, hn, fun i x v e1 e2 e3 => hl' i x v e1 (w i v e2) e3⟩, I.cell, I.free, I.freeC, I.pin, I.hok, hl.trans I.len⟩
theorem Inv.pins_of {pins' : List (Addr × Obj)} (I : Inv X pins σ H s) (h : ∀ p ∈ pins', s.heap.get? p.1 = some p.2 ∧ H p.1 = none ∧ p.1 ≠ X.env.locals ∧ p.1 ∉ X.fs ∧ ∀ v, p.2.data ≠ .cell v) : Inv X pins' σ H s :=
  ⟨I.ok, I.os, I.bare, I.base, I.loc, I.cell, I.free, I.freeC, fun p hp => (List.mem_append.mp hp).elim (fun z => I.pin p (List.mem_append_left _ z)) (h p), I.hok, I.len⟩

theorem nodup_ix {N : List Str} (hN : N.Nodup) {i j : Nat} {x : Str} (a : N[i]? = some x) (b : N[j]? = some x) : i = j := by
  obtain ⟨h1, e1⟩ := List.getElem?_eq_some_iff.mp a
  obtain ⟨h2, e2⟩ := List.getElem?_eq_some_iff.mp b
  exact (List.getElem_inj hN).mp (e1.trans e2.symm)

/-- a name is stored; what changed -/
theorem store_ok2 {M : Model} {A : Around} {E : Value → Shared → Prop} {i : Nat} {x : Str} {v : V} {u : Value} {Q : Unit → Shared → Prop} (I : Inv X pins σ H s) (hN : X.N.Nodup) (hi : X.N[i]? = some x) (hx : Loc X.env.scope x) (r : RelV v u)
    (h : ∀ s', Inv X pins (σ.set i (some v)) H s' → (∃ a, Heap.SameBut a s.heap s'.heap ∧ (a = X.env.locals ∨ X.env.cells.lookup x = some a)) → Q () s') (hf : X.fn x = true ∨ X.env.scope.names.lookup x = some .local := by first | exact .inl rfl | exact .inr rfl | assumption) : wpAny M A (storeName X.env x u) Q E s := by
  obtain ⟨m, hn, hl⟩ := id I.loc
  have hcls : (X.env.scope.kind == .class || (X.env.scope.kind == .module && X.env.locals != X.env.globals)) = false := by rw [I.ok.kind]; rfl
  have hiσ : i < σ.length := by rw [I.len]; exact (List.getElem?_eq_some_iff.mp hi).1
  have cne := I.cne
  have tracked : ∀ {a : Addr} {h' : Heap}, (∃ o, s.heap.get? a = some o ∧ H a = none) → Heap.SameBut a s.heap h' → HOk X.prog X.w H h' := fun {a h'} ha hs b ob e => by
    obtain ⟨_, _, hfree⟩ := ha
    refine (I.hok b ob e).stay (fun c w' hc q => (hs.2 c ?_).trans q) (fun _ q => q) fun _ _ q => q
    rintro rfl
    rcases hc with rfl | hc
    · rw [hfree] at e; cases e
    · rw [hfree] at hc; cases hc
  rcases hx with hk | hk
  · refine wpAny_storeName_local hk hn (fun h' hn' hs => ?_) hcls
    obtain ⟨oL, _, _, hoL, _⟩ := id hn
    refine h _ ⟨I.ok, I.os, I.bare, ⟨fun b o e n hb hx => ?_, fun b o e n hb hx => ?_, I.base.free, fun b o e hx => ?_, I.base.tups, I.base.frzs, I.base.tbls⟩, ⟨_, hn', fun j y v' e1 e2 e3 => ?_⟩, fun y c e => ?_, I.free, I.freeC, fun p hp => ?_, tracked ⟨oL, hoL, I.free⟩ hs, by simpa using I.len⟩ ⟨_, hs, .inl rfl⟩
    · exact (hs.2 b (Nat.ne_of_lt (Nat.lt_of_lt_of_le (Heap.lt_size e) I.ok.above))).trans (I.base.keep b o e n hb hx)
    · obtain ⟨sl, e1⟩ := I.base.slot b o e n hb hx
      exact ⟨sl, (hs.2 b (Nat.ne_of_lt (Nat.lt_of_lt_of_le (Heap.lt_size e) I.ok.above))).trans e1⟩
    · obtain ⟨o', e1⟩ := I.base.there b o e hx
      exact ⟨o', (hs.2 b (Nat.ne_of_lt (Nat.lt_of_lt_of_le (Heap.lt_size e) I.ok.above))).trans e1⟩
    · by_cases hj : j = i
      · subst hj
        rw [hi] at e1; cases e1
        rw [List.getElem?_set_self hiσ] at e2
        cases e2
        exact ⟨u, r, .inl ⟨hk, by simp⟩⟩
      · rw [List.getElem?_set_ne (Ne.symm hj)] at e2
        obtain ⟨u', r', q⟩ := hl j y v' e1 e2 e3
        refine ⟨u', r', ?_⟩
        rcases q with ⟨k, e⟩ | ⟨k, c, e, z⟩
        · refine .inl ⟨k, ?_⟩
          have : y ≠ x := fun e => hj (nodup_ix hN e1 (e ▸ hi))
          simp [this, e]
        · exact .inr ⟨k, c, e, z.sameBut hs (cne y c e)⟩
    · obtain ⟨w', z⟩ := I.cell y c e
      exact ⟨w', z.sameBut hs (cne y c e)⟩
    · obtain ⟨e, n, ne, nf, d⟩ := I.pin p hp
      exact ⟨(hs.2 p.1 ne).trans e, n, ne, nf, d⟩
  · have hfn : X.fn x = true := by
      rcases hf with z | z
      · exact z
      · rw [z] at hk; cases hk
    obtain ⟨c, hc⟩ := I.ok.has x (.inl hk)
    obtain ⟨w', z⟩ := I.cell x c hc
    refine wpAny_storeName_cell I.ok.kind hk hc z (fun h' hc' hs => ?_)
    obtain ⟨oc, hoc, hocd⟩ := id z
    refine h { s with heap := h' } ⟨I.ok, I.os, I.bare, ⟨fun b o e n hb hx => ?_, fun b o e n hb hx => ?_, I.base.free, fun b o e hx => ?_, I.base.tups, I.base.frzs, I.base.tbls⟩, ⟨m, hn.sameBut hs (Ne.symm (cne x c hc)), fun j y v' e1 e2 e3 => ?_⟩, fun y c' e => ?_, I.free, I.freeC, fun p hp => ?_, tracked ⟨oc, hoc, I.freeC x c hc⟩ hs, by simpa using I.len⟩ ⟨c, hs, .inr hc⟩
    · exact (hs.2 b (Nat.ne_of_lt (Nat.lt_of_lt_of_le (Heap.lt_size e) (I.ok.cab x c hfn hc)))).trans (I.base.keep b o e n hb hx)
    · obtain ⟨sl, e1⟩ := I.base.slot b o e n hb hx
      exact ⟨sl, (hs.2 b (Nat.ne_of_lt (Nat.lt_of_lt_of_le (Heap.lt_size e) (I.ok.cab x c hfn hc)))).trans e1⟩
    · obtain ⟨o', e1⟩ := I.base.there b o e hx
      exact ⟨o', (hs.2 b (Nat.ne_of_lt (Nat.lt_of_lt_of_le (Heap.lt_size e) (I.ok.cab x c hfn hc)))).trans e1⟩
    · by_cases hj : j = i
      · subst hj
        rw [hi] at e1; cases e1
        rw [List.getElem?_set_self hiσ] at e2
        cases e2
        exact ⟨u, r, .inr ⟨.inl hk, c, hc, hc'⟩⟩
      · rw [List.getElem?_set_ne (Ne.symm hj)] at e2
        obtain ⟨u', r', q⟩ := hl j y v' e1 e2 e3
        refine ⟨u', r', ?_⟩
        rcases q with q | ⟨k, c', e, z'⟩
        · exact .inl q
        · refine .inr ⟨k, c', e, z'.sameBut hs ?_⟩
          rintro rfl
          exact hj (nodup_ix hN e1 (I.ok.inj _ _ _ e hc ▸ hi))
    · by_cases hcc : c' = c
      · subst hcc; exact ⟨_, hc'⟩
      · obtain ⟨w2, z2⟩ := I.cell y c' e
        exact ⟨w2, z2.sameBut hs hcc⟩
    · obtain ⟨e, n, ne, nf, d⟩ := I.pin p hp
      refine ⟨(hs.2 p.1 ?_).trans e, n, ne, nf, d⟩
      intro q
      rw [q, hoc] at e
      have q' : oc = p.2 := Option.some.inj e
      exact d w' (by rw [← q']; exact hocd)
theorem store_ok {M : Model} {A : Around} {E : Value → Shared → Prop} {i : Nat} {x : Str} {v : V} {u : Value} {Q : Unit → Shared → Prop} (I : Inv X pins σ H s) (hN : X.N.Nodup) (hi : X.N[i]? = some x) (hx : Loc X.env.scope x) (r : RelV v u)
    (h : ∀ s', Inv X pins (σ.set i (some v)) H s' → Q () s') (hf : X.fn x = true ∨ X.env.scope.names.lookup x = some .local := by first | exact .inl rfl | exact .inr rfl | assumption) : wpAny M A (storeName X.env x u) Q E s :=
  store_ok2 I hN hi hx r (fun s' I' _ => h s' I') hf
/-- behind a call or a block, the state as it is -/
theorem Inv.call' {s' : Shared} {ch : List Addr} (I : Inv X pins σ H s) (ho : s'.os = s.os) (u : Un (frs X.stack) ch H H' s.heap s'.heap) (hok : HOk X.prog X.w H' s'.heap) (hg : AllBare s'.gens)
    (hch : ∀ b ∈ ch, (b ∈ X.ex ∨ X.s₀.heap.get? b = none) ∧ b ≠ X.env.locals ∧ (∀ x c, X.env.cells.lookup x = some c → c ≠ b) ∧ ∀ p ∈ X.pn ++ pins, p.1 ≠ b) : Inv X pins σ H' s' := by
  obtain ⟨h', g', d', t', o'⟩ := s'
  have e : o' = s.os := ho
  subst e
  exact I.call (g' := g') (t' := t') (d' := d') u hok hg hch
end

/-! ### the judgements -/
/-- an exception: its class, its own dict's address (where it has one), the abstract heap behind it -/
abbrev XK := Value → Option Addr → Hp → Prop
abbrev St := List (Option V)
abbrev VK := V → Hp → Prop
/-- an expression's reading; a test's; an argument list's -/
abbrev TE := St → Hp → VK → Prop
abbrev TT := St → Hp → (Bool → Hp → Prop) → Prop
abbrev TA := St → Hp → (List V → Hp → Prop) → Prop
/-- what is wanted behind a statement -/
structure Ends where
  nx : St → Hp → Prop
  rt : VK
  bk : St → Hp → Prop := fun _ _ => False
  ct : St → Hp → Prop := fun _ _ => False
abbrev TS := Ends → St → Hp → Prop

def EP (X : Cx) (pins : List (Addr × Obj)) (σ : St) (Q : VK) (u : Value) (s' : Shared) : Prop := ∃ v H', Inv X pins σ H' s' ∧ RelV v u ∧ Q v H'
def TP (X : Cx) (pins : List (Addr × Obj)) (σ : St) (Q : Bool → Hp → Prop) (b : Bool) (s' : Shared) : Prop := ∃ H', Inv X pins σ H' s' ∧ Q b H'
def AP (X : Cx) (pins : List (Addr × Obj)) (σ : St) (Q : List V → Hp → Prop) (us : List Value) (s' : Shared) : Prop := ∃ vs H', Inv X pins σ H' s' ∧ Vals vs us ∧ Q vs H'
def SP (X : Cx) (pins : List (Addr × Obj)) (D : Ends) (f : Flow) (s' : Shared) : Prop :=
  match f with
  | .next => ∃ σ' H', Inv X pins σ' H' s' ∧ D.nx σ' H'
  | .brk => ∃ σ' H', Inv X pins σ' H' s' ∧ D.bk σ' H'
  | .cont => ∃ σ' H', Inv X pins σ' H' s' ∧ D.ct σ' H'
  | .ret u => ∃ v σ' H', Inv X pins σ' H' s' ∧ RelV v u ∧ D.rt v H'

def PE (X : Cx) (e : Expr) (t : TE) : Prop :=
  ∀ (pins : List (Addr × Obj)) (s : Shared) (σ : St) (H : Hp) (Q : VK), Inv X pins σ H s → t σ H Q → wpAny (model X.prog X.w) X.A (eval e X.env) (EP X pins σ Q) X.xe s
def PT (X : Cx) (e : Expr) (t : TT) : Prop :=
  ∀ (pins : List (Addr × Obj)) (s : Shared) (σ : St) (H : Hp) (Q : Bool → Hp → Prop), Inv X pins σ H s → t σ H Q → wpAny (model X.prog X.w) X.A (isTrue e X.env (eval e X.env)) (TP X pins σ Q) X.xe s
/-- a test whatever its 'whole' is (and, or) -/
def PW (X : Cx) (e : Expr) (t : TT) : Prop :=
  ∀ (whole : Sem Value) (pins : List (Addr × Obj)) (s : Shared) (σ : St) (H : Hp) (Q : Bool → Hp → Prop), Inv X pins σ H s → t σ H Q → wpAny (model X.prog X.w) X.A (isTrue e X.env whole) (TP X pins σ Q) X.xe s
theorem PW.pt {X : Cx} {e : Expr} {t : TT} (h : PW X e t) : PT X e t := h _
/-- an argument list (no star), from the left -/
def PA (X : Cx) (es : List Expr) (t : TA) : Prop :=
  ∀ (pos : Pos) (pins : List (Addr × Obj)) (s : Shared) (σ : St) (H : Hp) (Q : List V → Hp → Prop), Inv X pins σ H s → t σ H Q → wpAny (model X.prog X.w) X.A (spliced (backTo pos (starEach es X.env))) (AP X pins σ Q) X.xe s
def PS (X : Cx) (st : Stmt) (t : TS) : Prop :=
  ∀ (pins : List (Addr × Obj)) (s : Shared) (σ : St) (H : Hp) (D : Ends), Inv X pins σ H s → t D σ H → wpAny (model X.prog X.w) X.A (exec st X.env) (SP X pins D) X.xe s
def PSs (X : Cx) (st : List Stmt) (t : TS) : Prop :=
  ∀ (pins : List (Addr × Obj)) (s : Shared) (σ : St) (H : Hp) (D : Ends), Inv X pins σ H s → t D σ H → wpAny (model X.prog X.w) X.A (execs st X.env) (SP X pins D) X.xe s
/-- weaken the end -/
theorem thn {α : Type} {t : Sem α} {Q Q' : α → Shared → Prop} {M : Model} {A : Around} {E : Value → Shared → Prop} {s : Shared} (h : wpAny M A t Q E s) (hQ : ∀ a s, Q a s → Q' a s) : wpAny M A t Q' E s := wpAny_mono h hQ fun _ _ x => x
end L2

namespace L2
open PySem PySem.Spec PyProof.Rows
section
variable {X : Cx}


/-! ### names and constants -/
def tVar (i : Nat) : TE := fun σ H Q => ∃ v, σ[i]? = some (some v) ∧ Q v H
def tC (v : V) : TE := fun _ H Q => Q v H
theorem pe_var {i : Nat} {x : Str} {pos : Pos} (hN : X.N[i]? = some x) (hv : Vis X.env.scope x) (hd : (x == ("__debug__" : Str)) = false := by decide) (hcd : (x == ("__classdict__" : Str)) = false := by decide) : PE X (.Name x pos) (tVar i) := by
  intro pins s σ H Q I h
  obtain ⟨v, e, h⟩ := h
  obtain ⟨m, hn, hl⟩ := I.loc
  obtain ⟨u, r, l⟩ := hl i x v hN e hv
  have fin : EP X pins σ Q u s := ⟨v, H, I, r, h⟩
  rcases l with ⟨hk, hm⟩ | ⟨hk, c, hc, hcell⟩
  · exact wpAny_Name (wpAny_loadName_local I.ok.kind hk hn hm fin) hd
  · rcases hk with hk | hk
    · exact wpAny_Name (wpAny_loadName_cell I.ok.kind hk hc hcell fin) hd
    · exact wpAny_Name (wpAny_loadName_free I.ok.kind hk hc hcell fin hcd) hd
theorem pe_int {i j pos} : PE X (.Constant (.int i) j pos) (tC (.int i)) := fun _ _ _ H _ I h => wpAny_Constant_int ⟨.int i, H, I.tok _, ⟨_, rfl⟩, h⟩
theorem pe_bl {b j pos} : PE X (.Constant (.bool b) j pos) (tC (.bl b)) := fun _ _ _ H _ I h => Constant_bool ⟨.bl b, H, I, rfl, h⟩
theorem pe_non {j pos} : PE X (.Constant .none j pos) (tC .non) := fun _ _ _ H _ I h => Constant_none ⟨.non, H, I, rfl, h⟩
theorem pe_str {x j pos} : PE X (.Constant (.str x) j pos) (tC (.str x)) := fun _ _ _ H _ I h => Calls.Constant_str ⟨.str x, H, I.tok _, ⟨_, rfl⟩, h⟩

/-- a global name of the def -/
def Gl (X : Cx) (x : Str) : Prop := X.env.kindOf x = some .globalImplicit
theorem ld_glob {E : Value → Shared → Prop} {pins : List (Addr × Obj)} {s : Shared} {σ : St} {H : Hp} {x : Str} {u : Value} {pos : Pos} {Q : Value → Shared → Prop} (I : Inv X pins σ H s) (hg : Gl X x) (hm : X.mg x = some u) (h : Q u s)
    (hd : (x == ("__debug__" : Str)) = false := by decide) : wpAny (model X.prog X.w) X.A (eval (.Name x pos) X.env) Q E s :=
  Calls.Name_function_global I.ok.kind hg (Calls.loadGlobal_global (by rw [I.ok.glob]; exact I.mod.glob.keeps I.bk) hm h) hd
theorem ld_blt {E : Value → Shared → Prop} {pins : List (Addr × Obj)} {s : Shared} {σ : St} {H : Hp} {x : Str} {u : Value} {pos : Pos} {Q : Value → Shared → Prop} (I : Inv X pins σ H s) (hg : Gl X x) (hm : X.mg x = none) (hv : bootBuiltins x = some u) (h : Q u s)
    (hn : x ≠ "__name__" := by decide) (hd : (x == ("__debug__" : Str)) = false := by decide) : wpAny (model X.prog X.w) X.A (eval (.Name x pos) X.env) Q E s := by
  obtain ⟨mb, h1, h2⟩ := I.mod.blt
  exact Calls.Name_function_global I.ok.kind hg (Calls.loadGlobal_builtin (by rw [I.ok.glob]; exact I.mod.glob.keeps I.bk) hm (by rw [I.ok.blt]; exact h1.keeps I.bk) ((h2 x hn).trans hv) h) hd
/-- a module's constant, a class, a function, as a value -/
theorem pe_glob {x : Str} {v : V} {u : Value} {pos : Pos} (hg : Gl X x) (hm : X.mg x = some u) (r : RelV v u) (hd : (x == ("__debug__" : Str)) = false := by decide) : PE X (.Name x pos) (tC v) :=
  fun _ _ _ H _ I h => ld_glob I hg hm ⟨v, H, I, r, h⟩ hd
theorem pe_bltn {x : Str} {v : V} {u : Value} {pos : Pos} (hg : Gl X x) (hm : X.mg x = none) (hv : bootBuiltins x = some u) (r : RelV v u) (hn : x ≠ "__name__" := by decide) (hd : (x == ("__debug__" : Str)) = false := by decide) : PE X (.Name x pos) (tC v) :=
  fun _ _ _ H _ I h => ld_blt I hg hm hv ⟨v, H, I, r, h⟩ hn hd

/-! ### arithmetic -/
/-- two ints -/
def t2I (ta tb : TE) (k : Int → Int → Hp → Prop) : St → Hp → Prop := fun σ H => ta σ H fun x H1 => tb σ H1 fun y H2 => ∃ i j, x = .int i ∧ y = .int j ∧ k i j H2
def tAdd (ta tb : TE) : TE := fun σ H Q => t2I ta tb (fun i j H2 => Q (.int (i + j)) H2) σ H
def tSub (ta tb : TE) : TE := fun σ H Q => t2I ta tb (fun i j H2 => Q (.int (i - j)) H2) σ H
/-- the left factor below 2^64 -/
def tMul (ta tb : TE) : TE := fun σ H Q => t2I ta tb (fun i j H2 => (-(2 ^ 64) < i ∧ i < 2 ^ 64) ∧ Q (.int (i * j)) H2) σ H
variable {a b : Expr} {ta tb : TE} {pos : Pos}

/-! ### comparisons -/
def PC (X : Cx) (op : CmpOp) (a b : Expr) (t : TE) : Prop :=
  ∀ (pins : List (Addr × Obj)) (s : Shared) (σ : St) (H : Hp) (Q : VK), Inv X pins σ H s → t σ H Q →
    wpAny (model X.prog X.w) X.A (eval a X.env) (fun v s₁ => wpAny (model X.prog X.w) X.A (eval b X.env) (fun u s₂ => wpAny (model X.prog X.w) X.A (compareOp op v u) (EP X pins σ Q) X.xe s₂) X.xe s₁) X.xe s
def tCmp (p : Int → Int → Bool) (ta tb : TE) : TE := fun σ H Q => t2I ta tb (fun i j H2 => Q (.bl (p i j)) H2) σ H
abbrev tLt : TE → TE → TE := tCmp fun i j => decide (i < j)
abbrev tLe : TE → TE → TE := tCmp fun i j => decide (i ≤ j)
abbrev tGt : TE → TE → TE := tCmp fun i j => decide (j < i)
abbrev tGe : TE → TE → TE := tCmp fun i j => decide (j ≤ i)
abbrev tEqI : TE → TE → TE := tCmp fun i j => decide (i = j)
abbrev tNeI : TE → TE → TE := tCmp fun i j => !decide (i = j)
/-- is None -/
def tIsN (ta : TE) : TE := fun σ H Q => ta σ H fun x H1 => Q (.bl (decide (x = .non))) H1
def tNotN (ta : TE) : TE := fun σ H Q => ta σ H fun x H1 => Q (.bl (!decide (x = .non))) H1
/-- a comparison as a value, as a test -/
def tB (t : TE) : TT := fun σ H Q => t σ H fun x H1 => ∃ c, x = .bl c ∧ Q c H1
/-- an expression whose value is a bool, as a test -/
theorem pt_val {e : Expr} {t : TE} (h : PE X e t) (he : ∀ whole, isTrue e X.env whole = (do let v ← whole; standAt e.pos; holding [v] (truthy v)) := by intro _; rfl) : PT X e (tB t) := by
  intro pins s σ H Q I hw
  refine isTrue_plain (thn (h pins s σ H _ I hw) fun v s1 ⟨x, H1, I1, r1, q1⟩ => ?_) (he _)
  obtain ⟨d, rfl, q⟩ := q1
  cases r1
  exact wpAny_truthy_bool ⟨H1, I1, q⟩

/-! ### and, or, not -/
variable {tA tB' : TT} {rest : List Expr}
def tAnd (t u : TT) : TT := fun σ H Q => t σ H fun c H1 => if c = true then u σ H1 Q else Q false H1
def tOr (t u : TT) : TT := fun σ H Q => t σ H fun c H1 => if c = true then Q true H1 else u σ H1 Q
def tNot (t : TT) : TT := fun σ H Q => t σ H fun c H1 => Q (!c) H1
theorem pw_and1 (ha : PT X a tA) : PW X (.BoolOp .And [a] pos) tA := by
  intro wh pins s σ H Q I h
  refine isTrue_and (thn (ha pins s σ H Q I h) fun c s1 e => ?_)
  cases c with
  | true => exact isTrue_and_nil e
  | false => exact e
theorem pw_or1 (ha : PT X a tA) : PW X (.BoolOp .Or [a] pos) tA := by
  intro wh pins s σ H Q I h
  refine isTrue_or (thn (ha pins s σ H Q I h) fun c s1 e => ?_)
  cases c with
  | false => exact isTrue_or_nil e
  | true => exact e
theorem pw_and (ha : PT X a tA) (hb : PW X (.BoolOp .And (b :: rest) pos) tB') : PW X (.BoolOp .And (a :: b :: rest) pos) (tAnd tA tB') := by
  intro wh pins s σ H Q I h
  refine isTrue_and (thn (ha pins s σ H _ I h) fun c s1 ⟨H1, I1, q1⟩ => ?_)
  cases c with
  | true => exact hb wh pins s1 σ H1 Q I1 q1
  | false => exact ⟨H1, I1, q1⟩
theorem pw_or (ha : PT X a tA) (hb : PW X (.BoolOp .Or (b :: rest) pos) tB') : PW X (.BoolOp .Or (a :: b :: rest) pos) (tOr tA tB') := by
  intro wh pins s σ H Q I h
  refine isTrue_or (thn (ha pins s σ H _ I h) fun c s1 ⟨H1, I1, q1⟩ => ?_)
  cases c with
  | true => exact ⟨H1, I1, q1⟩
  | false => exact hb wh pins s1 σ H1 Q I1 q1
theorem pt_not (ha : PT X a tA) : PT X (.UnaryOp .Not a pos) (tNot tA) := by
  intro pins s σ H Q I h
  exact isTrue_not (ha pins s σ H (fun c H1 => Q (!c) H1) I h)
/-- .. as values (bools) -/
def tAndV (ta tb : TE) : TE := fun σ H Q => ta σ H fun x H1 => ∃ c, x = .bl c ∧ if c = true then tb σ H1 Q else Q (.bl false) H1
def tOrV (ta tb : TE) : TE := fun σ H Q => ta σ H fun x H1 => ∃ c, x = .bl c ∧ if c = true then Q (.bl true) H1 else tb σ H1 Q
def tNotV (ta : TE) : TE := fun σ H Q => ta σ H fun x H1 => ∃ c, x = .bl c ∧ Q (.bl (!c)) H1
theorem pe_one {op} {t : TE} (h : PE X a t) : PE X (.BoolOp op [a] pos) t := fun pins s σ H Q I hw => BoolOp_one (h pins s σ H Q I hw)
theorem pe_and (ha : PE X a ta) (hb : PE X (.BoolOp .And (b :: rest) pos) tb) : PE X (.BoolOp .And (a :: b :: rest) pos) (tAndV ta tb) := by
  intro pins s σ H Q I h
  refine BoolOp_and (thn (ha pins s σ H _ I h) fun v s1 ⟨x, H1, I1, r1, q1⟩ => ?_)
  obtain ⟨c, rfl, q1⟩ := q1
  cases r1
  refine wpAny_truthy_bool ?_
  cases c with
  | true => exact hb pins s1 σ H1 Q I1 q1
  | false => exact ⟨.bl false, H1, I1, rfl, q1⟩
theorem pe_not (ha : PE X a ta) : PE X (.UnaryOp .Not a pos) (tNotV ta) := by
  intro pins s σ H Q I h
  refine UnaryOp_ (thn (ha pins s σ H _ I h) fun v s1 ⟨x, H1, I1, r1, q1⟩ => ?_)
  obtain ⟨c, rfl, q1⟩ := q1
  cases r1
  exact not_of (wpAny_truthy_bool ⟨.bl (!c), H1, I1, rfl, q1⟩)
/-- a if t else b -/
def tIf (t : TT) (ta tb : TE) : TE := fun σ H Q => t σ H fun c H1 => if c = true then ta σ H1 Q else tb σ H1 Q
end
end L2

namespace L2
open PySem PySem.Spec PyProof.Rows

/-! ### a list, a tuple that is read: tracked, frozen, or an object of the module -/
def SqL (K : PySem.W.Frag) (H : Hp) (a : Addr) (xs : List V) : Prop :=
  Rd H a (.lst xs) ∨
    ∃ (o : Obj) (its : Array Value) (n : Nat), K.lookup a = some o ∧ o.cls = .type "list" ∧ o.dict = none ∧ o.data = .seq its n ∧ its.size ≤ sizeLine ∧ Vals xs its.toList
def SqT (K : PySem.W.Frag) (H : Hp) (a : Addr) (xs : List V) : Prop :=
  Rd H a (.tup xs) ∨
    ∃ (o : Obj) (its : Array Value) (n : Nat), K.lookup a = some o ∧ o.cls = .type "tuple" ∧ o.data = .seq its n ∧ its.size ≤ sizeLine ∧ Vals xs its.toList
def absV : Value → Option V
  | .none => some .non
  | .bool b => some (.bl b)
  | .int i _ => some (.int i)
  | .str x _ => some (.str x)
  | .bytes b _ => some (.byt b)
  | .float b _ => some (.flt b)
  | .ref a => some (.ref a)
  | .type n => some (.ty n)
  | _ => none
theorem RelV.abs {x : V} {u : Value} (r : RelV x u) : absV u = some x := by
  cases x with
  | non => cases r; rfl
  | bl _ => cases r; rfl
  | int _ => obtain ⟨t, rfl⟩ := r; rfl
  | str _ => obtain ⟨t, rfl⟩ := r; rfl
  | byt _ => obtain ⟨t, rfl⟩ := r; rfl
  | flt _ => obtain ⟨t, rfl⟩ := r; rfl
  | ref _ => cases r; rfl
  | ty _ => cases r; rfl
theorem RelV.inj {x y : V} {u : Value} (r : RelV x u) (q : RelV y u) : x = y := Option.some.inj (r.abs.symm.trans q.abs)
theorem Vals.inj : ∀ {xs ys : List V} {us : List Value}, Vals xs us → Vals ys us → xs = ys
  | _, _, _, .nil, .nil => rfl
  | _, _, _, .cons r t, .cons r' t' => by rw [r.inj r', Vals.inj t t']
section
variable {X : Cx} {pins : List (Addr × Obj)} {σ : St} {H : Hp} {s : Shared} {a : Addr} {xs ys : List V}
theorem SqL.of {K : PySem.W.Frag} (h : H a = some (.lst xs)) : SqL K H a xs := .inl (.inl h)
theorem SqT.of {K : PySem.W.Frag} (h : H a = some (.tup xs)) : SqT K H a xs := .inl (.inl h)
theorem Inv.list (I : Inv X pins σ H s) (h : SqL X.K H a xs) : ∃ its : List Value, Vals xs its ∧ PlainL s.heap a its.toArray ∧ xs.length ≤ sizeLine := by
  rcases h with h | ⟨o, its, n, hk, hc, hd, hs, hz, r⟩
  · obtain ⟨z, its, n, r, e⟩ := h.ok I.hok
    exact ⟨its, r, ⟨_, n, e, rfl, rfl, rfl⟩, z⟩
  · refine ⟨its.toList, r, ⟨o, n, I.kIn a o hk, hc, hd, by simpa using hs⟩, ?_⟩
    have e := r.length
    simp only [Array.length_toList] at e
    omega
theorem Inv.tuple (I : Inv X pins σ H s) (h : SqT X.K H a xs) : ∃ its : List Value, Vals xs its ∧ IsTup s.heap a its.toArray ∧ xs.length ≤ sizeLine := by
  rcases h with h | ⟨o, its, n, hk, hc, hs, hz, r⟩
  · obtain ⟨z, its, r, p⟩ := h.ok I.hok
    exact ⟨its, r, p, z⟩
  · refine ⟨its.toList, r, ⟨o, I.kIn a o hk, hc, n, by simpa using hs⟩, ?_⟩
    have e := r.length
    simp only [Array.length_toList] at e
    omega
theorem Inv.list_inj (I : Inv X pins σ H s) (h : SqL X.K H a xs) (h' : SqL X.K H a ys) : xs = ys := by
  obtain ⟨its, r, ⟨o, n, e, _, _, d⟩, _⟩ := I.list h
  obtain ⟨its', r', ⟨o', n', e', _, _, d'⟩, _⟩ := I.list h'
  rw [e] at e'; cases e'
  rw [d] at d'
  injection d' with d1 _
  have : its = its' := by simpa using congrArg Array.toList d1
  subst this
  exact r.inj r'
theorem Inv.tuple_inj (I : Inv X pins σ H s) (h : SqT X.K H a xs) (h' : SqT X.K H a ys) : xs = ys := by
  obtain ⟨its, r, ⟨o, e, _, n, d⟩, _⟩ := I.tuple h
  obtain ⟨its', r', ⟨o', e', _, n', d'⟩, _⟩ := I.tuple h'
  rw [e] at e'; cases e'
  rw [d] at d'
  injection d' with d1 _
  have : its = its' := by simpa using congrArg Array.toList d1
  subst this
  exact r.inj r'
end

/-! ### another wish about exceptions -/
abbrev Cx.wish (X : Cx) (E : Value → Shared → Prop) : Cx := { X with xe := E }
/-- no exception leaves -/
abbrev Cx.nox (X : Cx) : Cx := X.wish fun _ _ => False
theorem Cx.Ok.wish {X : Cx} (ok : X.Ok) (E : Value → Shared → Prop) : (X.wish E).Ok :=
  ⟨ok.mod, ok.kind, ok.glob, ok.blt, ok.above, ok.inj, ok.has, ok.cab, ok.hd, ok.frames, ok.stk, ok.exf, ok.bs, ok.bsz, ok.noex, ok.exfs, ok.funs, ok.frf⟩
theorem Cx.Ok.unwish {X : Cx} {E : Value → Shared → Prop} (ok : (X.wish E).Ok) : X.Ok :=
  ⟨ok.mod, ok.kind, ok.glob, ok.blt, ok.above, ok.inj, ok.has, ok.cab, ok.hd, ok.frames, ok.stk, ok.exf, ok.bs, ok.bsz, ok.noex, ok.exfs, ok.funs, ok.frf⟩
section
variable {X : Cx} {pins : List (Addr × Obj)} {σ : St} {H : Hp} {s : Shared} {E : Value → Shared → Prop}
theorem Inv.wish (I : Inv X pins σ H s) (E : Value → Shared → Prop) : Inv (X.wish E) pins σ H s := ⟨I.ok.wish E, I.os, I.bare, I.base, I.loc, I.cell, I.free, I.freeC, I.pin, I.hok, I.len⟩
theorem Inv.unwish (I : Inv (X.wish E) pins σ H s) : Inv X pins σ H s := ⟨I.ok.unwish, I.os, I.bare, I.base, I.loc, I.cell, I.free, I.freeC, I.pin, I.hok, I.len⟩
theorem SP.unwish {D : Ends} {f : Flow} {s' : Shared} (h : SP (X.wish E) pins D f s') : SP X pins D f s' := by
  cases f with
  | next => obtain ⟨σ', H', I, q⟩ := h; exact ⟨σ', H', I.unwish, q⟩
  | brk => obtain ⟨σ', H', I, q⟩ := h; exact ⟨σ', H', I.unwish, q⟩
  | cont => obtain ⟨σ', H', I, q⟩ := h; exact ⟨σ', H', I.unwish, q⟩
  | ret u => obtain ⟨v, σ', H', I, r, q⟩ := h; exact ⟨v, σ', H', I.unwish, r, q⟩
theorem PSs.nox {st : List Stmt} {t : TS} (h : PSs X.nox st t) : PSs X st t := fun pins s σ H D I hw =>
  wpAny_mono (h pins s σ H D (I.wish _) hw) (fun _ _ q => q.unwish) fun _ _ z => False.elim z
end

/-! ### blocks and small statements -/
section
variable {X : Cx} {st : Stmt} {rest : List Stmt} {t u : TS} {e : Expr} {te : TE} {pos : Pos}
def tNext : TS := fun D σ H => D.nx σ H
def tSeq (t u : TS) : TS := fun D σ H => t { D with nx := u D } σ H
theorem pss_nil : PSs X [] tNext := fun _ _ σ H _ I h => wpAny_execs_nil ⟨σ, H, I, h⟩
theorem pss_cons (h1 : PS X st t) (h2 : PSs X rest u) : PSs X (st :: rest) (tSeq t u) := by
  intro pins s σ H D I h
  refine wpAny_execs_cons (thn (h1 pins s σ H { D with nx := u D } I h) fun f s1 q => ?_)
  cases f with
  | next =>
    obtain ⟨σ', H', I', q⟩ := q
    exact h2 pins s1 σ' H' D I' q
  | ret v => exact q
  | brk => exact q
  | cont => exact q
theorem pss_one (h1 : PS X st t) : PSs X [st] t := by
  intro pins s σ H D I h
  refine wpAny_execs_cons (thn (h1 pins s σ H D I h) fun f s1 q => ?_)
  cases f with
  | next => exact wpAny_execs_nil q
  | ret v => exact q
  | brk => exact q
  | cont => exact q
def tBreak : TS := fun D σ H => D.bk σ H
def tCont : TS := fun D σ H => D.ct σ H
/-- in a def's body nothing is shown -/
theorem Inv.quiet {pins : List (Addr × Obj)} {σ : St} {H : Hp} {s : Shared} (I : Inv X pins σ H s) : interactive X.env = false := by simp [interactive, I.ok.kind]
/-- an expression whose value is dropped -/
def tDrop (te : TE) : TS := fun D σ H => te σ H fun _ H1 => D.nx σ H1
theorem ps_expr (he : PE X e te) (hs : swapsWith e none pos.line X.env = pure false := by rfl) : PS X (.Expr e pos) (tDrop te) := by
  intro pins s σ H D I h
  exact wpAny_Expr_any (thn (he pins s σ H _ I h) fun v s1 ⟨x, H1, I1, r1, q1⟩ => ⟨σ, H1, I1, q1⟩) I.quiet hs
def tRet (te : TE) : TS := fun D σ H => te σ H D.rt
theorem ps_ret (he : PE X e te) : PS X (.Return (some e) pos) (tRet te) := by
  intro pins s σ H D I h
  exact wpAny_Return_some (thn (he pins s σ H _ I h) fun v s1 ⟨x, H1, I1, r1, q1⟩ => ⟨x, σ, H1, I1, r1, q1⟩)
def tRetN : TS := fun D _ H => D.rt .non H
def tIfS (c : TT) (t u : TS) : TS := fun D σ H => c σ H fun b H1 => if b = true then t D σ H1 else u D σ H1
theorem ps_if {c : Expr} {a b : List Stmt} {tc : TT} (hc : PT X c tc) (ha : PSs X a t) (hb : PSs X b u) : PS X (.If c a b pos) (tIfS tc t u) := by
  intro pins s σ H D I h
  refine wpAny_If (thn (hc pins s σ H _ I h) fun d s1 ⟨H1, I1, q1⟩ => ?_)
  cases d with
  | true => exact ha pins s1 σ H1 D I1 q1
  | false => exact hb pins s1 σ H1 D I1 q1
/-- code that the proof never comes to -/
def tNever : TS := fun _ _ _ => False
theorem ps_never : PS X st tNever := fun _ _ _ _ _ _ h => h.elim
end

/-! ### targets -/
abbrev TG := V → St → Hp → (St → Hp → Prop) → Prop
abbrev TGs := List V → St → Hp → (St → Hp → Prop) → Prop
def PG (X : Cx) (target : Expr) (t : TG) : Prop :=
  ∀ (pins : List (Addr × Obj)) (s : Shared) (σ : St) (H : Hp) (v : V) (u : Value) (Q : St → Hp → Prop), Inv X pins σ H s → RelV v u → t v σ H Q →
    wpAny (model X.prog X.w) X.A (assign target X.env u) (fun _ s' => ∃ σ' H', Inv X pins σ' H' s' ∧ Q σ' H') X.xe s
/-- several targets, one after another -/
def PGs (X : Cx) (ts : List Expr) (t : TGs) : Prop :=
  ∀ (pins : List (Addr × Obj)) (s : Shared) (σ : St) (H : Hp) (vs : List V) (us : List Value) (Q : St → Hp → Prop), Inv X pins σ H s → Vals vs us → t vs σ H Q →
    wpAny (model X.prog X.w) X.A (assignInOrder ((assignEach ts X.env).map (·.2)) us) (fun _ s' => ∃ σ' H', Inv X pins σ' H' s' ∧ Q σ' H') X.xe s
/-- o[i] = v, by values -/
abbrev TSet := V → V → V → Hp → (Hp → Prop) → Prop
def PSet (X : Cx) (t : TSet) : Prop :=
  ∀ (pins : List (Addr × Obj)) (s : Shared) (σ : St) (H : Hp) (o i v : V) (ov iv u : Value) (Q : Hp → Prop), Inv X pins σ H s → RelV o ov → RelV i iv → RelV v u → t o i v H Q →
    wpAny (model X.prog X.w) X.A (setItem ov iv u) (fun _ s' => ∃ H', Inv X pins σ H' s' ∧ Q H') X.xe s
/-- a op= b, by values -/
abbrev TIp := V → V → Hp → VK → Prop
def PIp (X : Cx) (op : Operator) (t : TIp) : Prop :=
  ∀ (pins : List (Addr × Obj)) (s : Shared) (σ : St) (H : Hp) (x y : V) (v u : Value) (Q : VK), Inv X pins σ H s → RelV x v → RelV y u → t x y H Q →
    wpAny (model X.prog X.w) X.A (inplaceOp op v u) (EP X pins σ Q) X.xe s
section
variable {X : Cx} {pos : Pos}
def gName (i : Nat) : TG := fun v σ H Q => Q (σ.set i (some v)) H
theorem pg_name {i : Nat} {x : Str} (hN : X.N.Nodup) (hi : X.N[i]? = some x) (hx : Loc X.env.scope x) (hf : X.fn x = true ∨ X.env.scope.names.lookup x = some .local := by first | exact .inl rfl | exact .inr rfl | assumption) : PG X (.Name x pos) (gName i) := by
  intro pins s σ H v u Q I r h
  exact wpAny_assign_Name (store_ok I hN hi hx r (fun s' I' => ⟨_, H, I', h⟩) hf)
def gNil : TGs := fun vs σ H Q => vs = [] ∧ Q σ H
def gCons (t : TG) (u : TGs) : TGs := fun vs σ H Q => ∃ v r, vs = v :: r ∧ t v σ H fun σ' H' => u r σ' H' Q
theorem pgs_nil : PGs X [] gNil := by
  intro pins s σ H vs us Q I r h
  obtain ⟨e, h⟩ := h
  subst e
  cases r
  exact assignInOrder_nil ⟨σ, H, I, h⟩
theorem pgs_cons {e : Expr} {es : List Expr} {t : TG} {u : TGs} (h1 : PG X e t) (h2 : PGs X es u)
    (hs : (assignEach (e :: es) X.env).map (·.2) = assign e X.env :: (assignEach es X.env).map (·.2) := by rfl) : PGs X (e :: es) (gCons t u) := by
  intro pins s σ H vs us Q I r h
  obtain ⟨v, vr, e1, h⟩ := h
  subst e1
  cases r with
  | cons r rr =>
    rw [hs]
    refine assignInOrder_cons (thn (h1 pins s σ H _ _ _ I r h) fun _ s1 ⟨σ1, H1, I1, q1⟩ => ?_)
    exact h2 pins s1 σ1 H1 _ _ Q I1 rr q1
/-- (a, b, ..) = a tuple of that length -/
def gTup (K : PySem.W.Frag) (n : Nat) (t : TGs) : TG := fun v σ H Q => ∃ a xs, v = .ref a ∧ SqT K H a xs ∧ xs.length = n ∧ t xs σ H Q
theorem pg_tup {es : List Expr} {k : Nat} {t : TGs} {n : Nat} (hc : X.calm = true) (h : PGs X es t)
    (hn : (assignEach es X.env).length = n := by rfl) (hst : (assignEach es X.env).findIdx? (·.1) = none := by rfl) : PG X (.Tuple es k pos) (gTup X.K n t) := by
  intro pins s σ H v u Q I r hw
  obtain ⟨a, xs, e1, hq, hl, hw⟩ := hw
  subst e1
  cases r
  obtain ⟨its, rv, ht, hz⟩ := I.tuple hq
  refine assign_Tuple_tuple (I.ok.hd hc) ht (by simp [hn, ← hl, rv.length]) hst fun h' hx => ?_
  have I1 : Inv X pins σ H { s with heap := h' } := I.kept (t' := s.toks) fun b o e => hx b o (Nat.ne_of_lt (Heap.lt_size e)) e
  exact h pins _ σ H xs _ Q I1 (by simpa using rv) hw
/-- o[i] = .. -/
def gSub (to ti : TE) (t : TSet) : TG := fun v σ H Q => to σ H fun o H1 => ti σ H1 fun i H2 => t o i v H2 fun H3 => Q σ H3
theorem pg_sub {o i : Expr} {to ti : TE} {t : TSet} (ho : PE X o to) (hi : PE X i ti) (hs : PSet X t)
    (ha : ∀ v, assign (.Subscript o i pos) X.env v = (do
      let ov ← holding [v] (eval o X.env)
      let iv ← holding [v, ov] (eval i X.env)
      standAt pos
      holding [v, ov, iv] (setItem ov iv v)
      release [v, ov, iv] []) := by intro _; rfl) : PG X (.Subscript o i pos) (gSub to ti t) := by
  intro pins s σ H v u Q I r h
  rw [ha]
  refine wpAny_bind (wpAny_holding (thn (ho pins s σ H _ I h) fun ov s1 ⟨x, H1, I1, r1, q1⟩ => ?_))
  refine wpAny_bind (wpAny_holding (thn (hi pins s1 σ H1 _ I1 q1) fun iv s2 ⟨y, H2, I2, r2, q2⟩ => ?_))
  refine wpAny_bind (wpAny_standAt (wpAny_bind (wpAny_holding (thn (hs pins s2 σ H2 x y v ov iv u _ I2 r1 r2 r q2) fun _ s3 ⟨H3, I3, q3⟩ => ?_))))
  exact wpAny_release ⟨σ, H3, I3, q3⟩
/-- target = value -/
def tAsg (te : TE) (g : TG) : TS := fun D σ H => te σ H fun x H1 => g x σ H1 D.nx
theorem ps_asg {tg e : Expr} {te : TE} {g : TG} (he : PE X e te) (hg : PG X tg g) (hs : swapsWithSole [tg] e pos.line X.env = pure false := by rfl) (hw : swappedStores [tg] e X.env = pure none := by rfl)
    (h1 : (assignEach [tg] X.env).map (·.2) = [assign tg X.env] := by rfl) : PS X (.Assign [tg] e pos) (tAsg te g) := by
  intro pins s σ H D I h
  refine wpAny_Assign_stores (thn (he pins s σ H _ I h) fun v s1 ⟨x, H1, I1, r1, q1⟩ => ?_) hs hw
  rw [h1]
  exact thn (hg pins s1 σ H1 x v _ I1 r1 q1) fun _ s2 q => q
/-- name = value -/
theorem ps_set {i : Nat} {x : Str} {e : Expr} {te : TE} {pos' : Pos} (hN : X.N.Nodup) (hi : X.N[i]? = some x) (hx : Loc X.env.scope x) (he : PE X e te) (hs : swapsWith e (some (.Name x pos')) pos.line X.env = pure false := by rfl) (hf : X.fn x = true ∨ X.env.scope.names.lookup x = some .local := by first | exact .inl rfl | exact .inr rfl | assumption) :
    PS X (.Assign [.Name x pos'] e pos) (tAsg te (gName i)) := by
  intro pins s σ H D I h
  refine wpAny_Assign_Name (thn (he pins s σ H _ I h) fun v s1 ⟨y, H1, I1, r1, q1⟩ => ?_) hs
  exact store_ok I1 hN hi hx r1 (fun s2 I2 => ⟨_, H1, I2, q1⟩) hf
/-- a, b = x, y with plain local names: stored from the right; the pair itself is not tracked (the opening rows as in PyProof/Rows/TupAssign.lean:23) -/
def tPar (i j : Nat) (ta : TA) : TS := fun D σ H => ta σ H fun vs H1 => ∃ v w, vs = [v, w] ∧ D.nx ((σ.set i (some v)).set j (some w)) H1
theorem ps_par {i j : Nat} {x y : Str} {a b : Expr} {ta : TA} {px py pt : Pos} {kt k2 pt2} (hc : X.calm = true) (hN : X.N.Nodup) (hi : X.N[i]? = some x) (hj : X.N[j]? = some y) (hij : i ≠ j)
    (hx : X.env.scope.names.lookup x = some .local) (hy : X.env.scope.names.lookup y = some .local) (ha : PA X [a, b] ta)
    (hw : swappedStores [.Tuple [.Name x px, .Name y py] kt pt] (.Tuple [a, b] k2 pt2) X.env = pure (some [x, y]))
    (hs : swapsWithSole [.Tuple [.Name x px, .Name y py] kt pt] (.Tuple [a, b] k2 pt2) pos.line X.env = pure false := by rfl) :
    PS X (.Assign [.Tuple [.Name x px, .Name y py] kt pt] (.Tuple [a, b] k2 pt2) pos) (tPar i j ta) := by
  intro pins s σ H D I h
  rw [exec_Assign_arm]
  refine wpAny_bind (wpAny_standAt ?_)
  rw [hs]
  refine wpAny_bind (wpAny_pure ?_)
  rw [if_neg (by decide)]
  refine wpAny_bind (Tuple_ (thn (ha _ pins s σ H _ I h) fun us s1 ⟨vs, H1, I1, r1, q1⟩ => ?_))
  obtain ⟨v, w, e1, q1⟩ := q1
  subst e1
  obtain ⟨u1, u2, rfl, rv, rw'⟩ : ∃ u1 u2, us = [u1, u2] ∧ RelV v u1 ∧ RelV w u2 := by
    cases r1 with
    | cons p q =>
      cases q with
      | cons p' q' =>
        cases q'
        exact ⟨_, _, rfl, p, p'⟩
  refine wpAny_newObj_type ?_ (by show 2 ≤ sizeLine; decide)
  have I2 : Inv X pins σ H1 { s1 with heap := s1.heap.push { cls := .type "tuple", data := .seq [u1, u2].toArray } } := I1.kept (t' := s1.toks) fun b o e => Heap.get?_push_of_some _ e
  rw [hw]
  refine wpAny_bind (wpAny_pure ?_)
  show wpAny (model X.prog X.w) X.A (do rule "assign.swapped-stores"; let items ← unpackItems (.ref s1.heap.objs.size) 2 none; assignInOrder [fun v => bindName X.env y v, fun v => bindName X.env x v] items.reverse; pure Flow.next) _ _ _
  refine wpAny_bind (wpAny_rule (wpAny_bind (unpackItems_tuple (items := #[u1, u2]) (I.ok.hd hc) (IsTup.new s1.heap _) fun h' hx' => ?_)))
  have I3 := I2.kept (h' := h') (t' := s1.toks) fun b o e => hx' b o (Nat.ne_of_lt (Heap.lt_size e)) e
  show wpAny _ _ (assignInOrder [fun v => bindName X.env y v, fun v => bindName X.env x v] [u2, u1] >>= fun _ => pure Flow.next) _ _ _
  refine wpAny_bind (assignInOrder_cons (wpAny_bindName (store_ok I3 hN hj (.inl hy) rw' (fun s2 I4 => ?_) (.inr hy))))
  refine assignInOrder_cons (wpAny_bindName (store_ok I4 hN hi (.inl hx) rv (fun s3 I5 => assignInOrder_nil (wpAny_pure ?_)) (.inr hx)))
  rw [List.set_comm _ _ (Ne.symm hij)] at I5
  exact ⟨_, H1, I5, q1⟩
/-- name op= e -/
def tAug (i : Nat) (te : TE) (ti : TIp) : TS := fun D σ H => ∃ x, σ[i]? = some (some x) ∧ te σ H fun y H1 => ti x y H1 fun z H2 => D.nx (σ.set i (some z)) H2
/-- o[i] op= e -/
def tAugS (to ti te : TE) (tget : V → V → Hp → VK → Prop) (tip : TIp) (tset : TSet) : TS := fun D σ H => to σ H fun o H1 => ti σ H1 fun i H2 => tget o i H2 fun x H3 => te σ H3 fun y H4 => tip x y H4 fun z H5 => tset o i z H5 fun H6 => D.nx σ H6
/-- o[i], by values -/
def PGet (X : Cx) (t : V → V → Hp → VK → Prop) : Prop :=
  ∀ (pins : List (Addr × Obj)) (s : Shared) (σ : St) (H : Hp) (o i : V) (ov iv : Value) (Q : VK), Inv X pins σ H s → RelV o ov → RelV i iv → t o i H Q →
    wpAny (model X.prog X.w) X.A (getItem ov iv) (EP X pins σ Q) X.xe s
/-- ints -/
def ipI (f : Int → Int → Int) : TIp := fun x y H Q => ∃ i j, x = .int i ∧ y = .int j ∧ Q (.int (f i j)) H
end

/-! ### while -/
section
variable {X : Cx} {pos : Pos}
/-- the invariant W with its measure -/
def tWhile (c : TT) (tb : TS) : TS := fun D σ H => ∃ W : Nat → St → Hp → Prop, (∃ m, W m σ H) ∧ ∀ m σ H, W m σ H →
  c σ H fun b H1 => if b = true then ∃ N : St → Hp → Prop, (∀ σ' H', N σ' H' → ∃ m', m' < m ∧ W m' σ' H') ∧ tb { D with nx := N, ct := N, bk := D.nx } σ H1 else D.nx σ H1
theorem ps_while {c : Expr} {body : List Stmt} {tc : TT} {tb : TS} (hp : PassesOwn (model X.prog X.w) X.A X.env X.xe) (hc : PT X c tc) (hb : PSs X body tb) : PS X (.While c body [] pos) (tWhile tc tb) := by
  intro pins s σ H D I h
  obtain ⟨W, ⟨m0, w0⟩, turn⟩ := h
  refine wpAny_While (codeAny_whileLoop (fun n s' => ∃ σ' H', Inv X pins σ' H' s' ∧ W n σ' H') ?_ m0 ⟨σ, H, I, w0⟩)
  rintro n s1 ⟨σ1, H1, I1, w1⟩
  refine wpAny_passesOwn hp (thn (hc pins s1 σ1 H1 _ I1 (turn n σ1 H1 w1)) fun b s2 ⟨H2, I2, q2⟩ => ?_)
  cases b with
  | true =>
    obtain ⟨N, hN, q2⟩ := q2
    rw [if_pos rfl]
    refine wpAny_passesOwn hp (thn (hb pins s2 σ1 H2 _ I2 q2) fun f s3 q3 => ?_)
    cases f with
    | next =>
      obtain ⟨σ3, H3, I3, n3⟩ := q3
      obtain ⟨m', hm, w3⟩ := hN σ3 H3 n3
      exact ⟨m', hm, σ3, H3, I3, w3⟩
    | cont =>
      obtain ⟨σ3, H3, I3, n3⟩ := q3
      obtain ⟨m', hm, w3⟩ := hN σ3 H3 n3
      exact ⟨m', hm, σ3, H3, I3, w3⟩
    | brk => exact q3
    | ret v => exact q3
  | false =>
    rw [if_neg Bool.false_ne_true]
    exact wpAny_execs_nil ⟨σ1, H2, I2, q2⟩
end

/-! ### what a loop or a comprehension walks -/
/-- at turn i: it yields x (the heap may grow), or it stops -/
structure It where
  go : Nat → Hp → Prop
  yld : Nat → Hp → V → Hp → Prop
  stop : Nat → Hp → Prop
/-- the iterator's own objects may turn: they are not the frame's, not pinned, younger than the entry (or a comprehension's own) -/
def FpOk (X : Cx) (pins : List (Addr × Obj)) (H : Hp) (b : Addr) : Prop :=
  H b = none ∧ b ≠ X.env.locals ∧ b ∉ X.fs ∧ (b ∈ X.ex ∨ X.s₀.heap.get? b = none) ∧ (∀ x c, X.env.cells.lookup x = some c → c ≠ b) ∧ ∀ p ∈ X.pn ++ pins, p.1 ≠ b
theorem Inv.fpOk {X : Cx} {pins : List (Addr × Obj)} {σ : St} {H H' : Hp} {s : Shared} {b : Addr} (I : Inv X pins σ H s) (hb : s.heap.objs.size ≤ b) (hn : H' b = none) : FpOk X pins H' b := by
  refine ⟨hn, Nat.ne_of_gt (Nat.lt_of_lt_of_le I.lt hb), I.nofs hb, .inr (Heap.get?_none_of_le (Nat.le_trans I.sz hb)), fun x c e z => ?_, fun p hp z => ?_⟩
  · obtain ⟨v, q⟩ := I.cell x c e
    exact absurd (Nat.lt_of_lt_of_le q.lt (by rw [z]; exact hb)) (Nat.lt_irrefl _)
  · exact absurd (Nat.lt_of_lt_of_le (Heap.lt_size (I.pin p hp).1) (by rw [z]; exact hb)) (Nat.lt_irrefl _)
structure Turn (P : Program) (w : World) (K : PySem.W.Frag) (tg : Expr) (J : It) (fp : List Addr) (it : Addr) (tn : Nat → Heap → Prop) : Prop where
  mem : it ∈ fp
  obj : ∀ i h, tn i h → ∀ b ∈ fp, ∃ o, h.get? b = some o ∧ ∀ v, o.data ≠ .cell v
  keep : ∀ i h h', tn i h → (∀ b ∈ fp, ∀ o, h.get? b = some o → h'.get? b = some o) → tn i h'
  item : ∀ (X : Cx), X.prog = P → X.w = w → X.K = K → X.calm = true → ∀ (i : Nat) (pins : List (Addr × Obj)) (s : Shared) (σ : St) (H : Hp) (E : Value → Shared → Prop), Inv X pins σ H s → (∀ b ∈ fp, FpOk X pins H b) → tn i s.heap → J.go i H →
    wpAny (model P w) X.A (pyNext (.ref it)) (fun r s1 => ∃ u, r = some u ∧
      wpAny (model P w) X.A (letOwnedTupleGo tg (.ref it) u) (fun _ s2 => ∃ x H', Inv X pins σ H' s2 ∧ RelV x u ∧ J.yld i H x H' ∧ tn (i + 1) s2.heap ∧ ∀ b ∈ fp, H' b = none) E s1) E s
  done : ∀ (X : Cx), X.prog = P → X.w = w → X.K = K → X.calm = true → ∀ (i : Nat) (pins : List (Addr × Obj)) (s : Shared) (σ : St) (H : Hp) (E : Value → Shared → Prop), Inv X pins σ H s → (∀ b ∈ fp, FpOk X pins H b) → tn i s.heap → J.stop i H →
    wpAny (model P w) X.A (pyNext (.ref it)) (fun r s1 => r = none ∧ Inv X pins σ H s1) E s
  self : ∀ (A : Around) (i : Nat) (s : Shared) (Q : Value → Shared → Prop) (E : Value → Shared → Prop), tn i s.heap → Q (.ref it) s → wpAny (model P w) A (pyIter (.ref it)) Q E s
abbrev TI := St → Hp → (It → Hp → Prop) → Prop
/-- an iterator has come -/
def PIE (X : Cx) (pins : List (Addr × Obj)) (σ : St) (tg : Expr) (R : It → Hp → Prop) (itv : Value) (s2 : Shared) : Prop :=
  ∃ (it : Addr) (fp : List Addr) (tn : Nat → Heap → Prop) (J : It) (H' : Hp), itv = .ref it ∧ Inv X pins σ H' s2 ∧ Turn X.prog X.w X.K tg J fp it tn ∧ tn 0 s2.heap ∧ (∀ b ∈ fp, FpOk X pins H' b) ∧ R J H'
def PI (X : Cx) (tg iter : Expr) (wi : TI) : Prop :=
  ∀ (pins : List (Addr × Obj)) (s : Shared) (σ : St) (H : Hp) (R : It → Hp → Prop), Inv X pins σ H s → wi σ H R →
    wpAny (model X.prog X.w) X.A (eval iter X.env) (fun v s1 => wpAny (model X.prog X.w) X.A (pyIter v) (PIE X pins σ tg R) X.xe s1) X.xe s

/-- the step ahead of the store is nothing for an iterator that keeps no tuple -/
theorem go_of {M : Model} {A : Around} {E : Value → Shared → Prop} {s : Shared} {tg : Expr} {it : Addr} {u : Value} {o : Obj} {n : String} {vs : Array Value} {Q : Unit → Shared → Prop} (ho : s.heap.get? it = some o) (hc : o.cls = .type n) (hd : o.data = .fields vs)
    (hn : ["enumerate", "zip", "dict_itemiterator", "dict_reverseitemiterator", "odict_iterator", "itertools.zip_longest", "itertools.pairwise"].contains n = false) (hQ : Q () s) : wpAny M A (letOwnedTupleGo tg (.ref it) u) Q E s := by
  unfold letOwnedTupleGo
  cases tg <;> first
    | exact wpAny_pure hQ
    | (cases u <;> first
        | exact wpAny_pure hQ
        | (refine wpAny_bind (wpAny_load ho ?_)
           rw [hc, hd]
           show wpAny M A (if (["enumerate", "zip", "dict_itemiterator", "dict_reverseitemiterator", "odict_iterator", "itertools.zip_longest", "itertools.pairwise"].contains n && vs[0]? == some (rawInt _)) = true then _ else _) Q E s
           rw [if_neg (by intro h; rw [hn, Bool.false_and] at h; cases h)]
           exact wpAny_pure hQ))

/-- the list at a, as it stands at each turn (a loop may append to it) -/
def Itl (K : PySem.W.Frag) (a : Addr) : It :=
  ⟨fun i H => ∃ xs x, SqL K H a xs ∧ xs[i]? = some x, fun i H x H' => H' = H ∧ ∀ xs, SqL K H a xs → xs[i]? = some x, fun i H => ∃ xs, SqL K H a xs ∧ xs.length ≤ i⟩
def Itt (K : PySem.W.Frag) (a : Addr) : It :=
  ⟨fun i H => ∃ xs x, SqT K H a xs ∧ xs[i]? = some x, fun i H x H' => H' = H ∧ ∀ xs, SqT K H a xs → xs[i]? = some x, fun i H => ∃ xs, SqT K H a xs ∧ xs.length ≤ i⟩
/-- lo, lo + 1, .. (n of them) -/
def Itr (lo : Int) (n : Nat) : It := ⟨fun i _ => i < n, fun i H x H' => H' = H ∧ x = .int (lo + i), fun i _ => n ≤ i⟩
theorem turn_list {P : Program} {w : World} {K : PySem.W.Frag} {tg : Expr} (a it : Addr) : Turn P w K tg (Itl K a) [it] it (fun i h => h.IsListIter it a i) where
  mem := by simp
  obj := fun i h st b hb => by
    have e : b = it := by simpa using hb
    subst e
    obtain ⟨o, e, c, d⟩ := st
    exact ⟨o, e, fun v z => by rw [d] at z; cases z⟩
  keep := fun i h h' st k => st.at fun o e => k it (by simp) o e
  item := by
    intro X hP hw hK hc i pins s σ H E I hf st hg
    subst hP hw hK
    obtain ⟨xs, x, hq, hx⟩ := hg
    obtain ⟨its, rv, p, hz⟩ := I.list hq
    obtain ⟨u, hu, ru⟩ := rv.get hx
    obtain ⟨f0, f1, f2, f3, f4, f5⟩ := hf it (by simp)
    refine wpAny_pyNext_list_item st p.isList (x := u) (by simpa using hu) fun h' st' sb => ?_
    have I1 : Inv X pins σ H { s with heap := h' } := I.turned (t' := s.toks) (fun b o hb e => (sb.2 b hb).trans e) f0 f1 f3 f4 f5
    obtain ⟨o, e, c, d⟩ := id st'
    exact ⟨u, rfl, go_of (s := { s with heap := h' }) e c d (by decide) ⟨x, H, I1, ru, ⟨rfl, fun ys hy => by rw [I.list_inj hy hq]; exact hx⟩, st', fun b hb => (hf b hb).1⟩⟩
  done := by
    intro X hP hw hK hc i pins s σ H E I hf st hg
    subst hP hw hK
    obtain ⟨xs, hq, hx⟩ := hg
    obtain ⟨its, rv, p, hz⟩ := I.list hq
    obtain ⟨f0, f1, f2, f3, f4, f5⟩ := hf it (by simp)
    have hl := rv.length
    exact wpAny_pyNext_list_end (I.ok.hd hc) st p.isList (by simp; omega) fun h' eb => ⟨rfl, I.turned (t' := s.toks) (fun b o hb e => eb b o hb e) f0 f1 f3 f4 f5⟩
  self := fun _ _ _ _ _ st h => wpAny_pyIter_listiter st h
theorem turn_tuple {P : Program} {w : World} {K : PySem.W.Frag} {tg : Expr} (a it : Addr) : Turn P w K tg (Itt K a) [it] it (fun i h => h.IsTupleIter it a i) where
  mem := by simp
  obj := fun i h st b hb => by
    have e : b = it := by simpa using hb
    subst e
    obtain ⟨o, e, c, d⟩ := st
    exact ⟨o, e, fun v z => by rw [d] at z; cases z⟩
  keep := fun i h h' st k => st.at fun o e => k it (by simp) o e
  item := by
    intro X hP hw hK hc i pins s σ H E I hf st hg
    subst hP hw hK
    obtain ⟨xs, x, hq, hx⟩ := hg
    obtain ⟨its, rv, p, hz⟩ := I.tuple hq
    obtain ⟨u, hu, ru⟩ := rv.get hx
    obtain ⟨f0, f1, f2, f3, f4, f5⟩ := hf it (by simp)
    refine wpAny_pyNext_tuple_item st (show s.heap.IsTuple a its.toArray from p) (x := u) (by simpa using hu) fun h' st' sb => ?_
    have I1 : Inv X pins σ H { s with heap := h' } := I.turned (t' := s.toks) (fun b o hb e => (sb.2 b hb).trans e) f0 f1 f3 f4 f5
    obtain ⟨o, e, c, d⟩ := id st'
    exact ⟨u, rfl, go_of (s := { s with heap := h' }) e c d (by decide) ⟨x, H, I1, ru, ⟨rfl, fun ys hy => by rw [I.tuple_inj hy hq]; exact hx⟩, st', fun b hb => (hf b hb).1⟩⟩
  done := by
    intro X hP hw hK hc i pins s σ H E I hf st hg
    subst hP hw hK
    obtain ⟨xs, hq, hx⟩ := hg
    obtain ⟨its, rv, p, hz⟩ := I.tuple hq
    obtain ⟨f0, f1, f2, f3, f4, f5⟩ := hf it (by simp)
    have hl := rv.length
    exact wpAny_pyNext_tuple_end (I.ok.hd hc) st (show s.heap.IsTuple a its.toArray from p) (by simp; omega) fun h' eb => ⟨rfl, I.turned (t' := s.toks) (fun b o hb e => eb b o hb e) f0 f1 f3 f4 f5⟩
  self := fun _ _ _ _ _ st h => wpAny_pyIter_tupleiter st h
theorem turn_range {P : Program} {w : World} {K : PySem.W.Frag} {tg : Expr} (it : Addr) (lo : Int) (n : Nat) : Turn P w K tg (Itr lo n) [it] it (fun i h => IsRangeIter h it (lo + (i : Nat) * 1) ((n : Int) - (i : Nat)) 1) where
  mem := by simp
  obj := fun i h st b hb => by
    have e : b = it := by simpa using hb
    subst e
    exact ⟨_, st, fun v z => by
      have z' : Data.fields _ = Data.cell v := z
      cases z'⟩
  keep := fun i h h' st k => k it (by simp) _ st
  item := by
    intro X hP hw hK hc i pins s σ H E I hf st hg
    subst hP hw hK
    obtain ⟨f0, f1, f2, f3, f4, f5⟩ := hf it (by simp)
    have W := Walks.range (prog := X.prog) (w := X.w) (I.ok.hd hc) it lo 1 n
    refine W.item i s _ _ hg st fun v h' tk hv st' kk => ?_
    obtain ⟨t, rfl⟩ := hv
    have I1 : Inv X pins σ H { s with heap := h', toks := tk } := I.turned (fun b o hb e => kk b o (by simpa using hb) e) f0 f1 f3 f4 f5
    refine ⟨_, rfl, go_of (s := { s with heap := h', toks := tk }) (n := "range_iterator") st' rfl rfl (by decide) ⟨.int (lo + i), H, I1, ⟨t, ?_⟩, ⟨rfl, rfl⟩, st', fun b hb => (hf b hb).1⟩⟩
    rw [Int.mul_one]
  done := by
    intro X hP hw hK hc i pins s σ H E I hf st hg
    subst hP hw hK
    obtain ⟨f0, f1, f2, f3, f4, f5⟩ := hf it (by simp)
    exact wpAny_pyNext_range_end (I.ok.hd hc) st (by have : n ≤ i := hg; omega) fun h' eb => ⟨rfl, I.turned (t' := s.toks) (fun b o hb e => eb b o hb e) f0 f1 f3 f4 f5⟩
  self := fun _ _ _ _ _ st h => wpAny_pyIter_rangeiter st h
end L2

namespace L2
open PySem PySem.Spec PyProof.Rows
section
variable {X : Cx} {tg : Expr}
def iList (K : PySem.W.Frag) (tl : TE) : TI := fun σ H R => tl σ H fun x H1 => ∃ a, x = .ref a ∧ (∃ xs, SqL K H1 a xs) ∧ R (Itl K a) H1
def iTup (K : PySem.W.Frag) (tl : TE) : TI := fun σ H R => tl σ H fun x H1 => ∃ a, x = .ref a ∧ (∃ xs, SqT K H1 a xs) ∧ R (Itt K a) H1
theorem pi_list {l : Expr} {tl : TE} (hl : PE X l tl) : PI X tg l (iList X.K tl) := by
  intro pins s σ H R I h
  refine thn (hl pins s σ H _ I h) fun v s1 ⟨x, H1, I1, r1, q1⟩ => ?_
  obtain ⟨a, e, ⟨xs, hq⟩, q⟩ := q1
  subst e
  cases r1
  obtain ⟨its, rv, p, hz⟩ := I1.list hq
  refine wpAny_pyIter_list p.isList ?_
  refine ⟨s1.heap.objs.size, [s1.heap.objs.size], _, _, H1, rfl, I1.kept (t' := s1.toks) fun b o e => Heap.get?_push_of_some _ e, turn_list a _, ⟨_, Heap.get?_push_size _ rfl, rfl, rfl⟩, fun b hb => ?_, q⟩
  have e : b = s1.heap.objs.size := by simpa using hb
  subst e
  exact I1.fpOk (Nat.le_refl _) (I1.hok.fresh (Nat.le_refl _))
theorem pi_tup {l : Expr} {tl : TE} (hl : PE X l tl) : PI X tg l (iTup X.K tl) := by
  intro pins s σ H R I h
  refine thn (hl pins s σ H _ I h) fun v s1 ⟨x, H1, I1, r1, q1⟩ => ?_
  obtain ⟨a, e, ⟨xs, hq⟩, q⟩ := q1
  subst e
  cases r1
  obtain ⟨its, rv, p, hz⟩ := I1.tuple hq
  refine wpAny_pyIter_tuple (show s1.heap.IsTuple a its.toArray from p) ?_
  refine ⟨s1.heap.objs.size, [s1.heap.objs.size], _, _, H1, rfl, I1.kept (t' := s1.toks) fun b o e => Heap.get?_push_of_some _ e, turn_tuple a _, ⟨_, Heap.get?_push_size _ rfl, rfl, rfl⟩, fun b hb => ?_, q⟩
  have e : b = s1.heap.objs.size := by simpa using hb
  subst e
  exact I1.fpOk (Nat.le_refl _) (I1.hok.fresh (Nat.le_refl _))
/-- a range object just made, walked -/
theorem range_it {pins : List (Addr × Obj)} {σ : St} {H : Hp} {s : Shared} {R : It → Hp → Prop} {E : Value → Shared → Prop} {lo hi : Int} {t u v : Tok} {tk : Nat} (I : Inv X pins σ H s) (h1 : -(2 ^ 62) ≤ lo) (h2 : lo < 2 ^ 62) (h3 : -(2 ^ 62) ≤ hi) (h4 : hi < 2 ^ 62)
    (q : R (Itr lo (hi - lo).toNat) H) : wpAny (model X.prog X.w) X.A (pyIter (.ref s.heap.objs.size)) (PIE X pins σ tg R) E { s with heap := s.heap.push { cls := .type "range", data := .fields #[.int lo t, .int hi u, .int 1 v] }, toks := tk } := by
  refine wpAny_pyIter_range (IsRange.new ..) (small_one h1 h2 h3 h4) ?_
  have I1 : Inv X pins σ H { s with heap := s.heap.push { cls := .type "range", data := .fields #[.int lo t, .int hi u, .int 1 v] }, toks := tk } := I.kept fun b o e => Heap.get?_push_of_some _ e
  refine ⟨(s.heap.push { cls := .type "range", data := .fields #[.int lo t, .int hi u, .int 1 v] }).objs.size, [(s.heap.push { cls := .type "range", data := .fields #[.int lo t, .int hi u, .int 1 v] }).objs.size], _, _, H, rfl,
    I1.kept (t' := tk) fun b o e => Heap.get?_push_of_some _ e, turn_range _ lo (hi - lo).toNat, ?_, fun b hb => ?_, q⟩
  · have e1 : lo + ((0 : Nat) : Int) * 1 = lo := by simp
    have e2 : (((hi - lo).toNat : Nat) : Int) - ((0 : Nat) : Int) = Builtin.Range.rangeSize lo hi 1 := by rw [rangeSize_one]; split <;> omega
    show IsRangeIter _ _ (lo + ((0 : Nat) : Int) * 1) ((((hi - lo).toNat : Nat) : Int) - ((0 : Nat) : Int)) 1
    rw [e1, e2]
    exact Heap.get?_push_size _ rfl
  · have e : b = (s.heap.push { cls := .type "range", data := .fields #[.int lo t, .int hi u, .int 1 v] }).objs.size := by simpa using hb
    subst e
    exact I1.fpOk (Nat.le_refl _) (I1.hok.fresh (Nat.le_refl _))
def iRng1 (ta : TA) : TI := fun σ H R => ta σ H fun vs H1 => ∃ j : Int, vs = [.int j] ∧ -(2 ^ 62) ≤ j ∧ j < 2 ^ 62 ∧ R (Itr 0 j.toNat) H1
def iRng2 (ta : TA) : TI := fun σ H R => ta σ H fun vs H1 => ∃ i j : Int, vs = [.int i, .int j] ∧ (-(2 ^ 62) ≤ i ∧ i < 2 ^ 62 ∧ -(2 ^ 62) ≤ j ∧ j < 2 ^ 62) ∧ R (Itr i (j - i).toNat) H1
theorem pi_range1 {a : Expr} {ta : TA} {p pos : Pos} (hg : Gl X "range") (hm : X.mg "range" = none) (ha : PA X [a] ta) (hs : starEach [a] X.env = [(false, eval a X.env)] := by rfl) : PI X tg (.Call (.Name "range" p) [a] [] pos) (iRng1 ta) := by
  intro pins s σ H R I h
  refine Call_ (ld_blt I hg hm boot_range (PyProof.Rows.callWith_type1 (thn (ha pos pins s σ H _ I h) fun us s1 ⟨vs, H1, I1, r1, q1⟩ => ?_) hs rfl))
  obtain ⟨j, e, q1, q2, q⟩ := q1
  subst e
  cases r1 with
  | cons r rr =>
    cases rr
    obtain ⟨t, rfl⟩ := r
    exact call_range_1 (range_it I1 (by omega) (by omega) q1 q2 (by simpa using q))

/-! ### for -/
/-- W: the invariant by the turn and a measure; N: what the body is to reach -/
def tFor (wi : TI) (g : TG) (tb : TS) : TS := fun D σ H => wi σ H fun J H1 => ∃ W : Nat → Nat → St → Hp → Prop, (∃ m, W 0 m σ H1) ∧ ∀ i m σ H, W i m σ H →
  (J.stop i H ∧ D.nx σ H) ∨ (J.go i H ∧ ∃ N : St → Hp → Prop, (∀ σ' H', N σ' H' → ∃ m', m' < m ∧ W (i + 1) m' σ' H') ∧ ∀ x H', J.yld i H x H' → g x σ H' fun σ2 H2 => tb { D with nx := N, ct := N, bk := D.nx } σ2 H2)
/-- the records at fp as they stand -/
def pinsAt (fp : List Addr) (h : Heap) : List (Addr × Obj) := fp.filterMap fun b => (h.get? b).map fun o => (b, o)
theorem mem_pinsAt {fp : List Addr} {h : Heap} {b : Addr} {o : Obj} (hb : b ∈ fp) (e : h.get? b = some o) : (b, o) ∈ pinsAt fp h := List.mem_filterMap.mpr ⟨b, hb, by rw [e]; rfl⟩
theorem of_pinsAt {fp : List Addr} {h : Heap} {p : Addr × Obj} (hp : p ∈ pinsAt fp h) : p.1 ∈ fp ∧ h.get? p.1 = some p.2 := by
  obtain ⟨b, hb, e⟩ := List.mem_filterMap.mp hp
  cases q : h.get? b with
  | none => rw [q] at e; cases e
  | some o =>
    rw [q] at e
    have e' : (b, o) = p := Option.some.inj e
    subst e'
    exact ⟨hb, q⟩
theorem Inv.pinned {pins : List (Addr × Obj)} {σ : St} {H : Hp} {s : Shared} {fp : List Addr} (I : Inv X pins σ H s) (hf : ∀ b ∈ fp, FpOk X pins H b) (ho : ∀ b ∈ fp, ∃ o, s.heap.get? b = some o ∧ ∀ v, o.data ≠ .cell v) : Inv X (pins ++ pinsAt fp s.heap) σ H s :=
  I.pins_of fun p hp => (List.mem_append.mp hp).elim (fun z => I.pin p (List.mem_append_right _ z)) fun z => by
    obtain ⟨hb, e⟩ := of_pinsAt z
    obtain ⟨f0, f1, f2, _⟩ := hf p.1 hb
    obtain ⟨o, e', d⟩ := ho p.1 hb
    rw [e] at e'; cases e'
    exact ⟨e, f0, f1, f2, d⟩
theorem Inv.unpinned {pins pl : List (Addr × Obj)} {σ : St} {H : Hp} {s : Shared} (I : Inv X (pins ++ pl) σ H s) : Inv X pins σ H s := I.pins_of fun p hp => I.pin p (List.mem_append_right _ (List.mem_append_left _ hp))
theorem ps_for {iter : Expr} {body : List Stmt} {wi : TI} {g : TG} {tb : TS} {pos : Pos} (hp : PassesOwn (model X.prog X.w) X.A X.env X.xe) (hc : X.calm = true) (hi : PI X tg iter wi) (hg : PG X tg g) (hb : PSs X body tb)
    (hs : ∀ x, foldedSetIterable iter X.env x = pure x := by intro _; rfl) : PS X (.For tg iter body [] pos) (tFor wi g tb) := by
  intro pins s σ H D I h
  refine wpAny_For (thn (hi pins s σ H _ I h) fun v s1 h1 => thn h1 fun itv s2 h2 => ?_) hs
  obtain ⟨it, fp, tn, J, H2, e, I2, T, st2, f2, W, ⟨m0, w0⟩, turn⟩ := h2
  subst e
  -- what stays true of the iterator's objects through the loop
  have stat : ∀ {H' : Hp}, (∀ b ∈ fp, H' b = none) → ∀ b ∈ fp, FpOk X pins H' b := fun hn b hb => ⟨hn b hb, (f2 b hb).2⟩
  refine codeAny_forLoop_any (fun n s' => ∃ i σ' H', Inv X pins σ' H' s' ∧ tn i s'.heap ∧ (∀ b ∈ fp, H' b = none) ∧ W i n σ' H') ?_ m0 ⟨0, σ, H2, I2, st2, fun b hb => (f2 b hb).1, w0⟩
  rintro n s3 ⟨i, σ3, H3, I3, st3, fr3, w3⟩
  rcases turn i n σ3 H3 w3 with ⟨stop, qn⟩ | ⟨go, N, hN, step⟩
  · refine wpAny_passesOwn hp (thn (T.done X rfl rfl rfl hc i pins s3 σ3 H3 X.xe I3 (stat fr3) st3 stop) fun r s4 ⟨hr, I4⟩ => ?_)
    subst hr
    exact wpAny_execs_nil ⟨σ3, H3, I4, qn⟩
  · refine wpAny_passesOwn hp (thn (T.item X rfl rfl rfl hc i pins s3 σ3 H3 X.xe I3 (stat fr3) st3 go) fun r s4 ⟨u, hr, h4⟩ => ?_)
    subst hr
    refine wpAny_passesOwn hp (thn h4 fun _ s5 ⟨x, H5, I5, r5, y5, st5, fr5⟩ => ?_)
    have I5' := I5.pinned (stat fr5) (T.obj _ _ st5)
    refine wpAny_passesOwn hp (thn (hg _ s5 σ3 H5 x u _ I5' r5 (step x H5 y5)) fun _ s6 ⟨σ6, H6, I6, q6⟩ => ?_)
    refine wpAny_passesOwn hp (thn (hb _ s6 σ6 H6 _ I6 q6) fun f s7 q7 => ?_)
    have again : ∀ {σ7 : St} {H7 : Hp}, Inv X (pins ++ pinsAt fp s5.heap) σ7 H7 s7 → N σ7 H7 → ∃ m, m < n ∧ ∃ i σ' H', Inv X pins σ' H' s7 ∧ tn i s7.heap ∧ (∀ b ∈ fp, H' b = none) ∧ W i m σ' H' := fun {σ7 H7} I7 n7 => by
      obtain ⟨m', hm, w7⟩ := hN σ7 H7 n7
      refine ⟨m', hm, i + 1, σ7, H7, I7.unpinned, T.keep _ _ _ st5 fun b hb o e => (I7.pin (b, o) (List.mem_append_right _ (List.mem_append_right _ (mem_pinsAt hb e)))).1, fun b hb => ?_, w7⟩
      obtain ⟨o, e, d⟩ := T.obj _ _ st5 b hb
      exact (I7.pin (b, o) (List.mem_append_right _ (List.mem_append_right _ (mem_pinsAt hb e)))).2.1
    cases f with
    | next => obtain ⟨σ7, H7, I7, n7⟩ := q7; exact again I7 n7
    | cont => obtain ⟨σ7, H7, I7, n7⟩ := q7; exact again I7 n7
    | brk => obtain ⟨σ7, H7, I7, q7⟩ := q7; exact ⟨σ7, H7, I7.unpinned, q7⟩
    | ret v => obtain ⟨x7, σ7, H7, I7, r7, q7⟩ := q7; exact ⟨x7, σ7, H7, I7.unpinned, r7, q7⟩
end

/-! ### the forms one uses -/
/-- over a list that the body leaves as it is -/
theorem for_list {K : PySem.W.Frag} {a : Addr} {xs : List V} {g : TG} {tb : TS} {D : Ends} {σ : St} {H : Hp} (Pv : Nat → St → Hp → Prop) (h0 : Pv 0 σ H) (hl : ∀ i σ H, i ≤ xs.length → Pv i σ H → SqL K H a xs)
    (hs : ∀ i x σ H, xs[i]? = some x → Pv i σ H → g x σ H fun σ2 H2 => tb { D with nx := Pv (i + 1), ct := Pv (i + 1), bk := D.nx } σ2 H2) (hd : ∀ σ H, Pv xs.length σ H → D.nx σ H) :
    ∃ W : Nat → Nat → St → Hp → Prop, (∃ m, W 0 m σ H) ∧ ∀ i m σ H, W i m σ H →
      ((Itl K a).stop i H ∧ D.nx σ H) ∨ ((Itl K a).go i H ∧ ∃ N : St → Hp → Prop, (∀ σ' H', N σ' H' → ∃ m', m' < m ∧ W (i + 1) m' σ' H') ∧ ∀ x H', (Itl K a).yld i H x H' → g x σ H' fun σ2 H2 => tb { D with nx := N, ct := N, bk := D.nx } σ2 H2) := by
  refine ⟨fun i m σ H => m = xs.length - i ∧ i ≤ xs.length ∧ Pv i σ H, ⟨xs.length, by simp, Nat.zero_le _, h0⟩, ?_⟩
  rintro i m σ H ⟨rfl, hi, p⟩
  have q := hl i σ H hi p
  by_cases hlt : i < xs.length
  · refine .inr ⟨⟨xs, xs[i], q, by simp [hlt]⟩, Pv (i + 1), fun σ' H' p' => ⟨xs.length - (i + 1), by omega, rfl, hlt, p'⟩, fun x H' y => ?_⟩
    obtain ⟨e, y⟩ := y
    subst e
    exact hs i x σ _ (y xs q) p
  · have e : i = xs.length := by omega
    subst e
    exact .inl ⟨⟨xs, q, Nat.le_refl _⟩, hd σ H p⟩
theorem for_range {lo : Int} {n : Nat} {g : TG} {tb : TS} {D : Ends} {σ : St} {H : Hp} (Pv : Nat → St → Hp → Prop) (h0 : Pv 0 σ H)
    (hs : ∀ i σ H, i < n → Pv i σ H → g (.int (lo + i)) σ H fun σ2 H2 => tb { D with nx := Pv (i + 1), ct := Pv (i + 1), bk := D.nx } σ2 H2) (hd : ∀ σ H, Pv n σ H → D.nx σ H) :
    ∃ W : Nat → Nat → St → Hp → Prop, (∃ m, W 0 m σ H) ∧ ∀ i m σ H, W i m σ H →
      ((Itr lo n).stop i H ∧ D.nx σ H) ∨ ((Itr lo n).go i H ∧ ∃ N : St → Hp → Prop, (∀ σ' H', N σ' H' → ∃ m', m' < m ∧ W (i + 1) m' σ' H') ∧ ∀ x H', (Itr lo n).yld i H x H' → g x σ H' fun σ2 H2 => tb { D with nx := N, ct := N, bk := D.nx } σ2 H2) := by
  refine ⟨fun i m σ H => m = n - i ∧ i ≤ n ∧ Pv i σ H, ⟨n, by simp, Nat.zero_le _, h0⟩, ?_⟩
  rintro i m σ H ⟨rfl, hi, p⟩
  by_cases hlt : i < n
  · refine .inr ⟨hlt, Pv (i + 1), fun σ' H' p' => ⟨n - (i + 1), by omega, rfl, hlt, p'⟩, fun x H' y => ?_⟩
    obtain ⟨e, y⟩ := y
    subst e y
    exact hs i σ _ hlt p
  · have e : i = n := by omega
    subst e
    exact .inl ⟨Nat.le_refl _, hd σ H p⟩
end L2

namespace L2
open PySem PySem.Spec PyProof.Rows

abbrev R2 := V → V → Hp → VK → Prop
/-- a two-place operation on values: f is binaryOp op, inplaceOp op or compareOp op -/
def OpR (X : Cx) (f : Value → Value → Sem Value) (r : R2) : Prop :=
  ∀ (pins : List (Addr × Obj)) (s : Shared) (σ : St) (H : Hp) (x y : V) (v u : Value) (Q : VK), Inv X pins σ H s → RelV x v → RelV y u → r x y H Q →
    wpAny (model X.prog X.w) X.A (f v u) (EP X pins σ Q) X.xe s
/-- a one-place operation -/
def UnR (X : Cx) (f : Value → Sem Value) (r : V → Hp → VK → Prop) : Prop :=
  ∀ (pins : List (Addr × Obj)) (s : Shared) (σ : St) (H : Hp) (x : V) (v : Value) (Q : VK), Inv X pins σ H s → RelV x v → r x H Q →
    wpAny (model X.prog X.w) X.A (f v) (EP X pins σ Q) X.xe s
/-- a call of a value that is known (a builtin, a type) with values -/
def CallR (X : Cx) (f : Value) (r : List V → Hp → VK → Prop) : Prop :=
  ∀ (pins : List (Addr × Obj)) (s : Shared) (σ : St) (H : Hp) (xs : List V) (us : List Value) (Q : VK), Inv X pins σ H s → Vals xs us → r xs H Q →
    wpAny (model X.prog X.w) X.A (call f us) (EP X pins σ Q) X.xe s
/-- a value's truth -/
def TruR (X : Cx) (r : V → Hp → (Bool → Hp → Prop) → Prop) : Prop :=
  ∀ (pins : List (Addr × Obj)) (s : Shared) (σ : St) (H : Hp) (x : V) (v : Value) (Q : Bool → Hp → Prop), Inv X pins σ H s → RelV x v → r x H Q →
    wpAny (model X.prog X.w) X.A (truthy v) (TP X pins σ Q) X.xe s

def tOp (r : R2) (ta tb : TE) : TE := fun σ H Q => ta σ H fun x H1 => tb σ H1 fun y H2 => r x y H2 Q
def tUn (r : V → Hp → VK → Prop) (ta : TE) : TE := fun σ H Q => ta σ H fun x H1 => r x H1 Q
/-- ints in, under C, and a value out -/
def rI (C : Int → Int → Prop) (g : Int → Int → V) : R2 := fun x y H Q => ∃ i j, x = .int i ∧ y = .int j ∧ C i j ∧ Q (g i j) H
def rI0 (g : Int → Int → V) : R2 := fun x y H Q => ∃ i j, x = .int i ∧ y = .int j ∧ Q (g i j) H
def rU (g : Int → V) : V → Hp → VK → Prop := fun x H Q => ∃ i, x = .int i ∧ Q (g i) H

section
variable {X : Cx} {a b c : Expr} {ta tb tc : TE} {pos : Pos}

theorem binT (ha : PE X a ta) (hb : PE X b tb) {pins : List (Addr × Obj)} {s : Shared} {σ : St} {H : Hp} {R : V → V → Hp → Prop} (I : Inv X pins σ H s)
    (h : ta σ H fun x H1 => tb σ H1 fun y H2 => R x y H2) {Q : Value → Shared → Prop} {f : Value → Value → Sem Value}
    (hf : ∀ v u s2 x y H2, Inv X pins σ H2 s2 → RelV x v → RelV y u → R x y H2 → wpAny (model X.prog X.w) X.A (f v u) Q X.xe s2) :
    wpAny (model X.prog X.w) X.A (eval a X.env) (fun v s₁ => wpAny (model X.prog X.w) X.A (eval b X.env) (fun u s₂ => wpAny (model X.prog X.w) X.A (f v u) Q X.xe s₂) X.xe s₁) X.xe s := by
  refine thn (ha pins s σ H _ I h) fun v s1 ⟨x, H1, I1, r1, q1⟩ => ?_
  refine thn (hb pins s1 σ H1 _ I1 q1) fun u s2 ⟨y, H2, I2, r2, q2⟩ => ?_
  exact hf v u s2 x y H2 I2 r1 r2 q2

theorem pe_op {op : Operator} {r : R2} (ho : OpR X (binaryOp op) r) (ha : PE X a ta) (hb : PE X b tb) : PE X (.BinOp a op b pos) (tOp r ta tb) := by
  intro pins s σ H Q I h
  exact wpAny_BinOp (binT ha hb I h fun v u s2 x y H2 I2 rx ry q => ho pins s2 σ H2 x y v u Q I2 rx ry q)
theorem pe_un {op : UnaryOp} {r : V → Hp → VK → Prop} (ho : UnR X (unaryOp op) r) (ha : PE X a ta) : PE X (.UnaryOp op a pos) (tUn r ta) := by
  intro pins s σ H Q I h
  exact UnaryOp_ (thn (ha pins s σ H _ I h) fun v s1 ⟨x, H1, I1, r1, q1⟩ => ho pins s1 σ H1 x v Q I1 r1 q1)

/-! ### ints -/
theorem opI {f : Value → Value → Sem Value} {C : Int → Int → Prop} {g : Int → Int → Int}
    (rule : ∀ (i j : Int) (t u : Tok) (s : Shared) (Q : Value → Shared → Prop) (E : Value → Shared → Prop), C i j → Q (.int (g i j) s.toks) { s with toks := s.toks + 1 } → wpAny (model X.prog X.w) X.A (f (.int i t) (.int j u)) Q E s) :
    OpR X f (rI C fun i j => .int (g i j)) := by
  intro pins s σ H x y v u Q I rx ry h
  obtain ⟨i, j, rfl, rfl, hc, q⟩ := h
  obtain ⟨t, rfl⟩ := rx
  obtain ⟨t', rfl⟩ := ry
  exact rule i j t t' s _ _ hc ⟨.int (g i j), H, I.tok _, ⟨_, rfl⟩, q⟩
theorem opI0 {f : Value → Value → Sem Value} {g : Int → Int → Int}
    (rule : ∀ (i j : Int) (t u : Tok) (s : Shared) (Q : Value → Shared → Prop) (E : Value → Shared → Prop), Q (.int (g i j) s.toks) { s with toks := s.toks + 1 } → wpAny (model X.prog X.w) X.A (f (.int i t) (.int j u)) Q E s) :
    OpR X f (rI0 fun i j => .int (g i j)) := by
  intro pins s σ H x y v u Q I rx ry h
  obtain ⟨i, j, rfl, rfl, q⟩ := h
  obtain ⟨t, rfl⟩ := rx
  obtain ⟨t', rfl⟩ := ry
  exact rule i j t t' s _ _ ⟨.int (g i j), H, I.tok _, ⟨_, rfl⟩, q⟩
theorem opB0 {f : Value → Value → Sem Value} {g : Int → Int → Bool}
    (rule : ∀ (i j : Int) (t u : Tok) (s : Shared) (Q : Value → Shared → Prop) (E : Value → Shared → Prop), Q (.bool (g i j)) s → wpAny (model X.prog X.w) X.A (f (.int i t) (.int j u)) Q E s) :
    OpR X f (rI0 fun i j => .bl (g i j)) := by
  intro pins s σ H x y v u Q I rx ry h
  obtain ⟨i, j, rfl, rfl, q⟩ := h
  obtain ⟨t, rfl⟩ := rx
  obtain ⟨t', rfl⟩ := ry
  exact rule i j t t' s _ _ ⟨.bl (g i j), H, I, rfl, q⟩

def CDiv (i j : Int) : Prop := 0 < j ∧ j < 1073741824
def CDivN (i j : Int) : Prop := j ≠ 0 ∧ j.natAbs < 1073741824
def CPow (i j : Int) : Prop := 0 ≤ j ∧ j ≤ 1000000 ∧ i.natAbs < 2 ^ 64
def CMul (i j : Int) : Prop := (-(2 ^ 64) < i ∧ i < 2 ^ 64) ∨ (-(2 ^ 64) < j ∧ j < 2 ^ 64)
theorem CMul.ok {i j : Int} (h : CMul i j) : IntMulOk i j := by
  rcases h with ⟨h1, h2⟩ | ⟨h1, h2⟩
  · exact .of_left (intBits_le_64 h1 h2)
  · exact .of_right (intBits_le_64 h1 h2)

theorem op_add : OpR X (binaryOp .Add) (rI0 fun i j => .int (i + j)) := opI0 fun _ _ _ _ _ _ _ q => add_int q
theorem op_sub : OpR X (binaryOp .Sub) (rI0 fun i j => .int (i - j)) := opI0 fun _ _ _ _ _ _ _ q => sub_int q
theorem op_mul : OpR X (binaryOp .Mult) (rI CMul fun i j => .int (i * j)) := opI fun _ _ _ _ _ _ _ hc q => mul_int q hc.ok
/-- // by a positive divisor -/
theorem op_fdiv : OpR X (binaryOp .FloorDiv) (rI CDiv fun i j => .int (i / j)) := opI fun i j _ _ _ _ _ hc q => by
  have h1 : (0 : Int) < j := hc.1
  have h2 : j < 1073741824 := hc.2
  exact floordiv_int (by omega) (by rw [Int.fdiv_eq_ediv_of_nonneg i (by omega)]; exact q) (.inl (PyProof.noPylong_small (by omega)))
/-- % by a positive divisor of any size -/
theorem op_mod : OpR X (binaryOp .Mod) (rI (fun _ j => 0 < j) fun i j => .int (i % j)) := opI fun i j _ _ _ _ _ hc q => by
  have h1 : (0 : Int) < j := hc
  exact mod_int' (by omega) (by rw [Int.fmod_eq_emod_of_nonneg i (by omega)]; exact q)
theorem op_pow : OpR X (binaryOp .Pow) (rI CPow fun i j => .int (i ^ j.toNat)) := opI fun _ _ _ _ _ _ _ hc q => pow_int_small hc.1 hc.2.1 hc.2.2 q


theorem unI {f : Value → Sem Value} {g : Int → Int}
    (rule : ∀ (i : Int) (t : Tok) (s : Shared) (Q : Value → Shared → Prop) (E : Value → Shared → Prop), Q (.int (g i) s.toks) { s with toks := s.toks + 1 } → wpAny (model X.prog X.w) X.A (f (.int i t)) Q E s) :
    UnR X f (rU fun i => .int (g i)) := by
  intro pins s σ H x v Q I rx h
  obtain ⟨i, rfl, q⟩ := h
  obtain ⟨t, rfl⟩ := rx
  exact rule i t s _ _ ⟨.int (g i), H, I.tok _, ⟨_, rfl⟩, q⟩
theorem un_neg : UnR X (unaryOp .USub) (rU fun i => .int (-i)) := unI fun _ _ _ _ _ q => neg_int q

/-! ### bools among ints: n += (a < b) -/
end

/-! ### comparisons -/
/-- the scalars that == tells apart as data does -/
def scal : V → V → Bool
  | .non, .non => true | .non, .int _ => true | .int _, .non => true | .non, .bl _ => true | .bl _, .non => true | .non, .str _ => true | .str _, .non => true
  | .int _, .int _ => true | .bl _, .bl _ => true | .str _, .str _ => true | .byt _, .byt _ => true
  | .int _, .str _ => true | .str _, .int _ => true | .bl _, .str _ => true | .str _, .bl _ => true
  | _, _ => false
def rEq : R2 := fun x y H Q => scal x y = true ∧ Q (.bl (decide (x = y))) H
def rNe : R2 := fun x y H Q => scal x y = true ∧ Q (.bl (!decide (x = y))) H

theorem dec_int {i j : Int} : decide (V.int i = V.int j) = (i == j) := by
  rw [Bool.eq_iff_iff]
  simp
theorem dec_bl {i j : Bool} : decide (V.bl i = V.bl j) = (i == j) := by
  rw [Bool.eq_iff_iff]
  simp
theorem dec_str {i j : Str} : decide (V.str i = V.str j) = (i == j) := by
  rw [Bool.eq_iff_iff]
  simp
theorem dec_byt {i j : Array UInt8} : decide (V.byt i = V.byt j) = (i.toList == j.toList) := by
  rw [Bool.eq_iff_iff]
  cases i
  cases j
  simp

section
variable {X : Cx} {a b c : Expr} {ta tb tc : TE} {pos : Pos}
theorem fin_bl {pins : List (Addr × Obj)} {σ : St} {H : Hp} {s : Shared} {Q : VK} {k k' : Bool} (I : Inv X pins σ H s) (q : Q (.bl k) H) (e : k = k') : EP X pins σ Q (.bool k') s := by
  subst e
  exact ⟨.bl k, H, I, rfl, q⟩
theorem op_eq : OpR X (compareOp .Eq) rEq := by
  intro pins s σ H x y v u Q I rx ry h
  obtain ⟨hs, q⟩ := h
  cases x with
  | non =>
    cases rx
    cases y with
    | non => cases ry; exact PySem.EqNone.eq_none_none (fin_bl I q (by simp))
    | bl j => cases ry; exact PySem.EqNone.eq_none_bool (fin_bl I q (by simp))
    | int j => obtain ⟨t', rfl⟩ := ry; exact PySem.EqNone.eq_none_int (fin_bl I q (by simp))
    | str j => obtain ⟨t', rfl⟩ := ry; exact PySem.EqNone.eq_none_str (fin_bl I q (by simp))
    | _ => exact absurd (show false = true from hs) Bool.false_ne_true
  | bl i =>
    cases rx
    cases y with
    | non => cases ry; exact PySem.EqNone.eq_bool_none (fin_bl I q (by simp))
    | bl j => cases ry; exact eq_bool (fin_bl I q dec_bl)
    | str j => obtain ⟨t', rfl⟩ := ry; exact PySem.EqMixed.eq_bool_str (fin_bl I q (by simp))
    | _ => exact absurd (show false = true from hs) Bool.false_ne_true
  | int i =>
    obtain ⟨t, rfl⟩ := rx
    cases y with
    | non => cases ry; exact PySem.EqNone.eq_int_none (fin_bl I q (by simp))
    | int j => obtain ⟨t', rfl⟩ := ry; exact eq_int (fin_bl I q dec_int)
    | str j => obtain ⟨t', rfl⟩ := ry; exact PySem.EqMixed.eq_int_str (fin_bl I q (by simp))
    | _ => exact absurd (show false = true from hs) Bool.false_ne_true
  | str i =>
    obtain ⟨t, rfl⟩ := rx
    cases y with
    | non => cases ry; exact PySem.EqNone.eq_str_none (fin_bl I q (by simp))
    | bl j => cases ry; exact PySem.EqMixed.eq_str_bool (fin_bl I q (by simp))
    | int j => obtain ⟨t', rfl⟩ := ry; exact PySem.EqMixed.eq_str_int (fin_bl I q (by simp))
    | str j => obtain ⟨t', rfl⟩ := ry; exact eq_str (fin_bl I q dec_str)
    | _ => exact absurd (show false = true from hs) Bool.false_ne_true
  | byt i =>
    obtain ⟨t, rfl⟩ := rx
    cases y with
    | byt j => obtain ⟨t', rfl⟩ := ry; exact PySem.W.eq_bytes (fin_bl I q dec_byt)
    | _ => exact absurd (show false = true from hs) Bool.false_ne_true
  | _ => cases y <;> exact absurd (show false = true from hs) Bool.false_ne_true
theorem op_ne : OpR X (compareOp .NotEq) rNe := by
  intro pins s σ H x y v u Q I rx ry h
  obtain ⟨hs, q⟩ := h
  cases x with
  | non =>
    cases rx
    cases y with
    | non => cases ry; exact PySem.EqNone.ne_none_none (fin_bl I q (by simp))
    | bl j => cases ry; exact PySem.EqNone.ne_none_bool (fin_bl I q (by simp))
    | int j => obtain ⟨t', rfl⟩ := ry; exact PySem.EqNone.ne_none_int (fin_bl I q (by simp))
    | str j => obtain ⟨t', rfl⟩ := ry; exact PySem.EqNone.ne_none_str (fin_bl I q (by simp))
    | _ => exact absurd (show false = true from hs) Bool.false_ne_true
  | bl i =>
    cases rx
    cases y with
    | non => cases ry; exact PySem.EqNone.ne_bool_none (fin_bl I q (by simp))
    | bl j => cases ry; exact ne_bool (fin_bl I q (congrArg not dec_bl))
    | str j => obtain ⟨t', rfl⟩ := ry; exact PySem.EqMixed.ne_bool_str (fin_bl I q (by simp))
    | _ => exact absurd (show false = true from hs) Bool.false_ne_true
  | int i =>
    obtain ⟨t, rfl⟩ := rx
    cases y with
    | non => cases ry; exact PySem.EqNone.ne_int_none (fin_bl I q (by simp))
    | int j => obtain ⟨t', rfl⟩ := ry; exact ne_int (fin_bl I q (congrArg not dec_int))
    | str j => obtain ⟨t', rfl⟩ := ry; exact PySem.EqMixed.ne_int_str (fin_bl I q (by simp))
    | _ => exact absurd (show false = true from hs) Bool.false_ne_true
  | str i =>
    obtain ⟨t, rfl⟩ := rx
    cases y with
    | non => cases ry; exact PySem.EqNone.ne_str_none (fin_bl I q (by simp))
    | bl j => cases ry; exact PySem.EqMixed.ne_str_bool (fin_bl I q (by simp))
    | int j => obtain ⟨t', rfl⟩ := ry; exact PySem.EqMixed.ne_str_int (fin_bl I q (by simp))
    | str j => obtain ⟨t', rfl⟩ := ry; exact ne_str (fin_bl I q (congrArg not dec_str))
    | _ => exact absurd (show false = true from hs) Bool.false_ne_true
  | byt i =>
    obtain ⟨t, rfl⟩ := rx
    cases y with
    | byt j => obtain ⟨t', rfl⟩ := ry; exact PySem.W.ne_bytes (fin_bl I q (congrArg not dec_byt))
    | _ => exact absurd (show false = true from hs) Bool.false_ne_true
  | _ => cases y <;> exact absurd (show false = true from hs) Bool.false_ne_true

theorem op_lt : OpR X (compareOp .Lt) (rI0 fun i j => .bl (decide (i < j))) := opB0 fun _ _ _ _ _ _ _ q => lt_int q
theorem op_le : OpR X (compareOp .LtE) (rI0 fun i j => .bl (decide (i ≤ j))) := opB0 fun _ _ _ _ _ _ _ q => le_int q
theorem op_gt : OpR X (compareOp .Gt) (rI0 fun i j => .bl (decide (j < i))) := opB0 fun _ _ _ _ _ _ _ q => gt_int q
theorem op_ge : OpR X (compareOp .GtE) (rI0 fun i j => .bl (decide (j ≤ i))) := opB0 fun _ _ _ _ _ _ _ q => ge_int q

theorem op_notN : OpR X (compareOp .IsNot) (fun x y H Q => y = .non ∧ Q (.bl (!decide (x = .non))) H) := by
  intro pins s σ H x y v u Q I rx ry h
  obtain ⟨rfl, q⟩ := h
  cases ry
  refine isnot_none_gen (fin_bl I q ?_)
  cases x <;> first
    | (cases rx; rfl)
    | (obtain ⟨t, rfl⟩ := rx; rfl)

/-- is, is not of two objects that are tracked lists or instances -/
def isObj : HO → Bool
  | .lst _ => true
  | .ins _ _ _ => true
  | _ => false


theorem nomark (b : Expr) {op : CmpOp} (h : op ≠ .In := by decide) (h2 : op ≠ .NotIn := by decide) : behindInMarks op b = false := by
  have e1 : (op == CmpOp.In) = false := by cases op <;> first | rfl | exact absurd rfl h
  have e2 : (op == CmpOp.NotIn) = false := by cases op <;> first | rfl | exact absurd rfl h2
  cases b <;> simp [behindInMarks, e1, e2]
/-- a comparison as a value; hm: nomark b, or (for in, not in) by with_unfolding_all rfl -/
theorem pe_cmpR {op : CmpOp} {r : R2} (ho : OpR X (compareOp op) r) (ha : PE X a ta) (hb : PE X b tb) (hm : behindInMarks op b = false) : PE X (.Compare a [op] [b] pos) (tOp r ta tb) := by
  intro pins s σ H Q I h
  exact wpAny_Compare1 (binT ha hb I h fun v u s2 x y H2 I2 rx ry q => ho pins s2 σ H2 x y v u Q I2 rx ry q) hm
/-- a reading of a value as a test -/
def tTest (t : TE) : TT := fun σ H Q => t σ H fun x H' => ∃ k, x = .bl k ∧ Q k H'
theorem pt_cmpR {op : CmpOp} {r : R2} (ho : OpR X (compareOp op) r) (ha : PE X a ta) (hb : PE X b tb) (hm : behindInMarks op b = false) : PT X (.Compare a [op] [b] pos) (tTest (tOp r ta tb)) := by
  intro pins s σ H Q I h
  refine wpAny_isTrue_Compare1 (thn (ha pins s σ H _ I h) fun v s1 ⟨x, H1, I1, r1, q1⟩ => thn (hb pins s1 σ H1 _ I1 q1) fun u s2 ⟨y, H2, I2, r2, q2⟩ =>
    thn (ho pins s2 σ H2 x y v u _ I2 r1 r2 q2) fun c s3 ⟨z, H3, I3, r3, k, e, q3⟩ => ?_) hm
  subst e
  cases r3
  exact wpAny_truthy_bool ⟨H3, I3, q3⟩
/-- a op1 b op2 c -/
def tChain (r r' : R2) (ta tb tc : TE) : TE := fun σ H Q => ta σ H fun x H1 => tb σ H1 fun y H2 => r x y H2 fun z H3 => ∃ k, z = .bl k ∧
  (if k = true then tc σ H3 fun w' H4 => r' y w' H4 Q else Q (.bl false) H3)
theorem pe_chain {op op' : CmpOp} {r r' : R2} (ho : OpR X (compareOp op) r) (ho' : OpR X (compareOp op') r') (ha : PE X a ta) (hb : PE X b tb) (hc : PE X c tc)
    (hm : lastMarks [op, op'] [b, c] = false := by with_unfolding_all rfl) : PE X (.Compare a [op, op'] [b, c] pos) (tChain r r' ta tb tc) := by
  intro pins s σ H Q I h
  refine Compare_chain (thn (ha pins s σ H _ I h) fun v s1 ⟨x, H1, I1, r1, q1⟩ => chain_link (thn (hb pins s1 σ H1 _ I1 q1) fun u s2 ⟨y, H2, I2, r2, q2⟩ =>
    thn (ho pins s2 σ H2 x y v u _ I2 r1 r2 q2) fun d s3 ⟨z, H3, I3, r3, k, e, q3⟩ => ?_)) hm
  subst e
  cases r3
  refine wpAny_truthy_bool ?_
  cases k with
  | false => exact ite_ff ⟨.bl false, H3, I3, rfl, q3⟩
  | true => exact ite_tt (chain_last (thn (hc pins s3 σ H3 _ I3 q3) fun w' s4 ⟨z', H4, I4, r4, q4⟩ => ho' pins s4 σ H4 y z' u w' Q I4 r2 r4 q4))

/-! ### truth -/
/-- a value's truth by the abstract heap -/
def TruV (K : PySem.W.Frag) (x : V) (H : Hp) (k : Bool) : Prop :=
  match x with
  | .non => k = false
  | .bl b => k = b
  | .int i => k = (i != 0)
  | .str y => y.length ≤ sizeLine ∧ k = ((y.length : Int) != 0)
  | .byt y => y.size ≤ sizeLine ∧ k = ((y.size : Int) != 0)
  | .ref p => (∃ xs, SqL K H p xs ∧ k = !xs.isEmpty) ∨ (∃ xs, SqT K H p xs ∧ k = !xs.isEmpty) ∨ ∃ kvs, H p = some (.dK kvs) ∧ k = !kvs.isEmpty
  | _ => False
theorem line63 : (sizeLine : Nat) < 2 ^ 63 := by rw [sizeLine_eq]; decide

/-! ### strs and bytes -/

def PlainIxT (b : Expr) : Prop := ∀ o i, subscripted b false o i = operate [o, i] (getItem o i)

/-! ### scalar builtins, by CallR -/
theorem vals1 {x : V} {us : List Value} (r : Vals [x] us) : ∃ u, us = [u] ∧ RelV x u := by
  cases r with
  | cons r1 r2 => cases r2; exact ⟨_, rfl, r1⟩
theorem vals2 {x y : V} {us : List Value} (r : Vals [x, y] us) : ∃ u w', us = [u, w'] ∧ RelV x u ∧ RelV y w' := by
  cases r with
  | cons r1 r2 =>
    cases r2 with
    | cons r3 r4 => cases r4; exact ⟨_, _, rfl, r1, r3⟩
theorem call_abs : CallR X (.builtin "abs") (fun xs H Q => ∃ i, xs = [.int i] ∧ Q (.int (if i < 0 then -i else i)) H) := by
  intro pins s σ H xs us Q I r h
  obtain ⟨i, rfl, q⟩ := h
  obtain ⟨u, rfl, t, rfl⟩ := vals1 r
  exact call_abs_int fun u tk => ⟨.int (if i < 0 then -i else i), H, I.tok _, ⟨_, rfl⟩, q⟩
theorem call_int1 : CallR X (.type "int") (fun xs H Q => (∃ i, xs = [.int i] ∧ Q (.int i) H) ∨ ∃ k, xs = [.bl k] ∧ Q (.int (if k then 1 else 0)) H) := by
  intro pins s σ H xs us Q I r h
  rcases h with ⟨i, rfl, q⟩ | ⟨k, rfl, q⟩
  · obtain ⟨u, rfl, t, rfl⟩ := vals1 r
    exact call_int_int ⟨.int i, H, I, ⟨_, rfl⟩, q⟩
  · obtain ⟨u, rfl, r1⟩ := vals1 r
    cases r1
    exact call_int_bool ⟨.int (if k then 1 else 0), H, I.tok _, ⟨_, rfl⟩, q⟩
/-- len of a str, a bytes, a list, a tuple -/
def LenV (K : PySem.W.Frag) (x : V) (H : Hp) (n : Nat) : Prop :=
  match x with
  | .str y => y.length ≤ sizeLine ∧ n = y.length
  | .byt y => y.size ≤ sizeLine ∧ n = y.size
  | .ref p => (∃ xs, SqL K H p xs ∧ n = xs.length) ∨ ∃ xs, SqT K H p xs ∧ n = xs.length
  | _ => False
end
end L2

namespace L2
open PySem PySem.Spec PyProof.Rows

/-! ### an instance, its attributes a map -/
structure ObjM (h : Heap) (x dx C : Addr) (mA : Str → Option Value) : Prop where
  obj : h.get? x = some (PySem.W.instObj C dx)
  ns : h.Ns1 dx mA
  ne : dx ≠ x

theorem lookIn_ns {h : Heap} {dx : Addr} {mA : Str → Option Value} (n : h.Ns1 dx mA) : ∃ od, h.get? dx = some od ∧ ∀ name, PySem.W.lookIn name od = some (mA name) := by
  obtain ⟨o, es, ep, ho, hd, hk, _, hm⟩ := n
  refine ⟨o, ho, fun name => ?_⟩
  have e := hm name
  unfold nsFind findBy at e
  rw [← Array.find?_toList] at e
  unfold PySem.W.lookIn
  rw [hd]
  dsimp only
  split
  · rename_i y q
    rw [q] at e
    exact congrArg some e
  · rename_i q
    rw [q] at e
    have a : es.toList.any (·.refKey) = false := by
      rw [List.any_eq_false]
      intro y hy
      obtain ⟨z, t, hkey⟩ := hk y (Array.mem_toList_iff.mp hy)
      simp [DictEntry.refKey, hkey]
    have a' : ¬ es.toList.any (·.refKey) = true := by rw [a]; exact Bool.false_ne_true
    rw [if_neg a']
    exact congrArg some e

theorem ObjM.look {h : Heap} {x dx C : Addr} {mA : Str → Option Value} (I : ObjM h x dx C mA) : ∃ od, PySem.W.InstAt h x (PySem.W.instObj C dx) C (some od) ∧ ∀ name, PySem.W.lookIn name od = some (mA name) :=
  let ⟨od, ho, hl⟩ := lookIn_ns I.ns
  ⟨od, ⟨I.obj, rfl, rfl, ho⟩, hl⟩

section
variable {prog : Program} {w : World} {A : Around} {E : Value → Shared → Prop} {s : Shared} {K : PySem.W.Frag} {x dx C f : Addr} {mA : Str → Option Value} {name : Str} {v : Value}





end

/-! ### the attributes as a list of pairs -/
def putF (f : Str) (v : V) : List (Str × V) → List (Str × V)
  | [] => [(f, v)]
  | (g, x) :: r => if g = f then (g, v) :: r else (g, x) :: putF f v r

theorem RelO.some_of {v : V} {o : Option Value} (r : RelO (some v) o) : ∃ u, o = some u ∧ RelV v u := by
  cases o with
  | none => exact (show False from r).elim
  | some u => exact ⟨u, rfl, r⟩
theorem handed_of {v : V} {u : Value} (r : RelV v u) : PySem.W.handedIn u = true := by
  cases v with
  | non => cases (show u = Value.none from r); rfl
  | bl b => cases (show u = Value.bool b from r); rfl
  | int i => obtain ⟨t, e⟩ := (show ∃ t, u = Value.int i t from r); cases e; rfl
  | str x => obtain ⟨t, e⟩ := (show ∃ t, u = Value.str x t from r); cases e; rfl
  | byt b => obtain ⟨t, e⟩ := (show ∃ t, u = Value.bytes b t from r); cases e; rfl
  | flt b => obtain ⟨t, e⟩ := (show ∃ t, u = Value.float b t from r); cases e; rfl
  | ref a => cases (show u = Value.ref a from r); rfl
  | ty n => cases (show u = Value.type n from r); rfl

section
variable {P : Program} {w : World} {H H' : Hp} {h h' : Heap} {a C dx : Addr} {fs fs' : List (Str × V)}
theorem ins_get (hok : HOk P w H h) (e : H a = some (.ins C dx fs)) : ∃ mA, ObjM h a dx C mA ∧ (∀ f, RelO (fs.lookup f) (mA f)) ∧ PySem.Within mA (fs.map (·.1)) ∧ fs.length ≤ 1000 ∧ H dx = some (.own a) := by
  obtain ⟨d, z, ne, ob, mA, n, r, q⟩ := (show ObjOk P w H h a (.ins C dx fs) from hok a _ e)
  exact ⟨mA, ⟨ob, n, ne⟩, r, q, z, d⟩
end

/-! ### what of the text a class must have -/
structure Cls (K : PySem.W.Frag) (C : Addr) : Prop where
  pg : PySem.W.plainGet K C Str.empty = true
  hd : PySem.W.hasDictIn K C = true
  po : PySem.W.plainOver K C = true
  sa : PySem.W.findIn K (.ref C) "__setattr__" = some (some (.builtin "object.__setattr__"))
theorem Cls.get {K : PySem.W.Frag} {C : Addr} (c : Cls K C) (f : Str) : PySem.W.plainGet K C f = true := c.pg
/-- no class of it has the name -/
def NoAttr (K : PySem.W.Frag) (C : Addr) (f : Str) : Prop := PySem.W.findIn K (.ref C) f = some none
/-- a constant of the class -/
structure Con (K : PySem.W.Frag) (C : Addr) (f : Str) (v : V) (u : Value) : Prop where
  at_ : PySem.W.findIn K (.ref C) f = some (some u)
  rel : RelV v u
  get : PySem.W.specialIn K u "__get__" = some none
  cp : PySem.W.copiedNames.contains f = false
/-- a method: a plain def of the class or of one above it -/
structure Meth (K : PySem.W.Frag) (C : Addr) (m : Str) (f : Addr) : Prop where
  at_ : PySem.W.findIn K (.ref C) m = some (some (.ref f))
  fn : PySem.W.isFn K (.ref f) = true
  kp : PySem.W.keepIn K (.ref f) = true

section
variable {X : Cx} {pins : List (Addr × Obj)} {σ : St} {H : Hp} {s : Shared} {a C dx : Addr} {fs : List (Str × V)} {f : Str} {v : V} {A : Around} {E : Value → Shared → Prop}






/-- e.f where nothing but the object is asked: through attributeBase (super) and the last hold -/
theorem attr_of {prog : Program} {w : World} {env : Env} {e : Expr} {f : Str} {pos : Pos} {s : Shared} {Q : Value → Shared → Prop} (hb : attributeBase e f env (eval e env) = eval e env)
    (h : wpAny (model prog w) A (eval e env) (fun o s₁ => wpAny (model prog w) A (getAttr o f true) Q E s₁) E s) : wpAny (model prog w) A (eval (.Attribute e f pos) env) Q E s :=
  Attribute_any_ h (by rw [arm_eval_Attribute, hb])
end

/-! ### readings and rules -/
/-- e.f, an attribute of the instance -/
def tFld (K : PySem.W.Frag) (ta : TE) (f : Str) : TE := fun σ H Q => ta σ H fun x H1 => ∃ a C dx fs v, x = .ref a ∧ H1 a = some (.ins C dx fs) ∧ Cls K C ∧ NoAttr K C f ∧ fs.lookup f = some v ∧ Q v H1
/-- e.f, a constant of the class -/
def tCon (K : PySem.W.Frag) (ta : TE) (f : Str) : TE := fun σ H Q => ta σ H fun x H1 => ∃ a C dx fs v u, x = .ref a ∧ H1 a = some (.ins C dx fs) ∧ Cls K C ∧ Con K C f v u ∧ fs.lookup f = none ∧ Q v H1
/-- e.f = value -/
def sFld (K : PySem.W.Frag) (ta tv : TE) (f : Str) : TS := fun D σ H => tv σ H fun y H1 => ta σ H1 fun x H2 => ∃ a C dx fs, x = .ref a ∧ H2 a = some (.ins C dx fs) ∧ Cls K C ∧ NoAttr K C f ∧ fs.length < 1000 ∧
  D.nx σ (upd H2 a (.ins C dx (putF f y fs)))
/-- an augmented operator on two values -/
def InOp (X : Cx) (op : Operator) (rd : V → V → Hp → VK → Prop) : Prop :=
  ∀ (pins : List (Addr × Obj)) (s : Shared) (σ : St) (H : Hp) (x y : V) (u v : Value) (Q : VK), Inv X pins σ H s → RelV x u → RelV y v → rd x y H Q → wpAny (model X.prog X.w) X.A (inplaceOp op u v) (EP X pins σ Q) X.xe s
/-- e.f op= value -/
def sFldAug (K : PySem.W.Frag) (ta tv : TE) (rd : V → V → Hp → VK → Prop) (f : Str) : TS := fun D σ H => ta σ H fun x H1 => ∃ a C dx fs v, x = .ref a ∧ H1 a = some (.ins C dx fs) ∧ Cls K C ∧ NoAttr K C f ∧ fs.lookup f = some v ∧
  tv σ H1 fun y H2 => rd v y H2 fun z H3 => ∃ dx' fs', H3 a = some (.ins C dx' fs') ∧ fs'.length < 1000 ∧ D.nx σ (upd H3 a (.ins C dx' (putF f z fs')))

section
variable {X : Cx} {o e value : Expr} {f : Str} {pos pos' tpos : Pos} {ta tv : TE}
def rAdd : V → V → Hp → VK → Prop := fun x y H Q => ∃ i j, x = .int i ∧ y = .int j ∧ Q (.int (i + j)) H
def rSub : V → V → Hp → VK → Prop := fun x y H Q => ∃ i j, x = .int i ∧ y = .int j ∧ Q (.int (i - j)) H

end

/-! ### isinstance -/
section
variable {X : Cx} {pins : List (Addr × Obj)} {σ : St} {H : Hp} {s : Shared} {A : Around} {E : Value → Shared → Prop} {Q : Value → Shared → Prop} {c : Value} {b : Bool}
/-- the type of a value, as the fragment's deciders take it; for an instance its class -/
inductive TyOf (K : PySem.W.Frag) (H : Hp) : V → Value → Prop where
  | non : TyOf K H .non (.type "NoneType")
  | bl (x : Bool) : TyOf K H (.bl x) (.type "bool")
  | int (i : Int) : TyOf K H (.int i) (.type "int")
  | str (x : Str) : TyOf K H (.str x) (.type "str")
  | flt (x : UInt64) : TyOf K H (.flt x) (.type "float")
  | lst {a : Addr} {xs : List V} (e : H a = some (.lst xs)) : TyOf K H (.ref a) (.type "list")
  | frz {a : Addr} {o : Obj} {xs : List V} (e : H a = some (.frz o (.lst xs))) : TyOf K H (.ref a) (.type "list")
  | tup {a : Addr} {xs : List V} (e : H a = some (.tup xs)) : TyOf K H (.ref a) (.type "tuple")
  | dK {a : Addr} {kvs : List (Key × V)} (e : H a = some (.dK kvs)) : TyOf K H (.ref a) (.type "dict")
  | dT {a : Addr} {kvs : List (List Key × V)} (e : H a = some (.dT kvs)) : TyOf K H (.ref a) (.type "dict")
  | ins {a C dx : Addr} {fs : List (Str × V)} (e : H a = some (.ins C dx fs)) (cl : Cls K C) (ha : PySem.W.findIn K (.ref C) "__class__" = some (some (.builtin "object.__class__")))
      (hn : PySem.W.specialIn K (.builtin "object.__class__") "__get__" = some (some (.builtin "getset_descriptor.__get__"))) (htk : PySem.W.takesIn K (.builtin "object.__class__") = some true)
      (hm : PySem.W.mroIn K C (.type "object") = some true) : TyOf K H (.ref a) (.ref C)
/-- isinstance(x, c) for one class c, a built-in or an own one: kitOne's answer -/
theorem isinst_ok {x : V} {u t : Value} (I : Inv X pins σ H s) (rx : RelV x u) (ty : TyOf X.K H x t) (e : PySem.W.kitOne X.K t c = some b) (h : ∀ tk, Q (.bool b) { s with toks := tk }) :
    wpAny (model X.prog X.w) A (call (.builtin "isinstance") [u, c]) Q E s := by
  cases ty with
  | non => cases (show u = Value.none from rx); exact PySem.W.kia_one PySem.W.kitx_none I.kIn True.intro e (fun z => nomatch z) h
  | bl y => cases (show u = Value.bool y from rx); exact PySem.W.kia_one PySem.W.kitx_bool I.kIn True.intro e (fun z => nomatch z) h
  | int i => obtain ⟨t, q⟩ := (show ∃ t, u = Value.int i t from rx); cases q; exact PySem.W.kia_one PySem.W.kitx_int I.kIn True.intro e (fun z => nomatch z) h
  | str y => obtain ⟨t, q⟩ := (show ∃ t, u = Value.str y t from rx); cases q; exact PySem.W.kia_one PySem.W.kitx_str I.kIn True.intro e (fun z => nomatch z) h
  | flt y => obtain ⟨t, q⟩ := (show ∃ t, u = Value.float y t from rx); cases q; exact PySem.W.kia_one PySem.W.kitx_float I.kIn True.intro e (fun z => nomatch z) h
  | @lst a xs ea =>
    cases (show u = Value.ref a from rx)
    obtain ⟨_, _, n, _, h1⟩ := (show ObjOk X.prog X.w H s.heap a (.lst xs) from I.hok a _ ea)
    exact PySem.W.kia_one PySem.W.kitx_list I.kIn ⟨_, h1, rfl⟩ e (fun z => nomatch z) h
  | @frz a ob xs ea =>
    cases (show u = Value.ref a from rx)
    obtain ⟨_, _, _, n, _, h1⟩ := (show ObjOk X.prog X.w H s.heap a (.frz ob (.lst xs)) from I.hok a _ ea)
    exact PySem.W.kia_one PySem.W.kitx_list I.kIn ⟨_, h1, rfl⟩ e (fun z => nomatch z) h
  | @tup a xs ea =>
    cases (show u = Value.ref a from rx)
    obtain ⟨_, _, _, p⟩ := (show ObjOk X.prog X.w H s.heap a (.tup xs) from I.hok a _ ea)
    obtain ⟨o, h1, h2, _⟩ := p
    exact PySem.W.kia_one PySem.W.kitx_tuple I.kIn ⟨o, h1, h2⟩ e (fun z => nomatch z) h
  | @dK a kvs ea =>
    cases (show u = Value.ref a from rx)
    obtain ⟨_, _, vs, _, p⟩ := (show ObjOk X.prog X.w H s.heap a (.dK kvs) from I.hok a _ ea)
    obtain ⟨o, es, ep, h1, h2, _⟩ := p
    exact PySem.W.kia_one PySem.W.kitx_dict I.kIn ⟨o, h1, h2.1⟩ e (fun z => nomatch z) h
  | @dT a kvs ea =>
    cases (show u = Value.ref a from rx)
    obtain ⟨_, _, xs, _, o, es, ep, h1, h2, _⟩ := (show ObjOk X.prog X.w H s.heap a (.dT kvs) from I.hok a _ ea)
    exact PySem.W.kia_one PySem.W.kitx_dict I.kIn ⟨o, h1, h2.1⟩ e (fun z => nomatch z) h
  | @ins a C dx fs ea cl ha hn htk hm =>
    cases (show u = Value.ref a from rx)
    obtain ⟨mA, O, _⟩ := ins_get I.hok ea
    obtain ⟨od, J, _⟩ := O.look
    exact PySem.W.kia_one (PySem.W.kitx_own (cl.get _) cl.hd ha hn htk hm) I.kIn J e (fun z => nomatch z) h
end
end L2

namespace L2
open PySem PySem.Spec PyProof.Rows

/-! ### room -/
structure Room (k : Nat) (A : Around) : Prop where
  hd : A.handled = none
  dp : A.depth + 3 * k + 5 < recursionLimit
  un : A.units + 16 * k + 200 < cLine
  gd : A.guards = some []
theorem Room.mono {j k : Nat} {A : Around} (r : Room k A) (h : j ≤ k) : Room j A := ⟨r.hd, by have := r.dp; omega, by have := r.un; omega, r.gd⟩
theorem Room.deeper {k : Nat} {A : Around} (r : Room (k + 1) A) (env : Env) : Room k (A.deeper env) :=
  ⟨r.hd, by have := r.dp; show A.depth + 1 + 3 * k + 5 < _; omega, by have := r.un; show A.units + 3 + 16 * k + 200 < _; omega, r.gd⟩
theorem make_depth {A : Around} {C : Addr} {us : List Value} {kw : List (Str × Value)} : (A.under (.builtin "type.__call__" ⟨.ref C :: us, kw⟩)).depth = A.depth + 1 := by
  first | rfl | simp [Around.under, Code.weight, Code.isCreation, Code.isGuard, Code.isCaller, Code.frames, Code.isFrame, guardIds]
theorem make_units {A : Around} {C : Addr} {us : List Value} {kw : List (Str × Value)} : (A.under (.builtin "type.__call__" ⟨.ref C :: us, kw⟩)).units = A.units + 1 := by
  first | rfl | simp [Around.under, Code.cUnits, Code.frames, Code.isFrame]
theorem make_guards {A : Around} {C : Addr} {us : List Value} {kw : List (Str × Value)} : (A.under (.builtin "type.__call__" ⟨.ref C :: us, kw⟩)).guards = A.guards := by
  first | rfl | simp [Around.under, Code.guards, Code.isGuard, guardIds, pushGuards]
theorem Room.make {k : Nat} {A : Around} (r : Room (k + 1) A) (C : Addr) (us : List Value) (kw : List (Str × Value)) : Room k (A.under (.builtin "type.__call__" ⟨.ref C :: us, kw⟩)) :=
  ⟨r.hd, by have := r.dp; rw [make_depth]; omega, by have := r.un; rw [make_units]; omega, by rw [make_guards]; exact r.gd⟩
theorem Room.depth {k : Nat} {A : Around} (r : Room k A) : A.depth < recursionLimit := by have := r.dp; omega
theorem Room.units {k : Nat} {A : Around} (r : Room k A) : A.units + 64 < cLine := by have := r.un; omega

/-! ### argument lists and displays -/
def tNil : TA := fun _ H Q => Q [] H
def tCons (ta : TE) (tr : TA) : TA := fun σ H Q => ta σ H fun x H1 => tr σ H1 fun xs H2 => Q (x :: xs) H2
section
variable {X : Cx} {e : Expr} {es : List Expr} {te : TE} {t : TA} {pos : Pos}
theorem pa_nil : PA X [] tNil := fun _ _ _ _ H Q I h => Calls.spliced_nil ⟨[], H, I, .nil, h⟩
theorem pa_cons (ha : PE X e te) (hr : PA X es t) (hs : starEach (e :: es) X.env = (false, eval e X.env) :: starEach es X.env := by rfl) : PA X (e :: es) (tCons te t) := by
  intro pos pins s σ H Q I h
  rw [hs]
  show wpAny _ _ (spliced ((false, eval e X.env) :: backTo pos (starEach es X.env))) _ _ s
  refine Calls.spliced_cons (thn (ha pins s σ H _ I h) fun u s1 ⟨x, H1, I1, r1, q1⟩ => ?_)
  exact thn (hr pos pins s1 σ H1 _ I1 q1) fun us s2 ⟨xs, H2, I2, r2, q2⟩ => ⟨x :: xs, H2, I2, .cons r1 r2, q2⟩

/-- a tuple, a list of written items -/
def tTup (t : TA) : TE := fun σ H Q => t σ H fun xs H1 => xs.length ≤ sizeLine ∧ ∀ p, H1 p = none → Q (.ref p) (upd H1 p (.tup xs))
def tLst (t : TA) : TE := fun σ H Q => t σ H fun xs H1 => xs.length ≤ sizeLine ∧ ∀ p, H1 p = none → Q (.ref p) (upd H1 p (.lst xs))
theorem pe_tup {x1} (h : PA X es t) : PE X (.Tuple es x1 pos) (tTup t) := by
  intro pins s σ H Q I hq
  refine wpAny_Tuple_spliced (thn (h pos pins s σ H _ I hq) fun us s1 ⟨xs, H1, I1, r, z, q⟩ => ⟨by rw [← r.length]; exact z, ?_⟩)
  have hf : H1 s1.heap.objs.size = none := I1.hok.fresh (Nat.le_refl _)
  refine ⟨.ref s1.heap.objs.size, upd H1 s1.heap.objs.size (.tup xs), I1.laid (t' := s1.toks) (fun b u e => Heap.get?_push_of_some _ e) (Nat.le_refl _) ?_, rfl, q _ hf⟩
  exact ⟨z, us, r, ⟨_, Heap.get?_push_size _ rfl, rfl, _, rfl⟩⟩
theorem pe_lst (h : PA X es t) : PE X (.List es pos) (tLst t) := by
  intro pins s σ H Q I hq
  refine wpAny_List_spliced (thn (h pos pins s σ H _ I hq) fun us s1 ⟨xs, H1, I1, r, z, q⟩ => ⟨by rw [← r.length]; exact z, ?_⟩)
  have hf : H1 s1.heap.objs.size = none := I1.hok.fresh (Nat.le_refl _)
  refine ⟨.ref s1.heap.objs.size, upd H1 s1.heap.objs.size (.lst xs), I1.laid (t' := s1.toks) (fun b u e => Heap.get?_push_of_some _ e) (Nat.le_refl _) ?_, rfl, q _ hf⟩
  exact ⟨z, us, 0, r, Heap.get?_push_size _ rfl⟩
end

/-! ### what a def promises -/
/-- a def's promise: the bound arguments in the parameters' order, the heap, the wanted end, the wanted exception -/
abbrev Sp := List V → Hp → VK → XK → Prop
/-- how an exception lies behind a call (file 08 gives it): the callers' frames, abstract heap and state ahead of the call, the wish, the exception, the state -/
abbrev CXT := List Env → Hp → Shared → XK → Value → Shared → Prop

/-- the state at a call -/
structure Env0 (P : Program) (w : World) (K : PySem.W.Frag) (mg : Str → Option Value) (base : Heap) (A : Around) (outer : List Env) (s : Shared) (H : Hp) : Prop where
  frames : A.frames = some outer
  mod : Mod K mg base
  bs : ∀ b o, base.get? b = some o → s.heap.get? b = some o ∧ H b = none
  bsz : base.objs.size ≤ s.heap.objs.size
  funs : s.heap.FunFrames base outer
  frf : ∀ b ∈ frs outer, H b = none
  hok : HOk P w H s.heap
  bare : AllBare s.gens
/-- a call's end -/
def CE (outer : List Env) (P : Program) (w : World) (H : Hp) (s : Shared) (Q : VK) (u : Value) (s' : Shared) : Prop :=
  ∃ v H', s'.os = s.os ∧ AllBare s'.gens ∧ Un (frs outer) [] H H' s.heap s'.heap ∧ HOk P w H' s'.heap ∧ RelV v u ∧ Q v H'
def CR (CX : CXT) (outer : List Env) (P : Program) (w : World) (H : Hp) (s : Shared) (Q : VK) (E : XK) (r : Result) (s' : Shared) : Prop :=
  match r with
  | .ok (.ret u) => CE outer P w H s Q u s'
  | .ok _ => False
  | .error e => CX outer H s E e s'
structure FnOk (P : Program) (w : World) (K : PySem.W.Frag) (mg : Str → Option Value) (base : Heap) (CX : CXT) (k : Nat) (f : Addr) (fd : FuncData) (ps : List Str) (sp : Sp) : Prop where
  len : ∀ vs H Q E, sp vs H Q E → vs.length = ps.length
  run : ∀ (A : Around) (outer : List Env) (s : Shared) (H : Hp) (args : Args) (us : List Value) (vs : List V) (Q : VK) (E : XK), Room k A → Env0 P w K mg base A outer s H → BindsTo s fd args (ps.zip us) → Vals vs us → sp vs H Q E →
    codeAny (model P w) A (.call (.ref f) args) (CR CX outer P w H s Q E) s

theorem Env0.make {P : Program} {w : World} {K : PySem.W.Frag} {mg : Str → Option Value} {base : Heap} {A : Around} {outer : List Env} {s : Shared} {H : Hp} (e : Env0 P w K mg base A outer s H) (C : Addr) (us : List Value) (kw : List (Str × Value)) :
    Env0 P w K mg base (A.under (.builtin "type.__call__" ⟨.ref C :: us, kw⟩)) outer s H := ⟨by first | exact e.frames | (simpa [Around.under, Code.envs, Code.isFrame, pushEnvs] using e.frames), e.mod, e.bs, e.bsz, e.funs, e.frf, e.hok, e.bare⟩

section
variable {X : Cx} {pins : List (Addr × Obj)} {σ : St} {H : Hp} {s s' : Shared}
/-- from a body: what a callee wants -/
theorem Inv.env0 (I : Inv X pins σ H s) : Env0 X.prog X.w X.K X.mg X.base X.A X.stack s H :=
  ⟨I.ok.frames, I.ok.mod, I.bs, Nat.le_trans I.ok.bsz I.sz, I.stack, I.stkFree, I.hok, I.bare⟩
/-- behind a call -/
theorem Inv.after {Q : VK} {u : Value} (I : Inv X pins σ H s) (h : CE X.stack X.prog X.w H s Q u s') : EP X pins σ Q u s' := by
  obtain ⟨v, H', os, bare, un, hok, r, q⟩ := h
  obtain ⟨hh, g, d, t, os'⟩ := s'
  obtain rfl : os' = s.os := os
  exact ⟨v, H', I.call (h' := hh) (g' := g) (d' := d) (t' := t) (ch := []) un hok bare (fun b z => absurd z (by simp)), r, q⟩
end

/-! ### calls -/
/-- f(..): the written arguments, then the defaults dvs; E: what is wanted of an exception -/
def tCall (sp : Sp) (dvs : List V) (E : XK) (t : TA) : TE := fun σ H Q => t σ H fun vs H1 => sp (vs ++ dvs) H1 Q E
/-- o.m(..) of an instance of the class at C -/
def tMeth (C : Addr) (m : Str) (sp : Sp) (dvs : List V) (E : XK) (ta : TE) (t : TA) : TE := fun σ H Q => ta σ H fun x H1 => ∃ a dx fs, x = .ref a ∧ H1 a = some (.ins C dx fs) ∧ fs.lookup m = none ∧
  t σ H1 fun vs H2 => sp (x :: (vs ++ dvs)) H2 Q E
/-- C(..): a new instance and its dict, then __init__ -/
def tMake (C : Addr) (sp : Sp) (dvs : List V) (E : XK) (t : TA) : TE := fun σ H Q => t σ H fun vs H1 => ∀ x dx, H1 x = none → H1 dx = none → dx ≠ x →
  sp (.ref x :: (vs ++ dvs)) (upd (upd H1 dx (.own x)) x (.ins C dx [])) (fun v H2 => v = .non ∧ Q (.ref x) H2) E

/-- how the parameters are bound: us the positional arguments, kw the keywords' values by name, ds the defaults that fill up -/
def Binds (K : PySem.W.Frag) (fd : FuncData) (ps : List Str) (ds : List Value) : Prop :=
  ∀ (s : Shared) (us : List Value), K.In s.heap → (us ++ ds).length = ps.length → BindsTo s fd ⟨us, []⟩ (ps.zip (us ++ ds))
/-- every parameter is given -/
theorem Binds.all {K : PySem.W.Frag} {fd : FuncData} {ps : List Str} (h : ∀ us : List Value, us.length = ps.length → bindArgs fd ⟨us, []⟩ = pure (ps.zip us)) : Binds K fd ps [] := fun s us _ hl => by
  rw [List.append_nil] at hl ⊢
  exact .of_eq (h us hl)

/-- an exception of a callee reaches what this body wants of exceptions -/
def Passes (CX : CXT) (X : Cx) (E : XK) : Prop := ∀ (pins : List (Addr × Obj)) (σ : St) (H : Hp) (s : Shared) (e : Value) (s' : Shared), Inv X pins σ H s → CX X.stack H s E e s' → X.xe e s'

section
variable {X : Cx} {CX : CXT} {k : Nat} {f C : Addr} {fd : FuncData} {ps : List Str} {sp : Sp} {dvs : List V} {ds : List Value} {E : XK} {x m : Str} {p pos apos : Pos} {e o : Expr} {es : List Expr} {ta : TE} {t : TA}

/-- the callee runs -/
theorem run_fn {pins : List (Addr × Obj)} {σ : St} {H : Hp} {s : Shared} {Q : VK} {us : List Value} {vs : List V} (F : FnOk X.prog X.w X.K X.mg X.base CX k f fd ps sp) (hr : Room k X.A) (hb : Binds X.K fd ps ds) (hd : Vals dvs ds) (hx : Passes CX X E)
    (I : Inv X pins σ H s) (r : Vals vs us) (h : sp (vs ++ dvs) H Q E) : wpAny (model X.prog X.w) X.A (call (.ref f) us) (EP X pins σ Q) X.xe s := by
  have r2 : Vals (vs ++ dvs) (us ++ ds) := r.append hd
  have hl : (us ++ ds).length = ps.length := by rw [← r2.length]; exact F.len _ _ _ _ h
  refine wpAny_call (codeAny_mono (F.run X.A X.stack s H ⟨us, []⟩ (us ++ ds) (vs ++ dvs) Q E hr I.env0 (hb s us I.kIn hl) r2 h) fun r s' hq => ?_)
  cases r with
  | error e => exact hx pins σ H s e s' I hq
  | ok fl =>
    cases fl with
    | ret u => exact I.after hq
    | next => exact False.elim hq
    | brk => exact False.elim hq
    | cont => exact False.elim hq

theorem pe_call (F : FnOk X.prog X.w X.K X.mg X.base CX k f fd ps sp) (hr : Room k X.A) (hg : Gl X x) (hm : X.mg x = some (.ref f)) (hk : PySem.W.keepIn X.K (.ref f) = true) (hb : Binds X.K fd ps ds) (hd : Vals dvs ds) (hx : Passes CX X E)
    (ha : PA X (e :: es) t) (hdb : (x == ("__debug__" : Str)) = false := by decide) (he : starEach (e :: es) X.env = (false, eval e X.env) :: starEach es X.env := by rfl) (hpl : (backTo pos (starEach es X.env)).any (·.1) = false := by rfl) :
    PE X (.Call (.Name x p) (e :: es) [] pos) (tCall sp dvs E t) := by
  intro pins s σ H Q I h
  refine wpAny_Call_Name_kw (ld_glob I hg hm ?_ hdb)
  refine PySem.W.callWith_K (h₀ := X.base) I.ok.mod.kin hk (thn (ha pos pins s σ H _ I h) fun us s1 ⟨vs, H1, I1, r, q⟩ => ⟨I1.kIn, ?_⟩) he hpl
  exact run_fn F hr hb hd hx I1 r q


/-- what a class must have to be made -/
structure Mk (K : PySem.W.Frag) (C f : Addr) : Prop where
  makes : PySem.W.makesIn K C = true
  init : PySem.W.findIn K (.ref C) "__init__" = some (some (.ref f))
  fn : PySem.W.isFn K (.ref f) = true
  kp : PySem.W.keepIn K (.ref C) = true

end

/-! ### keywords -/
/-- the values of the keywords, from the left -/
def PK (X : Cx) (kws : List Keyword) (t : TA) : Prop :=
  ∀ (pos : Pos) (pins : List (Addr × Obj)) (s : Shared) (σ : St) (H : Hp) (Q : List V → Hp → Prop), Inv X pins σ H s → t σ H Q → wpAny (model X.prog X.w) X.A (evalAll ((backToKw pos (keywordEach kws X.env)).map (·.2))) (AP X pins σ Q) X.xe s
section
variable {X : Cx} {CX : CXT} {k : Nat} {f C : Addr} {fd : FuncData} {ps ks : List Str} {sp : Sp} {E : XK} {x m : Str} {p pos apos kpos : Pos} {e o : Expr} {es : List Expr} {kws : List Keyword} {te ta : TE} {t tk : TA} {nm : Option Str}

/-- how a call with keywords binds: g puts the positional values us and the keywords' values ws (names ks) in the parameters' order, defaults among them -/
structure KBinds (K : PySem.W.Frag) (fd : FuncData) (ps ks : List Str) (g : List Value → List Value → List Value) (gV : List V → List V → List V) : Prop where
  to : ∀ (s : Shared) (us ws : List Value), K.In s.heap → (g us ws).length = ps.length → BindsTo s fd ⟨us, ks.zip ws⟩ (ps.zip (g us ws))
  rel : ∀ {vs : List V} {us : List Value} {zs : List V} {ws : List Value}, Vals vs us → Vals zs ws → Vals (gV vs zs) (g us ws)
def tCallK (sp : Sp) (gV : List V → List V → List V) (E : XK) (t tk : TA) : TE := fun σ H Q => t σ H fun vs H1 => tk σ H1 fun zs H2 => sp (gV vs zs) H2 Q E
variable {g : List Value → List Value → List Value} {gV : List V → List V → List V}
end

/-! ### a def's body keeps its promise -/
/-- names: the parameters first -/
structure FnScope (N P : List Str) (sc : Scope) : Prop where
  kind : sc.kind = .function
  co : sc.isCoroutine = false
  gen : sc.isGenerator = false
  nd : N.Nodup
  pre : N.take P.length = P
  par : ∀ x ∈ P, sc.names.lookup x = some .local ∨ sc.names.lookup x = some .cell
  nofree : ∀ y ∈ sc.names, y.2 ≠ .free

theorem bindL_out {kindOf : Str → Option NameKind} {x : Str} : ∀ {binds : List (Str × Value)} {m : Str → Option Value}, (∀ v, (x, v) ∉ binds) → bindL kindOf binds m x = m x
  | [], _, _ => rfl
  | (n, v) :: r, m, h => by
    unfold bindL
    rw [bindL_out fun w hw => h w (List.mem_cons_of_mem _ hw)]
    split
    · have : x ≠ n := by rintro rfl; exact h v List.mem_cons_self
      simp [this]
    · rfl
theorem bindC_out {kindOf : Str → Option NameKind} {x : Str} : ∀ {binds : List (Str × Value)} {m : Str → Option Value}, (∀ v, (x, v) ∉ binds) → bindC kindOf binds m x = m x
  | [], _, _ => rfl
  | (n, v) :: r, m, h => by
    unfold bindC
    rw [bindC_out fun w hw => h w (List.mem_cons_of_mem _ hw)]
    split
    · rfl
    · have : x ≠ n := by rintro rfl; exact h v List.mem_cons_self
      simp [this]
theorem bindL_get {kindOf : Str → Option NameKind} {x : Str} {v : Value} : ∀ {P : List Str} {vs : List Value} {i : Nat} {m : Str → Option Value}, P.Nodup → P[i]? = some x → vs[i]? = some v → kindOf x = some .local →
    bindL kindOf (P.zip vs) m x = some v
  | [], _, _, _, _, h, _, _ => by simp at h
  | _ :: _, [], _, _, _, _, h, _ => by simp at h
  | p :: P, w :: vs, 0, m, nd, h1, h2, hk => by
    simp at h1 h2; subst h1; subst h2
    show bindL kindOf ((p, w) :: P.zip vs) m p = _
    unfold bindL
    rw [bindL_out fun v hv => (List.nodup_cons.mp nd).1 (List.of_mem_zip hv).1, if_pos hk]
    simp
  | p :: P, w :: vs, i + 1, m, nd, h1, h2, hk => by
    show bindL kindOf ((p, w) :: P.zip vs) m x = _
    unfold bindL
    exact bindL_get (i := i) (List.nodup_cons.mp nd).2 (by simpa using h1) (by simpa using h2) hk
theorem bindC_get {kindOf : Str → Option NameKind} {x : Str} {v : Value} : ∀ {P : List Str} {vs : List Value} {i : Nat} {m : Str → Option Value}, P.Nodup → P[i]? = some x → vs[i]? = some v → kindOf x ≠ some .local →
    bindC kindOf (P.zip vs) m x = some v
  | [], _, _, _, _, h, _, _ => by simp at h
  | _ :: _, [], _, _, _, _, h, _ => by simp at h
  | p :: P, w :: vs, 0, m, nd, h1, h2, hk => by
    simp at h1 h2; subst h1; subst h2
    show bindC kindOf ((p, w) :: P.zip vs) m p = _
    unfold bindC
    rw [bindC_out fun v hv => (List.nodup_cons.mp nd).1 (List.of_mem_zip hv).1, if_neg hk]
    simp
  | p :: P, w :: vs, i + 1, m, nd, h1, h2, hk => by
    show bindC kindOf ((p, w) :: P.zip vs) m x = _
    unfold bindC
    exact bindC_get (i := i) (List.nodup_cons.mp nd).2 (by simpa using h1) (by simpa using h2) hk

/-- the names' values at the entry -/
def start (N : List Str) (vs : List V) : St := vs.map some ++ List.replicate (N.length - vs.length) none

/-- the context of a def's body, at its entry; an exception leaves the frame, then lies as CX says -/
def cxOf (CX : CXT) (P : Program) (w : World) (K : PySem.W.Frag) (mg : Str → Option Value) (base : Heap) (N : List Str) (qual : Str) (scope : Scope) (f : Addr) (cd : Value) (A : Around) (outer : List Env) (s : Shared) (H : Hp) (E : XK) : Cx where
  prog := P
  w := w
  K := K
  mg := mg
  base := base
  A := A.deeper (envOfC qual scope s.heap.objs.size f cd)
  N := N
  s₀ := s
  H₀ := H
  env := envOfC qual scope s.heap.objs.size f cd
  outer := outer
  stack := envOfC qual scope s.heap.objs.size f cd :: outer
  ex := []
  calm := true
  fn := fun _ => true
  pn := []
  xe := fun e s' => wpAny (model P w) (A.deeper (envOfC qual scope s.heap.objs.size f cd)) (leaving (envOfC qual scope s.heap.objs.size f cd) e) (fun _ s'' => CX outer H s E e s'') (fun e' s'' => CX outer H s E e' s'') s'

theorem cell_has {sc : Scope} {n : Nat} {x : Str} (h : sc.names.lookup x = some .cell) : ∃ c, (cellsFrom n sc.names []).lookup x = some c := by
  have q := PySem.W.cellsFrom_some sc.names n [] (.inl h)
  exact Option.isSome_iff_exists.mp q

theorem inv_start {CX : CXT} {P : Program} {w : World} {K : PySem.W.Frag} {mg : Str → Option Value} {base : Heap} {N ps : List Str} {qual : Str} {scope : Scope} {f : Addr} {cd : Value} {A : Around} {outer : List Env} {s s1 : Shared} {H : Hp} {E : XK} {us : List Value} {vs : List V}
    (S : FnScope N ps scope) (hd : A.handled = none) (e0 : Env0 P w K mg base A outer s H) (hl : vs.length = ps.length) (r : Vals vs us)
    (x : InCallC s s.heap.objs.size (bindL (envOfC qual scope s.heap.objs.size f cd).kindOf (ps.zip us) fun _ => none) (cellsFrom (s.heap.objs.size + 1) scope.names []) (bindC (envOfC qual scope s.heap.objs.size f cd).kindOf (ps.zip us) fun _ => none) s1) :
    Inv (cxOf CX P w K mg base N qual scope f cd A outer s H E) [] (start N vs) H s1 := by
  have hpl : ps.length ≤ N.length := by have := congrArg List.length S.pre; rw [List.length_take] at this; omega
  obtain ⟨h1, tk, rfl, hk⟩ := x.done
  have noA : ∀ b : Addr, b ∉ (cxOf CX P w K mg base N qual scope f cd A outer s H E).ex := fun b z => absurd (show b ∈ ([] : List Addr) from z) (by simp)
  refine ⟨⟨e0.mod, S.kind, rfl, rfl, Nat.le_refl _, fun y z c h1 h2 => ?_, fun y hy => ?_, fun y c _ h => ?_, fun _ => hd, Around.frames_deeper e0.frames, .inr ⟨rfl, rfl⟩, fun b z => absurd z (noA b), e0.bs, e0.bsz, fun b _ _ => noA b, fun b z => absurd z (noA b), e0.funs, e0.frf⟩,
    rfl, e0.bare, Un.kept hk, ⟨_, x.toInCall.ns, fun i y v h1 h2 h3 => ?_⟩, fun y c h => ⟨_, x.cell y c h⟩, e0.hok.fresh (Nat.le_refl _), fun y c h => ?_, fun p hp => absurd (show p ∈ ([] : List (Addr × Obj)) from hp) (by simp), e0.hok.kept hk, ?_⟩
  · exact name_of_addr x.apart (PySem.mem_of_lookup h1) (PySem.mem_of_lookup h2)
  · have hy : scope.names.lookup y = some .cell ∨ scope.names.lookup y = some .free := hy
    rcases hy with hy | hy
    · exact cell_has hy
    · exact absurd rfl (S.nofree _ (PySem.mem_of_lookup hy))
  · exact Nat.le_of_lt (x.above y c (PySem.mem_of_lookup h))
  · have hi : i < vs.length := by
      unfold start at h2
      by_cases hi : i < vs.length
      · exact hi
      · rw [List.getElem?_append_right (by simpa using hi)] at h2
        rw [List.getElem?_replicate] at h2
        split at h2 <;> cases h2
    have ha : vs[i]? = some v := by
      unfold start at h2
      rw [List.getElem?_append_left (by simpa using hi), List.getElem?_map] at h2
      cases e : vs[i]? with
      | none => rw [e] at h2; cases h2
      | some a => rw [e] at h2; cases h2; rfl
    obtain ⟨u, hu, rv⟩ := r.get ha
    have hp : ps[i]? = some y := by
      rw [← S.pre, List.getElem?_take_of_lt (by omega)]; exact h1
    have ndP : ps.Nodup := by rw [← S.pre]; exact S.nd.sublist (List.take_sublist _ _)
    refine ⟨u, rv, ?_⟩
    rcases S.par y (List.mem_of_getElem? hp) with k | k
    · exact .inl ⟨k, bindL_get ndP hp hu k⟩
    · obtain ⟨c, e⟩ := cell_has (n := s.heap.objs.size + 1) k
      refine .inr ⟨.inl k, c, e, ?_⟩
      have q := x.cell y c e
      rw [bindC_get ndP hp hu (by show scope.names.lookup y ≠ _; rw [k]; decide)] at q
      exact q
  · exact e0.hok.fresh (Nat.le_of_lt (x.above y c (PySem.mem_of_lookup h)))
  · unfold start
    show _ = N.length
    rw [List.length_append, List.length_map, List.length_replicate]
    omega

/-- THE RULE: a def (or a method) of the text, by its body. The body's reading t is chosen for each entry; it is run at the parameters' values -/
theorem fn_of {CX : CXT} {P : Program} {w : World} {K : PySem.W.Frag} {mg : Str → Option Value} {base : Heap} {k : Nat} {f : Addr} {name qual : Str} {params : Arguments} {body : List Stmt} {scope : Scope} {dV kV doc pm cdv ct oc : Value} {an od : Option Addr}
    {osl : Array (Option Value)} {N ps : List Str} {sp : Sp} (lk : K.lookup f = some ⟨oc, od, .func (PySem.W.fnOf name qual params body scope dV kV doc pm an cdv ct), osl⟩) (hcd : PySem.W.codeIn K cdv qual = true) (S : FnScope N ps scope)
    (len : ∀ vs H Q E, sp vs H Q E → vs.length = ps.length)
    (hbody : ∀ (A : Around) (outer : List Env) (s : Shared) (H : Hp) (vs : List V) (Q : VK) (E : XK), Room k (A.deeper (envOfC qual scope s.heap.objs.size f cdv)) → sp vs H Q E →
      ∃ t, PSs (cxOf CX P w K mg base N qual scope f cdv A outer s H E) body t ∧ t { nx := fun _ H' => Q .non H', rt := Q } (start N vs) H) :
    FnOk P w K mg base CX (k + 1) f (PySem.W.fnOf name qual params body scope dV kV doc pm an cdv ct) ps sp := by
  refine ⟨len, fun A outer s H args us vs Q E hr e0 hb r hsp => ?_⟩
  have hl := len _ _ _ _ hsp
  have KX : K.In s.heap := e0.mod.kin.keeps fun b o e => (e0.bs b o e).1
  have lim : s.heap.NoLimit := e0.mod.nolimit.keeps fun b o e => (e0.bs b o e).1
  have hkind : ∀ y ∈ ps.zip us, scope.names.lookup y.1 = some .local ∨ (scope.names.lookup y.1 = some .cell ∧ ((cellsFrom (s.heap.objs.size + 1) scope.names []).lookup y.1).isSome = true) := fun ⟨n, v⟩ hy => by
    rcases S.par n (List.of_mem_zip hy).1 with q | q
    · exact .inl q
    · exact .inr ⟨q, PySem.W.cellsFrom_some _ _ _ (.inl q)⟩
  refine codeAny_call_function hr.depth (KX _ _ lk) rfl S.co S.gen rfl (PySem.W.codeRec_of KX hcd) (hb _ _ _ _ ?_)
  refine wpAny_newFunctionEnv_cells S.kind hkind fun env he s1 x => ?_
  subst he
  refine ⟨lim.keeps x.toInCall.keep, codeAny_func ?_⟩
  obtain ⟨t, ht, hq⟩ := hbody A outer s H vs Q E (hr.deeper _) hsp
  have I : Inv (cxOf CX P w K mg base N qual scope f cdv A outer s H E) [] (start N vs) H s1 := inv_start S hr.hd e0 hl r x
  refine wpAny_mono (ht [] s1 (start N vs) H _ I hq) (fun fl s' hs => ?_) fun e s' hs => hs
  have fin : ∀ {σ' : St} {H' : Hp} {v : V} {u : Value}, Inv (cxOf CX P w K mg base N qual scope f cdv A outer s H E) [] σ' H' s' → RelV v u → Q v H' → CE outer P w H s Q u s' :=
    fun {σ' H' v u} J rv q => ⟨v, H', J.os, J.bare, J.base, J.hok, rv, q⟩
  cases fl with
  | ret u =>
    obtain ⟨v, σ', H', J, rv, q⟩ := hs
    exact fin J rv q
  | next =>
    obtain ⟨σ', H', J, q⟩ := hs
    exact fin (v := V.non) (u := Value.none) J rfl q
  | brk =>
    obtain ⟨_, _, _, q⟩ := hs
    exact False.elim q
  | cont =>
    obtain ⟨_, _, _, q⟩ := hs
    exact False.elim q
end L2

namespace L2
open PySem PySem.Spec PyProof.Rows
section
variable {X : Cx} {x : Str} {p pos : Pos} {e : Expr} {es : List Expr} {t : TA} {id T : String} {r : List V → Hp → VK → Prop}

def tCB (r : List V → Hp → VK → Prop) (t : TA) : TE := fun σ H Q => t σ H fun vs H1 => r vs H1 Q
/-- f(e, ..), f a built-in function -/
theorem pe_callB (hc : CallR X (.builtin id) r) (hg : Gl X x) (hm : X.mg x = none) (hv : bootBuiltins x = some (.builtin id)) (ha : PA X (e :: es) t) (hn : x ≠ "__name__" := by decide) (hdb : (x == ("__debug__" : Str)) = false := by decide)
    (he : starEach (e :: es) X.env = (false, eval e X.env) :: starEach es X.env := by rfl) (hpl : (backTo pos (starEach es X.env)).any (·.1) = false := by rfl) : PE X (.Call (.Name x p) (e :: es) [] pos) (tCB r t) := by
  intro pins s σ H Q I h
  refine wpAny_Call_Name_kw (ld_blt I hg hm hv ?_ hn hdb)
  exact PyProof.Rows.callWith_builtin1 (thn (ha pos pins s σ H _ I h) fun us s1 ⟨vs, H1, I1, r1, q1⟩ => hc pins s1 σ H1 vs us Q I1 r1 q1) he hpl
/-- T(e, ..), T a built-in type -/
theorem pe_callTy (hc : CallR X (.type T) r) (hg : Gl X x) (hm : X.mg x = none) (hv : bootBuiltins x = some (.type T)) (ha : PA X (e :: es) t) (hn : x ≠ "__name__" := by decide) (hdb : (x == ("__debug__" : Str)) = false := by decide)
    (he : starEach (e :: es) X.env = (false, eval e X.env) :: starEach es X.env := by rfl) (hpl : (backTo pos (starEach es X.env)).any (·.1) = false := by rfl) : PE X (.Call (.Name x p) (e :: es) [] pos) (tCB r t) := by
  intro pins s σ H Q I h
  refine wpAny_Call_Name_kw (ld_blt I hg hm hv ?_ hn hdb)
  exact PyProof.Rows.callWith_type1 (thn (ha pos pins s σ H _ I h) fun us s1 ⟨vs, H1, I1, r1, q1⟩ => hc pins s1 σ H1 vs us Q I1 r1 q1) he hpl
end
end L2

namespace HT
open PySem PyProof.Rows

/-- t < u of tuples of ints -/
def lexLt : List Int → List Int → Bool
  | [], [] => false
  | [], _ :: _ => true
  | _ :: _, [] => false
  | x :: xs, y :: ys => if x = y then lexLt xs ys else decide (x < y)


section
open PySem.SeqAt
open PySem.AutoSeq1 (wpAny_loadPart')
open PySem.MeetsSeq PySem.MeetsSeq2 PySem.MeetsSeq3

end

section
variable {prog : Program} {w : World} {A : Around} {E : Value → Shared → Prop} {s : Shared}


/-- t + u, t not empty -/
theorem cat_tup {t b : Addr} {vs ws : List Value} {Q : Value → Shared → Prop} (ht : IsTup s.heap t vs.toArray) (hb : IsTup s.heap b ws.toArray) (hv : vs ≠ [])
    (h1 : ws = [] → Q (.ref t) s) (h2 : ws ≠ [] → Q (.ref s.heap.objs.size) { s with heap := s.heap.push { cls := .type "tuple", data := .seq (vs ++ ws).toArray } })
    (hsz : vs.length + ws.length ≤ sizeLine) : wpAny (model prog w) A (binaryOp .Add (.ref t) (.ref b)) Q E s := by
  obtain ⟨⟨cls, dd, data, sl⟩, ho, hc, n, hd⟩ := id ht
  obtain ⟨⟨cls2, dd2, data2, sl2⟩, ho2, hc2, n2, hd2⟩ := id hb
  simp only at hc hd hc2 hd2
  subst hc hd hc2 hd2
  have e : vs.toArray ++ ws.toArray = (vs ++ ws).toArray := by simp
  by_cases hw : ws = []
  · exact concat_meets ⟨_, ho, rfl⟩ ⟨_, ho2, rfl⟩ noFill_tuple_add seq_tuple_add PySem.F.slot_tuple_add PySem.F.entry_tuple_add (PySem.F.args_tuple_add_2 _ _)
      (tuple_addW1 t b vs.toArray ws.toArray n n2 dd dd2 sl sl2 (by simpa using hv) (by simp [hw])) ⟨ho, ho2, h1 hw⟩
  · refine concat_meets ⟨_, ho, rfl⟩ ⟨_, ho2, rfl⟩ noFill_tuple_add seq_tuple_add PySem.F.slot_tuple_add PySem.F.entry_tuple_add (PySem.F.args_tuple_add_2 _ _)
      (tuple_addW2 t b vs.toArray ws.toArray n n2 dd dd2 sl sl2 (by simpa using hv) (by simpa using hw) (by rw [List.size_toArray, List.size_toArray]; exact hsz)) ⟨ho, ho2, ?_⟩
    rw [e]
    exact h2 hw

/-! ### t[a:b], not the whole -/
/-- a slice's bound as a place among n (d where it is left out) -/
def sIx (n d : Nat) : Option Int → Nat
  | none => d
  | some v => if v < 0 then (v + (n : Int)).toNat else min v.toNat n
theorem sIx_none (n d : Nat) : sIx n d none = d := rfl
theorem sIx_nat (n d k : Nat) : sIx n d (some (k : Int)) = min k n := by
  show (if (k : Int) < 0 then ((k : Int) + (n : Int)).toNat else min (k : Int).toNat n) = min k n
  rw [if_neg (by omega), Int.toNat_natCast]
theorem sIx_le (n d : Nat) (hd : d ≤ n) (o : Option Int) : sIx n d o ≤ n := by
  cases o with
  | none => exact hd
  | some v =>
    show (if v < 0 then (v + (n : Int)).toNat else min v.toNat n) ≤ n
    by_cases hv : v < 0
    · rw [if_pos hv]; omega
    · rw [if_neg hv]; exact Nat.min_le_right _ _
theorem clip_eq (v : Int) (n d : Nat) : (if v < 0 then max (v + (n : Int)) 0 else min v (n : Int)) = ((sIx n d (some v) : Nat) : Int) := by
  show (if v < 0 then max (v + (n : Int)) 0 else min v (n : Int)) = (((if v < 0 then (v + (n : Int)).toNat else min v.toNat n) : Nat) : Int)
  by_cases hv : v < 0
  · simp only [if_pos hv]; omega
  · simp only [if_neg hv]; omega
theorem adjust_gen (lo hi : Option Int) (n : Nat) : Builtin.Slice.sliceAdjust lo hi 1 (n : Int) = (((sIx n 0 lo : Nat) : Int), ((sIx n n hi : Nat) : Int)) := by
  have h1 : ¬ ((1 : Int) < 0) := by omega
  unfold Builtin.Slice.sliceAdjust
  simp only [h1, if_false]
  refine Prod.ext ?_ ?_
  · cases lo with
    | none => rfl
    | some v => exact clip_eq v n 0
  · cases hi with
    | none => rfl
    | some v => exact clip_eq v n n
theorem places_gen (i j : Nat) : Builtin.Slice.slicePlaces (i : Int) (j : Int) 1 = j - i := by
  unfold Builtin.Slice.slicePlaces
  have h1 : (1 : Int) > 0 := by omega
  simp only [h1, if_true, Int.ediv_one]
  split <;> omega
theorem slicePart_ {v : Value} {o : Option Int} {Q : Option Int → Shared → Prop} (p : IsPart v o) (h : Q o s) : wpAny (model prog w) A (Builtin.Slice.slicePartIndex v) Q E s := by
  cases p with
  | none => exact slicePart_none h
  | int i t => exact slicePart_int h
theorem sliceApplied_gen {sl : Addr} {vl vu : Value} {lo hi : Option Int} {n : Nat} {Q : Int × Int × Nat → Shared → Prop} (hs : s.heap.IsSliceOf sl vl vu .none) (pl : IsPart vl lo) (pu : IsPart vu hi)
    (h : Q (((sIx n 0 lo : Nat) : Int), 1, sIx n n hi - sIx n 0 lo) s) : wpAny (model prog w) A (Builtin.Slice.sliceApplied (.ref sl) (pure (n : Int))) Q E s := by
  obtain ⟨os, hos, hcs, hds⟩ := id hs
  unfold Builtin.Slice.sliceApplied Builtin.Slice.sliceFields
  refine wpAny_bind (wpAny_bind (wpAny_field hos hds (x := vl) rfl (wpAny_bind (wpAny_field hos hds (x := vu) rfl (wpAny_bind (wpAny_field hos hds (x := .none) rfl (wpAny_pure ?_)))))))
  refine wpAny_bind (slicePart_none ?_)
  show wpAny _ _ (if ((1 : Int) == 0) = true then _ else _) _ _ s
  rw [if_neg (by decide)]
  refine wpAny_bind (slicePart_ pl (wpAny_bind (slicePart_ pu (wpAny_bind (wpAny_pure ?_)))))
  show wpAny _ _ (match Builtin.Slice.sliceAdjust lo hi 1 (n : Int) with | (lo, hi) => pure (lo, (1 : Int), Builtin.Slice.slicePlaces lo hi 1)) _ _ s
  rw [adjust_gen lo hi n]
  show wpAny _ _ (pure (((sIx n 0 lo : Nat) : Int), (1 : Int), Builtin.Slice.slicePlaces ((sIx n 0 lo : Nat) : Int) ((sIx n n hi : Nat) : Int) 1)) _ _ s
  rw [places_gen]
  exact wpAny_pure h
theorem pick_gen (xs : Array Value) (i k : Nat) : ((List.range k).filterMap fun (m : Nat) => xs[((i : Int) + (m : Int) * 1).toNat]?).toArray = ((xs.toList.drop i).take k).toArray := by
  have e : (fun (m : Nat) => xs[((i : Int) + (m : Int) * 1).toNat]?) = fun m => xs[i + m]? := by
    funext m
    have : ((i : Int) + (m : Int) * 1).toNat = i + m := by omega
    rw [this]
  rw [e]
  have := pick_run xs i k
  rw [List.filterMap_map] at this
  have e2 : ((fun x => xs[x]?) ∘ fun x => i + x) = fun m => xs[i + m]? := rfl
  rw [e2] at this
  rw [this]

theorem getItem_tuple_cut {t sl : Addr} {items : Array Value} {vl vu : Value} {lo hi : Option Int} {Q : Value → Shared → Prop} (ht : IsTup s.heap t items) (hs : s.heap.IsSliceOf sl vl vu .none) (pl : IsPart vl lo) (pu : IsPart vu hi)
    (hw : ¬ (sIx items.size 0 lo = 0 ∧ sIx items.size items.size hi = items.size))
    (h : Q (.ref s.heap.objs.size) { s with heap := s.heap.push { cls := .type "tuple", data := .seq ((items.toList.drop (sIx items.size 0 lo)).take (sIx items.size items.size hi - sIx items.size 0 lo)).toArray } })
    (hsz : items.size ≤ sizeLine) : wpAny (model prog w) A (getItem (.ref t) (.ref sl)) Q E s := by
  have htake : sizeOk (.seq ((items.toList.drop (sIx items.size 0 lo)).take (sIx items.size items.size hi - sIx items.size 0 lo)).toArray) := by
    show ((items.toList.drop (sIx items.size 0 lo)).take (sIx items.size items.size hi - sIx items.size 0 lo)).toArray.size ≤ sizeLine
    rw [List.size_toArray, List.length_take, List.length_drop, Array.length_toList]
    omega
  have hj : sIx items.size items.size hi ≤ items.size := sIx_le _ _ (Nat.le_refl _) hi
  obtain ⟨os, hos, hcs, hds⟩ := id hs
  have hTs : s.TypeIs (.ref sl) "slice" := ⟨os, hos, hcs⟩
  unfold getItem
  try with_reducible refine wpAny_holding ?_
  first | refine wpAny_bind (wpAny_pure ?_) | skip
  refine wpAny_bind (wpAny_sequenceKey ht.typeIs (by decide) ?_)
  refine wpAny_bind (wpAny_callSpecial?_slot (name := Str.ofString "__getitem__") ht.typeIs PyProof.Rows.slot_tuple_getitem
    (wpAny_call_entry PyProof.Rows.slot_tuple_getitem ht.typeIs entry_tuple_getitem ?_ (args_tuple_getitem _ _)))
  show wpAny _ _ (Builtin.Tuple.tupleItemsOf (.ref t) >>= _) _ _ s
  refine wpAny_bind (tupleItemsOf_ ht ?_)
  refine wpAny_bind (wpAny_typeOf hTs ?_)
  rw [if_pos (by decide)]
  refine wpAny_bind (sliceApplied_gen hs pl pu ?_)
  have hno : ¬ ((((sIx items.size 0 lo : Nat) : Int) == 0 && (1 : Int) == 1 && (sIx items.size items.size hi - sIx items.size 0 lo) == items.size) = true) := by
    intro q
    rw [Bool.and_eq_true, Bool.and_eq_true] at q
    have q1 : ((sIx items.size 0 lo : Nat) : Int) = 0 := eq_of_beq q.1.1
    have q2 : sIx items.size items.size hi - sIx items.size 0 lo = items.size := eq_of_beq q.2
    exact hw ⟨by omega, by omega⟩
  show wpAny _ _ (if (((sIx items.size 0 lo : Nat) : Int) == 0 && (1 : Int) == 1 && (sIx items.size items.size hi - sIx items.size 0 lo) == items.size) = true then _ else _) _ _ s
  rw [if_neg hno, pick_gen]
  first
    | exact wpAny_bind (m := Builtin.Tuple.tupleExact _) (wpAny_newObj_type (wpAny_pure ⟨_, rfl, wpAny_pure h⟩) htake)
    | exact wpAny_bind (m := Builtin.Tuple.tupleExact _) (wpAny_newObj_type (wpAny_bind (wpAny_pure (wpAny_pure ⟨_, rfl, wpAny_pure h⟩))) htake)
    | exact wpAny_bind (wpAny_bind (m := Builtin.Tuple.tupleExact _) (wpAny_newObj_type (wpAny_pure (wpAny_pure ⟨_, rfl, wpAny_pure h⟩)) htake))
    | exact wpAny_bind (wpAny_bind (m := Builtin.Tuple.tupleExact _) (wpAny_newObj_type (wpAny_pure ⟨_, rfl, wpAny_pure h⟩) htake))
end
end HT

namespace L2
open PySem PySem.Spec PyProof.Rows

/-! ### the parts of a slice -/
abbrev TO := St → Hp → (Option Int → Hp → Prop) → Prop
/-- a slice's part (left out, or an int) -/
def PO (X : Cx) (e : Option Expr) (t : TO) : Prop :=
  ∀ (pins : List (Addr × Obj)) (s : Shared) (σ : St) (H : Hp) (Q : Option Int → Hp → Prop), Inv X pins σ H s → t σ H Q →
    wpAny (model X.prog X.w) X.A (evalPart e X.env) (fun u s' => ∃ o H', Inv X pins σ H' s' ∧ IsPart u o ∧ Q o H') X.xe s
def tNoPart : TO := fun _ H Q => Q none H
def tPart (t : TE) : TO := fun σ H Q => t σ H fun x H1 => ∃ i, x = .int i ∧ Q (some i) H1


section
variable {X : Cx} {e : Expr} {te : TE} {lo hi : Option Expr} {tl th : TO} {pos p2 : Pos}

theorem po_none : PO X none tNoPart := by
  intro pins s σ H Q I h
  rw [evalPart_none]
  exact wpAny_pure ⟨none, H, I, .none, h⟩
theorem po_some (h : PE X e te) : PO X (some e) (tPart te) := by
  intro pins s σ H Q I hw
  rw [evalPart_some]
  refine thn (h pins s σ H _ I hw) fun u s1 ⟨x, H1, I1, r1, q1⟩ => ?_
  obtain ⟨i, rfl, q⟩ := q1
  obtain ⟨t, rfl⟩ := r1
  exact ⟨some i, H1, I1, .int i t, q⟩

/-- what a slice of a value is, by values: the slice object stands at sl -/
def SlR (X : Cx) (r : V → Option Int → Option Int → Hp → VK → Prop) : Prop :=
  ∀ (pins : List (Addr × Obj)) (s : Shared) (σ : St) (H : Hp) (x : V) (v vl vu : Value) (lo hi : Option Int) (sl : Addr) (Q : VK), Inv X pins σ H s → RelV x v → s.heap.IsSliceOf sl vl vu .none → IsPart vl lo → IsPart vu hi → r x lo hi H Q →
    ∃ T id, typeLookup (.type T) "__getitem__" = pure (some (.builtin id)) ∧ s.TypeIs v T ∧ wpAny (model X.prog X.w) X.A (getItem v (.ref sl)) (EP X pins σ Q) X.xe s
theorem SlR.or {r r' : V → Option Int → Option Int → Hp → VK → Prop} (h : SlR X r) (h' : SlR X r') : SlR X (fun x lo hi H Q => r x lo hi H Q ∨ r' x lo hi H Q) := by
  intro pins s σ H x v vl vu lo hi sl Q I rx hs pl pu q
  rcases q with q | q
  · exact h pins s σ H x v vl vu lo hi sl Q I rx hs pl pu q
  · exact h' pins s σ H x v vl vu lo hi sl Q I rx hs pl pu q
def tSl (r : V → Option Int → Option Int → Hp → VK → Prop) (te : TE) (tl th : TO) : TE := fun σ H Q => te σ H fun x H1 => tl σ H1 fun l H2 => th σ H2 fun u H3 => r x l u H3 Q
/-- a[lo:hi], any a -/
theorem pe_slice {r : V → Option Int → Option Int → Hp → VK → Prop} (hr : SlR X r) (he : PE X e te) (hl : PO X lo tl) (hu : PO X hi th) : PE X (.Subscript e (.Slice lo hi none p2) pos) (tSl r te tl th) := by
  intro pins s σ H Q I h
  refine Subscript_ (thn (he pins s σ H _ I h) fun v s1 ⟨x, H1, I1, r1, q1⟩ => ?_)
  refine wpAny_Slice (thn (hl pins s1 σ H1 _ I1 q1) fun vl s2 ⟨l, H2, I2, pl, q2⟩ => thn (hu pins s2 σ H2 _ I2 q2) fun vu s3 ⟨u, H3, I3, pu, q3⟩ => ?_)
  rw [evalPart_none]
  refine wpAny_pure ?_
  have I4 : Inv X pins σ H3 { s3 with heap := s3.heap.push { cls := .type "slice", data := .fields #[vl, vu, .none] } } := I3.kept (t' := s3.toks) fun b ob q => Heap.get?_push_of_some _ q
  obtain ⟨T, id, hT, ht, hg⟩ := hr pins { s3 with heap := s3.heap.push { cls := .type "slice", data := .fields #[vl, vu, .none] } } σ H3 x v vl vu l u s3.heap.objs.size Q I4 r1 (Heap.IsSliceOf.new ..) pl pu q3
  show wpAny (model X.prog X.w) X.A (subscriptTail e (.Slice lo hi none p2) v (.ref s3.heap.objs.size)) (EP X pins σ Q) X.xe { s3 with heap := s3.heap.push { cls := .type "slice", data := .fields #[vl, vu, .none] } }
  exact tail_any (ops := [.ref s3.heap.objs.size, v]) ht hT hg (by with_unfolding_all rfl)

/-- the items of xs[lo:hi] -/
def cutV (xs : List V) (lo hi : Option Int) : List V := (xs.drop (HT.sIx xs.length 0 lo)).take (HT.sIx xs.length xs.length hi - HT.sIx xs.length 0 lo)
theorem cutV_length (xs : List V) (lo hi : Option Int) : (cutV xs lo hi).length ≤ xs.length := by
  unfold cutV
  rw [List.length_take, List.length_drop]
  omega
/-- t[lo:hi], not the whole of it (the whole would be t itself) -/
def rSlT (K : PySem.W.Frag) : V → Option Int → Option Int → Hp → VK → Prop := fun x lo hi H Q => ∃ a xs, x = .ref a ∧ SqT K H a xs ∧
  ¬ (HT.sIx xs.length 0 lo = 0 ∧ HT.sIx xs.length xs.length hi = xs.length) ∧ ∀ p, H p = none → Q (.ref p) (upd H p (.tup (cutV xs lo hi)))
theorem sl_tup : SlR X (rSlT X.K) := by
  intro pins s σ H x v vl vu lo hi sl Q I rx hs pl pu h
  obtain ⟨a, xs, rfl, hx, hw, q⟩ := h
  cases rx
  obtain ⟨its, r, ht, hz⟩ := I.tuple hx
  have hlen : its.toArray.size = xs.length := by rw [List.size_toArray]; exact r.length.symm
  refine ⟨"tuple", _, PyProof.Rows.slot_tuple_getitem.lookup, ht.typeIs, ?_⟩
  refine HT.getItem_tuple_cut ht hs pl pu (by rw [hlen]; exact hw) ?_ (by rw [hlen]; exact hz)
  rw [hlen]
  refine ⟨.ref s.heap.objs.size, _, I.laid (t' := s.toks) (o := .tup (cutV xs lo hi)) (fun b ob q => Heap.get?_push_of_some _ q) (Nat.le_refl _) ?_, rfl, q _ (I.hok.fresh (Nat.le_refl _))⟩
  exact ⟨Nat.le_trans (cutV_length xs lo hi) hz, _, (r.drop (HT.sIx xs.length 0 lo)).take (HT.sIx xs.length xs.length hi - HT.sIx xs.length 0 lo), IsTup.new _ _⟩

/-! ### t < u, t + u -/
def rLtT (K : PySem.W.Frag) : R2 := fun x y H Q => ∃ a b ns ms, x = .ref a ∧ y = .ref b ∧ SqT K H a (ns.map V.int) ∧ SqT K H b (ms.map V.int) ∧ Q (.bl (HT.lexLt ns ms)) H
/-- t + u, t not empty: u empty gives t itself -/
def rCatT (K : PySem.W.Frag) : R2 := fun x y H Q => ∃ a b xs ys, x = .ref a ∧ y = .ref b ∧ SqT K H a xs ∧ SqT K H b ys ∧ xs ≠ [] ∧ xs.length + ys.length ≤ sizeLine ∧
  (ys = [] → Q (.ref a) H) ∧ (ys ≠ [] → ∀ p, H p = none → Q (.ref p) (upd H p (.tup (xs ++ ys))))
theorem Vals.nil_iff {xs : List V} {us : List Value} (r : Vals xs us) : us = [] ↔ xs = [] := by
  cases r with
  | nil => simp
  | cons _ _ => simp
theorem op_catT : OpR X (binaryOp .Add) (rCatT X.K) := by
  intro pins s σ H x y v u Q I rx ry h
  obtain ⟨a, b, xs, ys, rfl, rfl, ha, hb, hx, hz, q1, q2⟩ := h
  cases rx
  cases ry
  obtain ⟨its, r1, p1, _⟩ := I.tuple ha
  obtain ⟨its2, r2, p2, _⟩ := I.tuple hb
  refine HT.cat_tup p1 p2 (fun z => hx (r1.nil_iff.mp z)) (fun z => ⟨.ref a, H, I, rfl, q1 (r2.nil_iff.mp z)⟩) (fun z => ?_) (by rw [← r1.length, ← r2.length]; exact hz)
  refine ⟨.ref s.heap.objs.size, _, I.laid (t' := s.toks) (o := .tup (xs ++ ys)) (fun b ob q => Heap.get?_push_of_some _ q) (Nat.le_refl _) ?_, rfl, q2 (fun w => z (r2.nil_iff.mpr w)) _ (I.hok.fresh (Nat.le_refl _))⟩
  exact ⟨by rw [List.length_append]; exact hz, _, r1.append r2, IsTup.new _ _⟩
end
end L2

namespace L2
open PySem PySem.Spec PyProof.Rows

/-! ### places -/
/-- the place that an index of any sign means -/
def ixN (n : Nat) (i : Int) : Option Nat := if 0 ≤ i then (if i < n then some i.toNat else none) else if -(n : Int) ≤ i then some (i + n).toNat else none
def atI {α : Type} (xs : List α) (i : Int) : Option α := (ixN xs.length i).bind fun j => xs[j]?
theorem ixN_seq {n : Nat} {i : Int} {j : Nat} (h : ixN n i = some j) : seqIndex? i n = some j ∧ j < n ∧ -(n : Int) ≤ i ∧ i < n := by
  unfold ixN at h
  by_cases h0 : 0 ≤ i
  · rw [if_pos h0] at h
    by_cases h1 : i < n
    · rw [if_pos h1] at h
      have e : i.toNat = j := Option.some.inj h
      exact ⟨by rw [seqIndex_of h0 h1, e], by omega, by omega, h1⟩
    · rw [if_neg h1] at h; cases h
  · rw [if_neg h0] at h
    by_cases h1 : -(n : Int) ≤ i
    · rw [if_pos h1] at h
      have e : (i + n).toNat = j := Option.some.inj h
      exact ⟨by rw [seqIndex_neg (by omega) h1, e], by omega, h1, by omega⟩
    · rw [if_neg h1] at h; cases h
theorem atI_get {α : Type} {xs : List α} {i : Int} {v : α} (h : atI xs i = some v) : ∃ j, seqIndex? i xs.length = some j ∧ xs[j]? = some v ∧ j < xs.length ∧ -(xs.length : Int) ≤ i ∧ i < xs.length := by
  unfold atI at h
  cases e : ixN xs.length i with
  | none => rw [e] at h; cases h
  | some j =>
    rw [e] at h
    obtain ⟨h1, h2, h3, h4⟩ := ixN_seq e
    exact ⟨j, h1, h, h2, h3, h4⟩
theorem atI_nat {α : Type} {xs : List α} {j : Nat} {v : α} (h : xs[j]? = some v) : atI xs (j : Int) = some v := by
  have hj : j < xs.length := (List.getElem?_eq_some_iff.mp h).1
  have e : ixN xs.length (j : Int) = some j := by
    unfold ixN
    rw [if_pos (by omega), if_pos (by omega)]; simp
  unfold atI; rw [e]; exact h

/-! ### what may be subscripted -/
/-- what stands as an index of a plain subscript -/
def PlainIx (b : Expr) : Prop := ∀ o i, subscripted b false o i = operate [o, i] (getItem o i)
/-- a subscript by values -/
def IxR (X : Cx) (r : R2) : Prop :=
  ∀ (value slice : Expr) (pins : List (Addr × Obj)) (s : Shared) (σ : St) (H : Hp) (x y : V) (v u : Value) (Q : VK), Inv X pins σ H s → RelV x v → RelV y u → r x y H Q →
    subscripted slice false v u = operate [v, u] (getItem v u) → wpAny (model X.prog X.w) X.A (subscriptTail value slice v u) (EP X pins σ Q) X.xe s
/-- a call of a builtin's method by values: the receiver, the arguments -/
def MtR (X : Cx) (id : String) (r : V → List V → Hp → VK → Prop) : Prop :=
  ∀ (pins : List (Addr × Obj)) (s : Shared) (σ : St) (H : Hp) (x : V) (xs : List V) (v : Value) (us : List Value) (Q : VK), Inv X pins σ H s → RelV x v → Vals xs us → r x xs H Q →
    wpAny (model X.prog X.w) X.A (call (.builtin id) (v :: us)) (EP X pins σ Q) X.xe s
section
variable {X : Cx} {a b : Expr} {ta tb : TE} {pos : Pos}
/-- a[b] -/
theorem pe_ix {r : R2} (hr : IxR X r) (ha : PE X a ta) (hb : PE X b tb) (hs : PlainIx b) : PE X (.Subscript a b pos) (tOp r ta tb) := by
  intro pins s σ H Q I h
  exact Subscript_ (binT ha hb I h fun v u s2 x y H2 I2 rx ry q => hr a b pins s2 σ H2 x y v u Q I2 rx ry q (hs _ _))

def rIxL (K : PySem.W.Frag) : R2 := fun x y H Q => ∃ p xs i v, x = .ref p ∧ y = .int i ∧ SqL K H p xs ∧ atI xs i = some v ∧ Q v H
def rIxT (K : PySem.W.Frag) : R2 := fun x y H Q => ∃ p xs i v, x = .ref p ∧ y = .int i ∧ SqT K H p xs ∧ atI xs i = some v ∧ Q v H
def rIxS : R2 := fun x y H Q => ∃ z i c, x = .str z ∧ y = .int i ∧ z.length ≤ sizeLine ∧ atI z.cps.toList i = some c ∧ Q (.str ⟨#[c]⟩) H
theorem ix_list : IxR X (rIxL X.K) := by
  intro value slice pins s σ H x y v u Q I rx ry h hs
  obtain ⟨p, xs, i, z, rfl, rfl, hq, he, q⟩ := h
  cases rx
  obtain ⟨t, rfl⟩ := ry
  obtain ⟨its, r, pl, hz⟩ := I.list hq
  obtain ⟨j, h1, h2, h3, h4, h5⟩ := atI_get he
  obtain ⟨w, ew, rw'⟩ := r.get h2
  have hl := r.length
  have hn := line63
  have fin : EP X pins σ Q w s := ⟨z, H, I, rw', q⟩
  by_cases h0 : 0 ≤ i
  · have hj : i.toNat = j := by
      rw [seqIndex_of h0 h5] at h1
      exact Option.some.inj h1
    exact item_listR pl.isList h0 (by omega) (by rw [hj]; simpa using ew) fin hs
  · have hj : (i + (its.toArray.size : Int)).toNat = j := by
      rw [seqIndex_neg (by omega) h4] at h1
      rw [List.size_toArray, ← hl]
      exact Option.some.inj h1
    exact subscriptTail_builtinR (x := w) pl.isList.typeIs slot_list_getitem.lookup
      (wpAny_getItem_list_neg (Q := fun r s' => r = w ∧ EP X pins σ Q r s') pl.isList (by omega) (by rw [List.size_toArray] <;> omega) (by omega) (by rw [hj]; simpa using ew) ⟨rfl, fin⟩) hs
theorem ix_tup : IxR X (rIxT X.K) := by
  intro value slice pins s σ H x y v u Q I rx ry h hs
  obtain ⟨p, xs, i, z, rfl, rfl, hq, he, q⟩ := h
  cases rx
  obtain ⟨t, rfl⟩ := ry
  obtain ⟨its, r, pl, hz⟩ := I.tuple hq
  obtain ⟨j, h1, h2, h3, h4, h5⟩ := atI_get he
  obtain ⟨w, ew, rw'⟩ := r.get h2
  have hl := r.length
  have hn := line63
  have fin : EP X pins σ Q w s := ⟨z, H, I, rw', q⟩
  exact subscriptTail_builtinR (x := w) pl.typeIs slot_tuple_getitem.lookup
    (getItem_tuple (j := j) (Q := fun r s' => r = w ∧ EP X pins σ Q r s') pl (by omega) (by omega) (by rw [List.size_toArray, ← hl]; exact h1) (by simpa using ew) ⟨rfl, fin⟩) hs
/-- list, tuple or str -/
def rIx (K : PySem.W.Frag) : R2 := fun x y H Q => rIxL K x y H Q ∨ rIxT K x y H Q ∨ rIxS x y H Q

/-! ### xs[i] = v, any sign -/
/-- the list's object behind a store -/
theorem mapSeq_set (its : List Value) (n j : Nat) (u : Value) : Obj.mapSeq (·.setIfInBounds j u) { cls := .type "list", data := .seq its.toArray n } = { cls := .type "list", data := .seq (its.set j u).toArray n } := by
  simp [Obj.mapSeq]
theorem Inv.lst {pins : List (Addr × Obj)} {σ : St} {H : Hp} {s : Shared} {p : Addr} {xs : List V} (I : Inv X pins σ H s) (h : H p = some (.lst xs)) :
    ∃ (its : List Value) (n : Nat), Vals xs its ∧ s.heap.get? p = some { cls := .type "list", data := .seq its.toArray n } ∧ xs.length ≤ sizeLine := by
  obtain ⟨z, its, n, r, e⟩ := I.hok p _ h
  exact ⟨its, n, r, e, z⟩
/-- the list at p is written by an update of its object -/
theorem Inv.lstUpd {pins : List (Addr × Obj)} {σ : St} {H : Hp} {s : Shared} {p : Addr} {xs ys : List V} {its its' : List Value} {n n' : Nat} {f : Obj → Obj} (I : Inv X pins σ H s) (h : H p = some (.lst xs))
    (ho : s.heap.get? p = some { cls := .type "list", data := .seq its.toArray n }) (hf : f { cls := .type "list", data := .seq its.toArray n } = { cls := .type "list", data := .seq its'.toArray n' }) (r : Vals ys its') (hz : ys.length ≤ sizeLine) (t : Nat) :
    Inv X pins σ (upd H p (.lst ys)) { s with heap := s.heap.update p f, toks := t } := by
  have e : (s.heap.update p f).get? p = some { cls := .type "list", data := .seq its'.toArray n' } := by
    rw [Heap.get?_update_self f ho (by rw [hf] <;> rfl), hf]
  refine I.write (x := p) (e := p) (by rw [h]; trivial) (.inl rfl) (fun b u hb q => (Heap.get?_update_other _ _ (Ne.symm hb)).trans q) ⟨_, e⟩ ?_
  exact ⟨hz, its', n', r, e⟩
def rSetL : V → V → V → Hp → (Hp → Prop) → Prop := fun o i v H Q => ∃ p xs k j, o = .ref p ∧ i = .int k ∧ H p = some (.lst xs) ∧ ixN xs.length k = some j ∧ Q (upd H p (.lst (xs.set j v)))
theorem set_list : PSet X rSetL := by
  intro pins s σ H o i v ov iv u Q I ro ri rv h
  obtain ⟨p, xs, k, j, rfl, rfl, hp, hj, q⟩ := h
  cases ro
  obtain ⟨t, rfl⟩ := ri
  obtain ⟨its, n, r, ho, hz⟩ := I.lst hp
  obtain ⟨h1, h2, h3, h4⟩ := ixN_seq hj
  have hl := r.length
  have hn := line63
  have I' : Inv X pins σ (upd H p (.lst (xs.set j v))) { s with heap := s.heap.update p (Obj.mapSeq (·.setIfInBounds j u)) } :=
    I.lstUpd hp ho (mapSeq_set its n j u) (r.set rv j) (by rw [List.length_set]; exact hz) s.toks
  by_cases h0 : 0 ≤ k
  · have hk : k.toNat = j := by
      rw [seqIndex_of h0 h4] at h1
      exact Option.some.inj h1
    exact PySem.W.ki_setAt ho h0 (by omega) (by rw [List.size_toArray, ← hl]; exact h4) (by rw [hk]; exact ⟨_, I', q⟩)
  · have hk : (k + (its.toArray.size : Int)).toNat = j := by
      rw [seqIndex_neg (by omega) h3] at h1
      rw [List.size_toArray, ← hl]
      exact Option.some.inj h1
    exact PySem.W.ki_setBack ho (by omega) (by rw [List.size_toArray, ← hl]; exact h3) (by omega) (by rw [hk]; exact ⟨_, I', q⟩)

/-! ### slices -/
theorem slice_bounds (lo hi : Option Int) (n : Nat) : (sliceBounds lo hi none n).1 = ((HT.sIx n 0 lo : Nat) : Int) ∧ (sliceBounds lo hi none n).2.1 = ((HT.sIx n n hi : Nat) : Int) ∧ (sliceBounds lo hi none n).2.2 = 1 := by
  refine ⟨?_, ?_, rfl⟩
  · cases lo with
    | none => simp [sliceBounds, HT.sIx]
    | some i =>
      simp only [sliceBounds, HT.sIx, Option.getD_none, show (1 : Int) > 0 by decide, if_true]
      by_cases h : i < 0
      · simp only [h, if_true] <;> omega
      · simp only [h, if_false] <;> omega
  · cases hi with
    | none => simp [sliceBounds, HT.sIx]
    | some i =>
      simp only [sliceBounds, HT.sIx, Option.getD_none, show (1 : Int) > 0 by decide, if_true]
      by_cases h : i < 0
      · simp only [h, if_true] <;> omega
      · simp only [h, if_false] <;> omega
theorem slicePick_cut (its : List Value) (lo hi : Option Int) : slicePick its.toArray lo hi none = ((its.drop (HT.sIx its.length 0 lo)).take (HT.sIx its.length its.length hi - HT.sIx its.length 0 lo)).toArray := by
  obtain ⟨h1, h2, h3⟩ := slice_bounds lo hi its.toArray.size
  unfold slicePick
  rw [h1, h2, h3]
  simp only [sliceRange_one, pick_run, List.size_toArray] <;> rfl
/-- xs[lo:hi] of a list: a new list -/
def rSlL (K : PySem.W.Frag) : V → Option Int → Option Int → Hp → VK → Prop := fun x lo hi H Q => ∃ a xs, x = .ref a ∧ SqL K H a xs ∧ ∀ p, H p = none → Q (.ref p) (upd H p (.lst (cutV xs lo hi)))
theorem sl_list : SlR X (rSlL X.K) := by
  intro pins s σ H x v vl vu lo hi sl Q I rx hs pl pu h
  obtain ⟨a, xs, rfl, hx, q⟩ := h
  cases rx
  obtain ⟨its, r, ht, hz⟩ := I.list hx
  have hlen := r.length
  refine ⟨"list", _, slot_list_getitem.lookup, ht.isList.typeIs, ?_⟩
  refine wpAny_getItem_list_slice ht.isList hs pl pu .none (by simp) ?_ (by rw [List.size_toArray] <;> omega)
  rw [slicePick_cut, ← hlen]
  refine ⟨.ref s.heap.objs.size, _, I.laid (t' := s.toks) (o := .lst (cutV xs lo hi)) (fun b ob q => Heap.get?_push_of_some _ q) (Nat.le_refl _) ?_, rfl, q _ (I.hok.fresh (Nat.le_refl _))⟩
  exact ⟨Nat.le_trans (cutV_length xs lo hi) hz, _, 0, (r.drop (HT.sIx xs.length 0 lo)).take (HT.sIx xs.length xs.length hi - HT.sIx xs.length 0 lo), Heap.get?_push_size _ rfl⟩

/-! ### in, not in: flat items -/
def flatV : V → Bool
  | .non => true
  | .bl _ => true
  | .int _ => true
  | .str _ => true
  | _ => false
/-- == of flat values -/
def eqV : V → V → Bool
  | .non, .non => true
  | .bl a, .bl b => a == b
  | .bl a, .int b => (if a then 1 else 0) == b
  | .int a, .bl b => a == (if b then 1 else 0)
  | .int a, .int b => a == b
  | .str a, .str b => a == b
  | _, _ => false
theorem eqAt_V {A : Around} {s : Shared} {y x : V} {u v : Value} (ry : RelV y u) (rx : RelV x v) (fy : flatV y = true) (fx : flatV x = true) : SeqAt.EqAt A s u v (eqV y x) := by
  cases y with
  | non =>
    cases ry
    cases x with
    | non => cases rx; exact SeqAt.EqAt.same _
    | bl b => cases rx; exact SeqAt.EqAt.none_bool b
    | int b => obtain ⟨t, rfl⟩ := rx; exact SeqAt.EqAt.none_int b t
    | str b => obtain ⟨t, rfl⟩ := rx; exact SeqAt.EqAt.none_str b t
    | _ => exact absurd (show false = true from fx) Bool.false_ne_true
  | bl a =>
    cases ry
    cases x with
    | non => cases rx; exact SeqAt.EqAt.bool_none a
    | bl b => cases rx; exact SeqAt.EqAt.bool_bool a b
    | int b => obtain ⟨t, rfl⟩ := rx; exact SeqAt.EqAt.bool_int a b t
    | str b => obtain ⟨t, rfl⟩ := rx; exact SeqAt.EqAt.bool_str a b t
    | _ => exact absurd (show false = true from fx) Bool.false_ne_true
  | int a =>
    obtain ⟨t', rfl⟩ := ry
    cases x with
    | non => cases rx; exact SeqAt.EqAt.int_none a t'
    | bl b => cases rx; exact SeqAt.EqAt.int_bool a t' b
    | int b => obtain ⟨t, rfl⟩ := rx; exact SeqAt.EqAt.int_int a t' b t
    | str b => obtain ⟨t, rfl⟩ := rx; exact SeqAt.EqAt.int_str a t' b t
    | _ => exact absurd (show false = true from fx) Bool.false_ne_true
  | str a =>
    obtain ⟨t', rfl⟩ := ry
    cases x with
    | non => cases rx; exact SeqAt.EqAt.str_none a t'
    | bl b => cases rx; exact SeqAt.EqAt.str_bool a t' b
    | int b => obtain ⟨t, rfl⟩ := rx; exact SeqAt.EqAt.str_int a t' b t
    | str b => obtain ⟨t, rfl⟩ := rx; exact SeqAt.EqAt.str_str a t' b t
    | _ => exact absurd (show false = true from fx) Bool.false_ne_true
  | _ => exact absurd (show false = true from fy) Bool.false_ne_true
/-- the items' answers, read off the values (a value's own answer does not lean on its token) -/
def eqU (x : V) (u : Value) : Bool := match u with
  | .none => eqV .non x
  | .bool b => eqV (.bl b) x
  | .int i _ => eqV (.int i) x
  | .str z _ => eqV (.str z) x
  | _ => false
theorem eqU_of {x y : V} {u : Value} (r : RelV y u) (f : flatV y = true) : eqU x u = eqV y x := by
  cases y with
  | non => cases r; rfl
  | bl b => cases r; rfl
  | int i => obtain ⟨t, rfl⟩ := r; rfl
  | str z => obtain ⟨t, rfl⟩ := r; rfl
  | _ => exact absurd (show false = true from f) Bool.false_ne_true
theorem any_eqU {x : V} : ∀ {xs : List V} {us : List Value}, Vals xs us → xs.all flatV = true → us.any (eqU x) = xs.any fun y => eqV y x
  | _, _, .nil, _ => rfl
  | y :: xs, u :: us, .cons r t, f => by
    rw [List.all_cons, Bool.and_eq_true] at f
    rw [List.any_cons, List.any_cons, eqU_of r f.1, any_eqU t f.2]
theorem mem_eqAt {A : Around} {s : Shared} {x : V} {v : Value} (rx : RelV x v) (fx : flatV x = true) : ∀ {xs : List V} {us : List Value}, Vals xs us → xs.all flatV = true → ∀ u ∈ us, SeqAt.EqAt A s u v (eqU x u)
  | _, _, .nil, _ => fun u hu => by cases hu
  | y :: xs, u :: us, .cons r t, f => fun u' hu => by
    rw [List.all_cons, Bool.and_eq_true] at f
    rcases List.mem_cons.mp hu with rfl | hu
    · rw [eqU_of r f.1]; exact eqAt_V r rx f.1 fx
    · exact mem_eqAt rx fx t f.2 u' hu
def inV (x : V) (xs : List V) : Bool := xs.any fun y => eqV y x
/-- x in a list or tuple of flat items -/
def rIn (K : PySem.W.Frag) (neg : Bool) : R2 := fun x y H Q => ∃ p xs, y = .ref p ∧ (SqL K H p xs ∨ SqT K H p xs) ∧ flatV x = true ∧ xs.all flatV = true ∧ Q (.bl (if neg then !inV x xs else inV x xs)) H
theorem op_in_seq : OpR X (compareOp .In) (rIn X.K false) := by
  intro pins s σ H x y v u Q I rx ry h
  obtain ⟨p, xs, rfl, hq, fx, fs, q⟩ := h
  cases ry
  rcases hq with hq | hq
  · obtain ⟨its, r, pl, hz⟩ := I.list hq
    refine SeqAt.in_listAt (eqU x) pl.isList (fun w hw => mem_eqAt rx fx r fs w (by simpa using hw)) ⟨.bl _, H, I, rfl, ?_⟩
    rw [show its.toArray.any (eqU x) = its.any (eqU x) by simp, any_eqU r fs]
    exact q
  · obtain ⟨its, r, pl, hz⟩ := I.tuple hq
    refine SeqAt.in_tupleAt (eqU x) pl (fun w hw => mem_eqAt rx fx r fs w (by simpa using hw)) ⟨.bl _, H, I, rfl, ?_⟩
    rw [show its.toArray.any (eqU x) = its.any (eqU x) by simp, any_eqU r fs]
    exact q
theorem op_notIn_seq : OpR X (compareOp .NotIn) (rIn X.K true) := by
  intro pins s σ H x y v u Q I rx ry h
  obtain ⟨p, xs, rfl, hq, fx, fs, q⟩ := h
  cases ry
  rcases hq with hq | hq
  · obtain ⟨its, r, pl, hz⟩ := I.list hq
    refine SeqAt.notIn_listAt (eqU x) pl.isList (fun w hw => mem_eqAt rx fx r fs w (by simpa using hw)) ⟨.bl _, H, I, rfl, ?_⟩
    rw [show its.toArray.any (eqU x) = its.any (eqU x) by simp, any_eqU r fs]
    exact q
  · obtain ⟨its, r, pl, hz⟩ := I.tuple hq
    refine SeqAt.notIn_tupleAt (eqU x) pl (fun w hw => mem_eqAt rx fx r fs w (by simpa using hw)) ⟨.bl _, H, I, rfl, ?_⟩
    rw [show its.toArray.any (eqU x) = its.any (eqU x) by simp, any_eqU r fs]
    exact q

/-! ### len, list(x), tuple(x) of any list or tuple that is read -/
theorem call_len_seq : CallR X (.builtin "len") (fun xs H Q => ∃ p ys, xs = [.ref p] ∧ (SqL X.K H p ys ∨ SqT X.K H p ys) ∧ Q (.int ys.length) H) := by
  intro pins s σ H xs us Q I r h
  obtain ⟨p, ys, rfl, hq, q⟩ := h
  obtain ⟨u, rfl, rx⟩ := vals1 r
  cases rx
  have hn := line63
  rcases hq with hq | hq
  · obtain ⟨its, r', pl, hz⟩ := I.list hq
    have hlen := r'.length
    exact Calls.call_len_list pl.isList (by simp only [List.size_toArray] <;> omega) ⟨.int ys.length, H, I.tok _, ⟨s.toks + 1, by rw [List.size_toArray, hlen]⟩, q⟩
  · obtain ⟨its, r', pl, hz⟩ := I.tuple hq
    have hlen := r'.length
    exact len_tuple pl (by simp only [List.size_toArray] <;> omega) ⟨.int ys.length, H, I.tok _, ⟨s.toks + 1, by rw [List.size_toArray, hlen]⟩, q⟩
theorem call_list_of : CallR X (.type "list") (fun xs H Q => ∃ p ys, xs = [.ref p] ∧ (SqL X.K H p ys ∨ SqT X.K H p ys) ∧ ∀ l, H l = none → Q (.ref l) (upd H l (.lst ys))) := by
  intro pins s σ H xs us Q I r h
  obtain ⟨p, ys, rfl, hq, q⟩ := h
  obtain ⟨u, rfl, rx⟩ := vals1 r
  cases rx
  have fin : ∀ (its : List Value), Vals ys its → ys.length ≤ sizeLine → ∀ (h' : Heap) (c' : Nat), (∀ b o', s.heap.get? b = some o' → h'.get? b = some o') →
      h'.get? s.heap.objs.size = some { cls := .type "list", dict := none, data := .seq its.toArray c', slots := #[] } → EP X pins σ Q (.ref s.heap.objs.size) { s with heap := h' } := fun its r' hz h' c' kp e =>
    ⟨.ref s.heap.objs.size, _, I.laid (t' := s.toks) kp (Nat.le_refl _) (show ObjOk X.prog X.w _ h' _ (.lst ys) from ⟨hz, its, c', r', e⟩), rfl, q _ (I.hok.fresh (Nat.le_refl _))⟩
  rcases hq with hq | hq
  · obtain ⟨its, r', pl, hz⟩ := I.list hq
    have hlen := r'.length
    obtain ⟨o, ho, hc, n, hd⟩ := pl.isList
    exact call_list_seq p (.inl rfl) ho hc hd (fun h' c' kp e => fin its r' hz h' c' kp e) (by simp only [List.size_toArray] <;> omega)
  · obtain ⟨its, r', pl, hz⟩ := I.tuple hq
    have hlen := r'.length
    obtain ⟨o, ho, hc, n, hd⟩ := pl
    exact call_list_seq p (.inr rfl) ho hc hd (fun h' c' kp e => fin its r' hz h' c' kp e) (by simp only [List.size_toArray] <;> omega)
theorem call_tuple_of : CallR X (.type "tuple") (fun xs H Q => ∃ p ys, xs = [.ref p] ∧ ((SqL X.K H p ys ∧ ∀ l, H l = none → Q (.ref l) (upd H l (.tup ys))) ∨ (SqT X.K H p ys ∧ Q (.ref p) H))) := by
  intro pins s σ H xs us Q I r h
  obtain ⟨p, ys, rfl, h⟩ := h
  obtain ⟨u, rfl, rx⟩ := vals1 r
  cases rx
  rcases h with ⟨hq, q⟩ | ⟨hq, q⟩
  · obtain ⟨its, r', pl, hz⟩ := I.list hq
    have hlen := r'.length
    refine call_tuple_list pl.isList (fun h' kp => ?_) (by simp only [List.size_toArray] <;> omega)
    have I1 : Inv X pins σ H { s with heap := h' } := I.kept (t' := s.toks) kp
    have I2 : Inv X pins σ (upd H h'.objs.size (.tup ys)) { s with heap := h'.push { cls := .type "tuple", data := .seq its.toArray } } :=
      I1.laid (t' := s.toks) (fun b o e => Heap.get?_push_of_some _ e) (Nat.le_refl _) (show ObjOk X.prog X.w _ _ _ (.tup ys) from ⟨hz, its, r', IsTup.new _ _⟩)
    exact ⟨.ref h'.objs.size, _, I2, rfl, q _ (I1.hok.fresh (Nat.le_refl _))⟩
  · obtain ⟨its, r', pl, hz⟩ := I.tuple hq
    exact call_tuple_same pl ⟨.ref p, H, I, rfl, q⟩

/-! ### the call of a builtin's method: o.m(..) -/
/-- the value is of that builtin type -/
def tyV (K : PySem.W.Frag) (T : String) (x : V) (H : Hp) : Prop := match x with
  | .str _ => T = "str"
  | .int _ => T = "int"
  | .ref p => (T = "list" ∧ ∃ xs, SqL K H p xs) ∨ (T = "tuple" ∧ ∃ o, K.lookup p = some o ∧ o.cls = .type "tuple" ∧ o.dict = none) ∨
      (T = "dict" ∧ ((∃ kvs, H p = some (.dK kvs)) ∨ ∃ kvs, H p = some (.dT kvs))) ∨ (T = "set" ∧ ∃ S n, H p = some (.set S n))
  | _ => False
theorem tyV_is {pins : List (Addr × Obj)} {σ : St} {H : Hp} {s : Shared} {T : String} {x : V} {v : Value} (I : Inv X pins σ H s) (r : RelV x v) (ty : tyV X.K T x H) :
    s.TypeIs v T ∧ ∀ a, v = .ref a → ∃ ob, s.heap.get? a = some ob ∧ ob.dict = none := by
  cases x with
  | str z =>
    obtain ⟨t, rfl⟩ := r
    cases (show T = "str" from ty)
    exact ⟨typeIs_str s z t, fun _ e => nomatch e⟩
  | int i =>
    obtain ⟨t, rfl⟩ := r
    cases (show T = "int" from ty)
    exact ⟨typeIs_int s i t, fun _ e => nomatch e⟩
  | ref p =>
    cases r
    rcases ty with ⟨rfl, xs, hq⟩ | ⟨rfl, o, hk, hc, hd⟩ | ⟨rfl, hk⟩ | ⟨rfl, S, n, hk⟩
    · obtain ⟨its, _, pl, _⟩ := I.list hq
      refine ⟨pl.isList.typeIs, fun a e => ?_⟩
      cases e
      obtain ⟨o, n, e, c, hd, _⟩ := pl
      exact ⟨o, e, hd⟩
    · refine ⟨⟨o, I.kIn p o hk, hc⟩, fun a e => ?_⟩
      cases e
      exact ⟨o, I.kIn _ o hk, hd⟩
    · have z : ∃ o, s.heap.get? p = some o ∧ o.ExactDict := by
        rcases hk with ⟨kvs, hk⟩ | ⟨kvs, hk⟩
        · obtain ⟨_, _, _, _, o, _, _, e, ex, _⟩ := I.hok p _ hk
          exact ⟨o, e, ex⟩
        · obtain ⟨_, _, _, _, o, _, _, e, ex, _⟩ := I.hok p _ hk
          exact ⟨o, e, ex⟩
      obtain ⟨o, e, ex⟩ := z
      refine ⟨⟨o, e, ex.1⟩, fun a e2 => ?_⟩
      cases e2
      exact ⟨o, e, ex.2.1⟩
    · obtain ⟨o, _, _, _, e, ex, _⟩ := I.hok p _ hk
      refine ⟨⟨o, e, ex.1⟩, fun a e2 => ?_⟩
      cases e2
      exact ⟨o, e, ex.2.1⟩
  | _ => exact False.elim ty
def tBM0 (K : PySem.W.Frag) (T : String) (r : V → List V → Hp → VK → Prop) (to : TE) : TE := fun σ H Q => to σ H fun x H1 => tyV K T x H1 ∧ r x [] H1 Q
def tBM (K : PySem.W.Frag) (T : String) (r : V → List V → Hp → VK → Prop) (to : TE) (t : TA) : TE := fun σ H Q => to σ H fun x H1 => tyV K T x H1 ∧ t σ H1 fun xs H2 => r x xs H2 Q
variable {o e : Expr} {es : List Expr} {to : TE} {t : TA} {name : Str} {apos cpos : Pos} {T id : String} {r : V → List V → Hp → VK → Prop}
theorem pe_bm (pa : PlainAttrs T) (slot : Slot T name id) (hty : typeOf (.builtin id) = pure (.type "method_descriptor")) (hm : MtR X id r) (ho : PE X o to) (ha : PA X (e :: es) t)
    (hbase : attributeBase o name X.env (eval o X.env) = eval o X.env := by rfl)
    (hfew : ((backTo cpos (starEach (e :: es) X.env)).all (fun x => !x.1) && (backToKw cpos (keywordEach [] X.env)).all (fun x => x.1.isSome)
      && decide ((e :: es).length + ([] : List Keyword).length + (if ([] : List Keyword).isEmpty then 0 else 1) < 30)) = true := by rfl)
    (hline : (apos.endLine == cpos.line) = true := by rfl) (hs : starEach (e :: es) X.env = (false, eval e X.env) :: starEach es X.env := by rfl) (hplain : (backTo cpos (starEach es X.env)).any (·.1) = false := by rfl) :
    PE X (.Call (.Attribute o name apos) (e :: es) [] cpos) (tBM X.K T r to t) := by
  intro pins s σ H Q I h
  refine wpAny_Call_method_late hbase hfew hline rfl (thn (ho pins s σ H _ I h) fun v s1 ⟨x, H1, I1, r1, ty, q1⟩ => ?_)
  obtain ⟨h1, h2⟩ := tyV_is I1 r1 ty
  refine ⟨T, id, pa, slot, hty, h1, h2, ?_⟩
  have hA := ha cpos pins s1 σ H1 _ I1 q1
  rw [hs] at hA ⊢
  refine Calls.callWith_builtin (by show (false || (backTo cpos (starEach es X.env)).any (·.1)) = false; rw [hplain] <;> rfl) (Calls.evalArgs_plain ?_)
  exact thn hA fun us s2 ⟨vs, H2, I2, r2, q2⟩ => hm pins s2 σ H2 x vs v us Q I2 r1 r2 q2
/- xs.append(e), list.index on a module's tuple .. are MtR facts of 06m -/
end
end L2

namespace L2
open PySem PySem.Spec PyProof.Rows

def MtM (X : Cx) (id : String) (r : V → List V → Hp → VK → Prop) : Prop :=
  ∀ (pins : List (Addr × Obj)) (s : Shared) (σ : St) (H : Hp) (x : V) (xs : List V) (v : Value) (us : List Value) (Q : VK), Inv X pins σ H s → RelV x v → Vals xs us → r x xs H Q →
    wpAny (model X.prog X.w) X.A (call (.builtin id) (v :: us)) (EP X pins σ Q) X.xe s

/-! ### lists of values -/
theorem Vals.one : ∀ {x : V} {us : List Value}, Vals [x] us → ∃ u, us = [u] ∧ RelV x u
  | _, _, .cons r .nil => ⟨_, rfl, r⟩

section
variable {X : Cx} {pins : List (Addr × Obj)} {σ : St} {H : Hp} {s : Shared} {l b : Addr} {xs ys zs : List V}

/-! ### the two steps: a tracked list is rewritten, a new list is laid -/
theorem Inv.lset {its its' : List Value} {n : Nat} {f : Array Value → Array Value} {t' : Nat} (I : Inv X pins σ H s) (hH : H l = some (.lst xs))
    (e : s.heap.get? l = some { cls := .type "list", data := .seq its.toArray n }) (hf : f its.toArray = its'.toArray) (hv : Vals ys its') (hz : ys.length ≤ sizeLine) :
    Inv X pins σ (upd H l (.lst ys)) { s with heap := s.heap.update l (Obj.mapSeq f), toks := t' } := by
  have q := PySem.IsL.update e f
  rw [hf] at q
  refine I.write (x := l) (e := l) (by rw [hH]; exact trivial) (.inl rfl) (fun b' u hb hu => (Heap.get?_update_other s.heap (Obj.mapSeq f) (Ne.symm hb)).trans hu) ⟨_, q⟩ ?_
  exact ⟨hz, its', _, hv, q⟩
theorem Inv.lnew {its : List Value} {t' : Nat} (I : Inv X pins σ H s) (hv : Vals ys its) (hz : ys.length ≤ sizeLine) :
    Inv X pins σ (upd H s.heap.objs.size (.lst ys)) { s with heap := s.heap.push { cls := .type "list", data := .seq its.toArray }, toks := t' } :=
  I.laid (fun _ _ q => Heap.get?_push_of_some _ q) (Nat.le_refl _) ⟨hz, its, 0, hv, Heap.get?_push_size _ rfl⟩
theorem Inv.fresh (I : Inv X pins σ H s) : H s.heap.objs.size = none := I.hok.fresh (Nat.le_refl _)
theorem Inv.lstM (I : Inv X pins σ H s) (hH : H l = some (.lst xs)) : xs.length ≤ sizeLine ∧ ∃ (its : List Value) (n : Nat), Vals xs its ∧ xs.length = its.length ∧ s.heap.get? l = some { cls := .type "list", data := .seq its.toArray n } := by
  obtain ⟨z, its, n, r, e⟩ := I.hok l _ hH
  exact ⟨z, its, n, r, r.length, e⟩

end

section
variable {X : Cx}

/-! ### methods -/
def rAppend : V → List V → Hp → VK → Prop := fun x vs H Q => ∃ l xs y, x = .ref l ∧ vs = [y] ∧ H l = some (.lst xs) ∧ xs.length < sizeLine ∧ Q .non (upd H l (.lst (xs ++ [y])))
theorem mt_append : MtM X "list.append" rAppend := by
  intro pins s σ H x vs v us Q I rx rv h
  obtain ⟨l, xs, y, rfl, rfl, hH, hz, q⟩ := h
  cases rx
  obtain ⟨u, rfl, ru⟩ := rv.one
  obtain ⟨z, its, n, r, hl, e⟩ := I.lstM hH
  refine call_meets F.slot_list_append ⟨_, e, rfl⟩ F.entry_list_append (F.args_list_append_2 _ _) (PySem.list_append l its.toArray n u (by rw [List.size_toArray]; omega)) ⟨e, ?_⟩
  refine ⟨.non, _, I.lset (its' := its ++ [u]) hH e (by simp) (r.append (.cons ru .nil)) ?_, rfl, q⟩
  rw [List.length_append, List.length_singleton]
  omega

def rExtend : V → List V → Hp → VK → Prop := fun x vs H Q => ∃ l b xs zs, x = .ref l ∧ vs = [.ref b] ∧ H l = some (.lst xs) ∧ H b = some (.lst zs) ∧ xs.length + zs.length ≤ sizeLine ∧ Q .non (upd H l (.lst (xs ++ zs)))

def rPop : V → List V → Hp → VK → Prop := fun x vs H Q => ∃ l xs y, x = .ref l ∧ vs = [] ∧ H l = some (.lst xs) ∧ xs[xs.length - 1]? = some y ∧ Q y (upd H l (.lst xs.dropLast))

def rPopAt : V → List V → Hp → VK → Prop := fun x vs H Q => ∃ l xs i k y, x = .ref l ∧ vs = [.int i] ∧ H l = some (.lst xs) ∧ -(2 ^ 63) ≤ i ∧ i < 2 ^ 63 ∧ seqIndex? i xs.length = some k ∧ xs[k]? = some y ∧ Q y (upd H l (.lst (xs.eraseIdx k)))

def rReverse : V → List V → Hp → VK → Prop := fun x vs H Q => ∃ l xs, x = .ref l ∧ vs = [] ∧ H l = some (.lst xs) ∧ Q .non (upd H l (.lst xs.reverse))

def rClear : V → List V → Hp → VK → Prop := fun x vs H Q => ∃ l xs, x = .ref l ∧ vs = [] ∧ H l = some (.lst xs) ∧ Q .non (upd H l (.lst []))

/-! ### list + list, list += list, list * int -/
def rCat : R2 := fun x y H Q => ∃ l b xs zs, x = .ref l ∧ y = .ref b ∧ H l = some (.lst xs) ∧ H b = some (.lst zs) ∧ xs.length + zs.length ≤ sizeLine ∧ ∀ p, H p = none → Q (.ref p) (upd H p (.lst (xs ++ zs)))
theorem op_cat : OpR X (binaryOp .Add) rCat := by
  intro pins s σ H x y v u Q I rx ry h
  obtain ⟨l, b, xs, zs, rfl, rfl, hH, hB, hz, q⟩ := h
  cases rx
  cases ry
  obtain ⟨z, its, n, r, hl, e⟩ := I.lstM hH
  obtain ⟨z2, its2, n2, r2, hl2, e2⟩ := I.lstM hB
  refine PySem.P.add_list e e2 ?_ (by rw [List.size_toArray, List.size_toArray]; omega)
  have ea : its.toArray ++ its2.toArray = (its ++ its2).toArray := by simp
  rw [ea]
  exact ⟨.ref _, _, I.lnew (t' := s.toks) (r.append r2) (by rw [List.length_append]; omega), rfl, q _ I.fresh⟩
/-- a list times an int (a negative one is nothing) -/
def rRep : R2 := fun x y H Q => ∃ l k xs, x = .ref l ∧ y = .int k ∧ H l = some (.lst xs) ∧ -(2 ^ 63) ≤ k ∧ k < 2 ^ 63 ∧ xs.length * k.toNat ≤ sizeLine ∧
  ∀ p, H p = none → Q (.ref p) (upd H p (.lst (List.replicate k.toNat xs).flatten))

/-! ### del xs[i] -/
end

/-! ### xs[a:b] = ys -/
section
variable {prog : Program} {w : World} {A : Around} {E : Value → Shared → Prop} {s : Shared}
end

section
variable {X : Cx}
end
end L2

namespace Att
open PySem PySem.W PySem.Calls PyProof.Rows

/-! ### the script -/
theorem ints_of_wellAll {P : Params} {h : Heap} : ∀ (ns : List Int) (vs : List Value), WellAll P h vs (ns.map WData.int) → IntsAre vs ns := by
  intro ns
  induction ns with
  | nil =>
    intro vs w
    rw [List.map_nil] at w
    cases w
    exact .nil
  | cons n ns ih =>
    intro vs w
    rw [List.map_cons] at w
    cases w with
    | cons a b =>
      cases a
      exact .cons _ _ (ih _ b)

theorem script_of {l : OpenLaw} {n : Nat} (hn : l.most = some n) {P : Params} {h : Heap} {args : List WData} {vals : List Value}
    (hpre : l.row.toRowW.claim.pre args = true) (hwl : WellAll P h vals args) :
    ∃ a vs ns, vals = [Value.ref a] ∧ args = [WData.list (ns.map WData.int)] ∧ h.get? a = some { cls := .type "list", data := .seq vs.toArray } ∧ IntsAre vs ns ∧ ns.length ≤ n := by
  have hsh : WShape.hasAll [] args [.list .int] = true := (pre_splitW hpre).1
  have hc : l.pre.holds [] { args := args } = true := (pre_splitW hpre).2
  obtain ⟨d, r, rfl, h1, h2⟩ := hasAllW_cons hsh
  obtain rfl := hasAllW_nil h2
  obtain ⟨xs, rfl, h3⟩ := hasW_list h1
  obtain ⟨ns, rfl⟩ := items_int h3
  have hlen : ns.length ≤ n := by
    unfold OpenLaw.pre at hc
    have h4 : (WTm.not (.lt (.lit (.int (n : Int))) (.len (.arg 0)))).holds [] { args := [.list (ns.map .int)] } = true := by
      have h4 := (holds_andW hc).1
      rw [hn] at h4
      exact h4
    have h5 := condW_of h4 (w_not (w_lt w_lit (w_len_list (w_arg rfl))))
    rw [List.length_map] at h5
    refine Nat.le_of_not_lt fun q => ?_
    have q' : (n : Int) < ((ns.length : Nat) : Int) := by omega
    first
      | (rw [decide_eq_true q'] at h5; exact absurd h5 (by decide))
      | (simp at h5; omega)
  cases hwl with
  | cons w1 w2 =>
    cases w2
    cases w1 with
    | list ho hall => exact ⟨_, _, ns, rfl, rfl, ho, ints_of_wellAll ns _ hall, hlen⟩

theorem post_true (l : OpenLaw) (args : List WData) : l.row.toRowW.claim.post args (.bool true) args = true :=
  postW_of (r := l.row.toRowW) (X := (true == true))
    (show WShape.has [] (.bool true) .bool = true by first | rfl | decide | simp [WShape.has, WShape.arms, WShape.armsAll])
    (show (WTm.eq .res (.lit (.bool true))).value [] { args := args, res := some (.bool true), after := args } = some (.bool (true == true)) from w_eq_bool (w_res rfl) w_lit) rfl

/-! ### the attachment: holds_open's last premise (the goal 'hc' behind k_head) from a wpAny of the law's body -/

/-- the same from a codeAny of the CALL (for a layer whose function contracts speak of calls) -/
theorem attach_call {l : OpenLaw} {n : Nat} {q : Program} {loose : List Str} {XP : (Str → Option Value) → Heap → Prop} {YP : World → Heap → Prop} {d : DefRec}
    (hn : l.most = some n) (hdf : d.params.defaults = [])
    (call : ∀ (w : World) (s₀ s₁ : Shared) (mg mb : Str → Option Value) (fa : Addr) (o : Obj) (pm cd doc : Value) (a : Addr) (vs : List Value) (ns : List Int),
      Ground q loose [] XP w s₀ mg mb s₁.heap → YP w s₁.heap →
      s₁.heap.get? fa = some o → o.data = .func (docDef d.name d.params d.body d.scope pm cd doc) → s₁.heap.CodeRec cd d.name → mg d.name = some (.ref fa) →
      s₁.heap.get? a = some { cls := .type "list", data := .seq vs.toArray } → IntsAre vs ns → ns.length ≤ n → s₁.gens = #[] →
      codeAny (model l.prog w) callerA (.call (.ref fa) ⟨[.ref a], []⟩) (fun r s' => r = .ok (.ret (.bool true)) ∧ OldK s₁.heap s'.heap ∧ s'.os = s₁.os ∧ AllBare s'.gens) s₁) :
    WalkO q loose XP YP l.row.toRowW d [] (fun f vs => PySem.call f vs) := by
  intro w s₀ s₁ mg mb G Y fa o pm cd doc dV kV ho hd hcd hD hmg hg args vals as hpre hlay hrd hwl hlo
  obtain rfl : dV = .none := Dflts.none hD hdf
  obtain rfl : kV = .none := Dflts.noKw hD
  obtain ⟨a, vs, ns, rfl, rfl, hobj, hints, hlen⟩ := script_of hn hpre hwl
  refine enter_call (codeAny_mono (call w s₀ s₁ mg mb fa o pm cd doc a vs ns G Y ho (fd_plain hd) hcd hmg hobj hints hlen hg) fun r s' hq => ?_)
  obtain ⟨rfl, h2, h3, h4⟩ := hq
  exact ⟨.inl ⟨.bool true, .bool true, [], rfl, fun _ => rfl, .bool true, post_true l _, fun _ => ⟨List.Pairwise.nil, fun _ hm => (nomatch hm)⟩⟩, h2, h3, h4⟩


/-! ### rules over ANY heap (no ledger) from facts about the written part K: the library's own take a ledger (News) for what they write -/
section
variable {prog : Program} {w : World} {A : Around} {E : Value → Shared → Prop} {s : Shared} {K : Frag}





/-! the whole heap as the ledger: makes every rule that writes through a ledger a rule over any heap -/
def noObjs (h : Heap) : Heap := { h with objs := #[] }
def ledger (h : Heap) (L d : Addr) : List (Addr × Obj) := (List.range h.objs.size).filterMap fun a => if a = L ∨ a = d then none else (h.get? a).map fun o => (a, o)

end
end Att

namespace L2
open PySem PySem.Spec PyProof.Rows

theorem vals_ints : ∀ {vs : List Value} {ns : List Int}, IntsAre vs ns → Vals (ns.map V.int) vs
  | _, _, .nil => .nil
  | _, _, .cons n t h => .cons ⟨t, rfl⟩ (vals_ints h)

/-- nothing is tracked but the script, known to the object (or it is an object of the module) -/
def Only (H : Hp) : Prop := ∀ b, H b = none ∨ ∃ o xs, H b = some (.frz o (.lst xs))

/-- THE HEAD: the law's promise, at the heap behind the top. F, the promise of the law's def, may use that base is part of the heap (so K.In base, base.Ns mainGlobals mg stand in Mod) -/
theorem law_call {P : Program} {w : World} {K : PySem.W.Frag} {mg mb : Str → Option Value} {CX : CXT} {k : Nat} {fa a : Addr} {fd : FuncData} {x : Str} {sp : Sp} {s₁ : Shared} {vs : List Value} {ns : List Int}
    (KX : K.In s₁.heap) (hns : s₁.heap.Ns mainGlobals mg) (hb : s₁.heap.Ns builtinsNs mb) (hbb : ∀ x : Str, x ≠ "__name__" → mb x = bootBuiltins x) (hlim : s₁.heap.NoLimit) (hg : s₁.gens = #[])
    (ha : s₁.heap.get? a = some { cls := .type "list", data := .seq vs.toArray }) (hi : IntsAre vs ns) (hl : ns.length ≤ sizeLine) (hr : Room k callerA)
    (F : ∀ base : Heap, K.In base → base.Ns mainGlobals mg → FnOk P w K mg base CX k fa fd [x] sp) (hbind : ∀ (s : Shared) (u : Value), BindsTo s fd ⟨[u], []⟩ [(x, u)])
    (hsp : ∀ H : Hp, Only H → SqL K H a (ns.map V.int) → sp [.ref a] H (fun v _ => v = .bl true) fun _ _ _ => False)
    (hCX : ∀ H e s', CX [] H s₁ (fun _ _ _ => False) e s' → False) :
    codeAny (model P w) callerA (.call (.ref fa) ⟨[.ref a], []⟩) (fun r s' => r = .ok (.ret (.bool true)) ∧ OldK s₁.heap s'.heap ∧ s'.os = s₁.os ∧ AllBare s'.gens) s₁ := by
  have rv := vals_ints hi
  have lenV := hi.length
  -- from an abstract heap in which nothing but the script may be tracked
  have core : ∀ H : Hp, Only H → SqL K H a (ns.map V.int) → HOk P w H s₁.heap → (∀ b, H b ≠ none → b = a) → (H a ≠ none → K.lookup a = none) →
      codeAny (model P w) callerA (.call (.ref fa) ⟨[.ref a], []⟩) (fun r s' => r = .ok (.ret (.bool true)) ∧ OldK s₁.heap s'.heap ∧ s'.os = s₁.os ∧ AllBare s'.gens) s₁ := by
    intro H hO hS hok hA hK
    have base_of : ∀ {b : Addr} {o : Obj}, s₁.heap.get? b = some o → H b = none → (hidT s₁.heap H).get? b = some o := fun e n => hidT_get e n
    have noA : ∀ {b : Addr} {o : Obj} {es : Array DictEntry} {ep : Nat}, s₁.heap.get? b = some o → o.data = .dict es ep → H b = none := fun {b o es ep} e d => by
      cases q : H b with
      | none => rfl
      | some u =>
        have e' : b = a := hA b (by rw [q]; simp)
        subst e'
        rw [ha] at e; cases e
        have d' : Data.seq vs.toArray _ = Data.dict es ep := d
        cases d'
    have nsK : ∀ {b : Addr} {m : Str → Option Value}, s₁.heap.Ns b m → (hidT s₁.heap H).Ns b m := fun {b m} ⟨o, es, ep, e, d, r⟩ => ⟨o, es, ep, base_of e (noA e d), d, r⟩
    have hKb : K.In (hidT s₁.heap H) := fun b o e => base_of (KX b o e) (by
      cases q : H b with
      | none => rfl
      | some u =>
        have e' : b = a := hA b (by rw [q]; simp)
        subst e'
        rw [hK (by rw [q]; simp)] at e; cases e)
    have hM : Mod K mg (hidT s₁.heap H) := ⟨hKb, nsK hns, ⟨mb, nsK hb, hbb⟩, let ⟨mc, h1, h2⟩ := hlim; ⟨mc, nsK h1, h2⟩⟩
    have e0 : Env0 P w K mg (hidT s₁.heap H) callerA [] s₁ H := ⟨rfl, hM, fun b o e => of_hidT e, Nat.le_of_eq (hidT_size _ _), trivial, fun b hb => absurd (show b ∈ ([] : List Addr) from hb) (by simp), hok, .of_eq hg⟩
    refine codeAny_mono ((F _ hKb (nsK hns)).run callerA [] s₁ H ⟨[.ref a], []⟩ [.ref a] [.ref a] _ _ hr e0 (hbind s₁ (.ref a)) (.cons rfl .nil) (hsp H hO hS)) fun r s' h => ?_
    cases r with
    | error e => exact (hCX H e s' h).elim
    | ok fl =>
      cases fl with
      | next => exact False.elim h
      | brk => exact False.elim h
      | cont => exact False.elim h
      | ret u =>
        obtain ⟨v, H', os, bare, un, hok', r', q⟩ := h
        have q' : v = .bl true := q
        subst q'
        obtain rfl : u = Value.bool true := r'
        refine ⟨rfl, OldK.of_keep fun b o e => ?_, os, bare⟩
        cases q : H b with
        | none => exact un.keep b o e q (by intro z; exact absurd (show b ∈ ([] : List Addr) from z) (by simp)) (by simp)
        | some u =>
          rcases hO b with z | ⟨ob, xs, z⟩
          · rw [q] at z; cases z
          · have z2 := un.frzs b ob _ z
            obtain ⟨e1, _⟩ := hok b _ z
            obtain ⟨e2, _⟩ := hok' b _ z2
            rw [e] at e1; cases e1
            exact e2
  cases hk : K.lookup a with
  | some o =>
    -- the script is one of the module's own objects
    have e := KX a o hk
    rw [ha] at e
    cases e
    refine core (fun _ => none) (fun _ => .inl rfl) (.inr ⟨_, vs.toArray, _, hk, rfl, rfl, rfl, by rw [List.size_toArray, lenV]; exact hl, by simpa using rv⟩) (fun b u z => by have z' : (none : Option HO) = some u := z; cases z') (fun b z => absurd rfl z) fun z => absurd rfl z
  | none =>
    refine core (fun b => if b = a then some (.frz { cls := .type "list", data := .seq vs.toArray } (.lst (ns.map V.int))) else none) (fun b => ?_) (.inl (.inr ⟨{ cls := .type "list", data := .seq vs.toArray }, if_pos rfl⟩)) (fun b u z => ?_) (fun b z => ?_) fun _ => hk
    · by_cases hb : b = a
      · exact .inr ⟨_, _, if_pos hb⟩
      · exact .inl (if_neg hb)
    · by_cases hb : b = a
      · have z' := (if_pos hb).symm.trans z
        cases z'
        subst hb
        exact ⟨ha, by rw [List.length_map]; exact hl, vs, _, rv, ha⟩
      · have z' := (if_neg hb).symm.trans z
        cases z'
    · by_cases hb : b = a
      · exact hb
      · exact absurd (if_neg hb) z
end L2

namespace L2
open PySem PySem.Spec PyProof.Rows

abbrev KOf {K : PySem.W.Frag} {h : Heap} (_ : K.In h) : PySem.W.Frag := K

/-- the goal that k_head leaves (case hc), from the law's promise. F gives the function object fd (K's own) once, then the promise over every base -/
theorem walk_of {l : PySem.W.OpenLaw} {n k : Nat} {q : Program} {loose : List Str} {XP : (Str → Option Value) → Heap → Prop} {YP : World → Heap → Prop} {d : DefRec} {K : Params → PySem.W.Frag} {CX : World → CXT} {sp : World → Sp} {x : Str}
    (hn : l.most = some n) (hn2 : n ≤ sizeLine) (hdf : d.params.defaults = []) (hr : Room k callerA)
    (hY : ∀ (w : World) (h : Heap), YP w h → (K w.params).In h)
    (F : ∀ (w : World) (mg : Str → Option Value) (fa : Addr) (h : Heap), (K w.params).In h → h.Ns mainGlobals mg → mg d.name = some (.ref fa) →
      ∃ fd : FuncData, (∀ (s : Shared) (u : Value), BindsTo s fd ⟨[u], []⟩ [(x, u)]) ∧
        ∀ base : Heap, (K w.params).In base → base.Ns mainGlobals mg → FnOk l.prog w (K w.params) mg base (CX w) k fa fd [x] (sp w))
    (hsp : ∀ (w : World) (H : Hp) (a : Addr) (ns : List Int), ns.length ≤ n → Only H → SqL (K w.params) H a (ns.map V.int) → sp w [.ref a] H (fun v _ => v = .bl true) fun _ _ _ => False)
    (hCX : ∀ (w : World) (H : Hp) (s : Shared) (e : Value) (s' : Shared), CX w [] H s (fun _ _ _ => False) e s' → False) :
    PySem.W.WalkO q loose XP YP l.row.toRowW d [] (fun f vs => PySem.call f vs) := by
  refine Att.attach_call hn hdf fun w s₀ s₁ mg mb fa o pm cd doc a vs ns G Y ho hd hcd hmg hobj hints hlen hg => ?_
  have KX := hY w _ Y
  obtain ⟨fd, hb, hF⟩ := F w mg fa _ KX G.T.g hmg
  exact law_call KX G.T.g G.T.b G.T.builtins G.T.nolimit hg hobj hints (Nat.le_trans hlen hn2) hr hF hb (fun H hO hS => hsp w H a ns hlen hO hS) fun H e s' => hCX w H s₁ e s'
end L2



/-! SHORT WORDS over the layer: a def of the text, its body, what a loop and a test want. -/
namespace L2
open PySem PySem.Spec PyProof.Rows

/-! ### the text by places -/
/-- the j-th statement of a class's body -/
def inClass (s : Stmt) (j : Nat) : Stmt := match s with
  | .ClassDef _ _ _ body _ _ _ _ _ _ _ => body.getD j (.Pass ⟨0, 0, 0, 0⟩)
  | _ => .Pass ⟨0, 0, 0, 0⟩
def defArgs (s : Stmt) : Arguments := match s with
  | .FunctionDef _ a _ _ _ _ _ _ _ _ => a
  | _ => { posonlyargs := [], args := [], vararg := none, kwonlyargs := [], kw_defaults := [], kwarg := none, defaults := [] }
def defBody (s : Stmt) : List Stmt := match s with
  | .FunctionDef _ _ b _ _ _ _ _ _ _ => b
  | _ => []
def defScope (s : Stmt) : Scope := match s with
  | .FunctionDef _ _ _ _ _ _ sc _ _ _ => sc
  | _ => { kind := .function, names := [], isGenerator := false, isCoroutine := false }

/-! ### no exception leaves a def -/
abbrev CX0 : CXT := fun _ _ _ _ _ _ => False
abbrev E0 : XK := fun _ _ _ => False
theorem pass0 {X : Cx} : Passes CX0 X E0 := fun _ _ _ _ _ _ _ h => h.elim

/-! ### a def (or method) of the text as it stands behind the top -/
structure Fun (K : PySem.W.Frag) (x qual : Str) (st : Stmt) (f : Addr) (fd : FuncData) : Prop where
  ex : ∃ (oc : Value) (od : Option Addr) (kV doc pm : Value) (an : Option Addr) (cdv ct : Value) (osl : Array (Option Value)),
    fd = PySem.W.fnOf x qual (defArgs st) (defBody st) (defScope st) .none kV doc pm an cdv ct ∧ K.lookup f = some ⟨oc, od, .func fd, osl⟩ ∧ PySem.W.codeIn K cdv qual = true
  kp : PySem.W.keepIn K (.ref f) = true
section
variable {P : Program} {w : World} {K : PySem.W.Frag} {mg : Str → Option Value} {base : Heap}
/-- THE RULE for a def: its body as a term of rules, and the reading of that term -/
theorem Fun.ok {x qual : Str} {st : Stmt} {f : Addr} {fd : FuncData} {N ps : List Str} {k : Nat} {sp : Sp} (F : Fun K x qual st f fd) (S : FnScope N ps (defScope st)) (len : ∀ vs H Q E, sp vs H Q E → vs.length = ps.length)
    (hbody : ∀ (cdv : Value) (A : Around) (outer : List Env) (s : Shared) (H : Hp) (vs : List V) (Q : VK) (E : XK), Room k (A.deeper (envOfC qual (defScope st) s.heap.objs.size f cdv)) → sp vs H Q E →
      ∃ t, PSs (cxOf CX0 P w K mg base N qual (defScope st) f cdv A outer s H E).nox (defBody st) t ∧ t { nx := fun _ H' => Q .non H', rt := Q } (start N vs) H) : FnOk P w K mg base CX0 (k + 1) f fd ps sp := by
  obtain ⟨oc, od, kV, doc, pm, an, cdv, ct, osl, rfl, lk, hcd⟩ := F.ex
  refine fn_of lk hcd S len fun A outer s H vs Q E hr hsp => ?_
  obtain ⟨t, h, q⟩ := hbody cdv A outer s H vs Q E hr hsp
  exact ⟨t, h.nox, q⟩
/-- how its arguments bind (no defaults): h is «fun _ _ _ _ _ _ us hl => match us, hl with | [_, _], _ => rfl», one _ a parameter -/
theorem Fun.binds {x qual : Str} {st : Stmt} {f : Addr} {fd : FuncData} {ps : List Str} (F : Fun K x qual st f fd)
    (h : ∀ (kV doc pm : Value) (an : Option Addr) (cdv ct : Value) (us : List Value), us.length = ps.length → bindArgs (PySem.W.fnOf x qual (defArgs st) (defBody st) (defScope st) .none kV doc pm an cdv ct) ⟨us, []⟩ = pure (ps.zip us)) : Binds K fd ps [] := by
  obtain ⟨oc, od, kV, doc, pm, an, cdv, ct, osl, rfl, lk, hcd⟩ := F.ex
  exact .all (h kV doc pm an cdv ct)
theorem fun_mk {x qual : Str} {st : Stmt} {f : Addr} {oc : Value} {od an : Option Addr} {osl : Array (Option Value)} {kV doc pm cdv ct : Value} (l : K.lookup f = some ⟨oc, od, .func (PySem.W.fnOf x qual (defArgs st) (defBody st) (defScope st) .none kV doc pm an cdv ct), osl⟩)
    (c : PySem.W.codeIn K cdv qual = true) (k : PySem.W.keepIn K (.ref f) = true) : Fun K x qual st f (PySem.W.fnOf x qual (defArgs st) (defBody st) (defScope st) .none kV doc pm an cdv ct) := ⟨⟨oc, od, kV, doc, pm, an, cdv, ct, osl, rfl, l, c⟩, k⟩
end
theorem small1000 {n : Nat} (h : n ≤ 1000) : n < sizeLine := Nat.lt_of_le_of_lt h (by decide)

/-! ### expressions in short: the name that stands in the i-th slot -/
section
variable {X : Cx}
theorem pv (i : Nat) {x : Str} {pos : Pos} (hN : X.N[i]? = some x := by rfl) (hv : Vis X.env.scope x := by first | exact Or.inl rfl | exact Or.inr (Or.inl rfl) | exact Or.inr (Or.inr rfl)) (hd : (x == ("__debug__" : Str)) = false := by decide)
    (hcd : (x == ("__classdict__" : Str)) = false := by decide) : PE X (.Name x pos) (tVar i) := pe_var hN hv hd hcd
end

/-! ### tests -/
theorem iteF {A B : Prop} (h : B) : if false = true then A else B := by
  rw [if_neg Bool.false_ne_true]
  exact h
theorem iteT {A B : Prop} (h : A) : if true = true then A else B := by
  rw [if_pos rfl]
  exact h
theorem ite2 {c A B : Prop} [Decidable c] (h1 : c → A) (h2 : ¬ c → B) : if c then A else B := by
  by_cases h : c
  · rw [if_pos h]
    exact h1 h
  · rw [if_neg h]
    exact h2 h
theorem iteNS {c A B : Prop} [Decidable c] (hc : c) (h : B) : if (!decide c) = true then A else B := by
  rw [decide_eq_true hc]
  exact iteF h

/-! ### heaps -/
/-- all that was tracked is as it was -/
def Same (H H' : Hp) : Prop := ∀ b o, H b = some o → H' b = some o
theorem Same.refl (H : Hp) : Same H H := fun _ _ h => h
theorem Same.trans {H H1 H2 : Hp} (a : Same H H1) (b : Same H1 H2) : Same H H2 := fun c o h => b c o (a c o h)
theorem Same.seq {K : PySem.W.Frag} {H H' : Hp} {a : Addr} {xs : List V} (e : Same H H') (h : SqL K H a xs) : SqL K H' a xs := by
  rcases h with (h | ⟨o, h⟩) | h
  · exact .inl (.inl (e _ _ h))
  · exact .inl (.inr ⟨o, e _ _ h⟩)
  · exact .inr h

end L2

set_option maxHeartbeats 4000000
namespace B
open PySem L2 PyProof.Rows
/-! ### tests that are known -/
theorem iteN1 {c A B : Prop} [Decidable c] (hc : ¬ c) (h : A) : if (!decide c) = true then A else B := by
  have e : (!decide c) = true := by rw [decide_eq_false hc]; rfl
  rw [if_pos e]; exact h
theorem iteD1 {c A B : Prop} [Decidable c] (hc : c) (h : A) : if decide c = true then A else B := by
  rw [if_pos (decide_eq_true hc)]; exact h
theorem iteD0 {c A B : Prop} [Decidable c] (hc : ¬ c) (h : B) : if decide c = true then A else B := by
  have e : ¬ decide c = true := by rw [decide_eq_false hc]; intro z; cases z
  rw [if_neg e]; exact h
theorem iteB1 {b : Bool} {A B : Prop} (hb : b = true) (h : A) : if b = true then A else B := by rw [if_pos hb]; exact h
theorem iteB0 {b : Bool} {A B : Prop} (hb : b = false) (h : B) : if b = true then A else B := by
  rw [if_neg (by rw [hb]; intro z; cases z)]; exact h
/-! ### isinstance against a built-in class -/
def kitTT (A B : String) : Option Bool := if (Value.type A == Value.type B) = true then some true else if PySem.W.kitMeta B = true then (fastBuiltinMro A).map (·.contains (.type B)) else none
theorem kit_of {K : PySem.W.Frag} {A B : String} {b : Bool} (h : kitTT A B = some b) : PySem.W.kitOne K (.type A) (.type B) = some b := h
/-- a plain thing's kind -/
inductive Ty (H : Hp) : V → String → Prop where
  | non : Ty H .non "NoneType"
  | bl (b : Bool) : Ty H (.bl b) "bool"
  | int (i : Int) : Ty H (.int i) "int"
  | str (x : Str) : Ty H (.str x) "str"
  | lst {a : Addr} {xs : List V} (e : H a = some (.lst xs)) : Ty H (.ref a) "list"
  | tup {a : Addr} {xs : List V} (e : H a = some (.tup xs)) : Ty H (.ref a) "tuple"
theorem Ty.of {H : Hp} {v : V} {n : String} (K : PySem.W.Frag) (h : Ty H v n) : TyOf K H v (.type n) := by
  cases h with
  | non => exact .non
  | bl b => exact .bl b
  | int i => exact .int i
  | str x => exact .str x
  | lst e => exact .lst e
  | tup e => exact .tup e
def rIsi : List V → Hp → VK → Prop := fun xs H Q => ∃ x n m b, xs = [x, .ty n] ∧ Ty H x m ∧ kitTT m n = some b ∧ Q (.bl b) H
theorem call_isi {X : Cx} : CallR X (.builtin "isinstance") rIsi := by
  intro pins s σ H xs us Q I r h
  obtain ⟨x, n, m, b, rfl, ty, e, q⟩ := h
  obtain ⟨u, u2, rfl, rx, ry⟩ := vals2 r
  obtain rfl : u2 = Value.type n := ry
  exact isinst_ok I rx (ty.of X.K) (kit_of e) fun tk => ⟨.bl b, H, I.tok tk, rfl, q⟩
def wholeV : V → Bool
  | .int _ => true
  | _ => false
def tupV (n : String) : Bool := n == "tuple"
/-! ### heaps: all but one list is as it was -/
structure Step (t : Addr) (H H' : Hp) : Prop where
  keep : ∀ b o, b ≠ t → H b = some o → H' b = some o
  tp : ∃ xs, H t = some (.lst xs)
  tp' : ∃ xs, H' t = some (.lst xs)
theorem Step.trans {t : Addr} {H H1 H2 : Hp} (a : Step t H H1) (b : Step t H1 H2) : Step t H H2 := ⟨fun c o n e => b.keep c o n (a.keep c o n e), a.tp, b.tp'⟩
theorem Step.up {t : Addr} {H : Hp} {xs ys : List V} (h : H t = some (.lst xs)) : Step t H (upd H t (.lst ys)) := ⟨fun c o n e => by rw [upd_ne n]; exact e, ⟨_, h⟩, ⟨_, upd_same⟩⟩
theorem same_new {H : Hp} {p : Addr} (h : H p = none) (o : HO) : Same H (upd H p o) := fun b u q => by rw [upd_ne (ne_of_none q h)]; exact q
theorem Step.same {t : Addr} {H H' : Hp} (s : Same H H') (h : ∃ xs, H t = some (.lst xs)) : Step t H H' := ⟨fun c o _ e => s c o e, h, let ⟨xs, e⟩ := h; ⟨xs, s _ _ e⟩⟩
theorem Step.new {t p : Addr} {H : Hp} (h : ∃ xs, H t = some (.lst xs)) (n : H p = none) (o : HO) : Step t H (upd H p o) := Step.same (same_new n o) h
/-- a thing whose kind is known, and of a tuple its parts' kinds -/
def Th (H : Hp) (v : V) : Prop := ∃ n, Ty H v n ∧ ∀ a xs, v = .ref a → H a = some (.tup xs) → ∀ x ∈ xs, ∃ m, Ty H x m
/-! ### places -/
theorem pick {xs : List V} {r : Int} (h0 : 0 ≤ r) (h1 : r < (xs.length : Int)) : ∃ v, atI xs r = some v ∧ v ∈ xs := by
  have hk : r.toNat < xs.length := by omega
  have ek : r = ((r.toNat : Nat) : Int) := by omega
  have q : atI xs ((r.toNat : Nat) : Int) = some xs[r.toNat] := atI_nat (List.getElem?_eq_getElem hk)
  rw [← ek] at q
  exact ⟨_, q, List.getElem_mem hk⟩
theorem pickI {ns : List Int} {r : Int} (h0 : 0 ≤ r) (h1 : r < (ns.length : Int)) : ∃ z : Int, atI (ns.map V.int) r = some (.int z) := by
  obtain ⟨v, h, hv⟩ := pick (xs := ns.map V.int) h0 (by rw [List.length_map]; exact h1)
  obtain ⟨z, _, rfl⟩ := List.mem_map.mp hv
  exact ⟨z, h⟩
/-! ### the tape -/
structure Tape (H : Hp) (t s : Addr) : Prop where
  ex : ∃ (ns : List Int) (p q r : Int), H t = some (.lst [.ref s, .int p, .int q, .int r]) ∧ H s = some (.lst (ns.map V.int)) ∧ s ≠ t ∧ ns.length ≤ 63 ∧ 0 ≤ p ∧ 0 ≤ q ∧ 0 ≤ r
theorem Tape.lst {H : Hp} {t s : Addr} (h : Tape H t s) : ∃ xs, H t = some (.lst xs) := let ⟨_, _, _, _, e, _⟩ := h.ex; ⟨_, e⟩
theorem Tape.scr {H : Hp} {t s : Addr} (h : Tape H t s) : ∃ xs, H s = some (.lst xs) := let ⟨_, _, _, _, _, e, _⟩ := h.ex; ⟨_, e⟩
theorem Tape.same {H H' : Hp} {t s : Addr} (h : Tape H t s) (z : Same H H') : Tape H' t s := by
  obtain ⟨ns, p, q, r, h1, h2, h3⟩ := h.ex
  exact ⟨ns, p, q, r, z _ _ h1, z _ _ h2, h3⟩
theorem Tape.new {H : Hp} {t s p : Addr} (h : Tape H t s) (n : H p = none) (o : HO) : Tape (upd H p o) t s := h.same (same_new n o)
theorem Tape.upl {H : Hp} {t s l : Addr} (h : Tape H t s) (a : l ≠ t) (b : l ≠ s) (o : HO) : Tape (upd H l o) t s := by
  obtain ⟨ns, p, q, r, h1, h2, h3⟩ := h.ex
  exact ⟨ns, p, q, r, by rw [upd_ne a.symm]; exact h1, by rw [upd_ne b.symm]; exact h2, h3⟩
theorem cut63 (ns : List Int) : cutV (ns.map V.int) none (some 63) = (ns.take (min 63 ns.length)).map V.int := by
  unfold cutV
  rw [show (some (63 : Int)) = some (((63 : Nat) : Int)) from rfl, HT.sIx_nat, HT.sIx_none, List.length_map, Nat.sub_zero, List.drop_zero, List.map_take]
def sp_tape (K : PySem.W.Frag) : Sp := fun vs H Q _ => ∃ (a : Addr) (ns : List Int), vs = [.ref a] ∧ SqL K H a (ns.map V.int) ∧ ∀ (t s : Addr) (H' : Hp), Same H H' → H t = none → H s = none → Tape H' t s → Q (.ref t) H'
def sp_draw : Sp := fun vs H Q _ => ∃ (t s : Addr) (m : Int), vs = [.ref t, .int m] ∧ Tape H t s ∧ 0 < m ∧ m < 1073741824 ∧ ∀ (r : Int) (xs : List V), 0 ≤ r → r < m → Tape (upd H t (.lst xs)) t s → Q (.int r) (upd H t (.lst xs))
def sp_lawT (K : PySem.W.Frag) : Sp := fun vs H Q _ => ∃ (a : Addr) (ns : List Int), vs = [.ref a] ∧ SqL K H a (ns.map V.int) ∧ ns.length ≤ 63 ∧ ∀ H', Q (.bl true) H'
/-! ### the greatest divisor, turn by turn -/
theorem gcd_turn {a b : Int} (ha : 0 ≤ a) (hb : 0 < b) : Int.gcd b (a % b) = Int.gcd a b := by
  obtain ⟨n, rfl⟩ := Int.eq_ofNat_of_zero_le ha
  obtain ⟨m, rfl⟩ := Int.eq_ofNat_of_zero_le (Int.le_of_lt hb)
  rw [← Int.natCast_emod]
  show Nat.gcd m (n % m) = Nat.gcd n m
  rw [Nat.gcd_comm m, ← Nat.gcd_rec, Nat.gcd_comm]
theorem abs_if (i : Int) : (if i < 0 then -i else i) = (i.natAbs : Int) := by split <;> omega
end B

namespace B
open PySem PySem.Spec L2 PyProof.Rows
/-! ### a thing whose whole inside is known, and its text -/
mutual
inductive Deep (K : PySem.W.Frag) (H : Hp) : V → PyData → Prop where
  | non : Deep K H .non .none
  | bl (b : Bool) : Deep K H (.bl b) (.bool b)
  | int (i : Int) : Deep K H (.int i) (.int i)
  | str (x : Str) : Deep K H (.str x) (.str x)
  | lst {a : Addr} {xs : List V} {ds : List PyData} (e : SqL K H a xs) (h : DeepAll K H xs ds) : Deep K H (.ref a) (.list ds)
  | tup {a : Addr} {xs : List V} {ds : List PyData} (e : SqT K H a xs) (h : DeepAll K H xs ds) : Deep K H (.ref a) (.tuple ds)
inductive DeepAll (K : PySem.W.Frag) (H : Hp) : List V → List PyData → Prop where
  | nil : DeepAll K H [] []
  | cons {x : V} {d : PyData} {xs : List V} {ds : List PyData} (h : Deep K H x d) (t : DeepAll K H xs ds) : DeepAll K H (x :: xs) (d :: ds)
end
mutual
theorem Deep.reads {X : Cx} {pins : List (Addr × Obj)} {σ : L2.St} {H : Hp} {s : Shared} (I : Inv X pins σ H s) : ∀ {v : V} {d : PyData} {u : Value}, Deep X.K H v d → RelV v u → ∃ as, Reads s.heap u d as
  | _, _, u, .non, r => by cases (show u = Value.none from r); exact ⟨_, .none⟩
  | _, _, u, .bl b, r => by cases (show u = Value.bool b from r); exact ⟨_, .bool b⟩
  | _, _, u, .int i, r => by obtain ⟨t, q⟩ := (show ∃ t, u = Value.int i t from r); cases q; exact ⟨_, .int i t⟩
  | _, _, u, .str x, r => by obtain ⟨t, q⟩ := (show ∃ t, u = Value.str x t from r); cases q; exact ⟨_, .str x t⟩
  | _, _, u, .lst (a := a) e h, r => by
    cases (show u = Value.ref a from r)
    obtain ⟨its, rv, ⟨o, n, ho, hc, _, hd⟩, _⟩ := I.list e
    obtain ⟨as, q⟩ := DeepAll.reads I h rv
    exact ⟨_, .list ho hc hd (by simpa using q)⟩
  | _, _, u, .tup (a := a) e h, r => by
    cases (show u = Value.ref a from r)
    obtain ⟨its, rv, ⟨o, ho, hc, n, hd⟩, _⟩ := I.tuple e
    obtain ⟨as, q⟩ := DeepAll.reads I h rv
    exact ⟨_, .tuple ho hc hd (by simpa using q)⟩
theorem DeepAll.reads {X : Cx} {pins : List (Addr × Obj)} {σ : L2.St} {H : Hp} {s : Shared} (I : Inv X pins σ H s) : ∀ {vs : List V} {ds : List PyData} {us : List Value}, DeepAll X.K H vs ds → Vals vs us → ∃ as, ReadsAll s.heap us ds as
  | _, _, _, .nil, .nil => ⟨_, .nil⟩
  | _, _, _, .cons h t, .cons r q =>
    let ⟨_, a⟩ := Deep.reads I h r
    let ⟨_, b⟩ := DeepAll.reads I t q
    ⟨_, .cons a b⟩
end
/-- what may be shown -/
structure Shows (d : PyData) : Prop where
  sh : d.showable = true
  nd : d.hasDict = false
  sz : d.shown.length ≤ sizeLine
  dp : d.depth ≤ 16
def rRepr (K : PySem.W.Frag) : List V → Hp → VK → Prop := fun xs H Q => ∃ v d, xs = [v] ∧ Deep K H v d ∧ Shows d ∧ Q (.str d.shown) H
theorem call_repr {X : Cx} {k : Nat} (hr : Room k X.A) : CallR X (.builtin "repr") (rRepr X.K) := by
  intro pins s σ H xs us Q I r h
  obtain ⟨v, d, rfl, dp, sh, q⟩ := h
  obtain ⟨u, rfl, ru⟩ := vals1 r
  cases dp with
  | non => cases (show u = Value.none from ru); exact PySem.P.repr_of_none ⟨.str "None", H, I.tok _, ⟨_, rfl⟩, q⟩
  | bl b => cases (show u = Value.bool b from ru); exact PySem.P.repr_of_bool ⟨.str _, H, I.tok _, ⟨_, rfl⟩, q⟩
  | int i =>
    obtain ⟨t, e⟩ := (show ∃ t, u = Value.int i t from ru)
    cases e
    exact PySem.P.repr_of_int (of_decide_eq_true sh.sh) ⟨.str _, H, I.tok _, ⟨_, rfl⟩, q⟩
  | str x =>
    obtain ⟨t, e⟩ := (show ∃ t, u = Value.str x t from ru)
    cases e
    exact PySem.P.repr_of_str ⟨.str _, H, I.tok _, ⟨_, rfl⟩, q⟩ sh.sz
  | @lst a ys ds e h =>
    cases (show u = Value.ref a from ru)
    obtain ⟨as, rd⟩ := Deep.reads I (.lst e h) (show RelV (.ref a) (.ref a) from rfl)
    exact repr_of_reads' rd sh.sh (fun z => by rw [sh.nd] at z; cases z) hr.gd (by have := hr.units; have := sh.dp; omega) (fun _ _ z => z) (fun h' u tk hk => ⟨.str _, H, I.kept hk, ⟨_, rfl⟩, q⟩) sh.sz
  | @tup a ys ds e h =>
    cases (show u = Value.ref a from ru)
    obtain ⟨as, rd⟩ := Deep.reads I (.tup e h) (show RelV (.ref a) (.ref a) from rfl)
    exact repr_of_reads' rd sh.sh (fun z => by rw [sh.nd] at z; cases z) hr.gd (by have := hr.units; have := sh.dp; omega) (fun _ _ z => z) (fun h' u tk hk => ⟨.str _, H, I.kept hk, ⟨_, rfl⟩, q⟩) sh.sz
end B

namespace B
open PySem PySem.Spec L2 PyProof.Rows
/-! ### a list's comprehension of one clause -/
/-- the block's context: its own names, the cells of the def around it; the iterator's records may turn -/
def cxC (X : Cx) (N' : List Str) (scope : Scope) (cl : List (Str × Addr)) (C : Addr) (fp : List Addr) (pins : List (Addr × Obj)) (s : Shared) (H : Hp) : Cx :=
  { X with N := N', s₀ := s, H₀ := H, env := compEnvC scope cl C X.env, outer := X.stack, stack := X.stack, ex := fp, fn := fun _ => false, pn := X.pn ++ pins, xe := fun _ _ => False }
/-- which name of the def around it stands at each place of the block (none: the block's own) -/
def FreeOk (X : Cx) (scope : Scope) (cl : List (Str × Addr)) : List Str → List (Option Nat) → Prop
  | [], [] => True
  | _ :: N, none :: r => FreeOk X scope cl N r
  | x :: N, some j :: r => X.N[j]? = some x ∧ X.env.kindOf x = some .cell ∧ (compEnvC scope cl 0 X.env).kindOf x = some .cell ∧ cl.lookup x = X.env.cells.lookup x ∧ FreeOk X scope cl N r
  | _, _ => False
def frees (src : List (Option Nat)) (σ : L2.St) : L2.St := src.map fun o => o.bind fun j => (σ[j]?).getD none
theorem FreeOk.len {X : Cx} {scope : Scope} {cl : List (Str × Addr)} : ∀ {N : List Str} {src : List (Option Nat)}, FreeOk X scope cl N src → N.length = src.length
  | [], [], _ => rfl
  | _ :: _, none :: _, h => congrArg (· + 1) (FreeOk.len (X := X) (scope := scope) (cl := cl) h)
  | _ :: _, some _ :: _, h => congrArg (· + 1) (FreeOk.len (X := X) (scope := scope) (cl := cl) h.2.2.2.2)
theorem FreeOk.at {X : Cx} {scope : Scope} {cl : List (Str × Addr)} {σ : L2.St} : ∀ {N : List Str} {src : List (Option Nat)} {i : Nat} {x : Str} {v : V}, FreeOk X scope cl N src → N[i]? = some x → (frees src σ)[i]? = some (some v) →
    ∃ j : Nat, X.N[j]? = some x ∧ σ[j]? = some (some v) ∧ X.env.kindOf x = some .cell ∧ (compEnvC scope cl 0 X.env).kindOf x = some .cell ∧ cl.lookup x = X.env.cells.lookup x
  | y :: N, none :: r, 0, x, v, h, e, q => by cases q
  | y :: N, none :: r, i + 1, x, v, h, e, q => FreeOk.at (N := N) (src := r) (i := i) h e q
  | y :: N, some j :: r, 0, x, v, h, e, q => by
    cases e
    refine ⟨j, h.1, ?_, h.2.1, h.2.2.1, h.2.2.2.1⟩
    have q' : some ((σ[j]?).getD none) = some (some v) := q
    injection q' with q'
    cases z : σ[j]? with
    | none => rw [z] at q'; cases q'
    | some o => rw [z] at q'; exact congrArg some q'
  | y :: N, some j :: r, i + 1, x, v, h, e, q => FreeOk.at (N := N) (src := r) (i := i) h.2.2.2.2 e q
/-- every name of the block that is a cell there has one -/
def CellsOk (X : Cx) (scope : Scope) (cl : List (Str × Addr)) : Prop :=
  (∀ x, ((compEnvC scope cl 0 X.env).kindOf x = some .cell ∨ (compEnvC scope cl 0 X.env).kindOf x = some .free) → ∃ c, cl.lookup x = some c) ∧ ∀ x c, cl.lookup x = some c → X.env.cells.lookup x = some c
def CellsIn (X : Cx) : List (Str × Addr) → Prop
  | [] => True
  | y :: r => X.env.cells.lookup y.1 = some y.2 ∧ CellsIn X r
theorem CellsIn.mem {X : Cx} : ∀ {cl : List (Str × Addr)}, CellsIn X cl → ∀ y ∈ cl, X.env.cells.lookup y.1 = some y.2
  | [], _, y, h => by cases h
  | z :: r, k, y, h => by
    rcases List.mem_cons.mp h with e | h
    · rw [e]; exact k.1
    · exact CellsIn.mem k.2 y h
theorem mem_of_lookup {α : Type} {x : Str} {v : α} : ∀ {l : List (Str × α)}, l.lookup x = some v → (x, v) ∈ l
  | [], h => by cases h
  | (y, w) :: r, h => by
    rw [List.lookup_cons] at h
    cases e : x == y with
    | true =>
      rw [e] at h
      have e' : x = y := eq_of_beq e
      cases h
      rw [e']; exact List.mem_cons_self
    | false =>
      rw [e] at h
      exact List.mem_cons_of_mem _ (mem_of_lookup h)
theorem cells_of {X : Cx} {scope : Scope} {cl : List (Str × Addr)} (h1 : ((relabel scope X.env).names.all fun y => !(y.2 == .cell || y.2 == .free) || (cl.lookup y.1).isSome) = true) (h2 : CellsIn X cl) : CellsOk X scope cl := by
  refine ⟨fun x h => ?_, fun x c e => h2.mem _ (mem_of_lookup e)⟩
  have h3 := List.all_eq_true.mp h1
  have key : ∀ k : NameKind, (k = .cell ∨ k = .free) → (relabel scope X.env).names.lookup x = some k → ∃ c, cl.lookup x = some c := fun k hk e => by
    have q := h3 _ (mem_of_lookup e)
    have z : (k == NameKind.cell || k == NameKind.free) = true := by rcases hk with rfl | rfl <;> rfl
    simp only [z, Bool.not_true, Bool.false_or] at q
    exact Option.isSome_iff_exists.mp q
  rcases h with h | h
  · exact key _ (.inl rfl) h
  · exact key _ (.inr rfl) h
/-- .. as the block's names stay -/
def Ext (σ σ' : L2.St) : Prop := σ'.length = σ.length ∧ ∀ (i : Nat) (v : V), σ[i]? = some (some v) → σ'[i]? = some (some v)
theorem Ext.set {σ : L2.St} {i : Nat} {v : V} (h : σ[i]? = some none) : Ext σ (σ.set i (some v)) := by
  refine ⟨List.length_set, fun j u e => ?_⟩
  have ne : i ≠ j := fun z => by subst z; rw [h] at e; cases e
  rw [List.getElem?_set_ne ne]; exact e
theorem Ext.set' {σ τ : L2.St} {i : Nat} {v : V} (e : Ext σ τ) (h : σ[i]? = some none) : Ext σ (τ.set i (some v)) := by
  refine ⟨by rw [List.length_set]; exact e.1, fun j u q => ?_⟩
  have ne : i ≠ j := fun z => by subst z; rw [h] at q; cases q
  rw [List.getElem?_set_ne ne]; exact e.2 j u q
section
variable {X : Cx} {N' : List Str} {scope : Scope} {cl : List (Str × Addr)} {src : List (Option Nat)} {pins : List (Addr × Obj)} {σ : L2.St} {H : Hp} {s : Shared} {fp : List Addr}
theorem Cx.comp_ok {C : Addr} (I : Inv X pins σ H s) (hC : s.heap.objs.size ≤ C) (hk : scope.kind = .function) (hf : ∀ b ∈ fp, FpOk X pins H b) (hfs : ∀ b ∈ fp, b < s.heap.objs.size) (hc : CellsOk X scope cl) :
    (cxC X N' scope cl C fp pins s H).Ok where
  mod := I.ok.mod
  kind := hk
  glob := I.ok.glob
  blt := I.ok.blt
  above := hC
  inj := fun x y c e1 e2 => I.ok.inj x y c (hc.2 x c e1) (hc.2 y c e2)
  has := fun x h => hc.1 x h
  cab := fun x c z => nomatch z
  hd := I.ok.hd
  frames := I.ok.frames
  stk := .inl rfl
  exf := fun b hb => ⟨fun z => by have := hfs b hb; rw [show b = C from z] at this; exact absurd (Nat.lt_of_lt_of_le this hC) (Nat.lt_irrefl _), fun x c e => (hf b hb).2.2.2.2.1 x c (hc.2 x c e)⟩
  bs := I.bs
  bsz := Nat.le_trans I.ok.bsz I.sz
  noex := fun b o e hb => by
    rcases (hf b hb).2.2.2.1 with z | z
    · exact I.ok.noex b o e z
    · rw [(I.ok.bs b o e).1] at z; cases z
  exfs := fun b hb z => by
    rcases List.mem_cons.mp (I.stkSub b z) with q | q
    · exact (hf b hb).2.1 q
    · exact (hf b hb).2.2.1 q
  funs := I.stack
  frf := I.stkFree
theorem Inv.comp {C : Addr} {h₁ : Heap} {m : Str → Option Value} {tk : Nat} (I : Inv X pins σ H s) (hC : C = s.heap.objs.size) (hns : h₁.Ns C m) (keep : ∀ b o, s.heap.get? b = some o → h₁.get? b = some o)
    (hk : scope.kind = .function) (hf : ∀ b ∈ fp, FpOk X pins H b) (hfs : ∀ b ∈ fp, b < s.heap.objs.size) (hc : CellsOk X scope cl) (hfree : FreeOk X scope cl N' src) :
    Inv (cxC X N' scope cl C fp pins s H) [] (frees src σ) H { s with heap := h₁, toks := tk } where
  ok := Cx.comp_ok I (Nat.le_of_eq hC.symm) hk hf hfs hc
  os := rfl
  bare := I.bare
  base := Un.kept keep
  loc := ⟨m, hns, fun i x v e1 e2 _ => by
    obtain ⟨j, hj, hσ, kc, kc', hl⟩ := hfree.at e1 e2
    obtain ⟨m0, hn0, hl0⟩ := I.loc
    obtain ⟨u, r, l⟩ := hl0 j x v hj hσ (Or.inr (Or.inl kc))
    rcases l with ⟨k, _⟩ | ⟨k, c, e, o, ho, hd⟩
    · rw [kc] at k; cases k
    · exact ⟨u, r, .inr ⟨.inl kc', c, hl.trans e, o, keep c o ho, hd⟩⟩⟩
  cell := fun x c e => let ⟨v, o, ho, hd⟩ := I.cell x c (hc.2 x c e); ⟨v, o, keep _ _ ho, hd⟩
  free := I.hok.fresh (Nat.le_of_eq hC.symm)
  freeC := fun x c e => I.freeC x c (hc.2 x c e)
  pin := fun p hp => by
    have hp' : p ∈ X.pn ++ pins := by
      have z : p ∈ (X.pn ++ pins) ++ [] := hp
      rw [List.append_nil] at z; exact z
    obtain ⟨e, n, ne, nf, d⟩ := I.pin p hp'
    refine ⟨keep _ _ e, n, fun z => ?_, fun z => ?_, d⟩
    · have := Heap.lt_size e; rw [show p.1 = C from z, hC] at this; exact Nat.lt_irrefl _ this
    · rcases List.mem_cons.mp (I.stkSub _ z) with q | q
      · exact ne q
      · exact nf q
  hok := I.hok.kept keep
  len := by show (frees src σ).length = N'.length; unfold frees; rw [List.length_map, hfree.len]
end
/-- the tests of a clause -/
def PTs (X : Cx) (ifs : List Expr) (t : TT) : Prop :=
  ∀ (pins : List (Addr × Obj)) (s : Shared) (σ : L2.St) (H : Hp) (Q : Bool → Hp → Prop), Inv X pins σ H s → t σ H Q →
    wpAny (model X.prog X.w) X.A (forIn ifs true fun c r => if r = true then do let ok ← isTrue c X.env (eval c X.env); pure (ForInStep.yield ok) else pure (ForInStep.yield r)) (TP X pins σ Q) X.xe s
def tYes : TT := fun _ H Q => Q true H
theorem pts_nil {X : Cx} : PTs X [] tYes := fun _ _ _ H _ I h => wpAny_tests_nil ⟨H, I, h⟩
theorem pts_one {X : Cx} {c : Expr} {t : TT} (h : PT X c t) : PTs X [c] t := fun pins s σ H Q I q => wpAny_tests_one (h pins s σ H Q I q)
section
variable {prog : Program} {w : World} {A : Around} {R : Result → Shared → Prop} {s : Shared}
theorem comp_loop {elt target iter : Expr} {ifs : List Expr} {scope : Scope} {pos : Pos} {it acc : Value} {env : Env} (I : Nat → Shared → Prop)
    (turn : ∀ n s, I n s → wpAny (model prog w) A (pyNext it) (fun r s₁ => match r with
      | none => R (.ok .next) s₁
      | some v => wpAny (model prog w) A (letOwnedTupleGo target it v) (fun _ s₁' => wpAny (model prog w) A (assign target env v) (fun _ s₂ =>
          wpAny (model prog w) A (forIn ifs true fun c r => if r = true then do let ok ← isTrue c env (eval c env); pure (ForInStep.yield ok) else pure (ForInStep.yield r)) (fun ok s₃ =>
            if ok = true then wpAny (model prog w) A (eval elt env) (fun x s₄ =>
              wpAny (model prog w) A (call (.builtin "list.append") [acc, x]) (fun _ s₅ => ∃ m, m < n ∧ I m s₅) (fun _ _ => False) s₄) (fun _ _ => False) s₃
            else ∃ m, m < n ∧ I m s₃) (fun _ _ => False) s₂) (fun _ _ => False) s₁') (fun _ _ => False) s₁) (fun _ _ => False) s)
    (n : Nat) (h : I n s) : codeAny (model prog w) A (.compLoop (.ListComp elt [⟨target, iter, ifs, 0⟩] scope pos) 0 it acc env) R s := by
  refine codeAny_loop rfl I (fun n s hI => ?_) n h
  show wpAny _ A ((compTurn (.ListComp elt [⟨target, iter, ifs, 0⟩] scope pos) 0 it acc env).onRaise (fun x => do noteFrame x env; theTreesLotGoes x)) _ _ s
  refine wpAny_noted ?_
  rw [compTurn_list]
  refine wpAny_bind (wpAny_standAt (wpAny_bind (wpAny_mono (turn n s hI) (fun r s₁ h₁ => ?_) fun _ _ h' => h'.elim)))
  cases r with
  | none => exact wpAny_pure h₁
  | some v =>
    refine wpAny_bind (wpAny_mono h₁ (fun _ s₁' h₁' => ?_) fun _ _ h' => h'.elim)
    refine wpAny_bind (wpAny_mono h₁' (fun _ s₂ h₂ => wpAny_bind (wpAny_mono h₂ (fun ok s₃ h₃ => ?_) fun _ _ h' => h'.elim)) fun _ _ h' => h'.elim)
    cases ok with
    | false => exact wpAny_pure ⟨rfl, h₃⟩
    | true =>
      exact wpAny_bind (wpAny_bind (wpAny_mono h₃ (fun x s₄ h₄ => wpAny_bind (wpAny_mono h₄ (fun _ s₅ h₅ => wpAny_pure (wpAny_pure ⟨rfl, h₅⟩)) fun _ _ h' => h'.elim)) fun _ _ h' => h'.elim))
end
/-- a block's own names: apart from all that is kept -/
structure OffC (X : Cx) (pins : List (Addr × Obj)) (H : Hp) (C : Addr) : Prop where
  no : H C = none
  lo : C ≠ X.env.locals
  fs : C ∉ X.fs
  old : X.s₀.heap.get? C = none
  ce : ∀ x c, X.env.cells.lookup x = some c → c ≠ C
  pn : ∀ p ∈ X.pn ++ pins, p.1 ≠ C
theorem OffC.turned {X : Cx} {pins : List (Addr × Obj)} {σ : L2.St} {H : Hp} {C : Addr} {s : Shared} (o : OffC X pins H C) (I : Inv X pins σ H s) {h' : Heap} (sb : Heap.SameBut C s.heap h') : Inv X pins σ H { s with heap := h' } :=
  I.turned (it := C) (t' := s.toks) (fun b u hb e => sb.extBut b u hb e) o.no o.lo (.inr o.old) o.ce o.pn
/-- the reading: D the new list, W the invariant (turn, measure, what stands in the list, heap) -/
def tComp (wi : TI) (src : List (Option Nat)) (g : TG) (tt : TT) (te : TE) : TE := fun σ H Q => wi σ H fun J H1 => ∀ D, H1 D = none → ∃ W : Nat → Nat → List V → Hp → Prop,
  (∃ m, W 0 m [] (upd H1 D (.lst []))) ∧ ∀ i m ys H, W i m ys H → (J.stop i H ∧ Q (.ref D) H) ∨ (J.go i H ∧ ∀ x H', J.yld i H x H' → g x (frees src σ) H' fun σ2 H2 => Ext (frees src σ) σ2 ∧ tt σ2 H2 fun ok H3 =>
    if ok = true then te σ2 H3 fun y H4 => H4 D = some (.lst ys) ∧ ys.length < sizeLine ∧ ∃ m', m' < m ∧ W (i + 1) m' (ys ++ [y]) (upd H4 D (.lst (ys ++ [y]))) else ∃ m', m' < m ∧ W (i + 1) m' ys H3)
section
variable {X : Cx} {N' : List Str} {scope : Scope} {cl : List (Str × Addr)} {src : List (Option Nat)} {tg iter elt : Expr} {ifs : List Expr} {wi : TI} {g : TG} {tt : TT} {te : TE} {pos : Pos}
theorem comp_run (hc : X.calm = true) (hi : PI X tg iter wi) (hg : ∀ C fp pins s H, PG (cxC X N' scope cl C fp pins s H) tg g) (ht : ∀ C fp pins s H, PTs (cxC X N' scope cl C fp pins s H) ifs tt)
    (he : ∀ C fp pins s H, PE (cxC X N' scope cl C fp pins s H) elt te) (hfree : FreeOk X scope cl N' src) (hcell : ∀ x ∈ scope.names, x.2 ≠ .cell) (hkind : scope.kind = .function) (hcl : CellsOk X scope cl)
    {RR : Value → Addr → Result → Shared → Prop} {pins : List (Addr × Obj)} {s : Shared} {σ : L2.St} {H : Hp} {Q : VK} (I : Inv X pins σ H s) (h : tComp wi src g tt te σ H Q)
    (hRR : ∀ D C H' s', Q (.ref D) H' → (∃ m, s'.heap.Ns C m) → Inv X pins σ H' s' → OffC X pins H' C → RR (.ref D) C (.ok .next) s') :
    wpAny (model X.prog X.w) X.A (eval iter X.env) (fun x s₁ => wpAny (model X.prog X.w) X.A (pyIter x) (fun itv s₂ => wpAny (model X.prog X.w) X.A (newList []) (fun acc s₃ =>
      wpAny (model X.prog X.w) X.A (newFunctionEnv scope X.env.globals cl [] X.env.qual none .none (some X.env)) (fun cenv s₄ =>
        codeAny (model X.prog X.w) X.A (.compStart (.ListComp elt [⟨tg, iter, ifs, 0⟩] scope pos) 0 itv acc { cenv with scope := relabel scope X.env }) (RR acc cenv.locals) s₄) X.xe s₃) X.xe s₂) X.xe s₁) X.xe s := by
  refine thn (hi pins s σ H _ I h) fun v s1 h1 => thn h1 fun itv s2 h2 => ?_
  obtain ⟨it, fp, tn, J, H2, e, I2, T, st2, f2, h2⟩ := h2
  subst e
  refine wpAny_newObj_type ?_ (by show 0 ≤ sizeLine; exact Nat.zero_le _)
  have hD : H2 s2.heap.objs.size = none := I2.fresh
  have I3 : Inv X pins σ (upd H2 s2.heap.objs.size (.lst [])) { s2 with heap := s2.heap.push { cls := .type "list", data := .seq ([] : List Value).toArray } } := I2.lnew (t' := s2.toks) (its := []) .nil (Nat.zero_le _)
  obtain ⟨W, ⟨m0, w0⟩, turn⟩ := h2 s2.heap.objs.size hD
  generalize hDe : s2.heap.objs.size = D at I3 turn w0 hD ⊢
  have st3 : tn 0 (s2.heap.push { cls := .type "list", data := .seq ([] : List Value).toArray }) := T.keep _ _ _ st2 fun b _ o e => Heap.get?_push_of_some _ e
  have f3 : ∀ b ∈ fp, FpOk X pins (upd H2 D (.lst [])) b ∧ b < (s2.heap.push { cls := .type "list", data := .seq ([] : List Value).toArray }).objs.size := fun b hb => by
    obtain ⟨o, e, _⟩ := T.obj _ _ st2 b hb
    have l := Heap.lt_size e
    rw [hDe] at l
    refine ⟨⟨?_, (f2 b hb).2⟩, by rw [Heap.size_push, hDe]; exact Nat.lt_succ_of_lt l⟩
    rw [upd_ne (Nat.ne_of_lt l)]; exact (f2 b hb).1
  generalize (s2.heap.push { cls := .type "list", data := .seq ([] : List Value).toArray }) = h3 at I3 st3 f3 ⊢
  refine wpAny_newFunctionEnv hcell (by intro y hy; simp at hy) (fun h₄ hns₄ hsb₄ => ?_) hkind
  have keep : ∀ b o, h3.get? b = some o → h₄.get? b = some o := fun b o e => hsb₄.extBut b o (Nat.ne_of_lt (Heap.lt_size e)) (Heap.get?_push_of_some _ e)
  have I4 := Inv.comp (C := h3.objs.size) (fp := fp) (tk := s2.toks + ([] : List (Str × Value)).length) I3 rfl hns₄ keep hkind (fun b hb => (f3 b hb).1) (fun b hb => (f3 b hb).2) hcl hfree
  have st4 : tn 0 h₄ := T.keep _ _ _ st3 fun b _ o e => keep b o e
  have fpn : ∀ b ∈ fp, (upd H2 D (.lst [])) b = none := fun b hb => (f3 b hb).1.1
  have hn3 : ∀ b ∈ fp, b ≠ h3.objs.size := fun b hb => Nat.ne_of_lt (f3 b hb).2
  have stat : ∀ {H' : Hp}, (∀ b ∈ fp, H' b = none) → ∀ b ∈ fp, FpOk (cxC X N' scope cl h3.objs.size fp pins { s2 with heap := h3 } (upd H2 D (.lst []))) [] H' b := fun hn b hb =>
    ⟨hn b hb, hn3 b hb, I4.ok.exfs b hb, .inl hb, fun x c e => (f3 b hb).1.2.2.2.2.1 x c (hcl.2 x c e), fun p hp => (f3 b hb).1.2.2.2.2.2 p (by
      have z : p ∈ (X.pn ++ pins) ++ [] := hp
      rw [List.append_nil] at z; exact z)⟩
  have back : ∀ {H' : Hp} {s' : Shared}, Inv (cxC X N' scope cl h3.objs.size fp pins { s2 with heap := h3 } (upd H2 D (.lst []))) [] (frees src σ) H' s' → (∃ m, s'.heap.Ns h3.objs.size m) ∧ Inv X pins σ H' s' ∧ OffC X pins H' h3.objs.size := fun {H' s'} I' => by
    have Ib : Inv X pins σ H' s' := I3.call' I'.os I'.base I'.hok I'.bare fun b hb => ⟨(f3 b hb).1.2.2.2.1, (f3 b hb).1.2.1, (f3 b hb).1.2.2.2.2.1, (f3 b hb).1.2.2.2.2.2⟩
    refine ⟨let ⟨m, hm, _⟩ := I'.loc; ⟨m, hm⟩, Ib, ⟨I'.free, fun z => ?_, I3.nofs (Nat.le_refl _), Heap.get?_none_of_le I3.sz, fun x c e z => ?_, fun p hp z => ?_⟩⟩
    · have := I3.lt; rw [← z] at this; exact Nat.lt_irrefl _ this
    · obtain ⟨v, o, ho, _⟩ := I3.cell x c e
      have := Heap.lt_size ho; rw [z] at this; exact Nat.lt_irrefl _ this
    · obtain ⟨e, _⟩ := I3.pin p hp
      have := Heap.lt_size e; rw [z] at this; exact Nat.lt_irrefl _ this
  have loop : codeAny (model X.prog X.w) X.A (.compLoop (.ListComp elt [⟨tg, iter, ifs, 0⟩] scope pos) 0 (.ref it) (.ref D) (compEnvC scope cl h3.objs.size X.env)) (RR (.ref D) h3.objs.size) { s2 with heap := h₄, toks := s2.toks + ([] : List (Str × Value)).length } := by
    refine comp_loop (fun n s' => ∃ i ys H', Inv (cxC X N' scope cl h3.objs.size fp pins { s2 with heap := h3 } (upd H2 D (.lst []))) [] (frees src σ) H' s' ∧ tn i s'.heap ∧ (∀ b ∈ fp, H' b = none) ∧ W i n ys H') ?_ m0 ⟨0, [], _, I4, st4, fpn, w0⟩
    rintro n s5 ⟨i, ys, H5, I5, st5, fr5, w5⟩
    rcases turn i n ys H5 w5 with ⟨stop, qn⟩ | ⟨go, step⟩
    · refine thn (T.done (cxC X N' scope cl h3.objs.size fp pins { s2 with heap := h3 } (upd H2 D (.lst []))) rfl rfl rfl hc i [] s5 _ H5 _ I5 (stat fr5) st5 stop) fun r s6 ⟨hr, I6⟩ => ?_
      subst hr
      obtain ⟨b1, b2, b3⟩ := back I6
      exact hRR D _ H5 s6 qn b1 b2 b3
    · refine thn (T.item (cxC X N' scope cl h3.objs.size fp pins { s2 with heap := h3 } (upd H2 D (.lst []))) rfl rfl rfl hc i [] s5 _ H5 _ I5 (stat fr5) st5 go) fun r s6 ⟨u, hr, h6⟩ => ?_
      subst hr
      refine thn h6 fun _ s7 ⟨x, H7, I7, r7, y7, st7, fr7⟩ => ?_
      have I7' := I7.pinned (stat fr7) (T.obj _ _ st7)
      refine thn (hg _ _ _ _ _ _ s7 _ H7 x u _ I7' r7 (step x H7 y7)) fun _ s8 ⟨σ8, H8, I8, ex8, q8⟩ => ?_
      refine thn (ht _ _ _ _ _ _ s8 σ8 H8 _ I8 q8) fun ok s9 ⟨H9, I9, q9⟩ => ?_
      have again : ∀ {ys' : List V} {Ha : Hp} {sa : Shared}, Inv (cxC X N' scope cl h3.objs.size fp pins { s2 with heap := h3 } (upd H2 D (.lst []))) ([] ++ pinsAt fp s7.heap) σ8 Ha sa → (∃ m', m' < n ∧ W (i + 1) m' ys' Ha) →
          ∃ m, m < n ∧ ∃ i ys H', Inv (cxC X N' scope cl h3.objs.size fp pins { s2 with heap := h3 } (upd H2 D (.lst []))) [] (frees src σ) H' sa ∧ tn i sa.heap ∧ (∀ b ∈ fp, H' b = none) ∧ W i m ys H' := fun {ys' Ha sa} Ia ⟨m', hm, wa⟩ => by
        refine ⟨m', hm, i + 1, ys', Ha, (Ia.unpinned).weak ex8.1.symm ex8.2, T.keep _ _ _ st7 fun b hb o e => (Ia.pin (b, o) (List.mem_append_right _ (List.mem_append_right _ (mem_pinsAt hb e)))).1, fun b hb => ?_, wa⟩
        obtain ⟨o, e, _⟩ := T.obj _ _ st7 b hb
        exact (Ia.pin (b, o) (List.mem_append_right _ (List.mem_append_right _ (mem_pinsAt hb e)))).2.1
      cases ok with
      | false => exact again I9 q9
      | true =>
        refine thn (he _ _ _ _ _ _ s9 σ8 H9 _ I9 q9) fun y s10 ⟨yv, H10, I10, r10, q10, hz, wn⟩ => ?_
        refine thn (mt_append _ s10 σ8 H10 (.ref D) [yv] (.ref D) [y] (fun _ Hz => ∃ m', m' < n ∧ W (i + 1) m' (ys ++ [yv]) Hz) I10 rfl (.cons r10 .nil) ⟨D, ys, yv, rfl, rfl, q10, hz, wn⟩) fun _ s11 ⟨_, H11, I11, _, q11⟩ => ?_
        exact again I11 q11
  exact codeAny_compStart_list loop (T.self _ 0 _ _ _ st4 loop)
theorem pe_lcomp (hc : X.calm = true) (hi : PI X tg iter wi) (hg : ∀ C fp pins s H, PG (cxC X N' scope cl C fp pins s H) tg g) (ht : ∀ C fp pins s H, PTs (cxC X N' scope cl C fp pins s H) ifs tt)
    (he : ∀ C fp pins s H, PE (cxC X N' scope cl C fp pins s H) elt te) (hfree : FreeOk X scope cl N' src) (hclos : closureFor scope X.env = pure cl) (hcell : ∀ x ∈ scope.names, x.2 ≠ .cell) (hkind : scope.kind = .function)
    (hnames : ∀ x ∈ scope.names, x.2 = .local → scope.names.lookup x.1 = some .local) (hcl : CellsOk X scope cl) (hs : ∀ x, foldedSetIterable iter X.env x = pure x := by intro _; rfl) :
    PE X (.ListComp elt [⟨tg, iter, ifs, 0⟩] scope pos) (tComp wi src g tt te) := by
  intro pins s σ H Q I h
  rw [eval_ListComp]
  refine wpAny_comprehension_free (use := none) rfl hs hclos hkind hnames (comp_run hc hi hg ht he hfree hcell hkind hcl (RR := fun acc C => compPost (model X.prog X.w) X.A X.xe none (EP X pins σ Q) acc C) I h fun D C H' s' q hm hI hb => ?_)
  obtain ⟨m, hm⟩ := hm
  exact ⟨m, hm, fun h' sb => ⟨.ref D, H', hb.turned hI sb, rfl, q⟩⟩
/-- x = [e for ..], x a local name -/
theorem ps_setC {i : Nat} {x : Str} {pos' pos2 : Pos} (hN : X.N.Nodup) (hi' : X.N[i]? = some x) (hx : Loc X.env.scope x) (hc : X.calm = true) (hi : PI X tg iter wi) (hg : ∀ C fp pins s H, PG (cxC X N' scope cl C fp pins s H) tg g) (ht : ∀ C fp pins s H, PTs (cxC X N' scope cl C fp pins s H) ifs tt)
    (he : ∀ C fp pins s H, PE (cxC X N' scope cl C fp pins s H) elt te) (hfree : FreeOk X scope cl N' src) (hclos : closureFor scope X.env = pure cl) (hcell : ∀ x ∈ scope.names, x.2 ≠ .cell) (hkind : scope.kind = .function)
    (hnames : ∀ x ∈ scope.names, x.2 = .local → scope.names.lookup x.1 = some .local) (hcl : CellsOk X scope cl) (hs : ∀ x, foldedSetIterable iter X.env x = pure x := by intro _; rfl)
    (hsw : swapsWith (.ListComp elt [⟨tg, iter, ifs, 0⟩] scope pos) (some (.Name x pos')) pos2.line X.env = pure true := by rfl) (hf : X.fn x = true ∨ X.env.scope.names.lookup x = some .local := by first | exact .inl rfl | exact .inr rfl | assumption) :
    PS X (.Assign [.Name x pos'] (.ListComp elt [⟨tg, iter, ifs, 0⟩] scope pos) pos2) (tAsg (tComp wi src g tt te) (gName i)) := by
  intro pins s σ H D I h
  rw [exec_Assign_Name_used _ _ _ _ hsw]
  refine wpAny_bind (wpAny_standAt ?_)
  show wpAny _ _ ((comprehension (.ListComp elt [⟨tg, iter, ifs, 0⟩] scope pos) scope X.env _ (newList []) false (eval iter X.env) (some (assign (.Name x pos') X.env)) >>= fun _ => pure ()) >>= fun _ => pure Flow.next) _ _ s
  refine wpAny_bind (wpAny_bind (wpAny_mono (wpAny_comprehension_free (use := some (assign (.Name x pos') X.env)) (Q := fun _ s'' => SP X pins D .next s'') rfl hs hclos hkind hnames (comp_run hc hi hg ht he hfree hcell hkind hcl (RR := fun acc C => compPost (model X.prog X.w) X.A X.xe (some (assign (.Name x pos') X.env)) (fun _ s'' => SP X pins D .next s'') acc C) I h fun E C H' s' q hm hI hb => ?_)) (fun _ s'' h'' => wpAny_pure (wpAny_pure h'')) fun _ _ e => e))
  obtain ⟨m, o, es, ep, ho, hd, r1, r2⟩ := hm
  have I' : Inv X (pins ++ [(C, o)]) σ H' s' := hI.pins_of fun p hp => by
    rcases List.mem_append.mp hp with h | h
    · exact hI.pin p (List.mem_append_right _ h)
    · rw [List.mem_singleton] at h
      rw [h]
      exact ⟨ho, hb.no, hb.lo, hb.fs, fun v z => by rw [hd] at z; cases z⟩
  refine wpAny_assign_Name (store_ok I' hN hi' hx (show RelV (.ref E) (.ref E) from rfl) (fun s'' I'' => ?_) hf)
  have hC := (I''.pin (C, o) (List.mem_append_right _ (List.mem_append_right _ List.mem_cons_self))).1
  have I3 : Inv X pins (σ.set i (some (.ref E))) H' s'' := I''.pins_of fun p hp => I''.pin p (List.mem_append_right _ (List.mem_append_left _ hp))
  exact ⟨m, ⟨o, es, ep, hC, hd, r1, r2⟩, fun h' sb => ⟨_, H', hb.turned I3 sb, q⟩⟩
end
end B

namespace B
open PySem PySem.Spec L2 PyProof.Rows
/-! ### == and != of things whose inside is known -/
def rNeD (K : PySem.W.Frag) : R2 := fun x y H Q => ∃ d d', Deep K H x d ∧ Deep K H y d' ∧ d.canLay0 = true ∧ d'.canLay0 = true ∧ d.depth ≤ 32 ∧ Q (.bl (!PyData.eqv d d')) H
theorem op_neD {X : Cx} {k : Nat} (hr : Room k X.A) : OpR X (compareOp .NotEq) (rNeD X.K) := by
  intro pins s σ H x y v u Q I rx ry h
  obtain ⟨d, d', hd, hd', c, c', dp, q⟩ := h
  obtain ⟨as, ra⟩ := Deep.reads I hd rx
  obtain ⟨bs, rb⟩ := Deep.reads I hd' ry
  exact SeqAt.compareNe_reads ra rb c c' (by have := hr.units; omega) ⟨.bl _, H, I, rfl, q⟩
/-- the answers of == against x, item by item: x itself, or by what is read -/
noncomputable def hitAt (h : Heap) (x : Value) (d : PyData) (y : Value) : Bool :=
  open Classical in if y = x then true else if z : ∃ d', d'.canLay0 = true ∧ d'.depth ≤ 32 ∧ ∃ as, Reads h y d' as then PyData.eqv z.choose d else false
/-- all items' insides are known -/
def Known (K : PySem.W.Frag) (H : Hp) (xs : List V) : Prop := ∀ x ∈ xs, ∃ d, Deep K H x d ∧ d.canLay0 = true ∧ d.depth ≤ 32
/-- x not in xs, where x is one of them -/
def rNotInS (K : PySem.W.Frag) : R2 := fun x y H Q => ∃ a p xs, x = .ref a ∧ y = .ref p ∧ SqL K H p xs ∧ V.ref a ∈ xs ∧ Known K H xs ∧ Q (.bl false) H
/-- xs.index(x), x one of them: some place with the same inside -/
def rIndexS (K : PySem.W.Frag) : V → List V → Hp → VK → Prop := fun x vs H Q => ∃ p xs a d, x = .ref p ∧ vs = [.ref a] ∧ SqL K H p xs ∧ V.ref a ∈ xs ∧ Known K H xs ∧ Deep K H (.ref a) d ∧ d.canLay0 = true ∧ d.depth ≤ 32 ∧
  ∀ (j : Nat) (v' : V), xs[j]? = some v' → (v' = .ref a ∨ ∀ d', Deep K H v' d' → d'.canLay0 = true → PyData.eqv d' d = true) → Q (.int j) H
end B

namespace B
/-! ### ratios as pairs -/
abbrev R := Int × Int
def mkR (a b : Int) : R := (a / (Int.gcd a b : Int), b / (Int.gcd a b : Int))
structure Wf (n : Nat) (r : R) : Prop where
  pos : 0 < r.2
  top : r.1.natAbs < 2 ^ n
  bot : r.2.natAbs < 2 ^ n
  cop : Int.gcd r.1 r.2 = 1
theorem Wf.mono {n m : Nat} {r : R} (h : Wf n r) (l : n ≤ m) : Wf m r := ⟨h.pos, Nat.lt_of_lt_of_le h.top (Nat.pow_le_pow_right (by decide) l), Nat.lt_of_lt_of_le h.bot (Nat.pow_le_pow_right (by decide) l), h.cop⟩
theorem gcd_posR {a b : Int} (hb : 0 < b) : 0 < (Int.gcd a b : Int) := by
  have h : Int.gcd a b ≠ 0 := fun z => by
    have := (Int.gcd_eq_zero_iff.mp z).2
    omega
  omega
def plusR (r q : R) : R := mkR (r.1 * q.2 + q.1 * r.2) (r.2 * q.2)
def timesR (r q : R) : R := mkR (r.1 * q.1) (r.2 * q.2)
def lessR (r q : R) : Bool := decide (r.1 * q.2 < q.1 * r.2)
end B

namespace B
open PySem L2 PyProof.Rows
/-! ### big products and quotients -/
def CBig (i j : Int) : Prop := i.natAbs < 2 ^ 4000 ∧ j.natAbs < 2 ^ 4000
def CQuo (_ j : Int) : Prop := 0 < j ∧ j.natAbs < 2 ^ 4000
section
variable {X : Cx}
end
/-! ### what stays of tuples -/
def Tst (K : PySem.W.Frag) (H H' : Hp) : Prop := ∀ p xs, SqT K H p xs → SqT K H' p xs
theorem Tst.trans {K : PySem.W.Frag} {H H1 H2 : Hp} (a : Tst K H H1) (b : Tst K H1 H2) : Tst K H H2 := fun p xs h => b p xs (a p xs h)
theorem Tst.same {K : PySem.W.Frag} {H H' : Hp} (s : Same H H') : Tst K H H' := fun p xs h => by
  rcases h with (h | ⟨o, h⟩) | h
  · exact .inl (.inl (s _ _ h))
  · exact .inl (.inr ⟨o, s _ _ h⟩)
  · exact .inr h
theorem Tst.step {K : PySem.W.Frag} {t : Addr} {H H' : Hp} (S : Step t H H') : Tst K H H' := fun p xs h => by
  obtain ⟨ys, ht⟩ := S.tp
  rcases h with (h | ⟨o, h⟩) | h
  · exact .inl (.inl (S.keep _ _ (fun z => by subst z; rw [h] at ht; cases ht) h))
  · exact .inl (.inr ⟨o, S.keep _ _ (fun z => by subst z; rw [h] at ht; cases ht) h⟩)
  · exact .inr h
theorem Tst.up {K : PySem.W.Frag} {H : Hp} {l : Addr} {xs : List V} (h : H l = some (.lst xs)) (ys : List V) : Tst K H (upd H l (.lst ys)) := Tst.step (Step.up h)
/-- the value is the ratio r -/
def RV (K : PySem.W.Frag) (H : Hp) (v : V) (r : R) : Prop := ∃ p, v = .ref p ∧ SqT K H p [.int r.1, .int r.2]
theorem RV.mono {K : PySem.W.Frag} {H H' : Hp} {v : V} {r : R} (h : RV K H v r) (t : Tst K H H') : RV K H' v r := let ⟨p, e, q⟩ := h; ⟨p, e, t _ _ q⟩
theorem RV.of {K : PySem.W.Frag} {H : Hp} {p : Addr} {a b : Int} (h : H p = some (.tup [.int a, .int b])) : RV K H (.ref p) (a, b) := ⟨p, rfl, SqT.of h⟩
/-- the values are the ratios rs -/
def RVs (K : PySem.W.Frag) (H : Hp) (xs : List V) (rs : List R) : Prop := xs.length = rs.length ∧ ∀ (i : Nat) (x : V) (r : R), xs[i]? = some x → rs[i]? = some r → RV K H x r
/-- r to k -/
def powR (r : R) : Nat → R
  | 0 => (1, 1)
  | k + 1 => timesR (powR r k) r
def sumR (rs : List R) : R := rs.foldl plusR (0, 1)
/-- a ratio's data -/
def dR (r : R) : PyData := .tuple [.int r.1, .int r.2]
theorem RV.deep {K : PySem.W.Frag} {H : Hp} {v : V} {r : R} (h : RV K H v r) : Deep K H v (dR r) := by
  obtain ⟨p, rfl, q⟩ := h
  exact .tup q (.cons (.int _) (.cons (.int _) .nil))
theorem dR_lay (r : R) : (dR r).canLay0 = true := rfl
theorem log_of {i : Int} {n : Nat} (h : i.natAbs < 2 ^ n) (hn : n ≤ 1900) : i.natAbs.log2 < 1920 := by
  by_cases z : i.natAbs = 0
  · rw [z]; decide
  · have := (Nat.log2_lt z).mpr (Nat.lt_of_lt_of_le h (Nat.pow_le_pow_right (by decide) hn))
    omega
theorem len_of {i : Int} {n : Nat} (h : i.natAbs < 2 ^ n) (hn : n ≤ 1900) : (PyData.int i).shown.length ≤ 1921 := by
  have q := int_text_length_le (a := i) (k := 1920) (by decide) (log_of h hn)
  have e : (PyData.int i).shown.length = (toString i).length := by
    show (Str.ofString (toString i)).length = _
    exact PySem.ofString_length _
  omega
theorem dR_shows {r : R} {n : Nat} (h : Wf n r) (hn : n ≤ 1900) : Shows (dR r) where
  sh := by
    show (decide (r.1.natAbs.log2 < 1920) && (decide (r.2.natAbs.log2 < 1920) && true)) = true
    rw [decide_eq_true (log_of h.top hn), decide_eq_true (log_of h.bot hn)]; rfl
  nd := rfl
  sz := by
    have a := len_of h.top hn
    have b := len_of h.bot hn
    have q := tupleText_len_le [(PyData.int r.1).shown, (PyData.int r.2).shown]
    have e : (dR r).shown = tupleText [(PyData.int r.1).shown, (PyData.int r.2).shown] := rfl
    rw [e]
    simp only [List.map_cons, List.map_nil, List.sum_cons, List.sum_nil, List.length_cons, List.length_nil] at q
    have : sizeLine = 16777216 := by decide
    omega
  dp := by show max 0 (max 0 0) + 1 ≤ 16; decide
end B
namespace B
open PySem L2 PyProof.Rows
def dL (rs : List R) : PyData := .list (rs.map dR)
/-- over a list or a tuple -/
def iSeq (K : PySem.W.Frag) (tl : TE) : TI := fun σ H R => tl σ H fun x H1 => (∃ a, x = .ref a ∧ (∃ xs, SqL K H1 a xs) ∧ R (Itl K a) H1) ∨ (∃ a, x = .ref a ∧ (∃ xs, SqT K H1 a xs) ∧ R (Itt K a) H1)
end B

namespace B
/-! ### ratios in lowest terms -/
structure Red (r : R) : Prop where
  pos : 0 < r.2
  cop : Int.gcd r.1 r.2 = 1
/-- a divisor and what is left -/
theorem gcd_parts {a b : Int} (hb : 0 < b) : ∃ g x y : Int, (Int.gcd a b : Int) = g ∧ 0 < g ∧ a = g * x ∧ b = g * y ∧ Int.gcd x y = 1 := by
  have gp := gcd_posR (a := a) hb
  obtain ⟨x, hx⟩ := Int.gcd_dvd_left a b
  obtain ⟨y, hy⟩ := Int.gcd_dvd_right a b
  refine ⟨_, x, y, rfl, gp, hx, hy, ?_⟩
  have z := Int.gcd_ediv_gcd_ediv_gcd (i := a) (j := b) (by omega)
  have e1 : a / (Int.gcd a b : Int) = x := by
    conv => lhs; lhs; rw [hx]
    exact Int.mul_ediv_cancel_left _ (by omega)
  have e2 : b / (Int.gcd a b : Int) = y := by
    conv => lhs; lhs; rw [hy]
    exact Int.mul_ediv_cancel_left _ (by omega)
  rw [e1, e2] at z
  exact z
theorem pos_of {g y b : Int} (hb : 0 < b) (hg : 0 < g) (e : b = g * y) : 0 < y := by
  rcases Int.lt_or_le 0 y with h | h
  · exact h
  · have := Int.mul_le_mul_of_nonneg_left h (Int.le_of_lt hg)
    rw [Int.mul_zero] at this
    omega
/-- the sum as it is reckoned by the divisor of the bottoms -/
def plusG (r q : R) : R :=
  let d : Int := (Int.gcd r.2 q.2 : Nat)
  let t := r.1 * (q.2 / d) + q.1 * (r.2 / d)
  let e : Int := (Int.gcd t d : Nat)
  (t / e, r.2 / d * (q.2 / e))
def timesG (r q : R) : R :=
  let l : Int := (Int.gcd r.1 q.2 : Nat)
  let m : Int := (Int.gcd q.1 r.2 : Nat)
  (r.1 / l * (q.1 / m), r.2 / m * (q.2 / l))
end B

namespace B
open PySem L2 PyProof.Rows
/-! ### quotients by numbers of either sign -/
def CQuoN (_ j : Int) : Prop := j ≠ 0 ∧ j.natAbs < 2 ^ 4000
theorem op_quoN {X : Cx} : OpR X (binaryOp .FloorDiv) (rI CQuoN fun i j => .int (i.fdiv j)) := opI fun i j _ _ _ _ _ hc q => by
  have h1 : j ≠ 0 := hc.1
  have h2 : j.natAbs < 2 ^ 4000 := hc.2
  refine floordiv_int h1 q (.inl (PyProof.noPylong_of_log2 ?_))
  exact Nat.lt_trans ((Nat.log2_lt (show j.natAbs ≠ 0 by omega)).mpr h2) (by decide)
/-- the ratio of any two numbers, the second not nought -/
def mkS (a b : Int) : R := if b < 0 then mkR (-a) (-b) else mkR a b
theorem mkS_pos {a b : Int} (h : 0 < b) : mkS a b = mkR a b := by unfold mkS; rw [if_neg (by omega)]
theorem fdiv_pos {a g : Int} (h : 0 < g) : a.fdiv g = a / g := Int.fdiv_eq_ediv_of_nonneg a (by omega)
theorem fdiv_negg {a g : Int} (h : 0 < g) : a.fdiv (-g) = -a / g := by
  have e : a.fdiv (-g) = (-a).fdiv g := by
    have := Int.neg_fdiv_neg (-a) g
    rw [Int.neg_neg] at this
    exact this
  rw [e, fdiv_pos h]
theorem gcd_neg2 (a b : Int) : Int.gcd (-a) (-b) = Int.gcd a b := by simp [Int.gcd]
theorem gcd_posN {a b : Int} (hb : b ≠ 0) : 0 < (Int.gcd a b : Int) := by
  have h : Int.gcd a b ≠ 0 := fun z => hb (Int.gcd_eq_zero_iff.mp z).2
  omega
theorem gcd_big {a b : Int} (hb : b ≠ 0) (hz : b.natAbs < 2 ^ 4000) : ((Int.gcd a b : Nat) : Int).natAbs < 2 ^ 4000 := by
  have z : Int.gcd a b ≤ b.natAbs := Nat.le_of_dvd (by omega) (by have := Int.gcd_dvd_right a b; exact Int.natAbs_dvd_natAbs.mpr this)
  have e : ((Int.gcd a b : Nat) : Int).natAbs = Int.gcd a b := Int.natAbs_natCast _
  omega
theorem mkS_pos1 {a b : Int} (hb : 0 < b) : (a.fdiv (Int.gcd a b : Int), b.fdiv (Int.gcd a b : Int)) = mkS a b := by
  rw [mkS_pos hb, fdiv_pos (gcd_posR hb), fdiv_pos (gcd_posR hb)]; rfl
theorem mkS_neg1 {a b : Int} (hb : b < 0) : (a.fdiv (-(Int.gcd a b : Int)), b.fdiv (-(Int.gcd a b : Int))) = mkS a b := by
  have g := gcd_posN (a := a) (b := b) (by omega)
  unfold mkS
  rw [if_pos hb, fdiv_negg g, fdiv_negg g]
  unfold mkR
  rw [gcd_neg2]
def minusR (r q : R) : R := mkR (r.1 * q.2 - q.1 * r.2) (r.2 * q.2)
def overR (r q : R) : R := mkS (r.1 * q.2) (r.2 * q.1)
/-! ### lists and tuples of short things, shown -/
structure Small (d : PyData) : Prop where
  sh : d.showable = true
  nd : d.hasDict = false
  sz : d.shown.length ≤ 5000
  dp : d.depth ≤ 8
theorem small_dR {r : R} {n : Nat} (h : Wf n r) (hn : n ≤ 1900) : Small (dR r) where
  sh := (dR_shows h hn).sh
  nd := rfl
  sz := by
    have a := len_of h.top hn
    have b := len_of h.bot hn
    have q := tupleText_len_le [(PyData.int r.1).shown, (PyData.int r.2).shown]
    have e : (dR r).shown = tupleText [(PyData.int r.1).shown, (PyData.int r.2).shown] := rfl
    rw [e]
    simp only [List.map_cons, List.map_nil, List.sum_cons, List.sum_nil, List.length_cons, List.length_nil] at q
    omega
  dp := by show max 0 (max 0 0) + 1 ≤ 8; decide
end B

namespace B
end B

namespace B
open PySem PySem.Spec L2 PyProof.Rows
/-! ### an own class of errors, made: its own __init__ behind BaseException's __new__ -/
section
variable {prog : Program} {w : World} {A : Around} {E : Value → Shared → Prop} {h : Heap} {g : Array GenState} {d : Drawn} {t : Nat} {os : OsState} {K : PySem.W.Frag}
variable {nm q : Str} {C N : Addr} {bs bm bmB : List Value} {hdct : Bool} {sn : List Str} {sub : List Value} {ab : Bool} {col : Option Bool} {dd : Option Addr} {k0 k1 k2 k3 k5 : Option Value} {bN newId initId : String}
theorem exc_typecall (F : ExcBaseFacts bN newId initId bmB) (T : OwnTail h bmB bm) {rest : List Value} {fI : Addr} {Q : Fin → Shared → Prop} (X : K.In h)
    (hC : h.get? C = some (excClassObj nm q C N bs bm hdct sn sub ab col dd k0 k1 k2 k3 k5 newId)) (hi : PySem.W.findIn K (.ref C) "__init__" = some (some (.ref fI))) (hf : PySem.W.typeIn K (.ref fI) = some (.type "function"))
    (hq : ∀ h' e, Heap.MadeExcOf h h' e (.ref C) rest → wpAny (model prog w) A (call (.ref fI) (.ref e :: rest)) (fun r s' => r = .none ∧ Q (.done (.ret (.ref e))) s') E ⟨h', g, d, t, os⟩) (hz : rest.length ≤ sizeLine) :
    wpAny (model prog w) A (Builtin.«type.__call__» ⟨.ref C :: rest, []⟩) Q E ⟨h, g, d, t, os⟩ := by
  repeat (first
    | with_reducible refine wpAny_loadPart_at hC ?_
    | with_reducible refine wpAny_madeBy_exc hC ?_
    | wp_step)
  refine codeAny_call_builtin_code (Code.quiet_builtin _ F.quiet)
    (wpAny_check_new_subT F T hC ?_)
  refine codeAny_exc_new_subT F T hC ?_ hz
  show wpAny _ _ _ _ _ _
  have up : ∀ b o, h.get? b = some o → ((h.push { cls := .type "tuple", data := .seq rest.toArray }).push
      { cls := .ref C, data := .fields #[.ref h.objs.size, .none, .none, .none, .bool false, .none] }).get? b = some o := fun b o e =>
    Heap.get?_push_of_some _ (Heap.get?_push_of_some _ e)
  have hC₁ := up _ _ hC
  have X₁ := X.keeps up
  have hx : ((h.push { cls := .type "tuple", data := .seq rest.toArray }).push
      { cls := .ref C, data := .fields #[.ref h.objs.size, .none, .none, .none, .bool false, .none] }).get? (h.objs.size + 1) =
      some { cls := .ref C, data := .fields #[.ref h.objs.size, .none, .none, .none, .bool false, .none] } := by heap_get
  have hcC : (Value.ref C :: bm).contains (.ref C) = true := by simp
  unfold isInstance
  repeat (first
    | with_reducible refine wpAny_loadPart_at hx ?_
    | (with_reducible refine wpAny_isSubtype_exc hC₁ ?_
       rw [hcC])
    | wp_step)
  show wpAny _ _ (typeLookup (.ref C) _) _ _ _
  refine (PySem.W.looks_findIn X₁ hi) _ _ _ _ (fun _ _ e => e) ?_
  refine wpAny_holding (wpAny_bind ?_)
  refine (PySem.W.bind_fn X₁ _ hf) _ _ _ _ (fun _ _ e => e) ?_
  refine wpAny_bind (wpAny_mono (hq _ (h.objs.size + 1)
    ⟨up, Heap.get?_none_of_le (Nat.le_succ _), h.objs.size, hx, Heap.get?_none_of_le (Nat.le_refl _), ?_⟩) (fun r s' hr => ?_) fun _ _ y => y)
  · exact Heap.get?_push_of_some _ (Heap.get?_push_at rfl rfl)
  · obtain ⟨rfl, hQ⟩ := hr
    wp_walk
    exact hQ
theorem exc_call (F : ExcBaseFacts bN newId initId bmB) (T : OwnTail h bmB bm) {rest : List Value} {fI : Addr} {Q : Value → Shared → Prop} (X : K.In h)
    (hC : h.get? C = some (excClassObj nm q C N bs bm hdct sn sub ab col dd k0 k1 k2 k3 k5 newId)) (hi : PySem.W.findIn K (.ref C) "__init__" = some (some (.ref fI))) (hf : PySem.W.typeIn K (.ref fI) = some (.type "function"))
    (hq : ∀ h' e, Heap.MadeExcOf h h' e (.ref C) rest → wpAny (model prog w) (A.under (.builtin "type.__call__" ⟨.ref C :: rest, []⟩)) (call (.ref fI) (.ref e :: rest)) (fun r s' => r = .none ∧ Q (.ref e) s') E ⟨h', g, d, t, os⟩) (hz : rest.length ≤ sizeLine) :
    wpAny (model prog w) A (call (.ref C) rest) Q E ⟨h, g, d, t, os⟩ := by
  have f1 := tc_lookup
  have f2 := tc_bind (.ref C)
  have hT : (⟨h, g, d, t, os⟩ : Shared).TypeIs (.ref C) "type" := ⟨_, hC, rfl⟩
  refine wpAny_call (codeAny_of_tree ?_)
  show wpAny _ _ (callAny (.ref C) _) _ _ _
  repeat (any_goals (first
    | assumption
    | with_reducible refine wpAny_loadPart_at hC ?_
    | wp_step))
  refine ⟨rfl, ?_⟩
  refine codeAny_call_builtin_at (Code.quiet_builtin _ (by decide +kernel)) entry_typeCall
    (wpAny_check_type_call_sub hC (exc_typecall F T X hC hi hf (fun h' e hm => ?_) hz))
  exact hq h' e hm
end
end B
namespace B
open PySem PySem.Spec L2 PyProof.Rows
def vMro : List Value := [.type "ValueError", .type "Exception", .type "BaseException", .type "object"]
/-- what storing into an error asks of its class -/
structure ClsX (K : PySem.W.Frag) (C : Addr) (bm : List Value) : Prop where
  ob : ∃ nm q N bs hdct sn sub ab col dd k0 k1 k2 k3 k5, K.lookup C = some (excClassObj nm q C N bs bm hdct sn sub ab col dd k0 k1 k2 k3 k5 "ValueError.__new__")
  tl : ∀ h : Heap, K.In h → OwnTail h vMro bm
  hd : PySem.W.hasDictIn K C = true
  sa : PySem.W.findIn K (.ref C) "__setattr__" = some (some (.builtin "object.__setattr__"))
theorem lets_by {h : Heap} {tl : List Value} (T : OwnTail h vMro tl) (self : Value) : refuseLoop self "__setattr__" tl = pure () := by
  induction T with
  | base => exact PySem.F.store_ValueError.passes self
  | own _ _ _ _ ih => rw [refuseLoop_ref]; exact ih
theorem clsX_cls {K : PySem.W.Frag} {C : Addr} {bm : List Value} (c : ClsX K C bm) : ∃ cd, PySem.W.clsIn K C = some cd ∧ cd.mro = .ref C :: bm := by
  obtain ⟨nm, q, N, bs, hdct, sn, sub, ab, col, dd, k0, k1, k2, k3, k5, lk⟩ := c.ob
  unfold PySem.W.clsIn
  rw [lk]
  exact ⟨_, rfl, rfl⟩
section
variable {prog : Program} {w : World} {A : Around} {s : Shared} {K : PySem.W.Frag} {x C : Addr} {R : Result → Shared → Prop}
theorem store_err {ox : Obj} {od : Option Obj} {name : Str} {tk : Tok} {v : Value} {bm : List Value} (X : K.In s.heap) (I : PySem.W.InstAt s.heap x ox C od) (c : ClsX K C bm) (n : NoAttr K C name)
    (h : ∀ b, wpAny (model prog w) A.in1 (Builtin.ObjectAttr.storeInOwnDict (.ref x) (.ref C) (.str name tk) name v b) (fun fin s' => match fin with
      | .done f => R (.ok f) s'
      | .again c' => c'.quiet = true ∧ codeAny (model prog w) A c' R s') (fun e s' => R (.error e) s') s) :
    codeAny (model prog w) A (.call (.builtin "object.__setattr__") ⟨[.ref x, .str name tk, v], []⟩) R s := by
  have sf := PySem.F.store_object
  obtain ⟨cd, hc, hm⟩ := clsX_cls c
  have T := c.tl _ X
  have hob : (Value.ref C :: bm).contains (.type "object") = true := by
    rw [List.contains_cons, T.hasType (X := "object") (b := true) (by decide +kernel), Bool.or_true]
  have isO : PySem.W.Looks (model prog w) s.heap (isInstance (.ref x) (.type "object")) true := by
    refine I.type.andThen (PySem.W.looks_mroIn X ?_)
    unfold PySem.W.mroIn
    rw [hc]
    show (if cd.mro.isEmpty = true then none else some (cd.mro.contains (.type "object"))) = some true
    rw [hm, hob]; rfl
  have ms : PySem.W.Looks (model prog w) s.heap (mroOf (.ref C)) (.ref C :: bm) := by
    rw [← hm]; exact (PySem.W.looks_clsIn X hc).andThen .now
  refine codeAny_call_builtin sf.slot.plain sf.entry (PySem.W.check_slot (i := "object.__setattr__") (owner := "object") (n := "__setattr__") sf.kind sf.split isO (sf.args _ _ _) ?_)
  rw [PySem.W.osa_eq, refuse_eq]
  refine wpAny_bind (wpAny_bind (I.type.here (wpAny_bind (ms.here ?_))))
  rw [refuseLoop_ref, lets_by T]
  refine wpAny_pure (wpAny_bind (I.type.here (wpAny_bind ((PySem.W.looks_findIn X n).here (wpAny_bind ?_)))))
  exact PySem.W.Looks.here (r := none) .now (h _)
end
/-! ### an error as a tracked thing -/
def ExcO (a C : Addr) (dx : Option Addr) : Heap → Prop := fun h => ∃ t : Addr, h.get? a = some { cls := .ref C, dict := dx, data := .fields #[.ref t, .none, .none, .none, .bool false, .none] }
def exO (a C : Addr) (dx : Option Addr) : HO := .ext (ExcO a C dx)
theorem exO_ok {P : Program} {w : World} {H : Hp} {h : Heap} {a C : Addr} {dx : Option Addr} (e : ExcO a C dx h) : ObjOk P w H h a (exO a C dx) :=
  ⟨e, let ⟨_, q⟩ := e; ⟨_, q⟩, fun _ _ ⟨t, q⟩ k => ⟨t, k _ q⟩⟩
/-- no longer tracked -/
def del (H : Hp) (a : Addr) : Hp := fun b => if b = a then none else H b
theorem del_same {H : Hp} {a : Addr} : del H a a = none := by unfold del; rw [if_pos rfl]
theorem del_ne {H : Hp} {a b : Addr} (h : b ≠ a) : del H a b = H b := by unfold del; rw [if_neg h]
section
variable {X : Cx} {pins : List (Addr × Obj)} {σ : L2.St} {H : Hp} {s : Shared} {a C : Addr} {dx : Option Addr}
theorem Inv.forget {φ : Heap → Prop} (I : L2.Inv X pins σ H s) (e : H a = some (.ext φ)) (new : X.s₀.heap.get? a = none) : L2.Inv X pins σ (del H a) s := by
  have none_of : ∀ b, H b = none → del H a b = none := fun b h => by
    by_cases z : b = a
    · rw [z]; exact del_same
    · rw [del_ne z]; exact h
  refine ⟨I.ok, I.os, I.bare, ⟨I.base.keep, I.base.slot, fun b o q n hx => none_of b (I.base.free b o q n hx), I.base.there, fun b xs q => ?_, fun b o u q => ?_, fun b ps q => ?_⟩, I.loc, I.cell, none_of _ I.free, fun x c q => none_of _ (I.freeC x c q), fun p hp => ?_, fun b o q => ?_, I.len⟩
  · have z := I.base.tups b xs q
    rw [del_ne (fun k => by rw [k, e] at z; cases z)]; exact z
  · have z := I.base.frzs b o u q
    rw [del_ne (fun k => by rw [k, e] at z; cases z)]; exact z
  · obtain ⟨m, z⟩ := I.base.tbls b ps q
    exact ⟨m, by rw [del_ne (fun k => by rw [k, e] at z; cases z)]; exact z⟩
  · obtain ⟨p1, p2, p3⟩ := I.pin p hp
    exact ⟨p1, none_of _ p2, p3⟩
  · have nb : b ≠ a := fun z => by rw [z, del_same] at q; cases q
    rw [del_ne nb] at q
    refine (I.hok b o q).stay (fun c u _ z => z) (fun c z => ?_) (fun c xs z => ?_)
    · rw [del_ne (fun k => by rw [k, e] at z; cases z)]; exact z
    · rw [del_ne (fun k => by rw [k, e] at z; cases z)]; exact z
end
end B

namespace B
open PySem PySem.Spec L2 PyProof.Rows
theorem ObjOk.get {P : Program} {w : World} {H : Hp} {h : Heap} {a : Addr} {o : HO} (x : L2.ObjOk P w H h a o) : ∃ u, h.get? a = some u := by
  cases o with
  | lst xs => obtain ⟨_, _, _, _, e⟩ := x; exact ⟨_, e⟩
  | tup xs => obtain ⟨_, _, _, o, e, _⟩ := x; exact ⟨_, e⟩
  | dK kvs => obtain ⟨_, _, _, _, o, _, _, e, _⟩ := x; exact ⟨_, e⟩
  | dT kvs => obtain ⟨_, _, _, _, o, _, _, e, _⟩ := x; exact ⟨_, e⟩
  | set S n => obtain ⟨o, _, _, _, e, _⟩ := x; exact ⟨_, e⟩
  | ins C dx fs => obtain ⟨_, _, _, e, _⟩ := x; exact ⟨_, e⟩
  | own y => exact x
  | xd fs => obtain ⟨_, ⟨_, _, _, e, _⟩, _⟩ := x; exact ⟨_, e⟩
  | rng lo hi => obtain ⟨_, _, _, e⟩ := x; exact ⟨_, e⟩
  | frz ob u => obtain ⟨e, _⟩ := x; exact ⟨_, e⟩
  | tbl ps => exact ⟨_, show h.get? a = some _ from x⟩
  | met f y => exact ⟨_, show h.get? a = some _ from x⟩
  | ext φ => exact x.2.1
/-- an error that has left a frame: its record and its newest entry -/
def Trc (h : Heap) (H : Hp) (x C T : Addr) (a0 : Value) : Prop :=
  ∃ oe vs oT ts, h.get? x = some oe ∧ oe.cls = .ref C ∧ vs[0]? = some a0 ∧ oe.data = .fields vs ∧ vs[1]? = some (.ref T) ∧ H T = none ∧ T ≠ x ∧ h.get? T = some oT ∧ oT.data = .fields ts ∧ ts[3]? = some .none
/-- how an error lies behind a call -/
def CXR (P : Program) (w : World) : CXT := fun outer H s E e s' => ∃ (x C T : Addr) (a0 : Value) (H' : Hp), e = .ref x ∧ s'.os = s.os ∧ AllBare s'.gens ∧ Un (frs outer) [] H H' s.heap s'.heap ∧ HOk P w H' s'.heap ∧ s.heap.get? x = none ∧ s.heap.get? T = none ∧ H' x = none ∧
  Trc s'.heap H' x C T a0 ∧ E (.ref C) none H'
/-- an address that nothing of the context stands at -/
structure NewAt (X : Cx) (pins : List (Addr × Obj)) (a : Addr) : Prop where
  st : X.s₀.heap.get? a = none
  lo : a ≠ X.env.locals
  ce : ∀ x c, X.env.cells.lookup x = some c → c ≠ a
  pi : ∀ p ∈ X.pn ++ pins, p.1 ≠ a
  fr : a ∉ frs X.stack
section
variable {X : Cx} {pins : List (Addr × Obj)} {σ : L2.St} {H H' : Hp} {s : Shared} {a : Addr}
theorem Inv.newAt (I : L2.Inv X pins σ H s) (hex : X.ex = []) (h : s.heap.get? a = none) : NewAt X pins a where
  st := by
    cases e : X.s₀.heap.get? a with
    | none => rfl
    | some o =>
      obtain ⟨o', q⟩ := I.base.there a o e (by rw [hex]; simp)
      rw [h] at q; cases q
  lo := fun z => by
    obtain ⟨m, ⟨o, _, _, q, _⟩, _⟩ := I.loc
    rw [← z, h] at q; cases q
  ce := fun x c e z => by
    obtain ⟨v, o, q, _⟩ := I.cell x c e
    rw [z, h] at q; cases q
  pi := fun p hp z => by
    obtain ⟨q, _⟩ := I.pin p hp
    rw [z, h] at q; cases q
  fr := fun z => by
    obtain ⟨_, o, q, _⟩ := I.stack.mem z
    rw [h] at q; cases q
end
end B

namespace B
open PySem PySem.Spec L2 PyProof.Rows
section
variable {X : Cx} {pins : List (Addr × Obj)} {σ : L2.St} {H : Hp} {s : Shared} {a : Addr} {o : HO}
/-- a new thing of the heap is tracked from here on -/
theorem Inv.adopt (I : L2.Inv X pins σ H s) (na : NewAt X pins a) (ha : H a = none) (hex : X.ex = []) (new : L2.ObjOk X.prog X.w (upd H a o) s.heap a o) : L2.Inv X pins σ (upd H a o) s := by
  have keep : ∀ b u, H b = some u → upd H a o b = some u := fun b u q => by rw [upd_ne (ne_of_none q ha)]; exact q
  have nn : ∀ b, b ≠ a → H b = none → upd H a o b = none := fun b nb q => by rw [upd_ne nb]; exact q
  refine ⟨I.ok, I.os, I.bare, ⟨I.base.keep, I.base.slot, fun b u q n hx => nn b (fun z => by rw [z, na.st] at q; cases q) (I.base.free b u q n hx), I.base.there, fun b xs q => keep _ _ (I.base.tups b xs q), fun b u v q => keep _ _ (I.base.frzs b u v q), fun b ps q => ?_⟩, I.loc, I.cell, nn _ na.lo.symm I.free, fun x c q => nn _ (na.ce x c q) (I.freeC x c q), fun p hp => ?_, fun b u q => ?_, I.len⟩
  · obtain ⟨m, z⟩ := I.base.tbls b ps q
    exact ⟨m, keep _ _ z⟩
  · obtain ⟨p1, p2, p3⟩ := I.pin p hp
    exact ⟨p1, nn _ (na.pi p hp) p2, p3⟩
  · by_cases z : b = a
    · subst z
      rw [upd_same] at q; cases q
      exact new
    · rw [upd_ne z] at q
      exact (I.hok b u q).stay (fun c v _ w => w) (fun c w => keep _ _ w) (fun c xs w => keep _ _ w)
theorem Inv.none_of (I : L2.Inv X pins σ H s) (h : s.heap.get? a = none) : H a = none := by
  cases q : H a with
  | none => rfl
  | some o => obtain ⟨u, z⟩ := ObjOk.get (I.hok a o q); rw [h] at z; cases z
end
/-- what of the text an own class of errors must have: C with its __init__ f, straight under P0, that one under ValueError -/
structure XC (K : PySem.W.Frag) (C f : Addr) (bm : List Value) : Prop where
  ob : ∃ nm q N bs hdct sn sub ab col dd k0 k1 k2 k3 k5, K.lookup C = some (excClassObj nm q C N bs bm hdct sn sub ab col dd k0 k1 k2 k3 k5 "ValueError.__new__")
  tl : ∀ h : Heap, K.In h → OwnTail h vMro bm
  init : PySem.W.findIn K (.ref C) "__init__" = some (some (.ref f))
  fn : PySem.W.typeIn K (.ref f) = some (.type "function")
  kp : PySem.W.keepIn K (.ref C) = true
  cl : ClsX K C bm
section
variable {X : Cx} {k : Nat} {f C : Addr} {fd : FuncData} {ps : List Str} {sp : Sp} {bm : List Value}
theorem run_exc {pins : List (Addr × Obj)} {σ : L2.St} {H : Hp} {s : Shared} {Q : Addr → Hp → Prop} {us : List Value} {vs : List V} {E' : Value → Shared → Prop} (M : XC X.K C f bm) (hex : X.ex = []) (F : FnOk X.prog X.w X.K X.mg X.base CX0 k f fd ps sp) (hr : Room (k + 1) X.A) (hb : Binds X.K fd ps [])
    (I : L2.Inv X pins σ H s) (r : Vals vs us) (hz : us.length ≤ sizeLine) (h : ∀ a, H a = none → sp (.ref a :: vs) (upd H a (exO a C none)) (fun v H2 => v = .non ∧ Q a H2) E0) :
    wpAny (model X.prog X.w) X.A (call (.ref C) us) (fun v s' => ∃ a H', v = .ref a ∧ NewAt X pins a ∧ L2.Inv X pins σ H' s' ∧ Q a H') E' s := by
  obtain ⟨nm, q, N, bs, hdct, sn, sub, ab, col, dd, k0, k1, k2, k3, k5, lk⟩ := M.ob
  obtain ⟨hp, g, d, t, os⟩ := s
  refine exc_call PySem.F.excBase_ValueError (M.tl hp I.kIn) I.kIn (I.kIn _ _ lk) M.init M.fn (fun h' e hm => ?_) hz
  have na := B.Inv.newAt I hex hm.new
  have he := B.Inv.none_of I hm.new
  obtain ⟨tt, ho, _⟩ := hm.there
  have I1 : L2.Inv X pins σ H ⟨h', g, d, t, os⟩ := I.kept (t' := t) hm.keeps
  have I2 : L2.Inv X pins σ (upd H e (exO e C none)) ⟨h', g, d, t, os⟩ := B.Inv.adopt I1 na he hex (exO_ok ⟨tt, ho⟩)
  have hq := h e he
  have r2 : Vals (V.ref e :: vs) (Value.ref e :: us) := .cons rfl r
  have hl : (Value.ref e :: us).length = ps.length := by
    have z := r2.length
    rw [F.len _ _ _ _ hq] at z
    exact z.symm
  have hbd := hb ⟨h', g, d, t, os⟩ (Value.ref e :: us) I2.kIn (by rw [List.append_nil]; exact hl)
  rw [List.append_nil] at hbd
  refine wpAny_call (codeAny_mono (F.run _ X.stack _ _ ⟨Value.ref e :: us, []⟩ (Value.ref e :: us) _ _ E0 (hr.make C us []) (I2.env0.make C us []) hbd r2 hq) fun r s' hq' => ?_)
  cases r with
  | error e => exact False.elim hq'
  | ok fl =>
    cases fl with
    | ret u =>
      obtain ⟨v, H', I3, rv, ev, q3⟩ := I2.after hq'
      subst ev
      exact ⟨rv, e, H', rfl, na, I3, q3⟩
    | next => exact False.elim hq'
    | brk => exact False.elim hq'
    | cont => exact False.elim hq'
/-- the context takes an error that is made in it -/
def Takes (X : Cx) (E : XK) : Prop := ∀ (pins : List (Addr × Obj)) (σ : L2.St) (H : Hp) (s : Shared) (a C : Addr) (oe : Obj) (vs : Array Value) (a0 : Value), L2.Inv X pins σ H s → H a = none → NewAt X pins a → s.heap.get? a = some oe → oe.data = .fields vs →
  vs[0]? = some a0 → vs[1]? = some .none → oe.cls = .ref C → E (.ref C) none H → X.xe (.ref a) s
/-- raise, of an error just made -/
theorem raise_own {M : Model} {A : Around} {E : Value → Shared → Prop} {env : Env} {nm q : Str} {N : Addr} {bs : List Value} {hdct : Bool} {sn : List Str} {sub : List Value} {ab : Bool} {col : Option Bool} {dd : Option Addr} {k0 k1 k2 k3 k5 : Option Value} {newId : String}
    {s : Shared} {x : Sem Value} {Q : Flow → Shared → Prop} (hbase : bm.contains (.type "BaseException") = true) (hh : A.handled = none)
    (h : wpAny M A x (fun v s₁ => ∃ e t dx, v = .ref e ∧ s₁.heap.get? C = some (excClassObj nm q C N bs bm hdct sn sub ab col dd k0 k1 k2 k3 k5 newId) ∧
      s₁.heap.get? e = some { cls := .ref C, dict := dx, data := .fields #[.ref t, .none, .none, .none, .bool false, .none] } ∧ E (.ref e) s₁) E s) :
    wpAny M A (raiseStmt env (some x) none) Q E s := by
  have hcB : (Value.ref C :: bm).contains (.type "BaseException") = true := by rw [List.contains_cons, hbase, Bool.or_true]
  unfold raiseStmt
  refine wpAny_bind (wpAny_mono h (fun v s₁ h₁ => ?_) fun _ _ y => y)
  obtain ⟨e, t, dx, rfl, hC, he, hE⟩ := h₁
  obtain ⟨hp, g, d, tk, os⟩ := s₁
  repeat (first
    | with_reducible refine wpAny_loadPart_at he ?_
    | with_reducible refine wpAny_loadPart_at hC ?_
    | (with_reducible refine wpAny_isSubtype_exc hC ?_
       rw [hcB])
    | wp_step)
  exact wpAny_raiseNew_none hh hE
/-- raise C(e, ..) -/
def tRaise (C : Addr) (sp : Sp) (E : XK) (t : TA) : TS := fun _ σ H => t σ H fun vs H1 => vs.length ≤ sizeLine ∧ ∀ a, H1 a = none → sp (.ref a :: vs) (upd H1 a (exO a C none)) (fun v H2 => v = .non ∧ (∃ dx, H2 a = some (exO a C dx)) ∧ E (.ref C) none (del H2 a)) E0
end
end B

namespace B
open PySem PySem.Spec L2 PyProof.Rows
/-! ### try: a callee's error is caught -/
section
variable {X : Cx} {pins : List (Addr × Obj)} {σ : L2.St} {H : Hp} {s : Shared} {a C T : Addr} {a0 : Value}
end
/-- the names forgotten -/
def hid (N : List Str) : L2.St := List.replicate N.length none
theorem hid_weak {X : Cx} {pins : List (Addr × Obj)} {σ : L2.St} {H : Hp} {s : Shared} (I : L2.Inv X pins σ H s) : L2.Inv X pins (hid X.N) H s :=
  I.weak (by rw [I.len]; exact List.length_replicate) fun i v q => by
    unfold hid at q
    rw [List.getElem?_replicate] at q
    split at q <;> cases q
/-- how an error flies in a try's body -/
def Fly (X : Cx) (pins : List (Addr × Obj)) (R : Addr → Hp → Prop) : Value → Shared → Prop := fun e s => ∃ (x C T : Addr) (a0 : Value) (H : Hp), e = .ref x ∧ L2.Inv X pins (hid X.N) H s ∧ H x = none ∧ NewAt X pins x ∧ NewAt X pins T ∧ Trc s.heap H x C T a0 ∧ R C H
/-- a try's body -/
def inTry (X : Cx) (pins : List (Addr × Obj)) (R : Addr → Hp → Prop) : Cx := { X with pn := X.pn ++ pins, xe := Fly X pins R }
/-- an except's suite -/
def inExc (X : Cx) (e : Addr) : Cx := { X with A := X.A.mark (some (.ref e)), calm := false, xe := fun _ _ => False }
section
variable {X : Cx} {pins pins' : List (Addr × Obj)} {σ : L2.St} {H : Hp} {s : Shared} {R : Addr → Hp → Prop} {e : Addr}
theorem toExc (I : L2.Inv X pins σ H s) : L2.Inv (inExc X e) pins σ H s :=
  ⟨⟨I.ok.mod, I.ok.kind, I.ok.glob, I.ok.blt, I.ok.above, I.ok.inj, I.ok.has, I.ok.cab, (fun z => nomatch z), I.ok.frames, I.ok.stk, I.ok.exf, I.ok.bs, I.ok.bsz, I.ok.noex, I.ok.exfs, I.ok.funs, I.ok.frf⟩, I.os, I.bare, I.base, I.loc, I.cell, I.free, I.freeC, I.pin, I.hok, I.len⟩
theorem ofExc (ok : X.Ok) (I : L2.Inv (inExc X e) pins σ H s) : L2.Inv X pins σ H s :=
  ⟨ok, I.os, I.bare, I.base, I.loc, I.cell, I.free, I.freeC, I.pin, I.hok, I.len⟩
end
/-- try: body except C: suite, where the error is always one of C -/
def tTry (N : List Str) (R : Addr → Hp → Prop) (Ok : Addr → Prop) (tb : TS) (th : TS) : TS := fun D σ H => tb D σ H ∧ ∀ C H', R C H' → Ok C ∧ th D (hid N) H'
section
variable {X : Cx} {R : Addr → Hp → Prop} {body : List Stmt} {b₀ : Stmt} {suite : List Stmt} {x : Str} {p hpos pos : Pos} {u : Value} {tb th : TS}
end
/-! ### e.f = v, in an error's __init__ -/
section
variable {X : Cx} {o value : Expr} {f : Str} {ta tv : TE} {pos' pos : Pos}
def sFldX (K : PySem.W.Frag) (ta tv : TE) (f : Str) : TS := fun D σ H => tv σ H fun _ H1 => ta σ H1 fun x H2 => ∃ a C bm, x = .ref a ∧ H2 a = some (exO a C none) ∧ ClsX K C bm ∧ NoAttr K C f ∧ ∀ d, D.nx σ (upd H2 a (exO a C (some d)))
end
end B
namespace B
open PySem PySem.Spec L2 PyProof.Rows
def EofR (R : Addr → Hp → Prop) : XK := fun v _ H => ∃ C, v = .ref C ∧ R C H
theorem vm_has (a : Addr) : (Value.ref a :: vMro).contains (.type "BaseException") = true := by rw [List.contains_cons, (by decide +kernel : vMro.contains (.type "BaseException") = true), Bool.or_true]
def strKeysB (es : Array DictEntry) : Bool := es.toList.all fun e => match e.key with
  | .str _ _ => true
  | _ => false
theorem strKeys_of {es : Array DictEntry} (h : strKeysB es = true) : StrKeys es := fun e he => by
  have z := List.all_eq_true.mp h e (Array.mem_toList_iff.mpr he)
  revert z
  cases e.key <;> intro z <;> first | exact ⟨_, _, rfl⟩ | (cases z)
/-- the facts of an own class of errors -/
theorem xc_mk {K : PySem.W.Frag} {C f B0 NB : Addr} {nm q nmB qB : Str} {N : Addr} {bs bsB : List Value} {hdct hdctB : Bool} {sn snB : List Str} {sub subB : List Value} {ab abB : Bool} {col colB : Option Bool} {dd ddB : Option Addr} {k0 k1 k2 k3 k5 j0 j1 j2 j3 j5 : Option Value}
    {oc : Value} {od : Option Addr} {es : Array DictEntry} {n : Nat} {sl : Array (Option Value)}
    (lc : K.lookup C = some (excClassObj nm q C N bs (.ref B0 :: [.type "ValueError", .type "Exception", .type "BaseException", .type "object"]) hdct sn sub ab col dd k0 k1 k2 k3 k5 "ValueError.__new__"))
    (lb : K.lookup B0 = some (excClassObj nmB qB B0 NB bsB [.type "ValueError", .type "Exception", .type "BaseException", .type "object"] hdctB snB subB abB colB ddB j0 j1 j2 j3 j5 "ValueError.__new__"))
    (ln : K.lookup NB = some ⟨oc, od, .dict es n, sl⟩) (hs : strKeysB es = true) (hn : (nsFind es "__init__").isNone = true)
    (fi : PySem.W.findIn K (.ref C) "__init__" = some (some (.ref f))) (ti : PySem.W.typeIn K (.ref f) = some (.type "function")) (kc : PySem.W.keepIn K (.ref C) = true) (hh : PySem.W.hasDictIn K C = true) (sa : PySem.W.findIn K (.ref C) "__setattr__" = some (some (.builtin "object.__setattr__"))) : XC K C f (.ref B0 :: vMro) :=
  have ob : ∃ nm q N bs hdct sn sub ab col dd k0 k1 k2 k3 k5, K.lookup C = some (excClassObj nm q C N bs (.ref B0 :: vMro) hdct sn sub ab col dd k0 k1 k2 k3 k5 "ValueError.__new__") := ⟨_, _, _, _, _, _, _, _, _, _, _, _, _, _, _, lc⟩
  have tl : ∀ h : Heap, K.In h → OwnTail h vMro (.ref B0 :: vMro) := fun h X => .own (X _ _ lb) ⟨_, es, n, X _ _ ln, rfl, strKeys_of hs, fun _ => rfl⟩ (Option.isNone_iff_eq_none.mp hn) .base
  ⟨ob, tl, fi, ti, kc, ob, tl, hh, sa⟩
end B

namespace B
open PySem PySem.Spec L2 PyProof.Rows
/-! ### what an error's attribute is -/
/-- what reading of an error asks of its class -/
structure GetX (K : PySem.W.Frag) (C : Addr) : Prop where
  ga : PySem.W.findIn K (.ref C) "__getattribute__" = some (some (.builtin "BaseException.__getattribute__"))
  gn : PySem.W.findIn K (.ref C) "__getattr__" = some none
  cl : PySem.W.findIn K (.ref C) "__class__" = some (some (.builtin "object.__class__"))
  cg : PySem.W.specialIn K (.builtin "object.__class__") "__get__" = some (some (.builtin "getset_descriptor.__get__"))
  ct : PySem.W.takesIn K (.builtin "object.__class__") = some true
section
variable {prog : Program} {w : World} {A : Around} {E : Value → Shared → Prop} {s : Shared} {K : PySem.W.Frag} {x C : Addr} {ox : Obj} {odo : Option Obj} {bm : List Value} {name : Str} {tk : Tok} {R : Result → Shared → Prop}
theorem err_open {fill ex : Bool} {Q : Value → Shared → Prop} (X : K.In s.heap) (I : PySem.W.InstAt s.heap x ox C odo) (g : GetX K C)
    (h : codeAny (model prog w) A (.call (.builtin "BaseException.__getattribute__") ⟨[.ref x, .str name tk], []⟩) (fun r s' => ∃ v, r = .ok (.ret v) ∧ PySem.W.handedIn v = true ∧ Q v s') s) :
    wpAny (model prog w) A (getAttrBy (.ref x) (.str name tk) fill ex) Q E s := by
  have FB := PySem.F.attrBase_ValueError
  unfold getAttrBy
  refine wpAny_holding (wpAny_bind (I.type.here (wpAny_bind ((PySem.W.looks_findIn X g.ga).here ?_))))
  have e2 : (Value.builtin "BaseException.__getattribute__" == Value.builtin "object.__getattribute__") = false := by decide +kernel
  dsimp only
  rw [e2, Bool.and_false, if_neg Bool.false_ne_true]
  unfold getAttrByItsOwn hookBefore
  rw [if_pos (show onTheHeap (Value.ref C) = true from rfl)]
  refine wpAny_bind ((PySem.W.looks_findIn X g.gn).here (wpAny_bind (wpAny_attempt (wpAny_holding ?_))))
  unfold callGetattribute
  rw [if_neg (by cases ex <;> decide)]
  unfold boundAndCalled
  rw [FB.ga.bind (.ref x)]
  refine wpAny_bind (wpAny_pure (wpAny_call (codeAny_mono h fun r s' hq => ?_)))
  obtain ⟨v, rfl, hh, q⟩ := hq
  exact PySem.W.handed_on hh q
theorem isB {X : K.In s.heap} (I : PySem.W.InstAt s.heap x ox C odo) (c : ClsX K C bm) (T : String) (hT : vMro.contains (.type T) = true) : PySem.W.Looks (model prog w) s.heap (isInstance (.ref x) (.type T)) true := by
  obtain ⟨cd, hc, hm⟩ := clsX_cls c
  have hob : (Value.ref C :: bm).contains (.type T) = true := by
    rw [List.contains_cons, (c.tl _ X).hasType (X := T) (b := true) hT, Bool.or_true]
  refine I.type.andThen (PySem.W.looks_mroIn X ?_)
  unfold PySem.W.mroIn
  rw [hc]
  show (if cd.mro.isEmpty = true then none else some (cd.mro.contains (.type T))) = some true
  rw [hm, hob]; rfl
theorem err_body (X : K.In s.heap) (I : PySem.W.InstAt s.heap x ox C odo) (c : ClsX K C bm)
    (h : wpAny (model prog w) A.in1 (Builtin.«object.__getattribute__» ⟨[.ref x, .str name tk], []⟩) (fun fin s' => match fin with
      | .done f => R (.ok f) s'
      | .again c' => c'.quiet = true ∧ codeAny (model prog w) A c' R s') (fun e s' => R (.error e) s') s) :
    codeAny (model prog w) A (.call (.builtin "BaseException.__getattribute__") ⟨[.ref x, .str name tk], []⟩) R s := by
  have FB := PySem.F.attrBase_ValueError
  exact codeAny_call_builtin FB.ga.plain PySem.F.entry_bexc_ga (PySem.W.check_slot (i := "BaseException.__getattribute__") (owner := "BaseException") (n := "__getattribute__") (by decide +kernel) (by decide +kernel) (isB (X := X) I c "BaseException" (by decide +kernel)) (PySem.F.args_bexc_ga _ _) h)
theorem err_val {v : Value} (X : K.In s.heap) (I : PySem.W.InstAt s.heap x ox C odo) (c : ClsX K C bm) (hf : PySem.W.findObj K C odo name = some (.value v)) (h : R (.ok (.ret v)) s) :
    codeAny (model prog w) A (.call (.builtin "BaseException.__getattribute__") ⟨[.ref x, .str name tk], []⟩) R s := by
  refine err_body X I c ?_
  unfold Builtin.«object.__getattribute__»
  have L := PySem.W.looks_find (M := model prog w) X I hf
  refine wpAny_bind (wpAny_pure (wpAny_bind (wpAny_pure (wpAny_bind (I.type.here (wpAny_bind (L.here ?_)))))))
  exact wpAny_pure h
theorem err_class {od : Obj} (X : K.In s.heap) (I : PySem.W.InstAt s.heap x ox C (some od)) (c : ClsX K C bm) (g : GetX K C) (h : R (.ok (.ret (.ref C))) s) :
    codeAny (model prog w) A (.call (.builtin "BaseException.__getattribute__") ⟨[.ref x, .str "__class__" tk], []⟩) R s := by
  refine err_body X I c ?_
  unfold Builtin.«object.__getattribute__»
  obtain ⟨cd, hc, hm⟩ := clsX_cls c
  have hf := PySem.W.findObj_data (K := K) (C := C) (od := od) (name := "__class__") (by rw [hc]; rfl) g.cl g.cg g.ct
  have L := PySem.W.looks_find (M := model prog w) X I hf
  have mo : PySem.W.mroIn K C (.type "object") = some true := by
    unfold PySem.W.mroIn
    rw [hc]
    show (if cd.mro.isEmpty = true then none else some (cd.mro.contains (.type "object"))) = some true
    rw [hm, List.contains_cons, (c.tl _ X).hasType (X := "object") (b := true) (by decide +kernel), Bool.or_true]; rfl
  refine wpAny_bind (wpAny_pure (wpAny_bind (wpAny_pure (wpAny_bind (I.type.here (wpAny_bind (L.here ?_)))))))
  show wpAny _ _ (holding [Value.builtin "object.__class__"] (call (.builtin "getset_descriptor.__get__") [.builtin "object.__class__", .ref x, .ref C]) >>= ret) _ _ _
  exact wpAny_bind (wpAny_holding (wpAny_call (PySem.W.class_get X I mo (wpAny_pure h))))
end
section
variable {K : PySem.W.Frag} {x C : Addr} {ox od : Obj} {bm : List Value}
theorem kitx_err (c : ClsX K C bm) (g : GetX K C) : PySem.W.KitX K (.ref x) (.ref C) (fun h => PySem.W.InstAt h x ox C (some od)) where
  ty := fun _ _ _ I => I.type
  it := fun _ _ X _ => by
    obtain ⟨nm, q, N, bs, hdct, sn, sub, ab, col, dd, k0, k1, k2, k3, k5, lk⟩ := c.ob
    intro A' Q' E' s' k q
    unfold isType loadHead
    exact wpAny_bind (wpAny_loadPart (k _ _ (X _ _ lk)) (wpAny_pure q))
  ne := fun h tp dd its n sl X htp => by
    obtain ⟨nm, q, N, bs, hdct, sn, sub, ab, col, dd', k0, k1, k2, k3, k5, lk⟩ := c.ob
    refine Bool.eq_false_iff.mpr fun z => ?_
    have e : C = tp := Value.ref.inj (beq_iff_eq.mp z)
    subst e
    have z2 := congrArg Obj.cls (Option.some.inj ((X _ _ lk).symm.trans htp))
    exact absurd (show Value.type "type" = Value.type "tuple" from z2) (by decide +kernel)
  ca := fun {prog w A E Q s} X I k => by
    unfold getAttr? getAttrBy?
    refine wpAny_bind (wpAny_mkText (wpAny_bind (wpAny_attempt ?_)))
    exact err_open (s := { s with toks := s.toks + 1 }) X I g (err_class (s := { s with toks := s.toks + 1 }) X I c g ⟨_, rfl, rfl, wpAny_pure k⟩)
end
end B

namespace B
open PySem PySem.Spec L2 PyProof.Rows
/-! ### how an error is noted at a frame, its dict kept -/
/-- all but the frames (their slots) and the records at ch is as it was -/
structure Kept (S ch : List Addr) (h h' : Heap) : Prop where
  same : ∀ b o, b ∉ S → b ∉ ch → h.get? b = some o → h'.get? b = some o
  slot : ∀ b o, b ∉ ch → h.get? b = some o → ∃ sl, h'.get? b = some { o with slots := sl }
theorem Kept.trans {S c1 c2 : List Addr} {h h1 h2 : Heap} (a : Kept S c1 h h1) (b : Kept S c2 h1 h2) : Kept S (c1 ++ c2) h h2 where
  same := fun x o n1 n2 q => b.same x o n1 (fun z => n2 (List.mem_append_right _ z)) (a.same x o n1 (fun z => n2 (List.mem_append_left _ z)) q)
  slot := fun x o n2 q => by
    obtain ⟨sl, z⟩ := a.slot x o (fun z => n2 (List.mem_append_left _ z)) q
    obtain ⟨sl', z'⟩ := b.slot x _ (fun z => n2 (List.mem_append_right _ z)) z
    exact ⟨sl', z'⟩
theorem Kept.upd {S : List Addr} {h : Heap} {T : Addr} {f : Obj → Obj} : Kept S [T] h (h.update T f) where
  same := fun b o _ n q => by rw [Heap.get?_update_other _ _ (fun z => n (by rw [z]; exact List.mem_singleton.mpr rfl))]; exact q
  slot := fun b o n q => ⟨o.slots, by rw [Heap.get?_update_other _ _ (fun z => n (by rw [z]; exact List.mem_singleton.mpr rfl))]; exact q⟩
/-- the record of an error with its newest entry, where that one flies -/
def TrcD (h : Heap) (x C T : Addr) (dx : Option Addr) (fl : Value) : Prop :=
  ∃ oe vs oT ts, h.get? x = some oe ∧ oe.cls = .ref C ∧ oe.dict = dx ∧ oe.data = .fields vs ∧ vs[1]? = some (.ref T) ∧ T ≠ x ∧ h.get? T = some oT ∧ oT.data = .fields ts ∧ ts[3]? = some fl
section
variable {M : Model} {A : Around} {E : Value → Shared → Prop} {s : Shared} {base : Heap} {env : Env} {outer : List Env} {L e C T : Addr} {oe : Obj} {vs : Array Value} {dx : Option Addr} {fl : Value}
theorem dict_mapF (f : Array Value → Array Value) (o : Obj) : (Obj.mapFields f o).dict = o.dict := by
  unfold Obj.mapFields; split <;> rfl
theorem entryD {hadNext : Bool} {head : Value} {Q : Unit → Shared → Prop} (hfr : A.frames = some (env :: outer)) (hl : s.heap.FunFrames base (env :: outer)) (hf : env.frame = some L)
    (he : s.heap.get? e = some oe) (hd : oe.data = .fields vs) (hsz : 1 < vs.size) (hc : oe.cls = .ref C) (hx : oe.dict = dx)
    (h : ∀ h' T, Kept (frs (env :: outer)) [e] s.heap h' → s.heap.get? T = none → TrcD h' e C T dx (rawInt L) → Q () { s with heap := h' }) :
    wpAny M A (do let a ← frameOf env; let pl ← entryPlaceOf L hadNext; let b ← EntryCells.newEntry head a .none (rawInt L) .none pl; setField (.ref e) 1 b) Q E s := by
  have hene : e ∉ frs (env :: outer) := fun hm => by
    obtain ⟨_, o, ho, hnf⟩ := hl.mem hm
    rw [he] at ho; cases ho; exact hnf vs hd
  refine wpAny_bind (wpAny_frameOf_fun hfr hl hf fun h1 s1 => wpAny_bind (wpAny_entryPlaceOf fun pl hpl => ?_))
  unfold EntryCells.newEntry newFields
  refine wpAny_bind (wpAny_newObj_type ?_ (hpl.sizeOk5 _ _ _ _ _))
  have he1 : h1.get? e = some oe := (s1.2.1 e hene).trans he
  generalize hob : ({ cls := .type "traceback", dict := none, data := .fields ([head, .ref L, .none, rawInt L, .none] ++ (if pl.isEmpty then List.replicate 6 Value.none else pl)).toArray } : Obj) = ob
  have he2 := Heap.get?_push_of_some (h := h1) ob he1
  refine wpAny_setField he2 hd hsz (h _ h1.objs.size ⟨fun b o n1 n2 q => ?_, fun b o n2 q => ?_⟩ ?_ ?_)
  · rw [Heap.get?_update_other _ _ (fun z => n2 (by rw [z]; exact List.mem_singleton.mpr rfl))]
    exact Heap.get?_push_of_some _ ((s1.2.1 b n1).trans q)
  · obtain ⟨sl, z⟩ := s1.2.2 b o q
    refine ⟨sl, ?_⟩
    rw [Heap.get?_update_other _ _ (fun z => n2 (by rw [z]; exact List.mem_singleton.mpr rfl))]
    exact Heap.get?_push_of_some _ z
  · exact Heap.get?_none_of_le (Nat.le_of_eq s1.1.symm)
  · have nT : h1.objs.size ≠ e := Nat.ne_of_gt (Heap.lt_size he1)
    have d3 := Obj.data_mapFields hd (·.setIfInBounds 1 (Value.ref h1.objs.size))
    refine ⟨_, _, ob, _, Heap.get?_update_self _ he2 (Obj.isFreed_of_fields d3), (Obj.cls_mapFields _ _).trans hc, (dict_mapF _ _).trans hx, d3, by simp [hsz], nT, ?_, by rw [← hob], ?_⟩
    · rw [Heap.get?_update_other _ _ (Ne.symm nT)]
      exact Heap.get?_push_size h1 (by rw [← hob]; rfl)
    · first | (simp; done) | (rcases hpl with rfl | ⟨_, _, _, _, _, _, _, rfl⟩ <;> simp)
theorem flightD {Q : Unit → Shared → Prop} (t : TrcD s.heap e C T dx fl) (h : ∀ h', Kept [] [T] s.heap h' → TrcD h' e C T dx .none → Q () { s with heap := h' }) : wpAny M A (setFlight (.ref e) none) Q E s := by
  obtain ⟨oe, vs, oT, ts, q1, q2, q3, q4, q5, q6, q7, q8, q9⟩ := t
  have z3 : 3 < ts.size := (Array.getElem?_eq_some_iff.mp q9).1
  unfold setFlight
  refine wpAny_bind (wpAny_field q1 q4 q5 ?_)
  rw [if_pos (by simp)]
  refine wpAny_setField q7 q8 z3 (h _ Kept.upd ?_)
  have d3 := Obj.data_mapFields q8 (·.setIfInBounds 3 ((none : Option Addr).elim Value.none fun f => rawInt f))
  exact ⟨oe, vs, _, _, (Heap.get?_update_other _ _ q6).trans q1, q2, q3, q4, q5, q6, Heap.get?_update_self _ q7 (Obj.isFreed_of_fields d3), d3, by simp [z3]⟩
theorem note1 {Q : Unit → Shared → Prop} (hfr : A.frames = some (env :: outer)) (hl : s.heap.FunFrames base (env :: outer)) (hf : env.frame = some L) (he : s.heap.get? e = some oe) (hd : oe.data = .fields vs) (h1 : vs[1]? = some .none) (hc : oe.cls = .ref C) (hx : oe.dict = dx)
    (h : ∀ h' T, Kept (frs (env :: outer)) [e] s.heap h' → s.heap.get? T = none → TrcD h' e C T dx (rawInt L) → Q () { s with heap := h' }) : wpAny M A (noteFrame (.ref e) env) Q E s := by
  unfold noteFrame
  simp only [hf]
  refine wpAny_bind (wpAny_field he hd h1 ?_)
  rw [if_neg (by decide)]
  exact entryD hfr hl hf he hd (Array.getElem?_eq_some_iff.mp h1).1 hc hx h
theorem noteN {Q : Unit → Shared → Prop} (hfr : A.frames = some (env :: outer)) (hl : s.heap.FunFrames base (env :: outer)) (hf : env.frame = some L) (t : TrcD s.heap e C T dx .none)
    (h : ∀ h' T', Kept (frs (env :: outer)) [T, e] s.heap h' → s.heap.get? T' = none → TrcD h' e C T' dx (rawInt L) → Q () { s with heap := h' }) : wpAny M A (noteFrame (.ref e) env) Q E s := by
  obtain ⟨oe, vs, oT, ts, q1, q2, q3, q4, q5, q6, q7, q8, q9⟩ := t
  unfold noteFrame
  simp only [hf]
  refine wpAny_bind (wpAny_field q1 q4 q5 ?_)
  rw [if_pos (by simp)]
  refine wpAny_bind (wpAny_field q7 q8 q9 ?_)
  rw [if_neg (by simp [rawInt])]
  refine wpAny_bind (wpAny_setField q7 q8 (Array.getElem?_eq_some_iff.mp q9).1 ?_)
  have k1 : Kept (frs (env :: outer)) [T] s.heap (s.heap.update T (Obj.mapFields (·.setIfInBounds 3 Value.none))) := Kept.upd
  have nf : ∀ b o, s.heap.get? b = some o → (∀ us, o.data ≠ .fields us) → b ∉ [T] := fun b o hb hn z => by
    rw [List.mem_singleton.mp z, q7] at hb; cases hb; exact hn ts q8
  refine entryD (base := base) hfr (hl.of_keeps fun b o hb hn => ?_) hf ((Heap.get?_update_other _ _ q6).trans q1) q4 (Array.getElem?_eq_some_iff.mp q5).1 q2 q3 fun h' T' k nT t' => h h' T' (k1.trans k) ?_ t'
  · obtain ⟨sl, z⟩ := k1.slot b o (nf b o hb hn) hb
    exact ⟨_, z, rfl⟩
  · cases q : s.heap.get? T' with
    | none => rfl
    | some o =>
      exfalso
      by_cases z : T' = T
      · have d3 := Obj.data_mapFields q8 (·.setIfInBounds 3 Value.none)
        rw [z, Heap.get?_update_self _ q7 (Obj.isFreed_of_fields d3)] at nT; cases nT
      · rw [Heap.get?_update_other _ _ (Ne.symm z)] at nT; rw [q] at nT; cases nT
end
end B

namespace B
open PySem PySem.Spec L2 PyProof.Rows
/-! ### an error's dict -/
def DicO (d : Addr) (fs : List (Str × V)) : Heap → Prop := fun h => ∃ mA, h.Ns1 d mA ∧ ∀ f, RelO (fs.lookup f) (mA f)
def dO (d : Addr) (fs : List (Str × V)) : HO := .ext (DicO d fs)
theorem dO_ok {P : Program} {w : World} {H : Hp} {h : Heap} {d : Addr} {fs : List (Str × V)} (e : DicO d fs h) : ObjOk P w H h d (dO d fs) :=
  ⟨e, let ⟨_, ⟨_, _, _, q, _⟩, _⟩ := e; ⟨_, q⟩, fun _ _ ⟨mA, n, r⟩ k => ⟨mA, n.at k, r⟩⟩
theorem relO_none {a : Option V} {b : Option Value} (r : RelO a b) (h : b ≠ none) : a ≠ none := fun z => by
  subst z
  cases b with
  | none => exact h rfl
  | some _ => exact r.elim
theorem relO_cons {fs : List (Str × V)} {mA : Str → Option Value} {f : Str} {y : V} {u : Value} (r : ∀ g, RelO (fs.lookup g) (mA g)) (q : RelV y u) : ∀ g, RelO (((f, y) :: fs).lookup g) (if g = f then some u else mA g) := fun g => by
  by_cases z : g = f
  · subst z
    rw [if_pos rfl, List.lookup_cons_self]; exact q
  · rw [if_neg z, List.lookup_cons, beq_eq_false_iff_ne.mpr z]; exact r g
theorem within_of {fs : List (Str × V)} {mA : Str → Option Value} (r : ∀ g, RelO (fs.lookup g) (mA g)) : PySem.Within mA (fs.map (·.1)) := fun g hg => by
  have z := relO_none (r g) hg
  cases q : fs.lookup g with
  | none => exact absurd q z
  | some v =>
    obtain ⟨l1, l2, e, _⟩ := List.lookup_eq_some_iff.mp q
    rw [e]; simp
section
variable {X : Cx} {pins : List (Addr × Obj)} {σ : L2.St} {H : Hp} {s : Shared} {a C : Addr}
/-- e.f = v, the first attribute of an error: its dict is made -/
theorem setX1 {A : Around} {E : Value → Shared → Prop} {f : Str} {y : V} {u : Value} {bm : List Value} {Q : Unit → Shared → Prop} (hex : X.ex = []) (I : L2.Inv X pins σ H s) (e : H a = some (exO a C none)) (c : ClsX X.K C bm) (n : NoAttr X.K C f) (ry : RelV y u)
    (h : ∀ d s', H d = none → d ≠ a → L2.Inv X pins σ (upd (upd H a (exO a C (some d))) d (dO d [(f, y)])) s' → Q () s') : wpAny (model X.prog X.w) A (setAttr (.ref a) f u) Q E s := by
  obtain ⟨t, hx⟩ := (show ObjOk X.prog X.w H s.heap a (exO a C none) from I.hok a _ e).1
  have J : PySem.W.InstAt s.heap a _ C none := ⟨hx, rfl, rfl, trivial⟩
  refine PySem.W.set_plain I.kIn J c.sa (store_err (s := { s with toks := s.toks + 1 }) I.kIn J c n fun b => ?_)
  obtain ⟨cd, hc, hd'⟩ := PySem.W.any_some c.hd
  refine wpAny_bind (wpAny_pure (wpAny_bind (wpAny_bind (wpAny_loadPart hx (wpAny_bind (PySem.W.Looks.here (s := { s with toks := s.toks + 1 }) (PySem.W.looks_clsIn I.kIn hc) ?_))))))
  rw [hd']
  show wpAny _ _ (alloc { cls := .type "dict", data := .dict #[] } >>= fun d => update a (fun o => { o with dict := some d }) >>= fun _ => dictMade (.ref C) a d) _ _ _
  have la : a < s.heap.objs.size := Heap.lt_size hx
  have nad : s.heap.objs.size ≠ a := Nat.ne_of_gt la
  have g1 := Heap.get?_push_of_some (h := s.heap) { cls := .type "dict", data := .dict #[] } hx
  refine wpAny_bind (wpAny_alloc (wpAny_bind (wpAny_update g1 ?_)))
  have g2 := Heap.get?_update_self (fun o => { o with dict := some s.heap.objs.size }) g1 rfl
  have e1 : ((s.heap.push { cls := .type "dict", data := .dict #[] }).update a fun o => { o with dict := some s.heap.objs.size }).get? s.heap.objs.size = some { cls := .type "dict", data := .dict #[] } := by
    rw [Heap.get?_update_other _ _ nad.symm]; exact Heap.get?_push_size s.heap rfl
  have e3 : ((s.heap.push { cls := .type "dict", data := .dict #[] }).update a fun o => { o with dict := some s.heap.objs.size }).Ns s.heap.objs.size (fun _ => none) :=
    ⟨_, #[], _, e1, rfl, (fun e he => absurd he (by simp)), fun _ => rfl⟩
  have keep : ∀ b o, b ≠ a → s.heap.get? b = some o → ((s.heap.push { cls := .type "dict", data := .dict #[] }).update a fun o => { o with dict := some s.heap.objs.size }).get? b = some o := fun b o nb q => by
    rw [Heap.get?_update_other _ _ (Ne.symm nb)]; exact Heap.get?_push_of_some _ q
  refine wpAny_pure (a := some s.heap.objs.size) (wpAny_bind (wpAny_pure (wpAny_bind ?_)))
  refine wpAny_nsSet1 (Heap.Ns1.of_empty e3) fun h' hn2 hs2 => ?_
  have rel : ∀ g, RelO ([(f, y)].lookup g) (if g = f then some u else none) := relO_cons (fs := []) (mA := fun _ => none) (fun _ => trivial) ry
  obtain ⟨oD, esD, epD, hoD, hdD, hcD⟩ := hn2.count (within_of rel)
  refine wpAny_bind (wpAny_lookBehind hoD (by rw [hdD]; exact pastItsLine_dict (Nat.le_trans hcD (Nat.le_add_left _ _))) ?_)
  have hno : s.heap.get? s.heap.objs.size = none := Heap.get?_none_of_le (Nat.le_refl _)
  have hH : H s.heap.objs.size = none := B.Inv.none_of I hno
  refine wpAny_pure (h s.heap.objs.size _ hH nad ?_)
  have ga : h'.get? a = some { cls := .ref C, dict := some s.heap.objs.size, data := .fields #[.ref t, .none, .none, .none, .bool false, .none] } := (hs2.2 a nad.symm).trans g2
  have I2 : L2.Inv X pins σ (upd H a (exO a C (some s.heap.objs.size))) { s with heap := h', toks := s.toks + 1 + 1 } := I.write (x := a) (e := a) (o := exO a C (some s.heap.objs.size)) (h' := h') (by rw [e]; trivial) (.inl rfl) (fun b o nb q => by
    have nb2 : b ≠ s.heap.objs.size := Nat.ne_of_lt (Heap.lt_size q)
    exact (hs2.2 b nb2).trans (keep b o nb q)) ⟨_, ga⟩ (exO_ok ⟨t, ga⟩)
  exact B.Inv.adopt I2 (B.Inv.newAt I hex hno) (by rw [upd_ne nad]; exact hH) hex (dO_ok ⟨_, hn2, rel⟩)
/-- e.f = v, a further attribute -/
theorem setX2 {A : Around} {E : Value → Shared → Prop} {f : Str} {y : V} {u : Value} {bm : List Value} {d : Addr} {fs : List (Str × V)} {Q : Unit → Shared → Prop} (I : L2.Inv X pins σ H s) (e : H a = some (exO a C (some d))) (ed : H d = some (dO d fs)) (hl : fs.length ≤ 100) (c : ClsX X.K C bm) (n : NoAttr X.K C f) (ry : RelV y u)
    (h : ∀ s', L2.Inv X pins σ (upd H d (dO d ((f, y) :: fs))) s' → Q () s') : wpAny (model X.prog X.w) A (setAttr (.ref a) f u) Q E s := by
  obtain ⟨t, hx⟩ := (show ObjOk X.prog X.w H s.heap a (exO a C (some d)) from I.hok a _ e).1
  obtain ⟨mA, hn, rel0⟩ := (show ObjOk X.prog X.w H s.heap d (dO d fs) from I.hok d _ ed).1
  obtain ⟨od, _, _, hod, _⟩ := id hn
  have J : PySem.W.InstAt s.heap a _ C (some od) := ⟨hx, rfl, rfl, hod⟩
  refine PySem.W.set_plain I.kIn J c.sa (store_err (s := { s with toks := s.toks + 1 }) I.kIn J c n fun b => ?_)
  obtain ⟨cd, hc, hd'⟩ := PySem.W.any_some c.hd
  refine wpAny_bind (wpAny_pure (wpAny_bind (wpAny_bind (wpAny_loadPart hx (wpAny_bind (PySem.W.Looks.here (s := { s with toks := s.toks + 1 }) (PySem.W.looks_clsIn I.kIn hc) ?_))))))
  rw [hd']
  refine wpAny_pure (a := some d) (wpAny_bind (wpAny_pure (wpAny_bind ?_)))
  refine wpAny_nsSet1 (s := { s with toks := s.toks + 1 }) hn fun h' hn2 hs2 => ?_
  have rel := relO_cons (f := f) rel0 ry
  obtain ⟨oD, esD, epD, hoD, hdD, hcD⟩ := hn2.count (within_of rel)
  have hz : esD.size ≤ 101 := by rw [List.length_map, List.length_cons] at hcD; omega
  refine wpAny_bind (wpAny_lookBehind hoD (by rw [hdD]; exact pastItsLine_dict (Nat.le_trans hz (by decide))) ?_)
  refine wpAny_pure (h _ ?_)
  exact I.write (x := d) (e := d) (o := dO d ((f, y) :: fs)) (h' := h') (by rw [ed]; trivial) (.inl rfl) (fun b o nb q => (hs2.2 b nb).trans q) ⟨_, hoD⟩ (dO_ok ⟨_, hn2, rel⟩)
end
section
variable {X : Cx} {o value : Expr} {f : Str} {ta tv : TE} {pos' pos : Pos}
def sFldE (K : PySem.W.Frag) (ta tv : TE) (f : Str) : TS := fun D σ H => tv σ H fun y H1 => ta σ H1 fun x H2 => ∃ a C bm, x = .ref a ∧ ClsX K C bm ∧ NoAttr K C f ∧
  ((H2 a = some (exO a C none) ∧ ∀ d, H2 d = none → d ≠ a → D.nx σ (upd (upd H2 a (exO a C (some d))) d (dO d [(f, y)]))) ∨
   ∃ d fs, H2 a = some (exO a C (some d)) ∧ H2 d = some (dO d fs) ∧ fs.length ≤ 100 ∧ D.nx σ (upd H2 d (dO d ((f, y) :: fs))))
theorem ps_fldE (hex : X.ex = []) (ha : PE X o ta) (hv : PE X value tv) (hs : swapsWith value (some (.Attribute o f pos')) pos.line X.env = pure false) : PS X (.Assign [.Attribute o f pos'] value pos) (sFldE X.K ta tv f) := by
  intro pins s σ H D I h
  refine plainObj_wpAny_Assign_Attribute (thn (hv pins s σ H _ I h) fun u s1 ⟨y, H1, I1, ry, q⟩ => thn (ha pins s1 σ H1 _ I1 q) fun ov s2 ⟨x, H2, I2, rx, a, C, bm, ex, c, n, q2⟩ => ?_) hs
  subst ex
  obtain rfl : ov = Value.ref a := rx
  rcases q2 with ⟨ea, k⟩ | ⟨d, fs, ea, ed, hl, k⟩
  · exact B.setX1 hex I2 ea c n ry fun d s' hd nd I' => ⟨σ, _, I', k d hd nd⟩
  · exact B.setX2 I2 ea ed hl c n ry fun s' I' => ⟨σ, _, I', k⟩
end
/-! ### errors that leave frames, their dicts kept -/
theorem Kept.any {S ch : List Addr} {h h' : Heap} (k : Kept [] ch h h') : Kept S ch h h' := ⟨fun b o _ n q => k.same b o (fun z => by cases z) n q, k.slot⟩
section
variable {X : Cx} {pins : List (Addr × Obj)} {σ : L2.St} {H : Hp} {s : Shared} {a C T : Addr} {dx : Option Addr} {fl : Value}
theorem Inv.leftK {ch : List Addr} {h' : Heap} {tk : Nat} (I : L2.Inv X pins σ H s) (hch : ∀ b ∈ ch, H b = none ∧ NewAt X pins b) (k : Kept (frs X.stack) ch s.heap h') : L2.Inv X pins σ H { s with heap := h', toks := tk } := by
  have trk : ∀ b o, H b = some o → b ∉ frs X.stack ∧ b ∉ ch := fun b o q =>
    ⟨(fun z => by rw [I.stkFree b z] at q; cases q), (fun z => by rw [(hch b z).1] at q; cases q)⟩
  refine I.call' (s' := { s with heap := h', toks := tk }) (ch := ch) rfl ⟨fun b o q _ n1 n2 => k.same b o n1 n2 q, fun b o q _ n1 n2 => k.slot b o n2 q, fun b o _ n _ => n, fun b o q n2 => ?_, fun b xs q => q, fun b o u q => q, fun b ps q => ⟨#[], by rw [Array.append_empty]; exact q⟩⟩ (fun b o q => ?_) I.bare
    (fun b hb => ⟨.inr (hch b hb).2.st, (hch b hb).2.lo, (hch b hb).2.ce, (hch b hb).2.pi⟩)
  · obtain ⟨sl, z⟩ := k.slot b o n2 q
    exact ⟨_, z⟩
  · refine (I.hok b o q).stay (fun c u hc z => ?_) (fun c z => z) (fun c xs z => z)
    rcases hc with rfl | hc
    · obtain ⟨n1, n2⟩ := trk _ _ q; exact k.same _ _ n1 n2 z
    · obtain ⟨n1, n2⟩ := trk _ _ hc; exact k.same _ _ n1 n2 z
theorem noted1 {A : Around} {E' : Value → Shared → Prop} {Q : Shared → Prop} {oe : Obj} {vs : Array Value} (hA : A.frames = X.A.frames) (I : L2.Inv X pins σ H s) (hex : X.ex = []) (hst : X.stack = X.env :: X.outer) (hfr : X.env.frame = some X.env.locals)
    (ha : H a = none) (na : NewAt X pins a) (hx : s.heap.get? a = some oe) (hd : oe.data = .fields vs) (h1 : vs[1]? = some .none) (hc : oe.cls = .ref C) (hdx : oe.dict = dx)
    (h : ∀ (s' : Shared) (T : Addr), L2.Inv X pins σ H s' → NewAt X pins T → H T = none → TrcD s'.heap a C T dx .none → Q s') :
    wpAny (model X.prog X.w) A (noteFrame (.ref a) X.env) (fun _ s2 => wpAny (model X.prog X.w) A (setFlight (.ref a) none) (fun _ s3 => Q s3) E' s2) E' s := by
  have hfrm : A.frames = some (X.env :: X.outer) := by rw [hA, I.ok.frames, hst]
  refine note1 (base := X.base) hfrm (by rw [← hst]; exact I.stack) hfr hx hd h1 hc hdx fun h1 T k1 nT t1 => ?_
  refine flightD (s := { s with heap := h1 }) t1 fun h2 k2 t2 => ?_
  have nt := B.Inv.newAt I hex nT
  have hT := B.Inv.none_of I nT
  rw [← hst] at k1
  refine h { s with heap := h2 } T (B.Inv.leftK (tk := s.toks) I (fun b hb => ?_) (k1.trans k2.any)) nt hT t2
  simp only [List.cons_append, List.nil_append, List.mem_cons, List.not_mem_nil, or_false] at hb
  rcases hb with rfl | rfl
  · exact ⟨ha, na⟩
  · exact ⟨hT, nt⟩
theorem notedN {A : Around} {E' : Value → Shared → Prop} {Q : Shared → Prop} (hA : A.frames = X.A.frames) (I : L2.Inv X pins σ H s) (hex : X.ex = []) (hst : X.stack = X.env :: X.outer) (hfr : X.env.frame = some X.env.locals)
    (ha : H a = none) (na : NewAt X pins a) (hT : H T = none) (nT : NewAt X pins T) (t : TrcD s.heap a C T dx .none)
    (h : ∀ (s' : Shared) (T' : Addr), L2.Inv X pins σ H s' → NewAt X pins T' → H T' = none → TrcD s'.heap a C T' dx .none → Q s') :
    wpAny (model X.prog X.w) A (noteFrame (.ref a) X.env) (fun _ s2 => wpAny (model X.prog X.w) A (setFlight (.ref a) none) (fun _ s3 => Q s3) E' s2) E' s := by
  have hfrm : A.frames = some (X.env :: X.outer) := by rw [hA, I.ok.frames, hst]
  refine noteN (base := X.base) hfrm (by rw [← hst]; exact I.stack) hfr t fun h1 T' k1 nT' t1 => ?_
  refine flightD (s := { s with heap := h1 }) t1 fun h2 k2 t2 => ?_
  have nt := B.Inv.newAt I hex nT'
  have hT' := B.Inv.none_of I nT'
  rw [← hst] at k1
  refine h { s with heap := h2 } T' (B.Inv.leftK (tk := s.toks) I (fun b hb => ?_) (k1.trans k2.any)) nt hT' t2
  simp only [List.cons_append, List.nil_append, List.mem_cons, List.not_mem_nil, or_false] at hb
  rcases hb with rfl | rfl | rfl
  · exact ⟨hT, nT⟩
  · exact ⟨ha, na⟩
  · exact ⟨hT', nt⟩
theorem flownN {A : Around} {E' : Value → Shared → Prop} {Q : Shared → Prop} (I : L2.Inv X pins σ H s) (hT : H T = none) (nT : NewAt X pins T) (t : TrcD s.heap a C T dx .none)
    (h : ∀ (s' : Shared), L2.Inv X pins σ H s' → TrcD s'.heap a C T dx .none → Q s') : wpAny (model X.prog X.w) A (setFlight (.ref a) none) (fun _ s3 => Q s3) E' s := by
  refine flightD t fun h2 k2 t2 => h _ (B.Inv.leftK (tk := s.toks) I (fun b hb => ?_) k2.any) t2
  rw [List.mem_singleton.mp hb]; exact ⟨hT, nT⟩
end
/-- how an error lies behind a call -/
def CXD (P : Program) (w : World) : CXT := fun outer H s E e s' => ∃ (x C T : Addr) (dx : Option Addr) (H' : Hp), e = .ref x ∧ s'.os = s.os ∧ AllBare s'.gens ∧ Un (frs outer) [] H H' s.heap s'.heap ∧ HOk P w H' s'.heap ∧ s.heap.get? x = none ∧ s.heap.get? T = none ∧ H' x = none ∧ H' T = none ∧
  TrcD s'.heap x C T dx .none ∧ E (.ref C) dx H'
section
variable {P : Program} {w : World} {K : PySem.W.Frag} {mg : Str → Option Value} {base : Heap} {N : List Str} {qual : Str} {scope : Scope} {f : Addr} {cd : Value} {A : Around} {outer : List Env} {s : Shared} {H : Hp} {E : XK}
/-- the context takes an error that is made in it -/
def TakesD (X : Cx) (E : XK) : Prop := ∀ (pins : List (Addr × Obj)) (σ : L2.St) (H : Hp) (s : Shared) (a C : Addr) (dx : Option Addr) (oe : Obj) (vs : Array Value), L2.Inv X pins σ H s → H a = none → NewAt X pins a → s.heap.get? a = some oe → oe.data = .fields vs →
  vs[1]? = some .none → oe.cls = .ref C → oe.dict = dx → E (.ref C) dx H → X.xe (.ref a) s
theorem takesD : TakesD (cxOf (CXD P w) P w K mg base N qual scope f cd A outer s H E) E := by
  intro pins σ H1 s1 a C dx oe vs I ha na hx hd h1 hc hdx hE
  show wpAny (model P w) _ (leaving _ _) _ _ s1
  unfold leaving
  refine wpAny_bind (noted1 rfl I rfl rfl rfl ha na hx hd h1 hc hdx fun s3 T' I3 nT' hT' tr' => ?_)
  exact ⟨a, C, T', dx, H1, rfl, I3.os, I3.bare, I3.base, I3.hok, na.st, nT'.st, ha, hT', tr', hE⟩
theorem Fun.okD {x : Str} {st : Stmt} {fd : FuncData} {ps : List Str} {k : Nat} {sp : Sp} (F : Fun K x qual st f fd) (S : FnScope N ps (defScope st)) (len : ∀ vs H Q E, sp vs H Q E → vs.length = ps.length)
    (hbody : ∀ (cdv : Value) (A : Around) (outer : List Env) (s : Shared) (H : Hp) (vs : List V) (Q : VK) (E : XK), Room k (A.deeper (envOfC qual (defScope st) s.heap.objs.size f cdv)) → sp vs H Q E →
      ∃ t, PSs (cxOf (CXD P w) P w K mg base N qual (defScope st) f cdv A outer s H E) (defBody st) t ∧ t { nx := fun _ H' => Q .non H', rt := Q } (start N vs) H) : FnOk P w K mg base (CXD P w) (k + 1) f fd ps sp := by
  obtain ⟨oc, od, kV, doc, pm, an, cdv, ct, osl, rfl, lk, hcd⟩ := F.ex
  exact fn_of lk hcd S len fun A outer s H vs Q E hr hsp => hbody cdv A outer s H vs Q E hr hsp
end
section
variable {X : Cx} {k : Nat} {f C : Addr} {fd : FuncData} {ps : List Str} {sp : Sp} {bm : List Value}
def tRaiseD (C : Addr) (sp : Sp) (E : XK) (t : TA) : TS := fun _ σ H => t σ H fun vs H1 => vs.length ≤ sizeLine ∧ ∀ a, H1 a = none → sp (.ref a :: vs) (upd H1 a (exO a C none)) (fun v H2 => v = .non ∧ ∃ dx, H2 a = some (exO a C dx) ∧ E (.ref C) dx (del H2 a)) E0
theorem ps_raiseD {x : Str} {p cpos pos : Pos} {e : Expr} {es : List Expr} {t : TA} {E : XK} (M : XC X.K C f bm) (hbase : bm.contains (.type "BaseException") = true) (hex : X.ex = []) (tk : TakesD X E) (F : FnOk X.prog X.w X.K X.mg X.base CX0 k f fd ps sp) (hr : Room (k + 1) X.A) (hb : Binds X.K fd ps [])
    (hg : Gl X x) (hm : X.mg x = some (.ref C)) (ha : PA X (e :: es) t) (hdb : (x == ("__debug__" : Str)) = false := by decide) (he : starEach (e :: es) X.env = (false, eval e X.env) :: starEach es X.env := by rfl) (hpl : (backTo cpos (starEach es X.env)).any (·.1) = false := by rfl) :
    PS X (.Raise (some (.Call (.Name x p) (e :: es) [] cpos)) none pos) (tRaiseD C sp E t) := by
  intro pins s σ H D I h
  obtain ⟨nm, q, N, bs, hdct, sn, sub, ab, col, dd, k0, k1, k2, k3, k5, lk⟩ := M.ob
  rw [arm_exec_Raise]
  refine wpAny_bind (wpAny_standAt (raise_own (C := C) (bm := bm) (nm := nm) (q := q) (N := N) (bs := bs) (hdct := hdct) (sn := sn) (sub := sub) (ab := ab) (col := col) (dd := dd) (k0 := k0) (k1 := k1) (k2 := k2) (k3 := k3) (k5 := k5) (newId := "ValueError.__new__") hbase hr.hd ?_))
  refine wpAny_bind (wpAny_mono (Q := fun v s' => ∃ a H', v = .ref a ∧ NewAt X pins a ∧ L2.Inv X pins σ H' s' ∧ ∃ dx, H' a = some (exO a C dx) ∧ E (.ref C) dx (del H' a)) ?_ (fun v s1 h1 => wpAny_bind (wpAny_standAt (wpAny_pure ?_))) fun _ _ y => y)
  · refine wpAny_Call_Name_kw (ld_glob I hg hm ?_ hdb)
    refine PySem.W.callWith_K (h₀ := X.base) I.ok.mod.kin M.kp (thn (ha cpos pins s σ H _ I h) fun us s1 ⟨vs, H1, I1, r, hz, q⟩ => ⟨I1.kIn, ?_⟩) he hpl
    exact run_exc M hex F hr hb I1 (us := [] ++ us) r (by rw [List.nil_append, ← r.length]; exact hz) q
  · obtain ⟨a, H', rfl, na, I1, dx, hx, hE⟩ := h1
    obtain ⟨tt, ho⟩ := (show L2.ObjOk X.prog X.w H' s1.heap a (exO a C dx) from I1.hok a _ hx).1
    exact ⟨a, tt, dx, rfl, I1.kIn _ _ lk, ho, tk pins σ (del H' a) s1 a C dx _ _ (B.Inv.forget I1 hx na.st) del_same na ho rfl rfl rfl rfl hE⟩
end
end B

namespace B
open PySem PySem.Spec L2 PyProof.Rows
/-! ### try, with or without a name -/
abbrev RX := Addr → Option Addr → Hp → Prop
def FlyD (X : Cx) (pins : List (Addr × Obj)) (R : RX) : Value → Shared → Prop := fun e s => ∃ (x C T : Addr) (dx : Option Addr) (H : Hp), e = .ref x ∧ L2.Inv X pins (hid X.N) H s ∧ H x = none ∧ NewAt X pins x ∧ H T = none ∧ NewAt X pins T ∧ TrcD s.heap x C T dx .none ∧ R C dx H
def inTryD (X : Cx) (pins : List (Addr × Obj)) (R : RX) : Cx := { X with pn := X.pn ++ pins, xe := FlyD X pins R }
section
variable {X : Cx} {pins pins' : List (Addr × Obj)} {σ : L2.St} {H : Hp} {s : Shared} {R : RX} {e : Addr}
theorem toTryD (I : L2.Inv X pins σ H s) : L2.Inv (inTryD X pins R) [] σ H s :=
  ⟨⟨I.ok.mod, I.ok.kind, I.ok.glob, I.ok.blt, I.ok.above, I.ok.inj, I.ok.has, I.ok.cab, I.ok.hd, I.ok.frames, I.ok.stk, I.ok.exf, I.ok.bs, I.ok.bsz, I.ok.noex, I.ok.exfs, I.ok.funs, I.ok.frf⟩, I.os, I.bare, I.base, I.loc, I.cell, I.free, I.freeC,
    fun p hp => I.pin p (by rw [List.append_nil] at hp; exact hp), I.hok, I.len⟩
theorem ofTryD (I : L2.Inv (inTryD X pins R) pins' σ H s) : L2.Inv X pins σ H s :=
  ⟨⟨I.ok.mod, I.ok.kind, I.ok.glob, I.ok.blt, I.ok.above, I.ok.inj, I.ok.has, I.ok.cab, I.ok.hd, I.ok.frames, I.ok.stk, I.ok.exf, I.ok.bs, I.ok.bsz, I.ok.noex, I.ok.exfs, I.ok.funs, I.ok.frf⟩, I.os, I.bare, I.base, I.loc, I.cell, I.free, I.freeC,
    fun p hp => I.pin p (List.mem_append_left _ hp), I.hok, I.len⟩
def EofD (R : RX) : XK := fun v dx H => ∃ C, v = .ref C ∧ R C dx H
/-- a callee's error in a try's body -/
theorem passTD (hex : X.ex = []) : Passes (CXD X.prog X.w) (inTryD X pins R) (EofD R) := by
  intro pins' σ H1 s1 e s2 I hx
  obtain ⟨x, C, T, dx, H2, rfl, ho, hb, un, hok, nx, nT, hx2, hT2, tr, C', e', hr⟩ := hx
  cases e'
  have na := B.Inv.newAt I hex nx
  have nt := B.Inv.newAt I hex nT
  have I2 : L2.Inv (inTryD X pins R) pins' σ H2 s2 := I.call' ho un hok hb (fun b hb => by cases hb)
  exact ⟨x, C, T, dx, H2, rfl, hid_weak (ofTryD I2), hx2, ⟨na.st, na.lo, na.ce, fun p hp => na.pi p (List.mem_append_left _ hp), na.fr⟩, hT2, ⟨nt.st, nt.lo, nt.ce, fun p hp => nt.pi p (List.mem_append_left _ hp), nt.fr⟩, tr, hr⟩
theorem SP.ofTryD {D : Ends} {f : Flow} (h : SP (inTryD X pins R) [] D f s) : SP X pins D f s := by
  cases f with
  | next => obtain ⟨σ', H', I, q⟩ := h; exact ⟨σ', H', B.ofTryD I, q⟩
  | brk => obtain ⟨σ', H', I, q⟩ := h; exact ⟨σ', H', B.ofTryD I, q⟩
  | cont => obtain ⟨σ', H', I, q⟩ := h; exact ⟨σ', H', B.ofTryD I, q⟩
  | ret u => obtain ⟨v, σ', H', I, r, q⟩ := h; exact ⟨v, σ', H', B.ofTryD I, r, q⟩
end
/-- the name of an except goes behind its suite -/
theorem name_gone {X : Cx} {pins : List (Addr × Obj)} {σ : L2.St} {H : Hp} {s : Shared} {M : Model} {A : Around} {E : Value → Shared → Prop} {i : Nat} {x : Str} {pos : Pos} {Q : Unit → Shared → Prop} (I : L2.Inv X pins σ H s) (hN : X.N.Nodup) (hi : X.N[i]? = some x) (hk : X.env.scope.names.lookup x = some .local)
    (h : ∀ s', L2.Inv X pins (σ.set i none) H s' → Q () s') : wpAny M A (do bindName X.env x .none; unbindBehindTheSuite X.env x pos) Q E s := by
  obtain ⟨m, hn, hl⟩ := id I.loc
  have hiσ : i < σ.length := by rw [I.len]; exact (List.getElem?_eq_some_iff.mp hi).1
  have lt : ∀ b o, X.s₀.heap.get? b = some o → b ≠ X.env.locals := fun b o e => Nat.ne_of_lt (Nat.lt_of_lt_of_le (Heap.lt_size e) I.ok.above)
  refine wpAny_nameGoes_keeps hk hn (by rw [I.ok.kind]; rfl) fun h' v hn' hs => h _ ?_
  refine ⟨I.ok, I.os, I.bare, ⟨fun b o e n hb hx => (hs.2 b (lt b o e)).trans (I.base.keep b o e n hb hx), fun b o e n hb hx => ?_, I.base.free, fun b o e hx => ?_, I.base.tups, I.base.frzs, I.base.tbls⟩, ⟨_, hn', fun j y v' e1 e2 e3 => ?_⟩, fun y c e => ?_, I.free, I.freeC, fun p hp => ?_, fun b ob e => ?_, by simpa using I.len⟩
  · obtain ⟨sl, e1⟩ := I.base.slot b o e n hb hx
    exact ⟨sl, (hs.2 b (lt b o e)).trans e1⟩
  · obtain ⟨o', e1⟩ := I.base.there b o e hx
    exact ⟨o', (hs.2 b (lt b o e)).trans e1⟩
  · have hj : j ≠ i := fun z => by subst z; rw [List.getElem?_set_self hiσ] at e2; cases e2
    rw [List.getElem?_set_ne (Ne.symm hj)] at e2
    obtain ⟨u', r', q⟩ := hl j y v' e1 e2 e3
    refine ⟨u', r', ?_⟩
    rcases q with ⟨k, e⟩ | ⟨k, c, e, z⟩
    · refine .inl ⟨k, ?_⟩
      have ny : y ≠ x := fun e => hj (nodup_ix hN e1 (e ▸ hi))
      show (if y = x then v else m y) = some u'
      rw [if_neg ny]; exact e
    · exact .inr ⟨k, c, e, z.sameBut hs (I.cne y c e)⟩
  · obtain ⟨w', z⟩ := I.cell y c e
    exact ⟨w', z.sameBut hs (I.cne y c e)⟩
  · obtain ⟨e, n, ne, nf, d⟩ := I.pin p hp
    exact ⟨(hs.2 p.1 ne).trans e, n, ne, nf, d⟩
  · refine (I.hok b ob e).stay (fun c w' hc q => (hs.2 c ?_).trans q) (fun _ q => q) fun _ _ q => q
    rintro rfl
    rcases hc with rfl | hc
    · rw [I.free] at e; cases e
    · rw [I.free] at hc; cases hc
/-- a caught error -/
def ErO (a C d : Addr) : Heap → Prop := fun h => ∃ oe, h.get? a = some oe ∧ oe.cls = .ref C ∧ oe.dict = some d ∧ PySem.W.notCls oe = true
def erO (a C d : Addr) : HO := .ext (ErO a C d)
theorem erO_ok {P : Program} {w : World} {H : Hp} {h : Heap} {a C d : Addr} (e : ErO a C d h) : ObjOk P w H h a (erO a C d) :=
  ⟨e, let ⟨_, q, _⟩ := e; ⟨_, q⟩, fun _ _ ⟨o, q, r⟩ k => ⟨o, k _ q, r⟩⟩
theorem TrcD.er {h : Heap} {x C T d : Addr} {fl : Value} (t : TrcD h x C T (some d) fl) : ErO x C d h := by
  obtain ⟨oe, vs, oT, ts, q1, q2, q3, q4, _⟩ := t
  exact ⟨oe, q1, q2, q3, by unfold PySem.W.notCls; rw [q4]⟩
def gone (i : Nat) (D : Ends) : Ends := { nx := fun σ H => D.nx (σ.set i none) H, rt := D.rt, bk := fun σ H => D.bk (σ.set i none) H, ct := fun σ H => D.ct (σ.set i none) H }
def tTryD (N : List Str) (R : RX) (Ok : Addr → Prop) (tb th : TS) : TS := fun D σ H => tb D σ H ∧ ∀ C dx H', R C dx H' → Ok C ∧ th D (hid N) H'
def tTryAs (N : List Str) (i : Nat) (R : RX) (Ok : Addr → Prop) (tb th : TS) : TS := fun D σ H => tb D σ H ∧ ∀ C dx H', R C dx H' → Ok C ∧ ∃ d, dx = some d ∧ ∀ a, H' a = none → th (gone i D) ((hid N).set i (some (.ref a))) (upd H' a (erO a C d))
section
variable {X : Cx} {R : RX} {body : List Stmt} {b₀ : Stmt} {suite : List Stmt} {x : Str} {p hpos pos : Pos} {u : Value} {tb th : TS}
theorem typ_of {M : Model} {h : Heap} {a C T : Addr} {dx : Option Addr} {fl : Value} (t : TrcD h a C T dx fl) : PySem.W.Looks M h (typeOf (.ref a)) (.ref C) := by
  obtain ⟨oe, _, _, _, q1, q2, _⟩ := t
  rw [← q2]
  exact (PySem.W.Looks.ld q1).andThen .now
theorem ps_tryAs {i : Nat} {n : Str} (hex : X.ex = []) (hst : X.stack = X.env :: X.outer) (hfr : X.env.frame = some X.env.locals) (hg : Gl X x) (hm : X.mg x = some u) (hN : X.N.Nodup) (hi : X.N[i]? = some n) (hn : X.env.scope.names.lookup n = some .local)
    (hb : ∀ pins, PSs (inTryD X pins R) body tb) (hs : ∀ e, PSs (inExc X e) (b₀ :: suite) th) (hd : (x == ("__debug__" : Str)) = false := by decide) :
    PS X (.Try body [.ExceptHandler (some (.Name x p)) (some n) (b₀ :: suite) hpos] [] [] pos) (tTryAs X.N i R (fun C => PySem.W.exmOne X.K (.ref C) u = some true) tb th) := by
  intro pins s σ H D I ⟨h1, h2⟩
  refine wpAny_Try_except (wpAny_mono (hb pins [] s σ H D (toTryD I) h1) (fun f s1 q => ?_) fun e s1 q => ?_)
  · have q' := SP.ofTryD q
    cases f with
    | next => exact wpAny_execs_nil q'
    | brk => exact q'
    | cont => exact q'
    | ret u => exact q'
  · obtain ⟨a, C, T, dx, H1, rfl, I1, ha, na, hT, nT, tr, hR⟩ := q
    obtain ⟨hk, d, rfl, hth⟩ := h2 C dx H1 hR
    refine notedN rfl I1 hex hst hfr ha na hT nT tr fun s2 T2 I2 nT2 hT2 tr2 => ?_
    refine wpAny_handleBy_cons (codeAny_handlers_test ?_) (by intro z; cases z)
    refine ld_glob (X := inExc X a) (toExc I2) hg hm ?_ hd
    refine PySem.W.Looks.here (s := s2) (PySem.W.exm_one (M := model X.prog X.w) I2.kIn (typ_of tr2) hk) ?_
    refine codeAny_handlers_suite_as ?_
    refine flownN I2 hT2 nT2 tr2 fun s3 I3 tr3 => ?_
    have I4 : L2.Inv X pins (hid X.N) (upd H1 a (erO a C d)) s3 := B.Inv.adopt I3 na ha hex (erO_ok tr3.er)
    refine store_ok (X := inExc X a) (toExc I4) hN hi (.inl hn) (v := .ref a) (u := .ref a) rfl (fun s5 I5 => ?_) (.inr hn)
    refine wpAny_mono (hs a pins s5 _ _ (gone i D) I5 (hth a ha)) (fun f s6 q6 => ?_) fun _ _ z => z.elim
    cases f with
    | next => obtain ⟨σ', H', J, q⟩ := q6; exact name_gone (ofExc I.ok J) hN hi hn fun s' J' => ⟨_, _, J', q⟩
    | brk => obtain ⟨σ', H', J, q⟩ := q6; exact name_gone (ofExc I.ok J) hN hi hn fun s' J' => ⟨_, _, J', q⟩
    | cont => obtain ⟨σ', H', J, q⟩ := q6; exact name_gone (ofExc I.ok J) hN hi hn fun s' J' => ⟨_, _, J', q⟩
    | ret u => obtain ⟨v, σ', H', J, r, q⟩ := q6; exact name_gone (ofExc I.ok J) hN hi hn fun s' J' => ⟨v, _, _, J', r, q⟩
end
/-! ### isinstance(e, ..) of a caught error -/
def rIsE (K : PySem.W.Frag) : List V → Hp → VK → Prop := fun xs H Q => ∃ (a C d : Addr) (fs : List (Str × V)) (bm : List Value) (c : V) (b : Bool), xs = [.ref a, c] ∧ H a = some (erO a C d) ∧ H d = some (dO d fs) ∧ ClsX K C bm ∧ GetX K C ∧
  ((∃ n, c = .ty n ∧ PySem.W.kitOne K (.ref C) (.type n) = some b) ∨ (∃ D, c = .ref D ∧ PySem.W.kitOne K (.ref C) (.ref D) = some b) ∨
   ∃ (p : Addr) (cs : List Addr), c = .ref p ∧ H p = some (.tup (cs.map V.ref)) ∧ PySem.W.kitAny K (.ref C) (cs.map Value.ref) = some b) ∧ Q (.bl b) H
theorem vals_refs : ∀ {cs : List Addr} {us : List Value}, Vals (cs.map V.ref) us → us = cs.map Value.ref
  | [], _, .nil => rfl
  | c :: cs, _, .cons r q => by
    rw [List.map_cons, vals_refs q, (show _ = Value.ref c from r)]
theorem call_isE {X : Cx} : CallR X (.builtin "isinstance") (rIsE X.K) := by
  intro pins s σ H xs us Q I r h
  obtain ⟨a, C, d, fs, bm, c, b, rfl, ea, ed, cl, gx, k, q⟩ := h
  obtain ⟨u, u2, rfl, rx, ry⟩ := vals2 r
  obtain rfl : u = Value.ref a := rx
  obtain ⟨oe, h1, h2, h3, h4⟩ := (show ObjOk X.prog X.w H s.heap a (erO a C d) from I.hok a _ ea).1
  obtain ⟨mA, ⟨od, es, ep, h5, _⟩, _⟩ := (show ObjOk X.prog X.w H s.heap d (dO d fs) from I.hok d _ ed).1
  have J : PySem.W.InstAt s.heap a oe C (some od) := ⟨h1, h2, h4, by rw [h3]; exact h5⟩
  rcases k with ⟨n, rfl, e⟩ | ⟨D, rfl, e⟩ | ⟨p, cs, rfl, hp, e⟩
  · obtain rfl : u2 = Value.type n := ry
    exact PySem.W.kia_one (kitx_err cl gx) I.kIn J e (fun z => nomatch z) fun tk => ⟨.bl b, H, I.tok tk, rfl, q⟩
  · obtain rfl : u2 = Value.ref D := ry
    exact PySem.W.kia_one (kitx_err cl gx) I.kIn J e (fun z => nomatch z) fun tk => ⟨.bl b, H, I.tok tk, rfl, q⟩
  · obtain rfl : u2 = Value.ref p := ry
    obtain ⟨_, its, rv, o, ho, hc, n, hd⟩ := (show ObjOk X.prog X.w H s.heap p (.tup (cs.map V.ref)) from I.hok p _ hp)
    rw [vals_refs rv] at hd
    obtain ⟨oc, odd, oda, osl⟩ := o
    dsimp only at hc hd
    subst hc; subst hd
    exact PySem.W.kia_tup (kitx_err cl gx) I.kIn J ho e (fun z => nomatch z) fun tk => ⟨.bl b, H, I.tok tk, rfl, q⟩
theorem call_isK {X : Cx} {K : PySem.W.Frag} (h : X.K = K) : CallR X (.builtin "isinstance") (rIsE K) := by
  subst h; exact call_isE
end B

namespace B
open PySem PySem.Spec L2 PyProof.Rows
/-! ### errors as values: made, asked, read -/
/-- an error at a with its dict at d: caught, or made and not raised -/
def IsErr (H : Hp) (a C d : Addr) : Prop := H a = some (erO a C d) ∨ H a = some (exO a C (some d))
section
variable {X : Cx} {pins : List (Addr × Obj)} {σ : L2.St} {H : Hp} {s : Shared} {a C d : Addr} {fs : List (Str × V)}
theorem IsErr.inst (I : L2.Inv X pins σ H s) (h : IsErr H a C d) (ed : H d = some (dO d fs)) : ∃ (oe od : Obj) (mA : Str → Option Value), PySem.W.InstAt s.heap a oe C (some od) ∧ (∀ name, PySem.W.lookIn name od = some (mA name)) ∧ ∀ f, RelO (fs.lookup f) (mA f) := by
  obtain ⟨mA, hn, r⟩ := (show ObjOk X.prog X.w H s.heap d (dO d fs) from I.hok d _ ed).1
  obtain ⟨od, ho, hl⟩ := lookIn_ns hn
  rcases h with h | h
  · obtain ⟨oe, h1, h2, h3, h4⟩ := (show ObjOk X.prog X.w H s.heap a (erO a C d) from I.hok a _ h).1
    exact ⟨oe, od, mA, ⟨h1, h2, h4, by rw [h3]; exact ho⟩, hl, r⟩
  · obtain ⟨t, h1⟩ := (show ObjOk X.prog X.w H s.heap a (exO a C (some d)) from I.hok a _ h).1
    exact ⟨_, od, mA, ⟨h1, rfl, rfl, ho⟩, hl, r⟩
end
/-- e.f of an error -/
def tFldE (K : PySem.W.Frag) (ta : TE) (f : Str) : TE := fun σ H Q => ta σ H fun x H1 => ∃ a C d fs bm v, x = .ref a ∧ IsErr H1 a C d ∧ H1 d = some (dO d fs) ∧ ClsX K C bm ∧ GetX K C ∧ NoAttr K C f ∧ fs.lookup f = some v ∧ Q v H1
theorem pe_fldE {X : Cx} {e : Expr} {f : Str} {pos : Pos} {ta : TE} {K : PySem.W.Frag} (hK : X.K = K) (he : PE X e ta) (hb : attributeBase e f X.env (eval e X.env) = eval e X.env) : PE X (.Attribute e f pos) (tFldE K ta f) := by
  subst hK
  intro pins s σ H Q I h
  refine attr_of hb (thn (he pins s σ H _ I h) fun u s1 ⟨x, H1, I1, rx, a, C, d, fs, bm, v, ex, ea, ed, c, g, n, l, q⟩ => ?_)
  subst ex
  obtain rfl : u = Value.ref a := rx
  obtain ⟨oe, od, mA, J, hl, r⟩ := IsErr.inst I1 ea ed
  obtain ⟨u', hu, ru⟩ := RelO.some_of (v := v) (o := mA f) (by rw [← l]; exact r f)
  unfold getAttr
  refine wpAny_bind (wpAny_mkText ?_)
  refine err_open (s := { s1 with toks := s1.toks + 1 }) I1.kIn J g ?_
  refine err_val (s := { s1 with toks := s1.toks + 1 }) I1.kIn J c (PySem.W.findObj_own c.hd n rfl (by rw [hl, hu])) ?_
  exact ⟨u', rfl, handed_of ru, v, H1, I1.tok _, ru, q⟩
/-- isinstance(e, ..) of an error -/
def rIsX (K : PySem.W.Frag) : List V → Hp → VK → Prop := fun xs H Q => ∃ (a C d : Addr) (fs : List (Str × V)) (bm : List Value) (c : V) (b : Bool), xs = [.ref a, c] ∧ IsErr H a C d ∧ H d = some (dO d fs) ∧ ClsX K C bm ∧ GetX K C ∧
  ((∃ n, c = .ty n ∧ PySem.W.kitOne K (.ref C) (.type n) = some b) ∨ (∃ D, c = .ref D ∧ PySem.W.kitOne K (.ref C) (.ref D) = some b) ∨
   ∃ (p : Addr) (cs : List Addr), c = .ref p ∧ H p = some (.tup (cs.map V.ref)) ∧ PySem.W.kitAny K (.ref C) (cs.map Value.ref) = some b) ∧ Q (.bl b) H
/-- C(e, ..): an error made as a value -/
def tMakeE (C : Addr) (sp : Sp) (t : TA) : TE := fun σ H Q => t σ H fun vs H1 => vs.length ≤ sizeLine ∧ ∀ a, H1 a = none → sp (.ref a :: vs) (upd H1 a (exO a C none)) (fun v H2 => v = .non ∧ Q (.ref a) H2) E0
end B

namespace B
open PySem PySem.Spec L2 PyProof.Rows
/-! ### several records of ours turn at once -/
theorem turnedL {X : Cx} {pins : List (Addr × Obj)} {σ : L2.St} {H : Hp} {s : Shared} {h' : Heap} {t' : Nat} {fp : List Addr} (I : Inv X pins σ H s)
    (k : ∀ b o, b ∉ fp → s.heap.get? b = some o → h'.get? b = some o) (hf : ∀ b ∈ fp, FpOk X pins H b) : Inv X pins σ H { s with heap := h', toks := t' } := by
  have off : ∀ b u, H b = some u → b ∉ fp := fun b u e z => by rw [(hf b z).1] at e; cases e
  refine I.step (g' := s.gens) (d' := s.drawn) (ch := fp) (fun b hb => ?_) (fun b o _ _ hc e _ => k b o hc e) (fun b o _ _ hc e _ => ⟨o.slots, k b o hc e⟩) (fun _ _ _ _ n => n)
    (fun b o hc e => ⟨o, k b o hc e⟩) (fun _ _ e => e) (fun _ _ _ e => e) (fun b ps e => ⟨#[], by rw [e]; simp⟩) (fun m hm => ?_) (fun b u e => ?_) I.bare
  · obtain ⟨_, f1, _, f3, f4, f5⟩ := hf b hb
    exact ⟨f3, f1, f4, f5⟩
  · obtain ⟨o, es, ep, ho, r⟩ := hm
    exact ⟨o, es, ep, k _ o (fun z => (hf _ z).2.1 rfl) ho, r⟩
  · refine (I.hok b u e).stay (fun c v hc q => k c v ?_ q) (fun _ q => q) fun _ _ q => q
    rcases hc with z | z
    · rw [z]; exact off b u e
    · exact off c _ z
section
variable {prog : Program} {w : World} {A : Around} {E : Value → Shared → Prop} {s : Shared}
/-! ### a tuple's iterator, drawn from by zip and its like -/
theorem nx_item {j t : Addr} {k : Nat} {ys : Array Value} {v : Value} {G : Value → Shared → Prop} (a : s.heap.IsTupleIter j t k) (b : s.heap.IsTuple t ys) (c : ys[k]? = some v)
    (g : ∀ h', h'.IsTupleIter j t (k + 1) → Heap.SameBut j s.heap h' → G v { s with heap := h' }) : wpAny (model prog w) A (Builtin.SmallTypes.nextOf (.ref j)) G E s := by
  obtain ⟨o, e1, e2, e3⟩ := id a
  obtain ⟨q, f1, _, n, f2⟩ := b
  unfold Builtin.SmallTypes.nextOf
  refine wpAny_bind (wpAny_callSpecial?_slot (name := Str.ofString "__next__") a.typeIs F.slot_tuple_iterator_next
    (wpAny_call_entry F.slot_tuple_iterator_next a.typeIs F.entry_tuple_iterator_next ?_ (F.args_tuple_iterator_next_1 _)))
  show wpAny (model prog w) _ (field (.ref j) 0 >>= _) _ _ s
  refine wpAny_bind (wpAny_field e1 e3 (x := .ref t) rfl ?_)
  show wpAny (model prog w) _ (if (Value.ref t == Value.none) = true then _ else _) _ _ s
  rw [if_neg (fun z => Bool.noConfusion z : ¬ ((Value.ref t == Value.none) = true))]
  show wpAny (model prog w) _ (field (.ref j) 1 >>= _) _ _ s
  refine wpAny_bind (wpAny_field e1 e3 (x := .int k 0) rfl ?_)
  show wpAny (model prog w) _ (seqItems? (.ref t) >>= _) _ _ s
  refine wpAny_bind (wpAny_seqItems f1 f2 ?_)
  simp only [c, Int.toNat_natCast]
  refine wpAny_bind (wpAny_setField e1 e3 (by simp) (wpAny_pure ⟨v, rfl, wpAny_pure (g _ ?_ (Heap.SameBut.update ..))⟩))
  refine ⟨_, Heap.get?_update_self _ e1 (Obj.isFreed_of_fields (Obj.data_mapFields e3 _)), (Obj.cls_mapFields ..).trans e2, ?_⟩
  rw [Obj.data_mapFields e3]; simp [rawInt]
theorem nx_end {j t : Addr} {k : Nat} {ys : Array Value} {G : Value → Shared → Prop} (hh : A.handled = none) (a : s.heap.IsTupleIter j t k) (b : s.heap.IsTuple t ys) (c : ys[k]? = none)
    (g : ∀ h' e, Heap.ExtBut j s.heap h' → (∃ o, h'.get? e = some o ∧ o.cls = .type "StopIteration") → E (.ref e) { s with heap := h' }) : wpAny (model prog w) A (Builtin.SmallTypes.nextOf (.ref j)) G E s := by
  obtain ⟨o, e1, e2, e3⟩ := id a
  obtain ⟨q, f1, _, n, f2⟩ := b
  unfold Builtin.SmallTypes.nextOf
  refine wpAny_bind (wpAny_callSpecial?_slot (name := Str.ofString "__next__") a.typeIs F.slot_tuple_iterator_next
    (wpAny_call_entry F.slot_tuple_iterator_next a.typeIs F.entry_tuple_iterator_next ?_ (F.args_tuple_iterator_next_1 _)))
  show wpAny (model prog w) _ (field (.ref j) 0 >>= _) _ _ s
  refine wpAny_bind (wpAny_field e1 e3 (x := .ref t) rfl ?_)
  show wpAny (model prog w) _ (if (Value.ref t == Value.none) = true then _ else _) _ _ s
  rw [if_neg (fun z => Bool.noConfusion z : ¬ ((Value.ref t == Value.none) = true))]
  show wpAny (model prog w) _ (field (.ref j) 1 >>= _) _ _ s
  refine wpAny_bind (wpAny_field e1 e3 (x := .int k 0) rfl ?_)
  show wpAny (model prog w) _ (seqItems? (.ref t) >>= _) _ _ s
  refine wpAny_bind (wpAny_seqItems f1 f2 ?_)
  simp only [c, Int.toNat_natCast]
  refine wpAny_bind (wpAny_rule (wpAny_bind (wpAny_setField e1 e3 (by simp) ?_)))
  show wpAny (model prog w) _ (newExc (.type "StopIteration") [] >>= _) _ _ _
  refine wpAny_bind ?_
  simp only [newTuple, newExc]
  refine wpAny_bind (wpAny_newObj_type ?_ (by size_fits))
  refine wpAny_bind (m := firstArgMember _ _) (wpAny_of_eq (a := Value.none) (by first | rfl | (simp only [firstArgMember] <;> rfl)) ?_)
  refine wpAny_newObj_type ?_ (by size_fits)
  simp only [raiseNew]
  refine wpAny_bind (wpAny_handled ?_)
  first | rw [hh] | rw [show A.in1.handled = none from hh]
  refine wpAny_bind (wpAny_pure (wpAny_throw (g _ _ (((Heap.SameBut.update ..).extBut.push _).push _) ⟨_, Heap.get?_push_size _ rfl, rfl⟩)))
/-! ### zip's turn, whatever it draws from -/
structure Five (z TI TO i1 i2 : Addr) : Prop where
  a1 : TI ≠ z
  a2 : TO ≠ z
  a3 : i1 ≠ z
  a4 : i2 ≠ z
  a5 : TI ≠ TO
  a6 : TI ≠ i1
  a7 : TI ≠ i2
  a8 : TO ≠ i1
  a9 : TO ≠ i2
  b1 : i1 ≠ i2
end
end B

namespace B
open PySem PySem.Spec L2 PyProof.Rows
/-- .. and a new object comes to be known -/
theorem turnedN {X : Cx} {pins : List (Addr × Obj)} {σ : L2.St} {H : Hp} {s : Shared} {h' : Heap} {t' : Nat} {fp : List Addr} {p : Addr} {v : HO} (I : Inv X pins σ H s)
    (k : ∀ b o, b ∉ fp → s.heap.get? b = some o → h'.get? b = some o) (hf : ∀ b ∈ fp, FpOk X pins H b) (hp : s.heap.objs.size ≤ p) (new : ObjOk X.prog X.w (upd H p v) h' p v) :
    Inv X pins σ (upd H p v) { s with heap := h', toks := t' } := by
  have off : ∀ b u, H b = some u → b ∉ fp := fun b u e z => by rw [(hf b z).1] at e; cases e
  have hn : H p = none := I.hok.fresh hp
  have old : ∀ b u, H b = some u → upd H p v b = some u := fun b u e => by rw [upd_ne (ne_of_none e hn)]; exact e
  refine I.step (g' := s.gens) (d' := s.drawn) (ch := fp) (fun b hb => ?_) (fun b o _ _ hc e _ => k b o hc e) (fun b o _ _ hc e _ => ⟨o.slots, k b o hc e⟩) (fun b o _ e n => ?_)
    (fun b o hc e => ⟨o, k b o hc e⟩) (fun b xs e => old b _ e) (fun b o u e => old b _ e) (fun b ps e => ⟨#[], by rw [old b _ e]; simp⟩) (fun m hm => ?_) (fun b u e => ?_) I.bare
  · obtain ⟨_, f1, _, f3, f4, f5⟩ := hf b hb
    exact ⟨f3, f1, f4, f5⟩
  · rw [upd_ne (Nat.ne_of_lt (Nat.lt_of_lt_of_le (Heap.lt_size e) hp))]; exact n
  · obtain ⟨o, es, ep, ho, r⟩ := hm
    exact ⟨o, es, ep, k _ o (fun z => (hf _ z).2.1 rfl) ho, r⟩
  · by_cases hb : b = p
    · subst hb; rw [upd_same] at e; cases e; exact new
    · rw [upd_ne hb] at e
      refine (I.hok b u e).stay (fun c v hc q => k c v ?_ q) (fun c q => old c _ q) fun c xs q => old c _ q
      rcases hc with z | z
      · rw [z]; exact off b u e
      · exact off c _ z
/-- what is read as a tuple is none of an iterator's own records -/
theorem sqT_off {X : Cx} {pins : List (Addr × Obj)} {σ : L2.St} {H : Hp} {s : Shared} {a b : Addr} {xs : List V} (I : Inv X pins σ H s) (h : SqT X.K H a xs) (f : FpOk X pins H b) : a ≠ b := fun z => by
  subst z
  rcases h with (h | ⟨o, h⟩) | ⟨o, its, n, hk, _⟩
  · rw [f.1] at h; cases h
  · rw [f.1] at h; cases h
  · have e := I.ok.mod.kin a o hk
    rcases f.2.2.2.1 with z | z
    · exact I.ok.noex a o e z
    · rw [(I.ok.bs a o e).1] at z; cases z
def Itz (K : PySem.W.Frag) (a b : Addr) : It :=
  ⟨fun i H => ∃ xs ys x y, SqT K H a xs ∧ SqT K H b ys ∧ xs[i]? = some x ∧ ys[i]? = some y,
   fun i H v H' => ∃ p x y, H p = none ∧ v = .ref p ∧ H' = upd H p (.tup [x, y]) ∧ (∀ xs, SqT K H a xs → xs[i]? = some x) ∧ ∀ ys, SqT K H b ys → ys[i]? = some y,
   fun i H => ∃ xs ys, SqT K H a xs ∧ SqT K H b ys ∧ (xs.length ≤ i ∨ ys.length ≤ i)⟩
def ZSt (z TI TO i1 i2 a b : Addr) (i : Nat) (h : Heap) : Prop := IsZip h z TI TO .none ∧ IsPair h TI (.ref i1) (.ref i2) ∧ (∃ u v, IsPair h TO u v) ∧ h.IsTupleIter i1 a i ∧ h.IsTupleIter i2 b i
theorem tupIter_at {h h' : Heap} {i a : Addr} {n : Nat} (x : h.IsTupleIter i a n) (k : ∀ o, h.get? i = some o → h'.get? i = some o) : h'.IsTupleIter i a n := let ⟨o, e, r⟩ := x; ⟨o, k o e, r⟩
theorem tup_at {h h' : Heap} {a : Addr} {ys : Array Value} (x : h.IsTuple a ys) (k : ∀ o, h.get? a = some o → h'.get? a = some o) : h'.IsTuple a ys := let ⟨o, e, r⟩ := x; ⟨o, k o e, r⟩
/-! ### zip(a, b) of two tuples, walked -/
abbrev zA (h : Heap) (a : Addr) : Heap := h.push { cls := .type "tuple_iterator", data := .fields #[.ref a, .int 0 0] }
abbrev zB (h : Heap) (a b : Addr) : Heap := zA (zA h a) b
abbrev zC (h : Heap) (a b : Addr) : Heap := (zB h a b).push { cls := .type "tuple", data := .seq #[.ref h.objs.size, .ref (zA h a).objs.size] }
abbrev zD (h : Heap) (a b : Addr) : Heap := (zC h a b).push { cls := .type "tuple", data := .seq #[.none, .none] }
abbrev zE (h : Heap) (a b : Addr) : Heap := (zD h a b).push { cls := .type "zip", data := .fields #[.none, .bool false, .bool false, .ref (zB h a b).objs.size, .ref (zC h a b).objs.size] }
def iZip (K : PySem.W.Frag) (ta : TA) : TI := fun σ H R => ta σ H fun vs H1 => ∃ a b, vs = [.ref a, .ref b] ∧ (∃ xs, SqT K H1 a xs) ∧ (∃ ys, SqT K H1 b ys) ∧ R (Itz K a b) H1
end B

namespace B
open PySem PySem.Spec L2 PyProof.Rows
theorem draws_tup {prog : Program} {w : World} {A : Around} (hh : A.handled = none) (it a : Addr) (ne : a ≠ it) (items : Array Value) :
    Draws prog w A it [it, a] items.size (fun i v => items[i]? = some v) (fun i h => h.IsTupleIter it a i ∧ h.IsTuple a items) where
  live := fun _ _ st => let ⟨o, ho, _⟩ := st.1; ⟨o, ho⟩
  frame := fun _ _ _ st hk => ⟨tupIter_at st.1 fun o e => hk it (by simp) o e, tup_at st.2 fun o e => hk a (by simp) o e⟩
  item := fun i s Q E hi st hQ => by
    have hx : items[i]? = some (items[i]'hi) := Array.getElem?_eq_getElem hi
    exact nx_item st.1 st.2 hx fun h' i' sb => hQ _ h' s.toks hx ⟨i', tup_at st.2 fun o e => sb.extBut _ _ ne e⟩ sb
  done := fun s Q E st hE => nx_end hh st.1 st.2 (by simp) hE
theorem enum_newT (a : Addr) (xs : Array Value) : Meets (Builtin.«enumerate.__new__» ⟨[.type "enumerate", .ref a], []⟩) (fun _ R s => s.heap.IsTuple a xs ∧
      R (.ok (.ret (.ref (zA s.heap a).objs.size))) { s with heap := (zA s.heap a).push { cls := .type "enumerate", data := .fields #[.none, .bool false, .ref s.heap.objs.size, rawInt 0, .none, .none] } }) :=
  .of_wp fun prog w A R s h => by
    obtain ⟨hp, g, d, tk, os⟩ := s; obtain ⟨hl, h⟩ := h
    obtain ⟨⟨c, dct, dt, sl⟩, ho, hc, n, hd⟩ := id hl
    replace hc : c = .type "tuple" := hc
    replace hd : dt = .seq xs n := hd
    subst hc hd
    have hsub := sub_enumerate
    have L : Heap.IsTuple (Shared.heap ⟨hp, g, d, tk, os⟩) a xs := hl
    wp_walk using AutoSeq1.wpAny_loadPart' ho
    refine wpAny_stack_any fun st => wpAny_pure ?_
    split
    · rename_i c _ _ _ _ _
      cases (c == Value.type "enumerate")
      · wp_walk using AutoSeq1.wpAny_loadPart' ho, wpAny_pyIter_tuple L
        exact ⟨_, rfl, h⟩
      · wp_walk using AutoSeq1.wpAny_loadPart' ho, wpAny_pyIter_tuple L
        exact ⟨_, rfl, h⟩
    · wp_walk using AutoSeq1.wpAny_loadPart' ho, wpAny_pyIter_tuple L
      exact ⟨_, rfl, h⟩
theorem call_enumT {prog : Program} {w : World} {A : Around} {E : Value → Shared → Prop} {s : Shared} {a : Addr} {items : Array Value} {Q : Value → Shared → Prop} (hL : s.heap.IsTuple a items)
    (h : ∀ h', IsEnum h' (s.heap.objs.size + 1) s.heap.objs.size 0 .none → h'.IsTupleIter s.heap.objs.size a 0 → h'.objs.size = s.heap.objs.size + 2 →
      (∀ b o, s.heap.get? b = some o → h'.get? b = some o) → Q (.ref (s.heap.objs.size + 1)) { s with heap := h' }) :
    wpAny (model prog w) A (call (.type "enumerate") [.ref a]) Q E s := by
  refine callType_new F.called_enumerate (by decide) (F.typeCall_enumerate_1 _) (F.newCall_enumerate_1 _) (fun obj => F.args_object_init_2 obj _) F.entry_enumerate_new
    (enum_newT a items) ⟨hL, ?_⟩
  have hz : (zA s.heap a).objs.size = s.heap.objs.size + 1 := Heap.size_push ..
  show _ ∧ _
  rw [hz]
  have he : IsEnum ((zA s.heap a).push { cls := .type "enumerate", data := .fields #[.none, .bool false, .ref s.heap.objs.size, rawInt 0, .none, .none] }) (s.heap.objs.size + 1) s.heap.objs.size 0 .none := by
    have := Heap.get?_push_size (zA s.heap a) (o := { cls := .type "enumerate", data := .fields #[.none, .bool false, .ref s.heap.objs.size, rawInt 0, .none, .none] }) rfl
    rw [hz] at this; exact this
  refine ⟨⟨_, he, rfl⟩, h _ he ⟨_, Heap.get?_push_of_some _ (Heap.get?_push_size _ rfl), rfl, rfl⟩ (by rw [Heap.size_push, hz]) fun b o x => Heap.get?_push_of_some _ (Heap.get?_push_of_some _ x)⟩

/-! ### enumerate(a tuple), walked -/
def IteT (K : PySem.W.Frag) (a : Addr) : It :=
  ⟨fun i H => ∃ xs x, SqT K H a xs ∧ xs[i]? = some x,
   fun i H v H' => ∃ p x, H p = none ∧ v = .ref p ∧ H' = upd H p (.tup [.int i, x]) ∧ ∀ xs, SqT K H a xs → xs[i]? = some x,
   fun i H => ∃ xs, SqT K H a xs ∧ xs.length ≤ i⟩
theorem turn_enT {P : Program} {w : World} {K : PySem.W.Frag} {elts : List Expr} {x1} {pos : Pos} {e it a : Addr} (hei : e ≠ it) :
    Turn P w K (.Tuple elts x1 pos) (IteT K a) [e, it] e (fun i h => (∃ old, IsEnum h e it (i : Nat) old) ∧ h.IsTupleIter it a i) where
  mem := by simp
  obj := fun i h st c hc => by
    obtain ⟨⟨old, h1⟩, ⟨o2, h2, c2, d2⟩⟩ := st
    simp only [List.mem_cons, List.not_mem_nil, or_false] at hc
    rcases hc with rfl | rfl
    · exact ⟨_, h1, fun v q => by cases (show Data.fields _ = Data.cell v from q)⟩
    · exact ⟨o2, h2, fun v q => by rw [d2] at q; cases q⟩
  keep := fun i h h' st k => by
    obtain ⟨⟨old, h1⟩, h2⟩ := st
    exact ⟨⟨old, k e (by simp) _ h1⟩, tupIter_at h2 fun o q => k it (by simp) o q⟩
  item := by
    intro X hP hw hK hc i pins s σ H E I hf st hg
    subst hP hw hK
    obtain ⟨xs, x, q1, hx⟩ := hg
    obtain ⟨its, rv, p1, z1⟩ := I.tuple q1
    obtain ⟨u, hu, ru⟩ := rv.get hx
    have off : ∀ c ∈ [e, it], a ≠ c := fun c hc => sqT_off I q1 (hf c hc)
    obtain ⟨⟨old, h1⟩, h2⟩ := st
    have hh : X.A.in1.handled = none := I.ok.hd hc
    have na : a ≠ it := off it (by simp)
    have ne : e ∉ [it, a] := fun q => by
      simp only [List.mem_cons, List.not_mem_nil, or_false] at q
      rcases q with q | q
      · exact hei q
      · exact off e (by simp) q.symm
    have hi : i < its.toArray.size := by have := (List.getElem?_eq_some_iff.mp hu).1; simpa using this
    have el : e < s.heap.objs.size := Heap.lt_size h1
    have il : it < s.heap.objs.size := by obtain ⟨o2, q2, _⟩ := h2; exact Heap.lt_size q2
    refine wpAny_pyNext_enum_itemD (draws_tup hh it a na its.toArray) h1 ⟨h2, p1⟩ hi hei ne fun v h' tk hv eo st' tup hz hk => ⟨_, rfl, wpAny_letOwnedTupleGo_enum eo fun h'' e2 sb => ?_⟩
    have ev : v = u := by
      have : its.toArray[i]? = some u := by simpa using hu
      rw [this] at hv
      exact (Option.some.inj hv).symm
    subst ev
    have nt : s.heap.objs.size ≠ e := Nat.ne_of_gt el
    have ni : s.heap.objs.size ≠ it := Nat.ne_of_gt il
    have P : ObjOk X.prog X.w (upd H s.heap.objs.size (.tup [.int i, x])) h'' s.heap.objs.size (.tup [.int i, x]) :=
      ⟨by show 2 ≤ sizeLine; decide, [.int i tk, v], .cons ⟨_, rfl⟩ (.cons ru .nil), ⟨_, sb.extBut _ _ nt tup, rfl, _, rfl⟩⟩
    have I2 : Inv X pins σ (upd H s.heap.objs.size (.tup [.int i, x])) { s with heap := h'', toks := tk + 1 } := turnedN I (fun c o' n q => by
      have n1 : c ≠ e := fun r => n (by simp [r])
      have n2 : c ≠ it := fun r => n (by simp [r])
      exact sb.extBut _ _ n1 (hk c o' n1 n2 q)) hf (Nat.le_refl _) P
    refine ⟨.ref s.heap.objs.size, _, I2, rfl, ⟨_, x, I.fresh, rfl, rfl, fun ys hy => by rw [I.tuple_inj hy q1]; exact hx⟩, ⟨⟨_, by simpa using e2⟩, tupIter_at st'.1 fun o q => sb.extBut _ _ hei.symm q⟩, fun c hc => ?_⟩
    have lt : c < s.heap.objs.size := by
      simp only [List.mem_cons, List.not_mem_nil, or_false] at hc
      rcases hc with rfl | rfl
      · exact el
      · exact il
    rw [upd_ne (Nat.ne_of_lt lt)]
    exact (hf c hc).1
  done := by
    intro X hP hw hK hc i pins s σ H E I hf st hg
    subst hP hw hK
    obtain ⟨xs, q1, hx⟩ := hg
    obtain ⟨its, rv, p1, z1⟩ := I.tuple q1
    have off : ∀ c ∈ [e, it], a ≠ c := fun c hc => sqT_off I q1 (hf c hc)
    obtain ⟨⟨old, h1⟩, h2⟩ := st
    have hh : X.A.in1.handled = none := I.ok.hd hc
    have hl := rv.length
    have nn : its.toArray[i]? = none := by rw [Array.getElem?_eq_none_iff]; simp; omega
    have hT : s.TypeIs (.ref e) "enumerate" := ⟨_, h1, rfl⟩
    unfold pyNext
    refine wpAny_bind (wpAny_attempt (wpAny_callSpecial?_slot (name := Str.ofString "__next__") hT F.slot_enumerate_next
      (wpAny_call_entry F.slot_enumerate_next hT F.entry_enumerate_next ?_ (F.args_enumerate_next_1 _))))
    show wpAny _ _ (field (.ref e) 2 >>= _) _ _ _
    refine wpAny_bind (wpAny_field h1 rfl (x := .ref it) rfl ?_)
    refine wpAny_bind (nx_end hh h2 p1 nn fun h' x he' hx' => ?_)
    obtain ⟨o, ho, hcl⟩ := hx'
    refine wpAny_bind (wpAny_isInstance (T := "StopIteration") (b := true) ⟨o, ho, hcl⟩ isSubtype_stop ?_)
    refine wpAny_pure ⟨rfl, ?_⟩
    exact turnedL (t' := s.toks) I (fun c o' n q => he' c o' (fun r => n (by simp [r])) q) hf
  self := fun A i s Q E st h => by
    obtain ⟨⟨old, h1⟩, _⟩ := st
    exact wpAny_pyIter_enum h1 h
def iEnT (K : PySem.W.Frag) (ta : TA) : TI := fun σ H R => ta σ H fun vs H1 => ∃ a, vs = [.ref a] ∧ (∃ xs, SqT K H1 a xs) ∧ R (IteT K a) H1
theorem pi_enum {X : Cx} {elts : List Expr} {x1} {tp p pos : Pos} {a : Expr} {ta : TA} (hg : Gl X "enumerate") (hm : X.mg "enumerate" = none) (ha : PA X [a] ta) (hs : starEach [a] X.env = [(false, eval a X.env)] := by rfl) :
    PI X (.Tuple elts x1 tp) (.Call (.Name "enumerate" p) [a] [] pos) (iEnT X.K ta) := by
  intro pins s σ H R I h
  refine Call_ (ld_blt I hg hm (show bootBuiltins "enumerate" = some (.type "enumerate") by kernel_rfl) (PyProof.Rows.callWith_type1 (thn (ha pos pins s σ H _ I h) fun us s1 ⟨vs, H1, I1, r1, q1⟩ => ?_) hs rfl))
  obtain ⟨a, e, ⟨xs, hx⟩, q⟩ := q1
  subst e
  obtain ⟨u, rfl, ru⟩ := r1.one
  cases ru
  obtain ⟨its, _, p1, _⟩ := I1.tuple hx
  refine call_enumT p1 fun h' he hi sz kk => wpAny_pyIter_enum he ?_
  have I2 : Inv X pins σ H1 { s1 with heap := h' } := I1.kept (t' := s1.toks) kk
  refine ⟨_, [s1.heap.objs.size + 1, s1.heap.objs.size], _, _, H1, rfl, I2, turn_enT (a := a) (Nat.succ_ne_self _), ⟨⟨_, he⟩, hi⟩, fun c hc => ?_, q⟩
  have le : s1.heap.objs.size ≤ c := by
    simp only [List.mem_cons, List.not_mem_nil, or_false] at hc
    rcases hc with h | h
    · rw [h]; exact Nat.le_succ _
    · rw [h]; exact Nat.le_refl _
  exact I1.fpOk le (I1.hok.fresh le)
theorem for_enum {K : PySem.W.Frag} {a : Addr} {xs : List V} {g : TG} {tb : TS} {D : Ends} {σ : L2.St} {H : Hp} (Pv : Nat → L2.St → Hp → Prop) (h0 : Pv 0 σ H)
    (hl : ∀ i σ H, i ≤ xs.length → Pv i σ H → SqT K H a xs)
    (hs : ∀ i x p σ H, xs[i]? = some x → Pv i σ H → H p = none → g (.ref p) σ (upd H p (.tup [.int i, x])) fun σ2 H2 => tb { D with nx := Pv (i + 1), ct := Pv (i + 1), bk := D.nx } σ2 H2) (hd : ∀ σ H, Pv xs.length σ H → D.nx σ H) :
    ∃ W : Nat → Nat → L2.St → Hp → Prop, (∃ m, W 0 m σ H) ∧ ∀ i m σ H, W i m σ H →
      ((IteT K a).stop i H ∧ D.nx σ H) ∨ ((IteT K a).go i H ∧ ∃ N : L2.St → Hp → Prop, (∀ σ' H', N σ' H' → ∃ m', m' < m ∧ W (i + 1) m' σ' H') ∧ ∀ x H', (IteT K a).yld i H x H' → g x σ H' fun σ2 H2 => tb { D with nx := N, ct := N, bk := D.nx } σ2 H2) := by
  refine ⟨fun i m σ H => m = xs.length - i ∧ i ≤ xs.length ∧ Pv i σ H, ⟨_, rfl, Nat.zero_le _, h0⟩, ?_⟩
  rintro i m σ H ⟨rfl, hi, p⟩
  have q := hl i σ H hi p
  by_cases hlt : i < xs.length
  · refine .inr ⟨⟨xs, _, q, List.getElem?_eq_getElem hlt⟩, Pv (i + 1), fun σ' H' p' => ⟨xs.length - (i + 1), by omega, rfl, hlt, p'⟩, fun x H' y => ?_⟩
    obtain ⟨pp, v, hp, rfl, rfl, hv⟩ := y
    exact hs i v pp σ _ (hv xs q) p hp
  · have e : i = xs.length := by omega
    subst e
    exact .inl ⟨⟨xs, q, Nat.le_refl _⟩, hd σ H p⟩

/-! ### enumerate(a list), walked -/
def IteL (K : PySem.W.Frag) (a : Addr) : It :=
  ⟨fun i H => ∃ xs x, SqL K H a xs ∧ xs[i]? = some x,
   fun i H v H' => ∃ p x, H p = none ∧ v = .ref p ∧ H' = upd H p (.tup [.int i, x]) ∧ ∀ xs, SqL K H a xs → xs[i]? = some x,
   fun i H => ∃ xs, SqL K H a xs ∧ xs.length ≤ i⟩
def iEnL (K : PySem.W.Frag) (ta : TA) : TI := fun σ H R => ta σ H fun vs H1 => ∃ a, vs = [.ref a] ∧ (∃ xs, SqL K H1 a xs) ∧ R (IteL K a) H1

end B

namespace B
open PySem PySem.Spec L2 PyProof.Rows
/-! ### (a, b, ..) = a list of that length -/
section
variable {prog : Program} {w : World} {A : Around} {E : Value → Shared → Prop}
end
def gLst (K : PySem.W.Frag) (n : Nat) (t : TGs) : TG := fun v σ H Q => ∃ a xs, v = .ref a ∧ SqL K H a xs ∧ xs.length = n ∧ t xs σ H Q
end B

namespace B
open PySem PySem.Spec L2 PyProof.Rows
/-! ### t[lo:hi], the whole of t: t itself -/
section
variable {prog : Program} {w : World} {A : Around} {E : Value → Shared → Prop} {s : Shared}
open HT in
theorem tuple_whole {t sl : Addr} {items : Array Value} {vl vu : Value} {lo hi : Option Int} {Q : Value → Shared → Prop} (ht : IsTup s.heap t items) (hs : s.heap.IsSliceOf sl vl vu .none) (pl : IsPart vl lo) (pu : IsPart vu hi)
    (h1 : sIx items.size 0 lo = 0) (h2 : sIx items.size items.size hi = items.size) (h : Q (.ref t) s) : wpAny (model prog w) A (getItem (.ref t) (.ref sl)) Q E s := by
  obtain ⟨os, hos, hcs, hds⟩ := id hs
  have hTs : s.TypeIs (.ref sl) "slice" := ⟨os, hos, hcs⟩
  unfold getItem
  try with_reducible refine wpAny_holding ?_
  first | refine wpAny_bind (wpAny_pure ?_) | skip
  refine wpAny_bind (wpAny_sequenceKey ht.typeIs (by decide) ?_)
  refine wpAny_bind (wpAny_callSpecial?_slot (name := Str.ofString "__getitem__") ht.typeIs PyProof.Rows.slot_tuple_getitem
    (wpAny_call_entry PyProof.Rows.slot_tuple_getitem ht.typeIs entry_tuple_getitem ?_ (args_tuple_getitem _ _)))
  show wpAny _ _ (Builtin.Tuple.tupleItemsOf (.ref t) >>= _) _ _ s
  refine wpAny_bind (tupleItemsOf_ ht ?_)
  refine wpAny_bind (wpAny_typeOf hTs ?_)
  rw [if_pos (by decide)]
  refine wpAny_bind (sliceApplied_gen hs pl pu ?_)
  have hyes : ((((sIx items.size 0 lo : Nat) : Int) == 0 && (1 : Int) == 1 && (sIx items.size items.size hi - sIx items.size 0 lo) == items.size) = true) := by
    rw [h1, h2]; simp
  show wpAny _ _ (if (((sIx items.size 0 lo : Nat) : Int) == 0 && (1 : Int) == 1 && (sIx items.size items.size hi - sIx items.size 0 lo) == items.size) = true then _ else _) _ _ s
  rw [if_pos hyes]
  refine wpAny_bind ?_
  unfold Builtin.Tuple.tupleIsExact
  refine wpAny_bind (wpAny_typeOf ht.typeIs ?_)
  refine wpAny_pure ?_
  rw [if_pos (by decide)]
  exact wpAny_bind (wpAny_rule (wpAny_pure ⟨_, rfl, wpAny_pure h⟩))
end
def rSlW (K : PySem.W.Frag) : V → Option Int → Option Int → Hp → VK → Prop := fun x lo hi H Q => ∃ a xs, x = .ref a ∧ SqT K H a xs ∧ HT.sIx xs.length 0 lo = 0 ∧ HT.sIx xs.length xs.length hi = xs.length ∧ Q (.ref a) H
theorem sl_tupW {X : Cx} : SlR X (rSlW X.K) := by
  intro pins s σ H x v vl vu lo hi sl Q I rx hs pl pu h
  obtain ⟨a, xs, rfl, hx, h1, h2, q⟩ := h
  cases rx
  obtain ⟨its, r, ht, hz⟩ := I.tuple hx
  have hlen : its.toArray.size = xs.length := by rw [List.size_toArray]; exact r.length.symm
  refine ⟨"tuple", _, PyProof.Rows.slot_tuple_getitem.lookup, ht.typeIs, ?_⟩
  exact tuple_whole ht hs pl pu (by rw [hlen]; exact h1) (by rw [hlen]; exact h2) ⟨.ref a, H, I, rfl, q⟩
/-- any slice of a tuple -/
theorem sl_tupA {X : Cx} : SlR X (fun x lo hi H Q => rSlW X.K x lo hi H Q ∨ rSlT X.K x lo hi H Q) := SlR.or sl_tupW sl_tup
end B

namespace B
/-! ### ratios whose bottoms divide a number and whose values are bounded -/
structure Bq (D N : Nat) (r : R) : Prop where
  pos : 0 < r.2
  cop : Int.gcd r.1 r.2 = 1
  dvd : r.2 ∣ (D : Int)
  le : r.1.natAbs ≤ N * r.2.natAbs
theorem bq_mk {D N : Nat} {a b : Int} (hb : 0 < b) (hd : b ∣ (D : Int)) (hl : a.natAbs ≤ N * b.natAbs) : Bq D N (mkR a b) := by
  obtain ⟨g, x, y, e0, gp, e1, e2, c⟩ := gcd_parts (a := a) hb
  have yp := pos_of hb gp e2
  have e : mkR a b = (x, y) := by
    unfold mkR
    rw [e0, show a / g = x by rw [e1]; exact Int.mul_ediv_cancel_left _ (by omega), show b / g = y by rw [e2]; exact Int.mul_ediv_cancel_left _ (by omega)]
  rw [e]
  refine ⟨yp, c, Int.dvd_trans ⟨g, by rw [e2, Int.mul_comm]⟩ hd, ?_⟩
  rw [e1, e2, Int.natAbs_mul, Int.natAbs_mul] at hl
  have gn : 0 < g.natAbs := by omega
  refine Nat.le_of_mul_le_mul_left (c := g.natAbs) ?_ gn
  show g.natAbs * x.natAbs ≤ g.natAbs * (N * y.natAbs)
  rw [Nat.mul_left_comm]
  exact hl
theorem mkR_pos {a b : Int} (ha : 0 < a) (hb : 0 < b) : 0 < (mkR a b).1 := Int.ediv_pos_of_pos_of_dvd ha (Int.le_of_lt (gcd_posR hb)) (Int.gcd_dvd_left a b)
theorem Bq.bot {D N : Nat} {r : R} (hD : 0 < D) (h : Bq D N r) : r.2.natAbs ≤ D := by
  have := Int.natAbs_dvd_natAbs.mpr h.dvd
  rw [Int.natAbs_natCast] at this
  exact Nat.le_of_dvd hD this
theorem Bq.wf {D N n : Nat} {r : R} (h : Bq D N r) (hD : 0 < D) (h1 : D < 2 ^ n) (h2 : N * D < 2 ^ n) : Wf n r :=
  ⟨h.pos, Nat.lt_of_le_of_lt (Nat.le_trans h.le (Nat.mul_le_mul_left _ (h.bot hD))) h2, Nat.lt_of_le_of_lt (h.bot hD) h1, h.cop⟩
/-! ### the order -/
/-! ### products one behind the other -/
end B

namespace B
open PySem PySem.Spec L2 PyProof.Rows
/-! ### rules of power -/
inductive Rl where
  | pow (k : Int)
  | tab (rows : List (R × R))
def rowD : R × R := ((0, 1), (0, 1))
def slopeR (lo hi : R × R) : R := overR (minusR hi.2 lo.2) (minusR hi.1 lo.1)
def slp (rows : List (R × R)) (k : Nat) : R := slopeR (rows.getD k rowD) (rows.getD (k + 1) rowD)
def pOf (rows : List (R × R)) (s : R) : Nat := rows.countP fun r => lessR r.1 s
def qOf (rows : List (R × R)) (s : R) : Nat := rows.countP fun r => !lessR s r.1
def leftT (rows : List (R × R)) (s : R) : R := if pOf rows s = 0 then (0, 1) else slp rows (pOf rows s - 1)
def rightT (rows : List (R × R)) (s : R) : Option R := if qOf rows s < rows.length then some (slp rows (qOf rows s - 1)) else none
def powS (k : Int) (s : R) : R := timesR (k, 1) (powR s (k - 1).toNat)
def sidesOf : Rl → R → R × Option R
  | .pow k, s => (powS k s, some (powS k s))
  | .tab rows, s => (leftT rows s, rightT rows s)
def Inc (rows : List (R × R)) : Prop := rows.Pairwise fun a b => lessR a.1 b.1 = true
def AllP (rows : List (R × R)) : Prop := ∀ r ∈ rows, 0 < r.1.2
abbrev D0 : Nat := 5822723907000000000
abbrev N0 : Nat := 1000000007
abbrev N1 : Nat := 17179869184
abbrev NR : Nat := 11000000077
abbrev N2 : Nat := 1180591620717411303424
structure RowsOk (rows : List (R × R)) : Prop where
  n2 : 2 ≤ rows.length
  n12 : rows.length ≤ 12
  inc : Inc rows
  zero : ∃ y, rows[0]? = some ((0, 1), y)
  sp : ∀ r ∈ rows, Bq D0 NR r.1
  pw : ∀ r ∈ rows, Bq (D0 * D0) N2 r.2
def RlOk : Rl → Prop
  | .pow k => 2 ≤ k ∧ k ≤ 4
  | .tab rows => RowsOk rows
/-- a speed that may be asked -/
structure SpOk (s : R) : Prop where
  bq : Bq (D0 * 2) N1 s
  nn : 0 ≤ s.1
def Below : Rl → R → Prop
  | .pow _, _ => True
  | .tab rows, s => ∃ r, rows[rows.length - 1]? = some r ∧ lessR r.1 s = false
/-! ### the same by going through the pairs -/
def lAt (rows : List (R × R)) (s : R) (i : Nat) : R := if 0 < pOf rows s ∧ pOf rows s - 1 < i then slp rows (pOf rows s - 1) else (0, 1)
def rAt (rows : List (R × R)) (s : R) (i : Nat) : Option R := if 0 < qOf rows s ∧ qOf rows s - 1 < i then some (slp rows (qOf rows s - 1)) else none
/-- the slope of a power, product by product -/
def powAt (k : Int) (s : R) (j : Nat) : R := mkR (k * s.1 ^ j) (s.2 ^ j)
/-! ### who bears -/
def bearM (l : R) (r : Option R) (g : R) : Bool := !lessR g l && (match r with | none => true | some x => !lessR x g)
end B

namespace B
/-! ### ratios as numbers -/
def val (r : R) : Rat := (r.1 : Rat) / (r.2 : Rat)
end B

namespace B
open PySem PySem.Spec L2 PyProof.Rows
/-! ### the same rules, each promise kept in a box, so that nothing is unfolded while terms are read -/
structure QE (X : Cx) (e : Expr) (t : TE) : Prop where
  p : PE X e t
structure QT (X : Cx) (e : Expr) (t : TT) : Prop where
  p : PT X e t
structure QW (X : Cx) (e : Expr) (t : TT) : Prop where
  p : PW X e t
structure QA (X : Cx) (es : List Expr) (t : TA) : Prop where
  p : PA X es t
structure QS (X : Cx) (st : Stmt) (t : TS) : Prop where
  p : PS X st t
structure QSs (X : Cx) (st : List Stmt) (t : TS) : Prop where
  p : PSs X st t
structure QI (X : Cx) (tg iter : Expr) (wi : TI) : Prop where
  p : PI X tg iter wi
structure QG (X : Cx) (target : Expr) (t : TG) : Prop where
  p : PG X target t
structure QGs (X : Cx) (ts : List Expr) (t : TGs) : Prop where
  p : PGs X ts t
theorem QSs.ok {X : Cx} {b : List Stmt} {t : TS} {D : Ends} {σ : L2.St} {H : Hp} (h : QSs X b t) (r : t D σ H) : ∃ t : TS, PSs X b t ∧ t D σ H := ⟨t, h.p, r⟩
structure QO (X : Cx) (o : Option Expr) (t : L2.TO) : Prop where
  p : PO X o t
section
set_option autoImplicit true
set_option relaxedAutoImplicit true
theorem qv  (i : Nat) {x : Str} {pos : Pos} (hN : X.N[i]? = some x := by rfl) (hv : Vis X.env.scope x := by first | exact Or.inl rfl | exact Or.inr (Or.inl rfl) | exact Or.inr (Or.inr rfl)) (hd : (x == ("__debug__" : Str)) = false := by decide) (hcd : (x == ("__classdict__" : Str)) = false := by decide) : QE X (.Name x pos) (tVar i) := ⟨pv i hN hv hd hcd⟩
theorem qe_int  {i j pos} : QE X (.Constant (.int i) j pos) (tC (.int i)) := ⟨pe_int ⟩
theorem qe_bl  {b j pos} : QE X (.Constant (.bool b) j pos) (tC (.bl b)) := ⟨pe_bl ⟩
theorem qe_non  {j pos} : QE X (.Constant .none j pos) (tC .non) := ⟨pe_non ⟩
theorem qe_str  {x j pos} : QE X (.Constant (.str x) j pos) (tC (.str x)) := ⟨pe_str ⟩
theorem qe_glob  {x : Str} {v : V} {u : Value} {pos : Pos} (hg : Gl X x) (hm : X.mg x = some u) (r : RelV v u) (hd : (x == ("__debug__" : Str)) = false := by decide) : QE X (.Name x pos) (tC v) := ⟨pe_glob hg hm r hd⟩
theorem qe_bltn  {x : Str} {v : V} {u : Value} {pos : Pos} (hg : Gl X x) (hm : X.mg x = none) (hv : bootBuiltins x = some u) (r : RelV v u) (hn : x ≠ "__name__" := by decide) (hd : (x == ("__debug__" : Str)) = false := by decide) : QE X (.Name x pos) (tC v) := ⟨pe_bltn hg hm hv r hn hd⟩
theorem qe_un  {op : UnaryOp} {r : V → Hp → VK → Prop} (ho : UnR X (unaryOp op) r) (ha : QE X a ta) : QE X (.UnaryOp op a pos) (tUn r ta) := ⟨pe_un ho ha.p⟩
theorem qe_not  (ha : QE X a ta) : QE X (.UnaryOp .Not a pos) (tNotV ta) := ⟨pe_not ha.p⟩
theorem qe_op  {op : Operator} {r : R2} (ho : OpR X (binaryOp op) r) (ha : QE X a ta) (hb : QE X b tb) : QE X (.BinOp a op b pos) (tOp r ta tb) := ⟨pe_op ho ha.p hb.p⟩
theorem qe_one  {op} {t : TE} (h : QE X a t) : QE X (.BoolOp op [a] pos) t := ⟨pe_one h.p⟩
theorem qe_and {rest : List Expr} (ha : QE X a ta) (hb : QE X (.BoolOp .And (b :: rest) pos) tb) : QE X (.BoolOp .And (a :: b :: rest) pos) (tAndV ta tb) := ⟨pe_and ha.p hb.p⟩
theorem qe_cmpR  {op : CmpOp} {r : R2} (ho : OpR X (compareOp op) r) (ha : QE X a ta) (hb : QE X b tb) (hm : behindInMarks op b = false) : QE X (.Compare a [op] [b] pos) (tOp r ta tb) := ⟨pe_cmpR ho ha.p hb.p hm⟩
theorem qe_chain  {op op' : CmpOp} {r r' : R2} (ho : OpR X (compareOp op) r) (ho' : OpR X (compareOp op') r') (ha : QE X a ta) (hb : QE X b tb) (hc : QE X c tc) (hm : lastMarks [op, op'] [b, c] = false := by with_unfolding_all rfl) : QE X (.Compare a [op, op'] [b, c] pos) (tChain r r' ta tb tc) := ⟨pe_chain ho ho' ha.p hb.p hc.p hm⟩
theorem qe_lst  (h : QA X es t) : QE X (.List es pos) (tLst t) := ⟨pe_lst h.p⟩
theorem qe_tup  {x1} (h : QA X es t) : QE X (.Tuple es x1 pos) (tTup t) := ⟨pe_tup h.p⟩
theorem qe_slice {lo hi : Option Expr} {r : V → Option Int → Option Int → Hp → VK → Prop} (hr : SlR X r) (he : QE X e te) (hl : QO X lo tl) (hu : QO X hi th) : QE X (.Subscript e (.Slice lo hi none p2) pos) (tSl r te tl th) := ⟨pe_slice hr he.p hl.p hu.p⟩
theorem qo_none   : QO X none tNoPart := ⟨po_none ⟩
theorem qo_some  (h : QE X e te) : QO X (some e) (tPart te) := ⟨po_some h.p⟩
theorem qe_ix  {r : R2} (hr : IxR X r) (ha : QE X a ta) (hb : QE X b tb) (hs : PlainIx b) : QE X (.Subscript a b pos) (tOp r ta tb) := ⟨pe_ix hr ha.p hb.p hs⟩
theorem qe_call  (F : FnOk X.prog X.w X.K X.mg X.base CX k f fd ps sp) (hr : Room k X.A) (hg : Gl X x) (hm : X.mg x = some (.ref f)) (hk : PySem.W.keepIn X.K (.ref f) = true) (hb : Binds X.K fd ps ds) (hd : Vals dvs ds) (hx : Passes CX X E) (ha : QA X (e :: es) t) (hdb : (x == ("__debug__" : Str)) = false := by decide) (he : starEach (e :: es) X.env = (false, eval e X.env) :: starEach es X.env := by rfl) (hpl : (backTo pos (starEach es X.env)).any (·.1) = false := by rfl) : QE X (.Call (.Name x p) (e :: es) [] pos) (tCall sp dvs E t) := ⟨pe_call F hr hg hm hk hb hd hx ha.p hdb he hpl⟩
theorem qe_callB {id : String} (hc : CallR X (.builtin id) r) (hg : Gl X x) (hm : X.mg x = none) (hv : bootBuiltins x = some (.builtin id)) (ha : QA X (e :: es) t) (hn : x ≠ "__name__" := by decide) (hdb : (x == ("__debug__" : Str)) = false := by decide) (he : starEach (e :: es) X.env = (false, eval e X.env) :: starEach es X.env := by rfl) (hpl : (backTo pos (starEach es X.env)).any (·.1) = false := by rfl) : QE X (.Call (.Name x p) (e :: es) [] pos) (tCB r t) := ⟨pe_callB hc hg hm hv ha.p hn hdb he hpl⟩
theorem qe_callTy  (hc : CallR X (.type T) r) (hg : Gl X x) (hm : X.mg x = none) (hv : bootBuiltins x = some (.type T)) (ha : QA X (e :: es) t) (hn : x ≠ "__name__" := by decide) (hdb : (x == ("__debug__" : Str)) = false := by decide) (he : starEach (e :: es) X.env = (false, eval e X.env) :: starEach es X.env := by rfl) (hpl : (backTo pos (starEach es X.env)).any (·.1) = false := by rfl) : QE X (.Call (.Name x p) (e :: es) [] pos) (tCB r t) := ⟨pe_callTy hc hg hm hv ha.p hn hdb he hpl⟩
theorem qe_bm {id : String} (pa : PlainAttrs T) (slot : Slot T name id) (hty : typeOf (.builtin id) = pure (.type "method_descriptor")) (hm : MtR X id r) (ho : QE X o to) (ha : QA X (e :: es) t) (hbase : attributeBase o name X.env (eval o X.env) = eval o X.env := by rfl) (hfew : ((backTo cpos (starEach (e :: es) X.env)).all (fun x => !x.1) && (backToKw cpos (keywordEach [] X.env)).all (fun x => x.1.isSome)
      && decide ((e :: es).length + ([] : List Keyword).length + (if ([] : List Keyword).isEmpty then 0 else 1) < 30)) = true := by rfl) (hline : (apos.endLine == cpos.line) = true := by rfl) (hs : starEach (e :: es) X.env = (false, eval e X.env) :: starEach es X.env := by rfl) (hplain : (backTo cpos (starEach es X.env)).any (·.1) = false := by rfl) : QE X (.Call (.Attribute o name apos) (e :: es) [] cpos) (tBM X.K T r to t) := ⟨pe_bm pa slot hty hm ho.p ha.p hbase hfew hline hs hplain⟩
theorem qa_nil   : QA X [] tNil := ⟨pa_nil ⟩
theorem qa_cons  (ha : QE X e te) (hr : QA X es t) (hs : starEach (e :: es) X.env = (false, eval e X.env) :: starEach es X.env := by rfl) : QA X (e :: es) (tCons te t) := ⟨pa_cons ha.p hr.p hs⟩
theorem qt_cmpR  {op : CmpOp} {r : R2} (ho : OpR X (compareOp op) r) (ha : QE X a ta) (hb : QE X b tb) (hm : behindInMarks op b = false) : QT X (.Compare a [op] [b] pos) (tTest (tOp r ta tb)) := ⟨pt_cmpR ho ha.p hb.p hm⟩
theorem qt_val  {e : Expr} {t : TE} (h : QE X e t) (he : ∀ whole, isTrue e X.env whole = (do let v ← whole; standAt e.pos; holding [v] (truthy v)) := by intro _; rfl) : QT X e (tB t) := ⟨pt_val h.p he⟩
theorem qt_not  (ha : QT X a tA) : QT X (.UnaryOp .Not a pos) (tNot tA) := ⟨pt_not ha.p⟩
theorem qw_and {rest : List Expr} (ha : QT X a tA) (hb : QW X (.BoolOp .And (b :: rest) pos) tB') : QW X (.BoolOp .And (a :: b :: rest) pos) (tAnd tA tB') := ⟨pw_and ha.p hb.p⟩
theorem qw_and1  (ha : QT X a tA) : QW X (.BoolOp .And [a] pos) tA := ⟨pw_and1 ha.p⟩
theorem qw_or {rest : List Expr} (ha : QT X a tA) (hb : QW X (.BoolOp .Or (b :: rest) pos) tB') : QW X (.BoolOp .Or (a :: b :: rest) pos) (tOr tA tB') := ⟨pw_or ha.p hb.p⟩
theorem qw_or1  (ha : QT X a tA) : QW X (.BoolOp .Or [a] pos) tA := ⟨pw_or1 ha.p⟩
theorem qw_pt  {X : Cx} {e : Expr} {t : TT} (h : QW X e t) : QT X e t := ⟨PW.pt h.p⟩
theorem qs_set  {i : Nat} {x : Str} {e : Expr} {te : TE} {pos' : Pos} (hN : X.N.Nodup) (hi : X.N[i]? = some x) (hx : Loc X.env.scope x) (he : QE X e te) (hs : swapsWith e (some (.Name x pos')) pos.line X.env = pure false := by rfl) (hf : X.fn x = true ∨ X.env.scope.names.lookup x = some .local := by first | exact .inl rfl | exact .inr rfl | assumption) : QS X (.Assign [.Name x pos'] e pos) (tAsg te (gName i)) := ⟨ps_set hN hi hx he.p hs hf⟩
theorem qs_par  {i j : Nat} {x y : Str} {a b : Expr} {ta : TA} {px py pt : Pos} {kt k2 pt2} (hc : X.calm = true) (hN : X.N.Nodup) (hi : X.N[i]? = some x) (hj : X.N[j]? = some y) (hij : i ≠ j) (hx : X.env.scope.names.lookup x = some .local) (hy : X.env.scope.names.lookup y = some .local) (ha : QA X [a, b] ta) (hw : swappedStores [.Tuple [.Name x px, .Name y py] kt pt] (.Tuple [a, b] k2 pt2) X.env = pure (some [x, y])) (hs : swapsWithSole [.Tuple [.Name x px, .Name y py] kt pt] (.Tuple [a, b] k2 pt2) pos.line X.env = pure false := by rfl) : QS X (.Assign [.Tuple [.Name x px, .Name y py] kt pt] (.Tuple [a, b] k2 pt2) pos) (tPar i j ta) := ⟨ps_par hc hN hi hj hij hx hy ha.p hw hs⟩
theorem qs_asg  {tg e : Expr} {te : TE} {g : TG} (he : QE X e te) (hg : QG X tg g) (hs : swapsWithSole [tg] e pos.line X.env = pure false := by rfl) (hw : swappedStores [tg] e X.env = pure none := by rfl) (h1 : (assignEach [tg] X.env).map (·.2) = [assign tg X.env] := by rfl) : QS X (.Assign [tg] e pos) (tAsg te g) := ⟨ps_asg he.p hg.p hs hw h1⟩
theorem qs_if  {c : Expr} {a b : List Stmt} {tc : TT} (hc : QT X c tc) (ha : QSs X a t) (hb : QSs X b u) : QS X (.If c a b pos) (tIfS tc t u) := ⟨ps_if hc.p ha.p hb.p⟩
theorem qs_while  {c : Expr} {body : List Stmt} {tc : TT} {tb : TS} (hp : PassesOwn (model X.prog X.w) X.A X.env X.xe) (hc : QT X c tc) (hb : QSs X body tb) : QS X (.While c body [] pos) (tWhile tc tb) := ⟨ps_while hp hc.p hb.p⟩
theorem qs_for  {iter : Expr} {body : List Stmt} {wi : TI} {g : TG} {tb : TS} {pos : Pos} (hp : PassesOwn (model X.prog X.w) X.A X.env X.xe) (hc : X.calm = true) (hi : QI X tg iter wi) (hg : QG X tg g) (hb : QSs X body tb) (hs : ∀ x, foldedSetIterable iter X.env x = pure x := by intro _; rfl) : QS X (.For tg iter body [] pos) (tFor wi g tb) := ⟨ps_for hp hc hi.p hg.p hb.p hs⟩
theorem qs_ret  (he : QE X e te) : QS X (.Return (some e) pos) (tRet te) := ⟨ps_ret he.p⟩
theorem qs_expr  (he : QE X e te) (hs : swapsWith e none pos.line X.env = pure false := by rfl) : QS X (.Expr e pos) (tDrop te) := ⟨ps_expr he.p hs⟩
theorem qs_never {st : Stmt}  : QS X st tNever := ⟨ps_never ⟩
theorem qss_nil   : QSs X [] tNext := ⟨pss_nil ⟩
theorem qss_one {st : Stmt} (h1 : QS X st t) : QSs X [st] t := ⟨pss_one h1.p⟩
theorem qss_cons {st : Stmt} {rest : List Stmt} (h1 : QS X st t) (h2 : QSs X rest u) : QSs X (st :: rest) (tSeq t u) := ⟨pss_cons h1.p h2.p⟩
theorem qi_range1  {a : Expr} {ta : TA} {p pos : Pos} (hg : Gl X "range") (hm : X.mg "range" = none) (ha : QA X [a] ta) (hs : starEach [a] X.env = [(false, eval a X.env)] := by rfl) : QI X tg (.Call (.Name "range" p) [a] [] pos) (iRng1 ta) := ⟨pi_range1 hg hm ha.p hs⟩
theorem qi_list {tg : Expr} {l : Expr} {tl : TE} (hl : QE X l tl) : QI X tg l (iList X.K tl) := ⟨pi_list hl.p⟩
theorem qi_tup  {l : Expr} {tl : TE} (hl : QE X l tl) : QI X tg l (iTup X.K tl) := ⟨pi_tup hl.p⟩
theorem qg_name  {i : Nat} {x : Str} (hN : X.N.Nodup) (hi : X.N[i]? = some x) (hx : Loc X.env.scope x) (hf : X.fn x = true ∨ X.env.scope.names.lookup x = some .local := by first | exact .inl rfl | exact .inr rfl | assumption) : QG X (.Name x pos) (gName i) := ⟨pg_name hN hi hx hf⟩
theorem qg_tup  {es : List Expr} {k : Nat} {t : TGs} {n : Nat} (hc : X.calm = true) (h : QGs X es t) (hn : (assignEach es X.env).length = n := by rfl) (hst : (assignEach es X.env).findIdx? (·.1) = none := by rfl) : QG X (.Tuple es k pos) (gTup X.K n t) := ⟨pg_tup hc h.p hn hst⟩
theorem qg_sub  {o i : Expr} {to ti : TE} {t : TSet} (ho : QE X o to) (hi : QE X i ti) (hs : PSet X t) (ha : ∀ v, assign (.Subscript o i pos) X.env v = (do
      let ov ← holding [v] (eval o X.env)
      let iv ← holding [v, ov] (eval i X.env)
      standAt pos
      holding [v, ov, iv] (setItem ov iv v)
      release [v, ov, iv] []) := by intro _; rfl) : QG X (.Subscript o i pos) (gSub to ti t) := ⟨pg_sub ho.p hi.p hs ha⟩
theorem qgs_nil   : QGs X [] gNil := ⟨pgs_nil ⟩
theorem qgs_cons  {e : Expr} {es : List Expr} {t : TG} {u : TGs} (h1 : QG X e t) (h2 : QGs X es u) (hs : (assignEach (e :: es) X.env).map (·.2) = assign e X.env :: (assignEach es X.env).map (·.2) := by rfl) : QGs X (e :: es) (gCons t u) := ⟨pgs_cons h1.p h2.p hs⟩
end
end B

namespace B
open PySem PySem.Spec L2 PyProof.Rows
structure QTs (X : Cx) (ifs : List Expr) (t : TT) : Prop where
  p : PTs X ifs t
section
set_option autoImplicit true
set_option relaxedAutoImplicit true
theorem qts_nil  {X : Cx} : QTs X [] tYes := ⟨pts_nil ⟩
theorem qts_one  {X : Cx} {c : Expr} {t : TT} (h : QT X c t) : QTs X [c] t := ⟨pts_one h.p⟩
theorem qe_lcomp  (hc : X.calm = true) (hi : QI X tg iter wi) (hg : ∀ C fp pins s H, QG (cxC X N' scope cl C fp pins s H) tg g) (ht : ∀ C fp pins s H, QTs (cxC X N' scope cl C fp pins s H) ifs tt) (he : ∀ C fp pins s H, QE (cxC X N' scope cl C fp pins s H) elt te) (hfree : FreeOk X scope cl N' src) (hclos : closureFor scope X.env = pure cl) (hcell : ∀ x ∈ scope.names, x.2 ≠ .cell) (hkind : scope.kind = .function) (hnames : ∀ x ∈ scope.names, x.2 = .local → scope.names.lookup x.1 = some .local) (hcl : CellsOk X scope cl) (hs : ∀ x, foldedSetIterable iter X.env x = pure x := by intro _; rfl) : QE X (.ListComp elt [⟨tg, iter, ifs, 0⟩] scope pos) (tComp wi src g tt te) := ⟨pe_lcomp hc hi.p (fun z0 z1 z2 z3 z4 => (hg z0 z1 z2 z3 z4).p) (fun z0 z1 z2 z3 z4 => (ht z0 z1 z2 z3 z4).p) (fun z0 z1 z2 z3 z4 => (he z0 z1 z2 z3 z4).p) hfree hclos hcell hkind hnames hcl hs⟩
theorem qs_setC  {i : Nat} {x : Str} {pos' pos2 : Pos} (hN : X.N.Nodup) (hi' : X.N[i]? = some x) (hx : Loc X.env.scope x) (hc : X.calm = true) (hi : QI X tg iter wi) (hg : ∀ C fp pins s H, QG (cxC X N' scope cl C fp pins s H) tg g) (ht : ∀ C fp pins s H, QTs (cxC X N' scope cl C fp pins s H) ifs tt) (he : ∀ C fp pins s H, QE (cxC X N' scope cl C fp pins s H) elt te) (hfree : FreeOk X scope cl N' src) (hclos : closureFor scope X.env = pure cl) (hcell : ∀ x ∈ scope.names, x.2 ≠ .cell) (hkind : scope.kind = .function) (hnames : ∀ x ∈ scope.names, x.2 = .local → scope.names.lookup x.1 = some .local) (hcl : CellsOk X scope cl) (hs : ∀ x, foldedSetIterable iter X.env x = pure x := by intro _; rfl) (hsw : swapsWith (.ListComp elt [⟨tg, iter, ifs, 0⟩] scope pos) (some (.Name x pos')) pos2.line X.env = pure true := by rfl) (hf : X.fn x = true ∨ X.env.scope.names.lookup x = some .local := by first | exact .inl rfl | exact .inr rfl | assumption) : QS X (.Assign [.Name x pos'] (.ListComp elt [⟨tg, iter, ifs, 0⟩] scope pos) pos2) (tAsg (tComp wi src g tt te) (gName i)) := ⟨ps_setC hN hi' hx hc hi.p (fun z0 z1 z2 z3 z4 => (hg z0 z1 z2 z3 z4).p) (fun z0 z1 z2 z3 z4 => (ht z0 z1 z2 z3 z4).p) (fun z0 z1 z2 z3 z4 => (he z0 z1 z2 z3 z4).p) hfree hclos hcell hkind hnames hcl hs hsw hf⟩
end
end B

namespace B
open PySem PySem.Spec L2 PyProof.Rows
/-! ### rules with K spelt out (within a comprehension) -/
section
variable {X : Cx} {K : PySem.W.Frag}
theorem pg_tupK {es : List Expr} {k : Nat} {t : TGs} {n : Nat} {pos : Pos} (hK : X.K = K) (hc : X.calm = true) (h : PGs X es t)
    (hn : (assignEach es X.env).length = n := by rfl) (hst : (assignEach es X.env).findIdx? (·.1) = none := by rfl) : PG X (.Tuple es k pos) (gTup K n t) := hK ▸ pg_tup hc h hn hst
theorem ix_tupK (hK : X.K = K) : IxR X (rIxT K) := hK ▸ ix_tup
theorem ix_listK (hK : X.K = K) : IxR X (rIxL K) := hK ▸ ix_list
def rLen (K : PySem.W.Frag) : List V → Hp → VK → Prop := fun xs H Q => ∃ p ys, xs = [.ref p] ∧ (SqL K H p ys ∨ SqT K H p ys) ∧ Q (.int ys.length) H
theorem call_lenK (hK : X.K = K) : CallR X (.builtin "len") (rLen K) := hK ▸ call_len_seq
end
theorem star_bin {a b : Expr} {op : Operator} {pos : Pos} {es : List Expr} {env : Env} : starEach (.BinOp a op b pos :: es) env = (false, eval (.BinOp a op b pos) env) :: starEach es env := rfl
/-! ### a loop over zip -/
end B

namespace B
open PySem
/-! ### arguments that are no starred ones, by their kind -/
section
variable {es : List Expr} {env : Env}
theorem star_tup {a b c} : starEach (.Tuple a b c :: es) env = (false, eval (.Tuple a b c) env) :: starEach es env := rfl
theorem star_lst {a b} : starEach (.List a b :: es) env = (false, eval (.List a b) env) :: starEach es env := rfl
theorem star_sub {a b c} : starEach (.Subscript a b c :: es) env = (false, eval (.Subscript a b c) env) :: starEach es env := rfl
theorem star_call {a b c d} : starEach (.Call a b c d :: es) env = (false, eval (.Call a b c d) env) :: starEach es env := rfl
theorem star_name {a b} : starEach (.Name a b :: es) env = (false, eval (.Name a b) env) :: starEach es env := rfl
theorem star_con {a b c} : starEach (.Constant a b c :: es) env = (false, eval (.Constant a b c) env) :: starEach es env := rfl
theorem star_un {a b c} : starEach (.UnaryOp a b c :: es) env = (false, eval (.UnaryOp a b c) env) :: starEach es env := rfl
theorem star_cmp {a b c d} : starEach (.Compare a b c d :: es) env = (false, eval (.Compare a b c d) env) :: starEach es env := rfl
theorem star_att {a b c} : starEach (.Attribute a b c :: es) env = (false, eval (.Attribute a b c) env) :: starEach es env := rfl
end
end B

namespace B
open PySem L2 PyProof.Rows
/-! ### things one by one -/
inductive Als {α : Type} (P : V → α → Prop) : List V → List α → Prop where
  | nil : Als P [] []
  | cons {x : V} {d : α} {xs : List V} {ds : List α} (h : P x d) (t : Als P xs ds) : Als P (x :: xs) (d :: ds)
theorem Als.len {α : Type} {P : V → α → Prop} : ∀ {xs : List V} {ds : List α}, Als P xs ds → xs.length = ds.length
  | _, _, .nil => rfl
  | _, _, .cons _ t => congrArg (· + 1) t.len
theorem Als.mono {α : Type} {P P' : V → α → Prop} (m : ∀ v d, P v d → P' v d) : ∀ {xs : List V} {ds : List α}, Als P xs ds → Als P' xs ds
  | _, _, .nil => .nil
  | _, _, .cons h t => .cons (m _ _ h) (t.mono m)
theorem Als.snoc {α : Type} {P : V → α → Prop} {x : V} {d : α} (k : P x d) : ∀ {xs : List V} {ds : List α}, Als P xs ds → Als P (xs ++ [x]) (ds ++ [d])
  | _, _, .nil => .cons k .nil
  | _, _, .cons h t => .cons h (t.snoc k)
theorem Als.at {α : Type} {P : V → α → Prop} : ∀ {xs : List V} {ds : List α}, Als P xs ds → ∀ {i : Nat} {x : V}, xs[i]? = some x → ∃ d, ds[i]? = some d ∧ P x d
  | _, _, .cons h _, 0, x, e => by
    rw [List.getElem?_cons_zero] at e
    cases e
    exact ⟨_, rfl, h⟩
  | _, _, .cons _ t, i + 1, x, e => t.at (i := i) (by rw [List.getElem?_cons_succ] at e; exact e)
  | _, _, .nil, _, _, e => by cases e
theorem Als.deep {α : Type} {K : PySem.W.Frag} {H : Hp} {P : V → α → Prop} {f : α → PyData} (m : ∀ v d, P v d → Deep K H v (f d)) : ∀ {xs : List V} {ds : List α}, Als P xs ds → DeepAll K H xs (ds.map f)
  | _, _, .nil => .nil
  | _, _, .cons h t => .cons (m _ _ h) (t.deep m)
/-! ### [text of x for x in t], t a tuple -/
/-! ### [thing drawn for k in range(n)] -/
end B

namespace B
open PySem PySem.Spec L2 PyProof.Rows
/-! ### comprehensions, the things around staying -/
end B

namespace B
open PySem PySem.Spec L2 PyProof.Rows
section
set_option autoImplicit true
set_option relaxedAutoImplicit true
theorem qg_tupK {K : PySem.W.Frag} {es : List Expr} {k : Nat} {t : TGs} {n : Nat} {pos : Pos} (hK : X.K = K) (hc : X.calm = true) (h : QGs X es t) (hn : (assignEach es X.env).length = n := by rfl) (hst : (assignEach es X.env).findIdx? (·.1) = none := by rfl) : QG X (.Tuple es k pos) (gTup K n t) := ⟨pg_tupK hK hc h.p hn hst⟩
end
end B

namespace B
open PySem PySem.Spec L2 PyProof.Rows
/-! ### == of things whose inside is known; isinstance of a tuple that is read -/
def rEqD (K : PySem.W.Frag) : R2 := fun x y H Q => ∃ d d', Deep K H x d ∧ Deep K H y d' ∧ d.canLay0 = true ∧ d'.canLay0 = true ∧ d.depth ≤ 32 ∧ Q (.bl (PyData.eqv d d')) H
theorem op_eqD {X : Cx} {k : Nat} (hr : Room k X.A) : OpR X (compareOp .Eq) (rEqD X.K) := by
  intro pins s σ H x y v u Q I rx ry h
  obtain ⟨d, d', hd, hd', c, c', dp, q⟩ := h
  obtain ⟨as, ra⟩ := Deep.reads I hd rx
  obtain ⟨bs, rb⟩ := Deep.reads I hd' ry
  exact SeqAt.compareEq_reads ra rb c c' (by have := hr.units; omega) ⟨.bl _, H, I, rfl, q⟩
def rIsiT (K : PySem.W.Frag) : List V → Hp → VK → Prop := fun xs H Q => ∃ a ys n b, xs = [.ref a, .ty n] ∧ SqT K H a ys ∧ kitTT "tuple" n = some b ∧ Q (.bl b) H
theorem call_isiT {X : Cx} : CallR X (.builtin "isinstance") (rIsiT X.K) := by
  intro pins s σ H xs us Q I r h
  obtain ⟨a, ys, n, b, rfl, hS, e, q⟩ := h
  obtain ⟨u, u2, rfl, rx, ry⟩ := vals2 r
  obtain rfl : u2 = Value.type n := ry
  cases (show u = Value.ref a from rx)
  obtain ⟨its, _, ⟨o, h1, h2, _⟩, _⟩ := I.tuple hS
  exact PySem.W.kia_one PySem.W.kitx_tuple I.kIn ⟨o, h1, h2⟩ (kit_of e) (fun z => nomatch z) fun tk => ⟨.bl b, H, I.tok tk, rfl, q⟩
end B

namespace B
open PySem PySem.Spec L2 PyProof.Rows
section
set_option autoImplicit true
set_option relaxedAutoImplicit true
theorem qe_fldE  {X : Cx} {e : Expr} {f : Str} {pos : Pos} {ta : TE} {K : PySem.W.Frag} (hK : X.K = K) (he : QE X e ta) (hb : attributeBase e f X.env (eval e X.env) = eval e X.env) : QE X (.Attribute e f pos) (tFldE K ta f) := ⟨pe_fldE hK he.p hb⟩
theorem qs_fldE  (hex : X.ex = []) (ha : QE X o ta) (hv : QE X value tv) (hs : swapsWith value (some (.Attribute o f pos')) pos.line X.env = pure false) : QS X (.Assign [.Attribute o f pos'] value pos) (sFldE X.K ta tv f) := ⟨ps_fldE hex ha.p hv.p hs⟩
theorem qs_raiseD  {x : Str} {p cpos pos : Pos} {e : Expr} {es : List Expr} {t : TA} {E : XK} (M : XC X.K C f bm) (hbase : bm.contains (.type "BaseException") = true) (hex : X.ex = []) (tk : TakesD X E) (F : FnOk X.prog X.w X.K X.mg X.base CX0 k f fd ps sp) (hr : Room (k + 1) X.A) (hb : Binds X.K fd ps []) (hg : Gl X x) (hm : X.mg x = some (.ref C)) (ha : QA X (e :: es) t) (hdb : (x == ("__debug__" : Str)) = false := by decide) (he : starEach (e :: es) X.env = (false, eval e X.env) :: starEach es X.env := by rfl) (hpl : (backTo cpos (starEach es X.env)).any (·.1) = false := by rfl) : QS X (.Raise (some (.Call (.Name x p) (e :: es) [] cpos)) none pos) (tRaiseD C sp E t) := ⟨ps_raiseD M hbase hex tk F hr hb hg hm ha.p hdb he hpl⟩
theorem qs_tryAs {R : RX} {suite : List Stmt} {i : Nat} {n : Str} (hex : X.ex = []) (hst : X.stack = X.env :: X.outer) (hfr : X.env.frame = some X.env.locals) (hg : Gl X x) (hm : X.mg x = some u) (hN : X.N.Nodup) (hi : X.N[i]? = some n) (hn : X.env.scope.names.lookup n = some .local) (hb : ∀ pins, QSs (inTryD X pins R) body tb) (hs : ∀ e, QSs (inExc X e) (b₀ :: suite) th) (hd : (x == ("__debug__" : Str)) = false := by decide) : QS X (.Try body [.ExceptHandler (some (.Name x p)) (some n) (b₀ :: suite) hpos] [] [] pos) (tTryAs X.N i R (fun C => PySem.W.exmOne X.K (.ref C) u = some true) tb th) := ⟨ps_tryAs hex hst hfr hg hm hN hi hn (fun z0 => (hb z0).p) (fun z0 => (hs z0).p) hd⟩
end
end B

namespace B
open PySem PySem.Spec L2 PyProof.Rows
end B

namespace B
open PySem PySem.Spec L2 PyProof.Rows
/-! ### isinstance of a thing whose inside is known; what the defs of shape tell of it -/
def tyD : PyData → String
  | .none => "NoneType"
  | .bool _ => "bool"
  | .int _ => "int"
  | .str _ => "str"
  | .list _ => "list"
  | .tuple _ => "tuple"
  | .dict _ => "dict"
def rIsiD (K : PySem.W.Frag) : List V → Hp → VK → Prop := fun xs H Q => ∃ v d n b, xs = [v, .ty n] ∧ Deep K H v d ∧ kitTT (tyD d) n = some b ∧ Q (.bl b) H
theorem call_isiD {X : Cx} : CallR X (.builtin "isinstance") (rIsiD X.K) := by
  intro pins s σ H xs us Q I r h
  obtain ⟨v, d, n, b, rfl, hD, e, q⟩ := h
  cases hD with
  | non => exact call_isi pins s σ H _ us Q I r ⟨_, n, _, b, rfl, .non, e, q⟩
  | bl c => exact call_isi pins s σ H _ us Q I r ⟨_, n, _, b, rfl, .bl c, e, q⟩
  | int i => exact call_isi pins s σ H _ us Q I r ⟨_, n, _, b, rfl, .int i, e, q⟩
  | str x => exact call_isi pins s σ H _ us Q I r ⟨_, n, _, b, rfl, .str x, e, q⟩
  | @tup a ys ds hS hA => exact call_isiT pins s σ H _ us Q I r ⟨a, ys, n, b, rfl, hS, e, q⟩
  | @lst a ys ds hS hA =>
    obtain ⟨u, u2, rfl, rx, ry⟩ := vals2 r
    obtain rfl : u2 = Value.type n := ry
    cases (show u = Value.ref a from rx)
    obtain ⟨its, _, ⟨o, k, h1, h2, _⟩, _⟩ := I.list hS
    exact PySem.W.kia_one PySem.W.kitx_list I.kIn ⟨o, h1, h2⟩ (kit_of e) (fun z => nomatch z) fun tk => ⟨.bl b, H, I.tok tk, rfl, q⟩
def wholeD : PyData → Bool
  | .int _ => true
  | _ => false
def tupD (n : Nat) : PyData → Bool
  | .tuple xs => decide (xs.length = n)
  | _ => false
/-- a ratio in lowest terms -/
def ratD : PyData → Bool
  | .tuple [.int a, .int b] => decide (1 ≤ b) && decide (Int.gcd a b = 1)
  | _ => false
def pairD : PyData → Bool
  | .tuple [x, y] => ratD x && ratD y
  | _ => false
theorem isi_int {K : PySem.W.Frag} {H : Hp} {v : V} {d : PyData} (h : Deep K H v d) : ∃ b c, kitTT (tyD d) "int" = some b ∧ kitTT (tyD d) "bool" = some c ∧ wholeD d = (b && !c) := by
  cases h with
  | non => exact ⟨false, false, by simp only [tyD]; decide +kernel, by simp only [tyD]; decide +kernel, rfl⟩
  | bl b => exact ⟨true, true, by simp only [tyD]; decide +kernel, by simp only [tyD]; decide +kernel, rfl⟩
  | int i => exact ⟨true, false, by simp only [tyD]; decide +kernel, by simp only [tyD]; decide +kernel, rfl⟩
  | str x => exact ⟨false, false, by simp only [tyD]; decide +kernel, by simp only [tyD]; decide +kernel, rfl⟩
  | lst e t => exact ⟨false, false, by simp only [tyD]; decide +kernel, by simp only [tyD]; decide +kernel, rfl⟩
  | tup e t => exact ⟨false, false, by simp only [tyD]; decide +kernel, by simp only [tyD]; decide +kernel, rfl⟩
theorem isi_tup {K : PySem.W.Frag} {H : Hp} {v : V} {d : PyData} (h : Deep K H v d) : (kitTT (tyD d) "tuple" = some true ∧ ∃ a xs ds, v = .ref a ∧ d = .tuple ds ∧ SqT K H a xs ∧ DeepAll K H xs ds) ∨ (kitTT (tyD d) "tuple" = some false ∧ ∀ ds, d ≠ .tuple ds) := by
  cases h with
  | non => exact .inr ⟨by simp only [tyD]; decide +kernel, fun _ z => nomatch z⟩
  | bl b => exact .inr ⟨by simp only [tyD]; decide +kernel, fun _ z => nomatch z⟩
  | int i => exact .inr ⟨by simp only [tyD]; decide +kernel, fun _ z => nomatch z⟩
  | str x => exact .inr ⟨by simp only [tyD]; decide +kernel, fun _ z => nomatch z⟩
  | lst e t => exact .inr ⟨by simp only [tyD]; decide +kernel, fun _ z => nomatch z⟩
  | tup e t => exact .inl ⟨by simp only [tyD]; decide +kernel, _, _, _, rfl, rfl, e, t⟩
theorem tupD_no {d : PyData} {n : Nat} (h : ∀ ds, d ≠ .tuple ds) : tupD n d = false := by
  cases d <;> first | rfl | exact absurd rfl (h _)
theorem DeepAll.len {K : PySem.W.Frag} {H : Hp} : ∀ {xs : List V} {ds : List PyData}, DeepAll K H xs ds → xs.length = ds.length
  | _, _, .nil => rfl
  | _, _, .cons _ t => congrArg Nat.succ t.len
/-- a pair, whose parts are known -/
theorem Deep.two {K : PySem.W.Frag} {H : Hp} {v : V} {d : PyData} (h : Deep K H v d) (c : tupD 2 d = true) : ∃ a x y dx dy, v = .ref a ∧ d = .tuple [dx, dy] ∧ SqT K H a [x, y] ∧ Deep K H x dx ∧ Deep K H y dy := by
  cases h with
  | @tup a xs ds e t =>
    have l : ds.length = 2 := of_decide_eq_true c
    cases t with
    | nil => cases l
    | cons hx t => cases t with
      | nil => cases l
      | cons hy t => cases t with
        | nil => exact ⟨a, _, _, _, _, rfl, rfl, e, hx, hy⟩
        | cons hz t => simp at l
  | _ => cases c
theorem ratD_no {d : PyData} (h : tupD 2 d = false) : ratD d = false := by
  cases c : ratD d with
  | false => rfl
  | true =>
    unfold ratD at c
    split at c
    · cases h
    · cases c
end B

namespace B
open PySem PySem.Spec L2 PyProof.Rows
/-! ### things that repr shows: how deep, how long -/
structure Sh (k n : Nat) (d : PyData) : Prop where
  sh : d.showable = true
  nd : d.hasDict = false
  dp : d.depth ≤ k
  sz : d.shown.length ≤ n
theorem Sh.mono {k n k' n' : Nat} {d : PyData} (h : Sh k n d) (hk : k ≤ k') (hn : n ≤ n') : Sh k' n' d := ⟨h.sh, h.nd, Nat.le_trans h.dp hk, Nat.le_trans h.sz hn⟩
theorem Sh.all {k n : Nat} : ∀ {ds : List PyData}, (∀ d ∈ ds, Sh k n d) → PyData.showableAll ds = true ∧ PyData.hasDictAll ds = false ∧ PyData.depthAll ds ≤ k ∧ ((PyData.shownAll ds).map (·.length)).sum ≤ n * ds.length ∧ (PyData.shownAll ds).length = ds.length
  | [], _ => ⟨rfl, rfl, Nat.zero_le _, Nat.zero_le _, rfl⟩
  | d :: ds, h => by
    obtain ⟨a, b, c, e, f⟩ := Sh.all (ds := ds) fun x hx => h x (List.mem_cons_of_mem _ hx)
    have z := h d List.mem_cons_self
    refine ⟨?_, ?_, ?_, ?_, ?_⟩
    · show (d.showable && PyData.showableAll ds) = true
      rw [z.sh, a]; rfl
    · show (d.hasDict || PyData.hasDictAll ds) = false
      rw [z.nd, b]; rfl
    · show max d.depth (PyData.depthAll ds) ≤ k
      exact Nat.max_le.mpr ⟨z.dp, c⟩
    · show d.shown.length + ((PyData.shownAll ds).map (·.length)).sum ≤ n * (ds.length + 1)
      have := z.sz
      rw [Nat.mul_succ]; omega
    · show (PyData.shownAll ds).length + 1 = ds.length + 1
      rw [f]
theorem Sh.tup {k n m N : Nat} {ds : List PyData} (h : ∀ d ∈ ds, Sh k n d) (hm : ds.length ≤ m) (hN : (n + 3) * m + 8 ≤ N) : Sh (k + 1) N (.tuple ds) := by
  obtain ⟨a, b, c, e, f⟩ := Sh.all h
  refine ⟨a, b, Nat.succ_le_succ c, ?_⟩
  show (tupleText (PyData.shownAll ds)).length ≤ N
  have q := tupleText_len_le (PyData.shownAll ds)
  have l : n * ds.length + 3 * ds.length ≤ (n + 3) * m := by
    rw [← Nat.add_mul]
    exact Nat.mul_le_mul_left _ hm
  omega
theorem Sh.shows {k n : Nat} {d : PyData} (h : Sh k n d) (hk : k ≤ 16) (hn : n ≤ 16777216) : Shows d := ⟨h.sh, h.nd, Nat.le_trans h.sz (Nat.le_trans hn (by decide)), Nat.le_trans h.dp hk⟩
theorem sh_dR {r : R} {n : Nat} (h : Wf n r) (hn : n ≤ 1900) : Sh 1 5000 (dR r) := ⟨(small_dR h hn).sh, rfl, (by show max 0 (max 0 0) + 1 ≤ 1; decide), (small_dR h hn).sz⟩
mutual
theorem Deep.same {K : PySem.W.Frag} {H H' : Hp} (s : Same H H') : ∀ {v : V} {d : PyData}, Deep K H v d → Deep K H' v d
  | _, _, .non => .non
  | _, _, .bl b => .bl b
  | _, _, .int i => .int i
  | _, _, .str x => .str x
  | _, _, .lst e t => .lst (s.seq e) (DeepAll.same s t)
  | _, _, .tup e t => .tup (Tst.same s _ _ e) (DeepAll.same s t)
theorem DeepAll.same {K : PySem.W.Frag} {H H' : Hp} (s : Same H H') : ∀ {vs : List V} {ds : List PyData}, DeepAll K H vs ds → DeepAll K H' vs ds
  | _, _, .nil => .nil
  | _, _, .cons h t => .cons (Deep.same s h) (DeepAll.same s t)
end
theorem op_isB {X : Cx} : OpR X (compareOp .Is) (fun x y H Q => ∃ b c, x = .bl b ∧ y = .bl c ∧ Q (.bl (decide (b = c))) H) := by
  intro pins s σ H x y v u Q I rx ry h
  obtain ⟨b, c, rfl, rfl, q⟩ := h
  obtain rfl : v = Value.bool b := rx
  obtain rfl : u = Value.bool c := ry
  refine wpAny_is_plain (by cases b <;> cases c <;> rfl) ⟨.bl _, H, I, ?_, q⟩
  cases b <;> cases c <;> rfl
end B

namespace B
open PySem PySem.Spec L2 PyProof.Rows
/-! ### t + u and t[a:b] of any tuples: a tuple that holds what is asked, new or not -/
def rCatU (K : PySem.W.Frag) : R2 := fun x y H Q => ∃ a b xs ys, x = .ref a ∧ y = .ref b ∧ SqT K H a xs ∧ SqT K H b ys ∧ xs.length + ys.length ≤ sizeLine ∧ ∀ p H', Same H H' → SqT K H' p (xs ++ ys) → Q (.ref p) H'
theorem op_catU {X : Cx} : OpR X (binaryOp .Add) (rCatU X.K) := by
  intro pins s σ H x y v u Q I rx ry h
  obtain ⟨a, b, xs, ys, rfl, rfl, ha, hb, hz, q⟩ := h
  by_cases hx : xs = []
  · subst hx
    cases rx
    cases ry
    obtain ⟨its, r1, p1, _⟩ := I.tuple ha
    obtain ⟨its2, r2, p2, _⟩ := I.tuple hb
    have e0 : its = [] := r1.nil_iff.mpr rfl
    subst e0
    obtain ⟨⟨cls, dd, data, sl⟩, ho, hc, n, hd⟩ := id p1
    obtain ⟨⟨cls2, dd2, data2, sl2⟩, ho2, hc2, n2, hd2⟩ := id p2
    simp only at hc hd hc2 hd2
    subst hc hd hc2 hd2
    exact concat_meets ⟨_, ho, rfl⟩ ⟨_, ho2, rfl⟩ noFill_tuple_add seq_tuple_add PySem.F.slot_tuple_add PySem.F.entry_tuple_add (PySem.F.args_tuple_add_2 _ _)
      (tuple_addW0 a b _ _ n n2 dd dd2 sl sl2 (by simp)) ⟨ho, ho2, ⟨.ref b, H, I, rfl, q b H (Same.refl H) hb⟩⟩
  · refine op_catT pins s σ H _ _ v u Q I rx ry ⟨a, b, xs, ys, rfl, rfl, ha, hb, hx, hz, fun e => ?_, fun _ p hp => ?_⟩
    · subst e
      exact q a H (Same.refl H) (by rw [List.append_nil]; exact ha)
    · exact q p _ (same_new hp _) (SqT.of upd_same)
def rSlU (K : PySem.W.Frag) : V → Option Int → Option Int → Hp → VK → Prop := fun x lo hi H Q => ∃ a xs, x = .ref a ∧ SqT K H a xs ∧ ∀ p H', Same H H' → SqT K H' p (cutV xs lo hi) → Q (.ref p) H'
theorem sl_tupU {X : Cx} : SlR X (rSlU X.K) := by
  intro pins s σ H x v vl vu lo hi sl Q I rx hs pl pu h
  obtain ⟨a, xs, rfl, hx, q⟩ := h
  refine sl_tupA pins s σ H _ v vl vu lo hi sl Q I rx hs pl pu ?_
  by_cases c : HT.sIx xs.length 0 lo = 0 ∧ HT.sIx xs.length xs.length hi = xs.length
  · refine .inl ⟨a, xs, rfl, hx, c.1, c.2, q a H (Same.refl H) ?_⟩
    have e : cutV xs lo hi = xs := by
      unfold cutV
      rw [c.1, c.2, List.drop_zero, Nat.sub_zero, List.take_length]
    rw [e]
    exact hx
  · exact .inr ⟨a, xs, rfl, hx, c, fun p hp => q p _ (same_new hp _) (SqT.of upd_same)⟩
theorem cut_to {xs : List V} {n : Nat} (h : n ≤ xs.length) : cutV xs none (some (n : Int)) = xs.take n := by
  unfold cutV
  rw [HT.sIx_nat, HT.sIx_none, Nat.min_eq_left h, Nat.sub_zero, List.drop_zero]
theorem cut_from {xs : List V} {n : Nat} (h : n ≤ xs.length) : cutV xs (some (n : Int)) none = xs.drop n := by
  unfold cutV
  rw [HT.sIx_nat, HT.sIx_none, Nat.min_eq_left h]
  exact List.take_of_length_le (by rw [List.length_drop]; omega)
end B

namespace B
open PySem PySem.Spec L2 PyProof.Rows
/-! ### the tape of three cells, whose first is the script itself -/
def Stat (K : PySem.W.Frag) (s : Addr) : Prop := ∃ ns : List Int, ns.length ≤ 63 ∧ ∀ H : Hp, SqL K H s (ns.map V.int)
structure Tape3 (K : PySem.W.Frag) (H : Hp) (t s : Addr) : Prop where
  ex : ∃ (ns : List Int) (p q : Int), H t = some (.lst [.ref s, .int p, .int q]) ∧ ((Rd H s (.lst (ns.map V.int)) ∧ s ≠ t) ∨ ∀ H', SqL K H' s (ns.map V.int)) ∧ ns.length ≤ 63 ∧ 0 ≤ p ∧ 0 ≤ q
def sp_tape3 (K : PySem.W.Frag) : Sp := fun vs H Q _ => ∃ (a : Addr) (ns : List Int), vs = [.ref a] ∧ SqL K H a (ns.map V.int) ∧ ns.length ≤ 63 ∧ ∀ (t : Addr) (H' : Hp), Same H H' → H t = none → Tape3 K H' t a → Q (.ref t) H'
def sp_draw3 (K : PySem.W.Frag) : Sp := fun vs H Q _ => ∃ (t s : Addr) (m : Int), vs = [.ref t, .int m] ∧ Tape3 K H t s ∧ 0 < m ∧ m < 1073741824 ∧ ∀ (r : Int) (xs : List V), 0 ≤ r → r < m → Tape3 K (upd H t (.lst xs)) t s → Q (.int r) (upd H t (.lst xs))
end B

namespace B
open PySem PySem.Spec L2 PyProof.Rows
section
set_option autoImplicit true
set_option relaxedAutoImplicit true
theorem qi_enum  {X : Cx} {elts : List Expr} {x1} {tp p pos : Pos} {a : Expr} {ta : TA} (hg : Gl X "enumerate") (hm : X.mg "enumerate" = none) (ha : QA X [a] ta) (hs : starEach [a] X.env = [(false, eval a X.env)] := by rfl) : QI X (.Tuple elts x1 tp) (.Call (.Name "enumerate" p) [a] [] pos) (iEnT X.K ta) := ⟨pi_enum hg hm ha.p hs⟩
end
end B

namespace B
open PySem PySem.Spec L2 PyProof.Rows
/-! ### sum and all of a list -/
theorem ints_of : ∀ {ns : List Int} {us : List Value}, Vals (ns.map V.int) us → IntsAre us ns
  | [], _, .nil => .nil
  | n :: ns, _, .cons r t => by
    obtain ⟨tk, rfl⟩ := (show ∃ t, _ = Value.int n t from r)
    exact .cons _ _ (ints_of t)
/-! ### tuple(range(n)), list(range(n)) -/
section
variable {prog : Program} {w : World} {A : Around} {E : Value → Shared → Prop} {s : Shared}
end
def upTo (n : Nat) : List Int := (List.range n).map fun i : Nat => (i : Int)
theorem vals_range {acc : Array Value} {n : Nat} (h : ItemsOf (fun i v => ∃ t, v = .int ((0 : Int) + i * 1) t) acc n) : Vals ((upTo n).map V.int) acc.toList := by
  obtain ⟨hl, ha⟩ := h
  have key : ∀ m, m ≤ n → Vals ((upTo m).map V.int) (acc.toList.take m) := by
    intro m
    induction m with
    | zero => intro _; rw [List.take_zero]; exact .nil
    | succ m ih =>
      intro hm
      have hlt : m < acc.size := by omega
      have e1 : acc.toList.take (m + 1) = acc.toList.take m ++ [acc[m]] := by
        rw [List.take_add_one]; simp [hlt]
      have e2 : (upTo (m + 1)).map V.int = (upTo m).map V.int ++ [V.int m] := by
        unfold upTo; rw [List.range_succ]; simp
      rw [e1, e2]
      refine (ih (by omega)).append (.cons ?_ .nil)
      obtain ⟨t, e⟩ := ha m acc[m] (by simp [hlt])
      exact ⟨t, by rw [e]; simp⟩
  have := key n (Nat.le_refl _)
  rwa [List.take_of_length_le (by simp [hl])] at this
def tRng1 (ta : TA) : TE := fun σ H Q => ta σ H fun vs H1 => ∃ j : Int, vs = [.int j] ∧ ∀ p, H1 p = none → Q (.ref p) (upd H1 p (.rng 0 j))
theorem pe_rng1 {X : Cx} {a : Expr} {ta : TA} {p pos : Pos} (hg : Gl X "range") (hm : X.mg "range" = none) (ha : PA X [a] ta) (hs : starEach [a] X.env = [(false, eval a X.env)] := by rfl) :
    PE X (.Call (.Name "range" p) [a] [] pos) (tRng1 ta) := by
  intro pins s σ H Q I h
  refine Call_ (ld_blt I hg hm boot_range (PyProof.Rows.callWith_type1 (thn (ha pos pins s σ H _ I h) fun us s1 ⟨vs, H1, I1, r1, q1⟩ => ?_) hs rfl))
  obtain ⟨j, e, q⟩ := q1
  subst e
  obtain ⟨u, rfl, t, rfl⟩ := vals1 r1
  refine call_range_1 ?_
  exact ⟨.ref s1.heap.objs.size, _, I1.laid (o := .rng 0 j) (fun b o e => Heap.get?_push_of_some _ e) (Nat.le_refl _) ⟨_, t, _, Heap.get?_push_size _ rfl⟩, rfl, q _ (I1.hok.fresh (Nat.le_refl _))⟩
theorem size_up (n : Nat) : Builtin.Range.rangeSize 0 n 1 = n := by rw [rangeSize_one]; split <;> omega
/-! ### range(a, b, -1), walked -/
def Itd (hi : Int) (n : Nat) : It := ⟨fun i _ => i < n, fun i H x H' => H' = H ∧ x = .int (hi - i), fun i _ => n ≤ i⟩
def iRngD (ta : TA) : TI := fun σ H R => ta σ H fun vs H1 => ∃ i j : Int, vs = [.int i, .int j, .int (-1)] ∧ (-1000 ≤ i ∧ i ≤ 1000 ∧ -1000 ≤ j ∧ j ≤ 1000) ∧ R (Itd i (i - j).toNat) H1
end B

namespace B
open PySem PySem.Spec L2 PyProof.Rows
section
set_option autoImplicit true
set_option relaxedAutoImplicit true
theorem qe_rng1  {X : Cx} {a : Expr} {ta : TA} {p pos : Pos} (hg : Gl X "range") (hm : X.mg "range" = none) (ha : QA X [a] ta) (hs : starEach [a] X.env = [(false, eval a X.env)] := by rfl) : QE X (.Call (.Name "range" p) [a] [] pos) (tRng1 ta) := ⟨pe_rng1 hg hm ha.p hs⟩
end
end B

namespace B
open PySem PySem.Spec L2 PyProof.Rows
/-! ### comprehensions by place, whatever is walked -/
structure Wlk (J : It) (H : Hp) (n : Nat) (P : Nat → V → Hp → Prop) : Prop where
  go : ∀ i H', i < n → Same H H' → J.go i H'
  stop : ∀ H', Same H H' → J.stop n H'
  yld : ∀ i H' x H'', i < n → Same H H' → J.yld i H' x H'' → Same H' H'' ∧ P i x H''
theorem wlk_lst {K : PySem.W.Frag} {H : Hp} {a : Addr} {xs : List V} (h : SqL K H a xs) : Wlk (Itl K a) H xs.length (fun i x _ => xs[i]? = some x) where
  go := fun i H' hi s => ⟨xs, _, s.seq h, List.getElem?_eq_getElem hi⟩
  stop := fun H' s => ⟨xs, s.seq h, Nat.le_refl _⟩
  yld := fun i H' x H'' hi s y => by obtain ⟨rfl, hy⟩ := y; exact ⟨Same.refl _, hy xs (s.seq h)⟩
theorem wlk_tup {K : PySem.W.Frag} {H : Hp} {a : Addr} {xs : List V} (h : SqT K H a xs) : Wlk (Itt K a) H xs.length (fun i x _ => xs[i]? = some x) where
  go := fun i H' hi s => ⟨xs, _, Tst.same s _ _ h, List.getElem?_eq_getElem hi⟩
  stop := fun H' s => ⟨xs, Tst.same s _ _ h, Nat.le_refl _⟩
  yld := fun i H' x H'' hi s y => by obtain ⟨rfl, hy⟩ := y; exact ⟨Same.refl _, hy xs (Tst.same s _ _ h)⟩
theorem wlk_rng {H : Hp} {lo : Int} {n : Nat} : Wlk (Itr lo n) H n (fun i x _ => x = .int (lo + i)) where
  go := fun i H' hi s => hi
  stop := fun H' s => Nat.le_refl _
  yld := fun i H' x H'' hi s y => by obtain ⟨rfl, rfl⟩ := y; exact ⟨Same.refl _, rfl⟩
theorem comp_ix {J : It} {H : Hp} {D : Addr} {n : Nat} {P : Nat → V → Hp → Prop} (w : Wlk J H n P) (c : Nat → Bool) (f : Nat → V) {src : List (Option Nat)} {σ : L2.St} {g : TG} {tt : TT} {te : TE} {Q : Hp → Prop} (hD : H D = none) (hn : n ≤ 1000)
    (turn : ∀ (i : Nat) (x : V) (H' : Hp), i < n → Same H H' → P i x H' → ∀ (R : VK) (E : Hp → Prop), (c i = true → ∀ H'', Same H' H'' → R (f i) H'') → (c i = false → ∀ H'', Same H' H'' → E H'') →
      g x (frees src σ) H' fun σ2 H2 => Ext (frees src σ) σ2 ∧ tt σ2 H2 fun ok H3 => if ok = true then te σ2 H3 R else E H3)
    (fin : ∀ H', Same H H' → H' D = some (.lst (((List.range n).filter c).map f)) → Q H') :
    ∃ W : Nat → Nat → List V → Hp → Prop, (∃ m, W 0 m [] (upd H D (.lst []))) ∧ ∀ i m ys H, W i m ys H → (J.stop i H ∧ Q H) ∨ (J.go i H ∧ ∀ x H', J.yld i H x H' →
      g x (frees src σ) H' fun σ2 H2 => Ext (frees src σ) σ2 ∧ tt σ2 H2 fun ok H3 =>
        if ok = true then te σ2 H3 fun y H4 => H4 D = some (.lst ys) ∧ ys.length < sizeLine ∧ ∃ m', m' < m ∧ W (i + 1) m' (ys ++ [y]) (upd H4 D (.lst (ys ++ [y]))) else ∃ m', m' < m ∧ W (i + 1) m' ys H3) := by
  refine ⟨fun i m ys H' => i ≤ n ∧ m = n - i ∧ ys = ((List.range i).filter c).map f ∧ Same H H' ∧ H' D = some (.lst ys), ⟨_, Nat.zero_le _, rfl, rfl, same_new hD _, upd_same⟩, ?_⟩
  rintro i m ys H1 ⟨hi, rfl, rfl, s1, d1⟩
  by_cases hix : i < n
  · refine .inr ⟨w.go i H1 hix s1, fun x H2 y => ?_⟩
    obtain ⟨s2, p⟩ := w.yld i H1 x H2 hix s1 y
    have d2 := s2 _ _ d1
    have len : (((List.range i).filter c).map f).length ≤ i := by
      rw [List.length_map]
      exact Nat.le_trans (List.length_filter_le _ _) (by rw [List.length_range]; exact Nat.le_refl _)
    refine turn i x H2 hix (s1.trans s2) p _ _ (fun hc H3 s3 => ?_) fun hc H3 s3 => ?_
    · have d3 := s3 _ _ d2
      refine ⟨d3, small1000 (by omega), n - (i + 1), by omega, hix, rfl, ?_, fun b o q => ?_, upd_same⟩
      · rw [List.range_succ, List.filter_append, List.map_append]
        simp [hc]
      · rw [upd_ne (ne_of_none q hD)]
        exact s3 _ _ (s2 _ _ (s1 _ _ q))
    · refine ⟨n - (i + 1), by omega, hix, rfl, ?_, (s1.trans s2).trans s3, s3 _ _ d2⟩
      rw [List.range_succ, List.filter_append, List.map_append]
      simp [hc]
  · have e : i = n := by omega
    subst e
    exact .inl ⟨w.stop H1 s1, fin H1 s1 d1⟩
/-- a list's things by place -/
theorem by_place {α β : Type} (d : α) (p : α → Bool) (f : α → β) : ∀ l : List α, ((List.range l.length).filter fun i => p (l.getD i d)).map (fun i => f (l.getD i d)) = (l.filter p).map f
  | [] => rfl
  | x :: l => by
    have ih := by_place d p f l
    rw [List.length_cons, List.range_succ_eq_map, List.filter_cons, List.filter_cons]
    have e : (((List.range l.length).map Nat.succ).filter fun i => p ((x :: l).getD i d)).map (fun i => f ((x :: l).getD i d)) = (l.filter p).map f := by
      rw [List.filter_map, List.map_map]
      exact ih
    show (if p x = true then _ else _ : List Nat).map _ = _
    cases hp : p x with
    | true =>
      simp only [if_true, List.map_cons]
      rw [e]; rfl
    | false =>
      simp only [Bool.false_eq_true, if_false]
      exact e
theorem getD_of {α : Type} {l : List α} {i : Nat} {x : α} (d : α) (h : l[i]? = some x) : l.getD i d = x := by rw [List.getD_eq_getElem?_getD, h]; rfl
end B

namespace B
open PySem PySem.Spec L2 PyProof.Rows
/-! ### [x] * n, list(range(n)), x not in a sequence within a comprehension -/
section
variable {prog : Program} {w : World} {A : Around} {E : Value → Shared → Prop} {s : Shared}
theorem rep_list {l : Addr} {items : Array Value} {k : Nat} {x : Int} {u : Tok} {Q : Value → Shared → Prop} (hl : s.heap.get? l = some { cls := .type "list", dict := none, data := .seq items k, slots := #[] })
    (hlo : -(2 ^ 63 : Int) ≤ x) (hhi : x < 2 ^ 63) (hsz : items.size * x.toNat ≤ 2 ^ 24)
    (h : Q (.ref s.heap.objs.size) { s with heap := s.heap.push { cls := .type "list", data := .seq (List.foldl (fun x1 x2 => x1 ++ x2) #[] (List.replicate (if items.isEmpty = true then 0 else x.toNat) items)) } }) :
    wpAny (model prog w) A (binaryOp .Mult (.ref l) (.int x u)) Q E s :=
  wpAny_binaryOp_repeat_ref (T := "list") (U := "int") (by decide) ⟨_, hl, rfl⟩ (fun s' => typeIs_int s' x u) noFill_list_mul F.fills_int_mul F.slot_int_rmul repeat_list F.slot_int_index.lookup
    (call_meets F.slot_int_rmul (typeIs_int s x u) F.entry_int_rmul (F.args_int_rmul_2 _ _) (int___rmul___int_list x u l items k)
      ⟨hl, rfl, ⟨_, hl, rfl⟩, call_meets F.slot_list_mul ⟨_, hl, rfl⟩ F.entry_list_mul (F.args_list_mul_2 _ _)
        (AutoListH.list___mul___list_int_3 l items k x u (by simp [Builtin.List.listFitsIndex]; omega) (by omega) (by simp [Builtin.List.listTooLong, sizeLine]; omega))
        ⟨hl, h⟩⟩)
end
theorem fold_rep (u : Value) : ∀ (n : Nat) (acc : Array Value), (List.foldl (fun x1 x2 => x1 ++ x2) acc (List.replicate n #[u])).toList = acc.toList ++ List.replicate n u
  | 0, acc => by simp
  | n + 1, acc => by
    rw [List.replicate_succ, List.foldl_cons, fold_rep u n, List.replicate_succ]
    simp
theorem vals_rep {v : V} {u : Value} (r : RelV v u) : ∀ n : Nat, Vals (List.replicate n v) (List.replicate n u)
  | 0 => .nil
  | n + 1 => .cons r (vals_rep r n)
theorem op_repL {X : Cx} : OpR X (binaryOp .Mult) (fun x y H Q => ∃ (p : Addr) (v : V) (n : Nat), x = .ref p ∧ y = .int n ∧ H p = some (.lst [v]) ∧ n ≤ 1000 ∧ ∀ l, H l = none → Q (.ref l) (upd H l (.lst (List.replicate n v)))) := by
  intro pins s σ H x y xv yv Q I rx ry h
  obtain ⟨p, v, n, rfl, rfl, hp, hn, q⟩ := h
  cases (show xv = Value.ref p from rx)
  obtain ⟨t, rfl⟩ := (show ∃ t, yv = Value.int n t from ry)
  obtain ⟨_, its, c, rv, e⟩ := (show ObjOk X.prog X.w H s.heap p (.lst [v]) from I.hok p _ hp)
  cases rv with
  | @cons _ u _ _ r0 rr =>
  cases rr
  refine rep_list e (by omega) (by omega) (by simp; omega) ?_
  have el : (List.foldl (fun x1 x2 => x1 ++ x2) #[] (List.replicate (if ([u] : List Value).toArray.isEmpty = true then 0 else (n : Int).toNat) [u].toArray)) = (List.replicate n u).toArray := by
    apply Array.ext'
    have := fold_rep u n #[]
    simpa using this
  rw [el]
  have I2 : Inv X pins σ (upd H s.heap.objs.size (.lst (List.replicate n v))) { s with heap := s.heap.push { cls := .type "list", data := .seq (List.replicate n u).toArray } } :=
    I.laid (t' := s.toks) (fun b o e => Heap.get?_push_of_some _ e) (Nat.le_refl _) (show ObjOk X.prog X.w _ _ _ (.lst (List.replicate n v)) from ⟨by rw [List.length_replicate, sizeLine_eq]; omega, List.replicate n u, _, vals_rep r0 n, Heap.get?_push_size _ rfl⟩)
  exact ⟨.ref s.heap.objs.size, _, I2, rfl, q _ (I.hok.fresh (Nat.le_refl _))⟩
theorem call_listR {X : Cx} (hc : X.calm = true) : CallR X (.type "list") (fun xs H Q => ∃ p, ∃ n : Nat, xs = [.ref p] ∧ H p = some (.rng 0 n) ∧ n ≤ 1000 ∧ ∀ l, H l = none → Q (.ref l) (upd H l (.lst ((upTo n).map V.int)))) := by
  intro pins s σ H xs us Q I r h
  obtain ⟨p, n, rfl, hp, hn, q⟩ := h
  obtain ⟨u, rfl, rx⟩ := vals1 r
  cases rx
  obtain ⟨t, u, w, e⟩ := (show ObjOk X.prog X.w H s.heap p (.rng 0 n) from I.hok p _ hp)
  refine call_list_range (I.ok.hd hc) (show IsRange s.heap p 0 n 1 t u w from e) (small_one (by omega) (by omega) (by omega) (by omega)) (size_up n) (by omega) fun h' tk acc c' hk hS hi => ?_
  have rv := vals_range hi
  have hl : (upTo n).length = n := by unfold upTo; simp
  have I2 : Inv X pins σ (upd H s.heap.objs.size (.lst ((upTo n).map V.int))) { s with heap := h', toks := tk } :=
    I.laid (t' := tk) hk (Nat.le_refl _) (show ObjOk X.prog X.w _ _ _ (.lst ((upTo n).map V.int)) from ⟨by rw [List.length_map, hl, sizeLine_eq]; omega, acc.toList, c', rv, by simpa using hS⟩)
  exact ⟨.ref s.heap.objs.size, _, I2, rfl, q _ (I.hok.fresh (Nat.le_refl _))⟩
theorem op_notIn_seqK {X : Cx} {K : PySem.W.Frag} (hK : X.K = K) : OpR X (compareOp .NotIn) (rIn K true) := hK ▸ op_notIn_seq
theorem op_in_seqK {X : Cx} {K : PySem.W.Frag} (hK : X.K = K) : OpR X (compareOp .In) (rIn K false) := hK ▸ op_in_seq
theorem inV_int (t : Nat) (ls : List Nat) : inV (.int t) (ls.map fun n : Nat => V.int n) = ls.contains t := by
  unfold inV
  rw [List.any_map]
  induction ls with
  | nil => rfl
  | cons a r ih =>
    rw [List.any_cons, List.contains_cons, ih]
    congr 1
    show decide (((a : Nat) : Int) = (t : Nat)) = (t == a)
    by_cases h : t = a
    · subst h; simp
    · rw [beq_eq_false_iff_ne.mpr h]
      exact decide_eq_false (by omega)
theorem flat_nat (ls : List Nat) : (ls.map fun n : Nat => V.int n).all flatV = true := by
  rw [List.all_map, List.all_eq_true]
  intro x _
  rfl
end B

namespace B
open PySem PySem.Spec L2 PyProof.Rows
/-! ### in, not in, index of things whose inside is known; insert -/
def Lays (ds : List PyData) : Prop := ∀ e ∈ ds, e.canLay0 = true ∧ e.depth ≤ 32
def rInD (K : PySem.W.Frag) : R2 := fun x y H Q => ∃ p xs ds d, y = .ref p ∧ SqL K H p xs ∧ DeepAll K H xs ds ∧ Lays ds ∧ Deep K H x d ∧ d.canLay0 = true ∧ PyData.eqv d d = true ∧ Q (.bl (ds.any fun e => PyData.eqv e d)) H
def rNotInD (K : PySem.W.Frag) : R2 := fun x y H Q => ∃ p xs ds d, y = .ref p ∧ SqL K H p xs ∧ DeepAll K H xs ds ∧ Lays ds ∧ Deep K H x d ∧ d.canLay0 = true ∧ PyData.eqv d d = true ∧ Q (.bl (!ds.any fun e => PyData.eqv e d)) H
/-- the same of a tuple -/
def rInDT (K : PySem.W.Frag) : R2 := fun x y H Q => ∃ p xs ds d, y = .ref p ∧ SqT K H p xs ∧ DeepAll K H xs ds ∧ Lays ds ∧ Deep K H x d ∧ d.canLay0 = true ∧ PyData.eqv d d = true ∧ Q (.bl (ds.any fun e => PyData.eqv e d)) H
/-- xs.index(x): the first place -/
def rIndexD (K : PySem.W.Frag) : V → List V → Hp → VK → Prop := fun x vs H Q => ∃ p xs ds w d, x = .ref p ∧ vs = [w] ∧ SqL K H p xs ∧ DeepAll K H xs ds ∧ Lays ds ∧ Deep K H w d ∧ d.canLay0 = true ∧ PyData.eqv d d = true ∧ (∃ e ∈ ds, PyData.eqv e d = true) ∧
  ∀ (j : Nat) (e : PyData), ds[j]? = some e → PyData.eqv e d = true → (∀ m f, m < j → ds[m]? = some f → PyData.eqv f d = false) → Q (.int j) H
theorem fits_ix {j : Nat} (h : j ≤ 16777216) : Builtin.List.listFitsIndex (j : Int) = true := by
  unfold Builtin.List.listFitsIndex
  have e : (2 : Int) ^ 63 = 9223372036854775808 := by decide
  rw [e, Bool.and_eq_true, decide_eq_true_iff, decide_eq_true_iff]
  omega
theorem ins_meets (l : Addr) (its : Array Value) (n : Nat) (x : Int) (tk : Tok) (u2 : Value) (hc : Builtin.List.listFitsIndex x = true) (hsz : its.size ≤ sizeLine) :
    Meets (Builtin.«list.insert» ⟨[.ref l, .int x tk, u2], []⟩) (fun _ R s => s.heap.get? l = some { cls := .type "list", dict := none, data := .seq its n, slots := #[] } ∧ R (.ok (.ret Value.none)) { s with heap := s.heap.update l (Obj.mapSeq fun xs => have k := if x < 0 then (x + ((xs.size : Nat) : Int)).toNat else min x.toNat xs.size; (xs.extract 0 k).push u2 ++ xs.extract k), toks := s.toks }) := by
  apply AutoListH.list_insert_list_int_val_1
  · rw [hc]; simp
  · exact hsz
/-- xs.insert(j, x) -/
def rInsert : V → List V → Hp → VK → Prop := fun x vs H Q => ∃ (l : Addr) (xs : List V) (j : Nat) (y : V), x = .ref l ∧ vs = [.int j, y] ∧ H l = some (.lst xs) ∧ j ≤ xs.length ∧ xs.length < sizeLine ∧ Q .non (upd H l (.lst (xs.take j ++ y :: xs.drop j)))
theorem mt_insert {X : Cx} : MtM X "list.insert" rInsert := by
  intro pins s σ H x vs v us Q I rx rv h
  obtain ⟨l, xs, j, y, rfl, rfl, hH, hj, hz, q⟩ := h
  cases rx
  obtain ⟨u, u2, rfl, ru, ru2⟩ := vals2 rv
  obtain ⟨tk, rfl⟩ := (show ∃ t, u = Value.int j t from ru)
  obtain ⟨z, its, n, r, hl, e⟩ := I.lstM hH
  have hlen := r.length
  have sl : sizeLine = 16777216 := by decide
  have hsz : its.toArray.size ≤ sizeLine := by rw [List.size_toArray]; omega
  have hfi : Builtin.List.listFitsIndex (j : Int) = true := fits_ix (show j ≤ 16777216 by omega)
  generalize hx : (j : Int) = x at hfi
  have M := ins_meets l its.toArray n x tk u2 hfi hsz
  refine call_meets PySem.F.slot_list_insert ⟨_, e, rfl⟩ PySem.F.entry_list_insert (PySem.F.args_list_insert_3 _ _ _) M ⟨e, ?_⟩
  have hv : Vals (xs.take j ++ y :: xs.drop j) (its.take j ++ u2 :: its.drop j) := (r.take j).append (.cons ru2 (r.drop j))
  refine ⟨.non, _, I.lset (its' := its.take j ++ u2 :: its.drop j) hH e ?_ hv ?_, rfl, q⟩
  · subst hx
    have e1 : ¬ ((j : Int) < 0) := by omega
    have e2 : min j its.length = j := by omega
    simp [e1, e2, List.take_of_length_le]
  · rw [List.length_append, List.length_cons, List.length_take, List.length_drop]
    omega
end B

namespace B
open PySem PySem.Spec L2 PyProof.Rows
/-! ### things of any kind, whose numbers are small -/
mutual
def ibd : PyData → Bool
  | .int i => decide (i.natAbs < 2 ^ 230)
  | .tuple ds => ibdAll ds
  | .list ds => ibdAll ds
  | .dict _ => false
  | _ => true
def ibdAll : List PyData → Bool
  | [] => true
  | d :: ds => ibd d && ibdAll ds
end
theorem ibdAll_of : ∀ {ds : List PyData}, (∀ d ∈ ds, ibd d = true) → ibdAll ds = true
  | [], _ => rfl
  | d :: ds, h => by
    show (ibd d && ibdAll ds) = true
    rw [h d List.mem_cons_self, ibdAll_of fun e he => h e (List.mem_cons_of_mem _ he)]; rfl
theorem layAll_of : ∀ {ds : List PyData}, (∀ d ∈ ds, d.canLay0 = true) → PyData.canLayAll0 ds = true
  | [], _ => rfl
  | d :: ds, h => by
    show (d.canLay0 && PyData.canLayAll0 ds) = true
    rw [h d List.mem_cons_self, layAll_of fun e he => h e (List.mem_cons_of_mem _ he)]; rfl
structure Gd (k n : Nat) (d : PyData) : Prop where
  sh : Sh k n d
  lay : d.canLay0 = true
  bd : ibd d = true
theorem Gd.mono {k n k' n' : Nat} {d : PyData} (h : Gd k n d) (hk : k ≤ k') (hn : n ≤ n') : Gd k' n' d := ⟨h.sh.mono hk hn, h.lay, h.bd⟩
theorem Gd.tup {k n m N : Nat} {ds : List PyData} (h : ∀ d ∈ ds, Gd k n d) (hm : ds.length ≤ m) (hN : (n + 3) * m + 8 ≤ N) : Gd (k + 1) N (.tuple ds) :=
  ⟨Sh.tup (fun d hd => (h d hd).sh) hm hN, layAll_of fun d hd => (h d hd).lay, ibdAll_of fun d hd => (h d hd).bd⟩
theorem Sh.lst {k n m N : Nat} {ds : List PyData} (h : ∀ d ∈ ds, Sh k n d) (hm : ds.length ≤ m) (hN : (n + 3) * m + 8 ≤ N) : Sh (k + 1) N (.list ds) := by
  obtain ⟨a, b, c, e, f⟩ := Sh.all h
  refine ⟨a, b, Nat.succ_le_succ c, ?_⟩
  show (listText (PyData.shownAll ds)).length ≤ N
  have q := listText_len_le (PyData.shownAll ds)
  have l : n * ds.length + 3 * ds.length ≤ (n + 3) * m := by
    rw [← Nat.add_mul]
    exact Nat.mul_le_mul_left _ hm
  omega
theorem Gd.lst {k n m N : Nat} {ds : List PyData} (h : ∀ d ∈ ds, Gd k n d) (hm : ds.length ≤ m) (hN : (n + 3) * m + 8 ≤ N) : Gd (k + 1) N (.list ds) :=
  ⟨Sh.lst (fun d hd => (h d hd).sh) hm hN, layAll_of fun d hd => (h d hd).lay, ibdAll_of fun d hd => (h d hd).bd⟩
theorem gd_none : Gd 0 5000 .none := ⟨⟨rfl, rfl, Nat.le_refl _, by decide⟩, rfl, rfl⟩
theorem gd_bool (b : Bool) : Gd 0 5000 (.bool b) := by cases b <;> exact ⟨⟨rfl, rfl, Nat.le_refl _, by decide⟩, rfl, rfl⟩
theorem gd_str {x : Str} (h : (PyData.str x).showable = true) (l : (PyData.str x).shown.length ≤ 5000) (c : (PyData.str x).canLay0 = true) : Gd 0 5000 (.str x) := ⟨⟨h, rfl, Nat.le_refl _, l⟩, c, rfl⟩
theorem gd_dR {r : R} (h : Wf 230 r) : Gd 1 5000 (dR r) := ⟨sh_dR h (by decide), dR_lay r, by
  show (decide (r.1.natAbs < 2 ^ 230) && (decide (r.2.natAbs < 2 ^ 230) && true)) = true
  rw [decide_eq_true h.top, decide_eq_true h.bot]; rfl⟩
theorem gd_int {i : Int} (h : i.natAbs < 2 ^ 230) : Gd 0 5000 (.int i) := ⟨⟨(show decide (i.natAbs.log2 < 1920) = true from decide_eq_true (log_of h (by decide))), rfl, Nat.le_refl _, Nat.le_trans (len_of h (by decide)) (by decide)⟩, rfl, decide_eq_true h⟩
def decR : PyData → R
  | .tuple [.int a, .int b] => (a, b)
  | _ => (0, 1)
def decRow : PyData → R × R
  | .tuple [x, y] => (decR x, decR y)
  | _ => rowD
end B

namespace B
open PySem PySem.Spec L2 PyProof.Rows
/-! ### the greatest and the least of a list of numbers -/
/-- a comprehension by an invariant of one's own: n turns -/
theorem comp_own {J : It} {H : Hp} {D : Addr} {n : Nat} (Pv : Nat → List V → Hp → Prop) {src : List (Option Nat)} {σ : L2.St} {g : TG} {tt : TT} {te : TE} {Q : Hp → Prop} (h0 : Pv 0 [] (upd H D (.lst [])))
    (go : ∀ i ys H', i < n → Pv i ys H' → J.go i H') (stop : ∀ ys H', Pv n ys H' → J.stop n H' ∧ Q H')
    (turn : ∀ i ys H' x H'', i < n → Pv i ys H' → J.yld i H' x H'' → ∀ (R : VK) (E : Hp → Prop), (∀ y H4, H4 D = some (.lst ys) → ys.length < sizeLine → Pv (i + 1) (ys ++ [y]) (upd H4 D (.lst (ys ++ [y]))) → R y H4) → (∀ H3, Pv (i + 1) ys H3 → E H3) →
      g x (frees src σ) H'' fun σ2 H2 => Ext (frees src σ) σ2 ∧ tt σ2 H2 fun ok H3 => if ok = true then te σ2 H3 R else E H3) :
    ∃ W : Nat → Nat → List V → Hp → Prop, (∃ m, W 0 m [] (upd H D (.lst []))) ∧ ∀ i m ys H, W i m ys H → (J.stop i H ∧ Q H) ∨ (J.go i H ∧ ∀ x H', J.yld i H x H' →
      g x (frees src σ) H' fun σ2 H2 => Ext (frees src σ) σ2 ∧ tt σ2 H2 fun ok H3 =>
        if ok = true then te σ2 H3 fun y H4 => H4 D = some (.lst ys) ∧ ys.length < sizeLine ∧ ∃ m', m' < m ∧ W (i + 1) m' (ys ++ [y]) (upd H4 D (.lst (ys ++ [y]))) else ∃ m', m' < m ∧ W (i + 1) m' ys H3) := by
  refine ⟨fun i m ys H' => i ≤ n ∧ m = n - i ∧ Pv i ys H', ⟨_, Nat.zero_le _, rfl, h0⟩, ?_⟩
  rintro i m ys H1 ⟨hi, rfl, p⟩
  by_cases hix : i < n
  · refine .inr ⟨go i ys H1 hix p, fun x H2 y => ?_⟩
    refine turn i ys H1 x H2 hix p y _ _ (fun y H4 a b c => ⟨a, b, n - (i + 1), by omega, hix, rfl, c⟩) fun H3 c => ⟨n - (i + 1), by omega, hix, rfl, c⟩
  · have e : i = n := by omega
    subst e
    exact .inl (stop ys H1 p)
end B

namespace B
open PySem PySem.Spec L2 PyProof.Rows
/-! ### a statement behind which something of one's own is known -/
def tCut (t : TS) : TS := fun D σ H => ∃ M : L2.St → Hp → Prop, t { D with nx := M } σ H ∧ ∀ σ' H', M σ' H' → D.nx σ' H'
theorem qs_cut {X : Cx} {st : Stmt} {t : TS} (h : QS X st t) : QS X st (tCut t) := ⟨by
  intro pins s σ H D I q
  obtain ⟨M, q, k⟩ := q
  refine thn (h.p pins s σ H _ I q) fun f s' z => ?_
  cases f with
  | next => obtain ⟨σ', H', I', m⟩ := z; exact ⟨σ', H', I', k _ _ m⟩
  | brk => exact z
  | cont => exact z
  | ret u => exact z⟩
end B

namespace B
/-! ### leans: (a, b): b leans on a; by way of others -/
abbrev Ln := Nat × Nat
inductive Rch (es : List Ln) : Nat → Nat → Prop where
  | one {a b : Nat} (h : (a, b) ∈ es) : Rch es a b
  | step {a b c : Nat} (h : (a, b) ∈ es) (t : Rch es b c) : Rch es a c
theorem Rch.trans {es : List Ln} {a b c : Nat} (x : Rch es a b) (y : Rch es b c) : Rch es a c := by
  induction x with
  | one h => exact .step h y
  | step h _ ih => exact .step h (ih y)
theorem Rch.mono {es fs : List Ln} (s : ∀ e ∈ es, e ∈ fs) {a b : Nat} (x : Rch es a b) : Rch fs a b := by
  induction x with
  | one h => exact .one (s _ h)
  | step h _ ih => exact .step (s _ h) ih
def EsOk (n : Nat) (es : List Ln) : Prop := ∀ e ∈ es, e.1 < n ∧ e.2 < n
theorem Rch.lt {n : Nat} {es : List Ln} (ok : EsOk n es) {a b : Nat} (x : Rch es a b) : a < n ∧ b < n := by
  induction x with
  | one h => exact ok _ h
  | step h _ ih => exact ⟨(ok _ h).1, ih.2⟩
/-- L i j: i leans on j -/
def Clo (n : Nat) (es : List Ln) (L : Nat → Nat → Bool) : Prop := ∀ i j, i < n → j < n → (L i j = true ↔ Rch es j i)
def addM (L : Nat → Nat → Bool) (a b : Nat) : Nat → Nat → Bool := fun i j => L i j || ((decide (i = b) || L i b) && (decide (j = a) || L a j))
theorem clo_nil (n : Nat) : Clo n [] (fun _ _ => false) := fun i j _ _ => by
  constructor
  · intro h; cases h
  · intro h
    cases h with
    | one m => cases m
    | step m _ => cases m
theorem clo_add {n : Nat} {es : List Ln} {L : Nat → Nat → Bool} (ok : EsOk n es) (h : Clo n es L) {a b : Nat} (ha : a < n) (hb : b < n) : Clo n (es ++ [(a, b)]) (addM L a b) := by
  have ok' : EsOk n (es ++ [(a, b)]) := fun e he => by
    rcases List.mem_append.mp he with z | z
    · exact ok e z
    · rw [List.mem_singleton.mp z]; exact ⟨ha, hb⟩
  have sub : ∀ e ∈ es, e ∈ es ++ [(a, b)] := fun e he => List.mem_append_left _ he
  have new : (a, b) ∈ es ++ [(a, b)] := List.mem_append_right _ List.mem_cons_self
  have D : ∀ i j, addM L a b i j = true ↔ L i j = true ∨ ((i = b ∨ L i b = true) ∧ (j = a ∨ L a j = true)) := fun i j => by
    unfold addM
    rw [Bool.or_eq_true, Bool.and_eq_true, Bool.or_eq_true, Bool.or_eq_true, decide_eq_true_iff, decide_eq_true_iff]
  have tr : ∀ i j k, i < n → j < n → k < n → addM L a b i j = true → addM L a b j k = true → addM L a b i k = true := by
    intro i j k hi hj hk x y
    have T : ∀ u v w, u < n → v < n → w < n → L u v = true → L v w = true → L u w = true := fun u v w hu hv hw p q => (h u w hu hw).mpr (((h v w hv hw).mp q).trans ((h u v hu hv).mp p))
    rw [D] at x y ⊢
    rcases x with x | ⟨x1, x2⟩
    · rcases y with y | ⟨y1, y2⟩
      · exact .inl (T i j k hi hj hk x y)
      · refine .inr ⟨.inr ?_, y2⟩
        rcases y1 with y1 | y1
        · subst y1; exact x
        · exact T i j b hi hj hb x y1
    · rcases y with y | ⟨_, y2⟩
      · refine .inr ⟨x1, .inr ?_⟩
        rcases x2 with x2 | x2
        · subst x2; exact y
        · exact T a j k ha hj hk x2 y
      · exact .inr ⟨x1, y2⟩
  intro i j hi hj
  constructor
  · intro x
    rw [D] at x
    rcases x with x | ⟨x1, x2⟩
    · exact ((h i j hi hj).mp x).mono sub
    · have s1 : Rch (es ++ [(a, b)]) j b := by
        rcases x2 with x2 | x2
        · subst x2; exact .one new
        · exact (((h a j ha hj).mp x2).mono sub).trans (.one new)
      rcases x1 with x1 | x1
      · subst x1; exact s1
      · exact s1.trans (((h i b hi hb).mp x1).mono sub)
  · intro x
    have E : ∀ u v, (u, v) ∈ es ++ [(a, b)] → addM L a b v u = true := fun u v m => by
      rw [D]
      rcases List.mem_append.mp m with z | z
      · have := ok _ z
        exact .inl ((h v u this.2 this.1).mpr (.one z))
      · cases List.mem_singleton.mp z
        exact .inr ⟨.inl rfl, .inl rfl⟩
    clear hi hj
    induction x with
    | one m => exact E _ _ m
    | @step u v w m t ih =>
      have l1 := ok' _ m
      have l2 := t.lt ok'
      exact tr w v u l2.2 l1.2 l1.1 ih (E _ _ m)
/-! ### values drawn along leans, turn by turn -/
structure Rx (n : Nat) (es : List Ln) (v : Nat → Int) (ps : Nat → Nat) (r k : Nat) (F : Nat → Int) : Prop where
  bas : ∀ i, i < n → v i ≤ F i
  att : ∀ i, i < n → ∃ j, j < n ∧ (j = i ∨ Rch es j i) ∧ F i = v j
  don : ∀ i, i < n → ps i < r → ∀ j, j < n → (j = i ∨ Rch es j i) → v j ≤ F i
  cur : ∀ m a b, m < k → es[m]? = some (a, b) → ps b ≤ r → ∀ j, j < n → (j = a ∨ Rch es j a) → v j ≤ F b
def rxUp (F : Nat → Int) (a b : Nat) : Nat → Int := fun i => if i = b then max (F b) (F a) else F i
/-- the greatest among oneself and those ahead -/
structure Top (n : Nat) (es : List Ln) (v : Nat → Int) (F : Nat → Int) : Prop where
  up : ∀ i j, i < n → j < n → (j = i ∨ Rch es j i) → v j ≤ F i
  att : ∀ i, i < n → ∃ j, j < n ∧ (j = i ∨ Rch es j i) ∧ F i = v j
def swp (es : List Ln) : List Ln := es.map fun e => (e.2, e.1)
end B

namespace B
open PySem PySem.Spec L2 PyProof.Rows
theorem call_maxT {X : Cx} (hc : X.calm = true) : CallR X (.builtin "max") (fun xs H Q => ∃ (p : Addr) (ns : List Int), xs = [.ref p] ∧ SqT X.K H p (ns.map V.int) ∧ 0 < ns.length ∧ ∀ M, M ∈ ns → (∀ a ∈ ns, a ≤ M) → Q (.int M) H) := by
  intro pins s σ H xs us Q I r h
  obtain ⟨p, ns, rfl, hq, hne, q⟩ := h
  obtain ⟨u, rfl, rx⟩ := vals1 r
  cases rx
  obtain ⟨its, rv, pl, hz⟩ := I.tuple hq
  have hi := ints_of rv
  obtain ⟨zs, ez⟩ := hi.allInts.items
  have hT : s.heap.IsTuple p its.toArray := pl
  rw [ez] at hT
  have en : numsOf its = ns := hi.numsOf
  rw [show its = its.toArray.toList from rfl, ez, nums_intItems] at en
  have hlen : zs.size = ns.length := by rw [← en, List.length_map, Array.length_toList]
  have hlt : p < s.heap.objs.size := by obtain ⟨_, e, _⟩ := hT; exact Heap.lt_size e
  refine call_max_walk (wpAny_pyIter_tuple hT ?_)
  refine ⟨_, [_, p], [_], _, _, _, _, rfl, Walks.tuple (A := X.A.in1) (I.ok.hd hc) _ p (Nat.ne_of_lt hlt) (intItems zs), ⟨⟨_, Heap.get?_push_size _ rfl, rfl, rfl⟩, hT.push _⟩, fun c hc' => ?_, by simpa [intItems, hlen] using hne, CmpOf.ints_gt (numAt zs) (fun _ _ => intItems_at), fun v h' tk hP hk => ?_⟩
  · show c < (s.heap.push _).objs.size
    rw [Heap.size_push]
    rcases List.mem_cons.mp hc' with rfl | hc'
    · exact Nat.lt_succ_self _
    · rcases List.mem_cons.mp hc' with rfl | hc'
      · exact Nat.lt_succ_of_lt hlt
      · cases hc'
  · have hP' : (intItems zs)[argBest (fun i j => decide (numAt zs i > numAt zs j)) (zs.size - 1)]? = some v := by simpa [intItems] using hP
    obtain ⟨t, rfl⟩ := intItems_at hP'
    obtain ⟨h1, h2⟩ := argBest_gt (numAt zs) (zs.size - 1)
    refine ⟨.int _, H, I.kept (t' := tk) fun b o e => hk b o (fun z => ?_) (Heap.get?_push_of_some _ e), ⟨_, rfl⟩, q _ ?_ fun a ha => ?_⟩
    · rw [List.mem_singleton.mp z] at e
      exact absurd (Heap.lt_size e) (Nat.lt_irrefl _)
    · rw [numAt_eq, en]; exact getD_mem (by omega)
    · rw [← en] at ha
      obtain ⟨j, hj, rfl⟩ := mem_getD ha
      rw [List.length_map, Array.length_toList] at hj
      rw [← numAt_eq]; exact h2 j (by omega)
theorem call_minT {X : Cx} (hc : X.calm = true) : CallR X (.builtin "min") (fun xs H Q => ∃ (p : Addr) (ns : List Int), xs = [.ref p] ∧ SqT X.K H p (ns.map V.int) ∧ 0 < ns.length ∧ ∀ M, M ∈ ns → (∀ a ∈ ns, M ≤ a) → Q (.int M) H) := by
  intro pins s σ H xs us Q I r h
  obtain ⟨p, ns, rfl, hq, hne, q⟩ := h
  obtain ⟨u, rfl, rx⟩ := vals1 r
  cases rx
  obtain ⟨its, rv, pl, hz⟩ := I.tuple hq
  have hi := ints_of rv
  obtain ⟨zs, ez⟩ := hi.allInts.items
  have hT : s.heap.IsTuple p its.toArray := pl
  rw [ez] at hT
  have en : numsOf its = ns := hi.numsOf
  rw [show its = its.toArray.toList from rfl, ez, nums_intItems] at en
  have hlen : zs.size = ns.length := by rw [← en, List.length_map, Array.length_toList]
  have hlt : p < s.heap.objs.size := by obtain ⟨_, e, _⟩ := hT; exact Heap.lt_size e
  refine call_min_walk (wpAny_pyIter_tuple hT ?_)
  refine ⟨_, [_, p], [_], _, _, _, _, rfl, Walks.tuple (A := X.A.in1) (I.ok.hd hc) _ p (Nat.ne_of_lt hlt) (intItems zs), ⟨⟨_, Heap.get?_push_size _ rfl, rfl, rfl⟩, hT.push _⟩, fun c hc' => ?_, by simpa [intItems, hlen] using hne, CmpOf.ints_lt (numAt zs) (fun _ _ => intItems_at), fun v h' tk hP hk => ?_⟩
  · show c < (s.heap.push _).objs.size
    rw [Heap.size_push]
    rcases List.mem_cons.mp hc' with rfl | hc'
    · exact Nat.lt_succ_self _
    · rcases List.mem_cons.mp hc' with rfl | hc'
      · exact Nat.lt_succ_of_lt hlt
      · cases hc'
  · have hP' : (intItems zs)[argBest (fun i j => decide (numAt zs i < numAt zs j)) (zs.size - 1)]? = some v := by simpa [intItems] using hP
    obtain ⟨t, rfl⟩ := intItems_at hP'
    obtain ⟨h1, h2⟩ := argBest_lt (numAt zs) (zs.size - 1)
    refine ⟨.int _, H, I.kept (t' := tk) fun b o e => hk b o (fun z => ?_) (Heap.get?_push_of_some _ e), ⟨_, rfl⟩, q _ ?_ fun a ha => ?_⟩
    · rw [List.mem_singleton.mp z] at e
      exact absurd (Heap.lt_size e) (Nat.lt_irrefl _)
    · rw [numAt_eq, en]; exact getD_mem (by omega)
    · rw [← en] at ha
      obtain ⟨j, hj, rfl⟩ := mem_getD ha
      rw [List.length_map, Array.length_toList] at hj
      rw [← numAt_eq]; exact h2 j (by omega)
/-- a op1 b op2 c op3 d -/
def tChain3 (r r' r'' : R2) (ta tb tc td : TE) : TE := fun σ H Q => ta σ H fun x H1 => tb σ H1 fun y H2 => r x y H2 fun z H3 => ∃ k, z = .bl k ∧
  (if k = true then tc σ H3 fun w' H4 => r' y w' H4 fun z' H5 => ∃ k', z' = .bl k' ∧ (if k' = true then td σ H5 fun u' H6 => r'' w' u' H6 Q else Q (.bl false) H5) else Q (.bl false) H3)
theorem qe_chain3 {X : Cx} {a b c d : Expr} {ta tb tc td : TE} {pos : Pos} {op op' op'' : CmpOp} {r r' r'' : R2} (ho : OpR X (compareOp op) r) (ho' : OpR X (compareOp op') r') (ho'' : OpR X (compareOp op'') r'') (ha : QE X a ta) (hb : QE X b tb) (hc : QE X c tc) (hd : QE X d td)
    (hm : lastMarks [op, op', op''] [b, c, d] = false := by with_unfolding_all rfl) : QE X (.Compare a [op, op', op''] [b, c, d] pos) (tChain3 r r' r'' ta tb tc td) := ⟨by
  intro pins s σ H Q I h
  refine Compare_chain (thn (ha.p pins s σ H _ I h) fun v s1 ⟨x, H1, I1, r1, q1⟩ => chain_link (thn (hb.p pins s1 σ H1 _ I1 q1) fun u s2 ⟨y, H2, I2, r2, q2⟩ =>
    thn (ho pins s2 σ H2 x y v u _ I2 r1 r2 q2) fun d s3 ⟨z, H3, I3, r3, k, e, q3⟩ => ?_)) hm
  subst e
  cases r3
  refine wpAny_truthy_bool ?_
  cases k with
  | false => exact ite_ff ⟨.bl false, H3, I3, rfl, q3⟩
  | true =>
    refine ite_tt (chain_link (thn (hc.p pins s3 σ H3 _ I3 q3) fun w' s4 ⟨z', H4, I4, r4, q4⟩ => thn (ho' pins s4 σ H4 y z' u w' _ I4 r2 r4 q4) fun d' s5 ⟨z2, H5, I5, r5, k2, e2, q5⟩ => ?_))
    subst e2
    cases r5
    refine wpAny_truthy_bool ?_
    cases k2 with
    | false => exact ite_ff ⟨.bl false, H5, I5, rfl, q5⟩
    | true => exact ite_tt (chain_last (thn (hd.p pins s5 σ H5 _ I5 q5) fun w2 s6 ⟨z3, H6, I6, r6, q6⟩ => ho'' pins s6 σ H6 z' z3 w' w2 Q I6 r4 r6 q6))⟩
end B

namespace B
open PySem PySem.Spec L2 PyProof.Rows
/-! ### things made beside the tape: the heap without the tape's own list -/
theorem dl_same {t : Addr} {H H' : Hp} (s : Same H H') : Same (del H t) (del H' t) := fun b o q => by
  unfold del at q ⊢
  by_cases c : b = t
  · rw [if_pos c] at q; cases q
  · rw [if_neg c] at q ⊢; exact s _ _ q
theorem dl_step {t : Addr} {H H' : Hp} (S : Step t H H') : Same (del H t) (del H' t) := fun b o q => by
  unfold del at q ⊢
  by_cases c : b = t
  · rw [if_pos c] at q; cases q
  · rw [if_neg c] at q ⊢; exact S.keep _ _ c q
theorem dl_full {t : Addr} {H : Hp} : Same (del H t) H := fun b o q => by
  unfold del at q
  by_cases c : b = t
  · rw [if_pos c] at q; cases q
  · rw [if_neg c] at q; exact q
theorem dl_new {t p : Addr} {H : Hp} {o : HO} (g : H p = none) (h : ∃ xs, H t = some (.lst xs)) : del (upd H p o) t p = some o := by
  have n : p ≠ t := fun z => by subst z; obtain ⟨xs, e⟩ := h; rw [g] at e; cases e
  unfold del
  rw [if_neg n, upd_same]
theorem dl_tst {K : PySem.W.Frag} {t : Addr} {H : Hp} (h : ∃ xs, H t = some (.lst xs)) : Tst K H (del H t) := fun p xs q => by
  obtain ⟨ys, e⟩ := h
  rcases q with q | q
  · rcases q with q | ⟨o, q⟩
    · have n : p ≠ t := fun z => by subst z; rw [e] at q; cases q
      exact .inl (.inl (by unfold del; rw [if_neg n]; exact q))
    · have n : p ≠ t := fun z => by subst z; rw [e] at q; cases q
      exact .inl (.inr ⟨o, by unfold del; rw [if_neg n]; exact q⟩)
  · exact .inr q
theorem DeepAll.app {K : PySem.W.Frag} {H : Hp} : ∀ {xs ys : List V} {ds es : List PyData}, DeepAll K H xs ds → DeepAll K H ys es → DeepAll K H (xs ++ ys) (ds ++ es)
  | _, _, _, _, .nil, h => h
  | _, _, _, _, .cons a t, h => .cons a (DeepAll.app t h)
theorem DeepAll.takeN {K : PySem.W.Frag} {H : Hp} : ∀ (n : Nat) {xs : List V} {ds : List PyData}, DeepAll K H xs ds → DeepAll K H (xs.take n) (ds.take n)
  | 0, _, _, _ => .nil
  | _ + 1, _, _, .nil => .nil
  | n + 1, _, _, .cons h t => .cons h (DeepAll.takeN n t)
theorem DeepAll.dropN {K : PySem.W.Frag} {H : Hp} : ∀ (n : Nat) {xs : List V} {ds : List PyData}, DeepAll K H xs ds → DeepAll K H (xs.drop n) (ds.drop n)
  | 0, _, _, h => h
  | _ + 1, _, _, .nil => .nil
  | n + 1, _, _, .cons _ t => DeepAll.dropN n t
theorem DeepAll.atN {K : PySem.W.Frag} {H : Hp} : ∀ {xs : List V} {ds : List PyData}, DeepAll K H xs ds → ∀ {i : Nat} {d : PyData}, ds[i]? = some d → ∃ x, xs[i]? = some x ∧ Deep K H x d
  | _, _, .cons h _, 0, d, e => by
    rw [List.getElem?_cons_zero] at e
    cases e
    exact ⟨_, rfl, h⟩
  | _, _, .cons _ t, i + 1, d, e => DeepAll.atN t (i := i) (by rw [List.getElem?_cons_succ] at e; exact e)
  | _, _, .nil, _, _, e => by cases e
theorem DeepAll.pick {K : PySem.W.Frag} {H : Hp} {xs : List V} {ds : List PyData} (h : DeepAll K H xs ds) {r : Int} (h0 : 0 ≤ r) (h1 : r < xs.length) : ∃ v d, atI xs r = some v ∧ d ∈ ds ∧ Deep K H v d := by
  have hl := h.len
  have e : ds[r.toNat]? = some (ds[r.toNat]'(by omega)) := List.getElem?_eq_getElem _
  obtain ⟨v, a, b⟩ := DeepAll.atN h e
  have q : atI xs ((r.toNat : Nat) : Int) = some v := atI_nat a
  rw [show ((r.toNat : Nat) : Int) = r by omega] at q
  exact ⟨v, _, q, List.getElem_mem _, b⟩
theorem gd_app {k n : Nat} {ds es : List PyData} (h : ∀ d ∈ ds, Gd k n d) (h' : ∀ d ∈ es, Gd k n d) : ∀ d ∈ ds ++ es, Gd k n d := fun d hd => (List.mem_append.mp hd).elim (h d) (h' d)
theorem gd_take {k n : Nat} {ds : List PyData} (m : Nat) (h : ∀ d ∈ ds, Gd k n d) : ∀ d ∈ ds.take m, Gd k n d := fun d hd => h d (List.mem_of_mem_take hd)
theorem gd_drop {k n : Nat} {ds : List PyData} (m : Nat) (h : ∀ d ∈ ds, Gd k n d) : ∀ d ∈ ds.drop m, Gd k n d := fun d hd => h d (List.mem_of_mem_drop hd)
theorem gd_wide {k n k' n' : Nat} {ds : List PyData} (hk : k ≤ k') (hn : n ≤ n') (h : ∀ d ∈ ds, Gd k n d) : ∀ d ∈ ds, Gd k' n' d := fun d hd => (h d hd).mono hk hn
end B

namespace B
open PySem PySem.Spec L2 PyProof.Rows
/-! ### (x,) * n -/
theorem noFill_tuple_mul : fillsNumberSlot (.type "tuple") "mul" = pure false :=
  PySem.fillsNumberSlot_seq (id := "tuple.__mul__") (r := some (.builtin "tuple.__rmul__")) F.slot_tuple_mul.lookup (by decide +kernel) F.slot_tuple_rmul.lookup (by decide +kernel)
theorem repeat_tuple : seqRepeat? (.type "tuple") = pure (some (.builtin "tuple.__mul__")) := by
  unfold seqRepeat?
  rw [PySem.seqSlot_of (T := "tuple") (name := "__mul__") (id := "tuple.__mul__") F.slot_tuple_mul.lookup (by decide +kernel), PySem.seqSlot_of (T := "tuple") (name := "__rmul__") (id := "tuple.__rmul__") F.slot_tuple_rmul.lookup (by decide +kernel)]
  rfl
theorem int_rmul_tuple (a : Int) (t : Tok) (l : Addr) (items : Array Value) (n : Nat) (dd : Option Addr) (sl : Array (Option Value)) :
    Meets (Builtin.«int.__rmul__» ⟨[.int a t, .ref l], []⟩) (fun _ R s => s.heap.get? l = some { cls := .type "tuple", dict := dd, data := .seq items n, slots := sl } ∧ R (.ok (.ret Value.notImplemented)) s) :=
  .of_wp fun prog w A R s h => by obtain ⟨hp, g, d, tk, os⟩ := s; obtain ⟨hl, h⟩ := h; wp_walk; exact ⟨_, rfl, h⟩
theorem tuple_mulW (l : Addr) (items : Array Value) (n : Nat) (dd : Option Addr) (sl : Array (Option Value)) (x : Int) (u : Tok) (hc0 : ¬(decide (x < -(2 ^ 63)) || decide (x ≥ 2 ^ 63)) = true) (hc1 : ¬(items.isEmpty || x == 1) = true) (hc2 : ¬(decide (x ≤ 0) || items.isEmpty) = true) (hc3 : ¬(items.size : Int) * x > (2 ^ 63 - 1) / 8) (hc4 : ¬Builtin.Tuple.tupleTooMany (items.size * x) = true) (hsz : (List.foldl (fun x1 x2 => x1 ++ x2) #[] (List.replicate x.toNat items)).size ≤ sizeLine) :
    Meets (Builtin.«tuple.__mul__» ⟨[.ref l, .int x u], []⟩) (fun _ R s => s.heap.get? l = some { cls := .type "tuple", dict := dd, data := .seq items n, slots := sl } ∧ R (.ok (.ret (Value.ref s.heap.objs.size))) { s with heap := s.heap.push { cls := Value.type "tuple", data := Data.seq (List.foldl (fun x1 x2 => x1 ++ x2) #[] (List.replicate x.toNat items)) }, toks := s.toks }) :=
  .of_wp fun prog w A R s h => by
    obtain ⟨hp, g, d, tk, os⟩ := s; obtain ⟨hl, h⟩ := h
    have f1 := AutoSeq1.idx_int; have f2 := AutoSeq1.sub_tuple_tuple; have f3 := AutoSeq1.sub_list_list; have f4 := AutoSeq1.sub_tuple_list; have f5 := AutoSeq1.sub_list_tuple
    wp_walk using wpAny_loadPart' hl
    refine wpAny_ite_false (decide_eq_false hc0) ?_
    wp_walk using wpAny_loadPart' hl
    refine wpAny_ite_false (decide_eq_false hc3) ?_
    wp_walk using wpAny_loadPart' hl
    exact ⟨_, rfl, h⟩
theorem op_repT {X : Cx} : OpR X (binaryOp .Mult) (fun x y H Q => ∃ (p : Addr) (v : V) (n : Nat), x = .ref p ∧ y = .int n ∧ SqT X.K H p [v] ∧ 2 ≤ n ∧ n ≤ 1000 ∧ ∀ l, H l = none → Q (.ref l) (upd H l (.tup (List.replicate n v)))) := by
  intro pins s σ H x y xv yv Q I rx ry h
  obtain ⟨p, v, n, rfl, rfl, hp, h2, hn, q⟩ := h
  cases (show xv = Value.ref p from rx)
  obtain ⟨t, rfl⟩ := (show ∃ t, yv = Value.int n t from ry)
  obtain ⟨its, rv, p1, _⟩ := I.tuple hp
  obtain ⟨⟨cls, dd, data, sl⟩, ho, hc, k, hd⟩ := id p1
  simp only at hc hd
  subst hc hd
  cases rv with
  | @cons _ u _ _ r0 rr =>
  cases rr
  have el : (List.foldl (fun x1 x2 => x1 ++ x2) #[] (List.replicate (n : Int).toNat ([u] : List Value).toArray)) = (List.replicate n u).toArray := by
    apply Array.ext'
    have := fold_rep u n #[]
    simpa using this
  refine wpAny_binaryOp_repeat_ref (T := "tuple") (U := "int") (by decide) ⟨_, ho, rfl⟩ (fun s' => typeIs_int s' _ t) noFill_tuple_mul F.fills_int_mul F.slot_int_rmul repeat_tuple F.slot_int_index.lookup
    (call_meets F.slot_int_rmul (typeIs_int s _ t) F.entry_int_rmul (F.args_int_rmul_2 _ _) (int_rmul_tuple _ t p _ k dd sl)
      ⟨ho, rfl, ⟨_, ho, rfl⟩, call_meets F.slot_tuple_mul ⟨_, ho, rfl⟩ F.entry_tuple_mul (F.args_tuple_mul_2 _ _)
        (tuple_mulW p _ k dd sl n t (by simp; omega) (by simp; omega) (by simp; omega) (by simp; omega) (by simp [Builtin.Tuple.tupleTooMany, sizeLine]; omega) (by rw [el, sizeLine_eq]; simp; omega))
        ⟨ho, ?_⟩⟩)
  rw [el]
  have I2 : Inv X pins σ (upd H s.heap.objs.size (.tup (List.replicate n v))) { s with heap := s.heap.push { cls := .type "tuple", data := .seq (List.replicate n u).toArray } } :=
    I.laid (t' := s.toks) (fun b o e => Heap.get?_push_of_some _ e) (Nat.le_refl _) (show ObjOk X.prog X.w _ _ _ (.tup (List.replicate n v)) from ⟨by rw [List.length_replicate, sizeLine_eq]; omega, List.replicate n u, vals_rep r0 n, IsTup.new _ _⟩)
  exact ⟨.ref s.heap.objs.size, _, I2, rfl, q _ (I.hok.fresh (Nat.le_refl _))⟩
theorem DeepAll.rep {K : PySem.W.Frag} {H : Hp} {x : V} {d : PyData} (h : Deep K H x d) : ∀ n : Nat, DeepAll K H (List.replicate n x) (List.replicate n d)
  | 0 => .nil
  | n + 1 => .cons h (DeepAll.rep h n)
theorem gd_rep {k n : Nat} {d : PyData} (h : Gd k n d) (m : Nat) : ∀ e ∈ List.replicate m d, Gd k n e := fun e he => by rw [List.eq_of_mem_replicate he]; exact h
theorem cut_any {xs : List V} {n : Nat} : cutV xs none (some (n : Int)) = xs.take n := by
  by_cases h : n ≤ xs.length
  · exact cut_to h
  · unfold cutV
    rw [HT.sIx_nat, HT.sIx_none, Nat.sub_zero, List.drop_zero, Nat.min_eq_right (by omega), List.take_of_length_le (Nat.le_refl _), List.take_of_length_le (by omega)]
end B

namespace My
open PySem L2 B PyProof.Rows
def top (i : Nat) : Stmt := PySem.Challenge.pw_paceplan_k05_sheets_let_by_or_not.main.body.getD i (.Pass ⟨0, 0, 0, 0⟩)
abbrev s_is_whole : Stmt := top 1
abbrev s_is_tuple_of : Stmt := top 2
abbrev s_is_number_of : Stmt := top 3
abbrev s_copied : Stmt := top 4
abbrev s_greatest_divisor : Stmt := top 12
abbrev s_is_ratio : Stmt := top 13
abbrev s_is_above_nought : Stmt := top 14
abbrev s_is_sheet_shaped : Stmt := top 19
abbrev s_is_work : Stmt := top 20
abbrev s_is_lean : Stmt := top 21
abbrev s_no_leanings : Stmt := top 22
abbrev s_add_lean : Stmt := top 23
abbrev s_first_ring : Stmt := top 24
abbrev s_right_sheet : Stmt := top 25
abbrev s_law_tape : Stmt := top 27
abbrev s_law_draw : Stmt := top 28
abbrev s_law_gcd : Stmt := top 29
abbrev s_law_ratio : Stmt := top 30
abbrev s_law_part : Stmt := top 31
abbrev s_law_works : Stmt := top 32
abbrev s_law_leans : Stmt := top 33
abbrev s_law_whole : Stmt := top 34
abbrev s_law_is_work : Stmt := top 35
abbrev s_law_is_lean : Stmt := top 36
abbrev s_law_rings : Stmt := top 37
abbrev s_law_due : Stmt := top 38
abbrev s_law_bent_work : Stmt := top 39
abbrev s_law_bent : Stmt := top 40
abbrev s_law_told : Stmt := top 41
abbrev s_law : Stmt := top 42
abbrev s_NoSheet : Stmt := inClass (top 7) 0
structure Ad where
  a_is_whole : Addr
  d_is_whole : FuncData
  a_is_tuple_of : Addr
  d_is_tuple_of : FuncData
  a_is_number_of : Addr
  d_is_number_of : FuncData
  a_copied : Addr
  d_copied : FuncData
  a_greatest_divisor : Addr
  d_greatest_divisor : FuncData
  a_is_ratio : Addr
  d_is_ratio : FuncData
  a_is_above_nought : Addr
  d_is_above_nought : FuncData
  a_is_sheet_shaped : Addr
  d_is_sheet_shaped : FuncData
  a_is_work : Addr
  d_is_work : FuncData
  a_is_lean : Addr
  d_is_lean : FuncData
  a_no_leanings : Addr
  d_no_leanings : FuncData
  a_add_lean : Addr
  d_add_lean : FuncData
  a_first_ring : Addr
  d_first_ring : FuncData
  a_right_sheet : Addr
  d_right_sheet : FuncData
  a_law_tape : Addr
  d_law_tape : FuncData
  a_law_draw : Addr
  d_law_draw : FuncData
  a_law_gcd : Addr
  d_law_gcd : FuncData
  a_law_ratio : Addr
  d_law_ratio : FuncData
  a_law_part : Addr
  d_law_part : FuncData
  a_law_works : Addr
  d_law_works : FuncData
  a_law_leans : Addr
  d_law_leans : FuncData
  a_law_whole : Addr
  d_law_whole : FuncData
  a_law_is_work : Addr
  d_law_is_work : FuncData
  a_law_is_lean : Addr
  d_law_is_lean : FuncData
  a_law_rings : Addr
  d_law_rings : FuncData
  a_law_due : Addr
  d_law_due : FuncData
  a_law_bent_work : Addr
  d_law_bent_work : FuncData
  a_law_bent : Addr
  d_law_bent : FuncData
  a_law_told : Addr
  d_law_told : FuncData
  a_law : Addr
  d_law : FuncData
  k_TURNS : Tok
  k_MOST_WORKS : Tok
  k_MOST_LEANS : Tok
  c_base : Addr
  c_NoSheet : Addr
  a_NoSheet : Addr
  d_NoSheet : FuncData
  c_PaceError : Addr
  c_NoPlan : Addr
  c_NoRule : Addr
  c_NoStretch : Addr
structure Txt (K : PySem.W.Frag) (mg : Str → Option Value) (t : Ad) : Prop where
  F_is_whole : Fun K "is_whole" "is_whole" s_is_whole t.a_is_whole t.d_is_whole
  b_is_whole : Binds K t.d_is_whole ["thing"] []
  m_is_whole : mg "is_whole" = some (.ref t.a_is_whole)
  F_is_tuple_of : Fun K "is_tuple_of" "is_tuple_of" s_is_tuple_of t.a_is_tuple_of t.d_is_tuple_of
  b_is_tuple_of : Binds K t.d_is_tuple_of ["thing", "length"] []
  m_is_tuple_of : mg "is_tuple_of" = some (.ref t.a_is_tuple_of)
  F_is_number_of : Fun K "is_number_of" "is_number_of" s_is_number_of t.a_is_number_of t.d_is_number_of
  b_is_number_of : Binds K t.d_is_number_of ["thing", "count"] []
  m_is_number_of : mg "is_number_of" = some (.ref t.a_is_number_of)
  F_copied : Fun K "copied" "copied" s_copied t.a_copied t.d_copied
  b_copied : Binds K t.d_copied ["thing"] []
  m_copied : mg "copied" = some (.ref t.a_copied)
  F_greatest_divisor : Fun K "greatest_divisor" "greatest_divisor" s_greatest_divisor t.a_greatest_divisor t.d_greatest_divisor
  b_greatest_divisor : Binds K t.d_greatest_divisor ["one", "other"] []
  m_greatest_divisor : mg "greatest_divisor" = some (.ref t.a_greatest_divisor)
  F_is_ratio : Fun K "is_ratio" "is_ratio" s_is_ratio t.a_is_ratio t.d_is_ratio
  b_is_ratio : Binds K t.d_is_ratio ["thing"] []
  m_is_ratio : mg "is_ratio" = some (.ref t.a_is_ratio)
  F_is_above_nought : Fun K "is_above_nought" "is_above_nought" s_is_above_nought t.a_is_above_nought t.d_is_above_nought
  b_is_above_nought : Binds K t.d_is_above_nought ["thing"] []
  m_is_above_nought : mg "is_above_nought" = some (.ref t.a_is_above_nought)
  F_is_sheet_shaped : Fun K "is_sheet_shaped" "is_sheet_shaped" s_is_sheet_shaped t.a_is_sheet_shaped t.d_is_sheet_shaped
  b_is_sheet_shaped : Binds K t.d_is_sheet_shaped ["thing"] []
  m_is_sheet_shaped : mg "is_sheet_shaped" = some (.ref t.a_is_sheet_shaped)
  F_is_work : Fun K "is_work" "is_work" s_is_work t.a_is_work t.d_is_work
  b_is_work : Binds K t.d_is_work ["thing"] []
  m_is_work : mg "is_work" = some (.ref t.a_is_work)
  F_is_lean : Fun K "is_lean" "is_lean" s_is_lean t.a_is_lean t.d_is_lean
  b_is_lean : Binds K t.d_is_lean ["thing", "count"] []
  m_is_lean : mg "is_lean" = some (.ref t.a_is_lean)
  F_no_leanings : Fun K "no_leanings" "no_leanings" s_no_leanings t.a_no_leanings t.d_no_leanings
  b_no_leanings : Binds K t.d_no_leanings ["count"] []
  m_no_leanings : mg "no_leanings" = some (.ref t.a_no_leanings)
  F_add_lean : Fun K "add_lean" "add_lean" s_add_lean t.a_add_lean t.d_add_lean
  b_add_lean : Binds K t.d_add_lean ["leanings", "lean"] []
  m_add_lean : mg "add_lean" = some (.ref t.a_add_lean)
  F_first_ring : Fun K "first_ring" "first_ring" s_first_ring t.a_first_ring t.d_first_ring
  b_first_ring : Binds K t.d_first_ring ["count", "leans"] []
  m_first_ring : mg "first_ring" = some (.ref t.a_first_ring)
  F_right_sheet : Fun K "right_sheet" "right_sheet" s_right_sheet t.a_right_sheet t.d_right_sheet
  b_right_sheet : Binds K t.d_right_sheet ["thing"] []
  m_right_sheet : mg "right_sheet" = some (.ref t.a_right_sheet)
  F_law_tape : Fun K "_law_tape" "_law_tape" s_law_tape t.a_law_tape t.d_law_tape
  b_law_tape : Binds K t.d_law_tape ["_law_script"] []
  m_law_tape : mg "_law_tape" = some (.ref t.a_law_tape)
  F_law_draw : Fun K "_law_draw" "_law_draw" s_law_draw t.a_law_draw t.d_law_draw
  b_law_draw : Binds K t.d_law_draw ["_law_tape_here", "_law_many"] []
  m_law_draw : mg "_law_draw" = some (.ref t.a_law_draw)
  F_law_gcd : Fun K "_law_gcd" "_law_gcd" s_law_gcd t.a_law_gcd t.d_law_gcd
  b_law_gcd : Binds K t.d_law_gcd ["_law_one", "_law_other"] []
  m_law_gcd : mg "_law_gcd" = some (.ref t.a_law_gcd)
  F_law_ratio : Fun K "_law_ratio" "_law_ratio" s_law_ratio t.a_law_ratio t.d_law_ratio
  b_law_ratio : Binds K t.d_law_ratio ["_law_top", "_law_bottom"] []
  m_law_ratio : mg "_law_ratio" = some (.ref t.a_law_ratio)
  F_law_part : Fun K "_law_part" "_law_part" s_law_part t.a_law_part t.d_law_part
  b_law_part : Binds K t.d_law_part ["_law_tape_here"] []
  m_law_part : mg "_law_part" = some (.ref t.a_law_part)
  F_law_works : Fun K "_law_works" "_law_works" s_law_works t.a_law_works t.d_law_works
  b_law_works : Binds K t.d_law_works ["_law_tape_here", "_law_most", "_law_end"] []
  m_law_works : mg "_law_works" = some (.ref t.a_law_works)
  F_law_leans : Fun K "_law_leans" "_law_leans" s_law_leans t.a_law_leans t.d_law_leans
  b_law_leans : Binds K t.d_law_leans ["_law_tape_here", "_law_many"] []
  m_law_leans : mg "_law_leans" = some (.ref t.a_law_leans)
  F_law_whole : Fun K "_law_whole" "_law_whole" s_law_whole t.a_law_whole t.d_law_whole
  b_law_whole : Binds K t.d_law_whole ["_law_thing"] []
  m_law_whole : mg "_law_whole" = some (.ref t.a_law_whole)
  F_law_is_work : Fun K "_law_is_work" "_law_is_work" s_law_is_work t.a_law_is_work t.d_law_is_work
  b_law_is_work : Binds K t.d_law_is_work ["_law_thing"] []
  m_law_is_work : mg "_law_is_work" = some (.ref t.a_law_is_work)
  F_law_is_lean : Fun K "_law_is_lean" "_law_is_lean" s_law_is_lean t.a_law_is_lean t.d_law_is_lean
  b_law_is_lean : Binds K t.d_law_is_lean ["_law_thing", "_law_many"] []
  m_law_is_lean : mg "_law_is_lean" = some (.ref t.a_law_is_lean)
  F_law_rings : Fun K "_law_rings" "_law_rings" s_law_rings t.a_law_rings t.d_law_rings
  b_law_rings : Binds K t.d_law_rings ["_law_leans_here", "_law_start", "_law_goal"] []
  m_law_rings : mg "_law_rings" = some (.ref t.a_law_rings)
  F_law_due : Fun K "_law_due" "_law_due" s_law_due t.a_law_due t.d_law_due
  b_law_due : Binds K t.d_law_due ["_law_thing"] []
  m_law_due : mg "_law_due" = some (.ref t.a_law_due)
  F_law_bent_work : Fun K "_law_bent_work" "_law_bent_work" s_law_bent_work t.a_law_bent_work t.d_law_bent_work
  b_law_bent_work : Binds K t.d_law_bent_work ["_law_tape_here", "_law_work"] []
  m_law_bent_work : mg "_law_bent_work" = some (.ref t.a_law_bent_work)
  F_law_bent : Fun K "_law_bent" "_law_bent" s_law_bent t.a_law_bent t.d_law_bent
  b_law_bent : Binds K t.d_law_bent ["_law_tape_here", "_law_sheet"] []
  m_law_bent : mg "_law_bent" = some (.ref t.a_law_bent)
  F_law_told : Fun K "_law_told" "_law_told" s_law_told t.a_law_told t.d_law_told
  b_law_told : Binds K t.d_law_told ["_law_thing"] []
  m_law_told : mg "_law_told" = some (.ref t.a_law_told)
  F_law : Fun K "law" "law" s_law t.a_law t.d_law
  b_law : Binds K t.d_law ["_law_script"] []
  m_law : mg "law" = some (.ref t.a_law)
  m_TURNS : mg "TURNS" = some (.int (24) t.k_TURNS)
  m_MOST_WORKS : mg "MOST_WORKS" = some (.int (20) t.k_MOST_WORKS)
  m_MOST_LEANS : mg "MOST_LEANS" = some (.int (40) t.k_MOST_LEANS)
  X_NoSheet : XC K t.c_NoSheet t.a_NoSheet (.ref t.c_base :: vMro)
  F_NoSheet : Fun K "__init__" "NoSheet.__init__" s_NoSheet t.a_NoSheet t.d_NoSheet
  b_NoSheet : Binds K t.d_NoSheet ["self", "word", "number"] []
  m_NoSheet : mg "NoSheet" = some (.ref t.c_NoSheet)
  n_NoSheet_word : NoAttr K t.c_NoSheet "word"
  n_NoSheet_number : NoAttr K t.c_NoSheet "number"
  g_NoSheet : GetX K t.c_NoSheet
  m_PaceError : mg "PaceError" = some (.ref t.c_PaceError)
  m_NoPlan : mg "NoPlan" = some (.ref t.c_NoPlan)
  m_NoRule : mg "NoRule" = some (.ref t.c_NoRule)
  m_NoStretch : mg "NoStretch" = some (.ref t.c_NoStretch)
  x_catch : PySem.W.exmOne K (.ref t.c_NoSheet) (.ref t.c_PaceError) = some true
  y_self : PySem.W.kitOne K (.ref t.c_NoSheet) (.ref t.c_NoSheet) = some true
  y_val : PySem.W.kitOne K (.ref t.c_NoSheet) (.type "ValueError") = some true
  y_not : PySem.W.kitAny K (.ref t.c_NoSheet) [.ref t.c_NoPlan, .ref t.c_NoRule, .ref t.c_NoStretch] = some false
  z_ValueError : mg "ValueError" = none
  z_abs : mg "abs" = none
  z_bool : mg "bool" = none
  z_enumerate : mg "enumerate" = none
  z_int : mg "int" = none
  z_isinstance : mg "isinstance" = none
  z_len : mg "len" = none
  z_list : mg "list" = none
  z_max : mg "max" = none
  z_min : mg "min" = none
  z_range : mg "range" = none
  z_repr : mg "repr" = none
  z_tuple : mg "tuple" = none
theorem ixN_nat {n t : Nat} (h : t < n) : ixN n (t : Int) = some t := by
  unfold ixN
  simp
  omega
def sp_greatest_divisor (_ : PySem.W.Frag) : Sp := fun vs H Q _ => ∃ a b : Int, vs = [.int a, .int b] ∧ Q (.int (Int.gcd a b : Nat)) H
def sp_is_whole (K : PySem.W.Frag) : Sp := fun vs H Q _ => ∃ (v : V) (d : PyData), vs = [v] ∧ Deep K H v d ∧ Q (.bl (wholeD d)) H
def sp_is_tuple_of (K : PySem.W.Frag) : Sp := fun vs H Q _ => ∃ (v : V) (d : PyData) (m : Nat), vs = [v, .int m] ∧ Deep K H v d ∧ Q (.bl (tupD m d)) H
def sp_is_ratio (K : PySem.W.Frag) : Sp := fun vs H Q _ => ∃ (v : V) (d : PyData), vs = [v] ∧ Deep K H v d ∧ Q (.bl (ratD d)) H
theorem wholeD_int {d : PyData} (h : wholeD d = true) : ∃ i, d = .int i := by
  cases d with
  | int i => exact ⟨i, rfl⟩
  | _ => cases h
theorem rat_x {x y : PyData} (h : wholeD x = false) : ratD (.tuple [x, y]) = false := by
  cases x with
  | int i => cases h
  | _ => rfl
theorem rat_y {x y : PyData} (h : wholeD y = false) : ratD (.tuple [x, y]) = false := by
  cases y with
  | int i => cases h
  | _ => cases x <;> rfl


/-! works, leans, who leans on whom -/
abbrev Wk := Nat × Nat × R
def WkV (K : PySem.W.Frag) (H : Hp) (v : V) (w : Wk) : Prop := ∃ p x, v = .ref p ∧ SqT K H p [.int w.1, .int w.2.1, x] ∧ RV K H x w.2.2
theorem WkV.mono {K : PySem.W.Frag} {H H' : Hp} {v : V} {w : Wk} (h : WkV K H v w) (t : Tst K H H') : WkV K H' v w := let ⟨p, x, e, s, r⟩ := h; ⟨p, x, e, t _ _ s, r.mono t⟩
def WksV (K : PySem.W.Frag) (H : Hp) (v : V) (ws : List Wk) : Prop := ∃ p xs, v = .ref p ∧ SqT K H p xs ∧ Als (WkV K H) xs ws
def dWk (w : Wk) : PyData := .tuple [.int w.1, .int w.2.1, dR w.2.2]
def dWks (ws : List Wk) : PyData := .tuple (ws.map dWk)
theorem WkV.deep {K : PySem.W.Frag} {H : Hp} {v : V} {w : Wk} (h : WkV K H v w) : Deep K H v (dWk w) := by
  obtain ⟨p, x, rfl, hS, rx⟩ := h
  exact .tup hS (.cons (.int _) (.cons (.int _) (.cons rx.deep .nil)))

def LnV (K : PySem.W.Frag) (H : Hp) (v : V) (e : Ln) : Prop := ∃ p, v = .ref p ∧ SqT K H p [.int (e.1 : Nat), .int (e.2 : Nat)]
theorem LnV.mono {K : PySem.W.Frag} {H H' : Hp} {v : V} {e : Ln} (h : LnV K H v e) (t : Tst K H H') : LnV K H' v e := let ⟨p, q, s⟩ := h; ⟨p, q, t _ _ s⟩
def LnsV (K : PySem.W.Frag) (H : Hp) (v : V) (es : List Ln) : Prop := ∃ p xs, v = .ref p ∧ SqT K H p xs ∧ Als (LnV K H) xs es
def rowB (n : Nat) (f : Nat → Bool) : List V := (List.range n).map fun j => V.bl (f j)
theorem rowB_len (n : Nat) (f : Nat → Bool) : (rowB n f).length = n := by unfold rowB; rw [List.length_map, List.length_range]
theorem rowB_at {n : Nat} {f : Nat → Bool} {j : Nat} (h : j < n) : (rowB n f)[j]? = some (.bl (f j)) := by
  unfold rowB
  rw [List.getElem?_map, List.getElem?_range h]
  rfl
theorem rowB_set {n : Nat} {f : Nat → Bool} {j : Nat} (h : j < n) : (rowB n f).set j (.bl true) = rowB n fun i => f i || decide (i = j) := by
  apply List.ext_getElem?
  intro i
  by_cases hi : i < n
  · rw [rowB_at hi]
    by_cases c : i = j
    · subst c
      rw [List.getElem?_set_self (by rw [rowB_len]; exact h), decide_eq_true rfl, Bool.or_true]
    · rw [List.getElem?_set_ne (fun z => c z.symm), rowB_at hi, decide_eq_false c, Bool.or_false]
  · rw [List.getElem?_eq_none (by rw [List.length_set, rowB_len]; omega), List.getElem?_eq_none (by rw [rowB_len]; omega)]
structure Mtx (H : Hp) (l : Addr) (rows : List Addr) (n : Nat) (L : Nat → Nat → Bool) : Prop where
  top : H l = some (.lst (rows.map V.ref))
  len : rows.length = n
  nd : rows.Nodup
  ne : l ∉ rows
  row : ∀ i r, rows[i]? = some r → H r = some (.lst (rowB n (L i)))
theorem Mtx.same {H H' : Hp} {l : Addr} {rows : List Addr} {n : Nat} {L : Nat → Nat → Bool} (h : Mtx H l rows n L) (s : Same H H') : Mtx H' l rows n L := ⟨s _ _ h.top, h.len, h.nd, h.ne, fun i r e => s _ _ (h.row i r e)⟩
theorem Mtx.congr {H : Hp} {l : Addr} {rows : List Addr} {n : Nat} {L L' : Nat → Nat → Bool} (h : Mtx H l rows n L) (e : ∀ i j, i < n → j < n → L i j = L' i j) : Mtx H l rows n L' := ⟨h.top, h.len, h.nd, h.ne, fun i r q => by
  rw [h.row i r q]
  have hi : i < n := by rw [← h.len]; exact (List.getElem?_eq_some_iff.mp q).1
  congr 2
  exact List.map_congr_left fun j hj => by rw [e i j hi (List.mem_range.mp hj)]⟩
theorem Mtx.set {H : Hp} {l : Addr} {rows : List Addr} {n : Nat} {L : Nat → Nat → Bool} (h : Mtx H l rows n L) {u v : Nat} {r : Addr} (e : rows[u]? = some r) (hv : v < n) : Mtx (upd H r (.lst ((rowB n (L u)).set v (.bl true)))) l rows n (fun i j => L i j || (decide (i = u) && decide (j = v))) := by
  have mr := List.mem_of_getElem? e
  refine ⟨by rw [upd_ne (show l ≠ r from fun z => h.ne (by rw [z]; exact mr))]; exact h.top, h.len, h.nd, h.ne, fun i r' e' => ?_⟩
  by_cases c : i = u
  · subst c
    rw [e] at e'
    cases e'
    rw [upd_same, rowB_set hv]
    congr 3
    funext j
    rw [decide_eq_true rfl, Bool.true_and]
  · have n1 : r' ≠ r := fun z => by
      subst z
      obtain ⟨h1, q1⟩ := List.getElem?_eq_some_iff.mp e
      obtain ⟨h2, q2⟩ := List.getElem?_eq_some_iff.mp e'
      have := List.pairwise_iff_getElem.mp h.nd
      rcases Nat.lt_trichotomy i u with z | z | z
      · exact this i u h2 h1 z (by rw [q1, q2])
      · exact c z
      · exact this u i h1 h2 z (by rw [q1, q2])
    rw [upd_ne n1, h.row i r' e']
    congr 3
    funext j
    rw [decide_eq_false c, Bool.false_and, Bool.or_false]
/-- all but some lists stays -/
structure Kp (rows : List Addr) (H H' : Hp) : Prop where
  keep : ∀ b o, b ∉ rows → H b = some o → H' b = some o
  ls : ∀ r ∈ rows, ∃ xs, H r = some (.lst xs)
  ls' : ∀ r ∈ rows, ∃ xs, H' r = some (.lst xs)
theorem Kp.trans {rows : List Addr} {H H1 H2 : Hp} (a : Kp rows H H1) (b : Kp rows H1 H2) : Kp rows H H2 := ⟨fun c o n e => b.keep c o n (a.keep c o n e), a.ls, b.ls'⟩
theorem Kp.same {rows : List Addr} {H H' : Hp} (s : Same H H') (h : ∀ r ∈ rows, ∃ xs, H r = some (.lst xs)) : Kp rows H H' := ⟨fun c o _ e => s _ _ e, h, fun r m => let ⟨xs, e⟩ := h r m; ⟨xs, s _ _ e⟩⟩
theorem Kp.up {rows : List Addr} {H : Hp} {r : Addr} (m : r ∈ rows) (h : ∀ r ∈ rows, ∃ xs, H r = some (.lst xs)) (ys : List V) : Kp rows H (upd H r (.lst ys)) := ⟨fun c o n e => by rw [upd_ne (show c ≠ r from fun z => n (by rw [z]; exact m))]; exact e, h, fun q mq => by
  by_cases c : q = r
  · subst c; exact ⟨_, upd_same⟩
  · rw [upd_ne c]; exact h q mq⟩
theorem Mtx.ls {H : Hp} {l : Addr} {rows : List Addr} {n : Nat} {L : Nat → Nat → Bool} (h : Mtx H l rows n L) : ∀ r ∈ rows, ∃ xs, H r = some (.lst xs) := fun r m => by
  obtain ⟨i, hi, e⟩ := List.mem_iff_getElem.mp m
  exact ⟨_, h.row i r (by rw [List.getElem?_eq_getElem hi, e])⟩
theorem Tst.kp {K : PySem.W.Frag} {rows : List Addr} {H H' : Hp} (k : Kp rows H H') : Tst K H H' := fun p xs h => by
  rcases h with h | h
  · have n : p ∉ rows := fun m => by
      obtain ⟨ys, e⟩ := k.ls p m
      rcases h with h | ⟨o, h⟩ <;> rw [e] at h <;> cases h
    rcases h with h | ⟨o, h⟩
    · exact .inl (.inl (k.keep _ _ n h))
    · exact .inl (.inr ⟨o, k.keep _ _ n h⟩)
  · exact .inr h
def sp_no_leanings (_ : PySem.W.Frag) : Sp := fun vs H Q _ => ∃ n : Nat, vs = [.int n] ∧ n ≤ 64 ∧ ∀ (l : Addr) (rows : List Addr) (H' : Hp), Same H H' → H l = none → (∀ r ∈ rows, H r = none) → Mtx H' l rows n (fun _ _ => false) → Q (.ref l) H'
def sp_add_lean (K : PySem.W.Frag) : Sp := fun vs H Q _ => ∃ (l : Addr) (v : V) (rows : List Addr) (n : Nat) (L : Nat → Nat → Bool) (a b : Nat), vs = [.ref l, v] ∧ Mtx H l rows n L ∧ LnV K H v (a, b) ∧ a < n ∧ b < n ∧ n ≤ 64 ∧ ∀ H', Kp rows H H' → Mtx H' l rows n (addM L a b) → Q .non H'
def sp_all_leanings (K : PySem.W.Frag) : Sp := fun vs H Q _ => ∃ (n : Nat) (v : V) (es : List Ln), vs = [.int n, v] ∧ LnsV K H v es ∧ EsOk n es ∧ n ≤ 64 ∧ ∀ (l : Addr) (rows : List Addr) (L : Nat → Nat → Bool) (H' : Hp), Same H H' → Mtx H' l rows n L → Clo n es L → Q (.ref l) H'

/-! sheets: what they are told to be -/
def sp_copied (_ : PySem.W.Frag) : Sp := fun vs H Q _ => ∃ v : V, vs = [v] ∧ ((∃ i, v = .int i) ∨ ∃ x, v = .str x) ∧ Q v H
def sp_NoSheet (_ : PySem.W.Frag) (C : Addr) : Sp := fun vs H Q _ => ∃ (a : Addr) (x : Str) (n : Int), vs = [.ref a, .str x, .int n] ∧ H a = some (exO a C none) ∧ ∀ (d : Addr) (H' : Hp), H d = none → d ≠ a → (∀ b o, b ≠ a → H b = some o → H' b = some o) → H' a = some (exO a C (some d)) → H' d = some (dO d [("number", .int n), ("word", .str x)]) → Q .non H'
def numD (m : Int) : PyData → Bool
  | .int i => decide (0 ≤ i) && decide (i < m)
  | _ => false
def aboveD : PyData → Bool
  | .tuple [.int a, .int b] => (decide (1 ≤ b) && decide (Int.gcd a b = 1)) && decide (0 < a)
  | _ => false
def leI : PyData → PyData → Bool
  | .int i, .int j => decide (i ≤ j)
  | _, _ => false
def neI : PyData → PyData → Bool
  | .int i, .int j => !decide (i = j)
  | _, _ => false
def workD : PyData → Bool
  | .tuple [a, b, c] => numD 24 a && (numD 24 b && (leI a b && aboveD c))
  | _ => false
def leanD (m : Int) : PyData → Bool
  | .tuple [a, b] => numD m a && (numD m b && neI a b)
  | _ => false
def shD : PyData → Bool
  | .tuple [.tuple ws, .tuple ls] => decide (ws.length ≤ 20) && decide (ls.length ≤ 40)
  | _ => false
def sp_is_number_of (K : PySem.W.Frag) : Sp := fun vs H Q _ => ∃ (v : V) (d : PyData) (m : Int), vs = [v, .int m] ∧ Deep K H v d ∧ Q (.bl (numD m d)) H
def sp_is_above_nought (K : PySem.W.Frag) : Sp := fun vs H Q _ => ∃ (v : V) (d : PyData), vs = [v] ∧ Deep K H v d ∧ Q (.bl (aboveD d)) H
def sp_is_work (K : PySem.W.Frag) : Sp := fun vs H Q _ => ∃ (v : V) (d : PyData), vs = [v] ∧ Deep K H v d ∧ Q (.bl (workD d)) H
def sp_is_lean (K : PySem.W.Frag) : Sp := fun vs H Q _ => ∃ (v : V) (d : PyData) (m : Int), vs = [v, .int m] ∧ Deep K H v d ∧ Q (.bl (leanD m d)) H
def sp_is_sheet_shaped (K : PySem.W.Frag) : Sp := fun vs H Q _ => ∃ (v : V) (d : PyData), vs = [v] ∧ Deep K H v d ∧ Q (.bl (shD d)) H
theorem numD_int {m : Int} {d : PyData} (h : numD m d = true) : ∃ i, d = .int i ∧ 0 ≤ i ∧ i < m := by
  cases d with
  | int i =>
    have h' : (decide (0 ≤ i) && decide (i < m)) = true := h
    rw [Bool.and_eq_true, decide_eq_true_iff, decide_eq_true_iff] at h'
    exact ⟨i, rfl, h'⟩
  | _ => cases h
theorem numD_no {m : Int} {d : PyData} (h : wholeD d = false) : numD m d = false := by
  cases d with
  | int i => cases h
  | _ => rfl
theorem ratD_two {d : PyData} (h : ratD d = true) : ∃ i j, d = .tuple [.int i, .int j] := by
  unfold ratD at h
  split at h
  · exact ⟨_, _, rfl⟩
  · cases h
theorem aboveD_no {d : PyData} (h : ratD d = false) : aboveD d = false := by
  cases c : aboveD d with
  | false => rfl
  | true =>
    unfold aboveD at c
    split at c
    · rename_i a b
      rw [Bool.and_eq_true] at c
      have h' : (decide (1 ≤ b) && decide (Int.gcd a b = 1)) = false := h
      rw [h'] at c
      cases c.1
    · cases c
theorem aboveD_yes {i j : Int} (h : ratD (.tuple [.int i, .int j]) = true) : aboveD (.tuple [.int i, .int j]) = decide (0 < i) := by
  show ((decide (1 ≤ j) && decide (Int.gcd i j = 1)) && decide (0 < i)) = _
  have h' : (decide (1 ≤ j) && decide (Int.gcd i j = 1)) = true := h
  rw [h', Bool.true_and]
theorem Deep.three {K : PySem.W.Frag} {H : Hp} {v : V} {d : PyData} (h : Deep K H v d) (c : tupD 3 d = true) : ∃ a x y z dx dy dz, v = .ref a ∧ d = .tuple [dx, dy, dz] ∧ SqT K H a [x, y, z] ∧ Deep K H x dx ∧ Deep K H y dy ∧ Deep K H z dz := by
  cases h with
  | tup e t =>
    have l := of_decide_eq_true (show decide (_ = 3) = true from c)
    cases t with
    | nil => cases l
    | cons a t =>
      cases t with
      | nil => cases l
      | cons b t =>
        cases t with
        | nil => cases l
        | cons c' t =>
          cases t with
          | nil => exact ⟨_, _, _, _, _, _, _, rfl, rfl, e, a, b, c'⟩
          | cons _ _ => simp at l
  | _ => cases c
theorem workD_no {d : PyData} (h : tupD 3 d = false) : workD d = false := by
  cases c : workD d with
  | false => rfl
  | true =>
    unfold workD at c
    split at c
    · cases h
    · cases c
theorem leanD_no {m : Int} {d : PyData} (h : tupD 2 d = false) : leanD m d = false := by
  cases c : leanD m d with
  | false => rfl
  | true =>
    unfold leanD at c
    split at c
    · cases h
    · cases c
theorem shD_no {d : PyData} (h : tupD 2 d = false) : shD d = false := by
  cases c : shD d with
  | false => rfl
  | true =>
    unfold shD at c
    split at c
    · cases h
    · cases c
theorem shD_no1 {x y : PyData} (h : ∀ ds, x ≠ .tuple ds) : shD (.tuple [x, y]) = false := by
  cases x <;> first | rfl | exact absurd rfl (h _)
theorem shD_no2 {x y : PyData} (h : ∀ ds, y ≠ .tuple ds) : shD (.tuple [x, y]) = false := by
  cases y <;> first | exact absurd rfl (h _) | (cases x <;> rfl)
/-! rings -/
def ringAt (es : List Ln) (k : Nat) : Prop := ∃ a b, es[k]? = some (a, b) ∧ Rch (es.take (k + 1)) a a
def RingIs (es : List Ln) : Option Nat → Prop
  | none => ∀ k, k < es.length → ¬ ringAt es k
  | some k => k < es.length ∧ ringAt es k ∧ ∀ j, j < k → ¬ ringAt es j
theorem RingIs.uniq {es : List Ln} {r q : Option Nat} (a : RingIs es r) (b : RingIs es q) : r = q := by
  cases r with
  | none =>
    cases q with
    | none => rfl
    | some k => exact absurd b.2.1 (a k b.1)
  | some j =>
    cases q with
    | none => exact absurd a.2.1 (b j a.1)
    | some k =>
      rcases Nat.lt_trichotomy j k with z | z | z
      · exact absurd a.2.1 (b.2.2 j z)
      · rw [z]
      · exact absurd b.2.1 (a.2.2 k z)
def optI : Option Nat → V
  | none => .non
  | some k => .int (k : Nat)
def sp_first_ring (K : PySem.W.Frag) : Sp := fun vs H Q _ => ∃ (n : Nat) (v : V) (es : List Ln), vs = [.int n, v] ∧ LnsV K H v es ∧ EsOk n es ∧ n ≤ 64 ∧ ∀ (r : Option Nat) (H' : Hp), RingIs es r → Same H H' → Q (optI r) H'
def lnD : PyData → Ln
  | .tuple [.int a, .int b] => (a.toNat, b.toNat)
  | _ => (0, 0)
def fstBad (ds : List PyData) (f : PyData → Bool) : Option Nat := (List.range ds.length).find? fun i => !f (ds.getD i .none)
def preD : PyData → Option (Str × Int)
  | .tuple [.tuple ws, .tuple ls] =>
    if (decide (ws.length ≤ 20) && decide (ls.length ≤ 40)) = true then
      match fstBad ws workD with
      | some i => some (Str.ofString "work", (i : Int))
      | none => match fstBad ls (leanD (ws.length : Int)) with
        | some i => some (Str.ofString "lean", (i : Int))
        | none => none
    else some (Str.ofString "shape", -1)
  | _ => some (Str.ofString "shape", -1)
def esD : PyData → List Ln
  | .tuple [.tuple _, .tuple ls] => ls.map lnD
  | _ => []
def DueIs (d : PyData) (r : Option (Str × Int)) : Prop := match preD d with
  | some x => r = some x
  | none => ∃ q, RingIs (esD d) q ∧ r = q.map fun k => (Str.ofString "ring", (k : Int))
theorem DueIs.uniq {d : PyData} {r q : Option (Str × Int)} (a : DueIs d r) (b : DueIs d q) : r = q := by
  unfold DueIs at a b
  split at a
  · rename_i e
    rw [e] at b
    rw [a, b]
  · rename_i e
    rw [e] at b
    obtain ⟨x, x1, rfl⟩ := a
    obtain ⟨y, y1, rfl⟩ := b
    rw [x1.uniq y1]
theorem preD_no {d : PyData} (h : shD d = false) : preD d = some (Str.ofString "shape", -1) := by
  unfold preD
  split
  · rename_i ws ls
    have h' : (decide (ws.length ≤ 20) && decide (ls.length ≤ 40)) = false := h
    rw [h']
    rfl
  · rfl
theorem fb_at {ds : List PyData} {f : PyData → Bool} {i : Nat} (hi : i < ds.length) (h : f ds[i] = false) (b : ∀ j, j < i → f (ds.getD j .none) = true) : fstBad ds f = some i := by
  unfold fstBad
  rw [List.find?_range_eq_some]
  refine ⟨by rw [List.getD_eq_getElem?_getD, List.getElem?_eq_getElem hi]; show (!f ds[i]) = true; rw [h]; rfl, List.mem_range.mpr hi, fun j hj => by rw [b j hj]; rfl⟩
theorem fb_no {ds : List PyData} {f : PyData → Bool} (b : ∀ j, j < ds.length → f (ds.getD j .none) = true) : fstBad ds f = none := by
  unfold fstBad
  rw [List.find?_eq_none]
  intro j hj
  rw [b j (List.mem_range.mp hj)]
  simp
theorem DeepAll.atI {K : PySem.W.Frag} {H : Hp} : ∀ {xs : List V} {ds : List PyData}, DeepAll K H xs ds → ∀ {i : Nat} {d : PyData}, ds[i]? = some d → ∃ x, xs[i]? = some x ∧ Deep K H x d
  | _, _, .cons h _, 0, d, e => by
    rw [List.getElem?_cons_zero] at e
    cases e
    exact ⟨_, rfl, h⟩
  | _, _, .cons _ t, i + 1, d, e => DeepAll.atI t (i := i) (by rw [List.getElem?_cons_succ] at e; exact e)
  | _, _, .nil, _, _, e => by cases e
theorem ln_of {K : PySem.W.Frag} {H : Hp} {v : V} {d : PyData} {n : Nat} (h : Deep K H v d) (l : leanD (n : Int) d = true) : LnV K H v (lnD d) ∧ (lnD d).1 < n ∧ (lnD d).2 < n := by
  have c2 : tupD 2 d = true := by
    cases c : tupD 2 d with
    | true => rfl
    | false => rw [leanD_no c] at l; cases l
  obtain ⟨p, x, y, dx, dy, rfl, rfl, hS, hx, hy⟩ := h.two c2
  have l' : (numD n dx && (numD n dy && neI dx dy)) = true := l
  rw [Bool.and_eq_true, Bool.and_eq_true] at l'
  obtain ⟨i, rfl, i0, i1⟩ := numD_int l'.1
  obtain ⟨j, rfl, j0, j1⟩ := numD_int l'.2.1
  cases hx
  cases hy
  refine ⟨⟨p, rfl, ?_⟩, by show i.toNat < n; omega, by show j.toNat < n; omega⟩
  show SqT K H p [.int (i.toNat : Nat), .int (j.toNat : Nat)]
  rw [Int.toNat_of_nonneg i0, Int.toNat_of_nonneg j0]
  exact hS
theorem lns_of {K : PySem.W.Frag} {H : Hp} {n : Nat} : ∀ {xs : List V} {ds : List PyData}, DeepAll K H xs ds → (∀ {d}, d ∈ ds → leanD (n : Int) d = true) → Als (LnV K H) xs (ds.map lnD) ∧ EsOk n (ds.map lnD)
  | _, _, .nil, _ => ⟨.nil, fun e he => by cases he⟩
  | _, _, .cons h t, l => by
    obtain ⟨a, b⟩ := lns_of t fun hd => l (List.mem_cons_of_mem _ hd)
    obtain ⟨c, c1, c2⟩ := ln_of h (l List.mem_cons_self)
    refine ⟨.cons c a, fun e he => ?_⟩
    rcases List.mem_cons.mp he with z | z
    · rw [z]; exact ⟨c1, c2⟩
    · exact b e z
def sp_right_sheet (K : PySem.W.Frag) (C : Addr) : Sp := fun vs H Q E => ∃ (v : V) (d : PyData), vs = [v] ∧ Deep K H v d ∧ (DueIs d none → ∀ H', Same H H' → Q (.bl true) H') ∧
  (∀ x n, DueIs d (some (x, n)) → ∀ (dd : Addr) (H' : Hp), Same H H' → H' dd = some (dO dd [("number", .int n), ("word", .str x)]) → E (.ref C) (some dd) H')
theorem del_same {H H' : Hp} {x : Addr} {o0 : HO} (hx : H x = none) (kp : ∀ b o, b ≠ x → upd H x o0 b = some o → H' b = some o) : Same H (del H' x) := fun b o e => by
  have nb : b ≠ x := ne_of_none e hx
  unfold del
  rw [if_neg nb]
  exact kp b o nb (by rw [upd_ne nb]; exact e)
theorem del_at {H : Hp} {x d : Addr} (n : d ≠ x) : del H x d = H d := by unfold del; rw [if_neg n]

def sp_law_gcd (_ : PySem.W.Frag) : Sp := fun vs H Q _ => ∃ a b : Int, vs = [.int a, .int b] ∧ 0 ≤ a ∧ 0 ≤ b ∧ Q (.int (Int.gcd a b : Nat)) H
abbrev sp_law_tape := sp_tape
def sp_law_draw (_ : PySem.W.Frag) : Sp := sp_draw
def newR (H : Hp) (Q : VK) (r : R) : Prop := ∀ p, H p = none → Q (.ref p) (upd H p (.tup [.int r.1, .int r.2]))
def toR (K : PySem.W.Frag) (H : Hp) (Q : VK) (r : R) : Prop := ∀ (v : V) (H' : Hp), Same H H' → RV K H' v r → Q v H'
def sp_ratio (_ : PySem.W.Frag) : Sp := fun vs H Q _ => ∃ a b : Int, vs = [.int a, .int b] ∧ b ≠ 0 ∧ b.natAbs < 2 ^ 4000 ∧ newR H Q (mkS a b)
abbrev sp_law_ratio := sp_ratio
theorem big_of {i : Int} {n : Nat} (h : i.natAbs < 2 ^ n) (hn : n ≤ 4000) : i.natAbs < 2 ^ 4000 := Nat.lt_of_lt_of_le h (Nat.pow_le_pow_right (by decide) hn)
structure PartOk (r : R) : Prop where
  bq : Bq D0 N0 r
  pos : 0 < r.1
theorem PartOk.wf {r : R} (h : PartOk r) : Wf 98 r := h.bq.wf (by decide) (by decide) (by decide)
def sp_law_part (K : PySem.W.Frag) : Sp := fun vs H Q _ => ∃ t s : Addr, vs = [.ref t] ∧ Tape H t s ∧ ∀ (v : V) (r : R) (H' : Hp), PartOk r → Step t H H' → Tape H' t s → RV K H' v r → Q v H'
theorem div30 {r : Int} (h0 : 0 ≤ r) (h1 : r < 30) : (1 + r) ∣ (D0 : Int) := by
  have z : ∀ k : Fin 30, (1 + ((k : Nat) : Int)) ∣ (D0 : Int) := by decide
  have := z ⟨r.toNat, by omega⟩
  rw [show (((⟨r.toNat, by omega⟩ : Fin 30) : Nat) : Int) = r by show ((r.toNat : Nat) : Int) = r; omega] at this
  exact this
theorem part_ok {a b : Int} (ha : 0 < a) (ha' : a ≤ 1000000007) (hb : 0 < b) (hd : b ∣ (D0 : Int)) : PartOk (mkR a b) := by
  refine ⟨bq_mk hb hd ?_, mkR_pos ha hb⟩
  have h1 : a.natAbs ≤ 1000000007 := by omega
  have h2 : 1 ≤ b.natAbs := by omega
  show a.natAbs ≤ 1000000007 * b.natAbs
  omega
def wk0 : Wk := (0, 0, (0, 1))
structure WkB (w : Wk) : Prop where
  l1 : w.1 < 24
  l2 : w.2.1 < 24
  am : Wf 98 w.2.2
def Rnk (n : Nat) (es : List Ln) : Prop := ∃ ps : Nat → Nat, (∀ i, i < n → ps i < n) ∧ ∀ a b, (a, b) ∈ es → ps a < ps b
theorem natL {K : PySem.W.Frag} {H : Hp} : ∀ ls : List Nat, DeepAll K H (ls.map fun i : Nat => V.int i) (ls.map fun i : Nat => PyData.int i)
  | [] => .nil
  | _ :: r => .cons (.int _) (natL r)
theorem natL_depth (ls : List Nat) : (PyData.list (ls.map fun i : Nat => PyData.int i)).depth ≤ 32 := by
  have : PyData.depthAll (ls.map fun i : Nat => PyData.int i) ≤ 8 := by
    induction ls with
    | nil => exact Nat.zero_le _
    | cons w ws ih => exact Nat.max_le.mpr ⟨Nat.zero_le _, ih⟩
  show PyData.depthAll _ + 1 ≤ 32
  omega
theorem wk_depth (ws : List Wk) : (PyData.list (ws.map dWk)).depth ≤ 32 := by
  have : PyData.depthAll (ws.map dWk) ≤ 8 := by
    induction ws with
    | nil => exact Nat.zero_le _
    | cons w ws ih => exact Nat.max_le.mpr ⟨(by show max 0 (max 0 (max (max 0 (max 0 0) + 1) 0)) + 1 ≤ 8; decide), ih⟩
  show PyData.depthAll (ws.map dWk) + 1 ≤ 32
  omega
theorem wk_lay (ws : List Wk) : (PyData.list (ws.map dWk)).canLay0 = true := layAll_of fun d hd => by
  obtain ⟨w, _, rfl⟩ := List.mem_map.mp hd
  rfl
def sp_law_works (K : PySem.W.Frag) : Sp := fun vs H Q _ => ∃ (t s : Addr) (m e : Nat), vs = [.ref t, .int m, .int e] ∧ Tape H t s ∧ m ≤ 20 ∧ 1 ≤ e ∧ e ≤ 24 ∧ ∀ (v : V) (ws : List Wk) (H' : Hp), Step t H H' → Tape H' t s → WksV K H' v ws → ws.length ≤ m → (∀ w ∈ ws, WkB w) → Q v H'
theorem cut_upto {xs : List V} (n : Nat) : cutV xs none (some (n : Int)) = xs.take (min n xs.length) := by
  unfold cutV
  rw [HT.sIx_nat, HT.sIx_none, Nat.sub_zero, List.drop_zero]
theorem rnk_of {n : Nat} {os : List Nat} (nd : os.Nodup) (hl : os.length = n) (all : ∀ x, x ∈ os ↔ x < n) : ∃ ps : Nat → Nat, (∀ i, i < n → ps i < n) ∧ ∀ j x, os[j]? = some x → ps x = j := by
  have h : ∀ x, ∃ j : Nat, x ∈ os → os[j]? = some x := fun x => by
    by_cases m : x ∈ os
    · obtain ⟨j, hj, e⟩ := List.mem_iff_getElem.mp m
      exact ⟨j, fun _ => by rw [List.getElem?_eq_getElem hj, e]⟩
    · exact ⟨0, fun z => absurd z m⟩
  refine ⟨fun x => Classical.choose (h x), fun i hi => ?_, fun j x e => ?_⟩
  · have := Classical.choose_spec (h i) ((all i).mpr hi)
    rw [← hl]
    exact (List.getElem?_eq_some_iff.mp this).1
  · have q := Classical.choose_spec (h x) (List.mem_of_getElem? e)
    obtain ⟨h1, e1⟩ := List.getElem?_eq_some_iff.mp q
    obtain ⟨h2, e2⟩ := List.getElem?_eq_some_iff.mp e
    have pw := List.pairwise_iff_getElem.mp nd
    rcases Nat.lt_trichotomy (Classical.choose (h x)) j with z | z | z
    · exact absurd (e1.trans e2.symm) (pw _ _ h1 h2 z)
    · exact z
    · exact absurd (e2.trans e1.symm) (pw _ _ h2 h1 z)
def natW (ls : List Nat) : List V := ls.map fun n : Nat => V.int n
theorem Als.takeI {α : Type} {P : V → α → Prop} : ∀ {xs : List V} {ds : List α} (n : Nat), Als P xs ds → Als P (xs.take n) (ds.take n)
  | _, _, 0, _ => by rw [List.take_zero, List.take_zero]; exact .nil
  | _, _, n + 1, .nil => by rw [List.take_nil, List.take_nil]; exact .nil
  | _, _, n + 1, .cons h t => .cons h (Als.takeI n t)
def sp_law_leans (K : PySem.W.Frag) : Sp := fun vs H Q _ => ∃ (t s : Addr) (n : Nat), vs = [.ref t, .int n] ∧ Tape H t s ∧ n ≤ 20 ∧ ∀ (v : V) (es : List Ln) (H' : Hp), Step t H H' → Tape H' t s → LnsV K H' v es → EsOk n es → Rnk n es → es.length ≤ 40 → Q v H'

theorem workD_iff {d : PyData} : workD d = true ↔ ∃ i j a b : Int, d = .tuple [.int i, .int j, .tuple [.int a, .int b]] ∧ 0 ≤ i ∧ i ≤ j ∧ j ≤ 23 ∧ 1 ≤ a ∧ 1 ≤ b ∧ Int.gcd a b = 1 := by
  constructor
  · intro h
    unfold workD at h
    split at h
    · rename_i x y z
      rw [Bool.and_eq_true, Bool.and_eq_true, Bool.and_eq_true] at h
      obtain ⟨h1, h2, h3, h4⟩ := h
      obtain ⟨i, rfl, i0, i1⟩ := numD_int h1
      obtain ⟨j, rfl, j0, j1⟩ := numD_int h2
      have h3' := of_decide_eq_true (show decide (i ≤ j) = true from h3)
      unfold aboveD at h4
      split at h4
      · rename_i a b
        rw [Bool.and_eq_true, Bool.and_eq_true, decide_eq_true_iff, decide_eq_true_iff, decide_eq_true_iff] at h4
        exact ⟨i, j, a, b, rfl, i0, h3', by omega, by omega, h4.1.1, h4.1.2⟩
      · cases h4
    · cases h
  · rintro ⟨i, j, a, b, rfl, h1, h2, h3, h4, h5, h6⟩
    show ((decide (0 ≤ i) && decide (i < 24)) && ((decide (0 ≤ j) && decide (j < 24)) && (decide (i ≤ j) && ((decide (1 ≤ b) && decide (Int.gcd a b = 1)) && decide (0 < a))))) = true
    rw [decide_eq_true h1, decide_eq_true (show i < 24 by omega), decide_eq_true (show 0 ≤ j by omega), decide_eq_true (show j < 24 by omega), decide_eq_true h2, decide_eq_true h5, decide_eq_true h6, decide_eq_true (show 0 < a by omega)]
    rfl
theorem workD_f {d : PyData} (h : ∀ i j a b : Int, d = .tuple [.int i, .int j, .tuple [.int a, .int b]] → ¬ (0 ≤ i ∧ i ≤ j ∧ j ≤ 23 ∧ 1 ≤ a ∧ 1 ≤ b ∧ Int.gcd a b = 1)) : workD d = false := by
  cases c : workD d with
  | false => rfl
  | true =>
    obtain ⟨i, j, a, b, e, z⟩ := workD_iff.mp c
    exact absurd z (h i j a b e)
theorem leanD_iff {m : Int} {d : PyData} : leanD m d = true ↔ ∃ i j : Int, d = .tuple [.int i, .int j] ∧ 0 ≤ i ∧ i < m ∧ 0 ≤ j ∧ j < m ∧ i ≠ j := by
  constructor
  · intro h
    unfold leanD at h
    split at h
    · rename_i x y
      rw [Bool.and_eq_true, Bool.and_eq_true] at h
      obtain ⟨h1, h2, h3⟩ := h
      obtain ⟨i, rfl, i0, i1⟩ := numD_int h1
      obtain ⟨j, rfl, j0, j1⟩ := numD_int h2
      refine ⟨i, j, rfl, i0, i1, j0, j1, fun z => ?_⟩
      have h3' : (!decide (i = j)) = true := h3
      rw [decide_eq_true z] at h3'
      cases h3'
    · cases h
  · rintro ⟨i, j, rfl, h1, h2, h3, h4, h5⟩
    show ((decide (0 ≤ i) && decide (i < m)) && ((decide (0 ≤ j) && decide (j < m)) && !decide (i = j))) = true
    rw [decide_eq_true h1, decide_eq_true h2, decide_eq_true h3, decide_eq_true h4, decide_eq_false h5]
    rfl
theorem leanD_f {m : Int} {d : PyData} (h : ∀ i j : Int, d = .tuple [.int i, .int j] → ¬ (0 ≤ i ∧ i < m ∧ 0 ≤ j ∧ j < m ∧ i ≠ j)) : leanD m d = false := by
  cases c : leanD m d with
  | false => rfl
  | true =>
    obtain ⟨i, j, e, z⟩ := leanD_iff.mp c
    exact absurd z (h i j e)
def sp_law_whole := sp_is_whole
def sp_law_is_work := sp_is_work
def sp_law_is_lean := sp_is_lean
def sp_law_rings (K : PySem.W.Frag) : Sp := fun vs H Q _ => ∃ (v : V) (es : List Ln) (a b : Nat), vs = [v, .int (a : Nat), .int (b : Nat)] ∧ LnsV K H v es ∧ es.length ≤ 40 ∧ ∀ (r : Bool) (H' : Hp), (r = true ↔ b = a ∨ Rch es b a) → Same H H' → Q (.bl r) H'
def dueV (r : Option (Str × Int)) : PyData := match r with
  | none => .none
  | some (x, n) => .tuple [.str x, .int n]
def sp_law_due (K : PySem.W.Frag) : Sp := fun vs H Q _ => ∃ (v : V) (d : PyData), vs = [v] ∧ Deep K H v d ∧ ∀ (r : Option (Str × Int)) (u : V) (H' : Hp), DueIs d r → Same H H' → Deep K H' u (dueV r) → Q u H'
def sp_law_told (K : PySem.W.Frag) : Sp := fun vs H Q _ => ∃ (v : V) (d : PyData), vs = [v] ∧ Deep K H v d ∧ ∀ (r : Option (Str × Int)) (u : V) (H' : Hp), DueIs d r → Same H H' → Deep K H' u (dueV r) → Q u H'
/-! who stands ahead, turn by turn -/
def Cl (es : List Ln) (S : List Nat) : Prop := ∀ e ∈ es, e.2 ∈ S → e.1 ∈ S
def cntS (es : List Ln) (S : List Nat) : Nat := es.countP fun e => S.contains e.1
def nxS (es : List Ln) (S : List Nat) : List Nat := S ++ (es.filter fun e => S.contains e.2 && !S.contains e.1).map (·.1)
theorem nx_mem {es : List Ln} {S : List Nat} {x : Nat} : x ∈ nxS es S ↔ x ∈ S ∨ ∃ e ∈ es, e.2 ∈ S ∧ e.1 ∉ S ∧ e.1 = x := by
  unfold nxS
  rw [List.mem_append, List.mem_map]
  constructor
  · rintro (h | ⟨e, h, rfl⟩)
    · exact .inl h
    · obtain ⟨h1, h2⟩ := List.mem_filter.mp h
      rw [Bool.and_eq_true, List.contains_iff_mem] at h2
      refine .inr ⟨e, h1, h2.1, fun z => ?_, rfl⟩
      rw [List.contains_iff_mem.mpr z] at h2
      cases h2.2
  · rintro (h | ⟨e, h1, h2, h3, rfl⟩)
    · exact .inl h
    · refine .inr ⟨e, List.mem_filter.mpr ⟨h1, ?_⟩, rfl⟩
      rw [Bool.and_eq_true, List.contains_iff_mem]
      refine ⟨h2, ?_⟩
      cases c : S.contains e.1 with
      | false => rfl
      | true => exact absurd (List.contains_iff_mem.mp c) h3
theorem cl_or {es : List Ln} {S : List Nat} {r : Nat} (h : Cl es S ∨ r ≤ cntS es S) : Cl es (nxS es S) ∨ r + 1 ≤ cntS es (nxS es S) := by
  by_cases c : Cl es S
  · left
    have same : ∀ x, x ∈ nxS es S ↔ x ∈ S := fun x => by
      rw [nx_mem]
      refine ⟨fun z => z.elim id fun ⟨e, h1, h2, h3, _⟩ => absurd (c e h1 h2) h3, .inl⟩
    exact fun e he q => (same _).mpr (c e he ((same _).mp q))
  · right
    have hr := h.resolve_left c
    have ex : ∃ e ∈ es, e.2 ∈ S ∧ e.1 ∉ S := by
      apply Classical.byContradiction
      intro n
      apply c
      intro e he q
      apply Classical.byContradiction
      intro n2
      exact n ⟨e, he, q, n2⟩
    obtain ⟨e0, m0, i0, n0⟩ := ex
    have mono : ∀ e ∈ es, S.contains e.1 = true → (nxS es S).contains e.1 = true := fun e _ q => List.contains_iff_mem.mpr (nx_mem.mpr (.inl (List.contains_iff_mem.mp q)))
    have lt : cntS es S < cntS es (nxS es S) := by
      unfold cntS
      clear hr h c
      have key : ∀ (fs : List Ln), (∀ e ∈ fs, e ∈ es) → e0 ∈ fs → fs.countP (fun e => S.contains e.1) < fs.countP (fun e => (nxS es S).contains e.1) := fun fs => by
        induction fs with
        | nil => intro _ z; cases z
        | cons f fs ih =>
          intro hf z
          rw [List.countP_cons, List.countP_cons]
          have le : fs.countP (fun e => S.contains e.1) ≤ fs.countP (fun e => (nxS es S).contains e.1) := List.countP_mono_left fun e he q => mono e (hf e (List.mem_cons_of_mem _ he)) q
          by_cases w : e0 = f
          · subst w
            have a1 : S.contains e0.1 = false := by
              cases q : S.contains e0.1 with
              | false => rfl
              | true => exact absurd (List.contains_iff_mem.mp q) n0
            have a2 : (nxS es S).contains e0.1 = true := List.contains_iff_mem.mpr (nx_mem.mpr (.inr ⟨e0, m0, i0, n0, rfl⟩))
            rw [a1, a2]
            simp only [Bool.false_eq_true, if_false, if_true]
            omega
          · have := ih (fun e he => hf e (List.mem_cons_of_mem _ he)) ((List.mem_cons.mp z).resolve_left w)
            have m := mono f (hf f List.mem_cons_self)
            by_cases q : S.contains f.1 = true
            · rw [if_pos q, if_pos (m q)]; omega
            · rw [if_neg q]; split <;> omega
      exact key es (fun _ h => h) m0
    omega
theorem cl_end {es : List Ln} {S : List Nat} (h : Cl es S ∨ es.length ≤ cntS es S) : Cl es S := by
  rcases h with h | h
  · exact h
  · have : es.countP (fun e => S.contains e.1) = es.length := Nat.le_antisymm List.countP_le_length h
    intro e he _
    exact List.contains_iff_mem.mp (List.countP_eq_length.mp this e he)
theorem cl_rch {es : List Ln} {S : List Nat} (c : Cl es S) {a : Nat} (ha : a ∈ S) {x : Nat} (h : Rch es x a) : x ∈ S := by
  induction h with
  | one m => exact c _ m ha
  | step m _ ih => exact c _ m (ih ha)
noncomputable def cloF (es : List Ln) (i j : Nat) : Bool := @decide (Rch es j i) (Classical.propDecidable _)
theorem cloF_ok (n : Nat) (es : List Ln) : Clo n es (cloF es) := fun i j _ _ => by
  unfold cloF
  exact @decide_eq_true_iff _ (Classical.propDecidable _)
theorem acy_up {n : Nat} {es : List Ln} {L : Nat → Nat → Bool} (clo : Clo n es L) (ac : ∀ i, i < n → L i i = false) {a b : Nat} (ha : a < n) (hb : b < n) (no : ¬ (b = a ∨ L a b = true)) : ∀ i, i < n → addM L a b i i = false := fun i hi => by
  have D : addM L a b i i = true ↔ L i i = true ∨ ((i = b ∨ L i b = true) ∧ (i = a ∨ L a i = true)) := by
    unfold addM
    rw [Bool.or_eq_true, Bool.and_eq_true, Bool.or_eq_true, Bool.or_eq_true, decide_eq_true_iff, decide_eq_true_iff]
  cases c : addM L a b i i with
  | false => rfl
  | true =>
    exfalso
    rcases D.mp c with z | ⟨z1, z2⟩
    · rw [ac i hi] at z; cases z
    · apply no
      rcases z1 with z1 | z1
      · rcases z2 with z2 | z2
        · exact .inl (by omega)
        · subst z1; exact .inr z2
      · rcases z2 with z2 | z2
        · subst z2; exact .inr z1
        · exact .inr ((clo a b ha hb).mpr (((clo i b hi hb).mp z1).trans ((clo a i ha hi).mp z2)))

theorem ring_iff {n : Nat} {es : List Ln} (ok : EsOk n es) {k a b : Nat} (hd : es[k]? = some (a, b)) (ac : ∀ i, i < n → ¬ Rch (es.take k) i i) : ringAt es k ↔ (b = a ∨ Rch (es.take k) b a) := by
  have e := ok _ (List.mem_of_getElem? hd)
  have ha : a < n := e.1
  have hb : b < n := e.2
  have ok' : EsOk n (es.take k) := fun e he => ok e (List.mem_of_mem_take he)
  have c2 := cloF_ok n (es.take k)
  have c4 : Clo n (es.take (k + 1)) (addM (cloF (es.take k)) a b) := by
    rw [List.take_add_one, hd]
    exact clo_add ok' c2 ha hb
  have D : addM (cloF (es.take k)) a b a a = true ↔ cloF (es.take k) a a = true ∨ ((a = b ∨ cloF (es.take k) a b = true) ∧ (a = a ∨ cloF (es.take k) a a = true)) := by
    unfold addM
    rw [Bool.or_eq_true, Bool.and_eq_true, Bool.or_eq_true, Bool.or_eq_true, decide_eq_true_iff, decide_eq_true_iff]
  have i1 : ringAt es k ↔ Rch (es.take (k + 1)) a a := by
    constructor
    · rintro ⟨a', b', hd', z⟩
      rw [hd] at hd'
      cases hd'
      exact z
    · exact fun z => ⟨a, b, hd, z⟩
  rw [i1, ← c4 a a ha ha, D, c2 a a ha ha, c2 a b ha hb]
  constructor
  · rintro (z | ⟨z, _⟩)
    · exact absurd z (ac a ha)
    · exact z.elim (fun w => .inl w.symm) .inr
  · exact fun z => .inr ⟨z.elim (fun w => .inl w.symm) .inr, .inl rfl⟩
theorem acy_next {n : Nat} {es : List Ln} (ok : EsOk n es) {k a b : Nat} (hd : es[k]? = some (a, b)) (ac : ∀ i, i < n → ¬ Rch (es.take k) i i) (no : ¬ (b = a ∨ Rch (es.take k) b a)) : ∀ i, i < n → ¬ Rch (es.take (k + 1)) i i := fun i hi z => by
  have e := ok _ (List.mem_of_getElem? hd)
  have ok' : EsOk n (es.take k) := fun e he => ok e (List.mem_of_mem_take he)
  have c2 := cloF_ok n (es.take k)
  have c4 : Clo n (es.take (k + 1)) (addM (cloF (es.take k)) a b) := by
    rw [List.take_add_one, hd]
    exact clo_add ok' c2 e.1 e.2
  have f := acy_up c2 (fun i hi => by
    cases q : cloF (es.take k) i i with
    | false => rfl
    | true => exact absurd ((c2 i i hi hi).mp q) (ac i hi)) e.1 e.2 (fun w => no (w.elim .inl fun q => .inr ((c2 a b e.1 e.2).mp q))) i hi
  rw [(c4 i i hi hi).mpr z] at f
  cases f

def hid (H : Hp) (t D : Addr) : Hp := del (del H t) D
theorem hd_same {t D : Addr} {H H' : Hp} (s : Same H H') : Same (hid H t D) (hid H' t D) := dl_same (dl_same s)
theorem hd_step {t D : Addr} {H H' : Hp} (S : Step t H H') : Same (hid H t D) (hid H' t D) := dl_same (dl_step S)
theorem hd_full {t D : Addr} {H : Hp} : Same (hid H t D) H := dl_full.trans dl_full
theorem hd_at {t D : Addr} {H : Hp} (n : D ≠ t) (h : ∃ ys, H D = some (.lst ys)) : ∃ ys, del H t D = some (.lst ys) := let ⟨ys, q⟩ := h; ⟨ys, by rw [del_at n]; exact q⟩
theorem hd_new {t D p : Addr} {H : Hp} {o : HO} (g : H p = none) (h : ∃ xs, H t = some (.lst xs)) (h2 : ∃ ys, H D = some (.lst ys)) : hid (upd H p o) t D p = some o := by
  unfold hid
  rw [del_at (show p ≠ D from fun z => by subst z; obtain ⟨_, q⟩ := h2; rw [g] at q; cases q)]
  exact dl_new g h
theorem hd_tst {K : PySem.W.Frag} {t D : Addr} {H : Hp} (h : ∃ xs, H t = some (.lst xs)) (n : D ≠ t) (h2 : ∃ ys, H D = some (.lst ys)) : Tst K H (hid H t D) := (dl_tst h).trans (dl_tst (hd_at n h2))
theorem hd_up {t D : Addr} {H : Hp} {o : HO} (n : D ≠ t) : Same (hid H t D) (hid (upd H D o) t D) := fun b x q => by
  unfold hid at q ⊢
  by_cases z : b = D
  · subst z; unfold del at q; rw [if_pos rfl] at q; cases q
  · rw [del_at z] at q ⊢
    by_cases y : b = t
    · subst y; unfold del at q; rw [if_pos rfl] at q; cases q
    · rw [del_at y] at q ⊢
      rw [upd_ne z]
      exact q
theorem nwO {t D p : Addr} {H : Hp} {o : HO} (g : H p = none) (h : ∃ xs, H t = some (.lst xs)) (h2 : ∃ ys, H D = some (.lst ys)) : Same H (upd H p o) ∧ upd H p o p = some o ∧ hid (upd H p o) t D p = some o := ⟨same_new g o, upd_same, hd_new g h h2⟩
theorem nwN {t p : Addr} {H : Hp} (g : H p = none) (h : ∃ xs, H t = some (.lst xs)) : p ≠ t := fun z => by subst z; obtain ⟨_, q⟩ := h; rw [g] at q; cases q
theorem tS {K : PySem.W.Frag} {H H' : Hp} (e : Same H H') {p : Addr} {xs : List V} (h : SqT K H p xs) : SqT K H' p xs := Tst.same e _ _ h
theorem tP {K : PySem.W.Frag} {t : Addr} {H H' : Hp} (e : Step t H H') {p : Addr} {xs : List V} (h : SqT K H p xs) : SqT K H' p xs := Tst.step e _ _ h
theorem dS {K : PySem.W.Frag} {t D : Addr} {H H' : Hp} (e : Same H H') {v : V} {d : PyData} (h : Deep K (hid H t D) v d) : Deep K (hid H' t D) v d := h.same (hd_same e)
theorem dP {K : PySem.W.Frag} {t D : Addr} {H H' : Hp} (e : Step t H H') {v : V} {d : PyData} (h : Deep K (hid H t D) v d) : Deep K (hid H' t D) v d := h.same (hd_step e)
theorem aS {K : PySem.W.Frag} {t D : Addr} {H H' : Hp} (e : Same H H') {v : List V} {d : List PyData} (h : DeepAll K (hid H t D) v d) : DeepAll K (hid H' t D) v d := DeepAll.same (hd_same e) h
theorem aP {K : PySem.W.Frag} {t D : Addr} {H H' : Hp} (e : Step t H H') {v : List V} {d : List PyData} (h : DeepAll K (hid H t D) v d) : DeepAll K (hid H' t D) v d := DeepAll.same (hd_step e) h
theorem dpT {K : PySem.W.Frag} {H : Hp} {p : Addr} {xs : List V} {ds : List PyData} (h : H p = some (.tup xs)) (a : DeepAll K H xs ds) : Deep K H (.ref p) (.tuple ds) := .tup (SqT.of h) a
theorem dpL {K : PySem.W.Frag} {H : Hp} {p : Addr} {xs : List V} {ds : List PyData} (h : H p = some (.lst xs)) (a : DeepAll K H xs ds) : Deep K H (.ref p) (.list ds) := .lst (SqL.of h) a
theorem gW {k n k' n' : Nat} {d : PyData} (h : Gd k n d) (hk : k ≤ k' := by decide) (hn : n ≤ n' := by decide) : Gd k' n' d := h.mono hk hn
theorem gN {k n : Nat} : ∀ d ∈ ([] : List PyData), Gd k n d := fun d hd => by cases hd
theorem gC {k n : Nat} {e : PyData} {ds : List PyData} (h : Gd k n e) (t : ∀ d ∈ ds, Gd k n d) : ∀ d ∈ e :: ds, Gd k n d := fun d hd => (List.mem_cons.mp hd).elim (fun z => z ▸ h) (t d)
theorem gTu {k n : Nat} {ds : List PyData} (m N : Nat) (h : ∀ d ∈ ds, Gd k n d) (hm : ds.length ≤ m := by exact Nat.le_refl _) (hN : (n + 3) * m + 8 ≤ N := by decide) : Gd (k + 1) N (.tuple ds) := Gd.tup (m := m) h hm hN
theorem gLs {k n : Nat} {ds : List PyData} (m N : Nat) (h : ∀ d ∈ ds, Gd k n d) (hm : ds.length ≤ m := by exact Nat.le_refl _) (hN : (n + 3) * m + 8 ≤ N := by decide) : Gd (k + 1) N (.list ds) := Gd.lst (m := m) h hm hN
def sp_law_bent_work (K : PySem.W.Frag) : Sp := fun vs H Q _ => ∃ (t s D : Addr) (v : V) (w : Wk), vs = [.ref t, v] ∧ Tape H t s ∧ D ≠ t ∧ (∃ ys, H D = some (.lst ys)) ∧ WkV K H v w ∧ WkB w ∧ ∀ (u : V) (d : PyData) (H' : Hp), Step t H H' → Tape H' t s → Deep K (hid H' t D) u d → Gd 2 41000 d → Q u H'

def dLnB (e : Ln) : PyData := .tuple [.int (e.1 : Nat), .int (e.2 : Nat)]
theorem LnV.deepB {K : PySem.W.Frag} {H : Hp} {v : V} {e : Ln} (h : LnV K H v e) : Deep K H v (dLnB e) := by
  obtain ⟨p, rfl, hS⟩ := h
  exact .tup hS (.cons (.int _) (.cons (.int _) .nil))
theorem small24 {n : Nat} (h : n < 24) : ((n : Int)).natAbs < 2 ^ 230 := Nat.lt_of_lt_of_le (show ((n : Int)).natAbs < 2 ^ 5 by show _ < 32; omega) (Nat.pow_le_pow_right (by decide) (by decide))
theorem eqv_cons {α : Type} {f : α → PyData} {l : List α} (h : l ≠ []) : PyData.eqv (.tuple (l.map f)) (.tuple []) = false := by
  cases l with
  | nil => exact absurd rfl h
  | cons _ _ => rfl
theorem gd_wkB {w : Wk} (o : WkB w) : Gd 2 31000 (dWk w) := Gd.tup (m := 3) (n := 10014) (fun d hd => by
  simp only [List.mem_cons, List.not_mem_nil, or_false] at hd
  rcases hd with rfl | rfl | rfl
  · exact (gd_int (small24 o.l1)).mono (by decide) (by decide)
  · exact (gd_int (small24 o.l2)).mono (by decide) (by decide)
  · exact (gd_dR (o.am.mono (by decide))).mono (by decide) (by decide)) (Nat.le_refl _) (by decide)
theorem gd_lnB {n : Nat} {e : Ln} (o : e.1 < n ∧ e.2 < n) (hn : n ≤ 20) : Gd 1 12000 (dLnB e) := Gd.tup (m := 2) (n := 5000) (k := 0) (fun d hd => by
    simp only [List.mem_cons, List.not_mem_nil, or_false] at hd
    rcases hd with rfl | rfl
    · exact gd_int (small24 (by omega))
    · exact gd_int (small24 (by omega))) (Nat.le_refl _) (by decide)
structure ShB (K : PySem.W.Frag) (H : Hp) (p pw pl : Addr) (xs ys : List V) (ws : List Wk) (es : List Ln) : Prop where
  s : SqT K H p [.ref pw, .ref pl]
  w : SqT K H pw xs
  aw : Als (WkV K H) xs ws
  l : SqT K H pl ys
  al : Als (LnV K H) ys es
  n20 : ws.length ≤ 20
  n40 : es.length ≤ 40
  ok : ∀ w ∈ ws, WkB w
  es : EsOk ws.length es
theorem ShB.mono {K : PySem.W.Frag} {H H' : Hp} {p pw pl : Addr} {xs ys : List V} {ws : List Wk} {es : List Ln} (h : ShB K H p pw pl xs ys ws es) (t : Tst K H H') : ShB K H' p pw pl xs ys ws es := ⟨t _ _ h.s, t _ _ h.w, h.aw.mono fun _ _ q => q.mono t, t _ _ h.l, h.al.mono fun _ _ q => q.mono t, h.n20, h.n40, h.ok, h.es⟩
theorem ShB.deep {K : PySem.W.Frag} {H : Hp} {p pw pl : Addr} {xs ys : List V} {ws : List Wk} {es : List Ln} (h : ShB K H p pw pl xs ys ws es) : Deep K H (.ref p) (.tuple [.tuple (ws.map dWk), .tuple (es.map dLnB)]) :=
  .tup h.s (.cons (.tup h.w (h.aw.deep fun _ _ q => q.deep)) (.cons (.tup h.l (h.al.deep fun _ _ q => q.deepB)) .nil))
theorem ShB.gd {K : PySem.W.Frag} {H : Hp} {p pw pl : Addr} {xs ys : List V} {ws : List Wk} {es : List Ln} (h : ShB K H p pw pl xs ys ws es) : Gd 8 8000000 (.tuple [.tuple (ws.map dWk), .tuple (es.map dLnB)]) :=
  (Gd.tup (m := 2) (k := 3) (n := 620068) (N := 1240150) (fun d hd => by
    simp only [List.mem_cons, List.not_mem_nil, or_false] at hd
    rcases hd with rfl | rfl
    · exact Gd.tup (m := 20) (fun d hd => by
        obtain ⟨w, hw, rfl⟩ := List.mem_map.mp hd
        exact gd_wkB (h.ok w hw)) (by rw [List.length_map]; exact h.n20) (by decide)
    · exact (Gd.tup (m := 40) (k := 1) (n := 12000) (N := 480128) (fun d hd => by
        obtain ⟨w, hw, rfl⟩ := List.mem_map.mp hd
        exact gd_lnB (h.es w hw) h.n20) (by rw [List.length_map]; exact h.n40) (by decide)).mono (by decide) (by decide)) (Nat.le_refl _) (by decide)).mono (by decide) (by decide)
def sp_law_bent (K : PySem.W.Frag) : Sp := fun vs H Q _ => ∃ (t s D p pw pl : Addr) (xs ys : List V) (ws : List Wk) (es : List Ln), vs = [.ref t, .ref p] ∧ Tape H t s ∧ D ≠ t ∧ (∃ ys, H D = some (.lst ys)) ∧ ShB K H p pw pl xs ys ws es ∧ ∀ (u : V) (d : PyData) (H' : Hp), Step t H H' → Tape H' t s → Deep K (hid H' t D) u d → Gd 8 8000000 d → Q u H'

theorem gd_word {x : Str} {n : Int} (hx : x = Str.ofString "shape" ∨ x = Str.ofString "work" ∨ x = Str.ofString "lean" ∨ x = Str.ofString "ring") (hn : n.natAbs < 100) : Gd 1 20000 (.tuple [.str x, .int n]) := Gd.tup (m := 2) (n := 5000) (k := 0) (fun d hd => by
  simp only [List.mem_cons, List.not_mem_nil, or_false] at hd
  rcases hd with rfl | rfl
  · rcases hx with rfl | rfl | rfl | rfl <;> exact gd_str (by decide +kernel) (by decide +kernel) (by decide +kernel)
  · exact gd_int (Nat.lt_of_lt_of_le hn (by decide))) (Nat.le_refl _) (by decide)
theorem fb_lt {ds : List PyData} {f : PyData → Bool} {i : Nat} (h : fstBad ds f = some i) : i < ds.length := List.mem_range.mp (List.mem_of_find?_eq_some h)
theorem gd_due {d : PyData} {r : Option (Str × Int)} (h : DueIs d r) : Gd 1 20000 (dueV r) := by
  unfold DueIs at h
  split at h
  · rename_i x e
    subst h
    unfold preD at e
    split at e
    · rename_i ws ls
      split at e
      · rename_i c
        rw [Bool.and_eq_true, decide_eq_true_iff, decide_eq_true_iff] at c
        split at e
        · rename_i i hi
          cases e
          have := fb_lt hi
          exact gd_word (.inr (.inl rfl)) (by omega)
        · split at e
          · rename_i i hi
            cases e
            have := fb_lt hi
            exact gd_word (.inr (.inr (.inl rfl))) (by omega)
          · cases e
      · cases e
        exact gd_word (.inl rfl) (by decide)
    · cases e
      exact gd_word (.inl rfl) (by decide)
  · rename_i e
    obtain ⟨q, ri, rfl⟩ := h
    cases q with
    | none => exact gd_none.mono (by decide) (by decide)
    | some k =>
      have hk : k < (esD d).length := ri.1
      have l40 : (esD d).length ≤ 40 := by
        unfold preD at e
        split at e
        · rename_i ws ls
          split at e
          · rename_i c
            rw [Bool.and_eq_true, decide_eq_true_iff, decide_eq_true_iff] at c
            show (ls.map lnD).length ≤ 40
            rw [List.length_map]
            exact c.2
          · cases e
        · cases e
      exact gd_word (.inr (.inr (.inr rfl))) (by omega)
def sp_law (K : PySem.W.Frag) : Sp := fun vs H Q _ => ∃ (a : Addr) (ns : List Int), vs = [.ref a] ∧ SqL K H a (ns.map V.int) ∧ ns.length ≤ 63 ∧ ∀ H', Q (.bl true) H'
theorem sc_is_whole : FnScope ["thing"] ["thing"] (defScope s_is_whole) := ⟨rfl, rfl, rfl, by decide +kernel, rfl, by decide +kernel, by decide +kernel⟩
theorem sc_is_tuple_of : FnScope ["thing", "length"] ["thing", "length"] (defScope s_is_tuple_of) := ⟨rfl, rfl, rfl, by decide +kernel, rfl, by decide +kernel, by decide +kernel⟩
theorem sc_is_number_of : FnScope ["thing", "count"] ["thing", "count"] (defScope s_is_number_of) := ⟨rfl, rfl, rfl, by decide +kernel, rfl, by decide +kernel, by decide +kernel⟩
theorem sc_copied : FnScope ["thing"] ["thing"] (defScope s_copied) := ⟨rfl, rfl, rfl, by decide +kernel, rfl, by decide +kernel, by decide +kernel⟩
theorem sc_greatest_divisor : FnScope ["one", "other", "high", "low", "rest"] ["one", "other"] (defScope s_greatest_divisor) := ⟨rfl, rfl, rfl, by decide +kernel, rfl, by decide +kernel, by decide +kernel⟩
theorem sc_is_ratio : FnScope ["thing", "top", "bottom"] ["thing"] (defScope s_is_ratio) := ⟨rfl, rfl, rfl, by decide +kernel, rfl, by decide +kernel, by decide +kernel⟩
theorem sc_is_above_nought : FnScope ["thing"] ["thing"] (defScope s_is_above_nought) := ⟨rfl, rfl, rfl, by decide +kernel, rfl, by decide +kernel, by decide +kernel⟩
theorem sc_is_sheet_shaped : FnScope ["thing", "works", "leans"] ["thing"] (defScope s_is_sheet_shaped) := ⟨rfl, rfl, rfl, by decide +kernel, rfl, by decide +kernel, by decide +kernel⟩
theorem sc_is_work : FnScope ["thing", "first", "last"] ["thing"] (defScope s_is_work) := ⟨rfl, rfl, rfl, by decide +kernel, rfl, by decide +kernel, by decide +kernel⟩
theorem sc_is_lean : FnScope ["thing", "count", "ahead", "behind"] ["thing", "count"] (defScope s_is_lean) := ⟨rfl, rfl, rfl, by decide +kernel, rfl, by decide +kernel, by decide +kernel⟩
theorem sc_no_leanings : FnScope ["count"] ["count"] (defScope s_no_leanings) := ⟨rfl, rfl, rfl, by decide +kernel, rfl, by decide +kernel, by decide +kernel⟩
theorem sc_add_lean : FnScope ["leanings", "lean", "ahead", "behind", "numbers", "bases", "leaners", "leaner", "base"] ["leanings", "lean"] (defScope s_add_lean) := ⟨rfl, rfl, rfl, by decide +kernel, rfl, by decide +kernel, by decide +kernel⟩
theorem sc_first_ring : FnScope ["count", "leans", "leanings", "number", "lean"] ["count", "leans"] (defScope s_first_ring) := ⟨rfl, rfl, rfl, by decide +kernel, rfl, by decide +kernel, by decide +kernel⟩
theorem sc_right_sheet : FnScope ["thing", "works", "leans", "number", "work", "lean", "ring"] ["thing"] (defScope s_right_sheet) := ⟨rfl, rfl, rfl, by decide +kernel, rfl, by decide +kernel, by decide +kernel⟩
theorem sc_law_tape : FnScope ["_law_script"] ["_law_script"] (defScope s_law_tape) := ⟨rfl, rfl, rfl, by decide +kernel, rfl, by decide +kernel, by decide +kernel⟩
theorem sc_law_draw : FnScope ["_law_tape_here", "_law_many", "_law_script", "_law_spot", "_law_left", "_law_cell", "_law_mixed"] ["_law_tape_here", "_law_many"] (defScope s_law_draw) := ⟨rfl, rfl, rfl, by decide +kernel, rfl, by decide +kernel, by decide +kernel⟩
theorem sc_law_gcd : FnScope ["_law_one", "_law_other"] ["_law_one", "_law_other"] (defScope s_law_gcd) := ⟨rfl, rfl, rfl, by decide +kernel, rfl, by decide +kernel, by decide +kernel⟩
theorem sc_law_ratio : FnScope ["_law_top", "_law_bottom", "_law_by"] ["_law_top", "_law_bottom"] (defScope s_law_ratio) := ⟨rfl, rfl, rfl, by decide +kernel, rfl, by decide +kernel, by decide +kernel⟩
theorem sc_law_part : FnScope ["_law_tape_here", "_law_tops", "_law_bottoms"] ["_law_tape_here"] (defScope s_law_part) := ⟨rfl, rfl, rfl, by decide +kernel, rfl, by decide +kernel, by decide +kernel⟩
theorem sc_law_works : FnScope ["_law_tape_here", "_law_most", "_law_end", "_law_found", "_law_k", "_law_first", "_law_last"] ["_law_tape_here", "_law_most", "_law_end"] (defScope s_law_works) := ⟨rfl, rfl, rfl, by decide +kernel, rfl, by decide +kernel, by decide +kernel⟩
theorem sc_law_leans : FnScope ["_law_tape_here", "_law_many", "_law_order", "_law_number", "_law_found", "_law_k", "_law_at", "_law_to"] ["_law_tape_here", "_law_many"] (defScope s_law_leans) := ⟨rfl, rfl, rfl, by decide +kernel, rfl, by decide +kernel, by decide +kernel⟩
theorem sc_law_whole : FnScope ["_law_thing"] ["_law_thing"] (defScope s_law_whole) := ⟨rfl, rfl, rfl, by decide +kernel, rfl, by decide +kernel, by decide +kernel⟩
theorem sc_law_is_work : FnScope ["_law_thing", "_law_part_here"] ["_law_thing"] (defScope s_law_is_work) := ⟨rfl, rfl, rfl, by decide +kernel, rfl, by decide +kernel, by decide +kernel⟩
theorem sc_law_is_lean : FnScope ["_law_thing", "_law_many"] ["_law_thing", "_law_many"] (defScope s_law_is_lean) := ⟨rfl, rfl, rfl, by decide +kernel, rfl, by decide +kernel, by decide +kernel⟩
theorem sc_law_rings : FnScope ["_law_leans_here", "_law_start", "_law_goal", "_law_seen", "_law_turn"] ["_law_leans_here", "_law_start", "_law_goal"] (defScope s_law_rings) := ⟨rfl, rfl, rfl, by decide +kernel, rfl, by decide +kernel, by decide +kernel⟩
theorem sc_law_due : FnScope ["_law_thing", "_law_works_here", "_law_leans_here", "_law_n"] ["_law_thing"] (defScope s_law_due) := ⟨rfl, rfl, rfl, by decide +kernel, rfl, by decide +kernel, by decide +kernel⟩
theorem sc_law_bent_work : FnScope ["_law_tape_here", "_law_work", "_law_first", "_law_last", "_law_amount", "_law_odd", "_law_some"] ["_law_tape_here", "_law_work"] (defScope s_law_bent_work) := ⟨rfl, rfl, rfl, by decide +kernel, rfl, by decide +kernel, by decide +kernel⟩
theorem sc_law_bent : FnScope ["_law_tape_here", "_law_sheet", "_law_works_here", "_law_leans_here", "_law_way", "_law_some", "_law_at", "_law_many", "_law_odd", "_law_one", "_law_other", "_law_third"] ["_law_tape_here", "_law_sheet"] (defScope s_law_bent) := ⟨rfl, rfl, rfl, by decide +kernel, rfl, by decide +kernel, by decide +kernel⟩
theorem sc_law_told : FnScope ["_law_thing", "_law_found", "e"] ["_law_thing"] (defScope s_law_told) := ⟨rfl, rfl, rfl, by decide +kernel, rfl, by decide +kernel, by decide +kernel⟩
theorem sc_law : FnScope ["_law_script", "_law_tape_here", "_law_k", "_law_works_here", "_law_sheet", "_law_thing", "_law_kept"] ["_law_script"] (defScope s_law) := ⟨rfl, rfl, rfl, by decide +kernel, rfl, by decide +kernel, by decide +kernel⟩
theorem sc_NoSheet : FnScope ["self", "word", "number"] ["self", "word", "number"] (defScope s_NoSheet) := ⟨rfl, rfl, rfl, by decide +kernel, rfl, by decide +kernel, by decide +kernel⟩
end My
namespace My
open PySem L2 B PyProof.Rows
section
variable {P : Program} {w : World} {K : PySem.W.Frag} {mg : Str → Option Value} {base : Heap} {t : Ad}
theorem ok_is_whole (T : Txt K mg t) : FnOk P w K mg base CX0 1 t.a_is_whole t.d_is_whole ["thing"] (sp_is_whole K) := by
  refine T.F_is_whole.ok sc_is_whole (fun vs H Q E h => ?_) (fun cdv A outer s H vs Q E hr h => ?_)
  · obtain ⟨_, _, rfl, _⟩ := h; rfl
  obtain ⟨v, d, rfl, hD, k⟩ := h
  obtain ⟨b, c, e1, e2, e3⟩ := isi_int hD
  refine QSs.ok (qss_one (qs_ret (qe_and (qe_callB call_isiD (by rfl) T.z_isinstance PyProof.Rows.boot_isinstance (qa_cons (qv 0) (qa_cons (qe_bltn (v := V.ty "int") rfl T.z_int PyProof.Rows.boot_int rfl) qa_nil star_name) star_name)) (qe_one (qe_not (qe_callB call_isiD (by rfl) T.z_isinstance PyProof.Rows.boot_isinstance (qa_cons (qv 0) (qa_cons (qe_bltn (v := V.ty "bool") rfl T.z_bool PyProof.Rows.boot_bool rfl) qa_nil star_name) star_name))))))) ?_
  rw [e3] at k
  refine ⟨_, rfl, _, _, _, _, rfl, hD, e1, _, rfl, ?_⟩
  cases b with
  | false => exact k
  | true => exact ⟨_, rfl, _, _, _, _, rfl, hD, e2, _, rfl, k⟩
theorem ok_is_tuple_of (T : Txt K mg t) : FnOk P w K mg base CX0 1 t.a_is_tuple_of t.d_is_tuple_of ["thing", "length"] (sp_is_tuple_of K) := by
  refine T.F_is_tuple_of.ok sc_is_tuple_of (fun vs H Q E h => ?_) (fun cdv A outer s H vs Q E hr h => ?_)
  · obtain ⟨_, _, _, rfl, _⟩ := h; rfl
  obtain ⟨v, d, m, rfl, hD, k⟩ := h
  refine QSs.ok (qss_one (qs_ret (qe_and (qe_callB call_isiD (by rfl) T.z_isinstance PyProof.Rows.boot_isinstance (qa_cons (qv 0) (qa_cons (qe_bltn (v := V.ty "tuple") rfl T.z_tuple PyProof.Rows.boot_tuple rfl) qa_nil star_name) star_name)) (qe_one (qe_cmpR op_eq (qe_callB call_len_seq (by rfl) T.z_len PySem.boot_len (qa_cons (qv 0) qa_nil star_name)) (qv 1) (nomark _)))))) ?_
  rcases isi_tup hD with ⟨e, p, xs, ds, rfl, rfl, hS, hA⟩ | ⟨e, no⟩
  · refine ⟨_, rfl, _, _, _, _, rfl, hD, e, _, rfl, ?_⟩
    refine ⟨_, rfl, p, _, rfl, .inr hS, _, rfl, rfl, ?_⟩
    have q : decide ((V.int xs.length : V) = .int m) = tupD m (.tuple ds) := by
      show _ = decide (ds.length = m)
      rw [hA.len]
      refine decide_eq_decide.mpr ⟨fun z => by injection z with z; omega, fun z => by rw [z]⟩
    rw [q]
    exact k
  · refine ⟨_, rfl, _, _, _, _, rfl, hD, e, _, rfl, ?_⟩
    rw [tupD_no no] at k
    exact k
theorem ok_is_number_of (T : Txt K mg t) : FnOk P w K mg base CX0 2 t.a_is_number_of t.d_is_number_of ["thing", "count"] (sp_is_number_of K) := by
  refine T.F_is_number_of.ok sc_is_number_of (fun vs H Q E h => ?_) (fun cdv A outer s H vs Q E hr h => ?_)
  · obtain ⟨_, _, _, rfl, _⟩ := h; rfl
  obtain ⟨v, d, m, rfl, hD, k⟩ := h
  refine QSs.ok (qss_one (qs_ret (qe_and (qe_call (ok_is_whole T) (hr.mono (by decide)) rfl T.m_is_whole T.F_is_whole.kp T.b_is_whole .nil pass0 (qa_cons (qv 0) qa_nil star_name)) (qe_one (qe_chain op_le op_lt qe_int (qv 0) (qv 1)))))) ?_
  refine ⟨_, rfl, v, d, rfl, hD, ?_⟩
  cases c : wholeD d with
  | false =>
    rw [numD_no c] at k
    exact ⟨_, rfl, k⟩
  | true =>
    obtain ⟨i, rfl⟩ := wholeD_int c
    cases hD
    have kk : Q (.bl (decide (0 ≤ i) && decide (i < m))) H := k
    refine ⟨_, rfl, ?_⟩
    refine ⟨_, rfl, _, _, rfl, rfl, _, rfl, ?_⟩
    by_cases c1 : 0 ≤ i
    · refine iteD1 c1 ?_
      rw [decide_eq_true c1, Bool.true_and] at kk
      exact ⟨_, rfl, _, _, rfl, rfl, kk⟩
    · refine iteD0 c1 ?_
      rw [decide_eq_false c1, Bool.false_and] at kk
      exact kk
theorem ok_copied (T : Txt K mg t) : FnOk P w K mg base CX0 1 t.a_copied t.d_copied ["thing"] (sp_copied K) := by
  refine T.F_copied.ok sc_copied (fun vs H Q E h => ?_) (fun cdv A outer s H vs Q E hr h => ?_)
  · obtain ⟨_, rfl, _⟩ := h; rfl
  obtain ⟨v, rfl, hv, k⟩ := h
  refine QSs.ok (qss_cons (qs_if (qt_val (qe_callB call_isi (by rfl) T.z_isinstance PyProof.Rows.boot_isinstance (qa_cons (qv 0) (qa_cons (qe_bltn (v := V.ty "list") rfl T.z_list PyProof.Rows.boot_list rfl) qa_nil star_name) star_name))) (qss_one qs_never) qss_nil)
      (qss_cons (qs_if (qt_val (qe_callB call_isi (by rfl) T.z_isinstance PyProof.Rows.boot_isinstance (qa_cons (qv 0) (qa_cons (qe_bltn (v := V.ty "tuple") rfl T.z_tuple PyProof.Rows.boot_tuple rfl) qa_nil star_name) star_name))) (qss_one qs_never) qss_nil)
      (qss_one (qs_ret (qv 0))))) ?_
  rcases hv with ⟨i, rfl⟩ | ⟨x, rfl⟩
  · refine ⟨_, rfl, _, _, "int", false, rfl, .int i, by decide +kernel, false, rfl, iteF ?_⟩
    refine ⟨_, rfl, _, _, "int", false, rfl, .int i, by decide +kernel, false, rfl, iteF ?_⟩
    exact ⟨_, rfl, k⟩
  · refine ⟨_, rfl, _, _, "str", false, rfl, .str x, by decide +kernel, false, rfl, iteF ?_⟩
    refine ⟨_, rfl, _, _, "str", false, rfl, .str x, by decide +kernel, false, rfl, iteF ?_⟩
    exact ⟨_, rfl, k⟩
theorem ok_greatest_divisor (T : Txt K mg t) : FnOk P w K mg base CX0 1 t.a_greatest_divisor t.d_greatest_divisor ["one", "other"] (sp_greatest_divisor K) := by
  refine T.F_greatest_divisor.ok sc_greatest_divisor (fun vs H Q E h => ?_) (fun cdv A outer s H vs Q E hr h => ?_)
  · obtain ⟨_, _, rfl, _⟩ := h; rfl
  obtain ⟨a, b, rfl, k⟩ := h
  refine QSs.ok (qss_cons (qs_set (i := 2) sc_greatest_divisor.nd rfl (by first | exact Or.inl rfl | exact Or.inr rfl) (qe_callB call_abs (by rfl) T.z_abs PyProof.Rows.boot_abs (qa_cons (qv 0) qa_nil star_name)))
      (qss_cons (qs_set (i := 3) sc_greatest_divisor.nd rfl (by first | exact Or.inl rfl | exact Or.inr rfl) (qe_callB call_abs (by rfl) T.z_abs PyProof.Rows.boot_abs (qa_cons (qv 1) qa_nil star_name)))
      (qss_cons (qs_while PassesOwn.never (qt_cmpR op_ne (qv 3) qe_int (nomark _))
      (qss_cons (qs_set (i := 4) sc_greatest_divisor.nd rfl (by first | exact Or.inl rfl | exact Or.inr rfl) (qe_op op_mod (qv 2) (qv 3)))
      (qss_cons (qs_set (i := 2) sc_greatest_divisor.nd rfl (by first | exact Or.inl rfl | exact Or.inr rfl) (qv 3))
      (qss_one (qs_set (i := 3) sc_greatest_divisor.nd rfl (by first | exact Or.inl rfl | exact Or.inr rfl) (qv 4))))))
      (qss_one (qs_ret (qv 2)))))) ?_
  refine ⟨_, rfl, _, rfl, _, rfl, _, rfl, ?_⟩
  rw [abs_if, abs_if]
  refine ⟨fun m σ H' => ∃ (x y : Int) (v : Option V), σ = [some (.int a), some (.int b), some (.int x), some (.int y), v] ∧ H' = H ∧ 0 ≤ x ∧ 0 ≤ y ∧ Int.gcd x y = Int.gcd a b ∧ m = y.toNat, ⟨_, _, _, _, rfl, rfl, by omega, by omega, (by simp [Int.gcd]), rfl⟩, ?_⟩
  rintro m σ H' ⟨x, y, v, rfl, rfl, hx, hy, hg, rfl⟩
  refine ⟨_, rfl, rfl, _, rfl, ?_⟩
  by_cases c : y = 0
  · subst c
    refine iteNS rfl ?_
    rw [← hg] at k
    refine ⟨_, rfl, ?_⟩
    have e : (x : Int) = (Int.gcd x 0 : Nat) := by simp [Int.gcd]; omega
    rw [← e] at k
    exact k
  · refine iteN1 (fun z => c (by injection z)) ?_
    refine ⟨_, fun _ _ z => z, ?_⟩
    refine ⟨_, rfl, _, rfl, _, _, rfl, rfl, (by omega), _, rfl, _, rfl, ?_⟩
    refine ⟨_, ?_, y, x % y, _, rfl, rfl, hy, Int.emod_nonneg _ c, ?_, rfl⟩
    · have := Int.emod_lt_of_pos x (show 0 < y by omega)
      have := Int.emod_nonneg x c
      omega
    · rw [gcd_turn hx (by omega), hg]
theorem ok_is_ratio (T : Txt K mg t) : FnOk P w K mg base CX0 2 t.a_is_ratio t.d_is_ratio ["thing"] (sp_is_ratio K) := by
  refine T.F_is_ratio.ok sc_is_ratio (fun vs H Q E h => ?_) (fun cdv A outer s H vs Q E hr h => ?_)
  · obtain ⟨_, _, rfl, _⟩ := h; rfl
  obtain ⟨v, d, rfl, hD, k⟩ := h
  refine QSs.ok (qss_cons (qs_if (qt_not (qt_val (qe_call (ok_is_tuple_of T) (hr.mono (by decide)) rfl T.m_is_tuple_of T.F_is_tuple_of.kp T.b_is_tuple_of .nil pass0 (qa_cons (qv 0) (qa_cons qe_int qa_nil star_con) star_name)))) (qss_one (qs_ret qe_bl)) qss_nil)
      (qss_cons (qs_set (i := 1) sc_is_ratio.nd rfl (by first | exact Or.inl rfl | exact Or.inr rfl) (qe_ix ix_tup (qv 0) qe_int (fun _ _ => rfl)))
      (qss_cons (qs_set (i := 2) sc_is_ratio.nd rfl (by first | exact Or.inl rfl | exact Or.inr rfl) (qe_ix ix_tup (qv 0) qe_int (fun _ _ => rfl)))
      (qss_cons (qs_if (qw_pt (qw_or (qt_not (qt_val (qe_call (ok_is_whole T) (hr.mono (by decide)) rfl T.m_is_whole T.F_is_whole.kp T.b_is_whole .nil pass0 (qa_cons (qv 1) qa_nil star_name)))) (qw_or (qt_not (qt_val (qe_call (ok_is_whole T) (hr.mono (by decide)) rfl T.m_is_whole T.F_is_whole.kp T.b_is_whole .nil pass0 (qa_cons (qv 2) qa_nil star_name)))) (qw_or1 (qt_cmpR op_lt (qv 2) qe_int (nomark _)))))) (qss_one (qs_ret qe_bl)) qss_nil)
      (qss_one (qs_ret (qe_cmpR op_eq (qe_call (ok_greatest_divisor T) (hr.mono (by decide)) rfl T.m_greatest_divisor T.F_greatest_divisor.kp T.b_greatest_divisor .nil pass0 (qa_cons (qv 1) (qa_cons (qv 2) qa_nil star_name) star_name)) qe_int (nomark _)))))))) ?_
  refine ⟨_, rfl, v, d, 2, rfl, hD, ⟨_, rfl, ?_⟩⟩
  cases c2 : tupD 2 d with
  | false =>
    refine iteT ?_
    rw [ratD_no c2] at k
    exact k
  | true =>
    refine iteF ?_
    obtain ⟨p, x, y, dx, dy, rfl, rfl, hS, hx, hy⟩ := hD.two c2
    refine ⟨_, rfl, p, _, _, _, rfl, rfl, hS, rfl, _, rfl, p, _, _, _, rfl, rfl, hS, rfl, ?_⟩
    refine ⟨_, rfl, x, dx, rfl, hx, _, rfl, ?_⟩
    cases cx : wholeD dx with
    | false =>
      refine iteT (iteT ?_)
      rw [rat_x cx] at k
      exact k
    | true =>
      refine iteF ?_
      refine ⟨_, rfl, y, dy, rfl, hy, _, rfl, ?_⟩
      cases cy : wholeD dy with
      | false =>
        refine iteT (iteT ?_)
        rw [rat_y cy] at k
        exact k
      | true =>
        refine iteF ?_
        obtain ⟨i, rfl⟩ := wholeD_int cx
        obtain ⟨j, rfl⟩ := wholeD_int cy
        cases hx
        cases hy
        have kk : Q (.bl (decide (1 ≤ j) && decide (Int.gcd i j = 1))) H := k
        refine ⟨_, rfl, _, _, rfl, rfl, _, rfl, ?_⟩
        by_cases c : j < 1
        · refine iteD1 c ?_
          rw [decide_eq_false (show ¬ 1 ≤ j by omega)] at kk
          exact kk
        · refine iteD0 c ?_
          refine ⟨_, rfl, _, rfl, i, j, rfl, rfl, ?_⟩
          rw [decide_eq_true (show 1 ≤ j by omega), Bool.true_and] at kk
          have q : decide ((V.int (Int.gcd i j : Nat) : V) = .int 1) = decide (Int.gcd i j = 1) := decide_eq_decide.mpr ⟨fun z => by injection z with z; omega, fun z => by rw [z]; rfl⟩
          rw [q]
          exact kk
theorem ok_is_above_nought (T : Txt K mg t) : FnOk P w K mg base CX0 3 t.a_is_above_nought t.d_is_above_nought ["thing"] (sp_is_above_nought K) := by
  refine T.F_is_above_nought.ok sc_is_above_nought (fun vs H Q E h => ?_) (fun cdv A outer s H vs Q E hr h => ?_)
  · obtain ⟨_, _, rfl, _⟩ := h; rfl
  obtain ⟨v, d, rfl, hD, k⟩ := h
  refine QSs.ok (qss_one (qs_ret (qe_and (qe_call (ok_is_ratio T) (hr.mono (by decide)) rfl T.m_is_ratio T.F_is_ratio.kp T.b_is_ratio .nil pass0 (qa_cons (qv 0) qa_nil star_name)) (qe_one (qe_cmpR op_gt (qe_ix ix_tup (qv 0) qe_int (fun _ _ => rfl)) qe_int (nomark _)))))) ?_
  refine ⟨_, rfl, v, d, rfl, hD, ?_⟩
  cases c : ratD d with
  | false =>
    rw [aboveD_no c] at k
    exact ⟨_, rfl, k⟩
  | true =>
    obtain ⟨i, j, rfl⟩ := ratD_two c
    obtain ⟨p, x, y, dx, dy, rfl, e, hS, hx, hy⟩ := hD.two rfl
    cases e
    cases hx
    rw [aboveD_yes c] at k
    exact ⟨_, rfl, _, rfl, p, _, _, _, rfl, rfl, hS, rfl, _, _, rfl, rfl, k⟩
theorem ok_is_sheet_shaped (T : Txt K mg t) : FnOk P w K mg base CX0 2 t.a_is_sheet_shaped t.d_is_sheet_shaped ["thing"] (sp_is_sheet_shaped K) := by
  refine T.F_is_sheet_shaped.ok sc_is_sheet_shaped (fun vs H Q E h => ?_) (fun cdv A outer s H vs Q E hr h => ?_)
  · obtain ⟨_, _, rfl, _⟩ := h; rfl
  obtain ⟨v, d, rfl, hD, k⟩ := h
  refine QSs.ok (qss_cons (qs_if (qt_not (qt_val (qe_call (ok_is_tuple_of T) (hr.mono (by decide)) rfl T.m_is_tuple_of T.F_is_tuple_of.kp T.b_is_tuple_of .nil pass0 (qa_cons (qv 0) (qa_cons qe_int qa_nil star_con) star_name)))) (qss_one (qs_ret qe_bl)) qss_nil)
      (qss_cons (qs_set (i := 1) sc_is_sheet_shaped.nd rfl (by first | exact Or.inl rfl | exact Or.inr rfl) (qe_ix ix_tup (qv 0) qe_int (fun _ _ => rfl)))
      (qss_cons (qs_set (i := 2) sc_is_sheet_shaped.nd rfl (by first | exact Or.inl rfl | exact Or.inr rfl) (qe_ix ix_tup (qv 0) qe_int (fun _ _ => rfl)))
      (qss_cons (qs_if (qw_pt (qw_or (qt_not (qt_val (qe_callB call_isiD (by rfl) T.z_isinstance PyProof.Rows.boot_isinstance (qa_cons (qv 1) (qa_cons (qe_bltn (v := V.ty "tuple") rfl T.z_tuple PyProof.Rows.boot_tuple rfl) qa_nil star_name) star_name)))) (qw_or1 (qt_not (qt_val (qe_callB call_isiD (by rfl) T.z_isinstance PyProof.Rows.boot_isinstance (qa_cons (qv 2) (qa_cons (qe_bltn (v := V.ty "tuple") rfl T.z_tuple PyProof.Rows.boot_tuple rfl) qa_nil star_name) star_name))))))) (qss_one (qs_ret qe_bl)) qss_nil)
      (qss_one (qs_ret (qe_and (qe_cmpR op_le (qe_callB call_len_seq (by rfl) T.z_len PySem.boot_len (qa_cons (qv 1) qa_nil star_name)) (qe_glob (v := .int (20)) rfl T.m_MOST_WORKS ⟨_, rfl⟩) (nomark _)) (qe_one (qe_cmpR op_le (qe_callB call_len_seq (by rfl) T.z_len PySem.boot_len (qa_cons (qv 2) qa_nil star_name)) (qe_glob (v := .int (40)) rfl T.m_MOST_LEANS ⟨_, rfl⟩) (nomark _)))))))))) ?_
  refine ⟨_, rfl, v, d, 2, rfl, hD, ⟨_, rfl, ?_⟩⟩
  cases c2 : tupD 2 d with
  | false =>
    refine iteT ?_
    rw [shD_no c2] at k
    exact k
  | true =>
    refine iteF ?_
    obtain ⟨p, x, y, dx, dy, rfl, rfl, hS, hx, hy⟩ := hD.two c2
    refine ⟨_, rfl, p, _, _, _, rfl, rfl, hS, rfl, _, rfl, p, _, _, _, rfl, rfl, hS, rfl, ?_⟩
    rcases isi_tup hx with ⟨e, px, xs, ds, rfl, rfl, hSx, hAx⟩ | ⟨e, no⟩
    · refine ⟨_, rfl, _, _, _, _, rfl, hx, e, _, rfl, iteF ?_⟩
      rcases isi_tup hy with ⟨e2, py, ys, es, rfl, rfl, hSy, hAy⟩ | ⟨e2, no⟩
      · refine ⟨_, rfl, _, _, _, _, rfl, hy, e2, _, rfl, iteF ?_⟩
        have kk : Q (.bl (decide (ds.length ≤ 20) && decide (es.length ≤ 40))) H := k
        rw [← hAx.len, ← hAy.len] at kk
        refine ⟨_, rfl, px, _, rfl, .inr hSx, _, _, rfl, rfl, _, rfl, ?_⟩
        by_cases c : xs.length ≤ 20
        · rw [decide_eq_true c, Bool.true_and] at kk
          refine iteD1 (show (xs.length : Int) ≤ 20 by omega) ?_
          have q : decide ((ys.length : Int) ≤ 40) = decide (ys.length ≤ 40) := decide_eq_decide.mpr (by omega)
          rw [← q] at kk
          exact ⟨_, rfl, py, _, rfl, .inr hSy, _, _, rfl, rfl, kk⟩
        · rw [decide_eq_false c, Bool.false_and] at kk
          exact iteD0 (show ¬ (xs.length : Int) ≤ 20 by omega) kk
      · refine ⟨_, rfl, _, _, _, _, rfl, hy, e2, _, rfl, iteT ?_⟩
        rw [shD_no2 no] at k
        exact k
    · refine ⟨_, rfl, _, _, _, _, rfl, hx, e, _, rfl, iteT (iteT ?_)⟩
      rw [shD_no1 no] at k
      exact k
theorem ok_is_work (T : Txt K mg t) : FnOk P w K mg base CX0 4 t.a_is_work t.d_is_work ["thing"] (sp_is_work K) := by
  refine T.F_is_work.ok sc_is_work (fun vs H Q E h => ?_) (fun cdv A outer s H vs Q E hr h => ?_)
  · obtain ⟨_, _, rfl, _⟩ := h; rfl
  obtain ⟨v, d, rfl, hD, k⟩ := h
  refine QSs.ok (qss_cons (qs_if (qt_not (qt_val (qe_call (ok_is_tuple_of T) (hr.mono (by decide)) rfl T.m_is_tuple_of T.F_is_tuple_of.kp T.b_is_tuple_of .nil pass0 (qa_cons (qv 0) (qa_cons qe_int qa_nil star_con) star_name)))) (qss_one (qs_ret qe_bl)) qss_nil)
      (qss_cons (qs_set (i := 1) sc_is_work.nd rfl (by first | exact Or.inl rfl | exact Or.inr rfl) (qe_ix ix_tup (qv 0) qe_int (fun _ _ => rfl)))
      (qss_cons (qs_set (i := 2) sc_is_work.nd rfl (by first | exact Or.inl rfl | exact Or.inr rfl) (qe_ix ix_tup (qv 0) qe_int (fun _ _ => rfl)))
      (qss_cons (qs_if (qw_pt (qw_or (qt_not (qt_val (qe_call (ok_is_number_of T) (hr.mono (by decide)) rfl T.m_is_number_of T.F_is_number_of.kp T.b_is_number_of .nil pass0 (qa_cons (qv 1) (qa_cons (qe_glob (v := .int (24)) rfl T.m_TURNS ⟨_, rfl⟩) qa_nil star_name) star_name)))) (qw_or1 (qt_not (qt_val (qe_call (ok_is_number_of T) (hr.mono (by decide)) rfl T.m_is_number_of T.F_is_number_of.kp T.b_is_number_of .nil pass0 (qa_cons (qv 2) (qa_cons (qe_glob (v := .int (24)) rfl T.m_TURNS ⟨_, rfl⟩) qa_nil star_name) star_name))))))) (qss_one (qs_ret qe_bl)) qss_nil)
      (qss_one (qs_ret (qe_and (qe_cmpR op_le (qv 1) (qv 2) (nomark _)) (qe_one (qe_call (ok_is_above_nought T) (hr.mono (by decide)) rfl T.m_is_above_nought T.F_is_above_nought.kp T.b_is_above_nought .nil pass0 (qa_cons (qe_ix ix_tup (qv 0) qe_int (fun _ _ => rfl)) qa_nil star_sub)))))))))) ?_
  refine ⟨_, rfl, v, d, 3, rfl, hD, ⟨_, rfl, ?_⟩⟩
  cases c3 : tupD 3 d with
  | false =>
    refine iteT ?_
    rw [workD_no c3] at k
    exact k
  | true =>
    refine iteF ?_
    obtain ⟨p, x, y, z, dx, dy, dz, rfl, rfl, hS, hx, hy, hz⟩ := Deep.three hD c3
    have kk : Q (.bl (numD 24 dx && (numD 24 dy && (leI dx dy && aboveD dz)))) H := k
    refine ⟨_, rfl, p, _, _, _, rfl, rfl, hS, rfl, _, rfl, p, _, _, _, rfl, rfl, hS, rfl, ?_⟩
    refine ⟨_, rfl, x, dx, 24, rfl, hx, _, rfl, ?_⟩
    cases cx : numD 24 dx with
    | false =>
      rw [cx, Bool.false_and] at kk
      exact iteT (iteT kk)
    | true =>
      rw [cx, Bool.true_and] at kk
      refine iteF ?_
      refine ⟨_, rfl, y, dy, 24, rfl, hy, _, rfl, ?_⟩
      cases cy : numD 24 dy with
      | false =>
        rw [cy, Bool.false_and] at kk
        exact iteT kk
      | true =>
        rw [cy, Bool.true_and] at kk
        refine iteF ?_
        obtain ⟨i, rfl, _⟩ := numD_int cx
        obtain ⟨j, rfl, _⟩ := numD_int cy
        cases hx
        cases hy
        have k3 : Q (.bl (decide (i ≤ j) && aboveD dz)) H := kk
        refine ⟨_, rfl, _, rfl, _, _, rfl, rfl, _, rfl, ?_⟩
        by_cases c : i ≤ j
        · rw [decide_eq_true c, Bool.true_and] at k3
          refine iteD1 c ?_
          exact ⟨_, rfl, p, _, _, _, rfl, rfl, hS, rfl, z, dz, rfl, hz, k3⟩
        · rw [decide_eq_false c, Bool.false_and] at k3
          exact iteD0 c k3
theorem ok_is_lean (T : Txt K mg t) : FnOk P w K mg base CX0 3 t.a_is_lean t.d_is_lean ["thing", "count"] (sp_is_lean K) := by
  refine T.F_is_lean.ok sc_is_lean (fun vs H Q E h => ?_) (fun cdv A outer s H vs Q E hr h => ?_)
  · obtain ⟨_, _, _, rfl, _⟩ := h; rfl
  obtain ⟨v, d, m, rfl, hD, k⟩ := h
  refine QSs.ok (qss_cons (qs_if (qt_not (qt_val (qe_call (ok_is_tuple_of T) (hr.mono (by decide)) rfl T.m_is_tuple_of T.F_is_tuple_of.kp T.b_is_tuple_of .nil pass0 (qa_cons (qv 0) (qa_cons qe_int qa_nil star_con) star_name)))) (qss_one (qs_ret qe_bl)) qss_nil)
      (qss_cons (qs_set (i := 2) sc_is_lean.nd rfl (by first | exact Or.inl rfl | exact Or.inr rfl) (qe_ix ix_tup (qv 0) qe_int (fun _ _ => rfl)))
      (qss_cons (qs_set (i := 3) sc_is_lean.nd rfl (by first | exact Or.inl rfl | exact Or.inr rfl) (qe_ix ix_tup (qv 0) qe_int (fun _ _ => rfl)))
      (qss_one (qs_ret (qe_and (qe_call (ok_is_number_of T) (hr.mono (by decide)) rfl T.m_is_number_of T.F_is_number_of.kp T.b_is_number_of .nil pass0 (qa_cons (qv 2) (qa_cons (qv 1) qa_nil star_name) star_name)) (qe_and (qe_call (ok_is_number_of T) (hr.mono (by decide)) rfl T.m_is_number_of T.F_is_number_of.kp T.b_is_number_of .nil pass0 (qa_cons (qv 3) (qa_cons (qv 1) qa_nil star_name) star_name)) (qe_one (qe_cmpR op_ne (qv 2) (qv 3) (nomark _)))))))))) ?_
  refine ⟨_, rfl, v, d, 2, rfl, hD, ⟨_, rfl, ?_⟩⟩
  cases c2 : tupD 2 d with
  | false =>
    refine iteT ?_
    rw [leanD_no c2] at k
    exact k
  | true =>
    refine iteF ?_
    obtain ⟨p, x, y, dx, dy, rfl, rfl, hS, hx, hy⟩ := hD.two c2
    have kk : Q (.bl (numD m dx && (numD m dy && neI dx dy))) H := k
    refine ⟨_, rfl, p, _, _, _, rfl, rfl, hS, rfl, _, rfl, p, _, _, _, rfl, rfl, hS, rfl, ?_⟩
    refine ⟨_, rfl, _, rfl, x, dx, m, rfl, hx, ?_⟩
    cases cx : numD m dx with
    | false =>
      rw [cx, Bool.false_and] at kk
      exact ⟨_, rfl, kk⟩
    | true =>
      rw [cx, Bool.true_and] at kk
      refine ⟨_, rfl, ?_⟩
      refine ⟨_, rfl, _, rfl, y, dy, m, rfl, hy, ?_⟩
      cases cy : numD m dy with
      | false =>
        rw [cy, Bool.false_and] at kk
        exact ⟨_, rfl, kk⟩
      | true =>
        rw [cy, Bool.true_and] at kk
        obtain ⟨i, rfl, _⟩ := numD_int cx
        obtain ⟨j, rfl, _⟩ := numD_int cy
        cases hx
        cases hy
        have k3 : Q (.bl (!decide (i = j))) H := kk
        refine ⟨_, rfl, _, rfl, _, rfl, rfl, ?_⟩
        have e : decide (V.int i = V.int j) = decide (i = j) := decide_eq_decide.mpr ⟨fun z => by injection z, fun z => by rw [z]⟩
        rw [e]
        exact k3
theorem ok_no_leanings (T : Txt K mg t) : FnOk P w K mg base CX0 1 t.a_no_leanings t.d_no_leanings ["count"] (sp_no_leanings K) := by
  refine T.F_no_leanings.ok sc_no_leanings (fun vs H Q E h => ?_) (fun cdv A outer s H vs Q E hr h => ?_)
  · obtain ⟨_, rfl, _⟩ := h; rfl
  obtain ⟨n, rfl, hn, k⟩ := h
  refine QSs.ok (qss_one (qs_ret (qe_lcomp (N' := ["work", "count"]) (src := [none, some 0]) rfl (by exact (qi_range1 rfl T.z_range (qa_cons (qv 0) qa_nil star_name))) (fun _ _ _ _ _ => (by exact (by exact qg_name (i := 0) (by show List.Nodup (["work", "count"] : List Str); decide +kernel) (by exact rfl) (by first | exact Or.inl rfl | exact Or.inr rfl)))) (fun _ _ _ _ _ => qts_nil) (fun _ _ _ _ _ => (by exact (by exact (qe_op op_repL (by exact (qe_lst (qa_cons qe_bl qa_nil star_con))) (by exact (qv 1)))))) (by exact ⟨rfl, rfl, rfl, rfl, trivial⟩) rfl (by decide +kernel) rfl (by decide +kernel) (by exact cells_of rfl ⟨rfl, trivial⟩)))) ?_
  refine ⟨_, rfl, n, rfl, by omega, by omega, fun D hD => comp_own (J := Itr 0 n) (n := n) (fun i ys H' => ∃ rows : List Addr, ys = rows.map V.ref ∧ rows.length = i ∧ rows.Nodup ∧ D ∉ rows ∧ (∀ r ∈ rows, H r = none) ∧ Same H H' ∧ H' D = some (.lst ys) ∧ ∀ r ∈ rows, H' r = some (.lst (rowB n fun _ => false))) ⟨[], rfl, rfl, List.nodup_nil, (fun z => by cases z), (fun r hr => by cases hr), same_new hD _, upd_same, fun r hr => by cases hr⟩ (fun i ys H' hi _ => hi) (fun ys H' ⟨rows, e1, e2, e3, e4, e5, e6, e7, e8⟩ => ⟨Nat.le_refl _, k D rows H' e6 hD e5 ⟨by rw [e7, e1], e2, e3, e4, fun i r e => e8 r (List.mem_of_getElem? e)⟩⟩) ?_⟩
  rintro i ys H1 x H2 hi ⟨rows, rfl, e2, e3, e4, e5, e6, e7, e8⟩ ⟨rfl, rfl⟩ R E kR kE
  refine ⟨Ext.set rfl, ?_⟩
  refine ⟨(by show 1 ≤ sizeLine; decide), fun q hq => ?_⟩
  have s1 := same_new hq (.lst [.bl false])
  refine ⟨_, rfl, q, .bl false, n, rfl, rfl, upd_same, by omega, fun r hr => ?_⟩
  have s2 := same_new hr (.lst (List.replicate n (.bl false)))
  have s12 := s1.trans s2
  have nr : r ∉ rows := fun m => by rw [s1 _ _ (e8 r m)] at hr; cases hr
  have nD : r ≠ D := fun z => by subst z; rw [s1 _ _ e7] at hr; cases hr
  have er : List.replicate n (V.bl false) = rowB n fun _ => false := by
    unfold rowB
    apply List.ext_getElem?
    intro j
    rw [List.getElem?_replicate, List.getElem?_map]
    by_cases c : j < n
    · rw [if_pos c, List.getElem?_range c]; rfl
    · rw [if_neg c, List.getElem?_eq_none (by rw [List.length_range]; omega)]; rfl
  have hD4 := s12 _ _ e7
  refine kR (.ref r) _ hD4 (small1000 (by rw [List.length_map]; omega)) ⟨rows ++ [r], by rw [List.map_append]; rfl, by rw [List.length_append, e2]; rfl, ?_, ?_, fun z hz => ?_, fun b o q => ?_, upd_same, fun z hz => ?_⟩
  · rw [List.nodup_append]
    exact ⟨e3, List.nodup_cons.mpr ⟨(fun z => by cases z), List.nodup_nil⟩, fun a ha b hb => by rw [List.mem_singleton.mp hb]; exact fun z => nr (by rw [← z]; exact ha)⟩
  · intro m
    rcases List.mem_append.mp m with z | z
    · exact e4 z
    · exact nD (List.mem_singleton.mp z).symm
  · rcases List.mem_append.mp hz with y | y
    · exact e5 z y
    · rw [List.mem_singleton.mp y]
      cases c : H r with
      | none => rfl
      | some o => rw [s1 _ _ (e6 _ _ c)] at hr; cases hr
  · rw [upd_ne (ne_of_none q hD)]
    exact s12 _ _ (e6 _ _ q)
  · rcases List.mem_append.mp hz with y | y
    · rw [upd_ne (show z ≠ D from fun w => e4 (by rw [← w]; exact y))]
      exact s12 _ _ (e8 z y)
    · rw [List.mem_singleton.mp y, upd_ne nD, upd_same, er]
theorem ok_add_lean (T : Txt K mg t) : FnOk P w K mg base CX0 1 t.a_add_lean t.d_add_lean ["leanings", "lean"] (sp_add_lean K) := by
  refine T.F_add_lean.ok sc_add_lean (fun vs H Q E h => ?_) (fun cdv A outer s H vs Q E hr h => ?_)
  · obtain ⟨_, _, _, _, _, _, _, rfl, _⟩ := h; rfl
  obtain ⟨l, v, rows, n, L, a, b, rfl, m0, ⟨p, rfl, hp⟩, ha, hb, hn, k⟩ := h
  refine QSs.ok (qss_cons (qs_set (i := 2) sc_add_lean.nd rfl (by first | exact Or.inl rfl | exact Or.inr rfl) (qe_ix ix_tup (qv 1) qe_int (fun _ _ => rfl)))
      (qss_cons (qs_set (i := 3) sc_add_lean.nd rfl (by first | exact Or.inl rfl | exact Or.inr rfl) (qe_ix ix_tup (qv 1) qe_int (fun _ _ => rfl)))
      (qss_cons (qs_set (i := 4) sc_add_lean.nd rfl (by first | exact Or.inl rfl | exact Or.inr rfl) (qe_callTy (call_listR rfl) (by rfl) T.z_list PyProof.Rows.boot_list (qa_cons (qe_rng1 rfl T.z_range (qa_cons (qe_callB call_len_seq (by rfl) T.z_len PySem.boot_len (qa_cons (qv 0) qa_nil star_name)) qa_nil star_call)) qa_nil star_call)))
      (qss_cons (qs_setC (i := 5) (N' := ["work", "ahead", "leanings"]) (src := [none, some 2, some 0]) sc_add_lean.nd rfl (by first | exact Or.inl rfl | exact Or.inr rfl) rfl (by exact (qi_list (qv 4))) (fun _ _ _ _ _ => (by exact (by exact qg_name (i := 0) (by show List.Nodup (["work", "ahead", "leanings"] : List Str); decide +kernel) (by exact rfl) (by first | exact Or.inl rfl | exact Or.inr rfl)))) (fun _ _ _ _ _ => (qts_one (qw_pt (qw_or (qt_cmpR op_eq (by exact (qv 0)) (by exact (qv 1)) (nomark _)) (qw_or1 (qt_val (by exact (qe_ix (ix_listK (K := K) (by exact rfl)) (by exact (qe_ix (ix_listK (K := K) (by exact rfl)) (by exact (qv 2)) (by exact (qv 1)) (by exact fun _ _ => rfl))) (by exact (qv 0)) (by exact fun _ _ => rfl))))))))) (fun _ _ _ _ _ => (by exact (by exact (qv 0)))) (by exact ⟨rfl, rfl, rfl, rfl, ⟨rfl, rfl, rfl, rfl, trivial⟩⟩) rfl (by decide +kernel) rfl (by decide +kernel) (by exact cells_of rfl ⟨rfl, ⟨rfl, trivial⟩⟩))
      (qss_cons (qs_setC (i := 6) (N' := ["work", "behind", "leanings"]) (src := [none, some 3, some 0]) sc_add_lean.nd rfl (by first | exact Or.inl rfl | exact Or.inr rfl) rfl (by exact (qi_list (qv 4))) (fun _ _ _ _ _ => (by exact (by exact qg_name (i := 0) (by show List.Nodup (["work", "behind", "leanings"] : List Str); decide +kernel) (by exact rfl) (by first | exact Or.inl rfl | exact Or.inr rfl)))) (fun _ _ _ _ _ => (qts_one (qw_pt (qw_or (qt_cmpR op_eq (by exact (qv 0)) (by exact (qv 1)) (nomark _)) (qw_or1 (qt_val (by exact (qe_ix (ix_listK (K := K) (by exact rfl)) (by exact (qe_ix (ix_listK (K := K) (by exact rfl)) (by exact (qv 2)) (by exact (qv 0)) (by exact fun _ _ => rfl))) (by exact (qv 1)) (by exact fun _ _ => rfl))))))))) (fun _ _ _ _ _ => (by exact (by exact (qv 0)))) (by exact ⟨rfl, rfl, rfl, rfl, ⟨rfl, rfl, rfl, rfl, trivial⟩⟩) rfl (by decide +kernel) rfl (by decide +kernel) (by exact cells_of rfl ⟨rfl, ⟨rfl, trivial⟩⟩))
      (qss_one (qs_for PassesOwn.never rfl (qi_list (qv 6)) (qg_name (i := 7) sc_add_lean.nd rfl (by first | exact Or.inl rfl | exact Or.inr rfl))
      (qss_one (qs_for PassesOwn.never rfl (qi_list (qv 5)) (qg_name (i := 8) sc_add_lean.nd rfl (by first | exact Or.inl rfl | exact Or.inr rfl))
      (qss_one (qs_asg qe_bl (qg_sub (qe_ix ix_list (qv 0) (qv 7) (fun _ _ => rfl)) (qv 8) set_list)))))))))))) ?_
  refine ⟨_, rfl, p, _, _, _, rfl, rfl, hp, rfl, ?_⟩
  refine ⟨_, rfl, p, _, _, _, rfl, rfl, hp, rfl, ?_⟩
  have lr : (rows.map V.ref).length = n := by rw [List.length_map]; exact m0.len
  refine ⟨_, rfl, l, _, rfl, .inl (SqL.of m0.top), _, rfl, fun pr hpr => ?_⟩
  rw [lr]
  have s1 := same_new hpr (.rng 0 n)
  refine ⟨pr, n, rfl, upd_same, by omega, fun q hq => ?_⟩
  have s2 := same_new hq (.lst ((B.upTo n).map V.int))
  have hq2 : upd (upd H pr (.rng 0 n)) q (.lst ((B.upTo n).map V.int)) q = some (.lst ((B.upTo n).map V.int)) := upd_same
  have s12 := s1.trans s2
  generalize upd (upd H pr (.rng 0 n)) q (.lst ((B.upTo n).map V.int)) = H2 at hq2 s12 ⊢
  have lu : ((B.upTo n).map V.int).length = n := by unfold B.upTo; rw [List.length_map, List.length_map, List.length_range]
  have m2 := m0.same s12
  refine ⟨_, rfl, q, rfl, ⟨_, SqL.of hq2⟩, fun D1 hD1 => comp_ix (wlk_lst (SqL.of hq2)) (fun i => decide (i = a) || L a i) (fun i => V.int (i : Nat)) hD1 (by rw [lu]; omega) (fun i x H' hi s' hx R E kR kE => ?_) fun H3 s3 h3 => ?_⟩
  · have hin : i < n := by rw [lu] at hi; exact hi
    have hxn : x = V.int (i : Nat) := by
      rw [List.getElem?_map] at hx
      unfold B.upTo at hx
      rw [List.getElem?_map, List.getElem?_range hin] at hx
      exact (Option.some.inj hx).symm
    subst hxn
    have Ms := m2.same s'
    refine ⟨Ext.set rfl, ?_⟩
    refine ⟨_, rfl, _, rfl, rfl, _, rfl, ?_⟩
    by_cases c : i = a
    · refine iteD1 (by rw [c]) (iteT ?_)
      exact ⟨_, rfl, kR (by rw [decide_eq_true c]; rfl) _ (Same.refl _)⟩
    · refine iteD0 (fun z => c (by injection z with z; omega)) ?_
      obtain ⟨rr, hrr⟩ : ∃ r, rows[a]? = some r := ⟨_, List.getElem?_eq_getElem (by rw [m0.len]; omega)⟩
      refine ⟨_, rfl, _, rfl, l, _, _, _, rfl, rfl, SqL.of Ms.top, atI_nat (v := V.ref rr) (by rw [List.getElem?_map, hrr]; rfl), _, rfl, rr, _, _, _, rfl, rfl, SqL.of (Ms.row _ _ hrr), atI_nat (rowB_at (by omega)), _, rfl, ?_⟩
      cases cl : L a i with
      | true => exact iteT ⟨_, rfl, kR (by rw [cl, Bool.or_true]) _ (Same.refl _)⟩
      | false => exact iteF (kE (by rw [decide_eq_false c, cl]; rfl) _ (Same.refl _))
  rw [lu] at h3
  have hq3 := s3 _ _ hq2
  have m3 := m2.same s3
  refine ⟨_, rfl, q, rfl, ⟨_, SqL.of hq3⟩, fun D2 hD2 => comp_ix (wlk_lst (SqL.of hq3)) (fun i => decide (i = b) || L i b) (fun i => V.int (i : Nat)) hD2 (by rw [lu]; omega) (fun i x H' hi s' hx R E kR kE => ?_) fun H4 s4 h4 => ?_⟩
  · have hin : i < n := by rw [lu] at hi; exact hi
    have hxn : x = V.int (i : Nat) := by
      rw [List.getElem?_map] at hx
      unfold B.upTo at hx
      rw [List.getElem?_map, List.getElem?_range hin] at hx
      exact (Option.some.inj hx).symm
    subst hxn
    have Ms := m3.same s'
    refine ⟨Ext.set rfl, ?_⟩
    refine ⟨_, rfl, _, rfl, rfl, _, rfl, ?_⟩
    by_cases c : i = b
    · refine iteD1 (by rw [c]) (iteT ?_)
      exact ⟨_, rfl, kR (by rw [decide_eq_true c]; rfl) _ (Same.refl _)⟩
    · refine iteD0 (fun z => c (by injection z with z; omega)) ?_
      obtain ⟨rr, hrr⟩ : ∃ r, rows[i]? = some r := ⟨_, List.getElem?_eq_getElem (by rw [m0.len]; omega)⟩
      refine ⟨_, rfl, _, rfl, l, _, _, _, rfl, rfl, SqL.of Ms.top, atI_nat (v := V.ref rr) (by rw [List.getElem?_map, hrr]; rfl), _, rfl, rr, _, _, _, rfl, rfl, SqL.of (Ms.row _ _ hrr), atI_nat (rowB_at (by omega)), _, rfl, ?_⟩
      cases cl : L i b with
      | true => exact iteT ⟨_, rfl, kR (by rw [cl, Bool.or_true]) _ (Same.refl _)⟩
      | false => exact iteF (kE (by rw [decide_eq_false c, cl]; rfl) _ (Same.refl _))
  rw [lu] at h4
  have h3' := s4 _ _ h3
  have m4 := m3.same s4
  have s04 := (s12.trans s3).trans s4
  have nD : ∀ r ∈ rows, H r ≠ none := fun r hr z => by obtain ⟨xs, e⟩ := m0.ls r hr; rw [e] at z; cases z
  have n1 : D1 ∉ rows := fun z => by obtain ⟨xs, e⟩ := m2.ls _ z; rw [hD1] at e; cases e
  have n2 : D2 ∉ rows := fun z => by obtain ⟨xs, e⟩ := m3.ls _ z; rw [hD2] at e; cases e
  generalize hbs : (List.range n).filter (fun i => decide (i = a) || L a i) = bs at h3'
  generalize hls : (List.range n).filter (fun i => decide (i = b) || L i b) = lns at h4
  have bsI : ∀ j, j ∈ bs ↔ j < n ∧ (decide (j = a) || L a j) = true := fun j => by rw [← hbs, List.mem_filter, List.mem_range]
  have lnI : ∀ j, j ∈ lns ↔ j < n ∧ (decide (j = b) || L j b) = true := fun j => by rw [← hls, List.mem_filter, List.mem_range]
  refine ⟨_, rfl, D2, rfl, ⟨_, SqL.of h4⟩, for_list (K := K) (a := D2) (xs := lns.map fun i => V.int (i : Nat)) (fun i σ H' => ∃ x7 x8 : Option V, σ = [some (.ref l), some (.ref p), some (.int (a : Nat)), some (.int (b : Nat)), some (.ref q), some (.ref D1), some (.ref D2), x7, x8] ∧ Kp rows H4 H' ∧ Mtx H' l rows n (fun u w => L u w || ((lns.take i).contains u && bs.contains w))) ⟨none, none, rfl, Kp.same (Same.refl _) m4.ls, m4.congr fun i j _ _ => by rw [List.take_zero]; simp⟩ (fun i σ H' _ ⟨_, _, _, kp, _⟩ => SqL.of (kp.keep _ _ n2 h4)) ?_ ?_⟩
  · rintro i x σ H5 hx ⟨x7, x8, rfl, kp5, m5⟩
    rw [List.getElem?_map] at hx
    obtain ⟨u, hu, rfl⟩ := Option.map_eq_some_iff.mp hx
    have hun := ((lnI u).mp (List.mem_of_getElem? hu)).1
    obtain ⟨rr, hrr⟩ : ∃ r, rows[u]? = some r := ⟨_, List.getElem?_eq_getElem (by rw [m0.len]; omega)⟩
    have h35 := kp5.keep _ _ n1 h3'
    refine ⟨_, rfl, D1, rfl, ⟨_, SqL.of h35⟩, for_list (K := K) (a := D1) (xs := bs.map fun i => V.int (i : Nat)) (fun j σ H' => ∃ x8 : Option V, σ = [some (.ref l), some (.ref p), some (.int (a : Nat)), some (.int (b : Nat)), some (.ref q), some (.ref D1), some (.ref D2), some (.int (u : Nat)), x8] ∧ Kp rows H4 H' ∧ Mtx H' l rows n (fun u' w => (L u' w || ((lns.take i).contains u' && bs.contains w)) || (decide (u' = u) && (bs.take j).contains w))) ⟨_, rfl, kp5, m5.congr fun i j _ _ => by rw [List.take_zero]; simp⟩ (fun j σ H' _ ⟨_, _, kp, _⟩ => SqL.of (kp.keep _ _ n1 h3')) ?_ ?_⟩
    · rintro j y σ H6 hy ⟨x8, rfl, kp6, m6⟩
      rw [List.getElem?_map] at hy
      obtain ⟨w, hw, rfl⟩ := Option.map_eq_some_iff.mp hy
      have hwn := ((bsI w).mp (List.mem_of_getElem? hw)).1
      have row := m6.row _ _ hrr
      refine ⟨_, rfl, _, rfl, l, _, _, _, rfl, rfl, SqL.of m6.top, atI_nat (v := V.ref rr) (by rw [List.getElem?_map, hrr]; rfl), _, rfl, rr, _, _, w, rfl, rfl, row, ixN_nat (by rw [rowB_len]; exact hwn), ?_⟩
      refine ⟨_, rfl, kp6.trans (Kp.up (List.mem_of_getElem? hrr) m6.ls _), (m6.set hrr hwn).congr fun i' j' _ _ => ?_⟩
      rw [List.take_add_one, hw]
      show (_ || (decide (i' = u) && (bs.take j).contains j') || (decide (i' = u) && decide (j' = w))) = (_ || (decide (i' = u) && (bs.take j ++ [w]).contains j'))
      rw [show (bs.take j ++ [w]).contains j' = ((bs.take j).contains j' || decide (j' = w)) by simp [List.contains_eq_mem, Bool.decide_or], Bool.and_or_distrib_left, Bool.or_assoc]
    · rintro σ H6 ⟨x8, rfl, kp6, m6⟩
      refine ⟨_, _, rfl, kp6, m6.congr fun i' j' _ _ => ?_⟩
      rw [List.length_map, List.take_length, List.take_add_one, hu]
      show (L i' j' || ((lns.take i).contains i' && bs.contains j') || (decide (i' = u) && bs.contains j')) = (L i' j' || ((lns.take i ++ [u]).contains i' && bs.contains j'))
      rw [show (lns.take i ++ [u]).contains i' = ((lns.take i).contains i' || decide (i' = u)) by simp [List.contains_eq_mem, Bool.decide_or], Bool.and_or_distrib_right, Bool.or_assoc]
  · rintro σ H5 ⟨x7, x8, rfl, kp5, m5⟩
    rw [List.length_map, List.take_length] at m5
    refine k H5 ((Kp.same s04 m0.ls).trans kp5) (m5.congr fun i j hi hj => ?_)
    unfold addM
    congr 1
    have e1 : lns.contains i = (decide (i = b) || L i b) := by rw [Bool.eq_iff_iff, List.contains_iff_mem, lnI]; exact ⟨fun z => z.2, fun z => ⟨hi, z⟩⟩
    have e2 : bs.contains j = (decide (j = a) || L a j) := by rw [Bool.eq_iff_iff, List.contains_iff_mem, bsI]; exact ⟨fun z => z.2, fun z => ⟨hj, z⟩⟩
    rw [e1, e2]
theorem ok_first_ring (T : Txt K mg t) : FnOk P w K mg base CX0 2 t.a_first_ring t.d_first_ring ["count", "leans"] (sp_first_ring K) := by
  refine T.F_first_ring.ok sc_first_ring (fun vs H Q E h => ?_) (fun cdv A outer s H vs Q E hr h => ?_)
  · obtain ⟨_, _, _, rfl, _⟩ := h; rfl
  obtain ⟨n, v, es, rfl, ⟨p, xs, rfl, hS, al⟩, ok, hn, k⟩ := h
  refine QSs.ok (qss_cons (qs_set (i := 2) sc_first_ring.nd rfl (by first | exact Or.inl rfl | exact Or.inr rfl) (qe_call (ok_no_leanings T) (hr.mono (by decide)) rfl T.m_no_leanings T.F_no_leanings.kp T.b_no_leanings .nil pass0 (qa_cons (qv 0) qa_nil star_name)))
      (qss_cons (qs_for PassesOwn.never rfl (qi_enum rfl T.z_enumerate (qa_cons (qv 1) qa_nil star_name)) (qg_tup rfl (qgs_cons (qg_name (i := 3) sc_first_ring.nd rfl (by first | exact Or.inl rfl | exact Or.inr rfl)) (qgs_cons (qg_name (i := 4) sc_first_ring.nd rfl (by first | exact Or.inl rfl | exact Or.inr rfl)) qgs_nil)))
      (qss_cons (qs_expr (qe_call (ok_add_lean T) (hr.mono (by decide)) rfl T.m_add_lean T.F_add_lean.kp T.b_add_lean .nil pass0 (qa_cons (qv 2) (qa_cons (qv 4) qa_nil star_name) star_name)))
      (qss_one (qs_if (qt_val (qe_ix ix_list (qe_ix ix_list (qv 2) (qe_ix ix_tup (qv 4) qe_int (fun _ _ => rfl)) (fun _ _ => rfl)) (qe_ix ix_tup (qv 4) qe_int (fun _ _ => rfl)) (fun _ _ => rfl))) (qss_one (qs_ret (qv 3))) qss_nil))))
      (qss_one (qs_ret qe_non)))) ?_
  refine ⟨_, rfl, n, rfl, hn, fun l rows H1 s1 hl hr m1 => ?_⟩
  have hS1 := Tst.same (K := K) s1 _ _ hS
  have sm : ∀ H', Kp rows H1 H' → Same H H' := fun H' kp b o e => kp.keep b o (fun z => by rw [hr b z] at e; cases e) (s1 _ _ e)
  have hxl := al.len
  refine ⟨_, rfl, p, rfl, ⟨_, hS1⟩, for_enum (K := K) (a := p) (xs := xs) (fun i σ H' => ∃ (L : Nat → Nat → Bool) (x4 x5 : Option V), σ = [some (.int n), some (.ref p), some (.ref l), x4, x5] ∧ Kp rows H1 H' ∧ Mtx H' l rows n L ∧ Clo n (es.take i) L ∧ ∀ j, j < i → ¬ ringAt es j) ⟨_, none, none, rfl, Kp.same (Same.refl _) m1.ls, m1, by rw [List.take_zero]; exact clo_nil n, fun j hj => absurd hj (Nat.not_lt_zero _)⟩ (fun i σ H' _ ⟨_, _, _, _, kp, _⟩ => Tst.kp (K := K) kp _ _ hS1) ?_ ?_⟩
  · rintro i x pe σ H2 hx ⟨L, x4, x5, rfl, kp2, m2, c2, nr⟩ hpe
    obtain ⟨⟨a, b⟩, hd, lv⟩ := al.at hx
    have e := ok _ (List.mem_of_getElem? hd)
    have ha : a < n := e.1
    have s3 := same_new hpe (.tup [.int i, x])
    have hpe3 : upd H2 pe (.tup [.int i, x]) pe = some (.tup [.int i, x]) := upd_same
    generalize upd H2 pe (.tup [.int i, x]) = H3 at s3 hpe3 ⊢
    have kp3 := kp2.trans (Kp.same s3 m2.ls)
    have m3 := m2.same s3
    have lv3 := (lv.mono (Tst.same s1)).mono (Tst.kp kp3)
    refine ⟨pe, _, rfl, SqT.of hpe3, rfl, _, _, rfl, _, _, rfl, rfl, ?_⟩
    refine ⟨_, rfl, _, rfl, l, x, rows, n, L, a, b, rfl, m3, lv3, e.1, e.2, hn, fun H4 kp4 m4 => ?_⟩
    have c4 : Clo n (es.take (i + 1)) (addM L a b) := by
      rw [List.take_add_one, hd]
      exact clo_add (fun e he => ok e (List.mem_of_mem_take he)) c2 e.1 e.2
    have kp34 := kp3.trans kp4
    obtain ⟨q, rfl, hq⟩ := lv3.mono (Tst.kp kp4)
    obtain ⟨rr, hrr⟩ : ∃ r, rows[a]? = some r := ⟨_, List.getElem?_eq_getElem (by rw [m4.len]; omega)⟩
    refine ⟨_, rfl, _, rfl, q, _, _, _, rfl, rfl, hq, rfl, l, _, _, _, rfl, rfl, SqL.of m4.top, atI_nat (v := V.ref rr) (by rw [List.getElem?_map, hrr]; rfl), _, rfl, q, _, _, _, rfl, rfl, hq, rfl, rr, _, _, _, rfl, rfl, SqL.of (m4.row _ _ hrr), atI_nat (rowB_at ha), _, rfl, ?_⟩
    have iff : addM L a b a a = true ↔ ringAt es i := by
      rw [c4 a a ha ha]
      constructor
      · exact fun z => ⟨a, b, hd, z⟩
      · rintro ⟨a', b', hd', z⟩
        rw [hd] at hd'
        cases hd'
        exact z
    cases c : addM L a b a a with
    | true =>
      refine iteT ⟨_, rfl, ?_⟩
      exact k (some i) _ ⟨by have := (List.getElem?_eq_some_iff.mp hd).1; exact this, iff.mp c, nr⟩ (sm _ kp34)
    | false =>
      refine iteF ?_
      refine ⟨_, _, _, rfl, kp34, m4, c4, fun j hj => ?_⟩
      by_cases z : j < i
      · exact nr j z
      · have : j = i := by omega
        subst this
        intro w
        rw [iff.mpr w] at c
        cases c
  · rintro σ H2 ⟨L, x4, x5, rfl, kp2, m2, c2, nr⟩
    exact k none _ (fun j hj => nr j (by omega)) (sm _ kp2)
theorem ok_law_tape (T : Txt K mg t) : FnOk P w K mg base CX0 1 t.a_law_tape t.d_law_tape ["_law_script"] (sp_law_tape K) := by
  refine T.F_law_tape.ok sc_law_tape (fun vs H Q E h => ?_) (fun cdv A outer s H vs Q E hr h => ?_)
  · obtain ⟨_, _, rfl, _⟩ := h; rfl
  obtain ⟨a, ns, rfl, hS, k⟩ := h
  refine QSs.ok (qss_one (qs_ret (qe_lst (qa_cons (qe_slice sl_list (qv 0) qo_none (qo_some qe_int)) (qa_cons qe_int (qa_cons qe_int (qa_cons qe_int qa_nil star_con) star_con) star_con) star_sub)))) ?_
  refine ⟨_, rfl, 63, rfl, a, _, rfl, hS, fun p hp => ⟨(by show 4 ≤ sizeLine; decide), fun t ht => ?_⟩⟩
  have npt : p ≠ t := fun z => by subst z; rw [upd_same] at ht; cases ht
  have h0 : H t = none := by rw [upd_ne npt.symm] at ht; exact ht
  refine k t p _ ((same_new hp _).trans (same_new ht _)) h0 hp ⟨ns.take (min 63 ns.length), 0, 0, 0, upd_same, ?_, npt, ?_, by decide, by decide, by decide⟩
  · rw [upd_ne npt, upd_same, cut63]
  · rw [List.length_take]; omega
theorem ok_law_draw (T : Txt K mg t) : FnOk P w K mg base CX0 1 t.a_law_draw t.d_law_draw ["_law_tape_here", "_law_many"] (sp_law_draw K) := by
  refine T.F_law_draw.ok sc_law_draw (fun vs H Q E h => ?_) (fun cdv A outer s H vs Q E hr h => ?_)
  · obtain ⟨_, _, _, rfl, _⟩ := h; rfl
  obtain ⟨t₁, s₁, m, rfl, tp, hm0, hm1, k⟩ := h
  obtain ⟨ns, p, q₀, r₀, ht, hs, hne, hlen, hp0, hq0, hr0⟩ := tp.ex
  refine QSs.ok (qss_cons (qs_set (i := 2) sc_law_draw.nd rfl (by first | exact Or.inl rfl | exact Or.inr rfl) (qe_ix ix_list (qv 0) qe_int (fun _ _ => rfl)))
      (qss_cons (qs_set (i := 3) sc_law_draw.nd rfl (by first | exact Or.inl rfl | exact Or.inr rfl) (qe_ix ix_list (qv 0) qe_int (fun _ _ => rfl)))
      (qss_cons (qs_asg (qe_op op_add (qv 3) qe_int) (qg_sub (qv 0) qe_int set_list))
      (qss_cons (qs_while PassesOwn.never (qw_pt (qw_and (qt_cmpR op_eq (qe_ix ix_list (qv 0) qe_int (fun _ _ => rfl)) qe_int (nomark _)) (qw_and1 (qt_cmpR op_lt (qe_ix ix_list (qv 0) qe_int (fun _ _ => rfl)) (qe_callB call_len_seq (by rfl) T.z_len PySem.boot_len (qa_cons (qv 2) qa_nil star_name)) (nomark _)))))
      (qss_cons (qs_if (qt_cmpR op_ge (qe_callB call_abs (by rfl) T.z_abs PyProof.Rows.boot_abs (qa_cons (qe_ix ix_list (qv 2) (qe_ix ix_list (qv 0) qe_int (fun _ _ => rfl)) (fun _ _ => rfl)) qa_nil star_sub)) (qe_op op_pow qe_int qe_int) (nomark _)) (qss_one (qs_asg (qe_callB call_abs (by rfl) T.z_abs PyProof.Rows.boot_abs (qa_cons (qe_ix ix_list (qv 2) (qe_ix ix_list (qv 0) qe_int (fun _ _ => rfl)) (fun _ _ => rfl)) qa_nil star_sub)) (qg_sub (qv 0) qe_int set_list))) qss_nil)
      (qss_one (qs_asg (qe_op op_add (qe_ix ix_list (qv 0) qe_int (fun _ _ => rfl)) qe_int) (qg_sub (qv 0) qe_int set_list)))))
      (qss_cons (qs_if (qt_cmpR op_gt (qe_ix ix_list (qv 0) qe_int (fun _ _ => rfl)) qe_int (nomark _)) (qss_cons (qs_set (i := 4) sc_law_draw.nd rfl (by first | exact Or.inl rfl | exact Or.inr rfl) (qe_ix ix_list (qv 0) qe_int (fun _ _ => rfl)))
      (qss_cons (qs_asg (qe_op op_fdiv (qv 4) (qv 1)) (qg_sub (qv 0) qe_int set_list))
      (qss_one (qs_ret (qe_op op_mod (qv 4) (qv 1)))))) qss_nil)
      (qss_cons (qs_set (i := 5) sc_law_draw.nd rfl (by first | exact Or.inl rfl | exact Or.inr rfl) qe_int)
      (qss_cons (qs_if (qt_cmpR op_gt (qe_callB call_len_seq (by rfl) T.z_len PySem.boot_len (qa_cons (qv 2) qa_nil star_name)) qe_int (nomark _)) (qss_one (qs_set (i := 5) sc_law_draw.nd rfl (by first | exact Or.inl rfl | exact Or.inr rfl) (qe_ix ix_list (qv 2) (qe_op op_mod (qv 3) (qe_callB call_len_seq (by rfl) T.z_len PySem.boot_len (qa_cons (qv 2) qa_nil star_name))) (fun _ _ => rfl)))) qss_nil)
      (qss_cons (qs_set (i := 6) sc_law_draw.nd rfl (by first | exact Or.inl rfl | exact Or.inr rfl) (qe_op op_mod (qe_op op_mul (qe_op op_add (qe_op op_mod (qv 5) qe_int) qe_int) (qe_op op_add (qe_op op_add (qe_op op_mul (qe_op op_mod (qv 3) qe_int) qe_int) qe_int) (qv 3))) qe_int))
      (qss_cons (qs_set (i := 6) sc_law_draw.nd rfl (by first | exact Or.inl rfl | exact Or.inr rfl) (qe_op op_mod (qe_op op_add (qe_op op_add (qe_op op_mul (qv 6) (qv 6)) (qe_op op_mul qe_int (qv 6))) (qv 3)) qe_int))
      (qss_one (qs_ret (qe_op op_mod (qe_op op_mod (qe_op op_mul (qv 6) qe_int) qe_int) (qv 1))))))))))))) ?_
  have tap : ∀ (q r : Int), 0 ≤ q → 0 ≤ r → Tape (upd H t₁ (.lst [.ref s₁, .int (p + 1), .int q, .int r])) t₁ s₁ := fun q r hq hr => ⟨ns, p + 1, q, r, upd_same, by rw [upd_ne hne]; exact hs, hne, hlen, by omega, hq, hr⟩
  have hs' : ∀ o, (upd H t₁ o) s₁ = some (.lst (ns.map V.int)) := fun o => by rw [upd_ne hne]; exact hs
  have hl : ((ns.map V.int).length : Int) = (ns.length : Int) := by rw [List.length_map]
  refine ⟨_, rfl, t₁, _, _, _, rfl, rfl, SqL.of ht, rfl, ?_⟩
  refine ⟨_, rfl, t₁, _, _, _, rfl, rfl, SqL.of ht, rfl, ?_⟩
  refine ⟨_, rfl, _, _, rfl, rfl, _, rfl, t₁, _, _, _, rfl, rfl, ht, rfl, ?_⟩
  refine ⟨fun μ σ H' => ∃ q r : Int, σ = [some (.ref t₁), some (.int m), some (.ref s₁), some (.int p), none, none, none] ∧ H' = upd H t₁ (.lst [.ref s₁, .int (p + 1), .int q, .int r]) ∧ 0 ≤ q ∧ 0 ≤ r ∧ μ = ns.length - r.toNat, ⟨_, q₀, r₀, rfl, rfl, hq0, hr0, rfl⟩, ?_⟩
  rintro μ σ H' ⟨q, r, rfl, rfl, hq, hr', rfl⟩
  refine ⟨_, rfl, t₁, _, _, _, rfl, rfl, SqL.of upd_same, rfl, rfl, _, rfl, ?_⟩
  by_cases c : q = 0 ∧ r < (ns.length : Int)
  · obtain ⟨c1, c2⟩ := c
    subst c1
    refine iteD1 rfl ?_
    refine ⟨_, rfl, t₁, _, _, _, rfl, rfl, SqL.of upd_same, rfl, _, rfl, s₁, _, rfl, .inl (SqL.of (hs' _)), _, _, rfl, rfl, _, rfl, ?_⟩
    refine iteD1 (by rw [hl]; exact c2) ?_
    refine ⟨_, fun _ _ z => z, ?_⟩
    obtain ⟨z, hz⟩ := pickI (ns := ns) hr' c2
    refine ⟨_, rfl, _, rfl, t₁, _, _, _, rfl, rfl, SqL.of upd_same, rfl, s₁, _, _, _, rfl, rfl, SqL.of (hs' _), hz, _, rfl, _, _, rfl, rfl, ⟨by decide, by decide, by decide⟩, _, _, rfl, rfl, _, rfl, ?_⟩
    refine ite2 (fun _ => ?_) (fun _ => ?_)
    · refine ⟨_, rfl, _, rfl, t₁, _, _, _, rfl, rfl, SqL.of upd_same, rfl, s₁, _, _, _, rfl, rfl, SqL.of (hs' _), hz, _, rfl, _, rfl, t₁, _, _, _, rfl, rfl, upd_same, rfl, ?_⟩
      rw [upd_upd]
      refine ⟨_, rfl, t₁, _, _, _, rfl, rfl, SqL.of upd_same, rfl, _, _, rfl, rfl, _, rfl, t₁, _, _, _, rfl, rfl, upd_same, rfl, ?_⟩
      rw [upd_upd]
      exact ⟨_, by omega, _, r + 1, rfl, rfl, by split <;> omega, by omega, rfl⟩
    · refine ⟨_, rfl, t₁, _, _, _, rfl, rfl, SqL.of upd_same, rfl, _, _, rfl, rfl, _, rfl, t₁, _, _, _, rfl, rfl, upd_same, rfl, ?_⟩
      rw [upd_upd]
      exact ⟨_, by omega, 0, r + 1, rfl, rfl, by omega, by omega, rfl⟩
  by_cases c1 : q = 0
  · refine iteD1 (by rw [c1]) ?_
    refine ⟨_, rfl, t₁, _, _, _, rfl, rfl, SqL.of upd_same, rfl, _, rfl, s₁, _, rfl, .inl (SqL.of (hs' _)), _, _, rfl, rfl, _, rfl, ?_⟩
    refine iteD0 (by rw [hl]; exact fun z => c ⟨c1, z⟩) ?_
    refine ⟨_, rfl, t₁, _, _, _, rfl, rfl, SqL.of upd_same, rfl, _, _, rfl, rfl, _, rfl, ?_⟩
    refine ite2 (fun _ => ?_) (fun _ => ?_)
    · refine ⟨_, rfl, t₁, _, _, _, rfl, rfl, SqL.of upd_same, rfl, ?_⟩
      refine ⟨_, rfl, _, rfl, _, _, rfl, rfl, ⟨hm0, hm1⟩, _, rfl, t₁, _, _, _, rfl, rfl, upd_same, rfl, ?_⟩
      refine ⟨_, rfl, _, rfl, _, _, rfl, rfl, hm0, ?_⟩
      rw [upd_upd]
      exact k _ _ (Int.emod_nonneg _ (by omega)) (Int.emod_lt_of_pos _ hm0) (tap (q / m) r (Int.ediv_nonneg hq (by omega)) hr')
    · refine ⟨_, rfl, s₁, _, rfl, .inl (SqL.of (hs' _)), _, _, rfl, rfl, _, rfl, ?_⟩
      refine ite2 (fun c9 => ?_) (fun _ => ?_)
      · have c8 : (0 : Int) < (ns.length : Int) := by
          have c7 : (0 : Int) < ((ns.map V.int).length : Int) := of_decide_eq_true c9
          rw [hl] at c7; exact c7
        obtain ⟨z, hz⟩ := pickI (ns := ns) (r := p % (ns.length : Int)) (Int.emod_nonneg _ (by omega)) (Int.emod_lt_of_pos _ c8)
        rw [← hl] at hz c8
        refine ⟨_, rfl, _, rfl, _, rfl, s₁, _, rfl, .inl (SqL.of (hs' _)), _, _, rfl, rfl, c8, s₁, _, _, _, rfl, rfl, SqL.of (hs' _), hz, ?_⟩
        refine ⟨_, rfl, _, _, rfl, rfl, (by show (0 : Int) < _; decide), _, _, rfl, rfl, _, rfl, _, _, rfl, rfl, (by show (0 : Int) < _; decide), _, _, rfl, rfl, .inl ⟨by omega, by omega⟩, _, _, rfl, rfl, _, rfl, _, _, rfl, rfl, _, _, rfl, rfl, .inl ⟨by omega, by omega⟩, _, _, rfl, rfl, (by show (0 : Int) < _; decide), ?_⟩
        refine ⟨_, rfl, _, rfl, _, _, rfl, rfl, .inl ⟨by omega, by omega⟩, _, rfl, _, _, rfl, rfl, .inl ⟨by omega, by omega⟩, _, _, rfl, rfl, _, rfl, _, _, rfl, rfl, _, _, rfl, rfl, (by show (0 : Int) < _; decide), ?_⟩
        refine ⟨_, rfl, _, _, rfl, rfl, .inl ⟨by omega, by omega⟩, _, _, rfl, rfl, (by show (0 : Int) < _; decide), _, rfl, _, _, rfl, rfl, hm0, ?_⟩
        exact k _ _ (Int.emod_nonneg _ (by omega)) (Int.emod_lt_of_pos _ hm0) (tap q r hq hr')
      · refine ⟨_, rfl, _, _, rfl, rfl, (by show (0 : Int) < _; decide), _, _, rfl, rfl, _, rfl, _, _, rfl, rfl, (by show (0 : Int) < _; decide), _, _, rfl, rfl, .inl ⟨by omega, by omega⟩, _, _, rfl, rfl, _, rfl, _, _, rfl, rfl, _, _, rfl, rfl, .inl ⟨by omega, by omega⟩, _, _, rfl, rfl, (by show (0 : Int) < _; decide), ?_⟩
        refine ⟨_, rfl, _, rfl, _, _, rfl, rfl, .inl ⟨by omega, by omega⟩, _, rfl, _, _, rfl, rfl, .inl ⟨by omega, by omega⟩, _, _, rfl, rfl, _, rfl, _, _, rfl, rfl, _, _, rfl, rfl, (by show (0 : Int) < _; decide), ?_⟩
        refine ⟨_, rfl, _, _, rfl, rfl, .inl ⟨by omega, by omega⟩, _, _, rfl, rfl, (by show (0 : Int) < _; decide), _, rfl, _, _, rfl, rfl, hm0, ?_⟩
        exact k _ _ (Int.emod_nonneg _ (by omega)) (Int.emod_lt_of_pos _ hm0) (tap q r hq hr')
  · refine iteD0 (fun z => c1 (by injection z)) (iteF ?_)
    refine ⟨_, rfl, t₁, _, _, _, rfl, rfl, SqL.of upd_same, rfl, _, _, rfl, rfl, _, rfl, ?_⟩
    refine ite2 (fun _ => ?_) (fun _ => ?_)
    · refine ⟨_, rfl, t₁, _, _, _, rfl, rfl, SqL.of upd_same, rfl, ?_⟩
      refine ⟨_, rfl, _, rfl, _, _, rfl, rfl, ⟨hm0, hm1⟩, _, rfl, t₁, _, _, _, rfl, rfl, upd_same, rfl, ?_⟩
      refine ⟨_, rfl, _, rfl, _, _, rfl, rfl, hm0, ?_⟩
      rw [upd_upd]
      exact k _ _ (Int.emod_nonneg _ (by omega)) (Int.emod_lt_of_pos _ hm0) (tap (q / m) r (Int.ediv_nonneg hq (by omega)) hr')
    · refine ⟨_, rfl, s₁, _, rfl, .inl (SqL.of (hs' _)), _, _, rfl, rfl, _, rfl, ?_⟩
      refine ite2 (fun c9 => ?_) (fun _ => ?_)
      · have c8 : (0 : Int) < (ns.length : Int) := by
          have c7 : (0 : Int) < ((ns.map V.int).length : Int) := of_decide_eq_true c9
          rw [hl] at c7; exact c7
        obtain ⟨z, hz⟩ := pickI (ns := ns) (r := p % (ns.length : Int)) (Int.emod_nonneg _ (by omega)) (Int.emod_lt_of_pos _ c8)
        rw [← hl] at hz c8
        refine ⟨_, rfl, _, rfl, _, rfl, s₁, _, rfl, .inl (SqL.of (hs' _)), _, _, rfl, rfl, c8, s₁, _, _, _, rfl, rfl, SqL.of (hs' _), hz, ?_⟩
        refine ⟨_, rfl, _, _, rfl, rfl, (by show (0 : Int) < _; decide), _, _, rfl, rfl, _, rfl, _, _, rfl, rfl, (by show (0 : Int) < _; decide), _, _, rfl, rfl, .inl ⟨by omega, by omega⟩, _, _, rfl, rfl, _, rfl, _, _, rfl, rfl, _, _, rfl, rfl, .inl ⟨by omega, by omega⟩, _, _, rfl, rfl, (by show (0 : Int) < _; decide), ?_⟩
        refine ⟨_, rfl, _, rfl, _, _, rfl, rfl, .inl ⟨by omega, by omega⟩, _, rfl, _, _, rfl, rfl, .inl ⟨by omega, by omega⟩, _, _, rfl, rfl, _, rfl, _, _, rfl, rfl, _, _, rfl, rfl, (by show (0 : Int) < _; decide), ?_⟩
        refine ⟨_, rfl, _, _, rfl, rfl, .inl ⟨by omega, by omega⟩, _, _, rfl, rfl, (by show (0 : Int) < _; decide), _, rfl, _, _, rfl, rfl, hm0, ?_⟩
        exact k _ _ (Int.emod_nonneg _ (by omega)) (Int.emod_lt_of_pos _ hm0) (tap q r hq hr')
      · refine ⟨_, rfl, _, _, rfl, rfl, (by show (0 : Int) < _; decide), _, _, rfl, rfl, _, rfl, _, _, rfl, rfl, (by show (0 : Int) < _; decide), _, _, rfl, rfl, .inl ⟨by omega, by omega⟩, _, _, rfl, rfl, _, rfl, _, _, rfl, rfl, _, _, rfl, rfl, .inl ⟨by omega, by omega⟩, _, _, rfl, rfl, (by show (0 : Int) < _; decide), ?_⟩
        refine ⟨_, rfl, _, rfl, _, _, rfl, rfl, .inl ⟨by omega, by omega⟩, _, rfl, _, _, rfl, rfl, .inl ⟨by omega, by omega⟩, _, _, rfl, rfl, _, rfl, _, _, rfl, rfl, _, _, rfl, rfl, (by show (0 : Int) < _; decide), ?_⟩
        refine ⟨_, rfl, _, _, rfl, rfl, .inl ⟨by omega, by omega⟩, _, _, rfl, rfl, (by show (0 : Int) < _; decide), _, rfl, _, _, rfl, rfl, hm0, ?_⟩
        exact k _ _ (Int.emod_nonneg _ (by omega)) (Int.emod_lt_of_pos _ hm0) (tap q r hq hr')
theorem ok_law_gcd (T : Txt K mg t) : FnOk P w K mg base CX0 1 t.a_law_gcd t.d_law_gcd ["_law_one", "_law_other"] (sp_law_gcd K) := by
  refine T.F_law_gcd.ok sc_law_gcd (fun vs H Q E h => ?_) (fun cdv A outer s H vs Q E hr h => ?_)
  · obtain ⟨_, _, rfl, _⟩ := h; rfl
  obtain ⟨a, b, rfl, ha, hb, k⟩ := h
  refine QSs.ok (qss_cons (qs_while PassesOwn.never (qt_cmpR op_ne (qv 1) qe_int (nomark _))
      (qss_one (qs_par (i := 0) (j := 1) rfl sc_law_gcd.nd rfl rfl (by decide) rfl rfl (qa_cons (qv 1) (qa_cons (qe_op op_mod (qv 0) (qv 1)) qa_nil star_bin) star_name) rfl)))
      (qss_one (qs_ret (qv 0)))) ?_
  refine ⟨fun m σ H' => ∃ (x y : Int), σ = [some (.int x), some (.int y)] ∧ H' = H ∧ 0 ≤ x ∧ 0 ≤ y ∧ Int.gcd x y = Int.gcd a b ∧ m = y.toNat, ⟨_, _, _, rfl, rfl, ha, hb, rfl, rfl⟩, ?_⟩
  rintro m σ H' ⟨x, y, rfl, rfl, hx, hy, hg, rfl⟩
  refine ⟨_, rfl, rfl, _, rfl, ?_⟩
  by_cases c : y = 0
  · subst c
    refine iteNS rfl ?_
    rw [← hg] at k
    refine ⟨_, rfl, ?_⟩
    have e : (x : Int) = (Int.gcd x 0 : Nat) := by simp [Int.gcd]; omega
    rw [← e] at k
    exact k
  · refine iteN1 (fun z => c (by injection z)) ?_
    refine ⟨_, fun _ _ z => z, ?_⟩
    refine ⟨_, rfl, _, rfl, _, rfl, _, _, rfl, rfl, (by omega), _, _, rfl, ?_⟩
    refine ⟨_, ?_, y, x % y, rfl, rfl, hy, Int.emod_nonneg _ c, ?_, rfl⟩
    · have := Int.emod_lt_of_pos x (show 0 < y by omega)
      have := Int.emod_nonneg x c
      omega
    · rw [gcd_turn hx (by omega), hg]
theorem ok_law_ratio (T : Txt K mg t) : FnOk P w K mg base CX0 2 t.a_law_ratio t.d_law_ratio ["_law_top", "_law_bottom"] (sp_law_ratio K) := by
  refine T.F_law_ratio.ok sc_law_ratio (fun vs H Q E h => ?_) (fun cdv A outer s H vs Q E hr h => ?_)
  · obtain ⟨_, _, rfl, _⟩ := h; rfl
  obtain ⟨a, b, rfl, hb, hz, k⟩ := h
  refine QSs.ok (qss_cons (qs_set (i := 2) sc_law_ratio.nd rfl (by first | exact Or.inl rfl | exact Or.inr rfl) (qe_call (ok_law_gcd T) (hr.mono (by decide)) rfl T.m_law_gcd T.F_law_gcd.kp T.b_law_gcd .nil pass0 (qa_cons (qe_callB call_abs (by rfl) T.z_abs PyProof.Rows.boot_abs (qa_cons (qv 0) qa_nil star_name)) (qa_cons (qe_callB call_abs (by rfl) T.z_abs PyProof.Rows.boot_abs (qa_cons (qv 1) qa_nil star_name)) qa_nil star_call) star_call)))
      (qss_cons (qs_if (qt_cmpR op_lt (qv 1) qe_int (nomark _)) (qss_one (qs_set (i := 2) sc_law_ratio.nd rfl (by first | exact Or.inl rfl | exact Or.inr rfl) (qe_un un_neg (qv 2)))) qss_nil)
      (qss_one (qs_ret (qe_tup (qa_cons (qe_op op_quoN (qv 0) (qv 2)) (qa_cons (qe_op op_quoN (qv 1) (qv 2)) qa_nil star_bin) star_bin)))))) ?_
  have gp := gcd_posN (a := a) hb
  have gb := gcd_big (a := a) hb hz
  refine ⟨_, rfl, _, rfl, _, rfl, _, rfl, _, _, rfl, (by split <;> omega), (by split <;> omega), ?_⟩
  rw [abs_if, abs_if]
  have eg : Int.gcd (a.natAbs : Int) (b.natAbs : Int) = Int.gcd a b := by simp [Int.gcd]
  rw [eg]
  refine ⟨_, rfl, _, _, rfl, rfl, _, rfl, ?_⟩
  by_cases hn : b < 0
  · refine iteD1 hn ?_
    rw [← mkS_neg1 hn] at k
    have gm : (-((Int.gcd a b : Nat) : Int)).natAbs < 2 ^ 4000 := by rw [Int.natAbs_neg]; exact gb
    refine ⟨_, rfl, _, rfl, ?_⟩
    refine ⟨_, rfl, _, rfl, _, _, rfl, rfl, ⟨by omega, gm⟩, _, rfl, _, rfl, _, _, rfl, rfl, ⟨by omega, gm⟩, (by show 2 ≤ sizeLine; decide), fun p hp => ?_⟩
    exact k p hp
  · refine iteD0 hn ?_
    rw [← mkS_pos1 (by omega : 0 < b)] at k
    refine ⟨_, rfl, _, rfl, _, _, rfl, rfl, ⟨by omega, gb⟩, _, rfl, _, rfl, _, _, rfl, rfl, ⟨by omega, gb⟩, (by show 2 ≤ sizeLine; decide), fun p hp => ?_⟩
    exact k p hp
theorem ok_law_part (T : Txt K mg t) : FnOk P w K mg base CX0 3 t.a_law_part t.d_law_part ["_law_tape_here"] (sp_law_part K) := by
  refine T.F_law_part.ok sc_law_part (fun vs H Q E h => ?_) (fun cdv A outer s H vs Q E hr h => ?_)
  · obtain ⟨_, _, rfl, _⟩ := h; rfl
  obtain ⟨t₁, s₀, rfl, T0, k⟩ := h
  refine QSs.ok (qss_cons (qs_set (i := 1) sc_law_part.nd rfl (by first | exact Or.inl rfl | exact Or.inr rfl) (qe_lst (qa_cons qe_int (qa_cons qe_int (qa_cons qe_int (qa_cons qe_int (qa_cons (qe_op op_add qe_int (qe_call (ok_law_draw T) (hr.mono (by decide)) rfl T.m_law_draw T.F_law_draw.kp T.b_law_draw .nil pass0 (qa_cons (qv 0) (qa_cons qe_int qa_nil star_con) star_name))) (qa_cons (qe_op op_add qe_int (qe_call (ok_law_draw T) (hr.mono (by decide)) rfl T.m_law_draw T.F_law_draw.kp T.b_law_draw .nil pass0 (qa_cons (qv 0) (qa_cons qe_int qa_nil star_con) star_name))) (qa_cons (qe_op op_add (qe_op op_pow qe_int qe_int) qe_int) qa_nil star_bin) star_bin) star_bin) star_con) star_con) star_con) star_con)))
      (qss_cons (qs_set (i := 2) sc_law_part.nd rfl (by first | exact Or.inl rfl | exact Or.inr rfl) (qe_lst (qa_cons qe_int (qa_cons qe_int (qa_cons qe_int (qa_cons qe_int (qa_cons qe_int (qa_cons qe_int (qa_cons (qe_op op_add qe_int (qe_call (ok_law_draw T) (hr.mono (by decide)) rfl T.m_law_draw T.F_law_draw.kp T.b_law_draw .nil pass0 (qa_cons (qv 0) (qa_cons qe_int qa_nil star_con) star_name))) (qa_cons (qe_op op_pow qe_int qe_int) qa_nil star_bin) star_bin) star_con) star_con) star_con) star_con) star_con) star_con)))
      (qss_one (qs_ret (qe_call (ok_law_ratio T) (hr.mono (by decide)) rfl T.m_law_ratio T.F_law_ratio.kp T.b_law_ratio .nil pass0 (qa_cons (qe_ix ix_list (qv 1) (qe_call (ok_law_draw T) (hr.mono (by decide)) rfl T.m_law_draw T.F_law_draw.kp T.b_law_draw .nil pass0 (qa_cons (qv 0) (qa_cons qe_int qa_nil star_con) star_name)) (fun _ _ => rfl)) (qa_cons (qe_ix ix_list (qv 2) (qe_call (ok_law_draw T) (hr.mono (by decide)) rfl T.m_law_draw T.F_law_draw.kp T.b_law_draw .nil pass0 (qa_cons (qv 0) (qa_cons qe_int qa_nil star_con) star_name)) (fun _ _ => rfl)) qa_nil star_sub) star_sub)))))) ?_
  refine ⟨_, rfl, t₁, s₀, 40, rfl, T0, by decide, by decide, fun r1 x1 a1 b1 T1 => ⟨_, _, rfl, rfl, _, rfl, t₁, s₀, 60000, rfl, T1, by decide, by decide, fun r2 x2 a2 b2 T2 => ⟨_, _, rfl, rfl, _, _, rfl, rfl, ⟨by decide, by decide, by decide⟩, _, _, rfl, rfl, (by show 7 ≤ sizeLine; decide), fun l1 g1 => ?_⟩⟩⟩
  have T3 := T2.new g1 (.lst [.int 1, .int 2, .int 3, .int 5, .int (1 + r1), .int (1 + r2), .int (10 ^ 9 + 7)])
  refine ⟨_, rfl, t₁, s₀, 30, rfl, T3, by decide, by decide, fun r3 x3 a3 b3 T4 => ⟨_, _, rfl, rfl, _, _, rfl, rfl, ⟨by decide, by decide, by decide⟩, (by show 8 ≤ sizeLine; decide), fun l2 g2 => ?_⟩⟩
  have T5 := T4.new g2 (.lst [.int 1, .int 1, .int 1, .int 2, .int 3, .int 6, .int (1 + r3), .int (10 ^ 9)])
  have n1 : l1 ≠ t₁ := fun z => by subst z; obtain ⟨_, e⟩ := T2.lst; rw [g1] at e; cases e
  have n2 : l2 ≠ t₁ := fun z => by subst z; obtain ⟨_, e⟩ := T4.lst; rw [g2] at e; cases e
  have n3 : l1 ≠ l2 := fun z => by subst z; rw [upd_ne n1, upd_same] at g2; cases g2
  refine ⟨_, rfl, _, rfl, t₁, s₀, 7, rfl, T5, by decide, by decide, fun r4 x4 a4 b4 T6 => ?_⟩
  obtain ⟨v1, hv1, m1⟩ := pick (xs := [.int 1, .int 2, .int 3, .int 5, .int (1 + r1), .int (1 + r2), .int (10 ^ 9 + 7)]) a4 b4
  refine ⟨l1, _, _, v1, rfl, rfl, SqL.of (by rw [upd_ne n1, upd_ne n3, upd_ne n1, upd_same] <;> rfl), hv1, ?_⟩
  refine ⟨_, rfl, _, rfl, t₁, s₀, 8, rfl, T6, by decide, by decide, fun r5 x5 a5 b5 T7 => ?_⟩
  obtain ⟨v2, hv2, m2⟩ := pick (xs := [.int 1, .int 1, .int 1, .int 2, .int 3, .int 6, .int (1 + r3), .int (10 ^ 9)]) a5 b5
  refine ⟨l2, _, _, v2, rfl, rfl, SqL.of (by rw [upd_ne n2, upd_ne n2, upd_same] <;> rfl), hv2, ?_⟩
  obtain ⟨z1, rfl, p1, q1⟩ : ∃ z : Int, v1 = .int z ∧ 0 < z ∧ z ≤ 1000000007 := by
    simp only [List.mem_cons, List.not_mem_nil, or_false] at m1
    rcases m1 with e | e | e | e | e | e | e
    all_goals exact ⟨_, e, by omega, by omega⟩
  obtain ⟨z2, rfl, p2, q2, d2⟩ : ∃ z : Int, v2 = .int z ∧ 0 < z ∧ z < 2 ^ 31 ∧ z ∣ (D0 : Int) := by
    simp only [List.mem_cons, List.not_mem_nil, or_false] at m2
    rcases m2 with e | e | e | e | e | e | e | e
    · exact ⟨_, e, by decide, by decide, by decide⟩
    · exact ⟨_, e, by decide, by decide, by decide⟩
    · exact ⟨_, e, by decide, by decide, by decide⟩
    · exact ⟨_, e, by decide, by decide, by decide⟩
    · exact ⟨_, e, by decide, by decide, by decide⟩
    · exact ⟨_, e, by decide, by decide, by decide⟩
    · exact ⟨_, e, by omega, by omega, div30 a3 b3⟩
    · exact ⟨_, e, by decide, by decide, by decide⟩
  have w2 : z2.natAbs < 2 ^ 31 := by omega
  refine ⟨z1, z2, rfl, by omega, big_of w2 (by decide), ?_⟩
  rw [mkS_pos p2]
  intro p hp
  have S := (((((((Step.up (ys := x1) T0.lst.choose_spec).trans (Step.up (ys := x2) upd_same)).trans (Step.new ⟨_, upd_same⟩ g1 _)).trans (Step.up (ys := x3) T3.lst.choose_spec)).trans (Step.new T4.lst g2 _)).trans (Step.up (ys := x4) T5.lst.choose_spec)).trans (Step.up (ys := x5) T6.lst.choose_spec)).trans (Step.new T7.lst hp (.tup [.int (mkR z1 z2).1, .int (mkR z1 z2).2]))
  exact k _ (mkR z1 z2) _ (part_ok p1 q1 p2 d2) S (T7.new hp _) (RV.of upd_same)
theorem ok_law_works (T : Txt K mg t) : FnOk P w K mg base CX0 4 t.a_law_works t.d_law_works ["_law_tape_here", "_law_most", "_law_end"] (sp_law_works K) := by
  refine T.F_law_works.ok sc_law_works (fun vs H Q E h => ?_) (fun cdv A outer s H vs Q E hr h => ?_)
  · obtain ⟨_, _, _, _, rfl, _⟩ := h; rfl
  obtain ⟨t₁, s₁, m, en, rfl, tp, hm, he1, he2, k⟩ := h
  refine QSs.ok (qss_cons (qs_set (i := 3) sc_law_works.nd rfl (by first | exact Or.inl rfl | exact Or.inr rfl) (qe_lst qa_nil))
      (qss_cons (qs_for PassesOwn.never rfl (qi_range1 rfl T.z_range (qa_cons (qe_call (ok_law_draw T) (hr.mono (by decide)) rfl T.m_law_draw T.F_law_draw.kp T.b_law_draw .nil pass0 (qa_cons (qv 0) (qa_cons (qe_op op_add (qv 1) qe_int) qa_nil star_bin) star_name)) qa_nil star_call)) (qg_name (i := 4) sc_law_works.nd rfl (by first | exact Or.inl rfl | exact Or.inr rfl))
      (qss_cons (qs_set (i := 5) sc_law_works.nd rfl (by first | exact Or.inl rfl | exact Or.inr rfl) (qe_call (ok_law_draw T) (hr.mono (by decide)) rfl T.m_law_draw T.F_law_draw.kp T.b_law_draw .nil pass0 (qa_cons (qv 0) (qa_cons (qv 2) qa_nil star_name) star_name)))
      (qss_cons (qs_set (i := 6) sc_law_works.nd rfl (by first | exact Or.inl rfl | exact Or.inr rfl) (qe_op op_add (qv 5) (qe_call (ok_law_draw T) (hr.mono (by decide)) rfl T.m_law_draw T.F_law_draw.kp T.b_law_draw .nil pass0 (qa_cons (qv 0) (qa_cons (qe_op op_sub (qv 2) (qv 5)) qa_nil star_bin) star_name))))
      (qss_cons (qs_cut (qs_if (qw_pt (qw_and (qt_cmpR (op_neD hr) (qv 3) (qe_lst qa_nil) (nomark _)) (qw_and1 (qt_cmpR op_eq (qe_call (ok_law_draw T) (hr.mono (by decide)) rfl T.m_law_draw T.F_law_draw.kp T.b_law_draw .nil pass0 (qa_cons (qv 0) (qa_cons qe_int qa_nil star_con) star_name)) qe_int (nomark _))))) (qss_one (qs_asg (qe_slice sl_tupU (qe_ix ix_list (qv 3) (qe_call (ok_law_draw T) (hr.mono (by decide)) rfl T.m_law_draw T.F_law_draw.kp T.b_law_draw .nil pass0 (qa_cons (qv 0) (qa_cons (qe_callB call_len_seq (by rfl) T.z_len PySem.boot_len (qa_cons (qv 3) qa_nil star_name)) qa_nil star_call) star_name)) (fun _ _ => rfl)) qo_none (qo_some qe_int)) (qg_tup rfl (qgs_cons (qg_name (i := 5) sc_law_works.nd rfl (by first | exact Or.inl rfl | exact Or.inr rfl)) (qgs_cons (qg_name (i := 6) sc_law_works.nd rfl (by first | exact Or.inl rfl | exact Or.inr rfl)) qgs_nil))))) qss_nil))
      (qss_cons (qs_cut (qs_if (qt_cmpR op_eq (qe_call (ok_law_draw T) (hr.mono (by decide)) rfl T.m_law_draw T.F_law_draw.kp T.b_law_draw .nil pass0 (qa_cons (qv 0) (qa_cons qe_int qa_nil star_con) star_name)) qe_int (nomark _)) (qss_one (qs_set (i := 6) sc_law_works.nd rfl (by first | exact Or.inl rfl | exact Or.inr rfl) (qv 5))) qss_nil))
      (qss_one (qs_expr (qe_bm PySem.F.plainAttrs_list PySem.F.slot_list_append PySem.F.type_list_append mt_append (qv 3) (qa_cons (qe_tup (qa_cons (qv 5) (qa_cons (qv 6) (qa_cons (qe_call (ok_law_part T) (hr.mono (by decide)) rfl T.m_law_part T.F_law_part.kp T.b_law_part .nil pass0 (qa_cons (qv 0) qa_nil star_name)) qa_nil star_call) star_name) star_name)) qa_nil star_tup)))))))))
      (qss_one (qs_ret (qe_callTy call_tuple_of (by rfl) T.z_tuple PyProof.Rows.boot_tuple (qa_cons (qv 3) qa_nil star_name)))))) ?_
  refine ⟨(by show 0 ≤ sizeLine; exact Nat.zero_le _), fun ls h0 => ?_⟩
  obtain ⟨y0, e0⟩ := tp.lst
  obtain ⟨y0', e0'⟩ := tp.scr
  have nt : ls ≠ t₁ := fun z => by subst z; rw [e0] at h0; cases h0
  have ns : ls ≠ s₁ := fun z => by subst z; rw [e0'] at h0; cases h0
  have s0 := same_new h0 (.lst [])
  have hl0 : upd H ls (.lst []) ls = some (.lst []) := upd_same
  have T0 := tp.new h0 (.lst [])
  generalize upd H ls (.lst []) = H0 at s0 hl0 T0 ⊢
  obtain ⟨y1, e1⟩ := T0.lst
  refine ⟨_, rfl, _, rfl, _, _, rfl, rfl, t₁, s₁, _, rfl, T0, by omega, by omega, fun r1 z1 a1 b1 T1 => ?_⟩
  have S1 : Step t₁ H0 _ := Step.up (ys := z1) e1
  generalize upd H0 t₁ (.lst z1) = H1 at T1 S1 ⊢
  
  have hl1 := S1.keep _ _ nt hl0
  refine ⟨r1, rfl, by omega, by omega, for_range (lo := 0) (n := r1.toNat) (fun i σ H' => ∃ (xs : List V) (ws : List Wk) (x5 x6 x7 : Option V), σ = [some (.ref t₁), some (.int m), some (.int en), some (.ref ls), x5, x6, x7] ∧ Tape H' t₁ s₁ ∧ (∀ b o, b ≠ t₁ → H b = some o → H' b = some o) ∧ H' ls = some (.lst xs) ∧ Als (WkV K H') xs ws ∧ ws.length = i ∧ ∀ w ∈ ws, WkB w) ⟨[], [], none, none, none, rfl, T1, (fun b o nb q => S1.keep _ _ nb (s0 _ _ q)), hl1, .nil, rfl, fun w hw => by cases hw⟩ ?_ ?_⟩
  · rintro i σ HI hi ⟨xs, ws, x5, x6, x7, rfl, TI, kp, hlI, alw, hlen, okw⟩
    have hxl := alw.len
    obtain ⟨y2, e2⟩ := TI.lst
    refine ⟨_, rfl, _, rfl, t₁, s₁, _, rfl, TI, by omega, by omega, fun r2 z2 a2 b2 T2 => ?_⟩
    have S2 : Step t₁ HI _ := Step.up (ys := z2) e2
    generalize upd HI t₁ (.lst z2) = H2 at T2 S2 ⊢
    
    obtain ⟨ff, rfl⟩ := Int.eq_ofNat_of_zero_le a2
    obtain ⟨y3, e3⟩ := T2.lst
    refine ⟨_, rfl, _, rfl, _, rfl, _, rfl, _, _, rfl, rfl, t₁, s₁, _, rfl, T2, by omega, by omega, fun r3 z3 a3 b3 T3 => ?_⟩
    have S3 : Step t₁ H2 _ := Step.up (ys := z3) e3
    generalize upd H2 t₁ (.lst z3) = H3 at T3 S3 ⊢
    
    have S23 := S2.trans S3
    refine ⟨_, _, rfl, rfl, ?_⟩
    obtain ⟨la, hla⟩ : ∃ la : Nat, (ff : Int) + r3 = (la : Nat) := ⟨((ff : Int) + r3).toNat, by omega⟩
    dsimp only
    rw [hla]
    have bf : ff < 24 := by omega
    have bl : la < 24 := by omega
    have hl3 := S23.keep _ _ nt hlI
    refine ⟨fun σ H' => ∃ ff la : Nat, σ = [some (.ref t₁), some (.int m), some (.int en), some (.ref ls), some (.int (0 + (i : Int))), some (.int (ff : Nat)), some (.int (la : Nat))] ∧ Step t₁ HI H' ∧ Tape H' t₁ s₁ ∧ ff < 24 ∧ la < 24, ?_, ?_⟩
    · refine ⟨_, rfl, (by show 0 ≤ sizeLine; exact Nat.zero_le _), fun q hq => ?_⟩
      have sq := same_new hq (.lst [])
      have TQ := T3.new hq (.lst [])
      have hqq : upd H3 q (.lst []) q = some (.lst []) := upd_same
      generalize upd H3 q (.lst []) = HQ at sq TQ hqq ⊢
      have SQ := S23.trans (Step.same sq T3.lst)
      refine ⟨.list (ws.map dWk), .list [], .lst (SqL.of (sq _ _ hl3)) ((alw.mono fun _ _ z => z.mono (Tst.step (K := K) SQ)).deep fun _ _ z => z.deep), .lst (SqL.of hqq) .nil, wk_lay ws, rfl, wk_depth ws, _, rfl, ?_⟩
      cases ws with
      | nil => exact iteF (iteF ⟨ff, la, rfl, SQ, TQ, bf, bl⟩)
      | cons w0 wr =>
        refine iteT ?_
        have lp : 0 < xs.length := by rw [hxl]; exact Nat.succ_pos _
        obtain ⟨y4, e4⟩ := TQ.lst
        refine ⟨_, rfl, t₁, s₁, _, rfl, TQ, by omega, by omega, fun r4 z4 a4 b4 T4 => ?_⟩
        have S4 : Step t₁ HQ _ := Step.up (ys := z4) e4
        generalize upd HQ t₁ (.lst z4) = H4 at T4 S4 ⊢
        
        have S4' := SQ.trans S4
        refine ⟨rfl, _, rfl, ite2 (fun _ => ?_) (fun _ => ⟨ff, la, rfl, S4', T4, bf, bl⟩)⟩
        have hl4 := S4'.keep _ _ nt hlI
        obtain ⟨y5, e5⟩ := T4.lst
        refine ⟨_, rfl, _, rfl, _, rfl, ls, _, rfl, .inl (SqL.of hl4), t₁, s₁, _, rfl, T4, by omega, by omega, fun r5 z5 a5 b5 T5 => ?_⟩
        have S5 := S4'.trans (Step.up (ys := z5) e5)
        generalize upd H4 t₁ (.lst z5) = H5 at T5 S5 ⊢
        obtain ⟨j, rfl⟩ := Int.eq_ofNat_of_zero_le a5
        obtain ⟨xw, hxw⟩ : ∃ xw, xs[j]? = some xw := ⟨_, List.getElem?_eq_getElem (by omega)⟩
        obtain ⟨w, hw, pw0, xa, rfl, hSw, ra⟩ := alw.at hxw
        have wb := okw w (List.mem_of_getElem? hw)
        refine ⟨ls, _, _, _, rfl, rfl, SqL.of (S5.keep _ _ nt hlI), atI_nat hxw, ?_⟩
        refine ⟨_, rfl, pw0, _, rfl, Tst.step (K := K) S5 _ _ hSw, fun pc HP sP hpc => ?_⟩
        rw [show cutV [V.int (w.1 : Nat), V.int (w.2.1 : Nat), xa] none (some 2) = [V.int (w.1 : Nat), V.int (w.2.1 : Nat)] from cut_to (n := 2) (by show 2 ≤ 3; decide)] at hpc
        refine ⟨pc, _, rfl, hpc, rfl, _, _, rfl, _, _, rfl, rfl, ?_⟩
        exact ⟨w.1, w.2.1, rfl, S5.trans (Step.same sP T5.lst), T5.same sP, wb.l1, wb.l2⟩
    · rintro σ H6 ⟨ff, la, rfl, S6, T6, bf, bl⟩
      refine ⟨fun σ H' => ∃ la : Nat, σ = [some (.ref t₁), some (.int m), some (.int en), some (.ref ls), some (.int (0 + (i : Int))), some (.int (ff : Nat)), some (.int (la : Nat))] ∧ Step t₁ HI H' ∧ Tape H' t₁ s₁ ∧ la < 24, ?_, ?_⟩
      · obtain ⟨y7, e7⟩ := T6.lst
        refine ⟨_, rfl, t₁, s₁, _, rfl, T6, by omega, by omega, fun r7 z7 a7 b7 T7 => ?_⟩
        have S7 : Step t₁ H6 _ := Step.up (ys := z7) e7
        generalize upd H6 t₁ (.lst z7) = H7 at T7 S7 ⊢
        
        refine ⟨rfl, _, rfl, ite2 (fun _ => ?_) (fun _ => ?_)⟩
        · exact ⟨_, rfl, ff, rfl, S6.trans S7, T7, bf⟩
        · exact ⟨la, rfl, S6.trans S7, T7, bl⟩
      · rintro σ H8 ⟨la, rfl, S8, T8, bl⟩
        have hl8 := S8.keep _ _ nt hlI
        refine ⟨_, rfl, .inl ⟨rfl, _, SqL.of hl8⟩, _, rfl, _, rfl, _, rfl, t₁, s₁, rfl, T8, fun va ra H9 po S9 T9 rv => ?_⟩
        refine ⟨(by show 3 ≤ sizeLine; decide), fun pw hpw => ?_⟩
        have sA := same_new hpw (.tup [.int (ff : Nat), .int (la : Nat), va])
        have hA : SqT K (upd H9 pw (.tup [.int (ff : Nat), .int (la : Nat), va])) pw [.int (ff : Nat), .int (la : Nat), va] := SqT.of upd_same
        have TA := T9.same sA
        generalize upd H9 pw (.tup [.int (ff : Nat), .int (la : Nat), va]) = HA at sA hA TA ⊢
        have SA := (S8.trans S9).trans (Step.same sA T9.lst)
        have hlA := SA.keep _ _ nt hlI
        refine ⟨ls, xs, _, rfl, rfl, hlA, small1000 (by omega), ?_⟩
        have tB : Tst K HA (upd HA ls (.lst (xs ++ [.ref pw]))) := Tst.up hlA _
        refine ⟨_, ws ++ [(ff, la, ra)], _, _, _, rfl, TA.upl nt ns _, fun b o nb q => ?_, upd_same, (alw.mono fun v d q => q.mono ((Tst.step (K := K) SA).trans tB)).snoc ⟨pw, va, rfl, tB _ _ hA, (rv.mono (Tst.same sA)).mono tB⟩, by rw [List.length_append, hlen]; rfl, fun z hz => ?_⟩
        · rw [upd_ne (ne_of_none q h0)]
          exact SA.keep _ _ nb (kp b o nb q)
        · rcases List.mem_append.mp hz with h | h
          · exact okw z h
          · rw [List.mem_singleton.mp h]
            exact ⟨bf, bl, po.wf⟩
  · rintro σ HI ⟨xs, ws, x5, x6, x7, rfl, TI, kp, hlI, alw, hlen, okw⟩
    refine ⟨_, rfl, ls, _, rfl, .inl ⟨SqL.of hlI, fun p hp => ?_⟩⟩
    have s5 := same_new hp (.tup xs)
    exact k (.ref p) ws _ (Step.trans ⟨kp, ⟨_, e0⟩, TI.lst⟩ (Step.same s5 TI.lst)) (TI.same s5) ⟨p, xs, rfl, SqT.of upd_same, alw.mono fun _ _ q => q.mono (Tst.same s5)⟩ (by rw [hlen]; omega) okw
theorem ok_law_leans (T : Txt K mg t) : FnOk P w K mg base CX0 2 t.a_law_leans t.d_law_leans ["_law_tape_here", "_law_many"] (sp_law_leans K) := by
  refine T.F_law_leans.ok sc_law_leans (fun vs H Q E h => ?_) (fun cdv A outer s H vs Q E hr h => ?_)
  · obtain ⟨_, _, _, rfl, _⟩ := h; rfl
  obtain ⟨t₁, s₁, n, rfl, tp, hn, k⟩ := h
  refine QSs.ok (qss_cons (qs_set (i := 2) sc_law_leans.nd rfl (by first | exact Or.inl rfl | exact Or.inr rfl) (qe_lst qa_nil))
      (qss_cons (qs_for PassesOwn.never rfl (qi_range1 rfl T.z_range (qa_cons (qv 1) qa_nil star_name)) (qg_name (i := 3) sc_law_leans.nd rfl (by first | exact Or.inl rfl | exact Or.inr rfl))
      (qss_one (qs_expr (qe_bm PySem.F.plainAttrs_list PySem.F.slot_list_insert PySem.F.type_list_insert mt_insert (qv 2) (qa_cons (qe_call (ok_law_draw T) (hr.mono (by decide)) rfl T.m_law_draw T.F_law_draw.kp T.b_law_draw .nil pass0 (qa_cons (qv 0) (qa_cons (qe_op op_add (qe_callB call_len_seq (by rfl) T.z_len PySem.boot_len (qa_cons (qv 2) qa_nil star_name)) qe_int) qa_nil star_bin) star_name)) (qa_cons (qv 3) qa_nil star_name) star_call)))))
      (qss_cons (qs_set (i := 4) sc_law_leans.nd rfl (by first | exact Or.inl rfl | exact Or.inr rfl) (qe_lst qa_nil))
      (qss_cons (qs_for PassesOwn.never rfl (qi_range1 rfl T.z_range (qa_cons (qe_op op_mul (qe_call (ok_law_draw T) (hr.mono (by decide)) rfl T.m_law_draw T.F_law_draw.kp T.b_law_draw .nil pass0 (qa_cons (qv 0) (qa_cons (qe_op op_add (qe_op op_mul qe_int (qv 1)) qe_int) qa_nil star_bin) star_name)) (qe_callTy call_int1 (by rfl) T.z_int PyProof.Rows.boot_int (qa_cons (qe_cmpR op_gt (qv 1) qe_int (nomark _)) qa_nil star_cmp))) qa_nil star_bin)) (qg_name (i := 5) sc_law_leans.nd rfl (by first | exact Or.inl rfl | exact Or.inr rfl))
      (qss_cons (qs_set (i := 6) sc_law_leans.nd rfl (by first | exact Or.inl rfl | exact Or.inr rfl) (qe_call (ok_law_draw T) (hr.mono (by decide)) rfl T.m_law_draw T.F_law_draw.kp T.b_law_draw .nil pass0 (qa_cons (qv 0) (qa_cons (qe_op op_sub (qv 1) qe_int) qa_nil star_bin) star_name)))
      (qss_cons (qs_set (i := 7) sc_law_leans.nd rfl (by first | exact Or.inl rfl | exact Or.inr rfl) (qe_op op_add (qe_op op_add (qv 6) qe_int) (qe_call (ok_law_draw T) (hr.mono (by decide)) rfl T.m_law_draw T.F_law_draw.kp T.b_law_draw .nil pass0 (qa_cons (qv 0) (qa_cons (qe_op op_sub (qe_op op_sub (qv 1) qe_int) (qv 6)) qa_nil star_bin) star_name))))
      (qss_one (qs_expr (qe_bm PySem.F.plainAttrs_list PySem.F.slot_list_append PySem.F.type_list_append mt_append (qv 4) (qa_cons (qe_tup (qa_cons (qe_ix ix_list (qv 2) (qv 6) (fun _ _ => rfl)) (qa_cons (qe_ix ix_list (qv 2) (qv 7) (fun _ _ => rfl)) qa_nil star_sub) star_sub)) qa_nil star_tup)))))))
      (qss_one (qs_ret (qe_callTy call_tuple_of (by rfl) T.z_tuple PyProof.Rows.boot_tuple (qa_cons (qe_slice sl_list (qv 4) qo_none (qo_some qe_int)) qa_nil star_sub)))))))) ?_
  refine ⟨(by show 0 ≤ sizeLine; exact Nat.zero_le _), fun lo h0 => ?_⟩
  obtain ⟨y0, e0⟩ := tp.lst
  obtain ⟨y0', e0'⟩ := tp.scr
  have nt : lo ≠ t₁ := fun z => by subst z; rw [e0] at h0; cases h0
  have ns : lo ≠ s₁ := fun z => by subst z; rw [e0'] at h0; cases h0
  have s0 := same_new h0 (.lst [])
  have hl0 : upd H lo (.lst []) lo = some (.lst []) := upd_same
  have T0 := tp.new h0 (.lst [])
  generalize upd H lo (.lst []) = H0 at s0 hl0 T0 ⊢
  refine ⟨_, rfl, n, rfl, by omega, by omega, for_range (lo := 0) (n := (n : Int).toNat) (fun i σ H' => ∃ (os : List Nat) (x4 : Option V), σ = [some (.ref t₁), some (.int n), some (.ref lo), x4, none, none, none, none] ∧ Tape H' t₁ s₁ ∧ (∀ b o, b ≠ t₁ → H b = some o → H' b = some o) ∧ H' lo = some (.lst (natW os)) ∧ os.length = i ∧ os.Nodup ∧ ∀ x, x ∈ os ↔ x < i) ⟨[], none, rfl, T0, (fun b o _ q => s0 _ _ q), hl0, rfl, List.nodup_nil, fun x => ⟨(fun h => by cases h), fun h => absurd h (Nat.not_lt_zero _)⟩⟩ ?_ ?_⟩
  · rintro i σ HI hi ⟨os, x4, rfl, TI, kp, hlI, hlen, nd, all⟩
    rw [Int.zero_add]
    have hnl : (natW os).length = os.length := List.length_map _
    obtain ⟨y1, e1⟩ := TI.lst
    refine ⟨_, rfl, .inl ⟨rfl, _, SqL.of hlI⟩, _, rfl, _, rfl, lo, _, rfl, .inl (SqL.of hlI), _, _, rfl, rfl, t₁, s₁, _, rfl, TI, by omega, by omega, fun r1 z1 a1 b1 T1 => ?_⟩
    have S1 : Step t₁ HI _ := Step.up (ys := z1) e1
    generalize upd HI t₁ (.lst z1) = H1 at T1 S1 ⊢
    obtain ⟨j, rfl⟩ := Int.eq_ofNat_of_zero_le a1
    have hl1 := S1.keep _ _ nt hlI
    refine ⟨_, rfl, lo, natW os, j, .int (i : Nat), rfl, rfl, hl1, by omega, small1000 (by omega), ?_⟩
    have ei : (natW os).take j ++ V.int (i : Nat) :: (natW os).drop j = natW (os.take j ++ i :: os.drop j) := by
      unfold natW
      rw [List.map_append, List.map_cons, List.map_take, List.map_drop]
    rw [ei]
    have ni : i ∉ os := fun z => by have := (all i).mp z; omega
    have pm : (os.take j ++ i :: os.drop j).Perm (i :: os) := by
      have := List.perm_middle (a := i) (l₁ := os.take j) (l₂ := os.drop j)
      rw [List.take_append_drop] at this
      exact this
    refine ⟨_, _, rfl, T1.upl nt ns _, fun b o nb q => ?_, upd_same, by rw [pm.length_eq, List.length_cons, hlen], pm.nodup_iff.mpr (List.nodup_cons.mpr ⟨ni, nd⟩), fun x => ?_⟩
    · rw [upd_ne (ne_of_none q h0)]
      exact S1.keep _ _ nb (kp b o nb q)
    · rw [pm.mem_iff, List.mem_cons, all]
      omega
  · rintro σ HI ⟨os, x4, rfl, TI, kp, hlI, hlen, nd, all⟩
    rw [show (n : Int).toNat = n by omega] at hlen all
    obtain ⟨ps, ps1, ps2⟩ := rnk_of nd hlen all
    refine ⟨(by show 0 ≤ sizeLine; exact Nat.zero_le _), fun lf hf0 => ?_⟩
    obtain ⟨yI, eI⟩ := TI.lst
    obtain ⟨yI', eI'⟩ := TI.scr
    have ntf : lf ≠ t₁ := fun z => by subst z; rw [eI] at hf0; cases hf0
    have nsf : lf ≠ s₁ := fun z => by subst z; rw [eI'] at hf0; cases hf0
    have nlf : lo ≠ lf := fun z => by subst z; rw [hlI] at hf0; cases hf0
    have hfN : ∀ b o, b ≠ t₁ → H b = some o → b ≠ lf := fun b o nb q z => by subst z; rw [kp b o nb q] at hf0; cases hf0
    have sF := same_new hf0 (.lst [])
    have hf1 : upd HI lf (.lst []) lf = some (.lst []) := upd_same
    have TF := TI.new hf0 (.lst [])
    have hlF := sF _ _ hlI
    generalize upd HI lf (.lst []) = HF at sF hf1 TF hlF ⊢
    obtain ⟨yF, eF⟩ := TF.lst
    refine ⟨_, rfl, _, rfl, _, _, rfl, rfl, .inl ⟨by omega, by omega⟩, _, _, rfl, rfl, t₁, s₁, _, rfl, TF, by omega, by omega, fun rc zc ac bc TC => ?_⟩
    have SC : Step t₁ HF _ := Step.up (ys := zc) eF
    generalize upd HF t₁ (.lst zc) = HC at TC SC ⊢
    refine ⟨_, rfl, _, _, rfl, rfl, .inr ⟨_, rfl, ?_⟩⟩
    refine ⟨_, _, rfl, rfl, .inl ⟨by omega, by omega⟩, ?_⟩
    have cn : ∃ c : Nat, rc * (if decide ((n : Int) > 1) = true then 1 else 0) = (c : Int) ∧ (0 < c → 1 < n) ∧ c ≤ 41 := by
      by_cases z : (n : Int) > 1
      · rw [decide_eq_true z, if_pos rfl]
        exact ⟨rc.toNat, by omega, fun _ => by omega, by omega⟩
      · rw [decide_eq_false z, if_neg (by simp)]
        exact ⟨0, by omega, fun h => absurd h (Nat.lt_irrefl _), by omega⟩
    obtain ⟨c, ec, cn, c41⟩ := cn
    refine ⟨(c : Int), by rw [← ec], by omega, by omega, for_range (lo := 0) (n := (c : Int).toNat) (fun i σ H' => ∃ (xs : List V) (es : List Ln) (x4 x6 x7 x8 : Option V), σ = [some (.ref t₁), some (.int n), some (.ref lo), x4, some (.ref lf), x6, x7, x8] ∧ Tape H' t₁ s₁ ∧ (∀ b o, b ≠ t₁ → b ≠ lf → HF b = some o → H' b = some o) ∧ H' lf = some (.lst xs) ∧ Als (LnV K H') xs es ∧ es.length = i ∧ EsOk n es ∧ ∀ a b, (a, b) ∈ es → ps a < ps b) ⟨[], [], _, none, none, none, rfl, TC, (fun b o nb _ q => SC.keep _ _ nb q), SC.keep _ _ ntf hf1, .nil, rfl, (fun e he => by cases he), fun a b h => by cases h⟩ ?_ ?_⟩
    · rintro i σ H1 hi ⟨xs, es, x4', x6, x7, x8, rfl, T1, kp1, hf, al, hlen1, ok, rk⟩
      have n1 := cn (by omega)
      have hl1 := kp1 _ _ nt nlf hlF
      obtain ⟨y2, e2⟩ := T1.lst
      refine ⟨_, rfl, _, rfl, _, _, rfl, rfl, t₁, s₁, _, rfl, T1, by omega, by omega, fun r2 z2 a2 b2 T2 => ?_⟩
      have S2 : Step t₁ H1 _ := Step.up (ys := z2) e2
      generalize upd H1 t₁ (.lst z2) = H2 at T2 S2 ⊢
      
      obtain ⟨at_, rfl⟩ := Int.eq_ofNat_of_zero_le a2
      obtain ⟨y3, e3⟩ := T2.lst
      refine ⟨_, rfl, _, _, rfl, rfl, _, rfl, _, rfl, _, _, rfl, rfl, _, rfl, _, _, rfl, rfl, t₁, s₁, _, rfl, T2, by omega, by omega, fun r3 z3 a3 b3 T3 => ?_⟩
      have S3 := S2.trans (Step.up (ys := z3) e3)
      generalize upd H2 t₁ (.lst z3) = H3 at T3 S3 ⊢
      refine ⟨_, _, rfl, rfl, ?_⟩
      obtain ⟨to, hto⟩ : ∃ to : Nat, (at_ : Int) + 1 + r3 = (to : Nat) := ⟨((at_ : Int) + 1 + r3).toNat, by omega⟩
      dsimp only
      rw [hto]
      obtain ⟨u, hu⟩ : ∃ u, os[at_]? = some u := ⟨_, List.getElem?_eq_getElem (by omega)⟩
      obtain ⟨w, hw⟩ : ∃ u, os[to]? = some u := ⟨_, List.getElem?_eq_getElem (by omega)⟩
      have hl3 := S3.keep _ _ nt hl1
      have hf3 := S3.keep _ _ ntf hf
      refine ⟨_, rfl, .inl ⟨rfl, _, SqL.of hf3⟩, _, rfl, _, rfl, lo, _, _, _, rfl, rfl, SqL.of hl3, atI_nat (v := V.int (u : Nat)) (by unfold natW; rw [List.getElem?_map, hu]; rfl), _, rfl, _, rfl, lo, _, _, _, rfl, rfl, SqL.of hl3, atI_nat (v := V.int (w : Nat)) (by unfold natW; rw [List.getElem?_map, hw]; rfl), (by show 2 ≤ sizeLine; decide), fun pe hpe => ?_⟩
      have s4 := same_new hpe (.tup [.int (u : Nat), .int (w : Nat)])
      have h4 : SqT K (upd H3 pe (.tup [.int (u : Nat), .int (w : Nat)])) pe [.int (u : Nat), .int (w : Nat)] := SqT.of upd_same
      have T4 := T3.same s4
      generalize upd H3 pe (.tup [.int (u : Nat), .int (w : Nat)]) = H4 at s4 h4 T4 ⊢
      have S4 := S3.trans (Step.same s4 T3.lst)
      have hf4 := S4.keep _ _ ntf hf
      have hxl := al.len
      refine ⟨lf, xs, _, rfl, rfl, hf4, small1000 (by omega), ?_⟩
      have t5 : Tst K H4 (upd H4 lf (.lst (xs ++ [.ref pe]))) := Tst.up hf4 _
      refine ⟨_, es ++ [(u, w)], _, _, _, _, rfl, T4.upl ntf nsf _, fun b o nb nf q => ?_, upd_same, (al.mono fun _ _ q => q.mono ((Tst.step (K := K) S4).trans t5)).snoc ⟨pe, rfl, t5 _ _ h4⟩, by rw [List.length_append, hlen1]; rfl, fun e he => ?_, fun a b h => ?_⟩
      · rw [upd_ne nf]
        exact S4.keep _ _ nb (kp1 b o nb nf q)
      · rcases List.mem_append.mp he with z | z
        · exact ok e z
        · rw [List.mem_singleton.mp z]
          exact ⟨(all u).mp (List.mem_of_getElem? hu), (all w).mp (List.mem_of_getElem? hw)⟩
      · rcases List.mem_append.mp h with z | z
        · exact rk a b z
        · cases List.mem_singleton.mp z
          rw [ps2 _ _ hu, ps2 _ _ hw]
          omega
    · rintro σ H1 ⟨xs, es, x4', x6, x7, x8, rfl, T1, kp1, hf, al, hlen1, ok, rk⟩
      refine ⟨_, rfl, _, rfl, lf, _, rfl, SqL.of hf, fun pc hpc => ?_⟩
      rw [show (40 : Int) = ((40 : Nat) : Int) from rfl, cut_upto]
      have s5 := same_new hpc (.lst (xs.take (min 40 xs.length)))
      refine ⟨pc, _, rfl, .inl ⟨SqL.of upd_same, fun p hp => ?_⟩⟩
      have s6 := same_new hp (.tup (xs.take (min 40 xs.length)))
      have s56 := s5.trans s6
      have kpH : ∀ b o, b ≠ t₁ → H b = some o → H1 b = some o := fun b o nb q => kp1 b o nb (hfN b o nb q) (sF _ _ (kp b o nb q))
      refine k (.ref p) (es.take (min 40 xs.length)) _ (Step.trans ⟨kpH, ⟨_, e0⟩, T1.lst⟩ (Step.same s56 T1.lst)) (T1.same s56) ⟨p, _, rfl, SqT.of upd_same, Als.takeI _ (al.mono fun _ _ q => q.mono (Tst.same s56))⟩ (fun e he => ok e (List.mem_of_mem_take he)) ⟨ps, ps1, fun a b h => rk a b (List.mem_of_mem_take h)⟩ (by rw [List.length_take]; omega)
theorem ok_law_whole (T : Txt K mg t) : FnOk P w K mg base CX0 1 t.a_law_whole t.d_law_whole ["_law_thing"] (sp_law_whole K) := by
  refine T.F_law_whole.ok sc_law_whole (fun vs H Q E h => ?_) (fun cdv A outer s H vs Q E hr h => ?_)
  · obtain ⟨_, _, rfl, _⟩ := h; rfl
  obtain ⟨v, d, rfl, hD, k⟩ := h
  obtain ⟨b, c, e1, e2, e3⟩ := isi_int hD
  refine QSs.ok (qss_one (qs_ret (qe_and (qe_callB call_isiD (by rfl) T.z_isinstance PyProof.Rows.boot_isinstance (qa_cons (qv 0) (qa_cons (qe_bltn (v := V.ty "int") rfl T.z_int PyProof.Rows.boot_int rfl) qa_nil star_name) star_name)) (qe_one (qe_not (qe_callB call_isiD (by rfl) T.z_isinstance PyProof.Rows.boot_isinstance (qa_cons (qv 0) (qa_cons (qe_bltn (v := V.ty "bool") rfl T.z_bool PyProof.Rows.boot_bool rfl) qa_nil star_name) star_name))))))) ?_
  rw [e3] at k
  refine ⟨_, rfl, _, _, _, _, rfl, hD, e1, _, rfl, ?_⟩
  cases b with
  | false => exact k
  | true => exact ⟨_, rfl, _, _, _, _, rfl, hD, e2, _, rfl, k⟩
theorem ok_law_is_work (T : Txt K mg t) : FnOk P w K mg base CX0 2 t.a_law_is_work t.d_law_is_work ["_law_thing"] (sp_law_is_work K) := by
  refine T.F_law_is_work.ok sc_law_is_work (fun vs H Q E h => ?_) (fun cdv A outer s H vs Q E hr h => ?_)
  · obtain ⟨_, _, rfl, _⟩ := h; rfl
  obtain ⟨v, d, rfl, hD, k⟩ := h
  refine QSs.ok (qss_cons (qs_if (qw_pt (qw_or (qt_not (qt_val (qe_callB call_isiD (by rfl) T.z_isinstance PyProof.Rows.boot_isinstance (qa_cons (qv 0) (qa_cons (qe_bltn (v := V.ty "tuple") rfl T.z_tuple PyProof.Rows.boot_tuple rfl) qa_nil star_name) star_name)))) (qw_or (qt_cmpR op_ne (qe_callB call_len_seq (by rfl) T.z_len PySem.boot_len (qa_cons (qv 0) qa_nil star_name)) qe_int (nomark _)) (qw_or (qt_not (qt_val (qe_call (ok_law_whole T) (hr.mono (by decide)) rfl T.m_law_whole T.F_law_whole.kp T.b_law_whole .nil pass0 (qa_cons (qe_ix ix_tup (qv 0) qe_int (fun _ _ => rfl)) qa_nil star_sub)))) (qw_or1 (qt_not (qt_val (qe_call (ok_law_whole T) (hr.mono (by decide)) rfl T.m_law_whole T.F_law_whole.kp T.b_law_whole .nil pass0 (qa_cons (qe_ix ix_tup (qv 0) qe_int (fun _ _ => rfl)) qa_nil star_sub))))))))) (qss_one (qs_ret qe_bl)) qss_nil)
      (qss_cons (qs_set (i := 1) sc_law_is_work.nd rfl (by first | exact Or.inl rfl | exact Or.inr rfl) (qe_ix ix_tup (qv 0) qe_int (fun _ _ => rfl)))
      (qss_cons (qs_if (qw_pt (qw_or (qt_not (qt_val (qe_callB call_isiD (by rfl) T.z_isinstance PyProof.Rows.boot_isinstance (qa_cons (qv 1) (qa_cons (qe_bltn (v := V.ty "tuple") rfl T.z_tuple PyProof.Rows.boot_tuple rfl) qa_nil star_name) star_name)))) (qw_or (qt_cmpR op_ne (qe_callB call_len_seq (by rfl) T.z_len PySem.boot_len (qa_cons (qv 1) qa_nil star_name)) qe_int (nomark _)) (qw_or (qt_not (qt_val (qe_call (ok_law_whole T) (hr.mono (by decide)) rfl T.m_law_whole T.F_law_whole.kp T.b_law_whole .nil pass0 (qa_cons (qe_ix ix_tup (qv 1) qe_int (fun _ _ => rfl)) qa_nil star_sub)))) (qw_or1 (qt_not (qt_val (qe_call (ok_law_whole T) (hr.mono (by decide)) rfl T.m_law_whole T.F_law_whole.kp T.b_law_whole .nil pass0 (qa_cons (qe_ix ix_tup (qv 1) qe_int (fun _ _ => rfl)) qa_nil star_sub))))))))) (qss_one (qs_ret qe_bl)) qss_nil)
      (qss_cons (qs_if (qw_pt (qw_or (qt_cmpR op_lt (qe_ix ix_tup (qv 1) qe_int (fun _ _ => rfl)) qe_int (nomark _)) (qw_or (qt_cmpR op_lt (qe_ix ix_tup (qv 1) qe_int (fun _ _ => rfl)) qe_int (nomark _)) (qw_or1 (qt_cmpR op_ne (qe_call (ok_law_gcd T) (hr.mono (by decide)) rfl T.m_law_gcd T.F_law_gcd.kp T.b_law_gcd .nil pass0 (qa_cons (qe_ix ix_tup (qv 1) qe_int (fun _ _ => rfl)) (qa_cons (qe_ix ix_tup (qv 1) qe_int (fun _ _ => rfl)) qa_nil star_sub) star_sub)) qe_int (nomark _)))))) (qss_one (qs_ret qe_bl)) qss_nil)
      (qss_one (qs_ret (qe_chain3 op_le op_le op_le qe_int (qe_ix ix_tup (qv 0) qe_int (fun _ _ => rfl)) (qe_ix ix_tup (qv 0) qe_int (fun _ _ => rfl)) qe_int))))))) ?_
  rcases isi_tup hD with ⟨e, p, xs, ds, rfl, rfl, hS, hA⟩ | ⟨e, no⟩
  rotate_left
  · refine ⟨_, rfl, _, _, _, _, rfl, hD, e, _, rfl, iteT (iteT ?_)⟩
    rw [workD_f fun i j a b z => absurd z (no _)] at k
    exact k
  refine ⟨_, rfl, _, _, _, _, rfl, hD, e, _, rfl, iteF ?_⟩
  have hl := hA.len
  refine ⟨_, rfl, p, _, rfl, .inr hS, rfl, _, rfl, ?_⟩
  by_cases c3 : ds.length = 3
  rotate_left
  · refine iteN1 (fun z => c3 (by injection z with z; omega)) (iteT ?_)
    rw [workD_f fun i j a b z => by cases z; exact absurd rfl c3] at k
    exact k
  refine iteNS (by rw [hl, c3]; rfl) ?_
  obtain ⟨q, x, y, z, dx, dy, dz, e1, e2, hS', hx, hy, hz⟩ := Deep.three hD (show decide (ds.length = 3) = true from decide_eq_true c3)
  cases e1
  cases e2
  refine ⟨_, rfl, p, _, _, _, rfl, rfl, hS', rfl, x, dx, rfl, hx, ⟨_, rfl, ?_⟩⟩
  cases cx : wholeD dx with
  | false =>
    refine iteT (iteT ?_)
    rw [workD_f fun i j a b z => by cases z; cases cx] at k
    exact k
  | true =>
  refine iteF ?_
  obtain ⟨i, rfl⟩ := wholeD_int cx
  cases hx
  refine ⟨_, rfl, p, _, _, _, rfl, rfl, hS', rfl, y, dy, rfl, hy, ⟨_, rfl, ?_⟩⟩
  cases cy : wholeD dy with
  | false =>
    refine iteT ?_
    rw [workD_f fun i j a b z => by cases z; cases cy] at k
    exact k
  | true =>
  refine iteF ?_
  obtain ⟨j, rfl⟩ := wholeD_int cy
  cases hy
  refine ⟨_, rfl, p, _, _, _, rfl, rfl, hS', rfl, ?_⟩
  rcases isi_tup hz with ⟨ez, pz, zs, es, rfl, rfl, hSz, hAz⟩ | ⟨ez, no⟩
  rotate_left
  · refine ⟨_, rfl, _, _, _, _, rfl, hz, ez, _, rfl, iteT (iteT ?_)⟩
    rw [workD_f fun i j a b z => by cases z; exact absurd rfl (no _)] at k
    exact k
  refine ⟨_, rfl, _, _, _, _, rfl, hz, ez, _, rfl, iteF ?_⟩
  have hlz := hAz.len
  refine ⟨_, rfl, pz, _, rfl, .inr hSz, rfl, _, rfl, ?_⟩
  by_cases c2 : es.length = 2
  rotate_left
  · refine iteN1 (fun z => c2 (by injection z with z; omega)) (iteT ?_)
    rw [workD_f fun i j a b z => by cases z; exact absurd rfl c2] at k
    exact k
  refine iteNS (by rw [hlz, c2]; rfl) ?_
  obtain ⟨q2, x2, y2, dx2, dy2, e1, e2, hS2, hx2, hy2⟩ := hz.two (show decide (es.length = 2) = true from decide_eq_true c2)
  cases e1
  cases e2
  refine ⟨_, rfl, pz, _, _, _, rfl, rfl, hS2, rfl, x2, dx2, rfl, hx2, ⟨_, rfl, ?_⟩⟩
  cases ca : wholeD dx2 with
  | false =>
    refine iteT (iteT ?_)
    rw [workD_f fun i j a b z => by cases z; cases ca] at k
    exact k
  | true =>
  refine iteF ?_
  obtain ⟨a, rfl⟩ := wholeD_int ca
  cases hx2
  refine ⟨_, rfl, pz, _, _, _, rfl, rfl, hS2, rfl, y2, dy2, rfl, hy2, ⟨_, rfl, ?_⟩⟩
  cases cb : wholeD dy2 with
  | false =>
    refine iteT ?_
    rw [workD_f fun i j a b z => by cases z; cases cb] at k
    exact k
  | true =>
  refine iteF ?_
  obtain ⟨b, rfl⟩ := wholeD_int cb
  cases hy2
  refine ⟨_, rfl, pz, _, _, _, rfl, rfl, hS2, rfl, _, _, rfl, rfl, _, rfl, ?_⟩
  by_cases a1 : a < 1
  · refine iteD1 a1 (iteT ?_)
    rw [workD_f fun i' j' a' b' z => by cases z; omega] at k
    exact k
  refine iteD0 a1 ?_
  refine ⟨_, rfl, pz, _, _, _, rfl, rfl, hS2, rfl, _, _, rfl, rfl, _, rfl, ?_⟩
  by_cases b1 : b < 1
  · refine iteD1 b1 (iteT ?_)
    rw [workD_f fun i' j' a' b' z => by cases z; omega] at k
    exact k
  refine iteD0 b1 ?_
  refine ⟨_, rfl, pz, _, _, _, rfl, rfl, hS2, rfl, _, rfl, pz, _, _, _, rfl, rfl, hS2, rfl, a, b, rfl, by omega, by omega, rfl, _, rfl, ?_⟩
  by_cases g1 : Int.gcd a b = 1
  rotate_left
  · refine iteN1 (fun z => g1 (by injection z with z; omega)) ?_
    rw [workD_f fun i' j' a' b' z => by cases z; exact fun w => g1 w.2.2.2.2.2] at k
    exact k
  refine iteNS (by rw [g1]; rfl) ?_
  refine ⟨_, rfl, p, _, _, _, rfl, rfl, hS', rfl, _, _, rfl, rfl, _, rfl, ?_⟩
  by_cases h0 : 0 ≤ i
  rotate_left
  · refine iteD0 h0 ?_
    rw [workD_f fun i' j' a' b' z => by cases z; exact fun w => h0 w.1] at k
    exact k
  refine iteD1 h0 ?_
  refine ⟨_, rfl, p, _, _, _, rfl, rfl, hS', rfl, _, _, rfl, rfl, _, rfl, ?_⟩
  by_cases h1 : i ≤ j
  rotate_left
  · refine iteD0 h1 ?_
    rw [workD_f fun i' j' a' b' z => by cases z; exact fun w => h1 w.2.1] at k
    exact k
  refine iteD1 h1 ?_
  refine ⟨_, _, rfl, rfl, ?_⟩
  by_cases h2 : j ≤ 23
  · rw [workD_iff.mpr ⟨i, j, a, b, rfl, h0, h1, h2, by omega, by omega, g1⟩] at k
    dsimp only
    rw [show decide (j ≤ 23) = true from decide_eq_true h2]
    exact k
  · rw [workD_f fun i' j' a' b' z => by cases z; exact fun w => h2 w.2.2.1] at k
    dsimp only
    rw [show decide (j ≤ 23) = false from decide_eq_false h2]
    exact k
theorem ok_law_is_lean (T : Txt K mg t) : FnOk P w K mg base CX0 2 t.a_law_is_lean t.d_law_is_lean ["_law_thing", "_law_many"] (sp_law_is_lean K) := by
  refine T.F_law_is_lean.ok sc_law_is_lean (fun vs H Q E h => ?_) (fun cdv A outer s H vs Q E hr h => ?_)
  · obtain ⟨_, _, _, rfl, _⟩ := h; rfl
  obtain ⟨v, d, m, rfl, hD, k⟩ := h
  refine QSs.ok (qss_cons (qs_if (qw_pt (qw_or (qt_not (qt_val (qe_callB call_isiD (by rfl) T.z_isinstance PyProof.Rows.boot_isinstance (qa_cons (qv 0) (qa_cons (qe_bltn (v := V.ty "tuple") rfl T.z_tuple PyProof.Rows.boot_tuple rfl) qa_nil star_name) star_name)))) (qw_or (qt_cmpR op_ne (qe_callB call_len_seq (by rfl) T.z_len PySem.boot_len (qa_cons (qv 0) qa_nil star_name)) qe_int (nomark _)) (qw_or (qt_not (qt_val (qe_call (ok_law_whole T) (hr.mono (by decide)) rfl T.m_law_whole T.F_law_whole.kp T.b_law_whole .nil pass0 (qa_cons (qe_ix ix_tup (qv 0) qe_int (fun _ _ => rfl)) qa_nil star_sub)))) (qw_or1 (qt_not (qt_val (qe_call (ok_law_whole T) (hr.mono (by decide)) rfl T.m_law_whole T.F_law_whole.kp T.b_law_whole .nil pass0 (qa_cons (qe_ix ix_tup (qv 0) qe_int (fun _ _ => rfl)) qa_nil star_sub))))))))) (qss_one (qs_ret qe_bl)) qss_nil)
      (qss_one (qs_ret (qe_and (qe_cmpR op_ne (qe_ix ix_tup (qv 0) qe_int (fun _ _ => rfl)) (qe_ix ix_tup (qv 0) qe_int (fun _ _ => rfl)) (nomark _)) (qe_and (qe_cmpR op_le qe_int (qe_callB (call_minT rfl) (by rfl) T.z_min PyProof.Rows.boot_min (qa_cons (qv 0) qa_nil star_name)) (nomark _)) (qe_one (qe_cmpR op_lt (qe_callB (call_maxT rfl) (by rfl) T.z_max PyProof.Rows.boot_max (qa_cons (qv 0) qa_nil star_name)) (qv 1) (nomark _)))))))) ?_
  rcases isi_tup hD with ⟨e, p, xs, ds, rfl, rfl, hS, hA⟩ | ⟨e, no⟩
  rotate_left
  · refine ⟨_, rfl, _, _, _, _, rfl, hD, e, _, rfl, iteT (iteT ?_)⟩
    rw [leanD_f fun i j z => absurd z (no _)] at k
    exact k
  refine ⟨_, rfl, _, _, _, _, rfl, hD, e, _, rfl, iteF ?_⟩
  have hl := hA.len
  refine ⟨_, rfl, p, _, rfl, .inr hS, rfl, _, rfl, ?_⟩
  by_cases c2 : ds.length = 2
  rotate_left
  · refine iteN1 (fun z => c2 (by injection z with z; omega)) (iteT ?_)
    rw [leanD_f fun i j z => by cases z; exact absurd rfl c2] at k
    exact k
  refine iteNS (by rw [hl, c2]; rfl) ?_
  obtain ⟨q, x, y, dx, dy, e1, e2, hS', hx, hy⟩ := hD.two (show decide (ds.length = 2) = true from decide_eq_true c2)
  cases e1
  cases e2
  refine ⟨_, rfl, p, _, _, _, rfl, rfl, hS', rfl, x, dx, rfl, hx, ⟨_, rfl, ?_⟩⟩
  cases cx : wholeD dx with
  | false =>
    refine iteT (iteT ?_)
    rw [leanD_f fun i j z => by cases z; cases cx] at k
    exact k
  | true =>
  refine iteF ?_
  obtain ⟨i, rfl⟩ := wholeD_int cx
  cases hx
  refine ⟨_, rfl, p, _, _, _, rfl, rfl, hS', rfl, y, dy, rfl, hy, ⟨_, rfl, ?_⟩⟩
  cases cy : wholeD dy with
  | false =>
    refine iteT ?_
    rw [leanD_f fun i j z => by cases z; cases cy] at k
    exact k
  | true =>
  refine iteF ?_
  obtain ⟨j, rfl⟩ := wholeD_int cy
  cases hy
  refine ⟨_, rfl, p, _, _, _, rfl, rfl, hS', rfl, _, rfl, p, _, _, _, rfl, rfl, hS', rfl, rfl, _, rfl, ?_⟩
  by_cases ij : i = j
  · refine iteNS (by rw [ij]) ?_
    rw [leanD_f fun i' j' z => by cases z; exact fun w => w.2.2.2.2 ij] at k
    exact k
  refine iteN1 (fun z => ij (by injection z)) ?_
  refine ⟨_, rfl, p, [i, j], rfl, hS', Nat.succ_pos _, fun M hM hB => ?_⟩
  refine ⟨_, _, rfl, rfl, _, rfl, ?_⟩
  have m1 := hB i List.mem_cons_self
  have m2 := hB j (List.mem_cons_of_mem _ List.mem_cons_self)
  have mm : M = i ∨ M = j := by simpa using hM
  by_cases h0 : 0 ≤ M
  rotate_left
  · refine iteD0 h0 ?_
    rw [leanD_f fun i' j' z => by cases z; rcases mm with w | w <;> omega] at k
    exact k
  refine iteD1 h0 ?_
  refine ⟨_, rfl, p, [i, j], rfl, hS', Nat.succ_pos _, fun M2 hM2 hB2 => ?_⟩
  have q1 := hB2 i List.mem_cons_self
  have q2 := hB2 j (List.mem_cons_of_mem _ List.mem_cons_self)
  have mm2 : M2 = i ∨ M2 = j := by simpa using hM2
  refine ⟨_, rfl, _, _, rfl, rfl, ?_⟩
  by_cases h1 : M2 < m
  · rw [leanD_iff.mpr ⟨i, j, rfl, by omega, by omega, by omega, by omega, ij⟩] at k
    dsimp only
    rw [show decide (M2 < m) = true from decide_eq_true h1]
    exact k
  · rw [leanD_f fun i' j' z => by cases z; rcases mm2 with w | w <;> omega] at k
    dsimp only
    rw [show decide (M2 < m) = false from decide_eq_false h1]
    exact k
theorem ok_law_rings (T : Txt K mg t) : FnOk P w K mg base CX0 1 t.a_law_rings t.d_law_rings ["_law_leans_here", "_law_start", "_law_goal"] (sp_law_rings K) := by
  refine T.F_law_rings.ok sc_law_rings (fun vs H Q E h => ?_) (fun cdv A outer s H vs Q E hr h => ?_)
  · obtain ⟨_, _, _, _, rfl, _⟩ := h; rfl
  obtain ⟨v, es, a, b, rfl, ⟨p, xs, rfl, hS, al⟩, h40, k⟩ := h
  refine QSs.ok (qss_cons (qs_set (i := 3) sc_law_rings.nd rfl (by first | exact Or.inl rfl | exact Or.inr rfl) (qe_lst (qa_cons (qv 1) qa_nil star_name)))
      (qss_cons (qs_for PassesOwn.never rfl (qi_range1 rfl T.z_range (qa_cons (qe_callB call_len_seq (by rfl) T.z_len PySem.boot_len (qa_cons (qv 0) qa_nil star_name)) qa_nil star_call)) (qg_name (i := 4) sc_law_rings.nd rfl (by first | exact Or.inl rfl | exact Or.inr rfl))
      (qss_one (qs_set (i := 3) sc_law_rings.nd rfl (by first | exact Or.inl rfl | exact Or.inr rfl) (qe_op op_cat (qv 3) (qe_lcomp (N' := ["_law_one", "_law_other", "_law_seen"]) (src := [none, none, some 3]) rfl (by exact (qi_tup (qv 0))) (fun _ _ _ _ _ => (by exact (by exact qg_tupK (K := K) (n := 2) (by exact rfl) (by exact rfl) (by exact qgs_cons (by exact qg_name (i := 0) (by show List.Nodup (["_law_one", "_law_other", "_law_seen"] : List Str); decide +kernel) (by exact rfl) (by first | exact Or.inl rfl | exact Or.inr rfl)) (by exact qgs_cons (by exact qg_name (i := 1) (by show List.Nodup (["_law_one", "_law_other", "_law_seen"] : List Str); decide +kernel) (by exact rfl) (by first | exact Or.inl rfl | exact Or.inr rfl)) qgs_nil))))) (fun _ _ _ _ _ => (qts_one (qw_pt (qw_and (qt_cmpR (op_in_seqK (K := K) (by exact rfl)) (by exact (qv 1)) (by exact (qv 2)) (by with_unfolding_all rfl)) (qw_and1 (qt_cmpR (op_notIn_seqK (K := K) (by exact rfl)) (by exact (qv 0)) (by exact (qv 2)) (by with_unfolding_all rfl))))))) (fun _ _ _ _ _ => (by exact (by exact (qv 0)))) (by exact ⟨rfl, rfl, rfl, rfl, trivial⟩) rfl (by decide +kernel) rfl (by decide +kernel) (by exact cells_of rfl ⟨rfl, trivial⟩))))))
      (qss_one (qs_ret (qe_cmpR op_in_seq (qv 2) (qv 3) (by with_unfolding_all rfl)))))) ?_
  have hxl := al.len
  refine ⟨_, rfl, (by show 1 ≤ sizeLine; decide), fun l0 hl0 => ?_⟩
  have s0 := same_new hl0 (.lst [.int (a : Nat)])
  refine ⟨_, rfl, p, _, rfl, .inr (Tst.same (K := K) s0 _ _ hS), _, rfl, by omega, by omega, for_range (lo := 0) (n := (xs.length : Int).toNat) (fun r σ H' => ∃ (l : Addr) (S : List Nat) (x5 : Option V), σ = [some (.ref p), some (.int (a : Nat)), some (.int (b : Nat)), some (.ref l), x5] ∧ Same H H' ∧ H' l = some (.lst (natW S)) ∧ S.length ≤ 1 + 40 * r ∧ a ∈ S ∧ (∀ x ∈ S, x = a ∨ Rch es x a) ∧ (Cl es S ∨ r ≤ cntS es S)) ⟨l0, [a], none, rfl, s0, upd_same, Nat.le_refl _, List.mem_cons_self, (fun x hx => .inl (List.mem_singleton.mp hx)), .inr (Nat.zero_le _)⟩ ?_ ?_⟩
  · rintro r σ H1 hr_ ⟨l, S, x5, rfl, s1, hl1, hlen, ma, snd, cc⟩
    have t1 := Tst.same (K := K) s1
    refine ⟨_, rfl, _, rfl, p, rfl, ⟨_, t1 _ _ hS⟩, fun D hD => comp_ix (wlk_tup (t1 _ _ hS)) (fun j => S.contains (es.getD j (0, 0)).2 && !S.contains (es.getD j (0, 0)).1) (fun j => V.int ((es.getD j (0, 0)).1 : Nat)) hD (by omega) (fun j x H' hj s' hx R E kR kE => ?_) fun H2 s2 h2 => ?_⟩
    · obtain ⟨e, he, q, rfl, hq⟩ := al.at hx
      rw [getD_of (0, 0) he] at kR kE
      have hq' := Tst.same (K := K) s' _ _ (t1 _ _ hq)
      have hl' := s'.seq (SqL.of (K := K) hl1)
      refine ⟨q, _, rfl, hq', rfl, _, _, rfl, _, _, rfl, rfl, (Ext.set rfl).set' rfl, ?_⟩
      refine ⟨_, rfl, _, rfl, l, _, rfl, .inl hl', rfl, flat_nat _, _, rfl, ?_⟩
      have e1 : inV (.int (e.2 : Nat)) (natW S) = S.contains e.2 := inV_int e.2 S
      have e2 : inV (.int (e.1 : Nat)) (natW S) = S.contains e.1 := inV_int e.1 S
      cases c1 : S.contains e.2 with
      | false => exact iteB0 (by show inV (.int (e.2 : Nat)) (natW S) = false; rw [e1, c1]) (iteF (kE (by rw [c1]; rfl) _ (Same.refl _)))
      | true =>
        refine iteB1 (by show inV (.int (e.2 : Nat)) (natW S) = true; rw [e1, c1]) ?_
        refine ⟨_, rfl, _, rfl, l, _, rfl, .inl hl', rfl, flat_nat _, _, rfl, ?_⟩
        cases c2 : S.contains e.1 with
        | true => exact iteB0 (by show (!inV (.int (e.1 : Nat)) (natW S)) = false; rw [e2, c2]; rfl) (kE (by rw [c1, c2]; rfl) _ (Same.refl _))
        | false => exact iteB1 (by show (!inV (.int (e.1 : Nat)) (natW S)) = true; rw [e2, c2]; rfl) ⟨_, rfl, kR (by rw [c1, c2]; rfl) _ (Same.refl _)⟩
    rw [hxl, by_place (0, 0) (fun e : Ln => S.contains e.2 && !S.contains e.1) (fun e : Ln => V.int (e.1 : Nat))] at h2
    have lf : (es.filter fun e => S.contains e.2 && !S.contains e.1).length ≤ es.length := List.length_filter_le _ _
    refine ⟨l, D, _, _, rfl, rfl, s2 _ _ hl1, h2, Nat.le_trans (show _ ≤ 5000 by unfold natW; rw [List.length_map, List.length_map]; omega) (by show 5000 ≤ sizeLine; decide), fun l2 hl2 => ?_⟩
    have s3 := same_new hl2 (.lst (natW S ++ (es.filter fun e => S.contains e.2 && !S.contains e.1).map fun e : Ln => V.int (e.1 : Nat)))
    refine ⟨l2, nxS es S, _, rfl, (s1.trans s2).trans s3, ?_, ?_, nx_mem.mpr (.inl ma), fun x hx => ?_, cl_or cc⟩
    · rw [upd_same]
      unfold nxS natW
      rw [List.map_append, List.map_map]
      rfl
    · unfold nxS
      rw [List.length_append, List.length_map]
      omega
    · rcases nx_mem.mp hx with z | ⟨e, me, m2, _, rfl⟩
      · exact snd x z
      · rcases snd _ m2 with z | z
        · right
          rw [← z]
          exact .one me
        · exact .inr (.step me z)
  · rintro σ H1 ⟨l, S, x5, rfl, s1, hl1, hlen, ma, snd, cc⟩
    rw [show (xs.length : Int).toNat = es.length by omega] at cc
    have cl := cl_end cc
    refine ⟨_, rfl, _, rfl, l, _, rfl, .inl (SqL.of hl1), rfl, flat_nat _, ?_⟩
    have e1 : inV (.int (b : Nat)) (natW S) = S.contains b := inV_int b S
    refine k (inV (.int (b : Nat)) (natW S)) _ ?_ s1
    rw [e1, List.contains_iff_mem]
    exact ⟨snd b, fun z => z.elim (fun w => by rw [w]; exact ma) fun w => cl_rch cl ma w⟩
theorem ok_law_due (T : Txt K mg t) : FnOk P w K mg base CX0 3 t.a_law_due t.d_law_due ["_law_thing"] (sp_law_due K) := by
  refine T.F_law_due.ok sc_law_due (fun vs H Q E h => ?_) (fun cdv A outer s H vs Q E hr h => ?_)
  · obtain ⟨_, _, rfl, _⟩ := h; rfl
  obtain ⟨v, d, rfl, hD, k⟩ := h
  refine QSs.ok (qss_cons (qs_if (qw_pt (qw_or (qt_not (qt_val (qe_callB call_isiD (by rfl) T.z_isinstance PyProof.Rows.boot_isinstance (qa_cons (qv 0) (qa_cons (qe_bltn (v := V.ty "tuple") rfl T.z_tuple PyProof.Rows.boot_tuple rfl) qa_nil star_name) star_name)))) (qw_or1 (qt_cmpR op_ne (qe_callB call_len_seq (by rfl) T.z_len PySem.boot_len (qa_cons (qv 0) qa_nil star_name)) qe_int (nomark _))))) (qss_one (qs_ret (qe_tup (qa_cons qe_str (qa_cons (qe_un un_neg qe_int) qa_nil star_un) star_con)))) qss_nil)
      (qss_cons (qs_if (qw_pt (qw_or (qt_not (qt_val (qe_callB call_isiD (by rfl) T.z_isinstance PyProof.Rows.boot_isinstance (qa_cons (qe_ix ix_tup (qv 0) qe_int (fun _ _ => rfl)) (qa_cons (qe_bltn (v := V.ty "tuple") rfl T.z_tuple PyProof.Rows.boot_tuple rfl) qa_nil star_name) star_sub)))) (qw_or (qt_not (qt_val (qe_callB call_isiD (by rfl) T.z_isinstance PyProof.Rows.boot_isinstance (qa_cons (qe_ix ix_tup (qv 0) qe_int (fun _ _ => rfl)) (qa_cons (qe_bltn (v := V.ty "tuple") rfl T.z_tuple PyProof.Rows.boot_tuple rfl) qa_nil star_name) star_sub)))) (qw_or (qt_cmpR op_gt (qe_callB call_len_seq (by rfl) T.z_len PySem.boot_len (qa_cons (qe_ix ix_tup (qv 0) qe_int (fun _ _ => rfl)) qa_nil star_sub)) qe_int (nomark _)) (qw_or1 (qt_cmpR op_gt (qe_callB call_len_seq (by rfl) T.z_len PySem.boot_len (qa_cons (qe_ix ix_tup (qv 0) qe_int (fun _ _ => rfl)) qa_nil star_sub)) qe_int (nomark _))))))) (qss_one (qs_ret (qe_tup (qa_cons qe_str (qa_cons (qe_un un_neg qe_int) qa_nil star_un) star_con)))) qss_nil)
      (qss_cons (qs_setC (i := 1) (N' := ["_law_n", "_law_thing"]) (src := [none, some 0]) sc_law_due.nd rfl (by first | exact Or.inl rfl | exact Or.inr rfl) rfl (by exact (qi_range1 rfl T.z_range (qa_cons (qe_callB call_len_seq (by rfl) T.z_len PySem.boot_len (qa_cons (qe_ix ix_tup (qv 0) qe_int (fun _ _ => rfl)) qa_nil star_sub)) qa_nil star_call))) (fun _ _ _ _ _ => (by exact (by exact qg_name (i := 0) (by show List.Nodup (["_law_n", "_law_thing"] : List Str); decide +kernel) (by exact rfl) (by first | exact Or.inl rfl | exact Or.inr rfl)))) (fun _ _ _ _ _ => (qts_one (qt_not (qt_val (by exact (qe_call (ok_law_is_work T) (by exact hr.mono (by decide)) (by exact rfl) T.m_law_is_work T.F_law_is_work.kp T.b_law_is_work (by exact .nil) (by exact pass0) (qa_cons (by exact (qe_ix (ix_tupK (K := K) (by exact rfl)) (by exact (qe_ix (ix_tupK (K := K) (by exact rfl)) (by exact (qv 1)) qe_int (by exact fun _ _ => rfl))) (by exact (qv 0)) (by exact fun _ _ => rfl))) qa_nil star_sub))))))) (fun _ _ _ _ _ => (by exact (by exact (qv 0)))) (by exact ⟨rfl, rfl, rfl, rfl, trivial⟩) rfl (by decide +kernel) rfl (by decide +kernel) (by exact cells_of rfl ⟨rfl, trivial⟩))
      (qss_cons (qs_setC (i := 2) (N' := ["_law_n", "_law_thing"]) (src := [none, some 0]) sc_law_due.nd rfl (by first | exact Or.inl rfl | exact Or.inr rfl) rfl (by exact (qi_range1 rfl T.z_range (qa_cons (qe_callB call_len_seq (by rfl) T.z_len PySem.boot_len (qa_cons (qe_ix ix_tup (qv 0) qe_int (fun _ _ => rfl)) qa_nil star_sub)) qa_nil star_call))) (fun _ _ _ _ _ => (by exact (by exact qg_name (i := 0) (by show List.Nodup (["_law_n", "_law_thing"] : List Str); decide +kernel) (by exact rfl) (by first | exact Or.inl rfl | exact Or.inr rfl)))) (fun _ _ _ _ _ => (qts_one (qt_not (qt_val (by exact (qe_call (ok_law_is_lean T) (by exact hr.mono (by decide)) (by exact rfl) T.m_law_is_lean T.F_law_is_lean.kp T.b_law_is_lean (by exact .nil) (by exact pass0) (qa_cons (by exact (qe_ix (ix_tupK (K := K) (by exact rfl)) (by exact (qe_ix (ix_tupK (K := K) (by exact rfl)) (by exact (qv 1)) qe_int (by exact fun _ _ => rfl))) (by exact (qv 0)) (by exact fun _ _ => rfl))) (qa_cons (by exact (qe_callB (call_lenK (K := K) (by exact rfl)) (by exact rfl) T.z_len PySem.boot_len (qa_cons (by exact (qe_ix (ix_tupK (K := K) (by exact rfl)) (by exact (qv 1)) qe_int (by exact fun _ _ => rfl))) qa_nil star_sub))) qa_nil star_call) star_sub))))))) (fun _ _ _ _ _ => (by exact (by exact (qv 0)))) (by exact ⟨rfl, rfl, rfl, rfl, trivial⟩) rfl (by decide +kernel) rfl (by decide +kernel) (by exact cells_of rfl ⟨rfl, trivial⟩))
      (qss_cons (qs_if (qt_cmpR (op_neD hr) (qv 1) (qe_lst qa_nil) (nomark _)) (qss_one (qs_ret (qe_tup (qa_cons qe_str (qa_cons (qe_ix ix_list (qv 1) qe_int (fun _ _ => rfl)) qa_nil star_sub) star_con)))) qss_nil)
      (qss_cons (qs_if (qt_cmpR (op_neD hr) (qv 2) (qe_lst qa_nil) (nomark _)) (qss_one (qs_ret (qe_tup (qa_cons qe_str (qa_cons (qe_ix ix_list (qv 2) qe_int (fun _ _ => rfl)) qa_nil star_sub) star_con)))) qss_nil)
      (qss_cons (qs_for PassesOwn.never rfl (qi_range1 rfl T.z_range (qa_cons (qe_callB call_len_seq (by rfl) T.z_len PySem.boot_len (qa_cons (qe_ix ix_tup (qv 0) qe_int (fun _ _ => rfl)) qa_nil star_sub)) qa_nil star_call)) (qg_name (i := 3) sc_law_due.nd rfl (by first | exact Or.inl rfl | exact Or.inr rfl))
      (qss_one (qs_if (qt_val (qe_call (ok_law_rings T) (hr.mono (by decide)) rfl T.m_law_rings T.F_law_rings.kp T.b_law_rings .nil pass0 (qa_cons (qe_slice sl_tupU (qe_ix ix_tup (qv 0) qe_int (fun _ _ => rfl)) qo_none (qo_some (qv 3))) (qa_cons (qe_ix ix_tup (qe_ix ix_tup (qe_ix ix_tup (qv 0) qe_int (fun _ _ => rfl)) (qv 3) (fun _ _ => rfl)) qe_int (fun _ _ => rfl)) (qa_cons (qe_ix ix_tup (qe_ix ix_tup (qe_ix ix_tup (qv 0) qe_int (fun _ _ => rfl)) (qv 3) (fun _ _ => rfl)) qe_int (fun _ _ => rfl)) qa_nil star_sub) star_sub) star_sub))) (qss_one (qs_ret (qe_tup (qa_cons qe_str (qa_cons (qv 3) qa_nil star_name) star_con)))) qss_nil)))
      (qss_one (qs_ret qe_non))))))))) ?_
  have shp : shD d = false → ∀ (p : Addr), H p = none → Q (.ref p) (upd H p (.tup [.str (Str.ofString "shape"), .int (-1)])) := fun sh p hp => by
    have du : DueIs d (some (Str.ofString "shape", -1)) := by unfold DueIs; rw [preD_no sh]
    exact k (some (Str.ofString "shape", -1)) _ _ du (same_new hp _) (.tup (SqT.of upd_same) (.cons (.str _) (.cons (.int _) .nil)))
  rcases isi_tup hD with ⟨e, p, ts, td, rfl, rfl, hS, hA⟩ | ⟨e, no⟩
  rotate_left
  · refine ⟨_, rfl, _, _, _, _, rfl, hD, e, _, rfl, iteT (iteT ?_)⟩
    exact ⟨_, rfl, (by show 2 ≤ sizeLine; decide), fun p hp => shp (shD_no (by cases c : tupD 2 d with | false => rfl | true => cases d with | tuple ds => exact absurd rfl (no _) | _ => cases c)) p hp⟩
  refine ⟨_, rfl, _, _, _, _, rfl, hD, e, _, rfl, iteF ?_⟩
  have hl := hA.len
  refine ⟨_, rfl, p, _, rfl, .inr hS, rfl, _, rfl, ?_⟩
  by_cases c2 : td.length = 2
  rotate_left
  · refine iteN1 (fun z => c2 (by injection z with z; omega)) ?_
    exact ⟨_, rfl, (by show 2 ≤ sizeLine; decide), fun p hp => shp (shD_no (show decide (td.length = 2) = false from decide_eq_false c2)) p hp⟩
  refine iteNS (by rw [hl, c2]; rfl) ?_
  obtain ⟨q, x, y, dx, dy, e1, e2, hS', hx, hy⟩ := hD.two (show decide (td.length = 2) = true from decide_eq_true c2)
  cases e1
  cases e2
  rcases isi_tup hx with ⟨ex, px, xs, ds, rfl, rfl, hSx, hAx⟩ | ⟨ex, no⟩
  rotate_left
  · refine ⟨_, rfl, p, _, _, _, rfl, rfl, hS', rfl, _, _, _, _, rfl, hx, ex, _, rfl, iteT (iteT ?_)⟩
    exact ⟨_, rfl, (by show 2 ≤ sizeLine; decide), fun p hp => shp (shD_no1 no) p hp⟩
  refine ⟨_, rfl, p, _, _, _, rfl, rfl, hS', rfl, _, _, _, _, rfl, hx, ex, _, rfl, iteF ?_⟩
  rcases isi_tup hy with ⟨ey, py, ys, es, rfl, rfl, hSy, hAy⟩ | ⟨ey, no⟩
  rotate_left
  · refine ⟨_, rfl, p, _, _, _, rfl, rfl, hS', rfl, _, _, _, _, rfl, hy, ey, _, rfl, iteT (iteT ?_)⟩
    exact ⟨_, rfl, (by show 2 ≤ sizeLine; decide), fun p hp => shp (shD_no2 no) p hp⟩
  refine ⟨_, rfl, p, _, _, _, rfl, rfl, hS', rfl, _, _, _, _, rfl, hy, ey, _, rfl, iteF ?_⟩
  have hxl := hAx.len
  have hyl := hAy.len
  refine ⟨_, rfl, p, _, _, _, rfl, rfl, hS', rfl, px, _, rfl, .inr hSx, _, _, rfl, rfl, _, rfl, ?_⟩
  by_cases n20 : ds.length ≤ 20
  rotate_left
  · refine iteD1 (by omega) (iteT ?_)
    exact ⟨_, rfl, (by show 2 ≤ sizeLine; decide), fun p hp => shp (by show (decide (ds.length ≤ 20) && decide (es.length ≤ 40)) = false; rw [decide_eq_false n20]; rfl) p hp⟩
  refine iteD0 (by omega) ?_
  refine ⟨_, rfl, p, _, _, _, rfl, rfl, hS', rfl, py, _, rfl, .inr hSy, _, _, rfl, rfl, _, rfl, ?_⟩
  by_cases n40 : es.length ≤ 40
  rotate_left
  · refine iteD1 (by omega) ?_
    exact ⟨_, rfl, (by show 2 ≤ sizeLine; decide), fun p hp => shp (by show (decide (ds.length ≤ 20) && decide (es.length ≤ 40)) = false; rw [decide_eq_false n40, Bool.and_false]) p hp⟩
  refine iteD0 (by omega) ?_
  clear shp
  have pre : preD (.tuple [.tuple ds, .tuple es]) = match fstBad ds workD with
    | some i => some (Str.ofString "work", (i : Int))
    | none => match fstBad es (leanD (ds.length : Int)) with
      | some i => some (Str.ofString "lean", (i : Int))
      | none => none := by
    show (if (decide (ds.length ≤ 20) && decide (es.length ≤ 40)) = true then _ else _) = _
    rw [if_pos (by rw [decide_eq_true n20, decide_eq_true n40]; rfl)]
    try rfl
  refine ⟨_, rfl, p, _, _, _, rfl, rfl, hS', rfl, px, _, rfl, .inr hSx, _, rfl, by omega, by omega, ?_⟩
  rw [show (xs.length : Int).toNat = ds.length by omega]
  refine fun D hD => comp_ix (wlk_rng (lo := 0) (n := ds.length)) (fun i => !workD (ds.getD i .none)) (fun i => V.int (i : Nat)) hD (by omega) (fun i x H' hi s' hx R E kR kE => ?_) fun H1 s1 h1 => ?_
  · subst hx
    rw [Int.zero_add]
    refine ⟨Ext.set rfl, ?_⟩
    have hde : ds[i]? = some ds[i] := List.getElem?_eq_getElem hi
    obtain ⟨v, hv, dv⟩ := DeepAll.atI hAx hde
    refine ⟨_, rfl, p, _, _, _, rfl, rfl, Tst.same s' _ _ hS', rfl, _, rfl, px, _, _, _, rfl, rfl, Tst.same s' _ _ hSx, atI_nat hv, v, _, rfl, dv.same s', ⟨_, rfl, ?_⟩⟩
    rw [getD_of PyData.none hde] at kR kE
    cases c : workD ds[i] with
    | true => exact iteF (kE (by rw [c]; rfl) _ (Same.refl _))
    | false => exact iteT ⟨_, rfl, kR (by rw [c]; rfl) _ (Same.refl _)⟩
  refine ⟨_, rfl, p, _, _, _, rfl, rfl, Tst.same s1 _ _ hS', rfl, py, _, rfl, .inr (Tst.same s1 _ _ hSy), _, rfl, by omega, by omega, ?_⟩
  rw [show (ys.length : Int).toNat = es.length by omega]
  refine fun D2 hD2 => comp_ix (wlk_rng (lo := 0) (n := es.length)) (fun i => !leanD (ds.length : Int) (es.getD i .none)) (fun i => V.int (i : Nat)) hD2 (by omega) (fun i x H' hi s' hx R E kR kE => ?_) fun H2 s2 h2 => ?_
  · subst hx
    rw [Int.zero_add]
    refine ⟨Ext.set rfl, ?_⟩
    have hde : es[i]? = some es[i] := List.getElem?_eq_getElem hi
    obtain ⟨v, hv, dv⟩ := DeepAll.atI hAy hde
    have s01 := s1.trans s'
    refine ⟨_, rfl, p, _, _, _, rfl, rfl, Tst.same s01 _ _ hS', rfl, _, rfl, py, _, _, _, rfl, rfl, Tst.same s01 _ _ hSy, atI_nat hv, _, rfl, p, _, _, _, rfl, rfl, Tst.same s01 _ _ hS', rfl, px, _, rfl, .inr (Tst.same s01 _ _ hSx), v, _, (ds.length : Int), (by rw [hxl]; rfl), dv.same s01, ⟨_, rfl, ?_⟩⟩
    rw [getD_of PyData.none hde] at kR kE
    cases c : leanD (ds.length : Int) es[i] with
    | true => exact iteF (kE (by rw [c]; rfl) _ (Same.refl _))
    | false => exact iteT ⟨_, rfl, kR (by rw [c]; rfl) _ (Same.refl _)⟩
  have s02 := s1.trans s2
  replace h1 := s2 _ _ h1
  have fb1 : fstBad ds workD = ((List.range ds.length).filter fun i => !workD (ds.getD i .none)).head? := by unfold fstBad; rw [List.head?_filter]
  have fb2 : fstBad es (leanD (ds.length : Int)) = ((List.range es.length).filter fun i => !leanD (ds.length : Int) (es.getD i .none)).head? := by unfold fstBad; rw [List.head?_filter]
  generalize hb1 : (List.range ds.length).filter (fun i => !workD (ds.getD i .none)) = bad1 at h1 fb1
  generalize hb2 : (List.range es.length).filter (fun i => !leanD (ds.length : Int) (es.getD i .none)) = bad2 at h2 fb2
  refine ⟨_, rfl, (by show 0 ≤ sizeLine; exact Nat.zero_le _), fun q1 hq1 => ?_⟩
  have s3 := same_new hq1 (.lst [])
  refine ⟨.list (bad1.map fun i : Nat => PyData.int i), .list [], .lst (SqL.of (s3 _ _ h1)) (natL bad1), .lst (SqL.of upd_same) .nil, layAll_of (fun d hd => by obtain ⟨i, _, rfl⟩ := List.mem_map.mp hd; rfl), rfl, natL_depth bad1, _, rfl, ?_⟩
  have s03 := s02.trans s3
  replace h1 := s3 _ _ h1
  replace h2 := s3 _ _ h2
  generalize upd H2 q1 (.lst []) = H3 at s3 s03 h1 h2 ⊢
  cases bad1 with
  | cons i r =>
    refine iteT ?_
    refine ⟨_, rfl, D, _, _, _, rfl, rfl, SqL.of h1, atI_nat (j := 0) (v := V.int (i : Nat)) rfl, (by show 2 ≤ sizeLine; decide), fun p9 g9 => ?_⟩
    refine k (some (Str.ofString "work", (i : Int))) _ _ ?_ (s03.trans (same_new g9 _)) (.tup (SqT.of upd_same) (.cons (.str _) (.cons (.int _) .nil)))
    unfold DueIs
    rw [pre, fb1]
    rfl
  | nil =>
  refine iteF ?_
  refine ⟨_, rfl, (by show 0 ≤ sizeLine; exact Nat.zero_le _), fun q2 hq2 => ?_⟩
  have s4 := same_new hq2 (.lst [])
  refine ⟨.list (bad2.map fun i : Nat => PyData.int i), .list [], .lst (SqL.of (s4 _ _ h2)) (natL bad2), .lst (SqL.of upd_same) .nil, layAll_of (fun d hd => by obtain ⟨i, _, rfl⟩ := List.mem_map.mp hd; rfl), rfl, natL_depth bad2, _, rfl, ?_⟩
  have s04 := s03.trans s4
  replace h2 := s4 _ _ h2
  generalize upd H3 q2 (.lst []) = H4 at s4 s04 h2 ⊢
  cases bad2 with
  | cons i r =>
    refine iteT ?_
    refine ⟨_, rfl, D2, _, _, _, rfl, rfl, SqL.of h2, atI_nat (j := 0) (v := V.int (i : Nat)) rfl, (by show 2 ≤ sizeLine; decide), fun p9 g9 => ?_⟩
    refine k (some (Str.ofString "lean", (i : Int))) _ _ ?_ (s04.trans (same_new g9 _)) (.tup (SqT.of upd_same) (.cons (.str _) (.cons (.int _) .nil)))
    unfold DueIs
    rw [pre, fb1, fb2]
    rfl
  | nil =>
  refine iteF ?_
  rw [fb1, fb2] at pre
  replace pre : preD (.tuple [.tuple ds, .tuple es]) = none := pre
  have lns : ∀ {d : PyData}, d ∈ es → leanD (ds.length : Int) d = true := fun {d} hd => by
    obtain ⟨j, hj, e⟩ := List.mem_iff_getElem.mp hd
    cases c : leanD (ds.length : Int) d with
    | true => rfl
    | false =>
      have m : j ∈ (List.range es.length).filter (fun i => !leanD (ds.length : Int) (es.getD i .none)) := List.mem_filter.mpr ⟨List.mem_range.mpr hj, by rw [getD_of PyData.none (List.getElem?_eq_getElem hj), e, c]; rfl⟩
      rw [hb2] at m
      cases m
  obtain ⟨lv, lok⟩ := lns_of (K := K) (H := H) (n := ds.length) hAy lns
  have lvl := lv.len
  refine ⟨_, rfl, p, _, _, _, rfl, rfl, Tst.same s04 _ _ hS', rfl, py, _, rfl, .inr (Tst.same s04 _ _ hSy), _, rfl, by omega, by omega, for_range (lo := 0) (n := (ys.length : Int).toNat) (fun i σ H' => ∃ (x3 : Option V), σ = [some (.ref p), some (.ref D), some (.ref D2), x3] ∧ Same H H' ∧ (∀ j, j < i → ¬ ringAt (es.map lnD) j) ∧ ∀ u, u < ds.length → ¬ Rch ((es.map lnD).take i) u u) ⟨none, rfl, s04, (fun j hj => absurd hj (Nat.not_lt_zero _)), fun u _ z => by rw [List.take_zero] at z; rcases z with h | ⟨h, _⟩ <;> cases h⟩ ?_ ?_⟩
  · rintro i σ H5 hi ⟨x3, rfl, s5, nr, ac⟩
    have t5 := Tst.same (K := K) s5
    obtain ⟨xl, hxl2⟩ : ∃ x, ys[i]? = some x := ⟨_, List.getElem?_eq_getElem (by omega)⟩
    obtain ⟨⟨a, b⟩, hd, pl, rfl, hpl⟩ := lv.at hxl2
    have hil : i ≤ ys.length := by omega
    rw [Int.zero_add]
    refine ⟨_, rfl, p, _, _, _, rfl, rfl, t5 _ _ hS', rfl, _, rfl, _, rfl, py, _, rfl, t5 _ _ hSy, fun pc H6 s6 hpc => ?_⟩
    rw [cut_to (n := i) hil] at hpc
    have s06 := s5.trans s6
    have t6 := Tst.same (K := K) s06
    refine ⟨_, rfl, p, _, _, _, rfl, rfl, t6 _ _ hS', rfl, _, rfl, py, _, _, _, rfl, rfl, t6 _ _ hSy, atI_nat hxl2, pl, _, _, _, rfl, rfl, t6 _ _ hpl, rfl, ?_⟩
    refine ⟨_, rfl, p, _, _, _, rfl, rfl, t6 _ _ hS', rfl, _, rfl, py, _, _, _, rfl, rfl, t6 _ _ hSy, atI_nat hxl2, pl, _, _, _, rfl, rfl, t6 _ _ hpl, rfl, ?_⟩
    refine ⟨_, (es.map lnD).take i, a, b, rfl, ⟨pc, ys.take i, rfl, hpc, Als.takeI i (lv.mono fun _ _ q => q.mono t6)⟩, by rw [List.length_take]; omega, fun r H7 hr7 s7 => ⟨_, rfl, ?_⟩⟩
    have s07 := s06.trans s7
    have ri := ring_iff lok hd ac
    cases r with
    | true =>
      refine iteT ?_
      refine ⟨_, rfl, (by show 2 ≤ sizeLine; decide), fun p9 g9 => ?_⟩
      refine k (some (Str.ofString "ring", (i : Int))) _ _ ?_ (s07.trans (same_new g9 _)) (.tup (SqT.of upd_same) (.cons (.str _) (.cons (.int _) .nil)))
      unfold DueIs
      rw [pre]
      exact ⟨some i, ⟨(List.getElem?_eq_some_iff.mp hd).1, ri.mpr (hr7.mp rfl), nr⟩, rfl⟩
    | false =>
      refine iteF ⟨_, rfl, s07, fun j hj => ?_, acy_next lok hd ac fun z => by cases hr7.mpr z⟩
      by_cases z : j < i
      · exact nr j z
      · have : j = i := by omega
        subst this
        exact fun w => by cases hr7.mpr (ri.mp w)
  · rintro σ H5 ⟨x3, rfl, s5, nr, ac⟩
    refine k none _ _ ?_ s5 .non
    unfold DueIs
    rw [pre]
    exact ⟨none, fun j hj => nr j (by have hj' : j < (es.map lnD).length := hj; rw [List.length_map] at hj'; omega), rfl⟩
theorem ok_law_bent_work (T : Txt K mg t) : FnOk P w K mg base CX0 2 t.a_law_bent_work t.d_law_bent_work ["_law_tape_here", "_law_work"] (sp_law_bent_work K) := by
  refine T.F_law_bent_work.ok sc_law_bent_work (fun vs H Q E h => ?_) (fun cdv A outer s H vs Q E hr h => ?_)
  · obtain ⟨_, _, _, _, _, rfl, _⟩ := h; rfl
  obtain ⟨t₁, s₁, D, v, w, rfl, tp, nD, hd_, ⟨pw, x, rfl, hSw, pa, rfl, hpa⟩, ok, k⟩ := h
  refine QSs.ok (qss_cons (qs_asg (qv 1) (qg_tup rfl (qgs_cons (qg_name (i := 2) sc_law_bent_work.nd rfl (by first | exact Or.inl rfl | exact Or.inr rfl)) (qgs_cons (qg_name (i := 3) sc_law_bent_work.nd rfl (by first | exact Or.inl rfl | exact Or.inr rfl)) (qgs_cons (qg_name (i := 4) sc_law_bent_work.nd rfl (by first | exact Or.inl rfl | exact Or.inr rfl)) qgs_nil)))))
      (qss_cons (qs_set (i := 5) sc_law_bent_work.nd rfl (by first | exact Or.inl rfl | exact Or.inr rfl) (qe_ix ix_list (qe_lst (qa_cons qe_bl (qa_cons qe_non (qa_cons qe_str (qa_cons (qe_un un_neg qe_int) (qa_cons qe_int (qa_cons (qe_tup (qa_cons qe_int qa_nil star_con)) (qa_cons (qe_op op_pow qe_int qe_int) (qa_cons (qe_tup (qa_cons qe_int (qa_cons qe_bl qa_nil star_con) star_con)) (qa_cons (qe_tup (qa_cons qe_bl (qa_cons qe_int qa_nil star_con) star_con)) qa_nil star_tup) star_tup) star_bin) star_tup) star_con) star_un) star_con) star_con) star_con)) (qe_call (ok_law_draw T) (hr.mono (by decide)) rfl T.m_law_draw T.F_law_draw.kp T.b_law_draw .nil pass0 (qa_cons (qv 0) (qa_cons qe_int qa_nil star_con) star_name)) (fun _ _ => rfl)))
      (qss_cons (qs_set (i := 6) sc_law_bent_work.nd rfl (by first | exact Or.inl rfl | exact Or.inr rfl) (qe_lst (qa_cons (qe_tup (qa_cons (qv 5) (qa_cons (qv 3) (qa_cons (qv 4) qa_nil star_name) star_name) star_name)) (qa_cons (qe_tup (qa_cons (qv 2) (qa_cons (qv 5) (qa_cons (qv 4) qa_nil star_name) star_name) star_name)) (qa_cons (qe_tup (qa_cons (qv 2) (qa_cons (qv 3) (qa_cons (qv 5) qa_nil star_name) star_name) star_name)) (qa_cons (qe_tup (qa_cons (qe_op op_add (qv 3) qe_int) (qa_cons (qv 3) (qa_cons (qv 4) qa_nil star_name) star_name) star_bin)) (qa_cons (qe_callTy call_list_of (by rfl) T.z_list PyProof.Rows.boot_list (qa_cons (qv 1) qa_nil star_name)) qa_nil star_call) star_tup) star_tup) star_tup) star_tup)))
      (qss_cons (qs_set (i := 6) sc_law_bent_work.nd rfl (by first | exact Or.inl rfl | exact Or.inr rfl) (qe_op op_cat (qv 6) (qe_lst (qa_cons (qe_tup (qa_cons (qv 2) (qa_cons (qv 3) (qa_cons (qe_tup (qa_cons qe_int (qa_cons qe_int qa_nil star_con) star_con)) qa_nil star_tup) star_name) star_name)) (qa_cons (qe_tup (qa_cons (qv 2) (qa_cons (qv 3) (qa_cons (qe_tup (qa_cons (qe_op op_sub qe_int (qe_ix ix_tup (qv 4) qe_int (fun _ _ => rfl))) (qa_cons (qe_ix ix_tup (qv 4) qe_int (fun _ _ => rfl)) qa_nil star_sub) star_bin)) qa_nil star_tup) star_name) star_name)) (qa_cons (qe_slice sl_tupU (qv 1) qo_none (qo_some qe_int)) (qa_cons (qe_op op_catU (qv 1) (qe_tup (qa_cons qe_int qa_nil star_con))) qa_nil star_bin) star_sub) star_tup) star_tup))))
      (qss_cons (qs_set (i := 6) sc_law_bent_work.nd rfl (by first | exact Or.inl rfl | exact Or.inr rfl) (qe_op op_cat (qv 6) (qe_lst (qa_cons (qe_tup (qa_cons (qv 2) (qa_cons (qv 3) (qa_cons (qe_tup (qa_cons (qe_op op_mul qe_int (qe_ix ix_tup (qv 4) qe_int (fun _ _ => rfl))) (qa_cons (qe_op op_mul qe_int (qe_ix ix_tup (qv 4) qe_int (fun _ _ => rfl))) qa_nil star_bin) star_bin)) qa_nil star_tup) star_name) star_name)) (qa_cons (qe_tup (qa_cons (qv 2) (qa_cons (qv 3) (qa_cons (qe_callTy call_list_of (by rfl) T.z_list PyProof.Rows.boot_list (qa_cons (qv 4) qa_nil star_name)) qa_nil star_call) star_name) star_name)) (qa_cons (qv 5) qa_nil star_name) star_tup) star_tup))))
      (qss_one (qs_ret (qe_ix ix_list (qv 6) (qe_call (ok_law_draw T) (hr.mono (by decide)) rfl T.m_law_draw T.F_law_draw.kp T.b_law_draw .nil pass0 (qa_cons (qv 0) (qa_cons qe_int qa_nil star_con) star_name)) (fun _ _ => rfl))))))))) ?_
  obtain ⟨f, l, a, b⟩ := w
  have hf : f < 24 := ok.l1
  have hl : l < 24 := ok.l2
  have ha : a.natAbs < 2 ^ 98 := ok.am.top
  have hb : b.natAbs < 2 ^ 98 := ok.am.bot
  replace hSw : SqT K H pw [.int (f : Nat), .int (l : Nat), .ref pa] := hSw
  replace hpa : SqT K H pa [.int a, .int b] := hpa
  have S0 : Step t₁ H H := ⟨fun _ _ _ q => q, tp.lst, tp.lst⟩
  have daa : DeepAll K (hid H t₁ D) [.int a, .int b] [.int a, .int b] := .cons (.int _) (.cons (.int _) .nil)
  have dpa : Deep K (hid H t₁ D) (.ref pa) (.tuple [.int a, .int b]) := .tup (hd_tst (K := K) tp.lst nD hd_ _ _ hpa) daa
  have daw : DeepAll K (hid H t₁ D) [.int (f : Nat), .int (l : Nat), .ref pa] [.int (f : Nat), .int (l : Nat), .tuple [.int a, .int b]] := .cons (.int _) (.cons (.int _) (.cons dpa .nil))
  have dpw : Deep K (hid H t₁ D) (.ref pw) (.tuple [.int (f : Nat), .int (l : Nat), .tuple [.int a, .int b]]) := .tup (hd_tst (K := K) tp.lst nD hd_ _ _ hSw) daw
  have gea : ∀ d ∈ ([.int a, .int b] : List PyData), Gd 0 5000 d := fun d hd => by
    simp only [List.mem_cons, List.not_mem_nil, or_false] at hd
    rcases hd with rfl | rfl
    · exact gd_int (by omega)
    · exact gd_int (by omega)
  have gda : Gd 1 10014 (.tuple [.int a, .int b]) := Gd.tup (m := 2) gea (Nat.le_refl _) (by decide)
  have gew : ∀ d ∈ ([.int (f : Nat), .int (l : Nat), .tuple [.int a, .int b]] : List PyData), Gd 1 10014 d := fun d hd => by
    simp only [List.mem_cons, List.not_mem_nil, or_false] at hd
    rcases hd with rfl | rfl | rfl
    · exact (gd_int (by omega)).mono (by decide) (by decide)
    · exact (gd_int (by omega)).mono (by decide) (by decide)
    · exact gda
  have gdw : Gd 2 30059 (.tuple [.int (f : Nat), .int (l : Nat), .tuple [.int a, .int b]]) := Gd.tup (m := 3) gew (Nat.le_refl _) (by decide)
  refine ⟨_, rfl, pw, _, rfl, hSw, rfl, _, _, rfl, _, _, rfl, _, _, rfl, rfl, _, rfl, (by show 1 ≤ sizeLine; decide), fun pb1 gb1 => ?_⟩
  obtain ⟨eb1, hb1, db1⟩ := nwO (o := (.tup [V.int (1)])) gb1 tp.lst hd_
  generalize upd H pb1 (.tup [V.int (1)]) = Hb1 at eb1 hb1 db1 ⊢
  replace S0 := S0.trans (.same eb1 tp.lst)
  replace tp := tp.same eb1
  replace hd_ := hd_.imp fun _ q => eb1 _ _ q
  replace hSw := tS eb1 hSw
  replace hpa := tS eb1 hpa
  replace daa := aS eb1 daa
  replace dpa := dS eb1 dpa
  replace daw := aS eb1 daw
  have sqb1 := SqT.of (K := K) hb1
  have dab1 : DeepAll K (hid Hb1 t₁ D) [V.int (1)] [PyData.int (1)] := (.cons (.int _) .nil)
  have dpb1 := dpT db1 dab1
  clear eb1 hb1 db1
  have geb1 : ∀ d ∈ ([PyData.int (1)] : List PyData), Gd 0 5000 d := (gC (gW (gd_int (by decide))) gN)
  have gdb1 := gTu 1 5011 geb1
  refine ⟨_, _, rfl, rfl, ⟨by decide, by decide, by decide⟩, (by show 2 ≤ sizeLine; decide), fun pb2 gb2 => ?_⟩
  obtain ⟨eb2, hb2, db2⟩ := nwO (o := (.tup [V.int (1), V.bl true])) gb2 tp.lst hd_
  generalize upd Hb1 pb2 (.tup [V.int (1), V.bl true]) = Hb2 at eb2 hb2 db2 ⊢
  replace S0 := S0.trans (.same eb2 tp.lst)
  replace tp := tp.same eb2
  replace hd_ := hd_.imp fun _ q => eb2 _ _ q
  replace hSw := tS eb2 hSw
  replace hpa := tS eb2 hpa
  replace daa := aS eb2 daa
  replace dpa := dS eb2 dpa
  replace daw := aS eb2 daw
  replace dpb1 := dS eb2 dpb1
  have sqb2 := SqT.of (K := K) hb2
  have dab2 : DeepAll K (hid Hb2 t₁ D) [V.int (1), V.bl true] [PyData.int (1), PyData.bool true] := (.cons (.int _) (.cons (.bl _) .nil))
  have dpb2 := dpT db2 dab2
  clear eb2 hb2 db2
  have geb2 : ∀ d ∈ ([PyData.int (1), PyData.bool true] : List PyData), Gd 0 5000 d := (gC (gW (gd_int (by decide))) (gC (gW (gd_bool true)) gN))
  have gdb2 := gTu 2 10014 geb2
  refine ⟨(by show 2 ≤ sizeLine; decide), fun pb3 gb3 => ?_⟩
  obtain ⟨eb3, hb3, db3⟩ := nwO (o := (.tup [V.bl true, V.int (1)])) gb3 tp.lst hd_
  generalize upd Hb2 pb3 (.tup [V.bl true, V.int (1)]) = Hb3 at eb3 hb3 db3 ⊢
  replace S0 := S0.trans (.same eb3 tp.lst)
  replace tp := tp.same eb3
  replace hd_ := hd_.imp fun _ q => eb3 _ _ q
  replace hSw := tS eb3 hSw
  replace hpa := tS eb3 hpa
  replace daa := aS eb3 daa
  replace dpa := dS eb3 dpa
  replace daw := aS eb3 daw
  replace dpb1 := dS eb3 dpb1
  replace dpb2 := dS eb3 dpb2
  have sqb3 := SqT.of (K := K) hb3
  have dab3 : DeepAll K (hid Hb3 t₁ D) [V.bl true, V.int (1)] [PyData.bool true, PyData.int (1)] := (.cons (.bl _) (.cons (.int _) .nil))
  have dpb3 := dpT db3 dab3
  clear eb3 hb3 db3
  have geb3 : ∀ d ∈ ([PyData.bool true, PyData.int (1)] : List PyData), Gd 0 5000 d := (gC (gW (gd_bool true)) (gC (gW (gd_int (by decide))) gN))
  have gdb3 := gTu 2 10014 geb3
  refine ⟨(by show 9 ≤ sizeLine; decide), fun pb4 gb4 => ?_⟩
  obtain ⟨eb4, hb4, db4⟩ := nwO (o := (.lst [V.bl true, V.non, V.str (Str.ofString "1"), V.int (-1), V.int (24), V.ref pb1, V.int ((10 : Int) ^ (19 : Int).toNat), V.ref pb2, V.ref pb3])) gb4 tp.lst hd_
  generalize upd Hb3 pb4 (.lst [V.bl true, V.non, V.str (Str.ofString "1"), V.int (-1), V.int (24), V.ref pb1, V.int ((10 : Int) ^ (19 : Int).toNat), V.ref pb2, V.ref pb3]) = Hb4 at eb4 hb4 db4 ⊢
  have nb4 := nwN gb4 tp.lst
  replace S0 := S0.trans (.same eb4 tp.lst)
  replace tp := tp.same eb4
  replace hd_ := hd_.imp fun _ q => eb4 _ _ q
  replace hSw := tS eb4 hSw
  replace hpa := tS eb4 hpa
  replace daa := aS eb4 daa
  replace dpa := dS eb4 dpa
  replace daw := aS eb4 daw
  replace dpb1 := dS eb4 dpb1
  replace dpb2 := dS eb4 dpb2
  replace dpb3 := dS eb4 dpb3
  have lsb4 := hb4
  have dab4 : DeepAll K (hid Hb4 t₁ D) [V.bl true, V.non, V.str (Str.ofString "1"), V.int (-1), V.int (24), V.ref pb1, V.int ((10 : Int) ^ (19 : Int).toNat), V.ref pb2, V.ref pb3] [PyData.bool true, PyData.none, PyData.str (Str.ofString "1"), PyData.int (-1), PyData.int (24), PyData.tuple [PyData.int (1)], PyData.int ((10 : Int) ^ (19 : Int).toNat), PyData.tuple [PyData.int (1), PyData.bool true], PyData.tuple [PyData.bool true, PyData.int (1)]] := (.cons (.bl _) (.cons .non (.cons (.str _) (.cons (.int _) (.cons (.int _) (.cons dpb1 (.cons (.int _) (.cons dpb2 (.cons dpb3 .nil)))))))))
  have dpb4 := dpL db4 dab4
  clear eb4 hb4 db4
  have geb4 : ∀ d ∈ ([PyData.bool true, PyData.none, PyData.str (Str.ofString "1"), PyData.int (-1), PyData.int (24), PyData.tuple [PyData.int (1)], PyData.int ((10 : Int) ^ (19 : Int).toNat), PyData.tuple [PyData.int (1), PyData.bool true], PyData.tuple [PyData.bool true, PyData.int (1)]] : List PyData), Gd 1 10014 d := (gC (gW (gd_bool true)) (gC (gW gd_none) (gC (gW (gd_str (by decide +kernel) (by decide +kernel) (by decide +kernel))) (gC (gW (gd_int (by decide))) (gC (gW (gd_int (by decide))) (gC (gW gdb1) (gC (gW (gd_int (by decide +kernel))) (gC (gW gdb2) (gC (gW gdb3) gN)))))))))
  have gdb4 := gLs 9 90161 geb4
  refine ⟨_, rfl, t₁, s₁, 9, rfl, tp, by decide, by decide, fun rb5 zb5 ab5 bb5 Tb5 => ?_⟩
  have Sb5 := Step.up (ys := zb5) tp.lst.choose_spec
  replace S0 := S0.trans Sb5
  replace hd_ := hd_.imp fun _ q => Sb5.keep _ _ nD q
  replace hSw := tP Sb5 hSw
  replace hpa := tP Sb5 hpa
  replace daa := aP Sb5 daa
  replace dpa := dP Sb5 dpa
  replace daw := aP Sb5 daw
  replace lsb4 := Sb5.keep _ _ nb4 lsb4
  replace dab4 := aP Sb5 dab4
  replace tp := Tb5
  clear Tb5 Sb5
  generalize upd Hb4 t₁ (.lst zb5) = Hb5 at S0 tp hd_ hSw hpa daa dpa daw lsb4 dab4 ⊢
  obtain ⟨vb5, wb5, atb5, meb5, dvb5⟩ := DeepAll.pick dab4 ab5 bb5
  refine ⟨pb4, _, _, vb5, rfl, rfl, SqL.of lsb4, atb5, _, rfl, _, rfl, _, rfl, (by show 3 ≤ sizeLine; decide), fun pb6 gb6 => ?_⟩
  obtain ⟨eb6, hb6, db6⟩ := nwO (o := (.tup [vb5, V.int ((l : Nat)), V.ref pa])) gb6 tp.lst hd_
  generalize upd Hb5 pb6 (.tup [vb5, V.int ((l : Nat)), V.ref pa]) = Hb6 at eb6 hb6 db6 ⊢
  replace S0 := S0.trans (.same eb6 tp.lst)
  replace tp := tp.same eb6
  replace hd_ := hd_.imp fun _ q => eb6 _ _ q
  replace hSw := tS eb6 hSw
  replace hpa := tS eb6 hpa
  replace daa := aS eb6 daa
  replace dpa := dS eb6 dpa
  replace daw := aS eb6 daw
  replace dvb5 := dS eb6 dvb5
  have sqb6 := SqT.of (K := K) hb6
  have dab6 : DeepAll K (hid Hb6 t₁ D) [vb5, V.int ((l : Nat)), V.ref pa] [wb5, PyData.int ((l : Nat)), PyData.tuple [PyData.int a, PyData.int b]] := (.cons dvb5 (.cons (.int _) (.cons dpa .nil)))
  have dpb6 := dpT db6 dab6
  clear eb6 hb6 db6
  have geb6 : ∀ d ∈ ([wb5, PyData.int ((l : Nat)), PyData.tuple [PyData.int a, PyData.int b]] : List PyData), Gd 1 10014 d := (gC (gW (geb4 _ meb5)) (gC (gW (gd_int (by omega))) (gC (gW gda) gN)))
  have gdb6 := gTu 3 30059 geb6
  refine ⟨_, rfl, _, rfl, _, rfl, (by show 3 ≤ sizeLine; decide), fun pb7 gb7 => ?_⟩
  obtain ⟨eb7, hb7, db7⟩ := nwO (o := (.tup [V.int ((f : Nat)), vb5, V.ref pa])) gb7 tp.lst hd_
  generalize upd Hb6 pb7 (.tup [V.int ((f : Nat)), vb5, V.ref pa]) = Hb7 at eb7 hb7 db7 ⊢
  replace S0 := S0.trans (.same eb7 tp.lst)
  replace tp := tp.same eb7
  replace hd_ := hd_.imp fun _ q => eb7 _ _ q
  replace hSw := tS eb7 hSw
  replace hpa := tS eb7 hpa
  replace daa := aS eb7 daa
  replace dpa := dS eb7 dpa
  replace daw := aS eb7 daw
  replace dvb5 := dS eb7 dvb5
  replace dpb6 := dS eb7 dpb6
  have sqb7 := SqT.of (K := K) hb7
  have dab7 : DeepAll K (hid Hb7 t₁ D) [V.int ((f : Nat)), vb5, V.ref pa] [PyData.int ((f : Nat)), wb5, PyData.tuple [PyData.int a, PyData.int b]] := (.cons (.int _) (.cons dvb5 (.cons dpa .nil)))
  have dpb7 := dpT db7 dab7
  clear eb7 hb7 db7
  have geb7 : ∀ d ∈ ([PyData.int ((f : Nat)), wb5, PyData.tuple [PyData.int a, PyData.int b]] : List PyData), Gd 1 10014 d := (gC (gW (gd_int (by omega))) (gC (gW (geb4 _ meb5)) (gC (gW gda) gN)))
  have gdb7 := gTu 3 30059 geb7
  refine ⟨_, rfl, _, rfl, _, rfl, (by show 3 ≤ sizeLine; decide), fun pb8 gb8 => ?_⟩
  obtain ⟨eb8, hb8, db8⟩ := nwO (o := (.tup [V.int ((f : Nat)), V.int ((l : Nat)), vb5])) gb8 tp.lst hd_
  generalize upd Hb7 pb8 (.tup [V.int ((f : Nat)), V.int ((l : Nat)), vb5]) = Hb8 at eb8 hb8 db8 ⊢
  replace S0 := S0.trans (.same eb8 tp.lst)
  replace tp := tp.same eb8
  replace hd_ := hd_.imp fun _ q => eb8 _ _ q
  replace hSw := tS eb8 hSw
  replace hpa := tS eb8 hpa
  replace daa := aS eb8 daa
  replace dpa := dS eb8 dpa
  replace daw := aS eb8 daw
  replace dvb5 := dS eb8 dvb5
  replace dpb6 := dS eb8 dpb6
  replace dpb7 := dS eb8 dpb7
  have sqb8 := SqT.of (K := K) hb8
  have dab8 : DeepAll K (hid Hb8 t₁ D) [V.int ((f : Nat)), V.int ((l : Nat)), vb5] [PyData.int ((f : Nat)), PyData.int ((l : Nat)), wb5] := (.cons (.int _) (.cons (.int _) (.cons dvb5 .nil)))
  have dpb8 := dpT db8 dab8
  clear eb8 hb8 db8
  have geb8 : ∀ d ∈ ([PyData.int ((f : Nat)), PyData.int ((l : Nat)), wb5] : List PyData), Gd 1 10014 d := (gC (gW (gd_int (by omega))) (gC (gW (gd_int (by omega))) (gC (gW (geb4 _ meb5)) gN)))
  have gdb8 := gTu 3 30059 geb8
  refine ⟨_, rfl, _, _, rfl, rfl, _, rfl, _, rfl, (by show 3 ≤ sizeLine; decide), fun pb9 gb9 => ?_⟩
  obtain ⟨eb9, hb9, db9⟩ := nwO (o := (.tup [V.int ((l : Nat) + 1), V.int ((l : Nat)), V.ref pa])) gb9 tp.lst hd_
  generalize upd Hb8 pb9 (.tup [V.int ((l : Nat) + 1), V.int ((l : Nat)), V.ref pa]) = Hb9 at eb9 hb9 db9 ⊢
  replace S0 := S0.trans (.same eb9 tp.lst)
  replace tp := tp.same eb9
  replace hd_ := hd_.imp fun _ q => eb9 _ _ q
  replace hSw := tS eb9 hSw
  replace hpa := tS eb9 hpa
  replace daa := aS eb9 daa
  replace dpa := dS eb9 dpa
  replace daw := aS eb9 daw
  replace dvb5 := dS eb9 dvb5
  replace dpb6 := dS eb9 dpb6
  replace dpb7 := dS eb9 dpb7
  replace dpb8 := dS eb9 dpb8
  have sqb9 := SqT.of (K := K) hb9
  have dab9 : DeepAll K (hid Hb9 t₁ D) [V.int ((l : Nat) + 1), V.int ((l : Nat)), V.ref pa] [PyData.int ((l : Nat) + 1), PyData.int ((l : Nat)), PyData.tuple [PyData.int a, PyData.int b]] := (.cons (.int _) (.cons (.int _) (.cons dpa .nil)))
  have dpb9 := dpT db9 dab9
  clear eb9 hb9 db9
  have geb9 : ∀ d ∈ ([PyData.int ((l : Nat) + 1), PyData.int ((l : Nat)), PyData.tuple [PyData.int a, PyData.int b]] : List PyData), Gd 1 10014 d := (gC (gW (gd_int (by omega))) (gC (gW (gd_int (by omega))) (gC (gW gda) gN)))
  have gdb9 := gTu 3 30059 geb9
  refine ⟨_, rfl, pw, _, rfl, .inr hSw, fun pb10 gb10 => ?_⟩
  obtain ⟨eb10, hb10, db10⟩ := nwO (o := (.lst [V.int (f : Nat), V.int (l : Nat), V.ref pa])) gb10 tp.lst hd_
  generalize upd Hb9 pb10 (.lst [V.int (f : Nat), V.int (l : Nat), V.ref pa]) = Hb10 at eb10 hb10 db10 ⊢
  have nb10 := nwN gb10 tp.lst
  replace S0 := S0.trans (.same eb10 tp.lst)
  replace tp := tp.same eb10
  replace hd_ := hd_.imp fun _ q => eb10 _ _ q
  replace hSw := tS eb10 hSw
  replace hpa := tS eb10 hpa
  replace daa := aS eb10 daa
  replace daw := aS eb10 daw
  replace dvb5 := dS eb10 dvb5
  replace dpb6 := dS eb10 dpb6
  replace dpb7 := dS eb10 dpb7
  replace dpb8 := dS eb10 dpb8
  replace dpb9 := dS eb10 dpb9
  have lsb10 : Hb10 pb10 = some (.lst [V.int (f : Nat), V.int (l : Nat), V.ref pa]) := hb10
  have dpb10 : Deep K (hid Hb10 t₁ D) (.ref pb10) (.list [PyData.int (f : Nat), PyData.int (l : Nat), PyData.tuple [PyData.int a, PyData.int b]]) := .lst (SqL.of db10) daw
  clear eb10 hb10 db10
  have gdb10 : Gd 2 30059 (.list [PyData.int (f : Nat), PyData.int (l : Nat), PyData.tuple [PyData.int a, PyData.int b]]) := Gd.lst (m := 3) gew (by first | omega | (simp <;> omega)) (by decide)
  refine ⟨(by show 5 ≤ sizeLine; decide), fun pb11 gb11 => ?_⟩
  obtain ⟨eb11, hb11, db11⟩ := nwO (o := (.lst [V.ref pb6, V.ref pb7, V.ref pb8, V.ref pb9, V.ref pb10])) gb11 tp.lst hd_
  generalize upd Hb10 pb11 (.lst [V.ref pb6, V.ref pb7, V.ref pb8, V.ref pb9, V.ref pb10]) = Hb11 at eb11 hb11 db11 ⊢
  have nb11 := nwN gb11 tp.lst
  replace S0 := S0.trans (.same eb11 tp.lst)
  replace tp := tp.same eb11
  replace hd_ := hd_.imp fun _ q => eb11 _ _ q
  replace hSw := tS eb11 hSw
  replace hpa := tS eb11 hpa
  replace daa := aS eb11 daa
  replace daw := aS eb11 daw
  replace dvb5 := dS eb11 dvb5
  replace dpb6 := dS eb11 dpb6
  replace dpb7 := dS eb11 dpb7
  replace dpb8 := dS eb11 dpb8
  replace dpb9 := dS eb11 dpb9
  replace dpb10 := dS eb11 dpb10
  have lsb11 := hb11
  have dab11 : DeepAll K (hid Hb11 t₁ D) [V.ref pb6, V.ref pb7, V.ref pb8, V.ref pb9, V.ref pb10] [PyData.tuple [wb5, PyData.int ((l : Nat)), PyData.tuple [PyData.int a, PyData.int b]], PyData.tuple [PyData.int ((f : Nat)), wb5, PyData.tuple [PyData.int a, PyData.int b]], PyData.tuple [PyData.int ((f : Nat)), PyData.int ((l : Nat)), wb5], PyData.tuple [PyData.int ((l : Nat) + 1), PyData.int ((l : Nat)), PyData.tuple [PyData.int a, PyData.int b]], PyData.list [PyData.int (f : Nat), PyData.int (l : Nat), PyData.tuple [PyData.int a, PyData.int b]]] := (.cons dpb6 (.cons dpb7 (.cons dpb8 (.cons dpb9 (.cons dpb10 .nil)))))
  have dpb11 := dpL db11 dab11
  clear eb11 hb11 db11
  have geb11 : ∀ d ∈ ([PyData.tuple [wb5, PyData.int ((l : Nat)), PyData.tuple [PyData.int a, PyData.int b]], PyData.tuple [PyData.int ((f : Nat)), wb5, PyData.tuple [PyData.int a, PyData.int b]], PyData.tuple [PyData.int ((f : Nat)), PyData.int ((l : Nat)), wb5], PyData.tuple [PyData.int ((l : Nat) + 1), PyData.int ((l : Nat)), PyData.tuple [PyData.int a, PyData.int b]], PyData.list [PyData.int (f : Nat), PyData.int (l : Nat), PyData.tuple [PyData.int a, PyData.int b]]] : List PyData), Gd 2 30059 d := (gC (gW gdb6) (gC (gW gdb7) (gC (gW gdb8) (gC (gW gdb9) (gC (gW gdb10) gN)))))
  have gdb11 := gLs 5 150318 geb11
  refine ⟨_, rfl, _, rfl, _, rfl, (by show 2 ≤ sizeLine; decide), fun pb12 gb12 => ?_⟩
  obtain ⟨eb12, hb12, db12⟩ := nwO (o := (.tup [V.int (0), V.int (1)])) gb12 tp.lst hd_
  generalize upd Hb11 pb12 (.tup [V.int (0), V.int (1)]) = Hb12 at eb12 hb12 db12 ⊢
  replace S0 := S0.trans (.same eb12 tp.lst)
  replace tp := tp.same eb12
  replace hd_ := hd_.imp fun _ q => eb12 _ _ q
  replace hSw := tS eb12 hSw
  replace hpa := tS eb12 hpa
  replace daa := aS eb12 daa
  replace daw := aS eb12 daw
  replace dvb5 := dS eb12 dvb5
  replace lsb11 := eb12 _ _ lsb11
  replace dab11 := aS eb12 dab11
  have sqb12 := SqT.of (K := K) hb12
  have dab12 : DeepAll K (hid Hb12 t₁ D) [V.int (0), V.int (1)] [PyData.int (0), PyData.int (1)] := (.cons (.int _) (.cons (.int _) .nil))
  have dpb12 := dpT db12 dab12
  clear eb12 hb12 db12
  have geb12 : ∀ d ∈ ([PyData.int (0), PyData.int (1)] : List PyData), Gd 0 5000 d := (gC (gW (gd_int (by decide))) (gC (gW (gd_int (by decide))) gN))
  have gdb12 := gTu 2 10014 geb12
  refine ⟨(by show 3 ≤ sizeLine; decide), fun pb13 gb13 => ?_⟩
  obtain ⟨eb13, hb13, db13⟩ := nwO (o := (.tup [V.int ((f : Nat)), V.int ((l : Nat)), V.ref pb12])) gb13 tp.lst hd_
  generalize upd Hb12 pb13 (.tup [V.int ((f : Nat)), V.int ((l : Nat)), V.ref pb12]) = Hb13 at eb13 hb13 db13 ⊢
  replace S0 := S0.trans (.same eb13 tp.lst)
  replace tp := tp.same eb13
  replace hd_ := hd_.imp fun _ q => eb13 _ _ q
  replace hSw := tS eb13 hSw
  replace hpa := tS eb13 hpa
  replace daa := aS eb13 daa
  replace daw := aS eb13 daw
  replace dvb5 := dS eb13 dvb5
  replace lsb11 := eb13 _ _ lsb11
  replace dab11 := aS eb13 dab11
  replace dpb12 := dS eb13 dpb12
  have sqb13 := SqT.of (K := K) hb13
  have dab13 : DeepAll K (hid Hb13 t₁ D) [V.int ((f : Nat)), V.int ((l : Nat)), V.ref pb12] [PyData.int ((f : Nat)), PyData.int ((l : Nat)), PyData.tuple [PyData.int (0), PyData.int (1)]] := (.cons (.int _) (.cons (.int _) (.cons dpb12 .nil)))
  have dpb13 := dpT db13 dab13
  clear eb13 hb13 db13
  have geb13 : ∀ d ∈ ([PyData.int ((f : Nat)), PyData.int ((l : Nat)), PyData.tuple [PyData.int (0), PyData.int (1)]] : List PyData), Gd 1 10014 d := (gC (gW (gd_int (by omega))) (gC (gW (gd_int (by omega))) (gC (gW gdb12) gN)))
  have gdb13 := gTu 3 30059 geb13
  refine ⟨_, rfl, _, rfl, _, rfl, pa, _, _, _, rfl, rfl, hpa, rfl, _, _, rfl, rfl, _, rfl, pa, _, _, _, rfl, rfl, hpa, rfl, (by show 2 ≤ sizeLine; decide), fun pb14 gb14 => ?_⟩
  obtain ⟨eb14, hb14, db14⟩ := nwO (o := (.tup [V.int (0 - a), V.int (b)])) gb14 tp.lst hd_
  generalize upd Hb13 pb14 (.tup [V.int (0 - a), V.int (b)]) = Hb14 at eb14 hb14 db14 ⊢
  replace S0 := S0.trans (.same eb14 tp.lst)
  replace tp := tp.same eb14
  replace hd_ := hd_.imp fun _ q => eb14 _ _ q
  replace hSw := tS eb14 hSw
  replace hpa := tS eb14 hpa
  replace daa := aS eb14 daa
  replace daw := aS eb14 daw
  replace dvb5 := dS eb14 dvb5
  replace lsb11 := eb14 _ _ lsb11
  replace dab11 := aS eb14 dab11
  replace dpb13 := dS eb14 dpb13
  have sqb14 := SqT.of (K := K) hb14
  have dab14 : DeepAll K (hid Hb14 t₁ D) [V.int (0 - a), V.int (b)] [PyData.int (0 - a), PyData.int (b)] := (.cons (.int _) (.cons (.int _) .nil))
  have dpb14 := dpT db14 dab14
  clear eb14 hb14 db14
  have geb14 : ∀ d ∈ ([PyData.int (0 - a), PyData.int (b)] : List PyData), Gd 0 5000 d := (gC (gW (gd_int (by omega))) (gC (gW (gd_int (by omega))) gN))
  have gdb14 := gTu 2 10014 geb14
  refine ⟨(by show 3 ≤ sizeLine; decide), fun pb15 gb15 => ?_⟩
  obtain ⟨eb15, hb15, db15⟩ := nwO (o := (.tup [V.int ((f : Nat)), V.int ((l : Nat)), V.ref pb14])) gb15 tp.lst hd_
  generalize upd Hb14 pb15 (.tup [V.int ((f : Nat)), V.int ((l : Nat)), V.ref pb14]) = Hb15 at eb15 hb15 db15 ⊢
  replace S0 := S0.trans (.same eb15 tp.lst)
  replace tp := tp.same eb15
  replace hd_ := hd_.imp fun _ q => eb15 _ _ q
  replace hSw := tS eb15 hSw
  replace hpa := tS eb15 hpa
  replace daa := aS eb15 daa
  replace daw := aS eb15 daw
  replace dvb5 := dS eb15 dvb5
  replace lsb11 := eb15 _ _ lsb11
  replace dab11 := aS eb15 dab11
  replace dpb13 := dS eb15 dpb13
  replace dpb14 := dS eb15 dpb14
  have sqb15 := SqT.of (K := K) hb15
  have dab15 : DeepAll K (hid Hb15 t₁ D) [V.int ((f : Nat)), V.int ((l : Nat)), V.ref pb14] [PyData.int ((f : Nat)), PyData.int ((l : Nat)), PyData.tuple [PyData.int (0 - a), PyData.int (b)]] := (.cons (.int _) (.cons (.int _) (.cons dpb14 .nil)))
  have dpb15 := dpT db15 dab15
  clear eb15 hb15 db15
  have geb15 : ∀ d ∈ ([PyData.int ((f : Nat)), PyData.int ((l : Nat)), PyData.tuple [PyData.int (0 - a), PyData.int (b)]] : List PyData), Gd 1 10014 d := (gC (gW (gd_int (by omega))) (gC (gW (gd_int (by omega))) (gC (gW gdb14) gN)))
  have gdb15 := gTu 3 30059 geb15
  refine ⟨_, rfl, _, rfl, pw, _, rfl, hSw, fun pb16 Hb16 eb16 cb16 => ?_⟩
  replace S0 := S0.trans (.same eb16 tp.lst)
  replace tp := tp.same eb16
  replace hd_ := hd_.imp fun _ q => eb16 _ _ q
  replace hSw := tS eb16 hSw
  replace hpa := tS eb16 hpa
  replace daa := aS eb16 daa
  replace daw := aS eb16 daw
  replace dvb5 := dS eb16 dvb5
  replace lsb11 := eb16 _ _ lsb11
  replace dab11 := aS eb16 dab11
  replace dpb13 := dS eb16 dpb13
  replace dpb15 := dS eb16 dpb15
  rw [show (some (2) : Option Int) = some ((2 : Nat) : Int) from rfl, cut_any (n := 2)] at cb16
  have sqb16 : SqT K Hb16 pb16 ([V.int (f : Nat), V.int (l : Nat), V.ref pa].take 2) := cb16
  have dab16 : DeepAll K (hid Hb16 t₁ D) ([V.int (f : Nat), V.int (l : Nat), V.ref pa].take 2) ([PyData.int (f : Nat), PyData.int (l : Nat), PyData.tuple [PyData.int a, PyData.int b]].take 2) := DeepAll.takeN 2 daw
  have dpb16 : Deep K (hid Hb16 t₁ D) (.ref pb16) (.tuple ([PyData.int (f : Nat), PyData.int (l : Nat), PyData.tuple [PyData.int a, PyData.int b]].take 2)) := .tup (hd_tst (K := K) tp.lst nD hd_ _ _ cb16) dab16
  clear eb16
  have geb16 : ∀ d ∈ ([PyData.int (f : Nat), PyData.int (l : Nat), PyData.tuple [PyData.int a, PyData.int b]].take 2 : List PyData), Gd 1 10014 d := gd_take 2 gew
  have gdb16 : Gd 2 30059 (.tuple ([PyData.int (f : Nat), PyData.int (l : Nat), PyData.tuple [PyData.int a, PyData.int b]].take 2)) := Gd.tup (m := 3) geb16 (by first | omega | (simp <;> omega)) (by decide)
  refine ⟨_, rfl, (by show 1 ≤ sizeLine; decide), fun pb17 gb17 => ?_⟩
  obtain ⟨eb17, hb17, db17⟩ := nwO (o := (.tup [V.int (1)])) gb17 tp.lst hd_
  generalize upd Hb16 pb17 (.tup [V.int (1)]) = Hb17 at eb17 hb17 db17 ⊢
  replace S0 := S0.trans (.same eb17 tp.lst)
  replace tp := tp.same eb17
  replace hd_ := hd_.imp fun _ q => eb17 _ _ q
  replace hSw := tS eb17 hSw
  replace hpa := tS eb17 hpa
  replace daa := aS eb17 daa
  replace daw := aS eb17 daw
  replace dvb5 := dS eb17 dvb5
  replace lsb11 := eb17 _ _ lsb11
  replace dab11 := aS eb17 dab11
  replace dpb13 := dS eb17 dpb13
  replace dpb15 := dS eb17 dpb15
  replace dpb16 := dS eb17 dpb16
  have sqb17 := SqT.of (K := K) hb17
  have dab17 : DeepAll K (hid Hb17 t₁ D) [V.int (1)] [PyData.int (1)] := (.cons (.int _) .nil)
  have dpb17 := dpT db17 dab17
  clear eb17 hb17 db17
  have geb17 : ∀ d ∈ ([PyData.int (1)] : List PyData), Gd 0 5000 d := (gC (gW (gd_int (by decide))) gN)
  have gdb17 := gTu 1 5011 geb17
  refine ⟨pw, pb17, _, _, rfl, rfl, hSw, sqb17, Nat.le_trans (show _ ≤ 1000 by first | omega | (simp <;> omega)) (by show 1000 ≤ sizeLine; decide), fun pb18 Hb18 eb18 cb18 => ?_⟩
  replace S0 := S0.trans (.same eb18 tp.lst)
  replace tp := tp.same eb18
  replace hd_ := hd_.imp fun _ q => eb18 _ _ q
  replace hpa := tS eb18 hpa
  replace daa := aS eb18 daa
  replace daw := aS eb18 daw
  replace dvb5 := dS eb18 dvb5
  replace lsb11 := eb18 _ _ lsb11
  replace dab11 := aS eb18 dab11
  replace dpb13 := dS eb18 dpb13
  replace dpb15 := dS eb18 dpb15
  replace dpb16 := dS eb18 dpb16
  replace dab17 := aS eb18 dab17
  have sqb18 : SqT K Hb18 pb18 ([V.int (f : Nat), V.int (l : Nat), V.ref pa] ++ [V.int (1)]) := cb18
  have dab18 : DeepAll K (hid Hb18 t₁ D) ([V.int (f : Nat), V.int (l : Nat), V.ref pa] ++ [V.int (1)]) ([PyData.int (f : Nat), PyData.int (l : Nat), PyData.tuple [PyData.int a, PyData.int b]] ++ [PyData.int (1)]) := DeepAll.app daw dab17
  have dpb18 : Deep K (hid Hb18 t₁ D) (.ref pb18) (.tuple ([PyData.int (f : Nat), PyData.int (l : Nat), PyData.tuple [PyData.int a, PyData.int b]] ++ [PyData.int (1)])) := .tup (hd_tst (K := K) tp.lst nD hd_ _ _ cb18) dab18
  clear eb18
  have geb18 : ∀ d ∈ ([PyData.int (f : Nat), PyData.int (l : Nat), PyData.tuple [PyData.int a, PyData.int b]] ++ [PyData.int (1)] : List PyData), Gd 1 10014 d := (gd_app (gd_wide (by decide) (by decide) gew) (gd_wide (by decide) (by decide) geb17))
  have gdb18 : Gd 2 40076 (.tuple ([PyData.int (f : Nat), PyData.int (l : Nat), PyData.tuple [PyData.int a, PyData.int b]] ++ [PyData.int (1)])) := Gd.tup (m := 4) geb18 (by first | omega | (simp <;> omega)) (by decide)
  refine ⟨(by show 4 ≤ sizeLine; decide), fun pb19 gb19 => ?_⟩
  obtain ⟨eb19, hb19, db19⟩ := nwO (o := (.lst [V.ref pb13, V.ref pb15, V.ref pb16, V.ref pb18])) gb19 tp.lst hd_
  generalize upd Hb18 pb19 (.lst [V.ref pb13, V.ref pb15, V.ref pb16, V.ref pb18]) = Hb19 at eb19 hb19 db19 ⊢
  have nb19 := nwN gb19 tp.lst
  replace S0 := S0.trans (.same eb19 tp.lst)
  replace tp := tp.same eb19
  replace hd_ := hd_.imp fun _ q => eb19 _ _ q
  replace hpa := tS eb19 hpa
  replace daa := aS eb19 daa
  replace dvb5 := dS eb19 dvb5
  replace lsb11 := eb19 _ _ lsb11
  replace dab11 := aS eb19 dab11
  replace dpb13 := dS eb19 dpb13
  replace dpb15 := dS eb19 dpb15
  replace dpb16 := dS eb19 dpb16
  replace dpb18 := dS eb19 dpb18
  have lsb19 := hb19
  have dab19 : DeepAll K (hid Hb19 t₁ D) [V.ref pb13, V.ref pb15, V.ref pb16, V.ref pb18] [PyData.tuple [PyData.int ((f : Nat)), PyData.int ((l : Nat)), PyData.tuple [PyData.int (0), PyData.int (1)]], PyData.tuple [PyData.int ((f : Nat)), PyData.int ((l : Nat)), PyData.tuple [PyData.int (0 - a), PyData.int (b)]], PyData.tuple ([PyData.int (f : Nat), PyData.int (l : Nat), PyData.tuple [PyData.int a, PyData.int b]].take 2), PyData.tuple ([PyData.int (f : Nat), PyData.int (l : Nat), PyData.tuple [PyData.int a, PyData.int b]] ++ [PyData.int (1)])] := (.cons dpb13 (.cons dpb15 (.cons dpb16 (.cons dpb18 .nil))))
  have dpb19 := dpL db19 dab19
  clear eb19 hb19 db19
  have geb19 : ∀ d ∈ ([PyData.tuple [PyData.int ((f : Nat)), PyData.int ((l : Nat)), PyData.tuple [PyData.int (0), PyData.int (1)]], PyData.tuple [PyData.int ((f : Nat)), PyData.int ((l : Nat)), PyData.tuple [PyData.int (0 - a), PyData.int (b)]], PyData.tuple ([PyData.int (f : Nat), PyData.int (l : Nat), PyData.tuple [PyData.int a, PyData.int b]].take 2), PyData.tuple ([PyData.int (f : Nat), PyData.int (l : Nat), PyData.tuple [PyData.int a, PyData.int b]] ++ [PyData.int (1)])] : List PyData), Gd 2 40076 d := (gC (gW gdb13) (gC (gW gdb15) (gC (gW gdb16) (gC (gW gdb18) gN))))
  have gdb19 := gLs 4 160324 geb19
  refine ⟨pb11, pb19, _, _, rfl, rfl, lsb11, lsb19, Nat.le_trans (show _ ≤ 1000 by first | omega | (simp <;> omega)) (by show 1000 ≤ sizeLine; decide), fun pb20 gb20 => ?_⟩
  obtain ⟨eb20, hb20, db20⟩ := nwO (o := (.lst ([V.ref pb6, V.ref pb7, V.ref pb8, V.ref pb9, V.ref pb10] ++ [V.ref pb13, V.ref pb15, V.ref pb16, V.ref pb18]))) gb20 tp.lst hd_
  generalize upd Hb19 pb20 (.lst ([V.ref pb6, V.ref pb7, V.ref pb8, V.ref pb9, V.ref pb10] ++ [V.ref pb13, V.ref pb15, V.ref pb16, V.ref pb18])) = Hb20 at eb20 hb20 db20 ⊢
  have nb20 := nwN gb20 tp.lst
  replace S0 := S0.trans (.same eb20 tp.lst)
  replace tp := tp.same eb20
  replace hd_ := hd_.imp fun _ q => eb20 _ _ q
  replace hpa := tS eb20 hpa
  replace daa := aS eb20 daa
  replace dvb5 := dS eb20 dvb5
  replace dab11 := aS eb20 dab11
  replace dab19 := aS eb20 dab19
  have lsb20 : Hb20 pb20 = some (.lst ([V.ref pb6, V.ref pb7, V.ref pb8, V.ref pb9, V.ref pb10] ++ [V.ref pb13, V.ref pb15, V.ref pb16, V.ref pb18])) := hb20
  have dab20 : DeepAll K (hid Hb20 t₁ D) ([V.ref pb6, V.ref pb7, V.ref pb8, V.ref pb9, V.ref pb10] ++ [V.ref pb13, V.ref pb15, V.ref pb16, V.ref pb18]) ([PyData.tuple [wb5, PyData.int ((l : Nat)), PyData.tuple [PyData.int a, PyData.int b]], PyData.tuple [PyData.int ((f : Nat)), wb5, PyData.tuple [PyData.int a, PyData.int b]], PyData.tuple [PyData.int ((f : Nat)), PyData.int ((l : Nat)), wb5], PyData.tuple [PyData.int ((l : Nat) + 1), PyData.int ((l : Nat)), PyData.tuple [PyData.int a, PyData.int b]], PyData.list [PyData.int (f : Nat), PyData.int (l : Nat), PyData.tuple [PyData.int a, PyData.int b]]] ++ [PyData.tuple [PyData.int ((f : Nat)), PyData.int ((l : Nat)), PyData.tuple [PyData.int (0), PyData.int (1)]], PyData.tuple [PyData.int ((f : Nat)), PyData.int ((l : Nat)), PyData.tuple [PyData.int (0 - a), PyData.int (b)]], PyData.tuple ([PyData.int (f : Nat), PyData.int (l : Nat), PyData.tuple [PyData.int a, PyData.int b]].take 2), PyData.tuple ([PyData.int (f : Nat), PyData.int (l : Nat), PyData.tuple [PyData.int a, PyData.int b]] ++ [PyData.int (1)])]) := DeepAll.app dab11 dab19
  have dpb20 : Deep K (hid Hb20 t₁ D) (.ref pb20) (.list ([PyData.tuple [wb5, PyData.int ((l : Nat)), PyData.tuple [PyData.int a, PyData.int b]], PyData.tuple [PyData.int ((f : Nat)), wb5, PyData.tuple [PyData.int a, PyData.int b]], PyData.tuple [PyData.int ((f : Nat)), PyData.int ((l : Nat)), wb5], PyData.tuple [PyData.int ((l : Nat) + 1), PyData.int ((l : Nat)), PyData.tuple [PyData.int a, PyData.int b]], PyData.list [PyData.int (f : Nat), PyData.int (l : Nat), PyData.tuple [PyData.int a, PyData.int b]]] ++ [PyData.tuple [PyData.int ((f : Nat)), PyData.int ((l : Nat)), PyData.tuple [PyData.int (0), PyData.int (1)]], PyData.tuple [PyData.int ((f : Nat)), PyData.int ((l : Nat)), PyData.tuple [PyData.int (0 - a), PyData.int (b)]], PyData.tuple ([PyData.int (f : Nat), PyData.int (l : Nat), PyData.tuple [PyData.int a, PyData.int b]].take 2), PyData.tuple ([PyData.int (f : Nat), PyData.int (l : Nat), PyData.tuple [PyData.int a, PyData.int b]] ++ [PyData.int (1)])])) := .lst (SqL.of db20) dab20
  clear eb20 hb20 db20
  have geb20 : ∀ d ∈ ([PyData.tuple [wb5, PyData.int ((l : Nat)), PyData.tuple [PyData.int a, PyData.int b]], PyData.tuple [PyData.int ((f : Nat)), wb5, PyData.tuple [PyData.int a, PyData.int b]], PyData.tuple [PyData.int ((f : Nat)), PyData.int ((l : Nat)), wb5], PyData.tuple [PyData.int ((l : Nat) + 1), PyData.int ((l : Nat)), PyData.tuple [PyData.int a, PyData.int b]], PyData.list [PyData.int (f : Nat), PyData.int (l : Nat), PyData.tuple [PyData.int a, PyData.int b]]] ++ [PyData.tuple [PyData.int ((f : Nat)), PyData.int ((l : Nat)), PyData.tuple [PyData.int (0), PyData.int (1)]], PyData.tuple [PyData.int ((f : Nat)), PyData.int ((l : Nat)), PyData.tuple [PyData.int (0 - a), PyData.int (b)]], PyData.tuple ([PyData.int (f : Nat), PyData.int (l : Nat), PyData.tuple [PyData.int a, PyData.int b]].take 2), PyData.tuple ([PyData.int (f : Nat), PyData.int (l : Nat), PyData.tuple [PyData.int a, PyData.int b]] ++ [PyData.int (1)])] : List PyData), Gd 2 40076 d := (gd_app (gd_wide (by decide) (by decide) geb11) (gd_wide (by decide) (by decide) geb19))
  have gdb20 : Gd 3 360719 (.list ([PyData.tuple [wb5, PyData.int ((l : Nat)), PyData.tuple [PyData.int a, PyData.int b]], PyData.tuple [PyData.int ((f : Nat)), wb5, PyData.tuple [PyData.int a, PyData.int b]], PyData.tuple [PyData.int ((f : Nat)), PyData.int ((l : Nat)), wb5], PyData.tuple [PyData.int ((l : Nat) + 1), PyData.int ((l : Nat)), PyData.tuple [PyData.int a, PyData.int b]], PyData.list [PyData.int (f : Nat), PyData.int (l : Nat), PyData.tuple [PyData.int a, PyData.int b]]] ++ [PyData.tuple [PyData.int ((f : Nat)), PyData.int ((l : Nat)), PyData.tuple [PyData.int (0), PyData.int (1)]], PyData.tuple [PyData.int ((f : Nat)), PyData.int ((l : Nat)), PyData.tuple [PyData.int (0 - a), PyData.int (b)]], PyData.tuple ([PyData.int (f : Nat), PyData.int (l : Nat), PyData.tuple [PyData.int a, PyData.int b]].take 2), PyData.tuple ([PyData.int (f : Nat), PyData.int (l : Nat), PyData.tuple [PyData.int a, PyData.int b]] ++ [PyData.int (1)])])) := Gd.lst (m := 9) geb20 (by first | omega | (simp <;> omega)) (by decide)
  refine ⟨_, rfl, _, rfl, _, rfl, _, rfl, pa, _, _, _, rfl, rfl, hpa, rfl, _, _, rfl, rfl, .inl ⟨by decide, by decide⟩, _, rfl, pa, _, _, _, rfl, rfl, hpa, rfl, _, _, rfl, rfl, .inl ⟨by decide, by decide⟩, (by show 2 ≤ sizeLine; decide), fun pb21 gb21 => ?_⟩
  obtain ⟨eb21, hb21, db21⟩ := nwO (o := (.tup [V.int (2 * a), V.int (2 * b)])) gb21 tp.lst hd_
  generalize upd Hb20 pb21 (.tup [V.int (2 * a), V.int (2 * b)]) = Hb21 at eb21 hb21 db21 ⊢
  replace S0 := S0.trans (.same eb21 tp.lst)
  replace tp := tp.same eb21
  replace hd_ := hd_.imp fun _ q => eb21 _ _ q
  replace hpa := tS eb21 hpa
  replace daa := aS eb21 daa
  replace dvb5 := dS eb21 dvb5
  replace lsb20 := eb21 _ _ lsb20
  replace dab20 := aS eb21 dab20
  have sqb21 := SqT.of (K := K) hb21
  have dab21 : DeepAll K (hid Hb21 t₁ D) [V.int (2 * a), V.int (2 * b)] [PyData.int (2 * a), PyData.int (2 * b)] := (.cons (.int _) (.cons (.int _) .nil))
  have dpb21 := dpT db21 dab21
  clear eb21 hb21 db21
  have geb21 : ∀ d ∈ ([PyData.int (2 * a), PyData.int (2 * b)] : List PyData), Gd 0 5000 d := (gC (gW (gd_int (by omega))) (gC (gW (gd_int (by omega))) gN))
  have gdb21 := gTu 2 10014 geb21
  refine ⟨(by show 3 ≤ sizeLine; decide), fun pb22 gb22 => ?_⟩
  obtain ⟨eb22, hb22, db22⟩ := nwO (o := (.tup [V.int ((f : Nat)), V.int ((l : Nat)), V.ref pb21])) gb22 tp.lst hd_
  generalize upd Hb21 pb22 (.tup [V.int ((f : Nat)), V.int ((l : Nat)), V.ref pb21]) = Hb22 at eb22 hb22 db22 ⊢
  replace S0 := S0.trans (.same eb22 tp.lst)
  replace tp := tp.same eb22
  replace hd_ := hd_.imp fun _ q => eb22 _ _ q
  replace hpa := tS eb22 hpa
  replace daa := aS eb22 daa
  replace dvb5 := dS eb22 dvb5
  replace lsb20 := eb22 _ _ lsb20
  replace dab20 := aS eb22 dab20
  replace dpb21 := dS eb22 dpb21
  have sqb22 := SqT.of (K := K) hb22
  have dab22 : DeepAll K (hid Hb22 t₁ D) [V.int ((f : Nat)), V.int ((l : Nat)), V.ref pb21] [PyData.int ((f : Nat)), PyData.int ((l : Nat)), PyData.tuple [PyData.int (2 * a), PyData.int (2 * b)]] := (.cons (.int _) (.cons (.int _) (.cons dpb21 .nil)))
  have dpb22 := dpT db22 dab22
  clear eb22 hb22 db22
  have geb22 : ∀ d ∈ ([PyData.int ((f : Nat)), PyData.int ((l : Nat)), PyData.tuple [PyData.int (2 * a), PyData.int (2 * b)]] : List PyData), Gd 1 10014 d := (gC (gW (gd_int (by omega))) (gC (gW (gd_int (by omega))) (gC (gW gdb21) gN)))
  have gdb22 := gTu 3 30059 geb22
  refine ⟨_, rfl, _, rfl, _, rfl, pa, _, rfl, .inr hpa, fun pb23 gb23 => ?_⟩
  obtain ⟨eb23, hb23, db23⟩ := nwO (o := (.lst [V.int a, V.int b])) gb23 tp.lst hd_
  generalize upd Hb22 pb23 (.lst [V.int a, V.int b]) = Hb23 at eb23 hb23 db23 ⊢
  have nb23 := nwN gb23 tp.lst
  replace S0 := S0.trans (.same eb23 tp.lst)
  replace tp := tp.same eb23
  replace hd_ := hd_.imp fun _ q => eb23 _ _ q
  replace daa := aS eb23 daa
  replace dvb5 := dS eb23 dvb5
  replace lsb20 := eb23 _ _ lsb20
  replace dab20 := aS eb23 dab20
  replace dpb22 := dS eb23 dpb22
  have lsb23 : Hb23 pb23 = some (.lst [V.int a, V.int b]) := hb23
  have dpb23 : Deep K (hid Hb23 t₁ D) (.ref pb23) (.list [PyData.int a, PyData.int b]) := .lst (SqL.of db23) daa
  clear eb23 hb23 db23
  have gdb23 : Gd 1 10014 (.list [PyData.int a, PyData.int b]) := Gd.lst (m := 2) gea (by first | omega | (simp <;> omega)) (by decide)
  refine ⟨(by show 3 ≤ sizeLine; decide), fun pb24 gb24 => ?_⟩
  obtain ⟨eb24, hb24, db24⟩ := nwO (o := (.tup [V.int ((f : Nat)), V.int ((l : Nat)), V.ref pb23])) gb24 tp.lst hd_
  generalize upd Hb23 pb24 (.tup [V.int ((f : Nat)), V.int ((l : Nat)), V.ref pb23]) = Hb24 at eb24 hb24 db24 ⊢
  replace S0 := S0.trans (.same eb24 tp.lst)
  replace tp := tp.same eb24
  replace hd_ := hd_.imp fun _ q => eb24 _ _ q
  replace dvb5 := dS eb24 dvb5
  replace lsb20 := eb24 _ _ lsb20
  replace dab20 := aS eb24 dab20
  replace dpb22 := dS eb24 dpb22
  replace dpb23 := dS eb24 dpb23
  have sqb24 := SqT.of (K := K) hb24
  have dab24 : DeepAll K (hid Hb24 t₁ D) [V.int ((f : Nat)), V.int ((l : Nat)), V.ref pb23] [PyData.int ((f : Nat)), PyData.int ((l : Nat)), PyData.list [PyData.int a, PyData.int b]] := (.cons (.int _) (.cons (.int _) (.cons dpb23 .nil)))
  have dpb24 := dpT db24 dab24
  clear eb24 hb24 db24
  have geb24 : ∀ d ∈ ([PyData.int ((f : Nat)), PyData.int ((l : Nat)), PyData.list [PyData.int a, PyData.int b]] : List PyData), Gd 1 10014 d := (gC (gW (gd_int (by omega))) (gC (gW (gd_int (by omega))) (gC (gW gdb23) gN)))
  have gdb24 := gTu 3 30059 geb24
  refine ⟨_, rfl, (by show 3 ≤ sizeLine; decide), fun pb25 gb25 => ?_⟩
  obtain ⟨eb25, hb25, db25⟩ := nwO (o := (.lst [V.ref pb22, V.ref pb24, vb5])) gb25 tp.lst hd_
  generalize upd Hb24 pb25 (.lst [V.ref pb22, V.ref pb24, vb5]) = Hb25 at eb25 hb25 db25 ⊢
  have nb25 := nwN gb25 tp.lst
  replace S0 := S0.trans (.same eb25 tp.lst)
  replace tp := tp.same eb25
  replace hd_ := hd_.imp fun _ q => eb25 _ _ q
  replace dvb5 := dS eb25 dvb5
  replace lsb20 := eb25 _ _ lsb20
  replace dab20 := aS eb25 dab20
  replace dpb22 := dS eb25 dpb22
  replace dpb24 := dS eb25 dpb24
  have lsb25 := hb25
  have dab25 : DeepAll K (hid Hb25 t₁ D) [V.ref pb22, V.ref pb24, vb5] [PyData.tuple [PyData.int ((f : Nat)), PyData.int ((l : Nat)), PyData.tuple [PyData.int (2 * a), PyData.int (2 * b)]], PyData.tuple [PyData.int ((f : Nat)), PyData.int ((l : Nat)), PyData.list [PyData.int a, PyData.int b]], wb5] := (.cons dpb22 (.cons dpb24 (.cons dvb5 .nil)))
  have dpb25 := dpL db25 dab25
  clear eb25 hb25 db25
  have geb25 : ∀ d ∈ ([PyData.tuple [PyData.int ((f : Nat)), PyData.int ((l : Nat)), PyData.tuple [PyData.int (2 * a), PyData.int (2 * b)]], PyData.tuple [PyData.int ((f : Nat)), PyData.int ((l : Nat)), PyData.list [PyData.int a, PyData.int b]], wb5] : List PyData), Gd 2 30059 d := (gC (gW gdb22) (gC (gW gdb24) (gC (gW (geb4 _ meb5)) gN)))
  have gdb25 := gLs 3 90194 geb25
  refine ⟨pb20, pb25, _, _, rfl, rfl, lsb20, lsb25, Nat.le_trans (show _ ≤ 1000 by first | omega | (simp <;> omega)) (by show 1000 ≤ sizeLine; decide), fun pb26 gb26 => ?_⟩
  obtain ⟨eb26, hb26, db26⟩ := nwO (o := (.lst ([V.ref pb6, V.ref pb7, V.ref pb8, V.ref pb9, V.ref pb10] ++ [V.ref pb13, V.ref pb15, V.ref pb16, V.ref pb18] ++ [V.ref pb22, V.ref pb24, vb5]))) gb26 tp.lst hd_
  generalize upd Hb25 pb26 (.lst ([V.ref pb6, V.ref pb7, V.ref pb8, V.ref pb9, V.ref pb10] ++ [V.ref pb13, V.ref pb15, V.ref pb16, V.ref pb18] ++ [V.ref pb22, V.ref pb24, vb5])) = Hb26 at eb26 hb26 db26 ⊢
  have nb26 := nwN gb26 tp.lst
  replace S0 := S0.trans (.same eb26 tp.lst)
  replace tp := tp.same eb26
  replace hd_ := hd_.imp fun _ q => eb26 _ _ q
  replace dab20 := aS eb26 dab20
  replace dab25 := aS eb26 dab25
  have lsb26 : Hb26 pb26 = some (.lst ([V.ref pb6, V.ref pb7, V.ref pb8, V.ref pb9, V.ref pb10] ++ [V.ref pb13, V.ref pb15, V.ref pb16, V.ref pb18] ++ [V.ref pb22, V.ref pb24, vb5])) := hb26
  have dab26 : DeepAll K (hid Hb26 t₁ D) ([V.ref pb6, V.ref pb7, V.ref pb8, V.ref pb9, V.ref pb10] ++ [V.ref pb13, V.ref pb15, V.ref pb16, V.ref pb18] ++ [V.ref pb22, V.ref pb24, vb5]) ([PyData.tuple [wb5, PyData.int ((l : Nat)), PyData.tuple [PyData.int a, PyData.int b]], PyData.tuple [PyData.int ((f : Nat)), wb5, PyData.tuple [PyData.int a, PyData.int b]], PyData.tuple [PyData.int ((f : Nat)), PyData.int ((l : Nat)), wb5], PyData.tuple [PyData.int ((l : Nat) + 1), PyData.int ((l : Nat)), PyData.tuple [PyData.int a, PyData.int b]], PyData.list [PyData.int (f : Nat), PyData.int (l : Nat), PyData.tuple [PyData.int a, PyData.int b]]] ++ [PyData.tuple [PyData.int ((f : Nat)), PyData.int ((l : Nat)), PyData.tuple [PyData.int (0), PyData.int (1)]], PyData.tuple [PyData.int ((f : Nat)), PyData.int ((l : Nat)), PyData.tuple [PyData.int (0 - a), PyData.int (b)]], PyData.tuple ([PyData.int (f : Nat), PyData.int (l : Nat), PyData.tuple [PyData.int a, PyData.int b]].take 2), PyData.tuple ([PyData.int (f : Nat), PyData.int (l : Nat), PyData.tuple [PyData.int a, PyData.int b]] ++ [PyData.int (1)])] ++ [PyData.tuple [PyData.int ((f : Nat)), PyData.int ((l : Nat)), PyData.tuple [PyData.int (2 * a), PyData.int (2 * b)]], PyData.tuple [PyData.int ((f : Nat)), PyData.int ((l : Nat)), PyData.list [PyData.int a, PyData.int b]], wb5]) := DeepAll.app dab20 dab25
  have dpb26 : Deep K (hid Hb26 t₁ D) (.ref pb26) (.list ([PyData.tuple [wb5, PyData.int ((l : Nat)), PyData.tuple [PyData.int a, PyData.int b]], PyData.tuple [PyData.int ((f : Nat)), wb5, PyData.tuple [PyData.int a, PyData.int b]], PyData.tuple [PyData.int ((f : Nat)), PyData.int ((l : Nat)), wb5], PyData.tuple [PyData.int ((l : Nat) + 1), PyData.int ((l : Nat)), PyData.tuple [PyData.int a, PyData.int b]], PyData.list [PyData.int (f : Nat), PyData.int (l : Nat), PyData.tuple [PyData.int a, PyData.int b]]] ++ [PyData.tuple [PyData.int ((f : Nat)), PyData.int ((l : Nat)), PyData.tuple [PyData.int (0), PyData.int (1)]], PyData.tuple [PyData.int ((f : Nat)), PyData.int ((l : Nat)), PyData.tuple [PyData.int (0 - a), PyData.int (b)]], PyData.tuple ([PyData.int (f : Nat), PyData.int (l : Nat), PyData.tuple [PyData.int a, PyData.int b]].take 2), PyData.tuple ([PyData.int (f : Nat), PyData.int (l : Nat), PyData.tuple [PyData.int a, PyData.int b]] ++ [PyData.int (1)])] ++ [PyData.tuple [PyData.int ((f : Nat)), PyData.int ((l : Nat)), PyData.tuple [PyData.int (2 * a), PyData.int (2 * b)]], PyData.tuple [PyData.int ((f : Nat)), PyData.int ((l : Nat)), PyData.list [PyData.int a, PyData.int b]], wb5])) := .lst (SqL.of db26) dab26
  clear eb26 hb26 db26
  have geb26 : ∀ d ∈ ([PyData.tuple [wb5, PyData.int ((l : Nat)), PyData.tuple [PyData.int a, PyData.int b]], PyData.tuple [PyData.int ((f : Nat)), wb5, PyData.tuple [PyData.int a, PyData.int b]], PyData.tuple [PyData.int ((f : Nat)), PyData.int ((l : Nat)), wb5], PyData.tuple [PyData.int ((l : Nat) + 1), PyData.int ((l : Nat)), PyData.tuple [PyData.int a, PyData.int b]], PyData.list [PyData.int (f : Nat), PyData.int (l : Nat), PyData.tuple [PyData.int a, PyData.int b]]] ++ [PyData.tuple [PyData.int ((f : Nat)), PyData.int ((l : Nat)), PyData.tuple [PyData.int (0), PyData.int (1)]], PyData.tuple [PyData.int ((f : Nat)), PyData.int ((l : Nat)), PyData.tuple [PyData.int (0 - a), PyData.int (b)]], PyData.tuple ([PyData.int (f : Nat), PyData.int (l : Nat), PyData.tuple [PyData.int a, PyData.int b]].take 2), PyData.tuple ([PyData.int (f : Nat), PyData.int (l : Nat), PyData.tuple [PyData.int a, PyData.int b]] ++ [PyData.int (1)])] ++ [PyData.tuple [PyData.int ((f : Nat)), PyData.int ((l : Nat)), PyData.tuple [PyData.int (2 * a), PyData.int (2 * b)]], PyData.tuple [PyData.int ((f : Nat)), PyData.int ((l : Nat)), PyData.list [PyData.int a, PyData.int b]], wb5] : List PyData), Gd 2 40076 d := (gd_app (gd_wide (by decide) (by decide) geb20) (gd_wide (by decide) (by decide) geb25))
  have gdb26 : Gd 3 480956 (.list ([PyData.tuple [wb5, PyData.int ((l : Nat)), PyData.tuple [PyData.int a, PyData.int b]], PyData.tuple [PyData.int ((f : Nat)), wb5, PyData.tuple [PyData.int a, PyData.int b]], PyData.tuple [PyData.int ((f : Nat)), PyData.int ((l : Nat)), wb5], PyData.tuple [PyData.int ((l : Nat) + 1), PyData.int ((l : Nat)), PyData.tuple [PyData.int a, PyData.int b]], PyData.list [PyData.int (f : Nat), PyData.int (l : Nat), PyData.tuple [PyData.int a, PyData.int b]]] ++ [PyData.tuple [PyData.int ((f : Nat)), PyData.int ((l : Nat)), PyData.tuple [PyData.int (0), PyData.int (1)]], PyData.tuple [PyData.int ((f : Nat)), PyData.int ((l : Nat)), PyData.tuple [PyData.int (0 - a), PyData.int (b)]], PyData.tuple ([PyData.int (f : Nat), PyData.int (l : Nat), PyData.tuple [PyData.int a, PyData.int b]].take 2), PyData.tuple ([PyData.int (f : Nat), PyData.int (l : Nat), PyData.tuple [PyData.int a, PyData.int b]] ++ [PyData.int (1)])] ++ [PyData.tuple [PyData.int ((f : Nat)), PyData.int ((l : Nat)), PyData.tuple [PyData.int (2 * a), PyData.int (2 * b)]], PyData.tuple [PyData.int ((f : Nat)), PyData.int ((l : Nat)), PyData.list [PyData.int a, PyData.int b]], wb5])) := Gd.lst (m := 12) geb26 (by first | omega | (simp <;> omega)) (by decide)
  refine ⟨_, rfl, _, rfl, t₁, s₁, 12, rfl, tp, by decide, by decide, fun rb27 zb27 ab27 bb27 Tb27 => ?_⟩
  have Sb27 := Step.up (ys := zb27) tp.lst.choose_spec
  replace S0 := S0.trans Sb27
  replace hd_ := hd_.imp fun _ q => Sb27.keep _ _ nD q
  replace lsb26 := Sb27.keep _ _ nb26 lsb26
  replace dab26 := aP Sb27 dab26
  replace tp := Tb27
  clear Tb27 Sb27
  generalize upd Hb26 t₁ (.lst zb27) = Hb27 at S0 tp hd_ lsb26 dab26 ⊢
  obtain ⟨vb27, wb27, atb27, meb27, dvb27⟩ := DeepAll.pick dab26 ab27 bb27
  refine ⟨pb26, _, _, vb27, rfl, rfl, SqL.of lsb26, atb27, ?_⟩
  exact k vb27 wb27 _ S0 tp dvb27 ((geb26 _ meb27).mono (by decide) (by decide))
theorem ok_law_bent (T : Txt K mg t) : FnOk P w K mg base CX0 3 t.a_law_bent t.d_law_bent ["_law_tape_here", "_law_sheet"] (sp_law_bent K) := by
  refine T.F_law_bent.ok sc_law_bent (fun vs H Q E h => ?_) (fun cdv A outer s H vs Q E hr h => ?_)
  · obtain ⟨_, _, _, _, _, _, _, _, _, _, rfl, _⟩ := h; rfl
  obtain ⟨t₁, s₁, D, p, pw, pl, xs, ys, ws, es, rfl, tp, nD, hd_, sh, k⟩ := h
  refine QSs.ok (qss_cons (qs_asg (qv 1) (qg_tup rfl (qgs_cons (qg_name (i := 2) sc_law_bent.nd rfl (by first | exact Or.inl rfl | exact Or.inr rfl)) (qgs_cons (qg_name (i := 3) sc_law_bent.nd rfl (by first | exact Or.inl rfl | exact Or.inr rfl)) qgs_nil))))
      (qss_cons (qs_set (i := 4) sc_law_bent.nd rfl (by first | exact Or.inl rfl | exact Or.inr rfl) (qe_call (ok_law_draw T) (hr.mono (by decide)) rfl T.m_law_draw T.F_law_draw.kp T.b_law_draw .nil pass0 (qa_cons (qv 0) (qa_cons qe_int qa_nil star_con) star_name)))
      (qss_cons (qs_if (qt_cmpR op_eq (qv 4) qe_int (nomark _)) (qss_cons (qs_set (i := 5) sc_law_bent.nd rfl (by first | exact Or.inl rfl | exact Or.inr rfl) (qe_lst (qa_cons (qe_callTy call_list_of (by rfl) T.z_list PyProof.Rows.boot_list (qa_cons (qv 1) qa_nil star_name)) (qa_cons (qe_op op_catU (qv 1) (qe_tup (qa_cons (qe_tup qa_nil) qa_nil star_tup))) (qa_cons (qe_tup (qa_cons (qv 2) qa_nil star_name)) (qa_cons (qe_tup (qa_cons (qe_callTy call_list_of (by rfl) T.z_list PyProof.Rows.boot_list (qa_cons (qv 2) qa_nil star_name)) (qa_cons (qv 3) qa_nil star_name) star_call)) (qa_cons (qe_tup (qa_cons (qv 2) (qa_cons (qe_callTy call_list_of (by rfl) T.z_list PyProof.Rows.boot_list (qa_cons (qv 3) qa_nil star_name)) qa_nil star_call) star_name)) (qa_cons qe_non (qa_cons (qe_tup qa_nil) qa_nil star_tup) star_con) star_tup) star_tup) star_tup) star_bin) star_call)))
      (qss_one (qs_ret (qe_ix ix_list (qv 5) (qe_call (ok_law_draw T) (hr.mono (by decide)) rfl T.m_law_draw T.F_law_draw.kp T.b_law_draw .nil pass0 (qa_cons (qv 0) (qa_cons qe_int qa_nil star_con) star_name)) (fun _ _ => rfl))))) qss_nil)
      (qss_cons (qs_if (qt_cmpR op_eq (qv 4) qe_int (nomark _)) (qss_one (qs_ret (qe_ix ix_list (qe_lst (qa_cons (qe_tup (qa_cons (qe_op op_repT (qe_tup (qa_cons (qe_tup (qa_cons qe_int (qa_cons qe_int (qa_cons (qe_tup (qa_cons qe_int (qa_cons qe_int qa_nil star_con) star_con)) qa_nil star_tup) star_con) star_con)) qa_nil star_tup)) qe_int) (qa_cons (qv 3) qa_nil star_name) star_bin)) (qa_cons (qe_tup (qa_cons (qv 2) (qa_cons (qe_op op_repT (qe_tup (qa_cons (qe_tup (qa_cons qe_int (qa_cons qe_int qa_nil star_con) star_con)) qa_nil star_tup)) qe_int) qa_nil star_bin) star_name)) (qa_cons (qe_tup (qa_cons (qe_op op_catU (qv 2) (qe_tup (qa_cons qe_non qa_nil star_con))) (qa_cons (qv 3) qa_nil star_name) star_bin)) qa_nil star_tup) star_tup) star_tup)) (qe_call (ok_law_draw T) (hr.mono (by decide)) rfl T.m_law_draw T.F_law_draw.kp T.b_law_draw .nil pass0 (qa_cons (qv 0) (qa_cons qe_int qa_nil star_con) star_name)) (fun _ _ => rfl)))) qss_nil)
      (qss_cons (qs_cut (qs_if (qw_pt (qw_and (qt_cmpR op_lt (qv 4) qe_int (nomark _)) (qw_and1 (qt_cmpR (op_neD hr) (qv 2) (qe_tup qa_nil) (nomark _))))) (qss_cons (qs_set (i := 6) sc_law_bent.nd rfl (by first | exact Or.inl rfl | exact Or.inr rfl) (qe_call (ok_law_draw T) (hr.mono (by decide)) rfl T.m_law_draw T.F_law_draw.kp T.b_law_draw .nil pass0 (qa_cons (qv 0) (qa_cons (qe_callB call_len_seq (by rfl) T.z_len PySem.boot_len (qa_cons (qv 2) qa_nil star_name)) qa_nil star_call) star_name)))
      (qss_one (qs_ret (qe_tup (qa_cons (qe_op op_catU (qe_op op_catU (qe_slice sl_tupU (qv 2) qo_none (qo_some (qv 6))) (qe_tup (qa_cons (qe_call (ok_law_bent_work T) (hr.mono (by decide)) rfl T.m_law_bent_work T.F_law_bent_work.kp T.b_law_bent_work .nil pass0 (qa_cons (qv 0) (qa_cons (qe_ix ix_tup (qv 2) (qv 6) (fun _ _ => rfl)) qa_nil star_sub) star_name)) qa_nil star_call))) (qe_slice sl_tupU (qv 2) (qo_some (qe_op op_add (qv 6) qe_int)) qo_none)) (qa_cons (qv 3) qa_nil star_name) star_bin))))) qss_nil))
      (qss_cons (qs_set (i := 6) sc_law_bent.nd rfl (by first | exact Or.inl rfl | exact Or.inr rfl) (qe_call (ok_law_draw T) (hr.mono (by decide)) rfl T.m_law_draw T.F_law_draw.kp T.b_law_draw .nil pass0 (qa_cons (qv 0) (qa_cons (qe_op op_add (qe_callB call_len_seq (by rfl) T.z_len PySem.boot_len (qa_cons (qv 3) qa_nil star_name)) qe_int) qa_nil star_bin) star_name)))
      (qss_cons (qs_if (qw_pt (qw_or (qt_cmpR op_lt (qv 4) qe_int (nomark _)) (qw_or1 (qt_cmpR (op_eqD hr) (qv 3) (qe_tup qa_nil) (nomark _))))) (qss_cons (qs_set (i := 7) sc_law_bent.nd rfl (by first | exact Or.inl rfl | exact Or.inr rfl) (qe_callB call_len_seq (by rfl) T.z_len PySem.boot_len (qa_cons (qv 2) qa_nil star_name)))
      (qss_cons (qs_set (i := 8) sc_law_bent.nd rfl (by first | exact Or.inl rfl | exact Or.inr rfl) (qe_lst (qa_cons (qe_tup (qa_cons qe_int (qa_cons (qv 7) qa_nil star_name) star_con)) (qa_cons (qe_tup (qa_cons qe_int (qa_cons qe_int qa_nil star_con) star_con)) (qa_cons (qe_tup (qa_cons (qe_un un_neg qe_int) (qa_cons qe_int qa_nil star_con) star_un)) (qa_cons (qe_tup (qa_cons qe_bl (qa_cons qe_int qa_nil star_con) star_con)) (qa_cons (qe_tup (qa_cons qe_int (qa_cons qe_int (qa_cons qe_int qa_nil star_con) star_con) star_con)) (qa_cons (qe_lst (qa_cons qe_int (qa_cons qe_int qa_nil star_con) star_con)) (qa_cons qe_non (qa_cons (qe_tup (qa_cons (qe_op op_sub (qv 7) qe_int) (qa_cons qe_int qa_nil star_con) star_bin)) (qa_cons (qe_tup (qa_cons qe_int (qa_cons qe_str qa_nil star_con) star_con)) qa_nil star_tup) star_tup) star_con) star_lst) star_tup) star_tup) star_tup) star_tup) star_tup)))
      (qss_one (qs_ret (qe_tup (qa_cons (qv 2) (qa_cons (qe_slice sl_tupU (qe_op op_catU (qe_op op_catU (qe_slice sl_tupU (qv 3) qo_none (qo_some (qv 6))) (qe_tup (qa_cons (qe_ix ix_list (qv 8) (qe_call (ok_law_draw T) (hr.mono (by decide)) rfl T.m_law_draw T.F_law_draw.kp T.b_law_draw .nil pass0 (qa_cons (qv 0) (qa_cons qe_int qa_nil star_con) star_name)) (fun _ _ => rfl)) qa_nil star_sub))) (qe_slice sl_tupU (qv 3) (qo_some (qv 6)) qo_none)) qo_none (qo_some qe_int)) qa_nil star_sub) star_name)))))) qss_nil)
      (qss_cons (qs_asg (qe_ix ix_tup (qv 3) (qe_call (ok_law_draw T) (hr.mono (by decide)) rfl T.m_law_draw T.F_law_draw.kp T.b_law_draw .nil pass0 (qa_cons (qv 0) (qa_cons (qe_callB call_len_seq (by rfl) T.z_len PySem.boot_len (qa_cons (qv 3) qa_nil star_name)) qa_nil star_call) star_name)) (fun _ _ => rfl)) (qg_tup rfl (qgs_cons (qg_name (i := 9) sc_law_bent.nd rfl (by first | exact Or.inl rfl | exact Or.inr rfl)) (qgs_cons (qg_name (i := 10) sc_law_bent.nd rfl (by first | exact Or.inl rfl | exact Or.inr rfl)) qgs_nil))))
      (qss_cons (qs_if (qt_cmpR op_eq (qv 4) qe_int (nomark _)) (qss_one (qs_ret (qe_tup (qa_cons (qv 2) (qa_cons (qe_slice sl_tupU (qe_op op_catU (qe_op op_catU (qe_slice sl_tupU (qv 3) qo_none (qo_some (qv 6))) (qe_tup (qa_cons (qe_tup (qa_cons (qv 10) (qa_cons (qv 9) qa_nil star_name) star_name)) qa_nil star_tup))) (qe_slice sl_tupU (qv 3) (qo_some (qv 6)) qo_none)) qo_none (qo_some qe_int)) qa_nil star_sub) star_name)))) qss_nil)
      (qss_cons (qs_set (i := 11) sc_law_bent.nd rfl (by first | exact Or.inl rfl | exact Or.inr rfl) (qe_call (ok_law_draw T) (hr.mono (by decide)) rfl T.m_law_draw T.F_law_draw.kp T.b_law_draw .nil pass0 (qa_cons (qv 0) (qa_cons (qe_callB call_len_seq (by rfl) T.z_len PySem.boot_len (qa_cons (qv 2) qa_nil star_name)) qa_nil star_call) star_name)))
      (qss_one (qs_ret (qe_tup (qa_cons (qv 2) (qa_cons (qe_slice sl_tupU (qe_op op_catU (qe_op op_catU (qe_slice sl_tupU (qv 3) qo_none (qo_some (qv 6))) (qe_tup (qa_cons (qe_tup (qa_cons (qv 10) (qa_cons (qv 11) qa_nil star_name) star_name)) (qa_cons (qe_tup (qa_cons (qv 11) (qa_cons (qv 9) qa_nil star_name) star_name)) qa_nil star_tup) star_tup))) (qe_slice sl_tupU (qv 3) (qo_some (qv 6)) qo_none)) qo_none (qo_some qe_int)) qa_nil star_sub) star_name)))))))))))))) ?_
  obtain ⟨hS, hSw, alw, hSl, all_, n20, n40, okw, okl⟩ := sh
  have hxl := alw.len
  have hyl := all_.len
  have S0 : Step t₁ H H := ⟨fun _ _ _ q => q, tp.lst, tp.lst⟩
  have tD := hd_tst (K := K) tp.lst nD hd_
  have daw : DeepAll K (hid H t₁ D) xs (ws.map dWk) := (alw.mono fun _ _ q => q.mono tD).deep fun _ _ q => q.deep
  have dpw : Deep K (hid H t₁ D) (.ref pw) (.tuple (ws.map dWk)) := .tup (tD _ _ hSw) daw
  have dal : DeepAll K (hid H t₁ D) ys (es.map dLnB) := (all_.mono fun _ _ q => q.mono tD).deep fun _ _ q => q.deepB
  have dpl : Deep K (hid H t₁ D) (.ref pl) (.tuple (es.map dLnB)) := .tup (tD _ _ hSl) dal
  have das : DeepAll K (hid H t₁ D) [.ref pw, .ref pl] [.tuple (ws.map dWk), .tuple (es.map dLnB)] := .cons dpw (.cons dpl .nil)
  have dps : Deep K (hid H t₁ D) (.ref p) (.tuple [.tuple (ws.map dWk), .tuple (es.map dLnB)]) := .tup (tD _ _ hS) das
  have gew : ∀ d ∈ ws.map dWk, Gd 2 31000 d := fun d hd => by
    obtain ⟨w, hw, rfl⟩ := List.mem_map.mp hd
    exact gd_wkB (okw w hw)
  have gdw : Gd 3 620068 (.tuple (ws.map dWk)) := Gd.tup (m := 20) gew (by rw [List.length_map]; exact n20) (by decide)
  have gel : ∀ d ∈ es.map dLnB, Gd 1 12000 d := fun d hd => by
    obtain ⟨w, hw, rfl⟩ := List.mem_map.mp hd
    exact gd_lnB (okl w hw) n20
  have gdl : Gd 2 480128 (.tuple (es.map dLnB)) := Gd.tup (m := 40) gel (by rw [List.length_map]; exact n40) (by decide)
  have ges : ∀ d ∈ ([.tuple (ws.map dWk), .tuple (es.map dLnB)] : List PyData), Gd 3 620068 d := fun d hd => by
    simp only [List.mem_cons, List.not_mem_nil, or_false] at hd
    rcases hd with rfl | rfl
    · exact gdw
    · exact gdl.mono (by decide) (by decide)
  have gds : Gd 4 1240150 (.tuple [.tuple (ws.map dWk), .tuple (es.map dLnB)]) := Gd.tup (m := 2) ges (Nat.le_refl _) (by decide)
  refine ⟨_, rfl, p, _, rfl, hS, rfl, _, _, rfl, _, _, rfl, rfl, _, rfl, t₁, s₁, 9, rfl, tp, by decide, by decide, fun ra1 za1 aa1 ba1 Ta1 => ?_⟩
  have Sa1 := Step.up (ys := za1) tp.lst.choose_spec
  replace S0 := S0.trans Sa1
  replace hd_ := hd_.imp fun _ q => Sa1.keep _ _ nD q
  replace hS := tP Sa1 hS
  replace hSw := tP Sa1 hSw
  replace alw := alw.mono fun _ _ q => q.mono (Tst.step (K := K) Sa1)
  replace hSl := tP Sa1 hSl
  replace all_ := all_.mono fun _ _ q => q.mono (Tst.step (K := K) Sa1)
  replace daw := aP Sa1 daw
  replace dpw := dP Sa1 dpw
  replace dal := aP Sa1 dal
  replace dpl := dP Sa1 dpl
  replace das := aP Sa1 das
  replace dps := dP Sa1 dps
  replace tp := Ta1
  clear Ta1 Sa1
  generalize upd H t₁ (.lst za1) = Ha1 at S0 tp hd_ hS hSw alw hSl all_ daw dpw dal dpl das dps ⊢
  refine ⟨_, rfl, rfl, _, rfl, ite2 (fun _ => ?_) (fun _ => ?_)⟩
  · refine ⟨_, rfl, p, _, rfl, .inr hS, fun pb1 gb1 => ?_⟩
    obtain ⟨eb1, hb1, db1⟩ := nwO (o := (.lst [V.ref pw, V.ref pl])) gb1 tp.lst hd_
    generalize upd Ha1 pb1 (.lst [V.ref pw, V.ref pl]) = Hb1 at eb1 hb1 db1 ⊢
    have nb1 := nwN gb1 tp.lst
    replace S0 := S0.trans (.same eb1 tp.lst)
    replace tp := tp.same eb1
    replace hd_ := hd_.imp fun _ q => eb1 _ _ q
    replace hS := tS eb1 hS
    replace hSw := tS eb1 hSw
    replace hSl := tS eb1 hSl
    replace daw := aS eb1 daw
    replace dpw := dS eb1 dpw
    replace dal := aS eb1 dal
    replace dpl := dS eb1 dpl
    replace das := aS eb1 das
    have lsb1 : Hb1 pb1 = some (.lst [V.ref pw, V.ref pl]) := hb1
    have dpb1 : Deep K (hid Hb1 t₁ D) (.ref pb1) (.list [PyData.tuple (ws.map dWk), PyData.tuple (es.map dLnB)]) := .lst (SqL.of db1) das
    clear eb1 hb1 db1
    have gdb1 : Gd 4 1240150 (.list [PyData.tuple (ws.map dWk), PyData.tuple (es.map dLnB)]) := Gd.lst (m := 2) ges (by first | omega | (simp <;> omega)) (by decide)
    refine ⟨_, rfl, (by show 0 ≤ sizeLine; decide), fun pb2 gb2 => ?_⟩
    obtain ⟨eb2, hb2, db2⟩ := nwO (o := (.tup [])) gb2 tp.lst hd_
    generalize upd Hb1 pb2 (.tup []) = Hb2 at eb2 hb2 db2 ⊢
    replace S0 := S0.trans (.same eb2 tp.lst)
    replace tp := tp.same eb2
    replace hd_ := hd_.imp fun _ q => eb2 _ _ q
    replace hS := tS eb2 hS
    replace hSw := tS eb2 hSw
    replace hSl := tS eb2 hSl
    replace daw := aS eb2 daw
    replace dpw := dS eb2 dpw
    replace dal := aS eb2 dal
    replace dpl := dS eb2 dpl
    replace das := aS eb2 das
    replace dpb1 := dS eb2 dpb1
    have sqb2 := SqT.of (K := K) hb2
    have dab2 : DeepAll K (hid Hb2 t₁ D) [] [] := .nil
    have dpb2 := dpT db2 dab2
    clear eb2 hb2 db2
    have geb2 : ∀ d ∈ ([] : List PyData), Gd 0 0 d := gN
    have gdb2 := gTu 0 8 geb2
    refine ⟨(by show 1 ≤ sizeLine; decide), fun pb3 gb3 => ?_⟩
    obtain ⟨eb3, hb3, db3⟩ := nwO (o := (.tup [V.ref pb2])) gb3 tp.lst hd_
    generalize upd Hb2 pb3 (.tup [V.ref pb2]) = Hb3 at eb3 hb3 db3 ⊢
    replace S0 := S0.trans (.same eb3 tp.lst)
    replace tp := tp.same eb3
    replace hd_ := hd_.imp fun _ q => eb3 _ _ q
    replace hS := tS eb3 hS
    replace hSw := tS eb3 hSw
    replace hSl := tS eb3 hSl
    replace daw := aS eb3 daw
    replace dpw := dS eb3 dpw
    replace dal := aS eb3 dal
    replace dpl := dS eb3 dpl
    replace das := aS eb3 das
    replace dpb1 := dS eb3 dpb1
    replace dpb2 := dS eb3 dpb2
    have sqb3 := SqT.of (K := K) hb3
    have dab3 : DeepAll K (hid Hb3 t₁ D) [V.ref pb2] [PyData.tuple []] := (.cons dpb2 .nil)
    have dpb3 := dpT db3 dab3
    clear eb3 hb3 db3
    have geb3 : ∀ d ∈ ([PyData.tuple []] : List PyData), Gd 1 8 d := (gC (gW gdb2) gN)
    have gdb3 := gTu 1 19 geb3
    refine ⟨p, pb3, _, _, rfl, rfl, hS, sqb3, Nat.le_trans (show _ ≤ 1000 by first | omega | (simp <;> omega)) (by show 1000 ≤ sizeLine; decide), fun pb4 Hb4 eb4 cb4 => ?_⟩
    replace S0 := S0.trans (.same eb4 tp.lst)
    replace tp := tp.same eb4
    replace hd_ := hd_.imp fun _ q => eb4 _ _ q
    replace hSw := tS eb4 hSw
    replace hSl := tS eb4 hSl
    replace daw := aS eb4 daw
    replace dpw := dS eb4 dpw
    replace dal := aS eb4 dal
    replace dpl := dS eb4 dpl
    replace das := aS eb4 das
    replace dpb1 := dS eb4 dpb1
    replace dab3 := aS eb4 dab3
    have sqb4 : SqT K Hb4 pb4 ([V.ref pw, V.ref pl] ++ [V.ref pb2]) := cb4
    have dab4 : DeepAll K (hid Hb4 t₁ D) ([V.ref pw, V.ref pl] ++ [V.ref pb2]) ([PyData.tuple (ws.map dWk), PyData.tuple (es.map dLnB)] ++ [PyData.tuple []]) := DeepAll.app das dab3
    have dpb4 : Deep K (hid Hb4 t₁ D) (.ref pb4) (.tuple ([PyData.tuple (ws.map dWk), PyData.tuple (es.map dLnB)] ++ [PyData.tuple []])) := .tup (hd_tst (K := K) tp.lst nD hd_ _ _ cb4) dab4
    clear eb4
    have geb4 : ∀ d ∈ ([PyData.tuple (ws.map dWk), PyData.tuple (es.map dLnB)] ++ [PyData.tuple []] : List PyData), Gd 3 620068 d := (gd_app (gd_wide (by decide) (by decide) ges) (gd_wide (by decide) (by decide) geb3))
    have gdb4 : Gd 4 1860221 (.tuple ([PyData.tuple (ws.map dWk), PyData.tuple (es.map dLnB)] ++ [PyData.tuple []])) := Gd.tup (m := 3) geb4 (by first | omega | (simp <;> omega)) (by decide)
    refine ⟨_, rfl, (by show 1 ≤ sizeLine; decide), fun pb5 gb5 => ?_⟩
    obtain ⟨eb5, hb5, db5⟩ := nwO (o := (.tup [V.ref pw])) gb5 tp.lst hd_
    generalize upd Hb4 pb5 (.tup [V.ref pw]) = Hb5 at eb5 hb5 db5 ⊢
    replace S0 := S0.trans (.same eb5 tp.lst)
    replace tp := tp.same eb5
    replace hd_ := hd_.imp fun _ q => eb5 _ _ q
    replace hSw := tS eb5 hSw
    replace hSl := tS eb5 hSl
    replace daw := aS eb5 daw
    replace dpw := dS eb5 dpw
    replace dal := aS eb5 dal
    replace dpl := dS eb5 dpl
    replace dpb1 := dS eb5 dpb1
    replace dpb4 := dS eb5 dpb4
    have sqb5 := SqT.of (K := K) hb5
    have dab5 : DeepAll K (hid Hb5 t₁ D) [V.ref pw] [PyData.tuple (ws.map dWk)] := (.cons dpw .nil)
    have dpb5 := dpT db5 dab5
    clear eb5 hb5 db5
    have geb5 : ∀ d ∈ ([PyData.tuple (ws.map dWk)] : List PyData), Gd 3 620068 d := (gC (gW gdw) gN)
    have gdb5 := gTu 1 620079 geb5
    refine ⟨_, rfl, pw, _, rfl, .inr hSw, fun pb6 gb6 => ?_⟩
    obtain ⟨eb6, hb6, db6⟩ := nwO (o := (.lst xs)) gb6 tp.lst hd_
    generalize upd Hb5 pb6 (.lst xs) = Hb6 at eb6 hb6 db6 ⊢
    have nb6 := nwN gb6 tp.lst
    replace S0 := S0.trans (.same eb6 tp.lst)
    replace tp := tp.same eb6
    replace hd_ := hd_.imp fun _ q => eb6 _ _ q
    replace hSl := tS eb6 hSl
    replace daw := aS eb6 daw
    replace dpw := dS eb6 dpw
    replace dal := aS eb6 dal
    replace dpl := dS eb6 dpl
    replace dpb1 := dS eb6 dpb1
    replace dpb4 := dS eb6 dpb4
    replace dpb5 := dS eb6 dpb5
    have lsb6 : Hb6 pb6 = some (.lst xs) := hb6
    have dpb6 : Deep K (hid Hb6 t₁ D) (.ref pb6) (.list ((ws.map dWk))) := .lst (SqL.of db6) daw
    clear eb6 hb6 db6
    have gdb6 : Gd 3 620068 (.list ((ws.map dWk))) := Gd.lst (m := 20) gew (by first | omega | (simp <;> omega)) (by decide)
    refine ⟨_, rfl, (by show 2 ≤ sizeLine; decide), fun pb7 gb7 => ?_⟩
    obtain ⟨eb7, hb7, db7⟩ := nwO (o := (.tup [V.ref pb6, V.ref pl])) gb7 tp.lst hd_
    generalize upd Hb6 pb7 (.tup [V.ref pb6, V.ref pl]) = Hb7 at eb7 hb7 db7 ⊢
    replace S0 := S0.trans (.same eb7 tp.lst)
    replace tp := tp.same eb7
    replace hd_ := hd_.imp fun _ q => eb7 _ _ q
    replace hSl := tS eb7 hSl
    replace dpw := dS eb7 dpw
    replace dal := aS eb7 dal
    replace dpl := dS eb7 dpl
    replace dpb1 := dS eb7 dpb1
    replace dpb4 := dS eb7 dpb4
    replace dpb5 := dS eb7 dpb5
    replace dpb6 := dS eb7 dpb6
    have sqb7 := SqT.of (K := K) hb7
    have dab7 : DeepAll K (hid Hb7 t₁ D) [V.ref pb6, V.ref pl] [PyData.list ((ws.map dWk)), PyData.tuple (es.map dLnB)] := (.cons dpb6 (.cons dpl .nil))
    have dpb7 := dpT db7 dab7
    clear eb7 hb7 db7
    have geb7 : ∀ d ∈ ([PyData.list ((ws.map dWk)), PyData.tuple (es.map dLnB)] : List PyData), Gd 3 620068 d := (gC (gW gdb6) (gC (gW gdl) gN))
    have gdb7 := gTu 2 1240150 geb7
    refine ⟨_, rfl, _, rfl, pl, _, rfl, .inr hSl, fun pb8 gb8 => ?_⟩
    obtain ⟨eb8, hb8, db8⟩ := nwO (o := (.lst ys)) gb8 tp.lst hd_
    generalize upd Hb7 pb8 (.lst ys) = Hb8 at eb8 hb8 db8 ⊢
    have nb8 := nwN gb8 tp.lst
    replace S0 := S0.trans (.same eb8 tp.lst)
    replace tp := tp.same eb8
    replace hd_ := hd_.imp fun _ q => eb8 _ _ q
    replace dpw := dS eb8 dpw
    replace dal := aS eb8 dal
    replace dpb1 := dS eb8 dpb1
    replace dpb4 := dS eb8 dpb4
    replace dpb5 := dS eb8 dpb5
    replace dpb7 := dS eb8 dpb7
    have lsb8 : Hb8 pb8 = some (.lst ys) := hb8
    have dpb8 : Deep K (hid Hb8 t₁ D) (.ref pb8) (.list ((es.map dLnB))) := .lst (SqL.of db8) dal
    clear eb8 hb8 db8
    have gdb8 : Gd 2 480128 (.list ((es.map dLnB))) := Gd.lst (m := 40) gel (by first | omega | (simp <;> omega)) (by decide)
    refine ⟨(by show 2 ≤ sizeLine; decide), fun pb9 gb9 => ?_⟩
    obtain ⟨eb9, hb9, db9⟩ := nwO (o := (.tup [V.ref pw, V.ref pb8])) gb9 tp.lst hd_
    generalize upd Hb8 pb9 (.tup [V.ref pw, V.ref pb8]) = Hb9 at eb9 hb9 db9 ⊢
    replace S0 := S0.trans (.same eb9 tp.lst)
    replace tp := tp.same eb9
    replace hd_ := hd_.imp fun _ q => eb9 _ _ q
    replace dpw := dS eb9 dpw
    replace dpb1 := dS eb9 dpb1
    replace dpb4 := dS eb9 dpb4
    replace dpb5 := dS eb9 dpb5
    replace dpb7 := dS eb9 dpb7
    replace dpb8 := dS eb9 dpb8
    have sqb9 := SqT.of (K := K) hb9
    have dab9 : DeepAll K (hid Hb9 t₁ D) [V.ref pw, V.ref pb8] [PyData.tuple (ws.map dWk), PyData.list ((es.map dLnB))] := (.cons dpw (.cons dpb8 .nil))
    have dpb9 := dpT db9 dab9
    clear eb9 hb9 db9
    have geb9 : ∀ d ∈ ([PyData.tuple (ws.map dWk), PyData.list ((es.map dLnB))] : List PyData), Gd 3 620068 d := (gC (gW gdw) (gC (gW gdb8) gN))
    have gdb9 := gTu 2 1240150 geb9
    refine ⟨(by show 0 ≤ sizeLine; decide), fun pb10 gb10 => ?_⟩
    obtain ⟨eb10, hb10, db10⟩ := nwO (o := (.tup [])) gb10 tp.lst hd_
    generalize upd Hb9 pb10 (.tup []) = Hb10 at eb10 hb10 db10 ⊢
    replace S0 := S0.trans (.same eb10 tp.lst)
    replace tp := tp.same eb10
    replace hd_ := hd_.imp fun _ q => eb10 _ _ q
    replace dpb1 := dS eb10 dpb1
    replace dpb4 := dS eb10 dpb4
    replace dpb5 := dS eb10 dpb5
    replace dpb7 := dS eb10 dpb7
    replace dpb9 := dS eb10 dpb9
    have sqb10 := SqT.of (K := K) hb10
    have dab10 : DeepAll K (hid Hb10 t₁ D) [] [] := .nil
    have dpb10 := dpT db10 dab10
    clear eb10 hb10 db10
    have geb10 : ∀ d ∈ ([] : List PyData), Gd 0 0 d := gN
    have gdb10 := gTu 0 8 geb10
    refine ⟨(by show 7 ≤ sizeLine; decide), fun pb11 gb11 => ?_⟩
    obtain ⟨eb11, hb11, db11⟩ := nwO (o := (.lst [V.ref pb1, V.ref pb4, V.ref pb5, V.ref pb7, V.ref pb9, V.non, V.ref pb10])) gb11 tp.lst hd_
    generalize upd Hb10 pb11 (.lst [V.ref pb1, V.ref pb4, V.ref pb5, V.ref pb7, V.ref pb9, V.non, V.ref pb10]) = Hb11 at eb11 hb11 db11 ⊢
    have nb11 := nwN gb11 tp.lst
    replace S0 := S0.trans (.same eb11 tp.lst)
    replace tp := tp.same eb11
    replace hd_ := hd_.imp fun _ q => eb11 _ _ q
    replace dpb1 := dS eb11 dpb1
    replace dpb4 := dS eb11 dpb4
    replace dpb5 := dS eb11 dpb5
    replace dpb7 := dS eb11 dpb7
    replace dpb9 := dS eb11 dpb9
    replace dpb10 := dS eb11 dpb10
    have lsb11 := hb11
    have dab11 : DeepAll K (hid Hb11 t₁ D) [V.ref pb1, V.ref pb4, V.ref pb5, V.ref pb7, V.ref pb9, V.non, V.ref pb10] [PyData.list [PyData.tuple (ws.map dWk), PyData.tuple (es.map dLnB)], PyData.tuple ([PyData.tuple (ws.map dWk), PyData.tuple (es.map dLnB)] ++ [PyData.tuple []]), PyData.tuple [PyData.tuple (ws.map dWk)], PyData.tuple [PyData.list ((ws.map dWk)), PyData.tuple (es.map dLnB)], PyData.tuple [PyData.tuple (ws.map dWk), PyData.list ((es.map dLnB))], PyData.none, PyData.tuple []] := (.cons dpb1 (.cons dpb4 (.cons dpb5 (.cons dpb7 (.cons dpb9 (.cons .non (.cons dpb10 .nil)))))))
    have dpb11 := dpL db11 dab11
    clear eb11 hb11 db11
    have geb11 : ∀ d ∈ ([PyData.list [PyData.tuple (ws.map dWk), PyData.tuple (es.map dLnB)], PyData.tuple ([PyData.tuple (ws.map dWk), PyData.tuple (es.map dLnB)] ++ [PyData.tuple []]), PyData.tuple [PyData.tuple (ws.map dWk)], PyData.tuple [PyData.list ((ws.map dWk)), PyData.tuple (es.map dLnB)], PyData.tuple [PyData.tuple (ws.map dWk), PyData.list ((es.map dLnB))], PyData.none, PyData.tuple []] : List PyData), Gd 4 1860221 d := (gC (gW gdb1) (gC (gW gdb4) (gC (gW gdb5) (gC (gW gdb7) (gC (gW gdb9) (gC (gW gd_none) (gC (gW gdb10) gN)))))))
    have gdb11 := gLs 7 13021576 geb11
    refine ⟨_, rfl, _, rfl, t₁, s₁, 7, rfl, tp, by decide, by decide, fun rb12 zb12 ab12 bb12 Tb12 => ?_⟩
    have Sb12 := Step.up (ys := zb12) tp.lst.choose_spec
    replace S0 := S0.trans Sb12
    replace hd_ := hd_.imp fun _ q => Sb12.keep _ _ nD q
    replace lsb11 := Sb12.keep _ _ nb11 lsb11
    replace dab11 := aP Sb12 dab11
    replace tp := Tb12
    clear Tb12 Sb12
    generalize upd Hb11 t₁ (.lst zb12) = Hb12 at S0 tp hd_ lsb11 dab11 ⊢
    obtain ⟨vb12, wb12, atb12, meb12, dvb12⟩ := DeepAll.pick dab11 ab12 bb12
    refine ⟨pb11, _, _, vb12, rfl, rfl, SqL.of lsb11, atb12, ?_⟩
    exact k (vb12) (wb12) _ S0 tp dvb12 ((geb11 _ meb12).mono (by decide) (by decide))
  refine ⟨_, rfl, rfl, _, rfl, ite2 (fun _ => ?_) (fun _ => ?_)⟩
  · refine ⟨(by show 2 ≤ sizeLine; decide), fun pc1 gc1 => ?_⟩
    obtain ⟨ec1, hc1, dc1⟩ := nwO (o := (.tup [V.int (1), V.int (1)])) gc1 tp.lst hd_
    generalize upd Ha1 pc1 (.tup [V.int (1), V.int (1)]) = Hc1 at ec1 hc1 dc1 ⊢
    replace S0 := S0.trans (.same ec1 tp.lst)
    replace tp := tp.same ec1
    replace hd_ := hd_.imp fun _ q => ec1 _ _ q
    replace hSw := tS ec1 hSw
    replace daw := aS ec1 daw
    replace dpw := dS ec1 dpw
    replace dpl := dS ec1 dpl
    have sqc1 := SqT.of (K := K) hc1
    have dac1 : DeepAll K (hid Hc1 t₁ D) [V.int (1), V.int (1)] [PyData.int (1), PyData.int (1)] := (.cons (.int _) (.cons (.int _) .nil))
    have dpc1 := dpT dc1 dac1
    clear ec1 hc1 dc1
    have gec1 : ∀ d ∈ ([PyData.int (1), PyData.int (1)] : List PyData), Gd 0 5000 d := (gC (gW (gd_int (by decide))) (gC (gW (gd_int (by decide))) gN))
    have gdc1 := gTu 2 10014 gec1
    refine ⟨(by show 3 ≤ sizeLine; decide), fun pc2 gc2 => ?_⟩
    obtain ⟨ec2, hc2, dc2⟩ := nwO (o := (.tup [V.int (0), V.int (1), V.ref pc1])) gc2 tp.lst hd_
    generalize upd Hc1 pc2 (.tup [V.int (0), V.int (1), V.ref pc1]) = Hc2 at ec2 hc2 dc2 ⊢
    replace S0 := S0.trans (.same ec2 tp.lst)
    replace tp := tp.same ec2
    replace hd_ := hd_.imp fun _ q => ec2 _ _ q
    replace hSw := tS ec2 hSw
    replace daw := aS ec2 daw
    replace dpw := dS ec2 dpw
    replace dpl := dS ec2 dpl
    replace dpc1 := dS ec2 dpc1
    have sqc2 := SqT.of (K := K) hc2
    have dac2 : DeepAll K (hid Hc2 t₁ D) [V.int (0), V.int (1), V.ref pc1] [PyData.int (0), PyData.int (1), PyData.tuple [PyData.int (1), PyData.int (1)]] := (.cons (.int _) (.cons (.int _) (.cons dpc1 .nil)))
    have dpc2 := dpT dc2 dac2
    clear ec2 hc2 dc2
    have gec2 : ∀ d ∈ ([PyData.int (0), PyData.int (1), PyData.tuple [PyData.int (1), PyData.int (1)]] : List PyData), Gd 1 10014 d := (gC (gW (gd_int (by decide))) (gC (gW (gd_int (by decide))) (gC (gW gdc1) gN)))
    have gdc2 := gTu 3 30059 gec2
    refine ⟨(by show 1 ≤ sizeLine; decide), fun pc3 gc3 => ?_⟩
    obtain ⟨ec3, hc3, dc3⟩ := nwO (o := (.tup [V.ref pc2])) gc3 tp.lst hd_
    generalize upd Hc2 pc3 (.tup [V.ref pc2]) = Hc3 at ec3 hc3 dc3 ⊢
    replace S0 := S0.trans (.same ec3 tp.lst)
    replace tp := tp.same ec3
    replace hd_ := hd_.imp fun _ q => ec3 _ _ q
    replace hSw := tS ec3 hSw
    replace daw := aS ec3 daw
    replace dpw := dS ec3 dpw
    replace dpl := dS ec3 dpl
    replace dpc2 := dS ec3 dpc2
    have sqc3 := SqT.of (K := K) hc3
    have dac3 : DeepAll K (hid Hc3 t₁ D) [V.ref pc2] [PyData.tuple [PyData.int (0), PyData.int (1), PyData.tuple [PyData.int (1), PyData.int (1)]]] := (.cons dpc2 .nil)
    have dpc3 := dpT dc3 dac3
    clear ec3 hc3 dc3
    have gec3 : ∀ d ∈ ([PyData.tuple [PyData.int (0), PyData.int (1), PyData.tuple [PyData.int (1), PyData.int (1)]]] : List PyData), Gd 2 30059 d := (gC (gW gdc2) gN)
    have gdc3 := gTu 1 30070 gec3
    refine ⟨pc3, _, 21, rfl, rfl, sqc3, by decide, by decide, fun pc4 gc4 => ?_⟩
    obtain ⟨ec4, hc4, dc4⟩ := nwO (o := (.tup (List.replicate 21 (V.ref pc2)))) gc4 tp.lst hd_
    generalize upd Hc3 pc4 (.tup (List.replicate 21 (V.ref pc2))) = Hc4 at ec4 hc4 dc4 ⊢
    replace S0 := S0.trans (.same ec4 tp.lst)
    replace tp := tp.same ec4
    replace hd_ := hd_.imp fun _ q => ec4 _ _ q
    replace hSw := tS ec4 hSw
    replace daw := aS ec4 daw
    replace dpw := dS ec4 dpw
    replace dpl := dS ec4 dpl
    replace dpc2 := dS ec4 dpc2
    have sqc4 : SqT K Hc4 pc4 (List.replicate 21 (V.ref pc2)) := SqT.of hc4
    have dac4 : DeepAll K (hid Hc4 t₁ D) (List.replicate 21 (V.ref pc2)) (List.replicate 21 (PyData.tuple [PyData.int (0), PyData.int (1), PyData.tuple [PyData.int (1), PyData.int (1)]])) := DeepAll.rep dpc2 21
    have dpc4 : Deep K (hid Hc4 t₁ D) (.ref pc4) (.tuple (List.replicate 21 (PyData.tuple [PyData.int (0), PyData.int (1), PyData.tuple [PyData.int (1), PyData.int (1)]]))) := .tup (SqT.of dc4) dac4
    clear ec4 hc4 dc4
    have gec4 : ∀ d ∈ ((List.replicate 21 (PyData.tuple [PyData.int (0), PyData.int (1), PyData.tuple [PyData.int (1), PyData.int (1)]])) : List PyData), Gd 2 30059 d := gd_rep gdc2 21
    have gdc4 : Gd 3 631310 (.tuple (List.replicate 21 (PyData.tuple [PyData.int (0), PyData.int (1), PyData.tuple [PyData.int (1), PyData.int (1)]]))) := Gd.tup (m := 21) gec4 (by rw [List.length_replicate]; decide) (by decide)
    refine ⟨_, rfl, (by show 2 ≤ sizeLine; decide), fun pc5 gc5 => ?_⟩
    obtain ⟨ec5, hc5, dc5⟩ := nwO (o := (.tup [V.ref pc4, V.ref pl])) gc5 tp.lst hd_
    generalize upd Hc4 pc5 (.tup [V.ref pc4, V.ref pl]) = Hc5 at ec5 hc5 dc5 ⊢
    replace S0 := S0.trans (.same ec5 tp.lst)
    replace tp := tp.same ec5
    replace hd_ := hd_.imp fun _ q => ec5 _ _ q
    replace hSw := tS ec5 hSw
    replace daw := aS ec5 daw
    replace dpw := dS ec5 dpw
    replace dpl := dS ec5 dpl
    replace dpc4 := dS ec5 dpc4
    have sqc5 := SqT.of (K := K) hc5
    have dac5 : DeepAll K (hid Hc5 t₁ D) [V.ref pc4, V.ref pl] [PyData.tuple (List.replicate 21 (PyData.tuple [PyData.int (0), PyData.int (1), PyData.tuple [PyData.int (1), PyData.int (1)]])), PyData.tuple (es.map dLnB)] := (.cons dpc4 (.cons dpl .nil))
    have dpc5 := dpT dc5 dac5
    clear ec5 hc5 dc5
    have gec5 : ∀ d ∈ ([PyData.tuple (List.replicate 21 (PyData.tuple [PyData.int (0), PyData.int (1), PyData.tuple [PyData.int (1), PyData.int (1)]])), PyData.tuple (es.map dLnB)] : List PyData), Gd 3 631310 d := (gC (gW gdc4) (gC (gW gdl) gN))
    have gdc5 := gTu 2 1262634 gec5
    refine ⟨_, rfl, (by show 2 ≤ sizeLine; decide), fun pc6 gc6 => ?_⟩
    obtain ⟨ec6, hc6, dc6⟩ := nwO (o := (.tup [V.int (0), V.int (1)])) gc6 tp.lst hd_
    generalize upd Hc5 pc6 (.tup [V.int (0), V.int (1)]) = Hc6 at ec6 hc6 dc6 ⊢
    replace S0 := S0.trans (.same ec6 tp.lst)
    replace tp := tp.same ec6
    replace hd_ := hd_.imp fun _ q => ec6 _ _ q
    replace hSw := tS ec6 hSw
    replace daw := aS ec6 daw
    replace dpw := dS ec6 dpw
    replace dpl := dS ec6 dpl
    replace dpc5 := dS ec6 dpc5
    have sqc6 := SqT.of (K := K) hc6
    have dac6 : DeepAll K (hid Hc6 t₁ D) [V.int (0), V.int (1)] [PyData.int (0), PyData.int (1)] := (.cons (.int _) (.cons (.int _) .nil))
    have dpc6 := dpT dc6 dac6
    clear ec6 hc6 dc6
    have gec6 : ∀ d ∈ ([PyData.int (0), PyData.int (1)] : List PyData), Gd 0 5000 d := (gC (gW (gd_int (by decide))) (gC (gW (gd_int (by decide))) gN))
    have gdc6 := gTu 2 10014 gec6
    refine ⟨(by show 1 ≤ sizeLine; decide), fun pc7 gc7 => ?_⟩
    obtain ⟨ec7, hc7, dc7⟩ := nwO (o := (.tup [V.ref pc6])) gc7 tp.lst hd_
    generalize upd Hc6 pc7 (.tup [V.ref pc6]) = Hc7 at ec7 hc7 dc7 ⊢
    replace S0 := S0.trans (.same ec7 tp.lst)
    replace tp := tp.same ec7
    replace hd_ := hd_.imp fun _ q => ec7 _ _ q
    replace hSw := tS ec7 hSw
    replace daw := aS ec7 daw
    replace dpw := dS ec7 dpw
    replace dpl := dS ec7 dpl
    replace dpc5 := dS ec7 dpc5
    replace dpc6 := dS ec7 dpc6
    have sqc7 := SqT.of (K := K) hc7
    have dac7 : DeepAll K (hid Hc7 t₁ D) [V.ref pc6] [PyData.tuple [PyData.int (0), PyData.int (1)]] := (.cons dpc6 .nil)
    have dpc7 := dpT dc7 dac7
    clear ec7 hc7 dc7
    have gec7 : ∀ d ∈ ([PyData.tuple [PyData.int (0), PyData.int (1)]] : List PyData), Gd 1 10014 d := (gC (gW gdc6) gN)
    have gdc7 := gTu 1 10025 gec7
    refine ⟨pc7, _, 41, rfl, rfl, sqc7, by decide, by decide, fun pc8 gc8 => ?_⟩
    obtain ⟨ec8, hc8, dc8⟩ := nwO (o := (.tup (List.replicate 41 (V.ref pc6)))) gc8 tp.lst hd_
    generalize upd Hc7 pc8 (.tup (List.replicate 41 (V.ref pc6))) = Hc8 at ec8 hc8 dc8 ⊢
    replace S0 := S0.trans (.same ec8 tp.lst)
    replace tp := tp.same ec8
    replace hd_ := hd_.imp fun _ q => ec8 _ _ q
    replace hSw := tS ec8 hSw
    replace daw := aS ec8 daw
    replace dpw := dS ec8 dpw
    replace dpl := dS ec8 dpl
    replace dpc5 := dS ec8 dpc5
    replace dpc6 := dS ec8 dpc6
    have sqc8 : SqT K Hc8 pc8 (List.replicate 41 (V.ref pc6)) := SqT.of hc8
    have dac8 : DeepAll K (hid Hc8 t₁ D) (List.replicate 41 (V.ref pc6)) (List.replicate 41 (PyData.tuple [PyData.int (0), PyData.int (1)])) := DeepAll.rep dpc6 41
    have dpc8 : Deep K (hid Hc8 t₁ D) (.ref pc8) (.tuple (List.replicate 41 (PyData.tuple [PyData.int (0), PyData.int (1)]))) := .tup (SqT.of dc8) dac8
    clear ec8 hc8 dc8
    have gec8 : ∀ d ∈ ((List.replicate 41 (PyData.tuple [PyData.int (0), PyData.int (1)])) : List PyData), Gd 1 10014 d := gd_rep gdc6 41
    have gdc8 : Gd 2 410705 (.tuple (List.replicate 41 (PyData.tuple [PyData.int (0), PyData.int (1)]))) := Gd.tup (m := 41) gec8 (by rw [List.length_replicate]; decide) (by decide)
    refine ⟨(by show 2 ≤ sizeLine; decide), fun pc9 gc9 => ?_⟩
    obtain ⟨ec9, hc9, dc9⟩ := nwO (o := (.tup [V.ref pw, V.ref pc8])) gc9 tp.lst hd_
    generalize upd Hc8 pc9 (.tup [V.ref pw, V.ref pc8]) = Hc9 at ec9 hc9 dc9 ⊢
    replace S0 := S0.trans (.same ec9 tp.lst)
    replace tp := tp.same ec9
    replace hd_ := hd_.imp fun _ q => ec9 _ _ q
    replace hSw := tS ec9 hSw
    replace daw := aS ec9 daw
    replace dpw := dS ec9 dpw
    replace dpl := dS ec9 dpl
    replace dpc5 := dS ec9 dpc5
    replace dpc8 := dS ec9 dpc8
    have sqc9 := SqT.of (K := K) hc9
    have dac9 : DeepAll K (hid Hc9 t₁ D) [V.ref pw, V.ref pc8] [PyData.tuple (ws.map dWk), PyData.tuple (List.replicate 41 (PyData.tuple [PyData.int (0), PyData.int (1)]))] := (.cons dpw (.cons dpc8 .nil))
    have dpc9 := dpT dc9 dac9
    clear ec9 hc9 dc9
    have gec9 : ∀ d ∈ ([PyData.tuple (ws.map dWk), PyData.tuple (List.replicate 41 (PyData.tuple [PyData.int (0), PyData.int (1)]))] : List PyData), Gd 3 620068 d := (gC (gW gdw) (gC (gW gdc8) gN))
    have gdc9 := gTu 2 1240150 gec9
    refine ⟨_, rfl, (by show 1 ≤ sizeLine; decide), fun pc10 gc10 => ?_⟩
    obtain ⟨ec10, hc10, dc10⟩ := nwO (o := (.tup [V.non])) gc10 tp.lst hd_
    generalize upd Hc9 pc10 (.tup [V.non]) = Hc10 at ec10 hc10 dc10 ⊢
    replace S0 := S0.trans (.same ec10 tp.lst)
    replace tp := tp.same ec10
    replace hd_ := hd_.imp fun _ q => ec10 _ _ q
    replace hSw := tS ec10 hSw
    replace daw := aS ec10 daw
    replace dpl := dS ec10 dpl
    replace dpc5 := dS ec10 dpc5
    replace dpc9 := dS ec10 dpc9
    have sqc10 := SqT.of (K := K) hc10
    have dac10 : DeepAll K (hid Hc10 t₁ D) [V.non] [PyData.none] := (.cons .non .nil)
    have dpc10 := dpT dc10 dac10
    clear ec10 hc10 dc10
    have gec10 : ∀ d ∈ ([PyData.none] : List PyData), Gd 0 5000 d := (gC (gW gd_none) gN)
    have gdc10 := gTu 1 5011 gec10
    refine ⟨pw, pc10, _, _, rfl, rfl, hSw, sqc10, Nat.le_trans (show _ ≤ 1000 by first | omega | (simp <;> omega)) (by show 1000 ≤ sizeLine; decide), fun pc11 Hc11 ec11 cc11 => ?_⟩
    replace S0 := S0.trans (.same ec11 tp.lst)
    replace tp := tp.same ec11
    replace hd_ := hd_.imp fun _ q => ec11 _ _ q
    replace daw := aS ec11 daw
    replace dpl := dS ec11 dpl
    replace dpc5 := dS ec11 dpc5
    replace dpc9 := dS ec11 dpc9
    replace dac10 := aS ec11 dac10
    have sqc11 : SqT K Hc11 pc11 (xs ++ [V.non]) := cc11
    have dac11 : DeepAll K (hid Hc11 t₁ D) (xs ++ [V.non]) (((ws.map dWk)) ++ [PyData.none]) := DeepAll.app daw dac10
    have dpc11 : Deep K (hid Hc11 t₁ D) (.ref pc11) (.tuple (((ws.map dWk)) ++ [PyData.none])) := .tup (hd_tst (K := K) tp.lst nD hd_ _ _ cc11) dac11
    clear ec11
    have gec11 : ∀ d ∈ (((ws.map dWk)) ++ [PyData.none] : List PyData), Gd 2 31000 d := (gd_app (gd_wide (by decide) (by decide) gew) (gd_wide (by decide) (by decide) gec10))
    have gdc11 : Gd 3 651071 (.tuple (((ws.map dWk)) ++ [PyData.none])) := Gd.tup (m := 21) gec11 (by first | omega | (simp <;> omega)) (by decide)
    refine ⟨_, rfl, (by show 2 ≤ sizeLine; decide), fun pc12 gc12 => ?_⟩
    obtain ⟨ec12, hc12, dc12⟩ := nwO (o := (.tup [V.ref pc11, V.ref pl])) gc12 tp.lst hd_
    generalize upd Hc11 pc12 (.tup [V.ref pc11, V.ref pl]) = Hc12 at ec12 hc12 dc12 ⊢
    replace S0 := S0.trans (.same ec12 tp.lst)
    replace tp := tp.same ec12
    replace hd_ := hd_.imp fun _ q => ec12 _ _ q
    replace dpl := dS ec12 dpl
    replace dpc5 := dS ec12 dpc5
    replace dpc9 := dS ec12 dpc9
    replace dpc11 := dS ec12 dpc11
    have sqc12 := SqT.of (K := K) hc12
    have dac12 : DeepAll K (hid Hc12 t₁ D) [V.ref pc11, V.ref pl] [PyData.tuple (((ws.map dWk)) ++ [PyData.none]), PyData.tuple (es.map dLnB)] := (.cons dpc11 (.cons dpl .nil))
    have dpc12 := dpT dc12 dac12
    clear ec12 hc12 dc12
    have gec12 : ∀ d ∈ ([PyData.tuple (((ws.map dWk)) ++ [PyData.none]), PyData.tuple (es.map dLnB)] : List PyData), Gd 3 651071 d := (gC (gW gdc11) (gC (gW gdl) gN))
    have gdc12 := gTu 2 1302156 gec12
    refine ⟨(by show 3 ≤ sizeLine; decide), fun pc13 gc13 => ?_⟩
    obtain ⟨ec13, hc13, dc13⟩ := nwO (o := (.lst [V.ref pc5, V.ref pc9, V.ref pc12])) gc13 tp.lst hd_
    generalize upd Hc12 pc13 (.lst [V.ref pc5, V.ref pc9, V.ref pc12]) = Hc13 at ec13 hc13 dc13 ⊢
    have nc13 := nwN gc13 tp.lst
    replace S0 := S0.trans (.same ec13 tp.lst)
    replace tp := tp.same ec13
    replace hd_ := hd_.imp fun _ q => ec13 _ _ q
    replace dpc5 := dS ec13 dpc5
    replace dpc9 := dS ec13 dpc9
    replace dpc12 := dS ec13 dpc12
    have lsc13 := hc13
    have dac13 : DeepAll K (hid Hc13 t₁ D) [V.ref pc5, V.ref pc9, V.ref pc12] [PyData.tuple [PyData.tuple (List.replicate 21 (PyData.tuple [PyData.int (0), PyData.int (1), PyData.tuple [PyData.int (1), PyData.int (1)]])), PyData.tuple (es.map dLnB)], PyData.tuple [PyData.tuple (ws.map dWk), PyData.tuple (List.replicate 41 (PyData.tuple [PyData.int (0), PyData.int (1)]))], PyData.tuple [PyData.tuple (((ws.map dWk)) ++ [PyData.none]), PyData.tuple (es.map dLnB)]] := (.cons dpc5 (.cons dpc9 (.cons dpc12 .nil)))
    have dpc13 := dpL dc13 dac13
    clear ec13 hc13 dc13
    have gec13 : ∀ d ∈ ([PyData.tuple [PyData.tuple (List.replicate 21 (PyData.tuple [PyData.int (0), PyData.int (1), PyData.tuple [PyData.int (1), PyData.int (1)]])), PyData.tuple (es.map dLnB)], PyData.tuple [PyData.tuple (ws.map dWk), PyData.tuple (List.replicate 41 (PyData.tuple [PyData.int (0), PyData.int (1)]))], PyData.tuple [PyData.tuple (((ws.map dWk)) ++ [PyData.none]), PyData.tuple (es.map dLnB)]] : List PyData), Gd 4 1302156 d := (gC (gW gdc5) (gC (gW gdc9) (gC (gW gdc12) gN)))
    have gdc13 := gLs 3 3906485 gec13
    refine ⟨_, rfl, t₁, s₁, 3, rfl, tp, by decide, by decide, fun rc14 zc14 ac14 bc14 Tc14 => ?_⟩
    have Sc14 := Step.up (ys := zc14) tp.lst.choose_spec
    replace S0 := S0.trans Sc14
    replace hd_ := hd_.imp fun _ q => Sc14.keep _ _ nD q
    replace lsc13 := Sc14.keep _ _ nc13 lsc13
    replace dac13 := aP Sc14 dac13
    replace tp := Tc14
    clear Tc14 Sc14
    generalize upd Hc13 t₁ (.lst zc14) = Hc14 at S0 tp hd_ lsc13 dac13 ⊢
    obtain ⟨vc14, wc14, atc14, mec14, dvc14⟩ := DeepAll.pick dac13 ac14 bc14
    refine ⟨pc13, _, _, vc14, rfl, rfl, SqL.of lsc13, atc14, ?_⟩
    exact k (vc14) (wc14) _ S0 tp dvc14 ((gec13 _ mec14).mono (by decide) (by decide))
  refine ⟨fun σ H' => σ = [some (.ref t₁), some (.ref p), some (.ref pw), some (.ref pl), some (.int ra1), none, none, none, none, none, none, none] ∧ Step t₁ Ha1 H' ∧ Tape H' t₁ s₁, ?_, ?_⟩
  · refine ⟨_, rfl, _, _, rfl, rfl, _, rfl, ite2 (fun _ => ?_) (fun _ => iteF ⟨rfl, ⟨fun _ _ _ q => q, tp.lst, tp.lst⟩, tp⟩)⟩
    have Sz : Step t₁ Ha1 Ha1 := ⟨fun _ _ _ q => q, tp.lst, tp.lst⟩
    refine ⟨_, rfl, (by show 0 ≤ sizeLine; decide), fun pd1 gd1 => ?_⟩
    obtain ⟨ed1, hd1, dd1⟩ := nwO (o := (.tup [])) gd1 tp.lst hd_
    generalize upd Ha1 pd1 (.tup []) = Hd1 at ed1 hd1 dd1 ⊢
    replace S0 := S0.trans (.same ed1 tp.lst)
    replace Sz := Sz.trans (Step.same ed1 tp.lst)
    replace tp := tp.same ed1
    replace hd_ := hd_.imp fun _ q => ed1 _ _ q
    replace hSw := tS ed1 hSw
    replace alw := alw.mono fun _ _ q => q.mono (Tst.same (K := K) ed1)
    replace daw := aS ed1 daw
    replace dpw := dS ed1 dpw
    replace dpl := dS ed1 dpl
    have sqd1 := SqT.of (K := K) hd1
    have dad1 : DeepAll K (hid Hd1 t₁ D) [] [] := .nil
    have dpd1 := dpT dd1 dad1
    clear ed1 hd1 dd1
    have ged1 : ∀ d ∈ ([] : List PyData), Gd 0 0 d := gN
    have gdd1 := gTu 0 8 ged1
    refine ⟨.tuple (ws.map dWk), .tuple [], dpw.same hd_full, dpd1.same hd_full, gdw.lay, rfl, Nat.le_trans gdw.sh.dp (by decide), _, rfl, ?_⟩
    by_cases e0 : ws = []
    · exact iteB0 (by subst e0; rfl) ⟨rfl, Sz, tp⟩
    have p0 : 0 < ws.length := List.length_pos_iff.mpr e0
    refine iteB1 (by rw [eqv_cons e0]; rfl) ?_
    refine ⟨_, rfl, _, rfl, pw, _, rfl, .inr hSw, t₁, s₁, _, rfl, tp, by omega, by omega, fun rd2 zd2 ad2 bd2 Td2 => ?_⟩
    have Sd2 := Step.up (ys := zd2) tp.lst.choose_spec
    replace S0 := S0.trans Sd2
    replace hd_ := hd_.imp fun _ q => Sd2.keep _ _ nD q
    replace hSw := tP Sd2 hSw
    replace alw := alw.mono fun _ _ q => q.mono (Tst.step (K := K) Sd2)
    replace daw := aP Sd2 daw
    replace dpl := dP Sd2 dpl
    replace tp := Td2
    clear Td2 Sd2
    generalize upd Hd1 t₁ (.lst zd2) = Hd2 at S0 tp hd_ hSw alw daw dpl ⊢
    obtain ⟨at_, rfl⟩ := Int.eq_ofNat_of_zero_le ad2
    obtain ⟨xw, hxw⟩ : ∃ x, xs[at_]? = some x := ⟨_, List.getElem?_eq_getElem (by omega)⟩
    refine ⟨_, rfl, _, rfl, _, rfl, pw, _, rfl, hSw, fun pd3 Hd3 ed3 cd3 => ?_⟩
    replace S0 := S0.trans (.same ed3 tp.lst)
    replace tp := tp.same ed3
    replace hd_ := hd_.imp fun _ q => ed3 _ _ q
    replace hSw := tS ed3 hSw
    replace alw := alw.mono fun _ _ q => q.mono (Tst.same (K := K) ed3)
    replace daw := aS ed3 daw
    replace dpl := dS ed3 dpl
    rw [show (some ((at_ : Nat)) : Option Int) = some ((at_ : Nat) : Int) from rfl, cut_any (n := at_)] at cd3
    have sqd3 : SqT K Hd3 pd3 (xs.take at_) := cd3
    have dad3 : DeepAll K (hid Hd3 t₁ D) (xs.take at_) (((ws.map dWk)).take at_) := DeepAll.takeN at_ daw
    have dpd3 : Deep K (hid Hd3 t₁ D) (.ref pd3) (.tuple (((ws.map dWk)).take at_)) := .tup (hd_tst (K := K) tp.lst nD hd_ _ _ cd3) dad3
    clear ed3
    have ged3 : ∀ d ∈ (((ws.map dWk)).take at_ : List PyData), Gd 2 31000 d := gd_take at_ gew
    have gdd3 : Gd 3 620068 (.tuple (((ws.map dWk)).take at_)) := Gd.tup (m := 20) ged3 (by first | omega | (simp <;> omega)) (by decide)
    refine ⟨_, rfl, _, rfl, _, rfl, pw, _, _, _, rfl, rfl, hSw, atI_nat hxw, ?_⟩
    obtain ⟨wd4, hwd4, wvd4⟩ := alw.at hxw
    refine ⟨t₁, s₁, D, xw, wd4, rfl, tp, nD, hd_, wvd4, okw _ (List.mem_of_getElem? hwd4), fun ud4 dd4 Hd4 Sd4 Td4 Dd4 Gd4 => ?_⟩
    clear wvd4
    replace hd_ := hd_.imp fun _ q => Sd4.keep _ _ nD q
    replace hSw := tP Sd4 hSw
    replace alw := alw.mono fun _ _ q => q.mono (Tst.step (K := K) Sd4)
    replace daw := aP Sd4 daw
    replace dpl := dP Sd4 dpl
    replace sqd3 := tP Sd4 sqd3
    replace dad3 := aP Sd4 dad3
    replace S0 := S0.trans Sd4
    replace tp := Td4
    clear Td4 Sd4
    refine ⟨(by show 1 ≤ sizeLine; decide), fun pd5 gd5 => ?_⟩
    obtain ⟨ed5, hd5, dd5⟩ := nwO (o := (.tup [ud4])) gd5 tp.lst hd_
    generalize upd Hd4 pd5 (.tup [ud4]) = Hd5 at ed5 hd5 dd5 ⊢
    replace S0 := S0.trans (.same ed5 tp.lst)
    replace tp := tp.same ed5
    replace hd_ := hd_.imp fun _ q => ed5 _ _ q
    replace hSw := tS ed5 hSw
    replace daw := aS ed5 daw
    replace dpl := dS ed5 dpl
    replace sqd3 := tS ed5 sqd3
    replace dad3 := aS ed5 dad3
    replace Dd4 := dS ed5 Dd4
    have sqd5 := SqT.of (K := K) hd5
    have dad5 : DeepAll K (hid Hd5 t₁ D) [ud4] [dd4] := (.cons Dd4 .nil)
    have dpd5 := dpT dd5 dad5
    clear ed5 hd5 dd5
    have ged5 : ∀ d ∈ ([dd4] : List PyData), Gd 2 41000 d := (gC (gW Gd4) gN)
    have gdd5 := gTu 1 41011 ged5
    refine ⟨pd3, pd5, _, _, rfl, rfl, sqd3, sqd5, Nat.le_trans (show _ ≤ 1000 by first | omega | (simp <;> omega)) (by show 1000 ≤ sizeLine; decide), fun pd6 Hd6 ed6 cd6 => ?_⟩
    replace S0 := S0.trans (.same ed6 tp.lst)
    replace tp := tp.same ed6
    replace hd_ := hd_.imp fun _ q => ed6 _ _ q
    replace hSw := tS ed6 hSw
    replace daw := aS ed6 daw
    replace dpl := dS ed6 dpl
    replace dad3 := aS ed6 dad3
    replace dad5 := aS ed6 dad5
    have sqd6 : SqT K Hd6 pd6 ((xs.take at_) ++ [ud4]) := cd6
    have dad6 : DeepAll K (hid Hd6 t₁ D) ((xs.take at_) ++ [ud4]) ((((ws.map dWk)).take at_) ++ [dd4]) := DeepAll.app dad3 dad5
    have dpd6 : Deep K (hid Hd6 t₁ D) (.ref pd6) (.tuple ((((ws.map dWk)).take at_) ++ [dd4])) := .tup (hd_tst (K := K) tp.lst nD hd_ _ _ cd6) dad6
    clear ed6
    have ged6 : ∀ d ∈ ((((ws.map dWk)).take at_) ++ [dd4] : List PyData), Gd 2 41000 d := (gd_app (gd_wide (by decide) (by decide) ged3) (gd_wide (by decide) (by decide) ged5))
    have gdd6 : Gd 3 861071 (.tuple ((((ws.map dWk)).take at_) ++ [dd4])) := Gd.tup (m := 21) ged6 (by first | omega | (simp <;> omega)) (by decide)
    refine ⟨_, rfl, _, rfl, _, _, rfl, rfl, _, rfl, pw, _, rfl, hSw, fun pd7 Hd7 ed7 cd7 => ?_⟩
    replace S0 := S0.trans (.same ed7 tp.lst)
    replace tp := tp.same ed7
    replace hd_ := hd_.imp fun _ q => ed7 _ _ q
    replace daw := aS ed7 daw
    replace dpl := dS ed7 dpl
    replace sqd6 := tS ed7 sqd6
    replace dad6 := aS ed7 dad6
    rw [show (some ((at_ : Nat) + 1) : Option Int) = some ((at_ + 1 : Nat) : Int) from rfl, cut_from (n := at_ + 1) (by first | omega | (simp <;> omega))] at cd7
    have sqd7 : SqT K Hd7 pd7 (xs.drop (at_ + 1)) := cd7
    have dad7 : DeepAll K (hid Hd7 t₁ D) (xs.drop (at_ + 1)) (((ws.map dWk)).drop (at_ + 1)) := DeepAll.dropN (at_ + 1) daw
    have dpd7 : Deep K (hid Hd7 t₁ D) (.ref pd7) (.tuple (((ws.map dWk)).drop (at_ + 1))) := .tup (hd_tst (K := K) tp.lst nD hd_ _ _ cd7) dad7
    clear ed7
    have ged7 : ∀ d ∈ (((ws.map dWk)).drop (at_ + 1) : List PyData), Gd 2 31000 d := gd_drop (at_ + 1) gew
    have gdd7 : Gd 3 620068 (.tuple (((ws.map dWk)).drop (at_ + 1))) := Gd.tup (m := 20) ged7 (by first | omega | (simp <;> omega)) (by decide)
    refine ⟨pd6, pd7, _, _, rfl, rfl, sqd6, sqd7, Nat.le_trans (show _ ≤ 1000 by first | omega | (simp <;> omega)) (by show 1000 ≤ sizeLine; decide), fun pd8 Hd8 ed8 cd8 => ?_⟩
    replace S0 := S0.trans (.same ed8 tp.lst)
    replace tp := tp.same ed8
    replace hd_ := hd_.imp fun _ q => ed8 _ _ q
    replace dpl := dS ed8 dpl
    replace dad6 := aS ed8 dad6
    replace dad7 := aS ed8 dad7
    have sqd8 : SqT K Hd8 pd8 (((xs.take at_) ++ [ud4]) ++ (xs.drop (at_ + 1))) := cd8
    have dad8 : DeepAll K (hid Hd8 t₁ D) (((xs.take at_) ++ [ud4]) ++ (xs.drop (at_ + 1))) (((((ws.map dWk)).take at_) ++ [dd4]) ++ (((ws.map dWk)).drop (at_ + 1))) := DeepAll.app dad6 dad7
    have dpd8 : Deep K (hid Hd8 t₁ D) (.ref pd8) (.tuple (((((ws.map dWk)).take at_) ++ [dd4]) ++ (((ws.map dWk)).drop (at_ + 1)))) := .tup (hd_tst (K := K) tp.lst nD hd_ _ _ cd8) dad8
    clear ed8
    have ged8 : ∀ d ∈ (((((ws.map dWk)).take at_) ++ [dd4]) ++ (((ws.map dWk)).drop (at_ + 1)) : List PyData), Gd 2 41000 d := (gd_app (gd_wide (by decide) (by decide) ged6) (gd_wide (by decide) (by decide) ged7))
    have gdd8 : Gd 3 1681131 (.tuple (((((ws.map dWk)).take at_) ++ [dd4]) ++ (((ws.map dWk)).drop (at_ + 1)))) := Gd.tup (m := 41) ged8 (by first | omega | (simp <;> omega)) (by decide)
    refine ⟨_, rfl, (by show 2 ≤ sizeLine; decide), fun pd9 gd9 => ?_⟩
    obtain ⟨ed9, hd9, dd9⟩ := nwO (o := (.tup [V.ref pd8, V.ref pl])) gd9 tp.lst hd_
    generalize upd Hd8 pd9 (.tup [V.ref pd8, V.ref pl]) = Hd9 at ed9 hd9 dd9 ⊢
    replace S0 := S0.trans (.same ed9 tp.lst)
    replace tp := tp.same ed9
    replace hd_ := hd_.imp fun _ q => ed9 _ _ q
    replace dpl := dS ed9 dpl
    replace dpd8 := dS ed9 dpd8
    have sqd9 := SqT.of (K := K) hd9
    have dad9 : DeepAll K (hid Hd9 t₁ D) [V.ref pd8, V.ref pl] [PyData.tuple (((((ws.map dWk)).take at_) ++ [dd4]) ++ (((ws.map dWk)).drop (at_ + 1))), PyData.tuple (es.map dLnB)] := (.cons dpd8 (.cons dpl .nil))
    have dpd9 := dpT dd9 dad9
    clear ed9 hd9 dd9
    have ged9 : ∀ d ∈ ([PyData.tuple (((((ws.map dWk)).take at_) ++ [dd4]) ++ (((ws.map dWk)).drop (at_ + 1))), PyData.tuple (es.map dLnB)] : List PyData), Gd 3 1681131 d := (gC (gW gdd8) (gC (gW gdl) gN))
    have gdd9 := gTu 2 3362276 ged9
    exact k (V.ref pd9) (PyData.tuple [PyData.tuple (((((ws.map dWk)).take at_) ++ [dd4]) ++ (((ws.map dWk)).drop (at_ + 1))), PyData.tuple (es.map dLnB)]) _ S0 tp dpd9 (gdd9.mono (by decide) (by decide))
  · rintro σ H9 ⟨rfl, Sc, Tc⟩
    replace hd_ := hd_.imp fun _ q => Sc.keep _ _ nD q
    replace hS := tP Sc hS
    replace hSw := tP Sc hSw
    replace alw := alw.mono fun _ _ q => q.mono (Tst.step (K := K) Sc)
    replace hSl := tP Sc hSl
    replace all_ := all_.mono fun _ _ q => q.mono (Tst.step (K := K) Sc)
    replace daw := aP Sc daw
    replace dpw := dP Sc dpw
    replace dal := aP Sc dal
    replace dpl := dP Sc dpl
    replace das := aP Sc das
    replace dps := dP Sc dps
    replace S0 := S0.trans Sc
    replace tp := Tc
    clear Tc Sc
    refine ⟨_, rfl, _, rfl, pl, _, rfl, .inr hSl, _, _, rfl, rfl, t₁, s₁, _, rfl, tp, by omega, by omega, fun rf1 zf1 af1 bf1 Tf1 => ?_⟩
    have Sf1 := Step.up (ys := zf1) tp.lst.choose_spec
    replace S0 := S0.trans Sf1
    replace hd_ := hd_.imp fun _ q => Sf1.keep _ _ nD q
    replace hS := tP Sf1 hS
    replace hSw := tP Sf1 hSw
    replace alw := alw.mono fun _ _ q => q.mono (Tst.step (K := K) Sf1)
    replace hSl := tP Sf1 hSl
    replace all_ := all_.mono fun _ _ q => q.mono (Tst.step (K := K) Sf1)
    replace daw := aP Sf1 daw
    replace dpw := dP Sf1 dpw
    replace dal := aP Sf1 dal
    replace dpl := dP Sf1 dpl
    replace das := aP Sf1 das
    replace dps := dP Sf1 dps
    replace tp := Tf1
    clear Tf1 Sf1
    generalize upd H9 t₁ (.lst zf1) = Hf1 at S0 tp hd_ hS hSw alw hSl all_ daw dpw dal dpl das dps ⊢
    obtain ⟨at_, rfl⟩ := Int.eq_ofNat_of_zero_le af1
    refine ⟨_, rfl, _, _, rfl, rfl, _, rfl, ite2 (fun _ => iteT ?_) (fun _ => ?_)⟩
    · refine ⟨_, rfl, pw, _, rfl, .inr hSw, _, rfl, (by show 2 ≤ sizeLine; decide), fun pg1 gg1 => ?_⟩
      obtain ⟨eg1, hg1, dg1⟩ := nwO (o := (.tup [V.int (0), V.int ((xs.length : Int))])) gg1 tp.lst hd_
      generalize upd Hf1 pg1 (.tup [V.int (0), V.int ((xs.length : Int))]) = Hg1 at eg1 hg1 dg1 ⊢
      replace S0 := S0.trans (.same eg1 tp.lst)
      replace tp := tp.same eg1
      replace hd_ := hd_.imp fun _ q => eg1 _ _ q
      replace hSl := tS eg1 hSl
      replace dpw := dS eg1 dpw
      replace dal := aS eg1 dal
      have sqg1 := SqT.of (K := K) hg1
      have dag1 : DeepAll K (hid Hg1 t₁ D) [V.int (0), V.int ((xs.length : Int))] [PyData.int (0), PyData.int ((xs.length : Int))] := (.cons (.int _) (.cons (.int _) .nil))
      have dpg1 := dpT dg1 dag1
      clear eg1 hg1 dg1
      have geg1 : ∀ d ∈ ([PyData.int (0), PyData.int ((xs.length : Int))] : List PyData), Gd 0 5000 d := (gC (gW (gd_int (by decide))) (gC (gW (gd_int (by omega))) gN))
      have gdg1 := gTu 2 10014 geg1
      refine ⟨(by show 2 ≤ sizeLine; decide), fun pg2 gg2 => ?_⟩
      obtain ⟨eg2, hg2, dg2⟩ := nwO (o := (.tup [V.int (0), V.int (0)])) gg2 tp.lst hd_
      generalize upd Hg1 pg2 (.tup [V.int (0), V.int (0)]) = Hg2 at eg2 hg2 dg2 ⊢
      replace S0 := S0.trans (.same eg2 tp.lst)
      replace tp := tp.same eg2
      replace hd_ := hd_.imp fun _ q => eg2 _ _ q
      replace hSl := tS eg2 hSl
      replace dpw := dS eg2 dpw
      replace dal := aS eg2 dal
      replace dpg1 := dS eg2 dpg1
      have sqg2 := SqT.of (K := K) hg2
      have dag2 : DeepAll K (hid Hg2 t₁ D) [V.int (0), V.int (0)] [PyData.int (0), PyData.int (0)] := (.cons (.int _) (.cons (.int _) .nil))
      have dpg2 := dpT dg2 dag2
      clear eg2 hg2 dg2
      have geg2 : ∀ d ∈ ([PyData.int (0), PyData.int (0)] : List PyData), Gd 0 5000 d := (gC (gW (gd_int (by decide))) (gC (gW (gd_int (by decide))) gN))
      have gdg2 := gTu 2 10014 geg2
      refine ⟨_, rfl, (by show 2 ≤ sizeLine; decide), fun pg3 gg3 => ?_⟩
      obtain ⟨eg3, hg3, dg3⟩ := nwO (o := (.tup [V.int (-1), V.int (0)])) gg3 tp.lst hd_
      generalize upd Hg2 pg3 (.tup [V.int (-1), V.int (0)]) = Hg3 at eg3 hg3 dg3 ⊢
      replace S0 := S0.trans (.same eg3 tp.lst)
      replace tp := tp.same eg3
      replace hd_ := hd_.imp fun _ q => eg3 _ _ q
      replace hSl := tS eg3 hSl
      replace dpw := dS eg3 dpw
      replace dal := aS eg3 dal
      replace dpg1 := dS eg3 dpg1
      replace dpg2 := dS eg3 dpg2
      have sqg3 := SqT.of (K := K) hg3
      have dag3 : DeepAll K (hid Hg3 t₁ D) [V.int (-1), V.int (0)] [PyData.int (-1), PyData.int (0)] := (.cons (.int _) (.cons (.int _) .nil))
      have dpg3 := dpT dg3 dag3
      clear eg3 hg3 dg3
      have geg3 : ∀ d ∈ ([PyData.int (-1), PyData.int (0)] : List PyData), Gd 0 5000 d := (gC (gW (gd_int (by decide))) (gC (gW (gd_int (by decide))) gN))
      have gdg3 := gTu 2 10014 geg3
      refine ⟨(by show 2 ≤ sizeLine; decide), fun pg4 gg4 => ?_⟩
      obtain ⟨eg4, hg4, dg4⟩ := nwO (o := (.tup [V.bl true, V.int (0)])) gg4 tp.lst hd_
      generalize upd Hg3 pg4 (.tup [V.bl true, V.int (0)]) = Hg4 at eg4 hg4 dg4 ⊢
      replace S0 := S0.trans (.same eg4 tp.lst)
      replace tp := tp.same eg4
      replace hd_ := hd_.imp fun _ q => eg4 _ _ q
      replace hSl := tS eg4 hSl
      replace dpw := dS eg4 dpw
      replace dal := aS eg4 dal
      replace dpg1 := dS eg4 dpg1
      replace dpg2 := dS eg4 dpg2
      replace dpg3 := dS eg4 dpg3
      have sqg4 := SqT.of (K := K) hg4
      have dag4 : DeepAll K (hid Hg4 t₁ D) [V.bl true, V.int (0)] [PyData.bool true, PyData.int (0)] := (.cons (.bl _) (.cons (.int _) .nil))
      have dpg4 := dpT dg4 dag4
      clear eg4 hg4 dg4
      have geg4 : ∀ d ∈ ([PyData.bool true, PyData.int (0)] : List PyData), Gd 0 5000 d := (gC (gW (gd_bool true)) (gC (gW (gd_int (by decide))) gN))
      have gdg4 := gTu 2 10014 geg4
      refine ⟨(by show 3 ≤ sizeLine; decide), fun pg5 gg5 => ?_⟩
      obtain ⟨eg5, hg5, dg5⟩ := nwO (o := (.tup [V.int (0), V.int (1), V.int (2)])) gg5 tp.lst hd_
      generalize upd Hg4 pg5 (.tup [V.int (0), V.int (1), V.int (2)]) = Hg5 at eg5 hg5 dg5 ⊢
      replace S0 := S0.trans (.same eg5 tp.lst)
      replace tp := tp.same eg5
      replace hd_ := hd_.imp fun _ q => eg5 _ _ q
      replace hSl := tS eg5 hSl
      replace dpw := dS eg5 dpw
      replace dal := aS eg5 dal
      replace dpg1 := dS eg5 dpg1
      replace dpg2 := dS eg5 dpg2
      replace dpg3 := dS eg5 dpg3
      replace dpg4 := dS eg5 dpg4
      have sqg5 := SqT.of (K := K) hg5
      have dag5 : DeepAll K (hid Hg5 t₁ D) [V.int (0), V.int (1), V.int (2)] [PyData.int (0), PyData.int (1), PyData.int (2)] := (.cons (.int _) (.cons (.int _) (.cons (.int _) .nil)))
      have dpg5 := dpT dg5 dag5
      clear eg5 hg5 dg5
      have geg5 : ∀ d ∈ ([PyData.int (0), PyData.int (1), PyData.int (2)] : List PyData), Gd 0 5000 d := (gC (gW (gd_int (by decide))) (gC (gW (gd_int (by decide))) (gC (gW (gd_int (by decide))) gN)))
      have gdg5 := gTu 3 15017 geg5
      refine ⟨(by show 2 ≤ sizeLine; decide), fun pg6 gg6 => ?_⟩
      obtain ⟨eg6, hg6, dg6⟩ := nwO (o := (.lst [V.int (0), V.int (1)])) gg6 tp.lst hd_
      generalize upd Hg5 pg6 (.lst [V.int (0), V.int (1)]) = Hg6 at eg6 hg6 dg6 ⊢
      have ng6 := nwN gg6 tp.lst
      replace S0 := S0.trans (.same eg6 tp.lst)
      replace tp := tp.same eg6
      replace hd_ := hd_.imp fun _ q => eg6 _ _ q
      replace hSl := tS eg6 hSl
      replace dpw := dS eg6 dpw
      replace dal := aS eg6 dal
      replace dpg1 := dS eg6 dpg1
      replace dpg2 := dS eg6 dpg2
      replace dpg3 := dS eg6 dpg3
      replace dpg4 := dS eg6 dpg4
      replace dpg5 := dS eg6 dpg5
      have lsg6 := hg6
      have dag6 : DeepAll K (hid Hg6 t₁ D) [V.int (0), V.int (1)] [PyData.int (0), PyData.int (1)] := (.cons (.int _) (.cons (.int _) .nil))
      have dpg6 := dpL dg6 dag6
      clear eg6 hg6 dg6
      have geg6 : ∀ d ∈ ([PyData.int (0), PyData.int (1)] : List PyData), Gd 0 5000 d := (gC (gW (gd_int (by decide))) (gC (gW (gd_int (by decide))) gN))
      have gdg6 := gLs 2 10014 geg6
      refine ⟨_, rfl, _, _, rfl, rfl, (by show 2 ≤ sizeLine; decide), fun pg7 gg7 => ?_⟩
      obtain ⟨eg7, hg7, dg7⟩ := nwO (o := (.tup [V.int ((xs.length : Int) - 1), V.int (0)])) gg7 tp.lst hd_
      generalize upd Hg6 pg7 (.tup [V.int ((xs.length : Int) - 1), V.int (0)]) = Hg7 at eg7 hg7 dg7 ⊢
      replace S0 := S0.trans (.same eg7 tp.lst)
      replace tp := tp.same eg7
      replace hd_ := hd_.imp fun _ q => eg7 _ _ q
      replace hSl := tS eg7 hSl
      replace dpw := dS eg7 dpw
      replace dal := aS eg7 dal
      replace dpg1 := dS eg7 dpg1
      replace dpg2 := dS eg7 dpg2
      replace dpg3 := dS eg7 dpg3
      replace dpg4 := dS eg7 dpg4
      replace dpg5 := dS eg7 dpg5
      replace dpg6 := dS eg7 dpg6
      have sqg7 := SqT.of (K := K) hg7
      have dag7 : DeepAll K (hid Hg7 t₁ D) [V.int ((xs.length : Int) - 1), V.int (0)] [PyData.int ((xs.length : Int) - 1), PyData.int (0)] := (.cons (.int _) (.cons (.int _) .nil))
      have dpg7 := dpT dg7 dag7
      clear eg7 hg7 dg7
      have geg7 : ∀ d ∈ ([PyData.int ((xs.length : Int) - 1), PyData.int (0)] : List PyData), Gd 0 5000 d := (gC (gW (gd_int (by omega))) (gC (gW (gd_int (by decide))) gN))
      have gdg7 := gTu 2 10014 geg7
      refine ⟨(by show 2 ≤ sizeLine; decide), fun pg8 gg8 => ?_⟩
      obtain ⟨eg8, hg8, dg8⟩ := nwO (o := (.tup [V.int (0), V.str (Str.ofString "0")])) gg8 tp.lst hd_
      generalize upd Hg7 pg8 (.tup [V.int (0), V.str (Str.ofString "0")]) = Hg8 at eg8 hg8 dg8 ⊢
      replace S0 := S0.trans (.same eg8 tp.lst)
      replace tp := tp.same eg8
      replace hd_ := hd_.imp fun _ q => eg8 _ _ q
      replace hSl := tS eg8 hSl
      replace dpw := dS eg8 dpw
      replace dal := aS eg8 dal
      replace dpg1 := dS eg8 dpg1
      replace dpg2 := dS eg8 dpg2
      replace dpg3 := dS eg8 dpg3
      replace dpg4 := dS eg8 dpg4
      replace dpg5 := dS eg8 dpg5
      replace dpg6 := dS eg8 dpg6
      replace dpg7 := dS eg8 dpg7
      have sqg8 := SqT.of (K := K) hg8
      have dag8 : DeepAll K (hid Hg8 t₁ D) [V.int (0), V.str (Str.ofString "0")] [PyData.int (0), PyData.str (Str.ofString "0")] := (.cons (.int _) (.cons (.str _) .nil))
      have dpg8 := dpT dg8 dag8
      clear eg8 hg8 dg8
      have geg8 : ∀ d ∈ ([PyData.int (0), PyData.str (Str.ofString "0")] : List PyData), Gd 0 5000 d := (gC (gW (gd_int (by decide))) (gC (gW (gd_str (by decide +kernel) (by decide +kernel) (by decide +kernel))) gN))
      have gdg8 := gTu 2 10014 geg8
      refine ⟨(by show 9 ≤ sizeLine; decide), fun pg9 gg9 => ?_⟩
      obtain ⟨eg9, hg9, dg9⟩ := nwO (o := (.lst [V.ref pg1, V.ref pg2, V.ref pg3, V.ref pg4, V.ref pg5, V.ref pg6, V.non, V.ref pg7, V.ref pg8])) gg9 tp.lst hd_
      generalize upd Hg8 pg9 (.lst [V.ref pg1, V.ref pg2, V.ref pg3, V.ref pg4, V.ref pg5, V.ref pg6, V.non, V.ref pg7, V.ref pg8]) = Hg9 at eg9 hg9 dg9 ⊢
      have ng9 := nwN gg9 tp.lst
      replace S0 := S0.trans (.same eg9 tp.lst)
      replace tp := tp.same eg9
      replace hd_ := hd_.imp fun _ q => eg9 _ _ q
      replace hSl := tS eg9 hSl
      replace dpw := dS eg9 dpw
      replace dal := aS eg9 dal
      replace dpg1 := dS eg9 dpg1
      replace dpg2 := dS eg9 dpg2
      replace dpg3 := dS eg9 dpg3
      replace dpg4 := dS eg9 dpg4
      replace dpg5 := dS eg9 dpg5
      replace dpg6 := dS eg9 dpg6
      replace dpg7 := dS eg9 dpg7
      replace dpg8 := dS eg9 dpg8
      have lsg9 := hg9
      have dag9 : DeepAll K (hid Hg9 t₁ D) [V.ref pg1, V.ref pg2, V.ref pg3, V.ref pg4, V.ref pg5, V.ref pg6, V.non, V.ref pg7, V.ref pg8] [PyData.tuple [PyData.int (0), PyData.int ((xs.length : Int))], PyData.tuple [PyData.int (0), PyData.int (0)], PyData.tuple [PyData.int (-1), PyData.int (0)], PyData.tuple [PyData.bool true, PyData.int (0)], PyData.tuple [PyData.int (0), PyData.int (1), PyData.int (2)], PyData.list [PyData.int (0), PyData.int (1)], PyData.none, PyData.tuple [PyData.int ((xs.length : Int) - 1), PyData.int (0)], PyData.tuple [PyData.int (0), PyData.str (Str.ofString "0")]] := (.cons dpg1 (.cons dpg2 (.cons dpg3 (.cons dpg4 (.cons dpg5 (.cons dpg6 (.cons .non (.cons dpg7 (.cons dpg8 .nil)))))))))
      have dpg9 := dpL dg9 dag9
      clear eg9 hg9 dg9
      have geg9 : ∀ d ∈ ([PyData.tuple [PyData.int (0), PyData.int ((xs.length : Int))], PyData.tuple [PyData.int (0), PyData.int (0)], PyData.tuple [PyData.int (-1), PyData.int (0)], PyData.tuple [PyData.bool true, PyData.int (0)], PyData.tuple [PyData.int (0), PyData.int (1), PyData.int (2)], PyData.list [PyData.int (0), PyData.int (1)], PyData.none, PyData.tuple [PyData.int ((xs.length : Int) - 1), PyData.int (0)], PyData.tuple [PyData.int (0), PyData.str (Str.ofString "0")]] : List PyData), Gd 1 15017 d := (gC (gW gdg1) (gC (gW gdg2) (gC (gW gdg3) (gC (gW gdg4) (gC (gW gdg5) (gC (gW gdg6) (gC (gW gd_none) (gC (gW gdg7) (gC (gW gdg8) gN)))))))))
      have gdg9 := gLs 9 135188 geg9
      refine ⟨_, rfl, _, rfl, _, rfl, _, rfl, pl, _, rfl, hSl, fun pg10 Hg10 eg10 cg10 => ?_⟩
      replace S0 := S0.trans (.same eg10 tp.lst)
      replace tp := tp.same eg10
      replace hd_ := hd_.imp fun _ q => eg10 _ _ q
      replace hSl := tS eg10 hSl
      replace dpw := dS eg10 dpw
      replace dal := aS eg10 dal
      replace lsg9 := eg10 _ _ lsg9
      replace dag9 := aS eg10 dag9
      rw [show (some ((at_ : Nat)) : Option Int) = some ((at_ : Nat) : Int) from rfl, cut_any (n := at_)] at cg10
      have sqg10 : SqT K Hg10 pg10 (ys.take at_) := cg10
      have dag10 : DeepAll K (hid Hg10 t₁ D) (ys.take at_) (((es.map dLnB)).take at_) := DeepAll.takeN at_ dal
      have dpg10 : Deep K (hid Hg10 t₁ D) (.ref pg10) (.tuple (((es.map dLnB)).take at_)) := .tup (hd_tst (K := K) tp.lst nD hd_ _ _ cg10) dag10
      clear eg10
      have geg10 : ∀ d ∈ (((es.map dLnB)).take at_ : List PyData), Gd 1 12000 d := gd_take at_ gel
      have gdg10 : Gd 2 480128 (.tuple (((es.map dLnB)).take at_)) := Gd.tup (m := 40) geg10 (by first | omega | (simp <;> omega)) (by decide)
      refine ⟨_, rfl, _, rfl, t₁, s₁, 9, rfl, tp, by decide, by decide, fun rg11 zg11 ag11 bg11 Tg11 => ?_⟩
      have Sg11 := Step.up (ys := zg11) tp.lst.choose_spec
      replace S0 := S0.trans Sg11
      replace hd_ := hd_.imp fun _ q => Sg11.keep _ _ nD q
      replace hSl := tP Sg11 hSl
      replace dpw := dP Sg11 dpw
      replace dal := aP Sg11 dal
      replace lsg9 := Sg11.keep _ _ ng9 lsg9
      replace dag9 := aP Sg11 dag9
      replace sqg10 := tP Sg11 sqg10
      replace dag10 := aP Sg11 dag10
      replace tp := Tg11
      clear Tg11 Sg11
      generalize upd Hg10 t₁ (.lst zg11) = Hg11 at S0 tp hd_ hSl dpw dal lsg9 dag9 sqg10 dag10 ⊢
      obtain ⟨vg11, wg11, atg11, meg11, dvg11⟩ := DeepAll.pick dag9 ag11 bg11
      refine ⟨pg9, _, _, vg11, rfl, rfl, SqL.of lsg9, atg11, (by show 1 ≤ sizeLine; decide), fun pg12 gg12 => ?_⟩
      obtain ⟨eg12, hg12, dg12⟩ := nwO (o := (.tup [vg11])) gg12 tp.lst hd_
      generalize upd Hg11 pg12 (.tup [vg11]) = Hg12 at eg12 hg12 dg12 ⊢
      replace S0 := S0.trans (.same eg12 tp.lst)
      replace tp := tp.same eg12
      replace hd_ := hd_.imp fun _ q => eg12 _ _ q
      replace hSl := tS eg12 hSl
      replace dpw := dS eg12 dpw
      replace dal := aS eg12 dal
      replace sqg10 := tS eg12 sqg10
      replace dag10 := aS eg12 dag10
      replace dvg11 := dS eg12 dvg11
      have sqg12 := SqT.of (K := K) hg12
      have dag12 : DeepAll K (hid Hg12 t₁ D) [vg11] [wg11] := (.cons dvg11 .nil)
      have dpg12 := dpT dg12 dag12
      clear eg12 hg12 dg12
      have geg12 : ∀ d ∈ ([wg11] : List PyData), Gd 1 15017 d := (gC (gW (geg9 _ meg11)) gN)
      have gdg12 := gTu 1 15028 geg12
      refine ⟨pg10, pg12, _, _, rfl, rfl, sqg10, sqg12, Nat.le_trans (show _ ≤ 1000 by first | omega | (simp <;> omega)) (by show 1000 ≤ sizeLine; decide), fun pg13 Hg13 eg13 cg13 => ?_⟩
      replace S0 := S0.trans (.same eg13 tp.lst)
      replace tp := tp.same eg13
      replace hd_ := hd_.imp fun _ q => eg13 _ _ q
      replace hSl := tS eg13 hSl
      replace dpw := dS eg13 dpw
      replace dal := aS eg13 dal
      replace dag10 := aS eg13 dag10
      replace dag12 := aS eg13 dag12
      have sqg13 : SqT K Hg13 pg13 ((ys.take at_) ++ [vg11]) := cg13
      have dag13 : DeepAll K (hid Hg13 t₁ D) ((ys.take at_) ++ [vg11]) ((((es.map dLnB)).take at_) ++ [wg11]) := DeepAll.app dag10 dag12
      have dpg13 : Deep K (hid Hg13 t₁ D) (.ref pg13) (.tuple ((((es.map dLnB)).take at_) ++ [wg11])) := .tup (hd_tst (K := K) tp.lst nD hd_ _ _ cg13) dag13
      clear eg13
      have geg13 : ∀ d ∈ ((((es.map dLnB)).take at_) ++ [wg11] : List PyData), Gd 1 15017 d := (gd_app (gd_wide (by decide) (by decide) geg10) (gd_wide (by decide) (by decide) geg12))
      have gdg13 : Gd 2 615828 (.tuple ((((es.map dLnB)).take at_) ++ [wg11])) := Gd.tup (m := 41) geg13 (by first | omega | (simp <;> omega)) (by decide)
      refine ⟨_, rfl, _, rfl, _, rfl, pl, _, rfl, hSl, fun pg14 Hg14 eg14 cg14 => ?_⟩
      replace S0 := S0.trans (.same eg14 tp.lst)
      replace tp := tp.same eg14
      replace hd_ := hd_.imp fun _ q => eg14 _ _ q
      replace dpw := dS eg14 dpw
      replace dal := aS eg14 dal
      replace sqg13 := tS eg14 sqg13
      replace dag13 := aS eg14 dag13
      rw [show (some ((at_ : Nat)) : Option Int) = some ((at_ : Nat) : Int) from rfl, cut_from (n := at_) (by first | omega | (simp <;> omega))] at cg14
      have sqg14 : SqT K Hg14 pg14 (ys.drop at_) := cg14
      have dag14 : DeepAll K (hid Hg14 t₁ D) (ys.drop at_) (((es.map dLnB)).drop at_) := DeepAll.dropN at_ dal
      have dpg14 : Deep K (hid Hg14 t₁ D) (.ref pg14) (.tuple (((es.map dLnB)).drop at_)) := .tup (hd_tst (K := K) tp.lst nD hd_ _ _ cg14) dag14
      clear eg14
      have geg14 : ∀ d ∈ (((es.map dLnB)).drop at_ : List PyData), Gd 1 12000 d := gd_drop at_ gel
      have gdg14 : Gd 2 480128 (.tuple (((es.map dLnB)).drop at_)) := Gd.tup (m := 40) geg14 (by first | omega | (simp <;> omega)) (by decide)
      refine ⟨pg13, pg14, _, _, rfl, rfl, sqg13, sqg14, Nat.le_trans (show _ ≤ 1000 by first | omega | (simp <;> omega)) (by show 1000 ≤ sizeLine; decide), fun pg15 Hg15 eg15 cg15 => ?_⟩
      replace S0 := S0.trans (.same eg15 tp.lst)
      replace tp := tp.same eg15
      replace hd_ := hd_.imp fun _ q => eg15 _ _ q
      replace dpw := dS eg15 dpw
      replace dag13 := aS eg15 dag13
      replace dag14 := aS eg15 dag14
      have sqg15 : SqT K Hg15 pg15 (((ys.take at_) ++ [vg11]) ++ (ys.drop at_)) := cg15
      have dag15 : DeepAll K (hid Hg15 t₁ D) (((ys.take at_) ++ [vg11]) ++ (ys.drop at_)) (((((es.map dLnB)).take at_) ++ [wg11]) ++ (((es.map dLnB)).drop at_)) := DeepAll.app dag13 dag14
      have dpg15 : Deep K (hid Hg15 t₁ D) (.ref pg15) (.tuple (((((es.map dLnB)).take at_) ++ [wg11]) ++ (((es.map dLnB)).drop at_))) := .tup (hd_tst (K := K) tp.lst nD hd_ _ _ cg15) dag15
      clear eg15
      have geg15 : ∀ d ∈ (((((es.map dLnB)).take at_) ++ [wg11]) ++ (((es.map dLnB)).drop at_) : List PyData), Gd 1 15017 d := (gd_app (gd_wide (by decide) (by decide) geg13) (gd_wide (by decide) (by decide) geg14))
      have gdg15 : Gd 2 1216628 (.tuple (((((es.map dLnB)).take at_) ++ [wg11]) ++ (((es.map dLnB)).drop at_))) := Gd.tup (m := 81) geg15 (by first | omega | (simp <;> omega)) (by decide)
      refine ⟨_, rfl, pg15, _, rfl, sqg15, fun pg16 Hg16 eg16 cg16 => ?_⟩
      replace S0 := S0.trans (.same eg16 tp.lst)
      replace tp := tp.same eg16
      replace hd_ := hd_.imp fun _ q => eg16 _ _ q
      replace dpw := dS eg16 dpw
      replace dag15 := aS eg16 dag15
      rw [show (some (40) : Option Int) = some ((40 : Nat) : Int) from rfl, cut_any (n := 40)] at cg16
      have sqg16 : SqT K Hg16 pg16 ((((ys.take at_) ++ [vg11]) ++ (ys.drop at_)).take 40) := cg16
      have dag16 : DeepAll K (hid Hg16 t₁ D) ((((ys.take at_) ++ [vg11]) ++ (ys.drop at_)).take 40) ((((((es.map dLnB)).take at_) ++ [wg11]) ++ (((es.map dLnB)).drop at_)).take 40) := DeepAll.takeN 40 dag15
      have dpg16 : Deep K (hid Hg16 t₁ D) (.ref pg16) (.tuple ((((((es.map dLnB)).take at_) ++ [wg11]) ++ (((es.map dLnB)).drop at_)).take 40)) := .tup (hd_tst (K := K) tp.lst nD hd_ _ _ cg16) dag16
      clear eg16
      have geg16 : ∀ d ∈ ((((((es.map dLnB)).take at_) ++ [wg11]) ++ (((es.map dLnB)).drop at_)).take 40 : List PyData), Gd 1 15017 d := gd_take 40 geg15
      have gdg16 : Gd 2 1216628 (.tuple ((((((es.map dLnB)).take at_) ++ [wg11]) ++ (((es.map dLnB)).drop at_)).take 40)) := Gd.tup (m := 81) geg16 (by first | omega | (simp <;> omega)) (by decide)
      refine ⟨(by show 2 ≤ sizeLine; decide), fun pg17 gg17 => ?_⟩
      obtain ⟨eg17, hg17, dg17⟩ := nwO (o := (.tup [V.ref pw, V.ref pg16])) gg17 tp.lst hd_
      generalize upd Hg16 pg17 (.tup [V.ref pw, V.ref pg16]) = Hg17 at eg17 hg17 dg17 ⊢
      replace S0 := S0.trans (.same eg17 tp.lst)
      replace tp := tp.same eg17
      replace hd_ := hd_.imp fun _ q => eg17 _ _ q
      replace dpw := dS eg17 dpw
      replace dpg16 := dS eg17 dpg16
      have sqg17 := SqT.of (K := K) hg17
      have dag17 : DeepAll K (hid Hg17 t₁ D) [V.ref pw, V.ref pg16] [PyData.tuple (ws.map dWk), PyData.tuple ((((((es.map dLnB)).take at_) ++ [wg11]) ++ (((es.map dLnB)).drop at_)).take 40)] := (.cons dpw (.cons dpg16 .nil))
      have dpg17 := dpT dg17 dag17
      clear eg17 hg17 dg17
      have geg17 : ∀ d ∈ ([PyData.tuple (ws.map dWk), PyData.tuple ((((((es.map dLnB)).take at_) ++ [wg11]) ++ (((es.map dLnB)).drop at_)).take 40)] : List PyData), Gd 3 1216628 d := (gC (gW gdw) (gC (gW gdg16) gN))
      have gdg17 := gTu 2 2433270 geg17
      exact k (V.ref pg17) (PyData.tuple [PyData.tuple (ws.map dWk), PyData.tuple ((((((es.map dLnB)).take at_) ++ [wg11]) ++ (((es.map dLnB)).drop at_)).take 40)]) _ S0 tp dpg17 (gdg17.mono (by decide) (by decide))
    refine ⟨_, rfl, (by show 0 ≤ sizeLine; decide), fun ph1 gh1 => ?_⟩
    obtain ⟨eh1, hh1, dh1⟩ := nwO (o := (.tup [])) gh1 tp.lst hd_
    generalize upd Hf1 ph1 (.tup []) = Hh1 at eh1 hh1 dh1 ⊢
    replace S0 := S0.trans (.same eh1 tp.lst)
    replace tp := tp.same eh1
    replace hd_ := hd_.imp fun _ q => eh1 _ _ q
    replace hS := tS eh1 hS
    replace hSw := tS eh1 hSw
    replace alw := alw.mono fun _ _ q => q.mono (Tst.same (K := K) eh1)
    replace hSl := tS eh1 hSl
    replace all_ := all_.mono fun _ _ q => q.mono (Tst.same (K := K) eh1)
    replace daw := aS eh1 daw
    replace dpw := dS eh1 dpw
    replace dal := aS eh1 dal
    replace dpl := dS eh1 dpl
    replace das := aS eh1 das
    replace dps := dS eh1 dps
    have sqh1 := SqT.of (K := K) hh1
    have dah1 : DeepAll K (hid Hh1 t₁ D) [] [] := .nil
    have dph1 := dpT dh1 dah1
    clear eh1 hh1 dh1
    have geh1 : ∀ d ∈ ([] : List PyData), Gd 0 0 d := gN
    have gdh1 := gTu 0 8 geh1
    refine ⟨.tuple (es.map dLnB), .tuple [], dpl.same hd_full, dph1.same hd_full, gdl.lay, rfl, Nat.le_trans gdl.sh.dp (by decide), _, rfl, ?_⟩
    by_cases e0 : es = []
    · refine iteB1 (by subst e0; rfl) ?_
      refine ⟨_, rfl, pw, _, rfl, .inr hSw, _, rfl, (by show 2 ≤ sizeLine; decide), fun pi1 gi1 => ?_⟩
      obtain ⟨ei1, hi1, di1⟩ := nwO (o := (.tup [V.int (0), V.int ((xs.length : Int))])) gi1 tp.lst hd_
      generalize upd Hh1 pi1 (.tup [V.int (0), V.int ((xs.length : Int))]) = Hi1 at ei1 hi1 di1 ⊢
      replace S0 := S0.trans (.same ei1 tp.lst)
      replace tp := tp.same ei1
      replace hd_ := hd_.imp fun _ q => ei1 _ _ q
      replace hSl := tS ei1 hSl
      replace dpw := dS ei1 dpw
      replace dal := aS ei1 dal
      have sqi1 := SqT.of (K := K) hi1
      have dai1 : DeepAll K (hid Hi1 t₁ D) [V.int (0), V.int ((xs.length : Int))] [PyData.int (0), PyData.int ((xs.length : Int))] := (.cons (.int _) (.cons (.int _) .nil))
      have dpi1 := dpT di1 dai1
      clear ei1 hi1 di1
      have gei1 : ∀ d ∈ ([PyData.int (0), PyData.int ((xs.length : Int))] : List PyData), Gd 0 5000 d := (gC (gW (gd_int (by decide))) (gC (gW (gd_int (by omega))) gN))
      have gdi1 := gTu 2 10014 gei1
      refine ⟨(by show 2 ≤ sizeLine; decide), fun pi2 gi2 => ?_⟩
      obtain ⟨ei2, hi2, di2⟩ := nwO (o := (.tup [V.int (0), V.int (0)])) gi2 tp.lst hd_
      generalize upd Hi1 pi2 (.tup [V.int (0), V.int (0)]) = Hi2 at ei2 hi2 di2 ⊢
      replace S0 := S0.trans (.same ei2 tp.lst)
      replace tp := tp.same ei2
      replace hd_ := hd_.imp fun _ q => ei2 _ _ q
      replace hSl := tS ei2 hSl
      replace dpw := dS ei2 dpw
      replace dal := aS ei2 dal
      replace dpi1 := dS ei2 dpi1
      have sqi2 := SqT.of (K := K) hi2
      have dai2 : DeepAll K (hid Hi2 t₁ D) [V.int (0), V.int (0)] [PyData.int (0), PyData.int (0)] := (.cons (.int _) (.cons (.int _) .nil))
      have dpi2 := dpT di2 dai2
      clear ei2 hi2 di2
      have gei2 : ∀ d ∈ ([PyData.int (0), PyData.int (0)] : List PyData), Gd 0 5000 d := (gC (gW (gd_int (by decide))) (gC (gW (gd_int (by decide))) gN))
      have gdi2 := gTu 2 10014 gei2
      refine ⟨_, rfl, (by show 2 ≤ sizeLine; decide), fun pi3 gi3 => ?_⟩
      obtain ⟨ei3, hi3, di3⟩ := nwO (o := (.tup [V.int (-1), V.int (0)])) gi3 tp.lst hd_
      generalize upd Hi2 pi3 (.tup [V.int (-1), V.int (0)]) = Hi3 at ei3 hi3 di3 ⊢
      replace S0 := S0.trans (.same ei3 tp.lst)
      replace tp := tp.same ei3
      replace hd_ := hd_.imp fun _ q => ei3 _ _ q
      replace hSl := tS ei3 hSl
      replace dpw := dS ei3 dpw
      replace dal := aS ei3 dal
      replace dpi1 := dS ei3 dpi1
      replace dpi2 := dS ei3 dpi2
      have sqi3 := SqT.of (K := K) hi3
      have dai3 : DeepAll K (hid Hi3 t₁ D) [V.int (-1), V.int (0)] [PyData.int (-1), PyData.int (0)] := (.cons (.int _) (.cons (.int _) .nil))
      have dpi3 := dpT di3 dai3
      clear ei3 hi3 di3
      have gei3 : ∀ d ∈ ([PyData.int (-1), PyData.int (0)] : List PyData), Gd 0 5000 d := (gC (gW (gd_int (by decide))) (gC (gW (gd_int (by decide))) gN))
      have gdi3 := gTu 2 10014 gei3
      refine ⟨(by show 2 ≤ sizeLine; decide), fun pi4 gi4 => ?_⟩
      obtain ⟨ei4, hi4, di4⟩ := nwO (o := (.tup [V.bl true, V.int (0)])) gi4 tp.lst hd_
      generalize upd Hi3 pi4 (.tup [V.bl true, V.int (0)]) = Hi4 at ei4 hi4 di4 ⊢
      replace S0 := S0.trans (.same ei4 tp.lst)
      replace tp := tp.same ei4
      replace hd_ := hd_.imp fun _ q => ei4 _ _ q
      replace hSl := tS ei4 hSl
      replace dpw := dS ei4 dpw
      replace dal := aS ei4 dal
      replace dpi1 := dS ei4 dpi1
      replace dpi2 := dS ei4 dpi2
      replace dpi3 := dS ei4 dpi3
      have sqi4 := SqT.of (K := K) hi4
      have dai4 : DeepAll K (hid Hi4 t₁ D) [V.bl true, V.int (0)] [PyData.bool true, PyData.int (0)] := (.cons (.bl _) (.cons (.int _) .nil))
      have dpi4 := dpT di4 dai4
      clear ei4 hi4 di4
      have gei4 : ∀ d ∈ ([PyData.bool true, PyData.int (0)] : List PyData), Gd 0 5000 d := (gC (gW (gd_bool true)) (gC (gW (gd_int (by decide))) gN))
      have gdi4 := gTu 2 10014 gei4
      refine ⟨(by show 3 ≤ sizeLine; decide), fun pi5 gi5 => ?_⟩
      obtain ⟨ei5, hi5, di5⟩ := nwO (o := (.tup [V.int (0), V.int (1), V.int (2)])) gi5 tp.lst hd_
      generalize upd Hi4 pi5 (.tup [V.int (0), V.int (1), V.int (2)]) = Hi5 at ei5 hi5 di5 ⊢
      replace S0 := S0.trans (.same ei5 tp.lst)
      replace tp := tp.same ei5
      replace hd_ := hd_.imp fun _ q => ei5 _ _ q
      replace hSl := tS ei5 hSl
      replace dpw := dS ei5 dpw
      replace dal := aS ei5 dal
      replace dpi1 := dS ei5 dpi1
      replace dpi2 := dS ei5 dpi2
      replace dpi3 := dS ei5 dpi3
      replace dpi4 := dS ei5 dpi4
      have sqi5 := SqT.of (K := K) hi5
      have dai5 : DeepAll K (hid Hi5 t₁ D) [V.int (0), V.int (1), V.int (2)] [PyData.int (0), PyData.int (1), PyData.int (2)] := (.cons (.int _) (.cons (.int _) (.cons (.int _) .nil)))
      have dpi5 := dpT di5 dai5
      clear ei5 hi5 di5
      have gei5 : ∀ d ∈ ([PyData.int (0), PyData.int (1), PyData.int (2)] : List PyData), Gd 0 5000 d := (gC (gW (gd_int (by decide))) (gC (gW (gd_int (by decide))) (gC (gW (gd_int (by decide))) gN)))
      have gdi5 := gTu 3 15017 gei5
      refine ⟨(by show 2 ≤ sizeLine; decide), fun pi6 gi6 => ?_⟩
      obtain ⟨ei6, hi6, di6⟩ := nwO (o := (.lst [V.int (0), V.int (1)])) gi6 tp.lst hd_
      generalize upd Hi5 pi6 (.lst [V.int (0), V.int (1)]) = Hi6 at ei6 hi6 di6 ⊢
      have ni6 := nwN gi6 tp.lst
      replace S0 := S0.trans (.same ei6 tp.lst)
      replace tp := tp.same ei6
      replace hd_ := hd_.imp fun _ q => ei6 _ _ q
      replace hSl := tS ei6 hSl
      replace dpw := dS ei6 dpw
      replace dal := aS ei6 dal
      replace dpi1 := dS ei6 dpi1
      replace dpi2 := dS ei6 dpi2
      replace dpi3 := dS ei6 dpi3
      replace dpi4 := dS ei6 dpi4
      replace dpi5 := dS ei6 dpi5
      have lsi6 := hi6
      have dai6 : DeepAll K (hid Hi6 t₁ D) [V.int (0), V.int (1)] [PyData.int (0), PyData.int (1)] := (.cons (.int _) (.cons (.int _) .nil))
      have dpi6 := dpL di6 dai6
      clear ei6 hi6 di6
      have gei6 : ∀ d ∈ ([PyData.int (0), PyData.int (1)] : List PyData), Gd 0 5000 d := (gC (gW (gd_int (by decide))) (gC (gW (gd_int (by decide))) gN))
      have gdi6 := gLs 2 10014 gei6
      refine ⟨_, rfl, _, _, rfl, rfl, (by show 2 ≤ sizeLine; decide), fun pi7 gi7 => ?_⟩
      obtain ⟨ei7, hi7, di7⟩ := nwO (o := (.tup [V.int ((xs.length : Int) - 1), V.int (0)])) gi7 tp.lst hd_
      generalize upd Hi6 pi7 (.tup [V.int ((xs.length : Int) - 1), V.int (0)]) = Hi7 at ei7 hi7 di7 ⊢
      replace S0 := S0.trans (.same ei7 tp.lst)
      replace tp := tp.same ei7
      replace hd_ := hd_.imp fun _ q => ei7 _ _ q
      replace hSl := tS ei7 hSl
      replace dpw := dS ei7 dpw
      replace dal := aS ei7 dal
      replace dpi1 := dS ei7 dpi1
      replace dpi2 := dS ei7 dpi2
      replace dpi3 := dS ei7 dpi3
      replace dpi4 := dS ei7 dpi4
      replace dpi5 := dS ei7 dpi5
      replace dpi6 := dS ei7 dpi6
      have sqi7 := SqT.of (K := K) hi7
      have dai7 : DeepAll K (hid Hi7 t₁ D) [V.int ((xs.length : Int) - 1), V.int (0)] [PyData.int ((xs.length : Int) - 1), PyData.int (0)] := (.cons (.int _) (.cons (.int _) .nil))
      have dpi7 := dpT di7 dai7
      clear ei7 hi7 di7
      have gei7 : ∀ d ∈ ([PyData.int ((xs.length : Int) - 1), PyData.int (0)] : List PyData), Gd 0 5000 d := (gC (gW (gd_int (by omega))) (gC (gW (gd_int (by decide))) gN))
      have gdi7 := gTu 2 10014 gei7
      refine ⟨(by show 2 ≤ sizeLine; decide), fun pi8 gi8 => ?_⟩
      obtain ⟨ei8, hi8, di8⟩ := nwO (o := (.tup [V.int (0), V.str (Str.ofString "0")])) gi8 tp.lst hd_
      generalize upd Hi7 pi8 (.tup [V.int (0), V.str (Str.ofString "0")]) = Hi8 at ei8 hi8 di8 ⊢
      replace S0 := S0.trans (.same ei8 tp.lst)
      replace tp := tp.same ei8
      replace hd_ := hd_.imp fun _ q => ei8 _ _ q
      replace hSl := tS ei8 hSl
      replace dpw := dS ei8 dpw
      replace dal := aS ei8 dal
      replace dpi1 := dS ei8 dpi1
      replace dpi2 := dS ei8 dpi2
      replace dpi3 := dS ei8 dpi3
      replace dpi4 := dS ei8 dpi4
      replace dpi5 := dS ei8 dpi5
      replace dpi6 := dS ei8 dpi6
      replace dpi7 := dS ei8 dpi7
      have sqi8 := SqT.of (K := K) hi8
      have dai8 : DeepAll K (hid Hi8 t₁ D) [V.int (0), V.str (Str.ofString "0")] [PyData.int (0), PyData.str (Str.ofString "0")] := (.cons (.int _) (.cons (.str _) .nil))
      have dpi8 := dpT di8 dai8
      clear ei8 hi8 di8
      have gei8 : ∀ d ∈ ([PyData.int (0), PyData.str (Str.ofString "0")] : List PyData), Gd 0 5000 d := (gC (gW (gd_int (by decide))) (gC (gW (gd_str (by decide +kernel) (by decide +kernel) (by decide +kernel))) gN))
      have gdi8 := gTu 2 10014 gei8
      refine ⟨(by show 9 ≤ sizeLine; decide), fun pi9 gi9 => ?_⟩
      obtain ⟨ei9, hi9, di9⟩ := nwO (o := (.lst [V.ref pi1, V.ref pi2, V.ref pi3, V.ref pi4, V.ref pi5, V.ref pi6, V.non, V.ref pi7, V.ref pi8])) gi9 tp.lst hd_
      generalize upd Hi8 pi9 (.lst [V.ref pi1, V.ref pi2, V.ref pi3, V.ref pi4, V.ref pi5, V.ref pi6, V.non, V.ref pi7, V.ref pi8]) = Hi9 at ei9 hi9 di9 ⊢
      have ni9 := nwN gi9 tp.lst
      replace S0 := S0.trans (.same ei9 tp.lst)
      replace tp := tp.same ei9
      replace hd_ := hd_.imp fun _ q => ei9 _ _ q
      replace hSl := tS ei9 hSl
      replace dpw := dS ei9 dpw
      replace dal := aS ei9 dal
      replace dpi1 := dS ei9 dpi1
      replace dpi2 := dS ei9 dpi2
      replace dpi3 := dS ei9 dpi3
      replace dpi4 := dS ei9 dpi4
      replace dpi5 := dS ei9 dpi5
      replace dpi6 := dS ei9 dpi6
      replace dpi7 := dS ei9 dpi7
      replace dpi8 := dS ei9 dpi8
      have lsi9 := hi9
      have dai9 : DeepAll K (hid Hi9 t₁ D) [V.ref pi1, V.ref pi2, V.ref pi3, V.ref pi4, V.ref pi5, V.ref pi6, V.non, V.ref pi7, V.ref pi8] [PyData.tuple [PyData.int (0), PyData.int ((xs.length : Int))], PyData.tuple [PyData.int (0), PyData.int (0)], PyData.tuple [PyData.int (-1), PyData.int (0)], PyData.tuple [PyData.bool true, PyData.int (0)], PyData.tuple [PyData.int (0), PyData.int (1), PyData.int (2)], PyData.list [PyData.int (0), PyData.int (1)], PyData.none, PyData.tuple [PyData.int ((xs.length : Int) - 1), PyData.int (0)], PyData.tuple [PyData.int (0), PyData.str (Str.ofString "0")]] := (.cons dpi1 (.cons dpi2 (.cons dpi3 (.cons dpi4 (.cons dpi5 (.cons dpi6 (.cons .non (.cons dpi7 (.cons dpi8 .nil)))))))))
      have dpi9 := dpL di9 dai9
      clear ei9 hi9 di9
      have gei9 : ∀ d ∈ ([PyData.tuple [PyData.int (0), PyData.int ((xs.length : Int))], PyData.tuple [PyData.int (0), PyData.int (0)], PyData.tuple [PyData.int (-1), PyData.int (0)], PyData.tuple [PyData.bool true, PyData.int (0)], PyData.tuple [PyData.int (0), PyData.int (1), PyData.int (2)], PyData.list [PyData.int (0), PyData.int (1)], PyData.none, PyData.tuple [PyData.int ((xs.length : Int) - 1), PyData.int (0)], PyData.tuple [PyData.int (0), PyData.str (Str.ofString "0")]] : List PyData), Gd 1 15017 d := (gC (gW gdi1) (gC (gW gdi2) (gC (gW gdi3) (gC (gW gdi4) (gC (gW gdi5) (gC (gW gdi6) (gC (gW gd_none) (gC (gW gdi7) (gC (gW gdi8) gN)))))))))
      have gdi9 := gLs 9 135188 gei9
      refine ⟨_, rfl, _, rfl, _, rfl, _, rfl, pl, _, rfl, hSl, fun pi10 Hi10 ei10 ci10 => ?_⟩
      replace S0 := S0.trans (.same ei10 tp.lst)
      replace tp := tp.same ei10
      replace hd_ := hd_.imp fun _ q => ei10 _ _ q
      replace hSl := tS ei10 hSl
      replace dpw := dS ei10 dpw
      replace dal := aS ei10 dal
      replace lsi9 := ei10 _ _ lsi9
      replace dai9 := aS ei10 dai9
      rw [show (some ((at_ : Nat)) : Option Int) = some ((at_ : Nat) : Int) from rfl, cut_any (n := at_)] at ci10
      have sqi10 : SqT K Hi10 pi10 (ys.take at_) := ci10
      have dai10 : DeepAll K (hid Hi10 t₁ D) (ys.take at_) (((es.map dLnB)).take at_) := DeepAll.takeN at_ dal
      have dpi10 : Deep K (hid Hi10 t₁ D) (.ref pi10) (.tuple (((es.map dLnB)).take at_)) := .tup (hd_tst (K := K) tp.lst nD hd_ _ _ ci10) dai10
      clear ei10
      have gei10 : ∀ d ∈ (((es.map dLnB)).take at_ : List PyData), Gd 1 12000 d := gd_take at_ gel
      have gdi10 : Gd 2 480128 (.tuple (((es.map dLnB)).take at_)) := Gd.tup (m := 40) gei10 (by first | omega | (simp <;> omega)) (by decide)
      refine ⟨_, rfl, _, rfl, t₁, s₁, 9, rfl, tp, by decide, by decide, fun ri11 zi11 ai11 bi11 Ti11 => ?_⟩
      have Si11 := Step.up (ys := zi11) tp.lst.choose_spec
      replace S0 := S0.trans Si11
      replace hd_ := hd_.imp fun _ q => Si11.keep _ _ nD q
      replace hSl := tP Si11 hSl
      replace dpw := dP Si11 dpw
      replace dal := aP Si11 dal
      replace lsi9 := Si11.keep _ _ ni9 lsi9
      replace dai9 := aP Si11 dai9
      replace sqi10 := tP Si11 sqi10
      replace dai10 := aP Si11 dai10
      replace tp := Ti11
      clear Ti11 Si11
      generalize upd Hi10 t₁ (.lst zi11) = Hi11 at S0 tp hd_ hSl dpw dal lsi9 dai9 sqi10 dai10 ⊢
      obtain ⟨vi11, wi11, ati11, mei11, dvi11⟩ := DeepAll.pick dai9 ai11 bi11
      refine ⟨pi9, _, _, vi11, rfl, rfl, SqL.of lsi9, ati11, (by show 1 ≤ sizeLine; decide), fun pi12 gi12 => ?_⟩
      obtain ⟨ei12, hi12, di12⟩ := nwO (o := (.tup [vi11])) gi12 tp.lst hd_
      generalize upd Hi11 pi12 (.tup [vi11]) = Hi12 at ei12 hi12 di12 ⊢
      replace S0 := S0.trans (.same ei12 tp.lst)
      replace tp := tp.same ei12
      replace hd_ := hd_.imp fun _ q => ei12 _ _ q
      replace hSl := tS ei12 hSl
      replace dpw := dS ei12 dpw
      replace dal := aS ei12 dal
      replace sqi10 := tS ei12 sqi10
      replace dai10 := aS ei12 dai10
      replace dvi11 := dS ei12 dvi11
      have sqi12 := SqT.of (K := K) hi12
      have dai12 : DeepAll K (hid Hi12 t₁ D) [vi11] [wi11] := (.cons dvi11 .nil)
      have dpi12 := dpT di12 dai12
      clear ei12 hi12 di12
      have gei12 : ∀ d ∈ ([wi11] : List PyData), Gd 1 15017 d := (gC (gW (gei9 _ mei11)) gN)
      have gdi12 := gTu 1 15028 gei12
      refine ⟨pi10, pi12, _, _, rfl, rfl, sqi10, sqi12, Nat.le_trans (show _ ≤ 1000 by first | omega | (simp <;> omega)) (by show 1000 ≤ sizeLine; decide), fun pi13 Hi13 ei13 ci13 => ?_⟩
      replace S0 := S0.trans (.same ei13 tp.lst)
      replace tp := tp.same ei13
      replace hd_ := hd_.imp fun _ q => ei13 _ _ q
      replace hSl := tS ei13 hSl
      replace dpw := dS ei13 dpw
      replace dal := aS ei13 dal
      replace dai10 := aS ei13 dai10
      replace dai12 := aS ei13 dai12
      have sqi13 : SqT K Hi13 pi13 ((ys.take at_) ++ [vi11]) := ci13
      have dai13 : DeepAll K (hid Hi13 t₁ D) ((ys.take at_) ++ [vi11]) ((((es.map dLnB)).take at_) ++ [wi11]) := DeepAll.app dai10 dai12
      have dpi13 : Deep K (hid Hi13 t₁ D) (.ref pi13) (.tuple ((((es.map dLnB)).take at_) ++ [wi11])) := .tup (hd_tst (K := K) tp.lst nD hd_ _ _ ci13) dai13
      clear ei13
      have gei13 : ∀ d ∈ ((((es.map dLnB)).take at_) ++ [wi11] : List PyData), Gd 1 15017 d := (gd_app (gd_wide (by decide) (by decide) gei10) (gd_wide (by decide) (by decide) gei12))
      have gdi13 : Gd 2 615828 (.tuple ((((es.map dLnB)).take at_) ++ [wi11])) := Gd.tup (m := 41) gei13 (by first | omega | (simp <;> omega)) (by decide)
      refine ⟨_, rfl, _, rfl, _, rfl, pl, _, rfl, hSl, fun pi14 Hi14 ei14 ci14 => ?_⟩
      replace S0 := S0.trans (.same ei14 tp.lst)
      replace tp := tp.same ei14
      replace hd_ := hd_.imp fun _ q => ei14 _ _ q
      replace dpw := dS ei14 dpw
      replace dal := aS ei14 dal
      replace sqi13 := tS ei14 sqi13
      replace dai13 := aS ei14 dai13
      rw [show (some ((at_ : Nat)) : Option Int) = some ((at_ : Nat) : Int) from rfl, cut_from (n := at_) (by first | omega | (simp <;> omega))] at ci14
      have sqi14 : SqT K Hi14 pi14 (ys.drop at_) := ci14
      have dai14 : DeepAll K (hid Hi14 t₁ D) (ys.drop at_) (((es.map dLnB)).drop at_) := DeepAll.dropN at_ dal
      have dpi14 : Deep K (hid Hi14 t₁ D) (.ref pi14) (.tuple (((es.map dLnB)).drop at_)) := .tup (hd_tst (K := K) tp.lst nD hd_ _ _ ci14) dai14
      clear ei14
      have gei14 : ∀ d ∈ (((es.map dLnB)).drop at_ : List PyData), Gd 1 12000 d := gd_drop at_ gel
      have gdi14 : Gd 2 480128 (.tuple (((es.map dLnB)).drop at_)) := Gd.tup (m := 40) gei14 (by first | omega | (simp <;> omega)) (by decide)
      refine ⟨pi13, pi14, _, _, rfl, rfl, sqi13, sqi14, Nat.le_trans (show _ ≤ 1000 by first | omega | (simp <;> omega)) (by show 1000 ≤ sizeLine; decide), fun pi15 Hi15 ei15 ci15 => ?_⟩
      replace S0 := S0.trans (.same ei15 tp.lst)
      replace tp := tp.same ei15
      replace hd_ := hd_.imp fun _ q => ei15 _ _ q
      replace dpw := dS ei15 dpw
      replace dai13 := aS ei15 dai13
      replace dai14 := aS ei15 dai14
      have sqi15 : SqT K Hi15 pi15 (((ys.take at_) ++ [vi11]) ++ (ys.drop at_)) := ci15
      have dai15 : DeepAll K (hid Hi15 t₁ D) (((ys.take at_) ++ [vi11]) ++ (ys.drop at_)) (((((es.map dLnB)).take at_) ++ [wi11]) ++ (((es.map dLnB)).drop at_)) := DeepAll.app dai13 dai14
      have dpi15 : Deep K (hid Hi15 t₁ D) (.ref pi15) (.tuple (((((es.map dLnB)).take at_) ++ [wi11]) ++ (((es.map dLnB)).drop at_))) := .tup (hd_tst (K := K) tp.lst nD hd_ _ _ ci15) dai15
      clear ei15
      have gei15 : ∀ d ∈ (((((es.map dLnB)).take at_) ++ [wi11]) ++ (((es.map dLnB)).drop at_) : List PyData), Gd 1 15017 d := (gd_app (gd_wide (by decide) (by decide) gei13) (gd_wide (by decide) (by decide) gei14))
      have gdi15 : Gd 2 1216628 (.tuple (((((es.map dLnB)).take at_) ++ [wi11]) ++ (((es.map dLnB)).drop at_))) := Gd.tup (m := 81) gei15 (by first | omega | (simp <;> omega)) (by decide)
      refine ⟨_, rfl, pi15, _, rfl, sqi15, fun pi16 Hi16 ei16 ci16 => ?_⟩
      replace S0 := S0.trans (.same ei16 tp.lst)
      replace tp := tp.same ei16
      replace hd_ := hd_.imp fun _ q => ei16 _ _ q
      replace dpw := dS ei16 dpw
      replace dai15 := aS ei16 dai15
      rw [show (some (40) : Option Int) = some ((40 : Nat) : Int) from rfl, cut_any (n := 40)] at ci16
      have sqi16 : SqT K Hi16 pi16 ((((ys.take at_) ++ [vi11]) ++ (ys.drop at_)).take 40) := ci16
      have dai16 : DeepAll K (hid Hi16 t₁ D) ((((ys.take at_) ++ [vi11]) ++ (ys.drop at_)).take 40) ((((((es.map dLnB)).take at_) ++ [wi11]) ++ (((es.map dLnB)).drop at_)).take 40) := DeepAll.takeN 40 dai15
      have dpi16 : Deep K (hid Hi16 t₁ D) (.ref pi16) (.tuple ((((((es.map dLnB)).take at_) ++ [wi11]) ++ (((es.map dLnB)).drop at_)).take 40)) := .tup (hd_tst (K := K) tp.lst nD hd_ _ _ ci16) dai16
      clear ei16
      have gei16 : ∀ d ∈ ((((((es.map dLnB)).take at_) ++ [wi11]) ++ (((es.map dLnB)).drop at_)).take 40 : List PyData), Gd 1 15017 d := gd_take 40 gei15
      have gdi16 : Gd 2 1216628 (.tuple ((((((es.map dLnB)).take at_) ++ [wi11]) ++ (((es.map dLnB)).drop at_)).take 40)) := Gd.tup (m := 81) gei16 (by first | omega | (simp <;> omega)) (by decide)
      refine ⟨(by show 2 ≤ sizeLine; decide), fun pi17 gi17 => ?_⟩
      obtain ⟨ei17, hi17, di17⟩ := nwO (o := (.tup [V.ref pw, V.ref pi16])) gi17 tp.lst hd_
      generalize upd Hi16 pi17 (.tup [V.ref pw, V.ref pi16]) = Hi17 at ei17 hi17 di17 ⊢
      replace S0 := S0.trans (.same ei17 tp.lst)
      replace tp := tp.same ei17
      replace hd_ := hd_.imp fun _ q => ei17 _ _ q
      replace dpw := dS ei17 dpw
      replace dpi16 := dS ei17 dpi16
      have sqi17 := SqT.of (K := K) hi17
      have dai17 : DeepAll K (hid Hi17 t₁ D) [V.ref pw, V.ref pi16] [PyData.tuple (ws.map dWk), PyData.tuple ((((((es.map dLnB)).take at_) ++ [wi11]) ++ (((es.map dLnB)).drop at_)).take 40)] := (.cons dpw (.cons dpi16 .nil))
      have dpi17 := dpT di17 dai17
      clear ei17 hi17 di17
      have gei17 : ∀ d ∈ ([PyData.tuple (ws.map dWk), PyData.tuple ((((((es.map dLnB)).take at_) ++ [wi11]) ++ (((es.map dLnB)).drop at_)).take 40)] : List PyData), Gd 3 1216628 d := (gC (gW gdw) (gC (gW gdi16) gN))
      have gdi17 := gTu 2 2433270 gei17
      exact k (V.ref pi17) (PyData.tuple [PyData.tuple (ws.map dWk), PyData.tuple ((((((es.map dLnB)).take at_) ++ [wi11]) ++ (((es.map dLnB)).drop at_)).take 40)]) _ S0 tp dpi17 (gdi17.mono (by decide) (by decide))
    refine iteB0 (eqv_cons e0) ?_
    have p0 : 0 < es.length := List.length_pos_iff.mpr e0
    refine ⟨_, rfl, _, rfl, _, rfl, pl, _, rfl, .inr hSl, t₁, s₁, _, rfl, tp, by omega, by omega, fun rh2 zh2 ah2 bh2 Th2 => ?_⟩
    have Sh2 := Step.up (ys := zh2) tp.lst.choose_spec
    replace S0 := S0.trans Sh2
    replace hd_ := hd_.imp fun _ q => Sh2.keep _ _ nD q
    replace hS := tP Sh2 hS
    replace hSw := tP Sh2 hSw
    replace alw := alw.mono fun _ _ q => q.mono (Tst.step (K := K) Sh2)
    replace hSl := tP Sh2 hSl
    replace all_ := all_.mono fun _ _ q => q.mono (Tst.step (K := K) Sh2)
    replace daw := aP Sh2 daw
    replace dpw := dP Sh2 dpw
    replace dal := aP Sh2 dal
    replace dpl := dP Sh2 dpl
    replace das := aP Sh2 das
    replace dps := dP Sh2 dps
    replace tp := Th2
    clear Th2 Sh2
    generalize upd Hh1 t₁ (.lst zh2) = Hh2 at S0 tp hd_ hS hSw alw hSl all_ daw dpw dal dpl das dps ⊢
    obtain ⟨j, rfl⟩ := Int.eq_ofNat_of_zero_le ah2
    obtain ⟨xe, hxe⟩ : ∃ x, ys[j]? = some x := ⟨_, List.getElem?_eq_getElem (by omega)⟩
    obtain ⟨⟨c, e⟩, hd, pe, rfl, hpe⟩ := all_.at hxe
    have oe := okl _ (List.mem_of_getElem? hd)
    have o1 : c < ws.length := oe.1
    have o2 : e < ws.length := oe.2
    replace hpe : SqT K Hh2 pe [.int (c : Nat), .int (e : Nat)] := hpe
    refine ⟨pl, _, _, _, rfl, rfl, hSl, atI_nat hxe, pe, _, rfl, hpe, rfl, _, _, rfl, _, _, rfl, rfl, ?_⟩
    refine ⟨_, rfl, rfl, _, rfl, ite2 (fun _ => ?_) (fun _ => ?_)⟩
    · refine ⟨_, rfl, _, rfl, _, rfl, _, rfl, pl, _, rfl, hSl, fun pj1 Hj1 ej1 cj1 => ?_⟩
      replace S0 := S0.trans (.same ej1 tp.lst)
      replace tp := tp.same ej1
      replace hd_ := hd_.imp fun _ q => ej1 _ _ q
      replace hSl := tS ej1 hSl
      replace dpw := dS ej1 dpw
      replace dal := aS ej1 dal
      rw [show (some ((at_ : Nat)) : Option Int) = some ((at_ : Nat) : Int) from rfl, cut_any (n := at_)] at cj1
      have sqj1 : SqT K Hj1 pj1 (ys.take at_) := cj1
      have daj1 : DeepAll K (hid Hj1 t₁ D) (ys.take at_) (((es.map dLnB)).take at_) := DeepAll.takeN at_ dal
      have dpj1 : Deep K (hid Hj1 t₁ D) (.ref pj1) (.tuple (((es.map dLnB)).take at_)) := .tup (hd_tst (K := K) tp.lst nD hd_ _ _ cj1) daj1
      clear ej1
      have gej1 : ∀ d ∈ (((es.map dLnB)).take at_ : List PyData), Gd 1 12000 d := gd_take at_ gel
      have gdj1 : Gd 2 480128 (.tuple (((es.map dLnB)).take at_)) := Gd.tup (m := 40) gej1 (by first | omega | (simp <;> omega)) (by decide)
      refine ⟨_, rfl, _, rfl, (by show 2 ≤ sizeLine; decide), fun pj2 gj2 => ?_⟩
      obtain ⟨ej2, hj2, dj2⟩ := nwO (o := (.tup [V.int ((e : Nat)), V.int ((c : Nat))])) gj2 tp.lst hd_
      generalize upd Hj1 pj2 (.tup [V.int ((e : Nat)), V.int ((c : Nat))]) = Hj2 at ej2 hj2 dj2 ⊢
      replace S0 := S0.trans (.same ej2 tp.lst)
      replace tp := tp.same ej2
      replace hd_ := hd_.imp fun _ q => ej2 _ _ q
      replace hSl := tS ej2 hSl
      replace dpw := dS ej2 dpw
      replace dal := aS ej2 dal
      replace sqj1 := tS ej2 sqj1
      replace daj1 := aS ej2 daj1
      have sqj2 := SqT.of (K := K) hj2
      have daj2 : DeepAll K (hid Hj2 t₁ D) [V.int ((e : Nat)), V.int ((c : Nat))] [PyData.int ((e : Nat)), PyData.int ((c : Nat))] := (.cons (.int _) (.cons (.int _) .nil))
      have dpj2 := dpT dj2 daj2
      clear ej2 hj2 dj2
      have gej2 : ∀ d ∈ ([PyData.int ((e : Nat)), PyData.int ((c : Nat))] : List PyData), Gd 0 5000 d := (gC (gW (gd_int (by omega))) (gC (gW (gd_int (by omega))) gN))
      have gdj2 := gTu 2 10014 gej2
      refine ⟨(by show 1 ≤ sizeLine; decide), fun pj3 gj3 => ?_⟩
      obtain ⟨ej3, hj3, dj3⟩ := nwO (o := (.tup [V.ref pj2])) gj3 tp.lst hd_
      generalize upd Hj2 pj3 (.tup [V.ref pj2]) = Hj3 at ej3 hj3 dj3 ⊢
      replace S0 := S0.trans (.same ej3 tp.lst)
      replace tp := tp.same ej3
      replace hd_ := hd_.imp fun _ q => ej3 _ _ q
      replace hSl := tS ej3 hSl
      replace dpw := dS ej3 dpw
      replace dal := aS ej3 dal
      replace sqj1 := tS ej3 sqj1
      replace daj1 := aS ej3 daj1
      replace dpj2 := dS ej3 dpj2
      have sqj3 := SqT.of (K := K) hj3
      have daj3 : DeepAll K (hid Hj3 t₁ D) [V.ref pj2] [PyData.tuple [PyData.int ((e : Nat)), PyData.int ((c : Nat))]] := (.cons dpj2 .nil)
      have dpj3 := dpT dj3 daj3
      clear ej3 hj3 dj3
      have gej3 : ∀ d ∈ ([PyData.tuple [PyData.int ((e : Nat)), PyData.int ((c : Nat))]] : List PyData), Gd 1 10014 d := (gC (gW gdj2) gN)
      have gdj3 := gTu 1 10025 gej3
      refine ⟨pj1, pj3, _, _, rfl, rfl, sqj1, sqj3, Nat.le_trans (show _ ≤ 1000 by first | omega | (simp <;> omega)) (by show 1000 ≤ sizeLine; decide), fun pj4 Hj4 ej4 cj4 => ?_⟩
      replace S0 := S0.trans (.same ej4 tp.lst)
      replace tp := tp.same ej4
      replace hd_ := hd_.imp fun _ q => ej4 _ _ q
      replace hSl := tS ej4 hSl
      replace dpw := dS ej4 dpw
      replace dal := aS ej4 dal
      replace daj1 := aS ej4 daj1
      replace daj3 := aS ej4 daj3
      have sqj4 : SqT K Hj4 pj4 ((ys.take at_) ++ [V.ref pj2]) := cj4
      have daj4 : DeepAll K (hid Hj4 t₁ D) ((ys.take at_) ++ [V.ref pj2]) ((((es.map dLnB)).take at_) ++ [PyData.tuple [PyData.int ((e : Nat)), PyData.int ((c : Nat))]]) := DeepAll.app daj1 daj3
      have dpj4 : Deep K (hid Hj4 t₁ D) (.ref pj4) (.tuple ((((es.map dLnB)).take at_) ++ [PyData.tuple [PyData.int ((e : Nat)), PyData.int ((c : Nat))]])) := .tup (hd_tst (K := K) tp.lst nD hd_ _ _ cj4) daj4
      clear ej4
      have gej4 : ∀ d ∈ ((((es.map dLnB)).take at_) ++ [PyData.tuple [PyData.int ((e : Nat)), PyData.int ((c : Nat))]] : List PyData), Gd 1 12000 d := (gd_app (gd_wide (by decide) (by decide) gej1) (gd_wide (by decide) (by decide) gej3))
      have gdj4 : Gd 2 492131 (.tuple ((((es.map dLnB)).take at_) ++ [PyData.tuple [PyData.int ((e : Nat)), PyData.int ((c : Nat))]])) := Gd.tup (m := 41) gej4 (by first | omega | (simp <;> omega)) (by decide)
      refine ⟨_, rfl, _, rfl, _, rfl, pl, _, rfl, hSl, fun pj5 Hj5 ej5 cj5 => ?_⟩
      replace S0 := S0.trans (.same ej5 tp.lst)
      replace tp := tp.same ej5
      replace hd_ := hd_.imp fun _ q => ej5 _ _ q
      replace dpw := dS ej5 dpw
      replace dal := aS ej5 dal
      replace sqj4 := tS ej5 sqj4
      replace daj4 := aS ej5 daj4
      rw [show (some ((at_ : Nat)) : Option Int) = some ((at_ : Nat) : Int) from rfl, cut_from (n := at_) (by first | omega | (simp <;> omega))] at cj5
      have sqj5 : SqT K Hj5 pj5 (ys.drop at_) := cj5
      have daj5 : DeepAll K (hid Hj5 t₁ D) (ys.drop at_) (((es.map dLnB)).drop at_) := DeepAll.dropN at_ dal
      have dpj5 : Deep K (hid Hj5 t₁ D) (.ref pj5) (.tuple (((es.map dLnB)).drop at_)) := .tup (hd_tst (K := K) tp.lst nD hd_ _ _ cj5) daj5
      clear ej5
      have gej5 : ∀ d ∈ (((es.map dLnB)).drop at_ : List PyData), Gd 1 12000 d := gd_drop at_ gel
      have gdj5 : Gd 2 480128 (.tuple (((es.map dLnB)).drop at_)) := Gd.tup (m := 40) gej5 (by first | omega | (simp <;> omega)) (by decide)
      refine ⟨pj4, pj5, _, _, rfl, rfl, sqj4, sqj5, Nat.le_trans (show _ ≤ 1000 by first | omega | (simp <;> omega)) (by show 1000 ≤ sizeLine; decide), fun pj6 Hj6 ej6 cj6 => ?_⟩
      replace S0 := S0.trans (.same ej6 tp.lst)
      replace tp := tp.same ej6
      replace hd_ := hd_.imp fun _ q => ej6 _ _ q
      replace dpw := dS ej6 dpw
      replace daj4 := aS ej6 daj4
      replace daj5 := aS ej6 daj5
      have sqj6 : SqT K Hj6 pj6 (((ys.take at_) ++ [V.ref pj2]) ++ (ys.drop at_)) := cj6
      have daj6 : DeepAll K (hid Hj6 t₁ D) (((ys.take at_) ++ [V.ref pj2]) ++ (ys.drop at_)) (((((es.map dLnB)).take at_) ++ [PyData.tuple [PyData.int ((e : Nat)), PyData.int ((c : Nat))]]) ++ (((es.map dLnB)).drop at_)) := DeepAll.app daj4 daj5
      have dpj6 : Deep K (hid Hj6 t₁ D) (.ref pj6) (.tuple (((((es.map dLnB)).take at_) ++ [PyData.tuple [PyData.int ((e : Nat)), PyData.int ((c : Nat))]]) ++ (((es.map dLnB)).drop at_))) := .tup (hd_tst (K := K) tp.lst nD hd_ _ _ cj6) daj6
      clear ej6
      have gej6 : ∀ d ∈ (((((es.map dLnB)).take at_) ++ [PyData.tuple [PyData.int ((e : Nat)), PyData.int ((c : Nat))]]) ++ (((es.map dLnB)).drop at_) : List PyData), Gd 1 12000 d := (gd_app (gd_wide (by decide) (by decide) gej4) (gd_wide (by decide) (by decide) gej5))
      have gdj6 : Gd 2 972251 (.tuple (((((es.map dLnB)).take at_) ++ [PyData.tuple [PyData.int ((e : Nat)), PyData.int ((c : Nat))]]) ++ (((es.map dLnB)).drop at_))) := Gd.tup (m := 81) gej6 (by first | omega | (simp <;> omega)) (by decide)
      refine ⟨_, rfl, pj6, _, rfl, sqj6, fun pj7 Hj7 ej7 cj7 => ?_⟩
      replace S0 := S0.trans (.same ej7 tp.lst)
      replace tp := tp.same ej7
      replace hd_ := hd_.imp fun _ q => ej7 _ _ q
      replace dpw := dS ej7 dpw
      replace daj6 := aS ej7 daj6
      rw [show (some (40) : Option Int) = some ((40 : Nat) : Int) from rfl, cut_any (n := 40)] at cj7
      have sqj7 : SqT K Hj7 pj7 ((((ys.take at_) ++ [V.ref pj2]) ++ (ys.drop at_)).take 40) := cj7
      have daj7 : DeepAll K (hid Hj7 t₁ D) ((((ys.take at_) ++ [V.ref pj2]) ++ (ys.drop at_)).take 40) ((((((es.map dLnB)).take at_) ++ [PyData.tuple [PyData.int ((e : Nat)), PyData.int ((c : Nat))]]) ++ (((es.map dLnB)).drop at_)).take 40) := DeepAll.takeN 40 daj6
      have dpj7 : Deep K (hid Hj7 t₁ D) (.ref pj7) (.tuple ((((((es.map dLnB)).take at_) ++ [PyData.tuple [PyData.int ((e : Nat)), PyData.int ((c : Nat))]]) ++ (((es.map dLnB)).drop at_)).take 40)) := .tup (hd_tst (K := K) tp.lst nD hd_ _ _ cj7) daj7
      clear ej7
      have gej7 : ∀ d ∈ ((((((es.map dLnB)).take at_) ++ [PyData.tuple [PyData.int ((e : Nat)), PyData.int ((c : Nat))]]) ++ (((es.map dLnB)).drop at_)).take 40 : List PyData), Gd 1 12000 d := gd_take 40 gej6
      have gdj7 : Gd 2 972251 (.tuple ((((((es.map dLnB)).take at_) ++ [PyData.tuple [PyData.int ((e : Nat)), PyData.int ((c : Nat))]]) ++ (((es.map dLnB)).drop at_)).take 40)) := Gd.tup (m := 81) gej7 (by first | omega | (simp <;> omega)) (by decide)
      refine ⟨(by show 2 ≤ sizeLine; decide), fun pj8 gj8 => ?_⟩
      obtain ⟨ej8, hj8, dj8⟩ := nwO (o := (.tup [V.ref pw, V.ref pj7])) gj8 tp.lst hd_
      generalize upd Hj7 pj8 (.tup [V.ref pw, V.ref pj7]) = Hj8 at ej8 hj8 dj8 ⊢
      replace S0 := S0.trans (.same ej8 tp.lst)
      replace tp := tp.same ej8
      replace hd_ := hd_.imp fun _ q => ej8 _ _ q
      replace dpw := dS ej8 dpw
      replace dpj7 := dS ej8 dpj7
      have sqj8 := SqT.of (K := K) hj8
      have daj8 : DeepAll K (hid Hj8 t₁ D) [V.ref pw, V.ref pj7] [PyData.tuple (ws.map dWk), PyData.tuple ((((((es.map dLnB)).take at_) ++ [PyData.tuple [PyData.int ((e : Nat)), PyData.int ((c : Nat))]]) ++ (((es.map dLnB)).drop at_)).take 40)] := (.cons dpw (.cons dpj7 .nil))
      have dpj8 := dpT dj8 daj8
      clear ej8 hj8 dj8
      have gej8 : ∀ d ∈ ([PyData.tuple (ws.map dWk), PyData.tuple ((((((es.map dLnB)).take at_) ++ [PyData.tuple [PyData.int ((e : Nat)), PyData.int ((c : Nat))]]) ++ (((es.map dLnB)).drop at_)).take 40)] : List PyData), Gd 3 972251 d := (gC (gW gdw) (gC (gW gdj7) gN))
      have gdj8 := gTu 2 1944516 gej8
      exact k (V.ref pj8) (PyData.tuple [PyData.tuple (ws.map dWk), PyData.tuple ((((((es.map dLnB)).take at_) ++ [PyData.tuple [PyData.int ((e : Nat)), PyData.int ((c : Nat))]]) ++ (((es.map dLnB)).drop at_)).take 40)]) _ S0 tp dpj8 (gdj8.mono (by decide) (by decide))
    refine ⟨_, rfl, _, rfl, pw, _, rfl, .inr hSw, t₁, s₁, _, rfl, tp, by omega, by omega, fun rl1 zl1 al1 bl1 Tl1 => ?_⟩
    have Sl1 := Step.up (ys := zl1) tp.lst.choose_spec
    replace S0 := S0.trans Sl1
    replace hd_ := hd_.imp fun _ q => Sl1.keep _ _ nD q
    replace hSl := tP Sl1 hSl
    replace dpw := dP Sl1 dpw
    replace dal := aP Sl1 dal
    replace tp := Tl1
    clear Tl1 Sl1
    generalize upd Hh2 t₁ (.lst zl1) = Hl1 at S0 tp hd_ hSl dpw dal ⊢
    obtain ⟨th, rfl⟩ := Int.eq_ofNat_of_zero_le al1
    refine ⟨_, rfl, _, rfl, _, rfl, _, rfl, pl, _, rfl, hSl, fun pl2 Hl2 el2 cl2 => ?_⟩
    replace S0 := S0.trans (.same el2 tp.lst)
    replace tp := tp.same el2
    replace hd_ := hd_.imp fun _ q => el2 _ _ q
    replace hSl := tS el2 hSl
    replace dpw := dS el2 dpw
    replace dal := aS el2 dal
    rw [show (some ((at_ : Nat)) : Option Int) = some ((at_ : Nat) : Int) from rfl, cut_any (n := at_)] at cl2
    have sql2 : SqT K Hl2 pl2 (ys.take at_) := cl2
    have dal2 : DeepAll K (hid Hl2 t₁ D) (ys.take at_) (((es.map dLnB)).take at_) := DeepAll.takeN at_ dal
    have dpl2 : Deep K (hid Hl2 t₁ D) (.ref pl2) (.tuple (((es.map dLnB)).take at_)) := .tup (hd_tst (K := K) tp.lst nD hd_ _ _ cl2) dal2
    clear el2
    have gel2 : ∀ d ∈ (((es.map dLnB)).take at_ : List PyData), Gd 1 12000 d := gd_take at_ gel
    have gdl2 : Gd 2 480128 (.tuple (((es.map dLnB)).take at_)) := Gd.tup (m := 40) gel2 (by first | omega | (simp <;> omega)) (by decide)
    refine ⟨_, rfl, _, rfl, (by show 2 ≤ sizeLine; decide), fun pl3 gl3 => ?_⟩
    obtain ⟨el3, hl3, dl3⟩ := nwO (o := (.tup [V.int ((e : Nat)), V.int ((th : Nat))])) gl3 tp.lst hd_
    generalize upd Hl2 pl3 (.tup [V.int ((e : Nat)), V.int ((th : Nat))]) = Hl3 at el3 hl3 dl3 ⊢
    replace S0 := S0.trans (.same el3 tp.lst)
    replace tp := tp.same el3
    replace hd_ := hd_.imp fun _ q => el3 _ _ q
    replace hSl := tS el3 hSl
    replace dpw := dS el3 dpw
    replace dal := aS el3 dal
    replace sql2 := tS el3 sql2
    replace dal2 := aS el3 dal2
    have sql3 := SqT.of (K := K) hl3
    have dal3 : DeepAll K (hid Hl3 t₁ D) [V.int ((e : Nat)), V.int ((th : Nat))] [PyData.int ((e : Nat)), PyData.int ((th : Nat))] := (.cons (.int _) (.cons (.int _) .nil))
    have dpl3 := dpT dl3 dal3
    clear el3 hl3 dl3
    have gel3 : ∀ d ∈ ([PyData.int ((e : Nat)), PyData.int ((th : Nat))] : List PyData), Gd 0 5000 d := (gC (gW (gd_int (by omega))) (gC (gW (gd_int (by omega))) gN))
    have gdl3 := gTu 2 10014 gel3
    refine ⟨_, rfl, _, rfl, (by show 2 ≤ sizeLine; decide), fun pl4 gl4 => ?_⟩
    obtain ⟨el4, hl4, dl4⟩ := nwO (o := (.tup [V.int ((th : Nat)), V.int ((c : Nat))])) gl4 tp.lst hd_
    generalize upd Hl3 pl4 (.tup [V.int ((th : Nat)), V.int ((c : Nat))]) = Hl4 at el4 hl4 dl4 ⊢
    replace S0 := S0.trans (.same el4 tp.lst)
    replace tp := tp.same el4
    replace hd_ := hd_.imp fun _ q => el4 _ _ q
    replace hSl := tS el4 hSl
    replace dpw := dS el4 dpw
    replace dal := aS el4 dal
    replace sql2 := tS el4 sql2
    replace dal2 := aS el4 dal2
    replace dpl3 := dS el4 dpl3
    have sql4 := SqT.of (K := K) hl4
    have dal4 : DeepAll K (hid Hl4 t₁ D) [V.int ((th : Nat)), V.int ((c : Nat))] [PyData.int ((th : Nat)), PyData.int ((c : Nat))] := (.cons (.int _) (.cons (.int _) .nil))
    have dpl4 := dpT dl4 dal4
    clear el4 hl4 dl4
    have gel4 : ∀ d ∈ ([PyData.int ((th : Nat)), PyData.int ((c : Nat))] : List PyData), Gd 0 5000 d := (gC (gW (gd_int (by omega))) (gC (gW (gd_int (by omega))) gN))
    have gdl4 := gTu 2 10014 gel4
    refine ⟨(by show 2 ≤ sizeLine; decide), fun pl5 gl5 => ?_⟩
    obtain ⟨el5, hl5, dl5⟩ := nwO (o := (.tup [V.ref pl3, V.ref pl4])) gl5 tp.lst hd_
    generalize upd Hl4 pl5 (.tup [V.ref pl3, V.ref pl4]) = Hl5 at el5 hl5 dl5 ⊢
    replace S0 := S0.trans (.same el5 tp.lst)
    replace tp := tp.same el5
    replace hd_ := hd_.imp fun _ q => el5 _ _ q
    replace hSl := tS el5 hSl
    replace dpw := dS el5 dpw
    replace dal := aS el5 dal
    replace sql2 := tS el5 sql2
    replace dal2 := aS el5 dal2
    replace dpl3 := dS el5 dpl3
    replace dpl4 := dS el5 dpl4
    have sql5 := SqT.of (K := K) hl5
    have dal5 : DeepAll K (hid Hl5 t₁ D) [V.ref pl3, V.ref pl4] [PyData.tuple [PyData.int ((e : Nat)), PyData.int ((th : Nat))], PyData.tuple [PyData.int ((th : Nat)), PyData.int ((c : Nat))]] := (.cons dpl3 (.cons dpl4 .nil))
    have dpl5 := dpT dl5 dal5
    clear el5 hl5 dl5
    have gel5 : ∀ d ∈ ([PyData.tuple [PyData.int ((e : Nat)), PyData.int ((th : Nat))], PyData.tuple [PyData.int ((th : Nat)), PyData.int ((c : Nat))]] : List PyData), Gd 1 10014 d := (gC (gW gdl3) (gC (gW gdl4) gN))
    have gdl5 := gTu 2 20042 gel5
    refine ⟨pl2, pl5, _, _, rfl, rfl, sql2, sql5, Nat.le_trans (show _ ≤ 1000 by first | omega | (simp <;> omega)) (by show 1000 ≤ sizeLine; decide), fun pl6 Hl6 el6 cl6 => ?_⟩
    replace S0 := S0.trans (.same el6 tp.lst)
    replace tp := tp.same el6
    replace hd_ := hd_.imp fun _ q => el6 _ _ q
    replace hSl := tS el6 hSl
    replace dpw := dS el6 dpw
    replace dal := aS el6 dal
    replace dal2 := aS el6 dal2
    replace dal5 := aS el6 dal5
    have sql6 : SqT K Hl6 pl6 ((ys.take at_) ++ [V.ref pl3, V.ref pl4]) := cl6
    have dal6 : DeepAll K (hid Hl6 t₁ D) ((ys.take at_) ++ [V.ref pl3, V.ref pl4]) ((((es.map dLnB)).take at_) ++ [PyData.tuple [PyData.int ((e : Nat)), PyData.int ((th : Nat))], PyData.tuple [PyData.int ((th : Nat)), PyData.int ((c : Nat))]]) := DeepAll.app dal2 dal5
    have dpl6 : Deep K (hid Hl6 t₁ D) (.ref pl6) (.tuple ((((es.map dLnB)).take at_) ++ [PyData.tuple [PyData.int ((e : Nat)), PyData.int ((th : Nat))], PyData.tuple [PyData.int ((th : Nat)), PyData.int ((c : Nat))]])) := .tup (hd_tst (K := K) tp.lst nD hd_ _ _ cl6) dal6
    clear el6
    have gel6 : ∀ d ∈ ((((es.map dLnB)).take at_) ++ [PyData.tuple [PyData.int ((e : Nat)), PyData.int ((th : Nat))], PyData.tuple [PyData.int ((th : Nat)), PyData.int ((c : Nat))]] : List PyData), Gd 1 12000 d := (gd_app (gd_wide (by decide) (by decide) gel2) (gd_wide (by decide) (by decide) gel5))
    have gdl6 : Gd 2 504134 (.tuple ((((es.map dLnB)).take at_) ++ [PyData.tuple [PyData.int ((e : Nat)), PyData.int ((th : Nat))], PyData.tuple [PyData.int ((th : Nat)), PyData.int ((c : Nat))]])) := Gd.tup (m := 42) gel6 (by first | omega | (simp <;> omega)) (by decide)
    refine ⟨_, rfl, _, rfl, _, rfl, pl, _, rfl, hSl, fun pl7 Hl7 el7 cl7 => ?_⟩
    replace S0 := S0.trans (.same el7 tp.lst)
    replace tp := tp.same el7
    replace hd_ := hd_.imp fun _ q => el7 _ _ q
    replace dpw := dS el7 dpw
    replace dal := aS el7 dal
    replace sql6 := tS el7 sql6
    replace dal6 := aS el7 dal6
    rw [show (some ((at_ : Nat)) : Option Int) = some ((at_ : Nat) : Int) from rfl, cut_from (n := at_) (by first | omega | (simp <;> omega))] at cl7
    have sql7 : SqT K Hl7 pl7 (ys.drop at_) := cl7
    have dal7 : DeepAll K (hid Hl7 t₁ D) (ys.drop at_) (((es.map dLnB)).drop at_) := DeepAll.dropN at_ dal
    have dpl7 : Deep K (hid Hl7 t₁ D) (.ref pl7) (.tuple (((es.map dLnB)).drop at_)) := .tup (hd_tst (K := K) tp.lst nD hd_ _ _ cl7) dal7
    clear el7
    have gel7 : ∀ d ∈ (((es.map dLnB)).drop at_ : List PyData), Gd 1 12000 d := gd_drop at_ gel
    have gdl7 : Gd 2 480128 (.tuple (((es.map dLnB)).drop at_)) := Gd.tup (m := 40) gel7 (by first | omega | (simp <;> omega)) (by decide)
    refine ⟨pl6, pl7, _, _, rfl, rfl, sql6, sql7, Nat.le_trans (show _ ≤ 1000 by first | omega | (simp <;> omega)) (by show 1000 ≤ sizeLine; decide), fun pl8 Hl8 el8 cl8 => ?_⟩
    replace S0 := S0.trans (.same el8 tp.lst)
    replace tp := tp.same el8
    replace hd_ := hd_.imp fun _ q => el8 _ _ q
    replace dpw := dS el8 dpw
    replace dal6 := aS el8 dal6
    replace dal7 := aS el8 dal7
    have sql8 : SqT K Hl8 pl8 (((ys.take at_) ++ [V.ref pl3, V.ref pl4]) ++ (ys.drop at_)) := cl8
    have dal8 : DeepAll K (hid Hl8 t₁ D) (((ys.take at_) ++ [V.ref pl3, V.ref pl4]) ++ (ys.drop at_)) (((((es.map dLnB)).take at_) ++ [PyData.tuple [PyData.int ((e : Nat)), PyData.int ((th : Nat))], PyData.tuple [PyData.int ((th : Nat)), PyData.int ((c : Nat))]]) ++ (((es.map dLnB)).drop at_)) := DeepAll.app dal6 dal7
    have dpl8 : Deep K (hid Hl8 t₁ D) (.ref pl8) (.tuple (((((es.map dLnB)).take at_) ++ [PyData.tuple [PyData.int ((e : Nat)), PyData.int ((th : Nat))], PyData.tuple [PyData.int ((th : Nat)), PyData.int ((c : Nat))]]) ++ (((es.map dLnB)).drop at_))) := .tup (hd_tst (K := K) tp.lst nD hd_ _ _ cl8) dal8
    clear el8
    have gel8 : ∀ d ∈ (((((es.map dLnB)).take at_) ++ [PyData.tuple [PyData.int ((e : Nat)), PyData.int ((th : Nat))], PyData.tuple [PyData.int ((th : Nat)), PyData.int ((c : Nat))]]) ++ (((es.map dLnB)).drop at_) : List PyData), Gd 1 12000 d := (gd_app (gd_wide (by decide) (by decide) gel6) (gd_wide (by decide) (by decide) gel7))
    have gdl8 : Gd 2 984254 (.tuple (((((es.map dLnB)).take at_) ++ [PyData.tuple [PyData.int ((e : Nat)), PyData.int ((th : Nat))], PyData.tuple [PyData.int ((th : Nat)), PyData.int ((c : Nat))]]) ++ (((es.map dLnB)).drop at_))) := Gd.tup (m := 82) gel8 (by first | omega | (simp <;> omega)) (by decide)
    refine ⟨_, rfl, pl8, _, rfl, sql8, fun pl9 Hl9 el9 cl9 => ?_⟩
    replace S0 := S0.trans (.same el9 tp.lst)
    replace tp := tp.same el9
    replace hd_ := hd_.imp fun _ q => el9 _ _ q
    replace dpw := dS el9 dpw
    replace dal8 := aS el9 dal8
    rw [show (some (40) : Option Int) = some ((40 : Nat) : Int) from rfl, cut_any (n := 40)] at cl9
    have sql9 : SqT K Hl9 pl9 ((((ys.take at_) ++ [V.ref pl3, V.ref pl4]) ++ (ys.drop at_)).take 40) := cl9
    have dal9 : DeepAll K (hid Hl9 t₁ D) ((((ys.take at_) ++ [V.ref pl3, V.ref pl4]) ++ (ys.drop at_)).take 40) ((((((es.map dLnB)).take at_) ++ [PyData.tuple [PyData.int ((e : Nat)), PyData.int ((th : Nat))], PyData.tuple [PyData.int ((th : Nat)), PyData.int ((c : Nat))]]) ++ (((es.map dLnB)).drop at_)).take 40) := DeepAll.takeN 40 dal8
    have dpl9 : Deep K (hid Hl9 t₁ D) (.ref pl9) (.tuple ((((((es.map dLnB)).take at_) ++ [PyData.tuple [PyData.int ((e : Nat)), PyData.int ((th : Nat))], PyData.tuple [PyData.int ((th : Nat)), PyData.int ((c : Nat))]]) ++ (((es.map dLnB)).drop at_)).take 40)) := .tup (hd_tst (K := K) tp.lst nD hd_ _ _ cl9) dal9
    clear el9
    have gel9 : ∀ d ∈ ((((((es.map dLnB)).take at_) ++ [PyData.tuple [PyData.int ((e : Nat)), PyData.int ((th : Nat))], PyData.tuple [PyData.int ((th : Nat)), PyData.int ((c : Nat))]]) ++ (((es.map dLnB)).drop at_)).take 40 : List PyData), Gd 1 12000 d := gd_take 40 gel8
    have gdl9 : Gd 2 984254 (.tuple ((((((es.map dLnB)).take at_) ++ [PyData.tuple [PyData.int ((e : Nat)), PyData.int ((th : Nat))], PyData.tuple [PyData.int ((th : Nat)), PyData.int ((c : Nat))]]) ++ (((es.map dLnB)).drop at_)).take 40)) := Gd.tup (m := 82) gel9 (by first | omega | (simp <;> omega)) (by decide)
    refine ⟨(by show 2 ≤ sizeLine; decide), fun pl10 gl10 => ?_⟩
    obtain ⟨el10, hl10, dl10⟩ := nwO (o := (.tup [V.ref pw, V.ref pl9])) gl10 tp.lst hd_
    generalize upd Hl9 pl10 (.tup [V.ref pw, V.ref pl9]) = Hl10 at el10 hl10 dl10 ⊢
    replace S0 := S0.trans (.same el10 tp.lst)
    replace tp := tp.same el10
    replace hd_ := hd_.imp fun _ q => el10 _ _ q
    replace dpw := dS el10 dpw
    replace dpl9 := dS el10 dpl9
    have sql10 := SqT.of (K := K) hl10
    have dal10 : DeepAll K (hid Hl10 t₁ D) [V.ref pw, V.ref pl9] [PyData.tuple (ws.map dWk), PyData.tuple ((((((es.map dLnB)).take at_) ++ [PyData.tuple [PyData.int ((e : Nat)), PyData.int ((th : Nat))], PyData.tuple [PyData.int ((th : Nat)), PyData.int ((c : Nat))]]) ++ (((es.map dLnB)).drop at_)).take 40)] := (.cons dpw (.cons dpl9 .nil))
    have dpl10 := dpT dl10 dal10
    clear el10 hl10 dl10
    have gel10 : ∀ d ∈ ([PyData.tuple (ws.map dWk), PyData.tuple ((((((es.map dLnB)).take at_) ++ [PyData.tuple [PyData.int ((e : Nat)), PyData.int ((th : Nat))], PyData.tuple [PyData.int ((th : Nat)), PyData.int ((c : Nat))]]) ++ (((es.map dLnB)).drop at_)).take 40)] : List PyData), Gd 3 984254 d := (gC (gW gdw) (gC (gW gdl9) gN))
    have gdl10 := gTu 2 1968522 gel10
    exact k (V.ref pl10) (PyData.tuple [PyData.tuple (ws.map dWk), PyData.tuple ((((((es.map dLnB)).take at_) ++ [PyData.tuple [PyData.int ((e : Nat)), PyData.int ((th : Nat))], PyData.tuple [PyData.int ((th : Nat)), PyData.int ((c : Nat))]]) ++ (((es.map dLnB)).drop at_)).take 40)]) _ S0 tp dpl10 (gdl10.mono (by decide) (by decide))
theorem ok_NoSheet (T : Txt K mg t) : FnOk P w K mg base CX0 2 t.a_NoSheet t.d_NoSheet ["self", "word", "number"] (sp_NoSheet K t.c_NoSheet) := by
  refine T.F_NoSheet.ok sc_NoSheet (fun vs H Q E h => ?_) (fun cdv A outer s H vs Q E hr h => ?_)
  · obtain ⟨_, _, _, rfl, _⟩ := h; rfl
  obtain ⟨a, x, n, rfl, ha, k⟩ := h
  refine QSs.ok (qss_cons (qs_fldE rfl (qv 0) (qe_call (ok_copied T) (hr.mono (by decide)) rfl T.m_copied T.F_copied.kp T.b_copied .nil pass0 (qa_cons (qv 1) qa_nil star_name)) rfl)
      (qss_one (qs_fldE rfl (qv 0) (qe_call (ok_copied T) (hr.mono (by decide)) rfl T.m_copied T.F_copied.kp T.b_copied .nil pass0 (qa_cons (qv 2) qa_nil star_name)) rfl))) ?_
  refine ⟨_, rfl, _, rfl, .inr ⟨x, rfl⟩, _, rfl, a, _, _, rfl, T.X_NoSheet.cl, T.n_NoSheet_word, .inl ⟨ha, fun d hd nd => ?_⟩⟩
  have ha2 : upd (upd H a (exO a t.c_NoSheet (some d))) d (dO d [("word", .str x)]) a = some (exO a t.c_NoSheet (some d)) := by rw [upd_ne nd.symm, upd_same]
  refine ⟨_, rfl, _, rfl, .inl ⟨n, rfl⟩, _, rfl, a, _, _, rfl, T.X_NoSheet.cl, T.n_NoSheet_number, .inr ⟨d, _, ha2, upd_same, by show 1 ≤ 100; decide, ?_⟩⟩
  have hd0 : H d = none := hd
  refine k d _ hd0 nd (fun b o nb q => ?_) (by rw [upd_ne nd.symm]; exact ha2) upd_same
  have nbd : b ≠ d := ne_of_none q hd0
  rw [upd_ne nbd, upd_ne nbd, upd_ne nb]
  exact q
theorem ok_right_sheet (T : Txt K mg t) : FnOk P w K mg base (CXD P w) 5 t.a_right_sheet t.d_right_sheet ["thing"] (sp_right_sheet K t.c_NoSheet) := by
  refine B.Fun.okD T.F_right_sheet sc_right_sheet (fun vs H Q E h => ?_) (fun cdv A outer s H vs Q E hr h => ?_)
  · obtain ⟨_, _, rfl, _⟩ := h; rfl
  obtain ⟨v, d, rfl, hD, k, ke⟩ := h
  refine QSs.ok (qss_cons (qs_if (qt_not (qt_val (qe_call (ok_is_sheet_shaped T) (hr.mono (by decide)) rfl T.m_is_sheet_shaped T.F_is_sheet_shaped.kp T.b_is_sheet_shaped .nil pass0 (qa_cons (qv 0) qa_nil star_name)))) (qss_one (qs_raiseD T.X_NoSheet (vm_has _) rfl takesD (ok_NoSheet T) (hr.mono (by decide)) T.b_NoSheet rfl T.m_NoSheet (qa_cons qe_str (qa_cons (qe_un un_neg qe_int) qa_nil star_un) star_con))) qss_nil)
      (qss_cons (qs_set (i := 1) sc_right_sheet.nd rfl (by first | exact Or.inl rfl | exact Or.inr rfl) (qe_ix ix_tup (qv 0) qe_int (fun _ _ => rfl)))
      (qss_cons (qs_set (i := 2) sc_right_sheet.nd rfl (by first | exact Or.inl rfl | exact Or.inr rfl) (qe_ix ix_tup (qv 0) qe_int (fun _ _ => rfl)))
      (qss_cons (qs_for PassesOwn.leaving rfl (qi_enum rfl T.z_enumerate (qa_cons (qv 1) qa_nil star_name)) (qg_tup rfl (qgs_cons (qg_name (i := 3) sc_right_sheet.nd rfl (by first | exact Or.inl rfl | exact Or.inr rfl)) (qgs_cons (qg_name (i := 4) sc_right_sheet.nd rfl (by first | exact Or.inl rfl | exact Or.inr rfl)) qgs_nil)))
      (qss_one (qs_if (qt_not (qt_val (qe_call (ok_is_work T) (hr.mono (by decide)) rfl T.m_is_work T.F_is_work.kp T.b_is_work .nil pass0 (qa_cons (qv 4) qa_nil star_name)))) (qss_one (qs_raiseD T.X_NoSheet (vm_has _) rfl takesD (ok_NoSheet T) (hr.mono (by decide)) T.b_NoSheet rfl T.m_NoSheet (qa_cons qe_str (qa_cons (qv 3) qa_nil star_name) star_con))) qss_nil)))
      (qss_cons (qs_for PassesOwn.leaving rfl (qi_enum rfl T.z_enumerate (qa_cons (qv 2) qa_nil star_name)) (qg_tup rfl (qgs_cons (qg_name (i := 3) sc_right_sheet.nd rfl (by first | exact Or.inl rfl | exact Or.inr rfl)) (qgs_cons (qg_name (i := 5) sc_right_sheet.nd rfl (by first | exact Or.inl rfl | exact Or.inr rfl)) qgs_nil)))
      (qss_one (qs_if (qt_not (qt_val (qe_call (ok_is_lean T) (hr.mono (by decide)) rfl T.m_is_lean T.F_is_lean.kp T.b_is_lean .nil pass0 (qa_cons (qv 5) (qa_cons (qe_callB call_len_seq (by rfl) T.z_len PySem.boot_len (qa_cons (qv 1) qa_nil star_name)) qa_nil star_call) star_name)))) (qss_one (qs_raiseD T.X_NoSheet (vm_has _) rfl takesD (ok_NoSheet T) (hr.mono (by decide)) T.b_NoSheet rfl T.m_NoSheet (qa_cons qe_str (qa_cons (qv 3) qa_nil star_name) star_con))) qss_nil)))
      (qss_cons (qs_set (i := 6) sc_right_sheet.nd rfl (by first | exact Or.inl rfl | exact Or.inr rfl) (qe_call (ok_first_ring T) (hr.mono (by decide)) rfl T.m_first_ring T.F_first_ring.kp T.b_first_ring .nil pass0 (qa_cons (qe_callB call_len_seq (by rfl) T.z_len PySem.boot_len (qa_cons (qv 1) qa_nil star_name)) (qa_cons (qv 2) qa_nil star_name) star_call)))
      (qss_cons (qs_if (qt_cmpR op_notN (qv 6) qe_non (nomark _)) (qss_one (qs_raiseD T.X_NoSheet (vm_has _) rfl takesD (ok_NoSheet T) (hr.mono (by decide)) T.b_NoSheet rfl T.m_NoSheet (qa_cons qe_str (qa_cons (qv 6) qa_nil star_name) star_con))) qss_nil)
      (qss_one (qs_ret qe_bl))))))))) ?_
  refine ⟨_, rfl, v, d, rfl, hD, ⟨_, rfl, ?_⟩⟩
  cases sh : shD d with
  | false =>
    refine iteT ?_
    have du : DueIs d (some (Str.ofString "shape", -1)) := by unfold DueIs; rw [preD_no sh]
    refine ⟨_, rfl, ⟨(by show 2 ≤ sizeLine; decide), fun x hx => ⟨x, _, _, rfl, upd_same, fun d H' hd nd kp ha hd' => ⟨rfl, some d, ha, ?_⟩⟩⟩⟩
    exact ke _ _ (du) d _ ((del_same hx kp)) (by rw [del_at nd]; exact hd')
  | true =>
    refine iteF ?_
    have c2 : tupD 2 d = true := by
      cases c : tupD 2 d with
      | true => rfl
      | false => rw [shD_no c] at sh; cases sh
    obtain ⟨p, x, y, dx, dy, rfl, rfl, hS, hx, hy⟩ := hD.two c2
    rcases isi_tup hx with ⟨_, px, xs, ds, rfl, rfl, hSx, hAx⟩ | ⟨_, no⟩
    rotate_left
    · rw [shD_no1 no] at sh; cases sh
    rcases isi_tup hy with ⟨_, py, ys, es, rfl, rfl, hSy, hAy⟩ | ⟨_, no⟩
    rotate_left
    · rw [shD_no2 no] at sh; cases sh
    have sh' : (decide (ds.length ≤ 20) && decide (es.length ≤ 40)) = true := sh
    have hxl := hAx.len
    have hyl := hAy.len
    obtain ⟨n20, n40⟩ : ds.length ≤ 20 ∧ es.length ≤ 40 := by
      rw [Bool.and_eq_true, decide_eq_true_iff, decide_eq_true_iff] at sh'
      exact sh'
    have pre : preD (.tuple [.tuple ds, .tuple es]) = match fstBad ds workD with
      | some i => some (Str.ofString "work", (i : Int))
      | none => match fstBad es (leanD (ds.length : Int)) with
        | some i => some (Str.ofString "lean", (i : Int))
        | none => none := by
      show (if (decide (ds.length ≤ 20) && decide (es.length ≤ 40)) = true then _ else _) = _
      rw [if_pos sh']
      try rfl
    refine ⟨_, rfl, p, _, _, _, rfl, rfl, hS, rfl, _, rfl, p, _, _, _, rfl, rfl, hS, rfl, ?_⟩
    refine ⟨_, rfl, px, rfl, ⟨_, hSx⟩, for_enum (K := K) (a := px) (xs := xs) (fun i σ H' => ∃ (x4 x5 : Option V), σ = [some (.ref p), some (.ref px), some (.ref py), x4, x5, none, none] ∧ Same H H' ∧ ∀ m, m < i → workD (ds.getD m .none) = true) ⟨none, none, rfl, Same.refl H, fun m hm => absurd hm (Nat.not_lt_zero _)⟩ (fun i σ H1 _ ⟨_, _, _, sm, _⟩ => Tst.same sm _ _ hSx) ?_ ?_⟩
    · rintro i x pt σ H1 hx ⟨x4, x5, rfl, sm, gd⟩ hpt
      have e1 := same_new hpt (.tup [.int i, x])
      refine ⟨pt, _, rfl, SqT.of upd_same, rfl, _, _, rfl, _, _, rfl, rfl, ?_⟩
      have sm1 := sm.trans e1
      have hil : i < ds.length := by have := (List.getElem?_eq_some_iff.mp hx).1; omega
      have hde : ds[i]? = some ds[i] := List.getElem?_eq_getElem hil
      obtain ⟨v, hv, dv⟩ := DeepAll.atI hAx hde
      rw [hx] at hv
      cases hv
      generalize upd H1 pt (.tup [.int i, x]) = H2 at sm1 ⊢
      refine ⟨_, rfl, x, _, rfl, dv.same sm1, ⟨_, rfl, ?_⟩⟩
      cases c : workD ds[i] with
      | false =>
        refine iteT ?_
        have du : DueIs (.tuple [.tuple ds, .tuple es]) (some (Str.ofString "work", (i : Int))) := by unfold DueIs; rw [pre, fb_at hil c gd]
        refine ⟨_, rfl, ⟨(by show 2 ≤ sizeLine; decide), fun x hx => ⟨x, _, _, rfl, upd_same, fun d H' hd nd kp ha hd' => ⟨rfl, some d, ha, ?_⟩⟩⟩⟩
        exact ke _ _ (du) d _ (sm1.trans (del_same hx kp)) (by rw [del_at nd]; exact hd')
      | true =>
        refine iteF ⟨_, _, rfl, sm1, fun m hm => ?_⟩
        by_cases z : m < i
        · exact gd m z
        · have : m = i := by omega
          subst this
          rw [getD_of PyData.none hde]
          exact c
    · rintro σ H1 ⟨x4, x5, rfl, sm, gd⟩
      have gw : fstBad ds workD = none := fb_no fun j hj => gd j (by omega)
      rw [gw] at pre
      refine ⟨_, rfl, py, rfl, ⟨_, Tst.same sm _ _ hSy⟩, for_enum (K := K) (a := py) (xs := ys) (fun i σ H' => ∃ (x4 x5 x6 : Option V), σ = [some (.ref p), some (.ref px), some (.ref py), x4, x5, x6, none] ∧ Same H H' ∧ ∀ m, m < i → leanD (ds.length : Int) (es.getD m .none) = true) ⟨_, _, _, rfl, sm, fun m hm => absurd hm (Nat.not_lt_zero _)⟩ (fun i σ H1 _ ⟨_, _, _, _, sm, _⟩ => Tst.same sm _ _ hSy) ?_ ?_⟩
      · rintro i x pt σ H2 hx ⟨x4, x5, x6, rfl, sm2, gd2⟩ hpt
        have e1 := same_new hpt (.tup [.int i, x])
        refine ⟨pt, _, rfl, SqT.of upd_same, rfl, _, _, rfl, _, _, rfl, rfl, ?_⟩
        have sm3 := sm2.trans e1
        have hil : i < es.length := by have := (List.getElem?_eq_some_iff.mp hx).1; omega
        have hde : es[i]? = some es[i] := List.getElem?_eq_getElem hil
        obtain ⟨v, hv, dv⟩ := DeepAll.atI hAy hde
        rw [hx] at hv
        cases hv
        generalize upd H2 pt (.tup [.int i, x]) = H3 at sm3 ⊢
        refine ⟨_, rfl, _, rfl, px, _, rfl, .inr (Tst.same sm3 _ _ hSx), x, _, (ds.length : Int), (by rw [hxl]; rfl), dv.same sm3, ⟨_, rfl, ?_⟩⟩
        cases c : leanD (ds.length : Int) es[i] with
        | false =>
          refine iteT ?_
          have du : DueIs (.tuple [.tuple ds, .tuple es]) (some (Str.ofString "lean", (i : Int))) := by unfold DueIs; rw [pre, fb_at hil c gd2]
          refine ⟨_, rfl, ⟨(by show 2 ≤ sizeLine; decide), fun x hx => ⟨x, _, _, rfl, upd_same, fun d H' hd nd kp ha hd' => ⟨rfl, some d, ha, ?_⟩⟩⟩⟩
          exact ke _ _ (du) d _ (sm3.trans (del_same hx kp)) (by rw [del_at nd]; exact hd')
        | true =>
          refine iteF ⟨_, _, _, rfl, sm3, fun m hm => ?_⟩
          by_cases z : m < i
          · exact gd2 m z
          · have : m = i := by omega
            subst this
            rw [getD_of PyData.none hde]
            exact c
      · rintro σ H2 ⟨x4, x5, x6, rfl, sm2, gd2⟩
        have gl : fstBad es (leanD (ds.length : Int)) = none := fb_no fun j hj => gd2 j (by omega)
        rw [gl] at pre
        have lns : ∀ {d : PyData}, d ∈ es → leanD (ds.length : Int) d = true := fun {d} hd => by
          obtain ⟨j, hj, e⟩ := List.mem_iff_getElem.mp hd
          have := gd2 j (by omega)
          rw [getD_of PyData.none (List.getElem?_eq_getElem hj), e] at this
          exact this
        obtain ⟨lv, lok⟩ := lns_of (K := K) (H := H2) (n := ds.length) (DeepAll.same sm2 hAy) lns
        refine ⟨_, rfl, px, _, rfl, .inr (Tst.same sm2 _ _ hSx), _, rfl, ds.length, .ref py, es.map lnD, (by rw [hxl]; rfl), ⟨py, ys, rfl, Tst.same sm2 _ _ hSy, lv⟩, lok, by omega, fun r H3 ri s3 => ?_⟩
        have du : DueIs (.tuple [.tuple ds, .tuple es]) (r.map fun k => (Str.ofString "ring", (k : Int))) := by
          unfold DueIs
          rw [pre]
          exact ⟨r, ri, rfl⟩
        have sm3 := sm2.trans s3
        cases r with
        | none =>
          refine ⟨_, rfl, rfl, _, rfl, iteF ?_⟩
          exact k du _ sm3
        | some q =>
          refine ⟨_, rfl, rfl, _, rfl, iteN1 (by intro z; cases z) ?_⟩
          refine ⟨_, rfl, ⟨(by show 2 ≤ sizeLine; decide), fun x hx => ⟨x, _, _, rfl, upd_same, fun d H' hd nd kp ha hd' => ⟨rfl, some d, ha, ?_⟩⟩⟩⟩
          exact ke _ _ (du) d _ (sm3.trans (del_same hx kp)) (by rw [del_at nd]; exact hd')
theorem ok_law_told (T : Txt K mg t) : FnOk P w K mg base CX0 6 t.a_law_told t.d_law_told ["_law_thing"] (sp_law_told K) := by
  refine T.F_law_told.ok sc_law_told (fun vs H Q E h => ?_) (fun cdv A outer s H vs Q E hr h => ?_)
  · obtain ⟨_, _, rfl, _⟩ := h; rfl
  obtain ⟨v, d, rfl, hD, k⟩ := h
  refine QSs.ok (qss_cons (qs_set (i := 1) sc_law_told.nd rfl (by first | exact Or.inl rfl | exact Or.inr rfl) qe_str)
      (qss_cons (qs_tryAs (i := 2) (R := (fun C dx H' => C = t.c_NoSheet ∧ Same H H' ∧ ∃ (dd : Addr) (x : Str) (n : Int), dx = some dd ∧ H' dd = some (dO dd [("number", .int n), ("word", .str x)]) ∧ DueIs d (some (x, n)))) rfl rfl rfl rfl T.m_PaceError sc_law_told.nd rfl rfl (fun _ => (qss_one (qs_if (qt_cmpR op_isB (qe_call (ok_right_sheet T) (hr.mono (by decide)) rfl T.m_right_sheet T.F_right_sheet.kp T.b_right_sheet .nil (passTD rfl) (qa_cons (qv 0) qa_nil star_name)) qe_bl (nomark _)) (qss_one (qs_set (i := 1) sc_law_told.nd rfl (by first | exact Or.inl rfl | exact Or.inr rfl) qe_non)) qss_nil)))
      (fun _ => (qss_one (qs_if (qw_pt (qw_and (qt_val (qe_callB (call_isK (K := K) rfl) (by rfl) T.z_isinstance PyProof.Rows.boot_isinstance (qa_cons (qv 2) (qa_cons (qe_glob (v := .ref t.c_NoSheet) rfl T.m_NoSheet rfl) qa_nil star_name) star_name))) (qw_and (qt_val (qe_callB (call_isK (K := K) rfl) (by rfl) T.z_isinstance PyProof.Rows.boot_isinstance (qa_cons (qv 2) (qa_cons (qe_bltn (v := V.ty "ValueError") rfl T.z_ValueError PyProof.Rows.Boot.ValueError rfl) qa_nil star_name) star_name))) (qw_and1 (qt_not (qt_val (qe_callB (call_isK (K := K) rfl) (by rfl) T.z_isinstance PyProof.Rows.boot_isinstance (qa_cons (qv 2) (qa_cons (qe_tup (qa_cons (qe_glob (v := .ref t.c_NoPlan) rfl T.m_NoPlan rfl) (qa_cons (qe_glob (v := .ref t.c_NoRule) rfl T.m_NoRule rfl) (qa_cons (qe_glob (v := .ref t.c_NoStretch) rfl T.m_NoStretch rfl) qa_nil star_name) star_name) star_name)) qa_nil star_tup) star_name)))))))) (qss_one (qs_set (i := 1) sc_law_told.nd rfl (by first | exact Or.inl rfl | exact Or.inr rfl) (qe_tup (qa_cons (qe_fldE (K := K) rfl (qv 2) rfl) (qa_cons (qe_fldE (K := K) rfl (qv 2) rfl) qa_nil star_att) star_att)))) qss_nil))))
      (qss_one (qs_ret (qv 1))))) ?_
  refine ⟨⟨_, rfl, v, d, rfl, hD, fun du H1 s1 => ⟨true, true, rfl, rfl, _, rfl, iteT ⟨_, rfl, k none _ _ du s1 .non⟩⟩, fun x n du dd H1 s1 hd => ⟨_, rfl, rfl, s1, dd, x, n, rfl, hd, du⟩⟩, ?_⟩
  rintro C dx H' ⟨rfl, s1, dd, w, n, rfl, hd, du⟩
  refine ⟨T.x_catch, dd, rfl, fun x hx => ?_⟩
  have s2 := same_new hx (erO x t.c_NoSheet dd)
  have ex := upd_same (H := H') (a := x) (o := erO x t.c_NoSheet dd)
  have ed := s2 _ _ hd
  have cl := T.X_NoSheet.cl
  have gx := T.g_NoSheet
  refine ⟨_, rfl, x, _, dd, _, _, _, true, rfl, ex, ed, cl, gx, .inr (.inl ⟨_, rfl, T.y_self⟩), true, rfl, iteT ?_⟩
  refine ⟨_, rfl, x, _, dd, _, _, _, true, rfl, ex, ed, cl, gx, .inl ⟨_, rfl, T.y_val⟩, true, rfl, iteT ?_⟩
  refine ⟨_, rfl, (by show 3 ≤ sizeLine; decide), fun p2 g2 => ?_⟩
  have s4 := same_new g2 (.tup [.ref t.c_NoPlan, .ref t.c_NoRule, .ref t.c_NoStretch])
  refine ⟨x, _, dd, _, _, _, false, rfl, s4 _ _ ex, s4 _ _ ed, cl, gx, .inr (.inr ⟨p2, [t.c_NoPlan, t.c_NoRule, t.c_NoStretch], rfl, upd_same, T.y_not⟩), false, rfl, iteT ?_⟩
  refine ⟨_, rfl, x, t.c_NoSheet, dd, _, _, .str w, rfl, .inl (s4 _ _ ex), s4 _ _ ed, cl, gx, T.n_NoSheet_word, rfl, ?_⟩
  refine ⟨_, rfl, x, t.c_NoSheet, dd, _, _, .int n, rfl, .inl (s4 _ _ ex), s4 _ _ ed, cl, gx, T.n_NoSheet_number, rfl, (by show 2 ≤ sizeLine; decide), fun p3 g3 => ?_⟩
  have s5 := same_new g3 (.tup [.str w, .int n])
  exact ⟨_, rfl, k (some (w, n)) _ _ du (((s1.trans s2).trans s4).trans s5) (.tup (SqT.of upd_same) (.cons (.str _) (.cons (.int _) .nil)))⟩
theorem ok_law (T : Txt K mg t) : FnOk P w K mg base CX0 7 t.a_law t.d_law ["_law_script"] (sp_law K) := by
  refine T.F_law.ok sc_law (fun vs H Q E h => ?_) (fun cdv A outer s H vs Q E hr h => ?_)
  · obtain ⟨_, _, rfl, _⟩ := h; rfl
  obtain ⟨a, ns, rfl, hS, hl, k⟩ := h
  refine QSs.ok (qss_cons (qs_set (i := 1) sc_law.nd rfl (by first | exact Or.inl rfl | exact Or.inr rfl) (qe_call (ok_law_tape T) (hr.mono (by decide)) rfl T.m_law_tape T.F_law_tape.kp T.b_law_tape .nil pass0 (qa_cons (qv 0) qa_nil star_name)))
      (qss_cons (qs_for PassesOwn.never rfl (qi_range1 rfl T.z_range (qa_cons qe_int qa_nil star_con)) (qg_name (i := 2) sc_law.nd rfl (by first | exact Or.inl rfl | exact Or.inr rfl))
      (qss_cons (qs_set (i := 3) sc_law.nd rfl (by first | exact Or.inl rfl | exact Or.inr rfl) (qe_call (ok_law_works T) (hr.mono (by decide)) rfl T.m_law_works T.F_law_works.kp T.b_law_works .nil pass0 (qa_cons (qv 1) (qa_cons (qe_ix ix_list (qe_lst (qa_cons qe_int (qa_cons qe_int (qa_cons qe_int qa_nil star_con) star_con) star_con)) (qe_call (ok_law_draw T) (hr.mono (by decide)) rfl T.m_law_draw T.F_law_draw.kp T.b_law_draw .nil pass0 (qa_cons (qv 1) (qa_cons qe_int qa_nil star_con) star_name)) (fun _ _ => rfl)) (qa_cons qe_int qa_nil star_con) star_sub) star_name)))
      (qss_cons (qs_set (i := 4) sc_law.nd rfl (by first | exact Or.inl rfl | exact Or.inr rfl) (qe_tup (qa_cons (qv 3) (qa_cons (qe_call (ok_law_leans T) (hr.mono (by decide)) rfl T.m_law_leans T.F_law_leans.kp T.b_law_leans .nil pass0 (qa_cons (qv 1) (qa_cons (qe_callB call_len_seq (by rfl) T.z_len PySem.boot_len (qa_cons (qv 3) qa_nil star_name)) qa_nil star_call) star_name)) qa_nil star_call) star_name)))
      (qss_one (qs_for PassesOwn.never rfl (qi_list (qe_op op_cat (qe_lst (qa_cons (qv 4) qa_nil star_name)) (qe_lcomp (N' := ["_law_j", "_law_tape_here", "_law_sheet"]) (src := [none, some 1, some 4]) rfl (by exact (qi_range1 rfl T.z_range (qa_cons qe_int qa_nil star_con))) (fun _ _ _ _ _ => (by exact (by exact qg_name (i := 0) (by show List.Nodup (["_law_j", "_law_tape_here", "_law_sheet"] : List Str); decide +kernel) (by exact rfl) (by first | exact Or.inl rfl | exact Or.inr rfl)))) (fun _ _ _ _ _ => qts_nil) (fun _ _ _ _ _ => (by exact (by exact (qe_call (ok_law_bent T) (by exact hr.mono (by decide)) (by exact rfl) T.m_law_bent T.F_law_bent.kp T.b_law_bent (by exact .nil) (by exact pass0) (qa_cons (by exact (qv 1)) (qa_cons (by exact (qv 2)) qa_nil star_name) star_name))))) (by exact ⟨rfl, rfl, rfl, rfl, ⟨rfl, rfl, rfl, rfl, trivial⟩⟩) rfl (by decide +kernel) rfl (by decide +kernel) (by exact cells_of rfl ⟨rfl, ⟨rfl, trivial⟩⟩)))) (qg_name (i := 5) sc_law.nd rfl (by first | exact Or.inl rfl | exact Or.inr rfl))
      (qss_cons (qs_set (i := 6) sc_law.nd rfl (by first | exact Or.inl rfl | exact Or.inr rfl) (qe_callB (call_repr hr) (by rfl) T.z_repr PyProof.Rows.boot_repr (qa_cons (qv 5) qa_nil star_name)))
      (qss_one (qs_if (qw_pt (qw_or (qt_cmpR op_ne (qe_callB (call_repr hr) (by rfl) T.z_repr PyProof.Rows.boot_repr (qa_cons (qe_call (ok_law_told T) (hr.mono (by decide)) rfl T.m_law_told T.F_law_told.kp T.b_law_told .nil pass0 (qa_cons (qv 5) qa_nil star_name)) qa_nil star_call)) (qe_callB (call_repr hr) (by rfl) T.z_repr PyProof.Rows.boot_repr (qa_cons (qe_call (ok_law_due T) (hr.mono (by decide)) rfl T.m_law_due T.F_law_due.kp T.b_law_due .nil pass0 (qa_cons (qv 5) qa_nil star_name)) qa_nil star_call)) (nomark _)) (qw_or1 (qt_cmpR op_ne (qe_callB (call_repr hr) (by rfl) T.z_repr PyProof.Rows.boot_repr (qa_cons (qv 5) qa_nil star_name)) (qv 6) (nomark _))))) (qss_one (qs_ret qe_bl)) qss_nil))))))))
      (qss_one (qs_ret qe_bl)))) ?_
  refine ⟨_, rfl, a, ns, rfl, hS, fun t₁ s₁ H1 s1 ht hs T1 => ?_⟩
  refine ⟨4, rfl, by decide, by decide, for_range (lo := 0) (n := 4) (fun i σ H' => ∃ (x3 x4 x5 x6 x7 : Option V), σ = [some (.ref a), some (.ref t₁), x3, x4, x5, x6, x7] ∧ Tape H' t₁ s₁) ⟨none, none, none, none, none, rfl, T1⟩ ?_ ?_⟩
  · rintro i σ H2 hi ⟨x3, x4, x5, x6, x7, rfl, T2⟩
    refine ⟨_, rfl, (by show 3 ≤ sizeLine; decide), fun l3 h3 => ?_⟩
    have s3 := same_new h3 (.lst [.int 3, .int 6, .int 20])
    have h33 : upd H2 l3 (.lst [.int 3, .int 6, .int 20]) l3 = some (.lst [.int 3, .int 6, .int 20]) := upd_same
    have T3 := T2.same s3
    generalize upd H2 l3 (.lst [.int 3, .int 6, .int 20]) = H3 at s3 h33 T3 ⊢
    obtain ⟨y4, e4⟩ := T3.lst
    refine ⟨_, rfl, t₁, s₁, 3, rfl, T3, by decide, by decide, fun r4 z4 a4 b4 T4 => ?_⟩
    have S4 : Step t₁ H3 _ := Step.up (ys := z4) e4
    generalize upd H3 t₁ (.lst z4) = H4 at T4 S4 ⊢
    
    have n3 : l3 ≠ t₁ := fun z => by subst z; rw [h33] at e4; obtain ⟨_, _, _, _, q, _⟩ := T3.ex; rw [h33] at q; cases q
    have h34 := S4.keep _ _ n3 h33
    obtain ⟨m, hm, m20⟩ : ∃ m : Nat, atI [V.int 3, .int 6, .int 20] r4 = some (.int m) ∧ m ≤ 20 := by
      rcases (show r4 = 0 ∨ r4 = 1 ∨ r4 = 2 by omega) with rfl | rfl | rfl
      · exact ⟨3, rfl, by decide⟩
      · exact ⟨6, rfl, by decide⟩
      · exact ⟨20, rfl, by decide⟩
    refine ⟨l3, _, _, _, rfl, rfl, SqL.of h34, hm, t₁, s₁, m, 24, rfl, T4, m20, by decide, by decide, fun v ws H5 S5 T5 wv hw okw => ?_⟩
    obtain ⟨p, xs, rfl, hp, al⟩ := id wv
    refine ⟨_, rfl, _, rfl, _, rfl, p, _, rfl, .inr hp, t₁, s₁, ws.length, (by rw [al.len]; rfl), T5, by omega, fun vl es H8 S8 T8 lv eok rk e40 => ?_⟩
    obtain ⟨pl, ys, rfl, hpl, all_⟩ := lv
    refine ⟨(by show 2 ≤ sizeLine; decide), fun ps hps => ?_⟩
    have s9 := same_new hps (.tup [.ref p, .ref pl])
    have sh : ShB K (upd H8 ps (.tup [.ref p, .ref pl])) ps p pl xs ys ws es := by
      have t8 := (Tst.step (K := K) S8).trans (Tst.same s9)
      have t9 := Tst.same (K := K) s9
      exact ⟨SqT.of upd_same, t8 _ _ hp, al.mono fun _ _ q => q.mono t8, t9 _ _ hpl, all_.mono fun _ _ q => q.mono t9, by omega, e40, okw, eok⟩
    have T9 := T8.same s9
    generalize upd H8 ps (.tup [.ref p, .ref pl]) = H9 at sh T9 ⊢
    refine ⟨_, rfl, (by show 1 ≤ sizeLine; decide), fun l4 h4 => ?_⟩
    have s10 := same_new h4 (.lst [.ref ps])
    have hl4 : upd H9 l4 (.lst [.ref ps]) l4 = some (.lst [.ref ps]) := upd_same
    have T10 := T9.same s10
    have sh := sh.mono (Tst.same (K := K) s10)
    have n4 : l4 ≠ t₁ := fun z => by subst z; obtain ⟨_, q⟩ := T9.lst; rw [h4] at q; cases q
    generalize upd H9 l4 (.lst [.ref ps]) = H10 at sh T10 hl4 ⊢
    refine ⟨5, rfl, by decide, by decide, fun D hD => ?_⟩
    have nD : D ≠ t₁ := fun z => by subst z; obtain ⟨_, q⟩ := T10.lst; rw [hD] at q; cases q
    have nD4 : l4 ≠ D := fun z => by subst z; rw [hD] at hl4; cases hl4
    refine comp_own (J := Itr 0 5) (n := 5) (fun i ys H' => ys.length = i ∧ Step t₁ H10 H' ∧ Tape H' t₁ s₁ ∧ H' D = some (.lst ys) ∧ ∃ ds : List PyData, DeepAll K (hid H' t₁ D) ys ds ∧ ∀ d ∈ ds, Gd 8 8000000 d) ⟨rfl, Step.same (same_new hD _) T10.lst, T10.same (same_new hD _), upd_same, [], .nil, fun d hd => by cases hd⟩ (fun i ys H' hi _ => hi) (fun zs H11 ⟨e1, e2, e3, e4, ds, e5, e6⟩ => ⟨Nat.le_refl _, ?_⟩) ?_
    rotate_left
    · rintro i zs H11 x H12 hi ⟨e1, e2, e3, e4, ds, e5, e6⟩ ⟨rfl, rfl⟩ R E kR kE
      refine ⟨Ext.set rfl, ?_⟩
      refine ⟨_, rfl, _, rfl, t₁, s₁, D, ps, p, pl, xs, ys, ws, es, rfl, e3, nD, ⟨_, e4⟩, sh.mono (Tst.step (K := K) e2), fun u d H13 S13 T13 dd gg => ?_⟩
      have hD4 := S13.keep _ _ nD e4
      have up : Same (hid H13 t₁ D) (hid (upd H13 D (.lst (zs ++ [u]))) t₁ D) := hd_up nD
      refine kR u _ hD4 (small1000 (by omega)) ⟨by rw [List.length_append, e1]; rfl, ⟨fun b o nb q => ?_, T10.lst, ?_⟩, ?_, upd_same, ds ++ [d], ?_, ?_⟩
      · rw [upd_ne (ne_of_none q hD)]
        exact S13.keep _ _ nb (e2.keep _ _ nb q)
      · obtain ⟨y, hy⟩ := T13.lst
        exact ⟨y, by rw [upd_ne (Ne.symm nD)]; exact hy⟩
      · refine T13.upl nD (fun z => ?_) _
        obtain ⟨y, hy⟩ := T10.scr
        rw [← z, hD] at hy
        cases hy
      · exact DeepAll.app (DeepAll.same up (DeepAll.same (hd_step S13) e5)) (.cons (dd.same up) .nil)
      · exact gd_app e6 fun e he => by rw [List.mem_singleton.mp he]; exact gg
    refine ⟨l4, D, _, _, rfl, rfl, e2.keep _ _ n4 hl4, e4, Nat.le_trans (show _ ≤ 1000 by rw [e1]; show 1 + 5 ≤ 1000; decide) (by show 1000 ≤ sizeLine; decide), fun l5 h5 => ?_⟩
    have s12 := same_new h5 (.lst ([V.ref ps] ++ zs))
    have hl5 : upd H11 l5 (.lst ([V.ref ps] ++ zs)) l5 = some (.lst ([V.ref ps] ++ zs)) := upd_same
    have T12 := e3.same s12
    have sh2 := (sh.mono (Tst.step (K := K) e2)).mono (Tst.same (K := K) s12)
    have dal : DeepAll K (upd H11 l5 (.lst ([V.ref ps] ++ zs))) ([V.ref ps] ++ zs) ([.tuple [.tuple (ws.map dWk), .tuple (es.map dLnB)]] ++ ds) := DeepAll.app (.cons sh2.deep .nil) (DeepAll.same s12 (DeepAll.same hd_full e5))
    have gal : ∀ d ∈ ([.tuple [.tuple (ws.map dWk), .tuple (es.map dLnB)]] ++ ds : List PyData), Gd 8 8000000 d := gd_app (fun e he => by rw [List.mem_singleton.mp he]; exact sh.gd) e6
    generalize upd H11 l5 (.lst ([V.ref ps] ++ zs)) = H12 at T12 hl5 dal ⊢
    generalize [V.ref ps] ++ zs = us at hl5 dal ⊢
    generalize ([.tuple [.tuple (ws.map dWk), .tuple (es.map dLnB)]] ++ ds : List PyData) = es2 at dal gal
    have ul := dal.len
    refine ⟨l5, rfl, ⟨_, SqL.of hl5⟩, for_list (K := K) (a := l5) (xs := us) (fun j σ H' => ∃ (x6 x7 : Option V), σ = [some (.ref a), some (.ref t₁), some (.int (0 + (i : Int))), some (.ref p), some (.ref ps), x6, x7] ∧ Same H12 H') ⟨_, _, rfl, Same.refl _⟩ (fun j σ H' _ ⟨_, _, _, s⟩ => s.seq (SqL.of hl5)) ?_ ?_⟩
    · rintro j x σ H13 hx ⟨x6, x7, rfl, s13⟩
      obtain ⟨de, hde⟩ : ∃ d, es2[j]? = some d := ⟨_, List.getElem?_eq_getElem (by have := (List.getElem?_eq_some_iff.mp hx).1; omega)⟩
      obtain ⟨v, hv, dv⟩ := DeepAll.atN dal hde
      rw [hx] at hv
      cases hv
      have dv := dv.same s13
      have gv := (gal de (List.mem_of_getElem? hde)).sh.shows (by decide) (by decide)
      refine ⟨_, rfl, x, de, rfl, dv, gv, ?_⟩
      refine ⟨_, rfl, x, de, rfl, dv, fun r u H14 du s14 dr => ?_⟩
      refine ⟨u, _, rfl, dr, (gd_due du).sh.shows (by decide) (by decide), ?_⟩
      refine ⟨_, rfl, x, de, rfl, dv.same s14, fun r' u' H15 du' s15 dr' => ?_⟩
      have e9 := du.uniq du'
      subst e9
      refine ⟨u', _, rfl, dr', (gd_due du).sh.shows (by decide) (by decide), ?_⟩
      refine ⟨rfl, _, rfl, iteNS rfl ?_⟩
      refine ⟨_, rfl, x, de, rfl, (dv.same s14).same s15, gv, _, rfl, rfl, _, rfl, iteNS rfl ?_⟩
      exact ⟨_, _, rfl, (s13.trans s14).trans s15⟩
    · rintro σ H13 ⟨x6, x7, rfl, s13⟩
      exact ⟨_, _, _, _, _, rfl, T12.same s13⟩
  · rintro σ H2 ⟨x3, x4, x5, x6, x7, rfl, T2⟩
    exact k _
end
theorem all_mk {l : PySem.W.OpenLaw} {w : World} {K : PySem.W.Frag} {h : Heap} {mg : Str → Option Value} {fa : Addr} (X : K.In h) (G : h.Ns mainGlobals mg) (hfa : mg "law" = some (.ref fa))
    {f_is_whole : Addr} {od_is_whole an_is_whole : Option Addr} {sl_is_whole : Array (Option Value)} {oc_is_whole kV_is_whole dc_is_whole pm_is_whole cd_is_whole ct_is_whole : Value}
    (p_is_whole : PySem.W.nsIn K mainGlobals "is_whole" = some (some (.ref f_is_whole))) (l_is_whole : K.lookup f_is_whole = some ⟨oc_is_whole, od_is_whole, .func (PySem.W.fnOf "is_whole" "is_whole" (defArgs s_is_whole) (defBody s_is_whole) (defScope s_is_whole) .none kV_is_whole dc_is_whole pm_is_whole an_is_whole cd_is_whole ct_is_whole), sl_is_whole⟩) (c_is_whole : PySem.W.codeIn K cd_is_whole "is_whole" = true) (k_is_whole : PySem.W.keepIn K (.ref f_is_whole) = true)
    {f_is_tuple_of : Addr} {od_is_tuple_of an_is_tuple_of : Option Addr} {sl_is_tuple_of : Array (Option Value)} {oc_is_tuple_of kV_is_tuple_of dc_is_tuple_of pm_is_tuple_of cd_is_tuple_of ct_is_tuple_of : Value}
    (p_is_tuple_of : PySem.W.nsIn K mainGlobals "is_tuple_of" = some (some (.ref f_is_tuple_of))) (l_is_tuple_of : K.lookup f_is_tuple_of = some ⟨oc_is_tuple_of, od_is_tuple_of, .func (PySem.W.fnOf "is_tuple_of" "is_tuple_of" (defArgs s_is_tuple_of) (defBody s_is_tuple_of) (defScope s_is_tuple_of) .none kV_is_tuple_of dc_is_tuple_of pm_is_tuple_of an_is_tuple_of cd_is_tuple_of ct_is_tuple_of), sl_is_tuple_of⟩) (c_is_tuple_of : PySem.W.codeIn K cd_is_tuple_of "is_tuple_of" = true) (k_is_tuple_of : PySem.W.keepIn K (.ref f_is_tuple_of) = true)
    {f_is_number_of : Addr} {od_is_number_of an_is_number_of : Option Addr} {sl_is_number_of : Array (Option Value)} {oc_is_number_of kV_is_number_of dc_is_number_of pm_is_number_of cd_is_number_of ct_is_number_of : Value}
    (p_is_number_of : PySem.W.nsIn K mainGlobals "is_number_of" = some (some (.ref f_is_number_of))) (l_is_number_of : K.lookup f_is_number_of = some ⟨oc_is_number_of, od_is_number_of, .func (PySem.W.fnOf "is_number_of" "is_number_of" (defArgs s_is_number_of) (defBody s_is_number_of) (defScope s_is_number_of) .none kV_is_number_of dc_is_number_of pm_is_number_of an_is_number_of cd_is_number_of ct_is_number_of), sl_is_number_of⟩) (c_is_number_of : PySem.W.codeIn K cd_is_number_of "is_number_of" = true) (k_is_number_of : PySem.W.keepIn K (.ref f_is_number_of) = true)
    {f_copied : Addr} {od_copied an_copied : Option Addr} {sl_copied : Array (Option Value)} {oc_copied kV_copied dc_copied pm_copied cd_copied ct_copied : Value}
    (p_copied : PySem.W.nsIn K mainGlobals "copied" = some (some (.ref f_copied))) (l_copied : K.lookup f_copied = some ⟨oc_copied, od_copied, .func (PySem.W.fnOf "copied" "copied" (defArgs s_copied) (defBody s_copied) (defScope s_copied) .none kV_copied dc_copied pm_copied an_copied cd_copied ct_copied), sl_copied⟩) (c_copied : PySem.W.codeIn K cd_copied "copied" = true) (k_copied : PySem.W.keepIn K (.ref f_copied) = true)
    {f_greatest_divisor : Addr} {od_greatest_divisor an_greatest_divisor : Option Addr} {sl_greatest_divisor : Array (Option Value)} {oc_greatest_divisor kV_greatest_divisor dc_greatest_divisor pm_greatest_divisor cd_greatest_divisor ct_greatest_divisor : Value}
    (p_greatest_divisor : PySem.W.nsIn K mainGlobals "greatest_divisor" = some (some (.ref f_greatest_divisor))) (l_greatest_divisor : K.lookup f_greatest_divisor = some ⟨oc_greatest_divisor, od_greatest_divisor, .func (PySem.W.fnOf "greatest_divisor" "greatest_divisor" (defArgs s_greatest_divisor) (defBody s_greatest_divisor) (defScope s_greatest_divisor) .none kV_greatest_divisor dc_greatest_divisor pm_greatest_divisor an_greatest_divisor cd_greatest_divisor ct_greatest_divisor), sl_greatest_divisor⟩) (c_greatest_divisor : PySem.W.codeIn K cd_greatest_divisor "greatest_divisor" = true) (k_greatest_divisor : PySem.W.keepIn K (.ref f_greatest_divisor) = true)
    {f_is_ratio : Addr} {od_is_ratio an_is_ratio : Option Addr} {sl_is_ratio : Array (Option Value)} {oc_is_ratio kV_is_ratio dc_is_ratio pm_is_ratio cd_is_ratio ct_is_ratio : Value}
    (p_is_ratio : PySem.W.nsIn K mainGlobals "is_ratio" = some (some (.ref f_is_ratio))) (l_is_ratio : K.lookup f_is_ratio = some ⟨oc_is_ratio, od_is_ratio, .func (PySem.W.fnOf "is_ratio" "is_ratio" (defArgs s_is_ratio) (defBody s_is_ratio) (defScope s_is_ratio) .none kV_is_ratio dc_is_ratio pm_is_ratio an_is_ratio cd_is_ratio ct_is_ratio), sl_is_ratio⟩) (c_is_ratio : PySem.W.codeIn K cd_is_ratio "is_ratio" = true) (k_is_ratio : PySem.W.keepIn K (.ref f_is_ratio) = true)
    {f_is_above_nought : Addr} {od_is_above_nought an_is_above_nought : Option Addr} {sl_is_above_nought : Array (Option Value)} {oc_is_above_nought kV_is_above_nought dc_is_above_nought pm_is_above_nought cd_is_above_nought ct_is_above_nought : Value}
    (p_is_above_nought : PySem.W.nsIn K mainGlobals "is_above_nought" = some (some (.ref f_is_above_nought))) (l_is_above_nought : K.lookup f_is_above_nought = some ⟨oc_is_above_nought, od_is_above_nought, .func (PySem.W.fnOf "is_above_nought" "is_above_nought" (defArgs s_is_above_nought) (defBody s_is_above_nought) (defScope s_is_above_nought) .none kV_is_above_nought dc_is_above_nought pm_is_above_nought an_is_above_nought cd_is_above_nought ct_is_above_nought), sl_is_above_nought⟩) (c_is_above_nought : PySem.W.codeIn K cd_is_above_nought "is_above_nought" = true) (k_is_above_nought : PySem.W.keepIn K (.ref f_is_above_nought) = true)
    {f_is_sheet_shaped : Addr} {od_is_sheet_shaped an_is_sheet_shaped : Option Addr} {sl_is_sheet_shaped : Array (Option Value)} {oc_is_sheet_shaped kV_is_sheet_shaped dc_is_sheet_shaped pm_is_sheet_shaped cd_is_sheet_shaped ct_is_sheet_shaped : Value}
    (p_is_sheet_shaped : PySem.W.nsIn K mainGlobals "is_sheet_shaped" = some (some (.ref f_is_sheet_shaped))) (l_is_sheet_shaped : K.lookup f_is_sheet_shaped = some ⟨oc_is_sheet_shaped, od_is_sheet_shaped, .func (PySem.W.fnOf "is_sheet_shaped" "is_sheet_shaped" (defArgs s_is_sheet_shaped) (defBody s_is_sheet_shaped) (defScope s_is_sheet_shaped) .none kV_is_sheet_shaped dc_is_sheet_shaped pm_is_sheet_shaped an_is_sheet_shaped cd_is_sheet_shaped ct_is_sheet_shaped), sl_is_sheet_shaped⟩) (c_is_sheet_shaped : PySem.W.codeIn K cd_is_sheet_shaped "is_sheet_shaped" = true) (k_is_sheet_shaped : PySem.W.keepIn K (.ref f_is_sheet_shaped) = true)
    {f_is_work : Addr} {od_is_work an_is_work : Option Addr} {sl_is_work : Array (Option Value)} {oc_is_work kV_is_work dc_is_work pm_is_work cd_is_work ct_is_work : Value}
    (p_is_work : PySem.W.nsIn K mainGlobals "is_work" = some (some (.ref f_is_work))) (l_is_work : K.lookup f_is_work = some ⟨oc_is_work, od_is_work, .func (PySem.W.fnOf "is_work" "is_work" (defArgs s_is_work) (defBody s_is_work) (defScope s_is_work) .none kV_is_work dc_is_work pm_is_work an_is_work cd_is_work ct_is_work), sl_is_work⟩) (c_is_work : PySem.W.codeIn K cd_is_work "is_work" = true) (k_is_work : PySem.W.keepIn K (.ref f_is_work) = true)
    {f_is_lean : Addr} {od_is_lean an_is_lean : Option Addr} {sl_is_lean : Array (Option Value)} {oc_is_lean kV_is_lean dc_is_lean pm_is_lean cd_is_lean ct_is_lean : Value}
    (p_is_lean : PySem.W.nsIn K mainGlobals "is_lean" = some (some (.ref f_is_lean))) (l_is_lean : K.lookup f_is_lean = some ⟨oc_is_lean, od_is_lean, .func (PySem.W.fnOf "is_lean" "is_lean" (defArgs s_is_lean) (defBody s_is_lean) (defScope s_is_lean) .none kV_is_lean dc_is_lean pm_is_lean an_is_lean cd_is_lean ct_is_lean), sl_is_lean⟩) (c_is_lean : PySem.W.codeIn K cd_is_lean "is_lean" = true) (k_is_lean : PySem.W.keepIn K (.ref f_is_lean) = true)
    {f_no_leanings : Addr} {od_no_leanings an_no_leanings : Option Addr} {sl_no_leanings : Array (Option Value)} {oc_no_leanings kV_no_leanings dc_no_leanings pm_no_leanings cd_no_leanings ct_no_leanings : Value}
    (p_no_leanings : PySem.W.nsIn K mainGlobals "no_leanings" = some (some (.ref f_no_leanings))) (l_no_leanings : K.lookup f_no_leanings = some ⟨oc_no_leanings, od_no_leanings, .func (PySem.W.fnOf "no_leanings" "no_leanings" (defArgs s_no_leanings) (defBody s_no_leanings) (defScope s_no_leanings) .none kV_no_leanings dc_no_leanings pm_no_leanings an_no_leanings cd_no_leanings ct_no_leanings), sl_no_leanings⟩) (c_no_leanings : PySem.W.codeIn K cd_no_leanings "no_leanings" = true) (k_no_leanings : PySem.W.keepIn K (.ref f_no_leanings) = true)
    {f_add_lean : Addr} {od_add_lean an_add_lean : Option Addr} {sl_add_lean : Array (Option Value)} {oc_add_lean kV_add_lean dc_add_lean pm_add_lean cd_add_lean ct_add_lean : Value}
    (p_add_lean : PySem.W.nsIn K mainGlobals "add_lean" = some (some (.ref f_add_lean))) (l_add_lean : K.lookup f_add_lean = some ⟨oc_add_lean, od_add_lean, .func (PySem.W.fnOf "add_lean" "add_lean" (defArgs s_add_lean) (defBody s_add_lean) (defScope s_add_lean) .none kV_add_lean dc_add_lean pm_add_lean an_add_lean cd_add_lean ct_add_lean), sl_add_lean⟩) (c_add_lean : PySem.W.codeIn K cd_add_lean "add_lean" = true) (k_add_lean : PySem.W.keepIn K (.ref f_add_lean) = true)
    {f_first_ring : Addr} {od_first_ring an_first_ring : Option Addr} {sl_first_ring : Array (Option Value)} {oc_first_ring kV_first_ring dc_first_ring pm_first_ring cd_first_ring ct_first_ring : Value}
    (p_first_ring : PySem.W.nsIn K mainGlobals "first_ring" = some (some (.ref f_first_ring))) (l_first_ring : K.lookup f_first_ring = some ⟨oc_first_ring, od_first_ring, .func (PySem.W.fnOf "first_ring" "first_ring" (defArgs s_first_ring) (defBody s_first_ring) (defScope s_first_ring) .none kV_first_ring dc_first_ring pm_first_ring an_first_ring cd_first_ring ct_first_ring), sl_first_ring⟩) (c_first_ring : PySem.W.codeIn K cd_first_ring "first_ring" = true) (k_first_ring : PySem.W.keepIn K (.ref f_first_ring) = true)
    {f_right_sheet : Addr} {od_right_sheet an_right_sheet : Option Addr} {sl_right_sheet : Array (Option Value)} {oc_right_sheet kV_right_sheet dc_right_sheet pm_right_sheet cd_right_sheet ct_right_sheet : Value}
    (p_right_sheet : PySem.W.nsIn K mainGlobals "right_sheet" = some (some (.ref f_right_sheet))) (l_right_sheet : K.lookup f_right_sheet = some ⟨oc_right_sheet, od_right_sheet, .func (PySem.W.fnOf "right_sheet" "right_sheet" (defArgs s_right_sheet) (defBody s_right_sheet) (defScope s_right_sheet) .none kV_right_sheet dc_right_sheet pm_right_sheet an_right_sheet cd_right_sheet ct_right_sheet), sl_right_sheet⟩) (c_right_sheet : PySem.W.codeIn K cd_right_sheet "right_sheet" = true) (k_right_sheet : PySem.W.keepIn K (.ref f_right_sheet) = true)
    {f_law_tape : Addr} {od_law_tape an_law_tape : Option Addr} {sl_law_tape : Array (Option Value)} {oc_law_tape kV_law_tape dc_law_tape pm_law_tape cd_law_tape ct_law_tape : Value}
    (p_law_tape : PySem.W.nsIn K mainGlobals "_law_tape" = some (some (.ref f_law_tape))) (l_law_tape : K.lookup f_law_tape = some ⟨oc_law_tape, od_law_tape, .func (PySem.W.fnOf "_law_tape" "_law_tape" (defArgs s_law_tape) (defBody s_law_tape) (defScope s_law_tape) .none kV_law_tape dc_law_tape pm_law_tape an_law_tape cd_law_tape ct_law_tape), sl_law_tape⟩) (c_law_tape : PySem.W.codeIn K cd_law_tape "_law_tape" = true) (k_law_tape : PySem.W.keepIn K (.ref f_law_tape) = true)
    {f_law_draw : Addr} {od_law_draw an_law_draw : Option Addr} {sl_law_draw : Array (Option Value)} {oc_law_draw kV_law_draw dc_law_draw pm_law_draw cd_law_draw ct_law_draw : Value}
    (p_law_draw : PySem.W.nsIn K mainGlobals "_law_draw" = some (some (.ref f_law_draw))) (l_law_draw : K.lookup f_law_draw = some ⟨oc_law_draw, od_law_draw, .func (PySem.W.fnOf "_law_draw" "_law_draw" (defArgs s_law_draw) (defBody s_law_draw) (defScope s_law_draw) .none kV_law_draw dc_law_draw pm_law_draw an_law_draw cd_law_draw ct_law_draw), sl_law_draw⟩) (c_law_draw : PySem.W.codeIn K cd_law_draw "_law_draw" = true) (k_law_draw : PySem.W.keepIn K (.ref f_law_draw) = true)
    {f_law_gcd : Addr} {od_law_gcd an_law_gcd : Option Addr} {sl_law_gcd : Array (Option Value)} {oc_law_gcd kV_law_gcd dc_law_gcd pm_law_gcd cd_law_gcd ct_law_gcd : Value}
    (p_law_gcd : PySem.W.nsIn K mainGlobals "_law_gcd" = some (some (.ref f_law_gcd))) (l_law_gcd : K.lookup f_law_gcd = some ⟨oc_law_gcd, od_law_gcd, .func (PySem.W.fnOf "_law_gcd" "_law_gcd" (defArgs s_law_gcd) (defBody s_law_gcd) (defScope s_law_gcd) .none kV_law_gcd dc_law_gcd pm_law_gcd an_law_gcd cd_law_gcd ct_law_gcd), sl_law_gcd⟩) (c_law_gcd : PySem.W.codeIn K cd_law_gcd "_law_gcd" = true) (k_law_gcd : PySem.W.keepIn K (.ref f_law_gcd) = true)
    {f_law_ratio : Addr} {od_law_ratio an_law_ratio : Option Addr} {sl_law_ratio : Array (Option Value)} {oc_law_ratio kV_law_ratio dc_law_ratio pm_law_ratio cd_law_ratio ct_law_ratio : Value}
    (p_law_ratio : PySem.W.nsIn K mainGlobals "_law_ratio" = some (some (.ref f_law_ratio))) (l_law_ratio : K.lookup f_law_ratio = some ⟨oc_law_ratio, od_law_ratio, .func (PySem.W.fnOf "_law_ratio" "_law_ratio" (defArgs s_law_ratio) (defBody s_law_ratio) (defScope s_law_ratio) .none kV_law_ratio dc_law_ratio pm_law_ratio an_law_ratio cd_law_ratio ct_law_ratio), sl_law_ratio⟩) (c_law_ratio : PySem.W.codeIn K cd_law_ratio "_law_ratio" = true) (k_law_ratio : PySem.W.keepIn K (.ref f_law_ratio) = true)
    {f_law_part : Addr} {od_law_part an_law_part : Option Addr} {sl_law_part : Array (Option Value)} {oc_law_part kV_law_part dc_law_part pm_law_part cd_law_part ct_law_part : Value}
    (p_law_part : PySem.W.nsIn K mainGlobals "_law_part" = some (some (.ref f_law_part))) (l_law_part : K.lookup f_law_part = some ⟨oc_law_part, od_law_part, .func (PySem.W.fnOf "_law_part" "_law_part" (defArgs s_law_part) (defBody s_law_part) (defScope s_law_part) .none kV_law_part dc_law_part pm_law_part an_law_part cd_law_part ct_law_part), sl_law_part⟩) (c_law_part : PySem.W.codeIn K cd_law_part "_law_part" = true) (k_law_part : PySem.W.keepIn K (.ref f_law_part) = true)
    {f_law_works : Addr} {od_law_works an_law_works : Option Addr} {sl_law_works : Array (Option Value)} {oc_law_works kV_law_works dc_law_works pm_law_works cd_law_works ct_law_works : Value}
    (p_law_works : PySem.W.nsIn K mainGlobals "_law_works" = some (some (.ref f_law_works))) (l_law_works : K.lookup f_law_works = some ⟨oc_law_works, od_law_works, .func (PySem.W.fnOf "_law_works" "_law_works" (defArgs s_law_works) (defBody s_law_works) (defScope s_law_works) .none kV_law_works dc_law_works pm_law_works an_law_works cd_law_works ct_law_works), sl_law_works⟩) (c_law_works : PySem.W.codeIn K cd_law_works "_law_works" = true) (k_law_works : PySem.W.keepIn K (.ref f_law_works) = true)
    {f_law_leans : Addr} {od_law_leans an_law_leans : Option Addr} {sl_law_leans : Array (Option Value)} {oc_law_leans kV_law_leans dc_law_leans pm_law_leans cd_law_leans ct_law_leans : Value}
    (p_law_leans : PySem.W.nsIn K mainGlobals "_law_leans" = some (some (.ref f_law_leans))) (l_law_leans : K.lookup f_law_leans = some ⟨oc_law_leans, od_law_leans, .func (PySem.W.fnOf "_law_leans" "_law_leans" (defArgs s_law_leans) (defBody s_law_leans) (defScope s_law_leans) .none kV_law_leans dc_law_leans pm_law_leans an_law_leans cd_law_leans ct_law_leans), sl_law_leans⟩) (c_law_leans : PySem.W.codeIn K cd_law_leans "_law_leans" = true) (k_law_leans : PySem.W.keepIn K (.ref f_law_leans) = true)
    {f_law_whole : Addr} {od_law_whole an_law_whole : Option Addr} {sl_law_whole : Array (Option Value)} {oc_law_whole kV_law_whole dc_law_whole pm_law_whole cd_law_whole ct_law_whole : Value}
    (p_law_whole : PySem.W.nsIn K mainGlobals "_law_whole" = some (some (.ref f_law_whole))) (l_law_whole : K.lookup f_law_whole = some ⟨oc_law_whole, od_law_whole, .func (PySem.W.fnOf "_law_whole" "_law_whole" (defArgs s_law_whole) (defBody s_law_whole) (defScope s_law_whole) .none kV_law_whole dc_law_whole pm_law_whole an_law_whole cd_law_whole ct_law_whole), sl_law_whole⟩) (c_law_whole : PySem.W.codeIn K cd_law_whole "_law_whole" = true) (k_law_whole : PySem.W.keepIn K (.ref f_law_whole) = true)
    {f_law_is_work : Addr} {od_law_is_work an_law_is_work : Option Addr} {sl_law_is_work : Array (Option Value)} {oc_law_is_work kV_law_is_work dc_law_is_work pm_law_is_work cd_law_is_work ct_law_is_work : Value}
    (p_law_is_work : PySem.W.nsIn K mainGlobals "_law_is_work" = some (some (.ref f_law_is_work))) (l_law_is_work : K.lookup f_law_is_work = some ⟨oc_law_is_work, od_law_is_work, .func (PySem.W.fnOf "_law_is_work" "_law_is_work" (defArgs s_law_is_work) (defBody s_law_is_work) (defScope s_law_is_work) .none kV_law_is_work dc_law_is_work pm_law_is_work an_law_is_work cd_law_is_work ct_law_is_work), sl_law_is_work⟩) (c_law_is_work : PySem.W.codeIn K cd_law_is_work "_law_is_work" = true) (k_law_is_work : PySem.W.keepIn K (.ref f_law_is_work) = true)
    {f_law_is_lean : Addr} {od_law_is_lean an_law_is_lean : Option Addr} {sl_law_is_lean : Array (Option Value)} {oc_law_is_lean kV_law_is_lean dc_law_is_lean pm_law_is_lean cd_law_is_lean ct_law_is_lean : Value}
    (p_law_is_lean : PySem.W.nsIn K mainGlobals "_law_is_lean" = some (some (.ref f_law_is_lean))) (l_law_is_lean : K.lookup f_law_is_lean = some ⟨oc_law_is_lean, od_law_is_lean, .func (PySem.W.fnOf "_law_is_lean" "_law_is_lean" (defArgs s_law_is_lean) (defBody s_law_is_lean) (defScope s_law_is_lean) .none kV_law_is_lean dc_law_is_lean pm_law_is_lean an_law_is_lean cd_law_is_lean ct_law_is_lean), sl_law_is_lean⟩) (c_law_is_lean : PySem.W.codeIn K cd_law_is_lean "_law_is_lean" = true) (k_law_is_lean : PySem.W.keepIn K (.ref f_law_is_lean) = true)
    {f_law_rings : Addr} {od_law_rings an_law_rings : Option Addr} {sl_law_rings : Array (Option Value)} {oc_law_rings kV_law_rings dc_law_rings pm_law_rings cd_law_rings ct_law_rings : Value}
    (p_law_rings : PySem.W.nsIn K mainGlobals "_law_rings" = some (some (.ref f_law_rings))) (l_law_rings : K.lookup f_law_rings = some ⟨oc_law_rings, od_law_rings, .func (PySem.W.fnOf "_law_rings" "_law_rings" (defArgs s_law_rings) (defBody s_law_rings) (defScope s_law_rings) .none kV_law_rings dc_law_rings pm_law_rings an_law_rings cd_law_rings ct_law_rings), sl_law_rings⟩) (c_law_rings : PySem.W.codeIn K cd_law_rings "_law_rings" = true) (k_law_rings : PySem.W.keepIn K (.ref f_law_rings) = true)
    {f_law_due : Addr} {od_law_due an_law_due : Option Addr} {sl_law_due : Array (Option Value)} {oc_law_due kV_law_due dc_law_due pm_law_due cd_law_due ct_law_due : Value}
    (p_law_due : PySem.W.nsIn K mainGlobals "_law_due" = some (some (.ref f_law_due))) (l_law_due : K.lookup f_law_due = some ⟨oc_law_due, od_law_due, .func (PySem.W.fnOf "_law_due" "_law_due" (defArgs s_law_due) (defBody s_law_due) (defScope s_law_due) .none kV_law_due dc_law_due pm_law_due an_law_due cd_law_due ct_law_due), sl_law_due⟩) (c_law_due : PySem.W.codeIn K cd_law_due "_law_due" = true) (k_law_due : PySem.W.keepIn K (.ref f_law_due) = true)
    {f_law_bent_work : Addr} {od_law_bent_work an_law_bent_work : Option Addr} {sl_law_bent_work : Array (Option Value)} {oc_law_bent_work kV_law_bent_work dc_law_bent_work pm_law_bent_work cd_law_bent_work ct_law_bent_work : Value}
    (p_law_bent_work : PySem.W.nsIn K mainGlobals "_law_bent_work" = some (some (.ref f_law_bent_work))) (l_law_bent_work : K.lookup f_law_bent_work = some ⟨oc_law_bent_work, od_law_bent_work, .func (PySem.W.fnOf "_law_bent_work" "_law_bent_work" (defArgs s_law_bent_work) (defBody s_law_bent_work) (defScope s_law_bent_work) .none kV_law_bent_work dc_law_bent_work pm_law_bent_work an_law_bent_work cd_law_bent_work ct_law_bent_work), sl_law_bent_work⟩) (c_law_bent_work : PySem.W.codeIn K cd_law_bent_work "_law_bent_work" = true) (k_law_bent_work : PySem.W.keepIn K (.ref f_law_bent_work) = true)
    {f_law_bent : Addr} {od_law_bent an_law_bent : Option Addr} {sl_law_bent : Array (Option Value)} {oc_law_bent kV_law_bent dc_law_bent pm_law_bent cd_law_bent ct_law_bent : Value}
    (p_law_bent : PySem.W.nsIn K mainGlobals "_law_bent" = some (some (.ref f_law_bent))) (l_law_bent : K.lookup f_law_bent = some ⟨oc_law_bent, od_law_bent, .func (PySem.W.fnOf "_law_bent" "_law_bent" (defArgs s_law_bent) (defBody s_law_bent) (defScope s_law_bent) .none kV_law_bent dc_law_bent pm_law_bent an_law_bent cd_law_bent ct_law_bent), sl_law_bent⟩) (c_law_bent : PySem.W.codeIn K cd_law_bent "_law_bent" = true) (k_law_bent : PySem.W.keepIn K (.ref f_law_bent) = true)
    {f_law_told : Addr} {od_law_told an_law_told : Option Addr} {sl_law_told : Array (Option Value)} {oc_law_told kV_law_told dc_law_told pm_law_told cd_law_told ct_law_told : Value}
    (p_law_told : PySem.W.nsIn K mainGlobals "_law_told" = some (some (.ref f_law_told))) (l_law_told : K.lookup f_law_told = some ⟨oc_law_told, od_law_told, .func (PySem.W.fnOf "_law_told" "_law_told" (defArgs s_law_told) (defBody s_law_told) (defScope s_law_told) .none kV_law_told dc_law_told pm_law_told an_law_told cd_law_told ct_law_told), sl_law_told⟩) (c_law_told : PySem.W.codeIn K cd_law_told "_law_told" = true) (k_law_told : PySem.W.keepIn K (.ref f_law_told) = true)
    {f_law : Addr} {od_law an_law : Option Addr} {sl_law : Array (Option Value)} {oc_law kV_law dc_law pm_law cd_law ct_law : Value}
    (p_law : PySem.W.nsIn K mainGlobals "law" = some (some (.ref f_law))) (l_law : K.lookup f_law = some ⟨oc_law, od_law, .func (PySem.W.fnOf "law" "law" (defArgs s_law) (defBody s_law) (defScope s_law) .none kV_law dc_law pm_law an_law cd_law ct_law), sl_law⟩) (c_law : PySem.W.codeIn K cd_law "law" = true) (k_law : PySem.W.keepIn K (.ref f_law) = true)
    {tkTURNS : Tok} (p_TURNS : PySem.W.nsIn K mainGlobals "TURNS" = some (some (.int (24) tkTURNS)))
    {tkMOST_WORKS : Tok} (p_MOST_WORKS : PySem.W.nsIn K mainGlobals "MOST_WORKS" = some (some (.int (20) tkMOST_WORKS)))
    {tkMOST_LEANS : Tok} (p_MOST_LEANS : PySem.W.nsIn K mainGlobals "MOST_LEANS" = some (some (.int (40) tkMOST_LEANS)))
    {cB NB : Addr} {nmB qB : Str} {bsB : List Value} {hdB : Bool} {snB : List Str} {suB : List Value} {abB : Bool} {coB : Option Bool} {ddB : Option Addr} {j0 j1 j2 j3 j5 : Option Value} {ocB : Value} {odB : Option Addr} {esB : Array DictEntry} {nB : Nat} {slB : Array (Option Value)}
    (pB : PySem.W.nsIn K mainGlobals "PaceError" = some (some (.ref cB))) (lB : K.lookup cB = some (excClassObj nmB qB cB NB bsB [.type "ValueError", .type "Exception", .type "BaseException", .type "object"] hdB snB suB abB coB ddB j0 j1 j2 j3 j5 "ValueError.__new__")) (lnB : K.lookup NB = some ⟨ocB, odB, .dict esB nB, slB⟩) (hsB : strKeysB esB = true) (hnB : (nsFind esB "__init__").isNone = true)
    (cgB : PySem.W.specialIn K (.builtin "object.__class__") "__get__" = some (some (.builtin "getset_descriptor.__get__"))) (ctB : PySem.W.takesIn K (.builtin "object.__class__") = some true)
    {c_NoSheet N_NoSheet i_NoSheet : Addr} {nm_NoSheet q_NoSheet : Str} {bs_NoSheet : List Value} {hd_NoSheet : Bool} {sn_NoSheet : List Str} {su_NoSheet : List Value} {ab_NoSheet : Bool} {co_NoSheet : Option Bool} {dd_NoSheet : Option Addr} {k0_NoSheet k1_NoSheet k2_NoSheet k3_NoSheet k5_NoSheet : Option Value} {od_NoSheet an_NoSheet : Option Addr} {sl_NoSheet : Array (Option Value)} {oc_NoSheet kV_NoSheet dc_NoSheet pm_NoSheet cd_NoSheet ct_NoSheet : Value}
    (p_NoSheet : PySem.W.nsIn K mainGlobals "NoSheet" = some (some (.ref c_NoSheet))) (lc_NoSheet : K.lookup c_NoSheet = some (excClassObj nm_NoSheet q_NoSheet c_NoSheet N_NoSheet bs_NoSheet (.ref cB :: [.type "ValueError", .type "Exception", .type "BaseException", .type "object"]) hd_NoSheet sn_NoSheet su_NoSheet ab_NoSheet co_NoSheet dd_NoSheet k0_NoSheet k1_NoSheet k2_NoSheet k3_NoSheet k5_NoSheet "ValueError.__new__")) (fi_NoSheet : PySem.W.findIn K (.ref c_NoSheet) "__init__" = some (some (.ref i_NoSheet)))
    (l_NoSheet : K.lookup i_NoSheet = some ⟨oc_NoSheet, od_NoSheet, .func (PySem.W.fnOf "__init__" "NoSheet.__init__" (defArgs s_NoSheet) (defBody s_NoSheet) (defScope s_NoSheet) .none kV_NoSheet dc_NoSheet pm_NoSheet an_NoSheet cd_NoSheet ct_NoSheet), sl_NoSheet⟩) (cd_NoSheet_ : PySem.W.codeIn K cd_NoSheet "NoSheet.__init__" = true) (ki_NoSheet : PySem.W.keepIn K (.ref i_NoSheet) = true) (ti_NoSheet : PySem.W.typeIn K (.ref i_NoSheet) = some (.type "function")) (kc_NoSheet : PySem.W.keepIn K (.ref c_NoSheet) = true)
    (hh_NoSheet : PySem.W.hasDictIn K c_NoSheet = true) (sa_NoSheet : PySem.W.findIn K (.ref c_NoSheet) "__setattr__" = some (some (.builtin "object.__setattr__")))
    (na_NoSheet_word : PySem.W.findIn K (.ref c_NoSheet) "word" = some none) (na_NoSheet_number : PySem.W.findIn K (.ref c_NoSheet) "number" = some none) (ga_NoSheet : PySem.W.findIn K (.ref c_NoSheet) "__getattribute__" = some (some (.builtin "BaseException.__getattribute__"))) (gn_NoSheet : PySem.W.findIn K (.ref c_NoSheet) "__getattr__" = some none) (cl_NoSheet : PySem.W.findIn K (.ref c_NoSheet) "__class__" = some (some (.builtin "object.__class__")))
    {c_PaceError : Addr} (p_PaceError : PySem.W.nsIn K mainGlobals "PaceError" = some (some (.ref c_PaceError)))
    {c_NoPlan : Addr} (p_NoPlan : PySem.W.nsIn K mainGlobals "NoPlan" = some (some (.ref c_NoPlan)))
    {c_NoRule : Addr} (p_NoRule : PySem.W.nsIn K mainGlobals "NoRule" = some (some (.ref c_NoRule)))
    {c_NoStretch : Addr} (p_NoStretch : PySem.W.nsIn K mainGlobals "NoStretch" = some (some (.ref c_NoStretch)))
    (w_x_catch : PySem.W.exmOne K (.ref c_NoSheet) (.ref c_PaceError) = some true)
    (w_y_self : PySem.W.kitOne K (.ref c_NoSheet) (.ref c_NoSheet) = some true)
    (w_y_val : PySem.W.kitOne K (.ref c_NoSheet) (.type "ValueError") = some true)
    (w_y_not : PySem.W.kitAny K (.ref c_NoSheet) [.ref c_NoPlan, .ref c_NoRule, .ref c_NoStretch] = some false)
    (z_ValueError : PySem.W.nsIn K mainGlobals "ValueError" = some none)
    (z_abs : PySem.W.nsIn K mainGlobals "abs" = some none)
    (z_bool : PySem.W.nsIn K mainGlobals "bool" = some none)
    (z_enumerate : PySem.W.nsIn K mainGlobals "enumerate" = some none)
    (z_int : PySem.W.nsIn K mainGlobals "int" = some none)
    (z_isinstance : PySem.W.nsIn K mainGlobals "isinstance" = some none)
    (z_len : PySem.W.nsIn K mainGlobals "len" = some none)
    (z_list : PySem.W.nsIn K mainGlobals "list" = some none)
    (z_max : PySem.W.nsIn K mainGlobals "max" = some none)
    (z_min : PySem.W.nsIn K mainGlobals "min" = some none)
    (z_range : PySem.W.nsIn K mainGlobals "range" = some none)
    (z_repr : PySem.W.nsIn K mainGlobals "repr" = some none)
    (z_tuple : PySem.W.nsIn K mainGlobals "tuple" = some none)
    : ∃ fd : FuncData, (∀ (s : Shared) (v : Value), BindsTo s fd ⟨[v], []⟩ [("_law_script", v)]) ∧ ∀ base : Heap, K.In base → base.Ns mainGlobals mg → FnOk l.prog w K mg base CX0 7 fa fd ["_law_script"] (sp_law K) := by
  have e := hfa.symm.trans (PySem.W.mg_of X G p_law)
  cases e
  have F_is_whole := fun_mk (st := s_is_whole) l_is_whole c_is_whole k_is_whole
  have b_is_whole := F_is_whole.binds (ps := ["thing"]) fun _ _ _ _ _ _ us hl => match us, hl with | [_], _ => rfl
  have F_is_tuple_of := fun_mk (st := s_is_tuple_of) l_is_tuple_of c_is_tuple_of k_is_tuple_of
  have b_is_tuple_of := F_is_tuple_of.binds (ps := ["thing", "length"]) fun _ _ _ _ _ _ us hl => match us, hl with | [_, _], _ => rfl
  have F_is_number_of := fun_mk (st := s_is_number_of) l_is_number_of c_is_number_of k_is_number_of
  have b_is_number_of := F_is_number_of.binds (ps := ["thing", "count"]) fun _ _ _ _ _ _ us hl => match us, hl with | [_, _], _ => rfl
  have F_copied := fun_mk (st := s_copied) l_copied c_copied k_copied
  have b_copied := F_copied.binds (ps := ["thing"]) fun _ _ _ _ _ _ us hl => match us, hl with | [_], _ => rfl
  have F_greatest_divisor := fun_mk (st := s_greatest_divisor) l_greatest_divisor c_greatest_divisor k_greatest_divisor
  have b_greatest_divisor := F_greatest_divisor.binds (ps := ["one", "other"]) fun _ _ _ _ _ _ us hl => match us, hl with | [_, _], _ => rfl
  have F_is_ratio := fun_mk (st := s_is_ratio) l_is_ratio c_is_ratio k_is_ratio
  have b_is_ratio := F_is_ratio.binds (ps := ["thing"]) fun _ _ _ _ _ _ us hl => match us, hl with | [_], _ => rfl
  have F_is_above_nought := fun_mk (st := s_is_above_nought) l_is_above_nought c_is_above_nought k_is_above_nought
  have b_is_above_nought := F_is_above_nought.binds (ps := ["thing"]) fun _ _ _ _ _ _ us hl => match us, hl with | [_], _ => rfl
  have F_is_sheet_shaped := fun_mk (st := s_is_sheet_shaped) l_is_sheet_shaped c_is_sheet_shaped k_is_sheet_shaped
  have b_is_sheet_shaped := F_is_sheet_shaped.binds (ps := ["thing"]) fun _ _ _ _ _ _ us hl => match us, hl with | [_], _ => rfl
  have F_is_work := fun_mk (st := s_is_work) l_is_work c_is_work k_is_work
  have b_is_work := F_is_work.binds (ps := ["thing"]) fun _ _ _ _ _ _ us hl => match us, hl with | [_], _ => rfl
  have F_is_lean := fun_mk (st := s_is_lean) l_is_lean c_is_lean k_is_lean
  have b_is_lean := F_is_lean.binds (ps := ["thing", "count"]) fun _ _ _ _ _ _ us hl => match us, hl with | [_, _], _ => rfl
  have F_no_leanings := fun_mk (st := s_no_leanings) l_no_leanings c_no_leanings k_no_leanings
  have b_no_leanings := F_no_leanings.binds (ps := ["count"]) fun _ _ _ _ _ _ us hl => match us, hl with | [_], _ => rfl
  have F_add_lean := fun_mk (st := s_add_lean) l_add_lean c_add_lean k_add_lean
  have b_add_lean := F_add_lean.binds (ps := ["leanings", "lean"]) fun _ _ _ _ _ _ us hl => match us, hl with | [_, _], _ => rfl
  have F_first_ring := fun_mk (st := s_first_ring) l_first_ring c_first_ring k_first_ring
  have b_first_ring := F_first_ring.binds (ps := ["count", "leans"]) fun _ _ _ _ _ _ us hl => match us, hl with | [_, _], _ => rfl
  have F_right_sheet := fun_mk (st := s_right_sheet) l_right_sheet c_right_sheet k_right_sheet
  have b_right_sheet := F_right_sheet.binds (ps := ["thing"]) fun _ _ _ _ _ _ us hl => match us, hl with | [_], _ => rfl
  have F_law_tape := fun_mk (st := s_law_tape) l_law_tape c_law_tape k_law_tape
  have b_law_tape := F_law_tape.binds (ps := ["_law_script"]) fun _ _ _ _ _ _ us hl => match us, hl with | [_], _ => rfl
  have F_law_draw := fun_mk (st := s_law_draw) l_law_draw c_law_draw k_law_draw
  have b_law_draw := F_law_draw.binds (ps := ["_law_tape_here", "_law_many"]) fun _ _ _ _ _ _ us hl => match us, hl with | [_, _], _ => rfl
  have F_law_gcd := fun_mk (st := s_law_gcd) l_law_gcd c_law_gcd k_law_gcd
  have b_law_gcd := F_law_gcd.binds (ps := ["_law_one", "_law_other"]) fun _ _ _ _ _ _ us hl => match us, hl with | [_, _], _ => rfl
  have F_law_ratio := fun_mk (st := s_law_ratio) l_law_ratio c_law_ratio k_law_ratio
  have b_law_ratio := F_law_ratio.binds (ps := ["_law_top", "_law_bottom"]) fun _ _ _ _ _ _ us hl => match us, hl with | [_, _], _ => rfl
  have F_law_part := fun_mk (st := s_law_part) l_law_part c_law_part k_law_part
  have b_law_part := F_law_part.binds (ps := ["_law_tape_here"]) fun _ _ _ _ _ _ us hl => match us, hl with | [_], _ => rfl
  have F_law_works := fun_mk (st := s_law_works) l_law_works c_law_works k_law_works
  have b_law_works := F_law_works.binds (ps := ["_law_tape_here", "_law_most", "_law_end"]) fun _ _ _ _ _ _ us hl => match us, hl with | [_, _, _], _ => rfl
  have F_law_leans := fun_mk (st := s_law_leans) l_law_leans c_law_leans k_law_leans
  have b_law_leans := F_law_leans.binds (ps := ["_law_tape_here", "_law_many"]) fun _ _ _ _ _ _ us hl => match us, hl with | [_, _], _ => rfl
  have F_law_whole := fun_mk (st := s_law_whole) l_law_whole c_law_whole k_law_whole
  have b_law_whole := F_law_whole.binds (ps := ["_law_thing"]) fun _ _ _ _ _ _ us hl => match us, hl with | [_], _ => rfl
  have F_law_is_work := fun_mk (st := s_law_is_work) l_law_is_work c_law_is_work k_law_is_work
  have b_law_is_work := F_law_is_work.binds (ps := ["_law_thing"]) fun _ _ _ _ _ _ us hl => match us, hl with | [_], _ => rfl
  have F_law_is_lean := fun_mk (st := s_law_is_lean) l_law_is_lean c_law_is_lean k_law_is_lean
  have b_law_is_lean := F_law_is_lean.binds (ps := ["_law_thing", "_law_many"]) fun _ _ _ _ _ _ us hl => match us, hl with | [_, _], _ => rfl
  have F_law_rings := fun_mk (st := s_law_rings) l_law_rings c_law_rings k_law_rings
  have b_law_rings := F_law_rings.binds (ps := ["_law_leans_here", "_law_start", "_law_goal"]) fun _ _ _ _ _ _ us hl => match us, hl with | [_, _, _], _ => rfl
  have F_law_due := fun_mk (st := s_law_due) l_law_due c_law_due k_law_due
  have b_law_due := F_law_due.binds (ps := ["_law_thing"]) fun _ _ _ _ _ _ us hl => match us, hl with | [_], _ => rfl
  have F_law_bent_work := fun_mk (st := s_law_bent_work) l_law_bent_work c_law_bent_work k_law_bent_work
  have b_law_bent_work := F_law_bent_work.binds (ps := ["_law_tape_here", "_law_work"]) fun _ _ _ _ _ _ us hl => match us, hl with | [_, _], _ => rfl
  have F_law_bent := fun_mk (st := s_law_bent) l_law_bent c_law_bent k_law_bent
  have b_law_bent := F_law_bent.binds (ps := ["_law_tape_here", "_law_sheet"]) fun _ _ _ _ _ _ us hl => match us, hl with | [_, _], _ => rfl
  have F_law_told := fun_mk (st := s_law_told) l_law_told c_law_told k_law_told
  have b_law_told := F_law_told.binds (ps := ["_law_thing"]) fun _ _ _ _ _ _ us hl => match us, hl with | [_], _ => rfl
  have F_law := fun_mk (st := s_law) l_law c_law k_law
  have b_law := F_law.binds (ps := ["_law_script"]) fun _ _ _ _ _ _ us hl => match us, hl with | [_], _ => rfl
  have F_NoSheet := fun_mk (st := s_NoSheet) l_NoSheet cd_NoSheet_ ki_NoSheet
  have b_NoSheet := F_NoSheet.binds (ps := ["self", "word", "number"]) fun _ _ _ _ _ _ us hl => match us, hl with | [_, _, _], _ => rfl
  have T : Txt K mg ⟨f_is_whole, PySem.W.fnOf "is_whole" "is_whole" (defArgs s_is_whole) (defBody s_is_whole) (defScope s_is_whole) .none kV_is_whole dc_is_whole pm_is_whole an_is_whole cd_is_whole ct_is_whole, f_is_tuple_of, PySem.W.fnOf "is_tuple_of" "is_tuple_of" (defArgs s_is_tuple_of) (defBody s_is_tuple_of) (defScope s_is_tuple_of) .none kV_is_tuple_of dc_is_tuple_of pm_is_tuple_of an_is_tuple_of cd_is_tuple_of ct_is_tuple_of, f_is_number_of, PySem.W.fnOf "is_number_of" "is_number_of" (defArgs s_is_number_of) (defBody s_is_number_of) (defScope s_is_number_of) .none kV_is_number_of dc_is_number_of pm_is_number_of an_is_number_of cd_is_number_of ct_is_number_of, f_copied, PySem.W.fnOf "copied" "copied" (defArgs s_copied) (defBody s_copied) (defScope s_copied) .none kV_copied dc_copied pm_copied an_copied cd_copied ct_copied, f_greatest_divisor, PySem.W.fnOf "greatest_divisor" "greatest_divisor" (defArgs s_greatest_divisor) (defBody s_greatest_divisor) (defScope s_greatest_divisor) .none kV_greatest_divisor dc_greatest_divisor pm_greatest_divisor an_greatest_divisor cd_greatest_divisor ct_greatest_divisor, f_is_ratio, PySem.W.fnOf "is_ratio" "is_ratio" (defArgs s_is_ratio) (defBody s_is_ratio) (defScope s_is_ratio) .none kV_is_ratio dc_is_ratio pm_is_ratio an_is_ratio cd_is_ratio ct_is_ratio, f_is_above_nought, PySem.W.fnOf "is_above_nought" "is_above_nought" (defArgs s_is_above_nought) (defBody s_is_above_nought) (defScope s_is_above_nought) .none kV_is_above_nought dc_is_above_nought pm_is_above_nought an_is_above_nought cd_is_above_nought ct_is_above_nought, f_is_sheet_shaped, PySem.W.fnOf "is_sheet_shaped" "is_sheet_shaped" (defArgs s_is_sheet_shaped) (defBody s_is_sheet_shaped) (defScope s_is_sheet_shaped) .none kV_is_sheet_shaped dc_is_sheet_shaped pm_is_sheet_shaped an_is_sheet_shaped cd_is_sheet_shaped ct_is_sheet_shaped, f_is_work, PySem.W.fnOf "is_work" "is_work" (defArgs s_is_work) (defBody s_is_work) (defScope s_is_work) .none kV_is_work dc_is_work pm_is_work an_is_work cd_is_work ct_is_work, f_is_lean, PySem.W.fnOf "is_lean" "is_lean" (defArgs s_is_lean) (defBody s_is_lean) (defScope s_is_lean) .none kV_is_lean dc_is_lean pm_is_lean an_is_lean cd_is_lean ct_is_lean, f_no_leanings, PySem.W.fnOf "no_leanings" "no_leanings" (defArgs s_no_leanings) (defBody s_no_leanings) (defScope s_no_leanings) .none kV_no_leanings dc_no_leanings pm_no_leanings an_no_leanings cd_no_leanings ct_no_leanings, f_add_lean, PySem.W.fnOf "add_lean" "add_lean" (defArgs s_add_lean) (defBody s_add_lean) (defScope s_add_lean) .none kV_add_lean dc_add_lean pm_add_lean an_add_lean cd_add_lean ct_add_lean, f_first_ring, PySem.W.fnOf "first_ring" "first_ring" (defArgs s_first_ring) (defBody s_first_ring) (defScope s_first_ring) .none kV_first_ring dc_first_ring pm_first_ring an_first_ring cd_first_ring ct_first_ring, f_right_sheet, PySem.W.fnOf "right_sheet" "right_sheet" (defArgs s_right_sheet) (defBody s_right_sheet) (defScope s_right_sheet) .none kV_right_sheet dc_right_sheet pm_right_sheet an_right_sheet cd_right_sheet ct_right_sheet, f_law_tape, PySem.W.fnOf "_law_tape" "_law_tape" (defArgs s_law_tape) (defBody s_law_tape) (defScope s_law_tape) .none kV_law_tape dc_law_tape pm_law_tape an_law_tape cd_law_tape ct_law_tape, f_law_draw, PySem.W.fnOf "_law_draw" "_law_draw" (defArgs s_law_draw) (defBody s_law_draw) (defScope s_law_draw) .none kV_law_draw dc_law_draw pm_law_draw an_law_draw cd_law_draw ct_law_draw, f_law_gcd, PySem.W.fnOf "_law_gcd" "_law_gcd" (defArgs s_law_gcd) (defBody s_law_gcd) (defScope s_law_gcd) .none kV_law_gcd dc_law_gcd pm_law_gcd an_law_gcd cd_law_gcd ct_law_gcd, f_law_ratio, PySem.W.fnOf "_law_ratio" "_law_ratio" (defArgs s_law_ratio) (defBody s_law_ratio) (defScope s_law_ratio) .none kV_law_ratio dc_law_ratio pm_law_ratio an_law_ratio cd_law_ratio ct_law_ratio, f_law_part, PySem.W.fnOf "_law_part" "_law_part" (defArgs s_law_part) (defBody s_law_part) (defScope s_law_part) .none kV_law_part dc_law_part pm_law_part an_law_part cd_law_part ct_law_part, f_law_works, PySem.W.fnOf "_law_works" "_law_works" (defArgs s_law_works) (defBody s_law_works) (defScope s_law_works) .none kV_law_works dc_law_works pm_law_works an_law_works cd_law_works ct_law_works, f_law_leans, PySem.W.fnOf "_law_leans" "_law_leans" (defArgs s_law_leans) (defBody s_law_leans) (defScope s_law_leans) .none kV_law_leans dc_law_leans pm_law_leans an_law_leans cd_law_leans ct_law_leans, f_law_whole, PySem.W.fnOf "_law_whole" "_law_whole" (defArgs s_law_whole) (defBody s_law_whole) (defScope s_law_whole) .none kV_law_whole dc_law_whole pm_law_whole an_law_whole cd_law_whole ct_law_whole, f_law_is_work, PySem.W.fnOf "_law_is_work" "_law_is_work" (defArgs s_law_is_work) (defBody s_law_is_work) (defScope s_law_is_work) .none kV_law_is_work dc_law_is_work pm_law_is_work an_law_is_work cd_law_is_work ct_law_is_work, f_law_is_lean, PySem.W.fnOf "_law_is_lean" "_law_is_lean" (defArgs s_law_is_lean) (defBody s_law_is_lean) (defScope s_law_is_lean) .none kV_law_is_lean dc_law_is_lean pm_law_is_lean an_law_is_lean cd_law_is_lean ct_law_is_lean, f_law_rings, PySem.W.fnOf "_law_rings" "_law_rings" (defArgs s_law_rings) (defBody s_law_rings) (defScope s_law_rings) .none kV_law_rings dc_law_rings pm_law_rings an_law_rings cd_law_rings ct_law_rings, f_law_due, PySem.W.fnOf "_law_due" "_law_due" (defArgs s_law_due) (defBody s_law_due) (defScope s_law_due) .none kV_law_due dc_law_due pm_law_due an_law_due cd_law_due ct_law_due, f_law_bent_work, PySem.W.fnOf "_law_bent_work" "_law_bent_work" (defArgs s_law_bent_work) (defBody s_law_bent_work) (defScope s_law_bent_work) .none kV_law_bent_work dc_law_bent_work pm_law_bent_work an_law_bent_work cd_law_bent_work ct_law_bent_work, f_law_bent, PySem.W.fnOf "_law_bent" "_law_bent" (defArgs s_law_bent) (defBody s_law_bent) (defScope s_law_bent) .none kV_law_bent dc_law_bent pm_law_bent an_law_bent cd_law_bent ct_law_bent, f_law_told, PySem.W.fnOf "_law_told" "_law_told" (defArgs s_law_told) (defBody s_law_told) (defScope s_law_told) .none kV_law_told dc_law_told pm_law_told an_law_told cd_law_told ct_law_told, fa, PySem.W.fnOf "law" "law" (defArgs s_law) (defBody s_law) (defScope s_law) .none kV_law dc_law pm_law an_law cd_law ct_law, tkTURNS, tkMOST_WORKS, tkMOST_LEANS, cB, c_NoSheet, i_NoSheet, PySem.W.fnOf "__init__" "NoSheet.__init__" (defArgs s_NoSheet) (defBody s_NoSheet) (defScope s_NoSheet) .none kV_NoSheet dc_NoSheet pm_NoSheet an_NoSheet cd_NoSheet ct_NoSheet, c_PaceError, c_NoPlan, c_NoRule, c_NoStretch⟩ := {
    F_is_whole := F_is_whole, b_is_whole := b_is_whole, m_is_whole := PySem.W.mg_of X G p_is_whole,
    F_is_tuple_of := F_is_tuple_of, b_is_tuple_of := b_is_tuple_of, m_is_tuple_of := PySem.W.mg_of X G p_is_tuple_of,
    F_is_number_of := F_is_number_of, b_is_number_of := b_is_number_of, m_is_number_of := PySem.W.mg_of X G p_is_number_of,
    F_copied := F_copied, b_copied := b_copied, m_copied := PySem.W.mg_of X G p_copied,
    F_greatest_divisor := F_greatest_divisor, b_greatest_divisor := b_greatest_divisor, m_greatest_divisor := PySem.W.mg_of X G p_greatest_divisor,
    F_is_ratio := F_is_ratio, b_is_ratio := b_is_ratio, m_is_ratio := PySem.W.mg_of X G p_is_ratio,
    F_is_above_nought := F_is_above_nought, b_is_above_nought := b_is_above_nought, m_is_above_nought := PySem.W.mg_of X G p_is_above_nought,
    F_is_sheet_shaped := F_is_sheet_shaped, b_is_sheet_shaped := b_is_sheet_shaped, m_is_sheet_shaped := PySem.W.mg_of X G p_is_sheet_shaped,
    F_is_work := F_is_work, b_is_work := b_is_work, m_is_work := PySem.W.mg_of X G p_is_work,
    F_is_lean := F_is_lean, b_is_lean := b_is_lean, m_is_lean := PySem.W.mg_of X G p_is_lean,
    F_no_leanings := F_no_leanings, b_no_leanings := b_no_leanings, m_no_leanings := PySem.W.mg_of X G p_no_leanings,
    F_add_lean := F_add_lean, b_add_lean := b_add_lean, m_add_lean := PySem.W.mg_of X G p_add_lean,
    F_first_ring := F_first_ring, b_first_ring := b_first_ring, m_first_ring := PySem.W.mg_of X G p_first_ring,
    F_right_sheet := F_right_sheet, b_right_sheet := b_right_sheet, m_right_sheet := PySem.W.mg_of X G p_right_sheet,
    F_law_tape := F_law_tape, b_law_tape := b_law_tape, m_law_tape := PySem.W.mg_of X G p_law_tape,
    F_law_draw := F_law_draw, b_law_draw := b_law_draw, m_law_draw := PySem.W.mg_of X G p_law_draw,
    F_law_gcd := F_law_gcd, b_law_gcd := b_law_gcd, m_law_gcd := PySem.W.mg_of X G p_law_gcd,
    F_law_ratio := F_law_ratio, b_law_ratio := b_law_ratio, m_law_ratio := PySem.W.mg_of X G p_law_ratio,
    F_law_part := F_law_part, b_law_part := b_law_part, m_law_part := PySem.W.mg_of X G p_law_part,
    F_law_works := F_law_works, b_law_works := b_law_works, m_law_works := PySem.W.mg_of X G p_law_works,
    F_law_leans := F_law_leans, b_law_leans := b_law_leans, m_law_leans := PySem.W.mg_of X G p_law_leans,
    F_law_whole := F_law_whole, b_law_whole := b_law_whole, m_law_whole := PySem.W.mg_of X G p_law_whole,
    F_law_is_work := F_law_is_work, b_law_is_work := b_law_is_work, m_law_is_work := PySem.W.mg_of X G p_law_is_work,
    F_law_is_lean := F_law_is_lean, b_law_is_lean := b_law_is_lean, m_law_is_lean := PySem.W.mg_of X G p_law_is_lean,
    F_law_rings := F_law_rings, b_law_rings := b_law_rings, m_law_rings := PySem.W.mg_of X G p_law_rings,
    F_law_due := F_law_due, b_law_due := b_law_due, m_law_due := PySem.W.mg_of X G p_law_due,
    F_law_bent_work := F_law_bent_work, b_law_bent_work := b_law_bent_work, m_law_bent_work := PySem.W.mg_of X G p_law_bent_work,
    F_law_bent := F_law_bent, b_law_bent := b_law_bent, m_law_bent := PySem.W.mg_of X G p_law_bent,
    F_law_told := F_law_told, b_law_told := b_law_told, m_law_told := PySem.W.mg_of X G p_law_told,
    F_law := F_law, b_law := b_law, m_law := PySem.W.mg_of X G p_law,
    m_TURNS := PySem.W.mg_of X G p_TURNS,
    m_MOST_WORKS := PySem.W.mg_of X G p_MOST_WORKS,
    m_MOST_LEANS := PySem.W.mg_of X G p_MOST_LEANS,
    X_NoSheet := xc_mk lc_NoSheet lB lnB hsB hnB fi_NoSheet ti_NoSheet kc_NoSheet hh_NoSheet sa_NoSheet, F_NoSheet := F_NoSheet, b_NoSheet := b_NoSheet, m_NoSheet := PySem.W.mg_of X G p_NoSheet, n_NoSheet_word := na_NoSheet_word, n_NoSheet_number := na_NoSheet_number, g_NoSheet := ⟨ga_NoSheet, gn_NoSheet, cl_NoSheet, cgB, ctB⟩,
    m_PaceError := PySem.W.mg_of X G p_PaceError,
    m_NoPlan := PySem.W.mg_of X G p_NoPlan,
    m_NoRule := PySem.W.mg_of X G p_NoRule,
    m_NoStretch := PySem.W.mg_of X G p_NoStretch,
    x_catch := w_x_catch,
    y_self := w_y_self,
    y_val := w_y_val,
    y_not := w_y_not,
    z_ValueError := PySem.W.mg_none_of X G z_ValueError, z_abs := PySem.W.mg_none_of X G z_abs, z_bool := PySem.W.mg_none_of X G z_bool, z_enumerate := PySem.W.mg_none_of X G z_enumerate, z_int := PySem.W.mg_none_of X G z_int, z_isinstance := PySem.W.mg_none_of X G z_isinstance, z_len := PySem.W.mg_none_of X G z_len, z_list := PySem.W.mg_none_of X G z_list, z_max := PySem.W.mg_none_of X G z_max, z_min := PySem.W.mg_none_of X G z_min, z_range := PySem.W.mg_none_of X G z_range, z_repr := PySem.W.mg_none_of X G z_repr, z_tuple := PySem.W.mg_none_of X G z_tuple }
  exact ⟨_, fun s v => .of_eq rfl, fun base _ _ => ok_law T⟩
theorem walk {l : PySem.W.OpenLaw} {q : Program} {loose : List Str} {XP : (Str → Option Value) → Heap → Prop} {YP : World → Heap → Prop} {d : DefRec} {K : Params → PySem.W.Frag} (hn : l.most = some 63) (hdf : d.params.defaults = [])
    (hY : ∀ (w : World) (h : Heap), YP w h → (K w.params).In h)
    (F : ∀ (w : World) (mg : Str → Option Value) (fa : Addr) (h : Heap), (K w.params).In h → h.Ns mainGlobals mg → mg d.name = some (.ref fa) →
      ∃ fd : FuncData, (∀ (s : Shared) (u : Value), BindsTo s fd ⟨[u], []⟩ [("_law_script", u)]) ∧ ∀ base : Heap, (K w.params).In base → base.Ns mainGlobals mg → FnOk l.prog w (K w.params) mg base CX0 7 fa fd ["_law_script"] (sp_law (K w.params))) :
    PySem.W.WalkO q loose XP YP l.row.toRowW d [] (fun f vs => PySem.call f vs) :=
  L2.walk_of (n := 63) (k := 7) (x := "_law_script") (CX := fun _ => CX0) (sp := fun w => sp_law (K w.params)) hn (by decide) hdf ⟨rfl, by decide, by decide, rfl⟩ hY F (fun _ _ a ns hl _ hS => ⟨a, ns, rfl, hS, hl, fun _ => rfl⟩) fun _ _ _ _ _ z => z
end My
open PySem PySem.W PyProof.Rows
set_option maxRecDepth 100000 in
set_option maxHeartbeats 0 in
theorem PySem.Challenge.cw_paceplan_k05_sheets_let_by_or_not_holds : PySem.Challenge.rw_paceplan_k05_sheets_let_by_or_not.Holds := by
  w_on; refine HWtop ?_
  k_fill
  refine My.walk (l := PySem.Challenge.rw_paceplan_k05_sheets_let_by_or_not) rfl rfl (fun w h Y => PySem.W.kIn_of Y) ?F
  case F =>
    intro w mg fa h KX G hmg
    refine' My.all_mk KX G hmg ?p_is_whole ?l_is_whole ?c_is_whole ?k_is_whole ?p_is_tuple_of ?l_is_tuple_of ?c_is_tuple_of ?k_is_tuple_of ?p_is_number_of ?l_is_number_of ?c_is_number_of ?k_is_number_of ?p_copied ?l_copied ?c_copied ?k_copied ?p_greatest_divisor ?l_greatest_divisor ?c_greatest_divisor ?k_greatest_divisor ?p_is_ratio ?l_is_ratio ?c_is_ratio ?k_is_ratio ?p_is_above_nought ?l_is_above_nought ?c_is_above_nought ?k_is_above_nought ?p_is_sheet_shaped ?l_is_sheet_shaped ?c_is_sheet_shaped ?k_is_sheet_shaped ?p_is_work ?l_is_work ?c_is_work ?k_is_work ?p_is_lean ?l_is_lean ?c_is_lean ?k_is_lean ?p_no_leanings ?l_no_leanings ?c_no_leanings ?k_no_leanings ?p_add_lean ?l_add_lean ?c_add_lean ?k_add_lean ?p_first_ring ?l_first_ring ?c_first_ring ?k_first_ring ?p_right_sheet ?l_right_sheet ?c_right_sheet ?k_right_sheet ?p_law_tape ?l_law_tape ?c_law_tape ?k_law_tape ?p_law_draw ?l_law_draw ?c_law_draw ?k_law_draw ?p_law_gcd ?l_law_gcd ?c_law_gcd ?k_law_gcd ?p_law_ratio ?l_law_ratio ?c_law_ratio ?k_law_ratio ?p_law_part ?l_law_part ?c_law_part ?k_law_part ?p_law_works ?l_law_works ?c_law_works ?k_law_works ?p_law_leans ?l_law_leans ?c_law_leans ?k_law_leans ?p_law_whole ?l_law_whole ?c_law_whole ?k_law_whole ?p_law_is_work ?l_law_is_work ?c_law_is_work ?k_law_is_work ?p_law_is_lean ?l_law_is_lean ?c_law_is_lean ?k_law_is_lean ?p_law_rings ?l_law_rings ?c_law_rings ?k_law_rings ?p_law_due ?l_law_due ?c_law_due ?k_law_due ?p_law_bent_work ?l_law_bent_work ?c_law_bent_work ?k_law_bent_work ?p_law_bent ?l_law_bent ?c_law_bent ?k_law_bent ?p_law_told ?l_law_told ?c_law_told ?k_law_told ?p_law ?l_law ?c_law ?k_law ?p_TURNS ?p_MOST_WORKS ?p_MOST_LEANS ?pB ?lB ?lnB ?hsB ?hnB ?cgB ?ctB ?p_NoSheet ?lc_NoSheet ?fi_NoSheet ?l_NoSheet ?cd_NoSheet_ ?ki_NoSheet ?ti_NoSheet ?kc_NoSheet ?hh_NoSheet ?sa_NoSheet ?na_NoSheet_word ?na_NoSheet_number ?ga_NoSheet ?gn_NoSheet ?cl_NoSheet ?p_PaceError ?p_NoPlan ?p_NoRule ?p_NoStretch ?w_x_catch ?w_y_self ?w_y_val ?w_y_not ?z_ValueError ?z_abs ?z_bool ?z_enumerate ?z_int ?z_isinstance ?z_len ?z_list ?z_max ?z_min ?z_range ?z_repr ?z_tuple
    (case p_is_whole => k_is)
    (case l_is_whole => k_is)
    (case c_is_whole => k_is)
    (case k_is_whole => k_is)
    (case p_is_tuple_of => k_is)
    (case l_is_tuple_of => k_is)
    (case c_is_tuple_of => k_is)
    (case k_is_tuple_of => k_is)
    (case p_is_number_of => k_is)
    (case l_is_number_of => k_is)
    (case c_is_number_of => k_is)
    (case k_is_number_of => k_is)
    (case p_copied => k_is)
    (case l_copied => k_is)
    (case c_copied => k_is)
    (case k_copied => k_is)
    (case p_greatest_divisor => k_is)
    (case l_greatest_divisor => k_is)
    (case c_greatest_divisor => k_is)
    (case k_greatest_divisor => k_is)
    (case p_is_ratio => k_is)
    (case l_is_ratio => k_is)
    (case c_is_ratio => k_is)
    (case k_is_ratio => k_is)
    (case p_is_above_nought => k_is)
    (case l_is_above_nought => k_is)
    (case c_is_above_nought => k_is)
    (case k_is_above_nought => k_is)
    (case p_is_sheet_shaped => k_is)
    (case l_is_sheet_shaped => k_is)
    (case c_is_sheet_shaped => k_is)
    (case k_is_sheet_shaped => k_is)
    (case p_is_work => k_is)
    (case l_is_work => k_is)
    (case c_is_work => k_is)
    (case k_is_work => k_is)
    (case p_is_lean => k_is)
    (case l_is_lean => k_is)
    (case c_is_lean => k_is)
    (case k_is_lean => k_is)
    (case p_no_leanings => k_is)
    (case l_no_leanings => k_is)
    (case c_no_leanings => k_is)
    (case k_no_leanings => k_is)
    (case p_add_lean => k_is)
    (case l_add_lean => k_is)
    (case c_add_lean => k_is)
    (case k_add_lean => k_is)
    (case p_first_ring => k_is)
    (case l_first_ring => k_is)
    (case c_first_ring => k_is)
    (case k_first_ring => k_is)
    (case p_right_sheet => k_is)
    (case l_right_sheet => k_is)
    (case c_right_sheet => k_is)
    (case k_right_sheet => k_is)
    (case p_law_tape => k_is)
    (case l_law_tape => k_is)
    (case c_law_tape => k_is)
    (case k_law_tape => k_is)
    (case p_law_draw => k_is)
    (case l_law_draw => k_is)
    (case c_law_draw => k_is)
    (case k_law_draw => k_is)
    (case p_law_gcd => k_is)
    (case l_law_gcd => k_is)
    (case c_law_gcd => k_is)
    (case k_law_gcd => k_is)
    (case p_law_ratio => k_is)
    (case l_law_ratio => k_is)
    (case c_law_ratio => k_is)
    (case k_law_ratio => k_is)
    (case p_law_part => k_is)
    (case l_law_part => k_is)
    (case c_law_part => k_is)
    (case k_law_part => k_is)
    (case p_law_works => k_is)
    (case l_law_works => k_is)
    (case c_law_works => k_is)
    (case k_law_works => k_is)
    (case p_law_leans => k_is)
    (case l_law_leans => k_is)
    (case c_law_leans => k_is)
    (case k_law_leans => k_is)
    (case p_law_whole => k_is)
    (case l_law_whole => k_is)
    (case c_law_whole => k_is)
    (case k_law_whole => k_is)
    (case p_law_is_work => k_is)
    (case l_law_is_work => k_is)
    (case c_law_is_work => k_is)
    (case k_law_is_work => k_is)
    (case p_law_is_lean => k_is)
    (case l_law_is_lean => k_is)
    (case c_law_is_lean => k_is)
    (case k_law_is_lean => k_is)
    (case p_law_rings => k_is)
    (case l_law_rings => k_is)
    (case c_law_rings => k_is)
    (case k_law_rings => k_is)
    (case p_law_due => k_is)
    (case l_law_due => k_is)
    (case c_law_due => k_is)
    (case k_law_due => k_is)
    (case p_law_bent_work => k_is)
    (case l_law_bent_work => k_is)
    (case c_law_bent_work => k_is)
    (case k_law_bent_work => k_is)
    (case p_law_bent => k_is)
    (case l_law_bent => k_is)
    (case c_law_bent => k_is)
    (case k_law_bent => k_is)
    (case p_law_told => k_is)
    (case l_law_told => k_is)
    (case c_law_told => k_is)
    (case k_law_told => k_is)
    (case p_law => k_is)
    (case l_law => k_is)
    (case c_law => k_is)
    (case k_law => k_is)
    (case p_TURNS => k_is)
    (case p_MOST_WORKS => k_is)
    (case p_MOST_LEANS => k_is)
    (case pB => k_is)
    (case lB => k_is)
    (case lnB => k_is)
    (case hsB => rfl)
    (case hnB => rfl)
    (case cgB => k_is)
    (case ctB => k_is)
    (case p_NoSheet => k_is)
    (case lc_NoSheet => k_is)
    (case fi_NoSheet => k_is)
    (case l_NoSheet => k_is)
    (case cd_NoSheet_ => k_is)
    (case ki_NoSheet => k_is)
    (case ti_NoSheet => k_is)
    (case kc_NoSheet => k_is)
    (case hh_NoSheet => k_is)
    (case sa_NoSheet => k_is)
    (case na_NoSheet_word => k_is)
    (case na_NoSheet_number => k_is)
    (case ga_NoSheet => k_is)
    (case gn_NoSheet => k_is)
    (case cl_NoSheet => k_is)
    (case p_PaceError => k_is)
    (case p_NoPlan => k_is)
    (case p_NoRule => k_is)
    (case p_NoStretch => k_is)
    (case w_x_catch => kts_exm)
    (case w_y_self => kit_is)
    (case w_y_val => kit_is)
    (case w_y_not => kit_is)
    (case z_ValueError => k_is)
    (case z_abs => k_is)
    (case z_bool => k_is)
    (case z_enumerate => k_is)
    (case z_int => k_is)
    (case z_isinstance => k_is)
    (case z_len => k_is)
    (case z_list => k_is)
    (case z_max => k_is)
    (case z_min => k_is)
    (case z_range => k_is)
    (case z_repr => k_is)
    (case z_tuple => k_is)
