import PyProof.Rows.All
import Wide.All
import OpenK.AllK
import Wide.FinOn
import Lean
import PyProof.EqAt
import PyProof.EqKinds
import PyProof.TupleCall
import PyProof.ReprLen
import PyProof.CompUse
import PyProof.ZipIter
import PyProof.ExcClass2
import PyProof.ExcBaseAll.ValueError
import PyProof.InstStoreFacts
import PyProof.ExcAttrAll.ValueError
import PyProof.RulesAs
import PyProof.NsDelKeeps
import KE.RegKTryMore
import KE.RegKIsAll
import PyProof.Rows.Catch
import PyProof.EnumMake
import PyProof.Draws
import PyProof.IsRules
import PyProof.AutoListH
import PyProof.RangeFor
import PyProof.SeqRoads2
import PyProof.ListRange
import PyProof.Rows.SumAny
import PyProof.Rows.Range3
import PyProof.ConsumeWalk
import PyProof.Rows.ListMul
import PyProof.Rows.SeqCalls
import PySem.Challenge.RW_paceplan_k07_windows_drawn_in
set_option Elab.async false
set_option linter.all false
set_option maxRecDepth 100000
/-! The head, run as one piece: the view and the steps are given here, the rest is what the head's own rule asks. -/
namespace HW
open PySem
def keep : List Nat := [1, 3, 4, 6, 7, 8, 9, 11, 12, 13, 14, 15, 16, 17, 18, 19, 20]
def V : Program := PySem.W.view PySem.Challenge.pw_paceplan_k07_windows_drawn_in keep
end HW
section HWs
open PySem PySem.W PyProof.Rows
local macro_rules
  | `(tactic| o_head $H:term) => `(tactic| (
      refine holds_open (q := HW.V) (loose := []) (N := 1952)
        (Xt := fun s => xlAt HW.V [] s && recOk (RowW.records (OpenRow.toRowW (OpenLaw.row PySem.Challenge.rw_paceplan_k07_windows_drawn_in))) s)
        (XP := XL HW.V []) (Yf := Hook.obs $H) (Ya := Hook.val $H) (YP := Hook.says $H)
        ?hl (Hook.of $H) (Hook.keeps $H)
        (fun s e => xl_of s (Bool.and_eq_true_iff.mp e).1) XL.keeps
        (by rfl) (by rfl) (by rfl)
        (fun s e => recFacts_of (Bool.and_eq_true_iff.mp e).2) (by rfl) (by assumption) (by decide +kernel)
        ⟨rfl, rfl, rfl, rfl, rfl, by decide +kernel⟩ ?hw ?hc
      (case hl =>
        intro w
        delta openEnds fencedOpening topFrom
        rw [PySem.W.Fast.te14364793385576792824, PySem.W.Fast.te14082659384304107361, PySem.W.Fast.te10274390034422433532, PySem.W.Fast.te1435165496053646825, PySem.W.Fast.te14289696077712309145, PySem.W.Fast.te4187177175401517315]
        kernel_rfl)))
set_option maxHeartbeats 0 in
open_top HWtop for PySem.Challenge.rw_paceplan_k07_windows_drawn_in
end HWs
/-! THE HAND LAYER, for ints, bools, texts, own classes, LISTS and tuples (index, slices, in, append, pop ..), calls, loops. Paste it whole ahead of your own text; what your proof does not reach may be deleted. -/
namespace L2
open PySem PySem.Spec PyProof.Rows

/-- a key: an int or a str -/
abbrev Key := Sum Int Str
def keyIs : Key → Value → Bool
  | .inl k, v => Value.isInt k v
  | .inr x, v => Value.isStrOf x v
def keyH (w : World) : Key → Int
  | .inl k => hashInt k
  | .inr x => hashStr w x
theorem keyIs_shape : ∀ {k : Key} {v : Value}, keyIs k v = true → (∃ i t, k = Sum.inl i ∧ v = Value.int i t) ∨ (∃ x t, k = Sum.inr x ∧ v = Value.str x t)
  | .inl i, v, h => by
    obtain ⟨t, e⟩ := Value.isInt_shape (k := i) (v := v) h
    exact .inl ⟨i, t, rfl, e⟩
  | .inr x, v, h => by
    obtain ⟨t, e⟩ := Value.isStrOf_shape (x := x) (v := v) h
    exact .inr ⟨x, t, rfl, e⟩
theorem key_ll (a b : Int) : decide ((Sum.inl a : Key) = Sum.inl b) = (a == b) := by
  by_cases e : a = b
  · subst e; simp
  · have h : ¬ (Sum.inl a : Key) = Sum.inl b := fun q => e (Sum.inl.inj q)
    rw [decide_eq_false h]
    exact (beq_eq_false_iff_ne.mpr e).symm
theorem key_rr (a b : Str) : decide ((Sum.inr a : Key) = Sum.inr b) = decide (a = b) := by
  by_cases e : a = b
  · subst e; simp
  · have h : ¬ (Sum.inr a : Key) = Sum.inr b := fun q => e (Sum.inr.inj q)
    rw [decide_eq_false h, decide_eq_false e]
theorem key_lr (a : Int) (b : Str) : decide ((Sum.inl a : Key) = Sum.inr b) = false := decide_eq_false (fun q => nomatch q)
theorem key_rl (a : Str) (b : Int) : decide ((Sum.inr a : Key) = Sum.inl b) = false := decide_eq_false (fun q => nomatch q)

def mixKind (prog : Program) (w : World) : PySem.KeyKind prog w Key where
  is := keyIs
  hash := keyH w
  inj := fun v a b ha hb => by
    rcases keyIs_shape ha with ⟨i, t, rfl, rfl⟩ | ⟨x, t, rfl, rfl⟩
    · rcases keyIs_shape hb with ⟨j, u, rfl, e⟩ | ⟨y, u, rfl, e⟩
      · injection e with e1 _; rw [e1]
      · exact nomatch e
    · rcases keyIs_shape hb with ⟨j, u, rfl, e⟩ | ⟨y, u, rfl, e⟩
      · exact nomatch e
      · injection e with e1 _; rw [e1]
  byValue := fun k v h => by
    rcases keyIs_shape h with ⟨i, t, rfl, rfl⟩ | ⟨x, t, rfl, rfl⟩ <;> rfl
  pyHash := fun hv h => by
    rcases keyIs_shape hv with ⟨i, t, rfl, rfl⟩ | ⟨x, t, rfl, rfl⟩
    · exact wpAny_pyHash_int h
    · exact wpAny_pyHash_str h
  eqBool := fun hu hv h => by
    rcases keyIs_shape hu with ⟨i, t, rfl, rfl⟩ | ⟨x, t, rfl, rfl⟩
    · rcases keyIs_shape hv with ⟨j, u, rfl, rfl⟩ | ⟨y, u, rfl, rfl⟩
      · rw [key_ll] at h; exact wpAny_eqBool_int h
      · rw [key_lr] at h; exact SeqAt.EqAt.int_str i t y u _ _ _ _ h
    · rcases keyIs_shape hv with ⟨j, u, rfl, rfl⟩ | ⟨y, u, rfl, rfl⟩
      · rw [key_rl] at h; exact SeqAt.EqAt.str_int x t j u _ _ _ _ h
      · rw [key_rr] at h; exact wpAny_eqBool_str h
  «strs» := fun k x t v h => by
    rcases keyIs_shape h with ⟨i, u, rfl, e⟩ | ⟨y, u, rfl, e⟩
    · exact nomatch e
    · injection e with e1 _
      subst e1
      cases v <;> rfl

end L2

namespace L2
open PySem PySem.Spec PyProof.Rows

/-- a value, without the heap -/
inductive V where
  | non | bl (b : Bool) | int (i : Int) | str (x : Str) | byt (b : Array UInt8) | flt (b : UInt64) | ref (a : Addr) | ty (n : String)
  deriving DecidableEq

def RelV : V → Value → Prop
  | .non, u => u = Value.none
  | .bl b, u => u = Value.bool b
  | .int i, u => ∃ t, u = Value.int i t
  | .str x, u => ∃ t, u = Value.str x t
  | .byt b, u => ∃ t, u = Value.bytes b t
  | .flt b, u => ∃ t, u = Value.float b t
  | .ref a, u => u = Value.ref a
  | .ty n, u => u = Value.type n

abbrev Vals : List V → List Value → Prop := Paired RelV
theorem Vals.length {xs : List V} {us : List Value} (r : Vals xs us) : xs.length = us.length := Paired.length r
theorem Vals.get : ∀ {xs : List V} {us : List Value} {i : Nat} {x : V}, Vals xs us → xs[i]? = some x → ∃ u, us[i]? = some u ∧ RelV x u
  | _, _, _, _, .nil, e => by simp at e
  | _, _, 0, _, .cons r _, e => by simp at e; subst e; exact ⟨_, rfl, r⟩
  | _, _, i + 1, x, .cons _ t, e => by
    obtain ⟨u, h1, h2⟩ := Vals.get (i := i) (x := x) t (by simpa using e)
    exact ⟨u, by simpa using h1, h2⟩
theorem Vals.set {x : V} {u : Value} (r : RelV x u) : ∀ {xs : List V} {us : List Value} (i : Nat), Vals xs us → Vals (xs.set i x) (us.set i u)
  | _, _, _, .nil => .nil
  | _, _, 0, .cons _ t => .cons r t
  | _, _, i + 1, .cons q t => .cons q (Vals.set r i t)
theorem Vals.append : ∀ {xs ys : List V} {us ws : List Value}, Vals xs us → Vals ys ws → Vals (xs ++ ys) (us ++ ws)
  | _, _, _, _, .nil, s => s
  | _, _, _, _, .cons r t, s => .cons r (Vals.append t s)
theorem Vals.take : ∀ {xs : List V} {us : List Value} (n : Nat), Vals xs us → Vals (xs.take n) (us.take n)
  | _, _, 0, _ => .nil
  | _, _, _ + 1, .nil => .nil
  | _, _, n + 1, .cons r t => .cons r (Vals.take n t)
theorem Vals.drop : ∀ {xs : List V} {us : List Value} (n : Nat), Vals xs us → Vals (xs.drop n) (us.drop n)
  | _, _, 0, r => r
  | _, _, _ + 1, .nil => .nil
  | _, _, n + 1, .cons _ t => Vals.drop n t

def RelO : Option V → Option Value → Prop
  | some v, some u => RelV v u
  | none, none => True
  | _, _ => False
def KV {κ : Type} : List (κ × V) → List (κ × Value) → Prop := Paired fun (p : κ × V) (q : κ × Value) => p.1 = q.1 ∧ RelV p.2 q.2

/-- a key of a dict (00_mix): an int or a text -/
def kV : Key → V
  | .inl i => .int i
  | .inr x => .str x

/-- what stands at a tracked address -/
inductive HO where
  /-- a list -/
  | lst (xs : List V)
  /-- a tuple (never changes) -/
  | tup (xs : List V)
  /-- a dict whose keys are ints and texts; one whose keys are tuples of ints and texts (the empty one is both) -/
  | dK (kvs : List (Key × V)) | dT (kvs : List (List Key × V))
  /-- a set of ints: its members, its size -/
  | set (S : Int → Bool) (n : Nat)
  /-- an instance of the class at C, its dict at dx, its attributes -/
  | ins (C dx : Addr) (fs : List (Str × V))
  /-- the dict of the instance at x -/
  | own (x : Addr)
  /-- the dict of an exception -/
  | xd (fs : List (Str × V))
  /-- a bound method, f of x -/
  | met (f x : Addr)
  /-- a range object lo, lo + 1, .. below hi -/
  | rng (lo hi : Int)
  /-- a thing that is known to the object (the script; a dict while a loop walks it): read, never written while it is so -/
  | frz (o : Obj) (u : HO)
  /-- a code object's table -/
  | tbl (ps : Array Value)
  /-- any other thing, by what is true of its one object (a def of one's own: SetO a S n := HO.ext fun h => ..) -/
  | ext (φ : Heap → Prop)

abbrev Hp := Addr → Option HO
def upd (H : Hp) (a : Addr) (o : HO) : Hp := fun b => if b = a then some o else H b
theorem upd_same {H : Hp} {a : Addr} {o : HO} : upd H a o a = some o := by unfold upd; rw [if_pos rfl]
theorem upd_ne {H : Hp} {a b : Addr} {o : HO} (h : b ≠ a) : upd H a o b = H b := by unfold upd; rw [if_neg h]
theorem upd_upd {H : Hp} {a : Addr} {o u : HO} : upd (upd H a o) a u = upd H a u := by
  funext b; unfold upd; split <;> rfl
theorem ne_of_none {H : Hp} {a b : Addr} {o : HO} (h : H a = some o) (h' : H b = none) : a ≠ b := by
  intro e; subst e; rw [h] at h'; cases h'

section
variable (P : Program) (w : World)
def ObjOk (H : Hp) (h : Heap) (a : Addr) : HO → Prop
  | .lst xs => xs.length ≤ sizeLine ∧ ∃ (its : List Value) (n : Nat), Vals xs its ∧ h.get? a = some { cls := .type "list", data := .seq its.toArray n }
  | .tup xs => xs.length ≤ sizeLine ∧ ∃ its : List Value, Vals xs its ∧ IsTup h a its.toArray
  | .dK kvs => kvs.length ≤ sizeLine ∧ (a == sysModules) = false ∧ ∃ vs, KV kvs vs ∧ h.DictOf (mixKind P w) a vs
  | .dT kvs => kvs.length ≤ sizeLine ∧ (a == sysModules) = false ∧ ∃ xs : List (List Key × Addr × Value),
      Paired (fun (p : List Key × V) (q : List Key × Addr × Value) => p.1 = q.1 ∧ H q.2.1 = some (.tup (p.1.map kV)) ∧ RelV p.2 q.2.2) kvs xs ∧
      ∃ o es ep, h.get? a = some o ∧ o.ExactDict ∧ o.data = .dict es ep ∧ es.toList = xs.map (entryOfKey (tupleKind (mixKind P w))) ∧ (xs.map (·.1)).Nodup
  | .set S n => h.SetOf (intKind P w) a S n
  | .ins C dx fs => H dx = some (.own a) ∧ fs.length ≤ 1000 ∧ dx ≠ a ∧ h.get? a = some (PySem.W.instObj C dx) ∧
      ∃ mA, h.Ns1 dx mA ∧ (∀ f, RelO (fs.lookup f) (mA f)) ∧ PySem.Within mA (fs.map (·.1))
  | .own _ => ∃ o, h.get? a = some o
  | .xd fs => ∃ mA, h.Ns1 a mA ∧ ∀ f, RelO (fs.lookup f) (mA f)
  | .rng lo hi => ∃ t u v, h.get? a = some { cls := .type "range", data := .fields #[.int lo t, .int hi u, .int 1 v] }
  | .frz o u => h.get? a = some o ∧ ObjOk H h a u
  | .tbl ps => h.get? a = some { cls := .none, data := .fields ps }
  | .met f x => h.get? a = some (PySem.W.methodObj (.ref f) (.ref x))
  | .ext φ => φ h ∧ (∃ o, h.get? a = some o) ∧ ∀ h1 h2 : Heap, φ h1 → (∀ o, h1.get? a = some o → h2.get? a = some o) → φ h2
/-- the abstract heap is held -/
def HOk (H : Hp) (h : Heap) : Prop := ∀ a o, H a = some o → ObjOk P w H h a o
end

section
variable {P : Program} {w : World} {H H' : Hp} {h h' : Heap} {a : Addr} {o : HO}
theorem ObjOk.lt (x : ObjOk P w H h a o) : a < h.objs.size := by
  cases o with
  | lst xs => obtain ⟨_, _, _, _, e⟩ := x; exact Heap.lt_size e
  | tup xs => obtain ⟨_, _, _, p⟩ := x; exact p.lt
  | dK kvs => obtain ⟨_, _, _, _, o, _, _, e, _⟩ := x; exact Heap.lt_size e
  | dT kvs => obtain ⟨_, _, _, _, o, _, _, e, _⟩ := x; exact Heap.lt_size e
  | set S n => obtain ⟨o, _, _, _, e, _⟩ := x; exact Heap.lt_size e
  | ins C dx fs => obtain ⟨_, _, _, e, _⟩ := x; exact Heap.lt_size e
  | own y => obtain ⟨_, e⟩ := x; exact Heap.lt_size e
  | xd fs => obtain ⟨_, ⟨_, _, _, e, _⟩, _⟩ := x; exact Heap.lt_size e
  | rng lo hi => obtain ⟨_, _, _, e⟩ := x; exact Heap.lt_size e
  | frz ob u => obtain ⟨e, _⟩ := x; exact Heap.lt_size e
  | tbl ps => exact Heap.lt_size (show h.get? a = some _ from x)
  | met f y => exact Heap.lt_size (show h.get? a = some _ from x)
  | ext φ => obtain ⟨_, ⟨_, e⟩, _⟩ := x; exact Heap.lt_size e
theorem Paired.mapP {α β : Type} {F G : α → β → Prop} : ∀ {l₁ : List α} {l₂ : List β}, Paired F l₁ l₂ → (∀ a b, F a b → G a b) → Paired G l₁ l₂
  | _, _, .nil, _ => .nil
  | _, _, .cons r t, f => .cons (f _ _ r) (Paired.mapP t f)
/-- what an object's description leans on: its own object, its own dict, the tuples -/
theorem ObjOk.stay (x : ObjOk P w H h a o) (k : ∀ b u, (b = a ∨ H b = some (.own a)) → h.get? b = some u → h'.get? b = some u)
    (ho : ∀ b, H b = some (.own a) → H' b = some (.own a)) (ht : ∀ b xs, H b = some (.tup xs) → H' b = some (.tup xs)) : ObjOk P w H' h' a o := by
  induction o with
  | lst xs => obtain ⟨z, its, n, r, e⟩ := x; exact ⟨z, its, n, r, k _ _ (.inl rfl) e⟩
  | tup xs => obtain ⟨z, its, r, ob, e, c⟩ := x; exact ⟨z, its, r, ob, k _ _ (.inl rfl) e, c⟩
  | dK kvs => obtain ⟨z, y, vs, r, ob, es, ep, e, c⟩ := x; exact ⟨z, y, vs, r, ob, es, ep, k _ _ (.inl rfl) e, c⟩
  | dT kvs =>
    obtain ⟨z, y, xs, r, ob, es, ep, e, c⟩ := x
    exact ⟨z, y, xs, Paired.mapP r fun p q z => ⟨z.1, ht _ _ z.2.1, z.2.2⟩, ob, es, ep, k _ _ (.inl rfl) e, c⟩
  | set S n => obtain ⟨ob, es, ep, t, e, c⟩ := x; exact ⟨ob, es, ep, t, k _ _ (.inl rfl) e, c⟩
  | ins C dx fs =>
    obtain ⟨d, z, ne, e, mA, ⟨od, es, ep, e2, c⟩, r⟩ := x
    exact ⟨ho _ d, z, ne, k _ _ (.inl rfl) e, mA, ⟨od, es, ep, k _ _ (.inr d) e2, c⟩, r⟩
  | own y => obtain ⟨ob, e⟩ := x; exact ⟨ob, k _ _ (.inl rfl) e⟩
  | xd fs => obtain ⟨mA, ⟨od, es, ep, e, c⟩, r⟩ := x; exact ⟨mA, ⟨od, es, ep, k _ _ (.inl rfl) e, c⟩, r⟩
  | rng lo hi => obtain ⟨t, u, v, e⟩ := x; exact ⟨t, u, v, k _ _ (.inl rfl) e⟩
  | frz ob u ih => obtain ⟨e, q⟩ := x; exact ⟨k _ _ (.inl rfl) e, ih q⟩
  | tbl ps =>
    have e : h.get? a = some { cls := .none, data := .fields ps } := x
    show h'.get? a = some { cls := .none, data := .fields ps }
    exact k a _ (.inl rfl) e
  | met f y =>
    have e : h.get? a = some (PySem.W.methodObj (.ref f) (.ref y)) := x
    show h'.get? a = some (PySem.W.methodObj (.ref f) (.ref y))
    exact k a _ (.inl rfl) e
  | ext φ => obtain ⟨p, ⟨o, e⟩, st⟩ := x; exact ⟨st _ _ p fun o q => k _ _ (.inl rfl) q, ⟨o, k _ _ (.inl rfl) e⟩, st⟩
theorem HOk.lt (x : HOk P w H h) (e : H a = some o) : a < h.objs.size := (x a o e).lt
theorem HOk.fresh (x : HOk P w H h) (e : h.objs.size ≤ a) : H a = none := by
  cases q : H a with
  | none => rfl
  | some u => exact absurd (Nat.lt_of_lt_of_le (x.lt q) e) (Nat.lt_irrefl _)
/-- every object of the heap is kept -/
theorem HOk.kept (x : HOk P w H h) (k : ∀ b u, h.get? b = some u → h'.get? b = some u) : HOk P w H h' := fun a o e =>
  (x a o e).stay (fun b u _ q => k b u q) (fun _ q => q) fun _ _ q => q
/-- a new object is laid and tracked -/
theorem HOk.laid (x : HOk P w H h) (k : ∀ b u, h.get? b = some u → h'.get? b = some u) (hp : h.objs.size ≤ a) (new : ObjOk P w (upd H a o) h' a o) : HOk P w (upd H a o) h' := fun b u e => by
  have hn := x.fresh hp
  by_cases hb : b = a
  · subst hb; rw [upd_same] at e; cases e; exact new
  · rw [upd_ne hb] at e
    exact (x b u e).stay (fun c v _ q => k c v q) (fun c q => by rw [upd_ne (ne_of_none q hn)]; exact q) fun c xs q => by rw [upd_ne (ne_of_none q hn)]; exact q
end

/-- what may be read as u: it is u, or a known u -/
def Rd (H : Hp) (a : Addr) (u : HO) : Prop := H a = some u ∨ ∃ o, H a = some (.frz o u)
theorem Rd.ok {P : Program} {w : World} {H : Hp} {h : Heap} {a : Addr} {u : HO} (r : Rd H a u) (x : HOk P w H h) : ObjOk P w H h a u := by
  rcases r with r | ⟨o, r⟩
  · exact x a u r
  · obtain ⟨_, q⟩ := x a _ r
    exact q
/-- what may be written -/
def Mut : Option HO → Prop
  | some (.lst _) => True
  | some (.dK _) => True
  | some (.dT _) => True
  | some (.set _ _) => True
  | some (.ins _ _ _) => True
  | some (.ext _) => True
  | _ => False
section
variable {P : Program} {w : World} {H : Hp} {h h' : Heap} {x e : Addr} {o' : HO}
/-- the object at e is changed: x itself, or the dict of the instance x -/
theorem HOk.write (ok : HOk P w H h) (mu : Mut (H x)) (he : e = x ∨ H e = some (.own x)) (k : ∀ b u, b ≠ e → h.get? b = some u → h'.get? b = some u) (heo : ∃ u, h'.get? e = some u)
    (new : ObjOk P w (upd H x o') h' x o') : HOk P w (upd H x o') h' := fun b u q => by
  have nown : ∀ c y, H c = some (.own y) → c ≠ x := fun c y r z => by subst z; rw [r] at mu; exact mu
  have ntup : ∀ c xs, H c = some (.tup xs) → c ≠ x := fun c xs r z => by subst z; rw [r] at mu; exact mu
  by_cases hb : b = x
  · subst hb; rw [upd_same] at q; cases q; exact new
  · rw [upd_ne hb] at q
    by_cases hbe : b = e
    · have q' : H b = some (.own x) := by
        rcases he with z | z
        · exact absurd (hbe.trans z) hb
        · rw [hbe]; exact z
      rw [q] at q'; cases q'
      obtain ⟨v, hv⟩ := heo
      exact ⟨v, by rw [hbe]; exact hv⟩
    · refine (ok b u q).stay (fun c v hc r => k c v ?_ r) (fun c r => by rw [upd_ne (nown c b r)]; exact r) fun c xs r => by rw [upd_ne (ntup c xs r)]; exact r
      rcases hc with rfl | hc
      · exact hbe
      · rintro rfl
        rcases he with z | z
        · exact nown c b hc z
        · rw [hc] at z; cases z; exact hb rfl
end

/-! ### kept unless tracked; of the frames at fs (the callers') the slots may change (an exception that passes writes there); of the records at ex (iterators) nothing is said -/
structure Un (fs ex : List Addr) (H H' : Hp) (h h' : Heap) : Prop where
  keep : ∀ b o, h.get? b = some o → H b = none → b ∉ fs → b ∉ ex → h'.get? b = some o
  slot : ∀ b o, h.get? b = some o → H b = none → b ∈ fs → b ∉ ex → ∃ sl, h'.get? b = some { o with slots := sl }
  free : ∀ b o, h.get? b = some o → H b = none → b ∉ ex → H' b = none
  there : ∀ b o, h.get? b = some o → b ∉ ex → ∃ o', h'.get? b = some o'
  tups : ∀ b xs, H b = some (.tup xs) → H' b = some (.tup xs)
  frzs : ∀ b o u, H b = some (.frz o u) → H' b = some (.frz o u)
  tbls : ∀ b ps, H b = some (.tbl ps) → ∃ more, H' b = some (.tbl (ps ++ more))
section
variable {fs fs' ex ex' : List Addr} {H H1 H2 : Hp} {h h1 h2 h' : Heap} {a x e : Addr} {o : HO}
theorem Un.any (u : Un fs ex H H1 h h1) {b : Addr} {ob : Obj} (q : h.get? b = some ob) (n : H b = none) (hx : b ∉ ex) : ∃ sl, h1.get? b = some { ob with slots := sl } := by
  by_cases hb : b ∈ fs
  · exact u.slot b ob q n hb hx
  · exact ⟨ob.slots, u.keep b ob q n hb hx⟩
theorem Un.kept (k : ∀ b u, h.get? b = some u → h'.get? b = some u) : Un fs ex H H h h' :=
  ⟨fun b ob q _ _ _ => k b ob q, fun b ob q _ _ _ => ⟨ob.slots, k b ob q⟩, fun _ _ _ n _ => n, fun b ob q _ => ⟨ob, k b ob q⟩, fun _ _ q => q, fun _ _ _ q => q, fun _ ps q => ⟨#[], by rw [q]; simp⟩⟩
theorem Un.refl : Un fs ex H H h h := Un.kept fun _ _ q => q
theorem Un.laid (k : ∀ b u, h.get? b = some u → h'.get? b = some u) (hp : h.objs.size ≤ a) (hn : H a = none) : Un fs ex H (upd H a o) h h' where
  keep := fun b u q _ _ _ => k b u q
  slot := fun b u q _ _ _ => ⟨u.slots, k b u q⟩
  free := fun b u q n _ => by rw [upd_ne (Nat.ne_of_lt (Nat.lt_of_lt_of_le (Heap.lt_size q) hp))]; exact n
  there := fun b u q _ => ⟨u, k b u q⟩
  tups := fun b xs q => by rw [upd_ne (ne_of_none q hn)]; exact q
  frzs := fun b u xs q => by rw [upd_ne (ne_of_none q hn)]; exact q
  tbls := fun b ps q => ⟨#[], by rw [upd_ne (ne_of_none q hn), q]; simp⟩
theorem Un.write (mu : Mut (H x)) (he : e = x ∨ H e = some (.own x)) (k : ∀ b u, b ≠ e → h.get? b = some u → h'.get? b = some u) (heo : ∃ u, h'.get? e = some u) : Un fs ex H (upd H x o) h h' := by
  have hx : ∀ b, H b = none → b ≠ x := fun b n z => by subst z; rw [n] at mu; exact mu
  have hb : ∀ b, H b = none → b ≠ e := fun b n z => by
    subst z
    rcases he with r | r
    · exact hx b n r
    · rw [n] at r; cases r
  have hm : ∀ b u, H b = some u → ¬ Mut (some u) → b ≠ x := fun b u q nm z => by subst z; rw [q] at mu; exact nm mu
  refine ⟨fun b u q n _ _ => k b u (hb b n) q, fun b u q n _ _ => ⟨u.slots, k b u (hb b n) q⟩, fun b u q n _ => by rw [upd_ne (hx b n)]; exact n, fun b u q _ => ?_,
    fun b xs q => by rw [upd_ne (hm b _ q fun z => z)]; exact q, fun b u xs q => by rw [upd_ne (hm b _ q fun z => z)]; exact q, fun b ps q => ⟨#[], by rw [upd_ne (hm b _ q fun z => z), q]; simp⟩⟩
  by_cases hbe : b = e
  · subst hbe; exact heo
  · exact ⟨u, k b u hbe q⟩
end

/-! ### the heap without what is tracked -/
def trk (h : Heap) (H : Hp) : List Addr := (List.range h.objs.size).filter fun a => (H a).isSome
def hidT (h : Heap) (H : Hp) : Heap := PySem.W.hideAll h (trk h H)
theorem hidT_size (h : Heap) (H : Hp) : (hidT h H).objs.size = h.objs.size := PySem.W.hideAll_size _ _
theorem hidT_get {h : Heap} {H : Hp} {b : Addr} {o : Obj} (e : h.get? b = some o) (n : H b = none) : (hidT h H).get? b = some o :=
  PySem.W.hideAll_get _ e fun hm => by
    have q : (H b).isSome = true := (List.mem_filter.mp hm).2
    rw [n] at q; simp at q
theorem of_hidT {h : Heap} {H : Hp} {b : Addr} {o : Obj} (e : (hidT h H).get? b = some o) : h.get? b = some o ∧ H b = none := by
  have e' : h.get? b = some o := PySem.W.of_hideAll (trk h H) e
  refine ⟨e', ?_⟩
  cases q : H b with
  | none => rfl
  | some x =>
    have hm : b ∈ trk h H := List.mem_filter.mpr ⟨List.mem_range.mpr (Heap.lt_size e'), by simp [q]⟩
    have z : (hidT h H).get? b = none := PySem.W.hideAll_none (trk h H) hm
    rw [z] at e; cases e

/-! ### OpenK's ledger, filled with every new object but one -/
def allNews (g h : Heap) (L : Addr) : List (Addr × Obj) := (List.range h.objs.size).filterMap fun a => if a = L ∨ (g.get? a).isSome = true then none else (h.get? a).map fun o => (a, o)
def rest (g h : Heap) (L d : Addr) : List (Addr × Obj) := (allNews g h L).filter fun p => decide (p.1 ≠ d)
end L2

namespace L2
open PySem PySem.Spec PyProof.Rows

/-- the module's facts, over the base: the heap at the law's entry without what is tracked there -/
structure Mod (K : PySem.W.Frag) (mg : Str → Option Value) (base : Heap) : Prop where
  kin : K.In base
  glob : base.Ns mainGlobals mg
  blt : ∃ mb, base.Ns builtinsNs mb ∧ ∀ x : Str, x ≠ "__name__" → mb x = bootBuiltins x
  nolimit : base.NoLimit

/-- the context: a def's body (or a comprehension's block) running. base: fixed through the whole law; s₀, H₀: the entry; outer: the frames whose slots others may change (a def's callers); stack: all frames that run;
   ex: iterators that were made ahead of the entry and are walked here (a comprehension's); fn: the names whose cells were made at the entry (a def: all; a comprehension's block: its own); calm: not within an except suite; pn: pins that every state bears; xe: what is wanted of an exception that leaves the code -/
structure Cx where
  prog : Program
  w : World
  K : PySem.W.Frag
  mg : Str → Option Value
  base : Heap
  A : Around
  N : List Str
  s₀ : Shared
  H₀ : Hp
  env : Env
  outer : List Env
  stack : List Env
  ex : List Addr
  fn : Str → Bool
  calm : Bool
  pn : List (Addr × Obj)
  xe : Value → Shared → Prop
/-- the callers' frames -/
def frs (l : List Env) : List Addr := l.filterMap (·.frame)
abbrev Cx.fs (X : Cx) : List Addr := frs X.outer

def Vis (sc : Scope) (x : Str) : Prop := sc.names.lookup x = some .local ∨ sc.names.lookup x = some .cell ∨ sc.names.lookup x = some .free
def Loc (sc : Scope) (x : Str) : Prop := sc.names.lookup x = some .local ∨ sc.names.lookup x = some .cell
def Look (env : Env) (h : Heap) (m : Str → Option Value) (x : Str) (u : Value) : Prop :=
  (env.kindOf x = some .local ∧ m x = some u) ∨ ((env.kindOf x = some .cell ∨ env.kindOf x = some .free) ∧ ∃ c, env.cells.lookup x = some c ∧ h.IsCell c (some u))

structure Cx.Ok (X : Cx) : Prop where
  mod : Mod X.K X.mg X.base
  kind : X.env.scope.kind = .function
  glob : X.env.globals = mainGlobals
  blt : X.env.builtins = builtinsNs
  above : X.s₀.heap.objs.size ≤ X.env.locals
  inj : ∀ x y c, X.env.cells.lookup x = some c → X.env.cells.lookup y = some c → x = y
  has : ∀ x, (X.env.kindOf x = some .cell ∨ X.env.kindOf x = some .free) → ∃ c, X.env.cells.lookup x = some c
  cab : ∀ x c, X.fn x = true → X.env.cells.lookup x = some c → X.s₀.heap.objs.size ≤ c
  hd : X.calm = true → X.A.handled = none
  frames : X.A.frames = some X.stack
  stk : X.stack = X.outer ∨ (X.stack = X.env :: X.outer ∧ X.env.frame = some X.env.locals)
  exf : ∀ b ∈ X.ex, b ≠ X.env.locals ∧ ∀ x c, X.env.cells.lookup x = some c → c ≠ b
  bs : ∀ b o, X.base.get? b = some o → X.s₀.heap.get? b = some o ∧ X.H₀ b = none
  bsz : X.base.objs.size ≤ X.s₀.heap.objs.size
  noex : ∀ b o, X.base.get? b = some o → b ∉ X.ex
  exfs : ∀ b ∈ X.ex, b ∉ X.fs
  funs : X.s₀.heap.FunFrames X.base X.outer
  frf : ∀ b ∈ X.fs, X.H₀ b = none

structure Inv (X : Cx) (pins : List (Addr × Obj)) (σ : List (Option V)) (H : Hp) (s : Shared) : Prop where
  ok : X.Ok
  os : s.os = X.s₀.os
  bare : AllBare s.gens
  base : Un X.fs X.ex X.H₀ H X.s₀.heap s.heap
  loc : ∃ m, s.heap.Ns X.env.locals m ∧ ∀ (i : Nat) (x : Str) (v : V), X.N[i]? = some x → σ[i]? = some (some v) → Vis X.env.scope x → ∃ u, RelV v u ∧ Look X.env s.heap m x u
  cell : ∀ x c, X.env.cells.lookup x = some c → ∃ v, s.heap.IsCell c v
  free : H X.env.locals = none
  freeC : ∀ x c, X.env.cells.lookup x = some c → H c = none
  pin : ∀ p ∈ X.pn ++ pins, s.heap.get? p.1 = some p.2 ∧ H p.1 = none ∧ p.1 ≠ X.env.locals ∧ p.1 ∉ X.fs ∧ ∀ v, p.2.data ≠ .cell v
  hok : HOk X.prog X.w H s.heap
  len : σ.length = X.N.length

section
variable {X : Cx} {pins : List (Addr × Obj)} {σ : List (Option V)} {H H' : Hp} {s : Shared} {h' : Heap}

theorem Cx.Ok.nofr (ok : X.Ok) {b : Addr} {o : Obj} (e : X.base.get? b = some o) : b ∉ X.fs := fun hb => by
  have := (ok.funs.mem hb).1
  rw [e] at this; cases this
theorem Inv.bs (I : Inv X pins σ H s) : ∀ b o, X.base.get? b = some o → s.heap.get? b = some o ∧ H b = none := fun b o e =>
  ⟨I.base.keep b o (I.ok.bs b o e).1 (I.ok.bs b o e).2 (I.ok.nofr e) (I.ok.noex b o e), I.base.free b o (I.ok.bs b o e).1 (I.ok.bs b o e).2 (I.ok.noex b o e)⟩
theorem Inv.bk (I : Inv X pins σ H s) : ∀ b o, X.base.get? b = some o → s.heap.get? b = some o := fun b o e => (I.bs b o e).1
theorem Inv.mod (I : Inv X pins σ H s) : Mod X.K X.mg X.base := I.ok.mod
theorem Inv.kIn (I : Inv X pins σ H s) : X.K.In s.heap := I.ok.mod.kin.keeps I.bk
theorem Inv.lt (I : Inv X pins σ H s) : X.env.locals < s.heap.objs.size := let ⟨_, hn, _⟩ := I.loc; hn.lt
theorem Inv.sz (I : Inv X pins σ H s) : X.s₀.heap.objs.size ≤ s.heap.objs.size := Nat.le_trans I.ok.above (Nat.le_of_lt I.lt)
theorem Inv.nofs (I : Inv X pins σ H s) {a : Addr} (h : s.heap.objs.size ≤ a) : a ∉ X.fs := fun hb => by
  obtain ⟨_, o, ho, _⟩ := I.ok.funs.mem hb
  exact absurd (Nat.lt_of_lt_of_le (Heap.lt_size ho) (Nat.le_trans I.sz h)) (Nat.lt_irrefl _)
theorem Inv.cne (I : Inv X pins σ H s) : ∀ x c, X.env.cells.lookup x = some c → c ≠ X.env.locals := fun x c e z => by
  obtain ⟨v, o, ho, hd⟩ := I.cell x c e
  obtain ⟨m, ⟨o', es, ep, ho', hd', _⟩, _⟩ := I.loc
  rw [z, ho'] at ho; cases ho; rw [hd'] at hd; cases hd
theorem Inv.funs (I : Inv X pins σ H s) : s.heap.FunFrames X.base X.outer := by
  have all : ∀ (l : List Env), (∀ b ∈ frs l, b ∈ X.fs) → X.s₀.heap.FunFrames X.base l → s.heap.FunFrames X.base l := by
    intro l
    induction l with
    | nil => intro _ _; trivial
    | cons env r ih =>
      intro hs hl
      obtain ⟨hk, ⟨L, o, hf, hn, ho, hd⟩, hr⟩ := hl
      have hL : L ∈ X.fs := hs L (by unfold frs; rw [List.filterMap_cons, hf]; exact List.mem_cons_self)
      obtain ⟨sl, e⟩ := I.base.slot L o ho (I.ok.frf L hL) hL fun z => I.ok.exfs L z hL
      exact ⟨hk, ⟨L, _, hf, hn, e, hd⟩, ih (fun b hb => hs b (by unfold frs; rw [List.filterMap_cons, hf]; exact List.mem_cons_of_mem _ hb)) hr⟩
  exact all X.outer (fun _ hb => hb) I.ok.funs

/-- the frames that run, for a call -/
theorem Inv.stack (I : Inv X pins σ H s) : s.heap.FunFrames X.base X.stack := by
  rcases I.ok.stk with e | ⟨e, hf⟩
  · rw [e]; exact I.funs
  · rw [e]
    obtain ⟨m, hn, _⟩ := I.loc
    refine .cons (by rw [I.ok.kind]; decide) hf hn ?_ I.funs
    exact Heap.get?_none_of_le (Nat.le_trans I.ok.bsz I.ok.above)
theorem Inv.stkSub (I : Inv X pins σ H s) : ∀ b ∈ frs X.stack, b ∈ X.env.locals :: X.fs := fun b hb => by
  rcases I.ok.stk with e | ⟨e, hf⟩
  · rw [e] at hb; exact List.mem_cons_of_mem _ hb
  · rw [e] at hb
    unfold frs at hb
    rw [List.filterMap_cons, hf] at hb
    exact hb
theorem Inv.stkFree (I : Inv X pins σ H s) : ∀ b ∈ frs X.stack, H b = none := fun b hb => by
  rcases List.mem_cons.mp (I.stkSub b hb) with e | hb
  · rw [e]; exact I.free
  · obtain ⟨_, o, ho, _⟩ := I.ok.funs.mem hb
    exact I.base.free b o ho (I.ok.frf b hb) fun z => I.ok.exfs b z hb

/-- THE STEP: the untracked objects but the frame and the records at ch are kept (the callers' frames up to slots), the frame's map is kept, the new abstract heap is held -/
theorem Inv.step {g' : Array GenState} {t' : Nat} {d' : Drawn} {ch : List Addr} (I : Inv X pins σ H s)
    (hch : ∀ b ∈ ch, (b ∈ X.ex ∨ X.s₀.heap.get? b = none) ∧ b ≠ X.env.locals ∧ (∀ x c, X.env.cells.lookup x = some c → c ≠ b) ∧ ∀ p ∈ X.pn ++ pins, p.1 ≠ b)
    (keep : ∀ b o, b ≠ X.env.locals → b ∉ X.fs → b ∉ ch → s.heap.get? b = some o → H b = none → h'.get? b = some o)
    (slot : ∀ b o, b ≠ X.env.locals → b ∈ X.fs → b ∉ ch → s.heap.get? b = some o → H b = none → ∃ sl, h'.get? b = some { o with slots := sl }) (free : ∀ b o, b ∉ ch → s.heap.get? b = some o → H b = none → H' b = none)
    (there : ∀ b o, b ∉ ch → s.heap.get? b = some o → ∃ o', h'.get? b = some o')
    (tups : ∀ b xs, H b = some (.tup xs) → H' b = some (.tup xs)) (frzs : ∀ b o u, H b = some (.frz o u) → H' b = some (.frz o u)) (tbls : ∀ b ps, H b = some (.tbl ps) → ∃ more, H' b = some (.tbl (ps ++ more)))
    (ns : ∀ m, s.heap.Ns X.env.locals m → h'.Ns X.env.locals m) (hok : HOk X.prog X.w H' h') (hg : AllBare g') :
    Inv X pins σ H' { s with heap := h', gens := g', drawn := d', toks := t' } := by
  have neL : ∀ b o, X.s₀.heap.get? b = some o → b ≠ X.env.locals := fun b o e => Nat.ne_of_lt (Nat.lt_of_lt_of_le (Heap.lt_size e) I.ok.above)
  have neC : ∀ b o, X.s₀.heap.get? b = some o → b ∉ X.ex → b ∉ ch := fun b o e hx hb => by
    rcases (hch b hb).1 with z | z
    · exact hx z
    · rw [e] at z; cases z
  have cellK : ∀ x c, X.env.cells.lookup x = some c → ∀ v, s.heap.IsCell c v → h'.IsCell c v := fun x c e v ⟨o, ho, hd⟩ => by
    have nch : c ∉ ch := fun z => (hch c z).2.2.1 x c e rfl
    by_cases hc : c ∈ X.fs
    · obtain ⟨sl, q⟩ := slot c o (I.cne x c e) hc nch ho (I.freeC x c e)
      exact ⟨_, q, hd⟩
    · exact ⟨o, keep c o (I.cne x c e) hc nch ho (I.freeC x c e), hd⟩
  refine ⟨I.ok, I.os, hg, ⟨fun b o e n hb hx => ?_, fun b o e n hb hx => ?_, fun b o e n hx => ?_, fun b o e hx => ?_, fun b xs e => tups b xs (I.base.tups b xs e), fun b o xs e => frzs b o xs (I.base.frzs b o xs e), fun b ps e => ?_⟩, ?_, fun x c e => ?_, ?_, fun x c e => ?_, fun p hp => ?_, hok, I.len⟩
  · exact keep b o (neL b o e) hb (neC b o e hx) (I.base.keep b o e n hb hx) (I.base.free b o e n hx)
  · obtain ⟨sl, e1⟩ := I.base.slot b o e n hb hx
    obtain ⟨sl', e2⟩ := slot b _ (neL b o e) hb (neC b o e hx) e1 (I.base.free b o e n hx)
    exact ⟨sl', e2⟩
  · obtain ⟨o', e1⟩ := I.base.there b o e hx
    exact free b o' (neC b o e hx) e1 (I.base.free b o e n hx)
  · obtain ⟨o', e1⟩ := I.base.there b o e hx
    exact there b o' (neC b o e hx) e1
  · obtain ⟨m1, e1⟩ := I.base.tbls b ps e
    obtain ⟨m2, e2⟩ := tbls b _ e1
    exact ⟨m1 ++ m2, by rw [e2, Array.append_assoc]⟩
  · obtain ⟨m, hn, hl⟩ := I.loc
    refine ⟨m, ns m hn, fun i x v e1 e2 e3 => ?_⟩
    obtain ⟨u, r, l⟩ := hl i x v e1 e2 e3
    refine ⟨u, r, ?_⟩
    rcases l with l | ⟨k, c, e, z⟩
    · exact .inl l
    · exact .inr ⟨k, c, e, cellK x c e _ z⟩
  · obtain ⟨v, z⟩ := I.cell x c e
    exact ⟨v, cellK x c e v z⟩
  · obtain ⟨m, ⟨o, _, _, ho, _⟩, _⟩ := I.loc
    exact free _ o (fun z => (hch _ z).2.1 rfl) ho I.free
  · obtain ⟨v, o, ho, hd⟩ := I.cell x c e
    exact free c o (fun z => (hch c z).2.2.1 x c e rfl) ho (I.freeC x c e)
  · obtain ⟨e, n, ne, nf, d⟩ := I.pin p hp
    have nch : p.1 ∉ ch := fun z => (hch p.1 z).2.2.2 p hp rfl
    exact ⟨keep p.1 p.2 ne nf nch e n, free p.1 p.2 nch e n, ne, nf, d⟩
/-- .. where the frame's own object is kept too -/
theorem Inv.un {t' : Nat} (I : Inv X pins σ H s) (u : Un X.fs [] H H' s.heap h') (hok : HOk X.prog X.w H' h') : Inv X pins σ H' { s with heap := h', toks := t' } := by
  obtain ⟨m, ⟨o, es, ep, ho, r⟩, _⟩ := id I.loc
  obtain ⟨sl, hL⟩ := u.any ho I.free (by simp)
  exact I.step (g' := s.gens) (d' := s.drawn) (ch := []) (fun _ z => nomatch z) (fun b o _ hb _ e n => u.keep b o e n hb (by simp)) (fun b o _ hb _ e n => u.slot b o e n hb (by simp)) (fun b o _ e n => u.free b o e n (by simp)) (fun b o _ e => u.there b o e (by simp)) u.tups u.frzs u.tbls (fun m' hm => by
    obtain ⟨o', es', ep', ho', r'⟩ := hm
    rw [ho] at ho'; cases ho'
    exact ⟨_, es', ep', hL, r'⟩) hok I.bare
/-- behind a call (or a comprehension's block): the slots of this frame may have changed too, the records at ch may have turned -/
theorem Inv.call {g' : Array GenState} {t' : Nat} {d' : Drawn} {ch : List Addr} (I : Inv X pins σ H s) (u : Un (frs X.stack) ch H H' s.heap h') (hok : HOk X.prog X.w H' h') (hg : AllBare g')
    (hch : ∀ b ∈ ch, (b ∈ X.ex ∨ X.s₀.heap.get? b = none) ∧ b ≠ X.env.locals ∧ (∀ x c, X.env.cells.lookup x = some c → c ≠ b) ∧ ∀ p ∈ X.pn ++ pins, p.1 ≠ b) :
    Inv X pins σ H' { s with heap := h', gens := g', drawn := d', toks := t' } := by
  obtain ⟨m, ⟨o, es, ep, ho, r⟩, _⟩ := id I.loc
  obtain ⟨sl, hL⟩ := u.any ho I.free fun z => (hch _ z).2.1 rfl
  exact I.step (ch := ch) hch (fun b o hL hb hc e n => u.keep b o e n (fun z => (List.mem_cons.mp (I.stkSub b z)).elim hL hb) hc) (fun b o _ _ hc e n => u.any e n hc) (fun b o hc e n => u.free b o e n hc) (fun b o hc e => u.there b o e hc) u.tups u.frzs u.tbls (fun m' hm => by
    obtain ⟨o', es', ep', ho', r'⟩ := hm
    rw [ho] at ho'; cases ho'
    exact ⟨_, es', ep', hL, r'⟩) hok hg
/-- an untracked record of ours (an iterator) has turned -/
theorem Inv.turned {t' : Nat} {it : Addr} (I : Inv X pins σ H s) (k : ∀ b o, b ≠ it → s.heap.get? b = some o → h'.get? b = some o) (hn : H it = none) (hL : it ≠ X.env.locals)
    (h1 : it ∈ X.ex ∨ X.s₀.heap.get? it = none) (h2 : ∀ x c, X.env.cells.lookup x = some c → c ≠ it) (h3 : ∀ p ∈ X.pn ++ pins, p.1 ≠ it) : Inv X pins σ H { s with heap := h', toks := t' } := by
  have nit : ∀ b u, H b = some u → b ≠ it := fun b u e z => by rw [z, hn] at e; cases e
  refine I.step (g' := s.gens) (d' := s.drawn) (ch := [it]) (fun b hb => ?_) (fun b o _ _ hc e _ => k b o (fun z => hc (by simp [z])) e) (fun b o _ _ hc e _ => ⟨o.slots, k b o (fun z => hc (by simp [z])) e⟩) (fun _ _ _ _ n => n)
    (fun b o hc e => ⟨o, k b o (fun z => hc (by simp [z])) e⟩) (fun _ _ e => e) (fun _ _ _ e => e) (fun b ps e => ⟨#[], by rw [e]; simp⟩) (fun m hm => ?_) (fun b u e => ?_) I.bare
  · have e : b = it := by simpa using hb
    subst e
    exact ⟨h1, hL, h2, h3⟩
  · obtain ⟨o, es, ep, ho, r⟩ := hm
    exact ⟨o, es, ep, k _ o (Ne.symm hL) ho, r⟩
  · refine (I.hok b u e).stay (fun c v hc q => k c v ?_ q) (fun _ q => q) fun _ _ q => q
    rcases hc with z | z
    · rw [z]; exact nit b u e
    · exact nit c _ z
theorem Inv.tok (I : Inv X pins σ H s) (t : Nat) : Inv X pins σ H { s with toks := t } := I.un (h' := s.heap) (t' := t) Un.refl I.hok
/-- all objects kept -/
theorem Inv.kept {t' : Nat} (I : Inv X pins σ H s) (k : ∀ b u, s.heap.get? b = some u → h'.get? b = some u) : Inv X pins σ H { s with heap := h', toks := t' } := I.un (Un.kept k) (I.hok.kept k)
/-- a new object laid and tracked -/
theorem Inv.laid {a : Addr} {o : HO} {t' : Nat} (I : Inv X pins σ H s) (k : ∀ b u, s.heap.get? b = some u → h'.get? b = some u) (hp : s.heap.objs.size ≤ a) (new : ObjOk X.prog X.w (upd H a o) h' a o) :
    Inv X pins σ (upd H a o) { s with heap := h', toks := t' } := I.un (Un.laid k hp (I.hok.fresh hp)) (I.hok.laid k hp new)
/-- an object written -/
theorem Inv.write {x e : Addr} {o : HO} {t' : Nat} (I : Inv X pins σ H s) (mu : Mut (H x)) (he : e = x ∨ H e = some (.own x)) (k : ∀ b u, b ≠ e → s.heap.get? b = some u → h'.get? b = some u) (heo : ∃ u, h'.get? e = some u)
    (new : ObjOk X.prog X.w (upd H x o) h' x o) : Inv X pins σ (upd H x o) { s with heap := h', toks := t' } := I.un (Un.write mu he k heo) (I.hok.write mu he k heo new)
/-- forgetting slots, pins -/
theorem Inv.weak {σ' : List (Option V)} (I : Inv X pins σ H s) (hl : σ'.length = σ.length) (w : ∀ (i : Nat) v, σ'[i]? = some (some v) → σ[i]? = some (some v)) : Inv X pins σ' H s :=
  ⟨I.ok, I.os, I.bare, I.base, let ⟨m, hn, hl'⟩ := I.loc; ⟨m, hn, fun i x v e1 e2 e3 => hl' i x v e1 (w i v e2) e3⟩, I.cell, I.free, I.freeC, I.pin, I.hok, hl.trans I.len⟩
theorem Inv.pins_of {pins' : List (Addr × Obj)} (I : Inv X pins σ H s) (h : ∀ p ∈ pins', s.heap.get? p.1 = some p.2 ∧ H p.1 = none ∧ p.1 ≠ X.env.locals ∧ p.1 ∉ X.fs ∧ ∀ v, p.2.data ≠ .cell v) : Inv X pins' σ H s :=
  ⟨I.ok, I.os, I.bare, I.base, I.loc, I.cell, I.free, I.freeC, fun p hp => (List.mem_append.mp hp).elim (fun z => I.pin p (List.mem_append_left _ z)) (h p), I.hok, I.len⟩

theorem nodup_ix {N : List Str} (hN : N.Nodup) {i j : Nat} {x : Str} (a : N[i]? = some x) (b : N[j]? = some x) : i = j := by
  obtain ⟨h1, e1⟩ := List.getElem?_eq_some_iff.mp a
  obtain ⟨h2, e2⟩ := List.getElem?_eq_some_iff.mp b
  exact (List.getElem_inj hN).mp (e1.trans e2.symm)

/-- a name is stored; what changed -/
theorem store_ok2 {M : Model} {A : Around} {E : Value → Shared → Prop} {i : Nat} {x : Str} {v : V} {u : Value} {Q : Unit → Shared → Prop} (I : Inv X pins σ H s) (hN : X.N.Nodup) (hi : X.N[i]? = some x) (hx : Loc X.env.scope x) (r : RelV v u)
    (h : ∀ s', Inv X pins (σ.set i (some v)) H s' → (∃ a, Heap.SameBut a s.heap s'.heap ∧ (a = X.env.locals ∨ X.env.cells.lookup x = some a)) → Q () s') (hf : X.fn x = true ∨ X.env.scope.names.lookup x = some .local := by first | exact .inl rfl | exact .inr rfl | assumption) : wpAny M A (storeName X.env x u) Q E s := by
  obtain ⟨m, hn, hl⟩ := id I.loc
  have hcls : (X.env.scope.kind == .class || (X.env.scope.kind == .module && X.env.locals != X.env.globals)) = false := by rw [I.ok.kind]; rfl
  have hiσ : i < σ.length := by rw [I.len]; exact (List.getElem?_eq_some_iff.mp hi).1
  have cne := I.cne
  have tracked : ∀ {a : Addr} {h' : Heap}, (∃ o, s.heap.get? a = some o ∧ H a = none) → Heap.SameBut a s.heap h' → HOk X.prog X.w H h' := fun {a h'} ha hs b ob e => by
    obtain ⟨_, _, hfree⟩ := ha
    refine (I.hok b ob e).stay (fun c w' hc q => (hs.2 c ?_).trans q) (fun _ q => q) fun _ _ q => q
    rintro rfl
    rcases hc with rfl | hc
    · rw [hfree] at e; cases e
    · rw [hfree] at hc; cases hc
  rcases hx with hk | hk
  · refine wpAny_storeName_local hk hn (fun h' hn' hs => ?_) hcls
    obtain ⟨oL, _, _, hoL, _⟩ := id hn
    refine h _ ⟨I.ok, I.os, I.bare, ⟨fun b o e n hb hx => ?_, fun b o e n hb hx => ?_, I.base.free, fun b o e hx => ?_, I.base.tups, I.base.frzs, I.base.tbls⟩, ⟨_, hn', fun j y v' e1 e2 e3 => ?_⟩, fun y c e => ?_, I.free, I.freeC, fun p hp => ?_, tracked ⟨oL, hoL, I.free⟩ hs, by simpa using I.len⟩ ⟨_, hs, .inl rfl⟩
    · exact (hs.2 b (Nat.ne_of_lt (Nat.lt_of_lt_of_le (Heap.lt_size e) I.ok.above))).trans (I.base.keep b o e n hb hx)
    · obtain ⟨sl, e1⟩ := I.base.slot b o e n hb hx
      exact ⟨sl, (hs.2 b (Nat.ne_of_lt (Nat.lt_of_lt_of_le (Heap.lt_size e) I.ok.above))).trans e1⟩
    · obtain ⟨o', e1⟩ := I.base.there b o e hx
      exact ⟨o', (hs.2 b (Nat.ne_of_lt (Nat.lt_of_lt_of_le (Heap.lt_size e) I.ok.above))).trans e1⟩
    · by_cases hj : j = i
      · subst hj
        rw [hi] at e1; cases e1
        rw [List.getElem?_set_self hiσ] at e2
        cases e2
        exact ⟨u, r, .inl ⟨hk, by simp⟩⟩
      · rw [List.getElem?_set_ne (Ne.symm hj)] at e2
        obtain ⟨u', r', q⟩ := hl j y v' e1 e2 e3
        refine ⟨u', r', ?_⟩
        rcases q with ⟨k, e⟩ | ⟨k, c, e, z⟩
        · refine .inl ⟨k, ?_⟩
          have : y ≠ x := fun e => hj (nodup_ix hN e1 (e ▸ hi))
          simp [this, e]
        · exact .inr ⟨k, c, e, z.sameBut hs (cne y c e)⟩
    · obtain ⟨w', z⟩ := I.cell y c e
      exact ⟨w', z.sameBut hs (cne y c e)⟩
    · obtain ⟨e, n, ne, nf, d⟩ := I.pin p hp
      exact ⟨(hs.2 p.1 ne).trans e, n, ne, nf, d⟩
  · have hfn : X.fn x = true := by
      rcases hf with z | z
      · exact z
      · rw [z] at hk; cases hk
    obtain ⟨c, hc⟩ := I.ok.has x (.inl hk)
    obtain ⟨w', z⟩ := I.cell x c hc
    refine wpAny_storeName_cell I.ok.kind hk hc z (fun h' hc' hs => ?_)
    obtain ⟨oc, hoc, hocd⟩ := id z
    refine h { s with heap := h' } ⟨I.ok, I.os, I.bare, ⟨fun b o e n hb hx => ?_, fun b o e n hb hx => ?_, I.base.free, fun b o e hx => ?_, I.base.tups, I.base.frzs, I.base.tbls⟩, ⟨m, hn.sameBut hs (Ne.symm (cne x c hc)), fun j y v' e1 e2 e3 => ?_⟩, fun y c' e => ?_, I.free, I.freeC, fun p hp => ?_, tracked ⟨oc, hoc, I.freeC x c hc⟩ hs, by simpa using I.len⟩ ⟨c, hs, .inr hc⟩
    · exact (hs.2 b (Nat.ne_of_lt (Nat.lt_of_lt_of_le (Heap.lt_size e) (I.ok.cab x c hfn hc)))).trans (I.base.keep b o e n hb hx)
    · obtain ⟨sl, e1⟩ := I.base.slot b o e n hb hx
      exact ⟨sl, (hs.2 b (Nat.ne_of_lt (Nat.lt_of_lt_of_le (Heap.lt_size e) (I.ok.cab x c hfn hc)))).trans e1⟩
    · obtain ⟨o', e1⟩ := I.base.there b o e hx
      exact ⟨o', (hs.2 b (Nat.ne_of_lt (Nat.lt_of_lt_of_le (Heap.lt_size e) (I.ok.cab x c hfn hc)))).trans e1⟩
    · by_cases hj : j = i
      · subst hj
        rw [hi] at e1; cases e1
        rw [List.getElem?_set_self hiσ] at e2
        cases e2
        exact ⟨u, r, .inr ⟨.inl hk, c, hc, hc'⟩⟩
      · rw [List.getElem?_set_ne (Ne.symm hj)] at e2
        obtain ⟨u', r', q⟩ := hl j y v' e1 e2 e3
        refine ⟨u', r', ?_⟩
        rcases q with q | ⟨k, c', e, z'⟩
        · exact .inl q
        · refine .inr ⟨k, c', e, z'.sameBut hs ?_⟩
          rintro rfl
          exact hj (nodup_ix hN e1 (I.ok.inj _ _ _ e hc ▸ hi))
    · by_cases hcc : c' = c
      · subst hcc; exact ⟨_, hc'⟩
      · obtain ⟨w2, z2⟩ := I.cell y c' e
        exact ⟨w2, z2.sameBut hs hcc⟩
    · obtain ⟨e, n, ne, nf, d⟩ := I.pin p hp
      refine ⟨(hs.2 p.1 ?_).trans e, n, ne, nf, d⟩
      intro q
      rw [q, hoc] at e
      have q' : oc = p.2 := Option.some.inj e
      exact d w' (by rw [← q']; exact hocd)
theorem store_ok {M : Model} {A : Around} {E : Value → Shared → Prop} {i : Nat} {x : Str} {v : V} {u : Value} {Q : Unit → Shared → Prop} (I : Inv X pins σ H s) (hN : X.N.Nodup) (hi : X.N[i]? = some x) (hx : Loc X.env.scope x) (r : RelV v u)
    (h : ∀ s', Inv X pins (σ.set i (some v)) H s' → Q () s') (hf : X.fn x = true ∨ X.env.scope.names.lookup x = some .local := by first | exact .inl rfl | exact .inr rfl | assumption) : wpAny M A (storeName X.env x u) Q E s :=
  store_ok2 I hN hi hx r (fun s' I' _ => h s' I') hf
/-- behind a call or a block, the state as it is -/
theorem Inv.call' {s' : Shared} {ch : List Addr} (I : Inv X pins σ H s) (ho : s'.os = s.os) (u : Un (frs X.stack) ch H H' s.heap s'.heap) (hok : HOk X.prog X.w H' s'.heap) (hg : AllBare s'.gens)
    (hch : ∀ b ∈ ch, (b ∈ X.ex ∨ X.s₀.heap.get? b = none) ∧ b ≠ X.env.locals ∧ (∀ x c, X.env.cells.lookup x = some c → c ≠ b) ∧ ∀ p ∈ X.pn ++ pins, p.1 ≠ b) : Inv X pins σ H' s' := by
  obtain ⟨h', g', d', t', o'⟩ := s'
  have e : o' = s.os := ho
  subst e
  exact I.call (g' := g') (t' := t') (d' := d') u hok hg hch
end

/-! ### the judgements -/
/-- an exception: its class, its own dict's address (where it has one), the abstract heap behind it -/
abbrev XK := Value → Option Addr → Hp → Prop
abbrev St := List (Option V)
abbrev VK := V → Hp → Prop
/-- an expression's reading; a test's; an argument list's -/
abbrev TE := St → Hp → VK → Prop
abbrev TT := St → Hp → (Bool → Hp → Prop) → Prop
abbrev TA := St → Hp → (List V → Hp → Prop) → Prop
/-- what is wanted behind a statement -/
structure Ends where
  nx : St → Hp → Prop
  rt : VK
  bk : St → Hp → Prop := fun _ _ => False
  ct : St → Hp → Prop := fun _ _ => False
abbrev TS := Ends → St → Hp → Prop

def EP (X : Cx) (pins : List (Addr × Obj)) (σ : St) (Q : VK) (u : Value) (s' : Shared) : Prop := ∃ v H', Inv X pins σ H' s' ∧ RelV v u ∧ Q v H'
def TP (X : Cx) (pins : List (Addr × Obj)) (σ : St) (Q : Bool → Hp → Prop) (b : Bool) (s' : Shared) : Prop := ∃ H', Inv X pins σ H' s' ∧ Q b H'
def AP (X : Cx) (pins : List (Addr × Obj)) (σ : St) (Q : List V → Hp → Prop) (us : List Value) (s' : Shared) : Prop := ∃ vs H', Inv X pins σ H' s' ∧ Vals vs us ∧ Q vs H'
def SP (X : Cx) (pins : List (Addr × Obj)) (D : Ends) (f : Flow) (s' : Shared) : Prop :=
  match f with
  | .next => ∃ σ' H', Inv X pins σ' H' s' ∧ D.nx σ' H'
  | .brk => ∃ σ' H', Inv X pins σ' H' s' ∧ D.bk σ' H'
  | .cont => ∃ σ' H', Inv X pins σ' H' s' ∧ D.ct σ' H'
  | .ret u => ∃ v σ' H', Inv X pins σ' H' s' ∧ RelV v u ∧ D.rt v H'

def PE (X : Cx) (e : Expr) (t : TE) : Prop :=
  ∀ (pins : List (Addr × Obj)) (s : Shared) (σ : St) (H : Hp) (Q : VK), Inv X pins σ H s → t σ H Q → wpAny (model X.prog X.w) X.A (eval e X.env) (EP X pins σ Q) X.xe s
def PT (X : Cx) (e : Expr) (t : TT) : Prop :=
  ∀ (pins : List (Addr × Obj)) (s : Shared) (σ : St) (H : Hp) (Q : Bool → Hp → Prop), Inv X pins σ H s → t σ H Q → wpAny (model X.prog X.w) X.A (isTrue e X.env (eval e X.env)) (TP X pins σ Q) X.xe s
/-- a test whatever its 'whole' is (and, or) -/
def PW (X : Cx) (e : Expr) (t : TT) : Prop :=
  ∀ (whole : Sem Value) (pins : List (Addr × Obj)) (s : Shared) (σ : St) (H : Hp) (Q : Bool → Hp → Prop), Inv X pins σ H s → t σ H Q → wpAny (model X.prog X.w) X.A (isTrue e X.env whole) (TP X pins σ Q) X.xe s
theorem PW.pt {X : Cx} {e : Expr} {t : TT} (h : PW X e t) : PT X e t := h _
/-- an argument list (no star), from the left -/
def PA (X : Cx) (es : List Expr) (t : TA) : Prop :=
  ∀ (pos : Pos) (pins : List (Addr × Obj)) (s : Shared) (σ : St) (H : Hp) (Q : List V → Hp → Prop), Inv X pins σ H s → t σ H Q → wpAny (model X.prog X.w) X.A (spliced (backTo pos (starEach es X.env))) (AP X pins σ Q) X.xe s
def PS (X : Cx) (st : Stmt) (t : TS) : Prop :=
  ∀ (pins : List (Addr × Obj)) (s : Shared) (σ : St) (H : Hp) (D : Ends), Inv X pins σ H s → t D σ H → wpAny (model X.prog X.w) X.A (exec st X.env) (SP X pins D) X.xe s
def PSs (X : Cx) (st : List Stmt) (t : TS) : Prop :=
  ∀ (pins : List (Addr × Obj)) (s : Shared) (σ : St) (H : Hp) (D : Ends), Inv X pins σ H s → t D σ H → wpAny (model X.prog X.w) X.A (execs st X.env) (SP X pins D) X.xe s
/-- weaken the end -/
theorem thn {α : Type} {t : Sem α} {Q Q' : α → Shared → Prop} {M : Model} {A : Around} {E : Value → Shared → Prop} {s : Shared} (h : wpAny M A t Q E s) (hQ : ∀ a s, Q a s → Q' a s) : wpAny M A t Q' E s := wpAny_mono h hQ fun _ _ x => x
end L2

namespace L2
open PySem PySem.Spec PyProof.Rows
section
variable {X : Cx}


/-! ### names and constants -/
def tVar (i : Nat) : TE := fun σ H Q => ∃ v, σ[i]? = some (some v) ∧ Q v H
def tC (v : V) : TE := fun _ H Q => Q v H
theorem pe_var {i : Nat} {x : Str} {pos : Pos} (hN : X.N[i]? = some x) (hv : Vis X.env.scope x) (hd : (x == ("__debug__" : Str)) = false := by decide) (hcd : (x == ("__classdict__" : Str)) = false := by decide) : PE X (.Name x pos) (tVar i) := by
  intro pins s σ H Q I h
  obtain ⟨v, e, h⟩ := h
  obtain ⟨m, hn, hl⟩ := I.loc
  obtain ⟨u, r, l⟩ := hl i x v hN e hv
  have fin : EP X pins σ Q u s := ⟨v, H, I, r, h⟩
  rcases l with ⟨hk, hm⟩ | ⟨hk, c, hc, hcell⟩
  · exact wpAny_Name (wpAny_loadName_local I.ok.kind hk hn hm fin) hd
  · rcases hk with hk | hk
    · exact wpAny_Name (wpAny_loadName_cell I.ok.kind hk hc hcell fin) hd
    · exact wpAny_Name (wpAny_loadName_free I.ok.kind hk hc hcell fin hcd) hd
theorem pe_int {i j pos} : PE X (.Constant (.int i) j pos) (tC (.int i)) := fun _ _ _ H _ I h => wpAny_Constant_int ⟨.int i, H, I.tok _, ⟨_, rfl⟩, h⟩
theorem pe_bl {b j pos} : PE X (.Constant (.bool b) j pos) (tC (.bl b)) := fun _ _ _ H _ I h => Constant_bool ⟨.bl b, H, I, rfl, h⟩
theorem pe_non {j pos} : PE X (.Constant .none j pos) (tC .non) := fun _ _ _ H _ I h => Constant_none ⟨.non, H, I, rfl, h⟩

/-- a global name of the def -/
def Gl (X : Cx) (x : Str) : Prop := X.env.kindOf x = some .globalImplicit
theorem ld_glob {E : Value → Shared → Prop} {pins : List (Addr × Obj)} {s : Shared} {σ : St} {H : Hp} {x : Str} {u : Value} {pos : Pos} {Q : Value → Shared → Prop} (I : Inv X pins σ H s) (hg : Gl X x) (hm : X.mg x = some u) (h : Q u s)
    (hd : (x == ("__debug__" : Str)) = false := by decide) : wpAny (model X.prog X.w) X.A (eval (.Name x pos) X.env) Q E s :=
  Calls.Name_function_global I.ok.kind hg (Calls.loadGlobal_global (by rw [I.ok.glob]; exact I.mod.glob.keeps I.bk) hm h) hd
theorem ld_blt {E : Value → Shared → Prop} {pins : List (Addr × Obj)} {s : Shared} {σ : St} {H : Hp} {x : Str} {u : Value} {pos : Pos} {Q : Value → Shared → Prop} (I : Inv X pins σ H s) (hg : Gl X x) (hm : X.mg x = none) (hv : bootBuiltins x = some u) (h : Q u s)
    (hn : x ≠ "__name__" := by decide) (hd : (x == ("__debug__" : Str)) = false := by decide) : wpAny (model X.prog X.w) X.A (eval (.Name x pos) X.env) Q E s := by
  obtain ⟨mb, h1, h2⟩ := I.mod.blt
  exact Calls.Name_function_global I.ok.kind hg (Calls.loadGlobal_builtin (by rw [I.ok.glob]; exact I.mod.glob.keeps I.bk) hm (by rw [I.ok.blt]; exact h1.keeps I.bk) ((h2 x hn).trans hv) h) hd
theorem pe_bltn {x : Str} {v : V} {u : Value} {pos : Pos} (hg : Gl X x) (hm : X.mg x = none) (hv : bootBuiltins x = some u) (r : RelV v u) (hn : x ≠ "__name__" := by decide) (hd : (x == ("__debug__" : Str)) = false := by decide) : PE X (.Name x pos) (tC v) :=
  fun _ _ _ H _ I h => ld_blt I hg hm hv ⟨v, H, I, r, h⟩ hn hd

/-! ### arithmetic -/
/-- two ints -/
def t2I (ta tb : TE) (k : Int → Int → Hp → Prop) : St → Hp → Prop := fun σ H => ta σ H fun x H1 => tb σ H1 fun y H2 => ∃ i j, x = .int i ∧ y = .int j ∧ k i j H2
def tAdd (ta tb : TE) : TE := fun σ H Q => t2I ta tb (fun i j H2 => Q (.int (i + j)) H2) σ H
def tSub (ta tb : TE) : TE := fun σ H Q => t2I ta tb (fun i j H2 => Q (.int (i - j)) H2) σ H
/-- the left factor below 2^64 -/
def tMul (ta tb : TE) : TE := fun σ H Q => t2I ta tb (fun i j H2 => (-(2 ^ 64) < i ∧ i < 2 ^ 64) ∧ Q (.int (i * j)) H2) σ H
variable {a b : Expr} {ta tb : TE} {pos : Pos}

/-! ### comparisons -/
def PC (X : Cx) (op : CmpOp) (a b : Expr) (t : TE) : Prop :=
  ∀ (pins : List (Addr × Obj)) (s : Shared) (σ : St) (H : Hp) (Q : VK), Inv X pins σ H s → t σ H Q →
    wpAny (model X.prog X.w) X.A (eval a X.env) (fun v s₁ => wpAny (model X.prog X.w) X.A (eval b X.env) (fun u s₂ => wpAny (model X.prog X.w) X.A (compareOp op v u) (EP X pins σ Q) X.xe s₂) X.xe s₁) X.xe s
def tCmp (p : Int → Int → Bool) (ta tb : TE) : TE := fun σ H Q => t2I ta tb (fun i j H2 => Q (.bl (p i j)) H2) σ H
abbrev tLt : TE → TE → TE := tCmp fun i j => decide (i < j)
abbrev tLe : TE → TE → TE := tCmp fun i j => decide (i ≤ j)
abbrev tGt : TE → TE → TE := tCmp fun i j => decide (j < i)
abbrev tGe : TE → TE → TE := tCmp fun i j => decide (j ≤ i)
abbrev tEqI : TE → TE → TE := tCmp fun i j => decide (i = j)
abbrev tNeI : TE → TE → TE := tCmp fun i j => !decide (i = j)
/-- is None -/
def tIsN (ta : TE) : TE := fun σ H Q => ta σ H fun x H1 => Q (.bl (decide (x = .non))) H1
def tNotN (ta : TE) : TE := fun σ H Q => ta σ H fun x H1 => Q (.bl (!decide (x = .non))) H1
/-- a comparison as a value, as a test -/
def tB (t : TE) : TT := fun σ H Q => t σ H fun x H1 => ∃ c, x = .bl c ∧ Q c H1
/-- an expression whose value is a bool, as a test -/
theorem pt_val {e : Expr} {t : TE} (h : PE X e t) (he : ∀ whole, isTrue e X.env whole = (do let v ← whole; standAt e.pos; holding [v] (truthy v)) := by intro _; rfl) : PT X e (tB t) := by
  intro pins s σ H Q I hw
  refine isTrue_plain (thn (h pins s σ H _ I hw) fun v s1 ⟨x, H1, I1, r1, q1⟩ => ?_) (he _)
  obtain ⟨d, rfl, q⟩ := q1
  cases r1
  exact wpAny_truthy_bool ⟨H1, I1, q⟩

/-! ### and, or, not -/
variable {tA tB' : TT} {rest : List Expr}
def tAnd (t u : TT) : TT := fun σ H Q => t σ H fun c H1 => if c = true then u σ H1 Q else Q false H1
def tOr (t u : TT) : TT := fun σ H Q => t σ H fun c H1 => if c = true then Q true H1 else u σ H1 Q
def tNot (t : TT) : TT := fun σ H Q => t σ H fun c H1 => Q (!c) H1
theorem pw_and1 (ha : PT X a tA) : PW X (.BoolOp .And [a] pos) tA := by
  intro wh pins s σ H Q I h
  refine isTrue_and (thn (ha pins s σ H Q I h) fun c s1 e => ?_)
  cases c with
  | true => exact isTrue_and_nil e
  | false => exact e
theorem pw_or1 (ha : PT X a tA) : PW X (.BoolOp .Or [a] pos) tA := by
  intro wh pins s σ H Q I h
  refine isTrue_or (thn (ha pins s σ H Q I h) fun c s1 e => ?_)
  cases c with
  | false => exact isTrue_or_nil e
  | true => exact e
theorem pw_and (ha : PT X a tA) (hb : PW X (.BoolOp .And (b :: rest) pos) tB') : PW X (.BoolOp .And (a :: b :: rest) pos) (tAnd tA tB') := by
  intro wh pins s σ H Q I h
  refine isTrue_and (thn (ha pins s σ H _ I h) fun c s1 ⟨H1, I1, q1⟩ => ?_)
  cases c with
  | true => exact hb wh pins s1 σ H1 Q I1 q1
  | false => exact ⟨H1, I1, q1⟩
theorem pw_or (ha : PT X a tA) (hb : PW X (.BoolOp .Or (b :: rest) pos) tB') : PW X (.BoolOp .Or (a :: b :: rest) pos) (tOr tA tB') := by
  intro wh pins s σ H Q I h
  refine isTrue_or (thn (ha pins s σ H _ I h) fun c s1 ⟨H1, I1, q1⟩ => ?_)
  cases c with
  | true => exact ⟨H1, I1, q1⟩
  | false => exact hb wh pins s1 σ H1 Q I1 q1
/-- .. as values (bools) -/
def tAndV (ta tb : TE) : TE := fun σ H Q => ta σ H fun x H1 => ∃ c, x = .bl c ∧ if c = true then tb σ H1 Q else Q (.bl false) H1
def tOrV (ta tb : TE) : TE := fun σ H Q => ta σ H fun x H1 => ∃ c, x = .bl c ∧ if c = true then Q (.bl true) H1 else tb σ H1 Q
def tNotV (ta : TE) : TE := fun σ H Q => ta σ H fun x H1 => ∃ c, x = .bl c ∧ Q (.bl (!c)) H1
/-- a if t else b -/
def tIf (t : TT) (ta tb : TE) : TE := fun σ H Q => t σ H fun c H1 => if c = true then ta σ H1 Q else tb σ H1 Q
end
end L2

namespace L2
open PySem PySem.Spec PyProof.Rows

/-! ### a list, a tuple that is read: tracked, frozen, or an object of the module -/
def SqL (K : PySem.W.Frag) (H : Hp) (a : Addr) (xs : List V) : Prop :=
  Rd H a (.lst xs) ∨
    ∃ (o : Obj) (its : Array Value) (n : Nat), K.lookup a = some o ∧ o.cls = .type "list" ∧ o.dict = none ∧ o.data = .seq its n ∧ its.size ≤ sizeLine ∧ Vals xs its.toList
def SqT (K : PySem.W.Frag) (H : Hp) (a : Addr) (xs : List V) : Prop :=
  Rd H a (.tup xs) ∨
    ∃ (o : Obj) (its : Array Value) (n : Nat), K.lookup a = some o ∧ o.cls = .type "tuple" ∧ o.data = .seq its n ∧ its.size ≤ sizeLine ∧ Vals xs its.toList
def absV : Value → Option V
  | .none => some .non
  | .bool b => some (.bl b)
  | .int i _ => some (.int i)
  | .str x _ => some (.str x)
  | .bytes b _ => some (.byt b)
  | .float b _ => some (.flt b)
  | .ref a => some (.ref a)
  | .type n => some (.ty n)
  | _ => none
theorem RelV.abs {x : V} {u : Value} (r : RelV x u) : absV u = some x := by
  cases x with
  | non => cases r; rfl
  | bl _ => cases r; rfl
  | int _ => obtain ⟨t, rfl⟩ := r; rfl
  | str _ => obtain ⟨t, rfl⟩ := r; rfl
  | byt _ => obtain ⟨t, rfl⟩ := r; rfl
  | flt _ => obtain ⟨t, rfl⟩ := r; rfl
  | ref _ => cases r; rfl
  | ty _ => cases r; rfl
theorem RelV.inj {x y : V} {u : Value} (r : RelV x u) (q : RelV y u) : x = y := Option.some.inj (r.abs.symm.trans q.abs)
theorem Vals.inj : ∀ {xs ys : List V} {us : List Value}, Vals xs us → Vals ys us → xs = ys
  | _, _, _, .nil, .nil => rfl
  | _, _, _, .cons r t, .cons r' t' => by rw [r.inj r', Vals.inj t t']
section
variable {X : Cx} {pins : List (Addr × Obj)} {σ : St} {H : Hp} {s : Shared} {a : Addr} {xs ys : List V}
theorem SqL.of {K : PySem.W.Frag} (h : H a = some (.lst xs)) : SqL K H a xs := .inl (.inl h)
theorem SqT.of {K : PySem.W.Frag} (h : H a = some (.tup xs)) : SqT K H a xs := .inl (.inl h)
theorem Inv.list (I : Inv X pins σ H s) (h : SqL X.K H a xs) : ∃ its : List Value, Vals xs its ∧ PlainL s.heap a its.toArray ∧ xs.length ≤ sizeLine := by
  rcases h with h | ⟨o, its, n, hk, hc, hd, hs, hz, r⟩
  · obtain ⟨z, its, n, r, e⟩ := h.ok I.hok
    exact ⟨its, r, ⟨_, n, e, rfl, rfl, rfl⟩, z⟩
  · refine ⟨its.toList, r, ⟨o, n, I.kIn a o hk, hc, hd, by simpa using hs⟩, ?_⟩
    have e := r.length
    simp only [Array.length_toList] at e
    omega
theorem Inv.tuple (I : Inv X pins σ H s) (h : SqT X.K H a xs) : ∃ its : List Value, Vals xs its ∧ IsTup s.heap a its.toArray ∧ xs.length ≤ sizeLine := by
  rcases h with h | ⟨o, its, n, hk, hc, hs, hz, r⟩
  · obtain ⟨z, its, r, p⟩ := h.ok I.hok
    exact ⟨its, r, p, z⟩
  · refine ⟨its.toList, r, ⟨o, I.kIn a o hk, hc, n, by simpa using hs⟩, ?_⟩
    have e := r.length
    simp only [Array.length_toList] at e
    omega
theorem Inv.list_inj (I : Inv X pins σ H s) (h : SqL X.K H a xs) (h' : SqL X.K H a ys) : xs = ys := by
  obtain ⟨its, r, ⟨o, n, e, _, _, d⟩, _⟩ := I.list h
  obtain ⟨its', r', ⟨o', n', e', _, _, d'⟩, _⟩ := I.list h'
  rw [e] at e'; cases e'
  rw [d] at d'
  injection d' with d1 _
  have : its = its' := by simpa using congrArg Array.toList d1
  subst this
  exact r.inj r'
theorem Inv.tuple_inj (I : Inv X pins σ H s) (h : SqT X.K H a xs) (h' : SqT X.K H a ys) : xs = ys := by
  obtain ⟨its, r, ⟨o, e, _, n, d⟩, _⟩ := I.tuple h
  obtain ⟨its', r', ⟨o', e', _, n', d'⟩, _⟩ := I.tuple h'
  rw [e] at e'; cases e'
  rw [d] at d'
  injection d' with d1 _
  have : its = its' := by simpa using congrArg Array.toList d1
  subst this
  exact r.inj r'
end

/-! ### another wish about exceptions -/
abbrev Cx.wish (X : Cx) (E : Value → Shared → Prop) : Cx := { X with xe := E }
/-- no exception leaves -/
abbrev Cx.nox (X : Cx) : Cx := X.wish fun _ _ => False
theorem Cx.Ok.wish {X : Cx} (ok : X.Ok) (E : Value → Shared → Prop) : (X.wish E).Ok :=
  ⟨ok.mod, ok.kind, ok.glob, ok.blt, ok.above, ok.inj, ok.has, ok.cab, ok.hd, ok.frames, ok.stk, ok.exf, ok.bs, ok.bsz, ok.noex, ok.exfs, ok.funs, ok.frf⟩
theorem Cx.Ok.unwish {X : Cx} {E : Value → Shared → Prop} (ok : (X.wish E).Ok) : X.Ok :=
  ⟨ok.mod, ok.kind, ok.glob, ok.blt, ok.above, ok.inj, ok.has, ok.cab, ok.hd, ok.frames, ok.stk, ok.exf, ok.bs, ok.bsz, ok.noex, ok.exfs, ok.funs, ok.frf⟩
section
variable {X : Cx} {pins : List (Addr × Obj)} {σ : St} {H : Hp} {s : Shared} {E : Value → Shared → Prop}
theorem Inv.wish (I : Inv X pins σ H s) (E : Value → Shared → Prop) : Inv (X.wish E) pins σ H s := ⟨I.ok.wish E, I.os, I.bare, I.base, I.loc, I.cell, I.free, I.freeC, I.pin, I.hok, I.len⟩
theorem Inv.unwish (I : Inv (X.wish E) pins σ H s) : Inv X pins σ H s := ⟨I.ok.unwish, I.os, I.bare, I.base, I.loc, I.cell, I.free, I.freeC, I.pin, I.hok, I.len⟩
theorem SP.unwish {D : Ends} {f : Flow} {s' : Shared} (h : SP (X.wish E) pins D f s') : SP X pins D f s' := by
  cases f with
  | next => obtain ⟨σ', H', I, q⟩ := h; exact ⟨σ', H', I.unwish, q⟩
  | brk => obtain ⟨σ', H', I, q⟩ := h; exact ⟨σ', H', I.unwish, q⟩
  | cont => obtain ⟨σ', H', I, q⟩ := h; exact ⟨σ', H', I.unwish, q⟩
  | ret u => obtain ⟨v, σ', H', I, r, q⟩ := h; exact ⟨v, σ', H', I.unwish, r, q⟩
theorem PSs.nox {st : List Stmt} {t : TS} (h : PSs X.nox st t) : PSs X st t := fun pins s σ H D I hw =>
  wpAny_mono (h pins s σ H D (I.wish _) hw) (fun _ _ q => q.unwish) fun _ _ z => False.elim z
end

/-! ### blocks and small statements -/
section
variable {X : Cx} {st : Stmt} {rest : List Stmt} {t u : TS} {e : Expr} {te : TE} {pos : Pos}
def tNext : TS := fun D σ H => D.nx σ H
def tSeq (t u : TS) : TS := fun D σ H => t { D with nx := u D } σ H
theorem pss_nil : PSs X [] tNext := fun _ _ σ H _ I h => wpAny_execs_nil ⟨σ, H, I, h⟩
theorem pss_cons (h1 : PS X st t) (h2 : PSs X rest u) : PSs X (st :: rest) (tSeq t u) := by
  intro pins s σ H D I h
  refine wpAny_execs_cons (thn (h1 pins s σ H { D with nx := u D } I h) fun f s1 q => ?_)
  cases f with
  | next =>
    obtain ⟨σ', H', I', q⟩ := q
    exact h2 pins s1 σ' H' D I' q
  | ret v => exact q
  | brk => exact q
  | cont => exact q
theorem pss_one (h1 : PS X st t) : PSs X [st] t := by
  intro pins s σ H D I h
  refine wpAny_execs_cons (thn (h1 pins s σ H D I h) fun f s1 q => ?_)
  cases f with
  | next => exact wpAny_execs_nil q
  | ret v => exact q
  | brk => exact q
  | cont => exact q
def tBreak : TS := fun D σ H => D.bk σ H
def tCont : TS := fun D σ H => D.ct σ H
/-- in a def's body nothing is shown -/
theorem Inv.quiet {pins : List (Addr × Obj)} {σ : St} {H : Hp} {s : Shared} (I : Inv X pins σ H s) : interactive X.env = false := by simp [interactive, I.ok.kind]
/-- an expression whose value is dropped -/
def tDrop (te : TE) : TS := fun D σ H => te σ H fun _ H1 => D.nx σ H1
theorem ps_expr (he : PE X e te) (hs : swapsWith e none pos.line X.env = pure false := by rfl) : PS X (.Expr e pos) (tDrop te) := by
  intro pins s σ H D I h
  exact wpAny_Expr_any (thn (he pins s σ H _ I h) fun v s1 ⟨x, H1, I1, r1, q1⟩ => ⟨σ, H1, I1, q1⟩) I.quiet hs
def tRet (te : TE) : TS := fun D σ H => te σ H D.rt
theorem ps_ret (he : PE X e te) : PS X (.Return (some e) pos) (tRet te) := by
  intro pins s σ H D I h
  exact wpAny_Return_some (thn (he pins s σ H _ I h) fun v s1 ⟨x, H1, I1, r1, q1⟩ => ⟨x, σ, H1, I1, r1, q1⟩)
def tRetN : TS := fun D _ H => D.rt .non H
def tIfS (c : TT) (t u : TS) : TS := fun D σ H => c σ H fun b H1 => if b = true then t D σ H1 else u D σ H1
theorem ps_if {c : Expr} {a b : List Stmt} {tc : TT} (hc : PT X c tc) (ha : PSs X a t) (hb : PSs X b u) : PS X (.If c a b pos) (tIfS tc t u) := by
  intro pins s σ H D I h
  refine wpAny_If (thn (hc pins s σ H _ I h) fun d s1 ⟨H1, I1, q1⟩ => ?_)
  cases d with
  | true => exact ha pins s1 σ H1 D I1 q1
  | false => exact hb pins s1 σ H1 D I1 q1
/-- code that the proof never comes to -/
def tNever : TS := fun _ _ _ => False
theorem ps_never : PS X st tNever := fun _ _ _ _ _ _ h => h.elim
end

/-! ### targets -/
abbrev TG := V → St → Hp → (St → Hp → Prop) → Prop
abbrev TGs := List V → St → Hp → (St → Hp → Prop) → Prop
def PG (X : Cx) (target : Expr) (t : TG) : Prop :=
  ∀ (pins : List (Addr × Obj)) (s : Shared) (σ : St) (H : Hp) (v : V) (u : Value) (Q : St → Hp → Prop), Inv X pins σ H s → RelV v u → t v σ H Q →
    wpAny (model X.prog X.w) X.A (assign target X.env u) (fun _ s' => ∃ σ' H', Inv X pins σ' H' s' ∧ Q σ' H') X.xe s
/-- several targets, one after another -/
def PGs (X : Cx) (ts : List Expr) (t : TGs) : Prop :=
  ∀ (pins : List (Addr × Obj)) (s : Shared) (σ : St) (H : Hp) (vs : List V) (us : List Value) (Q : St → Hp → Prop), Inv X pins σ H s → Vals vs us → t vs σ H Q →
    wpAny (model X.prog X.w) X.A (assignInOrder ((assignEach ts X.env).map (·.2)) us) (fun _ s' => ∃ σ' H', Inv X pins σ' H' s' ∧ Q σ' H') X.xe s
/-- o[i] = v, by values -/
abbrev TSet := V → V → V → Hp → (Hp → Prop) → Prop
def PSet (X : Cx) (t : TSet) : Prop :=
  ∀ (pins : List (Addr × Obj)) (s : Shared) (σ : St) (H : Hp) (o i v : V) (ov iv u : Value) (Q : Hp → Prop), Inv X pins σ H s → RelV o ov → RelV i iv → RelV v u → t o i v H Q →
    wpAny (model X.prog X.w) X.A (setItem ov iv u) (fun _ s' => ∃ H', Inv X pins σ H' s' ∧ Q H') X.xe s
/-- a op= b, by values -/
abbrev TIp := V → V → Hp → VK → Prop
def PIp (X : Cx) (op : Operator) (t : TIp) : Prop :=
  ∀ (pins : List (Addr × Obj)) (s : Shared) (σ : St) (H : Hp) (x y : V) (v u : Value) (Q : VK), Inv X pins σ H s → RelV x v → RelV y u → t x y H Q →
    wpAny (model X.prog X.w) X.A (inplaceOp op v u) (EP X pins σ Q) X.xe s
section
variable {X : Cx} {pos : Pos}
def gName (i : Nat) : TG := fun v σ H Q => Q (σ.set i (some v)) H
theorem pg_name {i : Nat} {x : Str} (hN : X.N.Nodup) (hi : X.N[i]? = some x) (hx : Loc X.env.scope x) (hf : X.fn x = true ∨ X.env.scope.names.lookup x = some .local := by first | exact .inl rfl | exact .inr rfl | assumption) : PG X (.Name x pos) (gName i) := by
  intro pins s σ H v u Q I r h
  exact wpAny_assign_Name (store_ok I hN hi hx r (fun s' I' => ⟨_, H, I', h⟩) hf)
def gNil : TGs := fun vs σ H Q => vs = [] ∧ Q σ H
def gCons (t : TG) (u : TGs) : TGs := fun vs σ H Q => ∃ v r, vs = v :: r ∧ t v σ H fun σ' H' => u r σ' H' Q
theorem pgs_nil : PGs X [] gNil := by
  intro pins s σ H vs us Q I r h
  obtain ⟨e, h⟩ := h
  subst e
  cases r
  exact assignInOrder_nil ⟨σ, H, I, h⟩
theorem pgs_cons {e : Expr} {es : List Expr} {t : TG} {u : TGs} (h1 : PG X e t) (h2 : PGs X es u)
    (hs : (assignEach (e :: es) X.env).map (·.2) = assign e X.env :: (assignEach es X.env).map (·.2) := by rfl) : PGs X (e :: es) (gCons t u) := by
  intro pins s σ H vs us Q I r h
  obtain ⟨v, vr, e1, h⟩ := h
  subst e1
  cases r with
  | cons r rr =>
    rw [hs]
    refine assignInOrder_cons (thn (h1 pins s σ H _ _ _ I r h) fun _ s1 ⟨σ1, H1, I1, q1⟩ => ?_)
    exact h2 pins s1 σ1 H1 _ _ Q I1 rr q1
/-- (a, b, ..) = a tuple of that length -/
def gTup (K : PySem.W.Frag) (n : Nat) (t : TGs) : TG := fun v σ H Q => ∃ a xs, v = .ref a ∧ SqT K H a xs ∧ xs.length = n ∧ t xs σ H Q
theorem pg_tup {es : List Expr} {k : Nat} {t : TGs} {n : Nat} (hc : X.calm = true) (h : PGs X es t)
    (hn : (assignEach es X.env).length = n := by rfl) (hst : (assignEach es X.env).findIdx? (·.1) = none := by rfl) : PG X (.Tuple es k pos) (gTup X.K n t) := by
  intro pins s σ H v u Q I r hw
  obtain ⟨a, xs, e1, hq, hl, hw⟩ := hw
  subst e1
  cases r
  obtain ⟨its, rv, ht, hz⟩ := I.tuple hq
  refine assign_Tuple_tuple (I.ok.hd hc) ht (by simp [hn, ← hl, rv.length]) hst fun h' hx => ?_
  have I1 : Inv X pins σ H { s with heap := h' } := I.kept (t' := s.toks) fun b o e => hx b o (Nat.ne_of_lt (Heap.lt_size e)) e
  exact h pins _ σ H xs _ Q I1 (by simpa using rv) hw
/-- o[i] = .. -/
def gSub (to ti : TE) (t : TSet) : TG := fun v σ H Q => to σ H fun o H1 => ti σ H1 fun i H2 => t o i v H2 fun H3 => Q σ H3
theorem pg_sub {o i : Expr} {to ti : TE} {t : TSet} (ho : PE X o to) (hi : PE X i ti) (hs : PSet X t)
    (ha : ∀ v, assign (.Subscript o i pos) X.env v = (do
      let ov ← holding [v] (eval o X.env)
      let iv ← holding [v, ov] (eval i X.env)
      standAt pos
      holding [v, ov, iv] (setItem ov iv v)
      release [v, ov, iv] []) := by intro _; rfl) : PG X (.Subscript o i pos) (gSub to ti t) := by
  intro pins s σ H v u Q I r h
  rw [ha]
  refine wpAny_bind (wpAny_holding (thn (ho pins s σ H _ I h) fun ov s1 ⟨x, H1, I1, r1, q1⟩ => ?_))
  refine wpAny_bind (wpAny_holding (thn (hi pins s1 σ H1 _ I1 q1) fun iv s2 ⟨y, H2, I2, r2, q2⟩ => ?_))
  refine wpAny_bind (wpAny_standAt (wpAny_bind (wpAny_holding (thn (hs pins s2 σ H2 x y v ov iv u _ I2 r1 r2 r q2) fun _ s3 ⟨H3, I3, q3⟩ => ?_))))
  exact wpAny_release ⟨σ, H3, I3, q3⟩
/-- target = value -/
def tAsg (te : TE) (g : TG) : TS := fun D σ H => te σ H fun x H1 => g x σ H1 D.nx
theorem ps_asg {tg e : Expr} {te : TE} {g : TG} (he : PE X e te) (hg : PG X tg g) (hs : swapsWithSole [tg] e pos.line X.env = pure false := by rfl) (hw : swappedStores [tg] e X.env = pure none := by rfl)
    (h1 : (assignEach [tg] X.env).map (·.2) = [assign tg X.env] := by rfl) : PS X (.Assign [tg] e pos) (tAsg te g) := by
  intro pins s σ H D I h
  refine wpAny_Assign_stores (thn (he pins s σ H _ I h) fun v s1 ⟨x, H1, I1, r1, q1⟩ => ?_) hs hw
  rw [h1]
  exact thn (hg pins s1 σ H1 x v _ I1 r1 q1) fun _ s2 q => q
/-- name = value -/
theorem ps_set {i : Nat} {x : Str} {e : Expr} {te : TE} {pos' : Pos} (hN : X.N.Nodup) (hi : X.N[i]? = some x) (hx : Loc X.env.scope x) (he : PE X e te) (hs : swapsWith e (some (.Name x pos')) pos.line X.env = pure false := by rfl) (hf : X.fn x = true ∨ X.env.scope.names.lookup x = some .local := by first | exact .inl rfl | exact .inr rfl | assumption) :
    PS X (.Assign [.Name x pos'] e pos) (tAsg te (gName i)) := by
  intro pins s σ H D I h
  refine wpAny_Assign_Name (thn (he pins s σ H _ I h) fun v s1 ⟨y, H1, I1, r1, q1⟩ => ?_) hs
  exact store_ok I1 hN hi hx r1 (fun s2 I2 => ⟨_, H1, I2, q1⟩) hf
/-- a, b = x, y with plain local names: stored from the right; the pair itself is not tracked (the opening rows as in PyProof/Rows/TupAssign.lean:23) -/
def tPar (i j : Nat) (ta : TA) : TS := fun D σ H => ta σ H fun vs H1 => ∃ v w, vs = [v, w] ∧ D.nx ((σ.set i (some v)).set j (some w)) H1
theorem ps_par {i j : Nat} {x y : Str} {a b : Expr} {ta : TA} {px py pt : Pos} {kt k2 pt2} (hc : X.calm = true) (hN : X.N.Nodup) (hi : X.N[i]? = some x) (hj : X.N[j]? = some y) (hij : i ≠ j)
    (hx : X.env.scope.names.lookup x = some .local) (hy : X.env.scope.names.lookup y = some .local) (ha : PA X [a, b] ta)
    (hw : swappedStores [.Tuple [.Name x px, .Name y py] kt pt] (.Tuple [a, b] k2 pt2) X.env = pure (some [x, y]))
    (hs : swapsWithSole [.Tuple [.Name x px, .Name y py] kt pt] (.Tuple [a, b] k2 pt2) pos.line X.env = pure false := by rfl) :
    PS X (.Assign [.Tuple [.Name x px, .Name y py] kt pt] (.Tuple [a, b] k2 pt2) pos) (tPar i j ta) := by
  intro pins s σ H D I h
  rw [exec_Assign_arm]
  refine wpAny_bind (wpAny_standAt ?_)
  rw [hs]
  refine wpAny_bind (wpAny_pure ?_)
  rw [if_neg (by decide)]
  refine wpAny_bind (Tuple_ (thn (ha _ pins s σ H _ I h) fun us s1 ⟨vs, H1, I1, r1, q1⟩ => ?_))
  obtain ⟨v, w, e1, q1⟩ := q1
  subst e1
  obtain ⟨u1, u2, rfl, rv, rw'⟩ : ∃ u1 u2, us = [u1, u2] ∧ RelV v u1 ∧ RelV w u2 := by
    cases r1 with
    | cons p q =>
      cases q with
      | cons p' q' =>
        cases q'
        exact ⟨_, _, rfl, p, p'⟩
  refine wpAny_newObj_type ?_ (by show 2 ≤ sizeLine; decide)
  have I2 : Inv X pins σ H1 { s1 with heap := s1.heap.push { cls := .type "tuple", data := .seq [u1, u2].toArray } } := I1.kept (t' := s1.toks) fun b o e => Heap.get?_push_of_some _ e
  rw [hw]
  refine wpAny_bind (wpAny_pure ?_)
  show wpAny (model X.prog X.w) X.A (do rule "assign.swapped-stores"; let items ← unpackItems (.ref s1.heap.objs.size) 2 none; assignInOrder [fun v => bindName X.env y v, fun v => bindName X.env x v] items.reverse; pure Flow.next) _ _ _
  refine wpAny_bind (wpAny_rule (wpAny_bind (unpackItems_tuple (items := #[u1, u2]) (I.ok.hd hc) (IsTup.new s1.heap _) fun h' hx' => ?_)))
  have I3 := I2.kept (h' := h') (t' := s1.toks) fun b o e => hx' b o (Nat.ne_of_lt (Heap.lt_size e)) e
  show wpAny _ _ (assignInOrder [fun v => bindName X.env y v, fun v => bindName X.env x v] [u2, u1] >>= fun _ => pure Flow.next) _ _ _
  refine wpAny_bind (assignInOrder_cons (wpAny_bindName (store_ok I3 hN hj (.inl hy) rw' (fun s2 I4 => ?_) (.inr hy))))
  refine assignInOrder_cons (wpAny_bindName (store_ok I4 hN hi (.inl hx) rv (fun s3 I5 => assignInOrder_nil (wpAny_pure ?_)) (.inr hx)))
  rw [List.set_comm _ _ (Ne.symm hij)] at I5
  exact ⟨_, H1, I5, q1⟩
/-- name op= e -/
def tAug (i : Nat) (te : TE) (ti : TIp) : TS := fun D σ H => ∃ x, σ[i]? = some (some x) ∧ te σ H fun y H1 => ti x y H1 fun z H2 => D.nx (σ.set i (some z)) H2
/-- o[i] op= e -/
def tAugS (to ti te : TE) (tget : V → V → Hp → VK → Prop) (tip : TIp) (tset : TSet) : TS := fun D σ H => to σ H fun o H1 => ti σ H1 fun i H2 => tget o i H2 fun x H3 => te σ H3 fun y H4 => tip x y H4 fun z H5 => tset o i z H5 fun H6 => D.nx σ H6
/-- o[i], by values -/
def PGet (X : Cx) (t : V → V → Hp → VK → Prop) : Prop :=
  ∀ (pins : List (Addr × Obj)) (s : Shared) (σ : St) (H : Hp) (o i : V) (ov iv : Value) (Q : VK), Inv X pins σ H s → RelV o ov → RelV i iv → t o i H Q →
    wpAny (model X.prog X.w) X.A (getItem ov iv) (EP X pins σ Q) X.xe s
/-- ints -/
def ipI (f : Int → Int → Int) : TIp := fun x y H Q => ∃ i j, x = .int i ∧ y = .int j ∧ Q (.int (f i j)) H
end

/-! ### while -/
section
variable {X : Cx} {pos : Pos}
/-- the invariant W with its measure -/
def tWhile (c : TT) (tb : TS) : TS := fun D σ H => ∃ W : Nat → St → Hp → Prop, (∃ m, W m σ H) ∧ ∀ m σ H, W m σ H →
  c σ H fun b H1 => if b = true then ∃ N : St → Hp → Prop, (∀ σ' H', N σ' H' → ∃ m', m' < m ∧ W m' σ' H') ∧ tb { D with nx := N, ct := N, bk := D.nx } σ H1 else D.nx σ H1
theorem ps_while {c : Expr} {body : List Stmt} {tc : TT} {tb : TS} (hp : PassesOwn (model X.prog X.w) X.A X.env X.xe) (hc : PT X c tc) (hb : PSs X body tb) : PS X (.While c body [] pos) (tWhile tc tb) := by
  intro pins s σ H D I h
  obtain ⟨W, ⟨m0, w0⟩, turn⟩ := h
  refine wpAny_While (codeAny_whileLoop (fun n s' => ∃ σ' H', Inv X pins σ' H' s' ∧ W n σ' H') ?_ m0 ⟨σ, H, I, w0⟩)
  rintro n s1 ⟨σ1, H1, I1, w1⟩
  refine wpAny_passesOwn hp (thn (hc pins s1 σ1 H1 _ I1 (turn n σ1 H1 w1)) fun b s2 ⟨H2, I2, q2⟩ => ?_)
  cases b with
  | true =>
    obtain ⟨N, hN, q2⟩ := q2
    rw [if_pos rfl]
    refine wpAny_passesOwn hp (thn (hb pins s2 σ1 H2 _ I2 q2) fun f s3 q3 => ?_)
    cases f with
    | next =>
      obtain ⟨σ3, H3, I3, n3⟩ := q3
      obtain ⟨m', hm, w3⟩ := hN σ3 H3 n3
      exact ⟨m', hm, σ3, H3, I3, w3⟩
    | cont =>
      obtain ⟨σ3, H3, I3, n3⟩ := q3
      obtain ⟨m', hm, w3⟩ := hN σ3 H3 n3
      exact ⟨m', hm, σ3, H3, I3, w3⟩
    | brk => exact q3
    | ret v => exact q3
  | false =>
    rw [if_neg Bool.false_ne_true]
    exact wpAny_execs_nil ⟨σ1, H2, I2, q2⟩
end

/-! ### what a loop or a comprehension walks -/
/-- at turn i: it yields x (the heap may grow), or it stops -/
structure It where
  go : Nat → Hp → Prop
  yld : Nat → Hp → V → Hp → Prop
  stop : Nat → Hp → Prop
/-- the iterator's own objects may turn: they are not the frame's, not pinned, younger than the entry (or a comprehension's own) -/
def FpOk (X : Cx) (pins : List (Addr × Obj)) (H : Hp) (b : Addr) : Prop :=
  H b = none ∧ b ≠ X.env.locals ∧ b ∉ X.fs ∧ (b ∈ X.ex ∨ X.s₀.heap.get? b = none) ∧ (∀ x c, X.env.cells.lookup x = some c → c ≠ b) ∧ ∀ p ∈ X.pn ++ pins, p.1 ≠ b
theorem Inv.fpOk {X : Cx} {pins : List (Addr × Obj)} {σ : St} {H H' : Hp} {s : Shared} {b : Addr} (I : Inv X pins σ H s) (hb : s.heap.objs.size ≤ b) (hn : H' b = none) : FpOk X pins H' b := by
  refine ⟨hn, Nat.ne_of_gt (Nat.lt_of_lt_of_le I.lt hb), I.nofs hb, .inr (Heap.get?_none_of_le (Nat.le_trans I.sz hb)), fun x c e z => ?_, fun p hp z => ?_⟩
  · obtain ⟨v, q⟩ := I.cell x c e
    exact absurd (Nat.lt_of_lt_of_le q.lt (by rw [z]; exact hb)) (Nat.lt_irrefl _)
  · exact absurd (Nat.lt_of_lt_of_le (Heap.lt_size (I.pin p hp).1) (by rw [z]; exact hb)) (Nat.lt_irrefl _)
structure Turn (P : Program) (w : World) (K : PySem.W.Frag) (tg : Expr) (J : It) (fp : List Addr) (it : Addr) (tn : Nat → Heap → Prop) : Prop where
  mem : it ∈ fp
  obj : ∀ i h, tn i h → ∀ b ∈ fp, ∃ o, h.get? b = some o ∧ ∀ v, o.data ≠ .cell v
  keep : ∀ i h h', tn i h → (∀ b ∈ fp, ∀ o, h.get? b = some o → h'.get? b = some o) → tn i h'
  item : ∀ (X : Cx), X.prog = P → X.w = w → X.K = K → X.calm = true → ∀ (i : Nat) (pins : List (Addr × Obj)) (s : Shared) (σ : St) (H : Hp) (E : Value → Shared → Prop), Inv X pins σ H s → (∀ b ∈ fp, FpOk X pins H b) → tn i s.heap → J.go i H →
    wpAny (model P w) X.A (pyNext (.ref it)) (fun r s1 => ∃ u, r = some u ∧
      wpAny (model P w) X.A (letOwnedTupleGo tg (.ref it) u) (fun _ s2 => ∃ x H', Inv X pins σ H' s2 ∧ RelV x u ∧ J.yld i H x H' ∧ tn (i + 1) s2.heap ∧ ∀ b ∈ fp, H' b = none) E s1) E s
  done : ∀ (X : Cx), X.prog = P → X.w = w → X.K = K → X.calm = true → ∀ (i : Nat) (pins : List (Addr × Obj)) (s : Shared) (σ : St) (H : Hp) (E : Value → Shared → Prop), Inv X pins σ H s → (∀ b ∈ fp, FpOk X pins H b) → tn i s.heap → J.stop i H →
    wpAny (model P w) X.A (pyNext (.ref it)) (fun r s1 => r = none ∧ Inv X pins σ H s1) E s
  self : ∀ (A : Around) (i : Nat) (s : Shared) (Q : Value → Shared → Prop) (E : Value → Shared → Prop), tn i s.heap → Q (.ref it) s → wpAny (model P w) A (pyIter (.ref it)) Q E s
abbrev TI := St → Hp → (It → Hp → Prop) → Prop
/-- an iterator has come -/
def PIE (X : Cx) (pins : List (Addr × Obj)) (σ : St) (tg : Expr) (R : It → Hp → Prop) (itv : Value) (s2 : Shared) : Prop :=
  ∃ (it : Addr) (fp : List Addr) (tn : Nat → Heap → Prop) (J : It) (H' : Hp), itv = .ref it ∧ Inv X pins σ H' s2 ∧ Turn X.prog X.w X.K tg J fp it tn ∧ tn 0 s2.heap ∧ (∀ b ∈ fp, FpOk X pins H' b) ∧ R J H'
def PI (X : Cx) (tg iter : Expr) (wi : TI) : Prop :=
  ∀ (pins : List (Addr × Obj)) (s : Shared) (σ : St) (H : Hp) (R : It → Hp → Prop), Inv X pins σ H s → wi σ H R →
    wpAny (model X.prog X.w) X.A (eval iter X.env) (fun v s1 => wpAny (model X.prog X.w) X.A (pyIter v) (PIE X pins σ tg R) X.xe s1) X.xe s

/-- the step ahead of the store is nothing for an iterator that keeps no tuple -/
theorem go_of {M : Model} {A : Around} {E : Value → Shared → Prop} {s : Shared} {tg : Expr} {it : Addr} {u : Value} {o : Obj} {n : String} {vs : Array Value} {Q : Unit → Shared → Prop} (ho : s.heap.get? it = some o) (hc : o.cls = .type n) (hd : o.data = .fields vs)
    (hn : ["enumerate", "zip", "dict_itemiterator", "dict_reverseitemiterator", "odict_iterator", "itertools.zip_longest", "itertools.pairwise"].contains n = false) (hQ : Q () s) : wpAny M A (letOwnedTupleGo tg (.ref it) u) Q E s := by
  unfold letOwnedTupleGo
  cases tg <;> first
    | exact wpAny_pure hQ
    | (cases u <;> first
        | exact wpAny_pure hQ
        | (refine wpAny_bind (wpAny_load ho ?_)
           rw [hc, hd]
           show wpAny M A (if (["enumerate", "zip", "dict_itemiterator", "dict_reverseitemiterator", "odict_iterator", "itertools.zip_longest", "itertools.pairwise"].contains n && vs[0]? == some (rawInt _)) = true then _ else _) Q E s
           rw [if_neg (by intro h; rw [hn, Bool.false_and] at h; cases h)]
           exact wpAny_pure hQ))

/-- the list at a, as it stands at each turn (a loop may append to it) -/
def Itl (K : PySem.W.Frag) (a : Addr) : It :=
  ⟨fun i H => ∃ xs x, SqL K H a xs ∧ xs[i]? = some x, fun i H x H' => H' = H ∧ ∀ xs, SqL K H a xs → xs[i]? = some x, fun i H => ∃ xs, SqL K H a xs ∧ xs.length ≤ i⟩
def Itt (K : PySem.W.Frag) (a : Addr) : It :=
  ⟨fun i H => ∃ xs x, SqT K H a xs ∧ xs[i]? = some x, fun i H x H' => H' = H ∧ ∀ xs, SqT K H a xs → xs[i]? = some x, fun i H => ∃ xs, SqT K H a xs ∧ xs.length ≤ i⟩
/-- lo, lo + 1, .. (n of them) -/
def Itr (lo : Int) (n : Nat) : It := ⟨fun i _ => i < n, fun i H x H' => H' = H ∧ x = .int (lo + i), fun i _ => n ≤ i⟩
theorem turn_list {P : Program} {w : World} {K : PySem.W.Frag} {tg : Expr} (a it : Addr) : Turn P w K tg (Itl K a) [it] it (fun i h => h.IsListIter it a i) where
  mem := by simp
  obj := fun i h st b hb => by
    have e : b = it := by simpa using hb
    subst e
    obtain ⟨o, e, c, d⟩ := st
    exact ⟨o, e, fun v z => by rw [d] at z; cases z⟩
  keep := fun i h h' st k => st.at fun o e => k it (by simp) o e
  item := by
    intro X hP hw hK hc i pins s σ H E I hf st hg
    subst hP hw hK
    obtain ⟨xs, x, hq, hx⟩ := hg
    obtain ⟨its, rv, p, hz⟩ := I.list hq
    obtain ⟨u, hu, ru⟩ := rv.get hx
    obtain ⟨f0, f1, f2, f3, f4, f5⟩ := hf it (by simp)
    refine wpAny_pyNext_list_item st p.isList (x := u) (by simpa using hu) fun h' st' sb => ?_
    have I1 : Inv X pins σ H { s with heap := h' } := I.turned (t' := s.toks) (fun b o hb e => (sb.2 b hb).trans e) f0 f1 f3 f4 f5
    obtain ⟨o, e, c, d⟩ := id st'
    exact ⟨u, rfl, go_of (s := { s with heap := h' }) e c d (by decide) ⟨x, H, I1, ru, ⟨rfl, fun ys hy => by rw [I.list_inj hy hq]; exact hx⟩, st', fun b hb => (hf b hb).1⟩⟩
  done := by
    intro X hP hw hK hc i pins s σ H E I hf st hg
    subst hP hw hK
    obtain ⟨xs, hq, hx⟩ := hg
    obtain ⟨its, rv, p, hz⟩ := I.list hq
    obtain ⟨f0, f1, f2, f3, f4, f5⟩ := hf it (by simp)
    have hl := rv.length
    exact wpAny_pyNext_list_end (I.ok.hd hc) st p.isList (by simp; omega) fun h' eb => ⟨rfl, I.turned (t' := s.toks) (fun b o hb e => eb b o hb e) f0 f1 f3 f4 f5⟩
  self := fun _ _ _ _ _ st h => wpAny_pyIter_listiter st h
theorem turn_tuple {P : Program} {w : World} {K : PySem.W.Frag} {tg : Expr} (a it : Addr) : Turn P w K tg (Itt K a) [it] it (fun i h => h.IsTupleIter it a i) where
  mem := by simp
  obj := fun i h st b hb => by
    have e : b = it := by simpa using hb
    subst e
    obtain ⟨o, e, c, d⟩ := st
    exact ⟨o, e, fun v z => by rw [d] at z; cases z⟩
  keep := fun i h h' st k => st.at fun o e => k it (by simp) o e
  item := by
    intro X hP hw hK hc i pins s σ H E I hf st hg
    subst hP hw hK
    obtain ⟨xs, x, hq, hx⟩ := hg
    obtain ⟨its, rv, p, hz⟩ := I.tuple hq
    obtain ⟨u, hu, ru⟩ := rv.get hx
    obtain ⟨f0, f1, f2, f3, f4, f5⟩ := hf it (by simp)
    refine wpAny_pyNext_tuple_item st (show s.heap.IsTuple a its.toArray from p) (x := u) (by simpa using hu) fun h' st' sb => ?_
    have I1 : Inv X pins σ H { s with heap := h' } := I.turned (t' := s.toks) (fun b o hb e => (sb.2 b hb).trans e) f0 f1 f3 f4 f5
    obtain ⟨o, e, c, d⟩ := id st'
    exact ⟨u, rfl, go_of (s := { s with heap := h' }) e c d (by decide) ⟨x, H, I1, ru, ⟨rfl, fun ys hy => by rw [I.tuple_inj hy hq]; exact hx⟩, st', fun b hb => (hf b hb).1⟩⟩
  done := by
    intro X hP hw hK hc i pins s σ H E I hf st hg
    subst hP hw hK
    obtain ⟨xs, hq, hx⟩ := hg
    obtain ⟨its, rv, p, hz⟩ := I.tuple hq
    obtain ⟨f0, f1, f2, f3, f4, f5⟩ := hf it (by simp)
    have hl := rv.length
    exact wpAny_pyNext_tuple_end (I.ok.hd hc) st (show s.heap.IsTuple a its.toArray from p) (by simp; omega) fun h' eb => ⟨rfl, I.turned (t' := s.toks) (fun b o hb e => eb b o hb e) f0 f1 f3 f4 f5⟩
  self := fun _ _ _ _ _ st h => wpAny_pyIter_tupleiter st h
theorem turn_range {P : Program} {w : World} {K : PySem.W.Frag} {tg : Expr} (it : Addr) (lo : Int) (n : Nat) : Turn P w K tg (Itr lo n) [it] it (fun i h => IsRangeIter h it (lo + (i : Nat) * 1) ((n : Int) - (i : Nat)) 1) where
  mem := by simp
  obj := fun i h st b hb => by
    have e : b = it := by simpa using hb
    subst e
    exact ⟨_, st, fun v z => by
      have z' : Data.fields _ = Data.cell v := z
      cases z'⟩
  keep := fun i h h' st k => k it (by simp) _ st
  item := by
    intro X hP hw hK hc i pins s σ H E I hf st hg
    subst hP hw hK
    obtain ⟨f0, f1, f2, f3, f4, f5⟩ := hf it (by simp)
    have W := Walks.range (prog := X.prog) (w := X.w) (I.ok.hd hc) it lo 1 n
    refine W.item i s _ _ hg st fun v h' tk hv st' kk => ?_
    obtain ⟨t, rfl⟩ := hv
    have I1 : Inv X pins σ H { s with heap := h', toks := tk } := I.turned (fun b o hb e => kk b o (by simpa using hb) e) f0 f1 f3 f4 f5
    refine ⟨_, rfl, go_of (s := { s with heap := h', toks := tk }) (n := "range_iterator") st' rfl rfl (by decide) ⟨.int (lo + i), H, I1, ⟨t, ?_⟩, ⟨rfl, rfl⟩, st', fun b hb => (hf b hb).1⟩⟩
    rw [Int.mul_one]
  done := by
    intro X hP hw hK hc i pins s σ H E I hf st hg
    subst hP hw hK
    obtain ⟨f0, f1, f2, f3, f4, f5⟩ := hf it (by simp)
    exact wpAny_pyNext_range_end (I.ok.hd hc) st (by have : n ≤ i := hg; omega) fun h' eb => ⟨rfl, I.turned (t' := s.toks) (fun b o hb e => eb b o hb e) f0 f1 f3 f4 f5⟩
  self := fun _ _ _ _ _ st h => wpAny_pyIter_rangeiter st h
end L2

namespace L2
open PySem PySem.Spec PyProof.Rows
section
variable {X : Cx} {tg : Expr}
def iList (K : PySem.W.Frag) (tl : TE) : TI := fun σ H R => tl σ H fun x H1 => ∃ a, x = .ref a ∧ (∃ xs, SqL K H1 a xs) ∧ R (Itl K a) H1
def iTup (K : PySem.W.Frag) (tl : TE) : TI := fun σ H R => tl σ H fun x H1 => ∃ a, x = .ref a ∧ (∃ xs, SqT K H1 a xs) ∧ R (Itt K a) H1
theorem pi_list {l : Expr} {tl : TE} (hl : PE X l tl) : PI X tg l (iList X.K tl) := by
  intro pins s σ H R I h
  refine thn (hl pins s σ H _ I h) fun v s1 ⟨x, H1, I1, r1, q1⟩ => ?_
  obtain ⟨a, e, ⟨xs, hq⟩, q⟩ := q1
  subst e
  cases r1
  obtain ⟨its, rv, p, hz⟩ := I1.list hq
  refine wpAny_pyIter_list p.isList ?_
  refine ⟨s1.heap.objs.size, [s1.heap.objs.size], _, _, H1, rfl, I1.kept (t' := s1.toks) fun b o e => Heap.get?_push_of_some _ e, turn_list a _, ⟨_, Heap.get?_push_size _ rfl, rfl, rfl⟩, fun b hb => ?_, q⟩
  have e : b = s1.heap.objs.size := by simpa using hb
  subst e
  exact I1.fpOk (Nat.le_refl _) (I1.hok.fresh (Nat.le_refl _))
theorem pi_tup {l : Expr} {tl : TE} (hl : PE X l tl) : PI X tg l (iTup X.K tl) := by
  intro pins s σ H R I h
  refine thn (hl pins s σ H _ I h) fun v s1 ⟨x, H1, I1, r1, q1⟩ => ?_
  obtain ⟨a, e, ⟨xs, hq⟩, q⟩ := q1
  subst e
  cases r1
  obtain ⟨its, rv, p, hz⟩ := I1.tuple hq
  refine wpAny_pyIter_tuple (show s1.heap.IsTuple a its.toArray from p) ?_
  refine ⟨s1.heap.objs.size, [s1.heap.objs.size], _, _, H1, rfl, I1.kept (t' := s1.toks) fun b o e => Heap.get?_push_of_some _ e, turn_tuple a _, ⟨_, Heap.get?_push_size _ rfl, rfl, rfl⟩, fun b hb => ?_, q⟩
  have e : b = s1.heap.objs.size := by simpa using hb
  subst e
  exact I1.fpOk (Nat.le_refl _) (I1.hok.fresh (Nat.le_refl _))
/-- a range object just made, walked -/
theorem range_it {pins : List (Addr × Obj)} {σ : St} {H : Hp} {s : Shared} {R : It → Hp → Prop} {E : Value → Shared → Prop} {lo hi : Int} {t u v : Tok} {tk : Nat} (I : Inv X pins σ H s) (h1 : -(2 ^ 62) ≤ lo) (h2 : lo < 2 ^ 62) (h3 : -(2 ^ 62) ≤ hi) (h4 : hi < 2 ^ 62)
    (q : R (Itr lo (hi - lo).toNat) H) : wpAny (model X.prog X.w) X.A (pyIter (.ref s.heap.objs.size)) (PIE X pins σ tg R) E { s with heap := s.heap.push { cls := .type "range", data := .fields #[.int lo t, .int hi u, .int 1 v] }, toks := tk } := by
  refine wpAny_pyIter_range (IsRange.new ..) (small_one h1 h2 h3 h4) ?_
  have I1 : Inv X pins σ H { s with heap := s.heap.push { cls := .type "range", data := .fields #[.int lo t, .int hi u, .int 1 v] }, toks := tk } := I.kept fun b o e => Heap.get?_push_of_some _ e
  refine ⟨(s.heap.push { cls := .type "range", data := .fields #[.int lo t, .int hi u, .int 1 v] }).objs.size, [(s.heap.push { cls := .type "range", data := .fields #[.int lo t, .int hi u, .int 1 v] }).objs.size], _, _, H, rfl,
    I1.kept (t' := tk) fun b o e => Heap.get?_push_of_some _ e, turn_range _ lo (hi - lo).toNat, ?_, fun b hb => ?_, q⟩
  · have e1 : lo + ((0 : Nat) : Int) * 1 = lo := by simp
    have e2 : (((hi - lo).toNat : Nat) : Int) - ((0 : Nat) : Int) = Builtin.Range.rangeSize lo hi 1 := by rw [rangeSize_one]; split <;> omega
    show IsRangeIter _ _ (lo + ((0 : Nat) : Int) * 1) ((((hi - lo).toNat : Nat) : Int) - ((0 : Nat) : Int)) 1
    rw [e1, e2]
    exact Heap.get?_push_size _ rfl
  · have e : b = (s.heap.push { cls := .type "range", data := .fields #[.int lo t, .int hi u, .int 1 v] }).objs.size := by simpa using hb
    subst e
    exact I1.fpOk (Nat.le_refl _) (I1.hok.fresh (Nat.le_refl _))
def iRng1 (ta : TA) : TI := fun σ H R => ta σ H fun vs H1 => ∃ j : Int, vs = [.int j] ∧ -(2 ^ 62) ≤ j ∧ j < 2 ^ 62 ∧ R (Itr 0 j.toNat) H1
def iRng2 (ta : TA) : TI := fun σ H R => ta σ H fun vs H1 => ∃ i j : Int, vs = [.int i, .int j] ∧ (-(2 ^ 62) ≤ i ∧ i < 2 ^ 62 ∧ -(2 ^ 62) ≤ j ∧ j < 2 ^ 62) ∧ R (Itr i (j - i).toNat) H1
theorem pi_range1 {a : Expr} {ta : TA} {p pos : Pos} (hg : Gl X "range") (hm : X.mg "range" = none) (ha : PA X [a] ta) (hs : starEach [a] X.env = [(false, eval a X.env)] := by rfl) : PI X tg (.Call (.Name "range" p) [a] [] pos) (iRng1 ta) := by
  intro pins s σ H R I h
  refine Call_ (ld_blt I hg hm boot_range (PyProof.Rows.callWith_type1 (thn (ha pos pins s σ H _ I h) fun us s1 ⟨vs, H1, I1, r1, q1⟩ => ?_) hs rfl))
  obtain ⟨j, e, q1, q2, q⟩ := q1
  subst e
  cases r1 with
  | cons r rr =>
    cases rr
    obtain ⟨t, rfl⟩ := r
    exact call_range_1 (range_it I1 (by omega) (by omega) q1 q2 (by simpa using q))

/-! ### for -/
/-- W: the invariant by the turn and a measure; N: what the body is to reach -/
def tFor (wi : TI) (g : TG) (tb : TS) : TS := fun D σ H => wi σ H fun J H1 => ∃ W : Nat → Nat → St → Hp → Prop, (∃ m, W 0 m σ H1) ∧ ∀ i m σ H, W i m σ H →
  (J.stop i H ∧ D.nx σ H) ∨ (J.go i H ∧ ∃ N : St → Hp → Prop, (∀ σ' H', N σ' H' → ∃ m', m' < m ∧ W (i + 1) m' σ' H') ∧ ∀ x H', J.yld i H x H' → g x σ H' fun σ2 H2 => tb { D with nx := N, ct := N, bk := D.nx } σ2 H2)
/-- the records at fp as they stand -/
def pinsAt (fp : List Addr) (h : Heap) : List (Addr × Obj) := fp.filterMap fun b => (h.get? b).map fun o => (b, o)
theorem mem_pinsAt {fp : List Addr} {h : Heap} {b : Addr} {o : Obj} (hb : b ∈ fp) (e : h.get? b = some o) : (b, o) ∈ pinsAt fp h := List.mem_filterMap.mpr ⟨b, hb, by rw [e]; rfl⟩
theorem of_pinsAt {fp : List Addr} {h : Heap} {p : Addr × Obj} (hp : p ∈ pinsAt fp h) : p.1 ∈ fp ∧ h.get? p.1 = some p.2 := by
  obtain ⟨b, hb, e⟩ := List.mem_filterMap.mp hp
  cases q : h.get? b with
  | none => rw [q] at e; cases e
  | some o =>
    rw [q] at e
    have e' : (b, o) = p := Option.some.inj e
    subst e'
    exact ⟨hb, q⟩
theorem Inv.pinned {pins : List (Addr × Obj)} {σ : St} {H : Hp} {s : Shared} {fp : List Addr} (I : Inv X pins σ H s) (hf : ∀ b ∈ fp, FpOk X pins H b) (ho : ∀ b ∈ fp, ∃ o, s.heap.get? b = some o ∧ ∀ v, o.data ≠ .cell v) : Inv X (pins ++ pinsAt fp s.heap) σ H s :=
  I.pins_of fun p hp => (List.mem_append.mp hp).elim (fun z => I.pin p (List.mem_append_right _ z)) fun z => by
    obtain ⟨hb, e⟩ := of_pinsAt z
    obtain ⟨f0, f1, f2, _⟩ := hf p.1 hb
    obtain ⟨o, e', d⟩ := ho p.1 hb
    rw [e] at e'; cases e'
    exact ⟨e, f0, f1, f2, d⟩
theorem Inv.unpinned {pins pl : List (Addr × Obj)} {σ : St} {H : Hp} {s : Shared} (I : Inv X (pins ++ pl) σ H s) : Inv X pins σ H s := I.pins_of fun p hp => I.pin p (List.mem_append_right _ (List.mem_append_left _ hp))
theorem ps_for {iter : Expr} {body : List Stmt} {wi : TI} {g : TG} {tb : TS} {pos : Pos} (hp : PassesOwn (model X.prog X.w) X.A X.env X.xe) (hc : X.calm = true) (hi : PI X tg iter wi) (hg : PG X tg g) (hb : PSs X body tb)
    (hs : ∀ x, foldedSetIterable iter X.env x = pure x := by intro _; rfl) : PS X (.For tg iter body [] pos) (tFor wi g tb) := by
  intro pins s σ H D I h
  refine wpAny_For (thn (hi pins s σ H _ I h) fun v s1 h1 => thn h1 fun itv s2 h2 => ?_) hs
  obtain ⟨it, fp, tn, J, H2, e, I2, T, st2, f2, W, ⟨m0, w0⟩, turn⟩ := h2
  subst e
  -- what stays true of the iterator's objects through the loop
  have stat : ∀ {H' : Hp}, (∀ b ∈ fp, H' b = none) → ∀ b ∈ fp, FpOk X pins H' b := fun hn b hb => ⟨hn b hb, (f2 b hb).2⟩
  refine codeAny_forLoop_any (fun n s' => ∃ i σ' H', Inv X pins σ' H' s' ∧ tn i s'.heap ∧ (∀ b ∈ fp, H' b = none) ∧ W i n σ' H') ?_ m0 ⟨0, σ, H2, I2, st2, fun b hb => (f2 b hb).1, w0⟩
  rintro n s3 ⟨i, σ3, H3, I3, st3, fr3, w3⟩
  rcases turn i n σ3 H3 w3 with ⟨stop, qn⟩ | ⟨go, N, hN, step⟩
  · refine wpAny_passesOwn hp (thn (T.done X rfl rfl rfl hc i pins s3 σ3 H3 X.xe I3 (stat fr3) st3 stop) fun r s4 ⟨hr, I4⟩ => ?_)
    subst hr
    exact wpAny_execs_nil ⟨σ3, H3, I4, qn⟩
  · refine wpAny_passesOwn hp (thn (T.item X rfl rfl rfl hc i pins s3 σ3 H3 X.xe I3 (stat fr3) st3 go) fun r s4 ⟨u, hr, h4⟩ => ?_)
    subst hr
    refine wpAny_passesOwn hp (thn h4 fun _ s5 ⟨x, H5, I5, r5, y5, st5, fr5⟩ => ?_)
    have I5' := I5.pinned (stat fr5) (T.obj _ _ st5)
    refine wpAny_passesOwn hp (thn (hg _ s5 σ3 H5 x u _ I5' r5 (step x H5 y5)) fun _ s6 ⟨σ6, H6, I6, q6⟩ => ?_)
    refine wpAny_passesOwn hp (thn (hb _ s6 σ6 H6 _ I6 q6) fun f s7 q7 => ?_)
    have again : ∀ {σ7 : St} {H7 : Hp}, Inv X (pins ++ pinsAt fp s5.heap) σ7 H7 s7 → N σ7 H7 → ∃ m, m < n ∧ ∃ i σ' H', Inv X pins σ' H' s7 ∧ tn i s7.heap ∧ (∀ b ∈ fp, H' b = none) ∧ W i m σ' H' := fun {σ7 H7} I7 n7 => by
      obtain ⟨m', hm, w7⟩ := hN σ7 H7 n7
      refine ⟨m', hm, i + 1, σ7, H7, I7.unpinned, T.keep _ _ _ st5 fun b hb o e => (I7.pin (b, o) (List.mem_append_right _ (List.mem_append_right _ (mem_pinsAt hb e)))).1, fun b hb => ?_, w7⟩
      obtain ⟨o, e, d⟩ := T.obj _ _ st5 b hb
      exact (I7.pin (b, o) (List.mem_append_right _ (List.mem_append_right _ (mem_pinsAt hb e)))).2.1
    cases f with
    | next => obtain ⟨σ7, H7, I7, n7⟩ := q7; exact again I7 n7
    | cont => obtain ⟨σ7, H7, I7, n7⟩ := q7; exact again I7 n7
    | brk => obtain ⟨σ7, H7, I7, q7⟩ := q7; exact ⟨σ7, H7, I7.unpinned, q7⟩
    | ret v => obtain ⟨x7, σ7, H7, I7, r7, q7⟩ := q7; exact ⟨x7, σ7, H7, I7.unpinned, r7, q7⟩
end

/-! ### the forms one uses -/
/-- over a list that the body leaves as it is -/
theorem for_list {K : PySem.W.Frag} {a : Addr} {xs : List V} {g : TG} {tb : TS} {D : Ends} {σ : St} {H : Hp} (Pv : Nat → St → Hp → Prop) (h0 : Pv 0 σ H) (hl : ∀ i σ H, i ≤ xs.length → Pv i σ H → SqL K H a xs)
    (hs : ∀ i x σ H, xs[i]? = some x → Pv i σ H → g x σ H fun σ2 H2 => tb { D with nx := Pv (i + 1), ct := Pv (i + 1), bk := D.nx } σ2 H2) (hd : ∀ σ H, Pv xs.length σ H → D.nx σ H) :
    ∃ W : Nat → Nat → St → Hp → Prop, (∃ m, W 0 m σ H) ∧ ∀ i m σ H, W i m σ H →
      ((Itl K a).stop i H ∧ D.nx σ H) ∨ ((Itl K a).go i H ∧ ∃ N : St → Hp → Prop, (∀ σ' H', N σ' H' → ∃ m', m' < m ∧ W (i + 1) m' σ' H') ∧ ∀ x H', (Itl K a).yld i H x H' → g x σ H' fun σ2 H2 => tb { D with nx := N, ct := N, bk := D.nx } σ2 H2) := by
  refine ⟨fun i m σ H => m = xs.length - i ∧ i ≤ xs.length ∧ Pv i σ H, ⟨xs.length, by simp, Nat.zero_le _, h0⟩, ?_⟩
  rintro i m σ H ⟨rfl, hi, p⟩
  have q := hl i σ H hi p
  by_cases hlt : i < xs.length
  · refine .inr ⟨⟨xs, xs[i], q, by simp [hlt]⟩, Pv (i + 1), fun σ' H' p' => ⟨xs.length - (i + 1), by omega, rfl, hlt, p'⟩, fun x H' y => ?_⟩
    obtain ⟨e, y⟩ := y
    subst e
    exact hs i x σ _ (y xs q) p
  · have e : i = xs.length := by omega
    subst e
    exact .inl ⟨⟨xs, q, Nat.le_refl _⟩, hd σ H p⟩
theorem for_tup {K : PySem.W.Frag} {a : Addr} {xs : List V} {g : TG} {tb : TS} {D : Ends} {σ : St} {H : Hp} (Pv : Nat → St → Hp → Prop) (h0 : Pv 0 σ H) (hl : ∀ i σ H, i ≤ xs.length → Pv i σ H → SqT K H a xs)
    (hs : ∀ i x σ H, xs[i]? = some x → Pv i σ H → g x σ H fun σ2 H2 => tb { D with nx := Pv (i + 1), ct := Pv (i + 1), bk := D.nx } σ2 H2) (hd : ∀ σ H, Pv xs.length σ H → D.nx σ H) :
    ∃ W : Nat → Nat → St → Hp → Prop, (∃ m, W 0 m σ H) ∧ ∀ i m σ H, W i m σ H →
      ((Itt K a).stop i H ∧ D.nx σ H) ∨ ((Itt K a).go i H ∧ ∃ N : St → Hp → Prop, (∀ σ' H', N σ' H' → ∃ m', m' < m ∧ W (i + 1) m' σ' H') ∧ ∀ x H', (Itt K a).yld i H x H' → g x σ H' fun σ2 H2 => tb { D with nx := N, ct := N, bk := D.nx } σ2 H2) := by
  refine ⟨fun i m σ H => m = xs.length - i ∧ i ≤ xs.length ∧ Pv i σ H, ⟨xs.length, by simp, Nat.zero_le _, h0⟩, ?_⟩
  rintro i m σ H ⟨rfl, hi, p⟩
  have q := hl i σ H hi p
  by_cases hlt : i < xs.length
  · refine .inr ⟨⟨xs, xs[i], q, by simp [hlt]⟩, Pv (i + 1), fun σ' H' p' => ⟨xs.length - (i + 1), by omega, rfl, hlt, p'⟩, fun x H' y => ?_⟩
    obtain ⟨e, y⟩ := y
    subst e
    exact hs i x σ _ (y xs q) p
  · have e : i = xs.length := by omega
    subst e
    exact .inl ⟨⟨xs, q, Nat.le_refl _⟩, hd σ H p⟩
theorem for_range {lo : Int} {n : Nat} {g : TG} {tb : TS} {D : Ends} {σ : St} {H : Hp} (Pv : Nat → St → Hp → Prop) (h0 : Pv 0 σ H)
    (hs : ∀ i σ H, i < n → Pv i σ H → g (.int (lo + i)) σ H fun σ2 H2 => tb { D with nx := Pv (i + 1), ct := Pv (i + 1), bk := D.nx } σ2 H2) (hd : ∀ σ H, Pv n σ H → D.nx σ H) :
    ∃ W : Nat → Nat → St → Hp → Prop, (∃ m, W 0 m σ H) ∧ ∀ i m σ H, W i m σ H →
      ((Itr lo n).stop i H ∧ D.nx σ H) ∨ ((Itr lo n).go i H ∧ ∃ N : St → Hp → Prop, (∀ σ' H', N σ' H' → ∃ m', m' < m ∧ W (i + 1) m' σ' H') ∧ ∀ x H', (Itr lo n).yld i H x H' → g x σ H' fun σ2 H2 => tb { D with nx := N, ct := N, bk := D.nx } σ2 H2) := by
  refine ⟨fun i m σ H => m = n - i ∧ i ≤ n ∧ Pv i σ H, ⟨n, by simp, Nat.zero_le _, h0⟩, ?_⟩
  rintro i m σ H ⟨rfl, hi, p⟩
  by_cases hlt : i < n
  · refine .inr ⟨hlt, Pv (i + 1), fun σ' H' p' => ⟨n - (i + 1), by omega, rfl, hlt, p'⟩, fun x H' y => ?_⟩
    obtain ⟨e, y⟩ := y
    subst e y
    exact hs i σ _ hlt p
  · have e : i = n := by omega
    subst e
    exact .inl ⟨Nat.le_refl _, hd σ H p⟩
end L2

namespace L2
open PySem PySem.Spec PyProof.Rows

abbrev R2 := V → V → Hp → VK → Prop
/-- a two-place operation on values: f is binaryOp op, inplaceOp op or compareOp op -/
def OpR (X : Cx) (f : Value → Value → Sem Value) (r : R2) : Prop :=
  ∀ (pins : List (Addr × Obj)) (s : Shared) (σ : St) (H : Hp) (x y : V) (v u : Value) (Q : VK), Inv X pins σ H s → RelV x v → RelV y u → r x y H Q →
    wpAny (model X.prog X.w) X.A (f v u) (EP X pins σ Q) X.xe s
/-- a one-place operation -/
def UnR (X : Cx) (f : Value → Sem Value) (r : V → Hp → VK → Prop) : Prop :=
  ∀ (pins : List (Addr × Obj)) (s : Shared) (σ : St) (H : Hp) (x : V) (v : Value) (Q : VK), Inv X pins σ H s → RelV x v → r x H Q →
    wpAny (model X.prog X.w) X.A (f v) (EP X pins σ Q) X.xe s
/-- a call of a value that is known (a builtin, a type) with values -/
def CallR (X : Cx) (f : Value) (r : List V → Hp → VK → Prop) : Prop :=
  ∀ (pins : List (Addr × Obj)) (s : Shared) (σ : St) (H : Hp) (xs : List V) (us : List Value) (Q : VK), Inv X pins σ H s → Vals xs us → r xs H Q →
    wpAny (model X.prog X.w) X.A (call f us) (EP X pins σ Q) X.xe s
/-- a value's truth -/
def TruR (X : Cx) (r : V → Hp → (Bool → Hp → Prop) → Prop) : Prop :=
  ∀ (pins : List (Addr × Obj)) (s : Shared) (σ : St) (H : Hp) (x : V) (v : Value) (Q : Bool → Hp → Prop), Inv X pins σ H s → RelV x v → r x H Q →
    wpAny (model X.prog X.w) X.A (truthy v) (TP X pins σ Q) X.xe s

def tOp (r : R2) (ta tb : TE) : TE := fun σ H Q => ta σ H fun x H1 => tb σ H1 fun y H2 => r x y H2 Q
def tUn (r : V → Hp → VK → Prop) (ta : TE) : TE := fun σ H Q => ta σ H fun x H1 => r x H1 Q
/-- ints in, under C, and a value out -/
def rI (C : Int → Int → Prop) (g : Int → Int → V) : R2 := fun x y H Q => ∃ i j, x = .int i ∧ y = .int j ∧ C i j ∧ Q (g i j) H
def rI0 (g : Int → Int → V) : R2 := fun x y H Q => ∃ i j, x = .int i ∧ y = .int j ∧ Q (g i j) H
def rU (g : Int → V) : V → Hp → VK → Prop := fun x H Q => ∃ i, x = .int i ∧ Q (g i) H

section
variable {X : Cx} {a b c : Expr} {ta tb tc : TE} {pos : Pos}

theorem binT (ha : PE X a ta) (hb : PE X b tb) {pins : List (Addr × Obj)} {s : Shared} {σ : St} {H : Hp} {R : V → V → Hp → Prop} (I : Inv X pins σ H s)
    (h : ta σ H fun x H1 => tb σ H1 fun y H2 => R x y H2) {Q : Value → Shared → Prop} {f : Value → Value → Sem Value}
    (hf : ∀ v u s2 x y H2, Inv X pins σ H2 s2 → RelV x v → RelV y u → R x y H2 → wpAny (model X.prog X.w) X.A (f v u) Q X.xe s2) :
    wpAny (model X.prog X.w) X.A (eval a X.env) (fun v s₁ => wpAny (model X.prog X.w) X.A (eval b X.env) (fun u s₂ => wpAny (model X.prog X.w) X.A (f v u) Q X.xe s₂) X.xe s₁) X.xe s := by
  refine thn (ha pins s σ H _ I h) fun v s1 ⟨x, H1, I1, r1, q1⟩ => ?_
  refine thn (hb pins s1 σ H1 _ I1 q1) fun u s2 ⟨y, H2, I2, r2, q2⟩ => ?_
  exact hf v u s2 x y H2 I2 r1 r2 q2

theorem pe_op {op : Operator} {r : R2} (ho : OpR X (binaryOp op) r) (ha : PE X a ta) (hb : PE X b tb) : PE X (.BinOp a op b pos) (tOp r ta tb) := by
  intro pins s σ H Q I h
  exact wpAny_BinOp (binT ha hb I h fun v u s2 x y H2 I2 rx ry q => ho pins s2 σ H2 x y v u Q I2 rx ry q)
theorem pe_un {op : UnaryOp} {r : V → Hp → VK → Prop} (ho : UnR X (unaryOp op) r) (ha : PE X a ta) : PE X (.UnaryOp op a pos) (tUn r ta) := by
  intro pins s σ H Q I h
  exact UnaryOp_ (thn (ha pins s σ H _ I h) fun v s1 ⟨x, H1, I1, r1, q1⟩ => ho pins s1 σ H1 x v Q I1 r1 q1)

/-! ### ints -/
theorem opI {f : Value → Value → Sem Value} {C : Int → Int → Prop} {g : Int → Int → Int}
    (rule : ∀ (i j : Int) (t u : Tok) (s : Shared) (Q : Value → Shared → Prop) (E : Value → Shared → Prop), C i j → Q (.int (g i j) s.toks) { s with toks := s.toks + 1 } → wpAny (model X.prog X.w) X.A (f (.int i t) (.int j u)) Q E s) :
    OpR X f (rI C fun i j => .int (g i j)) := by
  intro pins s σ H x y v u Q I rx ry h
  obtain ⟨i, j, rfl, rfl, hc, q⟩ := h
  obtain ⟨t, rfl⟩ := rx
  obtain ⟨t', rfl⟩ := ry
  exact rule i j t t' s _ _ hc ⟨.int (g i j), H, I.tok _, ⟨_, rfl⟩, q⟩
theorem opI0 {f : Value → Value → Sem Value} {g : Int → Int → Int}
    (rule : ∀ (i j : Int) (t u : Tok) (s : Shared) (Q : Value → Shared → Prop) (E : Value → Shared → Prop), Q (.int (g i j) s.toks) { s with toks := s.toks + 1 } → wpAny (model X.prog X.w) X.A (f (.int i t) (.int j u)) Q E s) :
    OpR X f (rI0 fun i j => .int (g i j)) := by
  intro pins s σ H x y v u Q I rx ry h
  obtain ⟨i, j, rfl, rfl, q⟩ := h
  obtain ⟨t, rfl⟩ := rx
  obtain ⟨t', rfl⟩ := ry
  exact rule i j t t' s _ _ ⟨.int (g i j), H, I.tok _, ⟨_, rfl⟩, q⟩
theorem opB0 {f : Value → Value → Sem Value} {g : Int → Int → Bool}
    (rule : ∀ (i j : Int) (t u : Tok) (s : Shared) (Q : Value → Shared → Prop) (E : Value → Shared → Prop), Q (.bool (g i j)) s → wpAny (model X.prog X.w) X.A (f (.int i t) (.int j u)) Q E s) :
    OpR X f (rI0 fun i j => .bl (g i j)) := by
  intro pins s σ H x y v u Q I rx ry h
  obtain ⟨i, j, rfl, rfl, q⟩ := h
  obtain ⟨t, rfl⟩ := rx
  obtain ⟨t', rfl⟩ := ry
  exact rule i j t t' s _ _ ⟨.bl (g i j), H, I, rfl, q⟩

def CDiv (i j : Int) : Prop := 0 < j ∧ j < 1073741824
def CDivN (i j : Int) : Prop := j ≠ 0 ∧ j.natAbs < 1073741824
def CPow (i j : Int) : Prop := 0 ≤ j ∧ j ≤ 1000000 ∧ i.natAbs < 2 ^ 64
def CMul (i j : Int) : Prop := (-(2 ^ 64) < i ∧ i < 2 ^ 64) ∨ (-(2 ^ 64) < j ∧ j < 2 ^ 64)
theorem CMul.ok {i j : Int} (h : CMul i j) : IntMulOk i j := by
  rcases h with ⟨h1, h2⟩ | ⟨h1, h2⟩
  · exact .of_left (intBits_le_64 h1 h2)
  · exact .of_right (intBits_le_64 h1 h2)

theorem op_add : OpR X (binaryOp .Add) (rI0 fun i j => .int (i + j)) := opI0 fun _ _ _ _ _ _ _ q => add_int q
theorem op_sub : OpR X (binaryOp .Sub) (rI0 fun i j => .int (i - j)) := opI0 fun _ _ _ _ _ _ _ q => sub_int q
theorem op_mul : OpR X (binaryOp .Mult) (rI CMul fun i j => .int (i * j)) := opI fun _ _ _ _ _ _ _ hc q => mul_int q hc.ok
/-- // by a positive divisor -/
theorem op_fdiv : OpR X (binaryOp .FloorDiv) (rI CDiv fun i j => .int (i / j)) := opI fun i j _ _ _ _ _ hc q => by
  have h1 : (0 : Int) < j := hc.1
  have h2 : j < 1073741824 := hc.2
  exact floordiv_int (by omega) (by rw [Int.fdiv_eq_ediv_of_nonneg i (by omega)]; exact q) (.inl (PyProof.noPylong_small (by omega)))
/-- % by a positive divisor of any size -/
theorem op_mod : OpR X (binaryOp .Mod) (rI (fun _ j => 0 < j) fun i j => .int (i % j)) := opI fun i j _ _ _ _ _ hc q => by
  have h1 : (0 : Int) < j := hc
  exact mod_int' (by omega) (by rw [Int.fmod_eq_emod_of_nonneg i (by omega)]; exact q)
theorem op_pow : OpR X (binaryOp .Pow) (rI CPow fun i j => .int (i ^ j.toNat)) := opI fun _ _ _ _ _ _ _ hc q => pow_int_small hc.1 hc.2.1 hc.2.2 q


theorem unI {f : Value → Sem Value} {g : Int → Int}
    (rule : ∀ (i : Int) (t : Tok) (s : Shared) (Q : Value → Shared → Prop) (E : Value → Shared → Prop), Q (.int (g i) s.toks) { s with toks := s.toks + 1 } → wpAny (model X.prog X.w) X.A (f (.int i t)) Q E s) :
    UnR X f (rU fun i => .int (g i)) := by
  intro pins s σ H x v Q I rx h
  obtain ⟨i, rfl, q⟩ := h
  obtain ⟨t, rfl⟩ := rx
  exact rule i t s _ _ ⟨.int (g i), H, I.tok _, ⟨_, rfl⟩, q⟩
theorem un_neg : UnR X (unaryOp .USub) (rU fun i => .int (-i)) := unI fun _ _ _ _ _ q => neg_int q

/-! ### bools among ints: n += (a < b) -/
end

/-! ### comparisons -/
/-- the scalars that == tells apart as data does -/
def scal : V → V → Bool
  | .non, .non => true | .non, .int _ => true | .int _, .non => true | .non, .bl _ => true | .bl _, .non => true | .non, .str _ => true | .str _, .non => true
  | .int _, .int _ => true | .bl _, .bl _ => true | .str _, .str _ => true | .byt _, .byt _ => true
  | .int _, .str _ => true | .str _, .int _ => true | .bl _, .str _ => true | .str _, .bl _ => true
  | _, _ => false
def rEq : R2 := fun x y H Q => scal x y = true ∧ Q (.bl (decide (x = y))) H
def rNe : R2 := fun x y H Q => scal x y = true ∧ Q (.bl (!decide (x = y))) H

theorem dec_int {i j : Int} : decide (V.int i = V.int j) = (i == j) := by
  rw [Bool.eq_iff_iff]
  simp
theorem dec_bl {i j : Bool} : decide (V.bl i = V.bl j) = (i == j) := by
  rw [Bool.eq_iff_iff]
  simp
theorem dec_str {i j : Str} : decide (V.str i = V.str j) = (i == j) := by
  rw [Bool.eq_iff_iff]
  simp
theorem dec_byt {i j : Array UInt8} : decide (V.byt i = V.byt j) = (i.toList == j.toList) := by
  rw [Bool.eq_iff_iff]
  cases i
  cases j
  simp

section
variable {X : Cx} {a b c : Expr} {ta tb tc : TE} {pos : Pos}
theorem fin_bl {pins : List (Addr × Obj)} {σ : St} {H : Hp} {s : Shared} {Q : VK} {k k' : Bool} (I : Inv X pins σ H s) (q : Q (.bl k) H) (e : k = k') : EP X pins σ Q (.bool k') s := by
  subst e
  exact ⟨.bl k, H, I, rfl, q⟩
theorem op_eq : OpR X (compareOp .Eq) rEq := by
  intro pins s σ H x y v u Q I rx ry h
  obtain ⟨hs, q⟩ := h
  cases x with
  | non =>
    cases rx
    cases y with
    | non => cases ry; exact PySem.EqNone.eq_none_none (fin_bl I q (by simp))
    | bl j => cases ry; exact PySem.EqNone.eq_none_bool (fin_bl I q (by simp))
    | int j => obtain ⟨t', rfl⟩ := ry; exact PySem.EqNone.eq_none_int (fin_bl I q (by simp))
    | str j => obtain ⟨t', rfl⟩ := ry; exact PySem.EqNone.eq_none_str (fin_bl I q (by simp))
    | _ => exact absurd (show false = true from hs) Bool.false_ne_true
  | bl i =>
    cases rx
    cases y with
    | non => cases ry; exact PySem.EqNone.eq_bool_none (fin_bl I q (by simp))
    | bl j => cases ry; exact eq_bool (fin_bl I q dec_bl)
    | str j => obtain ⟨t', rfl⟩ := ry; exact PySem.EqMixed.eq_bool_str (fin_bl I q (by simp))
    | _ => exact absurd (show false = true from hs) Bool.false_ne_true
  | int i =>
    obtain ⟨t, rfl⟩ := rx
    cases y with
    | non => cases ry; exact PySem.EqNone.eq_int_none (fin_bl I q (by simp))
    | int j => obtain ⟨t', rfl⟩ := ry; exact eq_int (fin_bl I q dec_int)
    | str j => obtain ⟨t', rfl⟩ := ry; exact PySem.EqMixed.eq_int_str (fin_bl I q (by simp))
    | _ => exact absurd (show false = true from hs) Bool.false_ne_true
  | str i =>
    obtain ⟨t, rfl⟩ := rx
    cases y with
    | non => cases ry; exact PySem.EqNone.eq_str_none (fin_bl I q (by simp))
    | bl j => cases ry; exact PySem.EqMixed.eq_str_bool (fin_bl I q (by simp))
    | int j => obtain ⟨t', rfl⟩ := ry; exact PySem.EqMixed.eq_str_int (fin_bl I q (by simp))
    | str j => obtain ⟨t', rfl⟩ := ry; exact eq_str (fin_bl I q dec_str)
    | _ => exact absurd (show false = true from hs) Bool.false_ne_true
  | byt i =>
    obtain ⟨t, rfl⟩ := rx
    cases y with
    | byt j => obtain ⟨t', rfl⟩ := ry; exact PySem.W.eq_bytes (fin_bl I q dec_byt)
    | _ => exact absurd (show false = true from hs) Bool.false_ne_true
  | _ => cases y <;> exact absurd (show false = true from hs) Bool.false_ne_true
theorem op_ne : OpR X (compareOp .NotEq) rNe := by
  intro pins s σ H x y v u Q I rx ry h
  obtain ⟨hs, q⟩ := h
  cases x with
  | non =>
    cases rx
    cases y with
    | non => cases ry; exact PySem.EqNone.ne_none_none (fin_bl I q (by simp))
    | bl j => cases ry; exact PySem.EqNone.ne_none_bool (fin_bl I q (by simp))
    | int j => obtain ⟨t', rfl⟩ := ry; exact PySem.EqNone.ne_none_int (fin_bl I q (by simp))
    | str j => obtain ⟨t', rfl⟩ := ry; exact PySem.EqNone.ne_none_str (fin_bl I q (by simp))
    | _ => exact absurd (show false = true from hs) Bool.false_ne_true
  | bl i =>
    cases rx
    cases y with
    | non => cases ry; exact PySem.EqNone.ne_bool_none (fin_bl I q (by simp))
    | bl j => cases ry; exact ne_bool (fin_bl I q (congrArg not dec_bl))
    | str j => obtain ⟨t', rfl⟩ := ry; exact PySem.EqMixed.ne_bool_str (fin_bl I q (by simp))
    | _ => exact absurd (show false = true from hs) Bool.false_ne_true
  | int i =>
    obtain ⟨t, rfl⟩ := rx
    cases y with
    | non => cases ry; exact PySem.EqNone.ne_int_none (fin_bl I q (by simp))
    | int j => obtain ⟨t', rfl⟩ := ry; exact ne_int (fin_bl I q (congrArg not dec_int))
    | str j => obtain ⟨t', rfl⟩ := ry; exact PySem.EqMixed.ne_int_str (fin_bl I q (by simp))
    | _ => exact absurd (show false = true from hs) Bool.false_ne_true
  | str i =>
    obtain ⟨t, rfl⟩ := rx
    cases y with
    | non => cases ry; exact PySem.EqNone.ne_str_none (fin_bl I q (by simp))
    | bl j => cases ry; exact PySem.EqMixed.ne_str_bool (fin_bl I q (by simp))
    | int j => obtain ⟨t', rfl⟩ := ry; exact PySem.EqMixed.ne_str_int (fin_bl I q (by simp))
    | str j => obtain ⟨t', rfl⟩ := ry; exact ne_str (fin_bl I q (congrArg not dec_str))
    | _ => exact absurd (show false = true from hs) Bool.false_ne_true
  | byt i =>
    obtain ⟨t, rfl⟩ := rx
    cases y with
    | byt j => obtain ⟨t', rfl⟩ := ry; exact PySem.W.ne_bytes (fin_bl I q (congrArg not dec_byt))
    | _ => exact absurd (show false = true from hs) Bool.false_ne_true
  | _ => cases y <;> exact absurd (show false = true from hs) Bool.false_ne_true

theorem op_lt : OpR X (compareOp .Lt) (rI0 fun i j => .bl (decide (i < j))) := opB0 fun _ _ _ _ _ _ _ q => lt_int q
theorem op_gt : OpR X (compareOp .Gt) (rI0 fun i j => .bl (decide (j < i))) := opB0 fun _ _ _ _ _ _ _ q => gt_int q
theorem op_ge : OpR X (compareOp .GtE) (rI0 fun i j => .bl (decide (j ≤ i))) := opB0 fun _ _ _ _ _ _ _ q => ge_int q


/-- is, is not of two objects that are tracked lists or instances -/
def isObj : HO → Bool
  | .lst _ => true
  | .ins _ _ _ => true
  | _ => false


theorem nomark (b : Expr) {op : CmpOp} (h : op ≠ .In := by decide) (h2 : op ≠ .NotIn := by decide) : behindInMarks op b = false := by
  have e1 : (op == CmpOp.In) = false := by cases op <;> first | rfl | exact absurd rfl h
  have e2 : (op == CmpOp.NotIn) = false := by cases op <;> first | rfl | exact absurd rfl h2
  cases b <;> simp [behindInMarks, e1, e2]
/-- a comparison as a value; hm: nomark b, or (for in, not in) by with_unfolding_all rfl -/
theorem pe_cmpR {op : CmpOp} {r : R2} (ho : OpR X (compareOp op) r) (ha : PE X a ta) (hb : PE X b tb) (hm : behindInMarks op b = false) : PE X (.Compare a [op] [b] pos) (tOp r ta tb) := by
  intro pins s σ H Q I h
  exact wpAny_Compare1 (binT ha hb I h fun v u s2 x y H2 I2 rx ry q => ho pins s2 σ H2 x y v u Q I2 rx ry q) hm
/-- a reading of a value as a test -/
def tTest (t : TE) : TT := fun σ H Q => t σ H fun x H' => ∃ k, x = .bl k ∧ Q k H'
theorem pt_cmpR {op : CmpOp} {r : R2} (ho : OpR X (compareOp op) r) (ha : PE X a ta) (hb : PE X b tb) (hm : behindInMarks op b = false) : PT X (.Compare a [op] [b] pos) (tTest (tOp r ta tb)) := by
  intro pins s σ H Q I h
  refine wpAny_isTrue_Compare1 (thn (ha pins s σ H _ I h) fun v s1 ⟨x, H1, I1, r1, q1⟩ => thn (hb pins s1 σ H1 _ I1 q1) fun u s2 ⟨y, H2, I2, r2, q2⟩ =>
    thn (ho pins s2 σ H2 x y v u _ I2 r1 r2 q2) fun c s3 ⟨z, H3, I3, r3, k, e, q3⟩ => ?_) hm
  subst e
  cases r3
  exact wpAny_truthy_bool ⟨H3, I3, q3⟩
/-- a op1 b op2 c -/
def tChain (r r' : R2) (ta tb tc : TE) : TE := fun σ H Q => ta σ H fun x H1 => tb σ H1 fun y H2 => r x y H2 fun z H3 => ∃ k, z = .bl k ∧
  (if k = true then tc σ H3 fun w' H4 => r' y w' H4 Q else Q (.bl false) H3)

/-! ### truth -/
/-- a value's truth by the abstract heap -/
def TruV (K : PySem.W.Frag) (x : V) (H : Hp) (k : Bool) : Prop :=
  match x with
  | .non => k = false
  | .bl b => k = b
  | .int i => k = (i != 0)
  | .str y => y.length ≤ sizeLine ∧ k = ((y.length : Int) != 0)
  | .byt y => y.size ≤ sizeLine ∧ k = ((y.size : Int) != 0)
  | .ref p => (∃ xs, SqL K H p xs ∧ k = !xs.isEmpty) ∨ (∃ xs, SqT K H p xs ∧ k = !xs.isEmpty) ∨ ∃ kvs, H p = some (.dK kvs) ∧ k = !kvs.isEmpty
  | _ => False
theorem line63 : (sizeLine : Nat) < 2 ^ 63 := by rw [sizeLine_eq]; decide

/-! ### strs and bytes -/

def PlainIxT (b : Expr) : Prop := ∀ o i, subscripted b false o i = operate [o, i] (getItem o i)

/-! ### scalar builtins, by CallR -/
theorem vals1 {x : V} {us : List Value} (r : Vals [x] us) : ∃ u, us = [u] ∧ RelV x u := by
  cases r with
  | cons r1 r2 => cases r2; exact ⟨_, rfl, r1⟩
theorem vals2 {x y : V} {us : List Value} (r : Vals [x, y] us) : ∃ u w', us = [u, w'] ∧ RelV x u ∧ RelV y w' := by
  cases r with
  | cons r1 r2 =>
    cases r2 with
    | cons r3 r4 => cases r4; exact ⟨_, _, rfl, r1, r3⟩
theorem call_abs : CallR X (.builtin "abs") (fun xs H Q => ∃ i, xs = [.int i] ∧ Q (.int (if i < 0 then -i else i)) H) := by
  intro pins s σ H xs us Q I r h
  obtain ⟨i, rfl, q⟩ := h
  obtain ⟨u, rfl, t, rfl⟩ := vals1 r
  exact call_abs_int fun u tk => ⟨.int (if i < 0 then -i else i), H, I.tok _, ⟨_, rfl⟩, q⟩
theorem call_max2 (hc : X.calm = true) : CallR X (.builtin "max") (fun xs H Q => ∃ i j, xs = [.int i, .int j] ∧ Q (.int (if j > i then j else i)) H) := by
  intro pins s σ H xs us Q I r h
  obtain ⟨i, j, rfl, q⟩ := h
  obtain ⟨u, w', rfl, ⟨t, rfl⟩, ⟨t', rfl⟩⟩ := vals2 r
  refine max_two_ints (I.ok.hd hc) fun h' tk k => ⟨_, H, I.kept k, ?_, q⟩
  by_cases hj : j > i
  · rw [if_pos hj, if_pos hj]; exact ⟨_, rfl⟩
  · rw [if_neg hj, if_neg hj]; exact ⟨_, rfl⟩
theorem call_min2 (hc : X.calm = true) : CallR X (.builtin "min") (fun xs H Q => ∃ i j, xs = [.int i, .int j] ∧ Q (.int (if j < i then j else i)) H) := by
  intro pins s σ H xs us Q I r h
  obtain ⟨i, j, rfl, q⟩ := h
  obtain ⟨u, w', rfl, ⟨t, rfl⟩, ⟨t', rfl⟩⟩ := vals2 r
  refine min_two_ints (I.ok.hd hc) fun h' tk k => ⟨_, H, I.kept k, ?_, q⟩
  by_cases hj : j < i
  · rw [if_pos hj, if_pos hj]; exact ⟨_, rfl⟩
  · rw [if_neg hj, if_neg hj]; exact ⟨_, rfl⟩
theorem call_int1 : CallR X (.type "int") (fun xs H Q => (∃ i, xs = [.int i] ∧ Q (.int i) H) ∨ ∃ k, xs = [.bl k] ∧ Q (.int (if k then 1 else 0)) H) := by
  intro pins s σ H xs us Q I r h
  rcases h with ⟨i, rfl, q⟩ | ⟨k, rfl, q⟩
  · obtain ⟨u, rfl, t, rfl⟩ := vals1 r
    exact call_int_int ⟨.int i, H, I, ⟨_, rfl⟩, q⟩
  · obtain ⟨u, rfl, r1⟩ := vals1 r
    cases r1
    exact call_int_bool ⟨.int (if k then 1 else 0), H, I.tok _, ⟨_, rfl⟩, q⟩
/-- len of a str, a bytes, a list, a tuple -/
def LenV (K : PySem.W.Frag) (x : V) (H : Hp) (n : Nat) : Prop :=
  match x with
  | .str y => y.length ≤ sizeLine ∧ n = y.length
  | .byt y => y.size ≤ sizeLine ∧ n = y.size
  | .ref p => (∃ xs, SqL K H p xs ∧ n = xs.length) ∨ ∃ xs, SqT K H p xs ∧ n = xs.length
  | _ => False
end
end L2

namespace L2
open PySem PySem.Spec PyProof.Rows

/-! ### an instance, its attributes a map -/
structure ObjM (h : Heap) (x dx C : Addr) (mA : Str → Option Value) : Prop where
  obj : h.get? x = some (PySem.W.instObj C dx)
  ns : h.Ns1 dx mA
  ne : dx ≠ x

theorem lookIn_ns {h : Heap} {dx : Addr} {mA : Str → Option Value} (n : h.Ns1 dx mA) : ∃ od, h.get? dx = some od ∧ ∀ name, PySem.W.lookIn name od = some (mA name) := by
  obtain ⟨o, es, ep, ho, hd, hk, _, hm⟩ := n
  refine ⟨o, ho, fun name => ?_⟩
  have e := hm name
  unfold nsFind findBy at e
  rw [← Array.find?_toList] at e
  unfold PySem.W.lookIn
  rw [hd]
  dsimp only
  split
  · rename_i y q
    rw [q] at e
    exact congrArg some e
  · rename_i q
    rw [q] at e
    have a : es.toList.any (·.refKey) = false := by
      rw [List.any_eq_false]
      intro y hy
      obtain ⟨z, t, hkey⟩ := hk y (Array.mem_toList_iff.mp hy)
      simp [DictEntry.refKey, hkey]
    have a' : ¬ es.toList.any (·.refKey) = true := by rw [a]; exact Bool.false_ne_true
    rw [if_neg a']
    exact congrArg some e

theorem ObjM.look {h : Heap} {x dx C : Addr} {mA : Str → Option Value} (I : ObjM h x dx C mA) : ∃ od, PySem.W.InstAt h x (PySem.W.instObj C dx) C (some od) ∧ ∀ name, PySem.W.lookIn name od = some (mA name) :=
  let ⟨od, ho, hl⟩ := lookIn_ns I.ns
  ⟨od, ⟨I.obj, rfl, rfl, ho⟩, hl⟩

section
variable {prog : Program} {w : World} {A : Around} {E : Value → Shared → Prop} {s : Shared} {K : PySem.W.Frag} {x dx C f : Addr} {mA : Str → Option Value} {name : Str} {v : Value}





end

/-! ### the attributes as a list of pairs -/
def putF (f : Str) (v : V) : List (Str × V) → List (Str × V)
  | [] => [(f, v)]
  | (g, x) :: r => if g = f then (g, v) :: r else (g, x) :: putF f v r

theorem RelO.some_of {v : V} {o : Option Value} (r : RelO (some v) o) : ∃ u, o = some u ∧ RelV v u := by
  cases o with
  | none => exact (show False from r).elim
  | some u => exact ⟨u, rfl, r⟩
theorem handed_of {v : V} {u : Value} (r : RelV v u) : PySem.W.handedIn u = true := by
  cases v with
  | non => cases (show u = Value.none from r); rfl
  | bl b => cases (show u = Value.bool b from r); rfl
  | int i => obtain ⟨t, e⟩ := (show ∃ t, u = Value.int i t from r); cases e; rfl
  | str x => obtain ⟨t, e⟩ := (show ∃ t, u = Value.str x t from r); cases e; rfl
  | byt b => obtain ⟨t, e⟩ := (show ∃ t, u = Value.bytes b t from r); cases e; rfl
  | flt b => obtain ⟨t, e⟩ := (show ∃ t, u = Value.float b t from r); cases e; rfl
  | ref a => cases (show u = Value.ref a from r); rfl
  | ty n => cases (show u = Value.type n from r); rfl

section
variable {P : Program} {w : World} {H H' : Hp} {h h' : Heap} {a C dx : Addr} {fs fs' : List (Str × V)}
theorem ins_get (hok : HOk P w H h) (e : H a = some (.ins C dx fs)) : ∃ mA, ObjM h a dx C mA ∧ (∀ f, RelO (fs.lookup f) (mA f)) ∧ PySem.Within mA (fs.map (·.1)) ∧ fs.length ≤ 1000 ∧ H dx = some (.own a) := by
  obtain ⟨d, z, ne, ob, mA, n, r, q⟩ := (show ObjOk P w H h a (.ins C dx fs) from hok a _ e)
  exact ⟨mA, ⟨ob, n, ne⟩, r, q, z, d⟩
end

/-! ### what of the text a class must have -/
structure Cls (K : PySem.W.Frag) (C : Addr) : Prop where
  pg : PySem.W.plainGet K C Str.empty = true
  hd : PySem.W.hasDictIn K C = true
  po : PySem.W.plainOver K C = true
  sa : PySem.W.findIn K (.ref C) "__setattr__" = some (some (.builtin "object.__setattr__"))
theorem Cls.get {K : PySem.W.Frag} {C : Addr} (c : Cls K C) (f : Str) : PySem.W.plainGet K C f = true := c.pg
/-- no class of it has the name -/
def NoAttr (K : PySem.W.Frag) (C : Addr) (f : Str) : Prop := PySem.W.findIn K (.ref C) f = some none
/-- a constant of the class -/
structure Con (K : PySem.W.Frag) (C : Addr) (f : Str) (v : V) (u : Value) : Prop where
  at_ : PySem.W.findIn K (.ref C) f = some (some u)
  rel : RelV v u
  get : PySem.W.specialIn K u "__get__" = some none
  cp : PySem.W.copiedNames.contains f = false
/-- a method: a plain def of the class or of one above it -/
structure Meth (K : PySem.W.Frag) (C : Addr) (m : Str) (f : Addr) : Prop where
  at_ : PySem.W.findIn K (.ref C) m = some (some (.ref f))
  fn : PySem.W.isFn K (.ref f) = true
  kp : PySem.W.keepIn K (.ref f) = true

section
variable {X : Cx} {pins : List (Addr × Obj)} {σ : St} {H : Hp} {s : Shared} {a C dx : Addr} {fs : List (Str × V)} {f : Str} {v : V} {A : Around} {E : Value → Shared → Prop}






/-- e.f where nothing but the object is asked: through attributeBase (super) and the last hold -/
theorem attr_of {prog : Program} {w : World} {env : Env} {e : Expr} {f : Str} {pos : Pos} {s : Shared} {Q : Value → Shared → Prop} (hb : attributeBase e f env (eval e env) = eval e env)
    (h : wpAny (model prog w) A (eval e env) (fun o s₁ => wpAny (model prog w) A (getAttr o f true) Q E s₁) E s) : wpAny (model prog w) A (eval (.Attribute e f pos) env) Q E s :=
  Attribute_any_ h (by rw [arm_eval_Attribute, hb])
end

/-! ### readings and rules -/
/-- e.f, an attribute of the instance -/
def tFld (K : PySem.W.Frag) (ta : TE) (f : Str) : TE := fun σ H Q => ta σ H fun x H1 => ∃ a C dx fs v, x = .ref a ∧ H1 a = some (.ins C dx fs) ∧ Cls K C ∧ NoAttr K C f ∧ fs.lookup f = some v ∧ Q v H1
/-- e.f, a constant of the class -/
def tCon (K : PySem.W.Frag) (ta : TE) (f : Str) : TE := fun σ H Q => ta σ H fun x H1 => ∃ a C dx fs v u, x = .ref a ∧ H1 a = some (.ins C dx fs) ∧ Cls K C ∧ Con K C f v u ∧ fs.lookup f = none ∧ Q v H1
/-- e.f = value -/
def sFld (K : PySem.W.Frag) (ta tv : TE) (f : Str) : TS := fun D σ H => tv σ H fun y H1 => ta σ H1 fun x H2 => ∃ a C dx fs, x = .ref a ∧ H2 a = some (.ins C dx fs) ∧ Cls K C ∧ NoAttr K C f ∧ fs.length < 1000 ∧
  D.nx σ (upd H2 a (.ins C dx (putF f y fs)))
/-- an augmented operator on two values -/
def InOp (X : Cx) (op : Operator) (rd : V → V → Hp → VK → Prop) : Prop :=
  ∀ (pins : List (Addr × Obj)) (s : Shared) (σ : St) (H : Hp) (x y : V) (u v : Value) (Q : VK), Inv X pins σ H s → RelV x u → RelV y v → rd x y H Q → wpAny (model X.prog X.w) X.A (inplaceOp op u v) (EP X pins σ Q) X.xe s
/-- e.f op= value -/
def sFldAug (K : PySem.W.Frag) (ta tv : TE) (rd : V → V → Hp → VK → Prop) (f : Str) : TS := fun D σ H => ta σ H fun x H1 => ∃ a C dx fs v, x = .ref a ∧ H1 a = some (.ins C dx fs) ∧ Cls K C ∧ NoAttr K C f ∧ fs.lookup f = some v ∧
  tv σ H1 fun y H2 => rd v y H2 fun z H3 => ∃ dx' fs', H3 a = some (.ins C dx' fs') ∧ fs'.length < 1000 ∧ D.nx σ (upd H3 a (.ins C dx' (putF f z fs')))

section
variable {X : Cx} {o e value : Expr} {f : Str} {pos pos' tpos : Pos} {ta tv : TE}
def rAdd : V → V → Hp → VK → Prop := fun x y H Q => ∃ i j, x = .int i ∧ y = .int j ∧ Q (.int (i + j)) H
def rSub : V → V → Hp → VK → Prop := fun x y H Q => ∃ i j, x = .int i ∧ y = .int j ∧ Q (.int (i - j)) H

end

/-! ### isinstance -/
section
variable {X : Cx} {pins : List (Addr × Obj)} {σ : St} {H : Hp} {s : Shared} {A : Around} {E : Value → Shared → Prop} {Q : Value → Shared → Prop} {c : Value} {b : Bool}
/-- the type of a value, as the fragment's deciders take it; for an instance its class -/
inductive TyOf (K : PySem.W.Frag) (H : Hp) : V → Value → Prop where
  | non : TyOf K H .non (.type "NoneType")
  | bl (x : Bool) : TyOf K H (.bl x) (.type "bool")
  | int (i : Int) : TyOf K H (.int i) (.type "int")
  | str (x : Str) : TyOf K H (.str x) (.type "str")
  | flt (x : UInt64) : TyOf K H (.flt x) (.type "float")
  | lst {a : Addr} {xs : List V} (e : H a = some (.lst xs)) : TyOf K H (.ref a) (.type "list")
  | frz {a : Addr} {o : Obj} {xs : List V} (e : H a = some (.frz o (.lst xs))) : TyOf K H (.ref a) (.type "list")
  | tup {a : Addr} {xs : List V} (e : H a = some (.tup xs)) : TyOf K H (.ref a) (.type "tuple")
  | dK {a : Addr} {kvs : List (Key × V)} (e : H a = some (.dK kvs)) : TyOf K H (.ref a) (.type "dict")
  | dT {a : Addr} {kvs : List (List Key × V)} (e : H a = some (.dT kvs)) : TyOf K H (.ref a) (.type "dict")
  | ins {a C dx : Addr} {fs : List (Str × V)} (e : H a = some (.ins C dx fs)) (cl : Cls K C) (ha : PySem.W.findIn K (.ref C) "__class__" = some (some (.builtin "object.__class__")))
      (hn : PySem.W.specialIn K (.builtin "object.__class__") "__get__" = some (some (.builtin "getset_descriptor.__get__"))) (htk : PySem.W.takesIn K (.builtin "object.__class__") = some true)
      (hm : PySem.W.mroIn K C (.type "object") = some true) : TyOf K H (.ref a) (.ref C)
/-- isinstance(x, c) for one class c, a built-in or an own one: kitOne's answer -/
theorem isinst_ok {x : V} {u t : Value} (I : Inv X pins σ H s) (rx : RelV x u) (ty : TyOf X.K H x t) (e : PySem.W.kitOne X.K t c = some b) (h : ∀ tk, Q (.bool b) { s with toks := tk }) :
    wpAny (model X.prog X.w) A (call (.builtin "isinstance") [u, c]) Q E s := by
  cases ty with
  | non => cases (show u = Value.none from rx); exact PySem.W.kia_one PySem.W.kitx_none I.kIn True.intro e (fun z => nomatch z) h
  | bl y => cases (show u = Value.bool y from rx); exact PySem.W.kia_one PySem.W.kitx_bool I.kIn True.intro e (fun z => nomatch z) h
  | int i => obtain ⟨t, q⟩ := (show ∃ t, u = Value.int i t from rx); cases q; exact PySem.W.kia_one PySem.W.kitx_int I.kIn True.intro e (fun z => nomatch z) h
  | str y => obtain ⟨t, q⟩ := (show ∃ t, u = Value.str y t from rx); cases q; exact PySem.W.kia_one PySem.W.kitx_str I.kIn True.intro e (fun z => nomatch z) h
  | flt y => obtain ⟨t, q⟩ := (show ∃ t, u = Value.float y t from rx); cases q; exact PySem.W.kia_one PySem.W.kitx_float I.kIn True.intro e (fun z => nomatch z) h
  | @lst a xs ea =>
    cases (show u = Value.ref a from rx)
    obtain ⟨_, _, n, _, h1⟩ := (show ObjOk X.prog X.w H s.heap a (.lst xs) from I.hok a _ ea)
    exact PySem.W.kia_one PySem.W.kitx_list I.kIn ⟨_, h1, rfl⟩ e (fun z => nomatch z) h
  | @frz a ob xs ea =>
    cases (show u = Value.ref a from rx)
    obtain ⟨_, _, _, n, _, h1⟩ := (show ObjOk X.prog X.w H s.heap a (.frz ob (.lst xs)) from I.hok a _ ea)
    exact PySem.W.kia_one PySem.W.kitx_list I.kIn ⟨_, h1, rfl⟩ e (fun z => nomatch z) h
  | @tup a xs ea =>
    cases (show u = Value.ref a from rx)
    obtain ⟨_, _, _, p⟩ := (show ObjOk X.prog X.w H s.heap a (.tup xs) from I.hok a _ ea)
    obtain ⟨o, h1, h2, _⟩ := p
    exact PySem.W.kia_one PySem.W.kitx_tuple I.kIn ⟨o, h1, h2⟩ e (fun z => nomatch z) h
  | @dK a kvs ea =>
    cases (show u = Value.ref a from rx)
    obtain ⟨_, _, vs, _, p⟩ := (show ObjOk X.prog X.w H s.heap a (.dK kvs) from I.hok a _ ea)
    obtain ⟨o, es, ep, h1, h2, _⟩ := p
    exact PySem.W.kia_one PySem.W.kitx_dict I.kIn ⟨o, h1, h2.1⟩ e (fun z => nomatch z) h
  | @dT a kvs ea =>
    cases (show u = Value.ref a from rx)
    obtain ⟨_, _, xs, _, o, es, ep, h1, h2, _⟩ := (show ObjOk X.prog X.w H s.heap a (.dT kvs) from I.hok a _ ea)
    exact PySem.W.kia_one PySem.W.kitx_dict I.kIn ⟨o, h1, h2.1⟩ e (fun z => nomatch z) h
  | @ins a C dx fs ea cl ha hn htk hm =>
    cases (show u = Value.ref a from rx)
    obtain ⟨mA, O, _⟩ := ins_get I.hok ea
    obtain ⟨od, J, _⟩ := O.look
    exact PySem.W.kia_one (PySem.W.kitx_own (cl.get _) cl.hd ha hn htk hm) I.kIn J e (fun z => nomatch z) h
end
end L2

namespace L2
open PySem PySem.Spec PyProof.Rows

/-! ### room -/
structure Room (k : Nat) (A : Around) : Prop where
  hd : A.handled = none
  dp : A.depth + 3 * k + 5 < recursionLimit
  un : A.units + 16 * k + 200 < cLine
  gd : A.guards = some []
theorem Room.mono {j k : Nat} {A : Around} (r : Room k A) (h : j ≤ k) : Room j A := ⟨r.hd, by have := r.dp; omega, by have := r.un; omega, r.gd⟩
theorem Room.deeper {k : Nat} {A : Around} (r : Room (k + 1) A) (env : Env) : Room k (A.deeper env) :=
  ⟨r.hd, by have := r.dp; show A.depth + 1 + 3 * k + 5 < _; omega, by have := r.un; show A.units + 3 + 16 * k + 200 < _; omega, r.gd⟩
theorem make_depth {A : Around} {C : Addr} {us : List Value} {kw : List (Str × Value)} : (A.under (.builtin "type.__call__" ⟨.ref C :: us, kw⟩)).depth = A.depth + 1 := by
  first | rfl | simp [Around.under, Code.weight, Code.isCreation, Code.isGuard, Code.isCaller, Code.frames, Code.isFrame, guardIds]
theorem make_units {A : Around} {C : Addr} {us : List Value} {kw : List (Str × Value)} : (A.under (.builtin "type.__call__" ⟨.ref C :: us, kw⟩)).units = A.units + 1 := by
  first | rfl | simp [Around.under, Code.cUnits, Code.frames, Code.isFrame]
theorem make_guards {A : Around} {C : Addr} {us : List Value} {kw : List (Str × Value)} : (A.under (.builtin "type.__call__" ⟨.ref C :: us, kw⟩)).guards = A.guards := by
  first | rfl | simp [Around.under, Code.guards, Code.isGuard, guardIds, pushGuards]
theorem Room.make {k : Nat} {A : Around} (r : Room (k + 1) A) (C : Addr) (us : List Value) (kw : List (Str × Value)) : Room k (A.under (.builtin "type.__call__" ⟨.ref C :: us, kw⟩)) :=
  ⟨r.hd, by have := r.dp; rw [make_depth]; omega, by have := r.un; rw [make_units]; omega, by rw [make_guards]; exact r.gd⟩
theorem Room.depth {k : Nat} {A : Around} (r : Room k A) : A.depth < recursionLimit := by have := r.dp; omega
theorem Room.units {k : Nat} {A : Around} (r : Room k A) : A.units + 64 < cLine := by have := r.un; omega

/-! ### argument lists and displays -/
def tNil : TA := fun _ H Q => Q [] H
def tCons (ta : TE) (tr : TA) : TA := fun σ H Q => ta σ H fun x H1 => tr σ H1 fun xs H2 => Q (x :: xs) H2
section
variable {X : Cx} {e : Expr} {es : List Expr} {te : TE} {t : TA} {pos : Pos}
theorem pa_nil : PA X [] tNil := fun _ _ _ _ H Q I h => Calls.spliced_nil ⟨[], H, I, .nil, h⟩
theorem pa_cons (ha : PE X e te) (hr : PA X es t) (hs : starEach (e :: es) X.env = (false, eval e X.env) :: starEach es X.env := by rfl) : PA X (e :: es) (tCons te t) := by
  intro pos pins s σ H Q I h
  rw [hs]
  show wpAny _ _ (spliced ((false, eval e X.env) :: backTo pos (starEach es X.env))) _ _ s
  refine Calls.spliced_cons (thn (ha pins s σ H _ I h) fun u s1 ⟨x, H1, I1, r1, q1⟩ => ?_)
  exact thn (hr pos pins s1 σ H1 _ I1 q1) fun us s2 ⟨xs, H2, I2, r2, q2⟩ => ⟨x :: xs, H2, I2, .cons r1 r2, q2⟩

/-- a tuple, a list of written items -/
def tTup (t : TA) : TE := fun σ H Q => t σ H fun xs H1 => xs.length ≤ sizeLine ∧ ∀ p, H1 p = none → Q (.ref p) (upd H1 p (.tup xs))
def tLst (t : TA) : TE := fun σ H Q => t σ H fun xs H1 => xs.length ≤ sizeLine ∧ ∀ p, H1 p = none → Q (.ref p) (upd H1 p (.lst xs))
theorem pe_tup {x1} (h : PA X es t) : PE X (.Tuple es x1 pos) (tTup t) := by
  intro pins s σ H Q I hq
  refine wpAny_Tuple_spliced (thn (h pos pins s σ H _ I hq) fun us s1 ⟨xs, H1, I1, r, z, q⟩ => ⟨by rw [← r.length]; exact z, ?_⟩)
  have hf : H1 s1.heap.objs.size = none := I1.hok.fresh (Nat.le_refl _)
  refine ⟨.ref s1.heap.objs.size, upd H1 s1.heap.objs.size (.tup xs), I1.laid (t' := s1.toks) (fun b u e => Heap.get?_push_of_some _ e) (Nat.le_refl _) ?_, rfl, q _ hf⟩
  exact ⟨z, us, r, ⟨_, Heap.get?_push_size _ rfl, rfl, _, rfl⟩⟩
theorem pe_lst (h : PA X es t) : PE X (.List es pos) (tLst t) := by
  intro pins s σ H Q I hq
  refine wpAny_List_spliced (thn (h pos pins s σ H _ I hq) fun us s1 ⟨xs, H1, I1, r, z, q⟩ => ⟨by rw [← r.length]; exact z, ?_⟩)
  have hf : H1 s1.heap.objs.size = none := I1.hok.fresh (Nat.le_refl _)
  refine ⟨.ref s1.heap.objs.size, upd H1 s1.heap.objs.size (.lst xs), I1.laid (t' := s1.toks) (fun b u e => Heap.get?_push_of_some _ e) (Nat.le_refl _) ?_, rfl, q _ hf⟩
  exact ⟨z, us, 0, r, Heap.get?_push_size _ rfl⟩
end

/-! ### what a def promises -/
/-- a def's promise: the bound arguments in the parameters' order, the heap, the wanted end, the wanted exception -/
abbrev Sp := List V → Hp → VK → XK → Prop
/-- how an exception lies behind a call (file 08 gives it): the callers' frames, abstract heap and state ahead of the call, the wish, the exception, the state -/
abbrev CXT := List Env → Hp → Shared → XK → Value → Shared → Prop

/-- the state at a call -/
structure Env0 (P : Program) (w : World) (K : PySem.W.Frag) (mg : Str → Option Value) (base : Heap) (A : Around) (outer : List Env) (s : Shared) (H : Hp) : Prop where
  frames : A.frames = some outer
  mod : Mod K mg base
  bs : ∀ b o, base.get? b = some o → s.heap.get? b = some o ∧ H b = none
  bsz : base.objs.size ≤ s.heap.objs.size
  funs : s.heap.FunFrames base outer
  frf : ∀ b ∈ frs outer, H b = none
  hok : HOk P w H s.heap
  bare : AllBare s.gens
/-- a call's end -/
def CE (outer : List Env) (P : Program) (w : World) (H : Hp) (s : Shared) (Q : VK) (u : Value) (s' : Shared) : Prop :=
  ∃ v H', s'.os = s.os ∧ AllBare s'.gens ∧ Un (frs outer) [] H H' s.heap s'.heap ∧ HOk P w H' s'.heap ∧ RelV v u ∧ Q v H'
def CR (CX : CXT) (outer : List Env) (P : Program) (w : World) (H : Hp) (s : Shared) (Q : VK) (E : XK) (r : Result) (s' : Shared) : Prop :=
  match r with
  | .ok (.ret u) => CE outer P w H s Q u s'
  | .ok _ => False
  | .error e => CX outer H s E e s'
structure FnOk (P : Program) (w : World) (K : PySem.W.Frag) (mg : Str → Option Value) (base : Heap) (CX : CXT) (k : Nat) (f : Addr) (fd : FuncData) (ps : List Str) (sp : Sp) : Prop where
  len : ∀ vs H Q E, sp vs H Q E → vs.length = ps.length
  run : ∀ (A : Around) (outer : List Env) (s : Shared) (H : Hp) (args : Args) (us : List Value) (vs : List V) (Q : VK) (E : XK), Room k A → Env0 P w K mg base A outer s H → BindsTo s fd args (ps.zip us) → Vals vs us → sp vs H Q E →
    codeAny (model P w) A (.call (.ref f) args) (CR CX outer P w H s Q E) s

theorem Env0.make {P : Program} {w : World} {K : PySem.W.Frag} {mg : Str → Option Value} {base : Heap} {A : Around} {outer : List Env} {s : Shared} {H : Hp} (e : Env0 P w K mg base A outer s H) (C : Addr) (us : List Value) (kw : List (Str × Value)) :
    Env0 P w K mg base (A.under (.builtin "type.__call__" ⟨.ref C :: us, kw⟩)) outer s H := ⟨by first | exact e.frames | (simpa [Around.under, Code.envs, Code.isFrame, pushEnvs] using e.frames), e.mod, e.bs, e.bsz, e.funs, e.frf, e.hok, e.bare⟩

section
variable {X : Cx} {pins : List (Addr × Obj)} {σ : St} {H : Hp} {s s' : Shared}
/-- from a body: what a callee wants -/
theorem Inv.env0 (I : Inv X pins σ H s) : Env0 X.prog X.w X.K X.mg X.base X.A X.stack s H :=
  ⟨I.ok.frames, I.ok.mod, I.bs, Nat.le_trans I.ok.bsz I.sz, I.stack, I.stkFree, I.hok, I.bare⟩
/-- behind a call -/
theorem Inv.after {Q : VK} {u : Value} (I : Inv X pins σ H s) (h : CE X.stack X.prog X.w H s Q u s') : EP X pins σ Q u s' := by
  obtain ⟨v, H', os, bare, un, hok, r, q⟩ := h
  obtain ⟨hh, g, d, t, os'⟩ := s'
  obtain rfl : os' = s.os := os
  exact ⟨v, H', I.call (h' := hh) (g' := g) (d' := d) (t' := t) (ch := []) un hok bare (fun b z => absurd z (by simp)), r, q⟩
end

/-! ### calls -/
/-- f(..): the written arguments, then the defaults dvs; E: what is wanted of an exception -/
def tCall (sp : Sp) (dvs : List V) (E : XK) (t : TA) : TE := fun σ H Q => t σ H fun vs H1 => sp (vs ++ dvs) H1 Q E
/-- o.m(..) of an instance of the class at C -/
def tMeth (C : Addr) (m : Str) (sp : Sp) (dvs : List V) (E : XK) (ta : TE) (t : TA) : TE := fun σ H Q => ta σ H fun x H1 => ∃ a dx fs, x = .ref a ∧ H1 a = some (.ins C dx fs) ∧ fs.lookup m = none ∧
  t σ H1 fun vs H2 => sp (x :: (vs ++ dvs)) H2 Q E
/-- C(..): a new instance and its dict, then __init__ -/
def tMake (C : Addr) (sp : Sp) (dvs : List V) (E : XK) (t : TA) : TE := fun σ H Q => t σ H fun vs H1 => ∀ x dx, H1 x = none → H1 dx = none → dx ≠ x →
  sp (.ref x :: (vs ++ dvs)) (upd (upd H1 dx (.own x)) x (.ins C dx [])) (fun v H2 => v = .non ∧ Q (.ref x) H2) E

/-- how the parameters are bound: us the positional arguments, kw the keywords' values by name, ds the defaults that fill up -/
def Binds (K : PySem.W.Frag) (fd : FuncData) (ps : List Str) (ds : List Value) : Prop :=
  ∀ (s : Shared) (us : List Value), K.In s.heap → (us ++ ds).length = ps.length → BindsTo s fd ⟨us, []⟩ (ps.zip (us ++ ds))
/-- every parameter is given -/
theorem Binds.all {K : PySem.W.Frag} {fd : FuncData} {ps : List Str} (h : ∀ us : List Value, us.length = ps.length → bindArgs fd ⟨us, []⟩ = pure (ps.zip us)) : Binds K fd ps [] := fun s us _ hl => by
  rw [List.append_nil] at hl ⊢
  exact .of_eq (h us hl)

/-- an exception of a callee reaches what this body wants of exceptions -/
def Passes (CX : CXT) (X : Cx) (E : XK) : Prop := ∀ (pins : List (Addr × Obj)) (σ : St) (H : Hp) (s : Shared) (e : Value) (s' : Shared), Inv X pins σ H s → CX X.stack H s E e s' → X.xe e s'

section
variable {X : Cx} {CX : CXT} {k : Nat} {f C : Addr} {fd : FuncData} {ps : List Str} {sp : Sp} {dvs : List V} {ds : List Value} {E : XK} {x m : Str} {p pos apos : Pos} {e o : Expr} {es : List Expr} {ta : TE} {t : TA}

/-- the callee runs -/
theorem run_fn {pins : List (Addr × Obj)} {σ : St} {H : Hp} {s : Shared} {Q : VK} {us : List Value} {vs : List V} (F : FnOk X.prog X.w X.K X.mg X.base CX k f fd ps sp) (hr : Room k X.A) (hb : Binds X.K fd ps ds) (hd : Vals dvs ds) (hx : Passes CX X E)
    (I : Inv X pins σ H s) (r : Vals vs us) (h : sp (vs ++ dvs) H Q E) : wpAny (model X.prog X.w) X.A (call (.ref f) us) (EP X pins σ Q) X.xe s := by
  have r2 : Vals (vs ++ dvs) (us ++ ds) := r.append hd
  have hl : (us ++ ds).length = ps.length := by rw [← r2.length]; exact F.len _ _ _ _ h
  refine wpAny_call (codeAny_mono (F.run X.A X.stack s H ⟨us, []⟩ (us ++ ds) (vs ++ dvs) Q E hr I.env0 (hb s us I.kIn hl) r2 h) fun r s' hq => ?_)
  cases r with
  | error e => exact hx pins σ H s e s' I hq
  | ok fl =>
    cases fl with
    | ret u => exact I.after hq
    | next => exact False.elim hq
    | brk => exact False.elim hq
    | cont => exact False.elim hq

theorem pe_call (F : FnOk X.prog X.w X.K X.mg X.base CX k f fd ps sp) (hr : Room k X.A) (hg : Gl X x) (hm : X.mg x = some (.ref f)) (hk : PySem.W.keepIn X.K (.ref f) = true) (hb : Binds X.K fd ps ds) (hd : Vals dvs ds) (hx : Passes CX X E)
    (ha : PA X (e :: es) t) (hdb : (x == ("__debug__" : Str)) = false := by decide) (he : starEach (e :: es) X.env = (false, eval e X.env) :: starEach es X.env := by rfl) (hpl : (backTo pos (starEach es X.env)).any (·.1) = false := by rfl) :
    PE X (.Call (.Name x p) (e :: es) [] pos) (tCall sp dvs E t) := by
  intro pins s σ H Q I h
  refine wpAny_Call_Name_kw (ld_glob I hg hm ?_ hdb)
  refine PySem.W.callWith_K (h₀ := X.base) I.ok.mod.kin hk (thn (ha pos pins s σ H _ I h) fun us s1 ⟨vs, H1, I1, r, q⟩ => ⟨I1.kIn, ?_⟩) he hpl
  exact run_fn F hr hb hd hx I1 r q


/-- what a class must have to be made -/
structure Mk (K : PySem.W.Frag) (C f : Addr) : Prop where
  makes : PySem.W.makesIn K C = true
  init : PySem.W.findIn K (.ref C) "__init__" = some (some (.ref f))
  fn : PySem.W.isFn K (.ref f) = true
  kp : PySem.W.keepIn K (.ref C) = true

end

/-! ### keywords -/
/-- the values of the keywords, from the left -/
def PK (X : Cx) (kws : List Keyword) (t : TA) : Prop :=
  ∀ (pos : Pos) (pins : List (Addr × Obj)) (s : Shared) (σ : St) (H : Hp) (Q : List V → Hp → Prop), Inv X pins σ H s → t σ H Q → wpAny (model X.prog X.w) X.A (evalAll ((backToKw pos (keywordEach kws X.env)).map (·.2))) (AP X pins σ Q) X.xe s
section
variable {X : Cx} {CX : CXT} {k : Nat} {f C : Addr} {fd : FuncData} {ps ks : List Str} {sp : Sp} {E : XK} {x m : Str} {p pos apos kpos : Pos} {e o : Expr} {es : List Expr} {kws : List Keyword} {te ta : TE} {t tk : TA} {nm : Option Str}

/-- how a call with keywords binds: g puts the positional values us and the keywords' values ws (names ks) in the parameters' order, defaults among them -/
structure KBinds (K : PySem.W.Frag) (fd : FuncData) (ps ks : List Str) (g : List Value → List Value → List Value) (gV : List V → List V → List V) : Prop where
  to : ∀ (s : Shared) (us ws : List Value), K.In s.heap → (g us ws).length = ps.length → BindsTo s fd ⟨us, ks.zip ws⟩ (ps.zip (g us ws))
  rel : ∀ {vs : List V} {us : List Value} {zs : List V} {ws : List Value}, Vals vs us → Vals zs ws → Vals (gV vs zs) (g us ws)
def tCallK (sp : Sp) (gV : List V → List V → List V) (E : XK) (t tk : TA) : TE := fun σ H Q => t σ H fun vs H1 => tk σ H1 fun zs H2 => sp (gV vs zs) H2 Q E
variable {g : List Value → List Value → List Value} {gV : List V → List V → List V}
end

/-! ### a def's body keeps its promise -/
/-- names: the parameters first -/
structure FnScope (N P : List Str) (sc : Scope) : Prop where
  kind : sc.kind = .function
  co : sc.isCoroutine = false
  gen : sc.isGenerator = false
  nd : N.Nodup
  pre : N.take P.length = P
  par : ∀ x ∈ P, sc.names.lookup x = some .local ∨ sc.names.lookup x = some .cell
  nofree : ∀ y ∈ sc.names, y.2 ≠ .free

theorem bindL_out {kindOf : Str → Option NameKind} {x : Str} : ∀ {binds : List (Str × Value)} {m : Str → Option Value}, (∀ v, (x, v) ∉ binds) → bindL kindOf binds m x = m x
  | [], _, _ => rfl
  | (n, v) :: r, m, h => by
    unfold bindL
    rw [bindL_out fun w hw => h w (List.mem_cons_of_mem _ hw)]
    split
    · have : x ≠ n := by rintro rfl; exact h v List.mem_cons_self
      simp [this]
    · rfl
theorem bindC_out {kindOf : Str → Option NameKind} {x : Str} : ∀ {binds : List (Str × Value)} {m : Str → Option Value}, (∀ v, (x, v) ∉ binds) → bindC kindOf binds m x = m x
  | [], _, _ => rfl
  | (n, v) :: r, m, h => by
    unfold bindC
    rw [bindC_out fun w hw => h w (List.mem_cons_of_mem _ hw)]
    split
    · rfl
    · have : x ≠ n := by rintro rfl; exact h v List.mem_cons_self
      simp [this]
theorem bindL_get {kindOf : Str → Option NameKind} {x : Str} {v : Value} : ∀ {P : List Str} {vs : List Value} {i : Nat} {m : Str → Option Value}, P.Nodup → P[i]? = some x → vs[i]? = some v → kindOf x = some .local →
    bindL kindOf (P.zip vs) m x = some v
  | [], _, _, _, _, h, _, _ => by simp at h
  | _ :: _, [], _, _, _, _, h, _ => by simp at h
  | p :: P, w :: vs, 0, m, nd, h1, h2, hk => by
    simp at h1 h2; subst h1; subst h2
    show bindL kindOf ((p, w) :: P.zip vs) m p = _
    unfold bindL
    rw [bindL_out fun v hv => (List.nodup_cons.mp nd).1 (List.of_mem_zip hv).1, if_pos hk]
    simp
  | p :: P, w :: vs, i + 1, m, nd, h1, h2, hk => by
    show bindL kindOf ((p, w) :: P.zip vs) m x = _
    unfold bindL
    exact bindL_get (i := i) (List.nodup_cons.mp nd).2 (by simpa using h1) (by simpa using h2) hk
theorem bindC_get {kindOf : Str → Option NameKind} {x : Str} {v : Value} : ∀ {P : List Str} {vs : List Value} {i : Nat} {m : Str → Option Value}, P.Nodup → P[i]? = some x → vs[i]? = some v → kindOf x ≠ some .local →
    bindC kindOf (P.zip vs) m x = some v
  | [], _, _, _, _, h, _, _ => by simp at h
  | _ :: _, [], _, _, _, _, h, _ => by simp at h
  | p :: P, w :: vs, 0, m, nd, h1, h2, hk => by
    simp at h1 h2; subst h1; subst h2
    show bindC kindOf ((p, w) :: P.zip vs) m p = _
    unfold bindC
    rw [bindC_out fun v hv => (List.nodup_cons.mp nd).1 (List.of_mem_zip hv).1, if_neg hk]
    simp
  | p :: P, w :: vs, i + 1, m, nd, h1, h2, hk => by
    show bindC kindOf ((p, w) :: P.zip vs) m x = _
    unfold bindC
    exact bindC_get (i := i) (List.nodup_cons.mp nd).2 (by simpa using h1) (by simpa using h2) hk

/-- the names' values at the entry -/
def start (N : List Str) (vs : List V) : St := vs.map some ++ List.replicate (N.length - vs.length) none

/-- the context of a def's body, at its entry; an exception leaves the frame, then lies as CX says -/
def cxOf (CX : CXT) (P : Program) (w : World) (K : PySem.W.Frag) (mg : Str → Option Value) (base : Heap) (N : List Str) (qual : Str) (scope : Scope) (f : Addr) (cd : Value) (A : Around) (outer : List Env) (s : Shared) (H : Hp) (E : XK) : Cx where
  prog := P
  w := w
  K := K
  mg := mg
  base := base
  A := A.deeper (envOfC qual scope s.heap.objs.size f cd)
  N := N
  s₀ := s
  H₀ := H
  env := envOfC qual scope s.heap.objs.size f cd
  outer := outer
  stack := envOfC qual scope s.heap.objs.size f cd :: outer
  ex := []
  calm := true
  fn := fun _ => true
  pn := []
  xe := fun e s' => wpAny (model P w) (A.deeper (envOfC qual scope s.heap.objs.size f cd)) (leaving (envOfC qual scope s.heap.objs.size f cd) e) (fun _ s'' => CX outer H s E e s'') (fun e' s'' => CX outer H s E e' s'') s'

theorem cell_has {sc : Scope} {n : Nat} {x : Str} (h : sc.names.lookup x = some .cell) : ∃ c, (cellsFrom n sc.names []).lookup x = some c := by
  have q := PySem.W.cellsFrom_some sc.names n [] (.inl h)
  exact Option.isSome_iff_exists.mp q

theorem inv_start {CX : CXT} {P : Program} {w : World} {K : PySem.W.Frag} {mg : Str → Option Value} {base : Heap} {N ps : List Str} {qual : Str} {scope : Scope} {f : Addr} {cd : Value} {A : Around} {outer : List Env} {s s1 : Shared} {H : Hp} {E : XK} {us : List Value} {vs : List V}
    (S : FnScope N ps scope) (hd : A.handled = none) (e0 : Env0 P w K mg base A outer s H) (hl : vs.length = ps.length) (r : Vals vs us)
    (x : InCallC s s.heap.objs.size (bindL (envOfC qual scope s.heap.objs.size f cd).kindOf (ps.zip us) fun _ => none) (cellsFrom (s.heap.objs.size + 1) scope.names []) (bindC (envOfC qual scope s.heap.objs.size f cd).kindOf (ps.zip us) fun _ => none) s1) :
    Inv (cxOf CX P w K mg base N qual scope f cd A outer s H E) [] (start N vs) H s1 := by
  have hpl : ps.length ≤ N.length := by have := congrArg List.length S.pre; rw [List.length_take] at this; omega
  obtain ⟨h1, tk, rfl, hk⟩ := x.done
  have noA : ∀ b : Addr, b ∉ (cxOf CX P w K mg base N qual scope f cd A outer s H E).ex := fun b z => absurd (show b ∈ ([] : List Addr) from z) (by simp)
  refine ⟨⟨e0.mod, S.kind, rfl, rfl, Nat.le_refl _, fun y z c h1 h2 => ?_, fun y hy => ?_, fun y c _ h => ?_, fun _ => hd, Around.frames_deeper e0.frames, .inr ⟨rfl, rfl⟩, fun b z => absurd z (noA b), e0.bs, e0.bsz, fun b _ _ => noA b, fun b z => absurd z (noA b), e0.funs, e0.frf⟩,
    rfl, e0.bare, Un.kept hk, ⟨_, x.toInCall.ns, fun i y v h1 h2 h3 => ?_⟩, fun y c h => ⟨_, x.cell y c h⟩, e0.hok.fresh (Nat.le_refl _), fun y c h => ?_, fun p hp => absurd (show p ∈ ([] : List (Addr × Obj)) from hp) (by simp), e0.hok.kept hk, ?_⟩
  · exact name_of_addr x.apart (PySem.mem_of_lookup h1) (PySem.mem_of_lookup h2)
  · have hy : scope.names.lookup y = some .cell ∨ scope.names.lookup y = some .free := hy
    rcases hy with hy | hy
    · exact cell_has hy
    · exact absurd rfl (S.nofree _ (PySem.mem_of_lookup hy))
  · exact Nat.le_of_lt (x.above y c (PySem.mem_of_lookup h))
  · have hi : i < vs.length := by
      unfold start at h2
      by_cases hi : i < vs.length
      · exact hi
      · rw [List.getElem?_append_right (by simpa using hi)] at h2
        rw [List.getElem?_replicate] at h2
        split at h2 <;> cases h2
    have ha : vs[i]? = some v := by
      unfold start at h2
      rw [List.getElem?_append_left (by simpa using hi), List.getElem?_map] at h2
      cases e : vs[i]? with
      | none => rw [e] at h2; cases h2
      | some a => rw [e] at h2; cases h2; rfl
    obtain ⟨u, hu, rv⟩ := r.get ha
    have hp : ps[i]? = some y := by
      rw [← S.pre, List.getElem?_take_of_lt (by omega)]; exact h1
    have ndP : ps.Nodup := by rw [← S.pre]; exact S.nd.sublist (List.take_sublist _ _)
    refine ⟨u, rv, ?_⟩
    rcases S.par y (List.mem_of_getElem? hp) with k | k
    · exact .inl ⟨k, bindL_get ndP hp hu k⟩
    · obtain ⟨c, e⟩ := cell_has (n := s.heap.objs.size + 1) k
      refine .inr ⟨.inl k, c, e, ?_⟩
      have q := x.cell y c e
      rw [bindC_get ndP hp hu (by show scope.names.lookup y ≠ _; rw [k]; decide)] at q
      exact q
  · exact e0.hok.fresh (Nat.le_of_lt (x.above y c (PySem.mem_of_lookup h)))
  · unfold start
    show _ = N.length
    rw [List.length_append, List.length_map, List.length_replicate]
    omega

/-- THE RULE: a def (or a method) of the text, by its body. The body's reading t is chosen for each entry; it is run at the parameters' values -/
theorem fn_of {CX : CXT} {P : Program} {w : World} {K : PySem.W.Frag} {mg : Str → Option Value} {base : Heap} {k : Nat} {f : Addr} {name qual : Str} {params : Arguments} {body : List Stmt} {scope : Scope} {dV kV doc pm cdv ct oc : Value} {an od : Option Addr}
    {osl : Array (Option Value)} {N ps : List Str} {sp : Sp} (lk : K.lookup f = some ⟨oc, od, .func (PySem.W.fnOf name qual params body scope dV kV doc pm an cdv ct), osl⟩) (hcd : PySem.W.codeIn K cdv qual = true) (S : FnScope N ps scope)
    (len : ∀ vs H Q E, sp vs H Q E → vs.length = ps.length)
    (hbody : ∀ (A : Around) (outer : List Env) (s : Shared) (H : Hp) (vs : List V) (Q : VK) (E : XK), Room k (A.deeper (envOfC qual scope s.heap.objs.size f cdv)) → sp vs H Q E →
      ∃ t, PSs (cxOf CX P w K mg base N qual scope f cdv A outer s H E) body t ∧ t { nx := fun _ H' => Q .non H', rt := Q } (start N vs) H) :
    FnOk P w K mg base CX (k + 1) f (PySem.W.fnOf name qual params body scope dV kV doc pm an cdv ct) ps sp := by
  refine ⟨len, fun A outer s H args us vs Q E hr e0 hb r hsp => ?_⟩
  have hl := len _ _ _ _ hsp
  have KX : K.In s.heap := e0.mod.kin.keeps fun b o e => (e0.bs b o e).1
  have lim : s.heap.NoLimit := e0.mod.nolimit.keeps fun b o e => (e0.bs b o e).1
  have hkind : ∀ y ∈ ps.zip us, scope.names.lookup y.1 = some .local ∨ (scope.names.lookup y.1 = some .cell ∧ ((cellsFrom (s.heap.objs.size + 1) scope.names []).lookup y.1).isSome = true) := fun ⟨n, v⟩ hy => by
    rcases S.par n (List.of_mem_zip hy).1 with q | q
    · exact .inl q
    · exact .inr ⟨q, PySem.W.cellsFrom_some _ _ _ (.inl q)⟩
  refine codeAny_call_function hr.depth (KX _ _ lk) rfl S.co S.gen rfl (PySem.W.codeRec_of KX hcd) (hb _ _ _ _ ?_)
  refine wpAny_newFunctionEnv_cells S.kind hkind fun env he s1 x => ?_
  subst he
  refine ⟨lim.keeps x.toInCall.keep, codeAny_func ?_⟩
  obtain ⟨t, ht, hq⟩ := hbody A outer s H vs Q E (hr.deeper _) hsp
  have I : Inv (cxOf CX P w K mg base N qual scope f cdv A outer s H E) [] (start N vs) H s1 := inv_start S hr.hd e0 hl r x
  refine wpAny_mono (ht [] s1 (start N vs) H _ I hq) (fun fl s' hs => ?_) fun e s' hs => hs
  have fin : ∀ {σ' : St} {H' : Hp} {v : V} {u : Value}, Inv (cxOf CX P w K mg base N qual scope f cdv A outer s H E) [] σ' H' s' → RelV v u → Q v H' → CE outer P w H s Q u s' :=
    fun {σ' H' v u} J rv q => ⟨v, H', J.os, J.bare, J.base, J.hok, rv, q⟩
  cases fl with
  | ret u =>
    obtain ⟨v, σ', H', J, rv, q⟩ := hs
    exact fin J rv q
  | next =>
    obtain ⟨σ', H', J, q⟩ := hs
    exact fin (v := V.non) (u := Value.none) J rfl q
  | brk =>
    obtain ⟨_, _, _, q⟩ := hs
    exact False.elim q
  | cont =>
    obtain ⟨_, _, _, q⟩ := hs
    exact False.elim q
end L2

namespace L2
open PySem PySem.Spec PyProof.Rows
section
variable {X : Cx} {x : Str} {p pos : Pos} {e : Expr} {es : List Expr} {t : TA} {id T : String} {r : List V → Hp → VK → Prop}

def tCB (r : List V → Hp → VK → Prop) (t : TA) : TE := fun σ H Q => t σ H fun vs H1 => r vs H1 Q
/-- f(e, ..), f a built-in function -/
theorem pe_callB (hc : CallR X (.builtin id) r) (hg : Gl X x) (hm : X.mg x = none) (hv : bootBuiltins x = some (.builtin id)) (ha : PA X (e :: es) t) (hn : x ≠ "__name__" := by decide) (hdb : (x == ("__debug__" : Str)) = false := by decide)
    (he : starEach (e :: es) X.env = (false, eval e X.env) :: starEach es X.env := by rfl) (hpl : (backTo pos (starEach es X.env)).any (·.1) = false := by rfl) : PE X (.Call (.Name x p) (e :: es) [] pos) (tCB r t) := by
  intro pins s σ H Q I h
  refine wpAny_Call_Name_kw (ld_blt I hg hm hv ?_ hn hdb)
  exact PyProof.Rows.callWith_builtin1 (thn (ha pos pins s σ H _ I h) fun us s1 ⟨vs, H1, I1, r1, q1⟩ => hc pins s1 σ H1 vs us Q I1 r1 q1) he hpl
/-- T(e, ..), T a built-in type -/
theorem pe_callTy (hc : CallR X (.type T) r) (hg : Gl X x) (hm : X.mg x = none) (hv : bootBuiltins x = some (.type T)) (ha : PA X (e :: es) t) (hn : x ≠ "__name__" := by decide) (hdb : (x == ("__debug__" : Str)) = false := by decide)
    (he : starEach (e :: es) X.env = (false, eval e X.env) :: starEach es X.env := by rfl) (hpl : (backTo pos (starEach es X.env)).any (·.1) = false := by rfl) : PE X (.Call (.Name x p) (e :: es) [] pos) (tCB r t) := by
  intro pins s σ H Q I h
  refine wpAny_Call_Name_kw (ld_blt I hg hm hv ?_ hn hdb)
  exact PyProof.Rows.callWith_type1 (thn (ha pos pins s σ H _ I h) fun us s1 ⟨vs, H1, I1, r1, q1⟩ => hc pins s1 σ H1 vs us Q I1 r1 q1) he hpl
end
end L2

namespace HT
open PySem PyProof.Rows

/-- t < u of tuples of ints -/
def lexLt : List Int → List Int → Bool
  | [], [] => false
  | [], _ :: _ => true
  | _ :: _, [] => false
  | x :: xs, y :: ys => if x = y then lexLt xs ys else decide (x < y)


section
open PySem.SeqAt
open PySem.AutoSeq1 (wpAny_loadPart')
open PySem.MeetsSeq PySem.MeetsSeq2 PySem.MeetsSeq3

end

section
variable {prog : Program} {w : World} {A : Around} {E : Value → Shared → Prop} {s : Shared}



/-! ### t[a:b], not the whole -/
/-- a slice's bound as a place among n (d where it is left out) -/
def sIx (n d : Nat) : Option Int → Nat
  | none => d
  | some v => if v < 0 then (v + (n : Int)).toNat else min v.toNat n
theorem sIx_none (n d : Nat) : sIx n d none = d := rfl
theorem sIx_nat (n d k : Nat) : sIx n d (some (k : Int)) = min k n := by
  show (if (k : Int) < 0 then ((k : Int) + (n : Int)).toNat else min (k : Int).toNat n) = min k n
  rw [if_neg (by omega), Int.toNat_natCast]
theorem sIx_le (n d : Nat) (hd : d ≤ n) (o : Option Int) : sIx n d o ≤ n := by
  cases o with
  | none => exact hd
  | some v =>
    show (if v < 0 then (v + (n : Int)).toNat else min v.toNat n) ≤ n
    by_cases hv : v < 0
    · rw [if_pos hv]; omega
    · rw [if_neg hv]; exact Nat.min_le_right _ _
theorem clip_eq (v : Int) (n d : Nat) : (if v < 0 then max (v + (n : Int)) 0 else min v (n : Int)) = ((sIx n d (some v) : Nat) : Int) := by
  show (if v < 0 then max (v + (n : Int)) 0 else min v (n : Int)) = (((if v < 0 then (v + (n : Int)).toNat else min v.toNat n) : Nat) : Int)
  by_cases hv : v < 0
  · simp only [if_pos hv]; omega
  · simp only [if_neg hv]; omega
theorem adjust_gen (lo hi : Option Int) (n : Nat) : Builtin.Slice.sliceAdjust lo hi 1 (n : Int) = (((sIx n 0 lo : Nat) : Int), ((sIx n n hi : Nat) : Int)) := by
  have h1 : ¬ ((1 : Int) < 0) := by omega
  unfold Builtin.Slice.sliceAdjust
  simp only [h1, if_false]
  refine Prod.ext ?_ ?_
  · cases lo with
    | none => rfl
    | some v => exact clip_eq v n 0
  · cases hi with
    | none => rfl
    | some v => exact clip_eq v n n
theorem places_gen (i j : Nat) : Builtin.Slice.slicePlaces (i : Int) (j : Int) 1 = j - i := by
  unfold Builtin.Slice.slicePlaces
  have h1 : (1 : Int) > 0 := by omega
  simp only [h1, if_true, Int.ediv_one]
  split <;> omega
theorem slicePart_ {v : Value} {o : Option Int} {Q : Option Int → Shared → Prop} (p : IsPart v o) (h : Q o s) : wpAny (model prog w) A (Builtin.Slice.slicePartIndex v) Q E s := by
  cases p with
  | none => exact slicePart_none h
  | int i t => exact slicePart_int h
theorem sliceApplied_gen {sl : Addr} {vl vu : Value} {lo hi : Option Int} {n : Nat} {Q : Int × Int × Nat → Shared → Prop} (hs : s.heap.IsSliceOf sl vl vu .none) (pl : IsPart vl lo) (pu : IsPart vu hi)
    (h : Q (((sIx n 0 lo : Nat) : Int), 1, sIx n n hi - sIx n 0 lo) s) : wpAny (model prog w) A (Builtin.Slice.sliceApplied (.ref sl) (pure (n : Int))) Q E s := by
  obtain ⟨os, hos, hcs, hds⟩ := id hs
  unfold Builtin.Slice.sliceApplied Builtin.Slice.sliceFields
  refine wpAny_bind (wpAny_bind (wpAny_field hos hds (x := vl) rfl (wpAny_bind (wpAny_field hos hds (x := vu) rfl (wpAny_bind (wpAny_field hos hds (x := .none) rfl (wpAny_pure ?_)))))))
  refine wpAny_bind (slicePart_none ?_)
  show wpAny _ _ (if ((1 : Int) == 0) = true then _ else _) _ _ s
  rw [if_neg (by decide)]
  refine wpAny_bind (slicePart_ pl (wpAny_bind (slicePart_ pu (wpAny_bind (wpAny_pure ?_)))))
  show wpAny _ _ (match Builtin.Slice.sliceAdjust lo hi 1 (n : Int) with | (lo, hi) => pure (lo, (1 : Int), Builtin.Slice.slicePlaces lo hi 1)) _ _ s
  rw [adjust_gen lo hi n]
  show wpAny _ _ (pure (((sIx n 0 lo : Nat) : Int), (1 : Int), Builtin.Slice.slicePlaces ((sIx n 0 lo : Nat) : Int) ((sIx n n hi : Nat) : Int) 1)) _ _ s
  rw [places_gen]
  exact wpAny_pure h
theorem pick_gen (xs : Array Value) (i k : Nat) : ((List.range k).filterMap fun (m : Nat) => xs[((i : Int) + (m : Int) * 1).toNat]?).toArray = ((xs.toList.drop i).take k).toArray := by
  have e : (fun (m : Nat) => xs[((i : Int) + (m : Int) * 1).toNat]?) = fun m => xs[i + m]? := by
    funext m
    have : ((i : Int) + (m : Int) * 1).toNat = i + m := by omega
    rw [this]
  rw [e]
  have := pick_run xs i k
  rw [List.filterMap_map] at this
  have e2 : ((fun x => xs[x]?) ∘ fun x => i + x) = fun m => xs[i + m]? := rfl
  rw [e2] at this
  rw [this]

theorem getItem_tuple_cut {t sl : Addr} {items : Array Value} {vl vu : Value} {lo hi : Option Int} {Q : Value → Shared → Prop} (ht : IsTup s.heap t items) (hs : s.heap.IsSliceOf sl vl vu .none) (pl : IsPart vl lo) (pu : IsPart vu hi)
    (hw : ¬ (sIx items.size 0 lo = 0 ∧ sIx items.size items.size hi = items.size))
    (h : Q (.ref s.heap.objs.size) { s with heap := s.heap.push { cls := .type "tuple", data := .seq ((items.toList.drop (sIx items.size 0 lo)).take (sIx items.size items.size hi - sIx items.size 0 lo)).toArray } })
    (hsz : items.size ≤ sizeLine) : wpAny (model prog w) A (getItem (.ref t) (.ref sl)) Q E s := by
  have htake : sizeOk (.seq ((items.toList.drop (sIx items.size 0 lo)).take (sIx items.size items.size hi - sIx items.size 0 lo)).toArray) := by
    show ((items.toList.drop (sIx items.size 0 lo)).take (sIx items.size items.size hi - sIx items.size 0 lo)).toArray.size ≤ sizeLine
    rw [List.size_toArray, List.length_take, List.length_drop, Array.length_toList]
    omega
  have hj : sIx items.size items.size hi ≤ items.size := sIx_le _ _ (Nat.le_refl _) hi
  obtain ⟨os, hos, hcs, hds⟩ := id hs
  have hTs : s.TypeIs (.ref sl) "slice" := ⟨os, hos, hcs⟩
  unfold getItem
  try with_reducible refine wpAny_holding ?_
  first | refine wpAny_bind (wpAny_pure ?_) | skip
  refine wpAny_bind (wpAny_sequenceKey ht.typeIs (by decide) ?_)
  refine wpAny_bind (wpAny_callSpecial?_slot (name := Str.ofString "__getitem__") ht.typeIs PyProof.Rows.slot_tuple_getitem
    (wpAny_call_entry PyProof.Rows.slot_tuple_getitem ht.typeIs entry_tuple_getitem ?_ (args_tuple_getitem _ _)))
  show wpAny _ _ (Builtin.Tuple.tupleItemsOf (.ref t) >>= _) _ _ s
  refine wpAny_bind (tupleItemsOf_ ht ?_)
  refine wpAny_bind (wpAny_typeOf hTs ?_)
  rw [if_pos (by decide)]
  refine wpAny_bind (sliceApplied_gen hs pl pu ?_)
  have hno : ¬ ((((sIx items.size 0 lo : Nat) : Int) == 0 && (1 : Int) == 1 && (sIx items.size items.size hi - sIx items.size 0 lo) == items.size) = true) := by
    intro q
    rw [Bool.and_eq_true, Bool.and_eq_true] at q
    have q1 : ((sIx items.size 0 lo : Nat) : Int) = 0 := eq_of_beq q.1.1
    have q2 : sIx items.size items.size hi - sIx items.size 0 lo = items.size := eq_of_beq q.2
    exact hw ⟨by omega, by omega⟩
  show wpAny _ _ (if (((sIx items.size 0 lo : Nat) : Int) == 0 && (1 : Int) == 1 && (sIx items.size items.size hi - sIx items.size 0 lo) == items.size) = true then _ else _) _ _ s
  rw [if_neg hno, pick_gen]
  first
    | exact wpAny_bind (m := Builtin.Tuple.tupleExact _) (wpAny_newObj_type (wpAny_pure ⟨_, rfl, wpAny_pure h⟩) htake)
    | exact wpAny_bind (m := Builtin.Tuple.tupleExact _) (wpAny_newObj_type (wpAny_bind (wpAny_pure (wpAny_pure ⟨_, rfl, wpAny_pure h⟩))) htake)
    | exact wpAny_bind (wpAny_bind (m := Builtin.Tuple.tupleExact _) (wpAny_newObj_type (wpAny_pure (wpAny_pure ⟨_, rfl, wpAny_pure h⟩)) htake))
    | exact wpAny_bind (wpAny_bind (m := Builtin.Tuple.tupleExact _) (wpAny_newObj_type (wpAny_pure ⟨_, rfl, wpAny_pure h⟩) htake))
end
end HT

namespace L2
open PySem PySem.Spec PyProof.Rows

/-! ### the parts of a slice -/
abbrev TO := St → Hp → (Option Int → Hp → Prop) → Prop
/-- a slice's part (left out, or an int) -/
def PO (X : Cx) (e : Option Expr) (t : TO) : Prop :=
  ∀ (pins : List (Addr × Obj)) (s : Shared) (σ : St) (H : Hp) (Q : Option Int → Hp → Prop), Inv X pins σ H s → t σ H Q →
    wpAny (model X.prog X.w) X.A (evalPart e X.env) (fun u s' => ∃ o H', Inv X pins σ H' s' ∧ IsPart u o ∧ Q o H') X.xe s
def tNoPart : TO := fun _ H Q => Q none H
def tPart (t : TE) : TO := fun σ H Q => t σ H fun x H1 => ∃ i, x = .int i ∧ Q (some i) H1


section
variable {X : Cx} {e : Expr} {te : TE} {lo hi : Option Expr} {tl th : TO} {pos p2 : Pos}

theorem po_none : PO X none tNoPart := by
  intro pins s σ H Q I h
  rw [evalPart_none]
  exact wpAny_pure ⟨none, H, I, .none, h⟩
theorem po_some (h : PE X e te) : PO X (some e) (tPart te) := by
  intro pins s σ H Q I hw
  rw [evalPart_some]
  refine thn (h pins s σ H _ I hw) fun u s1 ⟨x, H1, I1, r1, q1⟩ => ?_
  obtain ⟨i, rfl, q⟩ := q1
  obtain ⟨t, rfl⟩ := r1
  exact ⟨some i, H1, I1, .int i t, q⟩

/-- what a slice of a value is, by values: the slice object stands at sl -/
def SlR (X : Cx) (r : V → Option Int → Option Int → Hp → VK → Prop) : Prop :=
  ∀ (pins : List (Addr × Obj)) (s : Shared) (σ : St) (H : Hp) (x : V) (v vl vu : Value) (lo hi : Option Int) (sl : Addr) (Q : VK), Inv X pins σ H s → RelV x v → s.heap.IsSliceOf sl vl vu .none → IsPart vl lo → IsPart vu hi → r x lo hi H Q →
    ∃ T id, typeLookup (.type T) "__getitem__" = pure (some (.builtin id)) ∧ s.TypeIs v T ∧ wpAny (model X.prog X.w) X.A (getItem v (.ref sl)) (EP X pins σ Q) X.xe s
theorem SlR.or {r r' : V → Option Int → Option Int → Hp → VK → Prop} (h : SlR X r) (h' : SlR X r') : SlR X (fun x lo hi H Q => r x lo hi H Q ∨ r' x lo hi H Q) := by
  intro pins s σ H x v vl vu lo hi sl Q I rx hs pl pu q
  rcases q with q | q
  · exact h pins s σ H x v vl vu lo hi sl Q I rx hs pl pu q
  · exact h' pins s σ H x v vl vu lo hi sl Q I rx hs pl pu q
def tSl (r : V → Option Int → Option Int → Hp → VK → Prop) (te : TE) (tl th : TO) : TE := fun σ H Q => te σ H fun x H1 => tl σ H1 fun l H2 => th σ H2 fun u H3 => r x l u H3 Q
/-- a[lo:hi], any a -/
theorem pe_slice {r : V → Option Int → Option Int → Hp → VK → Prop} (hr : SlR X r) (he : PE X e te) (hl : PO X lo tl) (hu : PO X hi th) : PE X (.Subscript e (.Slice lo hi none p2) pos) (tSl r te tl th) := by
  intro pins s σ H Q I h
  refine Subscript_ (thn (he pins s σ H _ I h) fun v s1 ⟨x, H1, I1, r1, q1⟩ => ?_)
  refine wpAny_Slice (thn (hl pins s1 σ H1 _ I1 q1) fun vl s2 ⟨l, H2, I2, pl, q2⟩ => thn (hu pins s2 σ H2 _ I2 q2) fun vu s3 ⟨u, H3, I3, pu, q3⟩ => ?_)
  rw [evalPart_none]
  refine wpAny_pure ?_
  have I4 : Inv X pins σ H3 { s3 with heap := s3.heap.push { cls := .type "slice", data := .fields #[vl, vu, .none] } } := I3.kept (t' := s3.toks) fun b ob q => Heap.get?_push_of_some _ q
  obtain ⟨T, id, hT, ht, hg⟩ := hr pins { s3 with heap := s3.heap.push { cls := .type "slice", data := .fields #[vl, vu, .none] } } σ H3 x v vl vu l u s3.heap.objs.size Q I4 r1 (Heap.IsSliceOf.new ..) pl pu q3
  show wpAny (model X.prog X.w) X.A (subscriptTail e (.Slice lo hi none p2) v (.ref s3.heap.objs.size)) (EP X pins σ Q) X.xe { s3 with heap := s3.heap.push { cls := .type "slice", data := .fields #[vl, vu, .none] } }
  exact tail_any (ops := [.ref s3.heap.objs.size, v]) ht hT hg (by with_unfolding_all rfl)

/-- the items of xs[lo:hi] -/
def cutV (xs : List V) (lo hi : Option Int) : List V := (xs.drop (HT.sIx xs.length 0 lo)).take (HT.sIx xs.length xs.length hi - HT.sIx xs.length 0 lo)
theorem cutV_length (xs : List V) (lo hi : Option Int) : (cutV xs lo hi).length ≤ xs.length := by
  unfold cutV
  rw [List.length_take, List.length_drop]
  omega
/-- t[lo:hi], not the whole of it (the whole would be t itself) -/
def rSlT (K : PySem.W.Frag) : V → Option Int → Option Int → Hp → VK → Prop := fun x lo hi H Q => ∃ a xs, x = .ref a ∧ SqT K H a xs ∧
  ¬ (HT.sIx xs.length 0 lo = 0 ∧ HT.sIx xs.length xs.length hi = xs.length) ∧ ∀ p, H p = none → Q (.ref p) (upd H p (.tup (cutV xs lo hi)))
theorem sl_tup : SlR X (rSlT X.K) := by
  intro pins s σ H x v vl vu lo hi sl Q I rx hs pl pu h
  obtain ⟨a, xs, rfl, hx, hw, q⟩ := h
  cases rx
  obtain ⟨its, r, ht, hz⟩ := I.tuple hx
  have hlen : its.toArray.size = xs.length := by rw [List.size_toArray]; exact r.length.symm
  refine ⟨"tuple", _, PyProof.Rows.slot_tuple_getitem.lookup, ht.typeIs, ?_⟩
  refine HT.getItem_tuple_cut ht hs pl pu (by rw [hlen]; exact hw) ?_ (by rw [hlen]; exact hz)
  rw [hlen]
  refine ⟨.ref s.heap.objs.size, _, I.laid (t' := s.toks) (o := .tup (cutV xs lo hi)) (fun b ob q => Heap.get?_push_of_some _ q) (Nat.le_refl _) ?_, rfl, q _ (I.hok.fresh (Nat.le_refl _))⟩
  exact ⟨Nat.le_trans (cutV_length xs lo hi) hz, _, (r.drop (HT.sIx xs.length 0 lo)).take (HT.sIx xs.length xs.length hi - HT.sIx xs.length 0 lo), IsTup.new _ _⟩

/-! ### t < u, t + u -/
def rLtT (K : PySem.W.Frag) : R2 := fun x y H Q => ∃ a b ns ms, x = .ref a ∧ y = .ref b ∧ SqT K H a (ns.map V.int) ∧ SqT K H b (ms.map V.int) ∧ Q (.bl (HT.lexLt ns ms)) H
/-- t + u, t not empty: u empty gives t itself -/
def rCatT (K : PySem.W.Frag) : R2 := fun x y H Q => ∃ a b xs ys, x = .ref a ∧ y = .ref b ∧ SqT K H a xs ∧ SqT K H b ys ∧ xs ≠ [] ∧ xs.length + ys.length ≤ sizeLine ∧
  (ys = [] → Q (.ref a) H) ∧ (ys ≠ [] → ∀ p, H p = none → Q (.ref p) (upd H p (.tup (xs ++ ys))))
end
end L2

namespace L2
open PySem PySem.Spec PyProof.Rows

/-! ### places -/
/-- the place that an index of any sign means -/
def ixN (n : Nat) (i : Int) : Option Nat := if 0 ≤ i then (if i < n then some i.toNat else none) else if -(n : Int) ≤ i then some (i + n).toNat else none
def atI {α : Type} (xs : List α) (i : Int) : Option α := (ixN xs.length i).bind fun j => xs[j]?
theorem ixN_seq {n : Nat} {i : Int} {j : Nat} (h : ixN n i = some j) : seqIndex? i n = some j ∧ j < n ∧ -(n : Int) ≤ i ∧ i < n := by
  unfold ixN at h
  by_cases h0 : 0 ≤ i
  · rw [if_pos h0] at h
    by_cases h1 : i < n
    · rw [if_pos h1] at h
      have e : i.toNat = j := Option.some.inj h
      exact ⟨by rw [seqIndex_of h0 h1, e], by omega, by omega, h1⟩
    · rw [if_neg h1] at h; cases h
  · rw [if_neg h0] at h
    by_cases h1 : -(n : Int) ≤ i
    · rw [if_pos h1] at h
      have e : (i + n).toNat = j := Option.some.inj h
      exact ⟨by rw [seqIndex_neg (by omega) h1, e], by omega, h1, by omega⟩
    · rw [if_neg h1] at h; cases h
theorem atI_get {α : Type} {xs : List α} {i : Int} {v : α} (h : atI xs i = some v) : ∃ j, seqIndex? i xs.length = some j ∧ xs[j]? = some v ∧ j < xs.length ∧ -(xs.length : Int) ≤ i ∧ i < xs.length := by
  unfold atI at h
  cases e : ixN xs.length i with
  | none => rw [e] at h; cases h
  | some j =>
    rw [e] at h
    obtain ⟨h1, h2, h3, h4⟩ := ixN_seq e
    exact ⟨j, h1, h, h2, h3, h4⟩
theorem atI_nat {α : Type} {xs : List α} {j : Nat} {v : α} (h : xs[j]? = some v) : atI xs (j : Int) = some v := by
  have hj : j < xs.length := (List.getElem?_eq_some_iff.mp h).1
  have e : ixN xs.length (j : Int) = some j := by
    unfold ixN
    rw [if_pos (by omega), if_pos (by omega)]; simp
  unfold atI; rw [e]; exact h

/-! ### what may be subscripted -/
/-- what stands as an index of a plain subscript -/
def PlainIx (b : Expr) : Prop := ∀ o i, subscripted b false o i = operate [o, i] (getItem o i)
/-- a subscript by values -/
def IxR (X : Cx) (r : R2) : Prop :=
  ∀ (value slice : Expr) (pins : List (Addr × Obj)) (s : Shared) (σ : St) (H : Hp) (x y : V) (v u : Value) (Q : VK), Inv X pins σ H s → RelV x v → RelV y u → r x y H Q →
    subscripted slice false v u = operate [v, u] (getItem v u) → wpAny (model X.prog X.w) X.A (subscriptTail value slice v u) (EP X pins σ Q) X.xe s
/-- a call of a builtin's method by values: the receiver, the arguments -/
def MtR (X : Cx) (id : String) (r : V → List V → Hp → VK → Prop) : Prop :=
  ∀ (pins : List (Addr × Obj)) (s : Shared) (σ : St) (H : Hp) (x : V) (xs : List V) (v : Value) (us : List Value) (Q : VK), Inv X pins σ H s → RelV x v → Vals xs us → r x xs H Q →
    wpAny (model X.prog X.w) X.A (call (.builtin id) (v :: us)) (EP X pins σ Q) X.xe s
section
variable {X : Cx} {a b : Expr} {ta tb : TE} {pos : Pos}
/-- a[b] -/
theorem pe_ix {r : R2} (hr : IxR X r) (ha : PE X a ta) (hb : PE X b tb) (hs : PlainIx b) : PE X (.Subscript a b pos) (tOp r ta tb) := by
  intro pins s σ H Q I h
  exact Subscript_ (binT ha hb I h fun v u s2 x y H2 I2 rx ry q => hr a b pins s2 σ H2 x y v u Q I2 rx ry q (hs _ _))

def rIxL (K : PySem.W.Frag) : R2 := fun x y H Q => ∃ p xs i v, x = .ref p ∧ y = .int i ∧ SqL K H p xs ∧ atI xs i = some v ∧ Q v H
def rIxT (K : PySem.W.Frag) : R2 := fun x y H Q => ∃ p xs i v, x = .ref p ∧ y = .int i ∧ SqT K H p xs ∧ atI xs i = some v ∧ Q v H
def rIxS : R2 := fun x y H Q => ∃ z i c, x = .str z ∧ y = .int i ∧ z.length ≤ sizeLine ∧ atI z.cps.toList i = some c ∧ Q (.str ⟨#[c]⟩) H
theorem ix_list : IxR X (rIxL X.K) := by
  intro value slice pins s σ H x y v u Q I rx ry h hs
  obtain ⟨p, xs, i, z, rfl, rfl, hq, he, q⟩ := h
  cases rx
  obtain ⟨t, rfl⟩ := ry
  obtain ⟨its, r, pl, hz⟩ := I.list hq
  obtain ⟨j, h1, h2, h3, h4, h5⟩ := atI_get he
  obtain ⟨w, ew, rw'⟩ := r.get h2
  have hl := r.length
  have hn := line63
  have fin : EP X pins σ Q w s := ⟨z, H, I, rw', q⟩
  by_cases h0 : 0 ≤ i
  · have hj : i.toNat = j := by
      rw [seqIndex_of h0 h5] at h1
      exact Option.some.inj h1
    exact item_listR pl.isList h0 (by omega) (by rw [hj]; simpa using ew) fin hs
  · have hj : (i + (its.toArray.size : Int)).toNat = j := by
      rw [seqIndex_neg (by omega) h4] at h1
      rw [List.size_toArray, ← hl]
      exact Option.some.inj h1
    exact subscriptTail_builtinR (x := w) pl.isList.typeIs slot_list_getitem.lookup
      (wpAny_getItem_list_neg (Q := fun r s' => r = w ∧ EP X pins σ Q r s') pl.isList (by omega) (by rw [List.size_toArray] <;> omega) (by omega) (by rw [hj]; simpa using ew) ⟨rfl, fin⟩) hs
theorem ix_tup : IxR X (rIxT X.K) := by
  intro value slice pins s σ H x y v u Q I rx ry h hs
  obtain ⟨p, xs, i, z, rfl, rfl, hq, he, q⟩ := h
  cases rx
  obtain ⟨t, rfl⟩ := ry
  obtain ⟨its, r, pl, hz⟩ := I.tuple hq
  obtain ⟨j, h1, h2, h3, h4, h5⟩ := atI_get he
  obtain ⟨w, ew, rw'⟩ := r.get h2
  have hl := r.length
  have hn := line63
  have fin : EP X pins σ Q w s := ⟨z, H, I, rw', q⟩
  exact subscriptTail_builtinR (x := w) pl.typeIs slot_tuple_getitem.lookup
    (getItem_tuple (j := j) (Q := fun r s' => r = w ∧ EP X pins σ Q r s') pl (by omega) (by omega) (by rw [List.size_toArray, ← hl]; exact h1) (by simpa using ew) ⟨rfl, fin⟩) hs
/-- list, tuple or str -/
def rIx (K : PySem.W.Frag) : R2 := fun x y H Q => rIxL K x y H Q ∨ rIxT K x y H Q ∨ rIxS x y H Q

/-! ### xs[i] = v, any sign -/
/-- the list's object behind a store -/
theorem mapSeq_set (its : List Value) (n j : Nat) (u : Value) : Obj.mapSeq (·.setIfInBounds j u) { cls := .type "list", data := .seq its.toArray n } = { cls := .type "list", data := .seq (its.set j u).toArray n } := by
  simp [Obj.mapSeq]
theorem Inv.lst {pins : List (Addr × Obj)} {σ : St} {H : Hp} {s : Shared} {p : Addr} {xs : List V} (I : Inv X pins σ H s) (h : H p = some (.lst xs)) :
    ∃ (its : List Value) (n : Nat), Vals xs its ∧ s.heap.get? p = some { cls := .type "list", data := .seq its.toArray n } ∧ xs.length ≤ sizeLine := by
  obtain ⟨z, its, n, r, e⟩ := I.hok p _ h
  exact ⟨its, n, r, e, z⟩
/-- the list at p is written by an update of its object -/
theorem Inv.lstUpd {pins : List (Addr × Obj)} {σ : St} {H : Hp} {s : Shared} {p : Addr} {xs ys : List V} {its its' : List Value} {n n' : Nat} {f : Obj → Obj} (I : Inv X pins σ H s) (h : H p = some (.lst xs))
    (ho : s.heap.get? p = some { cls := .type "list", data := .seq its.toArray n }) (hf : f { cls := .type "list", data := .seq its.toArray n } = { cls := .type "list", data := .seq its'.toArray n' }) (r : Vals ys its') (hz : ys.length ≤ sizeLine) (t : Nat) :
    Inv X pins σ (upd H p (.lst ys)) { s with heap := s.heap.update p f, toks := t } := by
  have e : (s.heap.update p f).get? p = some { cls := .type "list", data := .seq its'.toArray n' } := by
    rw [Heap.get?_update_self f ho (by rw [hf] <;> rfl), hf]
  refine I.write (x := p) (e := p) (by rw [h]; trivial) (.inl rfl) (fun b u hb q => (Heap.get?_update_other _ _ (Ne.symm hb)).trans q) ⟨_, e⟩ ?_
  exact ⟨hz, its', n', r, e⟩
def rSetL : V → V → V → Hp → (Hp → Prop) → Prop := fun o i v H Q => ∃ p xs k j, o = .ref p ∧ i = .int k ∧ H p = some (.lst xs) ∧ ixN xs.length k = some j ∧ Q (upd H p (.lst (xs.set j v)))
theorem set_list : PSet X rSetL := by
  intro pins s σ H o i v ov iv u Q I ro ri rv h
  obtain ⟨p, xs, k, j, rfl, rfl, hp, hj, q⟩ := h
  cases ro
  obtain ⟨t, rfl⟩ := ri
  obtain ⟨its, n, r, ho, hz⟩ := I.lst hp
  obtain ⟨h1, h2, h3, h4⟩ := ixN_seq hj
  have hl := r.length
  have hn := line63
  have I' : Inv X pins σ (upd H p (.lst (xs.set j v))) { s with heap := s.heap.update p (Obj.mapSeq (·.setIfInBounds j u)) } :=
    I.lstUpd hp ho (mapSeq_set its n j u) (r.set rv j) (by rw [List.length_set]; exact hz) s.toks
  by_cases h0 : 0 ≤ k
  · have hk : k.toNat = j := by
      rw [seqIndex_of h0 h4] at h1
      exact Option.some.inj h1
    exact PySem.W.ki_setAt ho h0 (by omega) (by rw [List.size_toArray, ← hl]; exact h4) (by rw [hk]; exact ⟨_, I', q⟩)
  · have hk : (k + (its.toArray.size : Int)).toNat = j := by
      rw [seqIndex_neg (by omega) h3] at h1
      rw [List.size_toArray, ← hl]
      exact Option.some.inj h1
    exact PySem.W.ki_setBack ho (by omega) (by rw [List.size_toArray, ← hl]; exact h3) (by omega) (by rw [hk]; exact ⟨_, I', q⟩)

/-! ### slices -/
theorem slice_bounds (lo hi : Option Int) (n : Nat) : (sliceBounds lo hi none n).1 = ((HT.sIx n 0 lo : Nat) : Int) ∧ (sliceBounds lo hi none n).2.1 = ((HT.sIx n n hi : Nat) : Int) ∧ (sliceBounds lo hi none n).2.2 = 1 := by
  refine ⟨?_, ?_, rfl⟩
  · cases lo with
    | none => simp [sliceBounds, HT.sIx]
    | some i =>
      simp only [sliceBounds, HT.sIx, Option.getD_none, show (1 : Int) > 0 by decide, if_true]
      by_cases h : i < 0
      · simp only [h, if_true] <;> omega
      · simp only [h, if_false] <;> omega
  · cases hi with
    | none => simp [sliceBounds, HT.sIx]
    | some i =>
      simp only [sliceBounds, HT.sIx, Option.getD_none, show (1 : Int) > 0 by decide, if_true]
      by_cases h : i < 0
      · simp only [h, if_true] <;> omega
      · simp only [h, if_false] <;> omega
theorem slicePick_cut (its : List Value) (lo hi : Option Int) : slicePick its.toArray lo hi none = ((its.drop (HT.sIx its.length 0 lo)).take (HT.sIx its.length its.length hi - HT.sIx its.length 0 lo)).toArray := by
  obtain ⟨h1, h2, h3⟩ := slice_bounds lo hi its.toArray.size
  unfold slicePick
  rw [h1, h2, h3]
  simp only [sliceRange_one, pick_run, List.size_toArray] <;> rfl
/-- xs[lo:hi] of a list: a new list -/
def rSlL (K : PySem.W.Frag) : V → Option Int → Option Int → Hp → VK → Prop := fun x lo hi H Q => ∃ a xs, x = .ref a ∧ SqL K H a xs ∧ ∀ p, H p = none → Q (.ref p) (upd H p (.lst (cutV xs lo hi)))
theorem sl_list : SlR X (rSlL X.K) := by
  intro pins s σ H x v vl vu lo hi sl Q I rx hs pl pu h
  obtain ⟨a, xs, rfl, hx, q⟩ := h
  cases rx
  obtain ⟨its, r, ht, hz⟩ := I.list hx
  have hlen := r.length
  refine ⟨"list", _, slot_list_getitem.lookup, ht.isList.typeIs, ?_⟩
  refine wpAny_getItem_list_slice ht.isList hs pl pu .none (by simp) ?_ (by rw [List.size_toArray] <;> omega)
  rw [slicePick_cut, ← hlen]
  refine ⟨.ref s.heap.objs.size, _, I.laid (t' := s.toks) (o := .lst (cutV xs lo hi)) (fun b ob q => Heap.get?_push_of_some _ q) (Nat.le_refl _) ?_, rfl, q _ (I.hok.fresh (Nat.le_refl _))⟩
  exact ⟨Nat.le_trans (cutV_length xs lo hi) hz, _, 0, (r.drop (HT.sIx xs.length 0 lo)).take (HT.sIx xs.length xs.length hi - HT.sIx xs.length 0 lo), Heap.get?_push_size _ rfl⟩

/-! ### in, not in: flat items -/
def flatV : V → Bool
  | .non => true
  | .bl _ => true
  | .int _ => true
  | .str _ => true
  | _ => false
/-- == of flat values -/
def eqV : V → V → Bool
  | .non, .non => true
  | .bl a, .bl b => a == b
  | .bl a, .int b => (if a then 1 else 0) == b
  | .int a, .bl b => a == (if b then 1 else 0)
  | .int a, .int b => a == b
  | .str a, .str b => a == b
  | _, _ => false
/-- the items' answers, read off the values (a value's own answer does not lean on its token) -/
def eqU (x : V) (u : Value) : Bool := match u with
  | .none => eqV .non x
  | .bool b => eqV (.bl b) x
  | .int i _ => eqV (.int i) x
  | .str z _ => eqV (.str z) x
  | _ => false
def inV (x : V) (xs : List V) : Bool := xs.any fun y => eqV y x
/-- x in a list or tuple of flat items -/
def rIn (K : PySem.W.Frag) (neg : Bool) : R2 := fun x y H Q => ∃ p xs, y = .ref p ∧ (SqL K H p xs ∨ SqT K H p xs) ∧ flatV x = true ∧ xs.all flatV = true ∧ Q (.bl (if neg then !inV x xs else inV x xs)) H

/-! ### len, list(x), tuple(x) of any list or tuple that is read -/
theorem call_len_seq : CallR X (.builtin "len") (fun xs H Q => ∃ p ys, xs = [.ref p] ∧ (SqL X.K H p ys ∨ SqT X.K H p ys) ∧ Q (.int ys.length) H) := by
  intro pins s σ H xs us Q I r h
  obtain ⟨p, ys, rfl, hq, q⟩ := h
  obtain ⟨u, rfl, rx⟩ := vals1 r
  cases rx
  have hn := line63
  rcases hq with hq | hq
  · obtain ⟨its, r', pl, hz⟩ := I.list hq
    have hlen := r'.length
    exact Calls.call_len_list pl.isList (by simp only [List.size_toArray] <;> omega) ⟨.int ys.length, H, I.tok _, ⟨s.toks + 1, by rw [List.size_toArray, hlen]⟩, q⟩
  · obtain ⟨its, r', pl, hz⟩ := I.tuple hq
    have hlen := r'.length
    exact len_tuple pl (by simp only [List.size_toArray] <;> omega) ⟨.int ys.length, H, I.tok _, ⟨s.toks + 1, by rw [List.size_toArray, hlen]⟩, q⟩
theorem call_tuple_of : CallR X (.type "tuple") (fun xs H Q => ∃ p ys, xs = [.ref p] ∧ ((SqL X.K H p ys ∧ ∀ l, H l = none → Q (.ref l) (upd H l (.tup ys))) ∨ (SqT X.K H p ys ∧ Q (.ref p) H))) := by
  intro pins s σ H xs us Q I r h
  obtain ⟨p, ys, rfl, h⟩ := h
  obtain ⟨u, rfl, rx⟩ := vals1 r
  cases rx
  rcases h with ⟨hq, q⟩ | ⟨hq, q⟩
  · obtain ⟨its, r', pl, hz⟩ := I.list hq
    have hlen := r'.length
    refine call_tuple_list pl.isList (fun h' kp => ?_) (by simp only [List.size_toArray] <;> omega)
    have I1 : Inv X pins σ H { s with heap := h' } := I.kept (t' := s.toks) kp
    have I2 : Inv X pins σ (upd H h'.objs.size (.tup ys)) { s with heap := h'.push { cls := .type "tuple", data := .seq its.toArray } } :=
      I1.laid (t' := s.toks) (fun b o e => Heap.get?_push_of_some _ e) (Nat.le_refl _) (show ObjOk X.prog X.w _ _ _ (.tup ys) from ⟨hz, its, r', IsTup.new _ _⟩)
    exact ⟨.ref h'.objs.size, _, I2, rfl, q _ (I1.hok.fresh (Nat.le_refl _))⟩
  · obtain ⟨its, r', pl, hz⟩ := I.tuple hq
    exact call_tuple_same pl ⟨.ref p, H, I, rfl, q⟩

/-! ### the call of a builtin's method: o.m(..) -/
/-- the value is of that builtin type -/
def tyV (K : PySem.W.Frag) (T : String) (x : V) (H : Hp) : Prop := match x with
  | .str _ => T = "str"
  | .int _ => T = "int"
  | .ref p => (T = "list" ∧ ∃ xs, SqL K H p xs) ∨ (T = "tuple" ∧ ∃ o, K.lookup p = some o ∧ o.cls = .type "tuple" ∧ o.dict = none) ∨
      (T = "dict" ∧ ((∃ kvs, H p = some (.dK kvs)) ∨ ∃ kvs, H p = some (.dT kvs))) ∨ (T = "set" ∧ ∃ S n, H p = some (.set S n))
  | _ => False
theorem tyV_is {pins : List (Addr × Obj)} {σ : St} {H : Hp} {s : Shared} {T : String} {x : V} {v : Value} (I : Inv X pins σ H s) (r : RelV x v) (ty : tyV X.K T x H) :
    s.TypeIs v T ∧ ∀ a, v = .ref a → ∃ ob, s.heap.get? a = some ob ∧ ob.dict = none := by
  cases x with
  | str z =>
    obtain ⟨t, rfl⟩ := r
    cases (show T = "str" from ty)
    exact ⟨typeIs_str s z t, fun _ e => nomatch e⟩
  | int i =>
    obtain ⟨t, rfl⟩ := r
    cases (show T = "int" from ty)
    exact ⟨typeIs_int s i t, fun _ e => nomatch e⟩
  | ref p =>
    cases r
    rcases ty with ⟨rfl, xs, hq⟩ | ⟨rfl, o, hk, hc, hd⟩ | ⟨rfl, hk⟩ | ⟨rfl, S, n, hk⟩
    · obtain ⟨its, _, pl, _⟩ := I.list hq
      refine ⟨pl.isList.typeIs, fun a e => ?_⟩
      cases e
      obtain ⟨o, n, e, c, hd, _⟩ := pl
      exact ⟨o, e, hd⟩
    · refine ⟨⟨o, I.kIn p o hk, hc⟩, fun a e => ?_⟩
      cases e
      exact ⟨o, I.kIn _ o hk, hd⟩
    · have z : ∃ o, s.heap.get? p = some o ∧ o.ExactDict := by
        rcases hk with ⟨kvs, hk⟩ | ⟨kvs, hk⟩
        · obtain ⟨_, _, _, _, o, _, _, e, ex, _⟩ := I.hok p _ hk
          exact ⟨o, e, ex⟩
        · obtain ⟨_, _, _, _, o, _, _, e, ex, _⟩ := I.hok p _ hk
          exact ⟨o, e, ex⟩
      obtain ⟨o, e, ex⟩ := z
      refine ⟨⟨o, e, ex.1⟩, fun a e2 => ?_⟩
      cases e2
      exact ⟨o, e, ex.2.1⟩
    · obtain ⟨o, _, _, _, e, ex, _⟩ := I.hok p _ hk
      refine ⟨⟨o, e, ex.1⟩, fun a e2 => ?_⟩
      cases e2
      exact ⟨o, e, ex.2.1⟩
  | _ => exact False.elim ty
def tBM0 (K : PySem.W.Frag) (T : String) (r : V → List V → Hp → VK → Prop) (to : TE) : TE := fun σ H Q => to σ H fun x H1 => tyV K T x H1 ∧ r x [] H1 Q
def tBM (K : PySem.W.Frag) (T : String) (r : V → List V → Hp → VK → Prop) (to : TE) (t : TA) : TE := fun σ H Q => to σ H fun x H1 => tyV K T x H1 ∧ t σ H1 fun xs H2 => r x xs H2 Q
variable {o e : Expr} {es : List Expr} {to : TE} {t : TA} {name : Str} {apos cpos : Pos} {T id : String} {r : V → List V → Hp → VK → Prop}
theorem pe_bm (pa : PlainAttrs T) (slot : Slot T name id) (hty : typeOf (.builtin id) = pure (.type "method_descriptor")) (hm : MtR X id r) (ho : PE X o to) (ha : PA X (e :: es) t)
    (hbase : attributeBase o name X.env (eval o X.env) = eval o X.env := by rfl)
    (hfew : ((backTo cpos (starEach (e :: es) X.env)).all (fun x => !x.1) && (backToKw cpos (keywordEach [] X.env)).all (fun x => x.1.isSome)
      && decide ((e :: es).length + ([] : List Keyword).length + (if ([] : List Keyword).isEmpty then 0 else 1) < 30)) = true := by rfl)
    (hline : (apos.endLine == cpos.line) = true := by rfl) (hs : starEach (e :: es) X.env = (false, eval e X.env) :: starEach es X.env := by rfl) (hplain : (backTo cpos (starEach es X.env)).any (·.1) = false := by rfl) :
    PE X (.Call (.Attribute o name apos) (e :: es) [] cpos) (tBM X.K T r to t) := by
  intro pins s σ H Q I h
  refine wpAny_Call_method_late hbase hfew hline rfl (thn (ho pins s σ H _ I h) fun v s1 ⟨x, H1, I1, r1, ty, q1⟩ => ?_)
  obtain ⟨h1, h2⟩ := tyV_is I1 r1 ty
  refine ⟨T, id, pa, slot, hty, h1, h2, ?_⟩
  have hA := ha cpos pins s1 σ H1 _ I1 q1
  rw [hs] at hA ⊢
  refine Calls.callWith_builtin (by show (false || (backTo cpos (starEach es X.env)).any (·.1)) = false; rw [hplain] <;> rfl) (Calls.evalArgs_plain ?_)
  exact thn hA fun us s2 ⟨vs, H2, I2, r2, q2⟩ => hm pins s2 σ H2 x vs v us Q I2 r1 r2 q2
/- xs.append(e), list.index on a module's tuple .. are MtR facts of 06m -/
end
end L2

namespace L2
open PySem PySem.Spec PyProof.Rows

def MtM (X : Cx) (id : String) (r : V → List V → Hp → VK → Prop) : Prop :=
  ∀ (pins : List (Addr × Obj)) (s : Shared) (σ : St) (H : Hp) (x : V) (xs : List V) (v : Value) (us : List Value) (Q : VK), Inv X pins σ H s → RelV x v → Vals xs us → r x xs H Q →
    wpAny (model X.prog X.w) X.A (call (.builtin id) (v :: us)) (EP X pins σ Q) X.xe s

/-! ### lists of values -/
theorem Vals.one : ∀ {x : V} {us : List Value}, Vals [x] us → ∃ u, us = [u] ∧ RelV x u
  | _, _, .cons r .nil => ⟨_, rfl, r⟩

section
variable {X : Cx} {pins : List (Addr × Obj)} {σ : St} {H : Hp} {s : Shared} {l b : Addr} {xs ys zs : List V}

/-! ### the two steps: a tracked list is rewritten, a new list is laid -/
theorem Inv.lset {its its' : List Value} {n : Nat} {f : Array Value → Array Value} {t' : Nat} (I : Inv X pins σ H s) (hH : H l = some (.lst xs))
    (e : s.heap.get? l = some { cls := .type "list", data := .seq its.toArray n }) (hf : f its.toArray = its'.toArray) (hv : Vals ys its') (hz : ys.length ≤ sizeLine) :
    Inv X pins σ (upd H l (.lst ys)) { s with heap := s.heap.update l (Obj.mapSeq f), toks := t' } := by
  have q := PySem.IsL.update e f
  rw [hf] at q
  refine I.write (x := l) (e := l) (by rw [hH]; exact trivial) (.inl rfl) (fun b' u hb hu => (Heap.get?_update_other s.heap (Obj.mapSeq f) (Ne.symm hb)).trans hu) ⟨_, q⟩ ?_
  exact ⟨hz, its', _, hv, q⟩
theorem Inv.lnew {its : List Value} {t' : Nat} (I : Inv X pins σ H s) (hv : Vals ys its) (hz : ys.length ≤ sizeLine) :
    Inv X pins σ (upd H s.heap.objs.size (.lst ys)) { s with heap := s.heap.push { cls := .type "list", data := .seq its.toArray }, toks := t' } :=
  I.laid (fun _ _ q => Heap.get?_push_of_some _ q) (Nat.le_refl _) ⟨hz, its, 0, hv, Heap.get?_push_size _ rfl⟩
theorem Inv.fresh (I : Inv X pins σ H s) : H s.heap.objs.size = none := I.hok.fresh (Nat.le_refl _)
theorem Inv.lstM (I : Inv X pins σ H s) (hH : H l = some (.lst xs)) : xs.length ≤ sizeLine ∧ ∃ (its : List Value) (n : Nat), Vals xs its ∧ xs.length = its.length ∧ s.heap.get? l = some { cls := .type "list", data := .seq its.toArray n } := by
  obtain ⟨z, its, n, r, e⟩ := I.hok l _ hH
  exact ⟨z, its, n, r, r.length, e⟩

end

section
variable {X : Cx}

/-! ### methods -/
def rAppend : V → List V → Hp → VK → Prop := fun x vs H Q => ∃ l xs y, x = .ref l ∧ vs = [y] ∧ H l = some (.lst xs) ∧ xs.length < sizeLine ∧ Q .non (upd H l (.lst (xs ++ [y])))
theorem mt_append : MtM X "list.append" rAppend := by
  intro pins s σ H x vs v us Q I rx rv h
  obtain ⟨l, xs, y, rfl, rfl, hH, hz, q⟩ := h
  cases rx
  obtain ⟨u, rfl, ru⟩ := rv.one
  obtain ⟨z, its, n, r, hl, e⟩ := I.lstM hH
  refine call_meets F.slot_list_append ⟨_, e, rfl⟩ F.entry_list_append (F.args_list_append_2 _ _) (PySem.list_append l its.toArray n u (by rw [List.size_toArray]; omega)) ⟨e, ?_⟩
  refine ⟨.non, _, I.lset (its' := its ++ [u]) hH e (by simp) (r.append (.cons ru .nil)) ?_, rfl, q⟩
  rw [List.length_append, List.length_singleton]
  omega

def rExtend : V → List V → Hp → VK → Prop := fun x vs H Q => ∃ l b xs zs, x = .ref l ∧ vs = [.ref b] ∧ H l = some (.lst xs) ∧ H b = some (.lst zs) ∧ xs.length + zs.length ≤ sizeLine ∧ Q .non (upd H l (.lst (xs ++ zs)))

def rPop : V → List V → Hp → VK → Prop := fun x vs H Q => ∃ l xs y, x = .ref l ∧ vs = [] ∧ H l = some (.lst xs) ∧ xs[xs.length - 1]? = some y ∧ Q y (upd H l (.lst xs.dropLast))

def rPopAt : V → List V → Hp → VK → Prop := fun x vs H Q => ∃ l xs i k y, x = .ref l ∧ vs = [.int i] ∧ H l = some (.lst xs) ∧ -(2 ^ 63) ≤ i ∧ i < 2 ^ 63 ∧ seqIndex? i xs.length = some k ∧ xs[k]? = some y ∧ Q y (upd H l (.lst (xs.eraseIdx k)))

def rReverse : V → List V → Hp → VK → Prop := fun x vs H Q => ∃ l xs, x = .ref l ∧ vs = [] ∧ H l = some (.lst xs) ∧ Q .non (upd H l (.lst xs.reverse))

def rClear : V → List V → Hp → VK → Prop := fun x vs H Q => ∃ l xs, x = .ref l ∧ vs = [] ∧ H l = some (.lst xs) ∧ Q .non (upd H l (.lst []))

/-! ### list + list, list += list, list * int -/
def rCat : R2 := fun x y H Q => ∃ l b xs zs, x = .ref l ∧ y = .ref b ∧ H l = some (.lst xs) ∧ H b = some (.lst zs) ∧ xs.length + zs.length ≤ sizeLine ∧ ∀ p, H p = none → Q (.ref p) (upd H p (.lst (xs ++ zs)))
theorem op_cat : OpR X (binaryOp .Add) rCat := by
  intro pins s σ H x y v u Q I rx ry h
  obtain ⟨l, b, xs, zs, rfl, rfl, hH, hB, hz, q⟩ := h
  cases rx
  cases ry
  obtain ⟨z, its, n, r, hl, e⟩ := I.lstM hH
  obtain ⟨z2, its2, n2, r2, hl2, e2⟩ := I.lstM hB
  refine PySem.P.add_list e e2 ?_ (by rw [List.size_toArray, List.size_toArray]; omega)
  have ea : its.toArray ++ its2.toArray = (its ++ its2).toArray := by simp
  rw [ea]
  exact ⟨.ref _, _, I.lnew (t' := s.toks) (r.append r2) (by rw [List.length_append]; omega), rfl, q _ I.fresh⟩
/-- a list times an int (a negative one is nothing) -/
def rRep : R2 := fun x y H Q => ∃ l k xs, x = .ref l ∧ y = .int k ∧ H l = some (.lst xs) ∧ -(2 ^ 63) ≤ k ∧ k < 2 ^ 63 ∧ xs.length * k.toNat ≤ sizeLine ∧
  ∀ p, H p = none → Q (.ref p) (upd H p (.lst (List.replicate k.toNat xs).flatten))

/-! ### del xs[i] -/
end

/-! ### xs[a:b] = ys -/
section
variable {prog : Program} {w : World} {A : Around} {E : Value → Shared → Prop} {s : Shared}
end

section
variable {X : Cx}
end
end L2

namespace Att
open PySem PySem.W PySem.Calls PyProof.Rows

/-! ### the script -/
theorem ints_of_wellAll {P : Params} {h : Heap} : ∀ (ns : List Int) (vs : List Value), WellAll P h vs (ns.map WData.int) → IntsAre vs ns := by
  intro ns
  induction ns with
  | nil =>
    intro vs w
    rw [List.map_nil] at w
    cases w
    exact .nil
  | cons n ns ih =>
    intro vs w
    rw [List.map_cons] at w
    cases w with
    | cons a b =>
      cases a
      exact .cons _ _ (ih _ b)

theorem script_of {l : OpenLaw} {n : Nat} (hn : l.most = some n) {P : Params} {h : Heap} {args : List WData} {vals : List Value}
    (hpre : l.row.toRowW.claim.pre args = true) (hwl : WellAll P h vals args) :
    ∃ a vs ns, vals = [Value.ref a] ∧ args = [WData.list (ns.map WData.int)] ∧ h.get? a = some { cls := .type "list", data := .seq vs.toArray } ∧ IntsAre vs ns ∧ ns.length ≤ n := by
  have hsh : WShape.hasAll [] args [.list .int] = true := (pre_splitW hpre).1
  have hc : l.pre.holds [] { args := args } = true := (pre_splitW hpre).2
  obtain ⟨d, r, rfl, h1, h2⟩ := hasAllW_cons hsh
  obtain rfl := hasAllW_nil h2
  obtain ⟨xs, rfl, h3⟩ := hasW_list h1
  obtain ⟨ns, rfl⟩ := items_int h3
  have hlen : ns.length ≤ n := by
    unfold OpenLaw.pre at hc
    have h4 : (WTm.not (.lt (.lit (.int (n : Int))) (.len (.arg 0)))).holds [] { args := [.list (ns.map .int)] } = true := by
      have h4 := (holds_andW hc).1
      rw [hn] at h4
      exact h4
    have h5 := condW_of h4 (w_not (w_lt w_lit (w_len_list (w_arg rfl))))
    rw [List.length_map] at h5
    refine Nat.le_of_not_lt fun q => ?_
    have q' : (n : Int) < ((ns.length : Nat) : Int) := by omega
    first
      | (rw [decide_eq_true q'] at h5; exact absurd h5 (by decide))
      | (simp at h5; omega)
  cases hwl with
  | cons w1 w2 =>
    cases w2
    cases w1 with
    | list ho hall => exact ⟨_, _, ns, rfl, rfl, ho, ints_of_wellAll ns _ hall, hlen⟩

theorem post_true (l : OpenLaw) (args : List WData) : l.row.toRowW.claim.post args (.bool true) args = true :=
  postW_of (r := l.row.toRowW) (X := (true == true))
    (show WShape.has [] (.bool true) .bool = true by first | rfl | decide | simp [WShape.has, WShape.arms, WShape.armsAll])
    (show (WTm.eq .res (.lit (.bool true))).value [] { args := args, res := some (.bool true), after := args } = some (.bool (true == true)) from w_eq_bool (w_res rfl) w_lit) rfl

/-! ### the attachment: holds_open's last premise (the goal 'hc' behind k_head) from a wpAny of the law's body -/

/-- the same from a codeAny of the CALL (for a layer whose function contracts speak of calls) -/
theorem attach_call {l : OpenLaw} {n : Nat} {q : Program} {loose : List Str} {XP : (Str → Option Value) → Heap → Prop} {YP : World → Heap → Prop} {d : DefRec}
    (hn : l.most = some n) (hdf : d.params.defaults = [])
    (call : ∀ (w : World) (s₀ s₁ : Shared) (mg mb : Str → Option Value) (fa : Addr) (o : Obj) (pm cd doc : Value) (a : Addr) (vs : List Value) (ns : List Int),
      Ground q loose [] XP w s₀ mg mb s₁.heap → YP w s₁.heap →
      s₁.heap.get? fa = some o → o.data = .func (docDef d.name d.params d.body d.scope pm cd doc) → s₁.heap.CodeRec cd d.name → mg d.name = some (.ref fa) →
      s₁.heap.get? a = some { cls := .type "list", data := .seq vs.toArray } → IntsAre vs ns → ns.length ≤ n → s₁.gens = #[] →
      codeAny (model l.prog w) callerA (.call (.ref fa) ⟨[.ref a], []⟩) (fun r s' => r = .ok (.ret (.bool true)) ∧ OldK s₁.heap s'.heap ∧ s'.os = s₁.os ∧ AllBare s'.gens) s₁) :
    WalkO q loose XP YP l.row.toRowW d [] (fun f vs => PySem.call f vs) := by
  intro w s₀ s₁ mg mb G Y fa o pm cd doc dV kV ho hd hcd hD hmg hg args vals as hpre hlay hrd hwl hlo
  obtain rfl : dV = .none := Dflts.none hD hdf
  obtain rfl : kV = .none := Dflts.noKw hD
  obtain ⟨a, vs, ns, rfl, rfl, hobj, hints, hlen⟩ := script_of hn hpre hwl
  refine enter_call (codeAny_mono (call w s₀ s₁ mg mb fa o pm cd doc a vs ns G Y ho (fd_plain hd) hcd hmg hobj hints hlen hg) fun r s' hq => ?_)
  obtain ⟨rfl, h2, h3, h4⟩ := hq
  exact ⟨.inl ⟨.bool true, .bool true, [], rfl, fun _ => rfl, .bool true, post_true l _, fun _ => ⟨List.Pairwise.nil, fun _ hm => (nomatch hm)⟩⟩, h2, h3, h4⟩


/-! ### rules over ANY heap (no ledger) from facts about the written part K: the library's own take a ledger (News) for what they write -/
section
variable {prog : Program} {w : World} {A : Around} {E : Value → Shared → Prop} {s : Shared} {K : Frag}





/-! the whole heap as the ledger: makes every rule that writes through a ledger a rule over any heap -/
def noObjs (h : Heap) : Heap := { h with objs := #[] }
def ledger (h : Heap) (L d : Addr) : List (Addr × Obj) := (List.range h.objs.size).filterMap fun a => if a = L ∨ a = d then none else (h.get? a).map fun o => (a, o)

end
end Att

namespace L2
open PySem PySem.Spec PyProof.Rows

theorem vals_ints : ∀ {vs : List Value} {ns : List Int}, IntsAre vs ns → Vals (ns.map V.int) vs
  | _, _, .nil => .nil
  | _, _, .cons n t h => .cons ⟨t, rfl⟩ (vals_ints h)

/-- nothing is tracked but the script, known to the object (or it is an object of the module) -/
def Only (H : Hp) : Prop := ∀ b, H b = none ∨ ∃ o xs, H b = some (.frz o (.lst xs))

/-- THE HEAD: the law's promise, at the heap behind the top. F, the promise of the law's def, may use that base is part of the heap (so K.In base, base.Ns mainGlobals mg stand in Mod) -/
theorem law_call {P : Program} {w : World} {K : PySem.W.Frag} {mg mb : Str → Option Value} {CX : CXT} {k : Nat} {fa a : Addr} {fd : FuncData} {x : Str} {sp : Sp} {s₁ : Shared} {vs : List Value} {ns : List Int}
    (KX : K.In s₁.heap) (hns : s₁.heap.Ns mainGlobals mg) (hb : s₁.heap.Ns builtinsNs mb) (hbb : ∀ x : Str, x ≠ "__name__" → mb x = bootBuiltins x) (hlim : s₁.heap.NoLimit) (hg : s₁.gens = #[])
    (ha : s₁.heap.get? a = some { cls := .type "list", data := .seq vs.toArray }) (hi : IntsAre vs ns) (hl : ns.length ≤ sizeLine) (hr : Room k callerA)
    (F : ∀ base : Heap, K.In base → base.Ns mainGlobals mg → FnOk P w K mg base CX k fa fd [x] sp) (hbind : ∀ (s : Shared) (u : Value), BindsTo s fd ⟨[u], []⟩ [(x, u)])
    (hsp : ∀ H : Hp, Only H → SqL K H a (ns.map V.int) → sp [.ref a] H (fun v _ => v = .bl true) fun _ _ _ => False)
    (hCX : ∀ H e s', CX [] H s₁ (fun _ _ _ => False) e s' → False) :
    codeAny (model P w) callerA (.call (.ref fa) ⟨[.ref a], []⟩) (fun r s' => r = .ok (.ret (.bool true)) ∧ OldK s₁.heap s'.heap ∧ s'.os = s₁.os ∧ AllBare s'.gens) s₁ := by
  have rv := vals_ints hi
  have lenV := hi.length
  -- from an abstract heap in which nothing but the script may be tracked
  have core : ∀ H : Hp, Only H → SqL K H a (ns.map V.int) → HOk P w H s₁.heap → (∀ b, H b ≠ none → b = a) → (H a ≠ none → K.lookup a = none) →
      codeAny (model P w) callerA (.call (.ref fa) ⟨[.ref a], []⟩) (fun r s' => r = .ok (.ret (.bool true)) ∧ OldK s₁.heap s'.heap ∧ s'.os = s₁.os ∧ AllBare s'.gens) s₁ := by
    intro H hO hS hok hA hK
    have base_of : ∀ {b : Addr} {o : Obj}, s₁.heap.get? b = some o → H b = none → (hidT s₁.heap H).get? b = some o := fun e n => hidT_get e n
    have noA : ∀ {b : Addr} {o : Obj} {es : Array DictEntry} {ep : Nat}, s₁.heap.get? b = some o → o.data = .dict es ep → H b = none := fun {b o es ep} e d => by
      cases q : H b with
      | none => rfl
      | some u =>
        have e' : b = a := hA b (by rw [q]; simp)
        subst e'
        rw [ha] at e; cases e
        have d' : Data.seq vs.toArray _ = Data.dict es ep := d
        cases d'
    have nsK : ∀ {b : Addr} {m : Str → Option Value}, s₁.heap.Ns b m → (hidT s₁.heap H).Ns b m := fun {b m} ⟨o, es, ep, e, d, r⟩ => ⟨o, es, ep, base_of e (noA e d), d, r⟩
    have hKb : K.In (hidT s₁.heap H) := fun b o e => base_of (KX b o e) (by
      cases q : H b with
      | none => rfl
      | some u =>
        have e' : b = a := hA b (by rw [q]; simp)
        subst e'
        rw [hK (by rw [q]; simp)] at e; cases e)
    have hM : Mod K mg (hidT s₁.heap H) := ⟨hKb, nsK hns, ⟨mb, nsK hb, hbb⟩, let ⟨mc, h1, h2⟩ := hlim; ⟨mc, nsK h1, h2⟩⟩
    have e0 : Env0 P w K mg (hidT s₁.heap H) callerA [] s₁ H := ⟨rfl, hM, fun b o e => of_hidT e, Nat.le_of_eq (hidT_size _ _), trivial, fun b hb => absurd (show b ∈ ([] : List Addr) from hb) (by simp), hok, .of_eq hg⟩
    refine codeAny_mono ((F _ hKb (nsK hns)).run callerA [] s₁ H ⟨[.ref a], []⟩ [.ref a] [.ref a] _ _ hr e0 (hbind s₁ (.ref a)) (.cons rfl .nil) (hsp H hO hS)) fun r s' h => ?_
    cases r with
    | error e => exact (hCX H e s' h).elim
    | ok fl =>
      cases fl with
      | next => exact False.elim h
      | brk => exact False.elim h
      | cont => exact False.elim h
      | ret u =>
        obtain ⟨v, H', os, bare, un, hok', r', q⟩ := h
        have q' : v = .bl true := q
        subst q'
        obtain rfl : u = Value.bool true := r'
        refine ⟨rfl, OldK.of_keep fun b o e => ?_, os, bare⟩
        cases q : H b with
        | none => exact un.keep b o e q (by intro z; exact absurd (show b ∈ ([] : List Addr) from z) (by simp)) (by simp)
        | some u =>
          rcases hO b with z | ⟨ob, xs, z⟩
          · rw [q] at z; cases z
          · have z2 := un.frzs b ob _ z
            obtain ⟨e1, _⟩ := hok b _ z
            obtain ⟨e2, _⟩ := hok' b _ z2
            rw [e] at e1; cases e1
            exact e2
  cases hk : K.lookup a with
  | some o =>
    -- the script is one of the module's own objects
    have e := KX a o hk
    rw [ha] at e
    cases e
    refine core (fun _ => none) (fun _ => .inl rfl) (.inr ⟨_, vs.toArray, _, hk, rfl, rfl, rfl, by rw [List.size_toArray, lenV]; exact hl, by simpa using rv⟩) (fun b u z => by have z' : (none : Option HO) = some u := z; cases z') (fun b z => absurd rfl z) fun z => absurd rfl z
  | none =>
    refine core (fun b => if b = a then some (.frz { cls := .type "list", data := .seq vs.toArray } (.lst (ns.map V.int))) else none) (fun b => ?_) (.inl (.inr ⟨{ cls := .type "list", data := .seq vs.toArray }, if_pos rfl⟩)) (fun b u z => ?_) (fun b z => ?_) fun _ => hk
    · by_cases hb : b = a
      · exact .inr ⟨_, _, if_pos hb⟩
      · exact .inl (if_neg hb)
    · by_cases hb : b = a
      · have z' := (if_pos hb).symm.trans z
        cases z'
        subst hb
        exact ⟨ha, by rw [List.length_map]; exact hl, vs, _, rv, ha⟩
      · have z' := (if_neg hb).symm.trans z
        cases z'
    · by_cases hb : b = a
      · exact hb
      · exact absurd (if_neg hb) z
end L2

namespace L2
open PySem PySem.Spec PyProof.Rows

abbrev KOf {K : PySem.W.Frag} {h : Heap} (_ : K.In h) : PySem.W.Frag := K

/-- the goal that k_head leaves (case hc), from the law's promise. F gives the function object fd (K's own) once, then the promise over every base -/
theorem walk_of {l : PySem.W.OpenLaw} {n k : Nat} {q : Program} {loose : List Str} {XP : (Str → Option Value) → Heap → Prop} {YP : World → Heap → Prop} {d : DefRec} {K : Params → PySem.W.Frag} {CX : World → CXT} {sp : World → Sp} {x : Str}
    (hn : l.most = some n) (hn2 : n ≤ sizeLine) (hdf : d.params.defaults = []) (hr : Room k callerA)
    (hY : ∀ (w : World) (h : Heap), YP w h → (K w.params).In h)
    (F : ∀ (w : World) (mg : Str → Option Value) (fa : Addr) (h : Heap), (K w.params).In h → h.Ns mainGlobals mg → mg d.name = some (.ref fa) →
      ∃ fd : FuncData, (∀ (s : Shared) (u : Value), BindsTo s fd ⟨[u], []⟩ [(x, u)]) ∧
        ∀ base : Heap, (K w.params).In base → base.Ns mainGlobals mg → FnOk l.prog w (K w.params) mg base (CX w) k fa fd [x] (sp w))
    (hsp : ∀ (w : World) (H : Hp) (a : Addr) (ns : List Int), ns.length ≤ n → Only H → SqL (K w.params) H a (ns.map V.int) → sp w [.ref a] H (fun v _ => v = .bl true) fun _ _ _ => False)
    (hCX : ∀ (w : World) (H : Hp) (s : Shared) (e : Value) (s' : Shared), CX w [] H s (fun _ _ _ => False) e s' → False) :
    PySem.W.WalkO q loose XP YP l.row.toRowW d [] (fun f vs => PySem.call f vs) := by
  refine Att.attach_call hn hdf fun w s₀ s₁ mg mb fa o pm cd doc a vs ns G Y ho hd hcd hmg hobj hints hlen hg => ?_
  have KX := hY w _ Y
  obtain ⟨fd, hb, hF⟩ := F w mg fa _ KX G.T.g hmg
  exact law_call KX G.T.g G.T.b G.T.builtins G.T.nolimit hg hobj hints (Nat.le_trans hlen hn2) hr hF hb (fun H hO hS => hsp w H a ns hlen hO hS) fun H e s' => hCX w H s₁ e s'
end L2



/-! SHORT WORDS over the layer: a def of the text, its body, what a loop and a test want. -/
namespace L2
open PySem PySem.Spec PyProof.Rows

/-! ### the text by places -/
/-- the j-th statement of a class's body -/
def inClass (s : Stmt) (j : Nat) : Stmt := match s with
  | .ClassDef _ _ _ body _ _ _ _ _ _ _ => body.getD j (.Pass ⟨0, 0, 0, 0⟩)
  | _ => .Pass ⟨0, 0, 0, 0⟩
def defArgs (s : Stmt) : Arguments := match s with
  | .FunctionDef _ a _ _ _ _ _ _ _ _ => a
  | _ => { posonlyargs := [], args := [], vararg := none, kwonlyargs := [], kw_defaults := [], kwarg := none, defaults := [] }
def defBody (s : Stmt) : List Stmt := match s with
  | .FunctionDef _ _ b _ _ _ _ _ _ _ => b
  | _ => []
def defScope (s : Stmt) : Scope := match s with
  | .FunctionDef _ _ _ _ _ _ sc _ _ _ => sc
  | _ => { kind := .function, names := [], isGenerator := false, isCoroutine := false }

/-! ### no exception leaves a def -/
abbrev CX0 : CXT := fun _ _ _ _ _ _ => False
abbrev E0 : XK := fun _ _ _ => False
theorem pass0 {X : Cx} : Passes CX0 X E0 := fun _ _ _ _ _ _ _ h => h.elim

/-! ### a def (or method) of the text as it stands behind the top -/
structure Fun (K : PySem.W.Frag) (x qual : Str) (st : Stmt) (f : Addr) (fd : FuncData) : Prop where
  ex : ∃ (oc : Value) (od : Option Addr) (kV doc pm : Value) (an : Option Addr) (cdv ct : Value) (osl : Array (Option Value)),
    fd = PySem.W.fnOf x qual (defArgs st) (defBody st) (defScope st) .none kV doc pm an cdv ct ∧ K.lookup f = some ⟨oc, od, .func fd, osl⟩ ∧ PySem.W.codeIn K cdv qual = true
  kp : PySem.W.keepIn K (.ref f) = true
section
variable {P : Program} {w : World} {K : PySem.W.Frag} {mg : Str → Option Value} {base : Heap}
/-- THE RULE for a def: its body as a term of rules, and the reading of that term -/
theorem Fun.ok {x qual : Str} {st : Stmt} {f : Addr} {fd : FuncData} {N ps : List Str} {k : Nat} {sp : Sp} (F : Fun K x qual st f fd) (S : FnScope N ps (defScope st)) (len : ∀ vs H Q E, sp vs H Q E → vs.length = ps.length)
    (hbody : ∀ (cdv : Value) (A : Around) (outer : List Env) (s : Shared) (H : Hp) (vs : List V) (Q : VK) (E : XK), Room k (A.deeper (envOfC qual (defScope st) s.heap.objs.size f cdv)) → sp vs H Q E →
      ∃ t, PSs (cxOf CX0 P w K mg base N qual (defScope st) f cdv A outer s H E).nox (defBody st) t ∧ t { nx := fun _ H' => Q .non H', rt := Q } (start N vs) H) : FnOk P w K mg base CX0 (k + 1) f fd ps sp := by
  obtain ⟨oc, od, kV, doc, pm, an, cdv, ct, osl, rfl, lk, hcd⟩ := F.ex
  refine fn_of lk hcd S len fun A outer s H vs Q E hr hsp => ?_
  obtain ⟨t, h, q⟩ := hbody cdv A outer s H vs Q E hr hsp
  exact ⟨t, h.nox, q⟩
/-- how its arguments bind (no defaults): h is «fun _ _ _ _ _ _ us hl => match us, hl with | [_, _], _ => rfl», one _ a parameter -/
theorem Fun.binds {x qual : Str} {st : Stmt} {f : Addr} {fd : FuncData} {ps : List Str} (F : Fun K x qual st f fd)
    (h : ∀ (kV doc pm : Value) (an : Option Addr) (cdv ct : Value) (us : List Value), us.length = ps.length → bindArgs (PySem.W.fnOf x qual (defArgs st) (defBody st) (defScope st) .none kV doc pm an cdv ct) ⟨us, []⟩ = pure (ps.zip us)) : Binds K fd ps [] := by
  obtain ⟨oc, od, kV, doc, pm, an, cdv, ct, osl, rfl, lk, hcd⟩ := F.ex
  exact .all (h kV doc pm an cdv ct)
theorem fun_mk {x qual : Str} {st : Stmt} {f : Addr} {oc : Value} {od an : Option Addr} {osl : Array (Option Value)} {kV doc pm cdv ct : Value} (l : K.lookup f = some ⟨oc, od, .func (PySem.W.fnOf x qual (defArgs st) (defBody st) (defScope st) .none kV doc pm an cdv ct), osl⟩)
    (c : PySem.W.codeIn K cdv qual = true) (k : PySem.W.keepIn K (.ref f) = true) : Fun K x qual st f (PySem.W.fnOf x qual (defArgs st) (defBody st) (defScope st) .none kV doc pm an cdv ct) := ⟨⟨oc, od, kV, doc, pm, an, cdv, ct, osl, rfl, l, c⟩, k⟩
end
theorem small1000 {n : Nat} (h : n ≤ 1000) : n < sizeLine := Nat.lt_of_le_of_lt h (by decide)

/-! ### expressions in short: the name that stands in the i-th slot -/
section
variable {X : Cx}
theorem pv (i : Nat) {x : Str} {pos : Pos} (hN : X.N[i]? = some x := by rfl) (hv : Vis X.env.scope x := by first | exact Or.inl rfl | exact Or.inr (Or.inl rfl) | exact Or.inr (Or.inr rfl)) (hd : (x == ("__debug__" : Str)) = false := by decide)
    (hcd : (x == ("__classdict__" : Str)) = false := by decide) : PE X (.Name x pos) (tVar i) := pe_var hN hv hd hcd
end

/-! ### tests -/
theorem iteF {A B : Prop} (h : B) : if false = true then A else B := by
  rw [if_neg Bool.false_ne_true]
  exact h
theorem iteT {A B : Prop} (h : A) : if true = true then A else B := by
  rw [if_pos rfl]
  exact h
theorem ite2 {c A B : Prop} [Decidable c] (h1 : c → A) (h2 : ¬ c → B) : if c then A else B := by
  by_cases h : c
  · rw [if_pos h]
    exact h1 h
  · rw [if_neg h]
    exact h2 h
theorem iteNS {c A B : Prop} [Decidable c] (hc : c) (h : B) : if (!decide c) = true then A else B := by
  rw [decide_eq_true hc]
  exact iteF h

/-! ### heaps -/
/-- all that was tracked is as it was -/
def Same (H H' : Hp) : Prop := ∀ b o, H b = some o → H' b = some o
theorem Same.refl (H : Hp) : Same H H := fun _ _ h => h
theorem Same.trans {H H1 H2 : Hp} (a : Same H H1) (b : Same H1 H2) : Same H H2 := fun c o h => b c o (a c o h)
theorem Same.seq {K : PySem.W.Frag} {H H' : Hp} {a : Addr} {xs : List V} (e : Same H H') (h : SqL K H a xs) : SqL K H' a xs := by
  rcases h with (h | ⟨o, h⟩) | h
  · exact .inl (.inl (e _ _ h))
  · exact .inl (.inr ⟨o, e _ _ h⟩)
  · exact .inr h

end L2

set_option maxHeartbeats 4000000
namespace B
open PySem L2 PyProof.Rows
/-! ### tests that are known -/
theorem iteN1 {c A B : Prop} [Decidable c] (hc : ¬ c) (h : A) : if (!decide c) = true then A else B := by
  have e : (!decide c) = true := by rw [decide_eq_false hc]; rfl
  rw [if_pos e]; exact h
theorem iteD1 {c A B : Prop} [Decidable c] (hc : c) (h : A) : if decide c = true then A else B := by
  rw [if_pos (decide_eq_true hc)]; exact h
theorem iteD0 {c A B : Prop} [Decidable c] (hc : ¬ c) (h : B) : if decide c = true then A else B := by
  have e : ¬ decide c = true := by rw [decide_eq_false hc]; intro z; cases z
  rw [if_neg e]; exact h
/-! ### isinstance against a built-in class -/
def kitTT (A B : String) : Option Bool := if (Value.type A == Value.type B) = true then some true else if PySem.W.kitMeta B = true then (fastBuiltinMro A).map (·.contains (.type B)) else none
theorem kit_of {K : PySem.W.Frag} {A B : String} {b : Bool} (h : kitTT A B = some b) : PySem.W.kitOne K (.type A) (.type B) = some b := h
/-- a plain thing's kind -/
inductive Ty (H : Hp) : V → String → Prop where
  | non : Ty H .non "NoneType"
  | bl (b : Bool) : Ty H (.bl b) "bool"
  | int (i : Int) : Ty H (.int i) "int"
  | str (x : Str) : Ty H (.str x) "str"
  | lst {a : Addr} {xs : List V} (e : H a = some (.lst xs)) : Ty H (.ref a) "list"
  | tup {a : Addr} {xs : List V} (e : H a = some (.tup xs)) : Ty H (.ref a) "tuple"
theorem Ty.of {H : Hp} {v : V} {n : String} (K : PySem.W.Frag) (h : Ty H v n) : TyOf K H v (.type n) := by
  cases h with
  | non => exact .non
  | bl b => exact .bl b
  | int i => exact .int i
  | str x => exact .str x
  | lst e => exact .lst e
  | tup e => exact .tup e
def rIsi : List V → Hp → VK → Prop := fun xs H Q => ∃ x n m b, xs = [x, .ty n] ∧ Ty H x m ∧ kitTT m n = some b ∧ Q (.bl b) H
theorem call_isi {X : Cx} : CallR X (.builtin "isinstance") rIsi := by
  intro pins s σ H xs us Q I r h
  obtain ⟨x, n, m, b, rfl, ty, e, q⟩ := h
  obtain ⟨u, u2, rfl, rx, ry⟩ := vals2 r
  obtain rfl : u2 = Value.type n := ry
  exact isinst_ok I rx (ty.of X.K) (kit_of e) fun tk => ⟨.bl b, H, I.tok tk, rfl, q⟩
def wholeV : V → Bool
  | .int _ => true
  | _ => false
def tupV (n : String) : Bool := n == "tuple"
/-! ### heaps: all but one list is as it was -/
structure Step (t : Addr) (H H' : Hp) : Prop where
  keep : ∀ b o, b ≠ t → H b = some o → H' b = some o
  tp : ∃ xs, H t = some (.lst xs)
  tp' : ∃ xs, H' t = some (.lst xs)
theorem Step.trans {t : Addr} {H H1 H2 : Hp} (a : Step t H H1) (b : Step t H1 H2) : Step t H H2 := ⟨fun c o n e => b.keep c o n (a.keep c o n e), a.tp, b.tp'⟩
theorem Step.up {t : Addr} {H : Hp} {xs ys : List V} (h : H t = some (.lst xs)) : Step t H (upd H t (.lst ys)) := ⟨fun c o n e => by rw [upd_ne n]; exact e, ⟨_, h⟩, ⟨_, upd_same⟩⟩
theorem same_new {H : Hp} {p : Addr} (h : H p = none) (o : HO) : Same H (upd H p o) := fun b u q => by rw [upd_ne (ne_of_none q h)]; exact q
theorem Step.same {t : Addr} {H H' : Hp} (s : Same H H') (h : ∃ xs, H t = some (.lst xs)) : Step t H H' := ⟨fun c o _ e => s c o e, h, let ⟨xs, e⟩ := h; ⟨xs, s _ _ e⟩⟩
theorem Step.new {t p : Addr} {H : Hp} (h : ∃ xs, H t = some (.lst xs)) (n : H p = none) (o : HO) : Step t H (upd H p o) := Step.same (same_new n o) h
theorem Step.refl {t : Addr} {H : Hp} (h : ∃ xs, H t = some (.lst xs)) : Step t H H := ⟨fun _ _ _ e => e, h, h⟩
/-- a thing whose kind is known, and of a tuple its parts' kinds -/
def Th (H : Hp) (v : V) : Prop := ∃ n, Ty H v n ∧ ∀ a xs, v = .ref a → H a = some (.tup xs) → ∀ x ∈ xs, ∃ m, Ty H x m
/-! ### places -/
theorem pick {xs : List V} {r : Int} (h0 : 0 ≤ r) (h1 : r < (xs.length : Int)) : ∃ v, atI xs r = some v ∧ v ∈ xs := by
  have hk : r.toNat < xs.length := by omega
  have ek : r = ((r.toNat : Nat) : Int) := by omega
  have q : atI xs ((r.toNat : Nat) : Int) = some xs[r.toNat] := atI_nat (List.getElem?_eq_getElem hk)
  rw [← ek] at q
  exact ⟨_, q, List.getElem_mem hk⟩
theorem pickI {ns : List Int} {r : Int} (h0 : 0 ≤ r) (h1 : r < (ns.length : Int)) : ∃ z : Int, atI (ns.map V.int) r = some (.int z) := by
  obtain ⟨v, h, hv⟩ := pick (xs := ns.map V.int) h0 (by rw [List.length_map]; exact h1)
  obtain ⟨z, _, rfl⟩ := List.mem_map.mp hv
  exact ⟨z, h⟩
/-! ### the tape -/
structure Tape (H : Hp) (t s : Addr) : Prop where
  ex : ∃ (ns : List Int) (p q r : Int), H t = some (.lst [.ref s, .int p, .int q, .int r]) ∧ H s = some (.lst (ns.map V.int)) ∧ s ≠ t ∧ ns.length ≤ 63 ∧ 0 ≤ p ∧ 0 ≤ q ∧ 0 ≤ r
theorem Tape.lst {H : Hp} {t s : Addr} (h : Tape H t s) : ∃ xs, H t = some (.lst xs) := let ⟨_, _, _, _, e, _⟩ := h.ex; ⟨_, e⟩
theorem Tape.scr {H : Hp} {t s : Addr} (h : Tape H t s) : ∃ xs, H s = some (.lst xs) := let ⟨_, _, _, _, _, e, _⟩ := h.ex; ⟨_, e⟩
theorem Tape.same {H H' : Hp} {t s : Addr} (h : Tape H t s) (z : Same H H') : Tape H' t s := by
  obtain ⟨ns, p, q, r, h1, h2, h3⟩ := h.ex
  exact ⟨ns, p, q, r, z _ _ h1, z _ _ h2, h3⟩
theorem Tape.new {H : Hp} {t s p : Addr} (h : Tape H t s) (n : H p = none) (o : HO) : Tape (upd H p o) t s := h.same (same_new n o)
theorem Tape.upl {H : Hp} {t s l : Addr} (h : Tape H t s) (a : l ≠ t) (b : l ≠ s) (o : HO) : Tape (upd H l o) t s := by
  obtain ⟨ns, p, q, r, h1, h2, h3⟩ := h.ex
  exact ⟨ns, p, q, r, by rw [upd_ne a.symm]; exact h1, by rw [upd_ne b.symm]; exact h2, h3⟩
theorem cut63 (ns : List Int) : cutV (ns.map V.int) none (some 63) = (ns.take (min 63 ns.length)).map V.int := by
  unfold cutV
  rw [show (some (63 : Int)) = some (((63 : Nat) : Int)) from rfl, HT.sIx_nat, HT.sIx_none, List.length_map, Nat.sub_zero, List.drop_zero, List.map_take]
def sp_tape (K : PySem.W.Frag) : Sp := fun vs H Q _ => ∃ (a : Addr) (ns : List Int), vs = [.ref a] ∧ SqL K H a (ns.map V.int) ∧ ∀ (t s : Addr) (H' : Hp), Same H H' → H t = none → H s = none → Tape H' t s → Q (.ref t) H'
def sp_draw : Sp := fun vs H Q _ => ∃ (t s : Addr) (m : Int), vs = [.ref t, .int m] ∧ Tape H t s ∧ 0 < m ∧ m < 1073741824 ∧ ∀ (r : Int) (xs : List V), 0 ≤ r → r < m → Tape (upd H t (.lst xs)) t s → Q (.int r) (upd H t (.lst xs))
def sp_lawT (K : PySem.W.Frag) : Sp := fun vs H Q _ => ∃ (a : Addr) (ns : List Int), vs = [.ref a] ∧ SqL K H a (ns.map V.int) ∧ ns.length ≤ 63 ∧ ∀ H', Q (.bl true) H'
/-! ### the greatest divisor, turn by turn -/
theorem gcd_turn {a b : Int} (ha : 0 ≤ a) (hb : 0 < b) : Int.gcd b (a % b) = Int.gcd a b := by
  obtain ⟨n, rfl⟩ := Int.eq_ofNat_of_zero_le ha
  obtain ⟨m, rfl⟩ := Int.eq_ofNat_of_zero_le (Int.le_of_lt hb)
  rw [← Int.natCast_emod]
  show Nat.gcd m (n % m) = Nat.gcd n m
  rw [Nat.gcd_comm m, ← Nat.gcd_rec, Nat.gcd_comm]
theorem abs_if (i : Int) : (if i < 0 then -i else i) = (i.natAbs : Int) := by split <;> omega
end B

namespace B
open PySem PySem.Spec L2 PyProof.Rows
/-! ### a thing whose whole inside is known, and its text -/
mutual
inductive Deep (K : PySem.W.Frag) (H : Hp) : V → PyData → Prop where
  | non : Deep K H .non .none
  | bl (b : Bool) : Deep K H (.bl b) (.bool b)
  | int (i : Int) : Deep K H (.int i) (.int i)
  | str (x : Str) : Deep K H (.str x) (.str x)
  | lst {a : Addr} {xs : List V} {ds : List PyData} (e : SqL K H a xs) (h : DeepAll K H xs ds) : Deep K H (.ref a) (.list ds)
  | tup {a : Addr} {xs : List V} {ds : List PyData} (e : SqT K H a xs) (h : DeepAll K H xs ds) : Deep K H (.ref a) (.tuple ds)
inductive DeepAll (K : PySem.W.Frag) (H : Hp) : List V → List PyData → Prop where
  | nil : DeepAll K H [] []
  | cons {x : V} {d : PyData} {xs : List V} {ds : List PyData} (h : Deep K H x d) (t : DeepAll K H xs ds) : DeepAll K H (x :: xs) (d :: ds)
end
mutual
theorem Deep.reads {X : Cx} {pins : List (Addr × Obj)} {σ : L2.St} {H : Hp} {s : Shared} (I : Inv X pins σ H s) : ∀ {v : V} {d : PyData} {u : Value}, Deep X.K H v d → RelV v u → ∃ as, Reads s.heap u d as
  | _, _, u, .non, r => by cases (show u = Value.none from r); exact ⟨_, .none⟩
  | _, _, u, .bl b, r => by cases (show u = Value.bool b from r); exact ⟨_, .bool b⟩
  | _, _, u, .int i, r => by obtain ⟨t, q⟩ := (show ∃ t, u = Value.int i t from r); cases q; exact ⟨_, .int i t⟩
  | _, _, u, .str x, r => by obtain ⟨t, q⟩ := (show ∃ t, u = Value.str x t from r); cases q; exact ⟨_, .str x t⟩
  | _, _, u, .lst (a := a) e h, r => by
    cases (show u = Value.ref a from r)
    obtain ⟨its, rv, ⟨o, n, ho, hc, _, hd⟩, _⟩ := I.list e
    obtain ⟨as, q⟩ := DeepAll.reads I h rv
    exact ⟨_, .list ho hc hd (by simpa using q)⟩
  | _, _, u, .tup (a := a) e h, r => by
    cases (show u = Value.ref a from r)
    obtain ⟨its, rv, ⟨o, ho, hc, n, hd⟩, _⟩ := I.tuple e
    obtain ⟨as, q⟩ := DeepAll.reads I h rv
    exact ⟨_, .tuple ho hc hd (by simpa using q)⟩
theorem DeepAll.reads {X : Cx} {pins : List (Addr × Obj)} {σ : L2.St} {H : Hp} {s : Shared} (I : Inv X pins σ H s) : ∀ {vs : List V} {ds : List PyData} {us : List Value}, DeepAll X.K H vs ds → Vals vs us → ∃ as, ReadsAll s.heap us ds as
  | _, _, _, .nil, .nil => ⟨_, .nil⟩
  | _, _, _, .cons h t, .cons r q =>
    let ⟨_, a⟩ := Deep.reads I h r
    let ⟨_, b⟩ := DeepAll.reads I t q
    ⟨_, .cons a b⟩
end
/-- what may be shown -/
structure Shows (d : PyData) : Prop where
  sh : d.showable = true
  nd : d.hasDict = false
  sz : d.shown.length ≤ sizeLine
  dp : d.depth ≤ 16
def rRepr (K : PySem.W.Frag) : List V → Hp → VK → Prop := fun xs H Q => ∃ v d, xs = [v] ∧ Deep K H v d ∧ Shows d ∧ Q (.str d.shown) H
theorem call_repr {X : Cx} {k : Nat} (hr : Room k X.A) : CallR X (.builtin "repr") (rRepr X.K) := by
  intro pins s σ H xs us Q I r h
  obtain ⟨v, d, rfl, dp, sh, q⟩ := h
  obtain ⟨u, rfl, ru⟩ := vals1 r
  cases dp with
  | non => cases (show u = Value.none from ru); exact PySem.P.repr_of_none ⟨.str "None", H, I.tok _, ⟨_, rfl⟩, q⟩
  | bl b => cases (show u = Value.bool b from ru); exact PySem.P.repr_of_bool ⟨.str _, H, I.tok _, ⟨_, rfl⟩, q⟩
  | int i =>
    obtain ⟨t, e⟩ := (show ∃ t, u = Value.int i t from ru)
    cases e
    exact PySem.P.repr_of_int (of_decide_eq_true sh.sh) ⟨.str _, H, I.tok _, ⟨_, rfl⟩, q⟩
  | str x =>
    obtain ⟨t, e⟩ := (show ∃ t, u = Value.str x t from ru)
    cases e
    exact PySem.P.repr_of_str ⟨.str _, H, I.tok _, ⟨_, rfl⟩, q⟩ sh.sz
  | @lst a ys ds e h =>
    cases (show u = Value.ref a from ru)
    obtain ⟨as, rd⟩ := Deep.reads I (.lst e h) (show RelV (.ref a) (.ref a) from rfl)
    exact repr_of_reads' rd sh.sh (fun z => by rw [sh.nd] at z; cases z) hr.gd (by have := hr.units; have := sh.dp; omega) (fun _ _ z => z) (fun h' u tk hk => ⟨.str _, H, I.kept hk, ⟨_, rfl⟩, q⟩) sh.sz
  | @tup a ys ds e h =>
    cases (show u = Value.ref a from ru)
    obtain ⟨as, rd⟩ := Deep.reads I (.tup e h) (show RelV (.ref a) (.ref a) from rfl)
    exact repr_of_reads' rd sh.sh (fun z => by rw [sh.nd] at z; cases z) hr.gd (by have := hr.units; have := sh.dp; omega) (fun _ _ z => z) (fun h' u tk hk => ⟨.str _, H, I.kept hk, ⟨_, rfl⟩, q⟩) sh.sz
end B

namespace B
open PySem PySem.Spec L2 PyProof.Rows
/-! ### a list's comprehension of one clause -/
/-- the block's context: its own names, the cells of the def around it; the iterator's records may turn -/
def cxC (X : Cx) (N' : List Str) (scope : Scope) (cl : List (Str × Addr)) (C : Addr) (fp : List Addr) (pins : List (Addr × Obj)) (s : Shared) (H : Hp) : Cx :=
  { X with N := N', s₀ := s, H₀ := H, env := compEnvC scope cl C X.env, outer := X.stack, stack := X.stack, ex := fp, fn := fun _ => false, pn := X.pn ++ pins, xe := fun _ _ => False }
/-- which name of the def around it stands at each place of the block (none: the block's own) -/
def FreeOk (X : Cx) (scope : Scope) (cl : List (Str × Addr)) : List Str → List (Option Nat) → Prop
  | [], [] => True
  | _ :: N, none :: r => FreeOk X scope cl N r
  | x :: N, some j :: r => X.N[j]? = some x ∧ X.env.kindOf x = some .cell ∧ (compEnvC scope cl 0 X.env).kindOf x = some .cell ∧ cl.lookup x = X.env.cells.lookup x ∧ FreeOk X scope cl N r
  | _, _ => False
def frees (src : List (Option Nat)) (σ : L2.St) : L2.St := src.map fun o => o.bind fun j => (σ[j]?).getD none
theorem FreeOk.len {X : Cx} {scope : Scope} {cl : List (Str × Addr)} : ∀ {N : List Str} {src : List (Option Nat)}, FreeOk X scope cl N src → N.length = src.length
  | [], [], _ => rfl
  | _ :: _, none :: _, h => congrArg (· + 1) (FreeOk.len (X := X) (scope := scope) (cl := cl) h)
  | _ :: _, some _ :: _, h => congrArg (· + 1) (FreeOk.len (X := X) (scope := scope) (cl := cl) h.2.2.2.2)
theorem FreeOk.at {X : Cx} {scope : Scope} {cl : List (Str × Addr)} {σ : L2.St} : ∀ {N : List Str} {src : List (Option Nat)} {i : Nat} {x : Str} {v : V}, FreeOk X scope cl N src → N[i]? = some x → (frees src σ)[i]? = some (some v) →
    ∃ j : Nat, X.N[j]? = some x ∧ σ[j]? = some (some v) ∧ X.env.kindOf x = some .cell ∧ (compEnvC scope cl 0 X.env).kindOf x = some .cell ∧ cl.lookup x = X.env.cells.lookup x
  | y :: N, none :: r, 0, x, v, h, e, q => by cases q
  | y :: N, none :: r, i + 1, x, v, h, e, q => FreeOk.at (N := N) (src := r) (i := i) h e q
  | y :: N, some j :: r, 0, x, v, h, e, q => by
    cases e
    refine ⟨j, h.1, ?_, h.2.1, h.2.2.1, h.2.2.2.1⟩
    have q' : some ((σ[j]?).getD none) = some (some v) := q
    injection q' with q'
    cases z : σ[j]? with
    | none => rw [z] at q'; cases q'
    | some o => rw [z] at q'; exact congrArg some q'
  | y :: N, some j :: r, i + 1, x, v, h, e, q => FreeOk.at (N := N) (src := r) (i := i) h.2.2.2.2 e q
/-- every name of the block that is a cell there has one -/
def CellsOk (X : Cx) (scope : Scope) (cl : List (Str × Addr)) : Prop :=
  (∀ x, ((compEnvC scope cl 0 X.env).kindOf x = some .cell ∨ (compEnvC scope cl 0 X.env).kindOf x = some .free) → ∃ c, cl.lookup x = some c) ∧ ∀ x c, cl.lookup x = some c → X.env.cells.lookup x = some c
def CellsIn (X : Cx) : List (Str × Addr) → Prop
  | [] => True
  | y :: r => X.env.cells.lookup y.1 = some y.2 ∧ CellsIn X r
theorem CellsIn.mem {X : Cx} : ∀ {cl : List (Str × Addr)}, CellsIn X cl → ∀ y ∈ cl, X.env.cells.lookup y.1 = some y.2
  | [], _, y, h => by cases h
  | z :: r, k, y, h => by
    rcases List.mem_cons.mp h with e | h
    · rw [e]; exact k.1
    · exact CellsIn.mem k.2 y h
theorem mem_of_lookup {α : Type} {x : Str} {v : α} : ∀ {l : List (Str × α)}, l.lookup x = some v → (x, v) ∈ l
  | [], h => by cases h
  | (y, w) :: r, h => by
    rw [List.lookup_cons] at h
    cases e : x == y with
    | true =>
      rw [e] at h
      have e' : x = y := eq_of_beq e
      cases h
      rw [e']; exact List.mem_cons_self
    | false =>
      rw [e] at h
      exact List.mem_cons_of_mem _ (mem_of_lookup h)
theorem cells_of {X : Cx} {scope : Scope} {cl : List (Str × Addr)} (h1 : ((relabel scope X.env).names.all fun y => !(y.2 == .cell || y.2 == .free) || (cl.lookup y.1).isSome) = true) (h2 : CellsIn X cl) : CellsOk X scope cl := by
  refine ⟨fun x h => ?_, fun x c e => h2.mem _ (mem_of_lookup e)⟩
  have h3 := List.all_eq_true.mp h1
  have key : ∀ k : NameKind, (k = .cell ∨ k = .free) → (relabel scope X.env).names.lookup x = some k → ∃ c, cl.lookup x = some c := fun k hk e => by
    have q := h3 _ (mem_of_lookup e)
    have z : (k == NameKind.cell || k == NameKind.free) = true := by rcases hk with rfl | rfl <;> rfl
    simp only [z, Bool.not_true, Bool.false_or] at q
    exact Option.isSome_iff_exists.mp q
  rcases h with h | h
  · exact key _ (.inl rfl) h
  · exact key _ (.inr rfl) h
/-- .. as the block's names stay -/
def Ext (σ σ' : L2.St) : Prop := σ'.length = σ.length ∧ ∀ (i : Nat) (v : V), σ[i]? = some (some v) → σ'[i]? = some (some v)
theorem Ext.set {σ : L2.St} {i : Nat} {v : V} (h : σ[i]? = some none) : Ext σ (σ.set i (some v)) := by
  refine ⟨List.length_set, fun j u e => ?_⟩
  have ne : i ≠ j := fun z => by subst z; rw [h] at e; cases e
  rw [List.getElem?_set_ne ne]; exact e
theorem Ext.set' {σ τ : L2.St} {i : Nat} {v : V} (e : Ext σ τ) (h : σ[i]? = some none) : Ext σ (τ.set i (some v)) := by
  refine ⟨by rw [List.length_set]; exact e.1, fun j u q => ?_⟩
  have ne : i ≠ j := fun z => by subst z; rw [h] at q; cases q
  rw [List.getElem?_set_ne ne]; exact e.2 j u q
section
variable {X : Cx} {N' : List Str} {scope : Scope} {cl : List (Str × Addr)} {src : List (Option Nat)} {pins : List (Addr × Obj)} {σ : L2.St} {H : Hp} {s : Shared} {fp : List Addr}
theorem Cx.comp_ok {C : Addr} (I : Inv X pins σ H s) (hC : s.heap.objs.size ≤ C) (hk : scope.kind = .function) (hf : ∀ b ∈ fp, FpOk X pins H b) (hfs : ∀ b ∈ fp, b < s.heap.objs.size) (hc : CellsOk X scope cl) :
    (cxC X N' scope cl C fp pins s H).Ok where
  mod := I.ok.mod
  kind := hk
  glob := I.ok.glob
  blt := I.ok.blt
  above := hC
  inj := fun x y c e1 e2 => I.ok.inj x y c (hc.2 x c e1) (hc.2 y c e2)
  has := fun x h => hc.1 x h
  cab := fun x c z => nomatch z
  hd := I.ok.hd
  frames := I.ok.frames
  stk := .inl rfl
  exf := fun b hb => ⟨fun z => by have := hfs b hb; rw [show b = C from z] at this; exact absurd (Nat.lt_of_lt_of_le this hC) (Nat.lt_irrefl _), fun x c e => (hf b hb).2.2.2.2.1 x c (hc.2 x c e)⟩
  bs := I.bs
  bsz := Nat.le_trans I.ok.bsz I.sz
  noex := fun b o e hb => by
    rcases (hf b hb).2.2.2.1 with z | z
    · exact I.ok.noex b o e z
    · rw [(I.ok.bs b o e).1] at z; cases z
  exfs := fun b hb z => by
    rcases List.mem_cons.mp (I.stkSub b z) with q | q
    · exact (hf b hb).2.1 q
    · exact (hf b hb).2.2.1 q
  funs := I.stack
  frf := I.stkFree
theorem Inv.comp {C : Addr} {h₁ : Heap} {m : Str → Option Value} {tk : Nat} (I : Inv X pins σ H s) (hC : C = s.heap.objs.size) (hns : h₁.Ns C m) (keep : ∀ b o, s.heap.get? b = some o → h₁.get? b = some o)
    (hk : scope.kind = .function) (hf : ∀ b ∈ fp, FpOk X pins H b) (hfs : ∀ b ∈ fp, b < s.heap.objs.size) (hc : CellsOk X scope cl) (hfree : FreeOk X scope cl N' src) :
    Inv (cxC X N' scope cl C fp pins s H) [] (frees src σ) H { s with heap := h₁, toks := tk } where
  ok := Cx.comp_ok I (Nat.le_of_eq hC.symm) hk hf hfs hc
  os := rfl
  bare := I.bare
  base := Un.kept keep
  loc := ⟨m, hns, fun i x v e1 e2 _ => by
    obtain ⟨j, hj, hσ, kc, kc', hl⟩ := hfree.at e1 e2
    obtain ⟨m0, hn0, hl0⟩ := I.loc
    obtain ⟨u, r, l⟩ := hl0 j x v hj hσ (Or.inr (Or.inl kc))
    rcases l with ⟨k, _⟩ | ⟨k, c, e, o, ho, hd⟩
    · rw [kc] at k; cases k
    · exact ⟨u, r, .inr ⟨.inl kc', c, hl.trans e, o, keep c o ho, hd⟩⟩⟩
  cell := fun x c e => let ⟨v, o, ho, hd⟩ := I.cell x c (hc.2 x c e); ⟨v, o, keep _ _ ho, hd⟩
  free := I.hok.fresh (Nat.le_of_eq hC.symm)
  freeC := fun x c e => I.freeC x c (hc.2 x c e)
  pin := fun p hp => by
    have hp' : p ∈ X.pn ++ pins := by
      have z : p ∈ (X.pn ++ pins) ++ [] := hp
      rw [List.append_nil] at z; exact z
    obtain ⟨e, n, ne, nf, d⟩ := I.pin p hp'
    refine ⟨keep _ _ e, n, fun z => ?_, fun z => ?_, d⟩
    · have := Heap.lt_size e; rw [show p.1 = C from z, hC] at this; exact Nat.lt_irrefl _ this
    · rcases List.mem_cons.mp (I.stkSub _ z) with q | q
      · exact ne q
      · exact nf q
  hok := I.hok.kept keep
  len := by show (frees src σ).length = N'.length; unfold frees; rw [List.length_map, hfree.len]
end
/-- the tests of a clause -/
def PTs (X : Cx) (ifs : List Expr) (t : TT) : Prop :=
  ∀ (pins : List (Addr × Obj)) (s : Shared) (σ : L2.St) (H : Hp) (Q : Bool → Hp → Prop), Inv X pins σ H s → t σ H Q →
    wpAny (model X.prog X.w) X.A (forIn ifs true fun c r => if r = true then do let ok ← isTrue c X.env (eval c X.env); pure (ForInStep.yield ok) else pure (ForInStep.yield r)) (TP X pins σ Q) X.xe s
def tYes : TT := fun _ H Q => Q true H
theorem pts_nil {X : Cx} : PTs X [] tYes := fun _ _ _ H _ I h => wpAny_tests_nil ⟨H, I, h⟩
theorem pts_one {X : Cx} {c : Expr} {t : TT} (h : PT X c t) : PTs X [c] t := fun pins s σ H Q I q => wpAny_tests_one (h pins s σ H Q I q)
section
variable {prog : Program} {w : World} {A : Around} {R : Result → Shared → Prop} {s : Shared}
theorem comp_loop {elt target iter : Expr} {ifs : List Expr} {scope : Scope} {pos : Pos} {it acc : Value} {env : Env} (I : Nat → Shared → Prop)
    (turn : ∀ n s, I n s → wpAny (model prog w) A (pyNext it) (fun r s₁ => match r with
      | none => R (.ok .next) s₁
      | some v => wpAny (model prog w) A (letOwnedTupleGo target it v) (fun _ s₁' => wpAny (model prog w) A (assign target env v) (fun _ s₂ =>
          wpAny (model prog w) A (forIn ifs true fun c r => if r = true then do let ok ← isTrue c env (eval c env); pure (ForInStep.yield ok) else pure (ForInStep.yield r)) (fun ok s₃ =>
            if ok = true then wpAny (model prog w) A (eval elt env) (fun x s₄ =>
              wpAny (model prog w) A (call (.builtin "list.append") [acc, x]) (fun _ s₅ => ∃ m, m < n ∧ I m s₅) (fun _ _ => False) s₄) (fun _ _ => False) s₃
            else ∃ m, m < n ∧ I m s₃) (fun _ _ => False) s₂) (fun _ _ => False) s₁') (fun _ _ => False) s₁) (fun _ _ => False) s)
    (n : Nat) (h : I n s) : codeAny (model prog w) A (.compLoop (.ListComp elt [⟨target, iter, ifs, 0⟩] scope pos) 0 it acc env) R s := by
  refine codeAny_loop rfl I (fun n s hI => ?_) n h
  show wpAny _ A ((compTurn (.ListComp elt [⟨target, iter, ifs, 0⟩] scope pos) 0 it acc env).onRaise (fun x => do noteFrame x env; theTreesLotGoes x)) _ _ s
  refine wpAny_noted ?_
  rw [compTurn_list]
  refine wpAny_bind (wpAny_standAt (wpAny_bind (wpAny_mono (turn n s hI) (fun r s₁ h₁ => ?_) fun _ _ h' => h'.elim)))
  cases r with
  | none => exact wpAny_pure h₁
  | some v =>
    refine wpAny_bind (wpAny_mono h₁ (fun _ s₁' h₁' => ?_) fun _ _ h' => h'.elim)
    refine wpAny_bind (wpAny_mono h₁' (fun _ s₂ h₂ => wpAny_bind (wpAny_mono h₂ (fun ok s₃ h₃ => ?_) fun _ _ h' => h'.elim)) fun _ _ h' => h'.elim)
    cases ok with
    | false => exact wpAny_pure ⟨rfl, h₃⟩
    | true =>
      exact wpAny_bind (wpAny_bind (wpAny_mono h₃ (fun x s₄ h₄ => wpAny_bind (wpAny_mono h₄ (fun _ s₅ h₅ => wpAny_pure (wpAny_pure ⟨rfl, h₅⟩)) fun _ _ h' => h'.elim)) fun _ _ h' => h'.elim))
end
/-- a block's own names: apart from all that is kept -/
structure OffC (X : Cx) (pins : List (Addr × Obj)) (H : Hp) (C : Addr) : Prop where
  no : H C = none
  lo : C ≠ X.env.locals
  fs : C ∉ X.fs
  old : X.s₀.heap.get? C = none
  ce : ∀ x c, X.env.cells.lookup x = some c → c ≠ C
  pn : ∀ p ∈ X.pn ++ pins, p.1 ≠ C
theorem OffC.turned {X : Cx} {pins : List (Addr × Obj)} {σ : L2.St} {H : Hp} {C : Addr} {s : Shared} (o : OffC X pins H C) (I : Inv X pins σ H s) {h' : Heap} (sb : Heap.SameBut C s.heap h') : Inv X pins σ H { s with heap := h' } :=
  I.turned (it := C) (t' := s.toks) (fun b u hb e => sb.extBut b u hb e) o.no o.lo (.inr o.old) o.ce o.pn
/-- the reading: D the new list, W the invariant (turn, measure, what stands in the list, heap) -/
def tComp (wi : TI) (src : List (Option Nat)) (g : TG) (tt : TT) (te : TE) : TE := fun σ H Q => wi σ H fun J H1 => ∀ D, H1 D = none → ∃ W : Nat → Nat → List V → Hp → Prop,
  (∃ m, W 0 m [] (upd H1 D (.lst []))) ∧ ∀ i m ys H, W i m ys H → (J.stop i H ∧ Q (.ref D) H) ∨ (J.go i H ∧ ∀ x H', J.yld i H x H' → g x (frees src σ) H' fun σ2 H2 => Ext (frees src σ) σ2 ∧ tt σ2 H2 fun ok H3 =>
    if ok = true then te σ2 H3 fun y H4 => H4 D = some (.lst ys) ∧ ys.length < sizeLine ∧ ∃ m', m' < m ∧ W (i + 1) m' (ys ++ [y]) (upd H4 D (.lst (ys ++ [y]))) else ∃ m', m' < m ∧ W (i + 1) m' ys H3)
section
variable {X : Cx} {N' : List Str} {scope : Scope} {cl : List (Str × Addr)} {src : List (Option Nat)} {tg iter elt : Expr} {ifs : List Expr} {wi : TI} {g : TG} {tt : TT} {te : TE} {pos : Pos}
theorem comp_run (hc : X.calm = true) (hi : PI X tg iter wi) (hg : ∀ C fp pins s H, PG (cxC X N' scope cl C fp pins s H) tg g) (ht : ∀ C fp pins s H, PTs (cxC X N' scope cl C fp pins s H) ifs tt)
    (he : ∀ C fp pins s H, PE (cxC X N' scope cl C fp pins s H) elt te) (hfree : FreeOk X scope cl N' src) (hcell : ∀ x ∈ scope.names, x.2 ≠ .cell) (hkind : scope.kind = .function) (hcl : CellsOk X scope cl)
    {RR : Value → Addr → Result → Shared → Prop} {pins : List (Addr × Obj)} {s : Shared} {σ : L2.St} {H : Hp} {Q : VK} (I : Inv X pins σ H s) (h : tComp wi src g tt te σ H Q)
    (hRR : ∀ D C H' s', Q (.ref D) H' → (∃ m, s'.heap.Ns C m) → Inv X pins σ H' s' → OffC X pins H' C → RR (.ref D) C (.ok .next) s') :
    wpAny (model X.prog X.w) X.A (eval iter X.env) (fun x s₁ => wpAny (model X.prog X.w) X.A (pyIter x) (fun itv s₂ => wpAny (model X.prog X.w) X.A (newList []) (fun acc s₃ =>
      wpAny (model X.prog X.w) X.A (newFunctionEnv scope X.env.globals cl [] X.env.qual none .none (some X.env)) (fun cenv s₄ =>
        codeAny (model X.prog X.w) X.A (.compStart (.ListComp elt [⟨tg, iter, ifs, 0⟩] scope pos) 0 itv acc { cenv with scope := relabel scope X.env }) (RR acc cenv.locals) s₄) X.xe s₃) X.xe s₂) X.xe s₁) X.xe s := by
  refine thn (hi pins s σ H _ I h) fun v s1 h1 => thn h1 fun itv s2 h2 => ?_
  obtain ⟨it, fp, tn, J, H2, e, I2, T, st2, f2, h2⟩ := h2
  subst e
  refine wpAny_newObj_type ?_ (by show 0 ≤ sizeLine; exact Nat.zero_le _)
  have hD : H2 s2.heap.objs.size = none := I2.fresh
  have I3 : Inv X pins σ (upd H2 s2.heap.objs.size (.lst [])) { s2 with heap := s2.heap.push { cls := .type "list", data := .seq ([] : List Value).toArray } } := I2.lnew (t' := s2.toks) (its := []) .nil (Nat.zero_le _)
  obtain ⟨W, ⟨m0, w0⟩, turn⟩ := h2 s2.heap.objs.size hD
  generalize hDe : s2.heap.objs.size = D at I3 turn w0 hD ⊢
  have st3 : tn 0 (s2.heap.push { cls := .type "list", data := .seq ([] : List Value).toArray }) := T.keep _ _ _ st2 fun b _ o e => Heap.get?_push_of_some _ e
  have f3 : ∀ b ∈ fp, FpOk X pins (upd H2 D (.lst [])) b ∧ b < (s2.heap.push { cls := .type "list", data := .seq ([] : List Value).toArray }).objs.size := fun b hb => by
    obtain ⟨o, e, _⟩ := T.obj _ _ st2 b hb
    have l := Heap.lt_size e
    rw [hDe] at l
    refine ⟨⟨?_, (f2 b hb).2⟩, by rw [Heap.size_push, hDe]; exact Nat.lt_succ_of_lt l⟩
    rw [upd_ne (Nat.ne_of_lt l)]; exact (f2 b hb).1
  generalize (s2.heap.push { cls := .type "list", data := .seq ([] : List Value).toArray }) = h3 at I3 st3 f3 ⊢
  refine wpAny_newFunctionEnv hcell (by intro y hy; simp at hy) (fun h₄ hns₄ hsb₄ => ?_) hkind
  have keep : ∀ b o, h3.get? b = some o → h₄.get? b = some o := fun b o e => hsb₄.extBut b o (Nat.ne_of_lt (Heap.lt_size e)) (Heap.get?_push_of_some _ e)
  have I4 := Inv.comp (C := h3.objs.size) (fp := fp) (tk := s2.toks + ([] : List (Str × Value)).length) I3 rfl hns₄ keep hkind (fun b hb => (f3 b hb).1) (fun b hb => (f3 b hb).2) hcl hfree
  have st4 : tn 0 h₄ := T.keep _ _ _ st3 fun b _ o e => keep b o e
  have fpn : ∀ b ∈ fp, (upd H2 D (.lst [])) b = none := fun b hb => (f3 b hb).1.1
  have hn3 : ∀ b ∈ fp, b ≠ h3.objs.size := fun b hb => Nat.ne_of_lt (f3 b hb).2
  have stat : ∀ {H' : Hp}, (∀ b ∈ fp, H' b = none) → ∀ b ∈ fp, FpOk (cxC X N' scope cl h3.objs.size fp pins { s2 with heap := h3 } (upd H2 D (.lst []))) [] H' b := fun hn b hb =>
    ⟨hn b hb, hn3 b hb, I4.ok.exfs b hb, .inl hb, fun x c e => (f3 b hb).1.2.2.2.2.1 x c (hcl.2 x c e), fun p hp => (f3 b hb).1.2.2.2.2.2 p (by
      have z : p ∈ (X.pn ++ pins) ++ [] := hp
      rw [List.append_nil] at z; exact z)⟩
  have back : ∀ {H' : Hp} {s' : Shared}, Inv (cxC X N' scope cl h3.objs.size fp pins { s2 with heap := h3 } (upd H2 D (.lst []))) [] (frees src σ) H' s' → (∃ m, s'.heap.Ns h3.objs.size m) ∧ Inv X pins σ H' s' ∧ OffC X pins H' h3.objs.size := fun {H' s'} I' => by
    have Ib : Inv X pins σ H' s' := I3.call' I'.os I'.base I'.hok I'.bare fun b hb => ⟨(f3 b hb).1.2.2.2.1, (f3 b hb).1.2.1, (f3 b hb).1.2.2.2.2.1, (f3 b hb).1.2.2.2.2.2⟩
    refine ⟨let ⟨m, hm, _⟩ := I'.loc; ⟨m, hm⟩, Ib, ⟨I'.free, fun z => ?_, I3.nofs (Nat.le_refl _), Heap.get?_none_of_le I3.sz, fun x c e z => ?_, fun p hp z => ?_⟩⟩
    · have := I3.lt; rw [← z] at this; exact Nat.lt_irrefl _ this
    · obtain ⟨v, o, ho, _⟩ := I3.cell x c e
      have := Heap.lt_size ho; rw [z] at this; exact Nat.lt_irrefl _ this
    · obtain ⟨e, _⟩ := I3.pin p hp
      have := Heap.lt_size e; rw [z] at this; exact Nat.lt_irrefl _ this
  have loop : codeAny (model X.prog X.w) X.A (.compLoop (.ListComp elt [⟨tg, iter, ifs, 0⟩] scope pos) 0 (.ref it) (.ref D) (compEnvC scope cl h3.objs.size X.env)) (RR (.ref D) h3.objs.size) { s2 with heap := h₄, toks := s2.toks + ([] : List (Str × Value)).length } := by
    refine comp_loop (fun n s' => ∃ i ys H', Inv (cxC X N' scope cl h3.objs.size fp pins { s2 with heap := h3 } (upd H2 D (.lst []))) [] (frees src σ) H' s' ∧ tn i s'.heap ∧ (∀ b ∈ fp, H' b = none) ∧ W i n ys H') ?_ m0 ⟨0, [], _, I4, st4, fpn, w0⟩
    rintro n s5 ⟨i, ys, H5, I5, st5, fr5, w5⟩
    rcases turn i n ys H5 w5 with ⟨stop, qn⟩ | ⟨go, step⟩
    · refine thn (T.done (cxC X N' scope cl h3.objs.size fp pins { s2 with heap := h3 } (upd H2 D (.lst []))) rfl rfl rfl hc i [] s5 _ H5 _ I5 (stat fr5) st5 stop) fun r s6 ⟨hr, I6⟩ => ?_
      subst hr
      obtain ⟨b1, b2, b3⟩ := back I6
      exact hRR D _ H5 s6 qn b1 b2 b3
    · refine thn (T.item (cxC X N' scope cl h3.objs.size fp pins { s2 with heap := h3 } (upd H2 D (.lst []))) rfl rfl rfl hc i [] s5 _ H5 _ I5 (stat fr5) st5 go) fun r s6 ⟨u, hr, h6⟩ => ?_
      subst hr
      refine thn h6 fun _ s7 ⟨x, H7, I7, r7, y7, st7, fr7⟩ => ?_
      have I7' := I7.pinned (stat fr7) (T.obj _ _ st7)
      refine thn (hg _ _ _ _ _ _ s7 _ H7 x u _ I7' r7 (step x H7 y7)) fun _ s8 ⟨σ8, H8, I8, ex8, q8⟩ => ?_
      refine thn (ht _ _ _ _ _ _ s8 σ8 H8 _ I8 q8) fun ok s9 ⟨H9, I9, q9⟩ => ?_
      have again : ∀ {ys' : List V} {Ha : Hp} {sa : Shared}, Inv (cxC X N' scope cl h3.objs.size fp pins { s2 with heap := h3 } (upd H2 D (.lst []))) ([] ++ pinsAt fp s7.heap) σ8 Ha sa → (∃ m', m' < n ∧ W (i + 1) m' ys' Ha) →
          ∃ m, m < n ∧ ∃ i ys H', Inv (cxC X N' scope cl h3.objs.size fp pins { s2 with heap := h3 } (upd H2 D (.lst []))) [] (frees src σ) H' sa ∧ tn i sa.heap ∧ (∀ b ∈ fp, H' b = none) ∧ W i m ys H' := fun {ys' Ha sa} Ia ⟨m', hm, wa⟩ => by
        refine ⟨m', hm, i + 1, ys', Ha, (Ia.unpinned).weak ex8.1.symm ex8.2, T.keep _ _ _ st7 fun b hb o e => (Ia.pin (b, o) (List.mem_append_right _ (List.mem_append_right _ (mem_pinsAt hb e)))).1, fun b hb => ?_, wa⟩
        obtain ⟨o, e, _⟩ := T.obj _ _ st7 b hb
        exact (Ia.pin (b, o) (List.mem_append_right _ (List.mem_append_right _ (mem_pinsAt hb e)))).2.1
      cases ok with
      | false => exact again I9 q9
      | true =>
        refine thn (he _ _ _ _ _ _ s9 σ8 H9 _ I9 q9) fun y s10 ⟨yv, H10, I10, r10, q10, hz, wn⟩ => ?_
        refine thn (mt_append _ s10 σ8 H10 (.ref D) [yv] (.ref D) [y] (fun _ Hz => ∃ m', m' < n ∧ W (i + 1) m' (ys ++ [yv]) Hz) I10 rfl (.cons r10 .nil) ⟨D, ys, yv, rfl, rfl, q10, hz, wn⟩) fun _ s11 ⟨_, H11, I11, _, q11⟩ => ?_
        exact again I11 q11
  exact codeAny_compStart_list loop (T.self _ 0 _ _ _ st4 loop)
theorem pe_lcomp (hc : X.calm = true) (hi : PI X tg iter wi) (hg : ∀ C fp pins s H, PG (cxC X N' scope cl C fp pins s H) tg g) (ht : ∀ C fp pins s H, PTs (cxC X N' scope cl C fp pins s H) ifs tt)
    (he : ∀ C fp pins s H, PE (cxC X N' scope cl C fp pins s H) elt te) (hfree : FreeOk X scope cl N' src) (hclos : closureFor scope X.env = pure cl) (hcell : ∀ x ∈ scope.names, x.2 ≠ .cell) (hkind : scope.kind = .function)
    (hnames : ∀ x ∈ scope.names, x.2 = .local → scope.names.lookup x.1 = some .local) (hcl : CellsOk X scope cl) (hs : ∀ x, foldedSetIterable iter X.env x = pure x := by intro _; rfl) :
    PE X (.ListComp elt [⟨tg, iter, ifs, 0⟩] scope pos) (tComp wi src g tt te) := by
  intro pins s σ H Q I h
  rw [eval_ListComp]
  refine wpAny_comprehension_free (use := none) rfl hs hclos hkind hnames (comp_run hc hi hg ht he hfree hcell hkind hcl (RR := fun acc C => compPost (model X.prog X.w) X.A X.xe none (EP X pins σ Q) acc C) I h fun D C H' s' q hm hI hb => ?_)
  obtain ⟨m, hm⟩ := hm
  exact ⟨m, hm, fun h' sb => ⟨.ref D, H', hb.turned hI sb, rfl, q⟩⟩
/-- x = [e for ..], x a local name -/
theorem ps_setC {i : Nat} {x : Str} {pos' pos2 : Pos} (hN : X.N.Nodup) (hi' : X.N[i]? = some x) (hx : Loc X.env.scope x) (hc : X.calm = true) (hi : PI X tg iter wi) (hg : ∀ C fp pins s H, PG (cxC X N' scope cl C fp pins s H) tg g) (ht : ∀ C fp pins s H, PTs (cxC X N' scope cl C fp pins s H) ifs tt)
    (he : ∀ C fp pins s H, PE (cxC X N' scope cl C fp pins s H) elt te) (hfree : FreeOk X scope cl N' src) (hclos : closureFor scope X.env = pure cl) (hcell : ∀ x ∈ scope.names, x.2 ≠ .cell) (hkind : scope.kind = .function)
    (hnames : ∀ x ∈ scope.names, x.2 = .local → scope.names.lookup x.1 = some .local) (hcl : CellsOk X scope cl) (hs : ∀ x, foldedSetIterable iter X.env x = pure x := by intro _; rfl)
    (hsw : swapsWith (.ListComp elt [⟨tg, iter, ifs, 0⟩] scope pos) (some (.Name x pos')) pos2.line X.env = pure true := by rfl) (hf : X.fn x = true ∨ X.env.scope.names.lookup x = some .local := by first | exact .inl rfl | exact .inr rfl | assumption) :
    PS X (.Assign [.Name x pos'] (.ListComp elt [⟨tg, iter, ifs, 0⟩] scope pos) pos2) (tAsg (tComp wi src g tt te) (gName i)) := by
  intro pins s σ H D I h
  rw [exec_Assign_Name_used _ _ _ _ hsw]
  refine wpAny_bind (wpAny_standAt ?_)
  show wpAny _ _ ((comprehension (.ListComp elt [⟨tg, iter, ifs, 0⟩] scope pos) scope X.env _ (newList []) false (eval iter X.env) (some (assign (.Name x pos') X.env)) >>= fun _ => pure ()) >>= fun _ => pure Flow.next) _ _ s
  refine wpAny_bind (wpAny_bind (wpAny_mono (wpAny_comprehension_free (use := some (assign (.Name x pos') X.env)) (Q := fun _ s'' => SP X pins D .next s'') rfl hs hclos hkind hnames (comp_run hc hi hg ht he hfree hcell hkind hcl (RR := fun acc C => compPost (model X.prog X.w) X.A X.xe (some (assign (.Name x pos') X.env)) (fun _ s'' => SP X pins D .next s'') acc C) I h fun E C H' s' q hm hI hb => ?_)) (fun _ s'' h'' => wpAny_pure (wpAny_pure h'')) fun _ _ e => e))
  obtain ⟨m, o, es, ep, ho, hd, r1, r2⟩ := hm
  have I' : Inv X (pins ++ [(C, o)]) σ H' s' := hI.pins_of fun p hp => by
    rcases List.mem_append.mp hp with h | h
    · exact hI.pin p (List.mem_append_right _ h)
    · rw [List.mem_singleton] at h
      rw [h]
      exact ⟨ho, hb.no, hb.lo, hb.fs, fun v z => by rw [hd] at z; cases z⟩
  refine wpAny_assign_Name (store_ok I' hN hi' hx (show RelV (.ref E) (.ref E) from rfl) (fun s'' I'' => ?_) hf)
  have hC := (I''.pin (C, o) (List.mem_append_right _ (List.mem_append_right _ List.mem_cons_self))).1
  have I3 : Inv X pins (σ.set i (some (.ref E))) H' s'' := I''.pins_of fun p hp => I''.pin p (List.mem_append_right _ (List.mem_append_left _ hp))
  exact ⟨m, ⟨o, es, ep, hC, hd, r1, r2⟩, fun h' sb => ⟨_, H', hb.turned I3 sb, q⟩⟩
end
end B

namespace B
open PySem PySem.Spec L2 PyProof.Rows
/-! ### == and != of things whose inside is known -/
def rNeD (K : PySem.W.Frag) : R2 := fun x y H Q => ∃ d d', Deep K H x d ∧ Deep K H y d' ∧ d.canLay0 = true ∧ d'.canLay0 = true ∧ d.depth ≤ 32 ∧ Q (.bl (!PyData.eqv d d')) H
theorem op_neD {X : Cx} {k : Nat} (hr : Room k X.A) : OpR X (compareOp .NotEq) (rNeD X.K) := by
  intro pins s σ H x y v u Q I rx ry h
  obtain ⟨d, d', hd, hd', c, c', dp, q⟩ := h
  obtain ⟨as, ra⟩ := Deep.reads I hd rx
  obtain ⟨bs, rb⟩ := Deep.reads I hd' ry
  exact SeqAt.compareNe_reads ra rb c c' (by have := hr.units; omega) ⟨.bl _, H, I, rfl, q⟩
/-- the answers of == against x, item by item: x itself, or by what is read -/
noncomputable def hitAt (h : Heap) (x : Value) (d : PyData) (y : Value) : Bool :=
  open Classical in if y = x then true else if z : ∃ d', d'.canLay0 = true ∧ d'.depth ≤ 32 ∧ ∃ as, Reads h y d' as then PyData.eqv z.choose d else false
/-- all items' insides are known -/
def Known (K : PySem.W.Frag) (H : Hp) (xs : List V) : Prop := ∀ x ∈ xs, ∃ d, Deep K H x d ∧ d.canLay0 = true ∧ d.depth ≤ 32
/-- x not in xs, where x is one of them -/
def rNotInS (K : PySem.W.Frag) : R2 := fun x y H Q => ∃ a p xs, x = .ref a ∧ y = .ref p ∧ SqL K H p xs ∧ V.ref a ∈ xs ∧ Known K H xs ∧ Q (.bl false) H
/-- xs.index(x), x one of them: some place with the same inside -/
def rIndexS (K : PySem.W.Frag) : V → List V → Hp → VK → Prop := fun x vs H Q => ∃ p xs a d, x = .ref p ∧ vs = [.ref a] ∧ SqL K H p xs ∧ V.ref a ∈ xs ∧ Known K H xs ∧ Deep K H (.ref a) d ∧ d.canLay0 = true ∧ d.depth ≤ 32 ∧
  ∀ (j : Nat) (v' : V), xs[j]? = some v' → (v' = .ref a ∨ ∀ d', Deep K H v' d' → d'.canLay0 = true → PyData.eqv d' d = true) → Q (.int j) H
end B

namespace B
/-! ### ratios as pairs -/
abbrev R := Int × Int
def mkR (a b : Int) : R := (a / (Int.gcd a b : Int), b / (Int.gcd a b : Int))
structure Wf (n : Nat) (r : R) : Prop where
  pos : 0 < r.2
  top : r.1.natAbs < 2 ^ n
  bot : r.2.natAbs < 2 ^ n
  cop : Int.gcd r.1 r.2 = 1
theorem Wf.mono {n m : Nat} {r : R} (h : Wf n r) (l : n ≤ m) : Wf m r := ⟨h.pos, Nat.lt_of_lt_of_le h.top (Nat.pow_le_pow_right (by decide) l), Nat.lt_of_lt_of_le h.bot (Nat.pow_le_pow_right (by decide) l), h.cop⟩
theorem gcd_posR {a b : Int} (hb : 0 < b) : 0 < (Int.gcd a b : Int) := by
  have h : Int.gcd a b ≠ 0 := fun z => by
    have := (Int.gcd_eq_zero_iff.mp z).2
    omega
  omega
def plusR (r q : R) : R := mkR (r.1 * q.2 + q.1 * r.2) (r.2 * q.2)
def timesR (r q : R) : R := mkR (r.1 * q.1) (r.2 * q.2)
def lessR (r q : R) : Bool := decide (r.1 * q.2 < q.1 * r.2)
end B

namespace B
open PySem L2 PyProof.Rows
/-! ### big products and quotients -/
def CBig (i j : Int) : Prop := i.natAbs < 2 ^ 4000 ∧ j.natAbs < 2 ^ 4000
def CQuo (_ j : Int) : Prop := 0 < j ∧ j.natAbs < 2 ^ 4000
section
variable {X : Cx}
end
/-! ### what stays of tuples -/
def Tst (K : PySem.W.Frag) (H H' : Hp) : Prop := ∀ p xs, SqT K H p xs → SqT K H' p xs
theorem Tst.refl (K : PySem.W.Frag) (H : Hp) : Tst K H H := fun _ _ h => h
theorem Tst.trans {K : PySem.W.Frag} {H H1 H2 : Hp} (a : Tst K H H1) (b : Tst K H1 H2) : Tst K H H2 := fun p xs h => b p xs (a p xs h)
theorem Tst.same {K : PySem.W.Frag} {H H' : Hp} (s : Same H H') : Tst K H H' := fun p xs h => by
  rcases h with (h | ⟨o, h⟩) | h
  · exact .inl (.inl (s _ _ h))
  · exact .inl (.inr ⟨o, s _ _ h⟩)
  · exact .inr h
theorem Tst.step {K : PySem.W.Frag} {t : Addr} {H H' : Hp} (S : Step t H H') : Tst K H H' := fun p xs h => by
  obtain ⟨ys, ht⟩ := S.tp
  rcases h with (h | ⟨o, h⟩) | h
  · exact .inl (.inl (S.keep _ _ (fun z => by subst z; rw [h] at ht; cases ht) h))
  · exact .inl (.inr ⟨o, S.keep _ _ (fun z => by subst z; rw [h] at ht; cases ht) h⟩)
  · exact .inr h
theorem Tst.up {K : PySem.W.Frag} {H : Hp} {l : Addr} {xs : List V} (h : H l = some (.lst xs)) (ys : List V) : Tst K H (upd H l (.lst ys)) := Tst.step (Step.up h)
/-- the value is the ratio r -/
def RV (K : PySem.W.Frag) (H : Hp) (v : V) (r : R) : Prop := ∃ p, v = .ref p ∧ SqT K H p [.int r.1, .int r.2]
theorem RV.mono {K : PySem.W.Frag} {H H' : Hp} {v : V} {r : R} (h : RV K H v r) (t : Tst K H H') : RV K H' v r := let ⟨p, e, q⟩ := h; ⟨p, e, t _ _ q⟩
theorem RV.of {K : PySem.W.Frag} {H : Hp} {p : Addr} {a b : Int} (h : H p = some (.tup [.int a, .int b])) : RV K H (.ref p) (a, b) := ⟨p, rfl, SqT.of h⟩
/-- the values are the ratios rs -/
def RVs (K : PySem.W.Frag) (H : Hp) (xs : List V) (rs : List R) : Prop := xs.length = rs.length ∧ ∀ (i : Nat) (x : V) (r : R), xs[i]? = some x → rs[i]? = some r → RV K H x r
/-- r to k -/
def powR (r : R) : Nat → R
  | 0 => (1, 1)
  | k + 1 => timesR (powR r k) r
def sumR (rs : List R) : R := rs.foldl plusR (0, 1)
/-- a ratio's data -/
def dR (r : R) : PyData := .tuple [.int r.1, .int r.2]
theorem RV.deep {K : PySem.W.Frag} {H : Hp} {v : V} {r : R} (h : RV K H v r) : Deep K H v (dR r) := by
  obtain ⟨p, rfl, q⟩ := h
  exact .tup q (.cons (.int _) (.cons (.int _) .nil))
theorem dR_lay (r : R) : (dR r).canLay0 = true := rfl
theorem log_of {i : Int} {n : Nat} (h : i.natAbs < 2 ^ n) (hn : n ≤ 1900) : i.natAbs.log2 < 1920 := by
  by_cases z : i.natAbs = 0
  · rw [z]; decide
  · have := (Nat.log2_lt z).mpr (Nat.lt_of_lt_of_le h (Nat.pow_le_pow_right (by decide) hn))
    omega
theorem len_of {i : Int} {n : Nat} (h : i.natAbs < 2 ^ n) (hn : n ≤ 1900) : (PyData.int i).shown.length ≤ 1921 := by
  have q := int_text_length_le (a := i) (k := 1920) (by decide) (log_of h hn)
  have e : (PyData.int i).shown.length = (toString i).length := by
    show (Str.ofString (toString i)).length = _
    exact PySem.ofString_length _
  omega
theorem dR_shows {r : R} {n : Nat} (h : Wf n r) (hn : n ≤ 1900) : Shows (dR r) where
  sh := by
    show (decide (r.1.natAbs.log2 < 1920) && (decide (r.2.natAbs.log2 < 1920) && true)) = true
    rw [decide_eq_true (log_of h.top hn), decide_eq_true (log_of h.bot hn)]; rfl
  nd := rfl
  sz := by
    have a := len_of h.top hn
    have b := len_of h.bot hn
    have q := tupleText_len_le [(PyData.int r.1).shown, (PyData.int r.2).shown]
    have e : (dR r).shown = tupleText [(PyData.int r.1).shown, (PyData.int r.2).shown] := rfl
    rw [e]
    simp only [List.map_cons, List.map_nil, List.sum_cons, List.sum_nil, List.length_cons, List.length_nil] at q
    have : sizeLine = 16777216 := by decide
    omega
  dp := by show max 0 (max 0 0) + 1 ≤ 16; decide
end B
namespace B
open PySem L2 PyProof.Rows
def dL (rs : List R) : PyData := .list (rs.map dR)
/-- over a list or a tuple -/
def iSeq (K : PySem.W.Frag) (tl : TE) : TI := fun σ H R => tl σ H fun x H1 => (∃ a, x = .ref a ∧ (∃ xs, SqL K H1 a xs) ∧ R (Itl K a) H1) ∨ (∃ a, x = .ref a ∧ (∃ xs, SqT K H1 a xs) ∧ R (Itt K a) H1)
end B

namespace B
/-! ### ratios in lowest terms -/
structure Red (r : R) : Prop where
  pos : 0 < r.2
  cop : Int.gcd r.1 r.2 = 1
/-- a divisor and what is left -/
theorem gcd_parts {a b : Int} (hb : 0 < b) : ∃ g x y : Int, (Int.gcd a b : Int) = g ∧ 0 < g ∧ a = g * x ∧ b = g * y ∧ Int.gcd x y = 1 := by
  have gp := gcd_posR (a := a) hb
  obtain ⟨x, hx⟩ := Int.gcd_dvd_left a b
  obtain ⟨y, hy⟩ := Int.gcd_dvd_right a b
  refine ⟨_, x, y, rfl, gp, hx, hy, ?_⟩
  have z := Int.gcd_ediv_gcd_ediv_gcd (i := a) (j := b) (by omega)
  have e1 : a / (Int.gcd a b : Int) = x := by
    conv => lhs; lhs; rw [hx]
    exact Int.mul_ediv_cancel_left _ (by omega)
  have e2 : b / (Int.gcd a b : Int) = y := by
    conv => lhs; lhs; rw [hy]
    exact Int.mul_ediv_cancel_left _ (by omega)
  rw [e1, e2] at z
  exact z
theorem pos_of {g y b : Int} (hb : 0 < b) (hg : 0 < g) (e : b = g * y) : 0 < y := by
  rcases Int.lt_or_le 0 y with h | h
  · exact h
  · have := Int.mul_le_mul_of_nonneg_left h (Int.le_of_lt hg)
    rw [Int.mul_zero] at this
    omega
/-- the sum as it is reckoned by the divisor of the bottoms -/
def plusG (r q : R) : R :=
  let d : Int := (Int.gcd r.2 q.2 : Nat)
  let t := r.1 * (q.2 / d) + q.1 * (r.2 / d)
  let e : Int := (Int.gcd t d : Nat)
  (t / e, r.2 / d * (q.2 / e))
def timesG (r q : R) : R :=
  let l : Int := (Int.gcd r.1 q.2 : Nat)
  let m : Int := (Int.gcd q.1 r.2 : Nat)
  (r.1 / l * (q.1 / m), r.2 / m * (q.2 / l))
end B

namespace B
open PySem L2 PyProof.Rows
/-! ### quotients by numbers of either sign -/
def CQuoN (_ j : Int) : Prop := j ≠ 0 ∧ j.natAbs < 2 ^ 4000
theorem op_quoN {X : Cx} : OpR X (binaryOp .FloorDiv) (rI CQuoN fun i j => .int (i.fdiv j)) := opI fun i j _ _ _ _ _ hc q => by
  have h1 : j ≠ 0 := hc.1
  have h2 : j.natAbs < 2 ^ 4000 := hc.2
  refine floordiv_int h1 q (.inl (PyProof.noPylong_of_log2 ?_))
  exact Nat.lt_trans ((Nat.log2_lt (show j.natAbs ≠ 0 by omega)).mpr h2) (by decide)
/-- the ratio of any two numbers, the second not nought -/
def mkS (a b : Int) : R := if b < 0 then mkR (-a) (-b) else mkR a b
theorem mkS_pos {a b : Int} (h : 0 < b) : mkS a b = mkR a b := by unfold mkS; rw [if_neg (by omega)]
theorem fdiv_pos {a g : Int} (h : 0 < g) : a.fdiv g = a / g := Int.fdiv_eq_ediv_of_nonneg a (by omega)
theorem fdiv_negg {a g : Int} (h : 0 < g) : a.fdiv (-g) = -a / g := by
  have e : a.fdiv (-g) = (-a).fdiv g := by
    have := Int.neg_fdiv_neg (-a) g
    rw [Int.neg_neg] at this
    exact this
  rw [e, fdiv_pos h]
theorem gcd_neg2 (a b : Int) : Int.gcd (-a) (-b) = Int.gcd a b := by simp [Int.gcd]
theorem gcd_posN {a b : Int} (hb : b ≠ 0) : 0 < (Int.gcd a b : Int) := by
  have h : Int.gcd a b ≠ 0 := fun z => hb (Int.gcd_eq_zero_iff.mp z).2
  omega
theorem gcd_big {a b : Int} (hb : b ≠ 0) (hz : b.natAbs < 2 ^ 4000) : ((Int.gcd a b : Nat) : Int).natAbs < 2 ^ 4000 := by
  have z : Int.gcd a b ≤ b.natAbs := Nat.le_of_dvd (by omega) (by have := Int.gcd_dvd_right a b; exact Int.natAbs_dvd_natAbs.mpr this)
  have e : ((Int.gcd a b : Nat) : Int).natAbs = Int.gcd a b := Int.natAbs_natCast _
  omega
theorem mkS_pos1 {a b : Int} (hb : 0 < b) : (a.fdiv (Int.gcd a b : Int), b.fdiv (Int.gcd a b : Int)) = mkS a b := by
  rw [mkS_pos hb, fdiv_pos (gcd_posR hb), fdiv_pos (gcd_posR hb)]; rfl
theorem mkS_neg1 {a b : Int} (hb : b < 0) : (a.fdiv (-(Int.gcd a b : Int)), b.fdiv (-(Int.gcd a b : Int))) = mkS a b := by
  have g := gcd_posN (a := a) (b := b) (by omega)
  unfold mkS
  rw [if_pos hb, fdiv_negg g, fdiv_negg g]
  unfold mkR
  rw [gcd_neg2]
def minusR (r q : R) : R := mkR (r.1 * q.2 - q.1 * r.2) (r.2 * q.2)
def overR (r q : R) : R := mkS (r.1 * q.2) (r.2 * q.1)
/-! ### lists and tuples of short things, shown -/
structure Small (d : PyData) : Prop where
  sh : d.showable = true
  nd : d.hasDict = false
  sz : d.shown.length ≤ 5000
  dp : d.depth ≤ 8
theorem small_dR {r : R} {n : Nat} (h : Wf n r) (hn : n ≤ 1900) : Small (dR r) where
  sh := (dR_shows h hn).sh
  nd := rfl
  sz := by
    have a := len_of h.top hn
    have b := len_of h.bot hn
    have q := tupleText_len_le [(PyData.int r.1).shown, (PyData.int r.2).shown]
    have e : (dR r).shown = tupleText [(PyData.int r.1).shown, (PyData.int r.2).shown] := rfl
    rw [e]
    simp only [List.map_cons, List.map_nil, List.sum_cons, List.sum_nil, List.length_cons, List.length_nil] at q
    omega
  dp := by show max 0 (max 0 0) + 1 ≤ 8; decide
end B

namespace B
end B

namespace B
open PySem PySem.Spec L2 PyProof.Rows
/-! ### an own class of errors, made: its own __init__ behind BaseException's __new__ -/
section
variable {prog : Program} {w : World} {A : Around} {E : Value → Shared → Prop} {h : Heap} {g : Array GenState} {d : Drawn} {t : Nat} {os : OsState} {K : PySem.W.Frag}
variable {nm q : Str} {C N : Addr} {bs bm bmB : List Value} {hdct : Bool} {sn : List Str} {sub : List Value} {ab : Bool} {col : Option Bool} {dd : Option Addr} {k0 k1 k2 k3 k5 : Option Value} {bN newId initId : String}
theorem exc_typecall (F : ExcBaseFacts bN newId initId bmB) (T : OwnTail h bmB bm) {rest : List Value} {fI : Addr} {Q : Fin → Shared → Prop} (X : K.In h)
    (hC : h.get? C = some (excClassObj nm q C N bs bm hdct sn sub ab col dd k0 k1 k2 k3 k5 newId)) (hi : PySem.W.findIn K (.ref C) "__init__" = some (some (.ref fI))) (hf : PySem.W.typeIn K (.ref fI) = some (.type "function"))
    (hq : ∀ h' e, Heap.MadeExcOf h h' e (.ref C) rest → wpAny (model prog w) A (call (.ref fI) (.ref e :: rest)) (fun r s' => r = .none ∧ Q (.done (.ret (.ref e))) s') E ⟨h', g, d, t, os⟩) (hz : rest.length ≤ sizeLine) :
    wpAny (model prog w) A (Builtin.«type.__call__» ⟨.ref C :: rest, []⟩) Q E ⟨h, g, d, t, os⟩ := by
  repeat (first
    | with_reducible refine wpAny_loadPart_at hC ?_
    | with_reducible refine wpAny_madeBy_exc hC ?_
    | wp_step)
  refine codeAny_call_builtin_code (Code.quiet_builtin _ F.quiet)
    (wpAny_check_new_subT F T hC ?_)
  refine codeAny_exc_new_subT F T hC ?_ hz
  show wpAny _ _ _ _ _ _
  have up : ∀ b o, h.get? b = some o → ((h.push { cls := .type "tuple", data := .seq rest.toArray }).push
      { cls := .ref C, data := .fields #[.ref h.objs.size, .none, .none, .none, .bool false, .none] }).get? b = some o := fun b o e =>
    Heap.get?_push_of_some _ (Heap.get?_push_of_some _ e)
  have hC₁ := up _ _ hC
  have X₁ := X.keeps up
  have hx : ((h.push { cls := .type "tuple", data := .seq rest.toArray }).push
      { cls := .ref C, data := .fields #[.ref h.objs.size, .none, .none, .none, .bool false, .none] }).get? (h.objs.size + 1) =
      some { cls := .ref C, data := .fields #[.ref h.objs.size, .none, .none, .none, .bool false, .none] } := by heap_get
  have hcC : (Value.ref C :: bm).contains (.ref C) = true := by simp
  unfold isInstance
  repeat (first
    | with_reducible refine wpAny_loadPart_at hx ?_
    | (with_reducible refine wpAny_isSubtype_exc hC₁ ?_
       rw [hcC])
    | wp_step)
  show wpAny _ _ (typeLookup (.ref C) _) _ _ _
  refine (PySem.W.looks_findIn X₁ hi) _ _ _ _ (fun _ _ e => e) ?_
  refine wpAny_holding (wpAny_bind ?_)
  refine (PySem.W.bind_fn X₁ _ hf) _ _ _ _ (fun _ _ e => e) ?_
  refine wpAny_bind (wpAny_mono (hq _ (h.objs.size + 1)
    ⟨up, Heap.get?_none_of_le (Nat.le_succ _), h.objs.size, hx, Heap.get?_none_of_le (Nat.le_refl _), ?_⟩) (fun r s' hr => ?_) fun _ _ y => y)
  · exact Heap.get?_push_of_some _ (Heap.get?_push_at rfl rfl)
  · obtain ⟨rfl, hQ⟩ := hr
    wp_walk
    exact hQ
theorem exc_call (F : ExcBaseFacts bN newId initId bmB) (T : OwnTail h bmB bm) {rest : List Value} {fI : Addr} {Q : Value → Shared → Prop} (X : K.In h)
    (hC : h.get? C = some (excClassObj nm q C N bs bm hdct sn sub ab col dd k0 k1 k2 k3 k5 newId)) (hi : PySem.W.findIn K (.ref C) "__init__" = some (some (.ref fI))) (hf : PySem.W.typeIn K (.ref fI) = some (.type "function"))
    (hq : ∀ h' e, Heap.MadeExcOf h h' e (.ref C) rest → wpAny (model prog w) (A.under (.builtin "type.__call__" ⟨.ref C :: rest, []⟩)) (call (.ref fI) (.ref e :: rest)) (fun r s' => r = .none ∧ Q (.ref e) s') E ⟨h', g, d, t, os⟩) (hz : rest.length ≤ sizeLine) :
    wpAny (model prog w) A (call (.ref C) rest) Q E ⟨h, g, d, t, os⟩ := by
  have f1 := tc_lookup
  have f2 := tc_bind (.ref C)
  have hT : (⟨h, g, d, t, os⟩ : Shared).TypeIs (.ref C) "type" := ⟨_, hC, rfl⟩
  refine wpAny_call (codeAny_of_tree ?_)
  show wpAny _ _ (callAny (.ref C) _) _ _ _
  repeat (any_goals (first
    | assumption
    | with_reducible refine wpAny_loadPart_at hC ?_
    | wp_step))
  refine ⟨rfl, ?_⟩
  refine codeAny_call_builtin_at (Code.quiet_builtin _ (by decide +kernel)) entry_typeCall
    (wpAny_check_type_call_sub hC (exc_typecall F T X hC hi hf (fun h' e hm => ?_) hz))
  exact hq h' e hm
end
end B
namespace B
open PySem PySem.Spec L2 PyProof.Rows
def vMro : List Value := [.type "ValueError", .type "Exception", .type "BaseException", .type "object"]
/-- what storing into an error asks of its class -/
structure ClsX (K : PySem.W.Frag) (C : Addr) (bm : List Value) : Prop where
  ob : ∃ nm q N bs hdct sn sub ab col dd k0 k1 k2 k3 k5, K.lookup C = some (excClassObj nm q C N bs bm hdct sn sub ab col dd k0 k1 k2 k3 k5 "ValueError.__new__")
  tl : ∀ h : Heap, K.In h → OwnTail h vMro bm
  hd : PySem.W.hasDictIn K C = true
  sa : PySem.W.findIn K (.ref C) "__setattr__" = some (some (.builtin "object.__setattr__"))
theorem lets_by {h : Heap} {tl : List Value} (T : OwnTail h vMro tl) (self : Value) : refuseLoop self "__setattr__" tl = pure () := by
  induction T with
  | base => exact PySem.F.store_ValueError.passes self
  | own _ _ _ _ ih => rw [refuseLoop_ref]; exact ih
theorem clsX_cls {K : PySem.W.Frag} {C : Addr} {bm : List Value} (c : ClsX K C bm) : ∃ cd, PySem.W.clsIn K C = some cd ∧ cd.mro = .ref C :: bm := by
  obtain ⟨nm, q, N, bs, hdct, sn, sub, ab, col, dd, k0, k1, k2, k3, k5, lk⟩ := c.ob
  unfold PySem.W.clsIn
  rw [lk]
  exact ⟨_, rfl, rfl⟩
section
variable {prog : Program} {w : World} {A : Around} {s : Shared} {K : PySem.W.Frag} {x C : Addr} {R : Result → Shared → Prop}
theorem store_err {ox : Obj} {od : Option Obj} {name : Str} {tk : Tok} {v : Value} {bm : List Value} (X : K.In s.heap) (I : PySem.W.InstAt s.heap x ox C od) (c : ClsX K C bm) (n : NoAttr K C name)
    (h : ∀ b, wpAny (model prog w) A.in1 (Builtin.ObjectAttr.storeInOwnDict (.ref x) (.ref C) (.str name tk) name v b) (fun fin s' => match fin with
      | .done f => R (.ok f) s'
      | .again c' => c'.quiet = true ∧ codeAny (model prog w) A c' R s') (fun e s' => R (.error e) s') s) :
    codeAny (model prog w) A (.call (.builtin "object.__setattr__") ⟨[.ref x, .str name tk, v], []⟩) R s := by
  have sf := PySem.F.store_object
  obtain ⟨cd, hc, hm⟩ := clsX_cls c
  have T := c.tl _ X
  have hob : (Value.ref C :: bm).contains (.type "object") = true := by
    rw [List.contains_cons, T.hasType (X := "object") (b := true) (by decide +kernel), Bool.or_true]
  have isO : PySem.W.Looks (model prog w) s.heap (isInstance (.ref x) (.type "object")) true := by
    refine I.type.andThen (PySem.W.looks_mroIn X ?_)
    unfold PySem.W.mroIn
    rw [hc]
    show (if cd.mro.isEmpty = true then none else some (cd.mro.contains (.type "object"))) = some true
    rw [hm, hob]; rfl
  have ms : PySem.W.Looks (model prog w) s.heap (mroOf (.ref C)) (.ref C :: bm) := by
    rw [← hm]; exact (PySem.W.looks_clsIn X hc).andThen .now
  refine codeAny_call_builtin sf.slot.plain sf.entry (PySem.W.check_slot (i := "object.__setattr__") (owner := "object") (n := "__setattr__") sf.kind sf.split isO (sf.args _ _ _) ?_)
  rw [PySem.W.osa_eq, refuse_eq]
  refine wpAny_bind (wpAny_bind (I.type.here (wpAny_bind (ms.here ?_))))
  rw [refuseLoop_ref, lets_by T]
  refine wpAny_pure (wpAny_bind (I.type.here (wpAny_bind ((PySem.W.looks_findIn X n).here (wpAny_bind ?_)))))
  exact PySem.W.Looks.here (r := none) .now (h _)
end
/-! ### an error as a tracked thing -/
def ExcO (a C : Addr) (dx : Option Addr) : Heap → Prop := fun h => ∃ t : Addr, h.get? a = some { cls := .ref C, dict := dx, data := .fields #[.ref t, .none, .none, .none, .bool false, .none] }
def exO (a C : Addr) (dx : Option Addr) : HO := .ext (ExcO a C dx)
theorem exO_ok {P : Program} {w : World} {H : Hp} {h : Heap} {a C : Addr} {dx : Option Addr} (e : ExcO a C dx h) : ObjOk P w H h a (exO a C dx) :=
  ⟨e, let ⟨_, q⟩ := e; ⟨_, q⟩, fun _ _ ⟨t, q⟩ k => ⟨t, k _ q⟩⟩
/-- no longer tracked -/
def del (H : Hp) (a : Addr) : Hp := fun b => if b = a then none else H b
theorem del_same {H : Hp} {a : Addr} : del H a a = none := by unfold del; rw [if_pos rfl]
theorem del_ne {H : Hp} {a b : Addr} (h : b ≠ a) : del H a b = H b := by unfold del; rw [if_neg h]
section
variable {X : Cx} {pins : List (Addr × Obj)} {σ : L2.St} {H : Hp} {s : Shared} {a C : Addr} {dx : Option Addr}
theorem Inv.forget {φ : Heap → Prop} (I : L2.Inv X pins σ H s) (e : H a = some (.ext φ)) (new : X.s₀.heap.get? a = none) : L2.Inv X pins σ (del H a) s := by
  have none_of : ∀ b, H b = none → del H a b = none := fun b h => by
    by_cases z : b = a
    · rw [z]; exact del_same
    · rw [del_ne z]; exact h
  refine ⟨I.ok, I.os, I.bare, ⟨I.base.keep, I.base.slot, fun b o q n hx => none_of b (I.base.free b o q n hx), I.base.there, fun b xs q => ?_, fun b o u q => ?_, fun b ps q => ?_⟩, I.loc, I.cell, none_of _ I.free, fun x c q => none_of _ (I.freeC x c q), fun p hp => ?_, fun b o q => ?_, I.len⟩
  · have z := I.base.tups b xs q
    rw [del_ne (fun k => by rw [k, e] at z; cases z)]; exact z
  · have z := I.base.frzs b o u q
    rw [del_ne (fun k => by rw [k, e] at z; cases z)]; exact z
  · obtain ⟨m, z⟩ := I.base.tbls b ps q
    exact ⟨m, by rw [del_ne (fun k => by rw [k, e] at z; cases z)]; exact z⟩
  · obtain ⟨p1, p2, p3⟩ := I.pin p hp
    exact ⟨p1, none_of _ p2, p3⟩
  · have nb : b ≠ a := fun z => by rw [z, del_same] at q; cases q
    rw [del_ne nb] at q
    refine (I.hok b o q).stay (fun c u _ z => z) (fun c z => ?_) (fun c xs z => ?_)
    · rw [del_ne (fun k => by rw [k, e] at z; cases z)]; exact z
    · rw [del_ne (fun k => by rw [k, e] at z; cases z)]; exact z
end
end B

namespace B
open PySem PySem.Spec L2 PyProof.Rows
theorem ObjOk.get {P : Program} {w : World} {H : Hp} {h : Heap} {a : Addr} {o : HO} (x : L2.ObjOk P w H h a o) : ∃ u, h.get? a = some u := by
  cases o with
  | lst xs => obtain ⟨_, _, _, _, e⟩ := x; exact ⟨_, e⟩
  | tup xs => obtain ⟨_, _, _, o, e, _⟩ := x; exact ⟨_, e⟩
  | dK kvs => obtain ⟨_, _, _, _, o, _, _, e, _⟩ := x; exact ⟨_, e⟩
  | dT kvs => obtain ⟨_, _, _, _, o, _, _, e, _⟩ := x; exact ⟨_, e⟩
  | set S n => obtain ⟨o, _, _, _, e, _⟩ := x; exact ⟨_, e⟩
  | ins C dx fs => obtain ⟨_, _, _, e, _⟩ := x; exact ⟨_, e⟩
  | own y => exact x
  | xd fs => obtain ⟨_, ⟨_, _, _, e, _⟩, _⟩ := x; exact ⟨_, e⟩
  | rng lo hi => obtain ⟨_, _, _, e⟩ := x; exact ⟨_, e⟩
  | frz ob u => obtain ⟨e, _⟩ := x; exact ⟨_, e⟩
  | tbl ps => exact ⟨_, show h.get? a = some _ from x⟩
  | met f y => exact ⟨_, show h.get? a = some _ from x⟩
  | ext φ => exact x.2.1
/-- an error that has left a frame: its record and its newest entry -/
def Trc (h : Heap) (H : Hp) (x C T : Addr) (a0 : Value) : Prop :=
  ∃ oe vs oT ts, h.get? x = some oe ∧ oe.cls = .ref C ∧ vs[0]? = some a0 ∧ oe.data = .fields vs ∧ vs[1]? = some (.ref T) ∧ H T = none ∧ T ≠ x ∧ h.get? T = some oT ∧ oT.data = .fields ts ∧ ts[3]? = some .none
/-- how an error lies behind a call -/
def CXR (P : Program) (w : World) : CXT := fun outer H s E e s' => ∃ (x C T : Addr) (a0 : Value) (H' : Hp), e = .ref x ∧ s'.os = s.os ∧ AllBare s'.gens ∧ Un (frs outer) [] H H' s.heap s'.heap ∧ HOk P w H' s'.heap ∧ s.heap.get? x = none ∧ s.heap.get? T = none ∧ H' x = none ∧
  Trc s'.heap H' x C T a0 ∧ E (.ref C) none H'
/-- an address that nothing of the context stands at -/
structure NewAt (X : Cx) (pins : List (Addr × Obj)) (a : Addr) : Prop where
  st : X.s₀.heap.get? a = none
  lo : a ≠ X.env.locals
  ce : ∀ x c, X.env.cells.lookup x = some c → c ≠ a
  pi : ∀ p ∈ X.pn ++ pins, p.1 ≠ a
  fr : a ∉ frs X.stack
section
variable {X : Cx} {pins : List (Addr × Obj)} {σ : L2.St} {H H' : Hp} {s : Shared} {a : Addr}
theorem Inv.newAt (I : L2.Inv X pins σ H s) (hex : X.ex = []) (h : s.heap.get? a = none) : NewAt X pins a where
  st := by
    cases e : X.s₀.heap.get? a with
    | none => rfl
    | some o =>
      obtain ⟨o', q⟩ := I.base.there a o e (by rw [hex]; simp)
      rw [h] at q; cases q
  lo := fun z => by
    obtain ⟨m, ⟨o, _, _, q, _⟩, _⟩ := I.loc
    rw [← z, h] at q; cases q
  ce := fun x c e z => by
    obtain ⟨v, o, q, _⟩ := I.cell x c e
    rw [z, h] at q; cases q
  pi := fun p hp z => by
    obtain ⟨q, _⟩ := I.pin p hp
    rw [z, h] at q; cases q
  fr := fun z => by
    obtain ⟨_, o, q, _⟩ := I.stack.mem z
    rw [h] at q; cases q
end
end B

namespace B
open PySem PySem.Spec L2 PyProof.Rows
section
variable {X : Cx} {pins : List (Addr × Obj)} {σ : L2.St} {H : Hp} {s : Shared} {a : Addr} {o : HO}
/-- a new thing of the heap is tracked from here on -/
theorem Inv.adopt (I : L2.Inv X pins σ H s) (na : NewAt X pins a) (ha : H a = none) (hex : X.ex = []) (new : L2.ObjOk X.prog X.w (upd H a o) s.heap a o) : L2.Inv X pins σ (upd H a o) s := by
  have keep : ∀ b u, H b = some u → upd H a o b = some u := fun b u q => by rw [upd_ne (ne_of_none q ha)]; exact q
  have nn : ∀ b, b ≠ a → H b = none → upd H a o b = none := fun b nb q => by rw [upd_ne nb]; exact q
  refine ⟨I.ok, I.os, I.bare, ⟨I.base.keep, I.base.slot, fun b u q n hx => nn b (fun z => by rw [z, na.st] at q; cases q) (I.base.free b u q n hx), I.base.there, fun b xs q => keep _ _ (I.base.tups b xs q), fun b u v q => keep _ _ (I.base.frzs b u v q), fun b ps q => ?_⟩, I.loc, I.cell, nn _ na.lo.symm I.free, fun x c q => nn _ (na.ce x c q) (I.freeC x c q), fun p hp => ?_, fun b u q => ?_, I.len⟩
  · obtain ⟨m, z⟩ := I.base.tbls b ps q
    exact ⟨m, keep _ _ z⟩
  · obtain ⟨p1, p2, p3⟩ := I.pin p hp
    exact ⟨p1, nn _ (na.pi p hp) p2, p3⟩
  · by_cases z : b = a
    · subst z
      rw [upd_same] at q; cases q
      exact new
    · rw [upd_ne z] at q
      exact (I.hok b u q).stay (fun c v _ w => w) (fun c w => keep _ _ w) (fun c xs w => keep _ _ w)
theorem Inv.none_of (I : L2.Inv X pins σ H s) (h : s.heap.get? a = none) : H a = none := by
  cases q : H a with
  | none => rfl
  | some o => obtain ⟨u, z⟩ := ObjOk.get (I.hok a o q); rw [h] at z; cases z
end
/-- what of the text an own class of errors must have: C with its __init__ f, straight under P0, that one under ValueError -/
structure XC (K : PySem.W.Frag) (C f : Addr) (bm : List Value) : Prop where
  ob : ∃ nm q N bs hdct sn sub ab col dd k0 k1 k2 k3 k5, K.lookup C = some (excClassObj nm q C N bs bm hdct sn sub ab col dd k0 k1 k2 k3 k5 "ValueError.__new__")
  tl : ∀ h : Heap, K.In h → OwnTail h vMro bm
  init : PySem.W.findIn K (.ref C) "__init__" = some (some (.ref f))
  fn : PySem.W.typeIn K (.ref f) = some (.type "function")
  kp : PySem.W.keepIn K (.ref C) = true
  cl : ClsX K C bm
section
variable {X : Cx} {k : Nat} {f C : Addr} {fd : FuncData} {ps : List Str} {sp : Sp} {bm : List Value}
theorem run_exc {pins : List (Addr × Obj)} {σ : L2.St} {H : Hp} {s : Shared} {Q : Addr → Hp → Prop} {us : List Value} {vs : List V} {E' : Value → Shared → Prop} (M : XC X.K C f bm) (hex : X.ex = []) (F : FnOk X.prog X.w X.K X.mg X.base CX0 k f fd ps sp) (hr : Room (k + 1) X.A) (hb : Binds X.K fd ps [])
    (I : L2.Inv X pins σ H s) (r : Vals vs us) (hz : us.length ≤ sizeLine) (h : ∀ a, H a = none → sp (.ref a :: vs) (upd H a (exO a C none)) (fun v H2 => v = .non ∧ Q a H2) E0) :
    wpAny (model X.prog X.w) X.A (call (.ref C) us) (fun v s' => ∃ a H', v = .ref a ∧ NewAt X pins a ∧ L2.Inv X pins σ H' s' ∧ Q a H') E' s := by
  obtain ⟨nm, q, N, bs, hdct, sn, sub, ab, col, dd, k0, k1, k2, k3, k5, lk⟩ := M.ob
  obtain ⟨hp, g, d, t, os⟩ := s
  refine exc_call PySem.F.excBase_ValueError (M.tl hp I.kIn) I.kIn (I.kIn _ _ lk) M.init M.fn (fun h' e hm => ?_) hz
  have na := B.Inv.newAt I hex hm.new
  have he := B.Inv.none_of I hm.new
  obtain ⟨tt, ho, _⟩ := hm.there
  have I1 : L2.Inv X pins σ H ⟨h', g, d, t, os⟩ := I.kept (t' := t) hm.keeps
  have I2 : L2.Inv X pins σ (upd H e (exO e C none)) ⟨h', g, d, t, os⟩ := B.Inv.adopt I1 na he hex (exO_ok ⟨tt, ho⟩)
  have hq := h e he
  have r2 : Vals (V.ref e :: vs) (Value.ref e :: us) := .cons rfl r
  have hl : (Value.ref e :: us).length = ps.length := by
    have z := r2.length
    rw [F.len _ _ _ _ hq] at z
    exact z.symm
  have hbd := hb ⟨h', g, d, t, os⟩ (Value.ref e :: us) I2.kIn (by rw [List.append_nil]; exact hl)
  rw [List.append_nil] at hbd
  refine wpAny_call (codeAny_mono (F.run _ X.stack _ _ ⟨Value.ref e :: us, []⟩ (Value.ref e :: us) _ _ E0 (hr.make C us []) (I2.env0.make C us []) hbd r2 hq) fun r s' hq' => ?_)
  cases r with
  | error e => exact False.elim hq'
  | ok fl =>
    cases fl with
    | ret u =>
      obtain ⟨v, H', I3, rv, ev, q3⟩ := I2.after hq'
      subst ev
      exact ⟨rv, e, H', rfl, na, I3, q3⟩
    | next => exact False.elim hq'
    | brk => exact False.elim hq'
    | cont => exact False.elim hq'
/-- the context takes an error that is made in it -/
def Takes (X : Cx) (E : XK) : Prop := ∀ (pins : List (Addr × Obj)) (σ : L2.St) (H : Hp) (s : Shared) (a C : Addr) (oe : Obj) (vs : Array Value) (a0 : Value), L2.Inv X pins σ H s → H a = none → NewAt X pins a → s.heap.get? a = some oe → oe.data = .fields vs →
  vs[0]? = some a0 → vs[1]? = some .none → oe.cls = .ref C → E (.ref C) none H → X.xe (.ref a) s
/-- raise, of an error just made -/
theorem raise_own {M : Model} {A : Around} {E : Value → Shared → Prop} {env : Env} {nm q : Str} {N : Addr} {bs : List Value} {hdct : Bool} {sn : List Str} {sub : List Value} {ab : Bool} {col : Option Bool} {dd : Option Addr} {k0 k1 k2 k3 k5 : Option Value} {newId : String}
    {s : Shared} {x : Sem Value} {Q : Flow → Shared → Prop} (hbase : bm.contains (.type "BaseException") = true) (hh : A.handled = none)
    (h : wpAny M A x (fun v s₁ => ∃ e t dx, v = .ref e ∧ s₁.heap.get? C = some (excClassObj nm q C N bs bm hdct sn sub ab col dd k0 k1 k2 k3 k5 newId) ∧
      s₁.heap.get? e = some { cls := .ref C, dict := dx, data := .fields #[.ref t, .none, .none, .none, .bool false, .none] } ∧ E (.ref e) s₁) E s) :
    wpAny M A (raiseStmt env (some x) none) Q E s := by
  have hcB : (Value.ref C :: bm).contains (.type "BaseException") = true := by rw [List.contains_cons, hbase, Bool.or_true]
  unfold raiseStmt
  refine wpAny_bind (wpAny_mono h (fun v s₁ h₁ => ?_) fun _ _ y => y)
  obtain ⟨e, t, dx, rfl, hC, he, hE⟩ := h₁
  obtain ⟨hp, g, d, tk, os⟩ := s₁
  repeat (first
    | with_reducible refine wpAny_loadPart_at he ?_
    | with_reducible refine wpAny_loadPart_at hC ?_
    | (with_reducible refine wpAny_isSubtype_exc hC ?_
       rw [hcB])
    | wp_step)
  exact wpAny_raiseNew_none hh hE
/-- raise C(e, ..) -/
def tRaise (C : Addr) (sp : Sp) (E : XK) (t : TA) : TS := fun _ σ H => t σ H fun vs H1 => vs.length ≤ sizeLine ∧ ∀ a, H1 a = none → sp (.ref a :: vs) (upd H1 a (exO a C none)) (fun v H2 => v = .non ∧ (∃ dx, H2 a = some (exO a C dx)) ∧ E (.ref C) none (del H2 a)) E0
end
end B

namespace B
open PySem PySem.Spec L2 PyProof.Rows
/-! ### try: a callee's error is caught -/
section
variable {X : Cx} {pins : List (Addr × Obj)} {σ : L2.St} {H : Hp} {s : Shared} {a C T : Addr} {a0 : Value}
end
/-- the names forgotten -/
def hid (N : List Str) : L2.St := List.replicate N.length none
theorem hid_weak {X : Cx} {pins : List (Addr × Obj)} {σ : L2.St} {H : Hp} {s : Shared} (I : L2.Inv X pins σ H s) : L2.Inv X pins (hid X.N) H s :=
  I.weak (by rw [I.len]; exact List.length_replicate) fun i v q => by
    unfold hid at q
    rw [List.getElem?_replicate] at q
    split at q <;> cases q
/-- how an error flies in a try's body -/
def Fly (X : Cx) (pins : List (Addr × Obj)) (R : Addr → Hp → Prop) : Value → Shared → Prop := fun e s => ∃ (x C T : Addr) (a0 : Value) (H : Hp), e = .ref x ∧ L2.Inv X pins (hid X.N) H s ∧ H x = none ∧ NewAt X pins x ∧ NewAt X pins T ∧ Trc s.heap H x C T a0 ∧ R C H
/-- a try's body -/
def inTry (X : Cx) (pins : List (Addr × Obj)) (R : Addr → Hp → Prop) : Cx := { X with pn := X.pn ++ pins, xe := Fly X pins R }
/-- an except's suite -/
def inExc (X : Cx) (e : Addr) : Cx := { X with A := X.A.mark (some (.ref e)), calm := false, xe := fun _ _ => False }
section
variable {X : Cx} {pins pins' : List (Addr × Obj)} {σ : L2.St} {H : Hp} {s : Shared} {R : Addr → Hp → Prop} {e : Addr}
theorem toExc (I : L2.Inv X pins σ H s) : L2.Inv (inExc X e) pins σ H s :=
  ⟨⟨I.ok.mod, I.ok.kind, I.ok.glob, I.ok.blt, I.ok.above, I.ok.inj, I.ok.has, I.ok.cab, (fun z => nomatch z), I.ok.frames, I.ok.stk, I.ok.exf, I.ok.bs, I.ok.bsz, I.ok.noex, I.ok.exfs, I.ok.funs, I.ok.frf⟩, I.os, I.bare, I.base, I.loc, I.cell, I.free, I.freeC, I.pin, I.hok, I.len⟩
theorem ofExc (ok : X.Ok) (I : L2.Inv (inExc X e) pins σ H s) : L2.Inv X pins σ H s :=
  ⟨ok, I.os, I.bare, I.base, I.loc, I.cell, I.free, I.freeC, I.pin, I.hok, I.len⟩
end
/-- try: body except C: suite, where the error is always one of C -/
def tTry (N : List Str) (R : Addr → Hp → Prop) (Ok : Addr → Prop) (tb : TS) (th : TS) : TS := fun D σ H => tb D σ H ∧ ∀ C H', R C H' → Ok C ∧ th D (hid N) H'
section
variable {X : Cx} {R : Addr → Hp → Prop} {body : List Stmt} {b₀ : Stmt} {suite : List Stmt} {x : Str} {p hpos pos : Pos} {u : Value} {tb th : TS}
end
/-! ### e.f = v, in an error's __init__ -/
section
variable {X : Cx} {o value : Expr} {f : Str} {ta tv : TE} {pos' pos : Pos}
def sFldX (K : PySem.W.Frag) (ta tv : TE) (f : Str) : TS := fun D σ H => tv σ H fun _ H1 => ta σ H1 fun x H2 => ∃ a C bm, x = .ref a ∧ H2 a = some (exO a C none) ∧ ClsX K C bm ∧ NoAttr K C f ∧ ∀ d, D.nx σ (upd H2 a (exO a C (some d)))
end
end B
namespace B
open PySem PySem.Spec L2 PyProof.Rows
def EofR (R : Addr → Hp → Prop) : XK := fun v _ H => ∃ C, v = .ref C ∧ R C H
theorem vm_has (a : Addr) : (Value.ref a :: vMro).contains (.type "BaseException") = true := by rw [List.contains_cons, (by decide +kernel : vMro.contains (.type "BaseException") = true), Bool.or_true]
def strKeysB (es : Array DictEntry) : Bool := es.toList.all fun e => match e.key with
  | .str _ _ => true
  | _ => false
theorem strKeys_of {es : Array DictEntry} (h : strKeysB es = true) : StrKeys es := fun e he => by
  have z := List.all_eq_true.mp h e (Array.mem_toList_iff.mpr he)
  revert z
  cases e.key <;> intro z <;> first | exact ⟨_, _, rfl⟩ | (cases z)
/-- the facts of an own class of errors -/
theorem xc_mk {K : PySem.W.Frag} {C f B0 NB : Addr} {nm q nmB qB : Str} {N : Addr} {bs bsB : List Value} {hdct hdctB : Bool} {sn snB : List Str} {sub subB : List Value} {ab abB : Bool} {col colB : Option Bool} {dd ddB : Option Addr} {k0 k1 k2 k3 k5 j0 j1 j2 j3 j5 : Option Value}
    {oc : Value} {od : Option Addr} {es : Array DictEntry} {n : Nat} {sl : Array (Option Value)}
    (lc : K.lookup C = some (excClassObj nm q C N bs (.ref B0 :: [.type "ValueError", .type "Exception", .type "BaseException", .type "object"]) hdct sn sub ab col dd k0 k1 k2 k3 k5 "ValueError.__new__"))
    (lb : K.lookup B0 = some (excClassObj nmB qB B0 NB bsB [.type "ValueError", .type "Exception", .type "BaseException", .type "object"] hdctB snB subB abB colB ddB j0 j1 j2 j3 j5 "ValueError.__new__"))
    (ln : K.lookup NB = some ⟨oc, od, .dict es n, sl⟩) (hs : strKeysB es = true) (hn : (nsFind es "__init__").isNone = true)
    (fi : PySem.W.findIn K (.ref C) "__init__" = some (some (.ref f))) (ti : PySem.W.typeIn K (.ref f) = some (.type "function")) (kc : PySem.W.keepIn K (.ref C) = true) (hh : PySem.W.hasDictIn K C = true) (sa : PySem.W.findIn K (.ref C) "__setattr__" = some (some (.builtin "object.__setattr__"))) : XC K C f (.ref B0 :: vMro) :=
  have ob : ∃ nm q N bs hdct sn sub ab col dd k0 k1 k2 k3 k5, K.lookup C = some (excClassObj nm q C N bs (.ref B0 :: vMro) hdct sn sub ab col dd k0 k1 k2 k3 k5 "ValueError.__new__") := ⟨_, _, _, _, _, _, _, _, _, _, _, _, _, _, _, lc⟩
  have tl : ∀ h : Heap, K.In h → OwnTail h vMro (.ref B0 :: vMro) := fun h X => .own (X _ _ lb) ⟨_, es, n, X _ _ ln, rfl, strKeys_of hs, fun _ => rfl⟩ (Option.isNone_iff_eq_none.mp hn) .base
  ⟨ob, tl, fi, ti, kc, ob, tl, hh, sa⟩
end B

namespace B
open PySem PySem.Spec L2 PyProof.Rows
/-! ### what an error's attribute is -/
/-- what reading of an error asks of its class -/
structure GetX (K : PySem.W.Frag) (C : Addr) : Prop where
  ga : PySem.W.findIn K (.ref C) "__getattribute__" = some (some (.builtin "BaseException.__getattribute__"))
  gn : PySem.W.findIn K (.ref C) "__getattr__" = some none
  cl : PySem.W.findIn K (.ref C) "__class__" = some (some (.builtin "object.__class__"))
  cg : PySem.W.specialIn K (.builtin "object.__class__") "__get__" = some (some (.builtin "getset_descriptor.__get__"))
  ct : PySem.W.takesIn K (.builtin "object.__class__") = some true
section
variable {prog : Program} {w : World} {A : Around} {E : Value → Shared → Prop} {s : Shared} {K : PySem.W.Frag} {x C : Addr} {ox : Obj} {odo : Option Obj} {bm : List Value} {name : Str} {tk : Tok} {R : Result → Shared → Prop}
theorem err_open {fill ex : Bool} {Q : Value → Shared → Prop} (X : K.In s.heap) (I : PySem.W.InstAt s.heap x ox C odo) (g : GetX K C)
    (h : codeAny (model prog w) A (.call (.builtin "BaseException.__getattribute__") ⟨[.ref x, .str name tk], []⟩) (fun r s' => ∃ v, r = .ok (.ret v) ∧ PySem.W.handedIn v = true ∧ Q v s') s) :
    wpAny (model prog w) A (getAttrBy (.ref x) (.str name tk) fill ex) Q E s := by
  have FB := PySem.F.attrBase_ValueError
  unfold getAttrBy
  refine wpAny_holding (wpAny_bind (I.type.here (wpAny_bind ((PySem.W.looks_findIn X g.ga).here ?_))))
  have e2 : (Value.builtin "BaseException.__getattribute__" == Value.builtin "object.__getattribute__") = false := by decide +kernel
  dsimp only
  rw [e2, Bool.and_false, if_neg Bool.false_ne_true]
  unfold getAttrByItsOwn hookBefore
  rw [if_pos (show onTheHeap (Value.ref C) = true from rfl)]
  refine wpAny_bind ((PySem.W.looks_findIn X g.gn).here (wpAny_bind (wpAny_attempt (wpAny_holding ?_))))
  unfold callGetattribute
  rw [if_neg (by cases ex <;> decide)]
  unfold boundAndCalled
  rw [FB.ga.bind (.ref x)]
  refine wpAny_bind (wpAny_pure (wpAny_call (codeAny_mono h fun r s' hq => ?_)))
  obtain ⟨v, rfl, hh, q⟩ := hq
  exact PySem.W.handed_on hh q
theorem isB {X : K.In s.heap} (I : PySem.W.InstAt s.heap x ox C odo) (c : ClsX K C bm) (T : String) (hT : vMro.contains (.type T) = true) : PySem.W.Looks (model prog w) s.heap (isInstance (.ref x) (.type T)) true := by
  obtain ⟨cd, hc, hm⟩ := clsX_cls c
  have hob : (Value.ref C :: bm).contains (.type T) = true := by
    rw [List.contains_cons, (c.tl _ X).hasType (X := T) (b := true) hT, Bool.or_true]
  refine I.type.andThen (PySem.W.looks_mroIn X ?_)
  unfold PySem.W.mroIn
  rw [hc]
  show (if cd.mro.isEmpty = true then none else some (cd.mro.contains (.type T))) = some true
  rw [hm, hob]; rfl
theorem err_body (X : K.In s.heap) (I : PySem.W.InstAt s.heap x ox C odo) (c : ClsX K C bm)
    (h : wpAny (model prog w) A.in1 (Builtin.«object.__getattribute__» ⟨[.ref x, .str name tk], []⟩) (fun fin s' => match fin with
      | .done f => R (.ok f) s'
      | .again c' => c'.quiet = true ∧ codeAny (model prog w) A c' R s') (fun e s' => R (.error e) s') s) :
    codeAny (model prog w) A (.call (.builtin "BaseException.__getattribute__") ⟨[.ref x, .str name tk], []⟩) R s := by
  have FB := PySem.F.attrBase_ValueError
  exact codeAny_call_builtin FB.ga.plain PySem.F.entry_bexc_ga (PySem.W.check_slot (i := "BaseException.__getattribute__") (owner := "BaseException") (n := "__getattribute__") (by decide +kernel) (by decide +kernel) (isB (X := X) I c "BaseException" (by decide +kernel)) (PySem.F.args_bexc_ga _ _) h)
theorem err_val {v : Value} (X : K.In s.heap) (I : PySem.W.InstAt s.heap x ox C odo) (c : ClsX K C bm) (hf : PySem.W.findObj K C odo name = some (.value v)) (h : R (.ok (.ret v)) s) :
    codeAny (model prog w) A (.call (.builtin "BaseException.__getattribute__") ⟨[.ref x, .str name tk], []⟩) R s := by
  refine err_body X I c ?_
  unfold Builtin.«object.__getattribute__»
  have L := PySem.W.looks_find (M := model prog w) X I hf
  refine wpAny_bind (wpAny_pure (wpAny_bind (wpAny_pure (wpAny_bind (I.type.here (wpAny_bind (L.here ?_)))))))
  exact wpAny_pure h
end
section
variable {K : PySem.W.Frag} {x C : Addr} {ox od : Obj} {bm : List Value}
end
end B

namespace B
open PySem PySem.Spec L2 PyProof.Rows
/-! ### how an error is noted at a frame, its dict kept -/
/-- all but the frames (their slots) and the records at ch is as it was -/
structure Kept (S ch : List Addr) (h h' : Heap) : Prop where
  same : ∀ b o, b ∉ S → b ∉ ch → h.get? b = some o → h'.get? b = some o
  slot : ∀ b o, b ∉ ch → h.get? b = some o → ∃ sl, h'.get? b = some { o with slots := sl }
theorem Kept.trans {S c1 c2 : List Addr} {h h1 h2 : Heap} (a : Kept S c1 h h1) (b : Kept S c2 h1 h2) : Kept S (c1 ++ c2) h h2 where
  same := fun x o n1 n2 q => b.same x o n1 (fun z => n2 (List.mem_append_right _ z)) (a.same x o n1 (fun z => n2 (List.mem_append_left _ z)) q)
  slot := fun x o n2 q => by
    obtain ⟨sl, z⟩ := a.slot x o (fun z => n2 (List.mem_append_left _ z)) q
    obtain ⟨sl', z'⟩ := b.slot x _ (fun z => n2 (List.mem_append_right _ z)) z
    exact ⟨sl', z'⟩
theorem Kept.upd {S : List Addr} {h : Heap} {T : Addr} {f : Obj → Obj} : Kept S [T] h (h.update T f) where
  same := fun b o _ n q => by rw [Heap.get?_update_other _ _ (fun z => n (by rw [z]; exact List.mem_singleton.mpr rfl))]; exact q
  slot := fun b o n q => ⟨o.slots, by rw [Heap.get?_update_other _ _ (fun z => n (by rw [z]; exact List.mem_singleton.mpr rfl))]; exact q⟩
/-- the record of an error with its newest entry, where that one flies -/
def TrcD (h : Heap) (x C T : Addr) (dx : Option Addr) (fl : Value) : Prop :=
  ∃ oe vs oT ts, h.get? x = some oe ∧ oe.cls = .ref C ∧ oe.dict = dx ∧ oe.data = .fields vs ∧ vs[1]? = some (.ref T) ∧ T ≠ x ∧ h.get? T = some oT ∧ oT.data = .fields ts ∧ ts[3]? = some fl
section
variable {M : Model} {A : Around} {E : Value → Shared → Prop} {s : Shared} {base : Heap} {env : Env} {outer : List Env} {L e C T : Addr} {oe : Obj} {vs : Array Value} {dx : Option Addr} {fl : Value}
theorem dict_mapF (f : Array Value → Array Value) (o : Obj) : (Obj.mapFields f o).dict = o.dict := by
  unfold Obj.mapFields; split <;> rfl
theorem entryD {hadNext : Bool} {head : Value} {Q : Unit → Shared → Prop} (hfr : A.frames = some (env :: outer)) (hl : s.heap.FunFrames base (env :: outer)) (hf : env.frame = some L)
    (he : s.heap.get? e = some oe) (hd : oe.data = .fields vs) (hsz : 1 < vs.size) (hc : oe.cls = .ref C) (hx : oe.dict = dx)
    (h : ∀ h' T, Kept (frs (env :: outer)) [e] s.heap h' → s.heap.get? T = none → TrcD h' e C T dx (rawInt L) → Q () { s with heap := h' }) :
    wpAny M A (do let a ← frameOf env; let pl ← entryPlaceOf L hadNext; let b ← EntryCells.newEntry head a .none (rawInt L) .none pl; setField (.ref e) 1 b) Q E s := by
  have hene : e ∉ frs (env :: outer) := fun hm => by
    obtain ⟨_, o, ho, hnf⟩ := hl.mem hm
    rw [he] at ho; cases ho; exact hnf vs hd
  refine wpAny_bind (wpAny_frameOf_fun hfr hl hf fun h1 s1 => wpAny_bind (wpAny_entryPlaceOf fun pl hpl => ?_))
  unfold EntryCells.newEntry newFields
  refine wpAny_bind (wpAny_newObj_type ?_ (hpl.sizeOk5 _ _ _ _ _))
  have he1 : h1.get? e = some oe := (s1.2.1 e hene).trans he
  generalize hob : ({ cls := .type "traceback", dict := none, data := .fields ([head, .ref L, .none, rawInt L, .none] ++ (if pl.isEmpty then List.replicate 6 Value.none else pl)).toArray } : Obj) = ob
  have he2 := Heap.get?_push_of_some (h := h1) ob he1
  refine wpAny_setField he2 hd hsz (h _ h1.objs.size ⟨fun b o n1 n2 q => ?_, fun b o n2 q => ?_⟩ ?_ ?_)
  · rw [Heap.get?_update_other _ _ (fun z => n2 (by rw [z]; exact List.mem_singleton.mpr rfl))]
    exact Heap.get?_push_of_some _ ((s1.2.1 b n1).trans q)
  · obtain ⟨sl, z⟩ := s1.2.2 b o q
    refine ⟨sl, ?_⟩
    rw [Heap.get?_update_other _ _ (fun z => n2 (by rw [z]; exact List.mem_singleton.mpr rfl))]
    exact Heap.get?_push_of_some _ z
  · exact Heap.get?_none_of_le (Nat.le_of_eq s1.1.symm)
  · have nT : h1.objs.size ≠ e := Nat.ne_of_gt (Heap.lt_size he1)
    have d3 := Obj.data_mapFields hd (·.setIfInBounds 1 (Value.ref h1.objs.size))
    refine ⟨_, _, ob, _, Heap.get?_update_self _ he2 (Obj.isFreed_of_fields d3), (Obj.cls_mapFields _ _).trans hc, (dict_mapF _ _).trans hx, d3, by simp [hsz], nT, ?_, by rw [← hob], ?_⟩
    · rw [Heap.get?_update_other _ _ (Ne.symm nT)]
      exact Heap.get?_push_size h1 (by rw [← hob]; rfl)
    · first | (simp; done) | (rcases hpl with rfl | ⟨_, _, _, _, _, _, _, rfl⟩ <;> simp)
theorem flightD {Q : Unit → Shared → Prop} (t : TrcD s.heap e C T dx fl) (h : ∀ h', Kept [] [T] s.heap h' → TrcD h' e C T dx .none → Q () { s with heap := h' }) : wpAny M A (setFlight (.ref e) none) Q E s := by
  obtain ⟨oe, vs, oT, ts, q1, q2, q3, q4, q5, q6, q7, q8, q9⟩ := t
  have z3 : 3 < ts.size := (Array.getElem?_eq_some_iff.mp q9).1
  unfold setFlight
  refine wpAny_bind (wpAny_field q1 q4 q5 ?_)
  rw [if_pos (by simp)]
  refine wpAny_setField q7 q8 z3 (h _ Kept.upd ?_)
  have d3 := Obj.data_mapFields q8 (·.setIfInBounds 3 ((none : Option Addr).elim Value.none fun f => rawInt f))
  exact ⟨oe, vs, _, _, (Heap.get?_update_other _ _ q6).trans q1, q2, q3, q4, q5, q6, Heap.get?_update_self _ q7 (Obj.isFreed_of_fields d3), d3, by simp [z3]⟩
theorem note1 {Q : Unit → Shared → Prop} (hfr : A.frames = some (env :: outer)) (hl : s.heap.FunFrames base (env :: outer)) (hf : env.frame = some L) (he : s.heap.get? e = some oe) (hd : oe.data = .fields vs) (h1 : vs[1]? = some .none) (hc : oe.cls = .ref C) (hx : oe.dict = dx)
    (h : ∀ h' T, Kept (frs (env :: outer)) [e] s.heap h' → s.heap.get? T = none → TrcD h' e C T dx (rawInt L) → Q () { s with heap := h' }) : wpAny M A (noteFrame (.ref e) env) Q E s := by
  unfold noteFrame
  simp only [hf]
  refine wpAny_bind (wpAny_field he hd h1 ?_)
  rw [if_neg (by decide)]
  exact entryD hfr hl hf he hd (Array.getElem?_eq_some_iff.mp h1).1 hc hx h
theorem noteN {Q : Unit → Shared → Prop} (hfr : A.frames = some (env :: outer)) (hl : s.heap.FunFrames base (env :: outer)) (hf : env.frame = some L) (t : TrcD s.heap e C T dx .none)
    (h : ∀ h' T', Kept (frs (env :: outer)) [T, e] s.heap h' → s.heap.get? T' = none → TrcD h' e C T' dx (rawInt L) → Q () { s with heap := h' }) : wpAny M A (noteFrame (.ref e) env) Q E s := by
  obtain ⟨oe, vs, oT, ts, q1, q2, q3, q4, q5, q6, q7, q8, q9⟩ := t
  unfold noteFrame
  simp only [hf]
  refine wpAny_bind (wpAny_field q1 q4 q5 ?_)
  rw [if_pos (by simp)]
  refine wpAny_bind (wpAny_field q7 q8 q9 ?_)
  rw [if_neg (by simp [rawInt])]
  refine wpAny_bind (wpAny_setField q7 q8 (Array.getElem?_eq_some_iff.mp q9).1 ?_)
  have k1 : Kept (frs (env :: outer)) [T] s.heap (s.heap.update T (Obj.mapFields (·.setIfInBounds 3 Value.none))) := Kept.upd
  have nf : ∀ b o, s.heap.get? b = some o → (∀ us, o.data ≠ .fields us) → b ∉ [T] := fun b o hb hn z => by
    rw [List.mem_singleton.mp z, q7] at hb; cases hb; exact hn ts q8
  refine entryD (base := base) hfr (hl.of_keeps fun b o hb hn => ?_) hf ((Heap.get?_update_other _ _ q6).trans q1) q4 (Array.getElem?_eq_some_iff.mp q5).1 q2 q3 fun h' T' k nT t' => h h' T' (k1.trans k) ?_ t'
  · obtain ⟨sl, z⟩ := k1.slot b o (nf b o hb hn) hb
    exact ⟨_, z, rfl⟩
  · cases q : s.heap.get? T' with
    | none => rfl
    | some o =>
      exfalso
      by_cases z : T' = T
      · have d3 := Obj.data_mapFields q8 (·.setIfInBounds 3 Value.none)
        rw [z, Heap.get?_update_self _ q7 (Obj.isFreed_of_fields d3)] at nT; cases nT
      · rw [Heap.get?_update_other _ _ (Ne.symm z)] at nT; rw [q] at nT; cases nT
end
end B

namespace B
open PySem PySem.Spec L2 PyProof.Rows
/-! ### an error's dict -/
def DicO (d : Addr) (fs : List (Str × V)) : Heap → Prop := fun h => ∃ mA, h.Ns1 d mA ∧ ∀ f, RelO (fs.lookup f) (mA f)
def dO (d : Addr) (fs : List (Str × V)) : HO := .ext (DicO d fs)
theorem dO_ok {P : Program} {w : World} {H : Hp} {h : Heap} {d : Addr} {fs : List (Str × V)} (e : DicO d fs h) : ObjOk P w H h d (dO d fs) :=
  ⟨e, let ⟨_, ⟨_, _, _, q, _⟩, _⟩ := e; ⟨_, q⟩, fun _ _ ⟨mA, n, r⟩ k => ⟨mA, n.at k, r⟩⟩
theorem relO_none {a : Option V} {b : Option Value} (r : RelO a b) (h : b ≠ none) : a ≠ none := fun z => by
  subst z
  cases b with
  | none => exact h rfl
  | some _ => exact r.elim
theorem relO_cons {fs : List (Str × V)} {mA : Str → Option Value} {f : Str} {y : V} {u : Value} (r : ∀ g, RelO (fs.lookup g) (mA g)) (q : RelV y u) : ∀ g, RelO (((f, y) :: fs).lookup g) (if g = f then some u else mA g) := fun g => by
  by_cases z : g = f
  · subst z
    rw [if_pos rfl, List.lookup_cons_self]; exact q
  · rw [if_neg z, List.lookup_cons, beq_eq_false_iff_ne.mpr z]; exact r g
theorem within_of {fs : List (Str × V)} {mA : Str → Option Value} (r : ∀ g, RelO (fs.lookup g) (mA g)) : PySem.Within mA (fs.map (·.1)) := fun g hg => by
  have z := relO_none (r g) hg
  cases q : fs.lookup g with
  | none => exact absurd q z
  | some v =>
    obtain ⟨l1, l2, e, _⟩ := List.lookup_eq_some_iff.mp q
    rw [e]; simp
section
variable {X : Cx} {pins : List (Addr × Obj)} {σ : L2.St} {H : Hp} {s : Shared} {a C : Addr}
/-- e.f = v, the first attribute of an error: its dict is made -/
theorem setX1 {A : Around} {E : Value → Shared → Prop} {f : Str} {y : V} {u : Value} {bm : List Value} {Q : Unit → Shared → Prop} (hex : X.ex = []) (I : L2.Inv X pins σ H s) (e : H a = some (exO a C none)) (c : ClsX X.K C bm) (n : NoAttr X.K C f) (ry : RelV y u)
    (h : ∀ d s', H d = none → d ≠ a → L2.Inv X pins σ (upd (upd H a (exO a C (some d))) d (dO d [(f, y)])) s' → Q () s') : wpAny (model X.prog X.w) A (setAttr (.ref a) f u) Q E s := by
  obtain ⟨t, hx⟩ := (show ObjOk X.prog X.w H s.heap a (exO a C none) from I.hok a _ e).1
  have J : PySem.W.InstAt s.heap a _ C none := ⟨hx, rfl, rfl, trivial⟩
  refine PySem.W.set_plain I.kIn J c.sa (store_err (s := { s with toks := s.toks + 1 }) I.kIn J c n fun b => ?_)
  obtain ⟨cd, hc, hd'⟩ := PySem.W.any_some c.hd
  refine wpAny_bind (wpAny_pure (wpAny_bind (wpAny_bind (wpAny_loadPart hx (wpAny_bind (PySem.W.Looks.here (s := { s with toks := s.toks + 1 }) (PySem.W.looks_clsIn I.kIn hc) ?_))))))
  rw [hd']
  show wpAny _ _ (alloc { cls := .type "dict", data := .dict #[] } >>= fun d => update a (fun o => { o with dict := some d }) >>= fun _ => dictMade (.ref C) a d) _ _ _
  have la : a < s.heap.objs.size := Heap.lt_size hx
  have nad : s.heap.objs.size ≠ a := Nat.ne_of_gt la
  have g1 := Heap.get?_push_of_some (h := s.heap) { cls := .type "dict", data := .dict #[] } hx
  refine wpAny_bind (wpAny_alloc (wpAny_bind (wpAny_update g1 ?_)))
  have g2 := Heap.get?_update_self (fun o => { o with dict := some s.heap.objs.size }) g1 rfl
  have e1 : ((s.heap.push { cls := .type "dict", data := .dict #[] }).update a fun o => { o with dict := some s.heap.objs.size }).get? s.heap.objs.size = some { cls := .type "dict", data := .dict #[] } := by
    rw [Heap.get?_update_other _ _ nad.symm]; exact Heap.get?_push_size s.heap rfl
  have e3 : ((s.heap.push { cls := .type "dict", data := .dict #[] }).update a fun o => { o with dict := some s.heap.objs.size }).Ns s.heap.objs.size (fun _ => none) :=
    ⟨_, #[], _, e1, rfl, (fun e he => absurd he (by simp)), fun _ => rfl⟩
  have keep : ∀ b o, b ≠ a → s.heap.get? b = some o → ((s.heap.push { cls := .type "dict", data := .dict #[] }).update a fun o => { o with dict := some s.heap.objs.size }).get? b = some o := fun b o nb q => by
    rw [Heap.get?_update_other _ _ (Ne.symm nb)]; exact Heap.get?_push_of_some _ q
  refine wpAny_pure (a := some s.heap.objs.size) (wpAny_bind (wpAny_pure (wpAny_bind ?_)))
  refine wpAny_nsSet1 (Heap.Ns1.of_empty e3) fun h' hn2 hs2 => ?_
  have rel : ∀ g, RelO ([(f, y)].lookup g) (if g = f then some u else none) := relO_cons (fs := []) (mA := fun _ => none) (fun _ => trivial) ry
  obtain ⟨oD, esD, epD, hoD, hdD, hcD⟩ := hn2.count (within_of rel)
  refine wpAny_bind (wpAny_lookBehind hoD (by rw [hdD]; exact pastItsLine_dict (Nat.le_trans hcD (Nat.le_add_left _ _))) ?_)
  have hno : s.heap.get? s.heap.objs.size = none := Heap.get?_none_of_le (Nat.le_refl _)
  have hH : H s.heap.objs.size = none := B.Inv.none_of I hno
  refine wpAny_pure (h s.heap.objs.size _ hH nad ?_)
  have ga : h'.get? a = some { cls := .ref C, dict := some s.heap.objs.size, data := .fields #[.ref t, .none, .none, .none, .bool false, .none] } := (hs2.2 a nad.symm).trans g2
  have I2 : L2.Inv X pins σ (upd H a (exO a C (some s.heap.objs.size))) { s with heap := h', toks := s.toks + 1 + 1 } := I.write (x := a) (e := a) (o := exO a C (some s.heap.objs.size)) (h' := h') (by rw [e]; trivial) (.inl rfl) (fun b o nb q => by
    have nb2 : b ≠ s.heap.objs.size := Nat.ne_of_lt (Heap.lt_size q)
    exact (hs2.2 b nb2).trans (keep b o nb q)) ⟨_, ga⟩ (exO_ok ⟨t, ga⟩)
  exact B.Inv.adopt I2 (B.Inv.newAt I hex hno) (by rw [upd_ne nad]; exact hH) hex (dO_ok ⟨_, hn2, rel⟩)
/-- e.f = v, a further attribute -/
theorem setX2 {A : Around} {E : Value → Shared → Prop} {f : Str} {y : V} {u : Value} {bm : List Value} {d : Addr} {fs : List (Str × V)} {Q : Unit → Shared → Prop} (I : L2.Inv X pins σ H s) (e : H a = some (exO a C (some d))) (ed : H d = some (dO d fs)) (hl : fs.length ≤ 100) (c : ClsX X.K C bm) (n : NoAttr X.K C f) (ry : RelV y u)
    (h : ∀ s', L2.Inv X pins σ (upd H d (dO d ((f, y) :: fs))) s' → Q () s') : wpAny (model X.prog X.w) A (setAttr (.ref a) f u) Q E s := by
  obtain ⟨t, hx⟩ := (show ObjOk X.prog X.w H s.heap a (exO a C (some d)) from I.hok a _ e).1
  obtain ⟨mA, hn, rel0⟩ := (show ObjOk X.prog X.w H s.heap d (dO d fs) from I.hok d _ ed).1
  obtain ⟨od, _, _, hod, _⟩ := id hn
  have J : PySem.W.InstAt s.heap a _ C (some od) := ⟨hx, rfl, rfl, hod⟩
  refine PySem.W.set_plain I.kIn J c.sa (store_err (s := { s with toks := s.toks + 1 }) I.kIn J c n fun b => ?_)
  obtain ⟨cd, hc, hd'⟩ := PySem.W.any_some c.hd
  refine wpAny_bind (wpAny_pure (wpAny_bind (wpAny_bind (wpAny_loadPart hx (wpAny_bind (PySem.W.Looks.here (s := { s with toks := s.toks + 1 }) (PySem.W.looks_clsIn I.kIn hc) ?_))))))
  rw [hd']
  refine wpAny_pure (a := some d) (wpAny_bind (wpAny_pure (wpAny_bind ?_)))
  refine wpAny_nsSet1 (s := { s with toks := s.toks + 1 }) hn fun h' hn2 hs2 => ?_
  have rel := relO_cons (f := f) rel0 ry
  obtain ⟨oD, esD, epD, hoD, hdD, hcD⟩ := hn2.count (within_of rel)
  have hz : esD.size ≤ 101 := by rw [List.length_map, List.length_cons] at hcD; omega
  refine wpAny_bind (wpAny_lookBehind hoD (by rw [hdD]; exact pastItsLine_dict (Nat.le_trans hz (by decide))) ?_)
  refine wpAny_pure (h _ ?_)
  exact I.write (x := d) (e := d) (o := dO d ((f, y) :: fs)) (h' := h') (by rw [ed]; trivial) (.inl rfl) (fun b o nb q => (hs2.2 b nb).trans q) ⟨_, hoD⟩ (dO_ok ⟨_, hn2, rel⟩)
end
section
variable {X : Cx} {o value : Expr} {f : Str} {ta tv : TE} {pos' pos : Pos}
def sFldE (K : PySem.W.Frag) (ta tv : TE) (f : Str) : TS := fun D σ H => tv σ H fun y H1 => ta σ H1 fun x H2 => ∃ a C bm, x = .ref a ∧ ClsX K C bm ∧ NoAttr K C f ∧
  ((H2 a = some (exO a C none) ∧ ∀ d, H2 d = none → d ≠ a → D.nx σ (upd (upd H2 a (exO a C (some d))) d (dO d [(f, y)]))) ∨
   ∃ d fs, H2 a = some (exO a C (some d)) ∧ H2 d = some (dO d fs) ∧ fs.length ≤ 100 ∧ D.nx σ (upd H2 d (dO d ((f, y) :: fs))))
theorem ps_fldE (hex : X.ex = []) (ha : PE X o ta) (hv : PE X value tv) (hs : swapsWith value (some (.Attribute o f pos')) pos.line X.env = pure false) : PS X (.Assign [.Attribute o f pos'] value pos) (sFldE X.K ta tv f) := by
  intro pins s σ H D I h
  refine plainObj_wpAny_Assign_Attribute (thn (hv pins s σ H _ I h) fun u s1 ⟨y, H1, I1, ry, q⟩ => thn (ha pins s1 σ H1 _ I1 q) fun ov s2 ⟨x, H2, I2, rx, a, C, bm, ex, c, n, q2⟩ => ?_) hs
  subst ex
  obtain rfl : ov = Value.ref a := rx
  rcases q2 with ⟨ea, k⟩ | ⟨d, fs, ea, ed, hl, k⟩
  · exact B.setX1 hex I2 ea c n ry fun d s' hd nd I' => ⟨σ, _, I', k d hd nd⟩
  · exact B.setX2 I2 ea ed hl c n ry fun s' I' => ⟨σ, _, I', k⟩
end
/-! ### errors that leave frames, their dicts kept -/
theorem Kept.any {S ch : List Addr} {h h' : Heap} (k : Kept [] ch h h') : Kept S ch h h' := ⟨fun b o _ n q => k.same b o (fun z => by cases z) n q, k.slot⟩
section
variable {X : Cx} {pins : List (Addr × Obj)} {σ : L2.St} {H : Hp} {s : Shared} {a C T : Addr} {dx : Option Addr} {fl : Value}
theorem Inv.leftK {ch : List Addr} {h' : Heap} {tk : Nat} (I : L2.Inv X pins σ H s) (hch : ∀ b ∈ ch, H b = none ∧ NewAt X pins b) (k : Kept (frs X.stack) ch s.heap h') : L2.Inv X pins σ H { s with heap := h', toks := tk } := by
  have trk : ∀ b o, H b = some o → b ∉ frs X.stack ∧ b ∉ ch := fun b o q =>
    ⟨(fun z => by rw [I.stkFree b z] at q; cases q), (fun z => by rw [(hch b z).1] at q; cases q)⟩
  refine I.call' (s' := { s with heap := h', toks := tk }) (ch := ch) rfl ⟨fun b o q _ n1 n2 => k.same b o n1 n2 q, fun b o q _ n1 n2 => k.slot b o n2 q, fun b o _ n _ => n, fun b o q n2 => ?_, fun b xs q => q, fun b o u q => q, fun b ps q => ⟨#[], by rw [Array.append_empty]; exact q⟩⟩ (fun b o q => ?_) I.bare
    (fun b hb => ⟨.inr (hch b hb).2.st, (hch b hb).2.lo, (hch b hb).2.ce, (hch b hb).2.pi⟩)
  · obtain ⟨sl, z⟩ := k.slot b o n2 q
    exact ⟨_, z⟩
  · refine (I.hok b o q).stay (fun c u hc z => ?_) (fun c z => z) (fun c xs z => z)
    rcases hc with rfl | hc
    · obtain ⟨n1, n2⟩ := trk _ _ q; exact k.same _ _ n1 n2 z
    · obtain ⟨n1, n2⟩ := trk _ _ hc; exact k.same _ _ n1 n2 z
theorem noted1 {A : Around} {E' : Value → Shared → Prop} {Q : Shared → Prop} {oe : Obj} {vs : Array Value} (hA : A.frames = X.A.frames) (I : L2.Inv X pins σ H s) (hex : X.ex = []) (hst : X.stack = X.env :: X.outer) (hfr : X.env.frame = some X.env.locals)
    (ha : H a = none) (na : NewAt X pins a) (hx : s.heap.get? a = some oe) (hd : oe.data = .fields vs) (h1 : vs[1]? = some .none) (hc : oe.cls = .ref C) (hdx : oe.dict = dx)
    (h : ∀ (s' : Shared) (T : Addr), L2.Inv X pins σ H s' → NewAt X pins T → H T = none → TrcD s'.heap a C T dx .none → Q s') :
    wpAny (model X.prog X.w) A (noteFrame (.ref a) X.env) (fun _ s2 => wpAny (model X.prog X.w) A (setFlight (.ref a) none) (fun _ s3 => Q s3) E' s2) E' s := by
  have hfrm : A.frames = some (X.env :: X.outer) := by rw [hA, I.ok.frames, hst]
  refine note1 (base := X.base) hfrm (by rw [← hst]; exact I.stack) hfr hx hd h1 hc hdx fun h1 T k1 nT t1 => ?_
  refine flightD (s := { s with heap := h1 }) t1 fun h2 k2 t2 => ?_
  have nt := B.Inv.newAt I hex nT
  have hT := B.Inv.none_of I nT
  rw [← hst] at k1
  refine h { s with heap := h2 } T (B.Inv.leftK (tk := s.toks) I (fun b hb => ?_) (k1.trans k2.any)) nt hT t2
  simp only [List.cons_append, List.nil_append, List.mem_cons, List.not_mem_nil, or_false] at hb
  rcases hb with rfl | rfl
  · exact ⟨ha, na⟩
  · exact ⟨hT, nt⟩
theorem notedN {A : Around} {E' : Value → Shared → Prop} {Q : Shared → Prop} (hA : A.frames = X.A.frames) (I : L2.Inv X pins σ H s) (hex : X.ex = []) (hst : X.stack = X.env :: X.outer) (hfr : X.env.frame = some X.env.locals)
    (ha : H a = none) (na : NewAt X pins a) (hT : H T = none) (nT : NewAt X pins T) (t : TrcD s.heap a C T dx .none)
    (h : ∀ (s' : Shared) (T' : Addr), L2.Inv X pins σ H s' → NewAt X pins T' → H T' = none → TrcD s'.heap a C T' dx .none → Q s') :
    wpAny (model X.prog X.w) A (noteFrame (.ref a) X.env) (fun _ s2 => wpAny (model X.prog X.w) A (setFlight (.ref a) none) (fun _ s3 => Q s3) E' s2) E' s := by
  have hfrm : A.frames = some (X.env :: X.outer) := by rw [hA, I.ok.frames, hst]
  refine noteN (base := X.base) hfrm (by rw [← hst]; exact I.stack) hfr t fun h1 T' k1 nT' t1 => ?_
  refine flightD (s := { s with heap := h1 }) t1 fun h2 k2 t2 => ?_
  have nt := B.Inv.newAt I hex nT'
  have hT' := B.Inv.none_of I nT'
  rw [← hst] at k1
  refine h { s with heap := h2 } T' (B.Inv.leftK (tk := s.toks) I (fun b hb => ?_) (k1.trans k2.any)) nt hT' t2
  simp only [List.cons_append, List.nil_append, List.mem_cons, List.not_mem_nil, or_false] at hb
  rcases hb with rfl | rfl | rfl
  · exact ⟨hT, nT⟩
  · exact ⟨ha, na⟩
  · exact ⟨hT', nt⟩
theorem flownN {A : Around} {E' : Value → Shared → Prop} {Q : Shared → Prop} (I : L2.Inv X pins σ H s) (hT : H T = none) (nT : NewAt X pins T) (t : TrcD s.heap a C T dx .none)
    (h : ∀ (s' : Shared), L2.Inv X pins σ H s' → TrcD s'.heap a C T dx .none → Q s') : wpAny (model X.prog X.w) A (setFlight (.ref a) none) (fun _ s3 => Q s3) E' s := by
  refine flightD t fun h2 k2 t2 => h _ (B.Inv.leftK (tk := s.toks) I (fun b hb => ?_) k2.any) t2
  rw [List.mem_singleton.mp hb]; exact ⟨hT, nT⟩
end
/-- how an error lies behind a call -/
def CXD (P : Program) (w : World) : CXT := fun outer H s E e s' => ∃ (x C T : Addr) (dx : Option Addr) (H' : Hp), e = .ref x ∧ s'.os = s.os ∧ AllBare s'.gens ∧ Un (frs outer) [] H H' s.heap s'.heap ∧ HOk P w H' s'.heap ∧ s.heap.get? x = none ∧ s.heap.get? T = none ∧ H' x = none ∧ H' T = none ∧
  TrcD s'.heap x C T dx .none ∧ E (.ref C) dx H'
section
variable {P : Program} {w : World} {K : PySem.W.Frag} {mg : Str → Option Value} {base : Heap} {N : List Str} {qual : Str} {scope : Scope} {f : Addr} {cd : Value} {A : Around} {outer : List Env} {s : Shared} {H : Hp} {E : XK}
/-- the context takes an error that is made in it -/
def TakesD (X : Cx) (E : XK) : Prop := ∀ (pins : List (Addr × Obj)) (σ : L2.St) (H : Hp) (s : Shared) (a C : Addr) (dx : Option Addr) (oe : Obj) (vs : Array Value), L2.Inv X pins σ H s → H a = none → NewAt X pins a → s.heap.get? a = some oe → oe.data = .fields vs →
  vs[1]? = some .none → oe.cls = .ref C → oe.dict = dx → E (.ref C) dx H → X.xe (.ref a) s
theorem takesD : TakesD (cxOf (CXD P w) P w K mg base N qual scope f cd A outer s H E) E := by
  intro pins σ H1 s1 a C dx oe vs I ha na hx hd h1 hc hdx hE
  show wpAny (model P w) _ (leaving _ _) _ _ s1
  unfold leaving
  refine wpAny_bind (noted1 rfl I rfl rfl rfl ha na hx hd h1 hc hdx fun s3 T' I3 nT' hT' tr' => ?_)
  exact ⟨a, C, T', dx, H1, rfl, I3.os, I3.bare, I3.base, I3.hok, na.st, nT'.st, ha, hT', tr', hE⟩
theorem Fun.okD {x : Str} {st : Stmt} {fd : FuncData} {ps : List Str} {k : Nat} {sp : Sp} (F : Fun K x qual st f fd) (S : FnScope N ps (defScope st)) (len : ∀ vs H Q E, sp vs H Q E → vs.length = ps.length)
    (hbody : ∀ (cdv : Value) (A : Around) (outer : List Env) (s : Shared) (H : Hp) (vs : List V) (Q : VK) (E : XK), Room k (A.deeper (envOfC qual (defScope st) s.heap.objs.size f cdv)) → sp vs H Q E →
      ∃ t, PSs (cxOf (CXD P w) P w K mg base N qual (defScope st) f cdv A outer s H E) (defBody st) t ∧ t { nx := fun _ H' => Q .non H', rt := Q } (start N vs) H) : FnOk P w K mg base (CXD P w) (k + 1) f fd ps sp := by
  obtain ⟨oc, od, kV, doc, pm, an, cdv, ct, osl, rfl, lk, hcd⟩ := F.ex
  exact fn_of lk hcd S len fun A outer s H vs Q E hr hsp => hbody cdv A outer s H vs Q E hr hsp
end
section
variable {X : Cx} {k : Nat} {f C : Addr} {fd : FuncData} {ps : List Str} {sp : Sp} {bm : List Value}
def tRaiseD (C : Addr) (sp : Sp) (E : XK) (t : TA) : TS := fun _ σ H => t σ H fun vs H1 => vs.length ≤ sizeLine ∧ ∀ a, H1 a = none → sp (.ref a :: vs) (upd H1 a (exO a C none)) (fun v H2 => v = .non ∧ ∃ dx, H2 a = some (exO a C dx) ∧ E (.ref C) dx (del H2 a)) E0
theorem ps_raiseD {x : Str} {p cpos pos : Pos} {e : Expr} {es : List Expr} {t : TA} {E : XK} (M : XC X.K C f bm) (hbase : bm.contains (.type "BaseException") = true) (hex : X.ex = []) (tk : TakesD X E) (F : FnOk X.prog X.w X.K X.mg X.base CX0 k f fd ps sp) (hr : Room (k + 1) X.A) (hb : Binds X.K fd ps [])
    (hg : Gl X x) (hm : X.mg x = some (.ref C)) (ha : PA X (e :: es) t) (hdb : (x == ("__debug__" : Str)) = false := by decide) (he : starEach (e :: es) X.env = (false, eval e X.env) :: starEach es X.env := by rfl) (hpl : (backTo cpos (starEach es X.env)).any (·.1) = false := by rfl) :
    PS X (.Raise (some (.Call (.Name x p) (e :: es) [] cpos)) none pos) (tRaiseD C sp E t) := by
  intro pins s σ H D I h
  obtain ⟨nm, q, N, bs, hdct, sn, sub, ab, col, dd, k0, k1, k2, k3, k5, lk⟩ := M.ob
  rw [arm_exec_Raise]
  refine wpAny_bind (wpAny_standAt (raise_own (C := C) (bm := bm) (nm := nm) (q := q) (N := N) (bs := bs) (hdct := hdct) (sn := sn) (sub := sub) (ab := ab) (col := col) (dd := dd) (k0 := k0) (k1 := k1) (k2 := k2) (k3 := k3) (k5 := k5) (newId := "ValueError.__new__") hbase hr.hd ?_))
  refine wpAny_bind (wpAny_mono (Q := fun v s' => ∃ a H', v = .ref a ∧ NewAt X pins a ∧ L2.Inv X pins σ H' s' ∧ ∃ dx, H' a = some (exO a C dx) ∧ E (.ref C) dx (del H' a)) ?_ (fun v s1 h1 => wpAny_bind (wpAny_standAt (wpAny_pure ?_))) fun _ _ y => y)
  · refine wpAny_Call_Name_kw (ld_glob I hg hm ?_ hdb)
    refine PySem.W.callWith_K (h₀ := X.base) I.ok.mod.kin M.kp (thn (ha cpos pins s σ H _ I h) fun us s1 ⟨vs, H1, I1, r, hz, q⟩ => ⟨I1.kIn, ?_⟩) he hpl
    exact run_exc M hex F hr hb I1 (us := [] ++ us) r (by rw [List.nil_append, ← r.length]; exact hz) q
  · obtain ⟨a, H', rfl, na, I1, dx, hx, hE⟩ := h1
    obtain ⟨tt, ho⟩ := (show L2.ObjOk X.prog X.w H' s1.heap a (exO a C dx) from I1.hok a _ hx).1
    exact ⟨a, tt, dx, rfl, I1.kIn _ _ lk, ho, tk pins σ (del H' a) s1 a C dx _ _ (B.Inv.forget I1 hx na.st) del_same na ho rfl rfl rfl rfl hE⟩
end
end B

namespace B
open PySem PySem.Spec L2 PyProof.Rows
/-! ### try, with or without a name -/
abbrev RX := Addr → Option Addr → Hp → Prop
def FlyD (X : Cx) (pins : List (Addr × Obj)) (R : RX) : Value → Shared → Prop := fun e s => ∃ (x C T : Addr) (dx : Option Addr) (H : Hp), e = .ref x ∧ L2.Inv X pins (hid X.N) H s ∧ H x = none ∧ NewAt X pins x ∧ H T = none ∧ NewAt X pins T ∧ TrcD s.heap x C T dx .none ∧ R C dx H
def inTryD (X : Cx) (pins : List (Addr × Obj)) (R : RX) : Cx := { X with pn := X.pn ++ pins, xe := FlyD X pins R }
section
variable {X : Cx} {pins pins' : List (Addr × Obj)} {σ : L2.St} {H : Hp} {s : Shared} {R : RX} {e : Addr}
theorem toTryD (I : L2.Inv X pins σ H s) : L2.Inv (inTryD X pins R) [] σ H s :=
  ⟨⟨I.ok.mod, I.ok.kind, I.ok.glob, I.ok.blt, I.ok.above, I.ok.inj, I.ok.has, I.ok.cab, I.ok.hd, I.ok.frames, I.ok.stk, I.ok.exf, I.ok.bs, I.ok.bsz, I.ok.noex, I.ok.exfs, I.ok.funs, I.ok.frf⟩, I.os, I.bare, I.base, I.loc, I.cell, I.free, I.freeC,
    fun p hp => I.pin p (by rw [List.append_nil] at hp; exact hp), I.hok, I.len⟩
theorem ofTryD (I : L2.Inv (inTryD X pins R) pins' σ H s) : L2.Inv X pins σ H s :=
  ⟨⟨I.ok.mod, I.ok.kind, I.ok.glob, I.ok.blt, I.ok.above, I.ok.inj, I.ok.has, I.ok.cab, I.ok.hd, I.ok.frames, I.ok.stk, I.ok.exf, I.ok.bs, I.ok.bsz, I.ok.noex, I.ok.exfs, I.ok.funs, I.ok.frf⟩, I.os, I.bare, I.base, I.loc, I.cell, I.free, I.freeC,
    fun p hp => I.pin p (List.mem_append_left _ hp), I.hok, I.len⟩
def EofD (R : RX) : XK := fun v dx H => ∃ C, v = .ref C ∧ R C dx H
/-- a callee's error in a try's body -/
theorem passTD (hex : X.ex = []) : Passes (CXD X.prog X.w) (inTryD X pins R) (EofD R) := by
  intro pins' σ H1 s1 e s2 I hx
  obtain ⟨x, C, T, dx, H2, rfl, ho, hb, un, hok, nx, nT, hx2, hT2, tr, C', e', hr⟩ := hx
  cases e'
  have na := B.Inv.newAt I hex nx
  have nt := B.Inv.newAt I hex nT
  have I2 : L2.Inv (inTryD X pins R) pins' σ H2 s2 := I.call' ho un hok hb (fun b hb => by cases hb)
  exact ⟨x, C, T, dx, H2, rfl, hid_weak (ofTryD I2), hx2, ⟨na.st, na.lo, na.ce, fun p hp => na.pi p (List.mem_append_left _ hp), na.fr⟩, hT2, ⟨nt.st, nt.lo, nt.ce, fun p hp => nt.pi p (List.mem_append_left _ hp), nt.fr⟩, tr, hr⟩
theorem SP.ofTryD {D : Ends} {f : Flow} (h : SP (inTryD X pins R) [] D f s) : SP X pins D f s := by
  cases f with
  | next => obtain ⟨σ', H', I, q⟩ := h; exact ⟨σ', H', B.ofTryD I, q⟩
  | brk => obtain ⟨σ', H', I, q⟩ := h; exact ⟨σ', H', B.ofTryD I, q⟩
  | cont => obtain ⟨σ', H', I, q⟩ := h; exact ⟨σ', H', B.ofTryD I, q⟩
  | ret u => obtain ⟨v, σ', H', I, r, q⟩ := h; exact ⟨v, σ', H', B.ofTryD I, r, q⟩
end
/-- the name of an except goes behind its suite -/
theorem name_gone {X : Cx} {pins : List (Addr × Obj)} {σ : L2.St} {H : Hp} {s : Shared} {M : Model} {A : Around} {E : Value → Shared → Prop} {i : Nat} {x : Str} {pos : Pos} {Q : Unit → Shared → Prop} (I : L2.Inv X pins σ H s) (hN : X.N.Nodup) (hi : X.N[i]? = some x) (hk : X.env.scope.names.lookup x = some .local)
    (h : ∀ s', L2.Inv X pins (σ.set i none) H s' → Q () s') : wpAny M A (do bindName X.env x .none; unbindBehindTheSuite X.env x pos) Q E s := by
  obtain ⟨m, hn, hl⟩ := id I.loc
  have hiσ : i < σ.length := by rw [I.len]; exact (List.getElem?_eq_some_iff.mp hi).1
  have lt : ∀ b o, X.s₀.heap.get? b = some o → b ≠ X.env.locals := fun b o e => Nat.ne_of_lt (Nat.lt_of_lt_of_le (Heap.lt_size e) I.ok.above)
  refine wpAny_nameGoes_keeps hk hn (by rw [I.ok.kind]; rfl) fun h' v hn' hs => h _ ?_
  refine ⟨I.ok, I.os, I.bare, ⟨fun b o e n hb hx => (hs.2 b (lt b o e)).trans (I.base.keep b o e n hb hx), fun b o e n hb hx => ?_, I.base.free, fun b o e hx => ?_, I.base.tups, I.base.frzs, I.base.tbls⟩, ⟨_, hn', fun j y v' e1 e2 e3 => ?_⟩, fun y c e => ?_, I.free, I.freeC, fun p hp => ?_, fun b ob e => ?_, by simpa using I.len⟩
  · obtain ⟨sl, e1⟩ := I.base.slot b o e n hb hx
    exact ⟨sl, (hs.2 b (lt b o e)).trans e1⟩
  · obtain ⟨o', e1⟩ := I.base.there b o e hx
    exact ⟨o', (hs.2 b (lt b o e)).trans e1⟩
  · have hj : j ≠ i := fun z => by subst z; rw [List.getElem?_set_self hiσ] at e2; cases e2
    rw [List.getElem?_set_ne (Ne.symm hj)] at e2
    obtain ⟨u', r', q⟩ := hl j y v' e1 e2 e3
    refine ⟨u', r', ?_⟩
    rcases q with ⟨k, e⟩ | ⟨k, c, e, z⟩
    · refine .inl ⟨k, ?_⟩
      have ny : y ≠ x := fun e => hj (nodup_ix hN e1 (e ▸ hi))
      show (if y = x then v else m y) = some u'
      rw [if_neg ny]; exact e
    · exact .inr ⟨k, c, e, z.sameBut hs (I.cne y c e)⟩
  · obtain ⟨w', z⟩ := I.cell y c e
    exact ⟨w', z.sameBut hs (I.cne y c e)⟩
  · obtain ⟨e, n, ne, nf, d⟩ := I.pin p hp
    exact ⟨(hs.2 p.1 ne).trans e, n, ne, nf, d⟩
  · refine (I.hok b ob e).stay (fun c w' hc q => (hs.2 c ?_).trans q) (fun _ q => q) fun _ _ q => q
    rintro rfl
    rcases hc with rfl | hc
    · rw [I.free] at e; cases e
    · rw [I.free] at hc; cases hc
/-- a caught error -/
def ErO (a C d : Addr) : Heap → Prop := fun h => ∃ oe, h.get? a = some oe ∧ oe.cls = .ref C ∧ oe.dict = some d ∧ PySem.W.notCls oe = true
def erO (a C d : Addr) : HO := .ext (ErO a C d)
theorem erO_ok {P : Program} {w : World} {H : Hp} {h : Heap} {a C d : Addr} (e : ErO a C d h) : ObjOk P w H h a (erO a C d) :=
  ⟨e, let ⟨_, q, _⟩ := e; ⟨_, q⟩, fun _ _ ⟨o, q, r⟩ k => ⟨o, k _ q, r⟩⟩
theorem TrcD.er {h : Heap} {x C T d : Addr} {fl : Value} (t : TrcD h x C T (some d) fl) : ErO x C d h := by
  obtain ⟨oe, vs, oT, ts, q1, q2, q3, q4, _⟩ := t
  exact ⟨oe, q1, q2, q3, by unfold PySem.W.notCls; rw [q4]⟩
def gone (i : Nat) (D : Ends) : Ends := { nx := fun σ H => D.nx (σ.set i none) H, rt := D.rt, bk := fun σ H => D.bk (σ.set i none) H, ct := fun σ H => D.ct (σ.set i none) H }
def tTryD (N : List Str) (R : RX) (Ok : Addr → Prop) (tb th : TS) : TS := fun D σ H => tb D σ H ∧ ∀ C dx H', R C dx H' → Ok C ∧ th D (hid N) H'
def tTryAs (N : List Str) (i : Nat) (R : RX) (Ok : Addr → Prop) (tb th : TS) : TS := fun D σ H => tb D σ H ∧ ∀ C dx H', R C dx H' → Ok C ∧ ∃ d, dx = some d ∧ ∀ a, H' a = none → th (gone i D) ((hid N).set i (some (.ref a))) (upd H' a (erO a C d))
section
variable {X : Cx} {R : RX} {body : List Stmt} {b₀ : Stmt} {suite : List Stmt} {x : Str} {p hpos pos : Pos} {u : Value} {tb th : TS}
theorem typ_of {M : Model} {h : Heap} {a C T : Addr} {dx : Option Addr} {fl : Value} (t : TrcD h a C T dx fl) : PySem.W.Looks M h (typeOf (.ref a)) (.ref C) := by
  obtain ⟨oe, _, _, _, q1, q2, _⟩ := t
  rw [← q2]
  exact (PySem.W.Looks.ld q1).andThen .now
theorem ps_tryAs {i : Nat} {n : Str} (hex : X.ex = []) (hst : X.stack = X.env :: X.outer) (hfr : X.env.frame = some X.env.locals) (hg : Gl X x) (hm : X.mg x = some u) (hN : X.N.Nodup) (hi : X.N[i]? = some n) (hn : X.env.scope.names.lookup n = some .local)
    (hb : ∀ pins, PSs (inTryD X pins R) body tb) (hs : ∀ e, PSs (inExc X e) (b₀ :: suite) th) (hd : (x == ("__debug__" : Str)) = false := by decide) :
    PS X (.Try body [.ExceptHandler (some (.Name x p)) (some n) (b₀ :: suite) hpos] [] [] pos) (tTryAs X.N i R (fun C => PySem.W.exmOne X.K (.ref C) u = some true) tb th) := by
  intro pins s σ H D I ⟨h1, h2⟩
  refine wpAny_Try_except (wpAny_mono (hb pins [] s σ H D (toTryD I) h1) (fun f s1 q => ?_) fun e s1 q => ?_)
  · have q' := SP.ofTryD q
    cases f with
    | next => exact wpAny_execs_nil q'
    | brk => exact q'
    | cont => exact q'
    | ret u => exact q'
  · obtain ⟨a, C, T, dx, H1, rfl, I1, ha, na, hT, nT, tr, hR⟩ := q
    obtain ⟨hk, d, rfl, hth⟩ := h2 C dx H1 hR
    refine notedN rfl I1 hex hst hfr ha na hT nT tr fun s2 T2 I2 nT2 hT2 tr2 => ?_
    refine wpAny_handleBy_cons (codeAny_handlers_test ?_) (by intro z; cases z)
    refine ld_glob (X := inExc X a) (toExc I2) hg hm ?_ hd
    refine PySem.W.Looks.here (s := s2) (PySem.W.exm_one (M := model X.prog X.w) I2.kIn (typ_of tr2) hk) ?_
    refine codeAny_handlers_suite_as ?_
    refine flownN I2 hT2 nT2 tr2 fun s3 I3 tr3 => ?_
    have I4 : L2.Inv X pins (hid X.N) (upd H1 a (erO a C d)) s3 := B.Inv.adopt I3 na ha hex (erO_ok tr3.er)
    refine store_ok (X := inExc X a) (toExc I4) hN hi (.inl hn) (v := .ref a) (u := .ref a) rfl (fun s5 I5 => ?_) (.inr hn)
    refine wpAny_mono (hs a pins s5 _ _ (gone i D) I5 (hth a ha)) (fun f s6 q6 => ?_) fun _ _ z => z.elim
    cases f with
    | next => obtain ⟨σ', H', J, q⟩ := q6; exact name_gone (ofExc I.ok J) hN hi hn fun s' J' => ⟨_, _, J', q⟩
    | brk => obtain ⟨σ', H', J, q⟩ := q6; exact name_gone (ofExc I.ok J) hN hi hn fun s' J' => ⟨_, _, J', q⟩
    | cont => obtain ⟨σ', H', J, q⟩ := q6; exact name_gone (ofExc I.ok J) hN hi hn fun s' J' => ⟨_, _, J', q⟩
    | ret u => obtain ⟨v, σ', H', J, r, q⟩ := q6; exact name_gone (ofExc I.ok J) hN hi hn fun s' J' => ⟨v, _, _, J', r, q⟩
end
/-! ### isinstance(e, ..) of a caught error -/
def rIsE (K : PySem.W.Frag) : List V → Hp → VK → Prop := fun xs H Q => ∃ (a C d : Addr) (fs : List (Str × V)) (bm : List Value) (c : V) (b : Bool), xs = [.ref a, c] ∧ H a = some (erO a C d) ∧ H d = some (dO d fs) ∧ ClsX K C bm ∧ GetX K C ∧
  ((∃ n, c = .ty n ∧ PySem.W.kitOne K (.ref C) (.type n) = some b) ∨ (∃ D, c = .ref D ∧ PySem.W.kitOne K (.ref C) (.ref D) = some b) ∨
   ∃ (p : Addr) (cs : List Addr), c = .ref p ∧ H p = some (.tup (cs.map V.ref)) ∧ PySem.W.kitAny K (.ref C) (cs.map Value.ref) = some b) ∧ Q (.bl b) H
end B

namespace B
open PySem PySem.Spec L2 PyProof.Rows
/-! ### errors as values: made, asked, read -/
/-- an error at a with its dict at d: caught, or made and not raised -/
def IsErr (H : Hp) (a C d : Addr) : Prop := H a = some (erO a C d) ∨ H a = some (exO a C (some d))
section
variable {X : Cx} {pins : List (Addr × Obj)} {σ : L2.St} {H : Hp} {s : Shared} {a C d : Addr} {fs : List (Str × V)}
theorem IsErr.inst (I : L2.Inv X pins σ H s) (h : IsErr H a C d) (ed : H d = some (dO d fs)) : ∃ (oe od : Obj) (mA : Str → Option Value), PySem.W.InstAt s.heap a oe C (some od) ∧ (∀ name, PySem.W.lookIn name od = some (mA name)) ∧ ∀ f, RelO (fs.lookup f) (mA f) := by
  obtain ⟨mA, hn, r⟩ := (show ObjOk X.prog X.w H s.heap d (dO d fs) from I.hok d _ ed).1
  obtain ⟨od, ho, hl⟩ := lookIn_ns hn
  rcases h with h | h
  · obtain ⟨oe, h1, h2, h3, h4⟩ := (show ObjOk X.prog X.w H s.heap a (erO a C d) from I.hok a _ h).1
    exact ⟨oe, od, mA, ⟨h1, h2, h4, by rw [h3]; exact ho⟩, hl, r⟩
  · obtain ⟨t, h1⟩ := (show ObjOk X.prog X.w H s.heap a (exO a C (some d)) from I.hok a _ h).1
    exact ⟨_, od, mA, ⟨h1, rfl, rfl, ho⟩, hl, r⟩
end
/-- e.f of an error -/
def tFldE (K : PySem.W.Frag) (ta : TE) (f : Str) : TE := fun σ H Q => ta σ H fun x H1 => ∃ a C d fs bm v, x = .ref a ∧ IsErr H1 a C d ∧ H1 d = some (dO d fs) ∧ ClsX K C bm ∧ GetX K C ∧ NoAttr K C f ∧ fs.lookup f = some v ∧ Q v H1
theorem pe_fldE {X : Cx} {e : Expr} {f : Str} {pos : Pos} {ta : TE} {K : PySem.W.Frag} (hK : X.K = K) (he : PE X e ta) (hb : attributeBase e f X.env (eval e X.env) = eval e X.env) : PE X (.Attribute e f pos) (tFldE K ta f) := by
  subst hK
  intro pins s σ H Q I h
  refine attr_of hb (thn (he pins s σ H _ I h) fun u s1 ⟨x, H1, I1, rx, a, C, d, fs, bm, v, ex, ea, ed, c, g, n, l, q⟩ => ?_)
  subst ex
  obtain rfl : u = Value.ref a := rx
  obtain ⟨oe, od, mA, J, hl, r⟩ := IsErr.inst I1 ea ed
  obtain ⟨u', hu, ru⟩ := RelO.some_of (v := v) (o := mA f) (by rw [← l]; exact r f)
  unfold getAttr
  refine wpAny_bind (wpAny_mkText ?_)
  refine err_open (s := { s1 with toks := s1.toks + 1 }) I1.kIn J g ?_
  refine err_val (s := { s1 with toks := s1.toks + 1 }) I1.kIn J c (PySem.W.findObj_own c.hd n rfl (by rw [hl, hu])) ?_
  exact ⟨u', rfl, handed_of ru, v, H1, I1.tok _, ru, q⟩
/-- isinstance(e, ..) of an error -/
def rIsX (K : PySem.W.Frag) : List V → Hp → VK → Prop := fun xs H Q => ∃ (a C d : Addr) (fs : List (Str × V)) (bm : List Value) (c : V) (b : Bool), xs = [.ref a, c] ∧ IsErr H a C d ∧ H d = some (dO d fs) ∧ ClsX K C bm ∧ GetX K C ∧
  ((∃ n, c = .ty n ∧ PySem.W.kitOne K (.ref C) (.type n) = some b) ∨ (∃ D, c = .ref D ∧ PySem.W.kitOne K (.ref C) (.ref D) = some b) ∨
   ∃ (p : Addr) (cs : List Addr), c = .ref p ∧ H p = some (.tup (cs.map V.ref)) ∧ PySem.W.kitAny K (.ref C) (cs.map Value.ref) = some b) ∧ Q (.bl b) H
/-- C(e, ..): an error made as a value -/
def tMakeE (C : Addr) (sp : Sp) (t : TA) : TE := fun σ H Q => t σ H fun vs H1 => vs.length ≤ sizeLine ∧ ∀ a, H1 a = none → sp (.ref a :: vs) (upd H1 a (exO a C none)) (fun v H2 => v = .non ∧ Q (.ref a) H2) E0
end B

namespace B
open PySem PySem.Spec L2 PyProof.Rows
/-! ### several records of ours turn at once -/
theorem turnedL {X : Cx} {pins : List (Addr × Obj)} {σ : L2.St} {H : Hp} {s : Shared} {h' : Heap} {t' : Nat} {fp : List Addr} (I : Inv X pins σ H s)
    (k : ∀ b o, b ∉ fp → s.heap.get? b = some o → h'.get? b = some o) (hf : ∀ b ∈ fp, FpOk X pins H b) : Inv X pins σ H { s with heap := h', toks := t' } := by
  have off : ∀ b u, H b = some u → b ∉ fp := fun b u e z => by rw [(hf b z).1] at e; cases e
  refine I.step (g' := s.gens) (d' := s.drawn) (ch := fp) (fun b hb => ?_) (fun b o _ _ hc e _ => k b o hc e) (fun b o _ _ hc e _ => ⟨o.slots, k b o hc e⟩) (fun _ _ _ _ n => n)
    (fun b o hc e => ⟨o, k b o hc e⟩) (fun _ _ e => e) (fun _ _ _ e => e) (fun b ps e => ⟨#[], by rw [e]; simp⟩) (fun m hm => ?_) (fun b u e => ?_) I.bare
  · obtain ⟨_, f1, _, f3, f4, f5⟩ := hf b hb
    exact ⟨f3, f1, f4, f5⟩
  · obtain ⟨o, es, ep, ho, r⟩ := hm
    exact ⟨o, es, ep, k _ o (fun z => (hf _ z).2.1 rfl) ho, r⟩
  · refine (I.hok b u e).stay (fun c v hc q => k c v ?_ q) (fun _ q => q) fun _ _ q => q
    rcases hc with z | z
    · rw [z]; exact off b u e
    · exact off c _ z
section
variable {prog : Program} {w : World} {A : Around} {E : Value → Shared → Prop} {s : Shared}
/-! ### a tuple's iterator, drawn from by zip and its like -/
theorem nx_item {j t : Addr} {k : Nat} {ys : Array Value} {v : Value} {G : Value → Shared → Prop} (a : s.heap.IsTupleIter j t k) (b : s.heap.IsTuple t ys) (c : ys[k]? = some v)
    (g : ∀ h', h'.IsTupleIter j t (k + 1) → Heap.SameBut j s.heap h' → G v { s with heap := h' }) : wpAny (model prog w) A (Builtin.SmallTypes.nextOf (.ref j)) G E s := by
  obtain ⟨o, e1, e2, e3⟩ := id a
  obtain ⟨q, f1, _, n, f2⟩ := b
  unfold Builtin.SmallTypes.nextOf
  refine wpAny_bind (wpAny_callSpecial?_slot (name := Str.ofString "__next__") a.typeIs F.slot_tuple_iterator_next
    (wpAny_call_entry F.slot_tuple_iterator_next a.typeIs F.entry_tuple_iterator_next ?_ (F.args_tuple_iterator_next_1 _)))
  show wpAny (model prog w) _ (field (.ref j) 0 >>= _) _ _ s
  refine wpAny_bind (wpAny_field e1 e3 (x := .ref t) rfl ?_)
  show wpAny (model prog w) _ (if (Value.ref t == Value.none) = true then _ else _) _ _ s
  rw [if_neg (fun z => Bool.noConfusion z : ¬ ((Value.ref t == Value.none) = true))]
  show wpAny (model prog w) _ (field (.ref j) 1 >>= _) _ _ s
  refine wpAny_bind (wpAny_field e1 e3 (x := .int k 0) rfl ?_)
  show wpAny (model prog w) _ (seqItems? (.ref t) >>= _) _ _ s
  refine wpAny_bind (wpAny_seqItems f1 f2 ?_)
  simp only [c, Int.toNat_natCast]
  refine wpAny_bind (wpAny_setField e1 e3 (by simp) (wpAny_pure ⟨v, rfl, wpAny_pure (g _ ?_ (Heap.SameBut.update ..))⟩))
  refine ⟨_, Heap.get?_update_self _ e1 (Obj.isFreed_of_fields (Obj.data_mapFields e3 _)), (Obj.cls_mapFields ..).trans e2, ?_⟩
  rw [Obj.data_mapFields e3]; simp [rawInt]
theorem nx_end {j t : Addr} {k : Nat} {ys : Array Value} {G : Value → Shared → Prop} (hh : A.handled = none) (a : s.heap.IsTupleIter j t k) (b : s.heap.IsTuple t ys) (c : ys[k]? = none)
    (g : ∀ h' e, Heap.ExtBut j s.heap h' → (∃ o, h'.get? e = some o ∧ o.cls = .type "StopIteration") → E (.ref e) { s with heap := h' }) : wpAny (model prog w) A (Builtin.SmallTypes.nextOf (.ref j)) G E s := by
  obtain ⟨o, e1, e2, e3⟩ := id a
  obtain ⟨q, f1, _, n, f2⟩ := b
  unfold Builtin.SmallTypes.nextOf
  refine wpAny_bind (wpAny_callSpecial?_slot (name := Str.ofString "__next__") a.typeIs F.slot_tuple_iterator_next
    (wpAny_call_entry F.slot_tuple_iterator_next a.typeIs F.entry_tuple_iterator_next ?_ (F.args_tuple_iterator_next_1 _)))
  show wpAny (model prog w) _ (field (.ref j) 0 >>= _) _ _ s
  refine wpAny_bind (wpAny_field e1 e3 (x := .ref t) rfl ?_)
  show wpAny (model prog w) _ (if (Value.ref t == Value.none) = true then _ else _) _ _ s
  rw [if_neg (fun z => Bool.noConfusion z : ¬ ((Value.ref t == Value.none) = true))]
  show wpAny (model prog w) _ (field (.ref j) 1 >>= _) _ _ s
  refine wpAny_bind (wpAny_field e1 e3 (x := .int k 0) rfl ?_)
  show wpAny (model prog w) _ (seqItems? (.ref t) >>= _) _ _ s
  refine wpAny_bind (wpAny_seqItems f1 f2 ?_)
  simp only [c, Int.toNat_natCast]
  refine wpAny_bind (wpAny_rule (wpAny_bind (wpAny_setField e1 e3 (by simp) ?_)))
  show wpAny (model prog w) _ (newExc (.type "StopIteration") [] >>= _) _ _ _
  refine wpAny_bind ?_
  simp only [newTuple, newExc]
  refine wpAny_bind (wpAny_newObj_type ?_ (by size_fits))
  refine wpAny_bind (m := firstArgMember _ _) (wpAny_of_eq (a := Value.none) (by first | rfl | (simp only [firstArgMember] <;> rfl)) ?_)
  refine wpAny_newObj_type ?_ (by size_fits)
  simp only [raiseNew]
  refine wpAny_bind (wpAny_handled ?_)
  first | rw [hh] | rw [show A.in1.handled = none from hh]
  refine wpAny_bind (wpAny_pure (wpAny_throw (g _ _ (((Heap.SameBut.update ..).extBut.push _).push _) ⟨_, Heap.get?_push_size _ rfl, rfl⟩)))
/-! ### zip's turn, whatever it draws from -/
structure Five (z TI TO i1 i2 : Addr) : Prop where
  a1 : TI ≠ z
  a2 : TO ≠ z
  a3 : i1 ≠ z
  a4 : i2 ≠ z
  a5 : TI ≠ TO
  a6 : TI ≠ i1
  a7 : TI ≠ i2
  a8 : TO ≠ i1
  a9 : TO ≠ i2
  b1 : i1 ≠ i2
end
end B

namespace B
open PySem PySem.Spec L2 PyProof.Rows
/-- .. and a new object comes to be known -/
theorem turnedN {X : Cx} {pins : List (Addr × Obj)} {σ : L2.St} {H : Hp} {s : Shared} {h' : Heap} {t' : Nat} {fp : List Addr} {p : Addr} {v : HO} (I : Inv X pins σ H s)
    (k : ∀ b o, b ∉ fp → s.heap.get? b = some o → h'.get? b = some o) (hf : ∀ b ∈ fp, FpOk X pins H b) (hp : s.heap.objs.size ≤ p) (new : ObjOk X.prog X.w (upd H p v) h' p v) :
    Inv X pins σ (upd H p v) { s with heap := h', toks := t' } := by
  have off : ∀ b u, H b = some u → b ∉ fp := fun b u e z => by rw [(hf b z).1] at e; cases e
  have hn : H p = none := I.hok.fresh hp
  have old : ∀ b u, H b = some u → upd H p v b = some u := fun b u e => by rw [upd_ne (ne_of_none e hn)]; exact e
  refine I.step (g' := s.gens) (d' := s.drawn) (ch := fp) (fun b hb => ?_) (fun b o _ _ hc e _ => k b o hc e) (fun b o _ _ hc e _ => ⟨o.slots, k b o hc e⟩) (fun b o _ e n => ?_)
    (fun b o hc e => ⟨o, k b o hc e⟩) (fun b xs e => old b _ e) (fun b o u e => old b _ e) (fun b ps e => ⟨#[], by rw [old b _ e]; simp⟩) (fun m hm => ?_) (fun b u e => ?_) I.bare
  · obtain ⟨_, f1, _, f3, f4, f5⟩ := hf b hb
    exact ⟨f3, f1, f4, f5⟩
  · rw [upd_ne (Nat.ne_of_lt (Nat.lt_of_lt_of_le (Heap.lt_size e) hp))]; exact n
  · obtain ⟨o, es, ep, ho, r⟩ := hm
    exact ⟨o, es, ep, k _ o (fun z => (hf _ z).2.1 rfl) ho, r⟩
  · by_cases hb : b = p
    · subst hb; rw [upd_same] at e; cases e; exact new
    · rw [upd_ne hb] at e
      refine (I.hok b u e).stay (fun c v hc q => k c v ?_ q) (fun c q => old c _ q) fun c xs q => old c _ q
      rcases hc with z | z
      · rw [z]; exact off b u e
      · exact off c _ z
/-- what is read as a tuple is none of an iterator's own records -/
theorem sqT_off {X : Cx} {pins : List (Addr × Obj)} {σ : L2.St} {H : Hp} {s : Shared} {a b : Addr} {xs : List V} (I : Inv X pins σ H s) (h : SqT X.K H a xs) (f : FpOk X pins H b) : a ≠ b := fun z => by
  subst z
  rcases h with (h | ⟨o, h⟩) | ⟨o, its, n, hk, _⟩
  · rw [f.1] at h; cases h
  · rw [f.1] at h; cases h
  · have e := I.ok.mod.kin a o hk
    rcases f.2.2.2.1 with z | z
    · exact I.ok.noex a o e z
    · rw [(I.ok.bs a o e).1] at z; cases z
def Itz (K : PySem.W.Frag) (a b : Addr) : It :=
  ⟨fun i H => ∃ xs ys x y, SqT K H a xs ∧ SqT K H b ys ∧ xs[i]? = some x ∧ ys[i]? = some y,
   fun i H v H' => ∃ p x y, H p = none ∧ v = .ref p ∧ H' = upd H p (.tup [x, y]) ∧ (∀ xs, SqT K H a xs → xs[i]? = some x) ∧ ∀ ys, SqT K H b ys → ys[i]? = some y,
   fun i H => ∃ xs ys, SqT K H a xs ∧ SqT K H b ys ∧ (xs.length ≤ i ∨ ys.length ≤ i)⟩
def ZSt (z TI TO i1 i2 a b : Addr) (i : Nat) (h : Heap) : Prop := IsZip h z TI TO .none ∧ IsPair h TI (.ref i1) (.ref i2) ∧ (∃ u v, IsPair h TO u v) ∧ h.IsTupleIter i1 a i ∧ h.IsTupleIter i2 b i
theorem tupIter_at {h h' : Heap} {i a : Addr} {n : Nat} (x : h.IsTupleIter i a n) (k : ∀ o, h.get? i = some o → h'.get? i = some o) : h'.IsTupleIter i a n := let ⟨o, e, r⟩ := x; ⟨o, k o e, r⟩
theorem tup_at {h h' : Heap} {a : Addr} {ys : Array Value} (x : h.IsTuple a ys) (k : ∀ o, h.get? a = some o → h'.get? a = some o) : h'.IsTuple a ys := let ⟨o, e, r⟩ := x; ⟨o, k o e, r⟩
/-! ### zip(a, b) of two tuples, walked -/
abbrev zA (h : Heap) (a : Addr) : Heap := h.push { cls := .type "tuple_iterator", data := .fields #[.ref a, .int 0 0] }
abbrev zB (h : Heap) (a b : Addr) : Heap := zA (zA h a) b
abbrev zC (h : Heap) (a b : Addr) : Heap := (zB h a b).push { cls := .type "tuple", data := .seq #[.ref h.objs.size, .ref (zA h a).objs.size] }
abbrev zD (h : Heap) (a b : Addr) : Heap := (zC h a b).push { cls := .type "tuple", data := .seq #[.none, .none] }
abbrev zE (h : Heap) (a b : Addr) : Heap := (zD h a b).push { cls := .type "zip", data := .fields #[.none, .bool false, .bool false, .ref (zB h a b).objs.size, .ref (zC h a b).objs.size] }
def iZip (K : PySem.W.Frag) (ta : TA) : TI := fun σ H R => ta σ H fun vs H1 => ∃ a b, vs = [.ref a, .ref b] ∧ (∃ xs, SqT K H1 a xs) ∧ (∃ ys, SqT K H1 b ys) ∧ R (Itz K a b) H1
end B

namespace B
open PySem PySem.Spec L2 PyProof.Rows
theorem draws_tup {prog : Program} {w : World} {A : Around} (hh : A.handled = none) (it a : Addr) (ne : a ≠ it) (items : Array Value) :
    Draws prog w A it [it, a] items.size (fun i v => items[i]? = some v) (fun i h => h.IsTupleIter it a i ∧ h.IsTuple a items) where
  live := fun _ _ st => let ⟨o, ho, _⟩ := st.1; ⟨o, ho⟩
  frame := fun _ _ _ st hk => ⟨tupIter_at st.1 fun o e => hk it (by simp) o e, tup_at st.2 fun o e => hk a (by simp) o e⟩
  item := fun i s Q E hi st hQ => by
    have hx : items[i]? = some (items[i]'hi) := Array.getElem?_eq_getElem hi
    exact nx_item st.1 st.2 hx fun h' i' sb => hQ _ h' s.toks hx ⟨i', tup_at st.2 fun o e => sb.extBut _ _ ne e⟩ sb
  done := fun s Q E st hE => nx_end hh st.1 st.2 (by simp) hE
theorem enum_newT (a : Addr) (xs : Array Value) : Meets (Builtin.«enumerate.__new__» ⟨[.type "enumerate", .ref a], []⟩) (fun _ R s => s.heap.IsTuple a xs ∧
      R (.ok (.ret (.ref (zA s.heap a).objs.size))) { s with heap := (zA s.heap a).push { cls := .type "enumerate", data := .fields #[.none, .bool false, .ref s.heap.objs.size, rawInt 0, .none, .none] } }) :=
  .of_wp fun prog w A R s h => by
    obtain ⟨hp, g, d, tk, os⟩ := s; obtain ⟨hl, h⟩ := h
    obtain ⟨⟨c, dct, dt, sl⟩, ho, hc, n, hd⟩ := id hl
    replace hc : c = .type "tuple" := hc
    replace hd : dt = .seq xs n := hd
    subst hc hd
    have hsub := sub_enumerate
    have L : Heap.IsTuple (Shared.heap ⟨hp, g, d, tk, os⟩) a xs := hl
    wp_walk using AutoSeq1.wpAny_loadPart' ho
    refine wpAny_stack_any fun st => wpAny_pure ?_
    split
    · rename_i c _ _ _ _ _
      cases (c == Value.type "enumerate")
      · wp_walk using AutoSeq1.wpAny_loadPart' ho, wpAny_pyIter_tuple L
        exact ⟨_, rfl, h⟩
      · wp_walk using AutoSeq1.wpAny_loadPart' ho, wpAny_pyIter_tuple L
        exact ⟨_, rfl, h⟩
    · wp_walk using AutoSeq1.wpAny_loadPart' ho, wpAny_pyIter_tuple L
      exact ⟨_, rfl, h⟩
theorem call_enumT {prog : Program} {w : World} {A : Around} {E : Value → Shared → Prop} {s : Shared} {a : Addr} {items : Array Value} {Q : Value → Shared → Prop} (hL : s.heap.IsTuple a items)
    (h : ∀ h', IsEnum h' (s.heap.objs.size + 1) s.heap.objs.size 0 .none → h'.IsTupleIter s.heap.objs.size a 0 → h'.objs.size = s.heap.objs.size + 2 →
      (∀ b o, s.heap.get? b = some o → h'.get? b = some o) → Q (.ref (s.heap.objs.size + 1)) { s with heap := h' }) :
    wpAny (model prog w) A (call (.type "enumerate") [.ref a]) Q E s := by
  refine callType_new F.called_enumerate (by decide) (F.typeCall_enumerate_1 _) (F.newCall_enumerate_1 _) (fun obj => F.args_object_init_2 obj _) F.entry_enumerate_new
    (enum_newT a items) ⟨hL, ?_⟩
  have hz : (zA s.heap a).objs.size = s.heap.objs.size + 1 := Heap.size_push ..
  show _ ∧ _
  rw [hz]
  have he : IsEnum ((zA s.heap a).push { cls := .type "enumerate", data := .fields #[.none, .bool false, .ref s.heap.objs.size, rawInt 0, .none, .none] }) (s.heap.objs.size + 1) s.heap.objs.size 0 .none := by
    have := Heap.get?_push_size (zA s.heap a) (o := { cls := .type "enumerate", data := .fields #[.none, .bool false, .ref s.heap.objs.size, rawInt 0, .none, .none] }) rfl
    rw [hz] at this; exact this
  refine ⟨⟨_, he, rfl⟩, h _ he ⟨_, Heap.get?_push_of_some _ (Heap.get?_push_size _ rfl), rfl, rfl⟩ (by rw [Heap.size_push, hz]) fun b o x => Heap.get?_push_of_some _ (Heap.get?_push_of_some _ x)⟩

/-! ### enumerate(a tuple), walked -/
def IteT (K : PySem.W.Frag) (a : Addr) : It :=
  ⟨fun i H => ∃ xs x, SqT K H a xs ∧ xs[i]? = some x,
   fun i H v H' => ∃ p x, H p = none ∧ v = .ref p ∧ H' = upd H p (.tup [.int i, x]) ∧ ∀ xs, SqT K H a xs → xs[i]? = some x,
   fun i H => ∃ xs, SqT K H a xs ∧ xs.length ≤ i⟩
theorem turn_enT {P : Program} {w : World} {K : PySem.W.Frag} {elts : List Expr} {x1} {pos : Pos} {e it a : Addr} (hei : e ≠ it) :
    Turn P w K (.Tuple elts x1 pos) (IteT K a) [e, it] e (fun i h => (∃ old, IsEnum h e it (i : Nat) old) ∧ h.IsTupleIter it a i) where
  mem := by simp
  obj := fun i h st c hc => by
    obtain ⟨⟨old, h1⟩, ⟨o2, h2, c2, d2⟩⟩ := st
    simp only [List.mem_cons, List.not_mem_nil, or_false] at hc
    rcases hc with rfl | rfl
    · exact ⟨_, h1, fun v q => by cases (show Data.fields _ = Data.cell v from q)⟩
    · exact ⟨o2, h2, fun v q => by rw [d2] at q; cases q⟩
  keep := fun i h h' st k => by
    obtain ⟨⟨old, h1⟩, h2⟩ := st
    exact ⟨⟨old, k e (by simp) _ h1⟩, tupIter_at h2 fun o q => k it (by simp) o q⟩
  item := by
    intro X hP hw hK hc i pins s σ H E I hf st hg
    subst hP hw hK
    obtain ⟨xs, x, q1, hx⟩ := hg
    obtain ⟨its, rv, p1, z1⟩ := I.tuple q1
    obtain ⟨u, hu, ru⟩ := rv.get hx
    have off : ∀ c ∈ [e, it], a ≠ c := fun c hc => sqT_off I q1 (hf c hc)
    obtain ⟨⟨old, h1⟩, h2⟩ := st
    have hh : X.A.in1.handled = none := I.ok.hd hc
    have na : a ≠ it := off it (by simp)
    have ne : e ∉ [it, a] := fun q => by
      simp only [List.mem_cons, List.not_mem_nil, or_false] at q
      rcases q with q | q
      · exact hei q
      · exact off e (by simp) q.symm
    have hi : i < its.toArray.size := by have := (List.getElem?_eq_some_iff.mp hu).1; simpa using this
    have el : e < s.heap.objs.size := Heap.lt_size h1
    have il : it < s.heap.objs.size := by obtain ⟨o2, q2, _⟩ := h2; exact Heap.lt_size q2
    refine wpAny_pyNext_enum_itemD (draws_tup hh it a na its.toArray) h1 ⟨h2, p1⟩ hi hei ne fun v h' tk hv eo st' tup hz hk => ⟨_, rfl, wpAny_letOwnedTupleGo_enum eo fun h'' e2 sb => ?_⟩
    have ev : v = u := by
      have : its.toArray[i]? = some u := by simpa using hu
      rw [this] at hv
      exact (Option.some.inj hv).symm
    subst ev
    have nt : s.heap.objs.size ≠ e := Nat.ne_of_gt el
    have ni : s.heap.objs.size ≠ it := Nat.ne_of_gt il
    have P : ObjOk X.prog X.w (upd H s.heap.objs.size (.tup [.int i, x])) h'' s.heap.objs.size (.tup [.int i, x]) :=
      ⟨by show 2 ≤ sizeLine; decide, [.int i tk, v], .cons ⟨_, rfl⟩ (.cons ru .nil), ⟨_, sb.extBut _ _ nt tup, rfl, _, rfl⟩⟩
    have I2 : Inv X pins σ (upd H s.heap.objs.size (.tup [.int i, x])) { s with heap := h'', toks := tk + 1 } := turnedN I (fun c o' n q => by
      have n1 : c ≠ e := fun r => n (by simp [r])
      have n2 : c ≠ it := fun r => n (by simp [r])
      exact sb.extBut _ _ n1 (hk c o' n1 n2 q)) hf (Nat.le_refl _) P
    refine ⟨.ref s.heap.objs.size, _, I2, rfl, ⟨_, x, I.fresh, rfl, rfl, fun ys hy => by rw [I.tuple_inj hy q1]; exact hx⟩, ⟨⟨_, by simpa using e2⟩, tupIter_at st'.1 fun o q => sb.extBut _ _ hei.symm q⟩, fun c hc => ?_⟩
    have lt : c < s.heap.objs.size := by
      simp only [List.mem_cons, List.not_mem_nil, or_false] at hc
      rcases hc with rfl | rfl
      · exact el
      · exact il
    rw [upd_ne (Nat.ne_of_lt lt)]
    exact (hf c hc).1
  done := by
    intro X hP hw hK hc i pins s σ H E I hf st hg
    subst hP hw hK
    obtain ⟨xs, q1, hx⟩ := hg
    obtain ⟨its, rv, p1, z1⟩ := I.tuple q1
    have off : ∀ c ∈ [e, it], a ≠ c := fun c hc => sqT_off I q1 (hf c hc)
    obtain ⟨⟨old, h1⟩, h2⟩ := st
    have hh : X.A.in1.handled = none := I.ok.hd hc
    have hl := rv.length
    have nn : its.toArray[i]? = none := by rw [Array.getElem?_eq_none_iff]; simp; omega
    have hT : s.TypeIs (.ref e) "enumerate" := ⟨_, h1, rfl⟩
    unfold pyNext
    refine wpAny_bind (wpAny_attempt (wpAny_callSpecial?_slot (name := Str.ofString "__next__") hT F.slot_enumerate_next
      (wpAny_call_entry F.slot_enumerate_next hT F.entry_enumerate_next ?_ (F.args_enumerate_next_1 _))))
    show wpAny _ _ (field (.ref e) 2 >>= _) _ _ _
    refine wpAny_bind (wpAny_field h1 rfl (x := .ref it) rfl ?_)
    refine wpAny_bind (nx_end hh h2 p1 nn fun h' x he' hx' => ?_)
    obtain ⟨o, ho, hcl⟩ := hx'
    refine wpAny_bind (wpAny_isInstance (T := "StopIteration") (b := true) ⟨o, ho, hcl⟩ isSubtype_stop ?_)
    refine wpAny_pure ⟨rfl, ?_⟩
    exact turnedL (t' := s.toks) I (fun c o' n q => he' c o' (fun r => n (by simp [r])) q) hf
  self := fun A i s Q E st h => by
    obtain ⟨⟨old, h1⟩, _⟩ := st
    exact wpAny_pyIter_enum h1 h
def iEnT (K : PySem.W.Frag) (ta : TA) : TI := fun σ H R => ta σ H fun vs H1 => ∃ a, vs = [.ref a] ∧ (∃ xs, SqT K H1 a xs) ∧ R (IteT K a) H1
theorem pi_enum {X : Cx} {elts : List Expr} {x1} {tp p pos : Pos} {a : Expr} {ta : TA} (hg : Gl X "enumerate") (hm : X.mg "enumerate" = none) (ha : PA X [a] ta) (hs : starEach [a] X.env = [(false, eval a X.env)] := by rfl) :
    PI X (.Tuple elts x1 tp) (.Call (.Name "enumerate" p) [a] [] pos) (iEnT X.K ta) := by
  intro pins s σ H R I h
  refine Call_ (ld_blt I hg hm (show bootBuiltins "enumerate" = some (.type "enumerate") by kernel_rfl) (PyProof.Rows.callWith_type1 (thn (ha pos pins s σ H _ I h) fun us s1 ⟨vs, H1, I1, r1, q1⟩ => ?_) hs rfl))
  obtain ⟨a, e, ⟨xs, hx⟩, q⟩ := q1
  subst e
  obtain ⟨u, rfl, ru⟩ := r1.one
  cases ru
  obtain ⟨its, _, p1, _⟩ := I1.tuple hx
  refine call_enumT p1 fun h' he hi sz kk => wpAny_pyIter_enum he ?_
  have I2 : Inv X pins σ H1 { s1 with heap := h' } := I1.kept (t' := s1.toks) kk
  refine ⟨_, [s1.heap.objs.size + 1, s1.heap.objs.size], _, _, H1, rfl, I2, turn_enT (a := a) (Nat.succ_ne_self _), ⟨⟨_, he⟩, hi⟩, fun c hc => ?_, q⟩
  have le : s1.heap.objs.size ≤ c := by
    simp only [List.mem_cons, List.not_mem_nil, or_false] at hc
    rcases hc with h | h
    · rw [h]; exact Nat.le_succ _
    · rw [h]; exact Nat.le_refl _
  exact I1.fpOk le (I1.hok.fresh le)
theorem for_enum {K : PySem.W.Frag} {a : Addr} {xs : List V} {g : TG} {tb : TS} {D : Ends} {σ : L2.St} {H : Hp} (Pv : Nat → L2.St → Hp → Prop) (h0 : Pv 0 σ H)
    (hl : ∀ i σ H, i ≤ xs.length → Pv i σ H → SqT K H a xs)
    (hs : ∀ i x p σ H, xs[i]? = some x → Pv i σ H → H p = none → g (.ref p) σ (upd H p (.tup [.int i, x])) fun σ2 H2 => tb { D with nx := Pv (i + 1), ct := Pv (i + 1), bk := D.nx } σ2 H2) (hd : ∀ σ H, Pv xs.length σ H → D.nx σ H) :
    ∃ W : Nat → Nat → L2.St → Hp → Prop, (∃ m, W 0 m σ H) ∧ ∀ i m σ H, W i m σ H →
      ((IteT K a).stop i H ∧ D.nx σ H) ∨ ((IteT K a).go i H ∧ ∃ N : L2.St → Hp → Prop, (∀ σ' H', N σ' H' → ∃ m', m' < m ∧ W (i + 1) m' σ' H') ∧ ∀ x H', (IteT K a).yld i H x H' → g x σ H' fun σ2 H2 => tb { D with nx := N, ct := N, bk := D.nx } σ2 H2) := by
  refine ⟨fun i m σ H => m = xs.length - i ∧ i ≤ xs.length ∧ Pv i σ H, ⟨_, rfl, Nat.zero_le _, h0⟩, ?_⟩
  rintro i m σ H ⟨rfl, hi, p⟩
  have q := hl i σ H hi p
  by_cases hlt : i < xs.length
  · refine .inr ⟨⟨xs, _, q, List.getElem?_eq_getElem hlt⟩, Pv (i + 1), fun σ' H' p' => ⟨xs.length - (i + 1), by omega, rfl, hlt, p'⟩, fun x H' y => ?_⟩
    obtain ⟨pp, v, hp, rfl, rfl, hv⟩ := y
    exact hs i v pp σ _ (hv xs q) p hp
  · have e : i = xs.length := by omega
    subst e
    exact .inl ⟨⟨xs, q, Nat.le_refl _⟩, hd σ H p⟩

/-! ### enumerate(a list), walked -/
def IteL (K : PySem.W.Frag) (a : Addr) : It :=
  ⟨fun i H => ∃ xs x, SqL K H a xs ∧ xs[i]? = some x,
   fun i H v H' => ∃ p x, H p = none ∧ v = .ref p ∧ H' = upd H p (.tup [.int i, x]) ∧ ∀ xs, SqL K H a xs → xs[i]? = some x,
   fun i H => ∃ xs, SqL K H a xs ∧ xs.length ≤ i⟩
def iEnL (K : PySem.W.Frag) (ta : TA) : TI := fun σ H R => ta σ H fun vs H1 => ∃ a, vs = [.ref a] ∧ (∃ xs, SqL K H1 a xs) ∧ R (IteL K a) H1

end B

namespace B
open PySem PySem.Spec L2 PyProof.Rows
/-! ### (a, b, ..) = a list of that length -/
section
variable {prog : Program} {w : World} {A : Around} {E : Value → Shared → Prop}
end
def gLst (K : PySem.W.Frag) (n : Nat) (t : TGs) : TG := fun v σ H Q => ∃ a xs, v = .ref a ∧ SqL K H a xs ∧ xs.length = n ∧ t xs σ H Q
end B

namespace B
open PySem PySem.Spec L2 PyProof.Rows
/-! ### t[lo:hi], the whole of t: t itself -/
section
variable {prog : Program} {w : World} {A : Around} {E : Value → Shared → Prop} {s : Shared}
open HT in
theorem tuple_whole {t sl : Addr} {items : Array Value} {vl vu : Value} {lo hi : Option Int} {Q : Value → Shared → Prop} (ht : IsTup s.heap t items) (hs : s.heap.IsSliceOf sl vl vu .none) (pl : IsPart vl lo) (pu : IsPart vu hi)
    (h1 : sIx items.size 0 lo = 0) (h2 : sIx items.size items.size hi = items.size) (h : Q (.ref t) s) : wpAny (model prog w) A (getItem (.ref t) (.ref sl)) Q E s := by
  obtain ⟨os, hos, hcs, hds⟩ := id hs
  have hTs : s.TypeIs (.ref sl) "slice" := ⟨os, hos, hcs⟩
  unfold getItem
  try with_reducible refine wpAny_holding ?_
  first | refine wpAny_bind (wpAny_pure ?_) | skip
  refine wpAny_bind (wpAny_sequenceKey ht.typeIs (by decide) ?_)
  refine wpAny_bind (wpAny_callSpecial?_slot (name := Str.ofString "__getitem__") ht.typeIs PyProof.Rows.slot_tuple_getitem
    (wpAny_call_entry PyProof.Rows.slot_tuple_getitem ht.typeIs entry_tuple_getitem ?_ (args_tuple_getitem _ _)))
  show wpAny _ _ (Builtin.Tuple.tupleItemsOf (.ref t) >>= _) _ _ s
  refine wpAny_bind (tupleItemsOf_ ht ?_)
  refine wpAny_bind (wpAny_typeOf hTs ?_)
  rw [if_pos (by decide)]
  refine wpAny_bind (sliceApplied_gen hs pl pu ?_)
  have hyes : ((((sIx items.size 0 lo : Nat) : Int) == 0 && (1 : Int) == 1 && (sIx items.size items.size hi - sIx items.size 0 lo) == items.size) = true) := by
    rw [h1, h2]; simp
  show wpAny _ _ (if (((sIx items.size 0 lo : Nat) : Int) == 0 && (1 : Int) == 1 && (sIx items.size items.size hi - sIx items.size 0 lo) == items.size) = true then _ else _) _ _ s
  rw [if_pos hyes]
  refine wpAny_bind ?_
  unfold Builtin.Tuple.tupleIsExact
  refine wpAny_bind (wpAny_typeOf ht.typeIs ?_)
  refine wpAny_pure ?_
  rw [if_pos (by decide)]
  exact wpAny_bind (wpAny_rule (wpAny_pure ⟨_, rfl, wpAny_pure h⟩))
end
def rSlW (K : PySem.W.Frag) : V → Option Int → Option Int → Hp → VK → Prop := fun x lo hi H Q => ∃ a xs, x = .ref a ∧ SqT K H a xs ∧ HT.sIx xs.length 0 lo = 0 ∧ HT.sIx xs.length xs.length hi = xs.length ∧ Q (.ref a) H
theorem sl_tupW {X : Cx} : SlR X (rSlW X.K) := by
  intro pins s σ H x v vl vu lo hi sl Q I rx hs pl pu h
  obtain ⟨a, xs, rfl, hx, h1, h2, q⟩ := h
  cases rx
  obtain ⟨its, r, ht, hz⟩ := I.tuple hx
  have hlen : its.toArray.size = xs.length := by rw [List.size_toArray]; exact r.length.symm
  refine ⟨"tuple", _, PyProof.Rows.slot_tuple_getitem.lookup, ht.typeIs, ?_⟩
  exact tuple_whole ht hs pl pu (by rw [hlen]; exact h1) (by rw [hlen]; exact h2) ⟨.ref a, H, I, rfl, q⟩
/-- any slice of a tuple -/
theorem sl_tupA {X : Cx} : SlR X (fun x lo hi H Q => rSlW X.K x lo hi H Q ∨ rSlT X.K x lo hi H Q) := SlR.or sl_tupW sl_tup
end B

namespace B
/-! ### ratios whose bottoms divide a number and whose values are bounded -/
structure Bq (D N : Nat) (r : R) : Prop where
  pos : 0 < r.2
  cop : Int.gcd r.1 r.2 = 1
  dvd : r.2 ∣ (D : Int)
  le : r.1.natAbs ≤ N * r.2.natAbs
theorem bq_mk {D N : Nat} {a b : Int} (hb : 0 < b) (hd : b ∣ (D : Int)) (hl : a.natAbs ≤ N * b.natAbs) : Bq D N (mkR a b) := by
  obtain ⟨g, x, y, e0, gp, e1, e2, c⟩ := gcd_parts (a := a) hb
  have yp := pos_of hb gp e2
  have e : mkR a b = (x, y) := by
    unfold mkR
    rw [e0, show a / g = x by rw [e1]; exact Int.mul_ediv_cancel_left _ (by omega), show b / g = y by rw [e2]; exact Int.mul_ediv_cancel_left _ (by omega)]
  rw [e]
  refine ⟨yp, c, Int.dvd_trans ⟨g, by rw [e2, Int.mul_comm]⟩ hd, ?_⟩
  rw [e1, e2, Int.natAbs_mul, Int.natAbs_mul] at hl
  have gn : 0 < g.natAbs := by omega
  refine Nat.le_of_mul_le_mul_left (c := g.natAbs) ?_ gn
  show g.natAbs * x.natAbs ≤ g.natAbs * (N * y.natAbs)
  rw [Nat.mul_left_comm]
  exact hl
theorem mkR_pos {a b : Int} (ha : 0 < a) (hb : 0 < b) : 0 < (mkR a b).1 := Int.ediv_pos_of_pos_of_dvd ha (Int.le_of_lt (gcd_posR hb)) (Int.gcd_dvd_left a b)
theorem Bq.bot {D N : Nat} {r : R} (hD : 0 < D) (h : Bq D N r) : r.2.natAbs ≤ D := by
  have := Int.natAbs_dvd_natAbs.mpr h.dvd
  rw [Int.natAbs_natCast] at this
  exact Nat.le_of_dvd hD this
theorem Bq.wf {D N n : Nat} {r : R} (h : Bq D N r) (hD : 0 < D) (h1 : D < 2 ^ n) (h2 : N * D < 2 ^ n) : Wf n r :=
  ⟨h.pos, Nat.lt_of_le_of_lt (Nat.le_trans h.le (Nat.mul_le_mul_left _ (h.bot hD))) h2, Nat.lt_of_le_of_lt (h.bot hD) h1, h.cop⟩
/-! ### the order -/
/-! ### products one behind the other -/
end B

namespace B
open PySem PySem.Spec L2 PyProof.Rows
/-! ### rules of power -/
inductive Rl where
  | pow (k : Int)
  | tab (rows : List (R × R))
def rowD : R × R := ((0, 1), (0, 1))
def slopeR (lo hi : R × R) : R := overR (minusR hi.2 lo.2) (minusR hi.1 lo.1)
def slp (rows : List (R × R)) (k : Nat) : R := slopeR (rows.getD k rowD) (rows.getD (k + 1) rowD)
def pOf (rows : List (R × R)) (s : R) : Nat := rows.countP fun r => lessR r.1 s
def qOf (rows : List (R × R)) (s : R) : Nat := rows.countP fun r => !lessR s r.1
def leftT (rows : List (R × R)) (s : R) : R := if pOf rows s = 0 then (0, 1) else slp rows (pOf rows s - 1)
def rightT (rows : List (R × R)) (s : R) : Option R := if qOf rows s < rows.length then some (slp rows (qOf rows s - 1)) else none
def powS (k : Int) (s : R) : R := timesR (k, 1) (powR s (k - 1).toNat)
def sidesOf : Rl → R → R × Option R
  | .pow k, s => (powS k s, some (powS k s))
  | .tab rows, s => (leftT rows s, rightT rows s)
def Inc (rows : List (R × R)) : Prop := rows.Pairwise fun a b => lessR a.1 b.1 = true
def AllP (rows : List (R × R)) : Prop := ∀ r ∈ rows, 0 < r.1.2
abbrev D0 : Nat := 5822723907000000000
abbrev N0 : Nat := 1000000007
abbrev N1 : Nat := 17179869184
abbrev NR : Nat := 11000000077
abbrev N2 : Nat := 1180591620717411303424
structure RowsOk (rows : List (R × R)) : Prop where
  n2 : 2 ≤ rows.length
  n12 : rows.length ≤ 12
  inc : Inc rows
  zero : ∃ y, rows[0]? = some ((0, 1), y)
  sp : ∀ r ∈ rows, Bq D0 NR r.1
  pw : ∀ r ∈ rows, Bq (D0 * D0) N2 r.2
def RlOk : Rl → Prop
  | .pow k => 2 ≤ k ∧ k ≤ 4
  | .tab rows => RowsOk rows
/-- a speed that may be asked -/
structure SpOk (s : R) : Prop where
  bq : Bq (D0 * 2) N1 s
  nn : 0 ≤ s.1
def Below : Rl → R → Prop
  | .pow _, _ => True
  | .tab rows, s => ∃ r, rows[rows.length - 1]? = some r ∧ lessR r.1 s = false
/-! ### the same by going through the pairs -/
def lAt (rows : List (R × R)) (s : R) (i : Nat) : R := if 0 < pOf rows s ∧ pOf rows s - 1 < i then slp rows (pOf rows s - 1) else (0, 1)
def rAt (rows : List (R × R)) (s : R) (i : Nat) : Option R := if 0 < qOf rows s ∧ qOf rows s - 1 < i then some (slp rows (qOf rows s - 1)) else none
/-- the slope of a power, product by product -/
def powAt (k : Int) (s : R) (j : Nat) : R := mkR (k * s.1 ^ j) (s.2 ^ j)
/-! ### who bears -/
def bearM (l : R) (r : Option R) (g : R) : Bool := !lessR g l && (match r with | none => true | some x => !lessR x g)
end B

namespace B
/-! ### ratios as numbers -/
def val (r : R) : Rat := (r.1 : Rat) / (r.2 : Rat)
end B

namespace B
open PySem PySem.Spec L2 PyProof.Rows
/-! ### the same rules, each promise kept in a box, so that nothing is unfolded while terms are read -/
structure QE (X : Cx) (e : Expr) (t : TE) : Prop where
  p : PE X e t
structure QT (X : Cx) (e : Expr) (t : TT) : Prop where
  p : PT X e t
structure QW (X : Cx) (e : Expr) (t : TT) : Prop where
  p : PW X e t
structure QA (X : Cx) (es : List Expr) (t : TA) : Prop where
  p : PA X es t
structure QS (X : Cx) (st : Stmt) (t : TS) : Prop where
  p : PS X st t
structure QSs (X : Cx) (st : List Stmt) (t : TS) : Prop where
  p : PSs X st t
structure QI (X : Cx) (tg iter : Expr) (wi : TI) : Prop where
  p : PI X tg iter wi
structure QG (X : Cx) (target : Expr) (t : TG) : Prop where
  p : PG X target t
structure QGs (X : Cx) (ts : List Expr) (t : TGs) : Prop where
  p : PGs X ts t
theorem QSs.ok {X : Cx} {b : List Stmt} {t : TS} {D : Ends} {σ : L2.St} {H : Hp} (h : QSs X b t) (r : t D σ H) : ∃ t : TS, PSs X b t ∧ t D σ H := ⟨t, h.p, r⟩
structure QO (X : Cx) (o : Option Expr) (t : L2.TO) : Prop where
  p : PO X o t
section
set_option autoImplicit true
set_option relaxedAutoImplicit true
theorem qv  (i : Nat) {x : Str} {pos : Pos} (hN : X.N[i]? = some x := by rfl) (hv : Vis X.env.scope x := by first | exact Or.inl rfl | exact Or.inr (Or.inl rfl) | exact Or.inr (Or.inr rfl)) (hd : (x == ("__debug__" : Str)) = false := by decide) (hcd : (x == ("__classdict__" : Str)) = false := by decide) : QE X (.Name x pos) (tVar i) := ⟨pv i hN hv hd hcd⟩
theorem qe_int  {i j pos} : QE X (.Constant (.int i) j pos) (tC (.int i)) := ⟨pe_int ⟩
theorem qe_bl  {b j pos} : QE X (.Constant (.bool b) j pos) (tC (.bl b)) := ⟨pe_bl ⟩
theorem qe_non  {j pos} : QE X (.Constant .none j pos) (tC .non) := ⟨pe_non ⟩
theorem qe_bltn  {x : Str} {v : V} {u : Value} {pos : Pos} (hg : Gl X x) (hm : X.mg x = none) (hv : bootBuiltins x = some u) (r : RelV v u) (hn : x ≠ "__name__" := by decide) (hd : (x == ("__debug__" : Str)) = false := by decide) : QE X (.Name x pos) (tC v) := ⟨pe_bltn hg hm hv r hn hd⟩
theorem qe_un  {op : UnaryOp} {r : V → Hp → VK → Prop} (ho : UnR X (unaryOp op) r) (ha : QE X a ta) : QE X (.UnaryOp op a pos) (tUn r ta) := ⟨pe_un ho ha.p⟩
theorem qe_op  {op : Operator} {r : R2} (ho : OpR X (binaryOp op) r) (ha : QE X a ta) (hb : QE X b tb) : QE X (.BinOp a op b pos) (tOp r ta tb) := ⟨pe_op ho ha.p hb.p⟩
theorem qe_cmpR  {op : CmpOp} {r : R2} (ho : OpR X (compareOp op) r) (ha : QE X a ta) (hb : QE X b tb) (hm : behindInMarks op b = false) : QE X (.Compare a [op] [b] pos) (tOp r ta tb) := ⟨pe_cmpR ho ha.p hb.p hm⟩
theorem qe_lst  (h : QA X es t) : QE X (.List es pos) (tLst t) := ⟨pe_lst h.p⟩
theorem qe_tup  {x1} (h : QA X es t) : QE X (.Tuple es x1 pos) (tTup t) := ⟨pe_tup h.p⟩
theorem qe_slice {lo hi : Option Expr} {r : V → Option Int → Option Int → Hp → VK → Prop} (hr : SlR X r) (he : QE X e te) (hl : QO X lo tl) (hu : QO X hi th) : QE X (.Subscript e (.Slice lo hi none p2) pos) (tSl r te tl th) := ⟨pe_slice hr he.p hl.p hu.p⟩
theorem qo_none   : QO X none tNoPart := ⟨po_none ⟩
theorem qo_some  (h : QE X e te) : QO X (some e) (tPart te) := ⟨po_some h.p⟩
theorem qe_ix  {r : R2} (hr : IxR X r) (ha : QE X a ta) (hb : QE X b tb) (hs : PlainIx b) : QE X (.Subscript a b pos) (tOp r ta tb) := ⟨pe_ix hr ha.p hb.p hs⟩
theorem qe_call  (F : FnOk X.prog X.w X.K X.mg X.base CX k f fd ps sp) (hr : Room k X.A) (hg : Gl X x) (hm : X.mg x = some (.ref f)) (hk : PySem.W.keepIn X.K (.ref f) = true) (hb : Binds X.K fd ps ds) (hd : Vals dvs ds) (hx : Passes CX X E) (ha : QA X (e :: es) t) (hdb : (x == ("__debug__" : Str)) = false := by decide) (he : starEach (e :: es) X.env = (false, eval e X.env) :: starEach es X.env := by rfl) (hpl : (backTo pos (starEach es X.env)).any (·.1) = false := by rfl) : QE X (.Call (.Name x p) (e :: es) [] pos) (tCall sp dvs E t) := ⟨pe_call F hr hg hm hk hb hd hx ha.p hdb he hpl⟩
theorem qe_callB {id : String} (hc : CallR X (.builtin id) r) (hg : Gl X x) (hm : X.mg x = none) (hv : bootBuiltins x = some (.builtin id)) (ha : QA X (e :: es) t) (hn : x ≠ "__name__" := by decide) (hdb : (x == ("__debug__" : Str)) = false := by decide) (he : starEach (e :: es) X.env = (false, eval e X.env) :: starEach es X.env := by rfl) (hpl : (backTo pos (starEach es X.env)).any (·.1) = false := by rfl) : QE X (.Call (.Name x p) (e :: es) [] pos) (tCB r t) := ⟨pe_callB hc hg hm hv ha.p hn hdb he hpl⟩
theorem qe_callTy  (hc : CallR X (.type T) r) (hg : Gl X x) (hm : X.mg x = none) (hv : bootBuiltins x = some (.type T)) (ha : QA X (e :: es) t) (hn : x ≠ "__name__" := by decide) (hdb : (x == ("__debug__" : Str)) = false := by decide) (he : starEach (e :: es) X.env = (false, eval e X.env) :: starEach es X.env := by rfl) (hpl : (backTo pos (starEach es X.env)).any (·.1) = false := by rfl) : QE X (.Call (.Name x p) (e :: es) [] pos) (tCB r t) := ⟨pe_callTy hc hg hm hv ha.p hn hdb he hpl⟩
theorem qe_bm {id : String} (pa : PlainAttrs T) (slot : Slot T name id) (hty : typeOf (.builtin id) = pure (.type "method_descriptor")) (hm : MtR X id r) (ho : QE X o to) (ha : QA X (e :: es) t) (hbase : attributeBase o name X.env (eval o X.env) = eval o X.env := by rfl) (hfew : ((backTo cpos (starEach (e :: es) X.env)).all (fun x => !x.1) && (backToKw cpos (keywordEach [] X.env)).all (fun x => x.1.isSome)
      && decide ((e :: es).length + ([] : List Keyword).length + (if ([] : List Keyword).isEmpty then 0 else 1) < 30)) = true := by rfl) (hline : (apos.endLine == cpos.line) = true := by rfl) (hs : starEach (e :: es) X.env = (false, eval e X.env) :: starEach es X.env := by rfl) (hplain : (backTo cpos (starEach es X.env)).any (·.1) = false := by rfl) : QE X (.Call (.Attribute o name apos) (e :: es) [] cpos) (tBM X.K T r to t) := ⟨pe_bm pa slot hty hm ho.p ha.p hbase hfew hline hs hplain⟩
theorem qa_nil   : QA X [] tNil := ⟨pa_nil ⟩
theorem qa_cons  (ha : QE X e te) (hr : QA X es t) (hs : starEach (e :: es) X.env = (false, eval e X.env) :: starEach es X.env := by rfl) : QA X (e :: es) (tCons te t) := ⟨pa_cons ha.p hr.p hs⟩
theorem qt_cmpR  {op : CmpOp} {r : R2} (ho : OpR X (compareOp op) r) (ha : QE X a ta) (hb : QE X b tb) (hm : behindInMarks op b = false) : QT X (.Compare a [op] [b] pos) (tTest (tOp r ta tb)) := ⟨pt_cmpR ho ha.p hb.p hm⟩
theorem qt_val  {e : Expr} {t : TE} (h : QE X e t) (he : ∀ whole, isTrue e X.env whole = (do let v ← whole; standAt e.pos; holding [v] (truthy v)) := by intro _; rfl) : QT X e (tB t) := ⟨pt_val h.p he⟩
theorem qw_and {rest : List Expr} (ha : QT X a tA) (hb : QW X (.BoolOp .And (b :: rest) pos) tB') : QW X (.BoolOp .And (a :: b :: rest) pos) (tAnd tA tB') := ⟨pw_and ha.p hb.p⟩
theorem qw_and1  (ha : QT X a tA) : QW X (.BoolOp .And [a] pos) tA := ⟨pw_and1 ha.p⟩
theorem qw_or {rest : List Expr} (ha : QT X a tA) (hb : QW X (.BoolOp .Or (b :: rest) pos) tB') : QW X (.BoolOp .Or (a :: b :: rest) pos) (tOr tA tB') := ⟨pw_or ha.p hb.p⟩
theorem qw_or1  (ha : QT X a tA) : QW X (.BoolOp .Or [a] pos) tA := ⟨pw_or1 ha.p⟩
theorem qw_pt  {X : Cx} {e : Expr} {t : TT} (h : QW X e t) : QT X e t := ⟨PW.pt h.p⟩
theorem qs_set  {i : Nat} {x : Str} {e : Expr} {te : TE} {pos' : Pos} (hN : X.N.Nodup) (hi : X.N[i]? = some x) (hx : Loc X.env.scope x) (he : QE X e te) (hs : swapsWith e (some (.Name x pos')) pos.line X.env = pure false := by rfl) (hf : X.fn x = true ∨ X.env.scope.names.lookup x = some .local := by first | exact .inl rfl | exact .inr rfl | assumption) : QS X (.Assign [.Name x pos'] e pos) (tAsg te (gName i)) := ⟨ps_set hN hi hx he.p hs hf⟩
theorem qs_par  {i j : Nat} {x y : Str} {a b : Expr} {ta : TA} {px py pt : Pos} {kt k2 pt2} (hc : X.calm = true) (hN : X.N.Nodup) (hi : X.N[i]? = some x) (hj : X.N[j]? = some y) (hij : i ≠ j) (hx : X.env.scope.names.lookup x = some .local) (hy : X.env.scope.names.lookup y = some .local) (ha : QA X [a, b] ta) (hw : swappedStores [.Tuple [.Name x px, .Name y py] kt pt] (.Tuple [a, b] k2 pt2) X.env = pure (some [x, y])) (hs : swapsWithSole [.Tuple [.Name x px, .Name y py] kt pt] (.Tuple [a, b] k2 pt2) pos.line X.env = pure false := by rfl) : QS X (.Assign [.Tuple [.Name x px, .Name y py] kt pt] (.Tuple [a, b] k2 pt2) pos) (tPar i j ta) := ⟨ps_par hc hN hi hj hij hx hy ha.p hw hs⟩
theorem qs_asg  {tg e : Expr} {te : TE} {g : TG} (he : QE X e te) (hg : QG X tg g) (hs : swapsWithSole [tg] e pos.line X.env = pure false := by rfl) (hw : swappedStores [tg] e X.env = pure none := by rfl) (h1 : (assignEach [tg] X.env).map (·.2) = [assign tg X.env] := by rfl) : QS X (.Assign [tg] e pos) (tAsg te g) := ⟨ps_asg he.p hg.p hs hw h1⟩
theorem qs_if  {c : Expr} {a b : List Stmt} {tc : TT} (hc : QT X c tc) (ha : QSs X a t) (hb : QSs X b u) : QS X (.If c a b pos) (tIfS tc t u) := ⟨ps_if hc.p ha.p hb.p⟩
theorem qs_while  {c : Expr} {body : List Stmt} {tc : TT} {tb : TS} (hp : PassesOwn (model X.prog X.w) X.A X.env X.xe) (hc : QT X c tc) (hb : QSs X body tb) : QS X (.While c body [] pos) (tWhile tc tb) := ⟨ps_while hp hc.p hb.p⟩
theorem qs_for  {iter : Expr} {body : List Stmt} {wi : TI} {g : TG} {tb : TS} {pos : Pos} (hp : PassesOwn (model X.prog X.w) X.A X.env X.xe) (hc : X.calm = true) (hi : QI X tg iter wi) (hg : QG X tg g) (hb : QSs X body tb) (hs : ∀ x, foldedSetIterable iter X.env x = pure x := by intro _; rfl) : QS X (.For tg iter body [] pos) (tFor wi g tb) := ⟨ps_for hp hc hi.p hg.p hb.p hs⟩
theorem qs_ret  (he : QE X e te) : QS X (.Return (some e) pos) (tRet te) := ⟨ps_ret he.p⟩
theorem qs_expr  (he : QE X e te) (hs : swapsWith e none pos.line X.env = pure false := by rfl) : QS X (.Expr e pos) (tDrop te) := ⟨ps_expr he.p hs⟩
theorem qs_never {st : Stmt}  : QS X st tNever := ⟨ps_never ⟩
theorem qss_nil   : QSs X [] tNext := ⟨pss_nil ⟩
theorem qss_one {st : Stmt} (h1 : QS X st t) : QSs X [st] t := ⟨pss_one h1.p⟩
theorem qss_cons {st : Stmt} {rest : List Stmt} (h1 : QS X st t) (h2 : QSs X rest u) : QSs X (st :: rest) (tSeq t u) := ⟨pss_cons h1.p h2.p⟩
theorem qi_range1  {a : Expr} {ta : TA} {p pos : Pos} (hg : Gl X "range") (hm : X.mg "range" = none) (ha : QA X [a] ta) (hs : starEach [a] X.env = [(false, eval a X.env)] := by rfl) : QI X tg (.Call (.Name "range" p) [a] [] pos) (iRng1 ta) := ⟨pi_range1 hg hm ha.p hs⟩
theorem qi_list {tg : Expr} {l : Expr} {tl : TE} (hl : QE X l tl) : QI X tg l (iList X.K tl) := ⟨pi_list hl.p⟩
theorem qi_tup  {l : Expr} {tl : TE} (hl : QE X l tl) : QI X tg l (iTup X.K tl) := ⟨pi_tup hl.p⟩
theorem qg_name  {i : Nat} {x : Str} (hN : X.N.Nodup) (hi : X.N[i]? = some x) (hx : Loc X.env.scope x) (hf : X.fn x = true ∨ X.env.scope.names.lookup x = some .local := by first | exact .inl rfl | exact .inr rfl | assumption) : QG X (.Name x pos) (gName i) := ⟨pg_name hN hi hx hf⟩
theorem qg_tup  {es : List Expr} {k : Nat} {t : TGs} {n : Nat} (hc : X.calm = true) (h : QGs X es t) (hn : (assignEach es X.env).length = n := by rfl) (hst : (assignEach es X.env).findIdx? (·.1) = none := by rfl) : QG X (.Tuple es k pos) (gTup X.K n t) := ⟨pg_tup hc h.p hn hst⟩
theorem qg_sub  {o i : Expr} {to ti : TE} {t : TSet} (ho : QE X o to) (hi : QE X i ti) (hs : PSet X t) (ha : ∀ v, assign (.Subscript o i pos) X.env v = (do
      let ov ← holding [v] (eval o X.env)
      let iv ← holding [v, ov] (eval i X.env)
      standAt pos
      holding [v, ov, iv] (setItem ov iv v)
      release [v, ov, iv] []) := by intro _; rfl) : QG X (.Subscript o i pos) (gSub to ti t) := ⟨pg_sub ho.p hi.p hs ha⟩
theorem qgs_nil   : QGs X [] gNil := ⟨pgs_nil ⟩
theorem qgs_cons  {e : Expr} {es : List Expr} {t : TG} {u : TGs} (h1 : QG X e t) (h2 : QGs X es u) (hs : (assignEach (e :: es) X.env).map (·.2) = assign e X.env :: (assignEach es X.env).map (·.2) := by rfl) : QGs X (e :: es) (gCons t u) := ⟨pgs_cons h1.p h2.p hs⟩
end
end B

namespace B
open PySem PySem.Spec L2 PyProof.Rows
structure QTs (X : Cx) (ifs : List Expr) (t : TT) : Prop where
  p : PTs X ifs t
section
set_option autoImplicit true
set_option relaxedAutoImplicit true
theorem qts_nil  {X : Cx} : QTs X [] tYes := ⟨pts_nil ⟩
theorem qts_one  {X : Cx} {c : Expr} {t : TT} (h : QT X c t) : QTs X [c] t := ⟨pts_one h.p⟩
theorem qe_lcomp  (hc : X.calm = true) (hi : QI X tg iter wi) (hg : ∀ C fp pins s H, QG (cxC X N' scope cl C fp pins s H) tg g) (ht : ∀ C fp pins s H, QTs (cxC X N' scope cl C fp pins s H) ifs tt) (he : ∀ C fp pins s H, QE (cxC X N' scope cl C fp pins s H) elt te) (hfree : FreeOk X scope cl N' src) (hclos : closureFor scope X.env = pure cl) (hcell : ∀ x ∈ scope.names, x.2 ≠ .cell) (hkind : scope.kind = .function) (hnames : ∀ x ∈ scope.names, x.2 = .local → scope.names.lookup x.1 = some .local) (hcl : CellsOk X scope cl) (hs : ∀ x, foldedSetIterable iter X.env x = pure x := by intro _; rfl) : QE X (.ListComp elt [⟨tg, iter, ifs, 0⟩] scope pos) (tComp wi src g tt te) := ⟨pe_lcomp hc hi.p (fun z0 z1 z2 z3 z4 => (hg z0 z1 z2 z3 z4).p) (fun z0 z1 z2 z3 z4 => (ht z0 z1 z2 z3 z4).p) (fun z0 z1 z2 z3 z4 => (he z0 z1 z2 z3 z4).p) hfree hclos hcell hkind hnames hcl hs⟩
theorem qs_setC  {i : Nat} {x : Str} {pos' pos2 : Pos} (hN : X.N.Nodup) (hi' : X.N[i]? = some x) (hx : Loc X.env.scope x) (hc : X.calm = true) (hi : QI X tg iter wi) (hg : ∀ C fp pins s H, QG (cxC X N' scope cl C fp pins s H) tg g) (ht : ∀ C fp pins s H, QTs (cxC X N' scope cl C fp pins s H) ifs tt) (he : ∀ C fp pins s H, QE (cxC X N' scope cl C fp pins s H) elt te) (hfree : FreeOk X scope cl N' src) (hclos : closureFor scope X.env = pure cl) (hcell : ∀ x ∈ scope.names, x.2 ≠ .cell) (hkind : scope.kind = .function) (hnames : ∀ x ∈ scope.names, x.2 = .local → scope.names.lookup x.1 = some .local) (hcl : CellsOk X scope cl) (hs : ∀ x, foldedSetIterable iter X.env x = pure x := by intro _; rfl) (hsw : swapsWith (.ListComp elt [⟨tg, iter, ifs, 0⟩] scope pos) (some (.Name x pos')) pos2.line X.env = pure true := by rfl) (hf : X.fn x = true ∨ X.env.scope.names.lookup x = some .local := by first | exact .inl rfl | exact .inr rfl | assumption) : QS X (.Assign [.Name x pos'] (.ListComp elt [⟨tg, iter, ifs, 0⟩] scope pos) pos2) (tAsg (tComp wi src g tt te) (gName i)) := ⟨ps_setC hN hi' hx hc hi.p (fun z0 z1 z2 z3 z4 => (hg z0 z1 z2 z3 z4).p) (fun z0 z1 z2 z3 z4 => (ht z0 z1 z2 z3 z4).p) (fun z0 z1 z2 z3 z4 => (he z0 z1 z2 z3 z4).p) hfree hclos hcell hkind hnames hcl hs hsw hf⟩
end
end B

namespace B
open PySem PySem.Spec L2 PyProof.Rows
/-! ### rules with K spelt out (within a comprehension) -/
section
variable {X : Cx} {K : PySem.W.Frag}
theorem pg_tupK {es : List Expr} {k : Nat} {t : TGs} {n : Nat} {pos : Pos} (hK : X.K = K) (hc : X.calm = true) (h : PGs X es t)
    (hn : (assignEach es X.env).length = n := by rfl) (hst : (assignEach es X.env).findIdx? (·.1) = none := by rfl) : PG X (.Tuple es k pos) (gTup K n t) := hK ▸ pg_tup hc h hn hst
theorem ix_tupK (hK : X.K = K) : IxR X (rIxT K) := hK ▸ ix_tup
theorem ix_listK (hK : X.K = K) : IxR X (rIxL K) := hK ▸ ix_list
def rLen (K : PySem.W.Frag) : List V → Hp → VK → Prop := fun xs H Q => ∃ p ys, xs = [.ref p] ∧ (SqL K H p ys ∨ SqT K H p ys) ∧ Q (.int ys.length) H
end
theorem star_bin {a b : Expr} {op : Operator} {pos : Pos} {es : List Expr} {env : Env} : starEach (.BinOp a op b pos :: es) env = (false, eval (.BinOp a op b pos) env) :: starEach es env := rfl
/-! ### a loop over zip -/
end B

namespace B
open PySem
/-! ### arguments that are no starred ones, by their kind -/
section
variable {es : List Expr} {env : Env}
theorem star_tup {a b c} : starEach (.Tuple a b c :: es) env = (false, eval (.Tuple a b c) env) :: starEach es env := rfl
theorem star_sub {a b c} : starEach (.Subscript a b c :: es) env = (false, eval (.Subscript a b c) env) :: starEach es env := rfl
theorem star_call {a b c d} : starEach (.Call a b c d :: es) env = (false, eval (.Call a b c d) env) :: starEach es env := rfl
theorem star_name {a b} : starEach (.Name a b :: es) env = (false, eval (.Name a b) env) :: starEach es env := rfl
theorem star_con {a b c} : starEach (.Constant a b c :: es) env = (false, eval (.Constant a b c) env) :: starEach es env := rfl
theorem star_cmp {a b c d} : starEach (.Compare a b c d :: es) env = (false, eval (.Compare a b c d) env) :: starEach es env := rfl
theorem star_lc {a b c d} : starEach (.ListComp a b c d :: es) env = (false, eval (.ListComp a b c d) env) :: starEach es env := rfl
end
end B

namespace B
open PySem L2 PyProof.Rows
/-! ### things one by one -/
inductive Als {α : Type} (P : V → α → Prop) : List V → List α → Prop where
  | nil : Als P [] []
  | cons {x : V} {d : α} {xs : List V} {ds : List α} (h : P x d) (t : Als P xs ds) : Als P (x :: xs) (d :: ds)
theorem Als.len {α : Type} {P : V → α → Prop} : ∀ {xs : List V} {ds : List α}, Als P xs ds → xs.length = ds.length
  | _, _, .nil => rfl
  | _, _, .cons _ t => congrArg (· + 1) t.len
theorem Als.mono {α : Type} {P P' : V → α → Prop} (m : ∀ v d, P v d → P' v d) : ∀ {xs : List V} {ds : List α}, Als P xs ds → Als P' xs ds
  | _, _, .nil => .nil
  | _, _, .cons h t => .cons (m _ _ h) (t.mono m)
theorem Als.snoc {α : Type} {P : V → α → Prop} {x : V} {d : α} (k : P x d) : ∀ {xs : List V} {ds : List α}, Als P xs ds → Als P (xs ++ [x]) (ds ++ [d])
  | _, _, .nil => .cons k .nil
  | _, _, .cons h t => .cons h (t.snoc k)
theorem Als.at {α : Type} {P : V → α → Prop} : ∀ {xs : List V} {ds : List α}, Als P xs ds → ∀ {i : Nat} {x : V}, xs[i]? = some x → ∃ d, ds[i]? = some d ∧ P x d
  | _, _, .cons h _, 0, x, e => by
    rw [List.getElem?_cons_zero] at e
    cases e
    exact ⟨_, rfl, h⟩
  | _, _, .cons _ t, i + 1, x, e => t.at (i := i) (by rw [List.getElem?_cons_succ] at e; exact e)
  | _, _, .nil, _, _, e => by cases e
theorem Als.deep {α : Type} {K : PySem.W.Frag} {H : Hp} {P : V → α → Prop} {f : α → PyData} (m : ∀ v d, P v d → Deep K H v (f d)) : ∀ {xs : List V} {ds : List α}, Als P xs ds → DeepAll K H xs (ds.map f)
  | _, _, .nil => .nil
  | _, _, .cons h t => .cons (m _ _ h) (t.deep m)
/-! ### [text of x for x in t], t a tuple -/
/-! ### [thing drawn for k in range(n)] -/
end B

namespace B
open PySem PySem.Spec L2 PyProof.Rows
/-! ### comprehensions, the things around staying -/
end B

namespace B
open PySem PySem.Spec L2 PyProof.Rows
section
set_option autoImplicit true
set_option relaxedAutoImplicit true
theorem qg_tupK {K : PySem.W.Frag} {es : List Expr} {k : Nat} {t : TGs} {n : Nat} {pos : Pos} (hK : X.K = K) (hc : X.calm = true) (h : QGs X es t) (hn : (assignEach es X.env).length = n := by rfl) (hst : (assignEach es X.env).findIdx? (·.1) = none := by rfl) : QG X (.Tuple es k pos) (gTup K n t) := ⟨pg_tupK hK hc h.p hn hst⟩
end
end B

namespace B
open PySem PySem.Spec L2 PyProof.Rows
/-! ### == of things whose inside is known; isinstance of a tuple that is read -/
def rEqD (K : PySem.W.Frag) : R2 := fun x y H Q => ∃ d d', Deep K H x d ∧ Deep K H y d' ∧ d.canLay0 = true ∧ d'.canLay0 = true ∧ d.depth ≤ 32 ∧ Q (.bl (PyData.eqv d d')) H
def rIsiT (K : PySem.W.Frag) : List V → Hp → VK → Prop := fun xs H Q => ∃ a ys n b, xs = [.ref a, .ty n] ∧ SqT K H a ys ∧ kitTT "tuple" n = some b ∧ Q (.bl b) H
end B

namespace B
open PySem PySem.Spec L2 PyProof.Rows
section
set_option autoImplicit true
set_option relaxedAutoImplicit true
theorem qe_fldE  {X : Cx} {e : Expr} {f : Str} {pos : Pos} {ta : TE} {K : PySem.W.Frag} (hK : X.K = K) (he : QE X e ta) (hb : attributeBase e f X.env (eval e X.env) = eval e X.env) : QE X (.Attribute e f pos) (tFldE K ta f) := ⟨pe_fldE hK he.p hb⟩
theorem qs_fldE  (hex : X.ex = []) (ha : QE X o ta) (hv : QE X value tv) (hs : swapsWith value (some (.Attribute o f pos')) pos.line X.env = pure false) : QS X (.Assign [.Attribute o f pos'] value pos) (sFldE X.K ta tv f) := ⟨ps_fldE hex ha.p hv.p hs⟩
theorem qs_raiseD  {x : Str} {p cpos pos : Pos} {e : Expr} {es : List Expr} {t : TA} {E : XK} (M : XC X.K C f bm) (hbase : bm.contains (.type "BaseException") = true) (hex : X.ex = []) (tk : TakesD X E) (F : FnOk X.prog X.w X.K X.mg X.base CX0 k f fd ps sp) (hr : Room (k + 1) X.A) (hb : Binds X.K fd ps []) (hg : Gl X x) (hm : X.mg x = some (.ref C)) (ha : QA X (e :: es) t) (hdb : (x == ("__debug__" : Str)) = false := by decide) (he : starEach (e :: es) X.env = (false, eval e X.env) :: starEach es X.env := by rfl) (hpl : (backTo cpos (starEach es X.env)).any (·.1) = false := by rfl) : QS X (.Raise (some (.Call (.Name x p) (e :: es) [] cpos)) none pos) (tRaiseD C sp E t) := ⟨ps_raiseD M hbase hex tk F hr hb hg hm ha.p hdb he hpl⟩
theorem qs_tryAs {R : RX} {suite : List Stmt} {i : Nat} {n : Str} (hex : X.ex = []) (hst : X.stack = X.env :: X.outer) (hfr : X.env.frame = some X.env.locals) (hg : Gl X x) (hm : X.mg x = some u) (hN : X.N.Nodup) (hi : X.N[i]? = some n) (hn : X.env.scope.names.lookup n = some .local) (hb : ∀ pins, QSs (inTryD X pins R) body tb) (hs : ∀ e, QSs (inExc X e) (b₀ :: suite) th) (hd : (x == ("__debug__" : Str)) = false := by decide) : QS X (.Try body [.ExceptHandler (some (.Name x p)) (some n) (b₀ :: suite) hpos] [] [] pos) (tTryAs X.N i R (fun C => PySem.W.exmOne X.K (.ref C) u = some true) tb th) := ⟨ps_tryAs hex hst hfr hg hm hN hi hn (fun z0 => (hb z0).p) (fun z0 => (hs z0).p) hd⟩
end
end B

namespace B
open PySem PySem.Spec L2 PyProof.Rows
/-- [f(x) for x in t], t a tuple -/
theorem comp_mapT {α β : Type} {K : PySem.W.Frag} {H : Hp} {D a : Addr} {xs : List V} {ds : List α} {P : Hp → V → β → Prop} {f : α → β} {src : List (Option Nat)} {σ : L2.St} {g : TG} {tt : TT} {te : TE} {Q : Hp → Prop}
    (mono : ∀ H H' v d, Tst K H H' → P H v d → P H' v d) (hD : H D = none) (hS : SqT K H a xs) (hl : xs.length = ds.length) (hn : ds.length ≤ 1000)
    (turn : ∀ (i : Nat) (x : V) (d : α) (H' : Hp), xs[i]? = some x → ds[i]? = some d → Same H H' → ∀ (R : VK) (E : Hp → Prop), (∀ v H'', Same H' H'' → P H'' v (f d) → R v H'') →
      g x (frees src σ) H' fun σ2 H2 => Ext (frees src σ) σ2 ∧ tt σ2 H2 fun ok H3 => if ok = true then te σ2 H3 R else E H3)
    (fin : ∀ H' ys, Same H H' → H' D = some (.lst ys) → Als (P H') ys (ds.map f) → Q H') :
    ∃ W : Nat → Nat → List V → Hp → Prop, (∃ m, W 0 m [] (upd H D (.lst []))) ∧ ∀ i m ys H, W i m ys H → ((Itt K a).stop i H ∧ Q H) ∨ ((Itt K a).go i H ∧ ∀ x H', (Itt K a).yld i H x H' →
      g x (frees src σ) H' fun σ2 H2 => Ext (frees src σ) σ2 ∧ tt σ2 H2 fun ok H3 =>
        if ok = true then te σ2 H3 fun y H4 => H4 D = some (.lst ys) ∧ ys.length < sizeLine ∧ ∃ m', m' < m ∧ W (i + 1) m' (ys ++ [y]) (upd H4 D (.lst (ys ++ [y]))) else ∃ m', m' < m ∧ W (i + 1) m' ys H3) := by
  refine ⟨fun i m ys H' => i ≤ ds.length ∧ m = ds.length - i ∧ H' D = some (.lst ys) ∧ Same H H' ∧ Als (P H') ys ((ds.take i).map f), ⟨_, Nat.zero_le _, rfl, upd_same, same_new hD _, .nil⟩, ?_⟩
  rintro i m ys H1 ⟨hi, rfl, d1, s1, al1⟩
  have hS1 : SqT K H1 a xs := Tst.same s1 _ _ hS
  by_cases hix : i < ds.length
  · have hx0 : xs[i]? = some (xs[i]'(by omega)) := List.getElem?_eq_getElem _
    refine .inr ⟨⟨xs, _, hS1, hx0⟩, ?_⟩
    rintro x H2 ⟨rfl, hy⟩
    have hx := hy xs hS1
    obtain ⟨d, hd⟩ : ∃ d, ds[i]? = some d := ⟨_, List.getElem?_eq_getElem hix⟩
    refine turn i x d _ hx hd s1 _ _ fun v H3 s3 p3 => ?_
    have d3 : H3 D = some (.lst ys) := s3 _ _ d1
    have tm : Tst K H2 (upd H3 D (.lst (ys ++ [v]))) := (Tst.same s3).trans (Tst.up d3 _)
    refine ⟨d3, small1000 (by rw [al1.len, List.length_map, List.length_take]; omega), ds.length - (i + 1), by omega, hix, rfl, upd_same, fun b o q => ?_, ?_⟩
    · rw [upd_ne (ne_of_none q hD)]
      exact s3 _ _ (s1 _ _ q)
    · rw [List.take_add_one, hd, List.map_append]
      exact (al1.mono fun v d p => mono _ _ _ _ tm p).snoc (mono _ _ _ _ (Tst.up d3 _) p3)
  · have e : i = ds.length := by omega
    subst e
    rw [List.take_length] at al1
    exact .inl ⟨⟨xs, hS1, by omega⟩, fin H1 ys s1 d1 al1⟩
end B

namespace B
open PySem PySem.Spec L2 PyProof.Rows
/-! ### isinstance of a thing whose inside is known; what the defs of shape tell of it -/
def tyD : PyData → String
  | .none => "NoneType"
  | .bool _ => "bool"
  | .int _ => "int"
  | .str _ => "str"
  | .list _ => "list"
  | .tuple _ => "tuple"
  | .dict _ => "dict"
def rIsiD (K : PySem.W.Frag) : List V → Hp → VK → Prop := fun xs H Q => ∃ v d n b, xs = [v, .ty n] ∧ Deep K H v d ∧ kitTT (tyD d) n = some b ∧ Q (.bl b) H
def wholeD : PyData → Bool
  | .int _ => true
  | _ => false
def tupD (n : Nat) : PyData → Bool
  | .tuple xs => decide (xs.length = n)
  | _ => false
/-- a ratio in lowest terms -/
def ratD : PyData → Bool
  | .tuple [.int a, .int b] => decide (1 ≤ b) && decide (Int.gcd a b = 1)
  | _ => false
def pairD : PyData → Bool
  | .tuple [x, y] => ratD x && ratD y
  | _ => false
end B

namespace B
open PySem PySem.Spec L2 PyProof.Rows
/-! ### things that repr shows: how deep, how long -/
structure Sh (k n : Nat) (d : PyData) : Prop where
  sh : d.showable = true
  nd : d.hasDict = false
  dp : d.depth ≤ k
  sz : d.shown.length ≤ n
theorem Sh.mono {k n k' n' : Nat} {d : PyData} (h : Sh k n d) (hk : k ≤ k') (hn : n ≤ n') : Sh k' n' d := ⟨h.sh, h.nd, Nat.le_trans h.dp hk, Nat.le_trans h.sz hn⟩
theorem Sh.all {k n : Nat} : ∀ {ds : List PyData}, (∀ d ∈ ds, Sh k n d) → PyData.showableAll ds = true ∧ PyData.hasDictAll ds = false ∧ PyData.depthAll ds ≤ k ∧ ((PyData.shownAll ds).map (·.length)).sum ≤ n * ds.length ∧ (PyData.shownAll ds).length = ds.length
  | [], _ => ⟨rfl, rfl, Nat.zero_le _, Nat.zero_le _, rfl⟩
  | d :: ds, h => by
    obtain ⟨a, b, c, e, f⟩ := Sh.all (ds := ds) fun x hx => h x (List.mem_cons_of_mem _ hx)
    have z := h d List.mem_cons_self
    refine ⟨?_, ?_, ?_, ?_, ?_⟩
    · show (d.showable && PyData.showableAll ds) = true
      rw [z.sh, a]; rfl
    · show (d.hasDict || PyData.hasDictAll ds) = false
      rw [z.nd, b]; rfl
    · show max d.depth (PyData.depthAll ds) ≤ k
      exact Nat.max_le.mpr ⟨z.dp, c⟩
    · show d.shown.length + ((PyData.shownAll ds).map (·.length)).sum ≤ n * (ds.length + 1)
      have := z.sz
      rw [Nat.mul_succ]; omega
    · show (PyData.shownAll ds).length + 1 = ds.length + 1
      rw [f]
theorem Sh.tup {k n m N : Nat} {ds : List PyData} (h : ∀ d ∈ ds, Sh k n d) (hm : ds.length ≤ m) (hN : (n + 3) * m + 8 ≤ N) : Sh (k + 1) N (.tuple ds) := by
  obtain ⟨a, b, c, e, f⟩ := Sh.all h
  refine ⟨a, b, Nat.succ_le_succ c, ?_⟩
  show (tupleText (PyData.shownAll ds)).length ≤ N
  have q := tupleText_len_le (PyData.shownAll ds)
  have l : n * ds.length + 3 * ds.length ≤ (n + 3) * m := by
    rw [← Nat.add_mul]
    exact Nat.mul_le_mul_left _ hm
  omega
theorem Sh.shows {k n : Nat} {d : PyData} (h : Sh k n d) (hk : k ≤ 16) (hn : n ≤ 16777216) : Shows d := ⟨h.sh, h.nd, Nat.le_trans h.sz (Nat.le_trans hn (by decide)), Nat.le_trans h.dp hk⟩
theorem sh_dR {r : R} {n : Nat} (h : Wf n r) (hn : n ≤ 1900) : Sh 1 5000 (dR r) := ⟨(small_dR h hn).sh, rfl, (by show max 0 (max 0 0) + 1 ≤ 1; decide), (small_dR h hn).sz⟩
mutual
theorem Deep.same {K : PySem.W.Frag} {H H' : Hp} (s : Same H H') : ∀ {v : V} {d : PyData}, Deep K H v d → Deep K H' v d
  | _, _, .non => .non
  | _, _, .bl b => .bl b
  | _, _, .int i => .int i
  | _, _, .str x => .str x
  | _, _, .lst e t => .lst (s.seq e) (DeepAll.same s t)
  | _, _, .tup e t => .tup (Tst.same s _ _ e) (DeepAll.same s t)
theorem DeepAll.same {K : PySem.W.Frag} {H H' : Hp} (s : Same H H') : ∀ {vs : List V} {ds : List PyData}, DeepAll K H vs ds → DeepAll K H' vs ds
  | _, _, .nil => .nil
  | _, _, .cons h t => .cons (Deep.same s h) (DeepAll.same s t)
end
end B

namespace B
open PySem PySem.Spec L2 PyProof.Rows
/-! ### t + u and t[a:b] of any tuples: a tuple that holds what is asked, new or not -/
def rCatU (K : PySem.W.Frag) : R2 := fun x y H Q => ∃ a b xs ys, x = .ref a ∧ y = .ref b ∧ SqT K H a xs ∧ SqT K H b ys ∧ xs.length + ys.length ≤ sizeLine ∧ ∀ p H', Same H H' → SqT K H' p (xs ++ ys) → Q (.ref p) H'
def rSlU (K : PySem.W.Frag) : V → Option Int → Option Int → Hp → VK → Prop := fun x lo hi H Q => ∃ a xs, x = .ref a ∧ SqT K H a xs ∧ ∀ p H', Same H H' → SqT K H' p (cutV xs lo hi) → Q (.ref p) H'
theorem sl_tupU {X : Cx} : SlR X (rSlU X.K) := by
  intro pins s σ H x v vl vu lo hi sl Q I rx hs pl pu h
  obtain ⟨a, xs, rfl, hx, q⟩ := h
  refine sl_tupA pins s σ H _ v vl vu lo hi sl Q I rx hs pl pu ?_
  by_cases c : HT.sIx xs.length 0 lo = 0 ∧ HT.sIx xs.length xs.length hi = xs.length
  · refine .inl ⟨a, xs, rfl, hx, c.1, c.2, q a H (Same.refl H) ?_⟩
    have e : cutV xs lo hi = xs := by
      unfold cutV
      rw [c.1, c.2, List.drop_zero, Nat.sub_zero, List.take_length]
    rw [e]
    exact hx
  · exact .inr ⟨a, xs, rfl, hx, c, fun p hp => q p _ (same_new hp _) (SqT.of upd_same)⟩
theorem cut_to {xs : List V} {n : Nat} (h : n ≤ xs.length) : cutV xs none (some (n : Int)) = xs.take n := by
  unfold cutV
  rw [HT.sIx_nat, HT.sIx_none, Nat.min_eq_left h, Nat.sub_zero, List.drop_zero]
end B

namespace B
open PySem PySem.Spec L2 PyProof.Rows
/-! ### the tape of three cells, whose first is the script itself -/
def Stat (K : PySem.W.Frag) (s : Addr) : Prop := ∃ ns : List Int, ns.length ≤ 63 ∧ ∀ H : Hp, SqL K H s (ns.map V.int)
structure Tape3 (K : PySem.W.Frag) (H : Hp) (t s : Addr) : Prop where
  ex : ∃ (ns : List Int) (p q : Int), H t = some (.lst [.ref s, .int p, .int q]) ∧ ((Rd H s (.lst (ns.map V.int)) ∧ s ≠ t) ∨ ∀ H', SqL K H' s (ns.map V.int)) ∧ ns.length ≤ 63 ∧ 0 ≤ p ∧ 0 ≤ q
def sp_tape3 (K : PySem.W.Frag) : Sp := fun vs H Q _ => ∃ (a : Addr) (ns : List Int), vs = [.ref a] ∧ SqL K H a (ns.map V.int) ∧ ns.length ≤ 63 ∧ ∀ (t : Addr) (H' : Hp), Same H H' → H t = none → Tape3 K H' t a → Q (.ref t) H'
def sp_draw3 (K : PySem.W.Frag) : Sp := fun vs H Q _ => ∃ (t s : Addr) (m : Int), vs = [.ref t, .int m] ∧ Tape3 K H t s ∧ 0 < m ∧ m < 1073741824 ∧ ∀ (r : Int) (xs : List V), 0 ≤ r → r < m → Tape3 K (upd H t (.lst xs)) t s → Q (.int r) (upd H t (.lst xs))
end B

namespace B
open PySem PySem.Spec L2 PyProof.Rows
section
set_option autoImplicit true
set_option relaxedAutoImplicit true
theorem qi_enum  {X : Cx} {elts : List Expr} {x1} {tp p pos : Pos} {a : Expr} {ta : TA} (hg : Gl X "enumerate") (hm : X.mg "enumerate" = none) (ha : QA X [a] ta) (hs : starEach [a] X.env = [(false, eval a X.env)] := by rfl) : QI X (.Tuple elts x1 tp) (.Call (.Name "enumerate" p) [a] [] pos) (iEnT X.K ta) := ⟨pi_enum hg hm ha.p hs⟩
end
end B

namespace B
open PySem PySem.Spec L2 PyProof.Rows
/-! ### sum and all of a list -/
theorem ints_of : ∀ {ns : List Int} {us : List Value}, Vals (ns.map V.int) us → IntsAre us ns
  | [], _, .nil => .nil
  | n :: ns, _, .cons r t => by
    obtain ⟨tk, rfl⟩ := (show ∃ t, _ = Value.int n t from r)
    exact .cons _ _ (ints_of t)
/-! ### tuple(range(n)), list(range(n)) -/
section
variable {prog : Program} {w : World} {A : Around} {E : Value → Shared → Prop} {s : Shared}
end
def upTo (n : Nat) : List Int := (List.range n).map fun i : Nat => (i : Int)
theorem vals_range {acc : Array Value} {n : Nat} (h : ItemsOf (fun i v => ∃ t, v = .int ((0 : Int) + i * 1) t) acc n) : Vals ((upTo n).map V.int) acc.toList := by
  obtain ⟨hl, ha⟩ := h
  have key : ∀ m, m ≤ n → Vals ((upTo m).map V.int) (acc.toList.take m) := by
    intro m
    induction m with
    | zero => intro _; rw [List.take_zero]; exact .nil
    | succ m ih =>
      intro hm
      have hlt : m < acc.size := by omega
      have e1 : acc.toList.take (m + 1) = acc.toList.take m ++ [acc[m]] := by
        rw [List.take_add_one]; simp [hlt]
      have e2 : (upTo (m + 1)).map V.int = (upTo m).map V.int ++ [V.int m] := by
        unfold upTo; rw [List.range_succ]; simp
      rw [e1, e2]
      refine (ih (by omega)).append (.cons ?_ .nil)
      obtain ⟨t, e⟩ := ha m acc[m] (by simp [hlt])
      exact ⟨t, by rw [e]; simp⟩
  have := key n (Nat.le_refl _)
  rwa [List.take_of_length_le (by simp [hl])] at this
def tRng1 (ta : TA) : TE := fun σ H Q => ta σ H fun vs H1 => ∃ j : Int, vs = [.int j] ∧ ∀ p, H1 p = none → Q (.ref p) (upd H1 p (.rng 0 j))
theorem pe_rng1 {X : Cx} {a : Expr} {ta : TA} {p pos : Pos} (hg : Gl X "range") (hm : X.mg "range" = none) (ha : PA X [a] ta) (hs : starEach [a] X.env = [(false, eval a X.env)] := by rfl) :
    PE X (.Call (.Name "range" p) [a] [] pos) (tRng1 ta) := by
  intro pins s σ H Q I h
  refine Call_ (ld_blt I hg hm boot_range (PyProof.Rows.callWith_type1 (thn (ha pos pins s σ H _ I h) fun us s1 ⟨vs, H1, I1, r1, q1⟩ => ?_) hs rfl))
  obtain ⟨j, e, q⟩ := q1
  subst e
  obtain ⟨u, rfl, t, rfl⟩ := vals1 r1
  refine call_range_1 ?_
  exact ⟨.ref s1.heap.objs.size, _, I1.laid (o := .rng 0 j) (fun b o e => Heap.get?_push_of_some _ e) (Nat.le_refl _) ⟨_, t, _, Heap.get?_push_size _ rfl⟩, rfl, q _ (I1.hok.fresh (Nat.le_refl _))⟩
theorem size_up (n : Nat) : Builtin.Range.rangeSize 0 n 1 = n := by rw [rangeSize_one]; split <;> omega
/-! ### range(a, b, -1), walked -/
def Itd (hi : Int) (n : Nat) : It := ⟨fun i _ => i < n, fun i H x H' => H' = H ∧ x = .int (hi - i), fun i _ => n ≤ i⟩
def iRngD (ta : TA) : TI := fun σ H R => ta σ H fun vs H1 => ∃ i j : Int, vs = [.int i, .int j, .int (-1)] ∧ (-1000 ≤ i ∧ i ≤ 1000 ∧ -1000 ≤ j ∧ j ≤ 1000) ∧ R (Itd i (i - j).toNat) H1
end B

namespace B
open PySem PySem.Spec L2 PyProof.Rows
section
set_option autoImplicit true
set_option relaxedAutoImplicit true
theorem qe_rng1  {X : Cx} {a : Expr} {ta : TA} {p pos : Pos} (hg : Gl X "range") (hm : X.mg "range" = none) (ha : QA X [a] ta) (hs : starEach [a] X.env = [(false, eval a X.env)] := by rfl) : QE X (.Call (.Name "range" p) [a] [] pos) (tRng1 ta) := ⟨pe_rng1 hg hm ha.p hs⟩
end
end B

namespace B
open PySem PySem.Spec L2 PyProof.Rows
/-! ### comprehensions by place, whatever is walked -/
structure Wlk (J : It) (H : Hp) (n : Nat) (P : Nat → V → Hp → Prop) : Prop where
  go : ∀ i H', i < n → Same H H' → J.go i H'
  stop : ∀ H', Same H H' → J.stop n H'
  yld : ∀ i H' x H'', i < n → Same H H' → J.yld i H' x H'' → Same H' H'' ∧ P i x H''
theorem wlk_lst {K : PySem.W.Frag} {H : Hp} {a : Addr} {xs : List V} (h : SqL K H a xs) : Wlk (Itl K a) H xs.length (fun i x _ => xs[i]? = some x) where
  go := fun i H' hi s => ⟨xs, _, s.seq h, List.getElem?_eq_getElem hi⟩
  stop := fun H' s => ⟨xs, s.seq h, Nat.le_refl _⟩
  yld := fun i H' x H'' hi s y => by obtain ⟨rfl, hy⟩ := y; exact ⟨Same.refl _, hy xs (s.seq h)⟩
theorem wlk_tup {K : PySem.W.Frag} {H : Hp} {a : Addr} {xs : List V} (h : SqT K H a xs) : Wlk (Itt K a) H xs.length (fun i x _ => xs[i]? = some x) where
  go := fun i H' hi s => ⟨xs, _, Tst.same s _ _ h, List.getElem?_eq_getElem hi⟩
  stop := fun H' s => ⟨xs, Tst.same s _ _ h, Nat.le_refl _⟩
  yld := fun i H' x H'' hi s y => by obtain ⟨rfl, hy⟩ := y; exact ⟨Same.refl _, hy xs (Tst.same s _ _ h)⟩
theorem wlk_rng {H : Hp} {lo : Int} {n : Nat} : Wlk (Itr lo n) H n (fun i x _ => x = .int (lo + i)) where
  go := fun i H' hi s => hi
  stop := fun H' s => Nat.le_refl _
  yld := fun i H' x H'' hi s y => by obtain ⟨rfl, rfl⟩ := y; exact ⟨Same.refl _, rfl⟩
theorem wlk_enT {K : PySem.W.Frag} {H : Hp} {a : Addr} {xs : List V} (h : SqT K H a xs) : Wlk (IteT K a) H xs.length (fun i v H' => ∃ p x, v = .ref p ∧ xs[i]? = some x ∧ H' p = some (.tup [.int i, x])) where
  go := fun i H' hi s => ⟨xs, _, Tst.same s _ _ h, List.getElem?_eq_getElem hi⟩
  stop := fun H' s => ⟨xs, Tst.same s _ _ h, Nat.le_refl _⟩
  yld := fun i H' x H'' hi s y => by obtain ⟨p, v, hp, rfl, rfl, hy⟩ := y; exact ⟨same_new hp _, p, v, rfl, hy xs (Tst.same s _ _ h), upd_same⟩
theorem comp_ix {J : It} {H : Hp} {D : Addr} {n : Nat} {P : Nat → V → Hp → Prop} (w : Wlk J H n P) (c : Nat → Bool) (f : Nat → V) {src : List (Option Nat)} {σ : L2.St} {g : TG} {tt : TT} {te : TE} {Q : Hp → Prop} (hD : H D = none) (hn : n ≤ 1000)
    (turn : ∀ (i : Nat) (x : V) (H' : Hp), i < n → Same H H' → P i x H' → ∀ (R : VK) (E : Hp → Prop), (c i = true → ∀ H'', Same H' H'' → R (f i) H'') → (c i = false → ∀ H'', Same H' H'' → E H'') →
      g x (frees src σ) H' fun σ2 H2 => Ext (frees src σ) σ2 ∧ tt σ2 H2 fun ok H3 => if ok = true then te σ2 H3 R else E H3)
    (fin : ∀ H', Same H H' → H' D = some (.lst (((List.range n).filter c).map f)) → Q H') :
    ∃ W : Nat → Nat → List V → Hp → Prop, (∃ m, W 0 m [] (upd H D (.lst []))) ∧ ∀ i m ys H, W i m ys H → (J.stop i H ∧ Q H) ∨ (J.go i H ∧ ∀ x H', J.yld i H x H' →
      g x (frees src σ) H' fun σ2 H2 => Ext (frees src σ) σ2 ∧ tt σ2 H2 fun ok H3 =>
        if ok = true then te σ2 H3 fun y H4 => H4 D = some (.lst ys) ∧ ys.length < sizeLine ∧ ∃ m', m' < m ∧ W (i + 1) m' (ys ++ [y]) (upd H4 D (.lst (ys ++ [y]))) else ∃ m', m' < m ∧ W (i + 1) m' ys H3) := by
  refine ⟨fun i m ys H' => i ≤ n ∧ m = n - i ∧ ys = ((List.range i).filter c).map f ∧ Same H H' ∧ H' D = some (.lst ys), ⟨_, Nat.zero_le _, rfl, rfl, same_new hD _, upd_same⟩, ?_⟩
  rintro i m ys H1 ⟨hi, rfl, rfl, s1, d1⟩
  by_cases hix : i < n
  · refine .inr ⟨w.go i H1 hix s1, fun x H2 y => ?_⟩
    obtain ⟨s2, p⟩ := w.yld i H1 x H2 hix s1 y
    have d2 := s2 _ _ d1
    have len : (((List.range i).filter c).map f).length ≤ i := by
      rw [List.length_map]
      exact Nat.le_trans (List.length_filter_le _ _) (by rw [List.length_range]; exact Nat.le_refl _)
    refine turn i x H2 hix (s1.trans s2) p _ _ (fun hc H3 s3 => ?_) fun hc H3 s3 => ?_
    · have d3 := s3 _ _ d2
      refine ⟨d3, small1000 (by omega), n - (i + 1), by omega, hix, rfl, ?_, fun b o q => ?_, upd_same⟩
      · rw [List.range_succ, List.filter_append, List.map_append]
        simp [hc]
      · rw [upd_ne (ne_of_none q hD)]
        exact s3 _ _ (s2 _ _ (s1 _ _ q))
    · refine ⟨n - (i + 1), by omega, hix, rfl, ?_, (s1.trans s2).trans s3, s3 _ _ d2⟩
      rw [List.range_succ, List.filter_append, List.map_append]
      simp [hc]
  · have e : i = n := by omega
    subst e
    exact .inl ⟨w.stop H1 s1, fin H1 s1 d1⟩
theorem getD_of {α : Type} {l : List α} {i : Nat} {x : α} (d : α) (h : l[i]? = some x) : l.getD i d = x := by rw [List.getD_eq_getElem?_getD, h]; rfl
end B

namespace B
open PySem PySem.Spec L2 PyProof.Rows
/-! ### [x] * n, list(range(n)), x not in a sequence within a comprehension -/
section
variable {prog : Program} {w : World} {A : Around} {E : Value → Shared → Prop} {s : Shared}
theorem rep_list {l : Addr} {items : Array Value} {k : Nat} {x : Int} {u : Tok} {Q : Value → Shared → Prop} (hl : s.heap.get? l = some { cls := .type "list", dict := none, data := .seq items k, slots := #[] })
    (hlo : -(2 ^ 63 : Int) ≤ x) (hhi : x < 2 ^ 63) (hsz : items.size * x.toNat ≤ 2 ^ 24)
    (h : Q (.ref s.heap.objs.size) { s with heap := s.heap.push { cls := .type "list", data := .seq (List.foldl (fun x1 x2 => x1 ++ x2) #[] (List.replicate (if items.isEmpty = true then 0 else x.toNat) items)) } }) :
    wpAny (model prog w) A (binaryOp .Mult (.ref l) (.int x u)) Q E s :=
  wpAny_binaryOp_repeat_ref (T := "list") (U := "int") (by decide) ⟨_, hl, rfl⟩ (fun s' => typeIs_int s' x u) noFill_list_mul F.fills_int_mul F.slot_int_rmul repeat_list F.slot_int_index.lookup
    (call_meets F.slot_int_rmul (typeIs_int s x u) F.entry_int_rmul (F.args_int_rmul_2 _ _) (int___rmul___int_list x u l items k)
      ⟨hl, rfl, ⟨_, hl, rfl⟩, call_meets F.slot_list_mul ⟨_, hl, rfl⟩ F.entry_list_mul (F.args_list_mul_2 _ _)
        (AutoListH.list___mul___list_int_3 l items k x u (by simp [Builtin.List.listFitsIndex]; omega) (by omega) (by simp [Builtin.List.listTooLong, sizeLine]; omega))
        ⟨hl, h⟩⟩)
end
theorem fold_rep (u : Value) : ∀ (n : Nat) (acc : Array Value), (List.foldl (fun x1 x2 => x1 ++ x2) acc (List.replicate n #[u])).toList = acc.toList ++ List.replicate n u
  | 0, acc => by simp
  | n + 1, acc => by
    rw [List.replicate_succ, List.foldl_cons, fold_rep u n, List.replicate_succ]
    simp
theorem vals_rep {v : V} {u : Value} (r : RelV v u) : ∀ n : Nat, Vals (List.replicate n v) (List.replicate n u)
  | 0 => .nil
  | n + 1 => .cons r (vals_rep r n)
theorem op_repL {X : Cx} : OpR X (binaryOp .Mult) (fun x y H Q => ∃ (p : Addr) (v : V) (n : Nat), x = .ref p ∧ y = .int n ∧ H p = some (.lst [v]) ∧ n ≤ 1000 ∧ ∀ l, H l = none → Q (.ref l) (upd H l (.lst (List.replicate n v)))) := by
  intro pins s σ H x y xv yv Q I rx ry h
  obtain ⟨p, v, n, rfl, rfl, hp, hn, q⟩ := h
  cases (show xv = Value.ref p from rx)
  obtain ⟨t, rfl⟩ := (show ∃ t, yv = Value.int n t from ry)
  obtain ⟨_, its, c, rv, e⟩ := (show ObjOk X.prog X.w H s.heap p (.lst [v]) from I.hok p _ hp)
  cases rv with
  | @cons _ u _ _ r0 rr =>
  cases rr
  refine rep_list e (by omega) (by omega) (by simp; omega) ?_
  have el : (List.foldl (fun x1 x2 => x1 ++ x2) #[] (List.replicate (if ([u] : List Value).toArray.isEmpty = true then 0 else (n : Int).toNat) [u].toArray)) = (List.replicate n u).toArray := by
    apply Array.ext'
    have := fold_rep u n #[]
    simpa using this
  rw [el]
  have I2 : Inv X pins σ (upd H s.heap.objs.size (.lst (List.replicate n v))) { s with heap := s.heap.push { cls := .type "list", data := .seq (List.replicate n u).toArray } } :=
    I.laid (t' := s.toks) (fun b o e => Heap.get?_push_of_some _ e) (Nat.le_refl _) (show ObjOk X.prog X.w _ _ _ (.lst (List.replicate n v)) from ⟨by rw [List.length_replicate, sizeLine_eq]; omega, List.replicate n u, _, vals_rep r0 n, Heap.get?_push_size _ rfl⟩)
  exact ⟨.ref s.heap.objs.size, _, I2, rfl, q _ (I.hok.fresh (Nat.le_refl _))⟩
theorem call_listR {X : Cx} (hc : X.calm = true) : CallR X (.type "list") (fun xs H Q => ∃ p, ∃ n : Nat, xs = [.ref p] ∧ H p = some (.rng 0 n) ∧ n ≤ 1000 ∧ ∀ l, H l = none → Q (.ref l) (upd H l (.lst ((upTo n).map V.int)))) := by
  intro pins s σ H xs us Q I r h
  obtain ⟨p, n, rfl, hp, hn, q⟩ := h
  obtain ⟨u, rfl, rx⟩ := vals1 r
  cases rx
  obtain ⟨t, u, w, e⟩ := (show ObjOk X.prog X.w H s.heap p (.rng 0 n) from I.hok p _ hp)
  refine call_list_range (I.ok.hd hc) (show IsRange s.heap p 0 n 1 t u w from e) (small_one (by omega) (by omega) (by omega) (by omega)) (size_up n) (by omega) fun h' tk acc c' hk hS hi => ?_
  have rv := vals_range hi
  have hl : (upTo n).length = n := by unfold upTo; simp
  have I2 : Inv X pins σ (upd H s.heap.objs.size (.lst ((upTo n).map V.int))) { s with heap := h', toks := tk } :=
    I.laid (t' := tk) hk (Nat.le_refl _) (show ObjOk X.prog X.w _ _ _ (.lst ((upTo n).map V.int)) from ⟨by rw [List.length_map, hl, sizeLine_eq]; omega, acc.toList, c', rv, by simpa using hS⟩)
  exact ⟨.ref s.heap.objs.size, _, I2, rfl, q _ (I.hok.fresh (Nat.le_refl _))⟩
end B

namespace B
open PySem PySem.Spec L2 PyProof.Rows
/-! ### in, not in, index of things whose inside is known; insert -/
def Lays (ds : List PyData) : Prop := ∀ e ∈ ds, e.canLay0 = true ∧ e.depth ≤ 32
def rInD (K : PySem.W.Frag) : R2 := fun x y H Q => ∃ p xs ds d, y = .ref p ∧ SqL K H p xs ∧ DeepAll K H xs ds ∧ Lays ds ∧ Deep K H x d ∧ d.canLay0 = true ∧ PyData.eqv d d = true ∧ Q (.bl (ds.any fun e => PyData.eqv e d)) H
def rNotInD (K : PySem.W.Frag) : R2 := fun x y H Q => ∃ p xs ds d, y = .ref p ∧ SqL K H p xs ∧ DeepAll K H xs ds ∧ Lays ds ∧ Deep K H x d ∧ d.canLay0 = true ∧ PyData.eqv d d = true ∧ Q (.bl (!ds.any fun e => PyData.eqv e d)) H
/-- the same of a tuple -/
def rInDT (K : PySem.W.Frag) : R2 := fun x y H Q => ∃ p xs ds d, y = .ref p ∧ SqT K H p xs ∧ DeepAll K H xs ds ∧ Lays ds ∧ Deep K H x d ∧ d.canLay0 = true ∧ PyData.eqv d d = true ∧ Q (.bl (ds.any fun e => PyData.eqv e d)) H
/-- xs.index(x): the first place -/
def rIndexD (K : PySem.W.Frag) : V → List V → Hp → VK → Prop := fun x vs H Q => ∃ p xs ds w d, x = .ref p ∧ vs = [w] ∧ SqL K H p xs ∧ DeepAll K H xs ds ∧ Lays ds ∧ Deep K H w d ∧ d.canLay0 = true ∧ PyData.eqv d d = true ∧ (∃ e ∈ ds, PyData.eqv e d = true) ∧
  ∀ (j : Nat) (e : PyData), ds[j]? = some e → PyData.eqv e d = true → (∀ m f, m < j → ds[m]? = some f → PyData.eqv f d = false) → Q (.int j) H
theorem fits_ix {j : Nat} (h : j ≤ 16777216) : Builtin.List.listFitsIndex (j : Int) = true := by
  unfold Builtin.List.listFitsIndex
  have e : (2 : Int) ^ 63 = 9223372036854775808 := by decide
  rw [e, Bool.and_eq_true, decide_eq_true_iff, decide_eq_true_iff]
  omega
theorem ins_meets (l : Addr) (its : Array Value) (n : Nat) (x : Int) (tk : Tok) (u2 : Value) (hc : Builtin.List.listFitsIndex x = true) (hsz : its.size ≤ sizeLine) :
    Meets (Builtin.«list.insert» ⟨[.ref l, .int x tk, u2], []⟩) (fun _ R s => s.heap.get? l = some { cls := .type "list", dict := none, data := .seq its n, slots := #[] } ∧ R (.ok (.ret Value.none)) { s with heap := s.heap.update l (Obj.mapSeq fun xs => have k := if x < 0 then (x + ((xs.size : Nat) : Int)).toNat else min x.toNat xs.size; (xs.extract 0 k).push u2 ++ xs.extract k), toks := s.toks }) := by
  apply AutoListH.list_insert_list_int_val_1
  · rw [hc]; simp
  · exact hsz
/-- xs.insert(j, x) -/
def rInsert : V → List V → Hp → VK → Prop := fun x vs H Q => ∃ (l : Addr) (xs : List V) (j : Nat) (y : V), x = .ref l ∧ vs = [.int j, y] ∧ H l = some (.lst xs) ∧ j ≤ xs.length ∧ xs.length < sizeLine ∧ Q .non (upd H l (.lst (xs.take j ++ y :: xs.drop j)))
theorem mt_insert {X : Cx} : MtM X "list.insert" rInsert := by
  intro pins s σ H x vs v us Q I rx rv h
  obtain ⟨l, xs, j, y, rfl, rfl, hH, hj, hz, q⟩ := h
  cases rx
  obtain ⟨u, u2, rfl, ru, ru2⟩ := vals2 rv
  obtain ⟨tk, rfl⟩ := (show ∃ t, u = Value.int j t from ru)
  obtain ⟨z, its, n, r, hl, e⟩ := I.lstM hH
  have hlen := r.length
  have sl : sizeLine = 16777216 := by decide
  have hsz : its.toArray.size ≤ sizeLine := by rw [List.size_toArray]; omega
  have hfi : Builtin.List.listFitsIndex (j : Int) = true := fits_ix (show j ≤ 16777216 by omega)
  generalize hx : (j : Int) = x at hfi
  have M := ins_meets l its.toArray n x tk u2 hfi hsz
  refine call_meets PySem.F.slot_list_insert ⟨_, e, rfl⟩ PySem.F.entry_list_insert (PySem.F.args_list_insert_3 _ _ _) M ⟨e, ?_⟩
  have hv : Vals (xs.take j ++ y :: xs.drop j) (its.take j ++ u2 :: its.drop j) := (r.take j).append (.cons ru2 (r.drop j))
  refine ⟨.non, _, I.lset (its' := its.take j ++ u2 :: its.drop j) hH e ?_ hv ?_, rfl, q⟩
  · subst hx
    have e1 : ¬ ((j : Int) < 0) := by omega
    have e2 : min j its.length = j := by omega
    simp [e1, e2, List.take_of_length_le]
  · rw [List.length_append, List.length_cons, List.length_take, List.length_drop]
    omega
end B

namespace B
open PySem PySem.Spec L2 PyProof.Rows
/-! ### things of any kind, whose numbers are small -/
mutual
def ibd : PyData → Bool
  | .int i => decide (i.natAbs < 2 ^ 230)
  | .tuple ds => ibdAll ds
  | .list ds => ibdAll ds
  | .dict _ => false
  | _ => true
def ibdAll : List PyData → Bool
  | [] => true
  | d :: ds => ibd d && ibdAll ds
end
theorem ibdAll_of : ∀ {ds : List PyData}, (∀ d ∈ ds, ibd d = true) → ibdAll ds = true
  | [], _ => rfl
  | d :: ds, h => by
    show (ibd d && ibdAll ds) = true
    rw [h d List.mem_cons_self, ibdAll_of fun e he => h e (List.mem_cons_of_mem _ he)]; rfl
theorem layAll_of : ∀ {ds : List PyData}, (∀ d ∈ ds, d.canLay0 = true) → PyData.canLayAll0 ds = true
  | [], _ => rfl
  | d :: ds, h => by
    show (d.canLay0 && PyData.canLayAll0 ds) = true
    rw [h d List.mem_cons_self, layAll_of fun e he => h e (List.mem_cons_of_mem _ he)]; rfl
structure Gd (k n : Nat) (d : PyData) : Prop where
  sh : Sh k n d
  lay : d.canLay0 = true
  bd : ibd d = true
theorem Gd.mono {k n k' n' : Nat} {d : PyData} (h : Gd k n d) (hk : k ≤ k') (hn : n ≤ n') : Gd k' n' d := ⟨h.sh.mono hk hn, h.lay, h.bd⟩
theorem Gd.tup {k n m N : Nat} {ds : List PyData} (h : ∀ d ∈ ds, Gd k n d) (hm : ds.length ≤ m) (hN : (n + 3) * m + 8 ≤ N) : Gd (k + 1) N (.tuple ds) :=
  ⟨Sh.tup (fun d hd => (h d hd).sh) hm hN, layAll_of fun d hd => (h d hd).lay, ibdAll_of fun d hd => (h d hd).bd⟩
theorem gd_dR {r : R} (h : Wf 230 r) : Gd 1 5000 (dR r) := ⟨sh_dR h (by decide), dR_lay r, by
  show (decide (r.1.natAbs < 2 ^ 230) && (decide (r.2.natAbs < 2 ^ 230) && true)) = true
  rw [decide_eq_true h.top, decide_eq_true h.bot]; rfl⟩
theorem gd_int {i : Int} (h : i.natAbs < 2 ^ 230) : Gd 0 5000 (.int i) := ⟨⟨(show decide (i.natAbs.log2 < 1920) = true from decide_eq_true (log_of h (by decide))), rfl, Nat.le_refl _, Nat.le_trans (len_of h (by decide)) (by decide)⟩, rfl, decide_eq_true h⟩
def decR : PyData → R
  | .tuple [.int a, .int b] => (a, b)
  | _ => (0, 1)
def decRow : PyData → R × R
  | .tuple [x, y] => (decR x, decR y)
  | _ => rowD
end B

namespace B
open PySem PySem.Spec L2 PyProof.Rows
/-! ### the greatest and the least of a list of numbers -/
theorem call_maxL {X : Cx} (hc : X.calm = true) : CallR X (.builtin "max") (fun xs H Q => ∃ (p : Addr) (ns : List Int), xs = [.ref p] ∧ SqL X.K H p (ns.map V.int) ∧ 0 < ns.length ∧ ∀ M, M ∈ ns → (∀ a ∈ ns, a ≤ M) → Q (.int M) H) := by
  intro pins s σ H xs us Q I r h
  obtain ⟨p, ns, rfl, hq, hne, q⟩ := h
  obtain ⟨u, rfl, rx⟩ := vals1 r
  cases rx
  obtain ⟨its, rv, pl, hz⟩ := I.list hq
  have hi := ints_of rv
  obtain ⟨zs, ez⟩ := hi.allInts.items
  have hl := pl.isList
  rw [ez] at hl
  have en : numsOf its = ns := hi.numsOf
  rw [show its = its.toArray.toList from rfl, ez, nums_intItems] at en
  have hlen : zs.size = ns.length := by rw [← en, List.length_map, Array.length_toList]
  refine max_intList (I.ok.hd hc) hl (by omega) fun v h' tk hv hk => ?_
  obtain ⟨t, rfl⟩ := intItems_at hv
  obtain ⟨h1, h2⟩ := argBest_gt (numAt zs) (zs.size - 1)
  refine ⟨.int _, H, I.kept (t' := tk) hk, ⟨_, rfl⟩, q _ ?_ fun a ha => ?_⟩
  · rw [numAt_eq, en]; exact getD_mem (by omega)
  · rw [← en] at ha
    obtain ⟨j, hj, rfl⟩ := mem_getD ha
    rw [List.length_map, Array.length_toList] at hj
    rw [← numAt_eq]; exact h2 j (by omega)
theorem call_minL {X : Cx} (hc : X.calm = true) : CallR X (.builtin "min") (fun xs H Q => ∃ (p : Addr) (ns : List Int), xs = [.ref p] ∧ SqL X.K H p (ns.map V.int) ∧ 0 < ns.length ∧ ∀ M, M ∈ ns → (∀ a ∈ ns, M ≤ a) → Q (.int M) H) := by
  intro pins s σ H xs us Q I r h
  obtain ⟨p, ns, rfl, hq, hne, q⟩ := h
  obtain ⟨u, rfl, rx⟩ := vals1 r
  cases rx
  obtain ⟨its, rv, pl, hz⟩ := I.list hq
  have hi := ints_of rv
  obtain ⟨zs, ez⟩ := hi.allInts.items
  have hl := pl.isList
  rw [ez] at hl
  have en : numsOf its = ns := hi.numsOf
  rw [show its = its.toArray.toList from rfl, ez, nums_intItems] at en
  have hlen : zs.size = ns.length := by rw [← en, List.length_map, Array.length_toList]
  refine min_intList (I.ok.hd hc) hl (by omega) fun v h' tk hv hk => ?_
  obtain ⟨t, rfl⟩ := intItems_at hv
  obtain ⟨h1, h2⟩ := argBest_lt (numAt zs) (zs.size - 1)
  refine ⟨.int _, H, I.kept (t' := tk) hk, ⟨_, rfl⟩, q _ ?_ fun a ha => ?_⟩
  · rw [numAt_eq, en]; exact getD_mem (by omega)
  · rw [← en] at ha
    obtain ⟨j, hj, rfl⟩ := mem_getD ha
    rw [List.length_map, Array.length_toList] at hj
    rw [← numAt_eq]; exact h2 j (by omega)
/-- a comprehension by an invariant of one's own: n turns -/
theorem comp_own {J : It} {H : Hp} {D : Addr} {n : Nat} (Pv : Nat → List V → Hp → Prop) {src : List (Option Nat)} {σ : L2.St} {g : TG} {tt : TT} {te : TE} {Q : Hp → Prop} (h0 : Pv 0 [] (upd H D (.lst [])))
    (go : ∀ i ys H', i < n → Pv i ys H' → J.go i H') (stop : ∀ ys H', Pv n ys H' → J.stop n H' ∧ Q H')
    (turn : ∀ i ys H' x H'', i < n → Pv i ys H' → J.yld i H' x H'' → ∀ (R : VK) (E : Hp → Prop), (∀ y H4, H4 D = some (.lst ys) → ys.length < sizeLine → Pv (i + 1) (ys ++ [y]) (upd H4 D (.lst (ys ++ [y]))) → R y H4) → (∀ H3, Pv (i + 1) ys H3 → E H3) →
      g x (frees src σ) H'' fun σ2 H2 => Ext (frees src σ) σ2 ∧ tt σ2 H2 fun ok H3 => if ok = true then te σ2 H3 R else E H3) :
    ∃ W : Nat → Nat → List V → Hp → Prop, (∃ m, W 0 m [] (upd H D (.lst []))) ∧ ∀ i m ys H, W i m ys H → (J.stop i H ∧ Q H) ∨ (J.go i H ∧ ∀ x H', J.yld i H x H' →
      g x (frees src σ) H' fun σ2 H2 => Ext (frees src σ) σ2 ∧ tt σ2 H2 fun ok H3 =>
        if ok = true then te σ2 H3 fun y H4 => H4 D = some (.lst ys) ∧ ys.length < sizeLine ∧ ∃ m', m' < m ∧ W (i + 1) m' (ys ++ [y]) (upd H4 D (.lst (ys ++ [y]))) else ∃ m', m' < m ∧ W (i + 1) m' ys H3) := by
  refine ⟨fun i m ys H' => i ≤ n ∧ m = n - i ∧ Pv i ys H', ⟨_, Nat.zero_le _, rfl, h0⟩, ?_⟩
  rintro i m ys H1 ⟨hi, rfl, p⟩
  by_cases hix : i < n
  · refine .inr ⟨go i ys H1 hix p, fun x H2 y => ?_⟩
    refine turn i ys H1 x H2 hix p y _ _ (fun y H4 a b c => ⟨a, b, n - (i + 1), by omega, hix, rfl, c⟩) fun H3 c => ⟨n - (i + 1), by omega, hix, rfl, c⟩
  · have e : i = n := by omega
    subst e
    exact .inl (stop ys H1 p)
end B

namespace B
open PySem PySem.Spec L2 PyProof.Rows
/-! ### a statement behind which something of one's own is known -/
def tCut (t : TS) : TS := fun D σ H => ∃ M : L2.St → Hp → Prop, t { D with nx := M } σ H ∧ ∀ σ' H', M σ' H' → D.nx σ' H'
theorem qs_cut {X : Cx} {st : Stmt} {t : TS} (h : QS X st t) : QS X st (tCut t) := ⟨by
  intro pins s σ H D I q
  obtain ⟨M, q, k⟩ := q
  refine thn (h.p pins s σ H _ I q) fun f s' z => ?_
  cases f with
  | next => obtain ⟨σ', H', I', m⟩ := z; exact ⟨σ', H', I', k _ _ m⟩
  | brk => exact z
  | cont => exact z
  | ret u => exact z⟩
end B

namespace B
/-! ### leans: (a, b): b leans on a; by way of others -/
abbrev Ln := Nat × Nat
inductive Rch (es : List Ln) : Nat → Nat → Prop where
  | one {a b : Nat} (h : (a, b) ∈ es) : Rch es a b
  | step {a b c : Nat} (h : (a, b) ∈ es) (t : Rch es b c) : Rch es a c
theorem Rch.trans {es : List Ln} {a b c : Nat} (x : Rch es a b) (y : Rch es b c) : Rch es a c := by
  induction x with
  | one h => exact .step h y
  | step h _ ih => exact .step h (ih y)
theorem Rch.last {es : List Ln} {a c : Nat} (x : Rch es a c) : ∃ b, (b, c) ∈ es ∧ (a = b ∨ Rch es a b) := by
  induction x with
  | one h => exact ⟨_, h, .inl rfl⟩
  | step h t ih =>
    obtain ⟨b, m, z⟩ := ih
    refine ⟨b, m, .inr ?_⟩
    rcases z with z | z
    · subst z; exact .one h
    · exact .step h z
theorem Rch.mono {es fs : List Ln} (s : ∀ e ∈ es, e ∈ fs) {a b : Nat} (x : Rch es a b) : Rch fs a b := by
  induction x with
  | one h => exact .one (s _ h)
  | step h _ ih => exact .step (s _ h) ih
def EsOk (n : Nat) (es : List Ln) : Prop := ∀ e ∈ es, e.1 < n ∧ e.2 < n
theorem Rch.lt {n : Nat} {es : List Ln} (ok : EsOk n es) {a b : Nat} (x : Rch es a b) : a < n ∧ b < n := by
  induction x with
  | one h => exact ok _ h
  | step h _ ih => exact ⟨(ok _ h).1, ih.2⟩
/-- L i j: i leans on j -/
def Clo (n : Nat) (es : List Ln) (L : Nat → Nat → Bool) : Prop := ∀ i j, i < n → j < n → (L i j = true ↔ Rch es j i)
def addM (L : Nat → Nat → Bool) (a b : Nat) : Nat → Nat → Bool := fun i j => L i j || ((decide (i = b) || L i b) && (decide (j = a) || L a j))
theorem clo_nil (n : Nat) : Clo n [] (fun _ _ => false) := fun i j _ _ => by
  constructor
  · intro h; cases h
  · intro h
    cases h with
    | one m => cases m
    | step m _ => cases m
theorem clo_add {n : Nat} {es : List Ln} {L : Nat → Nat → Bool} (ok : EsOk n es) (h : Clo n es L) {a b : Nat} (ha : a < n) (hb : b < n) : Clo n (es ++ [(a, b)]) (addM L a b) := by
  have ok' : EsOk n (es ++ [(a, b)]) := fun e he => by
    rcases List.mem_append.mp he with z | z
    · exact ok e z
    · rw [List.mem_singleton.mp z]; exact ⟨ha, hb⟩
  have sub : ∀ e ∈ es, e ∈ es ++ [(a, b)] := fun e he => List.mem_append_left _ he
  have new : (a, b) ∈ es ++ [(a, b)] := List.mem_append_right _ List.mem_cons_self
  have D : ∀ i j, addM L a b i j = true ↔ L i j = true ∨ ((i = b ∨ L i b = true) ∧ (j = a ∨ L a j = true)) := fun i j => by
    unfold addM
    rw [Bool.or_eq_true, Bool.and_eq_true, Bool.or_eq_true, Bool.or_eq_true, decide_eq_true_iff, decide_eq_true_iff]
  have tr : ∀ i j k, i < n → j < n → k < n → addM L a b i j = true → addM L a b j k = true → addM L a b i k = true := by
    intro i j k hi hj hk x y
    have T : ∀ u v w, u < n → v < n → w < n → L u v = true → L v w = true → L u w = true := fun u v w hu hv hw p q => (h u w hu hw).mpr (((h v w hv hw).mp q).trans ((h u v hu hv).mp p))
    rw [D] at x y ⊢
    rcases x with x | ⟨x1, x2⟩
    · rcases y with y | ⟨y1, y2⟩
      · exact .inl (T i j k hi hj hk x y)
      · refine .inr ⟨.inr ?_, y2⟩
        rcases y1 with y1 | y1
        · subst y1; exact x
        · exact T i j b hi hj hb x y1
    · rcases y with y | ⟨_, y2⟩
      · refine .inr ⟨x1, .inr ?_⟩
        rcases x2 with x2 | x2
        · subst x2; exact y
        · exact T a j k ha hj hk x2 y
      · exact .inr ⟨x1, y2⟩
  intro i j hi hj
  constructor
  · intro x
    rw [D] at x
    rcases x with x | ⟨x1, x2⟩
    · exact ((h i j hi hj).mp x).mono sub
    · have s1 : Rch (es ++ [(a, b)]) j b := by
        rcases x2 with x2 | x2
        · subst x2; exact .one new
        · exact (((h a j ha hj).mp x2).mono sub).trans (.one new)
      rcases x1 with x1 | x1
      · subst x1; exact s1
      · exact s1.trans (((h i b hi hb).mp x1).mono sub)
  · intro x
    have E : ∀ u v, (u, v) ∈ es ++ [(a, b)] → addM L a b v u = true := fun u v m => by
      rw [D]
      rcases List.mem_append.mp m with z | z
      · have := ok _ z
        exact .inl ((h v u this.2 this.1).mpr (.one z))
      · cases List.mem_singleton.mp z
        exact .inr ⟨.inl rfl, .inl rfl⟩
    clear hi hj
    induction x with
    | one m => exact E _ _ m
    | @step u v w m t ih =>
      have l1 := ok' _ m
      have l2 := t.lt ok'
      exact tr w v u l2.2 l1.2 l1.1 ih (E _ _ m)
/-! ### values drawn along leans, turn by turn -/
structure Rx (n : Nat) (es : List Ln) (v : Nat → Int) (ps : Nat → Nat) (r k : Nat) (F : Nat → Int) : Prop where
  bas : ∀ i, i < n → v i ≤ F i
  att : ∀ i, i < n → ∃ j, j < n ∧ (j = i ∨ Rch es j i) ∧ F i = v j
  don : ∀ i, i < n → ps i < r → ∀ j, j < n → (j = i ∨ Rch es j i) → v j ≤ F i
  cur : ∀ m a b, m < k → es[m]? = some (a, b) → ps b ≤ r → ∀ j, j < n → (j = a ∨ Rch es j a) → v j ≤ F b
theorem Rx.init (n : Nat) (es : List Ln) (v : Nat → Int) (ps : Nat → Nat) : Rx n es v ps 0 0 v where
  bas := fun i _ => Int.le_refl _
  att := fun i hi => ⟨i, hi, .inl rfl, rfl⟩
  don := fun i _ h => absurd h (Nat.not_lt_zero _)
  cur := fun m a b h => absurd h (Nat.not_lt_zero _)
def rxUp (F : Nat → Int) (a b : Nat) : Nat → Int := fun i => if i = b then max (F b) (F a) else F i
theorem rxUp_le (F : Nat → Int) (a b i : Nat) : F i ≤ rxUp F a b i := by
  unfold rxUp
  split
  · rename_i h; rw [h]; omega
  · exact Int.le_refl _
theorem Rx.step {n : Nat} {es : List Ln} {v : Nat → Int} {ps : Nat → Nat} {r k : Nat} {F : Nat → Int} (h : Rx n es v ps r k F) (ok : EsOk n es) (rk : ∀ a b, (a, b) ∈ es → ps a < ps b) {a b : Nat} (e : es[k]? = some (a, b)) : Rx n es v ps r (k + 1) (rxUp F a b) where
  bas := fun i hi => Int.le_trans (h.bas i hi) (rxUp_le F a b i)
  att := fun i hi => by
    have m := List.mem_of_getElem? e
    by_cases c : i = b
    · subst c
      by_cases d : F i ≤ F a
      · obtain ⟨j, hj, z, q⟩ := h.att a (ok _ m).1
        refine ⟨j, hj, .inr ?_, ?_⟩
        · rcases z with z | z
          · subst z; exact .one m
          · exact z.trans (.one m)
        · show (if i = i then max (F i) (F a) else F i) = v j
          rw [if_pos rfl, ← q]; omega
      · obtain ⟨j, hj, z, q⟩ := h.att i hi
        refine ⟨j, hj, z, ?_⟩
        show (if i = i then max (F i) (F a) else F i) = v j
        rw [if_pos rfl, ← q]; omega
    · obtain ⟨j, hj, z, q⟩ := h.att i hi
      refine ⟨j, hj, z, ?_⟩
      show (if i = b then max (F b) (F a) else F i) = v j
      rw [if_neg c]; exact q
  don := fun i hi pi j hj z => Int.le_trans (h.don i hi pi j hj z) (rxUp_le F a b i)
  cur := fun m a' b' hm em pb j hj z => by
    by_cases c : m < k
    · exact Int.le_trans (h.cur m a' b' c em pb j hj z) (rxUp_le F a b b')
    · have : m = k := by omega
      subst this
      rw [e] at em
      cases em
      have mm := List.mem_of_getElem? e
      have lt := rk a b mm
      have q := h.don a (ok _ mm).1 (by omega) j hj z
      show v j ≤ if b = b then max (F b) (F a) else F b
      rw [if_pos rfl]; omega
theorem Rx.round {n : Nat} {es : List Ln} {v : Nat → Int} {ps : Nat → Nat} {r : Nat} {F : Nat → Int} (h : Rx n es v ps r es.length F) (ok : EsOk n es) : Rx n es v ps (r + 1) 0 F where
  bas := h.bas
  att := h.att
  don := fun i hi pi j hj z => by
    rcases z with z | z
    · subst z; exact h.bas j hj
    · obtain ⟨a, m, y⟩ := z.last
      obtain ⟨k, hk, e⟩ := List.mem_iff_getElem.mp m
      exact h.cur k a i hk (by rw [List.getElem?_eq_getElem hk, e]) (by omega) j hj y
  cur := fun m a b hm => absurd hm (Nat.not_lt_zero _)
/-- the greatest among oneself and those ahead -/
structure Top (n : Nat) (es : List Ln) (v : Nat → Int) (F : Nat → Int) : Prop where
  up : ∀ i j, i < n → j < n → (j = i ∨ Rch es j i) → v j ≤ F i
  att : ∀ i, i < n → ∃ j, j < n ∧ (j = i ∨ Rch es j i) ∧ F i = v j
theorem Rx.top {n : Nat} {es : List Ln} {v : Nat → Int} {ps : Nat → Nat} {F : Nat → Int} (h : Rx n es v ps n 0 F) (hp : ∀ i, i < n → ps i < n) : Top n es v F := ⟨fun i j hi hj z => h.don i hi (hp i hi) j hj z, h.att⟩
theorem Top.uniq {n : Nat} {es : List Ln} {v F G : Nat → Int} (a : Top n es v F) (b : Top n es v G) {i : Nat} (hi : i < n) : F i = G i := by
  obtain ⟨j, hj, z, e⟩ := a.att i hi
  obtain ⟨k, hk, y, f⟩ := b.att i hi
  have := a.up i k hi hk y
  have := b.up i j hi hj z
  omega
def swp (es : List Ln) : List Ln := es.map fun e => (e.2, e.1)
theorem swp_at {es : List Ln} {k a b : Nat} (h : es[k]? = some (a, b)) : (swp es)[k]? = some (b, a) := by unfold swp; rw [List.getElem?_map, h]; rfl
theorem swp_len (es : List Ln) : (swp es).length = es.length := List.length_map _
theorem swp_mem {es : List Ln} {a b : Nat} : (a, b) ∈ swp es ↔ (b, a) ∈ es := by
  unfold swp
  rw [List.mem_map]
  constructor
  · rintro ⟨⟨x, y⟩, m, e⟩
    cases e
    exact m
  · exact fun m => ⟨_, m, rfl⟩
theorem swp_ok {n : Nat} {es : List Ln} (h : EsOk n es) : EsOk n (swp es) := fun e he => by
  obtain ⟨x, hx, rfl⟩ := List.mem_map.mp he
  exact ⟨(h x hx).2, (h x hx).1⟩
theorem swp_rch {es : List Ln} {a b : Nat} : Rch (swp es) a b ↔ Rch es b a := by
  have f : ∀ {fs : List Ln} {a b : Nat}, Rch fs a b → Rch (swp fs) b a := fun {fs a b} h => by
    induction h with
    | one m => exact .one (swp_mem.mpr m)
    | step m _ ih => exact ih.trans (.one (swp_mem.mpr m))
  have ss : swp (swp es) = es := by unfold swp; rw [List.map_map]; exact List.map_id' _
  exact ⟨fun h => by have := f h; rw [ss] at this; exact this, f⟩
end B

namespace My
open PySem L2 B PyProof.Rows
def top (i : Nat) : Stmt := PySem.Challenge.pw_paceplan_k07_windows_drawn_in.main.body.getD i (.Pass ⟨0, 0, 0, 0⟩)
abbrev s_copied : Stmt := top 1
abbrev s_no_leanings : Stmt := top 6
abbrev s_add_lean : Stmt := top 7
abbrev s_all_leanings : Stmt := top 8
abbrev s_drawn_in : Stmt := top 9
abbrev s_law_tape : Stmt := top 11
abbrev s_law_draw : Stmt := top 12
abbrev s_law_gcd : Stmt := top 13
abbrev s_law_ratio : Stmt := top 14
abbrev s_law_part : Stmt := top 15
abbrev s_law_works : Stmt := top 16
abbrev s_law_leans : Stmt := top 17
abbrev s_law_due : Stmt := top 18
abbrev s_law_told : Stmt := top 19
abbrev s_law : Stmt := top 20
abbrev s_NoRoom : Stmt := inClass (top 4) 0
structure Ad where
  a_copied : Addr
  d_copied : FuncData
  a_no_leanings : Addr
  d_no_leanings : FuncData
  a_add_lean : Addr
  d_add_lean : FuncData
  a_all_leanings : Addr
  d_all_leanings : FuncData
  a_drawn_in : Addr
  d_drawn_in : FuncData
  a_law_tape : Addr
  d_law_tape : FuncData
  a_law_draw : Addr
  d_law_draw : FuncData
  a_law_gcd : Addr
  d_law_gcd : FuncData
  a_law_ratio : Addr
  d_law_ratio : FuncData
  a_law_part : Addr
  d_law_part : FuncData
  a_law_works : Addr
  d_law_works : FuncData
  a_law_leans : Addr
  d_law_leans : FuncData
  a_law_due : Addr
  d_law_due : FuncData
  a_law_told : Addr
  d_law_told : FuncData
  a_law : Addr
  d_law : FuncData
  c_base : Addr
  c_NoRoom : Addr
  a_NoRoom : Addr
  d_NoRoom : FuncData
structure Txt (K : PySem.W.Frag) (mg : Str → Option Value) (t : Ad) : Prop where
  F_copied : Fun K "copied" "copied" s_copied t.a_copied t.d_copied
  b_copied : Binds K t.d_copied ["thing"] []
  m_copied : mg "copied" = some (.ref t.a_copied)
  F_no_leanings : Fun K "no_leanings" "no_leanings" s_no_leanings t.a_no_leanings t.d_no_leanings
  b_no_leanings : Binds K t.d_no_leanings ["count"] []
  m_no_leanings : mg "no_leanings" = some (.ref t.a_no_leanings)
  F_add_lean : Fun K "add_lean" "add_lean" s_add_lean t.a_add_lean t.d_add_lean
  b_add_lean : Binds K t.d_add_lean ["leanings", "lean"] []
  m_add_lean : mg "add_lean" = some (.ref t.a_add_lean)
  F_all_leanings : Fun K "all_leanings" "all_leanings" s_all_leanings t.a_all_leanings t.d_all_leanings
  b_all_leanings : Binds K t.d_all_leanings ["count", "leans"] []
  m_all_leanings : mg "all_leanings" = some (.ref t.a_all_leanings)
  F_drawn_in : Fun K "drawn_in" "drawn_in" s_drawn_in t.a_drawn_in t.d_drawn_in
  b_drawn_in : Binds K t.d_drawn_in ["sheet"] []
  m_drawn_in : mg "drawn_in" = some (.ref t.a_drawn_in)
  F_law_tape : Fun K "_law_tape" "_law_tape" s_law_tape t.a_law_tape t.d_law_tape
  b_law_tape : Binds K t.d_law_tape ["_law_script"] []
  m_law_tape : mg "_law_tape" = some (.ref t.a_law_tape)
  F_law_draw : Fun K "_law_draw" "_law_draw" s_law_draw t.a_law_draw t.d_law_draw
  b_law_draw : Binds K t.d_law_draw ["_law_tape_here", "_law_many"] []
  m_law_draw : mg "_law_draw" = some (.ref t.a_law_draw)
  F_law_gcd : Fun K "_law_gcd" "_law_gcd" s_law_gcd t.a_law_gcd t.d_law_gcd
  b_law_gcd : Binds K t.d_law_gcd ["_law_one", "_law_other"] []
  m_law_gcd : mg "_law_gcd" = some (.ref t.a_law_gcd)
  F_law_ratio : Fun K "_law_ratio" "_law_ratio" s_law_ratio t.a_law_ratio t.d_law_ratio
  b_law_ratio : Binds K t.d_law_ratio ["_law_top", "_law_bottom"] []
  m_law_ratio : mg "_law_ratio" = some (.ref t.a_law_ratio)
  F_law_part : Fun K "_law_part" "_law_part" s_law_part t.a_law_part t.d_law_part
  b_law_part : Binds K t.d_law_part ["_law_tape_here"] []
  m_law_part : mg "_law_part" = some (.ref t.a_law_part)
  F_law_works : Fun K "_law_works" "_law_works" s_law_works t.a_law_works t.d_law_works
  b_law_works : Binds K t.d_law_works ["_law_tape_here", "_law_most", "_law_end"] []
  m_law_works : mg "_law_works" = some (.ref t.a_law_works)
  F_law_leans : Fun K "_law_leans" "_law_leans" s_law_leans t.a_law_leans t.d_law_leans
  b_law_leans : Binds K t.d_law_leans ["_law_tape_here", "_law_many"] []
  m_law_leans : mg "_law_leans" = some (.ref t.a_law_leans)
  F_law_due : Fun K "_law_due" "_law_due" s_law_due t.a_law_due t.d_law_due
  b_law_due : Binds K t.d_law_due ["_law_sheet"] []
  m_law_due : mg "_law_due" = some (.ref t.a_law_due)
  F_law_told : Fun K "_law_told" "_law_told" s_law_told t.a_law_told t.d_law_told
  b_law_told : Binds K t.d_law_told ["_law_sheet"] []
  m_law_told : mg "_law_told" = some (.ref t.a_law_told)
  F_law : Fun K "law" "law" s_law t.a_law t.d_law
  b_law : Binds K t.d_law ["_law_script"] []
  m_law : mg "law" = some (.ref t.a_law)
  X_NoRoom : XC K t.c_NoRoom t.a_NoRoom (.ref t.c_base :: vMro)
  F_NoRoom : Fun K "__init__" "NoRoom.__init__" s_NoRoom t.a_NoRoom t.d_NoRoom
  b_NoRoom : Binds K t.d_NoRoom ["self", "work"] []
  m_NoRoom : mg "NoRoom" = some (.ref t.c_NoRoom)
  n_NoRoom_work : NoAttr K t.c_NoRoom "work"
  g_NoRoom : GetX K t.c_NoRoom
  x_catch : PySem.W.exmOne K (.ref t.c_NoRoom) (.ref t.c_NoRoom) = some true
  z_abs : mg "abs" = none
  z_enumerate : mg "enumerate" = none
  z_int : mg "int" = none
  z_isinstance : mg "isinstance" = none
  z_len : mg "len" = none
  z_list : mg "list" = none
  z_max : mg "max" = none
  z_min : mg "min" = none
  z_range : mg "range" = none
  z_repr : mg "repr" = none
  z_tuple : mg "tuple" = none
theorem ixN_nat {n t : Nat} (h : t < n) : ixN n (t : Int) = some t := by
  unfold ixN
  simp
  omega
def sp_law_gcd (_ : PySem.W.Frag) : Sp := fun vs H Q _ => ∃ a b : Int, vs = [.int a, .int b] ∧ 0 ≤ a ∧ 0 ≤ b ∧ Q (.int (Int.gcd a b : Nat)) H
abbrev sp_law_tape := sp_tape
def sp_law_draw (_ : PySem.W.Frag) : Sp := sp_draw
def newR (H : Hp) (Q : VK) (r : R) : Prop := ∀ p, H p = none → Q (.ref p) (upd H p (.tup [.int r.1, .int r.2]))
def toR (K : PySem.W.Frag) (H : Hp) (Q : VK) (r : R) : Prop := ∀ (v : V) (H' : Hp), Same H H' → RV K H' v r → Q v H'
def sp_ratio (_ : PySem.W.Frag) : Sp := fun vs H Q _ => ∃ a b : Int, vs = [.int a, .int b] ∧ b ≠ 0 ∧ b.natAbs < 2 ^ 4000 ∧ newR H Q (mkS a b)
abbrev sp_law_ratio := sp_ratio
theorem big_of {i : Int} {n : Nat} (h : i.natAbs < 2 ^ n) (hn : n ≤ 4000) : i.natAbs < 2 ^ 4000 := Nat.lt_of_lt_of_le h (Nat.pow_le_pow_right (by decide) hn)
structure PartOk (r : R) : Prop where
  bq : Bq D0 N0 r
  pos : 0 < r.1
theorem PartOk.wf {r : R} (h : PartOk r) : Wf 98 r := h.bq.wf (by decide) (by decide) (by decide)
def sp_law_part (K : PySem.W.Frag) : Sp := fun vs H Q _ => ∃ t s : Addr, vs = [.ref t] ∧ Tape H t s ∧ ∀ (v : V) (r : R) (H' : Hp), PartOk r → Step t H H' → Tape H' t s → RV K H' v r → Q v H'
theorem div30 {r : Int} (h0 : 0 ≤ r) (h1 : r < 30) : (1 + r) ∣ (D0 : Int) := by
  have z : ∀ k : Fin 30, (1 + ((k : Nat) : Int)) ∣ (D0 : Int) := by decide
  have := z ⟨r.toNat, by omega⟩
  rw [show (((⟨r.toNat, by omega⟩ : Fin 30) : Nat) : Int) = r by show ((r.toNat : Nat) : Int) = r; omega] at this
  exact this
theorem part_ok {a b : Int} (ha : 0 < a) (ha' : a ≤ 1000000007) (hb : 0 < b) (hd : b ∣ (D0 : Int)) : PartOk (mkR a b) := by
  refine ⟨bq_mk hb hd ?_, mkR_pos ha hb⟩
  have h1 : a.natAbs ≤ 1000000007 := by omega
  have h2 : 1 ≤ b.natAbs := by omega
  show a.natAbs ≤ 1000000007 * b.natAbs
  omega

/-! works, leans, who leans on whom -/
abbrev Wk := Nat × Nat × R
def WkV (K : PySem.W.Frag) (H : Hp) (v : V) (w : Wk) : Prop := ∃ p x, v = .ref p ∧ SqT K H p [.int w.1, .int w.2.1, x] ∧ RV K H x w.2.2
theorem WkV.mono {K : PySem.W.Frag} {H H' : Hp} {v : V} {w : Wk} (h : WkV K H v w) (t : Tst K H H') : WkV K H' v w := let ⟨p, x, e, s, r⟩ := h; ⟨p, x, e, t _ _ s, r.mono t⟩
def WksV (K : PySem.W.Frag) (H : Hp) (v : V) (ws : List Wk) : Prop := ∃ p xs, v = .ref p ∧ SqT K H p xs ∧ Als (WkV K H) xs ws
theorem WksV.mono {K : PySem.W.Frag} {H H' : Hp} {v : V} {ws : List Wk} (h : WksV K H v ws) (t : Tst K H H') : WksV K H' v ws := let ⟨p, xs, e, s, a⟩ := h; ⟨p, xs, e, t _ _ s, a.mono fun _ _ q => q.mono t⟩
def dWk (w : Wk) : PyData := .tuple [.int w.1, .int w.2.1, dR w.2.2]
def dWks (ws : List Wk) : PyData := .tuple (ws.map dWk)
theorem WkV.deep {K : PySem.W.Frag} {H : Hp} {v : V} {w : Wk} (h : WkV K H v w) : Deep K H v (dWk w) := by
  obtain ⟨p, x, rfl, hS, rx⟩ := h
  exact .tup hS (.cons (.int _) (.cons (.int _) (.cons rx.deep .nil)))
theorem WksV.deep {K : PySem.W.Frag} {H : Hp} {v : V} {ws : List Wk} (h : WksV K H v ws) : Deep K H v (dWks ws) := by
  obtain ⟨p, xs, rfl, hS, al⟩ := h
  exact .tup hS (al.deep fun _ _ q => q.deep)

def LnV (K : PySem.W.Frag) (H : Hp) (v : V) (e : Ln) : Prop := ∃ p, v = .ref p ∧ SqT K H p [.int (e.1 : Nat), .int (e.2 : Nat)]
theorem LnV.mono {K : PySem.W.Frag} {H H' : Hp} {v : V} {e : Ln} (h : LnV K H v e) (t : Tst K H H') : LnV K H' v e := let ⟨p, q, s⟩ := h; ⟨p, q, t _ _ s⟩
def LnsV (K : PySem.W.Frag) (H : Hp) (v : V) (es : List Ln) : Prop := ∃ p xs, v = .ref p ∧ SqT K H p xs ∧ Als (LnV K H) xs es
theorem LnsV.mono {K : PySem.W.Frag} {H H' : Hp} {v : V} {es : List Ln} (h : LnsV K H v es) (t : Tst K H H') : LnsV K H' v es := let ⟨p, xs, e, s, a⟩ := h; ⟨p, xs, e, t _ _ s, a.mono fun _ _ q => q.mono t⟩
def rowB (n : Nat) (f : Nat → Bool) : List V := (List.range n).map fun j => V.bl (f j)
theorem rowB_len (n : Nat) (f : Nat → Bool) : (rowB n f).length = n := by unfold rowB; rw [List.length_map, List.length_range]
theorem rowB_at {n : Nat} {f : Nat → Bool} {j : Nat} (h : j < n) : (rowB n f)[j]? = some (.bl (f j)) := by
  unfold rowB
  rw [List.getElem?_map, List.getElem?_range h]
  rfl
theorem rowB_set {n : Nat} {f : Nat → Bool} {j : Nat} (h : j < n) : (rowB n f).set j (.bl true) = rowB n fun i => f i || decide (i = j) := by
  apply List.ext_getElem?
  intro i
  by_cases hi : i < n
  · rw [rowB_at hi]
    by_cases c : i = j
    · subst c
      rw [List.getElem?_set_self (by rw [rowB_len]; exact h), decide_eq_true rfl, Bool.or_true]
    · rw [List.getElem?_set_ne (fun z => c z.symm), rowB_at hi, decide_eq_false c, Bool.or_false]
  · rw [List.getElem?_eq_none (by rw [List.length_set, rowB_len]; omega), List.getElem?_eq_none (by rw [rowB_len]; omega)]
structure Mtx (H : Hp) (l : Addr) (rows : List Addr) (n : Nat) (L : Nat → Nat → Bool) : Prop where
  top : H l = some (.lst (rows.map V.ref))
  len : rows.length = n
  nd : rows.Nodup
  ne : l ∉ rows
  row : ∀ i r, rows[i]? = some r → H r = some (.lst (rowB n (L i)))
theorem Mtx.same {H H' : Hp} {l : Addr} {rows : List Addr} {n : Nat} {L : Nat → Nat → Bool} (h : Mtx H l rows n L) (s : Same H H') : Mtx H' l rows n L := ⟨s _ _ h.top, h.len, h.nd, h.ne, fun i r e => s _ _ (h.row i r e)⟩
theorem Mtx.congr {H : Hp} {l : Addr} {rows : List Addr} {n : Nat} {L L' : Nat → Nat → Bool} (h : Mtx H l rows n L) (e : ∀ i j, i < n → j < n → L i j = L' i j) : Mtx H l rows n L' := ⟨h.top, h.len, h.nd, h.ne, fun i r q => by
  rw [h.row i r q]
  have hi : i < n := by rw [← h.len]; exact (List.getElem?_eq_some_iff.mp q).1
  congr 2
  exact List.map_congr_left fun j hj => by rw [e i j hi (List.mem_range.mp hj)]⟩
theorem Mtx.set {H : Hp} {l : Addr} {rows : List Addr} {n : Nat} {L : Nat → Nat → Bool} (h : Mtx H l rows n L) {u v : Nat} {r : Addr} (e : rows[u]? = some r) (hv : v < n) : Mtx (upd H r (.lst ((rowB n (L u)).set v (.bl true)))) l rows n (fun i j => L i j || (decide (i = u) && decide (j = v))) := by
  have mr := List.mem_of_getElem? e
  refine ⟨by rw [upd_ne (show l ≠ r from fun z => h.ne (by rw [z]; exact mr))]; exact h.top, h.len, h.nd, h.ne, fun i r' e' => ?_⟩
  by_cases c : i = u
  · subst c
    rw [e] at e'
    cases e'
    rw [upd_same, rowB_set hv]
    congr 3
    funext j
    rw [decide_eq_true rfl, Bool.true_and]
  · have n1 : r' ≠ r := fun z => by
      subst z
      obtain ⟨h1, q1⟩ := List.getElem?_eq_some_iff.mp e
      obtain ⟨h2, q2⟩ := List.getElem?_eq_some_iff.mp e'
      have := List.pairwise_iff_getElem.mp h.nd
      rcases Nat.lt_trichotomy i u with z | z | z
      · exact this i u h2 h1 z (by rw [q1, q2])
      · exact c z
      · exact this u i h1 h2 z (by rw [q1, q2])
    rw [upd_ne n1, h.row i r' e']
    congr 3
    funext j
    rw [decide_eq_false c, Bool.false_and, Bool.or_false]
/-- all but some lists stays -/
structure Kp (rows : List Addr) (H H' : Hp) : Prop where
  keep : ∀ b o, b ∉ rows → H b = some o → H' b = some o
  ls : ∀ r ∈ rows, ∃ xs, H r = some (.lst xs)
  ls' : ∀ r ∈ rows, ∃ xs, H' r = some (.lst xs)
theorem Kp.trans {rows : List Addr} {H H1 H2 : Hp} (a : Kp rows H H1) (b : Kp rows H1 H2) : Kp rows H H2 := ⟨fun c o n e => b.keep c o n (a.keep c o n e), a.ls, b.ls'⟩
theorem Kp.same {rows : List Addr} {H H' : Hp} (s : Same H H') (h : ∀ r ∈ rows, ∃ xs, H r = some (.lst xs)) : Kp rows H H' := ⟨fun c o _ e => s _ _ e, h, fun r m => let ⟨xs, e⟩ := h r m; ⟨xs, s _ _ e⟩⟩
theorem Kp.up {rows : List Addr} {H : Hp} {r : Addr} (m : r ∈ rows) (h : ∀ r ∈ rows, ∃ xs, H r = some (.lst xs)) (ys : List V) : Kp rows H (upd H r (.lst ys)) := ⟨fun c o n e => by rw [upd_ne (show c ≠ r from fun z => n (by rw [z]; exact m))]; exact e, h, fun q mq => by
  by_cases c : q = r
  · subst c; exact ⟨_, upd_same⟩
  · rw [upd_ne c]; exact h q mq⟩
theorem Mtx.ls {H : Hp} {l : Addr} {rows : List Addr} {n : Nat} {L : Nat → Nat → Bool} (h : Mtx H l rows n L) : ∀ r ∈ rows, ∃ xs, H r = some (.lst xs) := fun r m => by
  obtain ⟨i, hi, e⟩ := List.mem_iff_getElem.mp m
  exact ⟨_, h.row i r (by rw [List.getElem?_eq_getElem hi, e])⟩
theorem Tst.kp {K : PySem.W.Frag} {rows : List Addr} {H H' : Hp} (k : Kp rows H H') : Tst K H H' := fun p xs h => by
  rcases h with h | h
  · have n : p ∉ rows := fun m => by
      obtain ⟨ys, e⟩ := k.ls p m
      rcases h with h | ⟨o, h⟩ <;> rw [e] at h <;> cases h
    rcases h with h | ⟨o, h⟩
    · exact .inl (.inl (k.keep _ _ n h))
    · exact .inl (.inr ⟨o, k.keep _ _ n h⟩)
  · exact .inr h
def sp_no_leanings (_ : PySem.W.Frag) : Sp := fun vs H Q _ => ∃ n : Nat, vs = [.int n] ∧ n ≤ 64 ∧ ∀ (l : Addr) (rows : List Addr) (H' : Hp), Same H H' → H l = none → (∀ r ∈ rows, H r = none) → Mtx H' l rows n (fun _ _ => false) → Q (.ref l) H'
def sp_add_lean (K : PySem.W.Frag) : Sp := fun vs H Q _ => ∃ (l : Addr) (v : V) (rows : List Addr) (n : Nat) (L : Nat → Nat → Bool) (a b : Nat), vs = [.ref l, v] ∧ Mtx H l rows n L ∧ LnV K H v (a, b) ∧ a < n ∧ b < n ∧ n ≤ 64 ∧ ∀ H', Kp rows H H' → Mtx H' l rows n (addM L a b) → Q .non H'
def sp_all_leanings (K : PySem.W.Frag) : Sp := fun vs H Q _ => ∃ (n : Nat) (v : V) (es : List Ln), vs = [.int n, v] ∧ LnsV K H v es ∧ EsOk n es ∧ n ≤ 64 ∧ ∀ (l : Addr) (rows : List Addr) (L : Nat → Nat → Bool) (H' : Hp), Same H H' → Mtx H' l rows n L → Clo n es L → Q (.ref l) H'

/-! windows drawn in -/
def wk0 : Wk := (0, 0, (0, 1))
structure WkB (w : Wk) : Prop where
  l1 : w.1 < 24
  l2 : w.2.1 < 24
  am : Wf 98 w.2.2
def vF (ws : List Wk) (j : Nat) : Int := ((ws.getD j wk0).1 : Nat)
def vL (ws : List Wk) (j : Nat) : Int := -((ws.getD j wk0).2.1 : Nat)
structure WinI (ws : List Wk) (es : List Ln) (f l : Nat → Int) : Prop where
  a : Top ws.length es (vF ws) f
  b : Top ws.length (swp es) (vL ws) (fun i => - l i)
theorem top_at {n : Nat} {v : Nat → Int} {P : Nat → Prop} : ∀ k, k ≤ n → (∀ j, j < k → ¬ P j) ∨ ∃ M, (∀ j, j < k → P j → v j ≤ M) ∧ ∃ j, j < k ∧ P j ∧ M = v j
  | 0, _ => .inl fun j hj => absurd hj (Nat.not_lt_zero _)
  | k + 1, hk => by
    rcases top_at (n := n) (v := v) (P := P) k (by omega) with h | ⟨M, h1, j, h2, h3, h4⟩
    · by_cases c : P k
      · refine .inr ⟨v k, fun j hj pj => ?_, k, by omega, c, rfl⟩
        by_cases z : j = k
        · subst z; exact Int.le_refl _
        · exact absurd pj (h j (by omega))
      · refine .inl fun j hj pj => ?_
        by_cases z : j = k
        · subst z; exact c pj
        · exact h j (by omega) pj
    · by_cases c : P k ∧ M < v k
      · refine .inr ⟨v k, fun i hi pi => ?_, k, by omega, c.1, rfl⟩
        by_cases z : i = k
        · subst z; exact Int.le_refl _
        · have := h1 i (by omega) pi
          have := c.2
          omega
      · refine .inr ⟨M, fun i hi pi => ?_, j, by omega, h3, h4⟩
        by_cases z : i = k
        · subst z
          by_cases y : v i ≤ M
          · exact y
          · exact absurd ⟨pi, by omega⟩ c
        · exact h1 i (by omega) pi
theorem Top.ex (n : Nat) (es : List Ln) (v : Nat → Int) : ∃ F, Top n es v F := by
  have h : ∀ i, ∃ M : Int, i < n → (∀ j, j < n → (j = i ∨ Rch es j i) → v j ≤ M) ∧ ∃ j, j < n ∧ (j = i ∨ Rch es j i) ∧ M = v j := fun i => by
    rcases top_at (n := n) (v := v) (P := fun j => j = i ∨ Rch es j i) n (Nat.le_refl _) with h | ⟨M, h1, h2⟩
    · exact ⟨0, fun hi => absurd (.inl rfl) (h i hi)⟩
    · exact ⟨M, fun _ => ⟨h1, h2⟩⟩
  exact ⟨fun i => Classical.choose (h i), ⟨fun i j hi hj z => (Classical.choose_spec (h i) hi).1 j hj z, fun i hi => (Classical.choose_spec (h i) hi).2⟩⟩
theorem WinI.ex (ws : List Wk) (es : List Ln) : ∃ f l, WinI ws es f l := by
  obtain ⟨f, hf⟩ := Top.ex ws.length es (vF ws)
  obtain ⟨g, hg⟩ := Top.ex ws.length (swp es) (vL ws)
  refine ⟨f, fun i => - g i, hf, ?_⟩
  have : (fun i => - - g i) = g := funext fun i => Int.neg_neg _
  rw [this]
  exact hg
def dDr (ws : List Wk) (f l : Nat → Int) (i : Nat) : PyData := .tuple [.int (f i), .int (l i), dR (ws.getD i wk0).2.2]
def badM (n : Nat) (f l : Nat → Int) : Option Nat := (List.range n).find? fun i => decide (l i < f i)
def resM (ws : List Wk) (f l : Nat → Int) : PyData := match badM ws.length f l with
  | some i => .int i
  | none => .tuple ((List.range ws.length).map (dDr ws f l))
theorem bad_some {n : Nat} {f l : Nat → Int} {i : Nat} (hi : i < n) (h : l i < f i) (b : ∀ j, j < i → f j ≤ l j) : badM n f l = some i := by
  unfold badM
  rw [List.find?_range_eq_some]
  refine ⟨decide_eq_true h, List.mem_range.mpr hi, fun j hj => ?_⟩
  have := b j hj
  rw [decide_eq_false (by omega)]; rfl
theorem bad_none {n : Nat} {f l : Nat → Int} (b : ∀ j, j < n → f j ≤ l j) : badM n f l = none := by
  unfold badM
  rw [List.find?_eq_none]
  intro j hj
  have := b j (List.mem_range.mp hj)
  rw [decide_eq_false (by omega)]
  simp
theorem res_same {ws : List Wk} {es : List Ln} {f l f' l' : Nat → Int} (h : WinI ws es f l) (h' : WinI ws es f' l') : resM ws f l = resM ws f' l' := by
  have e1 : ∀ i, i < ws.length → f i = f' i := fun i hi => h.a.uniq h'.a hi
  have e2 : ∀ i, i < ws.length → l i = l' i := fun i hi => by have : - l i = - l' i := h.b.uniq h'.b hi; omega
  have e3 : badM ws.length f l = badM ws.length f' l' := by
    unfold badM
    have : ∀ (zs : List Nat), (∀ z ∈ zs, z < ws.length) → zs.find? (fun i => decide (l i < f i)) = zs.find? (fun i => decide (l' i < f' i)) := fun zs => by
      induction zs with
      | nil => intro _; rfl
      | cons z zs ih =>
        intro hz
        have a := hz z List.mem_cons_self
        rw [List.find?_cons, List.find?_cons, e1 z a, e2 z a, ih fun y hy => hz y (List.mem_cons_of_mem _ hy)]
    exact this _ fun z hz => List.mem_range.mp hz
  unfold resM
  rw [e3]
  have e4 : (List.range ws.length).map (dDr ws f l) = (List.range ws.length).map (dDr ws f' l') := List.map_congr_left fun i hi => by
    unfold dDr
    rw [e1 i (List.mem_range.mp hi), e2 i (List.mem_range.mp hi)]
  rw [e4]
/-- things without lists stay where tuples stay: told for what is drawn -/
theorem dDr_mono {K : PySem.W.Frag} {H H' : Hp} (t : Tst K H H') {ws : List Wk} {f l : Nat → Int} {i : Nat} {v : V} (h : Deep K H v (dDr ws f l i)) : Deep K H' v (dDr ws f l i) := by
  unfold dDr at h ⊢
  cases h with
  | tup e h =>
    cases h with
    | cons h1 h =>
      cases h with
      | cons h2 h =>
        cases h with
        | cons h3 h =>
          cases h
          cases h1
          cases h2
          refine .tup (t _ _ e) (.cons (.int _) (.cons (.int _) (.cons ?_ .nil)))
          cases h3 with
          | tup e3 h3 =>
            cases h3 with
            | cons a h3 =>
              cases h3 with
              | cons b h3 => cases h3; cases a; cases b; exact .tup (t _ _ e3) (.cons (.int _) (.cons (.int _) .nil))
theorem tupAll {K : PySem.W.Frag} {H H' : Hp} (t : Tst K H H') {ws : List Wk} {f l : Nat → Int} : ∀ {zs : List Nat} {vs : List V}, DeepAll K H vs (zs.map (dDr ws f l)) → DeepAll K H' vs (zs.map (dDr ws f l))
  | [], _, .nil => .nil
  | _ :: _, _, .cons h r => .cons (dDr_mono t h) (tupAll t r)
theorem deepAll_app {K : PySem.W.Frag} {H : Hp} : ∀ {xs ys : List V} {ds es : List PyData}, DeepAll K H xs ds → DeepAll K H ys es → DeepAll K H (xs ++ ys) (ds ++ es)
  | _, _, _, _, .nil, h => h
  | _, _, _, _, .cons a t, h => .cons a (deepAll_app t h)
theorem del_same {H H' : Hp} {x : Addr} {o0 : HO} (hx : H x = none) (kp : ∀ b o, b ≠ x → upd H x o0 b = some o → H' b = some o) : Same H (del H' x) := fun b o e => by
  have nb : b ≠ x := ne_of_none e hx
  unfold del
  rw [if_neg nb]
  exact kp b o nb (by rw [upd_ne nb]; exact e)
theorem del_at {H : Hp} {x d : Addr} (n : d ≠ x) : del H x d = H d := by unfold del; rw [if_neg n]
def ShV (K : PySem.W.Frag) (H : Hp) (v : V) (ws : List Wk) (es : List Ln) : Prop := ∃ p a b, v = .ref p ∧ SqT K H p [a, b] ∧ WksV K H a ws ∧ LnsV K H b es
theorem ShV.mono {K : PySem.W.Frag} {H H' : Hp} {v : V} {ws : List Wk} {es : List Ln} (h : ShV K H v ws es) (t : Tst K H H') : ShV K H' v ws es := let ⟨p, a, b, e, s, w, n⟩ := h; ⟨p, a, b, e, t _ _ s, w.mono t, n.mono t⟩
def sp_copied (_ : PySem.W.Frag) : Sp := fun vs H Q _ => ∃ i : Int, vs = [.int i] ∧ Q (.int i) H
def sp_NoRoom (_ : PySem.W.Frag) (C : Addr) : Sp := fun vs H Q _ => ∃ (a : Addr) (n : Int), vs = [.ref a, .int n] ∧ H a = some (exO a C none) ∧ ∀ d, H d = none → d ≠ a → Q .non (upd (upd H a (exO a C (some d))) d (dO d [("work", .int n)]))
structure ShOk (ws : List Wk) (es : List Ln) : Prop where
  few : ws.length ≤ 20
  ok : ∀ w ∈ ws, WkB w
  es : EsOk ws.length es
def sp_drawn_in (K : PySem.W.Frag) (C : Addr) : Sp := fun vs H Q E => ∃ (v : V) (ws : List Wk) (es : List Ln), vs = [v] ∧ ShV K H v ws es ∧ ShOk ws es ∧
  (∀ (f l : Nat → Int) (u : V) (H' : Hp), Same H H' → WinI ws es f l → Deep K H' u (resM ws f l) → Q u H') ∧
  (∀ (f l : Nat → Int) (i : Nat) (d : Addr) (H' : Hp), Same H H' → WinI ws es f l → resM ws f l = .int i → H' d = some (dO d [("work", .int i)]) → E (.ref C) (some d) H')
def sp_law_told (K : PySem.W.Frag) : Sp := fun vs H Q _ => ∃ (v : V) (ws : List Wk) (es : List Ln), vs = [v] ∧ ShV K H v ws es ∧ ShOk ws es ∧ ∀ (f l : Nat → Int) (u : V) (H' : Hp), Same H H' → WinI ws es f l → Deep K H' u (resM ws f l) → Q u H'
def Rnk (n : Nat) (es : List Ln) : Prop := ∃ ps : Nat → Nat, (∀ i, i < n → ps i < n) ∧ ∀ a b, (a, b) ∈ es → ps a < ps b
theorem natL {K : PySem.W.Frag} {H : Hp} : ∀ ls : List Nat, DeepAll K H (ls.map fun i : Nat => V.int i) (ls.map fun i : Nat => PyData.int i)
  | [] => .nil
  | _ :: r => .cons (.int _) (natL r)
theorem natL_depth (ls : List Nat) : (PyData.list (ls.map fun i : Nat => PyData.int i)).depth ≤ 32 := by
  have : PyData.depthAll (ls.map fun i : Nat => PyData.int i) ≤ 8 := by
    induction ls with
    | nil => exact Nat.zero_le _
    | cons w ws ih => exact Nat.max_le.mpr ⟨Nat.zero_le _, ih⟩
  show PyData.depthAll _ + 1 ≤ 32
  omega
def sp_law_due (K : PySem.W.Frag) : Sp := fun vs H Q _ => ∃ (v : V) (ws : List Wk) (es : List Ln), vs = [v] ∧ ShV K H v ws es ∧ ShOk ws es ∧ es.length ≤ 64 ∧ Rnk ws.length es ∧ ∀ (f l : Nat → Int) (u : V) (H' : Hp), Same H H' → WinI ws es f l → Deep K H' u (resM ws f l) → Q u H'
theorem wk_depth (ws : List Wk) : (PyData.list (ws.map dWk)).depth ≤ 32 := by
  have : PyData.depthAll (ws.map dWk) ≤ 8 := by
    induction ws with
    | nil => exact Nat.zero_le _
    | cons w ws ih => exact Nat.max_le.mpr ⟨(by show max 0 (max 0 (max (max 0 (max 0 0) + 1) 0)) + 1 ≤ 8; decide), ih⟩
  show PyData.depthAll (ws.map dWk) + 1 ≤ 32
  omega
theorem wk_lay (ws : List Wk) : (PyData.list (ws.map dWk)).canLay0 = true := layAll_of fun d hd => by
  obtain ⟨w, _, rfl⟩ := List.mem_map.mp hd
  rfl
def sp_law_works (K : PySem.W.Frag) : Sp := fun vs H Q _ => ∃ (t s : Addr) (m e : Nat), vs = [.ref t, .int m, .int e] ∧ Tape H t s ∧ m ≤ 19 ∧ 1 ≤ e ∧ e ≤ 24 ∧ ∀ (v : V) (ws : List Wk) (H' : Hp), Step t H H' → Tape H' t s → WksV K H' v ws → ws.length ≤ m → (∀ w ∈ ws, WkB w) → Q v H'
theorem cut_upto {xs : List V} (n : Nat) : cutV xs none (some (n : Int)) = xs.take (min n xs.length) := by
  unfold cutV
  rw [HT.sIx_nat, HT.sIx_none, Nat.sub_zero, List.drop_zero]
theorem rnk_of {n : Nat} {os : List Nat} (nd : os.Nodup) (hl : os.length = n) (all : ∀ x, x ∈ os ↔ x < n) : ∃ ps : Nat → Nat, (∀ i, i < n → ps i < n) ∧ ∀ j x, os[j]? = some x → ps x = j := by
  have h : ∀ x, ∃ j : Nat, x ∈ os → os[j]? = some x := fun x => by
    by_cases m : x ∈ os
    · obtain ⟨j, hj, e⟩ := List.mem_iff_getElem.mp m
      exact ⟨j, fun _ => by rw [List.getElem?_eq_getElem hj, e]⟩
    · exact ⟨0, fun z => absurd z m⟩
  refine ⟨fun x => Classical.choose (h x), fun i hi => ?_, fun j x e => ?_⟩
  · have := Classical.choose_spec (h i) ((all i).mpr hi)
    rw [← hl]
    exact (List.getElem?_eq_some_iff.mp this).1
  · have q := Classical.choose_spec (h x) (List.mem_of_getElem? e)
    obtain ⟨h1, e1⟩ := List.getElem?_eq_some_iff.mp q
    obtain ⟨h2, e2⟩ := List.getElem?_eq_some_iff.mp e
    have pw := List.pairwise_iff_getElem.mp nd
    rcases Nat.lt_trichotomy (Classical.choose (h x)) j with z | z | z
    · exact absurd (e1.trans e2.symm) (pw _ _ h1 h2 z)
    · exact z
    · exact absurd (e2.trans e1.symm) (pw _ _ h2 h1 z)
def natW (ls : List Nat) : List V := ls.map fun n : Nat => V.int n
theorem Als.takeI {α : Type} {P : V → α → Prop} : ∀ {xs : List V} {ds : List α} (n : Nat), Als P xs ds → Als P (xs.take n) (ds.take n)
  | _, _, 0, _ => by rw [List.take_zero, List.take_zero]; exact .nil
  | _, _, n + 1, .nil => by rw [List.take_nil, List.take_nil]; exact .nil
  | _, _, n + 1, .cons h t => .cons h (Als.takeI n t)
def sp_law_leans (K : PySem.W.Frag) : Sp := fun vs H Q _ => ∃ (t s : Addr) (n : Nat), vs = [.ref t, .int n] ∧ Tape H t s ∧ n ≤ 20 ∧ ∀ (v : V) (es : List Ln) (H' : Hp), Step t H H' → Tape H' t s → LnsV K H' v es → EsOk n es → Rnk n es → es.length ≤ 40 → Q v H'
def colI (n : Nat) (F : Nat → Int) : List V := (List.range n).map fun i => V.int (F i)
theorem colI_len (n : Nat) (F : Nat → Int) : (colI n F).length = n := by unfold colI; rw [List.length_map, List.length_range]
theorem colI_at {n : Nat} {F : Nat → Int} {j : Nat} (h : j < n) : (colI n F)[j]? = some (.int (F j)) := by
  unfold colI
  rw [List.getElem?_map, List.getElem?_range h]
  rfl
theorem colI_set {n : Nat} {F : Nat → Int} {j : Nat} {x : Int} (h : j < n) : (colI n F).set j (.int x) = colI n fun i => if i = j then x else F i := by
  apply List.ext_getElem?
  intro i
  by_cases hi : i < n
  · rw [colI_at hi]
    by_cases c : i = j
    · subst c
      rw [List.getElem?_set_self (by rw [colI_len]; exact h), if_pos rfl]
    · rw [List.getElem?_set_ne (fun z => c z.symm), colI_at hi, if_neg c]
  · rw [List.getElem?_eq_none (by rw [List.length_set, colI_len]; omega), List.getElem?_eq_none (by rw [colI_len]; omega)]
def dLns (es : List Ln) : PyData := .tuple (es.map fun e => .tuple [.int (e.1 : Nat), .int (e.2 : Nat)])
theorem LnsV.deep {K : PySem.W.Frag} {H : Hp} {v : V} {es : List Ln} (h : LnsV K H v es) : Deep K H v (dLns es) := by
  obtain ⟨p, xs, rfl, hS, al⟩ := h
  exact .tup hS (al.deep fun _ _ q => by obtain ⟨p, rfl, s⟩ := q; exact .tup s (.cons (.int _) (.cons (.int _) .nil)))
theorem ShV.deep {K : PySem.W.Frag} {H : Hp} {v : V} {ws : List Wk} {es : List Ln} (h : ShV K H v ws es) : Deep K H v (.tuple [dWks ws, dLns es]) := by
  obtain ⟨p, a, b, rfl, hS, wv, lv⟩ := h
  exact .tup hS (.cons wv.deep (.cons lv.deep .nil))
theorem small24 {n : Nat} (h : n < 24) : ((n : Int)).natAbs < 2 ^ 230 := Nat.lt_of_lt_of_le (show ((n : Int)).natAbs < 2 ^ 5 by show _ < 32; omega) (Nat.pow_le_pow_right (by decide) (by decide))
theorem gd_am {r : R} (h : Wf 98 r) : Gd 1 5000 (dR r) := gd_dR (h.mono (by decide))
theorem gd_three {x y : Int} {r : R} (hx : x.natAbs < 2 ^ 230) (hy : y.natAbs < 2 ^ 230) (hr : Wf 98 r) : Gd 2 20000 (.tuple [.int x, .int y, dR r]) := Gd.tup (m := 3) (n := 5000) (fun d hd => by
  simp only [List.mem_cons, List.not_mem_nil, or_false] at hd
  rcases hd with rfl | rfl | rfl
  · exact (gd_int hx).mono (by decide) (by decide)
  · exact (gd_int hy).mono (by decide) (by decide)
  · exact gd_am hr) (Nat.le_refl _) (by decide)
theorem gd_works {ws : List Wk} (ok : ∀ w ∈ ws, WkB w) (hl : ws.length ≤ 20) : Gd 3 500000 (dWks ws) := Gd.tup (m := 20) (n := 20000) (fun d hd => by
  obtain ⟨w, hw, rfl⟩ := List.mem_map.mp hd
  have o := ok w hw
  exact gd_three (small24 o.l1) (small24 o.l2) o.am) (by rw [List.length_map]; exact hl) (by decide)
theorem gd_leans {n : Nat} {es : List Ln} (ok : EsOk n es) (hn : n ≤ 20) (hl : es.length ≤ 64) : Gd 3 900000 (dLns es) := (Gd.tup (m := 64) (n := 12000) (k := 1) (N := 800000) (fun d hd => by
  obtain ⟨e, he, rfl⟩ := List.mem_map.mp hd
  have o := ok e he
  exact Gd.tup (m := 2) (n := 5000) (k := 0) (fun d hd => by
    simp only [List.mem_cons, List.not_mem_nil, or_false] at hd
    rcases hd with rfl | rfl
    · exact gd_int (small24 (by omega))
    · exact gd_int (small24 (by omega))) (Nat.le_refl _) (by decide)) (by rw [List.length_map]; exact hl) (by decide)).mono (by decide) (by decide)
theorem gd_sheet {ws : List Wk} {es : List Ln} (ok : ShOk ws es) (hl : es.length ≤ 64) : Shows (.tuple [dWks ws, dLns es]) :=
  (Gd.tup (m := 2) (n := 900000) (k := 3) (N := 2000000) (fun d hd => by
    simp only [List.mem_cons, List.not_mem_nil, or_false] at hd
    rcases hd with rfl | rfl
    · exact (gd_works ok.ok ok.few).mono (by decide) (by decide)
    · exact gd_leans ok.es ok.few hl) (Nat.le_refl _) (by decide)).sh.shows (by decide) (by decide)
theorem gd_res {ws : List Wk} {es : List Ln} {f l : Nat → Int} (ok : ShOk ws es) (win : WinI ws es f l) : Shows (resM ws f l) := by
  have few := ok.few
  have wb : ∀ j, j < ws.length → WkB (ws.getD j wk0) := fun j hj => by rw [getD_of wk0 (List.getElem?_eq_getElem hj)]; exact ok.ok _ (List.getElem_mem hj)
  have g : Gd 3 600000 (resM ws f l) := by
    unfold resM
    cases c : badM ws.length f l with
    | some i =>
      have : i < ws.length := List.mem_range.mp (List.mem_of_find?_eq_some c)
      exact (gd_int (small24 (by omega))).mono (by decide) (by decide)
    | none =>
      refine Gd.tup (m := 20) (n := 20000) (fun d hd => ?_) (by rw [List.length_map, List.length_range]; exact few) (by decide)
      obtain ⟨i, hi, rfl⟩ := List.mem_map.mp hd
      have hi' := List.mem_range.mp hi
      obtain ⟨j, hj, _, e⟩ := win.a.att i hi'
      obtain ⟨j2, hj2, _, e2⟩ := win.b.att i hi'
      have e2' : - l i = -((ws.getD j2 wk0).2.1 : Int) := e2
      have e2'' : l i = ((ws.getD j2 wk0).2.1 : Nat) := by omega
      unfold dDr
      rw [e, e2'']
      exact gd_three (small24 (wb j hj).l1) (small24 (wb j2 hj2).l2) (wb i hi').am
  exact g.sh.shows (by decide) (by decide)
def sp_law (K : PySem.W.Frag) : Sp := fun vs H Q _ => ∃ (a : Addr) (ns : List Int), vs = [.ref a] ∧ SqL K H a (ns.map V.int) ∧ ns.length ≤ 63 ∧ ∀ H', Q (.bl true) H'
theorem sc_copied : FnScope ["thing"] ["thing"] (defScope s_copied) := ⟨rfl, rfl, rfl, by decide +kernel, rfl, by decide +kernel, by decide +kernel⟩
theorem sc_no_leanings : FnScope ["count"] ["count"] (defScope s_no_leanings) := ⟨rfl, rfl, rfl, by decide +kernel, rfl, by decide +kernel, by decide +kernel⟩
theorem sc_add_lean : FnScope ["leanings", "lean", "ahead", "behind", "numbers", "bases", "leaners", "leaner", "base"] ["leanings", "lean"] (defScope s_add_lean) := ⟨rfl, rfl, rfl, by decide +kernel, rfl, by decide +kernel, by decide +kernel⟩
theorem sc_all_leanings : FnScope ["count", "leans", "leanings", "lean"] ["count", "leans"] (defScope s_all_leanings) := ⟨rfl, rfl, rfl, by decide +kernel, rfl, by decide +kernel, by decide +kernel⟩
theorem sc_drawn_in : FnScope ["sheet", "works", "leanings", "drawn", "number", "work", "firsts", "lasts", "first", "last"] ["sheet"] (defScope s_drawn_in) := ⟨rfl, rfl, rfl, by decide +kernel, rfl, by decide +kernel, by decide +kernel⟩
theorem sc_law_tape : FnScope ["_law_script"] ["_law_script"] (defScope s_law_tape) := ⟨rfl, rfl, rfl, by decide +kernel, rfl, by decide +kernel, by decide +kernel⟩
theorem sc_law_draw : FnScope ["_law_tape_here", "_law_many", "_law_script", "_law_spot", "_law_left", "_law_cell", "_law_mixed"] ["_law_tape_here", "_law_many"] (defScope s_law_draw) := ⟨rfl, rfl, rfl, by decide +kernel, rfl, by decide +kernel, by decide +kernel⟩
theorem sc_law_gcd : FnScope ["_law_one", "_law_other"] ["_law_one", "_law_other"] (defScope s_law_gcd) := ⟨rfl, rfl, rfl, by decide +kernel, rfl, by decide +kernel, by decide +kernel⟩
theorem sc_law_ratio : FnScope ["_law_top", "_law_bottom", "_law_by"] ["_law_top", "_law_bottom"] (defScope s_law_ratio) := ⟨rfl, rfl, rfl, by decide +kernel, rfl, by decide +kernel, by decide +kernel⟩
theorem sc_law_part : FnScope ["_law_tape_here", "_law_tops", "_law_bottoms"] ["_law_tape_here"] (defScope s_law_part) := ⟨rfl, rfl, rfl, by decide +kernel, rfl, by decide +kernel, by decide +kernel⟩
theorem sc_law_works : FnScope ["_law_tape_here", "_law_most", "_law_end", "_law_found", "_law_k", "_law_first", "_law_last"] ["_law_tape_here", "_law_most", "_law_end"] (defScope s_law_works) := ⟨rfl, rfl, rfl, by decide +kernel, rfl, by decide +kernel, by decide +kernel⟩
theorem sc_law_leans : FnScope ["_law_tape_here", "_law_many", "_law_order", "_law_number", "_law_found", "_law_k", "_law_at", "_law_to"] ["_law_tape_here", "_law_many"] (defScope s_law_leans) := ⟨rfl, rfl, rfl, by decide +kernel, rfl, by decide +kernel, by decide +kernel⟩
theorem sc_law_due : FnScope ["_law_sheet", "_law_firsts", "_law_lasts", "_law_turn", "_law_one", "_law_other", "_law_none"] ["_law_sheet"] (defScope s_law_due) := ⟨rfl, rfl, rfl, by decide +kernel, rfl, by decide +kernel, by decide +kernel⟩
theorem sc_law_told : FnScope ["_law_sheet", "_law_found", "e"] ["_law_sheet"] (defScope s_law_told) := ⟨rfl, rfl, rfl, by decide +kernel, rfl, by decide +kernel, by decide +kernel⟩
theorem sc_law : FnScope ["_law_script", "_law_tape_here", "_law_k", "_law_works_here", "_law_sheet", "_law_kept"] ["_law_script"] (defScope s_law) := ⟨rfl, rfl, rfl, by decide +kernel, rfl, by decide +kernel, by decide +kernel⟩
theorem sc_NoRoom : FnScope ["self", "work"] ["self", "work"] (defScope s_NoRoom) := ⟨rfl, rfl, rfl, by decide +kernel, rfl, by decide +kernel, by decide +kernel⟩
end My
namespace My
open PySem L2 B PyProof.Rows
section
variable {P : Program} {w : World} {K : PySem.W.Frag} {mg : Str → Option Value} {base : Heap} {t : Ad}
theorem ok_copied (T : Txt K mg t) : FnOk P w K mg base CX0 1 t.a_copied t.d_copied ["thing"] (sp_copied K) := by
  refine T.F_copied.ok sc_copied (fun vs H Q E h => ?_) (fun cdv A outer s H vs Q E hr h => ?_)
  · obtain ⟨_, rfl, _⟩ := h; rfl
  obtain ⟨i, rfl, k⟩ := h
  refine QSs.ok (qss_cons (qs_if (qt_val (qe_callB call_isi (by rfl) T.z_isinstance PyProof.Rows.boot_isinstance (qa_cons (qv 0) (qa_cons (qe_bltn (v := V.ty "list") rfl T.z_list PyProof.Rows.boot_list rfl) qa_nil star_name) star_name))) (qss_one qs_never) qss_nil)
      (qss_cons (qs_if (qt_val (qe_callB call_isi (by rfl) T.z_isinstance PyProof.Rows.boot_isinstance (qa_cons (qv 0) (qa_cons (qe_bltn (v := V.ty "tuple") rfl T.z_tuple PyProof.Rows.boot_tuple rfl) qa_nil star_name) star_name))) (qss_one qs_never) qss_nil)
      (qss_one (qs_ret (qv 0))))) ?_
  refine ⟨_, rfl, _, _, "int", false, rfl, .int i, by decide +kernel, false, rfl, iteF ?_⟩
  refine ⟨_, rfl, _, _, "int", false, rfl, .int i, by decide +kernel, false, rfl, iteF ?_⟩
  exact ⟨_, rfl, k⟩
theorem ok_no_leanings (T : Txt K mg t) : FnOk P w K mg base CX0 1 t.a_no_leanings t.d_no_leanings ["count"] (sp_no_leanings K) := by
  refine T.F_no_leanings.ok sc_no_leanings (fun vs H Q E h => ?_) (fun cdv A outer s H vs Q E hr h => ?_)
  · obtain ⟨_, rfl, _⟩ := h; rfl
  obtain ⟨n, rfl, hn, k⟩ := h
  refine QSs.ok (qss_one (qs_ret (qe_lcomp (N' := ["work", "count"]) (src := [none, some 0]) rfl (by exact (qi_range1 rfl T.z_range (qa_cons (qv 0) qa_nil star_name))) (fun _ _ _ _ _ => (by exact (by exact qg_name (i := 0) (by show List.Nodup (["work", "count"] : List Str); decide +kernel) (by exact rfl) (by first | exact Or.inl rfl | exact Or.inr rfl)))) (fun _ _ _ _ _ => qts_nil) (fun _ _ _ _ _ => (by exact (by exact (qe_op op_repL (by exact (qe_lst (qa_cons qe_bl qa_nil star_con))) (by exact (qv 1)))))) (by exact ⟨rfl, rfl, rfl, rfl, trivial⟩) rfl (by decide +kernel) rfl (by decide +kernel) (by exact cells_of rfl ⟨rfl, trivial⟩)))) ?_
  refine ⟨_, rfl, n, rfl, by omega, by omega, fun D hD => comp_own (J := Itr 0 n) (n := n) (fun i ys H' => ∃ rows : List Addr, ys = rows.map V.ref ∧ rows.length = i ∧ rows.Nodup ∧ D ∉ rows ∧ (∀ r ∈ rows, H r = none) ∧ Same H H' ∧ H' D = some (.lst ys) ∧ ∀ r ∈ rows, H' r = some (.lst (rowB n fun _ => false))) ⟨[], rfl, rfl, List.nodup_nil, (fun z => by cases z), (fun r hr => by cases hr), same_new hD _, upd_same, fun r hr => by cases hr⟩ (fun i ys H' hi _ => hi) (fun ys H' ⟨rows, e1, e2, e3, e4, e5, e6, e7, e8⟩ => ⟨Nat.le_refl _, k D rows H' e6 hD e5 ⟨by rw [e7, e1], e2, e3, e4, fun i r e => e8 r (List.mem_of_getElem? e)⟩⟩) ?_⟩
  rintro i ys H1 x H2 hi ⟨rows, rfl, e2, e3, e4, e5, e6, e7, e8⟩ ⟨rfl, rfl⟩ R E kR kE
  refine ⟨Ext.set rfl, ?_⟩
  refine ⟨(by show 1 ≤ sizeLine; decide), fun q hq => ?_⟩
  have s1 := same_new hq (.lst [.bl false])
  refine ⟨_, rfl, q, .bl false, n, rfl, rfl, upd_same, by omega, fun r hr => ?_⟩
  have s2 := same_new hr (.lst (List.replicate n (.bl false)))
  have s12 := s1.trans s2
  have nr : r ∉ rows := fun m => by rw [s1 _ _ (e8 r m)] at hr; cases hr
  have nD : r ≠ D := fun z => by subst z; rw [s1 _ _ e7] at hr; cases hr
  have er : List.replicate n (V.bl false) = rowB n fun _ => false := by
    unfold rowB
    apply List.ext_getElem?
    intro j
    rw [List.getElem?_replicate, List.getElem?_map]
    by_cases c : j < n
    · rw [if_pos c, List.getElem?_range c]; rfl
    · rw [if_neg c, List.getElem?_eq_none (by rw [List.length_range]; omega)]; rfl
  have hD4 := s12 _ _ e7
  refine kR (.ref r) _ hD4 (small1000 (by rw [List.length_map]; omega)) ⟨rows ++ [r], by rw [List.map_append]; rfl, by rw [List.length_append, e2]; rfl, ?_, ?_, fun z hz => ?_, fun b o q => ?_, upd_same, fun z hz => ?_⟩
  · rw [List.nodup_append]
    exact ⟨e3, List.nodup_cons.mpr ⟨(fun z => by cases z), List.nodup_nil⟩, fun a ha b hb => by rw [List.mem_singleton.mp hb]; exact fun z => nr (by rw [← z]; exact ha)⟩
  · intro m
    rcases List.mem_append.mp m with z | z
    · exact e4 z
    · exact nD (List.mem_singleton.mp z).symm
  · rcases List.mem_append.mp hz with y | y
    · exact e5 z y
    · rw [List.mem_singleton.mp y]
      cases c : H r with
      | none => rfl
      | some o => rw [s1 _ _ (e6 _ _ c)] at hr; cases hr
  · rw [upd_ne (ne_of_none q hD)]
    exact s12 _ _ (e6 _ _ q)
  · rcases List.mem_append.mp hz with y | y
    · rw [upd_ne (show z ≠ D from fun w => e4 (by rw [← w]; exact y))]
      exact s12 _ _ (e8 z y)
    · rw [List.mem_singleton.mp y, upd_ne nD, upd_same, er]
theorem ok_add_lean (T : Txt K mg t) : FnOk P w K mg base CX0 1 t.a_add_lean t.d_add_lean ["leanings", "lean"] (sp_add_lean K) := by
  refine T.F_add_lean.ok sc_add_lean (fun vs H Q E h => ?_) (fun cdv A outer s H vs Q E hr h => ?_)
  · obtain ⟨_, _, _, _, _, _, _, rfl, _⟩ := h; rfl
  obtain ⟨l, v, rows, n, L, a, b, rfl, m0, ⟨p, rfl, hp⟩, ha, hb, hn, k⟩ := h
  refine QSs.ok (qss_cons (qs_set (i := 2) sc_add_lean.nd rfl (by first | exact Or.inl rfl | exact Or.inr rfl) (qe_ix ix_tup (qv 1) qe_int (fun _ _ => rfl)))
      (qss_cons (qs_set (i := 3) sc_add_lean.nd rfl (by first | exact Or.inl rfl | exact Or.inr rfl) (qe_ix ix_tup (qv 1) qe_int (fun _ _ => rfl)))
      (qss_cons (qs_set (i := 4) sc_add_lean.nd rfl (by first | exact Or.inl rfl | exact Or.inr rfl) (qe_callTy (call_listR rfl) (by rfl) T.z_list PyProof.Rows.boot_list (qa_cons (qe_rng1 rfl T.z_range (qa_cons (qe_callB call_len_seq (by rfl) T.z_len PySem.boot_len (qa_cons (qv 0) qa_nil star_name)) qa_nil star_call)) qa_nil star_call)))
      (qss_cons (qs_setC (i := 5) (N' := ["work", "ahead", "leanings"]) (src := [none, some 2, some 0]) sc_add_lean.nd rfl (by first | exact Or.inl rfl | exact Or.inr rfl) rfl (by exact (qi_list (qv 4))) (fun _ _ _ _ _ => (by exact (by exact qg_name (i := 0) (by show List.Nodup (["work", "ahead", "leanings"] : List Str); decide +kernel) (by exact rfl) (by first | exact Or.inl rfl | exact Or.inr rfl)))) (fun _ _ _ _ _ => (qts_one (qw_pt (qw_or (qt_cmpR op_eq (by exact (qv 0)) (by exact (qv 1)) (nomark _)) (qw_or1 (qt_val (by exact (qe_ix (ix_listK (K := K) (by exact rfl)) (by exact (qe_ix (ix_listK (K := K) (by exact rfl)) (by exact (qv 2)) (by exact (qv 1)) (by exact fun _ _ => rfl))) (by exact (qv 0)) (by exact fun _ _ => rfl))))))))) (fun _ _ _ _ _ => (by exact (by exact (qv 0)))) (by exact ⟨rfl, rfl, rfl, rfl, ⟨rfl, rfl, rfl, rfl, trivial⟩⟩) rfl (by decide +kernel) rfl (by decide +kernel) (by exact cells_of rfl ⟨rfl, ⟨rfl, trivial⟩⟩))
      (qss_cons (qs_setC (i := 6) (N' := ["work", "behind", "leanings"]) (src := [none, some 3, some 0]) sc_add_lean.nd rfl (by first | exact Or.inl rfl | exact Or.inr rfl) rfl (by exact (qi_list (qv 4))) (fun _ _ _ _ _ => (by exact (by exact qg_name (i := 0) (by show List.Nodup (["work", "behind", "leanings"] : List Str); decide +kernel) (by exact rfl) (by first | exact Or.inl rfl | exact Or.inr rfl)))) (fun _ _ _ _ _ => (qts_one (qw_pt (qw_or (qt_cmpR op_eq (by exact (qv 0)) (by exact (qv 1)) (nomark _)) (qw_or1 (qt_val (by exact (qe_ix (ix_listK (K := K) (by exact rfl)) (by exact (qe_ix (ix_listK (K := K) (by exact rfl)) (by exact (qv 2)) (by exact (qv 0)) (by exact fun _ _ => rfl))) (by exact (qv 1)) (by exact fun _ _ => rfl))))))))) (fun _ _ _ _ _ => (by exact (by exact (qv 0)))) (by exact ⟨rfl, rfl, rfl, rfl, ⟨rfl, rfl, rfl, rfl, trivial⟩⟩) rfl (by decide +kernel) rfl (by decide +kernel) (by exact cells_of rfl ⟨rfl, ⟨rfl, trivial⟩⟩))
      (qss_one (qs_for PassesOwn.never rfl (qi_list (qv 6)) (qg_name (i := 7) sc_add_lean.nd rfl (by first | exact Or.inl rfl | exact Or.inr rfl))
      (qss_one (qs_for PassesOwn.never rfl (qi_list (qv 5)) (qg_name (i := 8) sc_add_lean.nd rfl (by first | exact Or.inl rfl | exact Or.inr rfl))
      (qss_one (qs_asg qe_bl (qg_sub (qe_ix ix_list (qv 0) (qv 7) (fun _ _ => rfl)) (qv 8) set_list)))))))))))) ?_
  refine ⟨_, rfl, p, _, _, _, rfl, rfl, hp, rfl, ?_⟩
  refine ⟨_, rfl, p, _, _, _, rfl, rfl, hp, rfl, ?_⟩
  have lr : (rows.map V.ref).length = n := by rw [List.length_map]; exact m0.len
  refine ⟨_, rfl, l, _, rfl, .inl (SqL.of m0.top), _, rfl, fun pr hpr => ?_⟩
  rw [lr]
  have s1 := same_new hpr (.rng 0 n)
  refine ⟨pr, n, rfl, upd_same, by omega, fun q hq => ?_⟩
  have s2 := same_new hq (.lst ((B.upTo n).map V.int))
  have hq2 : upd (upd H pr (.rng 0 n)) q (.lst ((B.upTo n).map V.int)) q = some (.lst ((B.upTo n).map V.int)) := upd_same
  have s12 := s1.trans s2
  generalize upd (upd H pr (.rng 0 n)) q (.lst ((B.upTo n).map V.int)) = H2 at hq2 s12 ⊢
  have lu : ((B.upTo n).map V.int).length = n := by unfold B.upTo; rw [List.length_map, List.length_map, List.length_range]
  have m2 := m0.same s12
  refine ⟨_, rfl, q, rfl, ⟨_, SqL.of hq2⟩, fun D1 hD1 => comp_ix (wlk_lst (SqL.of hq2)) (fun i => decide (i = a) || L a i) (fun i => V.int (i : Nat)) hD1 (by rw [lu]; omega) (fun i x H' hi s' hx R E kR kE => ?_) fun H3 s3 h3 => ?_⟩
  · have hin : i < n := by rw [lu] at hi; exact hi
    have hxn : x = V.int (i : Nat) := by
      rw [List.getElem?_map] at hx
      unfold B.upTo at hx
      rw [List.getElem?_map, List.getElem?_range hin] at hx
      exact (Option.some.inj hx).symm
    subst hxn
    have Ms := m2.same s'
    refine ⟨Ext.set rfl, ?_⟩
    refine ⟨_, rfl, _, rfl, rfl, _, rfl, ?_⟩
    by_cases c : i = a
    · refine iteD1 (by rw [c]) (iteT ?_)
      exact ⟨_, rfl, kR (by rw [decide_eq_true c]; rfl) _ (Same.refl _)⟩
    · refine iteD0 (fun z => c (by injection z with z; omega)) ?_
      obtain ⟨rr, hrr⟩ : ∃ r, rows[a]? = some r := ⟨_, List.getElem?_eq_getElem (by rw [m0.len]; omega)⟩
      refine ⟨_, rfl, _, rfl, l, _, _, _, rfl, rfl, SqL.of Ms.top, atI_nat (v := V.ref rr) (by rw [List.getElem?_map, hrr]; rfl), _, rfl, rr, _, _, _, rfl, rfl, SqL.of (Ms.row _ _ hrr), atI_nat (rowB_at (by omega)), _, rfl, ?_⟩
      cases cl : L a i with
      | true => exact iteT ⟨_, rfl, kR (by rw [cl, Bool.or_true]) _ (Same.refl _)⟩
      | false => exact iteF (kE (by rw [decide_eq_false c, cl]; rfl) _ (Same.refl _))
  rw [lu] at h3
  have hq3 := s3 _ _ hq2
  have m3 := m2.same s3
  refine ⟨_, rfl, q, rfl, ⟨_, SqL.of hq3⟩, fun D2 hD2 => comp_ix (wlk_lst (SqL.of hq3)) (fun i => decide (i = b) || L i b) (fun i => V.int (i : Nat)) hD2 (by rw [lu]; omega) (fun i x H' hi s' hx R E kR kE => ?_) fun H4 s4 h4 => ?_⟩
  · have hin : i < n := by rw [lu] at hi; exact hi
    have hxn : x = V.int (i : Nat) := by
      rw [List.getElem?_map] at hx
      unfold B.upTo at hx
      rw [List.getElem?_map, List.getElem?_range hin] at hx
      exact (Option.some.inj hx).symm
    subst hxn
    have Ms := m3.same s'
    refine ⟨Ext.set rfl, ?_⟩
    refine ⟨_, rfl, _, rfl, rfl, _, rfl, ?_⟩
    by_cases c : i = b
    · refine iteD1 (by rw [c]) (iteT ?_)
      exact ⟨_, rfl, kR (by rw [decide_eq_true c]; rfl) _ (Same.refl _)⟩
    · refine iteD0 (fun z => c (by injection z with z; omega)) ?_
      obtain ⟨rr, hrr⟩ : ∃ r, rows[i]? = some r := ⟨_, List.getElem?_eq_getElem (by rw [m0.len]; omega)⟩
      refine ⟨_, rfl, _, rfl, l, _, _, _, rfl, rfl, SqL.of Ms.top, atI_nat (v := V.ref rr) (by rw [List.getElem?_map, hrr]; rfl), _, rfl, rr, _, _, _, rfl, rfl, SqL.of (Ms.row _ _ hrr), atI_nat (rowB_at (by omega)), _, rfl, ?_⟩
      cases cl : L i b with
      | true => exact iteT ⟨_, rfl, kR (by rw [cl, Bool.or_true]) _ (Same.refl _)⟩
      | false => exact iteF (kE (by rw [decide_eq_false c, cl]; rfl) _ (Same.refl _))
  rw [lu] at h4
  have h3' := s4 _ _ h3
  have m4 := m3.same s4
  have s04 := (s12.trans s3).trans s4
  have nD : ∀ r ∈ rows, H r ≠ none := fun r hr z => by obtain ⟨xs, e⟩ := m0.ls r hr; rw [e] at z; cases z
  have n1 : D1 ∉ rows := fun z => by obtain ⟨xs, e⟩ := m2.ls _ z; rw [hD1] at e; cases e
  have n2 : D2 ∉ rows := fun z => by obtain ⟨xs, e⟩ := m3.ls _ z; rw [hD2] at e; cases e
  generalize hbs : (List.range n).filter (fun i => decide (i = a) || L a i) = bs at h3'
  generalize hls : (List.range n).filter (fun i => decide (i = b) || L i b) = lns at h4
  have bsI : ∀ j, j ∈ bs ↔ j < n ∧ (decide (j = a) || L a j) = true := fun j => by rw [← hbs, List.mem_filter, List.mem_range]
  have lnI : ∀ j, j ∈ lns ↔ j < n ∧ (decide (j = b) || L j b) = true := fun j => by rw [← hls, List.mem_filter, List.mem_range]
  refine ⟨_, rfl, D2, rfl, ⟨_, SqL.of h4⟩, for_list (K := K) (a := D2) (xs := lns.map fun i => V.int (i : Nat)) (fun i σ H' => ∃ x7 x8 : Option V, σ = [some (.ref l), some (.ref p), some (.int (a : Nat)), some (.int (b : Nat)), some (.ref q), some (.ref D1), some (.ref D2), x7, x8] ∧ Kp rows H4 H' ∧ Mtx H' l rows n (fun u w => L u w || ((lns.take i).contains u && bs.contains w))) ⟨none, none, rfl, Kp.same (Same.refl _) m4.ls, m4.congr fun i j _ _ => by rw [List.take_zero]; simp⟩ (fun i σ H' _ ⟨_, _, _, kp, _⟩ => SqL.of (kp.keep _ _ n2 h4)) ?_ ?_⟩
  · rintro i x σ H5 hx ⟨x7, x8, rfl, kp5, m5⟩
    rw [List.getElem?_map] at hx
    obtain ⟨u, hu, rfl⟩ := Option.map_eq_some_iff.mp hx
    have hun := ((lnI u).mp (List.mem_of_getElem? hu)).1
    obtain ⟨rr, hrr⟩ : ∃ r, rows[u]? = some r := ⟨_, List.getElem?_eq_getElem (by rw [m0.len]; omega)⟩
    have h35 := kp5.keep _ _ n1 h3'
    refine ⟨_, rfl, D1, rfl, ⟨_, SqL.of h35⟩, for_list (K := K) (a := D1) (xs := bs.map fun i => V.int (i : Nat)) (fun j σ H' => ∃ x8 : Option V, σ = [some (.ref l), some (.ref p), some (.int (a : Nat)), some (.int (b : Nat)), some (.ref q), some (.ref D1), some (.ref D2), some (.int (u : Nat)), x8] ∧ Kp rows H4 H' ∧ Mtx H' l rows n (fun u' w => (L u' w || ((lns.take i).contains u' && bs.contains w)) || (decide (u' = u) && (bs.take j).contains w))) ⟨_, rfl, kp5, m5.congr fun i j _ _ => by rw [List.take_zero]; simp⟩ (fun j σ H' _ ⟨_, _, kp, _⟩ => SqL.of (kp.keep _ _ n1 h3')) ?_ ?_⟩
    · rintro j y σ H6 hy ⟨x8, rfl, kp6, m6⟩
      rw [List.getElem?_map] at hy
      obtain ⟨w, hw, rfl⟩ := Option.map_eq_some_iff.mp hy
      have hwn := ((bsI w).mp (List.mem_of_getElem? hw)).1
      have row := m6.row _ _ hrr
      refine ⟨_, rfl, _, rfl, l, _, _, _, rfl, rfl, SqL.of m6.top, atI_nat (v := V.ref rr) (by rw [List.getElem?_map, hrr]; rfl), _, rfl, rr, _, _, w, rfl, rfl, row, ixN_nat (by rw [rowB_len]; exact hwn), ?_⟩
      refine ⟨_, rfl, kp6.trans (Kp.up (List.mem_of_getElem? hrr) m6.ls _), (m6.set hrr hwn).congr fun i' j' _ _ => ?_⟩
      rw [List.take_add_one, hw]
      show (_ || (decide (i' = u) && (bs.take j).contains j') || (decide (i' = u) && decide (j' = w))) = (_ || (decide (i' = u) && (bs.take j ++ [w]).contains j'))
      rw [show (bs.take j ++ [w]).contains j' = ((bs.take j).contains j' || decide (j' = w)) by simp [List.contains_eq_mem, Bool.decide_or], Bool.and_or_distrib_left, Bool.or_assoc]
    · rintro σ H6 ⟨x8, rfl, kp6, m6⟩
      refine ⟨_, _, rfl, kp6, m6.congr fun i' j' _ _ => ?_⟩
      rw [List.length_map, List.take_length, List.take_add_one, hu]
      show (L i' j' || ((lns.take i).contains i' && bs.contains j') || (decide (i' = u) && bs.contains j')) = (L i' j' || ((lns.take i ++ [u]).contains i' && bs.contains j'))
      rw [show (lns.take i ++ [u]).contains i' = ((lns.take i).contains i' || decide (i' = u)) by simp [List.contains_eq_mem, Bool.decide_or], Bool.and_or_distrib_right, Bool.or_assoc]
  · rintro σ H5 ⟨x7, x8, rfl, kp5, m5⟩
    rw [List.length_map, List.take_length] at m5
    refine k H5 ((Kp.same s04 m0.ls).trans kp5) (m5.congr fun i j hi hj => ?_)
    unfold addM
    congr 1
    have e1 : lns.contains i = (decide (i = b) || L i b) := by rw [Bool.eq_iff_iff, List.contains_iff_mem, lnI]; exact ⟨fun z => z.2, fun z => ⟨hi, z⟩⟩
    have e2 : bs.contains j = (decide (j = a) || L a j) := by rw [Bool.eq_iff_iff, List.contains_iff_mem, bsI]; exact ⟨fun z => z.2, fun z => ⟨hj, z⟩⟩
    rw [e1, e2]
theorem ok_all_leanings (T : Txt K mg t) : FnOk P w K mg base CX0 2 t.a_all_leanings t.d_all_leanings ["count", "leans"] (sp_all_leanings K) := by
  refine T.F_all_leanings.ok sc_all_leanings (fun vs H Q E h => ?_) (fun cdv A outer s H vs Q E hr h => ?_)
  · obtain ⟨_, _, _, rfl, _⟩ := h; rfl
  obtain ⟨n, v, es, rfl, ⟨p, xs, rfl, hS, al⟩, ok, hn, k⟩ := h
  refine QSs.ok (qss_cons (qs_set (i := 2) sc_all_leanings.nd rfl (by first | exact Or.inl rfl | exact Or.inr rfl) (qe_call (ok_no_leanings T) (hr.mono (by decide)) rfl T.m_no_leanings T.F_no_leanings.kp T.b_no_leanings .nil pass0 (qa_cons (qv 0) qa_nil star_name)))
      (qss_cons (qs_for PassesOwn.never rfl (qi_tup (qv 1)) (qg_name (i := 3) sc_all_leanings.nd rfl (by first | exact Or.inl rfl | exact Or.inr rfl))
      (qss_one (qs_expr (qe_call (ok_add_lean T) (hr.mono (by decide)) rfl T.m_add_lean T.F_add_lean.kp T.b_add_lean .nil pass0 (qa_cons (qv 2) (qa_cons (qv 3) qa_nil star_name) star_name)))))
      (qss_one (qs_ret (qv 2))))) ?_
  refine ⟨_, rfl, n, rfl, hn, fun l rows H1 s1 hl hr m1 => ?_⟩
  have hS1 := Tst.same (K := K) s1 _ _ hS
  have sm : ∀ H', Kp rows H1 H' → Same H H' := fun H' kp b o e => kp.keep b o (fun z => by rw [hr b z] at e; cases e) (s1 _ _ e)
  refine ⟨_, rfl, p, rfl, ⟨_, hS1⟩, for_tup (K := K) (a := p) (xs := xs) (fun i σ H' => ∃ (L : Nat → Nat → Bool) (x4 : Option V), σ = [some (.int n), some (.ref p), some (.ref l), x4] ∧ Kp rows H1 H' ∧ Mtx H' l rows n L ∧ Clo n (es.take i) L) ⟨_, none, rfl, Kp.same (Same.refl _) m1.ls, m1, by rw [List.take_zero]; exact clo_nil n⟩ (fun i σ H' _ ⟨_, _, _, kp, _⟩ => Tst.kp (K := K) kp _ _ hS1) ?_ ?_⟩
  · rintro i x σ H2 hx ⟨L, x4, rfl, kp2, m2, c2⟩
    obtain ⟨⟨a, b⟩, hd, lv⟩ := al.at hx
    have e := ok _ (List.mem_of_getElem? hd)
    refine ⟨_, rfl, _, rfl, l, x, rows, n, L, a, b, rfl, m2, (lv.mono (Tst.same s1)).mono (Tst.kp kp2), e.1, e.2, hn, fun H3 kp3 m3 => ?_⟩
    refine ⟨_, _, rfl, kp2.trans kp3, m3, ?_⟩
    rw [List.take_add_one, hd]
    exact clo_add (fun e he => ok e (List.mem_of_mem_take he)) c2 e.1 e.2
  · rintro σ H2 ⟨L, x4, rfl, kp2, m2, c2⟩
    rw [al.len, List.take_length] at c2
    exact ⟨_, rfl, k l rows L H2 (sm _ kp2) m2 c2⟩
theorem ok_law_tape (T : Txt K mg t) : FnOk P w K mg base CX0 1 t.a_law_tape t.d_law_tape ["_law_script"] (sp_law_tape K) := by
  refine T.F_law_tape.ok sc_law_tape (fun vs H Q E h => ?_) (fun cdv A outer s H vs Q E hr h => ?_)
  · obtain ⟨_, _, rfl, _⟩ := h; rfl
  obtain ⟨a, ns, rfl, hS, k⟩ := h
  refine QSs.ok (qss_one (qs_ret (qe_lst (qa_cons (qe_slice sl_list (qv 0) qo_none (qo_some qe_int)) (qa_cons qe_int (qa_cons qe_int (qa_cons qe_int qa_nil star_con) star_con) star_con) star_sub)))) ?_
  refine ⟨_, rfl, 63, rfl, a, _, rfl, hS, fun p hp => ⟨(by show 4 ≤ sizeLine; decide), fun t ht => ?_⟩⟩
  have npt : p ≠ t := fun z => by subst z; rw [upd_same] at ht; cases ht
  have h0 : H t = none := by rw [upd_ne npt.symm] at ht; exact ht
  refine k t p _ ((same_new hp _).trans (same_new ht _)) h0 hp ⟨ns.take (min 63 ns.length), 0, 0, 0, upd_same, ?_, npt, ?_, by decide, by decide, by decide⟩
  · rw [upd_ne npt, upd_same, cut63]
  · rw [List.length_take]; omega
theorem ok_law_draw (T : Txt K mg t) : FnOk P w K mg base CX0 1 t.a_law_draw t.d_law_draw ["_law_tape_here", "_law_many"] (sp_law_draw K) := by
  refine T.F_law_draw.ok sc_law_draw (fun vs H Q E h => ?_) (fun cdv A outer s H vs Q E hr h => ?_)
  · obtain ⟨_, _, _, rfl, _⟩ := h; rfl
  obtain ⟨t₁, s₁, m, rfl, tp, hm0, hm1, k⟩ := h
  obtain ⟨ns, p, q₀, r₀, ht, hs, hne, hlen, hp0, hq0, hr0⟩ := tp.ex
  refine QSs.ok (qss_cons (qs_set (i := 2) sc_law_draw.nd rfl (by first | exact Or.inl rfl | exact Or.inr rfl) (qe_ix ix_list (qv 0) qe_int (fun _ _ => rfl)))
      (qss_cons (qs_set (i := 3) sc_law_draw.nd rfl (by first | exact Or.inl rfl | exact Or.inr rfl) (qe_ix ix_list (qv 0) qe_int (fun _ _ => rfl)))
      (qss_cons (qs_asg (qe_op op_add (qv 3) qe_int) (qg_sub (qv 0) qe_int set_list))
      (qss_cons (qs_while PassesOwn.never (qw_pt (qw_and (qt_cmpR op_eq (qe_ix ix_list (qv 0) qe_int (fun _ _ => rfl)) qe_int (nomark _)) (qw_and1 (qt_cmpR op_lt (qe_ix ix_list (qv 0) qe_int (fun _ _ => rfl)) (qe_callB call_len_seq (by rfl) T.z_len PySem.boot_len (qa_cons (qv 2) qa_nil star_name)) (nomark _)))))
      (qss_cons (qs_if (qt_cmpR op_ge (qe_callB call_abs (by rfl) T.z_abs PyProof.Rows.boot_abs (qa_cons (qe_ix ix_list (qv 2) (qe_ix ix_list (qv 0) qe_int (fun _ _ => rfl)) (fun _ _ => rfl)) qa_nil star_sub)) (qe_op op_pow qe_int qe_int) (nomark _)) (qss_one (qs_asg (qe_callB call_abs (by rfl) T.z_abs PyProof.Rows.boot_abs (qa_cons (qe_ix ix_list (qv 2) (qe_ix ix_list (qv 0) qe_int (fun _ _ => rfl)) (fun _ _ => rfl)) qa_nil star_sub)) (qg_sub (qv 0) qe_int set_list))) qss_nil)
      (qss_one (qs_asg (qe_op op_add (qe_ix ix_list (qv 0) qe_int (fun _ _ => rfl)) qe_int) (qg_sub (qv 0) qe_int set_list)))))
      (qss_cons (qs_if (qt_cmpR op_gt (qe_ix ix_list (qv 0) qe_int (fun _ _ => rfl)) qe_int (nomark _)) (qss_cons (qs_set (i := 4) sc_law_draw.nd rfl (by first | exact Or.inl rfl | exact Or.inr rfl) (qe_ix ix_list (qv 0) qe_int (fun _ _ => rfl)))
      (qss_cons (qs_asg (qe_op op_fdiv (qv 4) (qv 1)) (qg_sub (qv 0) qe_int set_list))
      (qss_one (qs_ret (qe_op op_mod (qv 4) (qv 1)))))) qss_nil)
      (qss_cons (qs_set (i := 5) sc_law_draw.nd rfl (by first | exact Or.inl rfl | exact Or.inr rfl) qe_int)
      (qss_cons (qs_if (qt_cmpR op_gt (qe_callB call_len_seq (by rfl) T.z_len PySem.boot_len (qa_cons (qv 2) qa_nil star_name)) qe_int (nomark _)) (qss_one (qs_set (i := 5) sc_law_draw.nd rfl (by first | exact Or.inl rfl | exact Or.inr rfl) (qe_ix ix_list (qv 2) (qe_op op_mod (qv 3) (qe_callB call_len_seq (by rfl) T.z_len PySem.boot_len (qa_cons (qv 2) qa_nil star_name))) (fun _ _ => rfl)))) qss_nil)
      (qss_cons (qs_set (i := 6) sc_law_draw.nd rfl (by first | exact Or.inl rfl | exact Or.inr rfl) (qe_op op_mod (qe_op op_mul (qe_op op_add (qe_op op_mod (qv 5) qe_int) qe_int) (qe_op op_add (qe_op op_add (qe_op op_mul (qe_op op_mod (qv 3) qe_int) qe_int) qe_int) (qv 3))) qe_int))
      (qss_cons (qs_set (i := 6) sc_law_draw.nd rfl (by first | exact Or.inl rfl | exact Or.inr rfl) (qe_op op_mod (qe_op op_add (qe_op op_add (qe_op op_mul (qv 6) (qv 6)) (qe_op op_mul qe_int (qv 6))) (qv 3)) qe_int))
      (qss_one (qs_ret (qe_op op_mod (qe_op op_mod (qe_op op_mul (qv 6) qe_int) qe_int) (qv 1))))))))))))) ?_
  have tap : ∀ (q r : Int), 0 ≤ q → 0 ≤ r → Tape (upd H t₁ (.lst [.ref s₁, .int (p + 1), .int q, .int r])) t₁ s₁ := fun q r hq hr => ⟨ns, p + 1, q, r, upd_same, by rw [upd_ne hne]; exact hs, hne, hlen, by omega, hq, hr⟩
  have hs' : ∀ o, (upd H t₁ o) s₁ = some (.lst (ns.map V.int)) := fun o => by rw [upd_ne hne]; exact hs
  have hl : ((ns.map V.int).length : Int) = (ns.length : Int) := by rw [List.length_map]
  refine ⟨_, rfl, t₁, _, _, _, rfl, rfl, SqL.of ht, rfl, ?_⟩
  refine ⟨_, rfl, t₁, _, _, _, rfl, rfl, SqL.of ht, rfl, ?_⟩
  refine ⟨_, rfl, _, _, rfl, rfl, _, rfl, t₁, _, _, _, rfl, rfl, ht, rfl, ?_⟩
  refine ⟨fun μ σ H' => ∃ q r : Int, σ = [some (.ref t₁), some (.int m), some (.ref s₁), some (.int p), none, none, none] ∧ H' = upd H t₁ (.lst [.ref s₁, .int (p + 1), .int q, .int r]) ∧ 0 ≤ q ∧ 0 ≤ r ∧ μ = ns.length - r.toNat, ⟨_, q₀, r₀, rfl, rfl, hq0, hr0, rfl⟩, ?_⟩
  rintro μ σ H' ⟨q, r, rfl, rfl, hq, hr', rfl⟩
  refine ⟨_, rfl, t₁, _, _, _, rfl, rfl, SqL.of upd_same, rfl, rfl, _, rfl, ?_⟩
  by_cases c : q = 0 ∧ r < (ns.length : Int)
  · obtain ⟨c1, c2⟩ := c
    subst c1
    refine iteD1 rfl ?_
    refine ⟨_, rfl, t₁, _, _, _, rfl, rfl, SqL.of upd_same, rfl, _, rfl, s₁, _, rfl, .inl (SqL.of (hs' _)), _, _, rfl, rfl, _, rfl, ?_⟩
    refine iteD1 (by rw [hl]; exact c2) ?_
    refine ⟨_, fun _ _ z => z, ?_⟩
    obtain ⟨z, hz⟩ := pickI (ns := ns) hr' c2
    refine ⟨_, rfl, _, rfl, t₁, _, _, _, rfl, rfl, SqL.of upd_same, rfl, s₁, _, _, _, rfl, rfl, SqL.of (hs' _), hz, _, rfl, _, _, rfl, rfl, ⟨by decide, by decide, by decide⟩, _, _, rfl, rfl, _, rfl, ?_⟩
    refine ite2 (fun _ => ?_) (fun _ => ?_)
    · refine ⟨_, rfl, _, rfl, t₁, _, _, _, rfl, rfl, SqL.of upd_same, rfl, s₁, _, _, _, rfl, rfl, SqL.of (hs' _), hz, _, rfl, _, rfl, t₁, _, _, _, rfl, rfl, upd_same, rfl, ?_⟩
      rw [upd_upd]
      refine ⟨_, rfl, t₁, _, _, _, rfl, rfl, SqL.of upd_same, rfl, _, _, rfl, rfl, _, rfl, t₁, _, _, _, rfl, rfl, upd_same, rfl, ?_⟩
      rw [upd_upd]
      exact ⟨_, by omega, _, r + 1, rfl, rfl, by split <;> omega, by omega, rfl⟩
    · refine ⟨_, rfl, t₁, _, _, _, rfl, rfl, SqL.of upd_same, rfl, _, _, rfl, rfl, _, rfl, t₁, _, _, _, rfl, rfl, upd_same, rfl, ?_⟩
      rw [upd_upd]
      exact ⟨_, by omega, 0, r + 1, rfl, rfl, by omega, by omega, rfl⟩
  by_cases c1 : q = 0
  · refine iteD1 (by rw [c1]) ?_
    refine ⟨_, rfl, t₁, _, _, _, rfl, rfl, SqL.of upd_same, rfl, _, rfl, s₁, _, rfl, .inl (SqL.of (hs' _)), _, _, rfl, rfl, _, rfl, ?_⟩
    refine iteD0 (by rw [hl]; exact fun z => c ⟨c1, z⟩) ?_
    refine ⟨_, rfl, t₁, _, _, _, rfl, rfl, SqL.of upd_same, rfl, _, _, rfl, rfl, _, rfl, ?_⟩
    refine ite2 (fun _ => ?_) (fun _ => ?_)
    · refine ⟨_, rfl, t₁, _, _, _, rfl, rfl, SqL.of upd_same, rfl, ?_⟩
      refine ⟨_, rfl, _, rfl, _, _, rfl, rfl, ⟨hm0, hm1⟩, _, rfl, t₁, _, _, _, rfl, rfl, upd_same, rfl, ?_⟩
      refine ⟨_, rfl, _, rfl, _, _, rfl, rfl, hm0, ?_⟩
      rw [upd_upd]
      exact k _ _ (Int.emod_nonneg _ (by omega)) (Int.emod_lt_of_pos _ hm0) (tap (q / m) r (Int.ediv_nonneg hq (by omega)) hr')
    · refine ⟨_, rfl, s₁, _, rfl, .inl (SqL.of (hs' _)), _, _, rfl, rfl, _, rfl, ?_⟩
      refine ite2 (fun c9 => ?_) (fun _ => ?_)
      · have c8 : (0 : Int) < (ns.length : Int) := by
          have c7 : (0 : Int) < ((ns.map V.int).length : Int) := of_decide_eq_true c9
          rw [hl] at c7; exact c7
        obtain ⟨z, hz⟩ := pickI (ns := ns) (r := p % (ns.length : Int)) (Int.emod_nonneg _ (by omega)) (Int.emod_lt_of_pos _ c8)
        rw [← hl] at hz c8
        refine ⟨_, rfl, _, rfl, _, rfl, s₁, _, rfl, .inl (SqL.of (hs' _)), _, _, rfl, rfl, c8, s₁, _, _, _, rfl, rfl, SqL.of (hs' _), hz, ?_⟩
        refine ⟨_, rfl, _, _, rfl, rfl, (by show (0 : Int) < _; decide), _, _, rfl, rfl, _, rfl, _, _, rfl, rfl, (by show (0 : Int) < _; decide), _, _, rfl, rfl, .inl ⟨by omega, by omega⟩, _, _, rfl, rfl, _, rfl, _, _, rfl, rfl, _, _, rfl, rfl, .inl ⟨by omega, by omega⟩, _, _, rfl, rfl, (by show (0 : Int) < _; decide), ?_⟩
        refine ⟨_, rfl, _, rfl, _, _, rfl, rfl, .inl ⟨by omega, by omega⟩, _, rfl, _, _, rfl, rfl, .inl ⟨by omega, by omega⟩, _, _, rfl, rfl, _, rfl, _, _, rfl, rfl, _, _, rfl, rfl, (by show (0 : Int) < _; decide), ?_⟩
        refine ⟨_, rfl, _, _, rfl, rfl, .inl ⟨by omega, by omega⟩, _, _, rfl, rfl, (by show (0 : Int) < _; decide), _, rfl, _, _, rfl, rfl, hm0, ?_⟩
        exact k _ _ (Int.emod_nonneg _ (by omega)) (Int.emod_lt_of_pos _ hm0) (tap q r hq hr')
      · refine ⟨_, rfl, _, _, rfl, rfl, (by show (0 : Int) < _; decide), _, _, rfl, rfl, _, rfl, _, _, rfl, rfl, (by show (0 : Int) < _; decide), _, _, rfl, rfl, .inl ⟨by omega, by omega⟩, _, _, rfl, rfl, _, rfl, _, _, rfl, rfl, _, _, rfl, rfl, .inl ⟨by omega, by omega⟩, _, _, rfl, rfl, (by show (0 : Int) < _; decide), ?_⟩
        refine ⟨_, rfl, _, rfl, _, _, rfl, rfl, .inl ⟨by omega, by omega⟩, _, rfl, _, _, rfl, rfl, .inl ⟨by omega, by omega⟩, _, _, rfl, rfl, _, rfl, _, _, rfl, rfl, _, _, rfl, rfl, (by show (0 : Int) < _; decide), ?_⟩
        refine ⟨_, rfl, _, _, rfl, rfl, .inl ⟨by omega, by omega⟩, _, _, rfl, rfl, (by show (0 : Int) < _; decide), _, rfl, _, _, rfl, rfl, hm0, ?_⟩
        exact k _ _ (Int.emod_nonneg _ (by omega)) (Int.emod_lt_of_pos _ hm0) (tap q r hq hr')
  · refine iteD0 (fun z => c1 (by injection z)) (iteF ?_)
    refine ⟨_, rfl, t₁, _, _, _, rfl, rfl, SqL.of upd_same, rfl, _, _, rfl, rfl, _, rfl, ?_⟩
    refine ite2 (fun _ => ?_) (fun _ => ?_)
    · refine ⟨_, rfl, t₁, _, _, _, rfl, rfl, SqL.of upd_same, rfl, ?_⟩
      refine ⟨_, rfl, _, rfl, _, _, rfl, rfl, ⟨hm0, hm1⟩, _, rfl, t₁, _, _, _, rfl, rfl, upd_same, rfl, ?_⟩
      refine ⟨_, rfl, _, rfl, _, _, rfl, rfl, hm0, ?_⟩
      rw [upd_upd]
      exact k _ _ (Int.emod_nonneg _ (by omega)) (Int.emod_lt_of_pos _ hm0) (tap (q / m) r (Int.ediv_nonneg hq (by omega)) hr')
    · refine ⟨_, rfl, s₁, _, rfl, .inl (SqL.of (hs' _)), _, _, rfl, rfl, _, rfl, ?_⟩
      refine ite2 (fun c9 => ?_) (fun _ => ?_)
      · have c8 : (0 : Int) < (ns.length : Int) := by
          have c7 : (0 : Int) < ((ns.map V.int).length : Int) := of_decide_eq_true c9
          rw [hl] at c7; exact c7
        obtain ⟨z, hz⟩ := pickI (ns := ns) (r := p % (ns.length : Int)) (Int.emod_nonneg _ (by omega)) (Int.emod_lt_of_pos _ c8)
        rw [← hl] at hz c8
        refine ⟨_, rfl, _, rfl, _, rfl, s₁, _, rfl, .inl (SqL.of (hs' _)), _, _, rfl, rfl, c8, s₁, _, _, _, rfl, rfl, SqL.of (hs' _), hz, ?_⟩
        refine ⟨_, rfl, _, _, rfl, rfl, (by show (0 : Int) < _; decide), _, _, rfl, rfl, _, rfl, _, _, rfl, rfl, (by show (0 : Int) < _; decide), _, _, rfl, rfl, .inl ⟨by omega, by omega⟩, _, _, rfl, rfl, _, rfl, _, _, rfl, rfl, _, _, rfl, rfl, .inl ⟨by omega, by omega⟩, _, _, rfl, rfl, (by show (0 : Int) < _; decide), ?_⟩
        refine ⟨_, rfl, _, rfl, _, _, rfl, rfl, .inl ⟨by omega, by omega⟩, _, rfl, _, _, rfl, rfl, .inl ⟨by omega, by omega⟩, _, _, rfl, rfl, _, rfl, _, _, rfl, rfl, _, _, rfl, rfl, (by show (0 : Int) < _; decide), ?_⟩
        refine ⟨_, rfl, _, _, rfl, rfl, .inl ⟨by omega, by omega⟩, _, _, rfl, rfl, (by show (0 : Int) < _; decide), _, rfl, _, _, rfl, rfl, hm0, ?_⟩
        exact k _ _ (Int.emod_nonneg _ (by omega)) (Int.emod_lt_of_pos _ hm0) (tap q r hq hr')
      · refine ⟨_, rfl, _, _, rfl, rfl, (by show (0 : Int) < _; decide), _, _, rfl, rfl, _, rfl, _, _, rfl, rfl, (by show (0 : Int) < _; decide), _, _, rfl, rfl, .inl ⟨by omega, by omega⟩, _, _, rfl, rfl, _, rfl, _, _, rfl, rfl, _, _, rfl, rfl, .inl ⟨by omega, by omega⟩, _, _, rfl, rfl, (by show (0 : Int) < _; decide), ?_⟩
        refine ⟨_, rfl, _, rfl, _, _, rfl, rfl, .inl ⟨by omega, by omega⟩, _, rfl, _, _, rfl, rfl, .inl ⟨by omega, by omega⟩, _, _, rfl, rfl, _, rfl, _, _, rfl, rfl, _, _, rfl, rfl, (by show (0 : Int) < _; decide), ?_⟩
        refine ⟨_, rfl, _, _, rfl, rfl, .inl ⟨by omega, by omega⟩, _, _, rfl, rfl, (by show (0 : Int) < _; decide), _, rfl, _, _, rfl, rfl, hm0, ?_⟩
        exact k _ _ (Int.emod_nonneg _ (by omega)) (Int.emod_lt_of_pos _ hm0) (tap q r hq hr')
theorem ok_law_gcd (T : Txt K mg t) : FnOk P w K mg base CX0 1 t.a_law_gcd t.d_law_gcd ["_law_one", "_law_other"] (sp_law_gcd K) := by
  refine T.F_law_gcd.ok sc_law_gcd (fun vs H Q E h => ?_) (fun cdv A outer s H vs Q E hr h => ?_)
  · obtain ⟨_, _, rfl, _⟩ := h; rfl
  obtain ⟨a, b, rfl, ha, hb, k⟩ := h
  refine QSs.ok (qss_cons (qs_while PassesOwn.never (qt_cmpR op_ne (qv 1) qe_int (nomark _))
      (qss_one (qs_par (i := 0) (j := 1) rfl sc_law_gcd.nd rfl rfl (by decide) rfl rfl (qa_cons (qv 1) (qa_cons (qe_op op_mod (qv 0) (qv 1)) qa_nil star_bin) star_name) rfl)))
      (qss_one (qs_ret (qv 0)))) ?_
  refine ⟨fun m σ H' => ∃ (x y : Int), σ = [some (.int x), some (.int y)] ∧ H' = H ∧ 0 ≤ x ∧ 0 ≤ y ∧ Int.gcd x y = Int.gcd a b ∧ m = y.toNat, ⟨_, _, _, rfl, rfl, ha, hb, rfl, rfl⟩, ?_⟩
  rintro m σ H' ⟨x, y, rfl, rfl, hx, hy, hg, rfl⟩
  refine ⟨_, rfl, rfl, _, rfl, ?_⟩
  by_cases c : y = 0
  · subst c
    refine iteNS rfl ?_
    rw [← hg] at k
    refine ⟨_, rfl, ?_⟩
    have e : (x : Int) = (Int.gcd x 0 : Nat) := by simp [Int.gcd]; omega
    rw [← e] at k
    exact k
  · refine iteN1 (fun z => c (by injection z)) ?_
    refine ⟨_, fun _ _ z => z, ?_⟩
    refine ⟨_, rfl, _, rfl, _, rfl, _, _, rfl, rfl, (by omega), _, _, rfl, ?_⟩
    refine ⟨_, ?_, y, x % y, rfl, rfl, hy, Int.emod_nonneg _ c, ?_, rfl⟩
    · have := Int.emod_lt_of_pos x (show 0 < y by omega)
      have := Int.emod_nonneg x c
      omega
    · rw [gcd_turn hx (by omega), hg]
theorem ok_law_ratio (T : Txt K mg t) : FnOk P w K mg base CX0 2 t.a_law_ratio t.d_law_ratio ["_law_top", "_law_bottom"] (sp_law_ratio K) := by
  refine T.F_law_ratio.ok sc_law_ratio (fun vs H Q E h => ?_) (fun cdv A outer s H vs Q E hr h => ?_)
  · obtain ⟨_, _, rfl, _⟩ := h; rfl
  obtain ⟨a, b, rfl, hb, hz, k⟩ := h
  refine QSs.ok (qss_cons (qs_set (i := 2) sc_law_ratio.nd rfl (by first | exact Or.inl rfl | exact Or.inr rfl) (qe_call (ok_law_gcd T) (hr.mono (by decide)) rfl T.m_law_gcd T.F_law_gcd.kp T.b_law_gcd .nil pass0 (qa_cons (qe_callB call_abs (by rfl) T.z_abs PyProof.Rows.boot_abs (qa_cons (qv 0) qa_nil star_name)) (qa_cons (qe_callB call_abs (by rfl) T.z_abs PyProof.Rows.boot_abs (qa_cons (qv 1) qa_nil star_name)) qa_nil star_call) star_call)))
      (qss_cons (qs_if (qt_cmpR op_lt (qv 1) qe_int (nomark _)) (qss_one (qs_set (i := 2) sc_law_ratio.nd rfl (by first | exact Or.inl rfl | exact Or.inr rfl) (qe_un un_neg (qv 2)))) qss_nil)
      (qss_one (qs_ret (qe_tup (qa_cons (qe_op op_quoN (qv 0) (qv 2)) (qa_cons (qe_op op_quoN (qv 1) (qv 2)) qa_nil star_bin) star_bin)))))) ?_
  have gp := gcd_posN (a := a) hb
  have gb := gcd_big (a := a) hb hz
  refine ⟨_, rfl, _, rfl, _, rfl, _, rfl, _, _, rfl, (by split <;> omega), (by split <;> omega), ?_⟩
  rw [abs_if, abs_if]
  have eg : Int.gcd (a.natAbs : Int) (b.natAbs : Int) = Int.gcd a b := by simp [Int.gcd]
  rw [eg]
  refine ⟨_, rfl, _, _, rfl, rfl, _, rfl, ?_⟩
  by_cases hn : b < 0
  · refine iteD1 hn ?_
    rw [← mkS_neg1 hn] at k
    have gm : (-((Int.gcd a b : Nat) : Int)).natAbs < 2 ^ 4000 := by rw [Int.natAbs_neg]; exact gb
    refine ⟨_, rfl, _, rfl, ?_⟩
    refine ⟨_, rfl, _, rfl, _, _, rfl, rfl, ⟨by omega, gm⟩, _, rfl, _, rfl, _, _, rfl, rfl, ⟨by omega, gm⟩, (by show 2 ≤ sizeLine; decide), fun p hp => ?_⟩
    exact k p hp
  · refine iteD0 hn ?_
    rw [← mkS_pos1 (by omega : 0 < b)] at k
    refine ⟨_, rfl, _, rfl, _, _, rfl, rfl, ⟨by omega, gb⟩, _, rfl, _, rfl, _, _, rfl, rfl, ⟨by omega, gb⟩, (by show 2 ≤ sizeLine; decide), fun p hp => ?_⟩
    exact k p hp
theorem ok_law_part (T : Txt K mg t) : FnOk P w K mg base CX0 3 t.a_law_part t.d_law_part ["_law_tape_here"] (sp_law_part K) := by
  refine T.F_law_part.ok sc_law_part (fun vs H Q E h => ?_) (fun cdv A outer s H vs Q E hr h => ?_)
  · obtain ⟨_, _, rfl, _⟩ := h; rfl
  obtain ⟨t₁, s₀, rfl, T0, k⟩ := h
  refine QSs.ok (qss_cons (qs_set (i := 1) sc_law_part.nd rfl (by first | exact Or.inl rfl | exact Or.inr rfl) (qe_lst (qa_cons qe_int (qa_cons qe_int (qa_cons qe_int (qa_cons qe_int (qa_cons (qe_op op_add qe_int (qe_call (ok_law_draw T) (hr.mono (by decide)) rfl T.m_law_draw T.F_law_draw.kp T.b_law_draw .nil pass0 (qa_cons (qv 0) (qa_cons qe_int qa_nil star_con) star_name))) (qa_cons (qe_op op_add qe_int (qe_call (ok_law_draw T) (hr.mono (by decide)) rfl T.m_law_draw T.F_law_draw.kp T.b_law_draw .nil pass0 (qa_cons (qv 0) (qa_cons qe_int qa_nil star_con) star_name))) (qa_cons (qe_op op_add (qe_op op_pow qe_int qe_int) qe_int) qa_nil star_bin) star_bin) star_bin) star_con) star_con) star_con) star_con)))
      (qss_cons (qs_set (i := 2) sc_law_part.nd rfl (by first | exact Or.inl rfl | exact Or.inr rfl) (qe_lst (qa_cons qe_int (qa_cons qe_int (qa_cons qe_int (qa_cons qe_int (qa_cons qe_int (qa_cons qe_int (qa_cons (qe_op op_add qe_int (qe_call (ok_law_draw T) (hr.mono (by decide)) rfl T.m_law_draw T.F_law_draw.kp T.b_law_draw .nil pass0 (qa_cons (qv 0) (qa_cons qe_int qa_nil star_con) star_name))) (qa_cons (qe_op op_pow qe_int qe_int) qa_nil star_bin) star_bin) star_con) star_con) star_con) star_con) star_con) star_con)))
      (qss_one (qs_ret (qe_call (ok_law_ratio T) (hr.mono (by decide)) rfl T.m_law_ratio T.F_law_ratio.kp T.b_law_ratio .nil pass0 (qa_cons (qe_ix ix_list (qv 1) (qe_call (ok_law_draw T) (hr.mono (by decide)) rfl T.m_law_draw T.F_law_draw.kp T.b_law_draw .nil pass0 (qa_cons (qv 0) (qa_cons qe_int qa_nil star_con) star_name)) (fun _ _ => rfl)) (qa_cons (qe_ix ix_list (qv 2) (qe_call (ok_law_draw T) (hr.mono (by decide)) rfl T.m_law_draw T.F_law_draw.kp T.b_law_draw .nil pass0 (qa_cons (qv 0) (qa_cons qe_int qa_nil star_con) star_name)) (fun _ _ => rfl)) qa_nil star_sub) star_sub)))))) ?_
  refine ⟨_, rfl, t₁, s₀, 40, rfl, T0, by decide, by decide, fun r1 x1 a1 b1 T1 => ⟨_, _, rfl, rfl, _, rfl, t₁, s₀, 60000, rfl, T1, by decide, by decide, fun r2 x2 a2 b2 T2 => ⟨_, _, rfl, rfl, _, _, rfl, rfl, ⟨by decide, by decide, by decide⟩, _, _, rfl, rfl, (by show 7 ≤ sizeLine; decide), fun l1 g1 => ?_⟩⟩⟩
  have T3 := T2.new g1 (.lst [.int 1, .int 2, .int 3, .int 5, .int (1 + r1), .int (1 + r2), .int (10 ^ 9 + 7)])
  refine ⟨_, rfl, t₁, s₀, 30, rfl, T3, by decide, by decide, fun r3 x3 a3 b3 T4 => ⟨_, _, rfl, rfl, _, _, rfl, rfl, ⟨by decide, by decide, by decide⟩, (by show 8 ≤ sizeLine; decide), fun l2 g2 => ?_⟩⟩
  have T5 := T4.new g2 (.lst [.int 1, .int 1, .int 1, .int 2, .int 3, .int 6, .int (1 + r3), .int (10 ^ 9)])
  have n1 : l1 ≠ t₁ := fun z => by subst z; obtain ⟨_, e⟩ := T2.lst; rw [g1] at e; cases e
  have n2 : l2 ≠ t₁ := fun z => by subst z; obtain ⟨_, e⟩ := T4.lst; rw [g2] at e; cases e
  have n3 : l1 ≠ l2 := fun z => by subst z; rw [upd_ne n1, upd_same] at g2; cases g2
  refine ⟨_, rfl, _, rfl, t₁, s₀, 7, rfl, T5, by decide, by decide, fun r4 x4 a4 b4 T6 => ?_⟩
  obtain ⟨v1, hv1, m1⟩ := pick (xs := [.int 1, .int 2, .int 3, .int 5, .int (1 + r1), .int (1 + r2), .int (10 ^ 9 + 7)]) a4 b4
  refine ⟨l1, _, _, v1, rfl, rfl, SqL.of (by rw [upd_ne n1, upd_ne n3, upd_ne n1, upd_same] <;> rfl), hv1, ?_⟩
  refine ⟨_, rfl, _, rfl, t₁, s₀, 8, rfl, T6, by decide, by decide, fun r5 x5 a5 b5 T7 => ?_⟩
  obtain ⟨v2, hv2, m2⟩ := pick (xs := [.int 1, .int 1, .int 1, .int 2, .int 3, .int 6, .int (1 + r3), .int (10 ^ 9)]) a5 b5
  refine ⟨l2, _, _, v2, rfl, rfl, SqL.of (by rw [upd_ne n2, upd_ne n2, upd_same] <;> rfl), hv2, ?_⟩
  obtain ⟨z1, rfl, p1, q1⟩ : ∃ z : Int, v1 = .int z ∧ 0 < z ∧ z ≤ 1000000007 := by
    simp only [List.mem_cons, List.not_mem_nil, or_false] at m1
    rcases m1 with e | e | e | e | e | e | e
    all_goals exact ⟨_, e, by omega, by omega⟩
  obtain ⟨z2, rfl, p2, q2, d2⟩ : ∃ z : Int, v2 = .int z ∧ 0 < z ∧ z < 2 ^ 31 ∧ z ∣ (D0 : Int) := by
    simp only [List.mem_cons, List.not_mem_nil, or_false] at m2
    rcases m2 with e | e | e | e | e | e | e | e
    · exact ⟨_, e, by decide, by decide, by decide⟩
    · exact ⟨_, e, by decide, by decide, by decide⟩
    · exact ⟨_, e, by decide, by decide, by decide⟩
    · exact ⟨_, e, by decide, by decide, by decide⟩
    · exact ⟨_, e, by decide, by decide, by decide⟩
    · exact ⟨_, e, by decide, by decide, by decide⟩
    · exact ⟨_, e, by omega, by omega, div30 a3 b3⟩
    · exact ⟨_, e, by decide, by decide, by decide⟩
  have w2 : z2.natAbs < 2 ^ 31 := by omega
  refine ⟨z1, z2, rfl, by omega, big_of w2 (by decide), ?_⟩
  rw [mkS_pos p2]
  intro p hp
  have S := (((((((Step.up (ys := x1) T0.lst.choose_spec).trans (Step.up (ys := x2) upd_same)).trans (Step.new ⟨_, upd_same⟩ g1 _)).trans (Step.up (ys := x3) T3.lst.choose_spec)).trans (Step.new T4.lst g2 _)).trans (Step.up (ys := x4) T5.lst.choose_spec)).trans (Step.up (ys := x5) T6.lst.choose_spec)).trans (Step.new T7.lst hp (.tup [.int (mkR z1 z2).1, .int (mkR z1 z2).2]))
  exact k _ (mkR z1 z2) _ (part_ok p1 q1 p2 d2) S (T7.new hp _) (RV.of upd_same)
theorem ok_law_works (T : Txt K mg t) : FnOk P w K mg base CX0 4 t.a_law_works t.d_law_works ["_law_tape_here", "_law_most", "_law_end"] (sp_law_works K) := by
  refine T.F_law_works.ok sc_law_works (fun vs H Q E h => ?_) (fun cdv A outer s H vs Q E hr h => ?_)
  · obtain ⟨_, _, _, _, rfl, _⟩ := h; rfl
  obtain ⟨t₁, s₁, m, en, rfl, tp, hm, he1, he2, k⟩ := h
  refine QSs.ok (qss_cons (qs_set (i := 3) sc_law_works.nd rfl (by first | exact Or.inl rfl | exact Or.inr rfl) (qe_lst qa_nil))
      (qss_cons (qs_for PassesOwn.never rfl (qi_range1 rfl T.z_range (qa_cons (qe_call (ok_law_draw T) (hr.mono (by decide)) rfl T.m_law_draw T.F_law_draw.kp T.b_law_draw .nil pass0 (qa_cons (qv 0) (qa_cons (qe_op op_add (qv 1) qe_int) qa_nil star_bin) star_name)) qa_nil star_call)) (qg_name (i := 4) sc_law_works.nd rfl (by first | exact Or.inl rfl | exact Or.inr rfl))
      (qss_cons (qs_set (i := 5) sc_law_works.nd rfl (by first | exact Or.inl rfl | exact Or.inr rfl) (qe_call (ok_law_draw T) (hr.mono (by decide)) rfl T.m_law_draw T.F_law_draw.kp T.b_law_draw .nil pass0 (qa_cons (qv 0) (qa_cons (qv 2) qa_nil star_name) star_name)))
      (qss_cons (qs_set (i := 6) sc_law_works.nd rfl (by first | exact Or.inl rfl | exact Or.inr rfl) (qe_op op_add (qv 5) (qe_call (ok_law_draw T) (hr.mono (by decide)) rfl T.m_law_draw T.F_law_draw.kp T.b_law_draw .nil pass0 (qa_cons (qv 0) (qa_cons (qe_op op_sub (qv 2) (qv 5)) qa_nil star_bin) star_name))))
      (qss_cons (qs_cut (qs_if (qw_pt (qw_and (qt_cmpR (op_neD hr) (qv 3) (qe_lst qa_nil) (nomark _)) (qw_and1 (qt_cmpR op_eq (qe_call (ok_law_draw T) (hr.mono (by decide)) rfl T.m_law_draw T.F_law_draw.kp T.b_law_draw .nil pass0 (qa_cons (qv 0) (qa_cons qe_int qa_nil star_con) star_name)) qe_int (nomark _))))) (qss_one (qs_asg (qe_slice sl_tupU (qe_ix ix_list (qv 3) (qe_call (ok_law_draw T) (hr.mono (by decide)) rfl T.m_law_draw T.F_law_draw.kp T.b_law_draw .nil pass0 (qa_cons (qv 0) (qa_cons (qe_callB call_len_seq (by rfl) T.z_len PySem.boot_len (qa_cons (qv 3) qa_nil star_name)) qa_nil star_call) star_name)) (fun _ _ => rfl)) qo_none (qo_some qe_int)) (qg_tup rfl (qgs_cons (qg_name (i := 5) sc_law_works.nd rfl (by first | exact Or.inl rfl | exact Or.inr rfl)) (qgs_cons (qg_name (i := 6) sc_law_works.nd rfl (by first | exact Or.inl rfl | exact Or.inr rfl)) qgs_nil))))) qss_nil))
      (qss_cons (qs_cut (qs_if (qt_cmpR op_eq (qe_call (ok_law_draw T) (hr.mono (by decide)) rfl T.m_law_draw T.F_law_draw.kp T.b_law_draw .nil pass0 (qa_cons (qv 0) (qa_cons qe_int qa_nil star_con) star_name)) qe_int (nomark _)) (qss_one (qs_set (i := 6) sc_law_works.nd rfl (by first | exact Or.inl rfl | exact Or.inr rfl) (qv 5))) qss_nil))
      (qss_one (qs_expr (qe_bm PySem.F.plainAttrs_list PySem.F.slot_list_append PySem.F.type_list_append mt_append (qv 3) (qa_cons (qe_tup (qa_cons (qv 5) (qa_cons (qv 6) (qa_cons (qe_call (ok_law_part T) (hr.mono (by decide)) rfl T.m_law_part T.F_law_part.kp T.b_law_part .nil pass0 (qa_cons (qv 0) qa_nil star_name)) qa_nil star_call) star_name) star_name)) qa_nil star_tup)))))))))
      (qss_one (qs_ret (qe_callTy call_tuple_of (by rfl) T.z_tuple PyProof.Rows.boot_tuple (qa_cons (qv 3) qa_nil star_name)))))) ?_
  refine ⟨(by show 0 ≤ sizeLine; exact Nat.zero_le _), fun ls h0 => ?_⟩
  obtain ⟨y0, e0⟩ := tp.lst
  obtain ⟨y0', e0'⟩ := tp.scr
  have nt : ls ≠ t₁ := fun z => by subst z; rw [e0] at h0; cases h0
  have ns : ls ≠ s₁ := fun z => by subst z; rw [e0'] at h0; cases h0
  have s0 := same_new h0 (.lst [])
  have hl0 : upd H ls (.lst []) ls = some (.lst []) := upd_same
  have T0 := tp.new h0 (.lst [])
  generalize upd H ls (.lst []) = H0 at s0 hl0 T0 ⊢
  obtain ⟨y1, e1⟩ := T0.lst
  refine ⟨_, rfl, _, rfl, _, _, rfl, rfl, t₁, s₁, _, rfl, T0, by omega, by omega, fun r1 z1 a1 b1 T1 => ?_⟩
  have S1 : Step t₁ H0 _ := Step.up (ys := z1) e1
  generalize upd H0 t₁ (.lst z1) = H1 at T1 S1 ⊢
  
  have hl1 := S1.keep _ _ nt hl0
  refine ⟨r1, rfl, by omega, by omega, for_range (lo := 0) (n := r1.toNat) (fun i σ H' => ∃ (xs : List V) (ws : List Wk) (x5 x6 x7 : Option V), σ = [some (.ref t₁), some (.int m), some (.int en), some (.ref ls), x5, x6, x7] ∧ Tape H' t₁ s₁ ∧ (∀ b o, b ≠ t₁ → H b = some o → H' b = some o) ∧ H' ls = some (.lst xs) ∧ Als (WkV K H') xs ws ∧ ws.length = i ∧ ∀ w ∈ ws, WkB w) ⟨[], [], none, none, none, rfl, T1, (fun b o nb q => S1.keep _ _ nb (s0 _ _ q)), hl1, .nil, rfl, fun w hw => by cases hw⟩ ?_ ?_⟩
  · rintro i σ HI hi ⟨xs, ws, x5, x6, x7, rfl, TI, kp, hlI, alw, hlen, okw⟩
    have hxl := alw.len
    obtain ⟨y2, e2⟩ := TI.lst
    refine ⟨_, rfl, _, rfl, t₁, s₁, _, rfl, TI, by omega, by omega, fun r2 z2 a2 b2 T2 => ?_⟩
    have S2 : Step t₁ HI _ := Step.up (ys := z2) e2
    generalize upd HI t₁ (.lst z2) = H2 at T2 S2 ⊢
    
    obtain ⟨ff, rfl⟩ := Int.eq_ofNat_of_zero_le a2
    obtain ⟨y3, e3⟩ := T2.lst
    refine ⟨_, rfl, _, rfl, _, rfl, _, rfl, _, _, rfl, rfl, t₁, s₁, _, rfl, T2, by omega, by omega, fun r3 z3 a3 b3 T3 => ?_⟩
    have S3 : Step t₁ H2 _ := Step.up (ys := z3) e3
    generalize upd H2 t₁ (.lst z3) = H3 at T3 S3 ⊢
    
    have S23 := S2.trans S3
    refine ⟨_, _, rfl, rfl, ?_⟩
    obtain ⟨la, hla⟩ : ∃ la : Nat, (ff : Int) + r3 = (la : Nat) := ⟨((ff : Int) + r3).toNat, by omega⟩
    dsimp only
    rw [hla]
    have bf : ff < 24 := by omega
    have bl : la < 24 := by omega
    have hl3 := S23.keep _ _ nt hlI
    refine ⟨fun σ H' => ∃ ff la : Nat, σ = [some (.ref t₁), some (.int m), some (.int en), some (.ref ls), some (.int (0 + (i : Int))), some (.int (ff : Nat)), some (.int (la : Nat))] ∧ Step t₁ HI H' ∧ Tape H' t₁ s₁ ∧ ff < 24 ∧ la < 24, ?_, ?_⟩
    · refine ⟨_, rfl, (by show 0 ≤ sizeLine; exact Nat.zero_le _), fun q hq => ?_⟩
      have sq := same_new hq (.lst [])
      have TQ := T3.new hq (.lst [])
      have hqq : upd H3 q (.lst []) q = some (.lst []) := upd_same
      generalize upd H3 q (.lst []) = HQ at sq TQ hqq ⊢
      have SQ := S23.trans (Step.same sq T3.lst)
      refine ⟨.list (ws.map dWk), .list [], .lst (SqL.of (sq _ _ hl3)) ((alw.mono fun _ _ z => z.mono (Tst.step (K := K) SQ)).deep fun _ _ z => z.deep), .lst (SqL.of hqq) .nil, wk_lay ws, rfl, wk_depth ws, _, rfl, ?_⟩
      cases ws with
      | nil => exact iteF (iteF ⟨ff, la, rfl, SQ, TQ, bf, bl⟩)
      | cons w0 wr =>
        refine iteT ?_
        have lp : 0 < xs.length := by rw [hxl]; exact Nat.succ_pos _
        obtain ⟨y4, e4⟩ := TQ.lst
        refine ⟨_, rfl, t₁, s₁, _, rfl, TQ, by omega, by omega, fun r4 z4 a4 b4 T4 => ?_⟩
        have S4 : Step t₁ HQ _ := Step.up (ys := z4) e4
        generalize upd HQ t₁ (.lst z4) = H4 at T4 S4 ⊢
        
        have S4' := SQ.trans S4
        refine ⟨rfl, _, rfl, ite2 (fun _ => ?_) (fun _ => ⟨ff, la, rfl, S4', T4, bf, bl⟩)⟩
        have hl4 := S4'.keep _ _ nt hlI
        obtain ⟨y5, e5⟩ := T4.lst
        refine ⟨_, rfl, _, rfl, _, rfl, ls, _, rfl, .inl (SqL.of hl4), t₁, s₁, _, rfl, T4, by omega, by omega, fun r5 z5 a5 b5 T5 => ?_⟩
        have S5 := S4'.trans (Step.up (ys := z5) e5)
        generalize upd H4 t₁ (.lst z5) = H5 at T5 S5 ⊢
        obtain ⟨j, rfl⟩ := Int.eq_ofNat_of_zero_le a5
        obtain ⟨xw, hxw⟩ : ∃ xw, xs[j]? = some xw := ⟨_, List.getElem?_eq_getElem (by omega)⟩
        obtain ⟨w, hw, pw0, xa, rfl, hSw, ra⟩ := alw.at hxw
        have wb := okw w (List.mem_of_getElem? hw)
        refine ⟨ls, _, _, _, rfl, rfl, SqL.of (S5.keep _ _ nt hlI), atI_nat hxw, ?_⟩
        refine ⟨_, rfl, pw0, _, rfl, Tst.step (K := K) S5 _ _ hSw, fun pc HP sP hpc => ?_⟩
        rw [show cutV [V.int (w.1 : Nat), V.int (w.2.1 : Nat), xa] none (some 2) = [V.int (w.1 : Nat), V.int (w.2.1 : Nat)] from cut_to (n := 2) (by show 2 ≤ 3; decide)] at hpc
        refine ⟨pc, _, rfl, hpc, rfl, _, _, rfl, _, _, rfl, rfl, ?_⟩
        exact ⟨w.1, w.2.1, rfl, S5.trans (Step.same sP T5.lst), T5.same sP, wb.l1, wb.l2⟩
    · rintro σ H6 ⟨ff, la, rfl, S6, T6, bf, bl⟩
      refine ⟨fun σ H' => ∃ la : Nat, σ = [some (.ref t₁), some (.int m), some (.int en), some (.ref ls), some (.int (0 + (i : Int))), some (.int (ff : Nat)), some (.int (la : Nat))] ∧ Step t₁ HI H' ∧ Tape H' t₁ s₁ ∧ la < 24, ?_, ?_⟩
      · obtain ⟨y7, e7⟩ := T6.lst
        refine ⟨_, rfl, t₁, s₁, _, rfl, T6, by omega, by omega, fun r7 z7 a7 b7 T7 => ?_⟩
        have S7 : Step t₁ H6 _ := Step.up (ys := z7) e7
        generalize upd H6 t₁ (.lst z7) = H7 at T7 S7 ⊢
        
        refine ⟨rfl, _, rfl, ite2 (fun _ => ?_) (fun _ => ?_)⟩
        · exact ⟨_, rfl, ff, rfl, S6.trans S7, T7, bf⟩
        · exact ⟨la, rfl, S6.trans S7, T7, bl⟩
      · rintro σ H8 ⟨la, rfl, S8, T8, bl⟩
        have hl8 := S8.keep _ _ nt hlI
        refine ⟨_, rfl, .inl ⟨rfl, _, SqL.of hl8⟩, _, rfl, _, rfl, _, rfl, t₁, s₁, rfl, T8, fun va ra H9 po S9 T9 rv => ?_⟩
        refine ⟨(by show 3 ≤ sizeLine; decide), fun pw hpw => ?_⟩
        have sA := same_new hpw (.tup [.int (ff : Nat), .int (la : Nat), va])
        have hA : SqT K (upd H9 pw (.tup [.int (ff : Nat), .int (la : Nat), va])) pw [.int (ff : Nat), .int (la : Nat), va] := SqT.of upd_same
        have TA := T9.same sA
        generalize upd H9 pw (.tup [.int (ff : Nat), .int (la : Nat), va]) = HA at sA hA TA ⊢
        have SA := (S8.trans S9).trans (Step.same sA T9.lst)
        have hlA := SA.keep _ _ nt hlI
        refine ⟨ls, xs, _, rfl, rfl, hlA, small1000 (by omega), ?_⟩
        have tB : Tst K HA (upd HA ls (.lst (xs ++ [.ref pw]))) := Tst.up hlA _
        refine ⟨_, ws ++ [(ff, la, ra)], _, _, _, rfl, TA.upl nt ns _, fun b o nb q => ?_, upd_same, (alw.mono fun v d q => q.mono ((Tst.step (K := K) SA).trans tB)).snoc ⟨pw, va, rfl, tB _ _ hA, (rv.mono (Tst.same sA)).mono tB⟩, by rw [List.length_append, hlen]; rfl, fun z hz => ?_⟩
        · rw [upd_ne (ne_of_none q h0)]
          exact SA.keep _ _ nb (kp b o nb q)
        · rcases List.mem_append.mp hz with h | h
          · exact okw z h
          · rw [List.mem_singleton.mp h]
            exact ⟨bf, bl, po.wf⟩
  · rintro σ HI ⟨xs, ws, x5, x6, x7, rfl, TI, kp, hlI, alw, hlen, okw⟩
    refine ⟨_, rfl, ls, _, rfl, .inl ⟨SqL.of hlI, fun p hp => ?_⟩⟩
    have s5 := same_new hp (.tup xs)
    exact k (.ref p) ws _ (Step.trans ⟨kp, ⟨_, e0⟩, TI.lst⟩ (Step.same s5 TI.lst)) (TI.same s5) ⟨p, xs, rfl, SqT.of upd_same, alw.mono fun _ _ q => q.mono (Tst.same s5)⟩ (by rw [hlen]; omega) okw
theorem ok_law_leans (T : Txt K mg t) : FnOk P w K mg base CX0 2 t.a_law_leans t.d_law_leans ["_law_tape_here", "_law_many"] (sp_law_leans K) := by
  refine T.F_law_leans.ok sc_law_leans (fun vs H Q E h => ?_) (fun cdv A outer s H vs Q E hr h => ?_)
  · obtain ⟨_, _, _, rfl, _⟩ := h; rfl
  obtain ⟨t₁, s₁, n, rfl, tp, hn, k⟩ := h
  refine QSs.ok (qss_cons (qs_set (i := 2) sc_law_leans.nd rfl (by first | exact Or.inl rfl | exact Or.inr rfl) (qe_lst qa_nil))
      (qss_cons (qs_for PassesOwn.never rfl (qi_range1 rfl T.z_range (qa_cons (qv 1) qa_nil star_name)) (qg_name (i := 3) sc_law_leans.nd rfl (by first | exact Or.inl rfl | exact Or.inr rfl))
      (qss_one (qs_expr (qe_bm PySem.F.plainAttrs_list PySem.F.slot_list_insert PySem.F.type_list_insert mt_insert (qv 2) (qa_cons (qe_call (ok_law_draw T) (hr.mono (by decide)) rfl T.m_law_draw T.F_law_draw.kp T.b_law_draw .nil pass0 (qa_cons (qv 0) (qa_cons (qe_op op_add (qe_callB call_len_seq (by rfl) T.z_len PySem.boot_len (qa_cons (qv 2) qa_nil star_name)) qe_int) qa_nil star_bin) star_name)) (qa_cons (qv 3) qa_nil star_name) star_call)))))
      (qss_cons (qs_set (i := 4) sc_law_leans.nd rfl (by first | exact Or.inl rfl | exact Or.inr rfl) (qe_lst qa_nil))
      (qss_cons (qs_for PassesOwn.never rfl (qi_range1 rfl T.z_range (qa_cons (qe_op op_mul (qe_call (ok_law_draw T) (hr.mono (by decide)) rfl T.m_law_draw T.F_law_draw.kp T.b_law_draw .nil pass0 (qa_cons (qv 0) (qa_cons (qe_op op_add (qe_op op_mul qe_int (qv 1)) qe_int) qa_nil star_bin) star_name)) (qe_callTy call_int1 (by rfl) T.z_int PyProof.Rows.boot_int (qa_cons (qe_cmpR op_gt (qv 1) qe_int (nomark _)) qa_nil star_cmp))) qa_nil star_bin)) (qg_name (i := 5) sc_law_leans.nd rfl (by first | exact Or.inl rfl | exact Or.inr rfl))
      (qss_cons (qs_set (i := 6) sc_law_leans.nd rfl (by first | exact Or.inl rfl | exact Or.inr rfl) (qe_call (ok_law_draw T) (hr.mono (by decide)) rfl T.m_law_draw T.F_law_draw.kp T.b_law_draw .nil pass0 (qa_cons (qv 0) (qa_cons (qe_op op_sub (qv 1) qe_int) qa_nil star_bin) star_name)))
      (qss_cons (qs_set (i := 7) sc_law_leans.nd rfl (by first | exact Or.inl rfl | exact Or.inr rfl) (qe_op op_add (qe_op op_add (qv 6) qe_int) (qe_call (ok_law_draw T) (hr.mono (by decide)) rfl T.m_law_draw T.F_law_draw.kp T.b_law_draw .nil pass0 (qa_cons (qv 0) (qa_cons (qe_op op_sub (qe_op op_sub (qv 1) qe_int) (qv 6)) qa_nil star_bin) star_name))))
      (qss_one (qs_expr (qe_bm PySem.F.plainAttrs_list PySem.F.slot_list_append PySem.F.type_list_append mt_append (qv 4) (qa_cons (qe_tup (qa_cons (qe_ix ix_list (qv 2) (qv 6) (fun _ _ => rfl)) (qa_cons (qe_ix ix_list (qv 2) (qv 7) (fun _ _ => rfl)) qa_nil star_sub) star_sub)) qa_nil star_tup)))))))
      (qss_one (qs_ret (qe_callTy call_tuple_of (by rfl) T.z_tuple PyProof.Rows.boot_tuple (qa_cons (qe_slice sl_list (qv 4) qo_none (qo_some qe_int)) qa_nil star_sub)))))))) ?_
  refine ⟨(by show 0 ≤ sizeLine; exact Nat.zero_le _), fun lo h0 => ?_⟩
  obtain ⟨y0, e0⟩ := tp.lst
  obtain ⟨y0', e0'⟩ := tp.scr
  have nt : lo ≠ t₁ := fun z => by subst z; rw [e0] at h0; cases h0
  have ns : lo ≠ s₁ := fun z => by subst z; rw [e0'] at h0; cases h0
  have s0 := same_new h0 (.lst [])
  have hl0 : upd H lo (.lst []) lo = some (.lst []) := upd_same
  have T0 := tp.new h0 (.lst [])
  generalize upd H lo (.lst []) = H0 at s0 hl0 T0 ⊢
  refine ⟨_, rfl, n, rfl, by omega, by omega, for_range (lo := 0) (n := (n : Int).toNat) (fun i σ H' => ∃ (os : List Nat) (x4 : Option V), σ = [some (.ref t₁), some (.int n), some (.ref lo), x4, none, none, none, none] ∧ Tape H' t₁ s₁ ∧ (∀ b o, b ≠ t₁ → H b = some o → H' b = some o) ∧ H' lo = some (.lst (natW os)) ∧ os.length = i ∧ os.Nodup ∧ ∀ x, x ∈ os ↔ x < i) ⟨[], none, rfl, T0, (fun b o _ q => s0 _ _ q), hl0, rfl, List.nodup_nil, fun x => ⟨(fun h => by cases h), fun h => absurd h (Nat.not_lt_zero _)⟩⟩ ?_ ?_⟩
  · rintro i σ HI hi ⟨os, x4, rfl, TI, kp, hlI, hlen, nd, all⟩
    rw [Int.zero_add]
    have hnl : (natW os).length = os.length := List.length_map _
    obtain ⟨y1, e1⟩ := TI.lst
    refine ⟨_, rfl, .inl ⟨rfl, _, SqL.of hlI⟩, _, rfl, _, rfl, lo, _, rfl, .inl (SqL.of hlI), _, _, rfl, rfl, t₁, s₁, _, rfl, TI, by omega, by omega, fun r1 z1 a1 b1 T1 => ?_⟩
    have S1 : Step t₁ HI _ := Step.up (ys := z1) e1
    generalize upd HI t₁ (.lst z1) = H1 at T1 S1 ⊢
    obtain ⟨j, rfl⟩ := Int.eq_ofNat_of_zero_le a1
    have hl1 := S1.keep _ _ nt hlI
    refine ⟨_, rfl, lo, natW os, j, .int (i : Nat), rfl, rfl, hl1, by omega, small1000 (by omega), ?_⟩
    have ei : (natW os).take j ++ V.int (i : Nat) :: (natW os).drop j = natW (os.take j ++ i :: os.drop j) := by
      unfold natW
      rw [List.map_append, List.map_cons, List.map_take, List.map_drop]
    rw [ei]
    have ni : i ∉ os := fun z => by have := (all i).mp z; omega
    have pm : (os.take j ++ i :: os.drop j).Perm (i :: os) := by
      have := List.perm_middle (a := i) (l₁ := os.take j) (l₂ := os.drop j)
      rw [List.take_append_drop] at this
      exact this
    refine ⟨_, _, rfl, T1.upl nt ns _, fun b o nb q => ?_, upd_same, by rw [pm.length_eq, List.length_cons, hlen], pm.nodup_iff.mpr (List.nodup_cons.mpr ⟨ni, nd⟩), fun x => ?_⟩
    · rw [upd_ne (ne_of_none q h0)]
      exact S1.keep _ _ nb (kp b o nb q)
    · rw [pm.mem_iff, List.mem_cons, all]
      omega
  · rintro σ HI ⟨os, x4, rfl, TI, kp, hlI, hlen, nd, all⟩
    rw [show (n : Int).toNat = n by omega] at hlen all
    obtain ⟨ps, ps1, ps2⟩ := rnk_of nd hlen all
    refine ⟨(by show 0 ≤ sizeLine; exact Nat.zero_le _), fun lf hf0 => ?_⟩
    obtain ⟨yI, eI⟩ := TI.lst
    obtain ⟨yI', eI'⟩ := TI.scr
    have ntf : lf ≠ t₁ := fun z => by subst z; rw [eI] at hf0; cases hf0
    have nsf : lf ≠ s₁ := fun z => by subst z; rw [eI'] at hf0; cases hf0
    have nlf : lo ≠ lf := fun z => by subst z; rw [hlI] at hf0; cases hf0
    have hfN : ∀ b o, b ≠ t₁ → H b = some o → b ≠ lf := fun b o nb q z => by subst z; rw [kp b o nb q] at hf0; cases hf0
    have sF := same_new hf0 (.lst [])
    have hf1 : upd HI lf (.lst []) lf = some (.lst []) := upd_same
    have TF := TI.new hf0 (.lst [])
    have hlF := sF _ _ hlI
    generalize upd HI lf (.lst []) = HF at sF hf1 TF hlF ⊢
    obtain ⟨yF, eF⟩ := TF.lst
    refine ⟨_, rfl, _, rfl, _, _, rfl, rfl, .inl ⟨by omega, by omega⟩, _, _, rfl, rfl, t₁, s₁, _, rfl, TF, by omega, by omega, fun rc zc ac bc TC => ?_⟩
    have SC : Step t₁ HF _ := Step.up (ys := zc) eF
    generalize upd HF t₁ (.lst zc) = HC at TC SC ⊢
    refine ⟨_, rfl, _, _, rfl, rfl, .inr ⟨_, rfl, ?_⟩⟩
    refine ⟨_, _, rfl, rfl, .inl ⟨by omega, by omega⟩, ?_⟩
    have cn : ∃ c : Nat, rc * (if decide ((n : Int) > 1) = true then 1 else 0) = (c : Int) ∧ (0 < c → 1 < n) ∧ c ≤ 41 := by
      by_cases z : (n : Int) > 1
      · rw [decide_eq_true z, if_pos rfl]
        exact ⟨rc.toNat, by omega, fun _ => by omega, by omega⟩
      · rw [decide_eq_false z, if_neg (by simp)]
        exact ⟨0, by omega, fun h => absurd h (Nat.lt_irrefl _), by omega⟩
    obtain ⟨c, ec, cn, c41⟩ := cn
    refine ⟨(c : Int), by rw [← ec], by omega, by omega, for_range (lo := 0) (n := (c : Int).toNat) (fun i σ H' => ∃ (xs : List V) (es : List Ln) (x4 x6 x7 x8 : Option V), σ = [some (.ref t₁), some (.int n), some (.ref lo), x4, some (.ref lf), x6, x7, x8] ∧ Tape H' t₁ s₁ ∧ (∀ b o, b ≠ t₁ → b ≠ lf → HF b = some o → H' b = some o) ∧ H' lf = some (.lst xs) ∧ Als (LnV K H') xs es ∧ es.length = i ∧ EsOk n es ∧ ∀ a b, (a, b) ∈ es → ps a < ps b) ⟨[], [], _, none, none, none, rfl, TC, (fun b o nb _ q => SC.keep _ _ nb q), SC.keep _ _ ntf hf1, .nil, rfl, (fun e he => by cases he), fun a b h => by cases h⟩ ?_ ?_⟩
    · rintro i σ H1 hi ⟨xs, es, x4', x6, x7, x8, rfl, T1, kp1, hf, al, hlen1, ok, rk⟩
      have n1 := cn (by omega)
      have hl1 := kp1 _ _ nt nlf hlF
      obtain ⟨y2, e2⟩ := T1.lst
      refine ⟨_, rfl, _, rfl, _, _, rfl, rfl, t₁, s₁, _, rfl, T1, by omega, by omega, fun r2 z2 a2 b2 T2 => ?_⟩
      have S2 : Step t₁ H1 _ := Step.up (ys := z2) e2
      generalize upd H1 t₁ (.lst z2) = H2 at T2 S2 ⊢
      
      obtain ⟨at_, rfl⟩ := Int.eq_ofNat_of_zero_le a2
      obtain ⟨y3, e3⟩ := T2.lst
      refine ⟨_, rfl, _, _, rfl, rfl, _, rfl, _, rfl, _, _, rfl, rfl, _, rfl, _, _, rfl, rfl, t₁, s₁, _, rfl, T2, by omega, by omega, fun r3 z3 a3 b3 T3 => ?_⟩
      have S3 := S2.trans (Step.up (ys := z3) e3)
      generalize upd H2 t₁ (.lst z3) = H3 at T3 S3 ⊢
      refine ⟨_, _, rfl, rfl, ?_⟩
      obtain ⟨to, hto⟩ : ∃ to : Nat, (at_ : Int) + 1 + r3 = (to : Nat) := ⟨((at_ : Int) + 1 + r3).toNat, by omega⟩
      dsimp only
      rw [hto]
      obtain ⟨u, hu⟩ : ∃ u, os[at_]? = some u := ⟨_, List.getElem?_eq_getElem (by omega)⟩
      obtain ⟨w, hw⟩ : ∃ u, os[to]? = some u := ⟨_, List.getElem?_eq_getElem (by omega)⟩
      have hl3 := S3.keep _ _ nt hl1
      have hf3 := S3.keep _ _ ntf hf
      refine ⟨_, rfl, .inl ⟨rfl, _, SqL.of hf3⟩, _, rfl, _, rfl, lo, _, _, _, rfl, rfl, SqL.of hl3, atI_nat (v := V.int (u : Nat)) (by unfold natW; rw [List.getElem?_map, hu]; rfl), _, rfl, _, rfl, lo, _, _, _, rfl, rfl, SqL.of hl3, atI_nat (v := V.int (w : Nat)) (by unfold natW; rw [List.getElem?_map, hw]; rfl), (by show 2 ≤ sizeLine; decide), fun pe hpe => ?_⟩
      have s4 := same_new hpe (.tup [.int (u : Nat), .int (w : Nat)])
      have h4 : SqT K (upd H3 pe (.tup [.int (u : Nat), .int (w : Nat)])) pe [.int (u : Nat), .int (w : Nat)] := SqT.of upd_same
      have T4 := T3.same s4
      generalize upd H3 pe (.tup [.int (u : Nat), .int (w : Nat)]) = H4 at s4 h4 T4 ⊢
      have S4 := S3.trans (Step.same s4 T3.lst)
      have hf4 := S4.keep _ _ ntf hf
      have hxl := al.len
      refine ⟨lf, xs, _, rfl, rfl, hf4, small1000 (by omega), ?_⟩
      have t5 : Tst K H4 (upd H4 lf (.lst (xs ++ [.ref pe]))) := Tst.up hf4 _
      refine ⟨_, es ++ [(u, w)], _, _, _, _, rfl, T4.upl ntf nsf _, fun b o nb nf q => ?_, upd_same, (al.mono fun _ _ q => q.mono ((Tst.step (K := K) S4).trans t5)).snoc ⟨pe, rfl, t5 _ _ h4⟩, by rw [List.length_append, hlen1]; rfl, fun e he => ?_, fun a b h => ?_⟩
      · rw [upd_ne nf]
        exact S4.keep _ _ nb (kp1 b o nb nf q)
      · rcases List.mem_append.mp he with z | z
        · exact ok e z
        · rw [List.mem_singleton.mp z]
          exact ⟨(all u).mp (List.mem_of_getElem? hu), (all w).mp (List.mem_of_getElem? hw)⟩
      · rcases List.mem_append.mp h with z | z
        · exact rk a b z
        · cases List.mem_singleton.mp z
          rw [ps2 _ _ hu, ps2 _ _ hw]
          omega
    · rintro σ H1 ⟨xs, es, x4', x6, x7, x8, rfl, T1, kp1, hf, al, hlen1, ok, rk⟩
      refine ⟨_, rfl, _, rfl, lf, _, rfl, SqL.of hf, fun pc hpc => ?_⟩
      rw [show (40 : Int) = ((40 : Nat) : Int) from rfl, cut_upto]
      have s5 := same_new hpc (.lst (xs.take (min 40 xs.length)))
      refine ⟨pc, _, rfl, .inl ⟨SqL.of upd_same, fun p hp => ?_⟩⟩
      have s6 := same_new hp (.tup (xs.take (min 40 xs.length)))
      have s56 := s5.trans s6
      have kpH : ∀ b o, b ≠ t₁ → H b = some o → H1 b = some o := fun b o nb q => kp1 b o nb (hfN b o nb q) (sF _ _ (kp b o nb q))
      refine k (.ref p) (es.take (min 40 xs.length)) _ (Step.trans ⟨kpH, ⟨_, e0⟩, T1.lst⟩ (Step.same s56 T1.lst)) (T1.same s56) ⟨p, _, rfl, SqT.of upd_same, Als.takeI _ (al.mono fun _ _ q => q.mono (Tst.same s56))⟩ (fun e he => ok e (List.mem_of_mem_take he)) ⟨ps, ps1, fun a b h => rk a b (List.mem_of_mem_take h)⟩ (by rw [List.length_take]; omega)
theorem ok_law_due (T : Txt K mg t) : FnOk P w K mg base CX0 1 t.a_law_due t.d_law_due ["_law_sheet"] (sp_law_due K) := by
  refine T.F_law_due.ok sc_law_due (fun vs H Q E h => ?_) (fun cdv A outer s H vs Q E hr h => ?_)
  · obtain ⟨_, _, _, rfl, _⟩ := h; rfl
  obtain ⟨v, ws, es, rfl, ⟨p, a, b, rfl, hS, wv, lv⟩, ok, h64, ⟨ps, ps1, rk⟩, k⟩ := h
  refine QSs.ok (qss_cons (qs_set (i := 1) sc_law_due.nd rfl (by first | exact Or.inl rfl | exact Or.inr rfl) (qe_lcomp (N' := ["_law_work"]) (src := [none]) rfl (by exact (qi_tup (qe_ix ix_tup (qv 0) qe_int (fun _ _ => rfl)))) (fun _ _ _ _ _ => (by exact (by exact qg_name (i := 0) (by show List.Nodup (["_law_work"] : List Str); decide +kernel) (by exact rfl) (by first | exact Or.inl rfl | exact Or.inr rfl)))) (fun _ _ _ _ _ => qts_nil) (fun _ _ _ _ _ => (by exact (by exact (qe_ix (ix_tupK (K := K) (by exact rfl)) (by exact (qv 0)) qe_int (by exact fun _ _ => rfl))))) (by exact trivial) rfl (by decide +kernel) rfl (by decide +kernel) (by exact cells_of rfl trivial)))
      (qss_cons (qs_set (i := 2) sc_law_due.nd rfl (by first | exact Or.inl rfl | exact Or.inr rfl) (qe_lcomp (N' := ["_law_work"]) (src := [none]) rfl (by exact (qi_tup (qe_ix ix_tup (qv 0) qe_int (fun _ _ => rfl)))) (fun _ _ _ _ _ => (by exact (by exact qg_name (i := 0) (by show List.Nodup (["_law_work"] : List Str); decide +kernel) (by exact rfl) (by first | exact Or.inl rfl | exact Or.inr rfl)))) (fun _ _ _ _ _ => qts_nil) (fun _ _ _ _ _ => (by exact (by exact (qe_ix (ix_tupK (K := K) (by exact rfl)) (by exact (qv 0)) qe_int (by exact fun _ _ => rfl))))) (by exact trivial) rfl (by decide +kernel) rfl (by decide +kernel) (by exact cells_of rfl trivial)))
      (qss_cons (qs_for PassesOwn.never rfl (qi_range1 rfl T.z_range (qa_cons (qe_callB call_len_seq (by rfl) T.z_len PySem.boot_len (qa_cons (qe_ix ix_tup (qv 0) qe_int (fun _ _ => rfl)) qa_nil star_sub)) qa_nil star_call)) (qg_name (i := 3) sc_law_due.nd rfl (by first | exact Or.inl rfl | exact Or.inr rfl))
      (qss_one (qs_for PassesOwn.never rfl (qi_tup (qe_ix ix_tup (qv 0) qe_int (fun _ _ => rfl))) (qg_tup rfl (qgs_cons (qg_name (i := 4) sc_law_due.nd rfl (by first | exact Or.inl rfl | exact Or.inr rfl)) (qgs_cons (qg_name (i := 5) sc_law_due.nd rfl (by first | exact Or.inl rfl | exact Or.inr rfl)) qgs_nil)))
      (qss_cons (qs_asg (qe_callB (call_max2 rfl) (by rfl) T.z_max PyProof.Rows.boot_max (qa_cons (qe_ix ix_list (qv 1) (qv 5) (fun _ _ => rfl)) (qa_cons (qe_ix ix_list (qv 1) (qv 4) (fun _ _ => rfl)) qa_nil star_sub) star_sub)) (qg_sub (qv 1) (qv 5) set_list))
      (qss_one (qs_asg (qe_callB (call_min2 rfl) (by rfl) T.z_min PyProof.Rows.boot_min (qa_cons (qe_ix ix_list (qv 2) (qv 4) (fun _ _ => rfl)) (qa_cons (qe_ix ix_list (qv 2) (qv 5) (fun _ _ => rfl)) qa_nil star_sub) star_sub)) (qg_sub (qv 2) (qv 4) set_list)))))))
      (qss_cons (qs_setC (i := 6) (N' := ["_law_n", "_law_firsts", "_law_lasts"]) (src := [none, some 1, some 2]) sc_law_due.nd rfl (by first | exact Or.inl rfl | exact Or.inr rfl) rfl (by exact (qi_range1 rfl T.z_range (qa_cons (qe_callB call_len_seq (by rfl) T.z_len PySem.boot_len (qa_cons (qv 1) qa_nil star_name)) qa_nil star_call))) (fun _ _ _ _ _ => (by exact (by exact qg_name (i := 0) (by show List.Nodup (["_law_n", "_law_firsts", "_law_lasts"] : List Str); decide +kernel) (by exact rfl) (by first | exact Or.inl rfl | exact Or.inr rfl)))) (fun _ _ _ _ _ => (qts_one (qt_cmpR op_gt (by exact (qe_ix (ix_listK (K := K) (by exact rfl)) (by exact (qv 1)) (by exact (qv 0)) (by exact fun _ _ => rfl))) (by exact (qe_ix (ix_listK (K := K) (by exact rfl)) (by exact (qv 2)) (by exact (qv 0)) (by exact fun _ _ => rfl))) (nomark _)))) (fun _ _ _ _ _ => (by exact (by exact (qv 0)))) (by exact ⟨rfl, rfl, rfl, rfl, ⟨rfl, rfl, rfl, rfl, trivial⟩⟩) rfl (by decide +kernel) rfl (by decide +kernel) (by exact cells_of rfl ⟨rfl, ⟨rfl, trivial⟩⟩))
      (qss_cons (qs_if (qt_cmpR (op_neD hr) (qv 6) (qe_lst qa_nil) (nomark _)) (qss_one (qs_ret (qe_ix ix_list (qv 6) qe_int (fun _ _ => rfl)))) qss_nil)
      (qss_one (qs_ret (qe_callTy call_tuple_of (by rfl) T.z_tuple PyProof.Rows.boot_tuple (qa_cons (qe_lcomp (N' := ["_law_n", "_law_firsts", "_law_lasts", "_law_sheet"]) (src := [none, some 1, some 2, some 0]) rfl (by exact (qi_range1 rfl T.z_range (qa_cons (qe_callB call_len_seq (by rfl) T.z_len PySem.boot_len (qa_cons (qv 1) qa_nil star_name)) qa_nil star_call))) (fun _ _ _ _ _ => (by exact (by exact qg_name (i := 0) (by show List.Nodup (["_law_n", "_law_firsts", "_law_lasts", "_law_sheet"] : List Str); decide +kernel) (by exact rfl) (by first | exact Or.inl rfl | exact Or.inr rfl)))) (fun _ _ _ _ _ => qts_nil) (fun _ _ _ _ _ => (by exact (by exact (qe_tup (qa_cons (by exact (qe_ix (ix_listK (K := K) (by exact rfl)) (by exact (qv 1)) (by exact (qv 0)) (by exact fun _ _ => rfl))) (qa_cons (by exact (qe_ix (ix_listK (K := K) (by exact rfl)) (by exact (qv 2)) (by exact (qv 0)) (by exact fun _ _ => rfl))) (qa_cons (by exact (qe_ix (ix_tupK (K := K) (by exact rfl)) (by exact (qe_ix (ix_tupK (K := K) (by exact rfl)) (by exact (qe_ix (ix_tupK (K := K) (by exact rfl)) (by exact (qv 3)) qe_int (by exact fun _ _ => rfl))) (by exact (qv 0)) (by exact fun _ _ => rfl))) qe_int (by exact fun _ _ => rfl))) qa_nil star_sub) star_sub) star_sub))))) (by exact ⟨rfl, rfl, rfl, rfl, ⟨rfl, rfl, rfl, rfl, ⟨rfl, rfl, rfl, rfl, trivial⟩⟩⟩) rfl (by decide +kernel) rfl (by decide +kernel) (by exact cells_of rfl ⟨rfl, ⟨rfl, ⟨rfl, trivial⟩⟩⟩)) qa_nil star_lc))))))))) ?_
  obtain ⟨pa, xs, rfl, hpa, al⟩ := id wv
  obtain ⟨pb, zs, rfl, hpb, bl⟩ := id lv
  have hxl := al.len
  have hzl := bl.len
  have few := ok.few
  have SA := hpa
  have TT := Tst.refl K H
  refine ⟨_, rfl, p, _, _, _, rfl, rfl, hS, rfl, pa, rfl, ⟨_, SA⟩, fun lf hlf => comp_ix (wlk_tup SA) (fun _ => true) (fun j => V.int ((ws.getD j wk0).1 : Nat)) hlf (by omega) (fun j x H' hj s' hx R E kR kE => ?_) fun H1 sH1 h1 => ?_⟩
  · obtain ⟨w, hw, pw, am, rfl, hpw, _⟩ := al.at hx
    rw [getD_of wk0 hw] at kR
    exact ⟨Ext.set rfl, _, rfl, pw, _, _, _, rfl, rfl, TT.trans (Tst.same (K := K) s') _ _ hpw, rfl, kR rfl _ (Same.refl _)⟩
  rw [show xs.length = ws.length from hxl, show (List.range ws.length).filter (fun _ => true) = List.range ws.length from List.filter_eq_self.mpr fun _ _ => rfl] at h1
  have t1 := Tst.same (K := K) sH1
  have hS1 := t1 _ _ hS
  have SA1 := t1 _ _ hpa
  refine ⟨_, rfl, p, _, _, _, rfl, rfl, hS1, rfl, pa, rfl, ⟨_, SA1⟩, fun ll hll => comp_ix (wlk_tup SA1) (fun _ => true) (fun j => V.int ((ws.getD j wk0).2.1 : Nat)) hll (by omega) (fun j x H' hj s' hx R E kR kE => ?_) fun H2 sH2 h2 => ?_⟩
  · obtain ⟨w, hw, pw, am, rfl, hpw, _⟩ := al.at hx
    rw [getD_of wk0 hw] at kR
    exact ⟨Ext.set rfl, _, rfl, pw, _, _, _, rfl, rfl, t1.trans (Tst.same (K := K) s') _ _ hpw, rfl, kR rfl _ (Same.refl _)⟩
  rw [show xs.length = ws.length from hxl, show (List.range ws.length).filter (fun _ => true) = List.range ws.length from List.filter_eq_self.mpr fun _ _ => rfl] at h2
  have h12 := sH2 _ _ h1
  have s02 := sH1.trans sH2
  have nfl : lf ≠ ll := fun z => by subst z; rw [h1] at hll; cases hll
  have lfN : H lf = none := hlf
  have llN : H ll = none := by
    cases e : H ll with
    | none => rfl
    | some o => rw [sH1 _ _ e] at hll; cases hll
  have c1 : (List.range ws.length).map (fun j => V.int ((ws.getD j wk0).1 : Nat)) = colI ws.length (vF ws) := rfl
  have c2 : (List.range ws.length).map (fun j => V.int ((ws.getD j wk0).2.1 : Nat)) = colI ws.length (fun i => - vL ws i) := List.map_congr_left fun j _ => by show V.int ((ws.getD j wk0).2.1 : Nat) = V.int (- -((ws.getD j wk0).2.1 : Nat)); rw [Int.neg_neg]
  rw [c1] at h12
  rw [c2] at h2
  have t02 := Tst.same (K := K) s02
  have sok := swp_ok ok.es
  have srk : ∀ a b, (a, b) ∈ swp es → (ws.length - 1 - ps a) < (ws.length - 1 - ps b) := fun a b m => by
    have m' := swp_mem.mp m
    have := rk b a m'
    have := ps1 b (ok.es _ m').1
    have := ps1 a (ok.es _ m').2
    omega
  refine ⟨_, rfl, p, _, _, _, rfl, rfl, t02 _ _ hS, rfl, pa, _, rfl, .inr (t02 _ _ hpa), _, rfl, by omega, by omega, for_range (lo := 0) (n := (xs.length : Int).toNat) (fun r σ H' => ∃ (F G : Nat → Int) (x4 x5 x6 : Option V), σ = [some (.ref p), some (.ref lf), some (.ref ll), x4, x5, x6, none] ∧ Same H H' ∧ H' lf = some (.lst (colI ws.length F)) ∧ H' ll = some (.lst (colI ws.length fun i => - G i)) ∧ Rx ws.length es (vF ws) ps r 0 F ∧ Rx ws.length (swp es) (vL ws) (fun i => ws.length - 1 - ps i) r 0 G) ⟨vF ws, vL ws, none, none, none, rfl, s02, h12, h2, Rx.init _ _ _ _, Rx.init _ _ _ _⟩ ?_ ?_⟩
  · rintro r σ H3 hr_ ⟨F, G, x4, x5, x6, rfl, s3, hf3, hl3, rF, rG⟩
    have t3 := Tst.same (K := K) s3
    refine ⟨_, rfl, p, _, _, _, rfl, rfl, t3 _ _ hS, rfl, pb, rfl, ⟨_, t3 _ _ hpb⟩, for_tup (K := K) (a := pb) (xs := zs) (fun i σ H' => ∃ (F G : Nat → Int) (x5 x6 : Option V), σ = [some (.ref p), some (.ref lf), some (.ref ll), some (.int (0 + (r : Int))), x5, x6, none] ∧ Same H H' ∧ H' lf = some (.lst (colI ws.length F)) ∧ H' ll = some (.lst (colI ws.length fun i => - G i)) ∧ Rx ws.length es (vF ws) ps r i F ∧ Rx ws.length (swp es) (vL ws) (fun i => ws.length - 1 - ps i) r i G) ⟨F, G, _, _, rfl, s3, hf3, hl3, rF, rG⟩ (fun i σ H' _ ⟨_, _, _, _, _, s', _⟩ => Tst.same (K := K) s' _ _ hpb) ?_ ?_⟩
    · rintro i x σ H4 hx ⟨F, G, x5, x6, rfl, s4, hf4, hl4, rF, rG⟩
      obtain ⟨⟨a, b⟩, hd, pe, rfl, hpe⟩ := bl.at hx
      have eb := ok.es _ (List.mem_of_getElem? hd)
      have ha : a < ws.length := eb.1
      have hb : b < ws.length := eb.2
      refine ⟨pe, _, rfl, Tst.same (K := K) s4 _ _ hpe, rfl, _, _, rfl, _, _, rfl, rfl, ?_⟩
      refine ⟨_, rfl, _, rfl, lf, _, _, _, rfl, rfl, SqL.of hf4, atI_nat (colI_at hb), _, rfl, _, rfl, lf, _, _, _, rfl, rfl, SqL.of hf4, atI_nat (colI_at ha), _, _, rfl, ?_⟩
      refine ⟨_, rfl, _, rfl, lf, _, _, b, rfl, rfl, hf4, ixN_nat (by rw [colI_len]; exact hb), ?_⟩
      have eF : (colI ws.length F).set b (.int (if F a > F b then F a else F b)) = colI ws.length (rxUp F a b) := by
        rw [colI_set hb]
        congr 1
        funext i
        unfold rxUp
        by_cases z : i = b
        · rw [if_pos z, if_pos z]; split <;> omega
        · rw [if_neg z, if_neg z]
      rw [eF]
      have hl5 : upd H4 lf (.lst (colI ws.length (rxUp F a b))) ll = some (.lst (colI ws.length fun i => - G i)) := by rw [upd_ne (fun z => nfl z.symm)]; exact hl4
      refine ⟨_, rfl, _, rfl, ll, _, _, _, rfl, rfl, SqL.of hl5, atI_nat (colI_at ha), _, rfl, _, rfl, ll, _, _, _, rfl, rfl, SqL.of hl5, atI_nat (colI_at hb), _, _, rfl, ?_⟩
      refine ⟨_, rfl, _, rfl, ll, _, _, a, rfl, rfl, hl5, ixN_nat (by rw [colI_len]; exact ha), ?_⟩
      have eG : (colI ws.length fun i => - G i).set a (.int (if - G b < - G a then - G b else - G a)) = colI ws.length (fun i => - rxUp G b a i) := by
        rw [colI_set ha]
        congr 1
        funext i
        unfold rxUp
        by_cases z : i = a
        · rw [if_pos z, if_pos z]; split <;> omega
        · rw [if_neg z, if_neg z]
      rw [eG]
      refine ⟨rxUp F a b, rxUp G b a, _, _, rfl, fun c o q => ?_, by rw [upd_ne nfl, upd_same], upd_same, rF.step ok.es rk hd, rG.step sok srk (swp_at hd)⟩
      rw [upd_ne (ne_of_none q llN), upd_ne (ne_of_none q lfN)]
      exact s4 _ _ q
    · rintro σ H4 ⟨F, G, x5, x6, rfl, s4, hf4, hl4, rF, rG⟩
      rw [hzl] at rF rG
      refine ⟨F, G, _, _, _, rfl, s4, hf4, hl4, rF.round ok.es, Rx.round (by rw [swp_len]; exact rG) sok⟩
  · rintro σ H3 ⟨F, G, x4, x5, x6, rfl, s3, hf3, hl3, rF, rG⟩
    rw [show (xs.length : Int).toNat = ws.length by omega] at rF rG
    have win : WinI ws es F (fun i => - G i) := by
      refine ⟨rF.top ps1, ?_⟩
      have : (fun i => - (fun i => - G i) i) = G := funext fun i => Int.neg_neg _
      rw [this]
      exact rG.top fun i hi => by have := ps1 i hi; omega
    generalize hl_ : (fun i => - G i) = l_ at hl3 win
    have t3 := Tst.same (K := K) s3
    refine ⟨_, rfl, lf, _, rfl, .inl (SqL.of hf3), _, rfl, by rw [colI_len]; omega, by rw [colI_len]; omega, ?_⟩
    rw [colI_len, show (ws.length : Int).toNat = ws.length by omega]
    refine fun D hD => comp_ix (wlk_rng (lo := 0) (n := ws.length)) (fun i => decide (l_ i < F i)) (fun i => V.int (i : Nat)) hD (by omega) (fun i x H' hi s' hx R E kR kE => ?_) fun H4 s4 h4 => ?_
    · subst hx
      rw [Int.zero_add]
      refine ⟨Ext.set rfl, ?_⟩
      refine ⟨_, rfl, _, rfl, lf, _, _, _, rfl, rfl, s'.seq (SqL.of hf3), atI_nat (colI_at hi), _, rfl, _, rfl, ll, _, _, _, rfl, rfl, s'.seq (SqL.of hl3), atI_nat (colI_at hi), _, _, rfl, rfl, _, rfl, ?_⟩
      by_cases c : l_ i < F i
      · exact iteD1 c ⟨_, rfl, kR (decide_eq_true c) _ (Same.refl _)⟩
      · exact iteD0 c (kE (decide_eq_false c) _ (Same.refl _))
    generalize hbl : (List.range ws.length).filter (fun i => decide (l_ i < F i)) = bad at h4
    have s04 := s3.trans s4
    refine ⟨_, rfl, (by show 0 ≤ sizeLine; exact Nat.zero_le _), fun q hq => ?_⟩
    have s5 := same_new hq (.lst [])
    have lb : bad.length ≤ ws.length := by rw [← hbl]; exact Nat.le_trans (List.length_filter_le _ _) (by rw [List.length_range]; exact Nat.le_refl _)
    refine ⟨.list (bad.map fun i : Nat => PyData.int i), .list [], .lst (SqL.of (s5 _ _ h4)) (natL bad), .lst (SqL.of upd_same) .nil, layAll_of (fun d hd => by obtain ⟨i, _, rfl⟩ := List.mem_map.mp hd; rfl), rfl, natL_depth bad, _, rfl, ?_⟩
    have s05 := s04.trans s5
    generalize upd H4 q (.lst []) = H5 at s5 s05 ⊢
    cases bad with
    | cons i r =>
      refine iteT ?_
      refine ⟨_, rfl, D, _, _, _, rfl, rfl, SqL.of (s5 _ _ h4), atI_nat (j := 0) (v := V.int (i : Nat)) rfl, ?_⟩
      have rs : resM ws F l_ = .int (i : Nat) := by
        unfold resM badM
        rw [← List.head?_filter, hbl]
        rfl
      refine k F l_ _ H5 s05 win ?_
      rw [rs]
      exact .int _
    | nil =>
      refine iteF ?_
      have rs : resM ws F l_ = .tuple ((List.range ws.length).map (dDr ws F l_)) := by
        unfold resM badM
        rw [← List.head?_filter, hbl]
        rfl
      have hf5 := s5 _ _ (s4 _ _ hf3)
      have hl5 := s5 _ _ (s4 _ _ hl3)
      have t5 := Tst.same (K := K) s05
      refine ⟨_, rfl, lf, _, rfl, .inl (SqL.of hf5), _, rfl, by rw [colI_len]; omega, by rw [colI_len]; omega, ?_⟩
      rw [colI_len, show (ws.length : Int).toNat = ws.length by omega]
      refine fun D2 hD2 => comp_own (J := Itr 0 ws.length) (n := ws.length) (fun i ys H' => ys.length = i ∧ Same H5 H' ∧ H' D2 = some (.lst ys) ∧ DeepAll K H' ys ((List.range i).map (dDr ws F l_))) ⟨rfl, same_new hD2 _, upd_same, .nil⟩ (fun i ys H' hi _ => hi) (fun ys H' ⟨e1, e2, e3, e4⟩ => ⟨Nat.le_refl _, ?_⟩) ?_
      · refine ⟨D2, _, rfl, .inl ⟨SqL.of e3, fun pt hpt => ?_⟩⟩
        have s6 := same_new hpt (.tup ys)
        refine k F l_ (.ref pt) _ ((s05.trans e2).trans s6) win ?_
        rw [rs]
        exact .tup (SqT.of upd_same) (tupAll (Tst.same s6) e4)
      · rintro i ys H6 x H7 hi ⟨e1, e2, e3, e4⟩ ⟨rfl, rfl⟩ R E kR kE
        rw [Int.zero_add]
        obtain ⟨x, hx⟩ : ∃ x, xs[i]? = some x := ⟨_, List.getElem?_eq_getElem (by omega)⟩
        obtain ⟨w, hw, pw, am, rfl, hpw, ram⟩ := al.at hx
        have t6 := t5.trans (Tst.same (K := K) e2)
        refine ⟨Ext.set rfl, ?_⟩
        refine ⟨_, rfl, _, rfl, lf, _, _, _, rfl, rfl, e2.seq (SqL.of hf5), atI_nat (colI_at hi), _, rfl, _, rfl, ll, _, _, _, rfl, rfl, e2.seq (SqL.of hl5), atI_nat (colI_at hi), _, rfl, p, _, _, _, rfl, rfl, t6 _ _ hS, rfl, _, rfl, pa, _, _, _, rfl, rfl, t6 _ _ hpa, atI_nat hx, pw, _, _, _, rfl, rfl, t6 _ _ hpw, rfl, (by show 3 ≤ sizeLine; decide), fun pn hpn => ?_⟩
        have s7 := same_new hpn (.tup [.int (F i), .int (l_ i), am])
        have hD4 := s7 _ _ e3
        refine kR (.ref pn) _ hD4 (small1000 (by omega)) ⟨by rw [List.length_append, e1]; rfl, fun c o q => ?_, upd_same, ?_⟩
        · rw [upd_ne (ne_of_none q hD2)]
          exact s7 _ _ (e2 _ _ q)
        · have tN : Tst K (upd _ pn (.tup [.int (F i), .int (l_ i), am])) (upd (upd _ pn (.tup [.int (F i), .int (l_ i), am])) D2 (.lst (ys ++ [.ref pn]))) := Tst.up hD4 _
          rw [List.range_succ, List.map_append]
          refine deepAll_app (tupAll ((Tst.same (K := K) s7).trans tN) e4) (.cons ?_ .nil)
          unfold dDr
          rw [getD_of wk0 hw]
          exact .tup (tN _ _ (SqT.of upd_same)) (.cons (.int _) (.cons (.int _) (.cons ((((ram.mono t6).mono (Tst.same s7)).mono tN)).deep .nil)))
theorem ok_NoRoom (T : Txt K mg t) : FnOk P w K mg base CX0 2 t.a_NoRoom t.d_NoRoom ["self", "work"] (sp_NoRoom K t.c_NoRoom) := by
  refine T.F_NoRoom.ok sc_NoRoom (fun vs H Q E h => ?_) (fun cdv A outer s H vs Q E hr h => ?_)
  · obtain ⟨_, _, rfl, _⟩ := h; rfl
  obtain ⟨a, n, rfl, ha, k⟩ := h
  refine QSs.ok (qss_one (qs_fldE rfl (qv 0) (qe_call (ok_copied T) (hr.mono (by decide)) rfl T.m_copied T.F_copied.kp T.b_copied .nil pass0 (qa_cons (qv 1) qa_nil star_name)) rfl)) ?_
  exact ⟨_, rfl, n, rfl, _, rfl, a, _, _, rfl, T.X_NoRoom.cl, T.n_NoRoom_work, .inl ⟨ha, fun d hd nd => k d hd nd⟩⟩
theorem ok_drawn_in (T : Txt K mg t) : FnOk P w K mg base (CXD P w) 4 t.a_drawn_in t.d_drawn_in ["sheet"] (sp_drawn_in K t.c_NoRoom) := by
  refine B.Fun.okD T.F_drawn_in sc_drawn_in (fun vs H Q E h => ?_) (fun cdv A outer s H vs Q E hr h => ?_)
  · obtain ⟨_, _, _, rfl, _⟩ := h; rfl
  obtain ⟨v, ws, es, rfl, ⟨p, a, b, rfl, hS, wv, lv⟩, ok, k, ke⟩ := h
  refine QSs.ok (qss_cons (qs_set (i := 1) sc_drawn_in.nd rfl (by first | exact Or.inl rfl | exact Or.inr rfl) (qe_ix ix_tup (qv 0) qe_int (fun _ _ => rfl)))
      (qss_cons (qs_set (i := 2) sc_drawn_in.nd rfl (by first | exact Or.inl rfl | exact Or.inr rfl) (qe_call (ok_all_leanings T) (hr.mono (by decide)) rfl T.m_all_leanings T.F_all_leanings.kp T.b_all_leanings .nil pass0 (qa_cons (qe_callB call_len_seq (by rfl) T.z_len PySem.boot_len (qa_cons (qv 1) qa_nil star_name)) (qa_cons (qe_ix ix_tup (qv 0) qe_int (fun _ _ => rfl)) qa_nil star_sub) star_call)))
      (qss_cons (qs_set (i := 3) sc_drawn_in.nd rfl (by first | exact Or.inl rfl | exact Or.inr rfl) (qe_lst qa_nil))
      (qss_cons (qs_for PassesOwn.leaving rfl (qi_enum rfl T.z_enumerate (qa_cons (qv 1) qa_nil star_name)) (qg_tup rfl (qgs_cons (qg_name (i := 4) sc_drawn_in.nd rfl (by first | exact Or.inl rfl | exact Or.inr rfl)) (qgs_cons (qg_name (i := 5) sc_drawn_in.nd rfl (by first | exact Or.inl rfl | exact Or.inr rfl)) qgs_nil)))
      (qss_cons (qs_setC (i := 6) (N' := ["base", "other", "leanings", "number"]) (src := [none, none, some 2, some 4]) sc_drawn_in.nd rfl (by first | exact Or.inl rfl | exact Or.inr rfl) rfl (by exact (qi_enum rfl T.z_enumerate (qa_cons (qv 1) qa_nil star_name))) (fun _ _ _ _ _ => (by exact (by exact qg_tupK (K := K) (n := 2) (by exact rfl) (by exact rfl) (by exact qgs_cons (by exact qg_name (i := 0) (by show List.Nodup (["base", "other", "leanings", "number"] : List Str); decide +kernel) (by exact rfl) (by first | exact Or.inl rfl | exact Or.inr rfl)) (by exact qgs_cons (by exact qg_name (i := 1) (by show List.Nodup (["base", "other", "leanings", "number"] : List Str); decide +kernel) (by exact rfl) (by first | exact Or.inl rfl | exact Or.inr rfl)) qgs_nil))))) (fun _ _ _ _ _ => (qts_one (qt_val (by exact (qe_ix (ix_listK (K := K) (by exact rfl)) (by exact (qe_ix (ix_listK (K := K) (by exact rfl)) (by exact (qv 2)) (by exact (qv 3)) (by exact fun _ _ => rfl))) (by exact (qv 0)) (by exact fun _ _ => rfl)))))) (fun _ _ _ _ _ => (by exact (by exact (qe_ix (ix_tupK (K := K) (by exact rfl)) (by exact (qv 1)) qe_int (by exact fun _ _ => rfl))))) (by exact ⟨rfl, rfl, rfl, rfl, ⟨rfl, rfl, rfl, rfl, trivial⟩⟩) rfl (by decide +kernel) rfl (by decide +kernel) (by exact cells_of rfl ⟨rfl, ⟨rfl, trivial⟩⟩))
      (qss_cons (qs_setC (i := 7) (N' := ["leaner", "other", "number", "leanings"]) (src := [none, none, some 4, some 2]) sc_drawn_in.nd rfl (by first | exact Or.inl rfl | exact Or.inr rfl) rfl (by exact (qi_enum rfl T.z_enumerate (qa_cons (qv 1) qa_nil star_name))) (fun _ _ _ _ _ => (by exact (by exact qg_tupK (K := K) (n := 2) (by exact rfl) (by exact rfl) (by exact qgs_cons (by exact qg_name (i := 0) (by show List.Nodup (["leaner", "other", "number", "leanings"] : List Str); decide +kernel) (by exact rfl) (by first | exact Or.inl rfl | exact Or.inr rfl)) (by exact qgs_cons (by exact qg_name (i := 1) (by show List.Nodup (["leaner", "other", "number", "leanings"] : List Str); decide +kernel) (by exact rfl) (by first | exact Or.inl rfl | exact Or.inr rfl)) qgs_nil))))) (fun _ _ _ _ _ => (qts_one (qt_val (by exact (qe_ix (ix_listK (K := K) (by exact rfl)) (by exact (qe_ix (ix_listK (K := K) (by exact rfl)) (by exact (qv 3)) (by exact (qv 0)) (by exact fun _ _ => rfl))) (by exact (qv 2)) (by exact fun _ _ => rfl)))))) (fun _ _ _ _ _ => (by exact (by exact (qe_ix (ix_tupK (K := K) (by exact rfl)) (by exact (qv 1)) qe_int (by exact fun _ _ => rfl))))) (by exact ⟨rfl, rfl, rfl, rfl, ⟨rfl, rfl, rfl, rfl, trivial⟩⟩) rfl (by decide +kernel) rfl (by decide +kernel) (by exact cells_of rfl ⟨rfl, ⟨rfl, trivial⟩⟩))
      (qss_cons (qs_set (i := 8) sc_drawn_in.nd rfl (by first | exact Or.inl rfl | exact Or.inr rfl) (qe_callB (call_maxL rfl) (by rfl) T.z_max PyProof.Rows.boot_max (qa_cons (qe_op op_cat (qe_lst (qa_cons (qe_ix ix_tup (qv 5) qe_int (fun _ _ => rfl)) qa_nil star_sub)) (qv 6)) qa_nil star_bin)))
      (qss_cons (qs_set (i := 9) sc_drawn_in.nd rfl (by first | exact Or.inl rfl | exact Or.inr rfl) (qe_callB (call_minL rfl) (by rfl) T.z_min PyProof.Rows.boot_min (qa_cons (qe_op op_cat (qe_lst (qa_cons (qe_ix ix_tup (qv 5) qe_int (fun _ _ => rfl)) qa_nil star_sub)) (qv 7)) qa_nil star_bin)))
      (qss_cons (qs_if (qt_cmpR op_gt (qv 8) (qv 9) (nomark _)) (qss_one (qs_raiseD T.X_NoRoom (vm_has _) rfl takesD (ok_NoRoom T) (hr.mono (by decide)) T.b_NoRoom rfl T.m_NoRoom (qa_cons (qv 4) qa_nil star_name))) qss_nil)
      (qss_one (qs_expr (qe_bm PySem.F.plainAttrs_list PySem.F.slot_list_append PySem.F.type_list_append mt_append (qv 3) (qa_cons (qe_tup (qa_cons (qv 8) (qa_cons (qv 9) (qa_cons (qe_ix ix_tup (qv 5) qe_int (fun _ _ => rfl)) qa_nil star_sub) star_name) star_name)) qa_nil star_tup))))))))))
      (qss_one (qs_ret (qe_callTy call_tuple_of (by rfl) T.z_tuple PyProof.Rows.boot_tuple (qa_cons (qv 3) qa_nil star_name)))))))) ?_
  obtain ⟨pa, xs, rfl, hpa, al⟩ := id wv
  have hxl := al.len
  have few := ok.few
  obtain ⟨f, l_, win⟩ := WinI.ex ws es
  refine ⟨_, rfl, p, _, _, _, rfl, rfl, hS, rfl, ?_⟩
  refine ⟨_, rfl, pa, _, rfl, .inr hpa, _, rfl, p, _, _, _, rfl, rfl, hS, rfl, ws.length, b, es, (by rw [hxl]; rfl), lv, ok.es, by omega, fun l rows L H1 s1 MX1 clo => ?_⟩
  refine ⟨(by show 0 ≤ sizeLine; exact Nat.zero_le _), fun dl hdl => ?_⟩
  have s2 := same_new hdl (.lst [])
  have hd2 : upd H1 dl (.lst []) dl = some (.lst []) := upd_same
  have MX2 := MX1.same s2
  have s02 := s1.trans s2
  generalize upd H1 dl (.lst []) = H2 at s2 hd2 MX2 s02 ⊢
  have hdN : H dl = none := by
    cases e : H dl with
    | none => rfl
    | some o => rw [s1 _ _ e] at hdl; cases hdl
  have ndl : dl ≠ l := fun z => by subst z; rw [MX1.top] at hdl; cases hdl
  have ndr : dl ∉ rows := fun z => by obtain ⟨ys, e⟩ := MX1.ls _ z; rw [hdl] at e; cases e
  have t02 := Tst.same (K := K) s02
  have mst : ∀ H', Step dl H2 H' → Mtx H' l rows ws.length L := fun H' S => ⟨S.keep _ _ (fun z => ndl z.symm) MX2.top, MX2.len, MX2.nd, MX2.ne, fun i r e => S.keep _ _ (fun z => ndr (by rw [← z]; exact List.mem_of_getElem? e)) (MX2.row i r e)⟩
  have sst : ∀ H', Step dl H2 H' → Same H H' := fun H' S b' o e => S.keep b' o (fun z => by subst z; rw [hdN] at e; cases e) (s02 _ _ e)
  refine ⟨_, rfl, pa, rfl, ⟨_, t02 _ _ hpa⟩, for_enum (K := K) (a := pa) (xs := xs) (fun i σ H' => ∃ (ys : List V) (x5 x6 x7 x8 x9 x10 : Option V), σ = [some (.ref p), some (.ref pa), some (.ref l), some (.ref dl), x5, x6, x7, x8, x9, x10] ∧ Step dl H2 H' ∧ H' dl = some (.lst ys) ∧ ys.length = i ∧ DeepAll K H' ys ((List.range i).map (dDr ws f l_)) ∧ ∀ j, j < i → f j ≤ l_ j) ⟨[], none, none, none, none, none, none, rfl, Step.refl ⟨_, hd2⟩, hd2, rfl, .nil, fun j hj => absurd hj (Nat.not_lt_zero _)⟩ (fun i σ H' _ ⟨_, _, _, _, _, _, _, _, S, _⟩ => Tst.step (K := K) S _ _ (t02 _ _ hpa)) ?_ ?_⟩
  · rintro i x pe σ H3 hx ⟨ys, x5, x6, x7, x8, x9, x10, rfl, S3, hd3, hys, dp, le⟩ hpe
    have hi : i < ws.length := by have := (List.getElem?_eq_some_iff.mp hx).1; omega
    obtain ⟨w, hw, pw, am, rfl, hpw, ram⟩ := al.at hx
    have ewi : ws.getD i wk0 = w := getD_of wk0 hw
    have wok := ok.ok w (List.mem_of_getElem? hw)
    have s4 := same_new hpe (.tup [.int i, .ref pw])
    have hpe4 : upd H3 pe (.tup [.int i, .ref pw]) pe = some (.tup [.int i, .ref pw]) := upd_same
    generalize upd H3 pe (.tup [.int i, .ref pw]) = H4 at s4 hpe4 ⊢
    have S4 := S3.trans (Step.same s4 ⟨_, hd3⟩)
    have t4 := t02.trans (Tst.step (K := K) S4)
    refine ⟨pe, _, rfl, SqT.of hpe4, rfl, _, _, rfl, _, _, rfl, rfl, ?_⟩
    have MX := mst _ S4
    have SM := t4
    refine ⟨_, rfl, pa, rfl, ⟨_, (SM _ _ hpa)⟩, fun D1 hD1 => comp_ix (wlk_enT ((SM _ _ hpa))) (fun j => L i j) (fun j => V.int ((ws.getD j wk0).1 : Nat)) hD1 (by omega) (fun j y H' hj s' hy R E kR kE => ?_) fun H5 s5 h5 => ?_⟩
    · obtain ⟨pt, x', rfl, hx', hpt⟩ := hy
      obtain ⟨w', hw', pw', am', rfl, hpw', _⟩ := al.at hx'
      have ew : ws.getD j wk0 = w' := getD_of wk0 hw'
      rw [ew] at kR
      have Ms := MX.same s'
      obtain ⟨rr, hrr⟩ : ∃ r, rows[i]? = some r := ⟨_, List.getElem?_eq_getElem (by rw [MX.len]; omega)⟩
      refine ⟨pt, _, rfl, SqT.of hpt, rfl, _, _, rfl, _, _, rfl, rfl, (Ext.set rfl).set' rfl, ?_⟩
      refine ⟨_, rfl, _, rfl, l, _, _, _, rfl, rfl, SqL.of Ms.top, atI_nat (v := V.ref rr) (by rw [List.getElem?_map, hrr]; rfl), _, rfl, rr, _, _, _, rfl, rfl, SqL.of (Ms.row _ _ hrr), atI_nat (rowB_at (by omega)), _, rfl, ?_⟩
      cases cl : L i j with
      | true =>
        exact iteT ⟨_, rfl, pw', _, _, _, rfl, rfl, SM.trans (Tst.same (K := K) s') _ _ hpw', rfl, kR cl _ (Same.refl _)⟩
      | false => exact iteF (kE cl _ (Same.refl _))
    rw [show xs.length = ws.length from hxl] at h5
    have MX5 := MX.same s5
    have SM5 := SM.trans (Tst.same (K := K) s5)
    refine ⟨_, rfl, pa, rfl, ⟨_, (SM5 _ _ hpa)⟩, fun D2 hD2 => comp_ix (wlk_enT ((SM5 _ _ hpa))) (fun j => L j i) (fun j => V.int ((ws.getD j wk0).2.1 : Nat)) hD2 (by omega) (fun j y H' hj s' hy R E kR kE => ?_) fun H6 s6 h6 => ?_⟩
    · obtain ⟨pt, x', rfl, hx', hpt⟩ := hy
      obtain ⟨w', hw', pw', am', rfl, hpw', _⟩ := al.at hx'
      have ew : ws.getD j wk0 = w' := getD_of wk0 hw'
      rw [ew] at kR
      have Ms := MX5.same s'
      obtain ⟨rr, hrr⟩ : ∃ r, rows[j]? = some r := ⟨_, List.getElem?_eq_getElem (by rw [MX5.len]; omega)⟩
      refine ⟨pt, _, rfl, SqT.of hpt, rfl, _, _, rfl, _, _, rfl, rfl, (Ext.set rfl).set' rfl, ?_⟩
      refine ⟨_, rfl, _, rfl, l, _, _, _, rfl, rfl, SqL.of Ms.top, atI_nat (v := V.ref rr) (by rw [List.getElem?_map, hrr]; rfl), _, rfl, rr, _, _, _, rfl, rfl, SqL.of (Ms.row _ _ hrr), atI_nat (rowB_at (by omega)), _, rfl, ?_⟩
      cases cl : L j i with
      | true =>
        exact iteT ⟨_, rfl, pw', _, _, _, rfl, rfl, SM5.trans (Tst.same (K := K) s') _ _ hpw', rfl, kR cl _ (Same.refl _)⟩
      | false => exact iteF (kE cl _ (Same.refl _))
    rw [show xs.length = ws.length from hxl] at h6
    have s46 := s5.trans s6
    have h5' := s6 _ _ h5
    have t6 := SM5.trans (Tst.same (K := K) s6)
    refine ⟨_, rfl, pw, _, _, _, rfl, rfl, t6 _ _ hpw, rfl, (by show 1 ≤ sizeLine; decide), fun q1 hq1 => ?_⟩
    have s7 := same_new hq1 (.lst [.int (w.1 : Nat)])
    have l1 : ((List.range ws.length).filter fun j => L i j).length ≤ ws.length := Nat.le_trans (List.length_filter_le _ _) (by rw [List.length_range]; exact Nat.le_refl _)
    have l2 : ((List.range ws.length).filter fun j => L j i).length ≤ ws.length := Nat.le_trans (List.length_filter_le _ _) (by rw [List.length_range]; exact Nat.le_refl _)
    refine ⟨_, rfl, q1, D1, _, _, rfl, rfl, upd_same, s7 _ _ h5', Nat.le_of_lt (small1000 (by rw [List.length_map]; show 1 + _ ≤ 1000; omega)), fun q2 hq2 => ?_⟩
    have s8 := same_new hq2 (.lst ([.int (w.1 : Nat)] ++ ((List.range ws.length).filter fun j => L i j).map fun j => V.int ((ws.getD j wk0).1 : Nat)))
    have e8 : [V.int (w.1 : Nat)] ++ (((List.range ws.length).filter fun j => L i j).map fun j => V.int ((ws.getD j wk0).1 : Nat)) = ((w.1 : Int) :: ((List.range ws.length).filter fun j => L i j).map fun j => ((ws.getD j wk0).1 : Int)).map V.int := by rw [List.map_cons, List.map_map]; rfl
    refine ⟨q2, _, rfl, SqL.of (by rw [← e8]; exact upd_same), by rw [List.length_cons]; omega, fun M hM hB => ?_⟩
    have eM : M = f i := by
      obtain ⟨j0, hj0, z0, q0⟩ := win.a.att i hi
      have u1 : f i ≤ M := by
        rw [q0]
        refine hB _ ?_
        rcases z0 with z0 | z0
        · subst z0
          unfold vF
          rw [ewi]
          exact List.mem_cons_self
        · exact List.mem_cons_of_mem _ (List.mem_map.mpr ⟨j0, List.mem_filter.mpr ⟨List.mem_range.mpr hj0, (clo i j0 hi hj0).mpr z0⟩, rfl⟩)
      have u2 : M ≤ f i := by
        rcases List.mem_cons.mp hM with z | z
        · have := win.a.up i i hi hi (.inl rfl)
          unfold vF at this
          rw [ewi] at this
          omega
        · obtain ⟨j, hj, rfl⟩ := List.mem_map.mp z
          obtain ⟨hj1, hj2⟩ := List.mem_filter.mp hj
          exact win.a.up i j hi (List.mem_range.mp hj1) (.inr ((clo i j hi (List.mem_range.mp hj1)).mp hj2))
      omega
    rw [eM]
    have s78 := s7.trans s8
    clear hM hB eM
    have h6' := s78 _ _ h6
    have t8 := t6.trans (Tst.same (K := K) s78)
    refine ⟨_, rfl, pw, _, _, _, rfl, rfl, t8 _ _ hpw, rfl, (by show 1 ≤ sizeLine; decide), fun q3 hq3 => ?_⟩
    have s9 := same_new hq3 (.lst [.int (w.2.1 : Nat)])
    refine ⟨_, rfl, q3, D2, _, _, rfl, rfl, upd_same, s9 _ _ h6', Nat.le_of_lt (small1000 (by rw [List.length_map]; show 1 + _ ≤ 1000; omega)), fun q4 hq4 => ?_⟩
    have sA := same_new hq4 (.lst ([.int (w.2.1 : Nat)] ++ ((List.range ws.length).filter fun j => L j i).map fun j => V.int ((ws.getD j wk0).2.1 : Nat)))
    have eA : [V.int (w.2.1 : Nat)] ++ (((List.range ws.length).filter fun j => L j i).map fun j => V.int ((ws.getD j wk0).2.1 : Nat)) = ((w.2.1 : Int) :: ((List.range ws.length).filter fun j => L j i).map fun j => ((ws.getD j wk0).2.1 : Int)).map V.int := by rw [List.map_cons, List.map_map]; rfl
    refine ⟨q4, _, rfl, SqL.of (by rw [← eA]; exact upd_same), by rw [List.length_cons]; omega, fun M hM hB => ?_⟩
    have eM : M = l_ i := by
      obtain ⟨j0, hj0, z0, q0⟩ := win.b.att i hi
      have u1 : M ≤ l_ i := by
        have q0' : - l_ i = -((ws.getD j0 wk0).2.1 : Int) := q0
        have : l_ i = ((ws.getD j0 wk0).2.1 : Int) := by omega
        rw [this]
        refine hB _ ?_
        rcases z0 with z0 | z0
        · subst z0
          rw [ewi]
          exact List.mem_cons_self
        · exact List.mem_cons_of_mem _ (List.mem_map.mpr ⟨j0, List.mem_filter.mpr ⟨List.mem_range.mpr hj0, (clo j0 i hj0 hi).mpr (swp_rch.mp z0)⟩, rfl⟩)
      have u2 : l_ i ≤ M := by
        rcases List.mem_cons.mp hM with z | z
        · have := win.b.up i i hi hi (.inl rfl)
          unfold vL at this
          rw [ewi] at this
          have : -(w.2.1 : Int) ≤ - l_ i := this
          omega
        · obtain ⟨j, hj, rfl⟩ := List.mem_map.mp z
          obtain ⟨hj1, hj2⟩ := List.mem_filter.mp hj
          have := win.b.up i j hi (List.mem_range.mp hj1) (.inr (swp_rch.mpr ((clo j i (List.mem_range.mp hj1) hi).mp hj2)))
          have : -((ws.getD j wk0).2.1 : Int) ≤ - l_ i := this
          omega
      omega
    rw [eM]
    clear hM hB eM
    have s9A := s9.trans sA
    have s4A := (s46.trans s78).trans s9A
    generalize upd (upd (upd (upd H6 q1 _) q2 _) q3 _) q4 _ = HA at s9A s4A ⊢
    have SA := S4.trans (Step.same s4A ⟨_, s4 _ _ hd3⟩)
    refine ⟨_, rfl, _, rfl, _, _, rfl, rfl, _, rfl, ?_⟩
    by_cases c : l_ i < f i
    · refine iteD1 c ?_
      have rs : resM ws f l_ = .int (i : Nat) := by unfold resM; rw [bad_some hi c le]
      refine ⟨_, rfl, (by show 1 ≤ sizeLine; decide), fun xx hxx => ⟨xx, _, rfl, upd_same, fun d hd nd => ⟨rfl, some d, by rw [upd_ne nd.symm, upd_same], ?_⟩⟩⟩
      refine ke f l_ i d _ ((sst _ SA).trans (del_same (o0 := exO xx t.c_NoRoom none) hxx fun b' o nb q => ?_)) win rs (by rw [del_at nd, upd_same])
      have hd' : upd HA xx (exO xx t.c_NoRoom none) d = none := hd
      rw [upd_ne (ne_of_none q hd'), upd_ne nb]
      exact q
    · refine iteD0 c ?_
      have hdA := s4A _ _ (s4 _ _ hd3)
      refine ⟨_, rfl, .inl ⟨rfl, _, SqL.of hdA⟩, _, rfl, _, rfl, _, rfl, pw, _, _, _, rfl, rfl, (t02.trans (Tst.step (K := K) SA)) _ _ hpw, rfl, (by show 3 ≤ sizeLine; decide), fun pn hpn => ?_⟩
      have sB := same_new hpn (.tup [.int (f i), .int (l_ i), am])
      have hpB : upd HA pn (.tup [.int (f i), .int (l_ i), am]) pn = some (.tup [.int (f i), .int (l_ i), am]) := upd_same
      generalize upd HA pn (.tup [.int (f i), .int (l_ i), am]) = HB at sB hpB ⊢
      have hdB := sB _ _ hdA
      have SB := SA.trans (Step.same sB ⟨_, hdA⟩)
      refine ⟨dl, ys, _, rfl, rfl, hdB, small1000 (by omega), ?_⟩
      have tC : Tst K HB (upd HB dl (.lst (ys ++ [.ref pn]))) := Tst.up hdB _
      refine ⟨_, _, _, _, _, _, _, rfl, SB.trans (Step.up hdB), upd_same, by rw [List.length_append, hys]; rfl, ?_, fun j hj => ?_⟩
      · rw [List.range_succ, List.map_append]
        have dn : Deep K (upd HB dl (.lst (ys ++ [.ref pn]))) (.ref pn) (dDr ws f l_ i) := by
          unfold dDr
          rw [ewi]
          exact .tup (tC _ _ (SqT.of hpB)) (.cons (.int _) (.cons (.int _) (.cons (((ram.mono t02).mono (Tst.step (K := K) SB)).mono tC).deep .nil)))
        have dd : DeepAll K (upd HB dl (.lst (ys ++ [.ref pn]))) ys ((List.range i).map (dDr ws f l_)) := by
          refine tupAll (K := K) ?_ dp
          exact (((Tst.same (K := K) s4).trans (Tst.same s4A)).trans (Tst.same sB)).trans tC
        exact deepAll_app dd (.cons dn .nil)
      · by_cases z : j < i
        · exact le j z
        · have : j = i := by omega
          subst this
          omega
  · rintro σ H3 ⟨ys, x5, x6, x7, x8, x9, x10, rfl, S3, hd3, hys, dp, le⟩
    refine ⟨_, rfl, dl, _, rfl, .inl ⟨SqL.of hd3, fun pt hpt => ?_⟩⟩
    have s4 := same_new hpt (.tup ys)
    have rs : resM ws f l_ = .tuple ((List.range ws.length).map (dDr ws f l_)) := by unfold resM; rw [bad_none (fun j hj => le j (by omega))]
    refine k f l_ (.ref pt) _ ((sst _ S3).trans s4) win ?_
    rw [rs]
    rw [hxl] at dp
    exact .tup (SqT.of upd_same) (tupAll (Tst.same s4) dp)
theorem ok_law_told (T : Txt K mg t) : FnOk P w K mg base CX0 5 t.a_law_told t.d_law_told ["_law_sheet"] (sp_law_told K) := by
  refine T.F_law_told.ok sc_law_told (fun vs H Q E h => ?_) (fun cdv A outer s H vs Q E hr h => ?_)
  · obtain ⟨_, _, _, rfl, _⟩ := h; rfl
  obtain ⟨v, ws, es, rfl, hv, ok, k⟩ := h
  refine QSs.ok (qss_cons (qs_set (i := 1) sc_law_told.nd rfl (by first | exact Or.inl rfl | exact Or.inr rfl) qe_non)
      (qss_cons (qs_tryAs (i := 2) (R := (fun C dx H' => C = t.c_NoRoom ∧ Same H H' ∧ ∃ (d : Addr) (n : Int), dx = some d ∧ H' d = some (dO d [("work", .int n)]) ∧ ∃ f l, WinI ws es f l ∧ resM ws f l = .int n)) rfl rfl rfl rfl T.m_NoRoom sc_law_told.nd rfl rfl (fun _ => (qss_one (qs_set (i := 1) sc_law_told.nd rfl (by first | exact Or.inl rfl | exact Or.inr rfl) (qe_call (ok_drawn_in T) (hr.mono (by decide)) rfl T.m_drawn_in T.F_drawn_in.kp T.b_drawn_in .nil (passTD rfl) (qa_cons (qv 0) qa_nil star_name)))))
      (fun _ => (qss_one (qs_set (i := 1) sc_law_told.nd rfl (by first | exact Or.inl rfl | exact Or.inr rfl) (qe_fldE (K := K) rfl (qv 2) rfl)))))
      (qss_one (qs_ret (qv 1))))) ?_
  refine ⟨⟨_, rfl, v, ws, es, rfl, hv, ok, fun f l u H1 s1 win dp => ⟨_, rfl, k f l u H1 s1 win dp⟩, fun f l i d H1 s1 win rs hd => ⟨_, rfl, rfl, s1, d, i, rfl, hd, f, l, win, rs⟩⟩, ?_⟩
  rintro C dx H' ⟨rfl, s1, d, n, rfl, hd, f, l, win, rs⟩
  refine ⟨T.x_catch, d, rfl, fun x hx => ?_⟩
  have s2 := same_new hx (erO x t.c_NoRoom d)
  refine ⟨_, rfl, x, t.c_NoRoom, d, _, _, .int n, rfl, .inl upd_same, s2 _ _ hd, T.X_NoRoom.cl, T.g_NoRoom, T.n_NoRoom_work, rfl, ?_⟩
  refine ⟨_, rfl, k f l _ _ (s1.trans s2) win ?_⟩
  rw [rs]
  exact .int n
theorem ok_law (T : Txt K mg t) : FnOk P w K mg base CX0 6 t.a_law t.d_law ["_law_script"] (sp_law K) := by
  refine T.F_law.ok sc_law (fun vs H Q E h => ?_) (fun cdv A outer s H vs Q E hr h => ?_)
  · obtain ⟨_, _, rfl, _⟩ := h; rfl
  obtain ⟨a, ns, rfl, hS, hl, k⟩ := h
  refine QSs.ok (qss_cons (qs_set (i := 1) sc_law.nd rfl (by first | exact Or.inl rfl | exact Or.inr rfl) (qe_call (ok_law_tape T) (hr.mono (by decide)) rfl T.m_law_tape T.F_law_tape.kp T.b_law_tape .nil pass0 (qa_cons (qv 0) qa_nil star_name)))
      (qss_cons (qs_for PassesOwn.never rfl (qi_range1 rfl T.z_range (qa_cons qe_int qa_nil star_con)) (qg_name (i := 2) sc_law.nd rfl (by first | exact Or.inl rfl | exact Or.inr rfl))
      (qss_cons (qs_set (i := 3) sc_law.nd rfl (by first | exact Or.inl rfl | exact Or.inr rfl) (qe_call (ok_law_works T) (hr.mono (by decide)) rfl T.m_law_works T.F_law_works.kp T.b_law_works .nil pass0 (qa_cons (qv 1) (qa_cons qe_int (qa_cons (qe_ix ix_list (qe_lst (qa_cons qe_int (qa_cons qe_int (qa_cons qe_int qa_nil star_con) star_con) star_con)) (qe_call (ok_law_draw T) (hr.mono (by decide)) rfl T.m_law_draw T.F_law_draw.kp T.b_law_draw .nil pass0 (qa_cons (qv 1) (qa_cons qe_int qa_nil star_con) star_name)) (fun _ _ => rfl)) qa_nil star_sub) star_con) star_name)))
      (qss_cons (qs_cut (qs_if (qt_cmpR op_eq (qe_call (ok_law_draw T) (hr.mono (by decide)) rfl T.m_law_draw T.F_law_draw.kp T.b_law_draw .nil pass0 (qa_cons (qv 1) (qa_cons qe_int qa_nil star_con) star_name)) qe_int (nomark _)) (qss_one (qs_set (i := 3) sc_law.nd rfl (by first | exact Or.inl rfl | exact Or.inr rfl) (qe_callTy call_tuple_of (by rfl) T.z_tuple PyProof.Rows.boot_tuple (qa_cons (qe_lcomp (N' := ["_law_work"]) (src := [none]) rfl (by exact (qi_tup (qv 3))) (fun _ _ _ _ _ => (by exact (by exact qg_name (i := 0) (by show List.Nodup (["_law_work"] : List Str); decide +kernel) (by exact rfl) (by first | exact Or.inl rfl | exact Or.inr rfl)))) (fun _ _ _ _ _ => qts_nil) (fun _ _ _ _ _ => (by exact (by exact (qe_tup (qa_cons (by exact (qe_op op_fdiv (by exact (qe_ix (ix_tupK (K := K) (by exact rfl)) (by exact (qv 0)) qe_int (by exact fun _ _ => rfl))) qe_int)) (qa_cons (by exact (qe_callB (call_min2 rfl) (by exact rfl) T.z_min PyProof.Rows.boot_min (qa_cons qe_int (qa_cons (by exact (qe_op op_add (by exact (qe_ix (ix_tupK (K := K) (by exact rfl)) (by exact (qv 0)) qe_int (by exact fun _ _ => rfl))) qe_int)) qa_nil star_bin) star_con))) (qa_cons (by exact (qe_ix (ix_tupK (K := K) (by exact rfl)) (by exact (qv 0)) qe_int (by exact fun _ _ => rfl))) qa_nil star_sub) star_call) star_bin))))) (by exact trivial) rfl (by decide +kernel) rfl (by decide +kernel) (by exact cells_of rfl trivial)) qa_nil star_lc)))) qss_nil))
      (qss_cons (qs_set (i := 4) sc_law.nd rfl (by first | exact Or.inl rfl | exact Or.inr rfl) (qe_tup (qa_cons (qv 3) (qa_cons (qe_call (ok_law_leans T) (hr.mono (by decide)) rfl T.m_law_leans T.F_law_leans.kp T.b_law_leans .nil pass0 (qa_cons (qv 1) (qa_cons (qe_callB call_len_seq (by rfl) T.z_len PySem.boot_len (qa_cons (qv 3) qa_nil star_name)) qa_nil star_call) star_name)) qa_nil star_call) star_name)))
      (qss_cons (qs_set (i := 5) sc_law.nd rfl (by first | exact Or.inl rfl | exact Or.inr rfl) (qe_callB (call_repr hr) (by rfl) T.z_repr PyProof.Rows.boot_repr (qa_cons (qv 4) qa_nil star_name)))
      (qss_one (qs_if (qw_pt (qw_or (qt_cmpR op_ne (qe_callB (call_repr hr) (by rfl) T.z_repr PyProof.Rows.boot_repr (qa_cons (qe_call (ok_law_told T) (hr.mono (by decide)) rfl T.m_law_told T.F_law_told.kp T.b_law_told .nil pass0 (qa_cons (qv 4) qa_nil star_name)) qa_nil star_call)) (qe_callB (call_repr hr) (by rfl) T.z_repr PyProof.Rows.boot_repr (qa_cons (qe_call (ok_law_due T) (hr.mono (by decide)) rfl T.m_law_due T.F_law_due.kp T.b_law_due .nil pass0 (qa_cons (qv 4) qa_nil star_name)) qa_nil star_call)) (nomark _)) (qw_or1 (qt_cmpR op_ne (qe_callB (call_repr hr) (by rfl) T.z_repr PyProof.Rows.boot_repr (qa_cons (qv 4) qa_nil star_name)) (qv 5) (nomark _))))) (qss_one (qs_ret qe_bl)) qss_nil)))))))
      (qss_one (qs_ret qe_bl)))) ?_
  refine ⟨_, rfl, a, ns, rfl, hS, fun t₁ s₁ H1 s1 ht hs T1 => ?_⟩
  refine ⟨6, rfl, by decide, by decide, for_range (lo := 0) (n := 6) (fun i σ H' => ∃ (x3 x4 x5 x6 : Option V), σ = [some (.ref a), some (.ref t₁), x3, x4, x5, x6] ∧ Tape H' t₁ s₁) ⟨none, none, none, none, rfl, T1⟩ ?_ ?_⟩
  · rintro i σ H2 hi ⟨x3, x4, x5, x6, rfl, T2⟩
    refine ⟨_, rfl, (by show 3 ≤ sizeLine; decide), fun l3 h3 => ?_⟩
    have s3 := same_new h3 (.lst [.int 6, .int 12, .int 24])
    have h33 : upd H2 l3 (.lst [.int 6, .int 12, .int 24]) l3 = some (.lst [.int 6, .int 12, .int 24]) := upd_same
    have T3 := T2.same s3
    generalize upd H2 l3 (.lst [.int 6, .int 12, .int 24]) = H3 at s3 h33 T3 ⊢
    obtain ⟨y4, e4⟩ := T3.lst
    refine ⟨_, rfl, t₁, s₁, 3, rfl, T3, by decide, by decide, fun r4 z4 a4 b4 T4 => ?_⟩
    have S4 : Step t₁ H3 _ := Step.up (ys := z4) e4
    generalize upd H3 t₁ (.lst z4) = H4 at T4 S4 ⊢
    
    have n3 : l3 ≠ t₁ := fun z => by subst z; rw [h33] at e4; obtain ⟨_, _, _, _, q, _⟩ := T3.ex; rw [h33] at q; cases q
    have h34 := S4.keep _ _ n3 h33
    obtain ⟨en, hen, en1, en2⟩ : ∃ e : Nat, atI [V.int 6, .int 12, .int 24] r4 = some (.int e) ∧ 1 ≤ e ∧ e ≤ 24 := by
      rcases (show r4 = 0 ∨ r4 = 1 ∨ r4 = 2 by omega) with rfl | rfl | rfl
      · exact ⟨6, rfl, by decide, by decide⟩
      · exact ⟨12, rfl, by decide, by decide⟩
      · exact ⟨24, rfl, by decide, by decide⟩
    refine ⟨l3, _, _, _, rfl, rfl, SqL.of h34, hen, t₁, s₁, 10, en, rfl, T4, by decide, en1, en2, fun v ws H5 S5 T5 wv hw okw => ?_⟩
    refine ⟨fun σ H' => ∃ (v : V) (ws : List Wk) (x5 x6 : Option V), σ = [some (.ref a), some (.ref t₁), some (.int (0 + (i : Int))), some v, x5, x6] ∧ Tape H' t₁ s₁ ∧ WksV K H' v ws ∧ ws.length ≤ 10 ∧ ∀ w ∈ ws, WkB w, ?_, ?_⟩
    · obtain ⟨y6, e6⟩ := T5.lst
      refine ⟨_, rfl, t₁, s₁, 2, rfl, T5, by decide, by decide, fun r6 z6 a6 b6 T6 => ?_⟩
      have S6 : Step t₁ H5 _ := Step.up (ys := z6) e6
      generalize upd H5 t₁ (.lst z6) = H6 at T6 S6 ⊢
      
      have wv6 := wv.mono (Tst.step (K := K) S6)
      refine ⟨rfl, _, rfl, ite2 (fun _ => ?_) (fun _ => ⟨v, ws, _, _, rfl, T6, wv6, hw, okw⟩)⟩
      obtain ⟨p, xs, rfl, hp, al⟩ := wv6
      refine ⟨_, rfl, p, rfl, ⟨_, hp⟩, fun D hD => comp_mapT (K := K) (P := WkV K) (ds := ws) (f := fun w : Wk => (w.1 / 2, min 23 (w.2.1 + 9), w.2.2)) (fun _ _ _ _ t p => p.mono t) hD hp al.len (by have := al.len; omega) (fun i x d H' hx hd s' R E kR => ?_) fun H7 ys s7 hD7 al7 => ?_⟩
      · obtain ⟨d', hd', pw, am, rfl, hpw, ram⟩ := al.at hx
        rw [hd] at hd'
        cases hd'
        have t' := Tst.same (K := K) s'
        refine ⟨Ext.set rfl, ?_⟩
        refine ⟨_, rfl, pw, _, _, _, rfl, rfl, t' _ _ hpw, rfl, _, _, rfl, rfl, ⟨by decide, by decide⟩, _, rfl, pw, _, _, _, rfl, rfl, t' _ _ hpw, rfl, _, _, rfl, rfl, _, _, rfl, _, rfl, pw, _, _, _, rfl, rfl, t' _ _ hpw, rfl, ?_⟩
        dsimp only
        rw [show (if (d.2.1 : Int) + 9 < 23 then (d.2.1 : Int) + 9 else 23) = ((min 23 (d.2.1 + 9) : Nat) : Int) by split <;> omega, show (d.1 : Int) / 2 = ((d.1 / 2 : Nat) : Int) by omega]
        refine ⟨(by show 3 ≤ sizeLine; decide), fun pn hpn => ?_⟩
        have sn := same_new hpn (.tup [.int ((d.1 / 2 : Nat) : Int), .int ((min 23 (d.2.1 + 9) : Nat) : Int), am])
        exact kR _ _ sn ⟨pn, am, rfl, SqT.of upd_same, (ram.mono t').mono (Tst.same sn)⟩
      · refine ⟨D, _, rfl, .inl ⟨SqL.of hD7, fun p7 hp7 => ?_⟩⟩
        have s8 := same_new hp7 (.tup ys)
        refine ⟨.ref p7, _, _, _, rfl, T6.same (s7.trans s8), ⟨p7, ys, rfl, SqT.of upd_same, al7.mono fun _ _ q => q.mono (Tst.same s8)⟩, by rw [List.length_map]; exact hw, fun w hw' => ?_⟩
        obtain ⟨z, hz, rfl⟩ := List.mem_map.mp hw'
        have o := okw z hz
        have o1 := o.l1
        have o2 := o.l2
        exact ⟨by show z.1 / 2 < 24; omega, by show min 23 (z.2.1 + 9) < 24; omega, o.am⟩
    · rintro σ H7 ⟨v, ws, x5, x6, rfl, T7, wv, hw, okw⟩
      obtain ⟨p, xs, rfl, hp, al⟩ := id wv
      refine ⟨_, rfl, _, rfl, _, rfl, p, _, rfl, .inr hp, t₁, s₁, ws.length, (by rw [al.len]; rfl), T7, by omega, fun vl es H8 S8 T8 lv eok rk e40 => ?_⟩
      refine ⟨(by show 2 ≤ sizeLine; decide), fun ps hps => ?_⟩
      have s9 := same_new hps (.tup [.ref p, vl])
      have sh : ShV K (upd H8 ps (.tup [.ref p, vl])) (.ref ps) ws es := ⟨ps, .ref p, vl, rfl, SqT.of upd_same, (wv.mono (Tst.step (K := K) S8)).mono (Tst.same s9), lv.mono (Tst.same s9)⟩
      have T9 := T8.same s9
      generalize upd H8 ps (.tup [.ref p, vl]) = H9 at sh T9 ⊢
      have ok : ShOk ws es := ⟨by omega, okw, eok⟩
      refine ⟨_, rfl, .ref ps, _, rfl, sh.deep, gd_sheet ok (by omega), ?_⟩
      refine ⟨_, rfl, .ref ps, ws, es, rfl, sh, ok, fun f l u HA sA win dA => ?_⟩
      refine ⟨u, _, rfl, dA, gd_res ok win, ?_⟩
      refine ⟨_, rfl, .ref ps, ws, es, rfl, sh.mono (Tst.same sA), ok, by omega, rk, fun f' l' u' HB sB win' dB => ?_⟩
      rw [← res_same win win'] at dB
      refine ⟨u', _, rfl, dB, gd_res ok win, ?_⟩
      refine ⟨rfl, _, rfl, iteNS rfl ?_⟩
      refine ⟨_, rfl, .ref ps, _, rfl, (sh.mono (Tst.same (sA.trans sB))).deep, gd_sheet ok (by omega), _, rfl, rfl, _, rfl, iteNS rfl ?_⟩
      exact ⟨_, _, _, _, rfl, T9.same (sA.trans sB)⟩
  · rintro σ H2 ⟨x3, x4, x5, x6, rfl, T2⟩
    exact k H2
end
theorem all_mk {l : PySem.W.OpenLaw} {w : World} {K : PySem.W.Frag} {h : Heap} {mg : Str → Option Value} {fa : Addr} (X : K.In h) (G : h.Ns mainGlobals mg) (hfa : mg "law" = some (.ref fa))
    {f_copied : Addr} {od_copied an_copied : Option Addr} {sl_copied : Array (Option Value)} {oc_copied kV_copied dc_copied pm_copied cd_copied ct_copied : Value}
    (p_copied : PySem.W.nsIn K mainGlobals "copied" = some (some (.ref f_copied))) (l_copied : K.lookup f_copied = some ⟨oc_copied, od_copied, .func (PySem.W.fnOf "copied" "copied" (defArgs s_copied) (defBody s_copied) (defScope s_copied) .none kV_copied dc_copied pm_copied an_copied cd_copied ct_copied), sl_copied⟩) (c_copied : PySem.W.codeIn K cd_copied "copied" = true) (k_copied : PySem.W.keepIn K (.ref f_copied) = true)
    {f_no_leanings : Addr} {od_no_leanings an_no_leanings : Option Addr} {sl_no_leanings : Array (Option Value)} {oc_no_leanings kV_no_leanings dc_no_leanings pm_no_leanings cd_no_leanings ct_no_leanings : Value}
    (p_no_leanings : PySem.W.nsIn K mainGlobals "no_leanings" = some (some (.ref f_no_leanings))) (l_no_leanings : K.lookup f_no_leanings = some ⟨oc_no_leanings, od_no_leanings, .func (PySem.W.fnOf "no_leanings" "no_leanings" (defArgs s_no_leanings) (defBody s_no_leanings) (defScope s_no_leanings) .none kV_no_leanings dc_no_leanings pm_no_leanings an_no_leanings cd_no_leanings ct_no_leanings), sl_no_leanings⟩) (c_no_leanings : PySem.W.codeIn K cd_no_leanings "no_leanings" = true) (k_no_leanings : PySem.W.keepIn K (.ref f_no_leanings) = true)
    {f_add_lean : Addr} {od_add_lean an_add_lean : Option Addr} {sl_add_lean : Array (Option Value)} {oc_add_lean kV_add_lean dc_add_lean pm_add_lean cd_add_lean ct_add_lean : Value}
    (p_add_lean : PySem.W.nsIn K mainGlobals "add_lean" = some (some (.ref f_add_lean))) (l_add_lean : K.lookup f_add_lean = some ⟨oc_add_lean, od_add_lean, .func (PySem.W.fnOf "add_lean" "add_lean" (defArgs s_add_lean) (defBody s_add_lean) (defScope s_add_lean) .none kV_add_lean dc_add_lean pm_add_lean an_add_lean cd_add_lean ct_add_lean), sl_add_lean⟩) (c_add_lean : PySem.W.codeIn K cd_add_lean "add_lean" = true) (k_add_lean : PySem.W.keepIn K (.ref f_add_lean) = true)
    {f_all_leanings : Addr} {od_all_leanings an_all_leanings : Option Addr} {sl_all_leanings : Array (Option Value)} {oc_all_leanings kV_all_leanings dc_all_leanings pm_all_leanings cd_all_leanings ct_all_leanings : Value}
    (p_all_leanings : PySem.W.nsIn K mainGlobals "all_leanings" = some (some (.ref f_all_leanings))) (l_all_leanings : K.lookup f_all_leanings = some ⟨oc_all_leanings, od_all_leanings, .func (PySem.W.fnOf "all_leanings" "all_leanings" (defArgs s_all_leanings) (defBody s_all_leanings) (defScope s_all_leanings) .none kV_all_leanings dc_all_leanings pm_all_leanings an_all_leanings cd_all_leanings ct_all_leanings), sl_all_leanings⟩) (c_all_leanings : PySem.W.codeIn K cd_all_leanings "all_leanings" = true) (k_all_leanings : PySem.W.keepIn K (.ref f_all_leanings) = true)
    {f_drawn_in : Addr} {od_drawn_in an_drawn_in : Option Addr} {sl_drawn_in : Array (Option Value)} {oc_drawn_in kV_drawn_in dc_drawn_in pm_drawn_in cd_drawn_in ct_drawn_in : Value}
    (p_drawn_in : PySem.W.nsIn K mainGlobals "drawn_in" = some (some (.ref f_drawn_in))) (l_drawn_in : K.lookup f_drawn_in = some ⟨oc_drawn_in, od_drawn_in, .func (PySem.W.fnOf "drawn_in" "drawn_in" (defArgs s_drawn_in) (defBody s_drawn_in) (defScope s_drawn_in) .none kV_drawn_in dc_drawn_in pm_drawn_in an_drawn_in cd_drawn_in ct_drawn_in), sl_drawn_in⟩) (c_drawn_in : PySem.W.codeIn K cd_drawn_in "drawn_in" = true) (k_drawn_in : PySem.W.keepIn K (.ref f_drawn_in) = true)
    {f_law_tape : Addr} {od_law_tape an_law_tape : Option Addr} {sl_law_tape : Array (Option Value)} {oc_law_tape kV_law_tape dc_law_tape pm_law_tape cd_law_tape ct_law_tape : Value}
    (p_law_tape : PySem.W.nsIn K mainGlobals "_law_tape" = some (some (.ref f_law_tape))) (l_law_tape : K.lookup f_law_tape = some ⟨oc_law_tape, od_law_tape, .func (PySem.W.fnOf "_law_tape" "_law_tape" (defArgs s_law_tape) (defBody s_law_tape) (defScope s_law_tape) .none kV_law_tape dc_law_tape pm_law_tape an_law_tape cd_law_tape ct_law_tape), sl_law_tape⟩) (c_law_tape : PySem.W.codeIn K cd_law_tape "_law_tape" = true) (k_law_tape : PySem.W.keepIn K (.ref f_law_tape) = true)
    {f_law_draw : Addr} {od_law_draw an_law_draw : Option Addr} {sl_law_draw : Array (Option Value)} {oc_law_draw kV_law_draw dc_law_draw pm_law_draw cd_law_draw ct_law_draw : Value}
    (p_law_draw : PySem.W.nsIn K mainGlobals "_law_draw" = some (some (.ref f_law_draw))) (l_law_draw : K.lookup f_law_draw = some ⟨oc_law_draw, od_law_draw, .func (PySem.W.fnOf "_law_draw" "_law_draw" (defArgs s_law_draw) (defBody s_law_draw) (defScope s_law_draw) .none kV_law_draw dc_law_draw pm_law_draw an_law_draw cd_law_draw ct_law_draw), sl_law_draw⟩) (c_law_draw : PySem.W.codeIn K cd_law_draw "_law_draw" = true) (k_law_draw : PySem.W.keepIn K (.ref f_law_draw) = true)
    {f_law_gcd : Addr} {od_law_gcd an_law_gcd : Option Addr} {sl_law_gcd : Array (Option Value)} {oc_law_gcd kV_law_gcd dc_law_gcd pm_law_gcd cd_law_gcd ct_law_gcd : Value}
    (p_law_gcd : PySem.W.nsIn K mainGlobals "_law_gcd" = some (some (.ref f_law_gcd))) (l_law_gcd : K.lookup f_law_gcd = some ⟨oc_law_gcd, od_law_gcd, .func (PySem.W.fnOf "_law_gcd" "_law_gcd" (defArgs s_law_gcd) (defBody s_law_gcd) (defScope s_law_gcd) .none kV_law_gcd dc_law_gcd pm_law_gcd an_law_gcd cd_law_gcd ct_law_gcd), sl_law_gcd⟩) (c_law_gcd : PySem.W.codeIn K cd_law_gcd "_law_gcd" = true) (k_law_gcd : PySem.W.keepIn K (.ref f_law_gcd) = true)
    {f_law_ratio : Addr} {od_law_ratio an_law_ratio : Option Addr} {sl_law_ratio : Array (Option Value)} {oc_law_ratio kV_law_ratio dc_law_ratio pm_law_ratio cd_law_ratio ct_law_ratio : Value}
    (p_law_ratio : PySem.W.nsIn K mainGlobals "_law_ratio" = some (some (.ref f_law_ratio))) (l_law_ratio : K.lookup f_law_ratio = some ⟨oc_law_ratio, od_law_ratio, .func (PySem.W.fnOf "_law_ratio" "_law_ratio" (defArgs s_law_ratio) (defBody s_law_ratio) (defScope s_law_ratio) .none kV_law_ratio dc_law_ratio pm_law_ratio an_law_ratio cd_law_ratio ct_law_ratio), sl_law_ratio⟩) (c_law_ratio : PySem.W.codeIn K cd_law_ratio "_law_ratio" = true) (k_law_ratio : PySem.W.keepIn K (.ref f_law_ratio) = true)
    {f_law_part : Addr} {od_law_part an_law_part : Option Addr} {sl_law_part : Array (Option Value)} {oc_law_part kV_law_part dc_law_part pm_law_part cd_law_part ct_law_part : Value}
    (p_law_part : PySem.W.nsIn K mainGlobals "_law_part" = some (some (.ref f_law_part))) (l_law_part : K.lookup f_law_part = some ⟨oc_law_part, od_law_part, .func (PySem.W.fnOf "_law_part" "_law_part" (defArgs s_law_part) (defBody s_law_part) (defScope s_law_part) .none kV_law_part dc_law_part pm_law_part an_law_part cd_law_part ct_law_part), sl_law_part⟩) (c_law_part : PySem.W.codeIn K cd_law_part "_law_part" = true) (k_law_part : PySem.W.keepIn K (.ref f_law_part) = true)
    {f_law_works : Addr} {od_law_works an_law_works : Option Addr} {sl_law_works : Array (Option Value)} {oc_law_works kV_law_works dc_law_works pm_law_works cd_law_works ct_law_works : Value}
    (p_law_works : PySem.W.nsIn K mainGlobals "_law_works" = some (some (.ref f_law_works))) (l_law_works : K.lookup f_law_works = some ⟨oc_law_works, od_law_works, .func (PySem.W.fnOf "_law_works" "_law_works" (defArgs s_law_works) (defBody s_law_works) (defScope s_law_works) .none kV_law_works dc_law_works pm_law_works an_law_works cd_law_works ct_law_works), sl_law_works⟩) (c_law_works : PySem.W.codeIn K cd_law_works "_law_works" = true) (k_law_works : PySem.W.keepIn K (.ref f_law_works) = true)
    {f_law_leans : Addr} {od_law_leans an_law_leans : Option Addr} {sl_law_leans : Array (Option Value)} {oc_law_leans kV_law_leans dc_law_leans pm_law_leans cd_law_leans ct_law_leans : Value}
    (p_law_leans : PySem.W.nsIn K mainGlobals "_law_leans" = some (some (.ref f_law_leans))) (l_law_leans : K.lookup f_law_leans = some ⟨oc_law_leans, od_law_leans, .func (PySem.W.fnOf "_law_leans" "_law_leans" (defArgs s_law_leans) (defBody s_law_leans) (defScope s_law_leans) .none kV_law_leans dc_law_leans pm_law_leans an_law_leans cd_law_leans ct_law_leans), sl_law_leans⟩) (c_law_leans : PySem.W.codeIn K cd_law_leans "_law_leans" = true) (k_law_leans : PySem.W.keepIn K (.ref f_law_leans) = true)
    {f_law_due : Addr} {od_law_due an_law_due : Option Addr} {sl_law_due : Array (Option Value)} {oc_law_due kV_law_due dc_law_due pm_law_due cd_law_due ct_law_due : Value}
    (p_law_due : PySem.W.nsIn K mainGlobals "_law_due" = some (some (.ref f_law_due))) (l_law_due : K.lookup f_law_due = some ⟨oc_law_due, od_law_due, .func (PySem.W.fnOf "_law_due" "_law_due" (defArgs s_law_due) (defBody s_law_due) (defScope s_law_due) .none kV_law_due dc_law_due pm_law_due an_law_due cd_law_due ct_law_due), sl_law_due⟩) (c_law_due : PySem.W.codeIn K cd_law_due "_law_due" = true) (k_law_due : PySem.W.keepIn K (.ref f_law_due) = true)
    {f_law_told : Addr} {od_law_told an_law_told : Option Addr} {sl_law_told : Array (Option Value)} {oc_law_told kV_law_told dc_law_told pm_law_told cd_law_told ct_law_told : Value}
    (p_law_told : PySem.W.nsIn K mainGlobals "_law_told" = some (some (.ref f_law_told))) (l_law_told : K.lookup f_law_told = some ⟨oc_law_told, od_law_told, .func (PySem.W.fnOf "_law_told" "_law_told" (defArgs s_law_told) (defBody s_law_told) (defScope s_law_told) .none kV_law_told dc_law_told pm_law_told an_law_told cd_law_told ct_law_told), sl_law_told⟩) (c_law_told : PySem.W.codeIn K cd_law_told "_law_told" = true) (k_law_told : PySem.W.keepIn K (.ref f_law_told) = true)
    {f_law : Addr} {od_law an_law : Option Addr} {sl_law : Array (Option Value)} {oc_law kV_law dc_law pm_law cd_law ct_law : Value}
    (p_law : PySem.W.nsIn K mainGlobals "law" = some (some (.ref f_law))) (l_law : K.lookup f_law = some ⟨oc_law, od_law, .func (PySem.W.fnOf "law" "law" (defArgs s_law) (defBody s_law) (defScope s_law) .none kV_law dc_law pm_law an_law cd_law ct_law), sl_law⟩) (c_law : PySem.W.codeIn K cd_law "law" = true) (k_law : PySem.W.keepIn K (.ref f_law) = true)
    {cB NB : Addr} {nmB qB : Str} {bsB : List Value} {hdB : Bool} {snB : List Str} {suB : List Value} {abB : Bool} {coB : Option Bool} {ddB : Option Addr} {j0 j1 j2 j3 j5 : Option Value} {ocB : Value} {odB : Option Addr} {esB : Array DictEntry} {nB : Nat} {slB : Array (Option Value)}
    (pB : PySem.W.nsIn K mainGlobals "PaceError" = some (some (.ref cB))) (lB : K.lookup cB = some (excClassObj nmB qB cB NB bsB [.type "ValueError", .type "Exception", .type "BaseException", .type "object"] hdB snB suB abB coB ddB j0 j1 j2 j3 j5 "ValueError.__new__")) (lnB : K.lookup NB = some ⟨ocB, odB, .dict esB nB, slB⟩) (hsB : strKeysB esB = true) (hnB : (nsFind esB "__init__").isNone = true)
    (cgB : PySem.W.specialIn K (.builtin "object.__class__") "__get__" = some (some (.builtin "getset_descriptor.__get__"))) (ctB : PySem.W.takesIn K (.builtin "object.__class__") = some true)
    {c_NoRoom N_NoRoom i_NoRoom : Addr} {nm_NoRoom q_NoRoom : Str} {bs_NoRoom : List Value} {hd_NoRoom : Bool} {sn_NoRoom : List Str} {su_NoRoom : List Value} {ab_NoRoom : Bool} {co_NoRoom : Option Bool} {dd_NoRoom : Option Addr} {k0_NoRoom k1_NoRoom k2_NoRoom k3_NoRoom k5_NoRoom : Option Value} {od_NoRoom an_NoRoom : Option Addr} {sl_NoRoom : Array (Option Value)} {oc_NoRoom kV_NoRoom dc_NoRoom pm_NoRoom cd_NoRoom ct_NoRoom : Value}
    (p_NoRoom : PySem.W.nsIn K mainGlobals "NoRoom" = some (some (.ref c_NoRoom))) (lc_NoRoom : K.lookup c_NoRoom = some (excClassObj nm_NoRoom q_NoRoom c_NoRoom N_NoRoom bs_NoRoom (.ref cB :: [.type "ValueError", .type "Exception", .type "BaseException", .type "object"]) hd_NoRoom sn_NoRoom su_NoRoom ab_NoRoom co_NoRoom dd_NoRoom k0_NoRoom k1_NoRoom k2_NoRoom k3_NoRoom k5_NoRoom "ValueError.__new__")) (fi_NoRoom : PySem.W.findIn K (.ref c_NoRoom) "__init__" = some (some (.ref i_NoRoom)))
    (l_NoRoom : K.lookup i_NoRoom = some ⟨oc_NoRoom, od_NoRoom, .func (PySem.W.fnOf "__init__" "NoRoom.__init__" (defArgs s_NoRoom) (defBody s_NoRoom) (defScope s_NoRoom) .none kV_NoRoom dc_NoRoom pm_NoRoom an_NoRoom cd_NoRoom ct_NoRoom), sl_NoRoom⟩) (cd_NoRoom_ : PySem.W.codeIn K cd_NoRoom "NoRoom.__init__" = true) (ki_NoRoom : PySem.W.keepIn K (.ref i_NoRoom) = true) (ti_NoRoom : PySem.W.typeIn K (.ref i_NoRoom) = some (.type "function")) (kc_NoRoom : PySem.W.keepIn K (.ref c_NoRoom) = true)
    (hh_NoRoom : PySem.W.hasDictIn K c_NoRoom = true) (sa_NoRoom : PySem.W.findIn K (.ref c_NoRoom) "__setattr__" = some (some (.builtin "object.__setattr__")))
    (na_NoRoom_work : PySem.W.findIn K (.ref c_NoRoom) "work" = some none) (ga_NoRoom : PySem.W.findIn K (.ref c_NoRoom) "__getattribute__" = some (some (.builtin "BaseException.__getattribute__"))) (gn_NoRoom : PySem.W.findIn K (.ref c_NoRoom) "__getattr__" = some none) (cl_NoRoom : PySem.W.findIn K (.ref c_NoRoom) "__class__" = some (some (.builtin "object.__class__")))
    (w_x_catch : PySem.W.exmOne K (.ref c_NoRoom) (.ref c_NoRoom) = some true)
    (z_abs : PySem.W.nsIn K mainGlobals "abs" = some none)
    (z_enumerate : PySem.W.nsIn K mainGlobals "enumerate" = some none)
    (z_int : PySem.W.nsIn K mainGlobals "int" = some none)
    (z_isinstance : PySem.W.nsIn K mainGlobals "isinstance" = some none)
    (z_len : PySem.W.nsIn K mainGlobals "len" = some none)
    (z_list : PySem.W.nsIn K mainGlobals "list" = some none)
    (z_max : PySem.W.nsIn K mainGlobals "max" = some none)
    (z_min : PySem.W.nsIn K mainGlobals "min" = some none)
    (z_range : PySem.W.nsIn K mainGlobals "range" = some none)
    (z_repr : PySem.W.nsIn K mainGlobals "repr" = some none)
    (z_tuple : PySem.W.nsIn K mainGlobals "tuple" = some none)
    : ∃ fd : FuncData, (∀ (s : Shared) (v : Value), BindsTo s fd ⟨[v], []⟩ [("_law_script", v)]) ∧ ∀ base : Heap, K.In base → base.Ns mainGlobals mg → FnOk l.prog w K mg base CX0 6 fa fd ["_law_script"] (sp_law K) := by
  have e := hfa.symm.trans (PySem.W.mg_of X G p_law)
  cases e
  have F_copied := fun_mk (st := s_copied) l_copied c_copied k_copied
  have b_copied := F_copied.binds (ps := ["thing"]) fun _ _ _ _ _ _ us hl => match us, hl with | [_], _ => rfl
  have F_no_leanings := fun_mk (st := s_no_leanings) l_no_leanings c_no_leanings k_no_leanings
  have b_no_leanings := F_no_leanings.binds (ps := ["count"]) fun _ _ _ _ _ _ us hl => match us, hl with | [_], _ => rfl
  have F_add_lean := fun_mk (st := s_add_lean) l_add_lean c_add_lean k_add_lean
  have b_add_lean := F_add_lean.binds (ps := ["leanings", "lean"]) fun _ _ _ _ _ _ us hl => match us, hl with | [_, _], _ => rfl
  have F_all_leanings := fun_mk (st := s_all_leanings) l_all_leanings c_all_leanings k_all_leanings
  have b_all_leanings := F_all_leanings.binds (ps := ["count", "leans"]) fun _ _ _ _ _ _ us hl => match us, hl with | [_, _], _ => rfl
  have F_drawn_in := fun_mk (st := s_drawn_in) l_drawn_in c_drawn_in k_drawn_in
  have b_drawn_in := F_drawn_in.binds (ps := ["sheet"]) fun _ _ _ _ _ _ us hl => match us, hl with | [_], _ => rfl
  have F_law_tape := fun_mk (st := s_law_tape) l_law_tape c_law_tape k_law_tape
  have b_law_tape := F_law_tape.binds (ps := ["_law_script"]) fun _ _ _ _ _ _ us hl => match us, hl with | [_], _ => rfl
  have F_law_draw := fun_mk (st := s_law_draw) l_law_draw c_law_draw k_law_draw
  have b_law_draw := F_law_draw.binds (ps := ["_law_tape_here", "_law_many"]) fun _ _ _ _ _ _ us hl => match us, hl with | [_, _], _ => rfl
  have F_law_gcd := fun_mk (st := s_law_gcd) l_law_gcd c_law_gcd k_law_gcd
  have b_law_gcd := F_law_gcd.binds (ps := ["_law_one", "_law_other"]) fun _ _ _ _ _ _ us hl => match us, hl with | [_, _], _ => rfl
  have F_law_ratio := fun_mk (st := s_law_ratio) l_law_ratio c_law_ratio k_law_ratio
  have b_law_ratio := F_law_ratio.binds (ps := ["_law_top", "_law_bottom"]) fun _ _ _ _ _ _ us hl => match us, hl with | [_, _], _ => rfl
  have F_law_part := fun_mk (st := s_law_part) l_law_part c_law_part k_law_part
  have b_law_part := F_law_part.binds (ps := ["_law_tape_here"]) fun _ _ _ _ _ _ us hl => match us, hl with | [_], _ => rfl
  have F_law_works := fun_mk (st := s_law_works) l_law_works c_law_works k_law_works
  have b_law_works := F_law_works.binds (ps := ["_law_tape_here", "_law_most", "_law_end"]) fun _ _ _ _ _ _ us hl => match us, hl with | [_, _, _], _ => rfl
  have F_law_leans := fun_mk (st := s_law_leans) l_law_leans c_law_leans k_law_leans
  have b_law_leans := F_law_leans.binds (ps := ["_law_tape_here", "_law_many"]) fun _ _ _ _ _ _ us hl => match us, hl with | [_, _], _ => rfl
  have F_law_due := fun_mk (st := s_law_due) l_law_due c_law_due k_law_due
  have b_law_due := F_law_due.binds (ps := ["_law_sheet"]) fun _ _ _ _ _ _ us hl => match us, hl with | [_], _ => rfl
  have F_law_told := fun_mk (st := s_law_told) l_law_told c_law_told k_law_told
  have b_law_told := F_law_told.binds (ps := ["_law_sheet"]) fun _ _ _ _ _ _ us hl => match us, hl with | [_], _ => rfl
  have F_law := fun_mk (st := s_law) l_law c_law k_law
  have b_law := F_law.binds (ps := ["_law_script"]) fun _ _ _ _ _ _ us hl => match us, hl with | [_], _ => rfl
  have F_NoRoom := fun_mk (st := s_NoRoom) l_NoRoom cd_NoRoom_ ki_NoRoom
  have b_NoRoom := F_NoRoom.binds (ps := ["self", "work"]) fun _ _ _ _ _ _ us hl => match us, hl with | [_, _], _ => rfl
  have T : Txt K mg ⟨f_copied, PySem.W.fnOf "copied" "copied" (defArgs s_copied) (defBody s_copied) (defScope s_copied) .none kV_copied dc_copied pm_copied an_copied cd_copied ct_copied, f_no_leanings, PySem.W.fnOf "no_leanings" "no_leanings" (defArgs s_no_leanings) (defBody s_no_leanings) (defScope s_no_leanings) .none kV_no_leanings dc_no_leanings pm_no_leanings an_no_leanings cd_no_leanings ct_no_leanings, f_add_lean, PySem.W.fnOf "add_lean" "add_lean" (defArgs s_add_lean) (defBody s_add_lean) (defScope s_add_lean) .none kV_add_lean dc_add_lean pm_add_lean an_add_lean cd_add_lean ct_add_lean, f_all_leanings, PySem.W.fnOf "all_leanings" "all_leanings" (defArgs s_all_leanings) (defBody s_all_leanings) (defScope s_all_leanings) .none kV_all_leanings dc_all_leanings pm_all_leanings an_all_leanings cd_all_leanings ct_all_leanings, f_drawn_in, PySem.W.fnOf "drawn_in" "drawn_in" (defArgs s_drawn_in) (defBody s_drawn_in) (defScope s_drawn_in) .none kV_drawn_in dc_drawn_in pm_drawn_in an_drawn_in cd_drawn_in ct_drawn_in, f_law_tape, PySem.W.fnOf "_law_tape" "_law_tape" (defArgs s_law_tape) (defBody s_law_tape) (defScope s_law_tape) .none kV_law_tape dc_law_tape pm_law_tape an_law_tape cd_law_tape ct_law_tape, f_law_draw, PySem.W.fnOf "_law_draw" "_law_draw" (defArgs s_law_draw) (defBody s_law_draw) (defScope s_law_draw) .none kV_law_draw dc_law_draw pm_law_draw an_law_draw cd_law_draw ct_law_draw, f_law_gcd, PySem.W.fnOf "_law_gcd" "_law_gcd" (defArgs s_law_gcd) (defBody s_law_gcd) (defScope s_law_gcd) .none kV_law_gcd dc_law_gcd pm_law_gcd an_law_gcd cd_law_gcd ct_law_gcd, f_law_ratio, PySem.W.fnOf "_law_ratio" "_law_ratio" (defArgs s_law_ratio) (defBody s_law_ratio) (defScope s_law_ratio) .none kV_law_ratio dc_law_ratio pm_law_ratio an_law_ratio cd_law_ratio ct_law_ratio, f_law_part, PySem.W.fnOf "_law_part" "_law_part" (defArgs s_law_part) (defBody s_law_part) (defScope s_law_part) .none kV_law_part dc_law_part pm_law_part an_law_part cd_law_part ct_law_part, f_law_works, PySem.W.fnOf "_law_works" "_law_works" (defArgs s_law_works) (defBody s_law_works) (defScope s_law_works) .none kV_law_works dc_law_works pm_law_works an_law_works cd_law_works ct_law_works, f_law_leans, PySem.W.fnOf "_law_leans" "_law_leans" (defArgs s_law_leans) (defBody s_law_leans) (defScope s_law_leans) .none kV_law_leans dc_law_leans pm_law_leans an_law_leans cd_law_leans ct_law_leans, f_law_due, PySem.W.fnOf "_law_due" "_law_due" (defArgs s_law_due) (defBody s_law_due) (defScope s_law_due) .none kV_law_due dc_law_due pm_law_due an_law_due cd_law_due ct_law_due, f_law_told, PySem.W.fnOf "_law_told" "_law_told" (defArgs s_law_told) (defBody s_law_told) (defScope s_law_told) .none kV_law_told dc_law_told pm_law_told an_law_told cd_law_told ct_law_told, fa, PySem.W.fnOf "law" "law" (defArgs s_law) (defBody s_law) (defScope s_law) .none kV_law dc_law pm_law an_law cd_law ct_law, cB, c_NoRoom, i_NoRoom, PySem.W.fnOf "__init__" "NoRoom.__init__" (defArgs s_NoRoom) (defBody s_NoRoom) (defScope s_NoRoom) .none kV_NoRoom dc_NoRoom pm_NoRoom an_NoRoom cd_NoRoom ct_NoRoom⟩ := {
    F_copied := F_copied, b_copied := b_copied, m_copied := PySem.W.mg_of X G p_copied,
    F_no_leanings := F_no_leanings, b_no_leanings := b_no_leanings, m_no_leanings := PySem.W.mg_of X G p_no_leanings,
    F_add_lean := F_add_lean, b_add_lean := b_add_lean, m_add_lean := PySem.W.mg_of X G p_add_lean,
    F_all_leanings := F_all_leanings, b_all_leanings := b_all_leanings, m_all_leanings := PySem.W.mg_of X G p_all_leanings,
    F_drawn_in := F_drawn_in, b_drawn_in := b_drawn_in, m_drawn_in := PySem.W.mg_of X G p_drawn_in,
    F_law_tape := F_law_tape, b_law_tape := b_law_tape, m_law_tape := PySem.W.mg_of X G p_law_tape,
    F_law_draw := F_law_draw, b_law_draw := b_law_draw, m_law_draw := PySem.W.mg_of X G p_law_draw,
    F_law_gcd := F_law_gcd, b_law_gcd := b_law_gcd, m_law_gcd := PySem.W.mg_of X G p_law_gcd,
    F_law_ratio := F_law_ratio, b_law_ratio := b_law_ratio, m_law_ratio := PySem.W.mg_of X G p_law_ratio,
    F_law_part := F_law_part, b_law_part := b_law_part, m_law_part := PySem.W.mg_of X G p_law_part,
    F_law_works := F_law_works, b_law_works := b_law_works, m_law_works := PySem.W.mg_of X G p_law_works,
    F_law_leans := F_law_leans, b_law_leans := b_law_leans, m_law_leans := PySem.W.mg_of X G p_law_leans,
    F_law_due := F_law_due, b_law_due := b_law_due, m_law_due := PySem.W.mg_of X G p_law_due,
    F_law_told := F_law_told, b_law_told := b_law_told, m_law_told := PySem.W.mg_of X G p_law_told,
    F_law := F_law, b_law := b_law, m_law := PySem.W.mg_of X G p_law,
    X_NoRoom := xc_mk lc_NoRoom lB lnB hsB hnB fi_NoRoom ti_NoRoom kc_NoRoom hh_NoRoom sa_NoRoom, F_NoRoom := F_NoRoom, b_NoRoom := b_NoRoom, m_NoRoom := PySem.W.mg_of X G p_NoRoom, n_NoRoom_work := na_NoRoom_work, g_NoRoom := ⟨ga_NoRoom, gn_NoRoom, cl_NoRoom, cgB, ctB⟩,
    x_catch := w_x_catch,
    z_abs := PySem.W.mg_none_of X G z_abs, z_enumerate := PySem.W.mg_none_of X G z_enumerate, z_int := PySem.W.mg_none_of X G z_int, z_isinstance := PySem.W.mg_none_of X G z_isinstance, z_len := PySem.W.mg_none_of X G z_len, z_list := PySem.W.mg_none_of X G z_list, z_max := PySem.W.mg_none_of X G z_max, z_min := PySem.W.mg_none_of X G z_min, z_range := PySem.W.mg_none_of X G z_range, z_repr := PySem.W.mg_none_of X G z_repr, z_tuple := PySem.W.mg_none_of X G z_tuple }
  exact ⟨_, fun s v => .of_eq rfl, fun base _ _ => ok_law T⟩
theorem walk {l : PySem.W.OpenLaw} {q : Program} {loose : List Str} {XP : (Str → Option Value) → Heap → Prop} {YP : World → Heap → Prop} {d : DefRec} {K : Params → PySem.W.Frag} (hn : l.most = some 63) (hdf : d.params.defaults = [])
    (hY : ∀ (w : World) (h : Heap), YP w h → (K w.params).In h)
    (F : ∀ (w : World) (mg : Str → Option Value) (fa : Addr) (h : Heap), (K w.params).In h → h.Ns mainGlobals mg → mg d.name = some (.ref fa) →
      ∃ fd : FuncData, (∀ (s : Shared) (u : Value), BindsTo s fd ⟨[u], []⟩ [("_law_script", u)]) ∧ ∀ base : Heap, (K w.params).In base → base.Ns mainGlobals mg → FnOk l.prog w (K w.params) mg base CX0 6 fa fd ["_law_script"] (sp_law (K w.params))) :
    PySem.W.WalkO q loose XP YP l.row.toRowW d [] (fun f vs => PySem.call f vs) :=
  L2.walk_of (n := 63) (k := 6) (x := "_law_script") (CX := fun _ => CX0) (sp := fun w => sp_law (K w.params)) hn (by decide) hdf ⟨rfl, by decide, by decide, rfl⟩ hY F (fun _ _ a ns hl _ hS => ⟨a, ns, rfl, hS, hl, fun _ => rfl⟩) fun _ _ _ _ _ z => z
end My
open PySem PySem.W PyProof.Rows
set_option maxRecDepth 100000 in
set_option maxHeartbeats 0 in
theorem PySem.Challenge.cw_paceplan_k07_windows_drawn_in_holds : PySem.Challenge.rw_paceplan_k07_windows_drawn_in.Holds := by
  w_on; refine HWtop ?_
  k_fill
  refine My.walk (l := PySem.Challenge.rw_paceplan_k07_windows_drawn_in) rfl rfl (fun w h Y => PySem.W.kIn_of Y) ?F
  case F =>
    intro w mg fa h KX G hmg
    refine' My.all_mk KX G hmg ?p_copied ?l_copied ?c_copied ?k_copied ?p_no_leanings ?l_no_leanings ?c_no_leanings ?k_no_leanings ?p_add_lean ?l_add_lean ?c_add_lean ?k_add_lean ?p_all_leanings ?l_all_leanings ?c_all_leanings ?k_all_leanings ?p_drawn_in ?l_drawn_in ?c_drawn_in ?k_drawn_in ?p_law_tape ?l_law_tape ?c_law_tape ?k_law_tape ?p_law_draw ?l_law_draw ?c_law_draw ?k_law_draw ?p_law_gcd ?l_law_gcd ?c_law_gcd ?k_law_gcd ?p_law_ratio ?l_law_ratio ?c_law_ratio ?k_law_ratio ?p_law_part ?l_law_part ?c_law_part ?k_law_part ?p_law_works ?l_law_works ?c_law_works ?k_law_works ?p_law_leans ?l_law_leans ?c_law_leans ?k_law_leans ?p_law_due ?l_law_due ?c_law_due ?k_law_due ?p_law_told ?l_law_told ?c_law_told ?k_law_told ?p_law ?l_law ?c_law ?k_law ?pB ?lB ?lnB ?hsB ?hnB ?cgB ?ctB ?p_NoRoom ?lc_NoRoom ?fi_NoRoom ?l_NoRoom ?cd_NoRoom_ ?ki_NoRoom ?ti_NoRoom ?kc_NoRoom ?hh_NoRoom ?sa_NoRoom ?na_NoRoom_work ?ga_NoRoom ?gn_NoRoom ?cl_NoRoom ?w_x_catch ?z_abs ?z_enumerate ?z_int ?z_isinstance ?z_len ?z_list ?z_max ?z_min ?z_range ?z_repr ?z_tuple
    (case p_copied => k_is)
    (case l_copied => k_is)
    (case c_copied => k_is)
    (case k_copied => k_is)
    (case p_no_leanings => k_is)
    (case l_no_leanings => k_is)
    (case c_no_leanings => k_is)
    (case k_no_leanings => k_is)
    (case p_add_lean => k_is)
    (case l_add_lean => k_is)
    (case c_add_lean => k_is)
    (case k_add_lean => k_is)
    (case p_all_leanings => k_is)
    (case l_all_leanings => k_is)
    (case c_all_leanings => k_is)
    (case k_all_leanings => k_is)
    (case p_drawn_in => k_is)
    (case l_drawn_in => k_is)
    (case c_drawn_in => k_is)
    (case k_drawn_in => k_is)
    (case p_law_tape => k_is)
    (case l_law_tape => k_is)
    (case c_law_tape => k_is)
    (case k_law_tape => k_is)
    (case p_law_draw => k_is)
    (case l_law_draw => k_is)
    (case c_law_draw => k_is)
    (case k_law_draw => k_is)
    (case p_law_gcd => k_is)
    (case l_law_gcd => k_is)
    (case c_law_gcd => k_is)
    (case k_law_gcd => k_is)
    (case p_law_ratio => k_is)
    (case l_law_ratio => k_is)
    (case c_law_ratio => k_is)
    (case k_law_ratio => k_is)
    (case p_law_part => k_is)
    (case l_law_part => k_is)
    (case c_law_part => k_is)
    (case k_law_part => k_is)
    (case p_law_works => k_is)
    (case l_law_works => k_is)
    (case c_law_works => k_is)
    (case k_law_works => k_is)
    (case p_law_leans => k_is)
    (case l_law_leans => k_is)
    (case c_law_leans => k_is)
    (case k_law_leans => k_is)
    (case p_law_due => k_is)
    (case l_law_due => k_is)
    (case c_law_due => k_is)
    (case k_law_due => k_is)
    (case p_law_told => k_is)
    (case l_law_told => k_is)
    (case c_law_told => k_is)
    (case k_law_told => k_is)
    (case p_law => k_is)
    (case l_law => k_is)
    (case c_law => k_is)
    (case k_law => k_is)
    (case pB => k_is)
    (case lB => k_is)
    (case lnB => k_is)
    (case hsB => rfl)
    (case hnB => rfl)
    (case cgB => k_is)
    (case ctB => k_is)
    (case p_NoRoom => k_is)
    (case lc_NoRoom => k_is)
    (case fi_NoRoom => k_is)
    (case l_NoRoom => k_is)
    (case cd_NoRoom_ => k_is)
    (case ki_NoRoom => k_is)
    (case ti_NoRoom => k_is)
    (case kc_NoRoom => k_is)
    (case hh_NoRoom => k_is)
    (case sa_NoRoom => k_is)
    (case na_NoRoom_work => k_is)
    (case ga_NoRoom => k_is)
    (case gn_NoRoom => k_is)
    (case cl_NoRoom => k_is)
    (case w_x_catch => kts_exm)
    (case z_abs => k_is)
    (case z_enumerate => k_is)
    (case z_int => k_is)
    (case z_isinstance => k_is)
    (case z_len => k_is)
    (case z_list => k_is)
    (case z_max => k_is)
    (case z_min => k_is)
    (case z_range => k_is)
    (case z_repr => k_is)
    (case z_tuple => k_is)
