import PyProof.Rows.All
import Wide.All
import OpenK.AllK
import Wide.FinOn
import HandS.ForMost
import HandS.ForExc
import HandS.ExcInit
import HandS.ExcField
import HandS.Lambda
import HandS.EndTab
import HandS.TryMany
import HandS.IsInst
import HandS.Deep
import HandS.TupLe
import HandS.TupAny
import HandS.Zip
import HandS.Walk
import HandS.Wide
import HandS.Flow
import HandS.TupMul
import KE.GoesMore
import KE.GoesEnum
import KE.SortData
import KE.KDictKeyed
import PyProof.ReprRoads
import HandS.Style
import HandS.DictComp
import HandS.TupSets
import HandS.Strs
import HandS.SetFor
import HandS.Conv
import KE.GoesNew
import HandS.Rev
import KE.DataMinMax
import HandS.SortKw
import KE.KEqSeq
import HandS.HeadHook4
import HandS.HeadWalk
import HandS.Head2
import HandS.Defaults
import PySem.Challenge.RW_floorpowers_k04_whole_all_families_and_w
set_option Elab.async false
set_option linter.all false
set_option maxRecDepth 100000
set_option maxHeartbeats 4000000
/-! A pure reading of a part of Python: values are data, a list that grows belongs to one name, draws are a state. -/
namespace Q
open PySem L2

/-- the drawing state of a law -/
structure Mach where
  cells : List Int
  great : List Int
  spot : Int
abbrev Om := Option Mach

inductive Res (α : Type) where
  | ok (a : α) (o : Om)
  | exn (c : Str) (fs : List (Str × PyData)) (o : Om)
  | bad
abbrev M (α : Type) := Om → Res α
@[reducible] def M.ret {α : Type} (a : α) : M α := fun o => .ok a o
@[reducible] def M.bnd {α β : Type} (m : M α) (f : α → M β) : M β := fun o => match m o with
  | .ok a o' => f a o'
  | .exn c fs o' => .exn c fs o'
  | .bad => .bad
instance : Monad M where
  pure := M.ret
  bind := M.bnd
def bad {α : Type} : M α := fun _ => .bad
def need (b : Bool) : M Unit := fun o => if b then .ok () o else .bad
def get? {α : Type} (x : Option α) : M α := fun o => match x with | some a => .ok a o | none => .bad

/-- what a name stands for -/
inductive Ent where
  | dat (d : PyData)
  | own (ds : List PyData)
  | mach
  | clo
  | exc (c : Str) (fs : List (Str × PyData))
abbrev Rho := List (Option Ent)
/-- the table of defs: what a call gives -/
abbrev Calls := Str → List Ent → M PyData

/-! ### what data are good for -/
def line : Nat := 16777216
/-- data that every operation takes: no dict, not deep, numbers not great -/
def okD (d : PyData) : Bool := SeqAt.shaped d
def truth : PyData → Bool
  | .none => false
  | .bool b => b
  | .int i => i != 0
  | .str x => x.length != 0
  | .list xs => !xs.isEmpty
  | .tuple xs => !xs.isEmpty
  | .dict kvs => !kvs.isEmpty
/-- data whose truth may be asked -/
def okT (d : PyData) : Bool := match d with
  | .str y => decide (y.length ≤ line)
  | .dict _ => false
  | _ => true
/-- data without objects in them -/
def flat : PyData → Bool
  | .none => true
  | .bool _ => true
  | .int _ => true
  | .str _ => true
  | _ => false
def keyD : Key → PyData
  | .inl i => .int i
  | .inr s => .str s
def flV : PyData → V
  | .bool b => .bl b
  | .int i => .int i
  | .str x => .str x
  | _ => .non
/-! ### operators -/
def addD : PyData → PyData → Option PyData
  | .int a, .int b => some (.int (a + b))
  | .tuple a, .tuple b => if a.length + b.length ≤ line then some (.tuple (a ++ b)) else none
  | .list a, .list b => if a.length + b.length ≤ line then some (.list (a ++ b)) else none
  | .str a, .str b => if a.length + b.length ≤ line then some (.str (a ++ b)) else none
  | _, _ => none
def subD : PyData → PyData → Option PyData
  | .int a, .int b => some (.int (a - b))
  | _, _ => none
def mulD : PyData → PyData → Option PyData
  | .int a, .int b => if (-(2 ^ 64) < a ∧ a < 2 ^ 64) ∨ (-(2 ^ 64) < b ∧ b < 2 ^ 64) then some (.int (a * b)) else none
  | .tuple ds, .int k => if ds ≠ [] ∧ 2 ≤ k ∧ k ≤ 1000 ∧ ds.length ≤ 1000 then some (.tuple (List.replicate k.toNat ds).flatten) else none
  | _, _ => none
def modD : PyData → PyData → Option PyData
  | .int a, .int b => if b ≠ 0 then some (.int (a.fmod b)) else none
  | _, _ => none
def fdivD : PyData → PyData → Option PyData
  | .int a, .int b => if b ≠ 0 ∧ b.natAbs < 1073741824 then some (.int (a.fdiv b)) else none
  | _, _ => none
def powD : PyData → PyData → Option PyData
  | .int a, .int b => if 0 ≤ b ∧ b ≤ 1000000 ∧ a.natAbs < 2 ^ 64 then some (.int (a ^ b.toNat)) else none
  | _, _ => none
def xorD : PyData → PyData → Option PyData
  | .int a, .int b => some (.int (Builtin.bitXor a b))
  | _, _ => none
def binD (op : Operator) (a b : PyData) : Option PyData := match op with
  | .Add => addD a b
  | .Sub => subD a b
  | .Mult => mulD a b
  | .Mod => modD a b
  | .FloorDiv => fdivD a b
  | .Pow => powD a b
  | .BitXor => xorD a b
  | _ => none
/-- a < b -/
def ltD (a b : PyData) : Option Bool := match a, b with
  | .int i, .int j => some (decide (i < j))
  | .tuple x, .tuple y => if W.alike (.tuple x) (.tuple y) && okD (.tuple x) && okD (.tuple y) then some (W.dataLt (.tuple x) (.tuple y)) else none
  | _, _ => none
/-! ### keys: whole numbers, None, tuples of such -/
mutual
def numKey : PyData → Option NestedKey
  | .none => some .none
  | .int i => some (.num i)
  | .tuple ds => (match numKeys ds with | some ks => some (.tup ks) | none => none)
  | .bool _ => none
  | .str _ => none
  | .list _ => none
  | .dict _ => none
def numKeys : List PyData → Option (List NestedKey)
  | [] => some []
  | d :: ds => (match numKey d, numKeys ds with
    | some k, some ks => some (k :: ks)
    | _, _ => none)
end
def isKeyD : PyData → Bool
  | .tuple ds => (match numKey (.tuple ds) with | some k => decide (k.depth ≤ 8) | none => false)
  | _ => false
def sameKey (d e : PyData) : Bool := decide (numKey d = numKey e)
def inD (x : PyData) : PyData → Option Bool
  | .dict kvs => if isKeyD x && (kvs.all fun p => isKeyD p.1) then some (kvs.any fun p => sameKey p.1 x) else none
  | .tuple ds => if okD x && okD (.tuple ds) then some (ds.any fun d => PyData.eqv d x) else none
  | .list ds => if okD x && okD (.list ds) then some (ds.any fun d => PyData.eqv d x) else none
  | _ => none
/-- a == b -/
def eqD (a b : PyData) : Option Bool := match a, b with
  | .str x, .str y => some (decide (x = y))
  | a, b => if okD a && okD b then some (PyData.eqv a b) else none
def cmpD (op : CmpOp) (a b : PyData) : Option Bool := match op with
  | .Eq => eqD a b
  | .NotEq => (eqD a b).map (!·)
  | .Lt => ltD a b
  | .Gt => (match a, b with | .int i, .int j => some (decide (j < i)) | _, _ => none)
  | .LtE => (match a, b with | .int i, .int j => some (decide (i ≤ j)) | _, _ => none)
  | .GtE => (match a, b with | .int i, .int j => some (decide (j ≤ i)) | _, _ => none)
  | .In => inD a b
  | .NotIn => (inD a b).map (!·)
  | .Is => (match a, b with | .none, .none => some true | .bool a, .bool b => some (decide (a = b)) | x, .none => some false | _, _ => none)
  | .IsNot => (match a, b with | .none, .none => some false | .bool a, .bool b => some (!decide (a = b)) | x, .none => some true | _, _ => none)
def itemD (d i : PyData) : Option PyData := match d, i with
  | .tuple ds, .int k => L2.atI ds k
  | .list ds, .int k => L2.atI ds k
  | _, _ => none
def cutL {α : Type} (xs : List α) (lo hi : Option Int) : List α := (xs.drop (HT.sIx xs.length 0 lo)).take (HT.sIx xs.length xs.length hi - HT.sIx xs.length 0 lo)
def cutD (d : PyData) (lo hi : Option Int) : Option PyData := match d with
  | .tuple ds => some (.tuple (cutL ds lo hi))
  | .list ds => some (.list (cutL ds lo hi))
  | _ => none
end Q

set_option maxHeartbeats 4000000
namespace Q
open PySem L2

/-! ### the world: tables of code, the draws' dict -/
structure Wd where
  T : List (Addr × Str)
  mach : Option (Addr × Addr × Addr)
  b : Addr → Prop
  h0 : Hp
  lam : Addr
def Wd.ex (W : Wd) (a : Addr) : Prop := match W.mach with
  | none => False
  | some (p, c, g) => a = p ∨ a = c ∨ a = g
def machAt (H : Hp) (p c g : Addr) (m : Mach) : Prop :=
  H p = some (.dK [(.inr (Str.ofString "cells"), .ref c), (.inr (Str.ofString "great"), .ref g), (.inr (Str.ofString "spot"), .int m.spot)]) ∧
    H c = some (.lst (m.cells.map V.int)) ∧ H g = some (.lst (m.great.map V.int)) ∧ p ≠ c ∧ p ≠ g ∧ c ≠ g
def Wd.St (W : Wd) (ω : Om) (H : Hp) : Prop := LamX.Tabs W.T H ∧ match W.mach, ω with
  | none, none => True
  | some (p, c, g), some m => machAt H p c g m
  | _, _ => False
/-- what never changes -/
def stays : HO → Prop
  | .tup _ => True
  | .frz _ _ => True
  | _ => False
/-- what stands stays, but the tables and the draws -/
structure Step (W : Wd) (H H' : Hp) : Prop where
  keep : ∀ a o, H a = some o → (¬ W.ex a ∨ stays o) → (∀ ps, o ≠ .tbl ps) → H' a = some o
  new : ∀ a, H' a = none → H a = none
theorem Step.refl (W : Wd) (H : Hp) : Step W H H := ⟨fun _ _ h _ _ => h, fun _ h => h⟩
theorem Step.trans {W : Wd} {H H1 H2 : Hp} (a : Step W H H1) (b : Step W H1 H2) : Step W H H2 :=
  ⟨fun c o h n t => b.keep c o (a.keep c o h n t) n t, fun c h => a.new c (b.new c h)⟩
theorem Step.upd {W : Wd} {H : Hp} {p : Addr} {o : HO} (h : H p = none) : Step W H (L2.upd H p o) :=
  ⟨fun a u e _ _ => by rw [upd_ne (ne_of_none e h)]; exact e, fun a e => by
    by_cases q : a = p
    · rw [q]; exact h
    · rw [upd_ne q] at e; exact e⟩
theorem Step.of_same {W : Wd} {H H' : Hp} (h : Same H H') : Step W H H' := ⟨fun a o e _ _ => h a o e, fun a e => h.free e⟩

/-! ### a value stands for data -/
section
variable (K : PySem.W.Frag) (H : Hp)
mutual
def KyAt : PyData → V → Prop
  | .none, v => v = .non
  | .int i, v => v = .int i
  | .tuple ds, v => ∃ a vs, v = .ref a ∧ SqT K H a vs ∧ KyL ds vs
  | .bool _, _ => False
  | .str _, _ => False
  | .list _, _ => False
  | .dict _, _ => False
def KyL : List PyData → List V → Prop
  | [], vs => vs = []
  | d :: ds, vs => ∃ v r, vs = v :: r ∧ KyAt d v ∧ KyL ds r
end
end
section
variable {K : PySem.W.Frag} {H H' : Hp}
mutual
theorem KyAt.carry (kp : ∀ b o, H b = some o → stays o → (∀ ps, o ≠ .tbl ps) → H' b = some o) : ∀ (d : PyData) (v : V), KyAt K H d v → KyAt K H' d v
  | .none, v, h => by simp only [KyAt] at h ⊢; exact h
  | .int i, v, h => by simp only [KyAt] at h ⊢; exact h
  | .bool b, v, h => by simp only [KyAt] at h
  | .str x, v, h => by simp only [KyAt] at h
  | .list ds, v, h => by simp only [KyAt] at h
  | .dict kvs, v, h => by simp only [KyAt] at h
  | .tuple ds, v, h => by
    simp only [KyAt] at h ⊢
    obtain ⟨a, vs, e, s, l⟩ := h
    refine ⟨a, vs, e, ?_, KyL.carry kp ds vs l⟩
    rcases s with (s | ⟨o, s⟩) | s
    · exact .inl (.inl (kp _ _ s trivial fun _ z => nomatch z))
    · exact .inl (.inr ⟨o, kp _ _ s trivial fun _ z => nomatch z⟩)
    · exact .inr s
theorem KyL.carry (kp : ∀ b o, H b = some o → stays o → (∀ ps, o ≠ .tbl ps) → H' b = some o) : ∀ (ds : List PyData) (vs : List V), KyL K H ds vs → KyL K H' ds vs
  | [], vs, h => by simp only [KyL] at h ⊢; exact h
  | d :: ds, vs, h => by
    simp only [KyL] at h ⊢
    obtain ⟨v, r, e, a, b⟩ := h
    exact ⟨v, r, e, KyAt.carry kp d v a, KyL.carry kp ds r b⟩
end
mutual
/-- such a key's hash is the same in each world -/
theorem numKey_hash : ∀ (d : PyData) (k : NestedKey), numKey d = some k → ∀ w w' : World, k.hash w = k.hash w'
  | .none, k, h, w, w' => by simp only [numKey] at h; cases h; rfl
  | .int i, k, h, w, w' => by simp only [numKey] at h; cases h; rfl
  | .bool _, k, h, _, _ => by simp only [numKey] at h; cases h
  | .str _, k, h, _, _ => by simp only [numKey] at h; cases h
  | .list _, k, h, _, _ => by simp only [numKey] at h; cases h
  | .dict _, k, h, _, _ => by simp only [numKey] at h; cases h
  | .tuple ds, k, h, w, w' => by
    simp only [numKey] at h
    cases e : numKeys ds with
    | none => rw [e] at h; cases h
    | some ks =>
      rw [e] at h
      cases h
      simp only [NestedKey.hash]
      rw [numKeys_hash ds ks e w w']
theorem numKeys_hash : ∀ (ds : List PyData) (ks : List NestedKey), numKeys ds = some ks → ∀ w w' : World, NestedKey.hashes w ks = NestedKey.hashes w' ks
  | [], ks, h, w, w' => by simp only [numKeys] at h; cases h; rfl
  | d :: ds, ks, h, w, w' => by
    simp only [numKeys] at h
    cases e1 : numKey d with
    | none => rw [e1] at h; cases h
    | some k =>
      cases e2 : numKeys ds with
      | none => rw [e1, e2] at h; cases h
      | some ks2 =>
        rw [e1, e2] at h
        cases h
        simp only [NestedKey.hashes]
        rw [numKey_hash d k e1 w w', numKeys_hash ds ks2 e2 w w']
end
end
/-- a dict of such keys: its entries' keys, where they stand, the values -/
def DicN (a : Addr) (xs : List (PyData × Addr × V)) : HO := .ext fun h => xs.length ≤ sizeLine ∧ (a == sysModules) = false ∧ ∃ ys : List (NestedKey × Addr × Value),
  Paired (fun (x : PyData × Addr × V) (y : NestedKey × Addr × Value) => numKey x.1 = some y.1 ∧ x.2.1 = y.2.1 ∧ RelV x.2.2 y.2.2) xs ys ∧ (ys.map (·.1)).Nodup ∧
  ∃ o es ep, h.get? a = some o ∧ o.ExactDict ∧ o.data = .dict es ep ∧ ∀ (P : Program) (w : World), es.toList = ys.map (entryOfKey (nestedKind P w))
/-- a dict whose values are plain -/
def DiAt (K : PySem.W.Frag) (H : Hp) (a : Addr) (kvs : List (PyData × PyData)) : Prop :=
  (∃ ks : List (Key × PyData), H a = some (.dK (ks.map fun p => (p.1, flV p.2))) ∧ kvs = ks.map (fun p => (keyD p.1, p.2)) ∧ ∀ p ∈ ks, flat p.2 = true) ∨
  (∃ xs : List (PyData × Addr × PyData), H a = some (DicN a (xs.map fun x => (x.1, x.2.1, flV x.2.2))) ∧ kvs = xs.map (fun x => (x.1, x.2.2)) ∧ ∀ x ∈ xs, flat x.2.2 = true ∧ isKeyD x.1 = true ∧ KyAt K H x.1 (.ref x.2.1))
theorem DiAt.imp {K : PySem.W.Frag} {H H' : Hp} {a : Addr} {kvs : List (PyData × PyData)} (h : DiAt K H a kvs) (e : ∀ o, H a = some o → (∀ ps, o ≠ .tbl ps) → H' a = some o) (kp : ∀ b o, H b = some o → stays o → (∀ ps, o ≠ .tbl ps) → H' b = some o) : DiAt K H' a kvs := by
  rcases h with ⟨ks, h1, h2⟩ | ⟨xs, h1, h2, h3⟩
  · exact .inl ⟨ks, e _ h1 (fun _ z => nomatch z), h2⟩
  · exact .inr ⟨xs, e _ h1 (fun _ z => by unfold DicN at z; cases z), h2, fun x hx => ⟨(h3 x hx).1, (h3 x hx).2.1, (h3 x hx).2.2.carry kp⟩⟩
theorem DiAt.some {K : PySem.W.Frag} {H : Hp} {a : Addr} {kvs : List (PyData × PyData)} (h : DiAt K H a kvs) : H a ≠ none := by
  rcases h with ⟨ks, h1, h2⟩ | ⟨ks, h1, h2⟩ <;> (rw [h1]; exact fun z => nomatch z)
/-- a list that is read: one that isn't among those to be let alone, a locked one, or a written one -/
def LsAt (K : PySem.W.Frag) (xo : Addr → Prop) (H : Hp) (a : Addr) (vs : List V) : Prop :=
  (¬ xo a ∧ H a = some (.lst vs)) ∨ (∃ o, H a = some (.frz o (.lst vs))) ∨
    ∃ (o : Obj) (its : Array Value) (n : Nat), K.lookup a = some o ∧ o.cls = .type "list" ∧ o.dict = none ∧ o.data = .seq its n ∧ its.size ≤ sizeLine ∧ Vals vs its.toList
section
variable (K : PySem.W.Frag) (xo : Addr → Prop) (H : Hp)
mutual
def Dt : PyData → V → Prop
  | .none, v => v = .non
  | .bool b, v => v = .bl b
  | .int i, v => v = .int i
  | .str x, v => v = .str x
  | .tuple ds, v => ∃ a vs, v = .ref a ∧ SqT K H a vs ∧ DtL ds vs
  | .list ds, v => ∃ a vs, v = .ref a ∧ LsAt K xo H a vs ∧ DtL ds vs
  | .dict kvs, v => ∃ a, v = .ref a ∧ ¬ xo a ∧ DiAt K H a kvs
def DtL : List PyData → List V → Prop
  | [], vs => vs = []
  | d :: ds, vs => ∃ v r, vs = v :: r ∧ Dt d v ∧ DtL ds r
end
end
section
variable {K : PySem.W.Frag} {xo xo' : Addr → Prop} {H H' : Hp}
theorem DtL.length : ∀ {ds : List PyData} {vs : List V}, DtL K xo H ds vs → vs.length = ds.length
  | [], vs, h => by simp only [DtL] at h; rw [h]; rfl
  | d :: ds, vs, h => by
    simp only [DtL] at h
    obtain ⟨v, r, e, _, t⟩ := h
    rw [e, List.length_cons, List.length_cons, t.length]
theorem DtL.nil : DtL K xo H [] [] := by simp only [DtL]
theorem DtL.cons {d : PyData} {v : V} {ds : List PyData} {vs : List V} (h : Dt K xo H d v) (t : DtL K xo H ds vs) : DtL K xo H (d :: ds) (v :: vs) := by
  simp only [DtL]; exact ⟨v, vs, rfl, h, t⟩
theorem DtL.app : ∀ {ds es : List PyData} {vs ws : List V}, DtL K xo H ds vs → DtL K xo H es ws → DtL K xo H (ds ++ es) (vs ++ ws)
  | [], es, vs, ws, h, t => by simp only [DtL] at h; rw [h]; exact t
  | d :: ds, es, vs, ws, h, t => by
    simp only [DtL] at h
    obtain ⟨v, r, e, a, b⟩ := h
    rw [e]
    exact .cons a (b.app t)
theorem DtL.get : ∀ {ds : List PyData} {vs : List V} {i : Nat} {d : PyData}, DtL K xo H ds vs → ds[i]? = some d → ∃ v, vs[i]? = some v ∧ Dt K xo H d v
  | [], vs, i, d, h, e => by simp at e
  | d :: ds, vs, 0, d', h, e => by
    simp only [DtL] at h
    obtain ⟨v, r, e1, a, b⟩ := h
    simp at e
    subst e
    exact ⟨v, by rw [e1]; rfl, a⟩
  | d :: ds, vs, i + 1, d', h, e => by
    simp only [DtL] at h
    obtain ⟨v, r, e1, a, b⟩ := h
    obtain ⟨v', h1, h2⟩ := b.get (i := i) (d := d') (by simpa using e)
    exact ⟨v', by rw [e1]; simpa using h1, h2⟩
theorem DtL.take : ∀ {ds : List PyData} {vs : List V} (n : Nat), DtL K xo H ds vs → DtL K xo H (ds.take n) (vs.take n)
  | _, _, 0, _ => .nil
  | [], vs, n + 1, h => by simp only [DtL] at h; rw [h]; exact .nil
  | d :: ds, vs, n + 1, h => by
    simp only [DtL] at h
    obtain ⟨v, r, e, a, b⟩ := h
    rw [e]
    exact .cons a (b.take n)
theorem DtL.drop : ∀ {ds : List PyData} {vs : List V} (n : Nat), DtL K xo H ds vs → DtL K xo H (ds.drop n) (vs.drop n)
  | _, _, 0, h => h
  | [], vs, n + 1, h => by simp only [DtL] at h; rw [h]; exact .nil
  | d :: ds, vs, n + 1, h => by
    simp only [DtL] at h
    obtain ⟨v, r, e, a, b⟩ := h
    rw [e]
    exact b.drop n
theorem LsAt.of {a : Addr} {vs : List V} (n : ¬ xo a) (h : H a = some (.lst vs)) : LsAt K xo H a vs := .inl ⟨n, h⟩
theorem LsAt.sq {a : Addr} {vs : List V} (h : LsAt K xo H a vs) : SqL K H a vs := by
  rcases h with h | h | h
  · exact .inl (.inl h.2)
  · exact .inl (.inr h)
  · exact .inr h
theorem LsAt.carry {a : Addr} {vs : List V} (sub : ∀ a, xo' a → xo a) (kp : ∀ a o, H a = some o → (¬ xo a ∨ stays o) → (∀ ps, o ≠ .tbl ps) → H' a = some o) (h : LsAt K xo H a vs) : LsAt K xo' H' a vs := by
  rcases h with ⟨n, s⟩ | ⟨o, s⟩ | h
  · exact .inl ⟨fun z => n (sub a z), kp _ _ s (.inl n) (fun _ z => nomatch z)⟩
  · exact .inr (.inl ⟨o, kp _ _ s (.inr trivial) fun _ z => nomatch z⟩)
  · exact .inr (.inr h)
theorem LsAt.wide {a : Addr} {vs : List V} (w : ∀ a, xo' a → xo a ∨ H a = none) (h : LsAt K xo H a vs) : LsAt K xo' H a vs := by
  rcases h with ⟨n, s⟩ | h
  · exact .inl ⟨fun z => (w a z).elim n fun z => (by rw [z] at s; cases s), s⟩
  · exact .inr h
mutual
/-- carried on: what it looks at is kept -/
theorem Dt.carry (sub : ∀ a, xo' a → xo a) (kp : ∀ a o, H a = some o → (¬ xo a ∨ stays o) → (∀ ps, o ≠ .tbl ps) → H' a = some o) : ∀ (d : PyData) (v : V), Dt K xo H d v → Dt K xo' H' d v
  | .none, v, h => by simp only [Dt] at h ⊢; exact h
  | .bool b, v, h => by simp only [Dt] at h ⊢; exact h
  | .int i, v, h => by simp only [Dt] at h ⊢; exact h
  | .str x, v, h => by simp only [Dt] at h ⊢; exact h
  | .dict kvs, v, h => by
    simp only [Dt] at h ⊢
    obtain ⟨a, e, n, q⟩ := h
    exact ⟨a, e, fun z => n (sub a z), q.imp (fun o e t => kp a o e (.inl n) t) fun b o e s t => kp b o e (.inr s) t⟩
  | .tuple ds, v, h => by
    simp only [Dt] at h ⊢
    obtain ⟨a, vs, e, s, l⟩ := h
    refine ⟨a, vs, e, ?_, DtL.carry sub kp ds vs l⟩
    rcases s with (s | ⟨o, s⟩) | s
    · exact .inl (.inl (kp _ _ s (.inr trivial) fun _ z => nomatch z))
    · exact .inl (.inr ⟨o, kp _ _ s (.inr trivial) fun _ z => nomatch z⟩)
    · exact .inr s
  | .list ds, v, h => by
    simp only [Dt] at h ⊢
    obtain ⟨a, vs, e, s, l⟩ := h
    exact ⟨a, vs, e, s.carry sub kp, DtL.carry sub kp ds vs l⟩
theorem DtL.carry (sub : ∀ a, xo' a → xo a) (kp : ∀ a o, H a = some o → (¬ xo a ∨ stays o) → (∀ ps, o ≠ .tbl ps) → H' a = some o) : ∀ (ds : List PyData) (vs : List V), DtL K xo H ds vs → DtL K xo' H' ds vs
  | [], vs, h => by simp only [DtL] at h ⊢; exact h
  | d :: ds, vs, h => by
    simp only [DtL] at h ⊢
    obtain ⟨v, r, e, a, b⟩ := h
    exact ⟨v, r, e, Dt.carry sub kp d v a, DtL.carry sub kp ds r b⟩
end
/-- avoiding one more address -/
def more (xo : Addr → Prop) (p : Addr) : Addr → Prop := fun a => xo a ∨ a = p
/-- what is avoided more was free -/
def Grown (xo : Addr → Prop) (H : Hp) (xo' : Addr → Prop) : Prop := ∀ a, xo' a → xo a ∨ H a = none
theorem Grown.more {p : Addr} (hp : H p = none) : Grown xo H (Q.more xo p) := fun a z => z.imp id fun e => by rw [e]; exact hp
theorem Grown.refl : Grown xo H xo := fun a z => .inl z
mutual
theorem Dt.wide (w : Grown xo H xo') : ∀ (d : PyData) (v : V), Dt K xo H d v → Dt K xo' H d v
  | .none, v, h => by simp only [Dt] at h ⊢; exact h
  | .bool b, v, h => by simp only [Dt] at h ⊢; exact h
  | .int i, v, h => by simp only [Dt] at h ⊢; exact h
  | .str x, v, h => by simp only [Dt] at h ⊢; exact h
  | .dict kvs, v, h => by
    simp only [Dt] at h ⊢
    obtain ⟨a, e, n, q⟩ := h
    exact ⟨a, e, fun z => (w a z).elim n fun z => q.some z, q⟩
  | .tuple ds, v, h => by
    simp only [Dt] at h ⊢
    obtain ⟨a, vs, e, s, l⟩ := h
    exact ⟨a, vs, e, s, DtL.wide w ds vs l⟩
  | .list ds, v, h => by
    simp only [Dt] at h ⊢
    obtain ⟨a, vs, e, s, l⟩ := h
    exact ⟨a, vs, e, s.wide w, DtL.wide w ds vs l⟩
theorem DtL.wide (w : Grown xo H xo') : ∀ (ds : List PyData) (vs : List V), DtL K xo H ds vs → DtL K xo' H ds vs
  | [], vs, h => by simp only [DtL] at h ⊢; exact h
  | d :: ds, vs, h => by
    simp only [DtL] at h ⊢
    obtain ⟨v, r, e, a, b⟩ := h
    exact ⟨v, r, e, Dt.wide w d v a, DtL.wide w ds r b⟩
end
theorem Dt.more {p : Addr} (hp : H p = none) (d : PyData) (v : V) (h : Dt K xo H d v) : Dt K (Q.more xo p) H d v := Dt.wide (Grown.more hp) d v h
theorem DtL.more {p : Addr} (hp : H p = none) (d : List PyData) (v : List V) (h : DtL K xo H d v) : DtL K (Q.more xo p) H d v := DtL.wide (Grown.more hp) d v h
mutual
theorem Dt.dp : ∀ (d : PyData) (v : V), d.hasDict = false → Dt K xo H d v → Dp K H v d
  | .none, v, _, h => by simp only [Dt] at h; rw [h]; exact .non
  | .bool b, v, _, h => by simp only [Dt] at h; rw [h]; exact .bl b
  | .int i, v, _, h => by simp only [Dt] at h; rw [h]; exact .int i
  | .str x, v, _, h => by simp only [Dt] at h; rw [h]; exact .str x
  | .dict _, v, nd, h => by simp only [PyData.hasDict] at nd; cases nd
  | .tuple ds, v, nd, h => by
    simp only [PyData.hasDict] at nd
    simp only [Dt] at h
    obtain ⟨a, vs, e, s, l⟩ := h
    rw [e]; exact .tup s (DtL.dp ds vs nd l)
  | .list ds, v, nd, h => by
    simp only [PyData.hasDict] at nd
    simp only [Dt] at h
    obtain ⟨a, vs, e, s, l⟩ := h
    rw [e]; exact .lst s.sq (DtL.dp ds vs nd l)
theorem DtL.dp : ∀ (ds : List PyData) (vs : List V), PyData.hasDictAll ds = false → DtL K xo H ds vs → DpAll K H vs ds
  | [], vs, _, h => by simp only [DtL] at h; rw [h]; exact .nil
  | d :: ds, vs, nd, h => by
    simp only [PyData.hasDictAll, Bool.or_eq_false_iff] at nd
    simp only [DtL] at h
    obtain ⟨v, r, e, a, b⟩ := h
    rw [e]; exact .cons (Dt.dp d v nd.1 a) (DtL.dp ds r nd.2 b)
end
theorem Dt.step {W : Wd} (e : ∀ a, W.ex a → xo a) (s : Step W H H') {d : PyData} {v : V} (h : Dt K xo H d v) : Dt K xo H' d v :=
  h.carry (fun _ z => z) (fun a o q n t => s.keep a o q (n.imp (fun n z => n (e a z)) id) t)
theorem DtL.step {W : Wd} (e : ∀ a, W.ex a → xo a) (s : Step W H H') {ds : List PyData} {vs : List V} (h : DtL K xo H ds vs) : DtL K xo H' ds vs :=
  h.carry (fun _ z => z) (fun a o q n t => s.keep a o q (n.imp (fun n z => n (e a z)) id) t)
/-- data without objects say nothing of the heap -/
theorem Dt.flat {d : PyData} {v : V} (f : flat d = true) (h : Dt K xo H d v) : Dt K xo' H' d v := by
  cases d <;> first | (simp only [Dt] at h ⊢; exact h) | cases f
end

/-! ### how things go on -/
/-- what may change: the draws, and the lists of a name's own -/
def Wd.A (W : Wd) (xo : Addr → Prop) (a : Addr) : Prop := W.ex a ∨ (xo a ∧ ¬ W.b a)
structure Ev (W : Wd) (xo : Addr → Prop) (H : Hp) (xo' : Addr → Prop) (H' : Hp) : Prop where
  keep : ∀ a o, H a = some o → (¬ W.A xo a ∨ stays o) → (∀ ps, o ≠ .tbl ps) → H' a = some o
  new : ∀ a, H' a = none → H a = none
  grown : Grown xo H xo'
section
variable {K : PySem.W.Frag} {W : Wd} {xo xo' xo2 : Addr → Prop} {H H1 H2 : Hp}
theorem Ev.trans (a : Ev W xo H xo' H1) (b : Ev W xo' H1 xo2 H2) : Ev W xo H xo2 H2 :=
  ⟨fun c o h n t => b.keep c o (a.keep c o h n t) (n.imp (fun n z => n (z.imp id fun z => ⟨(a.grown c z.1).elim id fun q => (by rw [h] at q; cases q), z.2⟩)) id) t, fun c h => a.new c (b.new c h), fun c h => by
    rcases b.grown c h with q | q
    · exact a.grown c q
    · exact .inr (a.new c q)⟩
theorem Step.ev (s : Step W H H1) (w : Grown xo H xo') : Ev W xo H xo' H1 := ⟨fun a o h n t => s.keep a o h (n.imp (fun n z => n (.inl z)) id) t, s.new, w⟩
theorem Ev.refl : Ev W xo H xo H := (Step.refl W H).ev Grown.refl
theorem Ev.step (e : Ev W W.b H xo' H1) : Step W H H1 := ⟨fun a o h n t => e.keep a o h (n.imp (fun n z => z.elim n fun z => z.2 z.1) id) t, e.new⟩
theorem Dt.ev (eb : ∀ a, W.ex a → W.b a) (sub : ∀ a, W.b a → xo a) (e : Ev W xo H xo' H1) {d : PyData} {v : V} (h : Dt K xo H d v) : Dt K xo' H1 d v := by
  have h1 : Dt K (fun a => xo a ∨ xo' a) H d v := Dt.wide (fun a z => z.elim .inl fun z => e.grown a z) d v h
  exact Dt.carry (fun a z => .inr z) (fun a o q n t => e.keep a o q (n.imp (fun n z => n (.inl (z.elim (fun z => sub a (eb a z)) fun z => z.1))) id) t) d v h1
theorem DtL.ev (eb : ∀ a, W.ex a → W.b a) (sub : ∀ a, W.b a → xo a) (e : Ev W xo H xo' H1) {d : List PyData} {v : List V} (h : DtL K xo H d v) : DtL K xo' H1 d v := by
  have h1 : DtL K (fun a => xo a ∨ xo' a) H d v := DtL.wide (fun a z => z.elim .inl fun z => e.grown a z) d v h
  exact DtL.carry (fun a z => .inr z) (fun a o q n t => e.keep a o q (n.imp (fun n z => n (.inl (z.elim (fun z => sub a (eb a z)) fun z => z.1))) id) t) d v h1
end

/-! ### names -/
section
variable (K : PySem.W.Frag) (W : Wd) (xo : Addr → Prop) (H : Hp)
def EntOk (v : V) : Ent → Prop
  | .dat d => Dt K xo H d v
  | .own ds => ∃ p vs, v = .ref p ∧ xo p ∧ ¬ W.b p ∧ H p = some (.lst vs) ∧ DtL K xo H ds vs
  | .mach => ∃ p c g, W.mach = some (p, c, g) ∧ v = .ref p
  | .clo => v = .ref W.lam
  | .exc _ _ => True
structure Good (σ : St) (ρ : Rho) (ω : Om) : Prop where
  slot : ∀ (i : Nat) (e : Ent), ρ[i]? = some (some e) → ∃ v, σ[i]? = some (some v) ∧ EntOk K W xo H v e
  st : W.St ω H
  eb : ∀ a, W.ex a → W.b a
  sub : ∀ a, W.b a → xo a
  tr : ∀ a, xo a → H a ≠ none
  ev : Ev W W.b W.h0 xo H
  apart : ∀ (i j : Nat) (ds es : List PyData) (v : V), ρ[i]? = some (some (.own ds)) → ρ[j]? = some (some (.own es)) → σ[i]? = some (some v) → σ[j]? = some (some v) → i = j
end
section
variable {K : PySem.W.Frag} {W : Wd} {xo : Addr → Prop} {H H' : Hp} {σ : St} {ρ : Rho} {ω ω' : Om}
theorem EntOk.step {v : V} {e : Ent} (eb : ∀ a, W.ex a → W.b a) (ex : ∀ a, W.ex a → xo a) (s : Step W H H') (h : EntOk K W xo H v e) : EntOk K W xo H' v e := by
  cases e with
  | dat d => exact Dt.step ex s h
  | own ds =>
    obtain ⟨p, vs, e, x, n, q, l⟩ := h
    exact ⟨p, vs, e, x, n, s.keep _ _ q (.inl fun z => n (eb _ z)) (fun _ z => nomatch z), l.step ex s⟩
  | mach => exact h
  | clo => exact h
  | exc _ _ => trivial
theorem Good.exo (g : Good K W xo H σ ρ ω) (a : Addr) (h : W.ex a) : xo a := g.sub a (g.eb a h)
theorem Good.step (g : Good K W xo H σ ρ ω) (s : Step W H H') (st : W.St ω' H') : Good K W xo H' σ ρ ω' :=
  ⟨fun i e h => let ⟨v, a, b⟩ := g.slot i e h; ⟨v, a, b.step g.eb g.exo s⟩, st, g.eb, g.sub, fun a h z => g.tr a h (s.new a z), g.ev.trans (s.ev Grown.refl), g.apart⟩
end

/-! ### what is told of a run -/
def RunP {α : Type} (r : Res α) (P : α → Om → Prop) (E : Str → List (Str × PyData) → Om → Prop) : Prop := match r with
  | .ok a o => P a o
  | .exn c fs o => E c fs o
  | .bad => False
theorem RunP.mono {α : Type} {r : Res α} {P P' : α → Om → Prop} {E E' : Str → List (Str × PyData) → Om → Prop} (h : RunP r P E) (hp : ∀ a o, P a o → P' a o) (he : ∀ c fs o, E c fs o → E' c fs o) : RunP r P' E' := by
  cases r with
  | ok a o => exact hp _ _ h
  | exn c fs o => exact he _ _ _ h
  | bad => exact h
theorem RunP.bind {α β : Type} {m : M α} {f : α → M β} {ω : Om} {P : β → Om → Prop} {E : Str → List (Str × PyData) → Om → Prop} (h : RunP ((m >>= f) ω) P E) : RunP (m ω) (fun a o => RunP (f a o) P E) E := by
  have h' : RunP (M.bnd m f ω) P E := h
  unfold M.bnd at h'
  cases e : m ω with
  | ok a o => rw [e] at h'; exact h'
  | exn c fs o => rw [e] at h'; exact h'
  | bad => rw [e] at h'; exact h'
theorem RunP.get {α : Type} {x : Option α} {ω : Om} {P : α → Om → Prop} {E : Str → List (Str × PyData) → Om → Prop} (h : RunP (get? x ω) P E) : ∃ a, x = some a ∧ P a ω := by
  cases x with
  | none => exact h.elim
  | some a => exact ⟨a, rfl, h⟩
theorem RunP.need {b : Bool} {ω : Om} {P : Unit → Om → Prop} {E : Str → List (Str × PyData) → Om → Prop} (h : RunP (Q.need b ω) P E) : b = true ∧ P () ω := by
  unfold Q.need at h
  cases b with
  | true => exact ⟨rfl, h⟩
  | false => exact h.elim

/-! ### readings -/
section
variable (X : Cx) (W : Wd) (Wx : WX)
/-- an exception of the class c that holds the fields fs -/
def ExcIs (xo : Addr → Prop) (c : Str) (fs : List (Str × PyData)) (cls : Value) (dd : Addr) (H : Hp) : Prop :=
  (∃ C, cls = .ref C ∧ X.mg c = some (.ref C)) ∧ ∃ gs : List (Str × V), H dd = some (.xd gs) ∧ gs.map (·.1) = fs.map (·.1) ∧ DtL X.K xo H (fs.map (·.2)) (gs.map (·.2))
def ExP (xo : Addr → Prop) (σ : St) (H : Hp) (c : Str) (fs : List (Str × PyData)) (ω' : Om) : Prop :=
  ∀ cls dd H', ExcIs X xo c fs cls dd H' → Step W H H' → W.St ω' H' → Wx cls (some dd) σ H'
def tQ (f : Rho → M PyData) : TE := fun σ H Q => ∃ xo ρ ω, Good X.K W xo H σ ρ ω ∧
  RunP (f ρ ω) (fun d ω' => ∀ v H', Step W H H' → W.St ω' H' → Dt X.K xo H' d v → Q v H') (ExP X W Wx xo σ H)
def tQT (f : Rho → M Bool) : TT := fun σ H Q => ∃ xo ρ ω, Good X.K W xo H σ ρ ω ∧
  RunP (f ρ ω) (fun b ω' => ∀ H', Step W H H' → W.St ω' H' → Q b H') (ExP X W Wx xo σ H)
def tQA (f : Rho → M (List PyData)) : TA := fun σ H Q => ∃ xo ρ ω, Good X.K W xo H σ ρ ω ∧
  RunP (f ρ ω) (fun ds ω' => ∀ vs H', Step W H H' → W.St ω' H' → DtL X.K xo H' ds vs → Q vs H') (ExP X W Wx xo σ H)
end
section
variable {X : Cx} {W : Wd} {Wx : WX}
theorem ExP.step {xo : Addr → Prop} {σ : St} {H H1 : Hp} {c : Str} {fs : List (Str × PyData)} {o : Om} (s : Step W H H1) (h : ExP X W Wx xo σ H c fs o) : ExP X W Wx xo σ H1 c fs o :=
  fun cls dd H' x t q => h cls dd H' x (s.trans t) q
theorem PE.weak {e : Expr} {t t' : TE} (h : PE X e t) (w : ∀ σ H Q, t' σ H Q → t σ H Q) : PE X e t' := ⟨fun pins s σ H Q I q => h.run pins s σ H Q I (w σ H Q q)⟩
theorem PT.weak {e : Expr} {t t' : TT} (h : PT X e t) (w : ∀ σ H Q, t' σ H Q → t σ H Q) : PT X e t' := ⟨fun pins s σ H Q I q => h.run pins s σ H Q I (w σ H Q q)⟩
theorem PA.weak {e : List Expr} {t t' : TA} (h : PA X e t) (w : ∀ σ H Q, t' σ H Q → t σ H Q) : PA X e t' := ⟨fun p pins s σ H Q I q => h.run p pins s σ H Q I (w σ H Q q)⟩
theorem PS.weak {e : Stmt} {t t' : TS} (h : PS X e t) (w : ∀ D σ H, t' D σ H → t D σ H) : PS X e t' := ⟨fun pins s σ H D I q => h.run pins s σ H D I (w D σ H q)⟩
theorem PSs.weak {e : List Stmt} {t t' : TS} (h : PSs X e t) (w : ∀ D σ H, t' D σ H → t D σ H) : PSs X e t' := ⟨fun pins s σ H D I q => h.run pins s σ H D I (w D σ H q)⟩
end
end Q

set_option maxHeartbeats 4000000
namespace Q
open PySem L2 PyProof.Rows

/-! ### dicts of such keys, in the heap -/
theorem DicN_ne_code {a : Addr} {xs : List (PyData × Addr × V)} (c : Addr) (q : Str) : DicN a xs ≠ LamX.CodeO c q := fun z => by
  unfold DicN LamX.CodeO at z
  have e := HO.ext.inj z
  generalize hob : ({ cls := .none, data := .fields #[.none, .str q 0] } : Obj) = ob
  generalize hh : ({ objs := Array.replicate (c + 1) ob } : Heap) = h0
  have g0 : ∀ b o, h0.get? b = some o → o = ob := fun b o g => by
    subst hh
    unfold Heap.get? at g
    simp only [Array.getElem?_replicate] at g
    split at g
    · cases g
    · split at g
      · exact (Option.some.inj g).symm
      · cases g
  have gc : h0.get? c = some ob := by
    subst hh
    unfold Heap.get?
    simp only [Array.getElem?_replicate, Nat.lt_succ_self, if_true]
    subst hob
    rfl
  have q2 : (∃ (oc : Obj) (vs : Array Value) (t : Tok), h0.get? c = some oc ∧ oc.data = .fields vs ∧ vs[1]? = some (.str q t)) := ⟨ob, #[.none, .str q 0], 0, gc, by subst hob; rfl, rfl⟩
  rw [← congrFun e h0] at q2
  obtain ⟨_, _, _, _, _, o, es, ep, g1, _, g2, _⟩ := q2
  rw [g0 a o g1, ← hob] at g2
  cases g2
section
variable {X : Cx} {pins : List (Addr × Obj)} {σ : L2.St} {H : Hp} {s : Shared}
mutual
theorem KyAt.nested (I : Inv X pins σ H s) : ∀ (d : PyData) (k : NestedKey) (v : V) (u : Value), numKey d = some k → KyAt X.K H d v → RelV v u → NestedIs s.heap k u
  | .none, k, v, u, h, y, r => by
    simp only [numKey] at h; cases h
    simp only [KyAt] at y
    subst y
    cases r
    exact .none
  | .int i, k, v, u, h, y, r => by
    simp only [numKey] at h; cases h
    simp only [KyAt] at y
    subst y
    obtain ⟨t, rfl⟩ := r
    exact .int i t
  | .bool _, k, v, u, h, _, _ => by simp only [numKey] at h; cases h
  | .str _, k, v, u, h, _, _ => by simp only [numKey] at h; cases h
  | .list _, k, v, u, h, _, _ => by simp only [numKey] at h; cases h
  | .dict _, k, v, u, h, _, _ => by simp only [numKey] at h; cases h
  | .tuple ds, k, v, u, h, y, r => by
    simp only [numKey] at h
    cases e : numKeys ds with
    | none => rw [e] at h; cases h
    | some ks =>
      rw [e] at h
      cases h
      simp only [KyAt] at y
      obtain ⟨a, vs, rfl, hs, l⟩ := y
      obtain rfl : u = Value.ref a := r
      obtain ⟨its, rv, ⟨o, ho, hc, n, hd⟩, _⟩ := I.tuple hs
      exact .tup ho hc hd (by simpa using KyL.nested I ds ks vs its e l rv)
theorem KyL.nested (I : Inv X pins σ H s) : ∀ (ds : List PyData) (ks : List NestedKey) (vs : List V) (us : List Value), numKeys ds = some ks → KyL X.K H ds vs → Vals vs us → NestedAll s.heap ks us
  | [], ks, vs, us, h, y, r => by
    simp only [numKeys] at h; cases h
    simp only [KyL] at y
    subst y
    cases r
    exact .nil
  | d :: ds, ks, vs, us, h, y, r => by
    simp only [numKeys] at h
    cases e1 : numKey d with
    | none => rw [e1] at h; cases h
    | some k =>
      cases e2 : numKeys ds with
      | none => rw [e1, e2] at h; cases h
      | some ks2 =>
        rw [e1, e2] at h
        cases h
        simp only [KyL] at y
        obtain ⟨v, rr, rfl, y1, y2⟩ := y
        cases r with
        | cons r1 r2 => exact .cons (KyAt.nested I d k v _ e1 y1 r1) (KyL.nested I ds ks2 rr _ e2 y2 r2)
end
theorem isKeyD_ok {d : PyData} (h : isKeyD d = true) : ∃ k, numKey d = some k ∧ k.depth ≤ 8 := by
  unfold isKeyD at h
  split at h
  · split at h
    · rename_i k e
      exact ⟨k, e, of_decide_eq_true h⟩
    · cases h
  · cases h
abbrev KN : List (PyData × Addr × V) → List (NestedKey × Addr × Value) → Prop := Paired fun x y => numKey x.1 = some y.1 ∧ x.2.1 = y.2.1 ∧ RelV x.2.2 y.2.2
theorem dicN_of {a : Addr} {xs : List (PyData × Addr × V)} (I : Inv X pins σ H s) (hH : H a = some (DicN a xs)) (hk : ∀ x ∈ xs, isKeyD x.1 = true ∧ KyAt X.K H x.1 (.ref x.2.1)) :
    xs.length ≤ sizeLine ∧ (a == sysModules) = false ∧ ∃ ys, KN xs ys ∧ s.heap.DictOfH (nestedKind X.prog X.w) a ys := by
  obtain ⟨⟨z, hd, ys, pr, nd, o, es, ep, h1, h2, h3, h4⟩, zz⟩ := (show ObjOk X.prog X.w H s.heap a (DicN a xs) from I.hok a _ hH)
  refine ⟨z, hd, ys, pr, o, es, ep, h1, h2, h3, h4 X.prog X.w, ?_, nd⟩
  clear h4 nd hH z zz
  induction pr with
  | nil => intro x hx; exact nomatch hx
  | @cons x y xs ys hp t ih =>
    intro q hq
    rcases List.mem_cons.mp hq with e | hq
    · subst e
      obtain ⟨k1, k2⟩ := hk x List.mem_cons_self
      obtain ⟨k, e1, e2⟩ := isKeyD_ok k1
      rw [hp.1] at e1
      cases e1
      exact ⟨KyAt.nested I x.1 _ _ _ hp.1 k2 (by rw [hp.2.1]; rfl), e2⟩
    · exact ih (fun x hx => hk x (List.mem_cons_of_mem _ hx)) q hq
theorem KN.any {xs : List (PyData × Addr × V)} {ys : List (NestedKey × Addr × Value)} (r : KN xs ys) {d : PyData} {k : NestedKey} (e : numKey d = some k) : (xs.any fun x => sameKey x.1 d) = (atKey ys k).isSome := by
  induction r with
  | nil => rfl
  | @cons x y xs ys hp t ih =>
    rw [List.any_cons, ih]
    unfold sameKey
    rw [hp.1, e]
    unfold atKey
    rw [List.find?_cons]
    by_cases q : y.1 = k
    · simp [q]
    · have q2 : ¬ (some y.1 = some k) := fun z => q (Option.some.inj z)
      simp [q]
theorem mem_KN {xs : List (PyData × Addr × V)} {ys : List (NestedKey × Addr × Value)} (r : KN xs ys) : Paired (fun (p : PyData) (y : NestedKey × Addr × Value) => numKey p = some y.1) (xs.map (·.1)) ys := by
  induction r with
  | nil => exact .nil
  | cons h t ih => exact .cons h.1 ih
theorem any_paired {ps : List PyData} {ys : List (NestedKey × Addr × Value)} (r : Paired (fun (p : PyData) (y : NestedKey × Addr × Value) => numKey p = some y.1) ps ys) {d : PyData} {k : NestedKey} (e : numKey d = some k) : (ps.any fun x => sameKey x d) = (atKey ys k).isSome := by
  induction r with
  | nil => rfl
  | @cons x y xs ys hp t ih =>
    rw [List.any_cons, ih]
    unfold sameKey
    rw [hp, e]
    unfold atKey
    rw [List.find?_cons]
    by_cases q : y.1 = k
    · simp [q]
    · have q2 : ¬ (some y.1 = some k) := fun z => q (Option.some.inj z)
      simp [q]
/-- a dict whose keys are such, by its data -/
theorem diat_of {a : Addr} {kvs : List (PyData × PyData)} (I : Inv X pins σ H s) (h : DiAt X.K H a kvs) (hk : (kvs.all fun p => isKeyD p.1) = true) :
    (a == sysModules) = false ∧ ∃ ys, Paired (fun (p : PyData) (y : NestedKey × Addr × Value) => numKey p = some y.1) (kvs.map (·.1)) ys ∧ s.heap.DictOfH (nestedKind X.prog X.w) a ys := by
  rcases h with ⟨ks, h1, rfl, _⟩ | ⟨xs, h1, rfl, h3⟩
  · cases ks with
    | nil =>
      obtain ⟨_, hd, vs, kv, o, es, ep, g1, g2, g3, g4, g5, g6⟩ := dk_of I.hok h1
      cases kv
      refine ⟨hd, [], .nil, o, es, ep, g1, g2, g3, ?_, (fun _ z => nomatch z), List.nodup_nil⟩
      have g7 := g5
      cases q : es.toList with
      | nil => rfl
      | cons x r => rw [q] at g7; cases g7
    | cons p r =>
      exfalso
      rw [List.map_cons, List.all_cons, Bool.and_eq_true] at hk
      have := hk.1
      cases q : p.1 <;> (rw [q] at this; cases this)
  · obtain ⟨_, hd, ys, pr, D⟩ := dicN_of I h1 (fun x hx => by
      obtain ⟨z, hz, rfl⟩ := List.mem_map.mp hx
      exact (h3 z hz).2)
    refine ⟨hd, ys, ?_, D⟩
    have := mem_KN pr
    rw [List.map_map] at this ⊢
    exact this
/-- x in d -/
theorem dn_in {a : Addr} {kvs : List (PyData × PyData)} {d : PyData} {v : V} {u : Value} {A : Around} {E : Value → Shared → Prop} {Q : Value → Shared → Prop} (hu : A.units + 9 < cLine) (I : Inv X pins σ H s) (hH : DiAt X.K H a kvs) (hk : (kvs.all fun p => isKeyD p.1) = true)
    (kd : isKeyD d = true) (y : KyAt X.K H d v) (r : RelV v u) (h : ∀ s', Inv X pins σ H s' → Q (.bool (kvs.any fun p => sameKey p.1 d)) s') : wpAny (model X.prog X.w) A (compareOp .In u (.ref a)) Q E s := by
  obtain ⟨hd, ys, pr, D⟩ := diat_of I hH hk
  obtain ⟨k, e1, e2⟩ := isKeyD_ok kd
  have nu := KyAt.nested I d k v u e1 y r
  obtain ⟨b, rfl⟩ : ∃ b, u = .ref b := by
    cases d <;> first | (cases kd; done) | skip
    simp only [KyAt] at y
    obtain ⟨b, vs, rfl, _⟩ := y
    exact ⟨b, r⟩
  refine wpAny_in_heap (knd := nestedKind X.prog X.w) (show A.in1.units + 8 < cLine from by show A.units + 1 + 8 < cLine; omega) ⟨nu, e2⟩ hd D ?_
  rw [← any_paired pr e1, List.any_map]
  exact h _ (I.tok _)
theorem dn_notIn {a : Addr} {kvs : List (PyData × PyData)} {d : PyData} {v : V} {u : Value} {A : Around} {E : Value → Shared → Prop} {Q : Value → Shared → Prop} (hu : A.units + 9 < cLine) (I : Inv X pins σ H s) (hH : DiAt X.K H a kvs) (hk : (kvs.all fun p => isKeyD p.1) = true)
    (kd : isKeyD d = true) (y : KyAt X.K H d v) (r : RelV v u) (h : ∀ s', Inv X pins σ H s' → Q (.bool (!(kvs.any fun p => sameKey p.1 d))) s') : wpAny (model X.prog X.w) A (compareOp .NotIn u (.ref a)) Q E s := by
  obtain ⟨hd, ys, pr, D⟩ := diat_of I hH hk
  obtain ⟨k, e1, e2⟩ := isKeyD_ok kd
  have nu := KyAt.nested I d k v u e1 y r
  obtain ⟨b, rfl⟩ : ∃ b, u = .ref b := by
    cases d <;> first | (cases kd; done) | skip
    simp only [KyAt] at y
    obtain ⟨b, vs, rfl, _⟩ := y
    exact ⟨b, r⟩
  refine wpAny_notIn_heap (knd := nestedKind X.prog X.w) (show A.in1.units + 8 < cLine from by show A.units + 1 + 8 < cLine; omega) ⟨nu, e2⟩ hd D ?_
  rw [← any_paired pr e1, List.any_map]
  exact h _ (I.tok _)
/-- a key's value is put -/
def putN {α : Type} (xs : List (PyData × Addr × α)) (d : PyData) (b : Addr) (v : α) : List (PyData × Addr × α) :=
  if (xs.any fun x => sameKey x.1 d) then xs.map fun x => if sameKey x.1 d then (x.1, x.2.1, v) else x else xs ++ [(d, b, v)]
theorem putN_len {α : Type} (xs : List (PyData × Addr × α)) (d : PyData) (b : Addr) (v : α) : (putN xs d b v).length ≤ xs.length + 1 := by
  unfold putN
  split
  · rw [List.length_map]; exact Nat.le_succ _
  · rw [List.length_append]; exact Nat.le_refl _
theorem KN.repl {xs : List (PyData × Addr × V)} {ys : List (NestedKey × Addr × Value)} (r : KN xs ys) {d : PyData} {k : NestedKey} (e : numKey d = some k) {v : V} {u : Value} (rv : RelV v u) : KN (xs.map fun x => if sameKey x.1 d then (x.1, x.2.1, v) else x) (ys.map (putAt k u)) := by
  induction r with
  | nil => exact .nil
  | @cons x y xs ys hp t ih =>
    rw [List.map_cons, List.map_cons]
    refine .cons ?_ ih
    unfold putAt sameKey
    rw [hp.1, e]
    by_cases q : y.1 = k
    · have q2 : (some y.1 = some k) := by rw [q]
      rw [if_pos (decide_eq_true q2), if_pos q]
      exact ⟨hp.1, hp.2.1, rv⟩
    · have q2 : ¬ (some y.1 = some k) := fun z => q (Option.some.inj z)
      rw [if_neg (by simpa using q), if_neg q]
      exact hp
theorem KN.put {xs : List (PyData × Addr × V)} {ys : List (NestedKey × Addr × Value)} (r : KN xs ys) {d : PyData} {k : NestedKey} (e : numKey d = some k) {b : Addr} {v : V} {u : Value} (rv : RelV v u) : KN (putN xs d b v) (storedH ys k b u) := by
  unfold putN storedH
  rw [r.any e]
  by_cases q : (atKey ys k).isSome = true
  · rw [if_pos q, if_pos q]; exact r.repl e rv
  · rw [if_neg q, if_neg q]; exact Paired.snoc r ⟨e, rfl, rv⟩
theorem KN.hash {xs : List (PyData × Addr × V)} {ys : List (NestedKey × Addr × Value)} (r : KN xs ys) (P P' : Program) (w w' : World) : ys.map (entryOfKey (nestedKind P w)) = ys.map (entryOfKey (nestedKind P' w')) := by
  induction r with
  | nil => rfl
  | @cons x y xs ys hp t ih =>
    rw [List.map_cons, List.map_cons, ih]
    have : y.1.hash w = y.1.hash w' := numKey_hash x.1 y.1 hp.1 w w'
    unfold entryOfKey
    show (⟨y.1.hash w, _, _⟩ : DictEntry) :: _ = (⟨y.1.hash w', _, _⟩ : DictEntry) :: _
    rw [this]
/-- the object of such a dict -/
theorem dicN_obj {P : Program} {w : World} {H' : Hp} {h' : Heap} {a : Addr} {xs : List (PyData × Addr × V)} {ys : List (NestedKey × Addr × Value)} (z : xs.length ≤ sizeLine) (hd : (a == sysModules) = false) (r : KN xs ys) (D : h'.DictOfH (nestedKind P w) a ys) : ObjOk P w H' h' a (DicN a xs) := by
  obtain ⟨o, es, ep, h1, h2, h3, h4, _, h5⟩ := D
  refine ⟨⟨z, hd, ys, r, h5, o, es, ep, h1, h2, h3, fun P' w' => h4.trans (r.hash P P' w w')⟩, ⟨o, h1⟩, ?_⟩
  rintro g1 g2 ⟨y1, y2, y3, y4, y5, o', es', ep', y6, y7⟩ k
  exact ⟨y1, y2, y3, y4, y5, o', es', ep', k _ y6, y7⟩
/-- d[k] = v by a comprehension -/
theorem dn_set {D b : Addr} {xs : List (PyData × Addr × V)} {d : PyData} {v : V} {r : Value} {E : Value → Shared → Prop} {Q : Unit → Shared → Prop} (hu : X.A.units + 9 < cLine) (I : Inv X pins σ H s) (hH : H D = some (DicN D xs)) (hk : ∀ x ∈ xs, isKeyD x.1 = true ∧ KyAt X.K H x.1 (.ref x.2.1))
    (hz : xs.length < sizeLine) (kd : isKeyD d = true) (y : KyAt X.K H d (.ref b)) (rv : RelV v r) (h : ∀ s', Inv X pins σ (upd H D (DicN D (putN xs d b v))) s' → Q () s') : wpAny (model X.prog X.w) X.A (dictSet D (.ref b) r) Q E s := by
  obtain ⟨z, hd, ys, pr, DD⟩ := dicN_of I hH hk
  obtain ⟨k, e1, e2⟩ := isKeyD_ok kd
  have nu := KyAt.nested I d k _ _ e1 y (show RelV (.ref b) (.ref b) from rfl)
  refine wpAny_dictSet_heap (knd := nestedKind X.prog X.w) (show X.A.units + 8 < cLine from by omega) ⟨nu, e2⟩ DD (fun h' D' hs => h _ ?_) (by rw [← pr.length]; exact z)
  have he : ∃ q, h'.get? D = some q := let ⟨q, _, _, hq, _⟩ := D'; ⟨q, hq⟩
  exact d_write I (by rw [hH]; unfold DicN; exact True.intro) hs he (dicN_obj (by have := putN_len xs d b v; omega) hd (pr.put e1 rv) D')
theorem dicN_empty {P : Program} {w : World} {H' : Hp} (h : Heap) (hb : sysModules < h.objs.size) : ObjOk P w H' (h.push { cls := .type "dict", data := .dict #[] }) h.objs.size (DicN h.objs.size []) :=
  dicN_obj (ys := []) (Nat.zero_le _) (beq_eq_false_iff_ne.mpr (Ne.symm (Nat.ne_of_lt hb))) .nil ⟨_, #[], 0, Heap.get?_push_size _ rfl, ⟨rfl, rfl, rfl⟩, rfl, rfl, (fun _ z => nomatch z), List.nodup_nil⟩
end
section
variable {K : PySem.W.Frag} {xo : Addr → Prop} {H : Hp}
mutual
theorem Dt.ky : ∀ (d : PyData) (v : V) (k : NestedKey), numKey d = some k → Dt K xo H d v → KyAt K H d v
  | .none, v, k, h, y => by simp only [Dt] at y; simp only [KyAt]; exact y
  | .int i, v, k, h, y => by simp only [Dt] at y; simp only [KyAt]; exact y
  | .bool _, v, k, h, _ => by simp only [numKey] at h; cases h
  | .str _, v, k, h, _ => by simp only [numKey] at h; cases h
  | .list _, v, k, h, _ => by simp only [numKey] at h; cases h
  | .dict _, v, k, h, _ => by simp only [numKey] at h; cases h
  | .tuple ds, v, k, h, y => by
    simp only [numKey] at h
    cases e : numKeys ds with
    | none => rw [e] at h; cases h
    | some ks =>
      simp only [Dt] at y
      simp only [KyAt]
      obtain ⟨a, vs, rfl, s, l⟩ := y
      exact ⟨a, vs, rfl, s, DtL.ky ds vs ks e l⟩
theorem DtL.ky : ∀ (ds : List PyData) (vs : List V) (ks : List NestedKey), numKeys ds = some ks → DtL K xo H ds vs → KyL K H ds vs
  | [], vs, ks, h, y => by simp only [DtL] at y; simp only [KyL]; exact y
  | d :: ds, vs, ks, h, y => by
    simp only [numKeys] at h
    cases e1 : numKey d with
    | none => rw [e1] at h; cases h
    | some k =>
      cases e2 : numKeys ds with
      | none => rw [e1, e2] at h; cases h
      | some ks2 =>
        simp only [DtL] at y
        simp only [KyL]
        obtain ⟨v, r, rfl, a, b⟩ := y
        exact ⟨v, r, rfl, Dt.ky d v k e1 a, DtL.ky ds r ks2 e2 b⟩
end
theorem Dt.key {d : PyData} {v : V} (h : isKeyD d = true) (y : Dt K xo H d v) : KyAt K H d v ∧ ∃ b, v = .ref b := by
  obtain ⟨k, e, _⟩ := isKeyD_ok h
  refine ⟨Dt.ky d v k e y, ?_⟩
  cases d <;> first | (cases h; done) | skip
  simp only [Dt] at y
  obtain ⟨a, vs, rfl, _⟩ := y
  exact ⟨a, rfl⟩
end
/-- a key's value is put, by data -/
def putD (kvs : List (PyData × PyData)) (d v : PyData) : List (PyData × PyData) :=
  if (kvs.any fun p => sameKey p.1 d) then kvs.map fun p => if sameKey p.1 d then (p.1, v) else p else kvs ++ [(d, v)]
theorem putN_map {α β : Type} (f : α → β) (xs : List (PyData × Addr × α)) (d : PyData) (b : Addr) (v : α) : (putN xs d b v).map (fun x => (x.1, x.2.1, f x.2.2)) = putN (xs.map fun x => (x.1, x.2.1, f x.2.2)) d b (f v) := by
  have e : ((xs.map fun x => (x.1, x.2.1, f x.2.2)).any fun x => sameKey x.1 d) = (xs.any fun x => sameKey x.1 d) := by rw [List.any_map]; rfl
  unfold putN
  rw [e]
  split
  · rw [List.map_map, List.map_map]
    refine List.map_congr_left fun x _ => ?_
    show (fun x : PyData × Addr × α => (x.1, x.2.1, f x.2.2)) (if sameKey x.1 d then (x.1, x.2.1, v) else x) = if sameKey x.1 d then (x.1, x.2.1, f v) else (x.1, x.2.1, f x.2.2)
    split <;> rfl
  · rw [List.map_append]; rfl
theorem putN_put (xs : List (PyData × Addr × PyData)) (d : PyData) (b : Addr) (v : PyData) : (putN xs d b v).map (fun x => (x.1, x.2.2)) = putD (xs.map fun x => (x.1, x.2.2)) d v := by
  have e : ((xs.map fun x => (x.1, x.2.2)).any fun p => sameKey p.1 d) = (xs.any fun x => sameKey x.1 d) := by rw [List.any_map]; rfl
  unfold putN putD
  rw [e]
  split
  · rw [List.map_map, List.map_map]
    refine List.map_congr_left fun x _ => ?_
    show (fun x : PyData × Addr × PyData => (x.1, x.2.2)) (if sameKey x.1 d then (x.1, x.2.1, v) else x) = if sameKey x.1 d then (x.1, v) else (x.1, x.2.2)
    split <;> rfl
  · rw [List.map_append]; rfl
theorem putN_mem {α : Type} {xs : List (PyData × Addr × α)} {d : PyData} {b : Addr} {v : α} {x : PyData × Addr × α} (h : x ∈ putN xs d b v) : (∃ y ∈ xs, x.1 = y.1 ∧ x.2.1 = y.2.1 ∧ (x.2.2 = y.2.2 ∨ x.2.2 = v)) ∨ x = (d, b, v) := by
  unfold putN at h
  split at h
  · obtain ⟨y, hy, e⟩ := List.mem_map.mp h
    refine .inl ⟨y, hy, ?_⟩
    split at e <;> subst e
    · exact ⟨rfl, rfl, .inr rfl⟩
    · exact ⟨rfl, rfl, .inl rfl⟩
  · rcases List.mem_append.mp h with h | h
    · exact .inl ⟨x, h, rfl, rfl, .inl rfl⟩
    · exact .inr (by simpa using h)
end Q

set_option maxHeartbeats 4000000
namespace Q
open PySem L2 PyProof.Rows

theorem Tabs.same {T : List (Addr × Str)} {H H' : Hp} (t : LamX.Tabs T H) (s : Same H H') : LamX.Tabs T H' := LamX.Tabs.ext t s
theorem St.same {W : Wd} {ω : Om} {H H' : Hp} (h : W.St ω H) (s : Same H H') : W.St ω H' := by
  refine ⟨Tabs.same h.1 s, ?_⟩
  have h2 := h.2
  cases hm : W.mach with
  | none => rw [hm] at h2; cases ω with | none => trivial | some _ => exact h2
  | some q =>
    obtain ⟨p, c, g⟩ := q
    rw [hm] at h2
    cases ω with
    | none => exact h2
    | some m =>
      obtain ⟨a, b, d, e⟩ := h2
      exact ⟨s _ _ a, s _ _ b, s _ _ d, e⟩
theorem same_upd {H : Hp} {p : Addr} {o : HO} (h : H p = none) : Same H (upd H p o) := fun a u e => by rw [upd_ne (ne_of_none e h)]; exact e

section
variable {K : PySem.W.Frag} {xo : Addr → Prop} {H H' : Hp}
theorem Dt.same (s : Same H H') {d : PyData} {v : V} (h : Dt K xo H d v) : Dt K xo H' d v := h.carry (fun _ z => z) (fun a o e _ _ => s a o e)
theorem DtL.same (s : Same H H') {ds : List PyData} {vs : List V} (h : DtL K xo H ds vs) : DtL K xo H' ds vs := h.carry (fun _ z => z) (fun a o e _ _ => s a o e)
theorem newTup {p : Addr} {ds : List PyData} {vs : List V} (hp : H p = none) (tr : ∀ a, xo a → H a ≠ none) (l : DtL K xo H ds vs) : Dt K xo (upd H p (.tup vs)) (.tuple ds) (.ref p) := by
  simp only [Dt]
  exact ⟨p, vs, rfl, SqT.of upd_same, l.same (same_upd hp)⟩
theorem newLst {p : Addr} {ds : List PyData} {vs : List V} (hp : H p = none) (tr : ∀ a, xo a → H a ≠ none) (l : DtL K xo H ds vs) : Dt K xo (upd H p (.lst vs)) (.list ds) (.ref p) := by
  simp only [Dt]
  exact ⟨p, vs, rfl, .of (fun z => tr p z hp) upd_same, l.same (same_upd hp)⟩
theorem Dt.tupE {ds : List PyData} {v : V} (h : Dt K xo H (.tuple ds) v) : ∃ a vs, v = .ref a ∧ SqT K H a vs ∧ DtL K xo H ds vs := by simpa only [Dt] using h
theorem Dt.lstE {ds : List PyData} {v : V} (h : Dt K xo H (.list ds) v) : ∃ a vs, v = .ref a ∧ LsAt K xo H a vs ∧ DtL K xo H ds vs := by simpa only [Dt] using h
theorem Dt.intE {i : Int} {v : V} (h : Dt K xo H (.int i) v) : v = .int i := by simpa only [Dt] using h
theorem Dt.boolE {b : Bool} {v : V} (h : Dt K xo H (.bool b) v) : v = .bl b := by simpa only [Dt] using h
theorem Dt.strE {x : Str} {v : V} (h : Dt K xo H (.str x) v) : v = .str x := by simpa only [Dt] using h
theorem Dt.noneE {v : V} (h : Dt K xo H .none v) : v = .non := by simpa only [Dt] using h
theorem Dt.int (i : Int) : Dt K xo H (.int i) (.int i) := by simp only [Dt]
theorem Dt.bool (b : Bool) : Dt K xo H (.bool b) (.bl b) := by simp only [Dt]
theorem Dt.str (x : Str) : Dt K xo H (.str x) (.str x) := by simp only [Dt]
theorem Dt.none : Dt K xo H .none .non := by simp only [Dt]
theorem DtL.nilE {ds : List PyData} (h : DtL K xo H ds []) : ds = [] := by
  cases ds with
  | nil => rfl
  | cons d ds => simp only [DtL] at h; obtain ⟨v, r, e, _⟩ := h; cases e
theorem DtL.emp {ds : List PyData} {vs : List V} (h : DtL K xo H ds vs) : vs.isEmpty = ds.isEmpty := by
  cases ds with
  | nil => simp only [DtL] at h; rw [h]; rfl
  | cons d ds => simp only [DtL] at h; obtain ⟨v, r, e, _⟩ := h; rw [e]; rfl
end

/-! ### operators, by data -/
/-- two values stand for data on which f gives data: a value for these is handed on, all that stood stands -/
def rBin (K : PySem.W.Frag) (f : PyData → PyData → Option PyData) : R2 := fun x y H Q => ∃ xo d e r, Dt K xo H d x ∧ Dt K xo H e y ∧ (∀ a, xo a → H a ≠ Option.none) ∧ f d e = some r ∧
  ∀ v H', Same H H' → Dt K xo H' r v → Q v H'
/-- .. a truth value -/
def rCmp (K : PySem.W.Frag) (f : PyData → PyData → Option Bool) : R2 := fun x y H Q => ∃ xo d e r, Dt K xo H d x ∧ Dt K xo H e y ∧ f d e = some r ∧ Q (.bl r) H
section
variable {X : Cx}
/-- two lists that are read, put together -/
def rCatS (K : PySem.W.Frag) : R2 := fun x y H Q => ∃ l b xs zs, x = .ref l ∧ y = .ref b ∧ SqL K H l xs ∧ SqL K H b zs ∧ xs.length + zs.length ≤ sizeLine ∧ ∀ p, H p = none → Q (.ref p) (L2.upd H p (.lst (xs ++ zs)))
theorem op_catS : OpR X (binaryOp .Add) (rCatS X.K) := by
  intro pins s σ H x y v u Q I rx ry h
  obtain ⟨l, b, xs, zs, rfl, rfl, hH, hB, hz, q⟩ := h
  cases rx
  cases ry
  obtain ⟨its, r, ⟨⟨c1, d1, da1, sl1⟩, n, e, hc, hdi, hda⟩, _⟩ := I.list hH
  obtain ⟨its2, r2, ⟨⟨c2, d2, da2, sl2⟩, n2, e2, hc2, hdi2, hda2⟩, _⟩ := I.list hB
  dsimp only at hc hdi hda hc2 hdi2 hda2
  subst hc hdi hda hc2 hdi2 hda2
  have h1 := r.length
  have h2 := r2.length
  have ea : its.toArray ++ its2.toArray = (its ++ its2).toArray := by simp
  refine PySem.concat_meets ⟨_, e, rfl⟩ ⟨_, e2, rfl⟩ PySem.noFill_list_add PySem.seq_list_add PySem.F.slot_list_add PySem.F.entry_list_add (PySem.F.args_list_add_2 _ _)
    (PyProof.Rows.list_addW l b its.toArray its2.toArray n n2 none none sl1 sl2 (by rw [List.size_toArray, List.size_toArray]; omega)) ⟨e, e2, ?_⟩
  rw [ea]
  exact ⟨.ref _, _, I.lnew (t' := s.toks) (r.append r2) (by rw [List.length_append]; omega), rfl, q _ I.fresh⟩
theorem opD_add : OpR X (binaryOp .Add) (rBin X.K addD) := by
  intro pins s σ H x y v u Q I rx ry h
  obtain ⟨xo, d, e, r, hd, he, tr, hf, q⟩ := h
  cases d <;> cases e <;> first | (exfalso; simp [addD] at hf; done) | skip
  case int.int i j =>
    cases hd.intE; cases he.intE
    have hf' : PyData.int (i + j) = r := Option.some.inj hf
    subst hf'
    exact op_add pins s σ H _ _ v u Q I rx ry ⟨i, j, rfl, rfl, q _ H (Same.refl H) (.int _)⟩
  case str.str i j =>
    cases hd.strE; cases he.strE
    have hf' : (if i.length + j.length ≤ line then some (PyData.str (i ++ j)) else Option.none) = some r := hf
    split at hf'
    · rename_i hz
      cases hf'
      exact op_add_str pins s σ H _ _ v u Q I rx ry ⟨i, j, rfl, rfl, by rw [sizeLine_eq]; exact hz, q _ H (Same.refl H) (.str _)⟩
    · cases hf'
  case list.list i j =>
    obtain ⟨a, vs, rfl, ha, la⟩ := hd.lstE
    obtain ⟨b, ws, rfl, hb, lb⟩ := he.lstE
    have hf' : (if i.length + j.length ≤ line then some (PyData.list (i ++ j)) else Option.none) = some r := hf
    split at hf'
    · rename_i hz
      cases hf'
      exact op_catS pins s σ H _ _ v u Q I rx ry ⟨a, b, vs, ws, rfl, rfl, ha.sq, hb.sq, by rw [la.length, lb.length, sizeLine_eq]; exact hz, fun p hp => q _ _ (same_upd hp) (newLst hp tr (la.app lb))⟩
    · cases hf'
  case tuple.tuple i j =>
    obtain ⟨a, vs, rfl, ha, la⟩ := hd.tupE
    obtain ⟨b, ws, rfl, hb, lb⟩ := he.tupE
    have hf' : (if i.length + j.length ≤ line then some (PyData.tuple (i ++ j)) else Option.none) = some r := hf
    split at hf'
    · rename_i hz
      cases hf'
      refine op_catA pins s σ H _ _ v u Q I rx ry ⟨a, b, vs, ws, rfl, rfl, ha, hb, by rw [la.length, lb.length, sizeLine_eq]; exact hz, fun z => ?_, fun _ z => ?_, fun _ _ p hp => q _ _ (same_upd hp) (newTup hp tr (la.app lb))⟩
      · subst z
        cases la.nilE
        exact q _ H (Same.refl H) he
      · subst z
        cases lb.nilE
        rw [List.append_nil] at q
        exact q _ H (Same.refl H) hd
    · cases hf'
theorem opD_sub : OpR X (binaryOp .Sub) (rBin X.K subD) := by
  intro pins s σ H x y v u Q I rx ry h
  obtain ⟨xo, d, e, r, hd, he, tr, hf, q⟩ := h
  cases d <;> cases e <;> first | (exfalso; simp [subD] at hf; done) | skip
  case int.int i j =>
    cases hd.intE; cases he.intE
    cases hf
    exact op_sub pins s σ H _ _ v u Q I rx ry ⟨i, j, rfl, rfl, q _ H (Same.refl H) (.int _)⟩
theorem DtL.rep {K : PySem.W.Frag} {xo : Addr → Prop} {H : Hp} {ds : List PyData} {vs : List V} (l : DtL K xo H ds vs) : ∀ n : Nat, DtL K xo H (List.replicate n ds).flatten (List.replicate n vs).flatten
  | 0 => .nil
  | n + 1 => by
    rw [List.replicate_succ, List.replicate_succ, List.flatten_cons, List.flatten_cons]
    exact l.app (DtL.rep l n)
theorem opD_mul : OpR X (binaryOp .Mult) (rBin X.K mulD) := by
  intro pins s σ H x y v u Q I rx ry h
  obtain ⟨xo, d, e, r, hd, he, tr, hf, q⟩ := h
  cases d <;> cases e <;> first | (exfalso; simp [mulD] at hf; done) | skip
  case int.int i j =>
    cases hd.intE; cases he.intE
    have hf' : (if (-(2 ^ 64) < i ∧ i < 2 ^ 64) ∨ (-(2 ^ 64) < j ∧ j < 2 ^ 64) then some (PyData.int (i * j)) else Option.none) = some r := hf
    split at hf'
    · rename_i hz
      cases hf'
      exact op_mul pins s σ H _ _ v u Q I rx ry ⟨i, j, rfl, rfl, hz, q _ H (Same.refl H) (.int _)⟩
    · cases hf'
  case tuple.int ds k =>
    obtain ⟨a, vs, rfl, ha, l⟩ := hd.tupE
    cases he.intE
    have hf' : (if ds ≠ [] ∧ 2 ≤ k ∧ k ≤ 1000 ∧ ds.length ≤ 1000 then some (PyData.tuple (List.replicate k.toNat ds).flatten) else Option.none) = some r := hf
    split at hf'
    · rename_i hz
      cases hf'
      obtain ⟨z1, z2, z3, z4⟩ := hz
      refine op_repT pins s σ H _ _ v u Q I rx ry ⟨a, k, vs, rfl, rfl, ha, fun e => z1 (by rw [e] at l; exact l.nilE), z2, z3, by rw [l.length]; exact z4, fun p hp => q _ _ (same_upd hp) (newTup hp tr (DtL.rep l k.toNat))⟩
    · cases hf'
theorem opD_pow : OpR X (binaryOp .Pow) (rBin X.K powD) := by
  intro pins s σ H x y v u Q I rx ry h
  obtain ⟨xo, d, e, r, hd, he, tr, hf, q⟩ := h
  cases d <;> cases e <;> first | (exfalso; simp [powD] at hf; done) | skip
  case int.int i j =>
    cases hd.intE; cases he.intE
    have hf' : (if 0 ≤ j ∧ j ≤ 1000000 ∧ i.natAbs < 2 ^ 64 then some (PyData.int (i ^ j.toNat)) else Option.none) = some r := hf
    split at hf'
    · rename_i hz
      cases hf'
      exact op_pow pins s σ H _ _ v u Q I rx ry ⟨i, j, rfl, rfl, hz, q _ H (Same.refl H) (.int _)⟩
    · cases hf'
theorem opD_xor : OpR X (binaryOp .BitXor) (rBin X.K xorD) := by
  intro pins s σ H x y v u Q I rx ry h
  obtain ⟨xo, d, e, r, hd, he, tr, hf, q⟩ := h
  cases d <;> cases e <;> first | (exfalso; simp [xorD] at hf; done) | skip
  case int.int i j =>
    cases hd.intE; cases he.intE
    cases hf
    exact op_xor pins s σ H _ _ v u Q I rx ry ⟨i, j, rfl, rfl, q _ H (Same.refl H) (.int _)⟩
theorem opD_mod : OpR X (binaryOp .Mod) (rBin X.K modD) := by
  intro pins s σ H x y v u Q I rx ry h
  obtain ⟨xo, d, e, r, hd, he, tr, hf, q⟩ := h
  cases d <;> cases e <;> first | (exfalso; simp [modD] at hf; done) | skip
  case int.int i j =>
    cases hd.intE; cases he.intE
    have hf' : (if j ≠ 0 then some (PyData.int (i.fmod j)) else Option.none) = some r := hf
    split at hf'
    · rename_i hz
      cases hf'
      exact op_modN pins s σ H _ _ v u Q I rx ry ⟨i, j, rfl, rfl, hz, q _ H (Same.refl H) (.int _)⟩
    · cases hf'
theorem opD_fdiv : OpR X (binaryOp .FloorDiv) (rBin X.K fdivD) := by
  intro pins s σ H x y v u Q I rx ry h
  obtain ⟨xo, d, e, r, hd, he, tr, hf, q⟩ := h
  cases d <;> cases e <;> first | (exfalso; simp [fdivD] at hf; done) | skip
  case int.int i j =>
    cases hd.intE; cases he.intE
    have hf' : (if j ≠ 0 ∧ j.natAbs < 1073741824 then some (PyData.int (i.fdiv j)) else Option.none) = some r := hf
    split at hf'
    · rename_i hz
      cases hf'
      exact op_fdivN pins s σ H _ _ v u Q I rx ry ⟨i, j, rfl, rfl, hz, q _ H (Same.refl H) (.int _)⟩
    · cases hf'
/-- every operator -/
theorem opD (op : Operator) : OpR X (binaryOp op) (rBin X.K (binD op)) := by
  cases op
  case Add => exact opD_add
  case Sub => exact opD_sub
  case Mult => exact opD_mul
  case Mod => exact opD_mod
  case FloorDiv => exact opD_fdiv
  case Pow => exact opD_pow
  case BitXor => exact opD_xor
  all_goals
    intro pins s σ H x y v u Q I rx ry h
    obtain ⟨xo, d, e, r, hd, he, tr, hf, q⟩ := h
    exact absurd hf (by simp [binD])

/-! ### comparisons, by data -/
theorem noD {d : PyData} (h : okD d = true) : d.hasDict = false := PyData.hasDict_of_canLay d (SeqAt.canLay_of_shaped h)
theorem eqD_cases {d e : PyData} {r : Bool} (h : eqD d e = some r) : (∃ x y, d = .str x ∧ e = .str y ∧ r = decide (x = y)) ∨ (okD d = true ∧ okD e = true ∧ r = PyData.eqv d e) := by
  unfold eqD at h
  split at h
  · rename_i x y
    exact .inl ⟨x, y, rfl, rfl, (Option.some.inj h).symm⟩
  · split at h
    · rename_i hz
      rw [Bool.and_eq_true] at hz
      exact .inr ⟨hz.1, hz.2, (Option.some.inj h).symm⟩
    · cases h
theorem str_inj (x y : Str) : decide (V.str x = V.str y) = decide (x = y) := by
  by_cases e : x = y
  · subst e; simp
  · rw [decide_eq_false e, decide_eq_false fun z => e (V.str.inj z)]
theorem cmpD_eq (hu : X.A.units + 64 < cLine) : OpR X (compareOp .Eq) (rCmp X.K (cmpD .Eq)) := by
  intro pins s σ H x y v u Q I rx ry h
  obtain ⟨xo, d, e, r, hd, he, hf, q⟩ := h
  rcases eqD_cases (show eqD d e = some r from hf) with ⟨a, b, rfl, rfl, rfl⟩ | ⟨h1, h2, rfl⟩
  · cases hd.strE
    cases he.strE
    exact op_eq pins s σ H _ _ v u Q I rx ry ⟨rfl, by rw [str_inj]; exact q⟩
  · exact op_eqD hu pins s σ H x y v u Q I rx ry ⟨d, e, hd.dp _ _ (noD h1), he.dp _ _ (noD h2), h1, h2, q⟩
theorem cmpD_ne (hu : X.A.units + 64 < cLine) : OpR X (compareOp .NotEq) (rCmp X.K (cmpD .NotEq)) := by
  intro pins s σ H x y v u Q I rx ry h
  obtain ⟨xo, d, e, r, hd, he, hf, q⟩ := h
  obtain ⟨r2, h0, rfl⟩ := Option.map_eq_some_iff.mp (show (eqD d e).map (!·) = some r from hf)
  rcases eqD_cases h0 with ⟨a, b, rfl, rfl, rfl⟩ | ⟨h1, h2, rfl⟩
  · cases hd.strE
    cases he.strE
    exact op_ne pins s σ H _ _ v u Q I rx ry ⟨rfl, by rw [str_inj]; exact q⟩
  · exact op_neD hu pins s σ H x y v u Q I rx ry ⟨d, e, hd.dp _ _ (noD h1), he.dp _ _ (noD h2), h1, h2, q⟩
theorem cmpD_in (hu : X.A.units + 65 < cLine) : OpR X (compareOp .In) (rCmp X.K (cmpD .In)) := by
  intro pins s σ H x y v u Q I rx ry h
  obtain ⟨xo, d, e, r, hd, he, hf, q⟩ := h
  have hf1 : inD d e = some r := hf
  cases e <;> first | (exfalso; simp [inD] at hf1; done) | skip
  case dict kvs =>
    have hf' : (if (isKeyD d && (kvs.all fun p => isKeyD p.1)) = true then some (kvs.any fun p => sameKey p.1 d) else Option.none) = some r := hf1
    split at hf'
    · rename_i hz
      cases hf'
      rw [Bool.and_eq_true] at hz
      obtain ⟨yk, _⟩ := hd.key hz.1
      have he' := he
      simp only [Dt] at he'
      obtain ⟨a, rfl, _, di⟩ := he'
      obtain rfl : u = Value.ref a := ry
      exact dn_in (by omega) I di hz.2 hz.1 yk rx fun s' I' => ⟨.bl _, H, I', rfl, q⟩
    · cases hf'
  case list ds =>
    have hf' : (if (okD d && okD (.list ds)) = true then some (ds.any fun z => PyData.eqv z d) else Option.none) = some r := hf1
    split at hf'
    · rename_i hz
      cases hf'
      rw [Bool.and_eq_true] at hz
      obtain ⟨as, r1⟩ := Dp.reads I d x v (hd.dp _ _ (noD hz.1)) rx
      obtain ⟨bs, r2⟩ := Dp.reads I _ y u (he.dp _ _ (noD hz.2)) ry
      exact SeqAt.in_list_reads r2 r1 (SeqAt.canLay_of_shaped hz.2) (SeqAt.canLay_of_shaped hz.1) (room_in_shaped hz.1 hu) ⟨.bl _, H, I, rfl, q⟩
    · cases hf'
  case tuple ds =>
    have hf' : (if (okD d && okD (.tuple ds)) = true then some (ds.any fun z => PyData.eqv z d) else Option.none) = some r := hf1
    split at hf'
    · rename_i hz
      cases hf'
      rw [Bool.and_eq_true] at hz
      obtain ⟨as, r1⟩ := Dp.reads I d x v (hd.dp _ _ (noD hz.1)) rx
      obtain ⟨bs, r2⟩ := Dp.reads I _ y u (he.dp _ _ (noD hz.2)) ry
      exact SeqAt.in_tuple_reads r2 r1 (SeqAt.canLay_of_shaped hz.2) (SeqAt.canLay_of_shaped hz.1) (room_in_shaped hz.1 hu) ⟨.bl _, H, I, rfl, q⟩
    · cases hf'
theorem cmpD_notIn (hu : X.A.units + 65 < cLine) : OpR X (compareOp .NotIn) (rCmp X.K (cmpD .NotIn)) := by
  intro pins s σ H x y v u Q I rx ry h
  obtain ⟨xo, d, e, r, hd, he, hf, q⟩ := h
  have hf1 : (inD d e).map (!·) = some r := hf
  cases e <;> first | (exfalso; simp [inD] at hf1; done) | skip
  case dict kvs =>
    have hf' : ((if (isKeyD d && (kvs.all fun p => isKeyD p.1)) = true then some (kvs.any fun p => sameKey p.1 d) else Option.none) : Option Bool).map (!·) = some r := hf1
    split at hf'
    · rename_i hz
      cases hf'
      rw [Bool.and_eq_true] at hz
      obtain ⟨yk, _⟩ := hd.key hz.1
      have he' := he
      simp only [Dt] at he'
      obtain ⟨a, rfl, _, di⟩ := he'
      obtain rfl : u = Value.ref a := ry
      exact dn_notIn (by omega) I di hz.2 hz.1 yk rx fun s' I' => ⟨.bl _, H, I', rfl, q⟩
    · cases hf'
  case list ds =>
    have hf' : ((if (okD d && okD (.list ds)) = true then some (ds.any fun z => PyData.eqv z d) else Option.none) : Option Bool).map (!·) = some r := hf1
    split at hf'
    · rename_i hz
      cases hf'
      rw [Bool.and_eq_true] at hz
      obtain ⟨as, r1⟩ := Dp.reads I d x v (hd.dp _ _ (noD hz.1)) rx
      obtain ⟨bs, r2⟩ := Dp.reads I _ y u (he.dp _ _ (noD hz.2)) ry
      exact SeqAt.notIn_list_reads r2 r1 (SeqAt.canLay_of_shaped hz.2) (SeqAt.canLay_of_shaped hz.1) (room_in_shaped hz.1 hu) ⟨.bl _, H, I, rfl, q⟩
    · cases hf'
  case tuple ds =>
    have hf' : ((if (okD d && okD (.tuple ds)) = true then some (ds.any fun z => PyData.eqv z d) else Option.none) : Option Bool).map (!·) = some r := hf1
    split at hf'
    · rename_i hz
      cases hf'
      rw [Bool.and_eq_true] at hz
      obtain ⟨as, r1⟩ := Dp.reads I d x v (hd.dp _ _ (noD hz.1)) rx
      obtain ⟨bs, r2⟩ := Dp.reads I _ y u (he.dp _ _ (noD hz.2)) ry
      exact SeqAt.notIn_tuple_reads r2 r1 (SeqAt.canLay_of_shaped hz.2) (SeqAt.canLay_of_shaped hz.1) (room_in_shaped hz.1 hu) ⟨.bl _, H, I, rfl, q⟩
    · cases hf'
theorem cmpD_lt (hu : X.A.units + 64 < cLine) : OpR X (compareOp .Lt) (rCmp X.K (cmpD .Lt)) := by
  intro pins s σ H x y v u Q I rx ry h
  obtain ⟨xo, d, e, r, hd, he, hf, q⟩ := h
  have hf1 : ltD d e = some r := hf
  cases d <;> cases e <;> first | (exfalso; simp [ltD] at hf1; done) | skip
  case int.int i j =>
    cases hd.intE; cases he.intE
    cases hf1
    exact op_lt pins s σ H _ _ v u Q I rx ry ⟨i, j, rfl, rfl, q⟩
  case tuple.tuple ds es =>
    have hf' : (if (W.alike (.tuple ds) (.tuple es) && okD (.tuple ds) && okD (.tuple es)) = true then some (W.dataLt (.tuple ds) (.tuple es)) else Option.none) = some r := hf1
    split at hf'
    · rename_i hz
      cases hf'
      rw [Bool.and_eq_true, Bool.and_eq_true] at hz
      obtain ⟨as, r1⟩ := Dp.reads I _ x v (hd.dp _ _ (noD hz.1.2)) rx
      obtain ⟨bs, r2⟩ := Dp.reads I _ y u (he.dp _ _ (noD hz.2)) ry
      have hdp := SeqAt.depth_of_shaped (show SeqAt.shaped (.tuple ds) = true from hz.1.2)
      have key := W.rcLt_alike (.tuple ds) (.tuple es) X.A s v u as bs r1 r2 hz.1.1 (fun z => nomatch z) (by have := Nat.min_le_left (PyData.depth (.tuple ds)) (PyData.depth (.tuple es)); omega)
      exact key X.prog X.w X.xe _ ⟨.bl _, H, I, rfl, q⟩
    · cases hf'
def isNone : PyData → Bool
  | .none => true
  | _ => false
theorem isN_iff {K : PySem.W.Frag} {xo : Addr → Prop} {H : Hp} {d : PyData} {x : V} (h : Dt K xo H d x) : decide (x = .non) = isNone d := by
  cases d
  case none => cases h.noneE; rfl
  case bool b => cases h.boolE; rfl
  case int b => cases h.intE; rfl
  case str b => cases h.strE; rfl
  case list b => obtain ⟨a, vs, rfl, _⟩ := h.lstE; rfl
  case tuple b => obtain ⟨a, vs, rfl, _⟩ := h.tupE; rfl
  case dict b =>
    simp only [Dt] at h
    obtain ⟨a, e, n, q⟩ := h
    rw [e]; rfl
/-- every comparison -/
theorem cmpD_ok (hu : X.A.units + 65 < cLine) (op : CmpOp) : OpR X (compareOp op) (rCmp X.K (cmpD op)) := by
  have hu' : X.A.units + 64 < cLine := by omega
  cases op
  case Eq => exact cmpD_eq hu'
  case NotEq => exact cmpD_ne hu'
  case Lt => exact cmpD_lt hu'
  case In => exact cmpD_in hu
  case NotIn => exact cmpD_notIn hu
  case LtE =>
    intro pins s σ H x y v u Q I rx ry h
    obtain ⟨xo, d, e, r, hd, he, hf, q⟩ := h
    cases d <;> cases e <;> first | (exfalso; simp [cmpD] at hf; done) | skip
    cases hd.intE; cases he.intE
    cases hf
    exact op_le pins s σ H _ _ v u Q I rx ry ⟨_, _, rfl, rfl, q⟩
  case Gt =>
    intro pins s σ H x y v u Q I rx ry h
    obtain ⟨xo, d, e, r, hd, he, hf, q⟩ := h
    cases d <;> cases e <;> first | (exfalso; simp [cmpD] at hf; done) | skip
    cases hd.intE; cases he.intE
    cases hf
    exact op_gt pins s σ H _ _ v u Q I rx ry ⟨_, _, rfl, rfl, q⟩
  case GtE =>
    intro pins s σ H x y v u Q I rx ry h
    obtain ⟨xo, d, e, r, hd, he, hf, q⟩ := h
    cases d <;> cases e <;> first | (exfalso; simp [cmpD] at hf; done) | skip
    cases hd.intE; cases he.intE
    cases hf
    exact op_ge pins s σ H _ _ v u Q I rx ry ⟨_, _, rfl, rfl, q⟩
  case Is =>
    intro pins s σ H x y v u Q I rx ry h
    obtain ⟨xo, d, e, r, hd, he, hf, q⟩ := h
    have k := isN_iff hd
    cases e
    case none =>
      cases he.noneE
      refine op_isN pins s σ H _ _ v u Q I rx ry ⟨rfl, ?_⟩
      rw [k]
      cases d <;> (cases hf; exact q)
    case bool c =>
      cases he.boolE
      cases d
      case bool b =>
        cases hd.boolE
        cases hf
        exact op_isBl pins s σ H _ _ v u Q I rx ry ⟨b, c, rfl, rfl, q⟩
      all_goals (exfalso; simp [cmpD] at hf)
    all_goals exact absurd hf (by cases d <;> simp [cmpD])
  case IsNot =>
    intro pins s σ H x y v u Q I rx ry h
    obtain ⟨xo, d, e, r, hd, he, hf, q⟩ := h
    have k := isN_iff hd
    cases e
    case none =>
      cases he.noneE
      refine op_notN pins s σ H _ _ v u Q I rx ry ⟨rfl, ?_⟩
      rw [k]
      cases d <;> (cases hf; exact q)
    case bool c =>
      cases he.boolE
      cases d
      case bool b =>
        cases hd.boolE
        cases hf
        exact op_notBl pins s σ H _ _ v u Q I rx ry ⟨b, c, rfl, rfl, q⟩
      all_goals (exfalso; simp [cmpD] at hf)
    all_goals exact absurd hf (by cases d <;> simp [cmpD])
/-- truth -/
theorem tru_of {K : PySem.W.Frag} {xo : Addr → Prop} {H : Hp} {d : PyData} {x : V} (h : Dt K xo H d x) (hz : okT d = true) : TruV K x H (truth d) := by
  cases d
  case none => cases h.noneE; rfl
  case bool b => cases h.boolE; rfl
  case int b => cases h.intE; rfl
  case str b =>
    cases h.strE
    refine ⟨by rw [sizeLine_eq]; exact of_decide_eq_true hz, ?_⟩
    show (b.length != 0) = ((b.length : Int) != 0)
    by_cases e : b.length = 0
    · rw [e]; rfl
    · have : ((b.length : Int) != 0) = true := by simpa using e
      rw [this]; simpa using e
  case list b =>
    obtain ⟨a, vs, rfl, q, l⟩ := h.lstE
    exact .inl ⟨vs, q.sq, by show (!b.isEmpty) = _; rw [l.emp]⟩
  case tuple b =>
    obtain ⟨a, vs, rfl, q, l⟩ := h.tupE
    exact .inr (.inl ⟨vs, q, by show (!b.isEmpty) = _; rw [l.emp]⟩)
  case dict b => cases hz
end
end Q

set_option maxHeartbeats 4000000
namespace Q
open PySem L2

section
variable (X : Cx) (W : Wd) (Wx : WX)
structure At (xo : Addr → Prop) (σ : St) (ρ : Rho) (m : M PyData) (ω : Om) (H : Hp) (Q : VK) : Prop where
  good : Good X.K W xo H σ ρ ω
  run : RunP (m ω) (fun d ω' => ∀ v H', Step W H H' → W.St ω' H' → Dt X.K xo H' d v → Q v H') (ExP X W Wx xo σ H)
end
section
variable {X : Cx} {W : Wd} {Wx : WX}
theorem tQ.at {f : Rho → M PyData} {σ : St} {H : Hp} {Q : VK} (h : tQ X W Wx f σ H Q) : ∃ xo ρ ω, At X W Wx xo σ ρ (f ρ) ω H Q :=
  let ⟨xo, ρ, ω, g, r⟩ := h
  ⟨xo, ρ, ω, g, r⟩
theorem At.toT {xo : Addr → Prop} {f : Rho → M PyData} {σ : St} {ρ : Rho} {ω : Om} {H : Hp} {Q : VK} (h : At X W Wx xo σ ρ (f ρ) ω H Q) : tQ X W Wx f σ H Q := ⟨xo, ρ, ω, h.good, h.run⟩
theorem tQ.mono {f : Rho → M PyData} {σ : St} {H : Hp} {Q Q' : VK} (h : tQ X W Wx f σ H Q) (w : ∀ v H', Q v H' → Q' v H') : tQ X W Wx f σ H Q' :=
  let ⟨xo, ρ, ω, g, r⟩ := h
  ⟨xo, ρ, ω, g, r.mono (fun _ _ a v H' s t d => w v H' (a v H' s t d)) fun _ _ _ e => e⟩
theorem tQT.mono {f : Rho → M Bool} {σ : St} {H : Hp} {Q Q' : Bool → Hp → Prop} (h : tQT X W Wx f σ H Q) (w : ∀ v H', Q v H' → Q' v H') : tQT X W Wx f σ H Q' :=
  let ⟨xo, ρ, ω, g, r⟩ := h
  ⟨xo, ρ, ω, g, r.mono (fun _ _ a H' s t => w _ H' (a H' s t)) fun _ _ _ e => e⟩
/-- a part is run first -/
theorem At.bind {xo : Addr → Prop} {f : Rho → M PyData} {σ : St} {ρ : Rho} {ω : Om} {H : Hp} {Q : VK} {k : PyData → M PyData} (h : At X W Wx xo σ ρ (f ρ >>= k) ω H Q) :
    tQ X W Wx f σ H fun x H1 => ∃ d ω1, Step W H H1 ∧ Dt X.K xo H1 d x ∧ At X W Wx xo σ ρ (k d) ω1 H1 Q :=
  ⟨xo, ρ, ω, h.good, h.run.bind.mono (fun d ω1 r v H1 s t q => ⟨d, ω1, s, q, h.good.step s t, r.mono (fun e ω2 z v2 H2 s2 t2 q2 => z v2 H2 (s.trans s2) t2 q2) fun c fs o z => z.step s⟩) fun _ _ _ e => e⟩
theorem At.bindT {xo : Addr → Prop} {f : Rho → M Bool} {σ : St} {ρ : Rho} {ω : Om} {H : Hp} {Q : VK} {k : Bool → M PyData} (h : At X W Wx xo σ ρ (f ρ >>= k) ω H Q) :
    tQT X W Wx f σ H fun b H1 => ∃ ω1, Step W H H1 ∧ At X W Wx xo σ ρ (k b) ω1 H1 Q :=
  ⟨xo, ρ, ω, h.good, h.run.bind.mono (fun d ω1 r H1 s t => ⟨ω1, s, h.good.step s t, r.mono (fun e ω2 z v2 H2 s2 t2 q2 => z v2 H2 (s.trans s2) t2 q2) fun c fs o z => z.step s⟩) fun _ _ _ e => e⟩
theorem At.bindA {xo : Addr → Prop} {f : Rho → M (List PyData)} {σ : St} {ρ : Rho} {ω : Om} {H : Hp} {Q : VK} {k : List PyData → M PyData} (h : At X W Wx xo σ ρ (f ρ >>= k) ω H Q) :
    tQA X W Wx f σ H fun vs H1 => ∃ ds ω1, Step W H H1 ∧ DtL X.K xo H1 ds vs ∧ At X W Wx xo σ ρ (k ds) ω1 H1 Q :=
  ⟨xo, ρ, ω, h.good, h.run.bind.mono (fun d ω1 r v H1 s t q => ⟨d, ω1, s, q, h.good.step s t, r.mono (fun e ω2 z v2 H2 s2 t2 q2 => z v2 H2 (s.trans s2) t2 q2) fun c fs o z => z.step s⟩) fun _ _ _ e => e⟩
/-- the end: an answer that is there -/
theorem At.get {xo : Addr → Prop} {σ : St} {ρ : Rho} {ω : Om} {H : Hp} {Q : VK} {x : Option PyData} (h : At X W Wx xo σ ρ (get? x) ω H Q) :
    ∃ d, x = some d ∧ ∀ v H', Same H H' → Dt X.K xo H' d v → Q v H' := by
  obtain ⟨d, e, q⟩ := h.run.get
  exact ⟨d, e, fun v H' s t => q v H' (Step.of_same s) (St.same h.good.st s) t⟩
theorem At.retV {xo : Addr → Prop} {σ : St} {ρ : Rho} {ω : Om} {H : Hp} {Q : VK} {d : PyData} (h : At X W Wx xo σ ρ (pure d) ω H Q) : ∀ v H', Same H H' → Dt X.K xo H' d v → Q v H' :=
  fun v H' s t => h.run v H' (Step.of_same s) (St.same h.good.st s) t
theorem At.need {xo : Addr → Prop} {σ : St} {ρ : Rho} {ω : Om} {H : Hp} {Q : VK} {b : Bool} {m : M PyData} (h : At X W Wx xo σ ρ (need b >>= fun _ => m) ω H Q) : b = true ∧ At X W Wx xo σ ρ m ω H Q := by
  have r : RunP ((_root_.Q.need b >>= fun _ => m) ω) _ _ := h.run
  obtain ⟨e, q⟩ := r.bind.need
  exact ⟨e, h.good, q⟩
theorem At.getB {β : Type} {xo : Addr → Prop} {σ : St} {ρ : Rho} {ω : Om} {H : Hp} {Q : VK} {x : Option β} {k : β → M PyData} (h : At X W Wx xo σ ρ (get? x >>= k) ω H Q) : ∃ a, x = some a ∧ At X W Wx xo σ ρ (k a) ω H Q := by
  have r : RunP ((get? x >>= k) ω) _ _ := h.run
  obtain ⟨a, e, q⟩ := r.bind.get
  exact ⟨a, e, h.good, q⟩

/-! ### names, constants -/
def datAt (ρ : Rho) (i : Nat) : M PyData := match ρ[i]? with
  | some (some (.dat d)) => M.ret d
  | _ => bad
theorem datAt.inv {ρ : Rho} {i : Nat} {ω : Om} {P : PyData → Om → Prop} {E : Str → List (Str × PyData) → Om → Prop} (h : RunP (datAt ρ i ω) P E) : ∃ d, ρ[i]? = some (some (.dat d)) ∧ P d ω := by
  have e0 : datAt ρ i = match ρ[i]? with | some (some (.dat d)) => M.ret d | _ => bad := rfl
  rw [e0] at h
  cases e : ρ[i]? with
  | none => rw [e] at h; exact h.elim
  | some x =>
    cases x with
    | none => rw [e] at h; exact h.elim
    | some en =>
      cases en with
      | dat d => rw [e] at h; exact ⟨d, rfl, h⟩
      | own d => rw [e] at h; exact h.elim
      | mach => rw [e] at h; exact h.elim
      | clo => rw [e] at h; exact h.elim
      | exc c f => rw [e] at h; exact h.elim
theorem qe_var {i : Nat} {x : Str} {pos : Pos} (hN : X.N[i]? = some x) (hv : Vis X.env.scope x) (hd : (x == ("__debug__" : Str)) = false := by decide) (hcd : (x == ("__classdict__" : Str)) = false := by decide) :
    PE X (.Name x pos) (tQ X W Wx fun ρ => datAt ρ i) := by
  refine PE.weak (pe_var hN hv hd hcd) fun σ H Q h => ?_
  obtain ⟨xo, ρ, ω, a⟩ := h.at
  obtain ⟨d, e, q⟩ := datAt.inv a.run
  obtain ⟨v, e2, o⟩ := a.good.slot i _ e
  exact ⟨v, e2, q v H (Step.refl W H) a.good.st o⟩
theorem qe_int {i j pos} : PE X (.Constant (.int i) j pos) (tQ X W Wx fun _ => pure (.int i)) := by
  refine PE.weak pe_int fun σ H Q h => ?_
  obtain ⟨xo, ρ, ω, a⟩ := h.at
  exact a.retV _ H (Same.refl H) (.int i)
theorem qe_bl {b j pos} : PE X (.Constant (.bool b) j pos) (tQ X W Wx fun _ => pure (.bool b)) := by
  refine PE.weak pe_bl fun σ H Q h => ?_
  obtain ⟨xo, ρ, ω, a⟩ := h.at
  exact a.retV _ H (Same.refl H) (.bool b)
theorem qe_non {j pos} : PE X (.Constant .none j pos) (tQ X W Wx fun _ => pure .none) := by
  refine PE.weak pe_non fun σ H Q h => ?_
  obtain ⟨xo, ρ, ω, a⟩ := h.at
  exact a.retV _ H (Same.refl H) .none
theorem qe_str {x j pos} : PE X (.Constant (.str x) j pos) (tQ X W Wx fun _ => pure (.str x)) := by
  refine PE.weak pe_str fun σ H Q h => ?_
  obtain ⟨xo, ρ, ω, a⟩ := h.at
  exact a.retV _ H (Same.refl H) (.str x)
/-- a constant of the module that is data -/
theorem qe_glob {x : Str} {d : PyData} {v : V} {u : Value} {pos : Pos} (hg : Gl X x) (hm : X.mg x = some u) (r : RelV v u) (hd : ∀ xo H, (∀ a, xo a → H a ≠ none) → Dt X.K xo H d v) (hdb : (x == ("__debug__" : Str)) = false := by decide) :
    PE X (.Name x pos) (tQ X W Wx fun _ => pure d) := by
  refine PE.weak (pe_glob hg hm r hdb) fun σ H Q h => ?_
  obtain ⟨xo, ρ, ω, a⟩ := h.at
  exact a.retV _ H (Same.refl H) (hd xo H a.good.tr)

/-! ### arguments, displays -/
theorem qa_nil : PA X [] (tQA X W Wx fun _ => pure []) := by
  refine PA.weak pa_nil fun σ H Q h => ?_
  obtain ⟨xo, ρ, ω, g, r⟩ := h
  exact r [] H (Step.refl W H) g.st .nil
theorem qa_cons {e : Expr} {es : List Expr} {f : Rho → M PyData} {fs : Rho → M (List PyData)} (ha : PE X e (tQ X W Wx f)) (hr : PA X es (tQA X W Wx fs)) (hs : starEach (e :: es) X.env = (false, eval e X.env) :: starEach es X.env := by rfl) :
    PA X (e :: es) (tQA X W Wx fun ρ => do let d ← f ρ; let ds ← fs ρ; pure (d :: ds)) := by
  refine PA.weak (pa_cons ha hr hs) fun σ H Q h => ?_
  obtain ⟨xo, ρ, ω, g, r⟩ := h
  refine ⟨xo, ρ, ω, g, r.bind.mono (fun d ω1 r1 v H1 s t q => ?_) fun _ _ _ e => e⟩
  refine ⟨xo, ρ, ω1, g.step s t, r1.bind.mono (fun ds ω2 r2 vs H2 s2 t2 q2 => ?_) fun _ _ _ e => e.step s⟩
  exact r2 (v :: vs) H2 (s.trans s2) t2 (.cons (q.step g.exo s2) q2)
theorem small_line {n : Nat} (h : n ≤ 16777216) : n ≤ sizeLine := by rw [sizeLine_eq]; exact h
theorem qe_tup {es : List Expr} {k : Nat} {pos : Pos} {fs : Rho → M (List PyData)} (h : PA X es (tQA X W Wx fs)) (hz : es.length ≤ 1000 := by decide) : PE X (.Tuple es k pos) (tQ X W Wx fun ρ => do let ds ← fs ρ; need (decide (ds.length ≤ line)); pure (.tuple ds)) := by
  refine PE.weak (pe_tup h) fun σ H Q h => ?_
  obtain ⟨xo, ρ, ω, a⟩ := h.at
  obtain ⟨xo', ρ', ω', g', r'⟩ := a.bindA
  refine ⟨xo', ρ', ω', g', r'.mono (fun ds o z vs H1 s t q => ?_) fun _ _ _ e => e⟩
  obtain ⟨ds', ω1, s', q', a'⟩ := z vs H1 s t q
  obtain ⟨e, a2⟩ := a'.need
  have e' : ds'.length ≤ line := of_decide_eq_true e
  exact ⟨by rw [q'.length]; exact small_line e', fun p hp => a2.retV _ _ (same_upd hp) (newTup hp a2.good.tr q')⟩
theorem qe_lst {es : List Expr} {pos : Pos} {fs : Rho → M (List PyData)} (h : PA X es (tQA X W Wx fs)) : PE X (.List es pos) (tQ X W Wx fun ρ => do let ds ← fs ρ; need (decide (ds.length ≤ line)); pure (.list ds)) := by
  refine PE.weak (pe_lst h) fun σ H Q h => ?_
  obtain ⟨xo, ρ, ω, a⟩ := h.at
  obtain ⟨xo', ρ', ω', g', r'⟩ := a.bindA
  refine ⟨xo', ρ', ω', g', r'.mono (fun ds o z vs H1 s t q => ?_) fun _ _ _ e => e⟩
  obtain ⟨ds', ω1, s', q', a'⟩ := z vs H1 s t q
  obtain ⟨e, a2⟩ := a'.need
  have e' : ds'.length ≤ line := of_decide_eq_true e
  exact ⟨by rw [q'.length]; exact small_line e', fun p hp => a2.retV _ _ (same_upd hp) (newLst hp a2.good.tr q')⟩

/-! ### operators -/
section
variable {a b c : Expr} {fa fb : Rho → M PyData} {pos : Pos}
theorem qe_bin {op : Operator} (ha : PE X a (tQ X W Wx fa)) (hb : PE X b (tQ X W Wx fb)) : PE X (.BinOp a op b pos) (tQ X W Wx fun ρ => do let x ← fa ρ; let y ← fb ρ; get? (binD op x y)) := by
  refine PE.weak (pe_op (opD op) ha hb) fun σ H Q h => ?_
  obtain ⟨xo, ρ, ω, a⟩ := h.at
  refine a.bind.mono fun x H1 ⟨d, ω1, s, q, a1⟩ => a1.bind.mono fun y H2 ⟨e, ω2, s2, q2, a2⟩ => ?_
  obtain ⟨r, er, k⟩ := a2.get
  exact ⟨xo, d, e, r, q.step a2.good.exo s2, q2, a2.good.tr, er, fun v H' s t => k v H' s t⟩
def cmpM (op : CmpOp) (fa fb : Rho → M PyData) : Rho → M Bool := fun ρ => do let x ← fa ρ; let y ← fb ρ; get? (cmpD op x y)
theorem RunP.bind' {α β : Type} {m : M α} {f : α → M β} {ω : Om} {P : β → Om → Prop} {E : Str → List (Str × PyData) → Om → Prop} (h : RunP (m ω) (fun a o => RunP (f a o) P E) E) : RunP ((m >>= f) ω) P E := by
  show RunP (M.bnd m f ω) P E
  unfold M.bnd
  cases e : m ω with
  | ok a o => rw [e] at h; exact h
  | exn c fs o => rw [e] at h; exact h
  | bad => rw [e] at h; exact h
/-- a comparison's truth value, wanted of a value -/
theorem cmp_core (op : CmpOp) {σ : St} {H : Hp} {Q : VK} {xo : Addr → Prop} {ρ : Rho} {ω : Om} (g : Good X.K W xo H σ ρ ω)
    (r : RunP (cmpM op fa fb ρ ω) (fun b ω' => ∀ H', Step W H H' → W.St ω' H' → Q (.bl b) H') (ExP X W Wx xo σ H)) : tOp (rCmp X.K (cmpD op)) (tQ X W Wx fa) (tQ X W Wx fb) σ H Q := by
  refine ⟨xo, ρ, ω, g, RunP.mono (RunP.bind r) (fun d ω1 r1 x H1 s t q => ?_) fun _ _ _ e => e⟩
  refine ⟨xo, ρ, ω1, g.step s t, RunP.mono (RunP.bind r1) (fun e ω2 r2 y H2 s2 t2 q2 => ?_) fun _ _ _ e => e.step s⟩
  obtain ⟨b, eb, k⟩ := RunP.get r2
  exact ⟨xo, d, e, b, q.step g.exo s2, q2, eb, k H2 (s.trans s2) t2⟩
theorem qe_cmp {op : CmpOp} (hu : X.A.units + 65 < cLine) (ha : PE X a (tQ X W Wx fa)) (hb : PE X b (tQ X W Wx fb)) (hm : behindInMarks op b = false) :
    PE X (.Compare a [op] [b] pos) (tQ X W Wx fun ρ => do let r ← cmpM op fa fb ρ; pure (.bool r)) := by
  refine PE.weak (pe_cmpR (cmpD_ok hu op) ha hb hm) fun σ H Q h => ?_
  obtain ⟨xo, ρ, ω, g, r⟩ := h
  exact cmp_core op g (RunP.mono (RunP.bind r) (fun b o z H' s t => z _ H' s t (.bool b)) fun _ _ _ e => e)
theorem qt_cmp {op : CmpOp} (hu : X.A.units + 65 < cLine) (ha : PE X a (tQ X W Wx fa)) (hb : PE X b (tQ X W Wx fb)) (hm : behindInMarks op b = false) :
    PT X (.Compare a [op] [b] pos) (tQT X W Wx (cmpM op fa fb)) := by
  refine PT.weak (pt_cmpR (cmpD_ok hu op) ha hb hm) fun σ H Q h => ?_
  obtain ⟨xo, ρ, ω, g, r⟩ := h
  exact cmp_core op g (RunP.mono r (fun b o z H' s t => ⟨b, rfl, z H' s t⟩) fun _ _ _ e => e)
end

/-! ### tests -/
def truM (f : Rho → M PyData) : Rho → M Bool := fun ρ => do
  let d ← f ρ
  need (okT d)
  pure (truth d)
theorem qt_tru {e : Expr} {f : Rho → M PyData} (h : PE X e (tQ X W Wx f)) (he : ∀ whole, isTrue e X.env whole = (do let v ← whole; standAt e.pos; holding [v] (truthy v)) := by intro _; rfl) : PT X e (tQT X W Wx (truM f)) := by
  refine PT.weak (pt_truth h he) fun σ H Q hq => ?_
  obtain ⟨xo, ρ, ω, g, r⟩ := hq
  refine ⟨xo, ρ, ω, g, RunP.mono (RunP.bind r) (fun d o z v H' s t q => ?_) fun _ _ _ e => e⟩
  obtain ⟨ez, k⟩ := (RunP.bind z).need
  exact ⟨truth d, tru_of q ez, k H' s t⟩
theorem qt_not {e : Expr} {f : Rho → M Bool} {pos : Pos} (h : PT X e (tQT X W Wx f)) : PT X (.UnaryOp .Not e pos) (tQT X W Wx fun ρ => do let b ← f ρ; pure (!b)) := by
  refine PT.weak (pt_not h) fun σ H Q hq => ?_
  obtain ⟨xo, ρ, ω, g, r⟩ := hq
  exact ⟨xo, ρ, ω, g, RunP.mono (RunP.bind r) (fun d o z H' s t => z H' s t) fun _ _ _ e => e⟩
def andM (f k : Rho → M Bool) : Rho → M Bool := fun ρ => do
  let b ← f ρ
  if b then k ρ else pure false
def orM (f k : Rho → M Bool) : Rho → M Bool := fun ρ => do
  let b ← f ρ
  if b then pure true else k ρ
theorem qw_and1 {a : Expr} {f : Rho → M Bool} {pos : Pos} (h : PT X a (tQT X W Wx f)) : PW X (.BoolOp .And [a] pos) (tQT X W Wx f) := pw_and1 h
theorem qw_or1 {a : Expr} {f : Rho → M Bool} {pos : Pos} (h : PT X a (tQT X W Wx f)) : PW X (.BoolOp .Or [a] pos) (tQT X W Wx f) := pw_or1 h
theorem PW.weak {e : Expr} {t t' : TT} (h : PW X e t) (w : ∀ σ H Q, t' σ H Q → t σ H Q) : PW X e t' := ⟨fun wh pins s σ H Q I q => h.run wh pins s σ H Q I (w σ H Q q)⟩
theorem qw_and {a b : Expr} {rest : List Expr} {f k : Rho → M Bool} {pos : Pos} (ha : PT X a (tQT X W Wx f)) (hb : PW X (.BoolOp .And (b :: rest) pos) (tQT X W Wx k)) : PW X (.BoolOp .And (a :: b :: rest) pos) (tQT X W Wx (andM f k)) := by
  refine PW.weak (pw_and ha hb) fun σ H Q hq => ?_
  obtain ⟨xo, ρ, ω, g, r⟩ := hq
  refine ⟨xo, ρ, ω, g, RunP.mono (RunP.bind r) (fun d o z H' s t => ?_) fun _ _ _ e => e⟩
  cases d with
  | true => rw [if_pos rfl]; exact ⟨xo, ρ, o, g.step s t, RunP.mono z (fun e o2 y H2 s2 t2 => y H2 (s.trans s2) t2) fun _ _ _ e => e.step s⟩
  | false => rw [if_neg Bool.false_ne_true]; exact z H' s t
theorem qw_or {a b : Expr} {rest : List Expr} {f k : Rho → M Bool} {pos : Pos} (ha : PT X a (tQT X W Wx f)) (hb : PW X (.BoolOp .Or (b :: rest) pos) (tQT X W Wx k)) : PW X (.BoolOp .Or (a :: b :: rest) pos) (tQT X W Wx (orM f k)) := by
  refine PW.weak (pw_or ha hb) fun σ H Q hq => ?_
  obtain ⟨xo, ρ, ω, g, r⟩ := hq
  refine ⟨xo, ρ, ω, g, RunP.mono (RunP.bind r) (fun d o z H' s t => ?_) fun _ _ _ e => e⟩
  cases d with
  | false => rw [if_neg Bool.false_ne_true]; exact ⟨xo, ρ, o, g.step s t, RunP.mono z (fun e o2 y H2 s2 t2 => y H2 (s.trans s2) t2) fun _ _ _ e => e.step s⟩
  | true => rw [if_pos rfl]; exact z H' s t
/-- a if t else b -/
theorem qe_if {t a b : Expr} {ft : Rho → M Bool} {fa fb : Rho → M PyData} {pos : Pos} (ht : PT X t (tQT X W Wx ft)) (ha : PE X a (tQ X W Wx fa)) (hb : PE X b (tQ X W Wx fb)) :
    PE X (.IfExp t a b pos) (tQ X W Wx fun ρ => do let c ← ft ρ; if c then fa ρ else fb ρ) := by
  refine PE.weak (pe_ifExp ht ha hb) fun σ H Q h => ?_
  obtain ⟨xo, ρ, ω, a⟩ := h.at
  refine a.bindT.mono fun c H1 ⟨ω1, s, a1⟩ => ?_
  cases c with
  | true => rw [if_pos rfl]; exact At.toT (f := fa) (by simpa using a1)
  | false => rw [if_neg Bool.false_ne_true]; exact At.toT (f := fb) (by simpa using a1)
/-- and, or, not as truth values: the operands are truth values -/
def boolM (f : Rho → M PyData) : Rho → M Bool := fun ρ => do
  let d ← f ρ
  get? (match d with | .bool b => some b | _ => none)
theorem boolM.inv {f : Rho → M PyData} {σ : St} {H : Hp} {xo : Addr → Prop} {ρ : Rho} {ω : Om} (g : Good X.K W xo H σ ρ ω) {Q : Bool → Hp → Prop}
    (r : RunP (boolM f ρ ω) (fun b ω' => ∀ H', Step W H H' → W.St ω' H' → Q b H') (ExP X W Wx xo σ H)) : tQ X W Wx f σ H fun x H1 => ∃ c, x = .bl c ∧ Q c H1 := by
  refine ⟨xo, ρ, ω, g, RunP.mono (RunP.bind r) (fun d o z v H' s t q => ?_) fun _ _ _ e => e⟩
  obtain ⟨b, eb, k⟩ := RunP.get z
  cases d <;> first | (exfalso; simp at eb; done) | skip
  case bool b' =>
    cases eb
    exact ⟨_, q.boolE, k H' s t⟩
theorem qe_one {op : BoolOp} {a : Expr} {f : Rho → M PyData} {pos : Pos} (h : PE X a (tQ X W Wx f)) : PE X (.BoolOp op [a] pos) (tQ X W Wx f) := pe_one h
theorem qe_and {a b : Expr} {rest : List Expr} {fa fb : Rho → M PyData} {pos : Pos} (ha : PE X a (tQ X W Wx fa)) (hb : PE X (.BoolOp .And (b :: rest) pos) (tQ X W Wx fb)) :
    PE X (.BoolOp .And (a :: b :: rest) pos) (tQ X W Wx fun ρ => do let c ← boolM fa ρ; if c then fb ρ else pure (.bool false)) := by
  refine PE.weak (pe_and ha hb) fun σ H Q h => ?_
  obtain ⟨xo, ρ, ω, g, r⟩ := h
  refine boolM.inv g (RunP.mono (RunP.bind r) (fun c o z H1 s t => ?_) fun _ _ _ e => e)
  cases c with
  | true => rw [if_pos rfl]; exact ⟨xo, ρ, o, g.step s t, RunP.mono z (fun e o2 y v H2 s2 t2 => y v H2 (s.trans s2) t2) fun _ _ _ e => e.step s⟩
  | false => rw [if_neg Bool.false_ne_true]; exact z _ H1 s t (.bool false)
theorem qe_or {a b : Expr} {rest : List Expr} {fa fb : Rho → M PyData} {pos : Pos} (ha : PE X a (tQ X W Wx fa)) (hb : PE X (.BoolOp .Or (b :: rest) pos) (tQ X W Wx fb)) :
    PE X (.BoolOp .Or (a :: b :: rest) pos) (tQ X W Wx fun ρ => do let c ← boolM fa ρ; if c then pure (.bool true) else fb ρ) := by
  refine PE.weak (pe_or ha hb) fun σ H Q h => ?_
  obtain ⟨xo, ρ, ω, g, r⟩ := h
  refine boolM.inv g (RunP.mono (RunP.bind r) (fun c o z H1 s t => ?_) fun _ _ _ e => e)
  cases c with
  | false => rw [if_neg Bool.false_ne_true]; exact ⟨xo, ρ, o, g.step s t, RunP.mono z (fun e o2 y v H2 s2 t2 => y v H2 (s.trans s2) t2) fun _ _ _ e => e.step s⟩
  | true => rw [if_pos rfl]; exact z _ H1 s t (.bool true)
theorem qe_notV {a : Expr} {fa : Rho → M PyData} {pos : Pos} (ha : PE X a (tQ X W Wx fa)) : PE X (.UnaryOp .Not a pos) (tQ X W Wx fun ρ => do let c ← boolM fa ρ; pure (.bool !c)) := by
  refine PE.weak (pe_not ha) fun σ H Q h => ?_
  obtain ⟨xo, ρ, ω, g, r⟩ := h
  exact boolM.inv g (RunP.mono (RunP.bind r) (fun c o z H1 s t => z _ H1 s t (.bool _)) fun _ _ _ e => e)
end
end Q

set_option maxHeartbeats 4000000
namespace Q
open PySem L2

section
variable {K : PySem.W.Frag} {xo : Addr → Prop} {H : Hp}
theorem DtL.atI {ds : List PyData} {vs : List V} {k : Int} {d : PyData} (l : DtL K xo H ds vs) (e : L2.atI ds k = some d) : ∃ v, L2.atI vs k = some v ∧ Dt K xo H d v := by
  unfold L2.atI at e ⊢
  rw [l.length]
  cases q : ixN ds.length k with
  | none => rw [q] at e; cases e
  | some j =>
    rw [q] at e
    obtain ⟨v, h1, h2⟩ := l.get (i := j) (d := d) e
    exact ⟨v, h1, h2⟩
theorem DtL.cut {ds : List PyData} {vs : List V} (l : DtL K xo H ds vs) (lo hi : Option Int) : DtL K xo H (cutL ds lo hi) (L2.cutV vs lo hi) := by
  unfold cutL L2.cutV
  rw [l.length]
  exact (l.drop _).take _
end

section
variable {X : Cx} {W : Wd} {Wx : WX}
theorem ixD : IxR X (rBin X.K itemD) := by
  intro value slice pins s σ H x y v u Q I rx ry h hs
  obtain ⟨xo, d, e, r, hd, he, tr, hf, q⟩ := h
  cases d <;> cases e <;> first | (exfalso; simp [itemD] at hf; done) | skip
  case list.int ds k =>
    obtain ⟨a, vs, rfl, ha, l⟩ := hd.lstE
    cases he.intE
    obtain ⟨z, h1, h2⟩ := l.atI hf
    exact ix_list value slice pins s σ H _ _ v u Q I rx ry ⟨a, vs, k, z, rfl, rfl, ha.sq, h1, q z H (Same.refl H) h2⟩ hs
  case tuple.int ds k =>
    obtain ⟨a, vs, rfl, ha, l⟩ := hd.tupE
    cases he.intE
    obtain ⟨z, h1, h2⟩ := l.atI hf
    exact ix_tup value slice pins s σ H _ _ v u Q I rx ry ⟨a, vs, k, z, rfl, rfl, ha, h1, q z H (Same.refl H) h2⟩ hs
theorem qe_ix {a b : Expr} {fa fb : Rho → M PyData} {pos : Pos} (ha : PE X a (tQ X W Wx fa)) (hb : PE X b (tQ X W Wx fb)) (hs : PlainIx b := by exact fun _ _ => rfl) :
    PE X (.Subscript a b pos) (tQ X W Wx fun ρ => do let x ← fa ρ; let y ← fb ρ; get? (itemD x y)) := by
  refine PE.weak (pe_ix ixD ha hb hs) fun σ H Q h => ?_
  obtain ⟨xo, ρ, ω, a⟩ := h.at
  refine a.bind.mono fun x H1 ⟨d, ω1, s, q, a1⟩ => a1.bind.mono fun y H2 ⟨e, ω2, s2, q2, a2⟩ => ?_
  obtain ⟨r, er, k⟩ := a2.get
  exact ⟨xo, d, e, r, q.step a2.good.exo s2, q2, a2.good.tr, er, fun v H' s t => k v H' s t⟩
/-- a slice by data -/
def rCut (K : PySem.W.Frag) : V → Option Int → Option Int → Hp → VK → Prop := fun x lo hi H Q => ∃ xo d r, Dt K xo H d x ∧ (∀ a, xo a → H a ≠ none) ∧ cutD d lo hi = some r ∧ ∀ v H', Same H H' → Dt K xo H' r v → Q v H'
theorem slD : SlR X (rCut X.K) := by
  intro pins s σ H x v vl vu lo hi sl Q I rx hs pl pu h
  obtain ⟨xo, d, r, hd, tr, hf, q⟩ := h
  cases d <;> first | (exfalso; simp [cutD] at hf; done) | skip
  case list ds =>
    obtain ⟨a, vs, rfl, ha, l⟩ := hd.lstE
    cases hf
    exact sl_list pins s σ H _ v vl vu lo hi sl Q I rx hs pl pu ⟨a, vs, rfl, ha.sq, fun p hp => q _ _ (same_upd hp) (newLst hp tr (l.cut lo hi))⟩
  case tuple ds =>
    obtain ⟨a, vs, rfl, ha, l⟩ := hd.tupE
    cases hf
    refine sl_tupA pins s σ H _ v vl vu lo hi sl Q I rx hs pl pu ⟨a, vs, rfl, ha, fun z => ?_, fun _ p hp => q _ _ (same_upd hp) (newTup hp tr (l.cut lo hi))⟩
    rw [l.length] at z
    have e : cutL ds lo hi = ds := by
      unfold cutL
      rw [z.1, z.2]
      simp
    rw [e] at q
    exact q _ H (Same.refl H) hd
/-- a slice's part -/
def tQO (X : Cx) (W : Wd) (Wx : WX) (f : Rho → M (Option Int)) : TO := fun σ H Q => ∃ xo ρ ω, Good X.K W xo H σ ρ ω ∧
  RunP (f ρ ω) (fun d ω' => ∀ H', Step W H H' → W.St ω' H' → Q d H') (ExP X W Wx xo σ H)
theorem PO.weak {e : Option Expr} {t t' : TO} (h : PO X e t) (w : ∀ σ H Q, t' σ H Q → t σ H Q) : PO X e t' := ⟨fun pins s σ H Q I q => h.run pins s σ H Q I (w σ H Q q)⟩
theorem qo_none : PO X none (tQO X W Wx fun _ => pure none) := by
  refine PO.weak po_none fun σ H Q h => ?_
  obtain ⟨xo, ρ, ω, g, r⟩ := h
  exact r H (Step.refl W H) g.st
def intM (f : Rho → M PyData) : Rho → M (Option Int) := fun ρ => do
  let d ← f ρ
  get? (match d with | .int i => some (some i) | _ => none)
theorem qo_some {e : Expr} {f : Rho → M PyData} (h : PE X e (tQ X W Wx f)) : PO X (some e) (tQO X W Wx (intM f)) := by
  refine PO.weak (po_some h) fun σ H Q hq => ?_
  obtain ⟨xo, ρ, ω, g, r⟩ := hq
  refine ⟨xo, ρ, ω, g, RunP.mono (RunP.bind r) (fun d o z v H' s t q => ?_) fun _ _ _ e => e⟩
  obtain ⟨i, ei, k⟩ := RunP.get z
  cases d <;> first | (exfalso; simp at ei; done) | skip
  cases ei
  exact ⟨_, q.intE, k H' s t⟩
theorem qe_slice {e : Expr} {lo hi : Option Expr} {f : Rho → M PyData} {fl fh : Rho → M (Option Int)} {p2 pos : Pos} (he : PE X e (tQ X W Wx f)) (hl : PO X lo (tQO X W Wx fl)) (hu : PO X hi (tQO X W Wx fh)) :
    PE X (.Subscript e (.Slice lo hi none p2) pos) (tQ X W Wx fun ρ => do let d ← f ρ; let l ← fl ρ; let h ← fh ρ; get? (cutD d l h)) := by
  refine PE.weak (pe_slice slD he hl hu) fun σ H Q h => ?_
  obtain ⟨xo, ρ, ω, g, r⟩ := h
  refine ⟨xo, ρ, ω, g, RunP.mono (RunP.bind r) (fun d ω1 r1 x H1 s1 t1 q1 => ?_) fun _ _ _ e => e⟩
  refine ⟨xo, ρ, ω1, g.step s1 t1, RunP.mono (RunP.bind r1) (fun l ω2 r2 H2 s2 t2 => ?_) fun _ _ _ e => e.step s1⟩
  refine ⟨xo, ρ, ω2, g.step (s1.trans s2) t2, RunP.mono (RunP.bind r2) (fun u ω3 r3 H3 s3 t3 => ?_) fun _ _ _ e => e.step (s1.trans s2)⟩
  have g3 := g.step (s1.trans (s2.trans s3)) t3
  obtain ⟨w, ew, k⟩ := RunP.get r3
  exact ⟨xo, d, w, q1.step g.exo (s2.trans s3), g3.tr, ew, fun v H' s t => k v H' (s1.trans (s2.trans (s3.trans (Step.of_same s)))) (St.same t3 s) t⟩

/-! ### calls of what is built in, by data -/
def rFn (K : PySem.W.Frag) (f : List PyData → Option PyData) : List V → Hp → VK → Prop := fun vs H Q => ∃ xo ds r, DtL K xo H ds vs ∧ (∀ a, xo a → H a ≠ none) ∧ f ds = some r ∧ ∀ v H', Same H H' → Dt K xo H' r v → Q v H'
theorem fn_core {f : List PyData → Option PyData} {fs : Rho → M (List PyData)} {σ : St} {H : Hp} {Q : VK} (h : tQ X W Wx (fun ρ => do let ds ← fs ρ; get? (f ds)) σ H Q) : tCB (rFn X.K f) (tQA X W Wx fs) σ H Q := by
  obtain ⟨xo, ρ, ω, a⟩ := h.at
  obtain ⟨xo', ρ', ω', g', r'⟩ := a.bindA
  refine ⟨xo', ρ', ω', g', RunP.mono r' (fun ds o z vs H1 s t q => ?_) fun _ _ _ e => e⟩
  obtain ⟨ds', ω1, s', q', a'⟩ := z vs H1 s t q
  obtain ⟨r, er, k⟩ := a'.get
  exact ⟨xo, ds', r, q', a'.good.tr, er, fun v H' s t => k v H' s t⟩
section
variable {x : Str} {p pos : Pos} {e : Expr} {es : List Expr} {f : List PyData → Option PyData} {fs : Rho → M (List PyData)} {id T : String}
theorem qe_callB (hc : CallR X (.builtin id) (rFn X.K f)) (hg : Gl X x) (hm : X.mg x = none) (hv : bootBuiltins x = some (.builtin id)) (ha : PA X (e :: es) (tQA X W Wx fs)) (hn : x ≠ "__name__" := by decide) (hdb : (x == ("__debug__" : Str)) = false := by decide)
    (he : starEach (e :: es) X.env = (false, eval e X.env) :: starEach es X.env := by rfl) (hpl : (backTo pos (starEach es X.env)).any (·.1) = false := by rfl) :
    PE X (.Call (.Name x p) (e :: es) [] pos) (tQ X W Wx fun ρ => do let ds ← fs ρ; get? (f ds)) := PE.weak (pe_callB hc hg hm hv ha hn hdb he hpl) fun _ _ _ h => fn_core h
theorem qe_callTy (hc : CallR X (.type T) (rFn X.K f)) (hg : Gl X x) (hm : X.mg x = none) (hv : bootBuiltins x = some (.type T)) (ha : PA X (e :: es) (tQA X W Wx fs)) (hn : x ≠ "__name__" := by decide) (hdb : (x == ("__debug__" : Str)) = false := by decide)
    (he : starEach (e :: es) X.env = (false, eval e X.env) :: starEach es X.env := by rfl) (hpl : (backTo pos (starEach es X.env)).any (·.1) = false := by rfl) :
    PE X (.Call (.Name x p) (e :: es) [] pos) (tQ X W Wx fun ρ => do let ds ← fs ρ; get? (f ds)) := PE.weak (pe_callTy hc hg hm hv ha hn hdb he hpl) fun _ _ _ h => fn_core h
end
theorem one_of {K : PySem.W.Frag} {xo : Addr → Prop} {H : Hp} {d : PyData} {vs : List V} (l : DtL K xo H [d] vs) : ∃ v, vs = [v] ∧ Dt K xo H d v := by
  simp only [DtL] at l
  obtain ⟨v, r, e, a, b⟩ := l
  exact ⟨v, by rw [e, b], a⟩
theorem two_of {K : PySem.W.Frag} {xo : Addr → Prop} {H : Hp} {d d' : PyData} {vs : List V} (l : DtL K xo H [d, d'] vs) : ∃ v v', vs = [v, v'] ∧ Dt K xo H d v ∧ Dt K xo H d' v' := by
  simp only [DtL] at l
  obtain ⟨v, r, e, a, v', r', e', b, c⟩ := l
  exact ⟨v, v', by rw [e, e', c], a, b⟩
def lenF : List PyData → Option PyData
  | [.list ds] => some (.int ds.length)
  | [.tuple ds] => some (.int ds.length)
  | [.str x] => if x.length ≤ line then some (.int x.length) else none
  | _ => none
theorem c_len : CallR X (.builtin "len") (rFn X.K lenF) := by
  intro pins s σ H xs us Q I r h
  obtain ⟨xo, ds, w, l, tr, hf, q⟩ := h
  rcases ds with _ | ⟨d, _ | ⟨d2, r2⟩⟩
  · cases hf
  · obtain ⟨v, rfl, hd⟩ := one_of l
    cases d <;> first | (exfalso; simp [lenF] at hf; done) | skip
    case list ds =>
      obtain ⟨a, vs, rfl, ha, la⟩ := hd.lstE
      cases hf
      refine call_len_seq pins s σ H _ us Q I r ⟨a, vs, rfl, .inl (ha.sq), ?_⟩
      rw [la.length]; exact q _ H (Same.refl H) (.int _)
    case tuple ds =>
      obtain ⟨a, vs, rfl, ha, la⟩ := hd.tupE
      cases hf
      refine call_len_seq pins s σ H _ us Q I r ⟨a, vs, rfl, .inr ha, ?_⟩
      rw [la.length]; exact q _ H (Same.refl H) (.int _)
    case str z =>
      cases hd.strE
      have hf' : (if z.length ≤ line then some (PyData.int z.length) else none) = some w := hf
      split at hf'
      · rename_i hz
        cases hf'
        exact call_len_str pins s σ H _ us Q I r ⟨z, rfl, small_line hz, q _ H (Same.refl H) (.int _)⟩
      · cases hf'
  · exfalso; cases d <;> simp [lenF] at hf
def tupleF : List PyData → Option PyData
  | [.list ds] => some (.tuple ds)
  | [.tuple ds] => some (.tuple ds)
  | _ => none
theorem c_tuple : CallR X (.type "tuple") (rFn X.K tupleF) := by
  intro pins s σ H xs us Q I r h
  obtain ⟨xo, ds, w, l, tr, hf, q⟩ := h
  rcases ds with _ | ⟨d, _ | ⟨d2, r2⟩⟩
  · cases hf
  · obtain ⟨v, rfl, hd⟩ := one_of l
    cases d <;> first | (exfalso; simp [tupleF] at hf; done) | skip
    case list ds =>
      obtain ⟨a, vs, rfl, ha, la⟩ := hd.lstE
      cases hf
      exact call_tuple_of pins s σ H _ us Q I r ⟨a, vs, rfl, .inl ⟨ha.sq, fun p hp => q _ _ (same_upd hp) (newTup hp tr la)⟩⟩
    case tuple ds =>
      obtain ⟨a, vs, e, ha, la⟩ := hd.tupE
      subst e
      cases hf
      exact call_tuple_of pins s σ H _ us Q I r ⟨a, vs, rfl, .inr ⟨ha, q _ H (Same.refl H) hd⟩⟩
  · exfalso; cases d <;> simp [tupleF] at hf
def listF : List PyData → Option PyData
  | [.list ds] => some (.list ds)
  | [.tuple ds] => some (.list ds)
  | _ => none
theorem c_list : CallR X (.type "list") (rFn X.K listF) := by
  intro pins s σ H xs us Q I r h
  obtain ⟨xo, ds, w, l, tr, hf, q⟩ := h
  rcases ds with _ | ⟨d, _ | ⟨d2, r2⟩⟩
  · cases hf
  · obtain ⟨v, rfl, hd⟩ := one_of l
    cases d <;> first | (exfalso; simp [listF] at hf; done) | skip
    case list ds =>
      obtain ⟨a, vs, rfl, ha, la⟩ := hd.lstE
      cases hf
      exact call_list_of pins s σ H _ us Q I r ⟨a, vs, rfl, .inl (ha.sq), fun p hp => q _ _ (same_upd hp) (newLst hp tr la)⟩
    case tuple ds =>
      obtain ⟨a, vs, rfl, ha, la⟩ := hd.tupE
      cases hf
      exact call_list_of pins s σ H _ us Q I r ⟨a, vs, rfl, .inr ha, fun p hp => q _ _ (same_upd hp) (newLst hp tr la)⟩
  · exfalso; cases d <;> simp [listF] at hf
def boolsD : List PyData → Option (List Bool)
  | [] => some []
  | .bool b :: r => (boolsD r).map (b :: ·)
  | _ :: _ => none
theorem boolsD_vs {K : PySem.W.Frag} {xo : Addr → Prop} {H : Hp} : ∀ {ds : List PyData} {bs : List Bool} {vs : List V}, boolsD ds = some bs → DtL K xo H ds vs → vs = bs.map V.bl
  | [], bs, vs, h, l => by cases h; simp only [DtL] at l; exact l
  | d :: r, bs, vs, h, l => by
    simp only [DtL] at l
    obtain ⟨v, vr, e, a, b⟩ := l
    cases d <;> first | (exfalso; simp [boolsD] at h; done) | skip
    case bool c =>
      cases a.boolE
      have h' : (boolsD r).map (c :: ·) = some bs := h
      cases q : boolsD r with
      | none => rw [q] at h'; cases h'
      | some bs' =>
        rw [q] at h'
        cases h'
        rw [e, boolsD_vs q b]; rfl
def intsD : List PyData → Option (List Int)
  | [] => some []
  | .int b :: r => (intsD r).map (b :: ·)
  | _ :: _ => none
theorem intsD_vs {K : PySem.W.Frag} {xo : Addr → Prop} {H : Hp} : ∀ {ds : List PyData} {bs : List Int} {vs : List V}, intsD ds = some bs → DtL K xo H ds vs → vs = bs.map V.int
  | [], bs, vs, h, l => by cases h; simp only [DtL] at l; exact l
  | d :: r, bs, vs, h, l => by
    simp only [DtL] at l
    obtain ⟨v, vr, e, a, b⟩ := l
    cases d <;> first | (exfalso; simp [intsD] at h; done) | skip
    case int c =>
      cases a.intE
      have h' : (intsD r).map (c :: ·) = some bs := h
      cases q : intsD r with
      | none => rw [q] at h'; cases h'
      | some bs' =>
        rw [q] at h'
        cases h'
        rw [e, intsD_vs q b]; rfl
def allF : List PyData → Option PyData
  | [.list ds] => (boolsD ds).map fun bs => .bool (bs.all id)
  | _ => none
def anyF : List PyData → Option PyData
  | [.list ds] => (boolsD ds).map fun bs => .bool (bs.any id)
  | _ => none
def sumF : List PyData → Option PyData
  | [.list ds] => (intsD ds).map fun bs => .int bs.sum
  | _ => none
theorem c_all (hc : X.calm = true) : CallR X (.builtin "all") (rFn X.K allF) := by
  intro pins s σ H xs us Q I r h
  obtain ⟨xo, ds, w, l, tr, hf, q⟩ := h
  rcases ds with _ | ⟨d, _ | ⟨d2, r2⟩⟩
  · cases hf
  · obtain ⟨v, rfl, hd⟩ := one_of l
    cases d <;> first | (exfalso; simp [allF] at hf; done) | skip
    case list ds =>
      obtain ⟨a, vs, rfl, ha, la⟩ := hd.lstE
      have hf' : (boolsD ds).map (fun bs => PyData.bool (bs.all id)) = some w := hf
      cases e : boolsD ds with
      | none => rw [e] at hf'; cases hf'
      | some bs =>
        rw [e] at hf'
        cases hf'
        have ev := boolsD_vs e la
        subst ev
        exact cr_all hc pins s σ H _ us Q I r ⟨a, bs, rfl, ha.sq, q _ H (Same.refl H) (.bool _)⟩
  · exfalso; cases d <;> simp [allF] at hf
theorem c_any (hc : X.calm = true) : CallR X (.builtin "any") (rFn X.K anyF) := by
  intro pins s σ H xs us Q I r h
  obtain ⟨xo, ds, w, l, tr, hf, q⟩ := h
  rcases ds with _ | ⟨d, _ | ⟨d2, r2⟩⟩
  · cases hf
  · obtain ⟨v, rfl, hd⟩ := one_of l
    cases d <;> first | (exfalso; simp [anyF] at hf; done) | skip
    case list ds =>
      obtain ⟨a, vs, rfl, ha, la⟩ := hd.lstE
      have hf' : (boolsD ds).map (fun bs => PyData.bool (bs.any id)) = some w := hf
      cases e : boolsD ds with
      | none => rw [e] at hf'; cases hf'
      | some bs =>
        rw [e] at hf'
        cases hf'
        have ev := boolsD_vs e la
        subst ev
        exact cr_any hc pins s σ H _ us Q I r ⟨a, bs, rfl, ha.sq, q _ H (Same.refl H) (.bool _)⟩
  · exfalso; cases d <;> simp [anyF] at hf
theorem c_sum (hc : X.calm = true) : CallR X (.builtin "sum") (rFn X.K sumF) := by
  intro pins s σ H xs us Q I r h
  obtain ⟨xo, ds, w, l, tr, hf, q⟩ := h
  rcases ds with _ | ⟨d, _ | ⟨d2, r2⟩⟩
  · cases hf
  · obtain ⟨v, rfl, hd⟩ := one_of l
    cases d <;> first | (exfalso; simp [sumF] at hf; done) | skip
    case list ds =>
      obtain ⟨a, vs, rfl, ha, la⟩ := hd.lstE
      have hf' : (intsD ds).map (fun bs => PyData.int bs.sum) = some w := hf
      cases e : intsD ds with
      | none => rw [e] at hf'; cases hf'
      | some bs =>
        rw [e] at hf'
        cases hf'
        have ev := intsD_vs e la
        subst ev
        exact cr_sum hc pins s σ H _ us Q I r ⟨a, bs, rfl, ha.sq, q _ H (Same.refl H) (.int _)⟩
  · exfalso; cases d <;> simp [sumF] at hf
def intF : List PyData → Option PyData
  | [.int i] => some (.int i)
  | [.bool k] => some (.int (if k then 1 else 0))
  | _ => none
theorem c_int : CallR X (.type "int") (rFn X.K intF) := by
  intro pins s σ H xs us Q I r h
  obtain ⟨xo, ds, w, l, tr, hf, q⟩ := h
  rcases ds with _ | ⟨d, _ | ⟨d2, r2⟩⟩
  · cases hf
  · obtain ⟨v, rfl, hd⟩ := one_of l
    cases d <;> first | (exfalso; simp [intF] at hf; done) | skip
    case int i =>
      cases hd.intE
      cases hf
      exact call_int1 pins s σ H _ us Q I r (.inl ⟨i, rfl, q _ H (Same.refl H) (.int _)⟩)
    case bool i =>
      cases hd.boolE
      cases hf
      exact call_int1 pins s σ H _ us Q I r (.inr ⟨i, rfl, q _ H (Same.refl H) (.int _)⟩)
  · exfalso; cases d <;> simp [intF] at hf
end
end Q

set_option maxHeartbeats 4000000
namespace Q
open PySem L2

/-! ### what is walked -/
/-- J gives values for the data ds, one behind the other, while what stood at H1 stands -/
def Wk (K : PySem.W.Frag) (W : Wd) (xo : Addr → Prop) (J : It) (ds : List PyData) (H1 : Hp) : Prop := ∃ (G : Hp → Prop) (Y : Nat → Hp → V → Hp → Prop), Walk J ds.length G Y ∧ (∀ xo' H', Ev W xo H1 xo' H' → G H') ∧
  ∀ i xo' H x H', i < ds.length → Ev W xo H1 xo' H → Y i H x H' → Same H H' ∧ ∃ d, ds[i]? = some d ∧ Dt K xo' H' d x
def tQI (X : Cx) (W : Wd) (Wx : WX) (f : Rho → M (List PyData)) : TI := fun σ H R => ∃ xo ρ ω, Good X.K W xo H σ ρ ω ∧
  RunP (f ρ ω) (fun ds ω' => ∀ J H1, Step W H H1 → W.St ω' H1 → Wk X.K W xo J ds H1 → ds.length ≤ line → R J H1) (ExP X W Wx xo σ H)
def itemsD : PyData → Option (List PyData)
  | .list ds => some ds
  | .tuple ds => some ds
  | _ => none
section
variable {K : PySem.W.Frag} {W : Wd} {xo : Addr → Prop} {H H1 : Hp} {ds : List PyData} {vs : List V} {a : Addr}
theorem not_A {b : Addr} (na : ¬ xo b) (eb : ∀ b, W.ex b → W.b b) (sub : ∀ b, W.b b → xo b) : ¬ W.A xo b := fun z => z.elim (fun z => na (sub b (eb b z))) fun z => na z.1
theorem LsAt.evs {xo' : Addr → Prop} {H' : Hp} (eb : ∀ b, W.ex b → W.b b) (sub : ∀ b, W.b b → xo b) (h : LsAt K xo H1 a vs) (s : Ev W xo H1 xo' H') : SqL K H' a vs := by
  rcases h with ⟨n, e⟩ | ⟨o, e⟩ | h
  · exact SqL.of (s.keep _ _ e (.inl (not_A n eb sub)) fun _ z => nomatch z)
  · exact .inl (.inr ⟨o, s.keep _ _ e (.inr trivial) fun _ z => nomatch z⟩)
  · exact .inr h
theorem wk_list (eb : ∀ b, W.ex b → W.b b) (sub : ∀ b, W.b b → xo b) (h : LsAt K xo H1 a vs) (l : DtL K xo H1 ds vs) : Wk K W xo (Itl K a) ds H1 := by
  refine ⟨fun H => SqL K H a vs, YAt vs, ?_, fun xo' H' s => h.evs eb sub s, fun i xo' H x H' hi s y => ?_⟩
  · rw [← l.length]; exact walk_list
  · obtain ⟨e, hx⟩ := y
    subst e
    refine ⟨Same.refl _, ds[i], by simp [hi], ?_⟩
    obtain ⟨v, h1, h2⟩ := l.get (i := i) (d := ds[i]) (by simp [hi])
    rw [h1] at hx
    cases hx
    exact h2.ev eb sub s
theorem SqT.ev {vs : List V} {xo' : Addr → Prop} (s : Ev W xo H xo' H1) (h : SqT K H a vs) : SqT K H1 a vs := by
  rcases h with (h | ⟨o, h⟩) | h
  · exact .inl (.inl (s.keep _ _ h (.inr trivial) fun _ z => nomatch z))
  · exact .inl (.inr ⟨o, s.keep _ _ h (.inr trivial) fun _ z => nomatch z⟩)
  · exact .inr h
theorem wk_tup (eb : ∀ b, W.ex b → W.b b) (sub : ∀ b, W.b b → xo b) (h : SqT K H1 a vs) (l : DtL K xo H1 ds vs) : Wk K W xo (Itt K a) ds H1 := by
  refine ⟨fun H => SqT K H a vs, YAt vs, ?_, fun xo' H' s => SqT.ev s h, fun i xo' H x H' hi s y => ?_⟩
  · rw [← l.length]; exact walk_tup
  · obtain ⟨e, hx⟩ := y
    subst e
    refine ⟨Same.refl _, ds[i], by simp [hi], ?_⟩
    obtain ⟨v, h1, h2⟩ := l.get (i := i) (d := ds[i]) (by simp [hi])
    rw [h1] at hx
    cases hx
    exact h2.ev eb sub s
/-- a + 0, a + 1, .. -/
def upD (a : Int) (n : Nat) : List PyData := (List.range n).map fun i => .int (a + (i : Nat))
theorem upD_length (a : Int) (n : Nat) : (upD a n).length = n := by simp [upD]
theorem wk_range {lo : Int} {n : Nat} : Wk K W xo (Itr lo n) (upD lo n) H1 := by
  refine ⟨fun _ => True, YFn fun i => .int (lo + i), by rw [upD_length]; exact walk_range, fun _ _ _ => trivial, fun i xo' H x H' hi s y => ?_⟩
  obtain ⟨e, hx⟩ := y
  subst e
  rw [upD_length] at hi
  refine ⟨Same.refl _, .int (lo + (i : Nat)), by simp [upD, hi], ?_⟩
  rw [hx]; exact .int _
end

section
variable {X : Cx} {W : Wd} {Wx : WX} {tg : Expr}
/-- a list or a tuple -/
def seqM (f : Rho → M PyData) : Rho → M (List PyData) := fun ρ => do
  let d ← f ρ
  let ds ← get? (itemsD d)
  need (decide (ds.length ≤ line))
  pure ds
theorem qi_seq {l : Expr} {f : Rho → M PyData} (hl : PE X l (tQ X W Wx f)) : PI X tg l (tQI X W Wx (seqM f)) := by
  refine ⟨fun pins s σ H R I h => ?_⟩
  obtain ⟨xo, ρ, ω, g, r⟩ := h
  refine thn (hl.run pins s σ H (fun x H1 => ∃ d ds, Dt X.K xo H1 d x ∧ itemsD d = some ds ∧ ∀ J, Wk X.K W xo J ds H1 → R J H1) I ⟨xo, ρ, ω, g, RunP.mono (RunP.bind r) (fun d o z v H1 st t q => ?_) fun _ _ _ e => e⟩) fun v s1 hh => ?_
  · obtain ⟨ds, e1, z2⟩ := (RunP.bind z).get
    obtain ⟨e2, z3⟩ := (RunP.bind z2).need
    exact ⟨d, ds, q, e1, fun J w => z3 J H1 st t w (of_decide_eq_true e2)⟩
  · obtain ⟨x, H1, I1, r1, d, ds, hd, e1, q⟩ := hh
    cases d <;> first | (exfalso; simp [itemsD] at e1; done) | skip
    case list es =>
      cases e1
      obtain ⟨a, vs, rfl, ha, la⟩ := hd.lstE
      cases r1
      obtain ⟨its, rv, p, hz⟩ := I1.list (ha.sq)
      refine wpAny_pyIter_list p.isList ⟨s1.heap.objs.size, [s1.heap.objs.size], _, _, H1, rfl, I1.kept (t' := s1.toks) fun b o e => Heap.get?_push_of_some _ e, turn_list a _, ⟨_, Heap.get?_push_size _ rfl, rfl, rfl⟩, fun b hb => ?_, q _ (wk_list g.eb g.sub ha la)⟩
      obtain rfl : b = s1.heap.objs.size := by simpa using hb
      exact I1.fpOk (Nat.le_refl _) (I1.hok.fresh (Nat.le_refl _))
    case tuple es =>
      cases e1
      obtain ⟨a, vs, rfl, ha, la⟩ := hd.tupE
      cases r1
      obtain ⟨its, rv, p, hz⟩ := I1.tuple ha
      refine wpAny_pyIter_tuple (show s1.heap.IsTuple a its.toArray from p) ⟨s1.heap.objs.size, [s1.heap.objs.size], _, _, H1, rfl, I1.kept (t' := s1.toks) fun b o e => Heap.get?_push_of_some _ e, turn_tuple a _, ⟨_, Heap.get?_push_size _ rfl, rfl, rfl⟩, fun b hb => ?_, q _ (wk_tup g.eb g.sub ha la)⟩
      obtain rfl : b = s1.heap.objs.size := by simpa using hb
      exact I1.fpOk (Nat.le_refl _) (I1.hok.fresh (Nat.le_refl _))
theorem PI.weak {iter : Expr} {t t' : TI} (h : PI X tg iter t) (w : ∀ σ H R, t' σ H R → t σ H R) : PI X tg iter t' := ⟨fun pins s σ H Q I q => h.run pins s σ H Q I (w σ H Q q)⟩
/-- range(n) -/
def rng1M (fs : Rho → M (List PyData)) : Rho → M (List PyData) := fun ρ => do
  let ds ← fs ρ
  get? (match ds with | [.int n] => if n ≤ 16777216 ∧ -(2 ^ 62) ≤ n then some (upD 0 n.toNat) else none | _ => none)
theorem qi_range1 {a : Expr} {fs : Rho → M (List PyData)} {p pos : Pos} (hg : Gl X "range") (hm : X.mg "range" = none) (ha : PA X [a] (tQA X W Wx fs)) (hs : starEach [a] X.env = [(false, eval a X.env)] := by rfl) :
    PI X tg (.Call (.Name "range" p) [a] [] pos) (tQI X W Wx (rng1M fs)) := by
  refine PI.weak (pi_range1 hg hm ha hs) fun σ H R h => ?_
  obtain ⟨xo, ρ, ω, g, r⟩ := h
  refine ⟨xo, ρ, ω, g, RunP.mono (RunP.bind r) (fun ds o z vs H1 s t q => ?_) fun _ _ _ e => e⟩
  obtain ⟨es, e1, k⟩ := RunP.get z
  rcases ds with _ | ⟨d, _ | ⟨d2, r2⟩⟩
  · cases e1
  · obtain ⟨v, rfl, hd⟩ := one_of q
    cases d <;> first | (exfalso; simp at e1; done) | skip
    case int n =>
      cases hd.intE
      have e2 : (if n ≤ 16777216 ∧ -(2 ^ 62) ≤ n then some (upD 0 n.toNat) else none) = some es := e1
      split at e2
      · rename_i hz
        cases e2
        refine ⟨n, rfl, hz.2, by omega, k _ H1 s t wk_range ?_⟩
        rw [upD_length]; show _ ≤ 16777216; omega
      · cases e2
  · exfalso; cases d <;> simp at e1
/-- range(a, b) -/
def rng2M (fs : Rho → M (List PyData)) : Rho → M (List PyData) := fun ρ => do
  let ds ← fs ρ
  get? (match ds with | [.int a, .int b] => if b - a ≤ 16777216 ∧ -(2 ^ 62) ≤ a ∧ a < 2 ^ 62 ∧ -(2 ^ 62) ≤ b ∧ b < 2 ^ 62 then some (upD a (b - a).toNat) else none | _ => none)
theorem qi_range2 {a b : Expr} {fs : Rho → M (List PyData)} {p pos : Pos} (hg : Gl X "range") (hm : X.mg "range" = none) (ha : PA X [a, b] (tQA X W Wx fs)) (hs : starEach [a, b] X.env = [(false, eval a X.env), (false, eval b X.env)] := by rfl) (hs2 : starEach [b] X.env = [(false, eval b X.env)] := by rfl) :
    PI X tg (.Call (.Name "range" p) [a, b] [] pos) (tQI X W Wx (rng2M fs)) := by
  refine PI.weak (pi_range2 hg hm ha hs hs2) fun σ H R h => ?_
  obtain ⟨xo, ρ, ω, g, r⟩ := h
  refine ⟨xo, ρ, ω, g, RunP.mono (RunP.bind r) (fun ds o z vs H1 s t q => ?_) fun _ _ _ e => e⟩
  obtain ⟨es, e1, k⟩ := RunP.get z
  rcases ds with _ | ⟨d, _ | ⟨d2, _ | ⟨d3, r3⟩⟩⟩
  · cases e1
  · exfalso; cases d <;> simp at e1
  · obtain ⟨v, v', rfl, hd, hd2⟩ := two_of q
    cases d <;> cases d2 <;> first | (exfalso; simp at e1; done) | skip
    case int.int n m =>
      cases hd.intE
      cases hd2.intE
      have e2 : (if m - n ≤ 16777216 ∧ -(2 ^ 62) ≤ n ∧ n < 2 ^ 62 ∧ -(2 ^ 62) ≤ m ∧ m < 2 ^ 62 then some (upD n (m - n).toNat) else none) = some es := e1
      split at e2
      · rename_i hz
        cases e2
        refine ⟨n, m, rfl, hz.2, k _ H1 s t wk_range ?_⟩
        rw [upD_length]; show _ ≤ 16777216; omega
      · cases e2
  · exfalso; cases d <;> cases d2 <;> simp at e1
/-- enumerate, zip: pairs -/
def pairD (p : PyData × PyData) : PyData := .tuple [p.1, p.2]
def enumD (ds : List PyData) : List PyData := (List.range ds.length).zipWith (fun (i : Nat) d => PyData.tuple [.int i, d]) ds
theorem enumD_length (ds : List PyData) : (enumD ds).length = ds.length := by simp [enumD]
theorem enumD_get (ds : List PyData) (i : Nat) (d : PyData) (h : ds[i]? = some d) : (enumD ds)[i]? = some (.tuple [.int i, d]) := by
  have hi : i < ds.length := (List.getElem?_eq_some_iff.mp h).1
  have e : ds[i] = d := (List.getElem?_eq_some_iff.mp h).2
  simp [enumD, List.getElem?_zipWith, hi, e]
def zipD (ds es : List PyData) : List PyData := ds.zipWith (fun d e => PyData.tuple [d, e]) es
theorem zipD_length (ds es : List PyData) : (zipD ds es).length = min ds.length es.length := by simp [zipD]
theorem zipD_get (ds es : List PyData) (i : Nat) (d e : PyData) (h : ds[i]? = some d) (h' : es[i]? = some e) : (zipD ds es)[i]? = some (.tuple [d, e]) := by
  simp [zipD, List.getElem?_zipWith, h, h']
theorem new_pair' {K : PySem.W.Frag} {xo : Addr → Prop} {H : Hp} {T : Addr} {d e : PyData} {x y : V} (n : H T = none) (hd : Dt K xo H d x) (he : Dt K xo H e y) : Dt K xo (upd H T (.tup [x, y])) (.tuple [d, e]) (.ref T) := by
  simp only [Dt]
  exact ⟨T, _, rfl, SqT.of upd_same, (DtL.cons hd (.cons he .nil)).same (same_upd n)⟩
theorem wk_enum {a : Addr} {H1 : Hp} {ds : List PyData} {vs : List V} {xo : Addr → Prop} (eb : ∀ b, W.ex b → W.b b) (sub : ∀ b, W.b b → xo b) (h : LsAt X.K xo H1 a vs) (l : DtL X.K xo H1 ds vs) : Wk X.K W xo (Ite X.K a) (enumD ds) H1 := by
  refine ⟨fun H => SqL X.K H a vs, YPair (fun i => some (.int (i : Nat))) (fun i => vs[i]?), ?_, fun xo' H' s => h.evs eb sub s, fun i xo' H x H' hi s y => ?_⟩
  · rw [enumD_length, ← l.length]; exact walk_enum
  · obtain ⟨T, p, q, rfl, nT, rfl, e1, e2⟩ := y
    rw [enumD_length] at hi
    obtain ⟨v, h1, h2⟩ := l.get (i := i) (d := ds[i]) (by simp [hi])
    have e1 : some (V.int (i : Nat)) = some p := e1
    have e2 : vs[i]? = some q := e2
    rw [h1] at e2
    cases e1
    cases e2
    exact ⟨same_upd nT, _, enumD_get ds i ds[i] (by simp [hi]), new_pair' nT (.int _) (h2.ev eb sub s)⟩
theorem wk_zip {a b : Addr} {H1 : Hp} {ds es : List PyData} {vs ws : List V} {xo : Addr → Prop} (eb : ∀ b, W.ex b → W.b b) (sub : ∀ b, W.b b → xo b) (ha : LsAt X.K xo H1 a vs) (hb : LsAt X.K xo H1 b ws) (l : DtL X.K xo H1 ds vs) (m : DtL X.K xo H1 es ws) :
    Wk X.K W xo (Itz X.K a b) (zipD ds es) H1 := by
  refine ⟨fun H => SqL X.K H a vs ∧ SqL X.K H b ws, YPair (fun i => vs[i]?) (fun i => ws[i]?), walk_zip (by rw [zipD_length, l.length, m.length]),
    fun xo' H' s => ⟨ha.evs eb sub s, hb.evs eb sub s⟩, fun i xo' H x H' hi s y => ?_⟩
  obtain ⟨T, p, q, rfl, nT, rfl, e1, e2⟩ := y
  rw [zipD_length] at hi
  have h1 : i < ds.length := by omega
  have h2 : i < es.length := by omega
  obtain ⟨v, f1, f2⟩ := l.get (i := i) (d := ds[i]) (by simp [h1])
  obtain ⟨w, g1, g2⟩ := m.get (i := i) (d := es[i]) (by simp [h2])
  have e1 : vs[i]? = some p := e1
  have e2 : ws[i]? = some q := e2
  rw [f1] at e1
  rw [g1] at e2
  cases e1
  cases e2
  exact ⟨same_upd nT, _, zipD_get ds es i ds[i] es[i] (by simp [h1]) (by simp [h2]), new_pair' nT (f2.ev eb sub s) (g2.ev eb sub s)⟩
def enumM (fs : Rho → M (List PyData)) : Rho → M (List PyData) := fun ρ => do
  let ds ← fs ρ
  get? (match ds with | [.list es] => if es.length ≤ line then some (enumD es) else none | _ => none)
theorem qi_enum {e : Expr} {fs : Rho → M (List PyData)} {p pos tpos : Pos} {elts : List Expr} {kk : Nat} (hg : Gl X "enumerate") (hm : X.mg "enumerate" = none) (ha : PA X [e] (tQA X W Wx fs)) (hs : starEach [e] X.env = [(false, eval e X.env)] := by rfl) :
    PI X (.Tuple elts kk tpos) (.Call (.Name "enumerate" p) [e] [] pos) (tQI X W Wx (enumM fs)) := by
  refine PI.weak (pi_enum hg hm ha hs) fun σ H R h => ?_
  obtain ⟨xo, ρ, ω, g, r⟩ := h
  refine ⟨xo, ρ, ω, g, RunP.mono (RunP.bind r) (fun ds o z vs H1 s t q => ?_) fun _ _ _ e => e⟩
  obtain ⟨es, e1, k⟩ := RunP.get z
  rcases ds with _ | ⟨d, _ | ⟨d2, r2⟩⟩
  · cases e1
  · obtain ⟨v, rfl, hd⟩ := one_of q
    cases d <;> first | (exfalso; simp at e1; done) | skip
    case list ns =>
      obtain ⟨a, vs, rfl, ha', la⟩ := hd.lstE
      have e2 : (if ns.length ≤ line then some (enumD ns) else none) = some es := e1
      split at e2
      · rename_i hz
        cases e2
        exact ⟨a, vs, rfl, ha'.sq, k _ H1 s t (wk_enum g.eb g.sub ha' la) (by rw [enumD_length]; exact hz)⟩
      · cases e2
  · exfalso; cases d <;> simp at e1
def zipM (fs : Rho → M (List PyData)) : Rho → M (List PyData) := fun ρ => do
  let ds ← fs ρ
  get? (match ds with | [.list es, .list us] => if es.length ≤ line then some (zipD es us) else none | _ => none)
theorem qi_zip {e e2 : Expr} {fs : Rho → M (List PyData)} {p pos tpos : Pos} {elts : List Expr} {kk : Nat} (hg : Gl X "zip") (hm : X.mg "zip" = none) (ha : PA X [e, e2] (tQA X W Wx fs))
    (hs : starEach [e, e2] X.env = (false, eval e X.env) :: starEach [e2] X.env := by rfl) (hpl : (backTo pos (starEach [e2] X.env)).any (·.1) = false := by rfl) :
    PI X (.Tuple elts kk tpos) (.Call (.Name "zip" p) [e, e2] [] pos) (tQI X W Wx (zipM fs)) := by
  refine PI.weak (pi_zip hg hm ha hs hpl) fun σ H R h => ?_
  obtain ⟨xo, ρ, ω, g, r⟩ := h
  refine ⟨xo, ρ, ω, g, RunP.mono (RunP.bind r) (fun ds o z vs H1 s t q => ?_) fun _ _ _ e => e⟩
  obtain ⟨es, e1, k⟩ := RunP.get z
  rcases ds with _ | ⟨d, _ | ⟨d2, _ | ⟨d3, r3⟩⟩⟩
  · cases e1
  · exfalso; cases d <;> simp at e1
  · obtain ⟨v, v', rfl, hd, hd2⟩ := two_of q
    cases d <;> cases d2 <;> first | (exfalso; simp at e1; done) | skip
    case list.list ns ms =>
      obtain ⟨a, vs, rfl, ha', la⟩ := hd.lstE
      obtain ⟨b, ws, rfl, hb', lb⟩ := hd2.lstE
      have e2 : (if ns.length ≤ line then some (zipD ns ms) else none) = some es := e1
      split at e2
      · rename_i hz
        cases e2
        exact ⟨a, b, vs, ws, rfl, ha'.sq, hb'.sq, k _ H1 s t (wk_zip g.eb g.sub ha' hb' la lb) (by rw [zipD_length]; unfold line at hz ⊢; omega)⟩
      · cases e2
  · exfalso; cases d <;> cases d2 <;> simp at e1

/-! ### targets -/
/-- off the places is two rows of slots are alike -/
def Off (is : List Nat) (σ σ' : St) : Prop := σ'.length = σ.length ∧ ∀ j, j ∉ is → σ'[j]? = σ[j]?
theorem Off.refl (is : List Nat) (σ : St) : Off is σ σ := ⟨rfl, fun _ _ => rfl⟩
theorem Off.set {is : List Nat} {σ : St} {i : Nat} {v : Option V} (h : i ∈ is) : Off is σ (σ.set i v) := ⟨List.length_set, fun j hj => by rw [List.getElem?_set_ne]; exact fun e => hj (e ▸ h)⟩
theorem Off.trans {is : List Nat} {σ σ1 σ2 : St} (a : Off is σ σ1) (b : Off is σ1 σ2) : Off is σ σ2 := ⟨b.1.trans a.1, fun j hj => (b.2 j hj).trans (a.2 j hj)⟩
theorem wipe_get (σ : St) : ∀ (vs : List Nat) (j : Nat), (wipe σ vs)[j]? = if j ∈ vs then (if j < σ.length then some none else none) else σ[j]?
  | [], j => by simp [wipe]
  | v :: vs, j => by
    have ih := wipe_get σ vs j
    have hl := wipe_length σ vs
    unfold wipe
    by_cases e : v = j
    · subst e
      by_cases hv : v < σ.length
      · rw [List.getElem?_set_self (by rw [hl]; exact hv)]
        simp [hv]
      · rw [List.getElem?_eq_none (by rw [List.length_set, hl]; omega)]
        simp [hv]
    · rw [List.getElem?_set_ne e, ih]
      have : (j ∈ v :: vs) ↔ j ∈ vs := by simp [Ne.symm e]
      simp only [this]
theorem Off.wipe {is : List Nat} {σ σ' : St} (h : Off is σ σ') : wipe σ' is = wipe σ is := by
  refine List.ext_getElem? fun j => ?_
  rw [wipe_get, wipe_get, h.1]
  by_cases hj : j ∈ is
  · rw [if_pos hj, if_pos hj]
  · rw [if_neg hj, if_neg hj, h.2 j hj]
/-- a target: g says what becomes of the names; is: the places it writes -/
def tQG (X : Cx) (W : Wd) (is : List Nat) (g : PyData → Rho → Option Rho) : TG := fun v σ H Q => ∃ xo ρ ω d ρ', Good X.K W xo H σ ρ ω ∧ Dt X.K xo H d v ∧ g d ρ = some ρ' ∧ ∀ σ', Off is σ σ' → Good X.K W xo H σ' ρ' ω → Q σ' H
theorem PG.weak {e : Expr} {t t' : TG} (h : PG X e t) (w : ∀ v σ H Q, t' v σ H Q → t v σ H Q) : PG X e t' := ⟨fun pins s σ H v u Q I r q => h.run pins s σ H v u Q I r (w v σ H Q q)⟩
theorem PGs.weak {e : List Expr} {t t' : TGs} (h : PGs X e t) (w : ∀ v σ H Q, t' v σ H Q → t v σ H Q) : PGs X e t' := ⟨fun pins s σ H v u Q I r q => h.run pins s σ H v u Q I r (w v σ H Q q)⟩
def setD (i : Nat) (d : PyData) (ρ : Rho) : Option Rho := some (ρ.set i (some (.dat d)))
theorem Good.set {K : PySem.W.Frag} {xo : Addr → Prop} {H : Hp} {σ : St} {ρ : Rho} {ω : Om} {i : Nat} {v : V} {d : PyData} (g : Good K W xo H σ ρ ω) (hi : i < σ.length) (h : Dt K xo H d v) : Good K W xo H (σ.set i (some v)) (ρ.set i (some (.dat d))) ω := by
  refine ⟨fun j e q => ?_, g.st, g.eb, g.sub, g.tr, g.ev, fun j k ds es u h1 h2 h3 h4 => ?_⟩
  · by_cases hj : i = j
    · subst hj
      have hl : i < ρ.length := by
        have := (List.getElem?_eq_some_iff.mp q).1
        rw [List.length_set] at this; exact this
      rw [List.getElem?_set_self hl] at q
      cases q
      exact ⟨v, List.getElem?_set_self hi, h⟩
    · rw [List.getElem?_set_ne hj] at q
      obtain ⟨u, a, b⟩ := g.slot j e q
      exact ⟨u, by rw [List.getElem?_set_ne hj]; exact a, b⟩
  · have nj : ∀ {j : Nat} {ds : List PyData}, (ρ.set i (some (.dat d)))[j]? = some (some (.own ds)) → i ≠ j := fun {j ds} q e => by
      subst e
      have hl : i < ρ.length := by
        have := (List.getElem?_eq_some_iff.mp q).1
        rw [List.length_set] at this; exact this
      rw [List.getElem?_set_self hl] at q
      cases q
    have n1 := nj h1
    have n2 := nj h2
    rw [List.getElem?_set_ne n1] at h1 h3
    rw [List.getElem?_set_ne n2] at h2 h4
    exact g.apart j k ds es u h1 h2 h3 h4
theorem qg_name {i : Nat} {x : Str} {pos : Pos} {is : List Nat} (hN : X.N.Nodup) (hi : X.N[i]? = some x) (hx : Loc X.env.scope x) (hf : X.fn x = true ∨ X.env.scope.names.lookup x = some .local) (hm : i ∈ is) : PG X (.Name x pos) (tQG X W is (setD i)) := by
  refine ⟨fun pins s σ H v u Q I r h => ?_⟩
  obtain ⟨xo, ρ, ω, d, ρ', g, hd, e, k⟩ := h
  cases e
  have hl : i < σ.length := by rw [I.len]; exact (List.getElem?_eq_some_iff.mp hi).1
  exact (pg_name hN hi hx hf).run pins s σ H v u Q I r (k _ (Off.set hm) (g.set hl hd))
/-- several targets -/
def tQGs (X : Cx) (W : Wd) (is : List Nat) (g : List PyData → Rho → Option Rho) : TGs := fun vs σ H Q => ∃ xo ρ ω ds ρ', Good X.K W xo H σ ρ ω ∧ DtL X.K xo H ds vs ∧ g ds ρ = some ρ' ∧ ∀ σ', Off is σ σ' → Good X.K W xo H σ' ρ' ω → Q σ' H
def consG (g : PyData → Rho → Option Rho) (gs : List PyData → Rho → Option Rho) : List PyData → Rho → Option Rho
  | [], _ => none
  | d :: ds, ρ => (g d ρ).bind (gs ds)
def nilG : List PyData → Rho → Option Rho
  | [], ρ => some ρ
  | _ :: _, _ => none
theorem qgs_nil {is : List Nat} : PGs X [] (tQGs X W is nilG) := by
  refine PGs.weak pgs_nil fun vs σ H Q h => ?_
  obtain ⟨xo, ρ, ω, ds, ρ', g, hd, e, k⟩ := h
  cases ds with
  | cons d ds => cases e
  | nil =>
    cases e
    simp only [DtL] at hd
    exact ⟨hd, k σ (Off.refl _ _) g⟩
theorem qgs_cons {e : Expr} {es : List Expr} {is : List Nat} {g : PyData → Rho → Option Rho} {gs : List PyData → Rho → Option Rho} (h1 : PG X e (tQG X W is g)) (h2 : PGs X es (tQGs X W is gs))
    (hs : (assignEach (e :: es) X.env).map (·.2) = assign e X.env :: (assignEach es X.env).map (·.2) := by rfl) : PGs X (e :: es) (tQGs X W is (consG g gs)) := by
  refine PGs.weak (pgs_cons h1 h2 hs) fun vs σ H Q h => ?_
  obtain ⟨xo, ρ, ω, ds, ρ', gd, hd, e, k⟩ := h
  cases ds with
  | nil => cases e
  | cons d ds =>
    simp only [DtL] at hd
    obtain ⟨v, r, ev, a, b⟩ := hd
    have e' : (g d ρ).bind (gs ds) = some ρ' := e
    cases q : g d ρ with
    | none => rw [q] at e'; cases e'
    | some ρ1 =>
      rw [q] at e'
      exact ⟨v, r, ev, xo, ρ, ω, d, ρ1, gd, a, q, fun σ1 o1 g1 => ⟨xo, ρ1, ω, ds, ρ', g1, b, e', fun σ2 o2 g2 => k σ2 (o1.trans o2) g2⟩⟩
def tupG (n : Nat) (gs : List PyData → Rho → Option Rho) (d : PyData) (ρ : Rho) : Option Rho := match d with
  | .tuple ds => if ds.length = n then gs ds ρ else none
  | _ => none
theorem qg_tup {es : List Expr} {k : Nat} {pos : Pos} {is : List Nat} {gs : List PyData → Rho → Option Rho} {n : Nat} (hc : X.calm = true) (h : PGs X es (tQGs X W is gs)) (hn : (assignEach es X.env).length = n := by rfl) (hst : (assignEach es X.env).findIdx? (·.1) = none := by rfl) :
    PG X (.Tuple es k pos) (tQG X W is (tupG n gs)) := by
  refine PG.weak (pg_tup hc h hn hst) fun v σ H Q h => ?_
  obtain ⟨xo, ρ, ω, d, ρ', g, hd, e, k⟩ := h
  cases d <;> first | (exfalso; simp [tupG] at e; done) | skip
  case tuple ds =>
    obtain ⟨a, vs, rfl, ha, la⟩ := hd.tupE
    have e' : (if ds.length = n then gs ds ρ else none) = some ρ' := e
    split at e'
    · rename_i hz
      exact ⟨a, vs, rfl, ha, by rw [la.length]; exact hz, xo, ρ, ω, ds, ρ', g, la, e', k⟩
    · cases e'
end
end Q

set_option maxHeartbeats 4000000
namespace Q
open PySem L2

/-! ### comprehensions -/
/-- no exception comes out -/
def safe {α : Type} (m : M α) : M α := fun o => match m o with
  | .ok a o' => .ok a o'
  | .exn _ _ _ => .bad
  | .bad => .bad
theorem safe.inv {α : Type} {m : M α} {ω : Om} {P : α → Om → Prop} {E E' : Str → List (Str × PyData) → Om → Prop} (h : RunP (safe m ω) P E) : RunP (m ω) P E' := by
  unfold safe at h
  cases e : m ω with
  | ok a o => rw [e] at h; exact h
  | exn c fs o => rw [e] at h; exact h.elim
  | bad => rw [e] at h; exact h.elim
/-- the items, one behind the other, each in the names as they were -/
def compM (g : PyData → Rho → Option Rho) (ft : Rho → M Bool) (fe : Rho → M PyData) (ρ : Rho) : List PyData → M (List PyData)
  | [] => pure []
  | d :: ds => do
    let ρ' ← get? (g d ρ)
    let b ← safe (ft ρ')
    if b then do
      let y ← safe (fe ρ')
      let r ← compM g ft fe ρ ds
      pure (y :: r)
    else compM g ft fe ρ ds
def wipeR (ρ : Rho) : List Nat → Rho
  | [] => ρ
  | v :: vs => (wipeR ρ vs).set v none
theorem wipeR_some {ρ : Rho} {i : Nat} {x : Ent} : ∀ {vs : List Nat}, (wipeR ρ vs)[i]? = some (some x) → ρ[i]? = some (some x) ∧ i ∉ vs
  | [], h => ⟨h, by simp⟩
  | v :: vs, h => by
    unfold wipeR at h
    by_cases hi : v = i
    · subst hi
      by_cases hv : v < (wipeR ρ vs).length
      · rw [List.getElem?_set_self hv] at h; cases h
      · rw [List.getElem?_eq_none (by rw [List.length_set]; omega)] at h; cases h
    · rw [List.getElem?_set_ne hi] at h
      obtain ⟨h1, h2⟩ := wipeR_some h
      exact ⟨h1, by simp only [List.mem_cons, not_or]; exact ⟨fun e => hi e.symm, h2⟩⟩
section
variable {K : PySem.W.Frag} {W : Wd} {xo : Addr → Prop} {H H1 : Hp} {σ : St} {ρ : Rho} {ω ω' : Om}
theorem Good.wipe (g : Good K W xo H σ ρ ω) (vs : List Nat) : Good K W xo H (wipe σ vs) (wipeR ρ vs) ω := by
  have key : ∀ {i : Nat} {v : Option V}, i ∉ vs → (L2.wipe σ vs)[i]? = σ[i]? := fun {i v} h => by rw [wipe_get, if_neg h]
  refine ⟨fun i e q => ?_, g.st, g.eb, g.sub, g.tr, g.ev, fun j k ds es u h1 h2 h3 h4 => ?_⟩
  · obtain ⟨q1, q2⟩ := wipeR_some q
    obtain ⟨v, a, b⟩ := g.slot i e q1
    exact ⟨v, by rw [key (v := none) q2]; exact a, b⟩
  · obtain ⟨a1, b1⟩ := wipeR_some h1
    obtain ⟨a2, b2⟩ := wipeR_some h2
    rw [key (v := none) b1] at h3
    rw [key (v := none) b2] at h4
    exact g.apart j k ds es u a1 a2 h3 h4
/-- a new object that nothing looks at -/
theorem Good.fresh {D : Addr} (g : Good K W xo H1 σ ρ ω) (hD : H1 D = none) (s : Step W H1 H) (hn : H D ≠ none) (st : W.St ω' H) : Good K W (more xo D) H σ ρ ω' := by
  refine ⟨fun i e q => ?_, st, g.eb, fun a h => .inl (g.sub a h), fun a h => ?_, g.ev.trans (s.ev (Grown.more hD)), g.apart⟩
  · obtain ⟨v, a, b⟩ := g.slot i e q
    refine ⟨v, a, ?_⟩
    cases e with
    | dat d => exact Dt.step (fun a h => .inl (g.exo a h)) s (Dt.more hD d v b)
    | own ds =>
      obtain ⟨p, vs, e1, x, n, q1, l⟩ := b
      exact ⟨p, vs, e1, .inl x, n, s.keep _ _ q1 (.inl fun z => n (g.eb _ z)) (fun _ z => nomatch z), (DtL.more hD ds vs l).step (fun a h => .inl (g.exo a h)) s⟩
    | mach => exact b
    | clo => exact b
    | exc _ _ => trivial
  · rcases h with h | h
    · exact fun z => g.tr a h (s.new a z)
    · rw [h]; exact hn
/-- data that avoid more avoid less -/
theorem Dt.less {p : Addr} {d : PyData} {v : V} (h : Dt K (Q.more xo p) H d v) : Dt K xo H d v := h.carry (fun a z => .inl z) (fun a o e _ _ => e)
theorem DtL.less {p : Addr} {d : List PyData} {v : List V} (h : DtL K (Q.more xo p) H d v) : DtL K xo H d v := h.carry (fun a z => .inl z) (fun a o e _ _ => e)
theorem Step.at_new {D : Addr} {o : HO} (s : Step W H1 H) (hD : H1 D = none) : Step W H1 (L2.upd H D o) :=
  ⟨fun a u e n t => by rw [upd_ne (ne_of_none e hD)]; exact s.keep a u e n t, fun a e => by
    by_cases q : a = D
    · rw [q]; exact hD
    · rw [upd_ne q] at e; exact s.new a e⟩
theorem St.upd {D : Addr} {o : HO} {x : HO} (st : W.St ω H) (hD : H D = some x) (hx : ∀ ps, x ≠ .tbl ps) (hc : ∀ c q, x ≠ LamX.CodeO c q) (hm : ¬ W.ex D) : W.St ω (upd H D o) := by
  have ne : ∀ {a : Addr} {u : HO}, H a = some u → u ≠ x → a ≠ D := fun {a u} e n z => by rw [z, hD] at e; exact n (Option.some.inj e).symm
  refine ⟨fun p hp => ?_, ?_⟩
  · obtain ⟨ps, e1, e2, e3⟩ := st.1 p hp
    refine ⟨ps, by rw [upd_ne (ne e1 fun z => hx ps z.symm)]; exact e1, e2, fun pos cv q => ?_⟩
    obtain ⟨c, f1, f2⟩ := e3 pos cv q
    exact ⟨c, f1, by rw [upd_ne (ne f2 fun z => hc c _ z.symm)]; exact f2⟩
  · have h2 := st.2
    have hex := hm
    unfold Wd.ex at hex
    cases q : W.mach with
    | none => rw [q] at h2; cases ω <;> exact h2
    | some m =>
      obtain ⟨p, c, g⟩ := m
      rw [q] at h2 hex
      cases ω with
      | none => exact h2
      | some mm =>
        obtain ⟨a, b, d, e⟩ := h2
        have hex' : ¬ (D = p ∨ D = c ∨ D = g) := hex
        exact ⟨by rw [upd_ne fun z => hex' (.inl z.symm)]; exact a, by rw [upd_ne fun z => hex' (.inr (.inl z.symm))]; exact b, by rw [upd_ne fun z => hex' (.inr (.inr z.symm))]; exact d, e⟩
theorem lst_not_code {xs : List V} (c : Addr) (q : Str) : HO.lst xs ≠ LamX.CodeO c q := fun z => by
  have z' : HO.lst xs = HO.ext _ := z
  cases z'
theorem not_ex_new {D : Addr} (g : Good K W xo H σ ρ ω) (h : H D = none) : ¬ W.ex D := fun z => g.tr D (g.exo D z) h
end
section
variable {X : Cx} {W : Wd} {Wx : WX}
theorem RunP.ret {α : Type} {a : α} {ω : Om} {P : α → Om → Prop} {E : Str → List (Str × PyData) → Om → Prop} (h : RunP ((pure a : M α) ω) P E) : P a ω := h
def W0 : WX := fun _ _ _ _ => False
def listM (fi : Rho → M (List PyData)) (vs : List Nat) (g : PyData → Rho → Option Rho) (ft : Rho → M Bool) (fe : Rho → M PyData) : Rho → M PyData := fun ρ => do
  let ds ← fi ρ
  let r ← compM g ft fe (wipeR ρ vs) ds
  pure (.list r)
/-- the reading of a comprehension, from the readings of its parts -/
theorem lc_read {fi : Rho → M (List PyData)} {vs : List Nat} {g : PyData → Rho → Option Rho} {ft : Rho → M Bool} {fe : Rho → M PyData} {σ : St} {H : Hp} {Q : VK} (hq : tQ X W Wx (listM fi vs g ft fe) σ H Q) :
    tLc (tQI X W Wx fi) (tQG X W vs g) (tQT X W W0 ft) (tQ X W W0 fe) vs σ H Q := by
  obtain ⟨xo, ρ, ω, G, r⟩ := hq
  refine ⟨xo, ρ, ω, G, RunP.mono (RunP.bind r) (fun ds ω1 r1 J H1 s1 t1 wk hz => ?_) fun _ _ _ e => e⟩
  intro D hD
  have G1 := G.step s1 t1
  have nD : ¬ W.ex D := not_ex_new G1 hD
  obtain ⟨Gh, Y, walk, kG, yl⟩ := wk
  have tell : ∀ (r : List PyData) (ω2 : Om) (H' : Hp) (v : V), RunP ((pure (PyData.list r) : M PyData) ω2) (fun d ω' => ∀ v H', Step W H H' → W.St ω' H' → Dt X.K xo H' d v → Q v H') (ExP X W Wx xo σ H) → Step W H1 H' → W.St ω2 H' → Dt X.K xo H' (.list r) v → Q v H' := fun r ω2 H' v h s t d => h v H' (s1.trans s) t d
  refine lc_it walk (fun i H' => ∃ (ω' : Om) (done : List PyData) (dv : List V), H' D = some (.lst dv) ∧ DtL X.K (more xo D) H' done dv ∧ done.length ≤ i ∧ Good X.K W (more xo D) H' (wipe σ vs) (wipeR ρ vs) ω' ∧ Step W H1 H' ∧
      RunP (compM g ft fe (wipeR ρ vs) (ds.drop i) ω') (fun rest ω2 => RunP ((pure (PyData.list (done ++ rest)) : M PyData) ω2) (fun d ω' => ∀ v H', Step W H H' → W.St ω' H' → Dt X.K xo H' d v → Q v H') (ExP X W Wx xo σ H)) (ExP X W Wx xo σ H)) ?_ (fun i H' _ ⟨_, _, _, _, _, _, _, s, _⟩ => kG _ H' (s.ev Grown.refl)) ?_ ?_
  · have st0 : W.St ω1 (upd H1 D (.lst [])) := St.same t1 (same_upd hD)
    have sp0 : Step W H1 (upd H1 D (.lst [])) := Step.upd hD
    refine ⟨ω1, [], [], upd_same, .nil, Nat.le_refl _, (G1.fresh hD sp0 (by rw [upd_same]; exact fun z => nomatch z) st0).wipe vs, sp0, ?_⟩
    exact RunP.bind r1
  · rintro i x H2 H3 hi ⟨ω2, done, dv, eD, lD, hl, G2, s2, r2⟩ hy
    obtain ⟨sm, d, ed, hd⟩ := yl i (more xo D) H2 x H3 hi (s2.ev (Grown.more hD)) hy
    have s3 : Step W H1 H3 := s2.trans (Step.of_same sm)
    have st3 : W.St ω2 H3 := St.same G2.st sm
    have hdrop : ds.drop i = d :: ds.drop (i + 1) := by
      have := List.getElem?_eq_some_iff.mp ed
      obtain ⟨h1, h2⟩ := this
      rw [List.drop_eq_getElem_cons h1, h2]
    rw [hdrop] at r2
    have r3 : RunP ((get? (g d (wipeR ρ vs)) >>= fun ρ' => safe (ft ρ') >>= fun b => if b then (safe (fe ρ') >>= fun y => compM g ft fe (wipeR ρ vs) (ds.drop (i + 1)) >>= fun r => pure (y :: r)) else compM g ft fe (wipeR ρ vs) (ds.drop (i + 1))) ω2) _ _ := r2
    obtain ⟨ρ', eg, r4⟩ := (RunP.bind r3).get
    have G3 : Good X.K W (more xo D) H3 (wipe σ vs) (wipeR ρ vs) ω2 := G2.step (Step.of_same sm) st3
    have hd' : Dt X.K (more xo D) H3 d x := hd
    refine ⟨more xo D, wipeR ρ vs, ω2, d, ρ', G3, hd', eg, fun σ2 o2 G4 => ⟨?_, ?_⟩⟩
    · rw [o2.wipe]
      exact (Off.wipe (⟨by rw [wipe_length], fun j hj => by rw [wipe_get, if_neg hj]⟩ : Off vs σ (wipe σ vs)))
    · refine ⟨more xo D, ρ', ω2, G4, RunP.mono (safe.inv (E' := ExP X W W0 (more xo D) σ2 H3) (RunP.bind r4)) (fun b ω3 r5 H5 s5 t5 => ?_) fun _ _ _ e => e⟩
      have s15 : Step W H1 H5 := s3.trans s5
      have eD5 : H5 D = some (.lst dv) := s5.keep _ _ (sm _ _ eD) (.inl nD) fun _ z => nomatch z
      cases b with
      | false =>
        have r5 : RunP (compM g ft fe (wipeR ρ vs) (ds.drop (i + 1)) ω3) _ _ := r5
        refine iteF ?_
        exact ⟨ω3, done, dv, eD5, (lD.same sm).step G3.exo s5, Nat.le_succ_of_le hl, G3.step s5 t5, s15, r5⟩
      | true =>
        have r5 : RunP ((safe (fe ρ') >>= fun y => compM g ft fe (wipeR ρ vs) (ds.drop (i + 1)) >>= fun r => pure (y :: r)) ω3) _ _ := r5
        refine iteT ?_
        refine ⟨more xo D, ρ', ω3, G4.step s5 t5, RunP.mono (safe.inv (E' := ExP X W W0 (more xo D) σ2 H5) (RunP.bind r5)) (fun y ω4 r6 v H6 s6 t6 q6 => ?_) fun _ _ _ e => e⟩
        have eD6 : H6 D = some (.lst dv) := s6.keep _ _ eD5 (.inl nD) fun _ z => nomatch z
        have s56 := s5.trans s6
        have s16 : Step W H1 H6 := s3.trans s56
        have l6 : DtL X.K (more xo D) H6 done dv := (lD.same sm).step G3.exo s56
        refine ⟨dv, eD6, ?_, ω4, done ++ [y], dv ++ [v], upd_same, ?_, by rw [List.length_append]; exact Nat.succ_le_succ hl, ?_, s16.at_new hD, ?_⟩
        · rw [l6.length, sizeLine_eq]
          unfold line at hz
          omega
        · refine DtL.carry (H := H6) (fun _ z => z) (fun a o e n _ => ?_) _ _ (l6.app (.cons q6 .nil))
          rw [upd_ne]
          · exact e
          · rintro rfl
            rcases n with n | n
            · exact n (.inr rfl)
            · rw [eD6] at e; cases e; exact n
        · have st7 : W.St ω4 (upd H6 D (.lst (dv ++ [v]))) := St.upd t6 eD6 (fun _ z => nomatch z) lst_not_code nD
          exact (G1.fresh hD (s16.at_new hD) (by rw [upd_same]; exact fun z => nomatch z) st7).wipe vs
        · have r7 := RunP.bind r6
          refine RunP.mono r7 (fun rest ω5 h => ?_) fun _ _ _ e => e
          have h' := RunP.ret h
          rw [List.append_assoc]
          exact h'
  · rintro H2 ⟨ω2, done, dv, eD, lD, hl, G2, s2, r2⟩
    rw [List.drop_length] at r2
    have r3 := RunP.ret (a := []) (show RunP ((pure [] : M (List PyData)) ω2) _ _ from r2)
    rw [List.append_nil] at r3
    refine tell done ω2 H2 (.ref D) r3 s2 G2.st ?_
    simp only [Dt]
    exact ⟨D, dv, rfl, .of (fun z => G1.tr D z hD) eD, lD.less⟩
theorem qe_lc {elt tg iter : Expr} {ifs : List Expr} {scope : Scope} {own : List (Str × Nat)} {pos : Pos} {fi : Rho → M (List PyData)} {g : PyData → Rho → Option Rho} {ft : Rho → M Bool} {fe : Rho → M PyData}
    (hc : X.calm = true) (hN : X.N.Nodup) (hi : PI X tg iter (tQI X W Wx fi)) (ok : BlkOk X.N X.env.scope scope own)
    (hg : ∀ (s : Shared) (H : Hp) (C : Addr) (cl : List (Str × Addr)) (fp : List Addr), PG (X.blk s H scope (compEnvC scope cl C X.env) fp) tg (tQG X W (own.map (·.2)) g))
    (ht : ∀ (s : Shared) (H : Hp) (C : Addr) (cl : List (Str × Addr)) (fp : List Addr), PTs (X.blk s H scope (compEnvC scope cl C X.env) fp) ifs (tQT X W W0 ft))
    (he : ∀ (s : Shared) (H : Hp) (C : Addr) (cl : List (Str × Addr)) (fp : List Addr), PE (X.blk s H scope (compEnvC scope cl C X.env) fp) elt (tQ X W W0 fe)) (hs : ∀ x, foldedSetIterable iter X.env x = pure x := by intro _; rfl) :
    PE X (.ListComp elt [⟨tg, iter, ifs, 0⟩] scope pos) (tQ X W Wx (listM fi (own.map (·.2)) g ft fe)) :=
  PE.weak (pe_lc hc hN hi ok hg ht he hs) fun _ _ _ h => lc_read h
theorem qts_nil : PTs X [] (tQT X W Wx fun _ => pure true) := ⟨fun pins s σ H Q I h => by
  obtain ⟨xo, ρ, ω, g, r⟩ := h
  exact pts_nil.run pins s σ H Q I (r H (Step.refl W H) g.st)⟩
theorem qts_one {c : Expr} {f : Rho → M Bool} (h : PT X c (tQT X W Wx f)) : PTs X [c] (tQT X W Wx f) := pts_one h
end
end Q

set_option maxHeartbeats 4000000
namespace Q
open PySem L2

/-! ### statements -/
inductive Fw where
  | nx (ρ : Rho)
  | rt (d : PyData)
  | bk (ρ : Rho)
  | ct (ρ : Rho)
/-- lists that belong to a name become plain data -/
def relE : Option Ent → Option Ent
  | some (.own ds) => some (.dat (.list ds))
  | e => e
def relR (is : List Nat) (ρ : Rho) : Rho := match is with
  | [] => ρ
  | i :: is => let ρ' := relR is ρ
    match ρ'[i]? with
    | some (some (.own ds)) => ρ'.set i (some (.dat (.list ds)))
    | _ => ρ'
section
variable (X : Cx) (W : Wd) (Wx : WX)
def FlP (xo : Addr → Prop) (H : Hp) (D : Ends) : Fw → Om → Prop
  | .nx ρ', o => ∀ σ' H' xo', Ev W xo H xo' H' → Good X.K W xo' H' σ' ρ' o → D.nx σ' H'
  | .bk ρ', o => ∀ σ' H' xo', Ev W xo H xo' H' → Good X.K W xo' H' σ' ρ' o → D.bk σ' H'
  | .ct ρ', o => ∀ σ' H' xo', Ev W xo H xo' H' → Good X.K W xo' H' σ' ρ' o → D.ct σ' H'
  | .rt d, o => ∀ v H' xo', Ev W xo H xo' H' → W.St o H' → Dt X.K W.b H' d v → D.rt v H'
def ExS (xo : Addr → Prop) (H : Hp) (c : Str) (fs : List (Str × PyData)) (o : Om) : Prop :=
  ∀ cls dd σ' H' xo', ExcIs X W.b c fs cls dd H' → Ev W xo H xo' H' → W.St o H' → Wx cls (some dd) σ' H'
def tQS (f : Rho → M Fw) : TS := fun D σ H => ∃ xo ρ ω, Good X.K W xo H σ ρ ω ∧ RunP (f ρ ω) (FlP X W xo H D) (ExS X W Wx xo H)
end
section
variable {K : PySem.W.Frag} {W : Wd} {xo xo' : Addr → Prop} {H H1 : Hp} {σ : St} {ρ : Rho} {ω ω' : Om}
/-- one list is let go -/
theorem Good.rel1 (g : Good K W xo H σ ρ ω) {i : Nat} {ds : List PyData} (hi : ρ[i]? = some (some (.own ds))) : ∃ xo', (∀ a, xo' a → xo a) ∧ Good K W xo' H σ (ρ.set i (some (.dat (.list ds)))) ω := by
  obtain ⟨v, hv, p, vs, ev, xp, np, hp, l⟩ := g.slot i _ hi
  subst ev
  have hl : i < ρ.length := (List.getElem?_eq_some_iff.mp hi).1
  have sub : ∀ a, (xo a ∧ a ≠ p) → xo a := fun a z => z.1
  refine ⟨fun a => xo a ∧ a ≠ p, sub, fun j e q => ?_, g.st, g.eb, fun a z => ⟨g.sub a z, fun e => np (e ▸ z)⟩, fun a z => g.tr a z.1, ⟨g.ev.keep, g.ev.new, fun a z => g.ev.grown a z.1⟩, fun j k es us v h1 h2 h3 h4 => ?_⟩
  · by_cases hj : i = j
    · subst hj
      rw [List.getElem?_set_self hl] at q
      cases q
      refine ⟨_, hv, ?_⟩
      show Dt K _ H (.list ds) (.ref p)
      simp only [Dt]
      exact ⟨p, vs, rfl, .of (fun z => z.2 rfl) hp, l.carry sub fun a o e _ _ => e⟩
    · rw [List.getElem?_set_ne hj] at q
      obtain ⟨w, hw, ok⟩ := g.slot j e q
      refine ⟨w, hw, ?_⟩
      cases e with
      | dat d => exact Dt.carry sub (fun a o e _ _ => e) d w ok
      | own es =>
        obtain ⟨p2, vs2, e2, x2, n2, h2, l2⟩ := ok
        refine ⟨p2, vs2, e2, ⟨x2, fun z => ?_⟩, n2, h2, l2.carry sub fun a o e _ _ => e⟩
        subst e2 z
        exact hj (g.apart i j ds es _ hi q hv hw)
      | mach => exact ok
      | clo => exact ok
      | exc _ _ => trivial
  · have nj : ∀ {j : Nat} {es : List PyData}, (ρ.set i (some (.dat (.list ds))))[j]? = some (some (.own es)) → i ≠ j := fun {j es} q e => by
      subst e
      rw [List.getElem?_set_self hl] at q
      cases q
    have n1 := nj h1
    have n2 := nj h2
    rw [List.getElem?_set_ne n1] at h1
    rw [List.getElem?_set_ne n2] at h2
    exact g.apart j k es us v h1 h2 h3 h4
theorem Good.rel (is : List Nat) (g : Good K W xo H σ ρ ω) : ∃ xo', (∀ a, xo' a → xo a) ∧ Good K W xo' H σ (relR is ρ) ω := by
  induction is with
  | nil => exact ⟨xo, fun _ z => z, g⟩
  | cons i is ih =>
    obtain ⟨xo1, s1, g1⟩ := ih
    have e0 : relR (i :: is) ρ = match (relR is ρ)[i]? with | some (some (.own ds)) => (relR is ρ).set i (some (.dat (.list ds))) | _ => relR is ρ := rfl
    rw [e0]
    cases e : (relR is ρ)[i]? with
    | none => exact ⟨xo1, s1, g1⟩
    | some x =>
      cases x with
      | none => exact ⟨xo1, s1, g1⟩
      | some en =>
        cases en with
        | own ds =>
          obtain ⟨xo2, s2, g2⟩ := g1.rel1 e
          exact ⟨xo2, fun a z => s1 a (s2 a z), g2⟩
        | dat d => exact ⟨xo1, s1, g1⟩
        | mach => exact ⟨xo1, s1, g1⟩
        | clo => exact ⟨xo1, s1, g1⟩
        | exc c f => exact ⟨xo1, s1, g1⟩
theorem Dt.base (g : Good K W xo H σ ρ ω) {d : PyData} {v : V} (h : Dt K xo H1 d v) : Dt K W.b H1 d v := h.carry (fun a z => g.sub a z) fun a o e _ _ => e
end
section
variable {X : Cx} {W : Wd} {Wx : WX}
/-- an exception of an expression, wanted of a statement -/
theorem ExS.exp {xo xo1 : Addr → Prop} {H : Hp} {σ : St} {c : Str} {fs : List (Str × PyData)} {o : Om} (sub : ∀ a, W.b a → xo1 a) (h : ExS X W Wx xo H c fs o) : ExP X W Wx xo1 σ H c fs o := by
  intro cls dd H' x s t
  refine h cls dd σ H' xo ?_ (s.ev Grown.refl) t
  obtain ⟨hc, gs, e1, e2, e3⟩ := x
  exact ⟨hc, gs, e1, e2, e3.carry sub fun a o e _ _ => e⟩
theorem ExS.step {xo xo' : Addr → Prop} {H H1 : Hp} {c : Str} {fs : List (Str × PyData)} {o : Om} (s : Ev W xo H xo' H1) (h : ExS X W Wx xo H c fs o) : ExS X W Wx xo' H1 c fs o :=
  fun cls dd σ' H' x2 x t q => h cls dd σ' H' x2 x (s.trans t) q
theorem FlP.step {xo xo' : Addr → Prop} {H H1 : Hp} {D : Ends} {fl : Fw} {o : Om} (s : Ev W xo H xo' H1) (h : FlP X W xo H D fl o) : FlP X W xo' H1 D fl o := by
  cases fl with
  | nx ρ => exact fun σ' H' x2 s2 g => h σ' H' x2 (s.trans s2) g
  | bk ρ => exact fun σ' H' x2 s2 g => h σ' H' x2 (s.trans s2) g
  | ct ρ => exact fun σ' H' x2 s2 g => h σ' H' x2 (s.trans s2) g
  | rt d => exact fun v H' x2 s2 t q => h v H' x2 (s.trans s2) t q
/-- an expression within a statement: run with the lists in is let go -/
theorem tQS.expr {f : Rho → M PyData} {k : PyData → M Fw} {is : List Nat} {D : Ends} {σ : St} {H : Hp} {xo : Addr → Prop} {ρ : Rho} {ω : Om} (g : Good X.K W xo H σ ρ ω)
    (r : RunP ((f (relR is ρ) >>= k) ω) (FlP X W xo H D) (ExS X W Wx xo H)) :
    tQ X W Wx f σ H fun x H1 => ∃ d ω1 xo1, Step W H H1 ∧ (∀ a, xo1 a → xo a) ∧ Good X.K W xo1 H1 σ (relR is ρ) ω1 ∧ Good X.K W xo H1 σ ρ ω1 ∧ Dt X.K xo1 H1 d x ∧ RunP (k d ω1) (FlP X W xo H D) (ExS X W Wx xo H) := by
  obtain ⟨xo1, s1, g1⟩ := g.rel is
  exact ⟨xo1, relR is ρ, ω, g1, RunP.mono (RunP.bind r) (fun d o z v H1 s t q => ⟨d, o, xo1, s, s1, g1.step s t, g.step s t, q, z⟩) fun c fs o z => z.exp g1.sub⟩
theorem tQS.test {f : Rho → M Bool} {k : Bool → M Fw} {is : List Nat} {D : Ends} {σ : St} {H : Hp} {xo : Addr → Prop} {ρ : Rho} {ω : Om} (g : Good X.K W xo H σ ρ ω)
    (r : RunP ((f (relR is ρ) >>= k) ω) (FlP X W xo H D) (ExS X W Wx xo H)) :
    tQT X W Wx f σ H fun b H1 => ∃ ω1, Step W H H1 ∧ Good X.K W xo H1 σ ρ ω1 ∧ RunP (k b ω1) (FlP X W xo H D) (ExS X W Wx xo H) := by
  obtain ⟨xo1, s1, g1⟩ := g.rel is
  exact ⟨xo1, relR is ρ, ω, g1, RunP.mono (RunP.bind r) (fun d o z H1 s t => ⟨o, s, g.step s t, z⟩) fun c fs o z => z.exp g1.sub⟩
/-- the names behind an expression: the lists that went into data that hold objects are let go -/
def after (is : List Nat) (d : PyData) (ρ : Rho) : Rho := if flat d then ρ else relR is ρ
theorem Good.after {is : List Nat} {d : PyData} {x : V} {H1 : Hp} {σ : St} {ρ : Rho} {ω : Om} {xo xo1 : Addr → Prop} (s : ∀ a, xo1 a → xo a) (g1 : Good X.K W xo1 H1 σ (relR is ρ) ω) (g : Good X.K W xo H1 σ ρ ω) (h : Dt X.K xo1 H1 d x) :
    ∃ xo2, (∀ a, xo2 a → xo a) ∧ Good X.K W xo2 H1 σ (Q.after is d ρ) ω ∧ Dt X.K xo2 H1 d x := by
  unfold Q.after
  by_cases e : flat d = true
  · rw [if_pos e]
    exact ⟨xo, fun _ z => z, g, h.flat e⟩
  · rw [if_neg e]
    exact ⟨xo1, s, g1, h⟩

/-! blocks -/
def seqS (f k : Rho → M Fw) : Rho → M Fw := fun ρ => do
  let fl ← f ρ
  match fl with
  | .nx ρ' => k ρ'
  | fl => pure fl
theorem qss_nil : PSs X [] (tQS X W Wx fun ρ => pure (.nx ρ)) := by
  refine PSs.weak pss_nil fun D σ H h => ?_
  obtain ⟨xo, ρ, ω, g, r⟩ := h
  exact (RunP.ret r) σ H xo Ev.refl g
theorem seq_read {f k : Rho → M Fw} {D : Ends} {σ : St} {H : Hp} (h : tQS X W Wx (seqS f k) D σ H) : tSeq (tQS X W Wx f) (tQS X W Wx k) D σ H := by
  obtain ⟨xo, ρ, ω, g, r⟩ := h
  refine ⟨xo, ρ, ω, g, RunP.mono (RunP.bind r) (fun fl o z => ?_) fun _ _ _ e => e⟩
  cases fl with
  | nx ρ' => exact fun σ' H' xo' s g' => ⟨xo', ρ', o, g', RunP.mono (show RunP (k ρ' o) _ _ from z) (fun fl o q => q.step s) fun c fs o q => q.step s⟩
  | rt d => exact fun v H' xo' s t q => (RunP.ret z) v H' xo' s t q
  | bk ρ' => exact fun σ' H' xo' s g' => (RunP.ret z) σ' H' xo' s g'
  | ct ρ' => exact fun σ' H' xo' s g' => (RunP.ret z) σ' H' xo' s g'
theorem qss_cons {st : Stmt} {rest : List Stmt} {f k : Rho → M Fw} (h1 : PS X st (tQS X W Wx f)) (h2 : PSs X rest (tQS X W Wx k)) : PSs X (st :: rest) (tQS X W Wx (seqS f k)) :=
  PSs.weak (pss_cons h1 h2) fun _ _ _ h => seq_read h
theorem qss_one {st : Stmt} {f : Rho → M Fw} (h1 : PS X st (tQS X W Wx f)) : PSs X [st] (tQS X W Wx f) := pss_one h1
theorem qs_pass {pos : Pos} : PS X (.Pass pos) (tQS X W Wx fun ρ => pure (.nx ρ)) := by
  refine PS.weak ps_pass fun D σ H h => ?_
  obtain ⟨xo, ρ, ω, g, r⟩ := h
  exact (RunP.ret r) σ H xo Ev.refl g
theorem qs_break {pos : Pos} : PS X (.Break pos) (tQS X W Wx fun ρ => pure (.bk ρ)) := by
  refine PS.weak ps_break fun D σ H h => ?_
  obtain ⟨xo, ρ, ω, g, r⟩ := h
  exact (RunP.ret r) σ H xo Ev.refl g
theorem qs_continue {pos : Pos} : PS X (.Continue pos) (tQS X W Wx fun ρ => pure (.ct ρ)) := by
  refine PS.weak ps_continue fun D σ H h => ?_
  obtain ⟨xo, ρ, ω, g, r⟩ := h
  exact (RunP.ret r) σ H xo Ev.refl g
/-- return e -/
def retM (is : List Nat) (f : Rho → M PyData) : Rho → M Fw := fun ρ => do
  let d ← f (relR is ρ)
  pure (.rt d)
theorem qs_ret {e : Expr} {f : Rho → M PyData} {pos : Pos} (is : List Nat) (h : PE X e (tQ X W Wx f)) : PS X (.Return (some e) pos) (tQS X W Wx (retM is f)) := by
  refine PS.weak (ps_ret h) fun D σ H hq => ?_
  obtain ⟨xo, ρ, ω, g, r⟩ := hq
  refine (tQS.expr g r).mono fun x H1 ⟨d, ω1, xo1, s, sb, g1, _, q, z⟩ => ?_
  exact (RunP.ret z) x H1 xo (s.ev Grown.refl) g1.st (Dt.base g1 q)
/-- if -/
def ifM (is : List Nat) (c : Rho → M Bool) (f k : Rho → M Fw) : Rho → M Fw := fun ρ => do
  let b ← c (relR is ρ)
  if b then f ρ else k ρ
theorem qs_if {c : Expr} {a b : List Stmt} {fc : Rho → M Bool} {f k : Rho → M Fw} {pos : Pos} (is : List Nat) (hc : PT X c (tQT X W Wx fc)) (ha : PSs X a (tQS X W Wx f)) (hb : PSs X b (tQS X W Wx k)) : PS X (.If c a b pos) (tQS X W Wx (ifM is fc f k)) := by
  refine PS.weak (ps_if hc ha hb) fun D σ H hq => ?_
  obtain ⟨xo, ρ, ω, g, r⟩ := hq
  refine (tQS.test g r).mono fun b H1 ⟨ω1, s, g1, z⟩ => ?_
  cases b with
  | true =>
    refine iteT ⟨xo, ρ, ω1, g1, RunP.mono (show RunP (f ρ ω1) _ _ from z) (fun fl o q => q.step (s.ev Grown.refl)) fun c fs o q => q.step (s.ev Grown.refl)⟩
  | false =>
    refine iteF ⟨xo, ρ, ω1, g1, RunP.mono (show RunP (k ρ ω1) _ _ from z) (fun fl o q => q.step (s.ev Grown.refl)) fun c fs o q => q.step (s.ev Grown.refl)⟩
/-- target = e -/
def asgM (is : List Nat) (f : Rho → M PyData) (g : PyData → Rho → Option Rho) : Rho → M Fw := fun ρ => do
  let d ← f (relR is ρ)
  let ρ' ← get? (g d (after is d ρ))
  pure (.nx ρ')
theorem asg_read {is ps : List Nat} {f : Rho → M PyData} {k : PyData → Rho → Option Rho} {D : Ends} {σ : St} {H : Hp} (h : tQS X W Wx (asgM is f k) D σ H) : tAsg (tQ X W Wx f) (tQG X W ps k) D σ H := by
  obtain ⟨xo, ρ, ω, g, r⟩ := h
  refine (tQS.expr g r).mono fun x H1 ⟨d, ω1, xo1, s, sb, g1, g0, q, z⟩ => ?_
  obtain ⟨xo2, sb2, g2, q2⟩ := Good.after sb g1 g0 q
  obtain ⟨ρ', e, z2⟩ := (RunP.bind z).get
  refine ⟨xo2, after is d ρ, ω1, d, ρ', g2, q2, e, fun σ' off g3 => ?_⟩
  exact (RunP.ret z2) σ' H1 xo2 (s.ev fun a z => .inl (sb2 a z)) g3
theorem name_read {i : Nat} {D : Ends} {σ : St} {H : Hp} {te : TE} (hl : i < σ.length) (h : tAsg te (tQG X W [i] (setD i)) D σ H) (mono : ∀ {Q Q' : VK}, te σ H Q → (∀ v H', Q v H' → Q' v H') → te σ H Q') : tAsg te (gName i) D σ H :=
  mono h fun v H1 ⟨xo, ρ, ω, d, ρ', g, hd, e, k⟩ => by
    cases e
    exact k _ (Off.set (List.mem_singleton.mpr rfl)) (g.set hl hd)
theorem qs_asg {tg e : Expr} {f : Rho → M PyData} {k : PyData → Rho → Option Rho} {ps : List Nat} {pos : Pos} (is : List Nat) (he : PE X e (tQ X W Wx f)) (hg : PG X tg (tQG X W ps k)) (hs : swapsWithSole [tg] e pos.line X.env = pure false := by rfl) (hw : swappedStores [tg] e X.env = pure none := by rfl)
    (h1 : (assignEach [tg] X.env).map (·.2) = [assign tg X.env] := by rfl) : PS X (.Assign [tg] e pos) (tQS X W Wx (asgM is f k)) :=
  PS.weak (ps_asg he hg hs hw h1) fun _ _ _ h => asg_read h
/-- name = e -/
theorem qs_set {i : Nat} {x : Str} {e : Expr} {f : Rho → M PyData} {pos pos' : Pos} (is : List Nat) (hN : X.N.Nodup) (hi : X.N[i]? = some x) (hx : Loc X.env.scope x) (he : PE X e (tQ X W Wx f)) (hs : swapsWith e (some (.Name x pos')) pos.line X.env = pure false := by rfl) (hf : X.fn x = true ∨ X.env.scope.names.lookup x = some .local := by first | exact .inl rfl | exact .inr rfl | assumption) :
    PS X (.Assign [.Name x pos'] e pos) (tQS X W Wx (asgM is f (setD i))) := by
  refine ⟨fun pins s σ H D I h => ?_⟩
  have hl : i < σ.length := by rw [I.len]; exact (List.getElem?_eq_some_iff.mp hi).1
  exact (ps_set hN hi hx he hs hf).run pins s σ H D I (name_read hl (asg_read h) fun q w => q.mono w)
/-- name = [.. for ..] -/
theorem qs_setLc {i : Nat} {y : Str} {py : Pos} {elt tg iter : Expr} {ifs : List Expr} {scope : Scope} {own : List (Str × Nat)} {pos spos : Pos} {fi : Rho → M (List PyData)} {g : PyData → Rho → Option Rho} {ft : Rho → M Bool} {fe : Rho → M PyData} (is : List Nat) (hc : X.calm = true) (hN : X.N.Nodup) (hy : X.N[i]? = some y) (hyl : X.env.scope.names.lookup y = some .local)
    (hsw : swapsWith (.ListComp elt [⟨tg, iter, ifs, 0⟩] scope pos) (some (.Name y py)) spos.line X.env = pure true) (hi : PI X tg iter (tQI X W Wx fi)) (ok : BlkOk X.N X.env.scope scope own)
    (hg : ∀ (s : Shared) (H : Hp) (C : Addr) (cl : List (Str × Addr)) (fp : List Addr), PG (X.blk s H scope (compEnvC scope cl C X.env) fp) tg (tQG X W (own.map (·.2)) g))
    (ht : ∀ (s : Shared) (H : Hp) (C : Addr) (cl : List (Str × Addr)) (fp : List Addr), PTs (X.blk s H scope (compEnvC scope cl C X.env) fp) ifs (tQT X W W0 ft))
    (he : ∀ (s : Shared) (H : Hp) (C : Addr) (cl : List (Str × Addr)) (fp : List Addr), PE (X.blk s H scope (compEnvC scope cl C X.env) fp) elt (tQ X W W0 fe)) (hs : ∀ x, foldedSetIterable iter X.env x = pure x := by intro _; rfl) :
    PS X (.Assign [.Name y py] (.ListComp elt [⟨tg, iter, ifs, 0⟩] scope pos) spos) (tQS X W Wx (asgM is (listM fi (own.map (·.2)) g ft fe) (setD i))) := by
  refine ⟨fun pins s σ H D I h => ?_⟩
  have hl : i < σ.length := by rw [I.len]; exact (List.getElem?_eq_some_iff.mp hy).1
  refine (ps_setLc hc hN hy hyl hsw hi ok hg ht he hs).run pins s σ H D I ?_
  have h1 := name_read (te := tQ X W Wx (listM fi (own.map (·.2)) g ft fe)) hl (asg_read h) fun q w => q.mono w
  exact lc_read h1
/-- an expression whose value is dropped -/
def dropM (is : List Nat) (f : Rho → M PyData) : Rho → M Fw := fun ρ => do
  let _ ← f (relR is ρ)
  pure (.nx ρ)
theorem qs_expr {e : Expr} {f : Rho → M PyData} {pos : Pos} (is : List Nat) (he : PE X e (tQ X W Wx f)) (hs : swapsWith e none pos.line X.env = pure false := by rfl) : PS X (.Expr e pos) (tQS X W Wx (dropM is f)) := by
  refine PS.weak (ps_expr he hs) fun D σ H h => ?_
  obtain ⟨xo, ρ, ω, g, r⟩ := h
  refine (tQS.expr g r).mono fun x H1 ⟨d, ω1, xo1, s, sb, g1, g0, q, z⟩ => ?_
  exact (RunP.ret z) σ H1 xo (s.ev Grown.refl) g0
/-! lists that belong to a name -/
theorem Good.own {K : PySem.W.Frag} {xo : Addr → Prop} {H : Hp} {σ : St} {ρ : Rho} {ω : Om} {i : Nat} {p : Addr} {vs : List V} {ds : List PyData} (g : Good K W xo H σ ρ ω) (hi : i < σ.length) (hp : H p = none) (l : DtL K xo H ds vs) :
    Good K W (more xo p) (L2.upd H p (.lst vs)) (σ.set i (some (.ref p))) (ρ.set i (some (.own ds))) ω := by
  have g' : Good K W (more xo p) (L2.upd H p (.lst vs)) σ ρ ω := g.fresh hp (Step.upd hp) (by rw [upd_same]; exact fun z => nomatch z) (St.same g.st (same_upd hp))
  have old : ∀ {j : Nat} {es : List PyData} {v : V}, ρ[j]? = some (some (.own es)) → σ[j]? = some (some v) → v ≠ .ref p := fun {j es v} h1 h2 e => by
    obtain ⟨w, hw, q, us, ew, _, _, hq, _⟩ := g.slot j _ h1
    rw [h2] at hw
    cases hw
    rw [e] at ew
    cases ew
    rw [hp] at hq; cases hq
  have inner : ∀ {j : Nat} {es : List PyData}, (ρ.set i (some (.own ds)))[j]? = some (some (.own es)) → i ≠ j → ρ[j]? = some (some (.own es)) := fun {j es} q e => by rw [List.getElem?_set_ne e] at q; exact q
  refine ⟨fun j e q => ?_, g'.st, g.eb, g'.sub, g'.tr, g'.ev, fun j k es us u h1 h2 h3 h4 => ?_⟩
  · by_cases hj : i = j
    · subst hj
      have hl : i < ρ.length := by
        have := (List.getElem?_eq_some_iff.mp q).1
        rw [List.length_set] at this; exact this
      rw [List.getElem?_set_self hl] at q
      cases q
      exact ⟨_, List.getElem?_set_self hi, p, vs, rfl, .inr rfl, fun z => g.tr p (g.sub p z) hp, upd_same, (DtL.more hp ds vs l).same (same_upd hp)⟩
    · rw [List.getElem?_set_ne hj] at q
      obtain ⟨u, a, b⟩ := g'.slot j e q
      exact ⟨u, by rw [List.getElem?_set_ne hj]; exact a, b⟩
  · by_cases hj : i = j
    · by_cases hk : i = k
      · rw [← hj, ← hk]
      · subst hj
        rw [List.getElem?_set_self hi] at h3
        cases h3
        rw [List.getElem?_set_ne hk] at h4
        exact (old (inner h2 hk) h4 rfl).elim
    · by_cases hk : i = k
      · subst hk
        rw [List.getElem?_set_self hi] at h4
        cases h4
        rw [List.getElem?_set_ne hj] at h3
        exact (old (inner h1 hj) h3 rfl).elim
      · rw [List.getElem?_set_ne hj] at h3
        rw [List.getElem?_set_ne hk] at h4
        exact g.apart j k es us u (inner h1 hj) (inner h2 hk) h3 h4
theorem own_at {K : PySem.W.Frag} {xo : Addr → Prop} {H : Hp} {σ : St} {ρ : Rho} {ω : Om} {i : Nat} {ds : List PyData} (g : Good K W xo H σ ρ ω) (hi : ρ[i]? = some (some (.own ds))) : ∃ p vs, σ[i]? = some (some (.ref p)) ∧ xo p ∧ ¬ W.b p ∧ H p = some (.lst vs) ∧ DtL K xo H ds vs := by
  obtain ⟨v, hv, p, vs, e, a, b, c, d⟩ := g.slot i _ hi
  rw [e] at hv
  exact ⟨p, vs, hv, a, b, c, d⟩
/-- name = [a, b, ..], the list the name's own -/
def newM (is : List Nat) (fs : Rho → M (List PyData)) (i : Nat) : Rho → M Fw := fun ρ => do
  let ds ← fs (relR is ρ)
  need (decide (ds.length ≤ line))
  pure (.nx ((after is (.list ds) ρ).set i (some (.own ds))))
theorem qs_new {i : Nat} {x : Str} {es : List Expr} {fs : Rho → M (List PyData)} {pos pos' lpos : Pos} (is : List Nat) (hN : X.N.Nodup) (hi : X.N[i]? = some x) (hx : Loc X.env.scope x) (h : PA X es (tQA X W Wx fs)) (hs : swapsWith (.List es lpos) (some (.Name x pos')) pos.line X.env = pure false := by rfl) (hf : X.fn x = true ∨ X.env.scope.names.lookup x = some .local := by first | exact .inl rfl | exact .inr rfl | assumption) :
    PS X (.Assign [.Name x pos'] (.List es lpos) pos) (tQS X W Wx (newM is fs i)) := by
  refine ⟨fun pins s σ H D I hq => ?_⟩
  have hl : i < σ.length := by rw [I.len]; exact (List.getElem?_eq_some_iff.mp hi).1
  refine (ps_set hN hi hx (pe_lst h) hs hf).run pins s σ H D I ?_
  obtain ⟨xo, ρ, ω, g, r⟩ := hq
  obtain ⟨xo1, s1, g1⟩ := g.rel is
  refine ⟨xo1, relR is ρ, ω, g1, RunP.mono (RunP.bind r) (fun ds o z vs H1 st t q => ?_) fun c fs o z => z.exp g1.sub⟩
  obtain ⟨e, z2⟩ := (RunP.bind z).need
  have e' : ds.length ≤ line := of_decide_eq_true e
  refine ⟨by rw [q.length]; exact small_line e', fun p hp => ?_⟩
  have ea : after is (.list ds) ρ = relR is ρ := rfl
  have z3 := RunP.ret z2
  rw [ea] at z3
  refine z3 _ _ (more xo1 p) ((st.trans (Step.upd hp)).ev ?_) ((g1.step st t).own hl hp q)
  intro a h
  rcases h with h | h
  · exact .inl (s1 a h)
  · rw [h]; exact .inr (st.new p hp)
end
end Q

set_option maxHeartbeats 4000000
namespace Q
open PySem L2

section
variable {K : PySem.W.Frag} {W : Wd} {xo xo' : Addr → Prop} {H H1 : Hp} {σ : St} {ρ : Rho} {ω ω' : Om}
theorem Ev.put {p : Addr} {us vs : List V} (e : Ev W xo H xo' H1) (xp : xo' p) (np : ¬ W.b p) (hp : H1 p = some (.lst us)) : Ev W xo H xo' (L2.upd H1 p (.lst vs)) := by
  refine ⟨fun a o h n t => ?_, fun a h => ?_, e.grown⟩
  · have h1 := e.keep a o h n t
    by_cases q : a = p
    · subst q
      exfalso
      rcases e.grown a xp with z | z
      · rcases n with n | n
        · exact n (.inr ⟨z, np⟩)
        · rw [hp] at h1; cases h1; exact n
      · rw [h] at z; cases z
    · rw [upd_ne q]; exact h1
  · by_cases q : a = p
    · rw [q, upd_same] at h; cases h
    · rw [upd_ne q] at h; exact e.new a h
/-- the list of a name's own is written: all else stands -/
theorem Good.put {i : Nat} {p : Addr} {ds es : List PyData} {vs us : List V} (g : Good K W xo H σ ρ ω) (hi : ρ[i]? = some (some (.own ds))) (hσ : σ[i]? = some (some (.ref p))) (xp : xo p) (np : ¬ W.b p) (hp : H p = some (.lst us)) (l : DtL K xo H es vs) :
    Good K W xo (L2.upd H p (.lst vs)) σ (ρ.set i (some (.own es))) ω := by
  have hl : i < ρ.length := (List.getElem?_eq_some_iff.mp hi).1
  have kp : ∀ a o, H a = some o → (¬ xo a ∨ stays o) → (∀ ps, o ≠ .tbl ps) → L2.upd H p (.lst vs) a = some o := fun a o e n _ => by
    rw [upd_ne]
    · exact e
    · rintro rfl
      rcases n with n | n
      · exact n xp
      · rw [hp] at e; cases e; exact n
  refine ⟨fun j e q => ?_, St.upd g.st hp (fun _ z => nomatch z) lst_not_code fun z => np (g.eb p z), g.eb, g.sub, fun a h => ?_, g.ev.put xp np hp, fun j k es' us' v h1 h2 h3 h4 => ?_⟩
  · by_cases hj : i = j
    · subst hj
      rw [List.getElem?_set_self hl] at q
      cases q
      exact ⟨_, hσ, p, vs, rfl, xp, np, upd_same, l.carry (fun _ z => z) kp⟩
    · rw [List.getElem?_set_ne hj] at q
      obtain ⟨w, hw, ok⟩ := g.slot j e q
      refine ⟨w, hw, ?_⟩
      cases e with
      | dat d => exact Dt.carry (fun _ z => z) kp d w ok
      | own es2 =>
        obtain ⟨p2, vs2, e2, x2, n2, h2, l2⟩ := ok
        refine ⟨p2, vs2, e2, x2, n2, ?_, l2.carry (fun _ z => z) kp⟩
        rw [upd_ne]
        · exact h2
        · rintro rfl
          subst e2
          exact hj (g.apart i j ds es2 _ hi q hσ hw)
      | mach => exact ok
      | clo => exact ok
      | exc _ _ => trivial
  · by_cases e : a = p
    · rw [e, upd_same]; exact fun z => nomatch z
    · rw [upd_ne e]; exact g.tr a h
  · have back : ∀ {j : Nat} {es2 : List PyData}, (ρ.set i (some (.own es)))[j]? = some (some (.own es2)) → ∃ es3, ρ[j]? = some (some (.own es3)) := fun {j es2} q => by
      by_cases hj : i = j
      · subst hj; exact ⟨_, hi⟩
      · rw [List.getElem?_set_ne hj] at q; exact ⟨_, q⟩
    obtain ⟨e1, q1⟩ := back h1
    obtain ⟨e2, q2⟩ := back h2
    exact g.apart j k e1 e2 v q1 q2 h3 h4
end
section
variable {X : Cx} {W : Wd} {Wx : WX}
/-- name.append(e), the list the name's own -/
def appM (i : Nat) (is : List Nat) (f : Rho → M PyData) : Rho → M Fw := fun ρ => match ρ[i]? with
  | some (some (.own _)) => do
    let d ← f (relR is ρ)
    match (after is d ρ)[i]? with
    | some (some (.own ds)) => do
      need (decide (ds.length < line))
      pure (.nx ((after is d ρ).set i (some (.own (ds ++ [d])))))
    | _ => bad
  | _ => bad
theorem appM.inv {i : Nat} {is : List Nat} {f : Rho → M PyData} {ρ : Rho} {ω : Om} {P : Fw → Om → Prop} {E : Str → List (Str × PyData) → Om → Prop} (h : RunP (appM i is f ρ ω) P E) :
    (∃ ds, ρ[i]? = some (some (.own ds))) ∧ RunP ((f (relR is ρ) >>= fun d => match (after is d ρ)[i]? with
      | some (some (.own ds)) => (need (decide (ds.length < line)) >>= fun _ => pure (Fw.nx ((after is d ρ).set i (some (.own (ds ++ [d]))))))
      | _ => bad) ω) P E := by
  unfold appM at h
  cases e : ρ[i]? with
  | none => rw [e] at h; exact h.elim
  | some x =>
    cases x with
    | none => rw [e] at h; exact h.elim
    | some en =>
      cases en with
      | own ds => rw [e] at h; exact ⟨⟨ds, rfl⟩, h⟩
      | dat d => rw [e] at h; exact h.elim
      | mach => rw [e] at h; exact h.elim
      | clo => rw [e] at h; exact h.elim
      | exc c f => rw [e] at h; exact h.elim
theorem ownM.inv {ρ : Rho} {i : Nat} {k : List PyData → M Fw} {ω : Om} {P : Fw → Om → Prop} {E : Str → List (Str × PyData) → Om → Prop}
    (h : RunP ((match ρ[i]? with | some (some (.own ds)) => k ds | _ => bad) ω) P E) : ∃ ds, ρ[i]? = some (some (.own ds)) ∧ RunP (k ds ω) P E := by
  cases e : ρ[i]? with
  | none => rw [e] at h; exact h.elim
  | some x =>
    cases x with
    | none => rw [e] at h; exact h.elim
    | some en =>
      cases en with
      | own ds => rw [e] at h; exact ⟨ds, rfl, h⟩
      | dat d => rw [e] at h; exact h.elim
      | mach => rw [e] at h; exact h.elim
      | clo => rw [e] at h; exact h.elim
      | exc c f => rw [e] at h; exact h.elim
theorem qs_app {i : Nat} {x : Str} {e : Expr} {f : Rho → M PyData} {px pa cpos spos : Pos} (is : List Nat) (hN : X.N[i]? = some x) (hv : Vis X.env.scope x) (he : PE X e (tQ X W Wx f))
    (hpe : ∀ {to : TE} {t : TA}, PE X (.Name x px) to → PA X [e] t → PE X (.Call (.Attribute (.Name x px) "append" pa) [e] [] cpos) (tBM X.K "list" rAppend to t))
    (hpa : PA X [e] (tQA X W Wx fun ρ => do let d ← f ρ; pure [d]))
    (hs : swapsWith (.Call (.Attribute (.Name x px) "append" pa) [e] [] cpos) none spos.line X.env = pure false := by rfl) (hd : (x == ("__debug__" : Str)) = false := by decide) (hcd : (x == ("__classdict__" : Str)) = false := by decide) :
    PS X (.Expr (.Call (.Attribute (.Name x px) "append" pa) [e] [] cpos) spos) (tQS X W Wx (appM i is f)) := by
  refine PS.weak (ps_expr (hpe (pe_var hN hv hd hcd) hpa) hs) fun D σ H h => ?_
  obtain ⟨xo, ρ, ω, g, r⟩ := h
  obtain ⟨⟨ds0, hi⟩, r⟩ := appM.inv r
  obtain ⟨p, vs, hσ, xp, np, hp, l⟩ := own_at g hi
  refine ⟨.ref p, hσ, .inl ⟨rfl, vs, .inl (.inl hp)⟩, ?_⟩
  obtain ⟨xo1, sb, g1⟩ := g.rel is
  refine ⟨xo1, relR is ρ, ω, g1, ?_⟩
  have r1 : RunP ((f (relR is ρ) >>= fun d => (pure [d] : M (List PyData))) ω) (fun ds ω' => ∀ vs H', Step W H H' → W.St ω' H' → DtL X.K xo1 H' ds vs → rAppend (.ref p) vs H' fun _ H1 => D.nx σ H1) (ExP X W Wx xo1 σ H) := by
    refine RunP.bind' (RunP.mono (RunP.bind r) (fun d o z => ?_) fun c fs o z => z.exp g1.sub)
    intro ws H' s t q
    obtain ⟨v, rfl, hd'⟩ := one_of q
    obtain ⟨xo2, sb2, g2, q2⟩ := Good.after sb (g1.step s t) (g.step s t) hd'
    obtain ⟨ds, hi2, z2⟩ := ownM.inv z
    obtain ⟨el, z3⟩ := (RunP.bind z2).need
    have el' : ds.length < line := of_decide_eq_true el
    obtain ⟨p2, us, hσ2, xp2, np2, hp2, l2⟩ := own_at g2 hi2
    rw [hσ] at hσ2
    cases hσ2
    refine ⟨p, us, v, rfl, rfl, hp2, by rw [l2.length, sizeLine_eq]; exact el', ?_⟩
    have ev : Ev W xo H xo2 H' := s.ev fun a z => .inl (sb2 a z)
    exact (RunP.ret z3) σ _ xo2 (ev.put xp2 np2 hp2) (g2.put hi2 hσ xp2 np2 hp2 (l2.app (.cons q2 .nil)))
  exact r1
/-! loops -/
def forM (g : PyData → Rho → Option Rho) (body : Rho → M Fw) : List PyData → Rho → M Fw
  | [], ρ => pure (.nx ρ)
  | d :: ds, ρ => do
    let ρ1 ← get? (g d ρ)
    let fl ← body ρ1
    match fl with
    | .nx ρ' => forM g body ds ρ'
    | .ct ρ' => forM g body ds ρ'
    | .bk ρ' => pure (.nx ρ')
    | .rt d => pure (.rt d)
def loopM (is : List Nat) (fi : Rho → M (List PyData)) (g : PyData → Rho → Option Rho) (body : Rho → M Fw) : Rho → M Fw := fun ρ => do
  let ds ← fi (relR is ρ)
  forM g body ds (relR is ρ)
theorem qs_for {tg iter : Expr} {body : List Stmt} {fi : Rho → M (List PyData)} {g : PyData → Rho → Option Rho} {ps : List Nat} {fb : Rho → M Fw} {pos : Pos} (is : List Nat) (hp : PassesOwn (model X.prog X.w) X.A X.env X.xe) (hc : X.calm = true) (hi : PI X tg iter (tQI X W Wx fi)) (hg : PG X tg (tQG X W ps g)) (hb : PSs X body (tQS X W Wx fb))
    (hs : ∀ x, foldedSetIterable iter X.env x = pure x := by intro _; rfl) : PS X (.For tg iter body [] pos) (tQS X W Wx (loopM is fi g fb)) := by
  refine PS.weak (ps_for hp hc hi hg hb hs) fun D σ H h => ?_
  obtain ⟨xo, ρ, ω, G, r⟩ := h
  obtain ⟨xo1, sb, G1⟩ := G.rel is
  refine ⟨xo1, relR is ρ, ω, G1, RunP.mono (RunP.bind r) (fun ds ω1 r1 J H1 s1 t1 wk hz => ?_) fun c fs o z => z.exp G1.sub⟩
  obtain ⟨Gh, Y, walk, kG, yl⟩ := wk
  have ev1 : Ev W xo H xo1 H1 := s1.ev fun a z => .inl (sb a z)
  refine for_it walk (fun i σ' H' => ∃ (xo' : Addr → Prop) (ρ' : Rho) (ω' : Om), Ev W xo1 H1 xo' H' ∧ Good X.K W xo' H' σ' ρ' ω' ∧ RunP (forM g fb (ds.drop i) ρ' ω') (FlP X W xo1 H1 D) (ExS X W Wx xo1 H1)) ?_
    (fun i σ' H' _ ⟨xo', _, _, e, _⟩ => kG xo' H' e) ?_ ?_
  · exact ⟨xo1, relR is ρ, ω1, Ev.refl, G1.step s1 t1, RunP.mono r1 (fun fl o q => q.step ev1) fun c fs o q => q.step ev1⟩
  · rintro i x σ2 H2 H3 hi ⟨xo2, ρ2, ω2, e2, G2, r2⟩ hy
    obtain ⟨sm, d, ed, hd⟩ := yl i xo2 H2 x H3 hi e2 hy
    have hdrop : ds.drop i = d :: ds.drop (i + 1) := by
      obtain ⟨h1, h2⟩ := List.getElem?_eq_some_iff.mp ed
      rw [List.drop_eq_getElem_cons h1, h2]
    rw [hdrop] at r2
    have r3 : RunP ((get? (g d ρ2) >>= fun ρ1 => fb ρ1 >>= fun fl => match fl with
      | .nx ρ' => forM g fb (ds.drop (i + 1)) ρ'
      | .ct ρ' => forM g fb (ds.drop (i + 1)) ρ'
      | .bk ρ' => pure (.nx ρ')
      | .rt d => pure (.rt d)) ω2) _ _ := r2
    obtain ⟨ρ3, eg, r4⟩ := (RunP.bind r3).get
    have st3 : W.St ω2 H3 := St.same G2.st sm
    have G3 : Good X.K W xo2 H3 σ2 ρ2 ω2 := G2.step (Step.of_same sm) st3
    have e3 : Ev W xo1 H1 xo2 H3 := e2.trans ((Step.of_same sm).ev Grown.refl)
    refine ⟨xo2, ρ2, ω2, d, ρ3, G3, hd, eg, fun σ4 o4 G4 => ?_⟩
    refine ⟨xo2, ρ3, ω2, G4, RunP.mono (RunP.bind r4) (fun fl o z => ?_) fun c fs o z => z.step e3⟩
    cases fl with
    | nx ρ' => exact fun σ' H' xo' e5 G5 => ⟨xo', ρ', o, e3.trans e5, G5, z⟩
    | ct ρ' => exact fun σ' H' xo' e5 G5 => ⟨xo', ρ', o, e3.trans e5, G5, z⟩
    | bk ρ' => exact fun σ' H' xo' e5 G5 => (RunP.ret z) σ' H' xo' (e3.trans e5) G5
    | rt d => exact fun v H' xo' e5 t q => (RunP.ret z) v H' xo' (e3.trans e5) t q
  · rintro σ2 H2 ⟨xo2, ρ2, ω2, e2, G2, r2⟩
    rw [List.drop_length] at r2
    exact (RunP.ret (a := Fw.nx ρ2) (show RunP ((pure (Fw.nx ρ2) : M Fw) ω2) _ _ from r2)) σ2 H2 xo2 e2 G2
end
end Q

set_option maxHeartbeats 4000000
namespace Q
open PySem L2

/-! ### what is handed to a def -/
section
variable (K : PySem.W.Frag) (W : Wd) (xo : Addr → Prop) (H : Hp)
/-- data, or the draws -/
def EtL : List Ent → List V → Prop
  | [], vs => vs = []
  | e :: es, vs => ∃ v r, vs = v :: r ∧ (match e with | .dat d => Dt K xo H d v | .mach => ∃ p c g, W.mach = some (p, c, g) ∧ v = .ref p | _ => False) ∧ EtL es r
end
section
variable {K : PySem.W.Frag} {W : Wd} {xo xo' : Addr → Prop} {H H1 : Hp}
theorem EtL.length : ∀ {es : List Ent} {vs : List V}, EtL K W xo H es vs → vs.length = es.length
  | [], vs, h => by simp only [EtL] at h; rw [h]; rfl
  | e :: es, vs, h => by
    simp only [EtL] at h
    obtain ⟨v, r, e1, _, t⟩ := h
    rw [e1, List.length_cons, List.length_cons, t.length]
theorem EtL.nil : EtL K W xo H [] [] := by simp only [EtL]
theorem EtL.cons {d : PyData} {v : V} {es : List Ent} {vs : List V} (h : Dt K xo H d v) (t : EtL K W xo H es vs) : EtL K W xo H (.dat d :: es) (v :: vs) := by
  simp only [EtL]; exact ⟨v, vs, rfl, h, t⟩
theorem EtL.get : ∀ {es : List Ent} {vs : List V} {i : Nat} {e : Ent}, EtL K W xo H es vs → es[i]? = some e → ∃ v, vs[i]? = some v ∧ EntOk K W xo H v e ∧ ∀ ds, e ≠ .own ds
  | [], vs, i, e, h, q => by simp at q
  | e :: es, vs, 0, e', h, q => by
    simp only [EtL] at h
    obtain ⟨v, r, e1, a, b⟩ := h
    simp at q
    subst q
    refine ⟨v, by rw [e1]; rfl, ?_⟩
    cases e with
    | dat d => exact ⟨a, fun _ z => nomatch z⟩
    | mach => exact ⟨a, fun _ z => nomatch z⟩
    | own _ => exact a.elim
    | clo => exact a.elim
    | exc _ _ => exact a.elim
  | e :: es, vs, i + 1, e', h, q => by
    simp only [EtL] at h
    obtain ⟨v, r, e1, a, b⟩ := h
    obtain ⟨v', h1, h2⟩ := b.get (i := i) (e := e') (by simpa using q)
    exact ⟨v', by rw [e1]; simpa using h1, h2⟩
theorem EtL.step (eb : ∀ a, W.ex a → xo a) (s : Step W H H1) : ∀ {es : List Ent} {vs : List V}, EtL K W xo H es vs → EtL K W xo H1 es vs
  | [], vs, h => by simp only [EtL] at h ⊢; exact h
  | e :: es, vs, h => by
    simp only [EtL] at h ⊢
    obtain ⟨v, r, e1, a, b⟩ := h
    refine ⟨v, r, e1, ?_, EtL.step eb s b⟩
    cases e with
    | dat d => exact Dt.step eb s a
    | mach => exact a
    | own _ => exact a
    | clo => exact a
    | exc _ _ => exact a
end
def tQE (X : Cx) (W : Wd) (Wx : WX) (f : Rho → M (List Ent)) : TA := fun σ H Q => ∃ xo ρ ω, Good X.K W xo H σ ρ ω ∧
  RunP (f ρ ω) (fun es ω' => ∀ vs H', Step W H H' → W.St ω' H' → EtL X.K W xo H' es vs → Q vs H') (ExP X W Wx xo σ H)
section
variable {X : Cx} {W : Wd} {Wx : WX}
theorem qx_nil : PA X [] (tQE X W Wx fun _ => pure []) := by
  refine PA.weak pa_nil fun σ H Q h => ?_
  obtain ⟨xo, ρ, ω, g, r⟩ := h
  exact (RunP.ret r) [] H (Step.refl W H) g.st .nil
def consE (f : Rho → M PyData) (fs : Rho → M (List Ent)) : Rho → M (List Ent) := fun ρ => do
  let d ← f ρ
  let es ← fs ρ
  pure (.dat d :: es)
theorem qx_cons {e : Expr} {es : List Expr} {f : Rho → M PyData} {fs : Rho → M (List Ent)} (ha : PE X e (tQ X W Wx f)) (hr : PA X es (tQE X W Wx fs)) (hs : starEach (e :: es) X.env = (false, eval e X.env) :: starEach es X.env := by rfl) :
    PA X (e :: es) (tQE X W Wx (consE f fs)) := by
  refine PA.weak (pa_cons ha hr hs) fun σ H Q h => ?_
  obtain ⟨xo, ρ, ω, g, r⟩ := h
  refine ⟨xo, ρ, ω, g, RunP.mono (RunP.bind r) (fun d ω1 r1 v H1 s t q => ?_) fun _ _ _ e => e⟩
  refine ⟨xo, ρ, ω1, g.step s t, RunP.mono (RunP.bind r1) (fun ds ω2 r2 vs H2 s2 t2 q2 => ?_) fun _ _ _ e => e.step s⟩
  exact (RunP.ret r2) (v :: vs) H2 (s.trans s2) t2 (.cons (q.step g.exo s2) q2)
def machE (i : Nat) (fs : Rho → M (List Ent)) : Rho → M (List Ent) := fun ρ => match ρ[i]? with
  | some (some .mach) => do
    let es ← fs ρ
    pure (.mach :: es)
  | _ => bad
theorem machE.inv {i : Nat} {fs : Rho → M (List Ent)} {ρ : Rho} {ω : Om} {P : List Ent → Om → Prop} {E : Str → List (Str × PyData) → Om → Prop} (h : RunP (machE i fs ρ ω) P E) :
    ρ[i]? = some (some .mach) ∧ RunP ((fs ρ >>= fun es => (pure (Ent.mach :: es) : M (List Ent))) ω) P E := by
  unfold machE at h
  cases e : ρ[i]? with
  | none => rw [e] at h; exact h.elim
  | some x =>
    cases x with
    | none => rw [e] at h; exact h.elim
    | some en =>
      cases en with
      | own ds => rw [e] at h; exact h.elim
      | dat d => rw [e] at h; exact h.elim
      | mach => rw [e] at h; exact ⟨rfl, h⟩
      | clo => rw [e] at h; exact h.elim
      | exc c f => rw [e] at h; exact h.elim
theorem qx_mach {i : Nat} {x : Str} {px : Pos} {es : List Expr} {fs : Rho → M (List Ent)} (hN : X.N[i]? = some x) (hv : Vis X.env.scope x) (hr : PA X es (tQE X W Wx fs)) (hs : starEach (.Name x px :: es) X.env = (false, eval (.Name x px) X.env) :: starEach es X.env := by rfl)
    (hd : (x == ("__debug__" : Str)) = false := by decide) (hcd : (x == ("__classdict__" : Str)) = false := by decide) : PA X (.Name x px :: es) (tQE X W Wx (machE i fs)) := by
  refine PA.weak (pa_cons (pe_var hN hv hd hcd) hr hs) fun σ H Q h => ?_
  obtain ⟨xo, ρ, ω, g, r⟩ := h
  obtain ⟨hi, r1⟩ := machE.inv r
  obtain ⟨v, hv1, p, c, gg, hm, ev⟩ := g.slot i _ hi
  refine ⟨v, hv1, xo, ρ, ω, g, RunP.mono (RunP.bind r1) (fun es o z vs H1 s t q => ?_) fun _ _ _ e => e⟩
  refine (RunP.ret z) (v :: vs) H1 s t ?_
  simp only [EtL]
  exact ⟨v, vs, rfl, ⟨p, c, gg, hm, ev⟩, q⟩
end

/-! ### defs -/
/-- a def's promise, by its function on what is handed in -/
def spG (K : PySem.W.Frag) (mg : Str → Option Value) (T : List (Addr × Str)) (n : Nat) (F : List Ent → M PyData) : Sp := fun vs H Q E => vs.length = n ∧ ∃ (W : Wd) (es : List Ent) (ω : Om), W.T = T ∧ W.h0 = H ∧ EtL K W W.b H es vs ∧ W.St ω H ∧ (∀ a, W.ex a → W.b a) ∧ (∀ a, W.b a → H a ≠ none) ∧
  RunP (F es ω) (fun d ω' => ∀ v H', Step W H H' → W.St ω' H' → Dt K W.b H' d v → Q v H')
    (fun c fs ω' => ∀ cls dd H', ((∃ C, cls = .ref C ∧ mg c = some (.ref C)) ∧ ∃ gs : List (Str × V), H' dd = some (.xd gs) ∧ gs.map (·.1) = fs.map (·.1) ∧ DtL K W.b H' (fs.map (·.2)) (gs.map (·.2))) → Step W H H' → W.St ω' H' → E cls (some dd) H')
/-- a def that holds a promise, where no text is being shown -/
structure FnG (P : Program) (w : World) (K : PySem.W.Frag) (mg : Str → Option Value) (base : Heap) (k : Nat) (f : Addr) (fd : FuncData) (ps : List Str) (sp : Sp) : Prop where
  len : ∀ vs H Q E, sp vs H Q E → vs.length = ps.length
  go : ∀ (A : Around) (outer : List Env) (s : Shared) (H : Hp) (args : Args) (us : List Value) (vs : List V) (Q : VK) (E : XK), Room k A → A.guards = some [] → Env0 P w K mg base A outer s H → BindsTo s fd args (ps.zip us) → Vals vs us → sp vs H Q E →
    codeAny (model P w) A (.call (.ref f) args) (CR (L2.CX P w) outer P w H s Q E) s
theorem FnG.mono {P : Program} {w : World} {K : PySem.W.Frag} {mg : Str → Option Value} {base : Heap} {j k : Nat} {f : Addr} {fd : FuncData} {ps : List Str} {sp : Sp} (F : FnG P w K mg base j f fd ps sp) (h : j ≤ k) : FnG P w K mg base k f fd ps sp :=
  ⟨F.len, fun A outer s H args us vs Q E hr => F.go A outer s H args us vs Q E (hr.mono h)⟩
/-- the body's outcome as the call's -/
def callM (ar n : Nat) (fb : Rho → M Fw) (es : List Ent) : M PyData := do
  need (decide (es.length = ar))
  let fl ← fb (es.map some ++ List.replicate (n - es.length) none)
  match fl with
  | .rt d => pure d
  | .nx _ => pure .none
  | _ => bad
theorem callM_len {ar n : Nat} {fb : Rho → M Fw} (es : List Ent) (ω : Om) (P : PyData → Om → Prop) (E : Str → List (Str × PyData) → Om → Prop) (h : RunP (callM ar n fb es ω) P E) : es.length = ar := of_decide_eq_true (RunP.bind h).need.1
section
variable {P : Program} {w : World} {K : PySem.W.Frag} {mg : Str → Option Value} {base : Heap} {T : List (Addr × Str)}
theorem good_start {N : List Str} {W : Wd} {H : Hp} {es : List Ent} {vs : List V} {ω : Om} (l : EtL K W W.b H es vs) (st : W.St ω H) (eb : ∀ a, W.ex a → W.b a) (tr : ∀ a, W.b a → H a ≠ none) (h0 : W.h0 = H) :
    Good K W W.b H (L2.start N vs) (es.map some ++ List.replicate (N.length - es.length) none) ω := by
  have key : ∀ {i : Nat} {e : Ent}, (es.map some ++ List.replicate (N.length - es.length) none : List (Option Ent))[i]? = some (some e) → es[i]? = some e := fun {i e} q => by
    by_cases hi : i < es.length
    · rw [List.getElem?_append_left (by simpa using hi), List.getElem?_map] at q
      cases h : es[i]? with
      | none => rw [h] at q; cases q
      | some x => rw [h] at q; cases q; rfl
    · rw [List.getElem?_append_right (by simpa using hi), List.getElem?_replicate] at q
      split at q <;> cases q
  refine ⟨fun i e q => ?_, st, eb, fun _ z => z, tr, h0 ▸ Ev.refl, fun i j ds us v h1 _ _ _ => ?_⟩
  · obtain ⟨v, h1, h2, _⟩ := l.get (key q)
    refine ⟨v, ?_, h2⟩
    have hi : i < vs.length := (List.getElem?_eq_some_iff.mp h1).1
    unfold L2.start
    rw [List.getElem?_append_left (by simpa using hi), List.getElem?_map, h1]
    rfl
  · obtain ⟨v, _, _, h2⟩ := l.get (key h1)
    exact (h2 ds rfl).elim
/-- the rule for a def: its body's function -/
theorem fnG_ok {x qual : Str} {st : Stmt} {f : Addr} {fd : FuncData} {N ps : List Str} {k : Nat} {fb : Rho → M Fw} (F : Fun K x qual st f fd) (S : FnScope N ps (defScope st))
    (body : ∀ (cdv : Value) (A : Around) (outer : List Env) (s : Shared) (H : Hp) (E : XK) (W : Wd), W.T = T → fd.code = cdv → PySem.W.codeIn K cdv qual = true → Room k (A.deeper (PyProof.Rows.envOfC qual (defScope st) s.heap.objs.size f cdv)) → (A.deeper (PyProof.Rows.envOfC qual (defScope st) s.heap.objs.size f cdv)).guards = some [] →
      PSs (cxOf (L2.CX P w) P w K mg base N qual (defScope st) f cdv A outer s H E) (defBody st) (tQS (cxOf (L2.CX P w) P w K mg base N qual (defScope st) f cdv A outer s H E) W (fun cls d _ H => E cls d H) fb)) :
    FnG P w K mg base (k + 1) f fd ps (spG K mg T ps.length (callM ps.length N.length fb)) := by
  refine ⟨fun vs H Q E h => h.1, fun A outer s H args us vs Q E hr hg e0 hb r h => ?_⟩
  obtain ⟨oc, od, kV, doc, pm, an, cdv, ct, osl, rfl, lk, hcd⟩ := F.ex
  obtain ⟨hl, W, es, ω, hT, h0, l, st', eb, tr, run⟩ := h
  refine LamX.run_ofS (N := N) lk hcd S hr e0 hb r hl fun hr' => ⟨_, body cdv A outer s H E W hT rfl hcd hr' hg, ?_⟩
  refine ⟨W.b, _, ω, good_start l st' eb tr h0, RunP.mono (RunP.bind (RunP.bind run).need.2) (fun fl o z => ?_) fun c fs o z cls dd σ' H' x' xc ev tt => z cls dd H' xc ev.step tt⟩
  cases fl with
  | rt d => exact fun v H' xo' ev t q => (RunP.ret z) v H' ev.step t q
  | nx ρ' => exact fun σ' H' xo' ev g => (RunP.ret z) .non H' ev.step g.st .none
  | bk ρ' => exact z.elim
  | ct ρ' => exact z.elim
end

/-! ### calls of defs -/
section
variable {X : Cx} {W : Wd} {Wx : WX} {k : Nat} {f : Addr} {fd : FuncData} {ps : List Str} {x : Str} {p pos : Pos} {e : Expr} {es : List Expr} {F : List Ent → M PyData}
theorem run_G {sp : Sp} {pins : List (Addr × Obj)} {σ : St} {H : Hp} {s : Shared} {Q : VK} {us : List Value} {vs : List V} (G : FnG X.prog X.w X.K X.mg X.base k f fd ps sp) (hr : Room k X.A) (hg : X.A.guards = some []) (hb : L2.Binds X.K fd ps []) (tk : Takes X Wx)
    (I : Inv X pins σ H s) (r : Vals vs us) (h : sp vs H Q fun cls d H' => Wx cls d σ H') : wpAny (model X.prog X.w) X.A (call (.ref f) us) (EP X pins σ Q) X.xe s := by
  have hl : us.length = ps.length := by rw [← r.length]; exact G.len _ _ _ _ h
  have b := hb s us I.kIn (by rw [List.append_nil]; exact hl)
  rw [List.append_nil] at b
  refine wpAny_call (codeAny_mono (G.go X.A X.stack s H ⟨us, []⟩ us vs Q _ hr hg I.env0 b r h) fun res s' hq => ?_)
  cases res with
  | error er => exact passAt tk σ pins H s er s' I hq
  | ok fl =>
    cases fl with
    | ret u => exact I.after hq
    | next => exact hq.elim
    | brk => exact hq.elim
    | cont => exact hq.elim
def callE (F : List Ent → M PyData) (fs : Rho → M (List Ent)) : Rho → M PyData := fun ρ => do
  let es ← fs ρ
  F es
theorem call_read {n : Nat} {fs : Rho → M (List Ent)} {σ : St} {H : Hp} {Q : VK} (hn : ∀ es ω P E, RunP (F es ω) P E → es.length = n) (h : tQ X W Wx (callE F fs) σ H Q) : tQE X W Wx fs σ H fun vs H1 => spG X.K X.mg W.T n F vs H1 Q fun cls d H' => Wx cls d σ H' := by
  obtain ⟨xo, ρ, ω, g, r⟩ := h
  refine ⟨xo, ρ, ω, g, RunP.mono (RunP.bind r) (fun es o z vs H1 s t q => ?_) fun _ _ _ e => e⟩
  have g1 := g.step s t
  refine ⟨q.length.trans (hn es o _ _ z), ⟨W.T, W.mach, xo, H1, 0⟩, es, o, rfl, rfl, ?_, ?_, g1.exo, g1.tr, RunP.mono z (fun d o' z' v H' s' t' q' => ?_) fun c fs o' z' cls dd H' x' s' t' => ?_⟩
  · exact (by
      have key : ∀ {es : List Ent} {vs : List V}, EtL X.K W xo H1 es vs → EtL X.K (⟨W.T, W.mach, xo, H1, 0⟩ : Wd) xo H1 es vs := by
        intro es
        induction es with
        | nil => intro vs h; simp only [EtL] at h ⊢; exact h
        | cons e es ih =>
          intro vs h
          simp only [EtL] at h ⊢
          obtain ⟨v, r, e1, a, b⟩ := h
          refine ⟨v, r, e1, ?_, ih b⟩
          cases e <;> exact a
      exact key q)
  · exact t
  · exact z' v H' (s.trans ⟨s'.keep, s'.new⟩) t' q'
  · exact z' cls dd H' x' (s.trans ⟨s'.keep, s'.new⟩) t'
theorem qe_callG {n : Nat} {fs : Rho → M (List Ent)} (G : FnG X.prog X.w X.K X.mg X.base k f fd ps (spG X.K X.mg W.T n F)) (hn : ∀ es ω P E, RunP (F es ω) P E → es.length = n) (hr : Room k X.A) (hgd : X.A.guards = some []) (hg : Gl X x) (hm : X.mg x = some (.ref f)) (hk : PySem.W.keepIn X.K (.ref f) = true) (hb : L2.Binds X.K fd ps []) (tk : Takes X Wx)
    (ha : PA X (e :: es) (tQE X W Wx fs)) (hdb : (x == ("__debug__" : Str)) = false := by decide) (he : starEach (e :: es) X.env = (false, eval e X.env) :: starEach es X.env := by rfl) (hpl : (backTo pos (starEach es X.env)).any (·.1) = false := by rfl) :
    PE X (.Call (.Name x p) (e :: es) [] pos) (tQ X W Wx (callE F fs)) := by
  refine ⟨fun pins s σ H Q I h => ?_⟩
  refine wpAny_Call_Name_kw (ld_glob I hg hm ?_ hdb)
  refine PySem.W.callWith_K (h₀ := X.base) I.ok.mod.kin hk (thn (ha.run pos pins s σ H _ I (call_read hn h)) fun us s1 ⟨vs, H1, I1, r, q⟩ => ⟨I1.kIn, ?_⟩) he hpl
  exact run_G G hr hgd hb tk I1 r q
end
end Q

set_option maxHeartbeats 4000000
namespace Q
open PySem L2

/-! ### own errors -/
/-- __init__(self, f): self.f = f -/
def spI (K : PySem.W.Frag) (C : Addr) (f : Str) : Sp := fun vs H Q _ => ∃ (a : Addr) (y : V), vs = [.ref a, y] ∧ OexC K C ∧ PySem.W.findIn K (.ref C) f = some none ∧ H a = some (exo a C none) ∧
  ∀ dx, H dx = none → dx ≠ a → Q .non (upd (upd H dx (exd dx [(f, y)])) a (exo a C (some dx)))
theorem init_ok {P : Program} {w : World} {K : PySem.W.Frag} {mg : Str → Option Value} {base : Heap} {st : Stmt} {qual f : Str} {fI C : Addr} {fd : FuncData} {q1 q2 q3 q4 : Pos} (F : Fun K "__init__" qual st fI fd) (S : FnScope ["self", f] ["self", f] (defScope st))
    (hb : defBody st = [.Assign [.Attribute (.Name "self" q1) f q2] (.Name f q3) q4]) (h0 : (defScope st).names.lookup ("self" : Str) = some NameKind.local) (h1 : (defScope st).names.lookup f = some NameKind.local) (d1 : (f == ("__debug__" : Str)) = false) (d2 : (f == ("__classdict__" : Str)) = false) : FnOk P w K mg base CX0 1 fI fd ["self", f] (spI K C f) := by
  refine F.ok S (fun vs H Q E h => ?_) fun cdv A outer s H vs Q E hr h => ?_
  · obtain ⟨a, y, rfl, _⟩ := h
    rfl
  · obtain ⟨a, y, rfl, T, hno, ea, k⟩ := h
    rw [hb]
    refine ⟨_, pss_one (ps_ost (pe_var (i := 0) rfl (.inl h0)) (pe_var (i := 1) rfl (.inl h1) d1 d2)), ?_⟩
    exact ⟨y, rfl, .ref a, rfl, a, C, rfl, T, hno, .inl ⟨ea, fun dx n ne => k dx n ne⟩⟩
/-- what the top tells of a class of errors with one field -/
structure Err1 (K : PySem.W.Frag) (mg : Str → Option Value) (P : Program) (w : World) (base : Heap) (c f : Str) (C : Addr) : Prop where
  gC : mg c = some (.ref C)
  ox : OexC K C
  no : PySem.W.findIn K (.ref C) f = some none
  ini : ∃ (fI : Addr) (fd : FuncData), PySem.W.findIn K (.ref C) "__init__" = some (some (.ref fI)) ∧ PySem.W.typeIn K (.ref fI) = some (.type "function") ∧ FnOk P w K mg base CX0 1 fI fd ["self", f] (spI K C f) ∧ L2.Binds K fd ["self", f] []
def throw {α : Type} (c : Str) (fs : List (Str × PyData)) : M α := fun o => .exn c fs o
def raiseM (is : List Nat) (c f : Str) (fe : Rho → M PyData) : Rho → M Fw := fun ρ => do
  let d ← fe (relR is ρ)
  throw c [(f, d)]
section
variable {X : Cx} {W : Wd} {Wx : WX}
theorem qs_raise1 {c f : Str} {C : Addr} {e : Expr} {fe : Rho → M PyData} {p pos pos2 : Pos} (is : List Nat) (hc : X.calm = true) (hr : Room 2 X.A) (Er : Err1 X.K X.mg X.prog X.w X.base c f C) (tk : Takes X Wx) (hg : Gl X c) (he : PE X e (tQ X W Wx fe)) (hpa : PA X [e] (tQA X W Wx fun ρ => do let d ← fe ρ; pure [d]))
    (hdb : (c == ("__debug__" : Str)) = false := by decide) (hs : starEach (e :: []) X.env = (false, eval e X.env) :: starEach [] X.env := by rfl) (hpl : (backTo pos (starEach [] X.env)).any (·.1) = false := by rfl) :
    PS X (.Raise (some (.Call (.Name c p) [e] [] pos)) none pos2) (tQS X W Wx (raiseM is c f fe)) := by
  obtain ⟨fI, fd, i1, i2, F, b⟩ := Er.ini
  refine PS.weak (ps_raise hc tk (pmk_oex Er.ox i1 i2 F (hr.mono (by decide)) b .nil (fun _ _ _ _ _ _ _ z => z.elim) hg Er.gC hpa hdb hs hpl)) fun D σ H h => ?_
  obtain ⟨xo, ρ, ω, g, r⟩ := h
  obtain ⟨xo1, sb, g1⟩ := g.rel is
  refine ⟨xo1, relR is ρ, ω, g1, RunP.bind' (RunP.mono (RunP.bind r) (fun d o z => ?_) fun c fs o z => z.exp g1.sub)⟩
  intro vs H1 s t q
  obtain ⟨v, rfl, hd⟩ := one_of q
  refine ⟨Nat.le_trans (Nat.le_refl 1) (by decide), fun a na => ⟨a, v, rfl, Er.ox, Er.no, upd_same, fun dx nx ne => ⟨rfl, dx, _, upd_same, by rw [upd_ne ne, upd_same], ?_, ?_⟩⟩⟩
  · rw [upd_ne ne] at nx; exact nx
  · have nx1 : H1 dx = none := by rw [upd_ne ne] at nx; exact nx
    have eH : upd (del (upd (upd (upd H1 a (exo a C none)) dx (exd dx [(f, v)])) a (exo a C (some dx))) a) dx (.xd [(f, v)]) = upd H1 dx (.xd [(f, v)]) := by
      funext b
      by_cases h1 : b = dx
      · rw [h1, upd_same, upd_same]
      · rw [upd_ne h1, upd_ne h1]
        by_cases h2 : b = a
        · rw [h2, del_same, na]
        · rw [del_ne h2, upd_ne h2, upd_ne h1, upd_ne h2]
    rw [eH]
    have zz : ExS X W Wx xo H c [(f, d)] o := z
    refine zz _ dx σ _ xo ⟨⟨C, rfl, Er.gC⟩, [(f, v)], upd_same, rfl, ?_⟩ ((s.trans (Step.upd nx1)).ev Grown.refl) (St.same t (same_upd nx1))
    exact (DtL.cons (Dt.base g1 hd) .nil).same (same_upd nx1)
end
end Q

set_option maxHeartbeats 4000000
namespace Q
open PySem L2

section
variable {X : Cx} {W : Wd} {Wx : WX}
/-! ### readings that promise nothing -/
theorem bad_no {f : Rho → M PyData} {σ : St} {H : Hp} {Q : VK} (hf : ∀ ρ ω, f ρ ω = .bad) (h : tQ X W Wx f σ H Q) : False := by
  obtain ⟨xo, ρ, ω, g, r⟩ := h
  rw [hf] at r; exact r
theorem qe_bad {e : Expr} : PE X e (tQ X W Wx fun _ => bad) := ⟨fun _ _ _ _ _ _ h => (bad_no (fun _ _ => rfl) h).elim⟩
theorem qt_bad {e : Expr} : PT X e (tQT X W Wx fun _ => bad) := ⟨fun _ _ _ _ _ _ h => by obtain ⟨xo, ρ, ω, g, r⟩ := h; exact r.elim⟩
theorem qa_bad {e : List Expr} : PA X e (tQA X W Wx fun _ => bad) := ⟨fun _ _ _ _ _ _ _ h => by obtain ⟨xo, ρ, ω, g, r⟩ := h; exact r.elim⟩
theorem qx_bad {e : List Expr} : PA X e (tQE X W Wx fun _ => bad) := ⟨fun _ _ _ _ _ _ _ h => by obtain ⟨xo, ρ, ω, g, r⟩ := h; exact r.elim⟩
theorem qi_bad {tg e : Expr} : PI X tg e (tQI X W Wx fun _ => bad) := ⟨fun _ _ _ _ _ _ h => by obtain ⟨xo, ρ, ω, g, r⟩ := h; exact r.elim⟩
theorem qo_bad {e : Option Expr} : PO X e (tQO X W Wx fun _ => bad) := ⟨fun _ _ _ _ _ _ h => by obtain ⟨xo, ρ, ω, g, r⟩ := h; exact r.elim⟩
theorem qg_bad {e : Expr} {is : List Nat} : PG X e (tQG X W is fun _ _ => none) := ⟨fun _ _ _ _ _ _ _ _ _ h => by obtain ⟨xo, ρ, ω, d, ρ', g, hd, e, k⟩ := h; cases e⟩
theorem qgs_bad {e : List Expr} {is : List Nat} : PGs X e (tQGs X W is fun _ _ => none) := ⟨fun _ _ _ _ _ _ _ _ _ h => by obtain ⟨xo, ρ, ω, d, ρ', g, hd, e, k⟩ := h; cases e⟩
theorem qs_bad {e : Stmt} : PS X e (tQS X W Wx fun _ => bad) := ⟨fun _ _ _ _ _ _ h => by obtain ⟨xo, ρ, ω, g, r⟩ := h; exact r.elim⟩
theorem qss_bad {e : List Stmt} : PSs X e (tQS X W Wx fun _ => bad) := ⟨fun _ _ _ _ _ _ h => by obtain ⟨xo, ρ, ω, g, r⟩ := h; exact r.elim⟩
theorem qts_bad {e : List Expr} : PTs X e (tQT X W Wx fun _ => bad) := ⟨fun _ _ _ _ _ _ h => by obtain ⟨xo, ρ, ω, g, r⟩ := h; exact r.elim⟩

/-! ### more of operators -/
section
variable {a b c : Expr} {fa fb fc : Rho → M PyData} {pos : Pos}
def chainM (op op' : CmpOp) (fa fb fc : Rho → M PyData) : Rho → M Bool := fun ρ => do
  let x ← fa ρ
  let y ← fb ρ
  let r ← get? (cmpD op x y)
  if r then do
    let z ← fc ρ
    get? (cmpD op' y z)
  else pure false
theorem chain_core (op op' : CmpOp) {σ : St} {H : Hp} {Q : VK} {xo : Addr → Prop} {ρ : Rho} {ω : Om} (g : Good X.K W xo H σ ρ ω)
    (r : RunP (chainM op op' fa fb fc ρ ω) (fun b ω' => ∀ H', Step W H H' → W.St ω' H' → Q (.bl b) H') (ExP X W Wx xo σ H)) : tChain (rCmp X.K (cmpD op)) (rCmp X.K (cmpD op')) (tQ X W Wx fa) (tQ X W Wx fb) (tQ X W Wx fc) σ H Q := by
  refine ⟨xo, ρ, ω, g, RunP.mono (RunP.bind r) (fun d ω1 r1 x H1 s t q => ?_) fun _ _ _ e => e⟩
  refine ⟨xo, ρ, ω1, g.step s t, RunP.mono (RunP.bind r1) (fun e ω2 r2 y H2 s2 t2 q2 => ?_) fun _ _ _ e => e.step s⟩
  obtain ⟨b, eb, k⟩ := RunP.get (RunP.bind r2)
  refine ⟨xo, d, e, b, q.step g.exo s2, q2, eb, b, rfl, ?_⟩
  cases b with
  | false => rw [if_neg Bool.false_ne_true]; exact (RunP.ret k) H2 (s.trans s2) t2
  | true =>
    rw [if_pos rfl]
    have s12 := s.trans s2
    refine ⟨xo, ρ, ω2, g.step s12 t2, RunP.mono (RunP.bind k) (fun z ω3 r3 w H3 s3 t3 q3 => ?_) fun _ _ _ e => e.step s12⟩
    obtain ⟨b2, eb2, k2⟩ := RunP.get r3
    exact ⟨xo, e, z, b2, q2.step g.exo s3, q3, eb2, k2 H3 (s12.trans s3) t3⟩
theorem qe_chain {op op' : CmpOp} (hu : X.A.units + 65 < cLine) (ha : PE X a (tQ X W Wx fa)) (hb : PE X b (tQ X W Wx fb)) (hc : PE X c (tQ X W Wx fc)) (hm : lastMarks [op, op'] [b, c] = false) :
    PE X (.Compare a [op, op'] [b, c] pos) (tQ X W Wx fun ρ => do let r ← chainM op op' fa fb fc ρ; pure (.bool r)) := by
  refine PE.weak (pe_chain (cmpD_ok hu op) (cmpD_ok hu op') ha hb hc hm) fun σ H Q h => ?_
  obtain ⟨xo, ρ, ω, g, r⟩ := h
  exact chain_core op op' g (RunP.mono (RunP.bind r) (fun b o z H' s t => z _ H' s t (.bool b)) fun _ _ _ e => e)
theorem qt_chain {op op' : CmpOp} (hu : X.A.units + 65 < cLine) (ha : PE X a (tQ X W Wx fa)) (hb : PE X b (tQ X W Wx fb)) (hc : PE X c (tQ X W Wx fc)) (hm : lastMarks [op, op'] [b, c] = false) :
    PT X (.Compare a [op, op'] [b, c] pos) (tQT X W Wx (chainM op op' fa fb fc)) := by
  refine PT.weak (pt_chain (cmpD_ok hu op) (cmpD_ok hu op') ha hb hc hm) fun σ H Q h => ?_
  obtain ⟨xo, ρ, ω, g, r⟩ := h
  exact chain_core op op' g (RunP.mono r (fun b o z H' s t => ⟨b, rfl, z H' s t⟩) fun _ _ _ e => e)
/-- a value whose truth is asked -/
theorem tru_read {f : Rho → M PyData} {σ : St} {H : Hp} {xo : Addr → Prop} {ρ : Rho} {ω : Om} (g : Good X.K W xo H σ ρ ω) {Q : PyData → V → Bool → Hp → Prop} {k : PyData → M PyData} {P : PyData → Om → Prop} {E : Str → List (Str × PyData) → Om → Prop}
    (r : RunP ((f ρ >>= fun d => need (okT d) >>= fun _ => k d) ω) P E) (hE : ∀ c fs o, E c fs o → ExP X W Wx xo σ H c fs o)
    (hq : ∀ d ω1 x H1, Step W H H1 → W.St ω1 H1 → Dt X.K xo H1 d x → RunP (k d ω1) P E → Q d x (truth d) H1) : tQ X W Wx f σ H fun x H1 => ∃ d k, TruV X.K x H1 k ∧ Q d x k H1 := by
  refine ⟨xo, ρ, ω, g, RunP.mono (RunP.bind r) (fun d o z v H' s t q => ?_) hE⟩
  obtain ⟨ez, k'⟩ := (RunP.bind z).need
  exact ⟨d, truth d, tru_of q ez, hq d o v H' s t q k'⟩
def notM (fa : Rho → M PyData) : Rho → M PyData := fun ρ => do
  let d ← fa ρ
  need (okT d)
  pure (.bool (!truth d))
theorem qe_notT (ha : PE X a (tQ X W Wx fa)) : PE X (.UnaryOp .Not a pos) (tQ X W Wx (notM fa)) := by
  refine PE.weak (pe_notT ha) fun σ H Q h => ?_
  obtain ⟨xo, ρ, ω, g, r⟩ := h
  refine (tru_read g (Q := fun d x k H1 => Q (.bl (!k)) H1) r (fun _ _ _ e => e) fun d o x H1 s t q z => ?_).mono fun x H1 ⟨d, k, h1, h2⟩ => ⟨k, h1, h2⟩
  exact (RunP.ret z) _ H1 s t (.bool _)
def andTM (fa fb : Rho → M PyData) : Rho → M PyData := fun ρ => do
  let d ← fa ρ
  need (okT d)
  if truth d then fb ρ else pure d
def orTM (fa fb : Rho → M PyData) : Rho → M PyData := fun ρ => do
  let d ← fa ρ
  need (okT d)
  if truth d then pure d else fb ρ
theorem qe_andT {rest : List Expr} (ha : PE X a (tQ X W Wx fa)) (hb : PE X (.BoolOp .And (b :: rest) pos) (tQ X W Wx fb)) : PE X (.BoolOp .And (a :: b :: rest) pos) (tQ X W Wx (andTM fa fb)) := by
  refine PE.weak (pe_andT ha hb) fun σ H Q h => ?_
  obtain ⟨xo, ρ, ω, g, r⟩ := h
  refine (tru_read g (Q := fun d x k H1 => if k = true then tQ X W Wx fb σ H1 Q else Q x H1) r (fun _ _ _ e => e) fun d o x H1 s t q z => ?_).mono fun x H1 ⟨d, k, h1, h2⟩ => ⟨k, h1, h2⟩
  cases e : truth d with
  | true =>
    rw [e] at z
    rw [if_pos rfl]
    exact ⟨xo, ρ, o, g.step s t, RunP.mono (show RunP (fb ρ o) _ _ from z) (fun e o2 y v H2 s2 t2 => y v H2 (s.trans s2) t2) fun _ _ _ e => e.step s⟩
  | false =>
    rw [e] at z
    rw [if_neg Bool.false_ne_true]
    exact (RunP.ret z) x H1 s t q
theorem qe_orT {rest : List Expr} (ha : PE X a (tQ X W Wx fa)) (hb : PE X (.BoolOp .Or (b :: rest) pos) (tQ X W Wx fb)) : PE X (.BoolOp .Or (a :: b :: rest) pos) (tQ X W Wx (orTM fa fb)) := by
  refine PE.weak (pe_orT ha hb) fun σ H Q h => ?_
  obtain ⟨xo, ρ, ω, g, r⟩ := h
  refine (tru_read g (Q := fun d x k H1 => if k = true then Q x H1 else tQ X W Wx fb σ H1 Q) r (fun _ _ _ e => e) fun d o x H1 s t q z => ?_).mono fun x H1 ⟨d, k, h1, h2⟩ => ⟨k, h1, h2⟩
  cases e : truth d with
  | false =>
    rw [e] at z
    rw [if_neg Bool.false_ne_true]
    exact ⟨xo, ρ, o, g.step s t, RunP.mono (show RunP (fb ρ o) _ _ from z) (fun e o2 y v H2 s2 t2 => y v H2 (s.trans s2) t2) fun _ _ _ e => e.step s⟩
  | true =>
    rw [e] at z
    rw [if_pos rfl]
    exact (RunP.ret z) x H1 s t q
end
end
end Q

set_option maxHeartbeats 4000000
namespace QE
open PySem
open Sem (wp)
open AutoSeq1 (wpAny_loadPart')
theorem enum_new1 {v : Value} {o : Obj} {H : Heap → Prop} (B : Begins v o H) :
    Meets (Builtin.«enumerate.__new__» ⟨[.type "enumerate", v], []⟩) (fun _ R s => H s.heap ∧
      R (.ok (.ret (.ref (s.heap.push o).objs.size))) { s with heap := (s.heap.push o).push { cls := .type "enumerate", data := .fields #[.none, .bool false, .ref s.heap.objs.size, rawInt 0, .none, .none] } }) :=
  .of_wp fun prog w A R s h => by
    obtain ⟨hp, g, d, tk, os⟩ := s; obtain ⟨h1, h⟩ := h
    have hsub := sub_enumerate
    have q1 : ∀ {A' : Around} {E : Value → Shared → Prop} {Q : Value → Shared → Prop}, Q (.ref hp.objs.size) ⟨hp.push o, g, d, tk, os⟩ → wpAny (model prog w) A' (pyIter v) Q E ⟨hp, g, d, tk, os⟩ :=
      fun q => B.iter prog w _ _ ⟨hp, g, d, tk, os⟩ _ h1 q
    wp_walk using q1
    refine wpAny_stack_any fun st => wpAny_pure ?_
    split
    · rename_i c _ _ _ _ _
      cases (c == Value.type "enumerate")
      · wp_walk using q1
        exact ⟨_, rfl, h⟩
      · wp_walk using q1
        exact ⟨_, rfl, h⟩
    · wp_walk using q1
      exact ⟨_, rfl, h⟩
section
variable {prog : Program} {w : World} {A : Around} {E : Value → Shared → Prop} {s : Shared}
theorem enum_starts {v : Value} {o : Obj} {H : Heap → Prop} {Q : Value → Shared → Prop} (B : Begins v o H) (h1 : H s.heap)
    (h : ∀ h', IsEnum h' (s.heap.objs.size + 1) s.heap.objs.size 0 .none → h'.get? s.heap.objs.size = some o → h'.objs.size = s.heap.objs.size + 2 →
      (∀ b o, s.heap.get? b = some o → h'.get? b = some o) → Q (.ref (s.heap.objs.size + 1)) { s with heap := h' }) :
    wpAny (model prog w) A (call (.type "enumerate") [v]) Q E s := by
  refine callType_new F.called_enumerate (by decide) (F.typeCall_enumerate_1 _) (F.newCall_enumerate_1 _) (fun obj => F.args_object_init_2 obj _) F.entry_enumerate_new
    (enum_new1 B) ⟨h1, ?_⟩
  have hz : (s.heap.push o).objs.size = s.heap.objs.size + 1 := Heap.size_push ..
  show _ ∧ _
  rw [hz]
  have he : IsEnum ((s.heap.push o).push { cls := .type "enumerate", data := .fields #[.none, .bool false, .ref s.heap.objs.size, rawInt 0, .none, .none] }) (s.heap.objs.size + 1) s.heap.objs.size 0 .none := by
    have := Heap.get?_push_size (s.heap.push o) (o := { cls := .type "enumerate", data := .fields #[.none, .bool false, .ref s.heap.objs.size, rawInt 0, .none, .none] }) rfl
    rw [hz] at this; exact this
  refine ⟨⟨_, he, rfl⟩, h _ he (Heap.get?_push_of_some _ (Heap.get?_push_size _ B.free)) (by rw [Heap.size_push, hz]) fun b o x => Heap.get?_push_of_some _ (Heap.get?_push_of_some _ x)⟩
theorem enumT_end {e it t : Addr} {i : Nat} {items : Array Value} {old : Value} {Q : Option Value → Shared → Prop} (hh : A.in1.handled = none) (he : IsEnum s.heap e it i old) (hit : s.heap.IsTupleIter it t i) (ht : s.heap.IsTuple t items) (hx : items[i]? = none)
    (hQ : ∀ h', Heap.ExtBut it s.heap h' → Q none { s with heap := h' }) : wpAny (model prog w) A (pyNext (.ref e)) Q E s := by
  have hT : s.TypeIs (.ref e) "enumerate" := ⟨_, he, rfl⟩
  unfold pyNext
  refine wpAny_bind (wpAny_attempt (wpAny_callSpecial?_slot (name := Str.ofString "__next__") hT F.slot_enumerate_next
    (wpAny_call_entry F.slot_enumerate_next hT F.entry_enumerate_next ?_ (F.args_enumerate_next_1 _))))
  show wpAny _ _ (field (.ref e) 2 >>= _) _ _ _
  refine wpAny_bind (wpAny_field he rfl (x := .ref it) rfl ?_)
  refine wpAny_bind (wpAny_nextOf_tuple_end hh hit ht hx fun h' x he' hx' => ?_)
  obtain ⟨o, ho, hc⟩ := hx'
  refine wpAny_bind (wpAny_isInstance (T := "StopIteration") (b := true) ⟨o, ho, hc⟩ (by first | exact isSubtype_stop | decide +kernel) ?_)
  exact wpAny_pure (hQ _ he')
end
end QE
namespace Q
open PySem PySem.Spec PyProof.Rows L2
abbrev St := L2.St
/-- the items of the tuple at a with their numbers, each in a new pair -/
def IteT (K : PySem.W.Frag) (a : Addr) : It :=
  ⟨fun i H => ∃ (xs : List V) (x : V), SqT K H a xs ∧ xs[i]? = some x, fun i H v H' => ∃ T x, v = .ref T ∧ H T = none ∧ H' = L2.upd H T (.tup [.int (i : Nat), x]) ∧ ∀ xs, SqT K H a xs → xs[i]? = some x, fun i H => ∃ xs : List V, SqT K H a xs ∧ xs.length ≤ i⟩
theorem turn_enumT {P : Program} {w : World} {K : PySem.W.Frag} {elts : List Expr} {kk : Nat} {tpos : Pos} (a e it : Addr) :
    Turn P w K (.Tuple elts kk tpos) (IteT K a) [e, it] e (fun i h => (∃ old, IsEnum h e it ((i : Nat) : Int) old) ∧ h.IsTupleIter it a i ∧ e ≠ it) where
  mem := by simp
  obj := fun i h st b hb => by
    obtain ⟨⟨old, he⟩, ⟨o, ho, hc, hd⟩, _⟩ := st
    have e' : b = e ∨ b = it := by simpa using hb
    rcases e' with z | z
    · rw [z]; exact ⟨_, he, fun v q => nomatch q⟩
    · rw [z]; exact ⟨o, ho, fun v q => by rw [hd] at q; cases q⟩
  keep := fun i h h' st k => let ⟨⟨old, he⟩, hi, hne⟩ := st; ⟨⟨old, k e (by simp) _ he⟩, hi.at fun o q => k it (by simp) o q, hne⟩
  item := by
    intro X hP hw hK hc i pins s σ H E I hf st hg
    subst hP hw hK
    obtain ⟨⟨old, he⟩, hit, hne⟩ := st
    obtain ⟨xs, x, hq, hx⟩ := hg
    obtain ⟨its, rv, p, hz⟩ := I.tuple hq
    obtain ⟨u, hu, ru⟩ := rv.get hx
    have hil' : i < its.length := (List.getElem?_eq_some_iff.mp hu).1
    have hel : e < s.heap.objs.size := Heap.lt_size he
    have hil : it < s.heap.objs.size := by obtain ⟨_, q, _⟩ := hit; exact Heap.lt_size q
    have hat : a ≠ it := fun z => by
      obtain ⟨o1, q1, c1, _⟩ := hit
      obtain ⟨o2, q2, c2, _⟩ := p
      rw [z] at q2
      rw [q1] at q2
      cases q2
      rw [c1] at c2
      exact absurd (Value.type.inj c2) (by decide)
    have hea : e ≠ a := fun z => by
      obtain ⟨o2, q2, c2, _⟩ := p
      rw [← z] at q2
      rw [show s.heap.get? e = _ from he] at q2
      cases q2
      exact absurd (Value.type.inj c2) (by decide)
    refine wpAny_pyNext_enum_itemD (PySem.Draws.tuple (prog := X.prog) (w := X.w) (A := X.A.in1) (show X.A.in1.handled = none from I.ok.hd hc) it a hat its.toArray) he ⟨hit, p⟩ (by simpa using hil') hne (by simp [hne, hea]) fun x' h' tk hx' ho hst' hT hsz hk => ?_
    have hxu : x' = u := by
      have e1 : its[i]? = some x' := by simpa using hx'
      rw [hu] at e1
      exact (Option.some.inj e1).symm
    subst hxu
    refine ⟨_, rfl, wpAny_letOwnedTupleGo_enum (s := { s with heap := h', toks := tk + 1 }) ho fun h'' he' sb => ?_⟩
    have hT2 : h''.get? s.heap.objs.size = some { cls := .type "tuple", data := .seq #[.int i tk, x'] } := (sb.2 _ (Nat.ne_of_gt hel)).trans hT
    have new : ObjOk X.prog X.w (L2.upd H s.heap.objs.size (.tup [.int (i : Nat), x])) h'' s.heap.objs.size (.tup [.int (i : Nat), x]) :=
      ⟨by show 2 ≤ sizeLine; decide, [.int i tk, x'], .cons ⟨_, rfl⟩ (.cons ru .nil), ⟨_, hT2, rfl, _, rfl⟩⟩
    have I1 : Inv X pins σ (L2.upd H s.heap.objs.size (.tup [.int (i : Nat), x])) { s with heap := h'', toks := tk + 1 } :=
      I.turnedNew (ch := [e, it]) (fun b ob hb q => (sb.2 b (fun z => hb (by simp [z]))).trans (hk b ob (fun z => hb (by simp [z])) (fun z => hb (by simp [z])) q)) hf (Nat.le_refl _) new
    refine ⟨.ref s.heap.objs.size, _, I1, rfl, ⟨_, x, rfl, I.hok.fresh (Nat.le_refl _), rfl, fun ys hy => by rw [I.tuple_inj hy hq]; exact hx⟩, ⟨⟨x', ?_⟩, hst'.1.at fun o q => (sb.2 it (Ne.symm hne)).trans q, hne⟩, fun b hb => ?_⟩
    · have e1 : ((i + 1 : Nat) : Int) = (i : Int) + 1 := by omega
      rw [e1]; exact he'
    · have hb' : b < s.heap.objs.size := by
        have e' : b = e ∨ b = it := by simpa using hb
        rcases e' with z | z
        · rw [z]; exact hel
        · rw [z]; exact hil
      rw [L2.upd_ne (Nat.ne_of_lt hb')]
      exact (hf b hb).1
  done := by
    intro X hP hw hK hc i pins s σ H E I hf st hg
    subst hP hw hK
    obtain ⟨⟨old, he⟩, hit, hne⟩ := st
    obtain ⟨xs, hq, hx⟩ := hg
    obtain ⟨its, rv, p, hz⟩ := I.tuple hq
    obtain ⟨f0, f1, f2, f3, f4, f5⟩ := hf it (by simp)
    have hl := rv.length
    have hat : a ≠ it := fun z => by
      obtain ⟨o1, q1, c1, _⟩ := hit
      obtain ⟨o2, q2, c2, _⟩ := p
      rw [z] at q2
      rw [q1] at q2
      cases q2
      rw [c1] at c2
      exact absurd (Value.type.inj c2) (by decide)
    refine QE.enumT_end (I.ok.hd hc) he hit p (by simp; omega) fun h' eb => ⟨rfl, I.turned (t' := s.toks) (fun b o hb q => eb b o hb q) f0 f1 f3 f4 f5⟩
  self := fun A i s Q E st h => let ⟨⟨_, he⟩, _⟩ := st; wpAny_pyIter_enum he h
/-- over a list, over a tuple -/
def iEnumB (K : PySem.W.Frag) (ta : TA) : TI := fun σ H R => ta σ H fun vs H1 => ∃ a, vs = [.ref a] ∧ ((∃ xs, SqL K H1 a xs) ∧ R (Ite K a) H1 ∨ (∃ xs, SqT K H1 a xs) ∧ R (IteT K a) H1)
theorem pi_enumB {X : Cx} {e : Expr} {ta : TA} {p pos tpos : Pos} {elts : List Expr} {kk : Nat} (hg : Gl X "enumerate") (hm : X.mg "enumerate" = none) (ha : PA X [e] ta) (hs : starEach [e] X.env = [(false, eval e X.env)]) :
    PI X (.Tuple elts kk tpos) (.Call (.Name "enumerate" p) [e] [] pos) (iEnumB X.K ta) := by
  refine ⟨fun pins s σ H R I h => ?_⟩
  refine Call_ (ld_blt I hg hm boot_enumerate (PyProof.Rows.callWith_type1 (thn (ha.run pos pins s σ H _ I h) fun us s1 ⟨vs, H1, I1, r1, q1⟩ => ?_) hs rfl))
  obtain ⟨a, ex, hq⟩ := q1
  subst ex
  cases r1 with
  | cons r rr =>
    cases rr
    cases r
    have fp : ∀ b, b ∈ [s1.heap.objs.size + 1, s1.heap.objs.size] → FpOk X pins H1 b := fun b hb => by
      have e' : b = s1.heap.objs.size + 1 ∨ b = s1.heap.objs.size := by simpa using hb
      have hle : s1.heap.objs.size ≤ b := by
        rcases e' with z | z
        · rw [z]; exact Nat.le_add_right _ _
        · rw [z]; exact Nat.le_refl _
      exact I1.fpOk hle (I1.hok.fresh hle)
    rcases hq with ⟨⟨xs, hq⟩, q⟩ | ⟨⟨xs, hq⟩, q⟩
    · obtain ⟨its, rv, p', hz⟩ := I1.list hq
      refine call_enumerate_list p'.isList fun h' he hit hsz hk => wpAny_pyIter_enum he ?_
      have I2 : Inv X pins σ H1 { s1 with heap := h' } := I1.kept (t' := s1.toks) hk
      exact ⟨s1.heap.objs.size + 1, [s1.heap.objs.size + 1, s1.heap.objs.size], _, _, H1, rfl, I2, turn_enum a (s1.heap.objs.size + 1) s1.heap.objs.size, ⟨⟨.none, he⟩, hit, Nat.succ_ne_self _⟩, fp, q⟩
    · obtain ⟨its, rv, p', hz⟩ := I1.tuple hq
      refine QE.enum_starts (begins_tuple a its.toArray) p' fun h' he hit hsz hk => wpAny_pyIter_enum he ?_
      have I2 : Inv X pins σ H1 { s1 with heap := h' } := I1.kept (t' := s1.toks) hk
      exact ⟨s1.heap.objs.size + 1, [s1.heap.objs.size + 1, s1.heap.objs.size], _, _, H1, rfl, I2, turn_enumT a (s1.heap.objs.size + 1) s1.heap.objs.size, ⟨⟨.none, he⟩, ⟨_, hit, rfl, rfl⟩, Nat.succ_ne_self _⟩, fp, q⟩
end Q

set_option maxHeartbeats 4000000
namespace QS
open PySem PySem.W PySem.Calls PySem.SeqAt PyProof.Rows
section
variable {prog : Program} {w : World} {A : Around} {E : Value → Shared → Prop} {s : Shared}
theorem tup_lt_call {Q : Value → Shared → Prop} {l b : Addr} {items items2 : Array Value} {e r : Nat → Bool} (hl : s.heap.IsTuple l items) (hb : s.heap.IsTuple b items2)
    (he : ∀ j (h1 : j < items.size) (h2 : j < items2.size), EqAt A.in1 s items[j] items2[j] (e j)) (hr : ∀ j (h1 : j < items.size) (h2 : j < items2.size), e j = false → RcLt A.in1 s items[j] items2[j] (r j))
    (h : Q (.bool (firstLt e r (decide (items.size < items2.size)) (List.range (min items.size items2.size)))) s) : wpAny (model prog w) A (call (.builtin "tuple.__lt__") [.ref l, .ref b]) Q E s := by
  obtain ⟨⟨cls, dd, data, sl⟩, ho, hc, n, hd⟩ := id hl
  obtain ⟨⟨cls2, dd2, data2, sl2⟩, ho2, hc2, n2, hd2⟩ := id hb
  simp only at hc hd hc2 hd2
  subst hc hd hc2 hd2
  exact call_meets F.slot_tuple_lt ⟨_, ho, rfl⟩ F.entry_tuple_lt (F.args_tuple_lt_2 _ _) (tuple_ltAt l b items items2 n n2 dd dd2 sl sl2 e r) ⟨ho, ho2, he, hr, h⟩
/-- one tuple against another, both known to be tuples -/
theorem one_tup {xs ys : List PyData} {a b : Value} {as bs : List Addr} {Q : Bool → Shared → Prop} (ra : Reads s.heap a (.tuple xs) as) (rb : Reads s.heap b (.tuple ys) bs) (h : alike (.tuple xs) (.tuple ys) = true)
    (hu : A.units + min (PyData.depth (.tuple xs)) (PyData.depth (.tuple ys)) < cLine) (hq : Q (dataLt (.tuple xs) (.tuple ys)) s) : wpAny (model prog w) A (oneLt' true a b) Q E s := by
  have hal : alikeAll xs ys = true := by simpa [alike] using h
  cases ra with
  | @tuple l o vs n _ as₁ h1 h2 h3 h4 =>
    cases rb with
    | @tuple l' o' vs' n' _ bs₁ k1 k2 k3 k4 =>
      have n1 : vs.size = xs.length := by simpa using ReadsAll.length _ _ _ h4
      have n2 : vs'.size = ys.length := by simpa using ReadsAll.length _ _ _ k4
      rw [dataLt_tuple, ← firstLt_toks xs ys hal, ← n1, ← n2] at hq
      rw [oneLt'_eq]
      simp only [if_true]
      refine wpAny_bind (wpAny_cRoomFor (room_here hu) ?_)
      refine wpAny_bind (wpAny_callSpecialIfBound?_slot (T := "tuple") ⟨_, h1, h2⟩ F.slot_tuple_lt (tup_lt_call (e := pairEq xs ys) (r := fun j => dataLt (xs.getD j .none) (ys.getD j .none)) ⟨_, h1, h2, _, h3⟩ ⟨_, k1, k2, _, k3⟩ (fun j j1 j2 => ?_) (fun j j1 j2 hj => ?_) ?_))
      · have := eqAt_alikeAll xs ys A.in1 s vs.toList vs'.toList _ _ h4 k4 hal (room_in hu) j (by simpa using j1) (by simpa using j2)
        simpa using this
      · have := rcLt_alikeAll xs ys A.in1 s vs.toList vs'.toList _ _ h4 k4 hal (room_in hu) j (by simpa using j1) (by simpa using j2) hj
        simpa using this
      · exact wpAny_truthy_bool hq
/-- the first items of tuples -/
theorem firsts : ∀ {vs : List Value} {ds : List PyData} {Q : List (Option Value) → Shared → Prop}, EachIs (fun v d => ∃ as, Reads s.heap v d as) vs ds → (∀ d, d ∈ ds → ∃ xs, d = .tuple xs) →
    (∀ fs : List (Option Value), fs.map Option.isSome = ds.map (fun d => match d with | .tuple (_ :: _) => true | _ => false) → Q fs s) → wpAny (model prog w) A (vs.mapM firstOfTuple') Q E s
  | _, _, Q, .nil, _, h => by rw [List.mapM_nil]; exact wpAny_pure (h [] rfl)
  | _, _, Q, .cons (a := v) (b := d) (as := vs) (bs := ds) r t, ht, h => by
    obtain ⟨as, r⟩ := r
    obtain ⟨xs, rfl⟩ := ht d List.mem_cons_self
    rw [List.mapM_cons]
    refine wpAny_bind ?_
    rw [kas_first_eq]
    cases r with
    | @tuple a o ys n _ _ h1 h2 h3 h4 =>
      refine wpAny_bind (Looks.here (show Looks _ s.heap (typeOf (.ref a)) o.cls from (Looks.ld h1).andThen .now) ?_)
      rw [h2, if_neg (by first | decide | simp)]
      refine wpAny_bind (listItems_at h1 h3 (wpAny_pure ?_))
      refine wpAny_bind (firsts t (fun d hd => ht d (List.mem_cons_of_mem _ hd)) fun fs hfs => wpAny_pure (h _ ?_))
      rw [List.map_cons, List.map_cons, hfs]
      congr 1
      have hl : ys.size = xs.length := by simpa using ReadsAll.length _ _ _ h4
      cases xs with
      | nil =>
        have : ys.size = 0 := hl
        simp [this]
      | cons x r =>
        have : 0 < ys.size := by rw [hl]; exact Nat.succ_pos _
        simp [this]
theorem sorts_tups {vs : List Value} {ds : List PyData} (e : EachIs (fun v d => ∃ as, Reads s.heap v d as) vs ds) (hal : AllAlike ds) (ht : ∀ d, d ∈ ds → ∃ xs, d = .tuple xs) (he : PyData.tuple [] ∈ ds) (hu : ∀ d, d ∈ ds → A.units + d.depth < cLine) : SortsAt prog w A s (dataKind s.heap ds) vs := by
  have room : ∀ {d d' : PyData}, d ∈ ds → A.units + min d.depth d'.depth < cLine := fun {d d'} hd => Nat.lt_of_le_of_lt (Nat.add_le_add_left (Nat.min_le_left _ _) _) (hu d hd)
  have lt1 : H.LtAt prog w A s (dataKind s.heap ds) oneType' := by
    intro E x y a b Q ha hb hq
    obtain ⟨d, as, hd, ra, rfl⟩ := dataKind_inv ha
    obtain ⟨d', as', hd', rb, rfl⟩ := dataKind_inv hb
    obtain ⟨x1, rfl⟩ := ht d hd
    obtain ⟨x2, rfl⟩ := ht d' hd'
    rw [keyLt'_oneType]
    exact one_tup ra rb (hal _ hd _ hd') (room hd) hq
  have lt2 : H.LtAt prog w A s (dataKind s.heap ds) general' := by
    intro E x y a b Q ha hb hq
    obtain ⟨d, as, hd, ra, rfl⟩ := dataKind_inv ha
    obtain ⟨d', as', hd', rb, rfl⟩ := dataKind_inv hb
    obtain ⟨x1, rfl⟩ := ht d hd
    obtain ⟨x2, rfl⟩ := ht d' hd'
    exact oneLt_alike (f := false) (fun z => nomatch z) ra rb (hal _ hd _ hd') (fun z => nomatch z) (room hd) hq
  refine ⟨fun v hv => ?_, ?_⟩
  · obtain ⟨d, hd, as, r⟩ := e.left v hv
    exact ⟨_, dataKind_some hal hd r⟩
  · cases e with
    | nil => cases he
    | @cons v d vs ds r t =>
      obtain ⟨x0, rfl⟩ := ht d List.mem_cons_self
      have ee : EachIs (fun v d => ∃ as, Reads s.heap v d as) (v :: vs) (.tuple x0 :: ds) := .cons r t
      have hno : ∀ fs : List (Option Value), fs.map Option.isSome = (PyData.tuple x0 :: ds).map (fun d => match d with | .tuple (_ :: _) => true | _ => false) → fs.toArray.all Option.isSome = false := by
        intro fs hfs
        rw [Bool.eq_false_iff]
        intro z
        have z2 : (fs.map Option.isSome).all id = true := by simpa using z
        rw [hfs] at z2
        rw [List.all_eq_true] at z2
        have := z2 false (List.mem_map.mpr ⟨_, he, rfl⟩)
        cases this
      have hT : ∀ u ∈ v :: vs, Looks (model prog w) s.heap (typeOf u) (.type "tuple") := fun u hu => by
        obtain ⟨d, hd, as, r⟩ := ee.left u hu
        obtain ⟨xs, rfl⟩ := ht d hd
        exact looks_reads r
      cases x0 with
      | cons x r0 =>
        refine ⟨general', lt2, fun h2 E Q hq => ?_⟩
        rw [kat_kind_eq, List.mapM_toArray, map_eq_pure_bind]
        refine wpAny_bind (wpAny_bind (firsts ee ht fun fs hfs => wpAny_pure ?_))
        rw [if_neg (by rw [hno fs hfs]; exact Bool.false_ne_true)]
        have h0 : (fs.toArray[0]?.bind id).isSome = true := by
          cases fs with
          | nil => cases hfs
          | cons f fs =>
            rw [List.map_cons, List.map_cons] at hfs
            have := (List.cons.inj hfs).1
            simpa using this
        rw [if_pos h0]
        exact wpAny_pure hq
      | nil =>
        refine ⟨oneType', lt1, fun h2 E Q hq => ?_⟩
        rw [kat_kind_eq, List.mapM_toArray, map_eq_pure_bind]
        refine wpAny_bind (wpAny_bind (firsts ee ht fun fs hfs => wpAny_pure ?_))
        rw [if_neg (by rw [hno fs hfs]; exact Bool.false_ne_true)]
        have h0 : (fs.toArray[0]?.bind id).isSome = false := by
          cases fs with
          | nil => cases hfs
          | cons f fs =>
            rw [List.map_cons, List.map_cons] at hfs
            have := (List.cons.inj hfs).1
            simpa using this
        rw [if_neg (by rw [h0]; exact Bool.false_ne_true)]
        rw [oneTypeOnly'_eq, List.mapM_toArray, map_eq_pure_bind]
        refine wpAny_bind (wpAny_bind (wpAny_bind (kas_mapM (r := Value.type "tuple") _ (fun v hv Q' hq => (hT v hv).here hq) (wpAny_pure ?_))))
        have hall2 : ((List.map (fun _ => Value.type "tuple") (v :: vs)).toArray.all fun x => x == Value.type "tuple") = true := by
          simp only [List.all_toArray, List.all_map, List.all_eq_true]
          intro _ _
          rfl
        have h0 : (List.map (fun _ => Value.type "tuple") (v :: vs)).toArray[0]? = some (Value.type "tuple") := by simp
        rw [h0]
        simp only [hall2, if_true]
        exact wpAny_pure (wpAny_pure hq)
/-- tuples of any kind, or none is one -/
def Sorta (ds : List PyData) : Prop := (∀ d, d ∈ ds → ∃ xs, d = .tuple xs) ∨ ∀ d, d ∈ ds → d ≠ .none ∧ ∀ xs, d ≠ .tuple xs
theorem sorts_at {vs : List Value} {ds : List PyData} (e : EachIs (fun v d => ∃ as, Reads s.heap v d as) vs ds) (hal : AllAlike ds) (hk : Sorta ds) (hu : ∀ d, d ∈ ds → A.units + d.depth < cLine) : SortsAt prog w A s (dataKind s.heap ds) vs := by
  rcases hk with ht | hn
  · by_cases he : PyData.tuple [] ∈ ds
    · exact sorts_tups e hal ht he hu
    · refine SortsAt.data e hal (.inl fun d hd => ?_) hu
      obtain ⟨xs, rfl⟩ := ht d hd
      cases xs with
      | nil => exact (he hd).elim
      | cons x r => exact ⟨x, r, rfl⟩
  · exact SortsAt.data e hal (.inr hn) hu
theorem sorted_any {l : Addr} {vs : List Value} {ds : List PyData} {R : Value → PyData → Prop} {Q : Value → Shared → Prop} (hl : s.heap.IsList l vs.toArray) (e : EachIs R vs ds) (er : EachIs (fun v b => ∃ as, Reads s.heap v b as) vs ds) (hal : AllAlike ds) (hk : Sorta ds) (hL : ds.length ≤ sizeLine)
    (hu : ∀ b, b ∈ ds → A.units + 2 + b.depth < cLine) (h : ∀ out, out.length = ds.length → EachIs R out (ds.mergeSort (dataLe false id)) → Q (.ref (s.heap.objs.size + 1)) { s with heap := sortedAll s.heap vs (List.toArray out) }) :
    wpAny (model prog w) A (call (.builtin "sorted") [.ref l]) Q E s := by
  have er' : EachIs (fun v b => ∃ as, Reads (sortingHeap (copyHeap s.heap vs) (s.heap.objs.size + 1) vs) v b as) vs ds := er.mono fun _ _ ⟨as, r⟩ => ⟨as, PyProof.Rows.Reads.keeps (fun _ _ => sorting_copy_old) r⟩
  have er2 : EachIs (fun v b => ∃ as, Reads (sortingHeap (copyHeap s.heap vs) (s.heap.objs.size + 1) vs) v (id b) as) vs ds := er'
  have em : ds.map id = ds := List.map_id _
  refine sorted_vals hl (SortsAt.data' er' hal hk hu) (by rw [e.length]; exact hL) (h _ (by rw [sortVals_length false rfl]; exact e.length) ?_)
  have := sortVals_data (enc := id) false e er2 (by rw [em]; exact hal)
  rw [em] at this
  exact this
where
  SortsAt.data' {vs : List Value} {ds : List PyData} {h : Heap} (er' : EachIs (fun v b => ∃ as, Reads h v b as) vs ds) (hal : AllAlike ds) (hk : Sorta ds) (hu : ∀ b, b ∈ ds → A.units + 2 + b.depth < cLine) : SortsAt prog w A.in1.in1 { s with heap := h } (dataKind h ds) vs :=
    sorts_at (s := { s with heap := h }) er' hal hk fun d hd => hu d hd
end
end QS

set_option maxHeartbeats 4000000
namespace QS
open PySem PySem.W PySem.Calls PySem.SeqAt PyProof.Rows
section
variable {prog : Program} {w : World} {A : Around} {E : Value → Shared → Prop} {s : Shared}
theorem collect_tup {l : Addr} {vs : List Value} {Q : List Value → Shared → Prop} (hl : s.heap.IsTuple l vs.toArray)
    (h : Q vs { s with heap := (s.heap.push (seqObj "list" #[] 0)).update s.heap.objs.size (Obj.mapSeq (· ++ vs.toArray)) }) (hsz : vs.length ≤ sizeLine) :
    wpAny (model prog w) A (collect (.ref l)) Q E s := by
  obtain ⟨o, ho, hc, n, hd⟩ := id hl
  unfold collect
  refine wpAny_bind (wpAny_runValue (codeAny_builtin entry_proto_collect' ?_))
  show wpAny _ _ (do again (.builtin "list.__iadd__" ⟨[← newList [], .ref l], []⟩)) _ _ s
  refine wpAny_bind (wpAny_newList (wpAny_pure ⟨Code.quiet_builtin _ (by decide +kernel), codeAny_builtin entry_list_iadd' ?_⟩))
  show wpAny _ _ (Builtin.List.listExtendWith (.ref s.heap.objs.size) (.ref l) (.ref s.heap.objs.size)) _ _ { s with heap := s.heap.push (seqObj "list" #[] 0) }
  unfold Builtin.List.listExtendWith
  have ho' : (s.heap.push (seqObj "list" #[] 0)).get? l = some o := Heap.get?_push_of_some _ ho
  refine wpAny_bind (wpAny_typeOf (T := "tuple") ⟨o, ho', hc⟩ ?_)
  have ht : (Value.type "tuple" == Value.type "tuple") = true := by rfl
  rw [if_pos (by rw [ht]; simp)]
  refine wpAny_bind (listItems_at ho' hd ?_)
  refine wpAny_bind (listItems_at (xs := #[]) (n := 0) (Heap.get?_push_size _ rfl) rfl ?_)
  rw [if_neg (by simp)]
  refine wpAny_bind (listUpdate_at (xs := #[]) (n := 0) (Heap.get?_push_size _ rfl) rfl ?_ (Nat.zero_le _) (by show (#[] ++ vs.toArray).size ≤ sizeLine + 1; simp only [Array.size_append, List.size_toArray, List.length_nil]; omega))
  refine wpAny_pure ?_
  show wpAny (model prog w) A (do
      let o ← load s.heap.objs.size
      match o.data with
      | .seq xs _ => pure xs.toList
      | _ => unsupported "internal:collect") Q E { s with heap := (s.heap.push (seqObj "list" #[] 0)).update s.heap.objs.size (Obj.mapSeq (· ++ vs.toArray)) }
  refine wpAny_bind (wpAny_load (get?_update_seq (Heap.get?_push_size _ rfl) _) ?_)
  show wpAny _ _ (pure ((#[] : Array Value) ++ vs.toArray).toList) Q E _
  rw [show ((#[] : Array Value) ++ vs.toArray).toList = vs by simp]
  exact wpAny_pure h
theorem sorted_by {l : Addr} {vs : List Value} {κ : PyProof.Rows.KeyKind} {Q : Value → Shared → Prop} (hl : s.heap.IsList l vs.toArray ∨ s.heap.IsTuple l vs.toArray) (S : SortsAt prog w A.in1.in1 { s with heap := sortingHeap (copyHeap s.heap vs) (s.heap.objs.size + 1) vs } κ vs) (hL : vs.length ≤ sizeLine)
    (h : Q (.ref (s.heap.objs.size + 1)) { s with heap := sortedAll s.heap vs (sortVals κ false vs vs).toArray }) : wpAny (model prog w) A (call (.builtin "sorted") [.ref l]) Q E s := by
  refine call_function_entry_kw kind_sorted plain_sorted entry_sorted (args_sorted1 _) ?_
  unfold Builtin.«sorted»
  refine wpAny_bind (m := checkCount "sorted" 1 1 _) (wpAny_pure ?_)
  have rest : ∀ E' : Value → Shared → Prop, wpAny (model prog w) A.in1.in1 (Builtin.«list.sort» ⟨[.ref (s.heap.objs.size + 1)], []⟩) (fun f s' => f = .done (.ret .none) ∧ Q (.ref (s.heap.objs.size + 1)) s') E' { s with heap := copyHeap s.heap vs } :=
    fun _ => list_sort_vals (s := { s with heap := copyHeap s.heap vs }) (copyHeap_at s.heap vs) S hL ⟨rfl, h⟩
  refine wpAny_bind (m := collect (.ref l)) (hl.elim (fun hl => collect_list hl ?_ hL) fun hl => collect_tup hl ?_ hL)
  all_goals
    refine wpAny_bind (wpAny_newList ?_ hL)
    have hsz : ((s.heap.push (seqObj "list" #[] 0)).update s.heap.objs.size (Obj.mapSeq (· ++ vs.toArray))).objs.size = s.heap.objs.size + 1 := by
      rw [Heap.size_update, size_push']
    show wpAny _ _ _ _ _ { s with heap := copyHeap s.heap vs }
    rw [hsz]
    refine wpAny_bind (wpAny_holding (wpAny_call_entry_kw slot_list_sort ⟨_, copyHeap_at s.heap vs, rfl⟩ entry_list_sort ?_ (args_list_sort _)))
    show wpAny (model prog w) A.in1.in1 (Builtin.«list.sort» ⟨[.ref (s.heap.objs.size + 1)], []⟩) _ _ _
    refine wpAny_mono (rest _) (fun f s' hf => ?_) fun _ _ e => e
    obtain ⟨rfl, hq⟩ := hf
    exact ⟨_, rfl, wpAny_pure ⟨_, rfl, hq⟩⟩
theorem sorted_seq {l : Addr} {vs : List Value} {ds : List PyData} {R : Value → PyData → Prop} {Q : Value → Shared → Prop} (hl : s.heap.IsList l vs.toArray ∨ s.heap.IsTuple l vs.toArray) (e : EachIs R vs ds) (er : EachIs (fun v b => ∃ as, Reads s.heap v b as) vs ds) (hal : AllAlike ds) (hk : Sorta ds) (hL : ds.length ≤ sizeLine)
    (hu : ∀ b, b ∈ ds → A.units + 2 + b.depth < cLine) (h : ∀ out, out.length = ds.length → EachIs R out (ds.mergeSort (dataLe false id)) → Q (.ref (s.heap.objs.size + 1)) { s with heap := sortedAll s.heap vs (List.toArray out) }) :
    wpAny (model prog w) A (call (.builtin "sorted") [.ref l]) Q E s := by
  have er' : EachIs (fun v b => ∃ as, Reads (sortingHeap (copyHeap s.heap vs) (s.heap.objs.size + 1) vs) v b as) vs ds := er.mono fun _ _ ⟨as, r⟩ => ⟨as, PyProof.Rows.Reads.keeps (fun _ _ => sorting_copy_old) r⟩
  have er2 : EachIs (fun v b => ∃ as, Reads (sortingHeap (copyHeap s.heap vs) (s.heap.objs.size + 1) vs) v (id b) as) vs ds := er'
  have em : ds.map id = ds := List.map_id _
  refine sorted_by hl (sorts_at (s := { s with heap := sortingHeap (copyHeap s.heap vs) (s.heap.objs.size + 1) vs }) er' hal hk fun d hd => hu d hd) (by rw [e.length]; exact hL) (h _ (by rw [sortVals_length false rfl]; exact e.length) ?_)
  have := sortVals_data (enc := id) false e er2 (by rw [em]; exact hal)
  rw [em] at this
  exact this
end
/-! ### one sorted list -/
mutual
theorem alike_eq : ∀ x y : PyData, alike x y = true → PyData.eqv x y = true → x = y
  | .none, y, h, e => by cases y <;> first | rfl | (simp [alike] at h)
  | .bool a, y, h, e => by
    cases y <;> first | (simp [alike] at h; done) | skip
    simp [PyData.eqv] at e
    rw [e]
  | .int a, y, h, e => by
    cases y <;> first | (simp [alike] at h; done) | skip
    simp [PyData.eqv] at e
    rw [e]
  | .str a, y, h, e => by
    cases y <;> first | (simp [alike] at h; done) | skip
    simp [PyData.eqv] at e
    rw [e]
  | .list xs, y, h, e => by
    cases y <;> first | (simp [alike] at h; done) | skip
    rw [alikeAll_eq xs _ (by simpa [alike] using h) (by simpa [PyData.eqv] using e)]
  | .tuple xs, y, h, e => by
    cases y <;> first | (simp [alike] at h; done) | skip
    rw [alikeAll_eq xs _ (by simpa [alike] using h) (by simpa [PyData.eqv] using e)]
  | .dict _, y, h, e => by cases y <;> (simp [alike] at h)
theorem alikeAll_eq : ∀ xs ys : List PyData, alikeAll xs ys = true → PyData.eqvAll xs ys = true → xs = ys
  | [], ys, h, e => by cases ys <;> first | rfl | (simp [PyData.eqvAll] at e)
  | x :: xs, ys, h, e => by
    cases ys with
    | nil => simp [PyData.eqvAll] at e
    | cons y ys =>
      obtain ⟨h1, h2⟩ := alike_all_cons h
      rw [eqv_all_cons, Bool.and_eq_true] at e
      rw [alike_eq x y h1 e.1, alikeAll_eq xs ys h2 e.2]
end
theorem lt_total {x y : PyData} (h : alike x y = true) (h1 : dataLt x y = false) (h2 : dataLt y x = false) : x = y := by
  have e := (listOrd itemOrd).total (keyToks x) (keyToks y) h1 h2
  refine alike_eq x y h ?_
  cases q : PyData.eqv x y with
  | true => rfl
  | false =>
    exfalso
    have k := (toks_eqv x y h).2 q
    have k1 := k [] [.inl 0]
    rw [← e, lex_pre] at k1
    rw [lex_irrefl] at k1
    exact absurd k1 (by simp [PyProof.Rows.lexLt])
theorem le_trans' (a b c : PyData) (h1 : dataLe false id a b = true) (h2 : dataLe false id b c = true) : dataLe false id a c = true := by
  have e1 : dataLt b a = false := by simpa [dataLe_eq] using h1
  have e2 : dataLt c b = false := by simpa [dataLe_eq] using h2
  have : dataLt c a = false := by
    rw [Bool.eq_false_iff]
    intro z
    rcases (listOrd itemOrd).negTrans (keyToks c) (keyToks b) (keyToks a) z with q | q
    · exact absurd (e2.symm.trans q) Bool.false_ne_true
    · exact absurd (e1.symm.trans q) Bool.false_ne_true
  simpa [dataLe_eq] using this
theorem le_total' (a b : PyData) : (dataLe false id a b || dataLe false id b a) = true := by
  have : dataLt a b = false ∨ dataLt b a = false := by
    cases q : dataLt a b with
    | false => exact .inl rfl
    | true =>
      refine .inr ?_
      rw [Bool.eq_false_iff]
      intro z
      have := (listOrd itemOrd).trans _ _ _ q z
      rw [(listOrd itemOrd).irrefl] at this
      cases this
  simp only [dataLe_eq, cond_false, id, Bool.or_eq_true, Bool.not_eq_true']
  exact this.symm
/-- x put where it belongs -/
def insD (x : PyData) : List PyData → List PyData
  | [] => [x]
  | y :: ys => if dataLt y x then y :: insD x ys else x :: y :: ys
def sortL : List PyData → List PyData
  | [] => []
  | x :: xs => insD x (sortL xs)
theorem insD_perm (x : PyData) : ∀ ys, (insD x ys).Perm (x :: ys)
  | [] => .refl _
  | y :: ys => by
    unfold insD
    split
    · exact ((insD_perm x ys).cons y).trans (List.Perm.swap _ _ _)
    · exact .refl _
theorem sortL_perm : ∀ xs, (sortL xs).Perm xs
  | [] => .refl _
  | x :: xs => (insD_perm x (sortL xs)).trans ((sortL_perm xs).cons x)
theorem insD_sorted (x : PyData) : ∀ ys, ys.Pairwise (fun a b => dataLe false id a b = true) → (insD x ys).Pairwise (fun a b => dataLe false id a b = true)
  | [], _ => by simp [insD]
  | y :: ys, h => by
    unfold insD
    obtain ⟨h1, h2⟩ := List.pairwise_cons.mp h
    split
    · rename_i q
      refine List.pairwise_cons.mpr ⟨fun z hz => ?_, insD_sorted x ys h2⟩
      rcases List.mem_cons.mp ((insD_perm x ys).mem_iff.mp hz) with e | hz
      · rw [e]
        have t := le_total' y x
        rw [Bool.or_eq_true] at t
        rcases t with t | t
        · exact t
        · have : dataLt y x = false := by simpa [dataLe_eq] using t
          rw [q] at this; cases this
      · exact h1 z hz
    · rename_i q
      have xy : dataLe false id x y = true := by simpa [dataLe_eq] using q
      refine List.pairwise_cons.mpr ⟨fun z hz => ?_, h⟩
      rcases List.mem_cons.mp hz with e | hz
      · rw [e]; exact xy
      · exact le_trans' _ _ _ xy (h1 z hz)
theorem sortL_sorted : ∀ xs, (sortL xs).Pairwise (fun a b => dataLe false id a b = true)
  | [] => .nil
  | x :: xs => insD_sorted x _ (sortL_sorted xs)
/-- a sorted rearrangement of alike data is the one -/
theorem sorted_one {xs ys : List PyData} (hal : AllAlike xs) (p : ys.Perm xs) (h : ys.Pairwise (fun a b => dataLe false id a b = true)) : ys = sortL xs := by
  refine List.Perm.eq_of_pairwise (fun a b ha hb h1 h2 => ?_) h (sortL_sorted xs) (p.trans (sortL_perm xs).symm)
  have e1 : dataLt b a = false := by simpa [dataLe_eq] using h1
  have e2 : dataLt a b = false := by simpa [dataLe_eq] using h2
  exact lt_total (hal _ (p.mem_iff.mp ha) _ ((sortL_perm xs).mem_iff.mp hb)) e2 e1
theorem merge_eq {xs : List PyData} (hal : AllAlike xs) : xs.mergeSort (dataLe false id) = sortL xs :=
  sorted_one hal (List.mergeSort_perm _ _) (List.pairwise_mergeSort le_trans' le_total' _)
end QS

set_option maxHeartbeats 4000000
namespace Q
open PySem PySem.Spec PyProof.Rows L2
def isTupB : PyData → Bool
  | .tuple _ => true
  | _ => false
/-! ### values, one by one -/
section
variable {X : Cx} {pins : List (Addr × Obj)} {σ : L2.St} {H : Hp} {s : Shared} {xo : Addr → Prop}
theorem DtL.each (I : Inv X pins σ H s) : ∀ {ds : List PyData} {vs : List V} {us : List Value}, DtL X.K xo H ds vs → Vals vs us → (∀ d ∈ ds, d.hasDict = false) → PySem.W.EachIs (fun u d => (∃ v, RelV v u ∧ Dt X.K xo H d v) ∧ ∃ as, Reads s.heap u d as) us ds
  | [], vs, us, l, r, _ => by
    simp only [DtL] at l
    subst l
    cases r
    exact .nil
  | d :: ds, vs, us, l, r, nd => by
    simp only [DtL] at l
    obtain ⟨v, rr, e, a, b⟩ := l
    subst e
    cases r with
    | cons r1 r2 => exact .cons ⟨⟨v, r1, a⟩, Dp.reads I d v _ (a.dp _ _ (nd d List.mem_cons_self)) r1⟩ (DtL.each I b r2 fun d hd => nd d (List.mem_cons_of_mem _ hd))
theorem DtL.ofEach : ∀ {ds : List PyData} {us : List Value}, PySem.W.EachIs (fun u d => ∃ v, RelV v u ∧ Dt X.K xo H d v) us ds → ∃ vs, Vals vs us ∧ DtL X.K xo H ds vs
  | [], _, .nil => ⟨[], .nil, .nil⟩
  | d :: ds, _, .cons ⟨v, r, a⟩ t => by
    obtain ⟨vs, r2, l⟩ := DtL.ofEach t
    exact ⟨v :: vs, .cons r r2, .cons a l⟩
end
/-! ### sorted -/
def okSort (ds : List PyData) : Bool := (ds.all fun d => ds.all fun e => W.alike d e) && (ds.all isTupB || ds.all fun d => !isNone d && !isTupB d) && (ds.all fun d => !d.hasDict && decide (d.depth ≤ 64)) && decide (ds.length ≤ line)
def sortF : List PyData → Option PyData
  | [.list ds] => if okSort ds then some (.list (QS.sortL ds)) else none
  | [.tuple ds] => if okSort ds then some (.list (QS.sortL ds)) else none
  | _ => none
theorem okSort_ok {ds : List PyData} (h : okSort ds = true) : PySem.W.AllAlike ds ∧ QS.Sorta ds ∧ (∀ d ∈ ds, d.hasDict = false ∧ d.depth ≤ 64) ∧ ds.length ≤ line := by
  unfold okSort at h
  simp only [Bool.and_eq_true, List.all_eq_true, Bool.or_eq_true, Bool.not_eq_true', decide_eq_true_eq] at h
  obtain ⟨⟨⟨h1, h2⟩, h3⟩, h4⟩ := h
  refine ⟨h1, ?_, h3, h4⟩
  rcases h2 with h2 | h2
  · refine .inl fun d hd => ?_
    have := h2 d hd
    cases d <;> first | (cases this; done) | exact ⟨_, rfl⟩
  · refine .inr fun d hd => ?_
    obtain ⟨a, b⟩ := h2 d hd
    exact ⟨fun e => (by rw [e] at a; cases a), fun xs e => (by rw [e] at b; cases b)⟩
section
variable {X : Cx}
theorem c_sorted (hu : X.A.units + 70 < cLine) : CallR X (.builtin "sorted") (rFn X.K sortF) := by
  intro pins s σ H xs us Q I r h
  obtain ⟨xo, ds, w, l, tr, hf, q⟩ := h
  have key : ∀ (es : List PyData) (a : Addr) (vs : List V) (its : List Value), okSort es = true → w = .list (QS.sortL es) → DtL X.K xo H es vs → Vals vs its → (s.heap.IsList a its.toArray ∨ s.heap.IsTuple a its.toArray) → wpAny (model X.prog X.w) X.A (call (.builtin "sorted") [.ref a]) (EP X pins σ Q) X.xe s := by
    intro es a vs its ho ew la rv hl
    obtain ⟨k1, k2, k3, k4⟩ := okSort_ok ho
    have ea := DtL.each I la rv fun d hd => (k3 d hd).1
    refine QS.sorted_seq hl (ea.mono fun _ _ z => z.1) (ea.mono fun _ _ z => z.2) k1 k2 (small_line k4) (fun d hd => by have := (k3 d hd).2; omega) fun out hlen hout => ?_
    rw [QS.merge_eq k1] at hout
    obtain ⟨ws, rw', lw⟩ := DtL.ofEach hout
    obtain ⟨ep, he'⟩ := PyProof.Rows.sortedAll_at s.heap its (List.toArray out)
    have hz : ws.length ≤ sizeLine := by rw [lw.length, (QS.sortL_perm es).length_eq]; exact small_line k4
    have hn : H (s.heap.objs.size + 1) = none := I.hok.fresh (Nat.le_succ _)
    refine ⟨.ref (s.heap.objs.size + 1), L2.upd H (s.heap.objs.size + 1) (.lst ws), I.laid (t' := s.toks) (fun _ _ => PyProof.Rows.sortedAll_old) (Nat.le_succ _) ⟨hz, out, ep, rw', he'⟩, rfl, ?_⟩
    rw [ew] at q
    exact q _ _ (same_upd hn) (newLst hn tr lw)
  rcases ds with _ | ⟨d, _ | ⟨d2, r2⟩⟩
  · cases hf
  · obtain ⟨v, rfl, hd⟩ := one_of l
    cases d <;> first | (exfalso; simp [sortF] at hf; done) | skip
    case list es =>
      obtain ⟨a, vs, rfl, ha, la⟩ := hd.lstE
      have e2 : (if okSort es then some (PyData.list (QS.sortL es)) else none) = some w := hf
      split at e2
      · rename_i ho
        cases e2
        obtain ⟨its, rv, pl, hz⟩ := I.list (ha.sq)
        rw [Vals.ref1 r]
        exact key es a vs its ho rfl la rv (.inl pl.isList)
      · cases e2
    case tuple es =>
      obtain ⟨a, vs, rfl, ha, la⟩ := hd.tupE
      have e2 : (if okSort es then some (PyData.list (QS.sortL es)) else none) = some w := hf
      split at e2
      · rename_i ho
        cases e2
        obtain ⟨its, rv, pl, hz⟩ := I.tuple ha
        rw [Vals.ref1 r]
        exact key es a vs its ho rfl la rv (.inr pl)
      · cases e2
  · exfalso
    cases d <;> simp [sortF] at hf
/-! ### repr: dicts within must be empty -/
mutual
def bareD : PyData → Bool
  | .list xs => bareL xs
  | .tuple xs => bareL xs
  | .dict kvs => kvs.isEmpty
  | .none => true
  | .bool _ => true
  | .int _ => true
  | .str _ => true
def bareL : List PyData → Bool
  | [] => true
  | x :: xs => bareD x && bareL xs
end
section
variable {X : Cx} {pins : List (Addr × Obj)} {σ : L2.St} {H : Hp} {s : Shared} {xo : Addr → Prop}
/-- an empty dict's object -/
theorem DiAt.emptyE {a : Addr} {kvs : List (PyData × PyData)} (I : Inv X pins σ H s) (q : DiAt X.K H a kvs) (h : kvs.isEmpty = true) : (a == sysModules) = false ∧ ∃ (o : Obj) (es : Array DictEntry) (ep : Nat), s.heap.get? a = Option.some o ∧ o.cls = .type "dict" ∧ o.data = .dict es ep ∧ es.toList = [] := by
  have hk : (kvs.all fun p => isKeyD p.1) = true := by cases kvs <;> first | rfl | cases h
  obtain ⟨hd, ys, pr, o, es, ep, h1, h2, h3, h4, _⟩ := diat_of I q hk
  cases kvs with
  | cons _ _ => cases h
  | nil =>
    cases pr
    exact ⟨hd, o, es, ep, h1, h2.1, h3, h4⟩
mutual
theorem Dt.readsB (I : Inv X pins σ H s) : ∀ (d : PyData) (v : V) (u : Value), bareD d = true → Dt X.K xo H d v → RelV v u → ∃ as, Reads s.heap u d as
  | .none, v, u, _, h, r => by simp only [Dt] at h; subst h; cases r; exact ⟨_, .none⟩
  | .bool b, v, u, _, h, r => by simp only [Dt] at h; subst h; cases r; exact ⟨_, .bool b⟩
  | .int i, v, u, _, h, r => by simp only [Dt] at h; subst h; obtain ⟨t, rfl⟩ := r; exact ⟨_, .int i t⟩
  | .str x, v, u, _, h, r => by simp only [Dt] at h; subst h; obtain ⟨t, rfl⟩ := r; exact ⟨_, .str x t⟩
  | .list ds, v, u, b, h, r => by
    simp only [bareD] at b
    simp only [Dt] at h
    obtain ⟨a, vs, rfl, q, l⟩ := h
    obtain rfl : u = Value.ref a := r
    obtain ⟨its, rv, ⟨o, n, ho, hc, _, hd⟩, _⟩ := I.list (q.sq)
    obtain ⟨as, rd⟩ := DtL.readsB I ds vs its b l rv
    exact ⟨_, .list ho hc hd rd⟩
  | .tuple ds, v, u, b, h, r => by
    simp only [bareD] at b
    simp only [Dt] at h
    obtain ⟨a, vs, rfl, q, l⟩ := h
    obtain rfl : u = Value.ref a := r
    obtain ⟨its, rv, ⟨o, ho, hc, n, hd⟩, _⟩ := I.tuple q
    obtain ⟨as, rd⟩ := DtL.readsB I ds vs its b l rv
    exact ⟨_, .tuple ho hc hd rd⟩
  | .dict kvs, v, u, b, h, r => by
    simp only [bareD] at b
    simp only [Dt] at h
    obtain ⟨a, rfl, _, q⟩ := h
    obtain rfl : u = Value.ref a := r
    obtain ⟨_, o, es, ep, h1, h2, h3, h4⟩ := q.emptyE I b
    cases kvs with
    | cons _ _ => cases b
    | nil => exact ⟨_, .dict (as := []) (bs := []) h1 h2 h3 (by rw [h4]; exact .nil) (by rw [h4]; exact .nil)⟩
theorem DtL.readsB (I : Inv X pins σ H s) : ∀ (ds : List PyData) (vs : List V) (us : List Value), bareL ds = true → DtL X.K xo H ds vs → Vals vs us → ∃ as, ReadsAll s.heap us ds as
  | [], vs, us, _, h, r => by simp only [DtL] at h; subst h; cases r; exact ⟨_, .nil⟩
  | d :: ds, vs, us, b, h, r => by
    simp only [bareL, Bool.and_eq_true] at b
    simp only [DtL] at h
    obtain ⟨v, vr, rfl, h1, h2⟩ := h
    cases r with
    | cons r1 r2 =>
      obtain ⟨as, q1⟩ := Dt.readsB I d v _ b.1 h1 r1
      obtain ⟨bs, q2⟩ := DtL.readsB I ds vr _ b.2 h2 r2
      exact ⟨_, .cons q1 q2⟩
end
/-- what such data's repr asks of the items -/
abbrev Shw (X : Cx) (h : Heap) (n : Nat) (us : List Value) (ts : List Str) : Prop := ∃ bs, ReadAtMost h n bs ∧ ReprAllK X.prog X.w bs h n us ts
mutual
theorem Dt.shw (I : Inv X pins σ H s) : ∀ (d : PyData) (v : V) (u : Value), bareD d = true → d.showable = true → d.shown.length ≤ sizeLine → Dt X.K xo H d v → RelV v u → ∃ bs, ReadAtMost s.heap d.depth bs ∧ ReprK X.prog X.w bs s.heap d.depth u d.shown
  | .none, v, u, _, _, _, h, r => by simp only [Dt] at h; subst h; cases r; exact ⟨[], (fun _ z => nomatch z), by simp only [PyData.shown]; exact .of_is ReprIs.none _ _ _⟩
  | .bool b, v, u, _, _, _, h, r => by simp only [Dt] at h; subst h; cases r; exact ⟨[], (fun _ z => nomatch z), by simp only [PyData.shown]; exact .of_is (ReprIs.bool b) _ _ _⟩
  | .int i, v, u, _, sh, _, h, r => by simp only [Dt] at h; subst h; obtain ⟨t, rfl⟩ := r; exact ⟨[], (fun _ z => nomatch z), by simp only [PyData.shown]; exact .of_is (ReprIs.int t (by simpa [PyData.showable] using sh)) _ _ _⟩
  | .str x, v, u, _, _, z, h, r => by simp only [Dt] at h; subst h; obtain ⟨t, rfl⟩ := r; exact ⟨[], (fun _ z => nomatch z), by simp only [PyData.shown] at z ⊢; exact .of_is (ReprIs.str x t z) _ _ _⟩
  | .list ds, v, u, b, sh, z, h, r => by
    obtain ⟨as, rd⟩ := Dt.readsB I (.list ds) v u b h r
    simp only [bareD] at b
    simp only [PyData.showable] at sh
    simp only [PyData.shown] at z
    simp only [Dt] at h
    obtain ⟨a, vs, rfl, q, l⟩ := h
    obtain rfl : u = Value.ref a := r
    obtain ⟨its, rv, ⟨o, n, ho, hc, _, hd⟩, _⟩ := I.list (q.sq)
    obtain ⟨bs, hb, hk⟩ := DtL.shw I ds vs its b sh (fun t ht => Nat.le_trans (listText_mem_le ht) z) l rv
    refine ⟨a :: bs, ReadAtMost.cons rd (by simp only [PyData.depth]; omega) hb, ?_⟩
    simp only [PyData.depth, PyData.shown]
    cases its with
    | nil =>
      cases rv
      cases l.nilE
      simp only [PyData.shownAll, listText_nil]
      exact ReprK.listEmpty ho hc hd
    | cons x its => exact ReprK.list ho hc hd (not_mem_of_deeper rd (by simp only [PyData.depth]; omega) hb) (by simpa using hk.length_eq) (fun i y e => hk.item i y (by simpa using e))
  | .tuple ds, v, u, b, sh, z, h, r => by
    obtain ⟨as, rd⟩ := Dt.readsB I (.tuple ds) v u b h r
    simp only [bareD] at b
    simp only [PyData.showable] at sh
    simp only [PyData.shown] at z
    simp only [Dt] at h
    obtain ⟨a, vs, rfl, q, l⟩ := h
    obtain rfl : u = Value.ref a := r
    obtain ⟨its, rv, ⟨o, ho, hc, n, hd⟩, _⟩ := I.tuple q
    obtain ⟨bs, hb, hk⟩ := DtL.shw I ds vs its b sh (fun t ht => Nat.le_trans (tupleText_mem_le ht) z) l rv
    refine ⟨a :: bs, ReadAtMost.cons rd (by simp only [PyData.depth]; omega) hb, ?_⟩
    simp only [PyData.depth, PyData.shown]
    exact ReprK.tuple ho hc hd (not_mem_of_deeper rd (by simp only [PyData.depth]; omega) hb) hk
  | .dict kvs, v, u, b, sh, z, h, r => by
    obtain ⟨as, rd⟩ := Dt.readsB I (.dict kvs) v u b h r
    simp only [bareD] at b
    simp only [PyData.shown] at z
    simp only [Dt] at h
    obtain ⟨a, rfl, _, q⟩ := h
    obtain rfl : u = Value.ref a := r
    obtain ⟨hs, o, es, ep, h1, h2, h3, h4⟩ := q.emptyE I b
    cases kvs with
    | cons _ _ => cases b
    | nil =>
      refine ⟨[a], ReadAtMost.cons rd (n := 0) (Nat.zero_le _) (fun _ z => nomatch z), ?_⟩
      simp only [PyData.depth, PyData.shown, PyData.depthKv, PyData.shownKv]
      exact ReprK.dict h1 h2 h3 hs (fun z => nomatch z) (by rw [h4]; exact .nil)
theorem DtL.shw (I : Inv X pins σ H s) : ∀ (ds : List PyData) (vs : List V) (us : List Value), bareL ds = true → PyData.showableAll ds = true → (∀ t ∈ PyData.shownAll ds, t.length ≤ sizeLine) → DtL X.K xo H ds vs → Vals vs us → Shw X s.heap (PyData.depthAll ds) us (PyData.shownAll ds)
  | [], vs, us, _, _, _, h, r => by simp only [DtL] at h; subst h; cases r; exact ⟨[], (fun _ z => nomatch z), by simp only [PyData.shownAll]; exact .nil⟩
  | d :: ds, vs, us, b, sh, z, h, r => by
    simp only [bareL, Bool.and_eq_true] at b
    simp only [PyData.showableAll, Bool.and_eq_true] at sh
    simp only [PyData.shownAll] at z
    simp only [DtL] at h
    obtain ⟨v, vr, rfl, h1, h2⟩ := h
    cases r with
    | cons r1 r2 =>
      obtain ⟨b1, hb1, k1⟩ := Dt.shw I d v _ b.1 sh.1 (z _ List.mem_cons_self) h1 r1
      obtain ⟨b2, hb2, k2⟩ := DtL.shw I ds vr _ b.2 sh.2 (fun t ht => z t (List.mem_cons_of_mem _ ht)) h2 r2
      refine ⟨b1 ++ b2, (hb1.mono (by simp only [PyData.depthAll]; exact Nat.le_max_left _ _)).append (hb2.mono (by simp only [PyData.depthAll]; exact Nat.le_max_right _ _)), ?_⟩
      simp only [PyData.depthAll, PyData.shownAll]
      exact .cons ((k1.more fun b hb => List.mem_append_left _ hb).level_le (Nat.le_max_left _ _)) (k2.more_le (fun b hb => List.mem_append_right _ hb) (Nat.le_max_right _ _))
end
end
def reprF : List PyData → Option PyData
  | [d] => if d.showable && bareD d && decide (d.depth ≤ 64) && decide (d.shown.length ≤ line) then some (.str d.shown) else none
  | _ => none
section
variable {X : Cx}
theorem c_repr (hg : X.A.guards = some []) (hu : X.A.units + 70 < cLine) : CallR X (.builtin "repr") (rFn X.K reprF) := by
  intro pins s σ H xs us Q I r h
  obtain ⟨xo, ds, w, l, tr, hf, q⟩ := h
  rcases ds with _ | ⟨d, _ | ⟨d2, r2⟩⟩
  · cases hf
  · obtain ⟨v, rfl, hd⟩ := one_of l
    have e2 : (if d.showable && bareD d && decide (d.depth ≤ 64) && decide (d.shown.length ≤ line) then some (PyData.str d.shown) else none) = some w := hf
    split at e2
    · rename_i hz
      simp only [Bool.and_eq_true, decide_eq_true_eq] at hz
      obtain ⟨⟨⟨z1, z2⟩, z3⟩, z4⟩ := hz
      have z5 : d.shown.length ≤ sizeLine := small_line z4
      cases e2
      obtain ⟨u, eu, ru⟩ : ∃ u, us = [u] ∧ RelV v u := by
        cases r with
        | cons r rr => cases rr; exact ⟨_, rfl, r⟩
      subst eu
      obtain ⟨as, rd⟩ := Dt.readsB I d v u z2 hd ru
      have fin : ∀ {h' : Heap} {t : Tok} {tk : Nat}, (∀ b o, s.heap.get? b = some o → h'.get? b = some o) → EP X pins σ Q (.str d.shown t) { s with heap := h', toks := tk } := fun {h' t tk} k =>
        ⟨.str d.shown, H, I.kept k, ⟨_, rfl⟩, q _ H (Same.refl H) (.str _)⟩
      have fin' : ∀ {t : Tok}, EP X pins σ Q (.str d.shown t) { s with toks := s.toks + 1 } := fun {t} => fin (h' := s.heap) fun _ _ e => e
      have by_slot : ∀ {a : Addr} {T idr : String}, u = .ref a → SlotG T "__repr__" idr → s.TypeIs (.ref a) T →
          (wpAny (model X.prog X.w) X.A.in1 (call (.builtin idr) [.ref a]) (fun v s' => ∃ x t, v = .str x t ∧ EP X pins σ Q v s') X.xe s) → wpAny (model X.prog X.w) X.A (call (.builtin "repr") [u]) (EP X pins σ Q) X.xe s := fun e sl ty h => by
        subst e
        exact call_repr_slot (by omega) ty sl h
      cases d
      case none =>
        simp only [PyData.shown] at fin'
        cases rd
        exact PySem.P.repr_of_none fin'
      case bool b =>
        simp only [PyData.shown] at fin'
        cases rd
        exact PySem.P.repr_of_bool fin'
      case int i =>
        simp only [PyData.shown] at fin'
        cases rd
        exact PySem.P.repr_of_int (by simpa [PyData.showable] using z1) fin'
      case str x =>
        simp only [PyData.shown] at fin' z5
        cases rd
        exact PySem.P.repr_of_str fin' z5
      case list es =>
        simp only [PyData.shown] at z5 fin
        simp only [bareD] at z2
        simp only [PyData.showable] at z1
        simp only [PyData.depth] at z3
        obtain ⟨a, vs, rfl, q, l⟩ := hd.lstE
        obtain ⟨its, rv, ⟨o, n, ho, hc, _, hdt⟩, _⟩ := I.list (q.sq)
        obtain ⟨bs, hb, hk⟩ := DtL.shw I es vs its z2 z1 (fun t ht => Nat.le_trans (listText_mem_le ht) z5) l rv
        obtain rfl : u = Value.ref a := ru
        refine by_slot rfl F.slot_list_repr.toG ⟨o, ho, hc⟩ ?_
        cases its with
        | nil =>
          cases rv
          cases l.nilE
          simp only [PyData.shownAll, listText_nil] at fin
          exact call_list_repr_empty ⟨o, ho, hc⟩ ho hdt ⟨_, _, rfl, fin (h' := s.heap) fun _ _ e => e⟩
        | cons x its =>
          exact call_list_reprK ho hc hdt (not_mem_of_deeper rd (by simp only [PyData.depth]; omega) hb) (by simpa using hk.length_eq) (fun i y e => hk.item i y (by simpa using e)) hg (fun b _ => Clear.nil b) (show X.A.units + 1 + _ < cLine by omega) (fun _ _ e => e) (fun h' u tk k => ⟨_, _, rfl, fin k⟩) z5
      case tuple es =>
        simp only [PyData.shown] at z5 fin
        simp only [bareD] at z2
        simp only [PyData.showable] at z1
        simp only [PyData.depth] at z3
        obtain ⟨a, vs, rfl, q, l⟩ := hd.tupE
        obtain ⟨its, rv, ⟨o, ho, hc, n, hdt⟩, _⟩ := I.tuple q
        obtain ⟨bs, hb, hk⟩ := DtL.shw I es vs its z2 z1 (fun t ht => Nat.le_trans (tupleText_mem_le ht) z5) l rv
        obtain rfl : u = Value.ref a := ru
        refine by_slot rfl F.slot_tuple_repr ⟨o, ho, hc⟩ ?_
        exact call_tuple_reprK ho hc hdt (not_mem_of_deeper rd (by simp only [PyData.depth]; omega) hb) hk hg (fun b _ => Clear.nil b) (show X.A.units + 1 + _ < cLine by omega) (fun _ _ e => e) (fun h' u tk k => ⟨_, _, rfl, fin k⟩) z5
      case dict es =>
        simp only [PyData.shown] at z5 fin
        simp only [bareD] at z2
        have hd' := hd
        simp only [Dt] at hd'
        obtain ⟨a, rfl, _, q⟩ := hd'
        obtain rfl : u = Value.ref a := ru
        obtain ⟨hs, o, en, ep, h1, h2, h3, h4⟩ := q.emptyE I z2
        cases es with
        | cons _ _ => cases z2
        | nil =>
          simp only [PyData.shownKv] at z5 fin
          refine by_slot rfl F.slot_dict_repr ⟨o, h1, h2⟩ ?_
          exact call_dict_reprK (as := []) (d := 0) h1 h2 h3 hs (fun z => nomatch z) (by rw [h4]; exact .nil) hg (fun b _ => Clear.nil b) (show X.A.units + 1 + _ < cLine by omega) (fun _ _ e => e) (fun h' u tk k => ⟨_, _, rfl, fin k⟩) z5
    · cases e2
  · exfalso
    simp [reprF] at hf
end
end
end Q

set_option maxHeartbeats 4000000
namespace Q
open PySem PySem.Spec PyProof.Rows L2
/-! ### isinstance of a built-in class -/
def tyN : PyData → String
  | .none => "NoneType"
  | .bool _ => "bool"
  | .int _ => "int"
  | .str _ => "str"
  | .list _ => "list"
  | .tuple _ => "tuple"
  | .dict _ => "dict"
def isaT (t : Str) (d : PyData) : Option (String × Bool) :=
  if t = "int" then some ("int", match d with | .int _ => true | .bool _ => true | _ => false) else
  if t = "bool" then some ("bool", match d with | .bool _ => true | _ => false) else
  if t = "tuple" then some ("tuple", match d with | .tuple _ => true | _ => false) else
  if t = "list" then some ("list", match d with | .list _ => true | _ => false) else
  if t = "str" then some ("str", match d with | .str _ => true | _ => false) else
  if t = "dict" then some ("dict", match d with | .dict _ => true | _ => false) else none
section
variable {X : Cx} {W : Wd} {Wx : WX}
/-- a dict's object -/
theorem DiAt.obj {a : Addr} {kvs : List (PyData × PyData)} {pins : List (Addr × Obj)} {σ : L2.St} {H : Hp} {s : Shared} (I : Inv X pins σ H s) (q : DiAt X.K H a kvs) : ∃ (o : Obj) (es : Array DictEntry) (ep : Nat), s.heap.get? a = Option.some o ∧ o.ExactDict ∧ o.data = .dict es ep := by
  rcases q with ⟨ks, q, _⟩ | ⟨ks, q, _⟩
  · obtain ⟨_, _, vs, _, o, es, ep, h1, h2, h3, _⟩ := dk_of I.hok q
    exact ⟨o, es, ep, h1, h2, h3⟩
  · obtain ⟨⟨_, _, ys, _, _, o, es, ep, h1, h2, h3, _⟩, _⟩ := (show ObjOk X.prog X.w H s.heap a _ from I.hok a _ q)
    exact ⟨o, es, ep, h1, h2, h3⟩
theorem Dt.kit {xo : Addr → Prop} {pins : List (Addr × Obj)} {σ : L2.St} {H : Hp} {s : Shared} {d : PyData} {v : V} {u : Value} (I : Inv X pins σ H s) (r : RelV v u) (h : Dt X.K xo H d v) : ∃ P : Heap → Prop, PySem.W.KitX X.K u (.type (tyN d)) P ∧ P s.heap ∧ u ≠ .builtin "__main__.__loader__#opaque" := by
  cases d
  case none => cases h.noneE; exact kit_of I r (.base .non)
  case bool b => cases h.boolE; exact kit_of I r (.base (.bl b))
  case int b => cases h.intE; exact kit_of I r (.base (.int b))
  case str b => cases h.strE; exact kit_of I r (.base (.str b))
  case list b =>
    obtain ⟨a, vs, rfl, q, _⟩ := h.lstE
    rcases q with ⟨_, q⟩ | ⟨o, q⟩ | ⟨o, its, n, q, c, _⟩
    · exact kit_of I r (.base (.lst q))
    · exact kit_of I r (.base (.frz q))
    · exact kit_of I r (.kList q c)
  case tuple b =>
    obtain ⟨a, vs, rfl, q, _⟩ := h.tupE
    rcases q with (q | ⟨o, q⟩) | ⟨o, its, n, q, c, _⟩
    · exact kit_of I r (.base (.tup q))
    · exact kit_of I r (.fTuple q)
    · exact kit_of I r (.kTuple q c)
  case dict b =>
    simp only [Dt] at h
    obtain ⟨a, e, n, q⟩ := h
    subst e
    obtain rfl : u = Value.ref a := r
    obtain ⟨o, es, ep, h1, h2, _⟩ := q.obj I
    exact ⟨_, PySem.W.kitx_dict, ⟨o, h1, h2.1⟩, fun z => nomatch z⟩
/-- isinstance of a built-in class, by data -/
def rIsD (K : PySem.W.Frag) : List V → Hp → VK → Prop := fun xs H Q => ∃ (x : V) (xo : Addr → Prop) (d : PyData) (T : String) (b : Bool), xs = [x, .ty T] ∧ Dt K xo H d x ∧ kitB (tyN d) T = some b ∧ Q (.bl b) H
theorem call_isD : CallR X (.builtin "isinstance") (rIsD X.K) := by
  intro pins s σ H xs us Q I r h
  obtain ⟨x, xo, d, T, b, e0, hd, e, q⟩ := h
  subst e0
  obtain ⟨u1, u2, rfl, r1, r2⟩ := vals2 r
  have e2 := (ClsV.ty T).eq r2
  subst e2
  obtain ⟨P, Z, p, hx⟩ := hd.kit I r1
  exact PySem.W.kia_one Z I.kIn p (kit_ty e) hx fun tk => ⟨.bl b, H, I.tok tk, rfl, q⟩
theorem isa_kit {t : Str} {d : PyData} {T : String} {b : Bool} (h : isaT t d = some (T, b)) : bootBuiltins t = some (.type T) ∧ kitB (tyN d) T = some b ∧ t ≠ "__name__" ∧ (t == ("__debug__" : Str)) = false := by
  unfold isaT at h
  split at h
  · rename_i e; cases h; subst e; exact ⟨by decide +kernel, by cases d <;> (simp only [tyN]; decide +kernel), by decide, by decide⟩
  split at h
  · rename_i e; cases h; subst e; exact ⟨by decide +kernel, by cases d <;> (simp only [tyN]; decide +kernel), by decide, by decide⟩
  split at h
  · rename_i e; cases h; subst e; exact ⟨by decide +kernel, by cases d <;> (simp only [tyN]; decide +kernel), by decide, by decide⟩
  split at h
  · rename_i e; cases h; subst e; exact ⟨by decide +kernel, by cases d <;> (simp only [tyN]; decide +kernel), by decide, by decide⟩
  split at h
  · rename_i e; cases h; subst e; exact ⟨by decide +kernel, by cases d <;> (simp only [tyN]; decide +kernel), by decide, by decide⟩
  split at h
  · rename_i e; cases h; subst e; exact ⟨by decide +kernel, by cases d <;> (simp only [tyN]; decide +kernel), by decide, by decide⟩
  · cases h
def isaM (t : Str) (f : Rho → M PyData) : Rho → M PyData := fun ρ => do
  let d ← f ρ
  let r ← get? (isaT t d)
  pure (.bool r.2)
/-- isinstance(e, T) -/
theorem qe_isa {e : Expr} {f : Rho → M PyData} {t : Str} {p p2 pos : Pos} (ht : (isaT t .none).isSome = true) (hg : Gl X "isinstance") (hm : X.mg "isinstance" = none) (hg2 : Gl X t) (hm2 : X.mg t = none) (he : PE X e (tQ X W Wx f)) (hs : starEach [e, .Name t p2] X.env = [(false, eval e X.env), (false, eval (.Name t p2) X.env)]) :
    PE X (.Call (.Name "isinstance" p) [e, .Name t p2] [] pos) (tQ X W Wx (isaM t f)) := by
  obtain ⟨⟨T, b0⟩, hb⟩ := Option.isSome_iff_exists.mp ht
  obtain ⟨k1, _, k3, k4⟩ := isa_kit hb
  have hT : ∀ d r, isaT t d = some r → r.1 = T := fun d r hr => by
    obtain ⟨T2, b2⟩ := r
    have k := (isa_kit hr).1
    rw [k1] at k
    exact (Value.type.inj (Option.some.inj k)).symm
  refine PE.weak (pe_callB (id := "isinstance") (r := rIsD X.K) call_isD hg hm (by decide +kernel) (pa_cons he (pa_cons (pe_bltn (v := .ty T) hg2 hm2 k1 rfl k3 k4) pa_nil (by rfl)) (by rw [hs]; rfl)) (by decide) (by decide) (by rw [hs]; rfl) (by rfl)) fun σ H Q h => ?_
  obtain ⟨xo, ρ, ω, g, r⟩ := h
  refine ⟨xo, ρ, ω, g, RunP.mono (RunP.bind r) (fun d o z v H1 s t q => ?_) fun _ _ _ e => e⟩
  obtain ⟨r2, er, z2⟩ := (RunP.bind z).get
  have e1 := hT d r2 er
  obtain ⟨T2, b2⟩ := r2
  obtain rfl : T2 = T := e1
  exact ⟨v, xo, d, T2, b2, rfl, q, (isa_kit er).2.1, (RunP.ret z2) _ H1 s t (.bool _)⟩
/-! ### sum of a tuple too -/
def sumF2 : List PyData → Option PyData
  | [.list ds] => (intsD ds).map fun bs => .int bs.sum
  | [.tuple ds] => (intsD ds).map fun bs => .int bs.sum
  | _ => none
theorem sum_tup {prog : Program} {w : World} {A : Around} {E : Value → Shared → Prop} {s : Shared} {l : Addr} {its : List Value} {ns : List Int} {Q : Value → Shared → Prop} (hh : A.handled = none) (hl : s.heap.IsTuple l its.toArray) (hi : IntsAre its ns)
    (h : ∀ h' tk t', (∀ b o, s.heap.get? b = some o → h'.get? b = some o) → Q (.int ns.sum t') { s with heap := h', toks := tk }) : wpAny (model prog w) A (call (.builtin "sum") [.ref l]) Q E s := by
  obtain ⟨xs, e⟩ := hi.allInts.items
  have hn : numsOf (intItems xs).toList = ns := by rw [← e]; exact hi.numsOf
  rw [nums_intItems] at hn
  rw [e] at hl
  have hlt : l < s.heap.objs.size := by
    obtain ⟨_, q, _⟩ := hl
    exact Heap.lt_size q
  have hne : l ≠ s.heap.objs.size := Nat.ne_of_lt hlt
  refine call_sum_walkG (wpAny_pyIter_tuple hl ?_)
  refine ⟨s.heap.objs.size, _, _, _, _, _, numAt xs, rfl, Walks.tuple (A := A.in1) hh _ l hne (intItems xs), ⟨⟨_, Heap.get?_push_size _ rfl, rfl, rfl⟩, hl.push _⟩, fun b hb => ?_, fun _ _ => intItems_at, fun h' tk t' hk => ?_⟩
  · have hb' : b = s.heap.objs.size ∨ b = l := by simpa using hb
    show b < (s.heap.push _).objs.size
    rw [Heap.size_push]
    rcases hb' with q | q
    · rw [q]; exact Nat.lt_succ_self _
    · rw [q]; exact Nat.lt_succ_of_lt hlt
  · have k : ∀ b o, s.heap.get? b = some o → h'.get? b = some o := fun b o q => hk b o (by
      simp only [List.mem_singleton]
      exact Nat.ne_of_lt (Heap.lt_size q)) (Heap.get?_push_of_some _ q)
    have := h h' tk t' k
    have e2 : preSum (numAt xs) (intItems xs).size = ns.sum := by
      have e3 : (intItems xs).size = xs.size := by simp [intItems]
      rw [e3, preSum_eq, List.take_of_length_le (by simp), hn]
    rw [e2]
    exact this
theorem c_sum2 (hc : X.calm = true) : CallR X (.builtin "sum") (rFn X.K sumF2) := by
  intro pins s σ H xs us Q I r h
  obtain ⟨xo, ds, w, l, tr, hf, q⟩ := h
  rcases ds with _ | ⟨d, _ | ⟨d2, r2⟩⟩
  · cases hf
  · obtain ⟨v, rfl, hd⟩ := one_of l
    cases d <;> first | (exfalso; simp [sumF2] at hf; done) | skip
    case list es => exact c_sum hc pins s σ H _ us Q I r ⟨xo, [.list es], w, l, tr, hf, q⟩
    case tuple es =>
      obtain ⟨a, vs, rfl, ha, la⟩ := hd.tupE
      have e2 : (intsD es).map (fun bs => PyData.int bs.sum) = some w := hf
      cases hb : intsD es with
      | none => rw [hb] at e2; cases e2
      | some bs =>
        rw [hb] at e2
        cases e2
        have ev := intsD_vs hb la
        subst ev
        obtain ⟨its, rv, pl, hz⟩ := I.tuple ha
        rw [Vals.ref1 r]
        exact sum_tup (I.ok.hd hc) pl rv.ints fun h' tk t' k => ⟨.int _, H, I.kept k, ⟨_, rfl⟩, q _ H (Same.refl H) (.int _)⟩
  · exfalso
    cases d <;> simp [sumF2] at hf
/-! ### enumerate of lists and tuples -/
theorem wk_enumT {a : Addr} {H1 : Hp} {ds : List PyData} {vs : List V} {xo : Addr → Prop} (h : SqT X.K H1 a vs) (l : DtL X.K xo H1 ds vs) (eb : ∀ b, W.ex b → W.b b) (sub : ∀ b, W.b b → xo b) : Wk X.K W xo (IteT X.K a) (enumD ds) H1 := by
  have kp : ∀ {xo' : Addr → Prop} {H' : Hp}, Ev W xo H1 xo' H' → SqT X.K H' a vs := fun {xo' H'} s => by
    rcases h with (h | ⟨o, h⟩) | h
    · exact SqT.of (s.keep _ _ h (.inr trivial) fun _ z => nomatch z)
    · exact .inl (.inr ⟨o, s.keep _ _ h (.inr trivial) fun _ z => nomatch z⟩)
    · exact .inr h
  refine ⟨fun H => SqT X.K H a vs, fun i H x H' => ∃ T y, x = .ref T ∧ H T = none ∧ H' = L2.upd H T (.tup [.int (i : Nat), y]) ∧ vs[i]? = some y, ⟨fun i H hi q => ⟨vs, vs[i]'(by rw [enumD_length, ← l.length] at hi; exact hi), q, by simp⟩, fun H q => ⟨vs, q, by rw [enumD_length, l.length]; exact Nat.le_refl _⟩, fun i H x H' hi q y => ?_⟩, fun xo' H' s => kp s, fun i xo' H x H' hi s y => ?_⟩
  · obtain ⟨T, z, h1, h2, h3, h4⟩ := y
    exact ⟨T, z, h1, h2, h3, h4 vs q⟩
  · obtain ⟨T, z, h1, h2, h3, h4⟩ := y
    subst h1 h3
    rw [enumD_length] at hi
    have hd : ds[i]? = some (ds[i]) := by simp [hi]
    obtain ⟨z', e1, e2⟩ := (l.ev eb sub s).get hd
    rw [h4] at e1
    cases e1
    exact ⟨same_upd h2, _, enumD_get ds i _ hd, new_pair' h2 (.int _) e2⟩
def enumM2 (fs : Rho → M (List PyData)) : Rho → M (List PyData) := fun ρ => do
  let ds ← fs ρ
  get? (match ds with | [.list es] => if es.length ≤ line then some (enumD es) else none | [.tuple es] => if es.length ≤ line then some (enumD es) else none | _ => none)
theorem qi_enum2 {e : Expr} {fs : Rho → M (List PyData)} {p pos tpos : Pos} {elts : List Expr} {kk : Nat} (hg : Gl X "enumerate") (hm : X.mg "enumerate" = none) (ha : PA X [e] (tQA X W Wx fs)) (hs : starEach [e] X.env = [(false, eval e X.env)]) :
    PI X (.Tuple elts kk tpos) (.Call (.Name "enumerate" p) [e] [] pos) (tQI X W Wx (enumM2 fs)) := by
  refine PI.weak (pi_enumB hg hm ha hs) fun σ H R h => ?_
  obtain ⟨xo, ρ, ω, g, r⟩ := h
  refine ⟨xo, ρ, ω, g, RunP.mono (RunP.bind r) (fun ds o z vs H1 s t q => ?_) fun _ _ _ e => e⟩
  obtain ⟨es, e1, k⟩ := RunP.get z
  rcases ds with _ | ⟨d, _ | ⟨d2, r2⟩⟩
  · cases e1
  · obtain ⟨v, rfl, hd⟩ := one_of q
    cases d <;> first | (exfalso; simp at e1; done) | skip
    case list us =>
      obtain ⟨a, ws, rfl, ha, la⟩ := hd.lstE
      have e2 : (if us.length ≤ line then some (enumD us) else none) = some es := e1
      split at e2
      · rename_i hz
        cases e2
        exact ⟨a, rfl, .inl ⟨⟨ws, ha.sq⟩, k _ H1 s t (wk_enum g.eb g.sub ha la) (by rw [enumD_length]; exact hz)⟩⟩
      · cases e2
    case tuple us =>
      obtain ⟨a, ws, rfl, ha, la⟩ := hd.tupE
      have e2 : (if us.length ≤ line then some (enumD us) else none) = some es := e1
      split at e2
      · rename_i hz
        cases e2
        exact ⟨a, rfl, .inr ⟨⟨ws, ha⟩, k _ H1 s t (wk_enumT ha la g.eb g.sub) (by rw [enumD_length]; exact hz)⟩⟩
      · cases e2
  · exfalso
    cases d <;> simp at e1
end
end Q

set_option maxHeartbeats 4000000
namespace Q
open PySem L2
/-! ### a new list, or other data -/
abbrev Nv := List PyData ⊕ PyData
section
variable (X : Cx) (W : Wd) (Wx : WX)
def NwP (xo : Addr → Prop) (H : Hp) (Q : VK) : Nv → Om → Prop
  | .inr d, ω' => ∀ v H', Step W H H' → W.St ω' H' → Dt X.K xo H' d v → Q v H'
  | .inl ds, ω' => ∀ p vs H', Step W H H' → W.St ω' H' → H p = none → H' p = some (.lst vs) → DtL X.K (more xo p) H' ds vs → Q (.ref p) H'
def tQN (f : Rho → M Nv) : TE := fun σ H Q => ∃ xo ρ ω, Good X.K W xo H σ ρ ω ∧ RunP (f ρ ω) (NwP X W xo H Q) (ExP X W Wx xo σ H)
end
def listN (fi : Rho → M (List PyData)) (vs : List Nat) (g : PyData → Rho → Option Rho) (ft : Rho → M Bool) (fe : Rho → M PyData) : Rho → M Nv := fun ρ => do
  let ds ← fi ρ
  let r ← compM g ft fe (wipeR ρ vs) ds
  pure (.inl r)
section
variable {X : Cx} {W : Wd} {Wx : WX}
theorem NwP.step {xo : Addr → Prop} {H H1 : Hp} {Q : VK} (s : Step W H H1) {r : Nv} {ω : Om} (h : NwP X W xo H Q r ω) : NwP X W xo H1 Q r ω := by
  cases r with
  | inr d => exact fun v H' s' t q => h v H' (s.trans s') t q
  | inl ds => exact fun p vs H' s' t n e l => h p vs H' (s.trans s') t (s.new p n) e l
/-- the same, the new list told -/
theorem lc_readN {fi : Rho → M (List PyData)} {vs : List Nat} {g : PyData → Rho → Option Rho} {ft : Rho → M Bool} {fe : Rho → M PyData} {σ : St} {H : Hp} {Q : VK} (hq : tQN X W Wx (listN fi vs g ft fe) σ H Q) :
    tLc (tQI X W Wx fi) (tQG X W vs g) (tQT X W W0 ft) (tQ X W W0 fe) vs σ H Q := by
  obtain ⟨xo, ρ, ω, G, r⟩ := hq
  refine ⟨xo, ρ, ω, G, RunP.mono (RunP.bind r) (fun ds ω1 r1 J H1 s1 t1 wk hz => ?_) fun _ _ _ e => e⟩
  intro D hD
  have G1 := G.step s1 t1
  have nD : ¬ W.ex D := not_ex_new G1 hD
  obtain ⟨Gh, Y, walk, kG, yl⟩ := wk
  refine lc_it walk (fun i H' => ∃ (ω' : Om) (done : List PyData) (dv : List V), H' D = some (.lst dv) ∧ DtL X.K (more xo D) H' done dv ∧ done.length ≤ i ∧ Good X.K W (more xo D) H' (wipe σ vs) (wipeR ρ vs) ω' ∧ Step W H1 H' ∧
      RunP (compM g ft fe (wipeR ρ vs) (ds.drop i) ω') (fun rest ω2 => RunP ((pure (Sum.inl (done ++ rest)) : M Nv) ω2) (NwP X W xo H Q) (ExP X W Wx xo σ H)) (ExP X W Wx xo σ H)) ?_ (fun i H' _ ⟨_, _, _, _, _, _, _, s, _⟩ => kG _ H' (s.ev Grown.refl)) ?_ ?_
  · have st0 : W.St ω1 (upd H1 D (.lst [])) := St.same t1 (same_upd hD)
    have sp0 : Step W H1 (upd H1 D (.lst [])) := Step.upd hD
    refine ⟨ω1, [], [], upd_same, .nil, Nat.le_refl _, (G1.fresh hD sp0 (by rw [upd_same]; exact fun z => nomatch z) st0).wipe vs, sp0, ?_⟩
    exact RunP.bind r1
  · rintro i x H2 H3 hi ⟨ω2, done, dv, eD, lD, hl, G2, s2, r2⟩ hy
    obtain ⟨sm, d, ed, hd⟩ := yl i (more xo D) H2 x H3 hi (s2.ev (Grown.more hD)) hy
    have s3 : Step W H1 H3 := s2.trans (Step.of_same sm)
    have st3 : W.St ω2 H3 := St.same G2.st sm
    have hdrop : ds.drop i = d :: ds.drop (i + 1) := by
      have := List.getElem?_eq_some_iff.mp ed
      obtain ⟨h1, h2⟩ := this
      rw [List.drop_eq_getElem_cons h1, h2]
    rw [hdrop] at r2
    have r3 : RunP ((get? (g d (wipeR ρ vs)) >>= fun ρ' => safe (ft ρ') >>= fun b => if b then (safe (fe ρ') >>= fun y => compM g ft fe (wipeR ρ vs) (ds.drop (i + 1)) >>= fun r => pure (y :: r)) else compM g ft fe (wipeR ρ vs) (ds.drop (i + 1))) ω2) _ _ := r2
    obtain ⟨ρ', eg, r4⟩ := (RunP.bind r3).get
    have G3 : Good X.K W (more xo D) H3 (wipe σ vs) (wipeR ρ vs) ω2 := G2.step (Step.of_same sm) st3
    have hd' : Dt X.K (more xo D) H3 d x := hd
    refine ⟨more xo D, wipeR ρ vs, ω2, d, ρ', G3, hd', eg, fun σ2 o2 G4 => ⟨?_, ?_⟩⟩
    · rw [o2.wipe]
      exact (Off.wipe (⟨by rw [wipe_length], fun j hj => by rw [wipe_get, if_neg hj]⟩ : Off vs σ (wipe σ vs)))
    · refine ⟨more xo D, ρ', ω2, G4, RunP.mono (safe.inv (E' := ExP X W W0 (more xo D) σ2 H3) (RunP.bind r4)) (fun b ω3 r5 H5 s5 t5 => ?_) fun _ _ _ e => e⟩
      have s15 : Step W H1 H5 := s3.trans s5
      have eD5 : H5 D = some (.lst dv) := s5.keep _ _ (sm _ _ eD) (.inl nD) fun _ z => nomatch z
      cases b with
      | false =>
        have r5 : RunP (compM g ft fe (wipeR ρ vs) (ds.drop (i + 1)) ω3) _ _ := r5
        refine iteF ?_
        exact ⟨ω3, done, dv, eD5, (lD.same sm).step G3.exo s5, Nat.le_succ_of_le hl, G3.step s5 t5, s15, r5⟩
      | true =>
        have r5 : RunP ((safe (fe ρ') >>= fun y => compM g ft fe (wipeR ρ vs) (ds.drop (i + 1)) >>= fun r => pure (y :: r)) ω3) _ _ := r5
        refine iteT ?_
        refine ⟨more xo D, ρ', ω3, G4.step s5 t5, RunP.mono (safe.inv (E' := ExP X W W0 (more xo D) σ2 H5) (RunP.bind r5)) (fun y ω4 r6 v H6 s6 t6 q6 => ?_) fun _ _ _ e => e⟩
        have eD6 : H6 D = some (.lst dv) := s6.keep _ _ eD5 (.inl nD) fun _ z => nomatch z
        have s56 := s5.trans s6
        have s16 : Step W H1 H6 := s3.trans s56
        have l6 : DtL X.K (more xo D) H6 done dv := (lD.same sm).step G3.exo s56
        refine ⟨dv, eD6, ?_, ω4, done ++ [y], dv ++ [v], upd_same, ?_, by rw [List.length_append]; exact Nat.succ_le_succ hl, ?_, s16.at_new hD, ?_⟩
        · rw [l6.length, sizeLine_eq]
          unfold line at hz
          omega
        · refine DtL.carry (H := H6) (fun _ z => z) (fun a o e n _ => ?_) _ _ (l6.app (.cons q6 .nil))
          rw [upd_ne]
          · exact e
          · rintro rfl
            rcases n with n | n
            · exact n (.inr rfl)
            · rw [eD6] at e; cases e; exact n
        · have st7 : W.St ω4 (upd H6 D (.lst (dv ++ [v]))) := St.upd t6 eD6 (fun _ z => nomatch z) lst_not_code nD
          exact (G1.fresh hD (s16.at_new hD) (by rw [upd_same]; exact fun z => nomatch z) st7).wipe vs
        · have r7 := RunP.bind r6
          refine RunP.mono r7 (fun rest ω5 h => ?_) fun _ _ _ e => e
          have h' := RunP.ret h
          rw [List.append_assoc]
          exact h'
  · rintro H2 ⟨ω2, done, dv, eD, lD, hl, G2, s2, r2⟩
    rw [List.drop_length] at r2
    have r3 := RunP.ret (a := []) (show RunP ((pure [] : M (List PyData)) ω2) _ _ from r2)
    rw [List.append_nil] at r3
    exact r3 D dv H2 (s1.trans s2) G2.st (s1.new D hD) eD lD
theorem qn_lc {elt tg iter : Expr} {ifs : List Expr} {scope : Scope} {own : List (Str × Nat)} {pos : Pos} {fi : Rho → M (List PyData)} {g : PyData → Rho → Option Rho} {ft : Rho → M Bool} {fe : Rho → M PyData}
    (hc : X.calm = true) (hN : X.N.Nodup) (hi : PI X tg iter (tQI X W Wx fi)) (ok : BlkOk X.N X.env.scope scope own)
    (hg : ∀ (s : Shared) (H : Hp) (C : Addr) (cl : List (Str × Addr)) (fp : List Addr), PG (X.blk s H scope (compEnvC scope cl C X.env) fp) tg (tQG X W (own.map (·.2)) g))
    (ht : ∀ (s : Shared) (H : Hp) (C : Addr) (cl : List (Str × Addr)) (fp : List Addr), PTs (X.blk s H scope (compEnvC scope cl C X.env) fp) ifs (tQT X W W0 ft))
    (he : ∀ (s : Shared) (H : Hp) (C : Addr) (cl : List (Str × Addr)) (fp : List Addr), PE (X.blk s H scope (compEnvC scope cl C X.env) fp) elt (tQ X W W0 fe)) (hs : ∀ x, foldedSetIterable iter X.env x = pure x) :
    PE X (.ListComp elt [⟨tg, iter, ifs, 0⟩] scope pos) (tQN X W Wx (listN fi (own.map (·.2)) g ft fe)) :=
  PE.weak (pe_lc hc hN hi ok hg ht he hs) fun _ _ _ h => lc_readN h
/-- any expression -/
theorem qn_any {e : Expr} {f : Rho → M PyData} (h : PE X e (tQ X W Wx f)) : PE X e (tQN X W Wx fun ρ => do let d ← f ρ; pure (.inr d)) := by
  refine PE.weak h fun σ H Q hq => ?_
  obtain ⟨xo, ρ, ω, g, r⟩ := hq
  exact ⟨xo, ρ, ω, g, RunP.mono (RunP.bind r) (fun d o z => RunP.ret z) fun _ _ _ e => e⟩
theorem qn_bad {e : Expr} : PE X e (tQN X W Wx fun _ => bad) := ⟨fun _ _ _ _ _ _ h => by obtain ⟨xo, ρ, ω, g, r⟩ := h; exact r.elim⟩
/-- a list of elements -/
theorem qn_lst {es : List Expr} {pos : Pos} {fs : Rho → M (List PyData)} (h : PA X es (tQA X W Wx fs)) : PE X (.List es pos) (tQN X W Wx fun ρ => do let ds ← fs ρ; need (decide (ds.length ≤ line)); pure (.inl ds)) := by
  refine PE.weak (pe_lst h) fun σ H Q hq => ?_
  obtain ⟨xo, ρ, ω, g, r⟩ := hq
  refine ⟨xo, ρ, ω, g, RunP.mono (RunP.bind r) (fun ds o z vs H1 s t q => ?_) fun _ _ _ e => e⟩
  obtain ⟨e, z2⟩ := (RunP.bind z).need
  have e' : ds.length ≤ line := of_decide_eq_true e
  refine ⟨by rw [q.length]; exact small_line e', fun p hp => ?_⟩
  have k : NwP X W xo H Q (.inl ds) o := RunP.ret z2
  exact k p vs _ (s.trans (Step.upd hp)) (St.same t (same_upd hp)) (s.new p hp) upd_same ((DtL.more hp _ _ q).same (same_upd hp))
/-- a + b: a new list where both are lists -/
def addN (x y : PyData) : Option Nv := match x, y with
  | .list i, .list j => if i.length + j.length ≤ line then some (.inl (i ++ j)) else none
  | x, y => (addD x y).map .inr
def rAddN (X : Cx) : R2 := fun x y H Q => ∃ xo d e, Dt X.K xo H d x ∧ Dt X.K xo H e y ∧ (∀ a, xo a → H a ≠ none) ∧ ((∃ r, addD d e = some r ∧ ∀ v H', Same H H' → Dt X.K xo H' r v → Q v H') ∨
  (∃ i j, d = .list i ∧ e = .list j ∧ i.length + j.length ≤ line ∧ ∀ p vs, H p = none → DtL X.K xo H (i ++ j) vs → Q (.ref p) (L2.upd H p (.lst vs))))
theorem op_addN : OpR X (binaryOp .Add) (rAddN X) := by
  intro pins s σ H x y v u Q I rx ry h
  obtain ⟨xo, d, e, hd, he, tr, h | h⟩ := h
  · obtain ⟨r, hr, q⟩ := h
    exact opD_add pins s σ H x y v u Q I rx ry ⟨xo, d, e, r, hd, he, tr, hr, q⟩
  · obtain ⟨i, j, rfl, rfl, hz, q⟩ := h
    obtain ⟨a, vs, rfl, ha, la⟩ := hd.lstE
    obtain ⟨b, ws, rfl, hb, lb⟩ := he.lstE
    exact op_catS pins s σ H _ _ v u Q I rx ry ⟨a, b, vs, ws, rfl, rfl, ha.sq, hb.sq, by rw [la.length, lb.length, sizeLine_eq]; exact hz, fun p hp => q p _ hp (la.app lb)⟩
theorem qn_add {a b : Expr} {fa fb : Rho → M PyData} {pos : Pos} (ha : PE X a (tQ X W Wx fa)) (hb : PE X b (tQ X W Wx fb)) : PE X (.BinOp a .Add b pos) (tQN X W Wx fun ρ => do let x ← fa ρ; let y ← fb ρ; get? (addN x y)) := by
  refine PE.weak (pe_op op_addN ha hb) fun σ H Q hq => ?_
  obtain ⟨xo, ρ, ω, g, r⟩ := hq
  refine ⟨xo, ρ, ω, g, RunP.mono (RunP.bind r) (fun d ω1 r1 x H1 s1 t1 q1 => ?_) fun _ _ _ e => e⟩
  refine ⟨xo, ρ, ω1, g.step s1 t1, RunP.mono (RunP.bind r1) (fun e ω2 r2 y H2 s2 t2 q2 => ?_) fun _ _ _ e => e.step s1⟩
  have g2 := g.step (s1.trans s2) t2
  obtain ⟨w, ew, k⟩ := RunP.get r2
  refine ⟨xo, d, e, q1.step g.exo s2, q2, g2.tr, ?_⟩
  by_cases hl : ∃ i j, d = .list i ∧ e = .list j
  · obtain ⟨i, j, rfl, rfl⟩ := hl
    have ew' : (if i.length + j.length ≤ line then some (Sum.inl (i ++ j)) else none : Option Nv) = some w := ew
    split at ew'
    · rename_i hz
      cases ew'
      refine .inr ⟨i, j, rfl, rfl, hz, fun p vs hp l => ?_⟩
      exact k p vs _ ((s1.trans s2).trans (Step.upd hp)) (St.same t2 (same_upd hp)) (s1.new p (s2.new p hp)) upd_same ((DtL.more hp _ _ l).same (same_upd hp))
    · cases ew'
  · have ew' : (addD d e).map Sum.inr = some w := by
      rw [← ew]
      unfold addN
      split
      · exact (hl ⟨_, _, rfl, rfl⟩).elim
      · rfl
    cases ea : addD d e with
    | none => rw [ea] at ew'; cases ew'
    | some r0 =>
      rw [ea] at ew'
      cases ew'
      exact .inl ⟨r0, rfl, fun v H' s' t' => k v H' ((s1.trans s2).trans (Step.of_same s')) (St.same t2 s') t'⟩
theorem qn_if {t a b : Expr} {ft : Rho → M Bool} {fa fb : Rho → M Nv} {pos : Pos} (ht : PT X t (tQT X W Wx ft)) (ha : PE X a (tQN X W Wx fa)) (hb : PE X b (tQN X W Wx fb)) :
    PE X (.IfExp t a b pos) (tQN X W Wx fun ρ => do let c ← ft ρ; if c then fa ρ else fb ρ) := by
  refine PE.weak (pe_ifExp ht ha hb) fun σ H Q h => ?_
  obtain ⟨xo, ρ, ω, g, r⟩ := h
  refine ⟨xo, ρ, ω, g, RunP.mono (RunP.bind r) (fun c o z H1 s t => ?_) fun _ _ _ e => e⟩
  cases c with
  | true => rw [if_pos rfl]; exact ⟨xo, ρ, o, g.step s t, RunP.mono (show RunP (fa ρ o) _ _ from z) (fun _ _ k => k.step s) fun _ _ _ e => e.step s⟩
  | false => rw [if_neg Bool.false_ne_true]; exact ⟨xo, ρ, o, g.step s t, RunP.mono (show RunP (fb ρ o) _ _ from z) (fun _ _ k => k.step s) fun _ _ _ e => e.step s⟩
/-- a name takes a list of its own -/
theorem Good.ownG {K : PySem.W.Frag} {xo : Addr → Prop} {H H' : Hp} {σ : St} {ρ : Rho} {ω ω' : Om} {i : Nat} {p : Addr} {vs : List V} {ds : List PyData} (g : Good K W xo H σ ρ ω) (hi : i < σ.length) (s : Step W H H') (st : W.St ω' H') (hp : H p = none) (hq : H' p = some (.lst vs)) (l : DtL K (more xo p) H' ds vs) :
    Good K W (more xo p) H' (σ.set i (some (.ref p))) (ρ.set i (some (.own ds))) ω' := by
  have g' : Good K W (more xo p) H' σ ρ ω' := g.fresh hp s (by rw [hq]; exact fun z => nomatch z) st
  have old : ∀ {j : Nat} {es : List PyData} {v : V}, ρ[j]? = some (some (.own es)) → σ[j]? = some (some v) → v ≠ .ref p := fun {j es v} h1 h2 e => by
    obtain ⟨w, hw, q, us, ew, _, _, hq, _⟩ := g.slot j _ h1
    rw [h2] at hw
    cases hw
    rw [e] at ew
    cases ew
    rw [hp] at hq; cases hq
  have inner : ∀ {j : Nat} {es : List PyData}, (ρ.set i (some (.own ds)))[j]? = some (some (.own es)) → i ≠ j → ρ[j]? = some (some (.own es)) := fun {j es} q e => by rw [List.getElem?_set_ne e] at q; exact q
  refine ⟨fun j e q => ?_, g'.st, g.eb, g'.sub, g'.tr, g'.ev, fun j k es us u h1 h2 h3 h4 => ?_⟩
  · by_cases hj : i = j
    · subst hj
      have hl : i < ρ.length := by
        have := (List.getElem?_eq_some_iff.mp q).1
        rw [List.length_set] at this; exact this
      rw [List.getElem?_set_self hl] at q
      cases q
      exact ⟨_, List.getElem?_set_self hi, p, vs, rfl, .inr rfl, fun z => g.tr p (g.sub p z) hp, hq, l⟩
    · rw [List.getElem?_set_ne hj] at q
      obtain ⟨u, a, b⟩ := g'.slot j e q
      exact ⟨u, by rw [List.getElem?_set_ne hj]; exact a, b⟩
  · by_cases hj : i = j
    · by_cases hk : i = k
      · rw [← hj, ← hk]
      · subst hj
        rw [List.getElem?_set_self hi] at h3
        cases h3
        rw [List.getElem?_set_ne hk] at h4
        exact (old (inner h2 hk) h4 rfl).elim
    · by_cases hk : i = k
      · subst hk
        rw [List.getElem?_set_self hi] at h4
        cases h4
        rw [List.getElem?_set_ne hj] at h3
        exact (old (inner h1 hj) h3 rfl).elim
      · rw [List.getElem?_set_ne hj] at h3
        rw [List.getElem?_set_ne hk] at h4
        exact g.apart j k es us u (inner h1 hj) (inner h2 hk) h3 h4
def asgN (is : List Nat) (f : Rho → M Nv) (i : Nat) : Rho → M Fw := fun ρ => do
  let r ← f (relR is ρ)
  match r with
  | .inl ds => pure (.nx ((relR is ρ).set i (some (.own ds))))
  | .inr d => pure (.nx ((after is d ρ).set i (some (.dat d))))
theorem asgN_read {is : List Nat} {f : Rho → M Nv} {i : Nat} {D : Ends} {σ : St} {H : Hp} (hl : i < σ.length) (h : tQS X W Wx (asgN is f i) D σ H) : tQN X W Wx f σ H fun v H' => D.nx (σ.set i (some v)) H' := by
  obtain ⟨xo, ρ, ω, g, r⟩ := h
  obtain ⟨xo1, s1, g1⟩ := g.rel is
  refine ⟨xo1, relR is ρ, ω, g1, RunP.mono (RunP.bind r) (fun r o z => ?_) fun c fs o z => z.exp g1.sub⟩
  cases r with
  | inr d =>
    intro v H1 s t q
    obtain ⟨xo2, sb2, g2, q2⟩ := Good.after s1 (g1.step s t) (g.step s t) q
    exact (RunP.ret z) _ H1 xo2 (s.ev fun a z => .inl (sb2 a z)) (g2.set hl q2)
  | inl ds =>
    intro p vs H1 s t n e l
    refine (RunP.ret z) _ H1 (more xo1 p) (s.ev ?_) (g1.ownG hl s t n e l)
    intro a h
    rcases h with h | h
    · exact .inl (s1 a h)
    · rw [h]; exact .inr n
theorem qs_setN {i : Nat} {x : Str} {e : Expr} {f : Rho → M Nv} {pos pos' : Pos} (is : List Nat) (hN : X.N.Nodup) (hi : X.N[i]? = some x) (hx : Loc X.env.scope x) (he : PE X e (tQN X W Wx f)) (hs : swapsWith e (some (.Name x pos')) pos.line X.env = pure false) (hf : X.fn x = true ∨ X.env.scope.names.lookup x = some .local) :
    PS X (.Assign [.Name x pos'] e pos) (tQS X W Wx (asgN is f i)) := by
  refine ⟨fun pins s σ H D I h => ?_⟩
  have hl : i < σ.length := by rw [I.len]; exact (List.getElem?_eq_some_iff.mp hi).1
  exact (ps_set hN hi hx he hs hf).run pins s σ H D I (asgN_read hl h)
theorem qs_setLcN {i : Nat} {y : Str} {py : Pos} {elt tg iter : Expr} {ifs : List Expr} {scope : Scope} {own : List (Str × Nat)} {pos spos : Pos} {fi : Rho → M (List PyData)} {g : PyData → Rho → Option Rho} {ft : Rho → M Bool} {fe : Rho → M PyData} (is : List Nat) (hc : X.calm = true) (hN : X.N.Nodup) (hy : X.N[i]? = some y) (hyl : X.env.scope.names.lookup y = some .local)
    (hsw : swapsWith (.ListComp elt [⟨tg, iter, ifs, 0⟩] scope pos) (some (.Name y py)) spos.line X.env = pure true) (hi : PI X tg iter (tQI X W Wx fi)) (ok : BlkOk X.N X.env.scope scope own)
    (hg : ∀ (s : Shared) (H : Hp) (C : Addr) (cl : List (Str × Addr)) (fp : List Addr), PG (X.blk s H scope (compEnvC scope cl C X.env) fp) tg (tQG X W (own.map (·.2)) g))
    (ht : ∀ (s : Shared) (H : Hp) (C : Addr) (cl : List (Str × Addr)) (fp : List Addr), PTs (X.blk s H scope (compEnvC scope cl C X.env) fp) ifs (tQT X W W0 ft))
    (he : ∀ (s : Shared) (H : Hp) (C : Addr) (cl : List (Str × Addr)) (fp : List Addr), PE (X.blk s H scope (compEnvC scope cl C X.env) fp) elt (tQ X W W0 fe)) (hs : ∀ x, foldedSetIterable iter X.env x = pure x) :
    PS X (.Assign [.Name y py] (.ListComp elt [⟨tg, iter, ifs, 0⟩] scope pos) spos) (tQS X W Wx (asgN is (listN fi (own.map (·.2)) g ft fe) i)) := by
  refine ⟨fun pins s σ H D I h => ?_⟩
  have hl : i < σ.length := by rw [I.len]; exact (List.getElem?_eq_some_iff.mp hy).1
  exact (ps_setLc hc hN hy hyl hsw hi ok hg ht he hs).run pins s σ H D I (lc_readN (asgN_read hl h))
end
end Q

set_option maxHeartbeats 4000000
namespace Q
open PySem L2
def idx (N : List Str) (x : Str) : Option Nat := N.findIdx? (· == x)
theorem idx_ok {N : List Str} {x : Str} {i : Nat} (h : idx N x = some i) : N[i]? = some x := by
  unfold idx at h
  obtain ⟨hl, he, _⟩ := List.findIdx?_eq_some_iff_getElem.mp h
  rw [List.getElem?_eq_getElem hl]
  have : N[i] = x := by simpa using he
  rw [this]
def kindIs (sc : Scope) (x : Str) (k : NameKind) : Bool := match sc.names.lookup x with | some j => decide (j = k) | none => false
theorem kindIs_ok {sc : Scope} {x : Str} {k : NameKind} (h : kindIs sc x k = true) : sc.names.lookup x = some k := by
  unfold kindIs at h
  cases e : sc.names.lookup x with
  | none => rw [e] at h; cases h
  | some j => rw [e] at h; rw [of_decide_eq_true h]
def okN (x : Str) : Bool := !(x == ("__debug__" : Str)) && !(x == ("__classdict__" : Str)) && decide (x ≠ "__name__")
theorem okN_ok {x : Str} (h : okN x = true) : (x == ("__debug__" : Str)) = false ∧ (x == ("__classdict__" : Str)) = false ∧ x ≠ "__name__" := by
  unfold okN at h
  simp only [Bool.and_eq_true, Bool.not_eq_true', decide_eq_true_eq] at h
  exact ⟨h.1.1, h.1.2, h.2⟩
def visB (sc : Scope) (x : Str) : Bool := kindIs sc x .local || kindIs sc x .cell || kindIs sc x .free
theorem visB_ok {sc : Scope} {x : Str} (h : visB sc x = true) : Vis sc x := by
  unfold visB at h
  simp only [Bool.or_eq_true] at h
  rcases h with (h | h) | h
  · exact .inl (kindIs_ok h)
  · exact .inr (.inl (kindIs_ok h))
  · exact .inr (.inr (kindIs_ok h))
/-! ### shapes of expressions -/
def isStar : Expr → Bool
  | .Starred .. => true
  | _ => false
def isComp : Expr → Bool
  | .ListComp .. => true
  | .SetComp .. => true
  | .DictComp .. => true
  | _ => false
def isSetD : Expr → Bool
  | .Set .. => true
  | _ => false
def isTupD : Expr → Bool
  | .Tuple .. => true
  | _ => false
def plainT : Expr → Bool
  | .UnaryOp .Not _ _ => false
  | .BoolOp .. => false
  | .IfExp .. => false
  | .Compare .. => false
  | _ => true
def plainI : Expr → Bool
  | .Slice .. => false
  | _ => true
theorem star_cons {e : Expr} {es : List Expr} {env : Env} (h : isStar e = false) : starEach (e :: es) env = (false, eval e env) :: starEach es env := by
  cases e <;> first | rfl | cases h
theorem star_none {env : Env} {pos : Pos} : ∀ {es : List Expr}, (es.all fun e => !isStar e) = true → (backTo pos (starEach es env)).any (·.1) = false
  | [], _ => rfl
  | e :: es, h => by
    simp only [List.all_cons, Bool.and_eq_true, Bool.not_eq_true'] at h
    rw [star_cons h.1]
    have ih := star_none (env := env) (pos := pos) (es := es) (by simpa using h.2)
    unfold backTo at ih ⊢
    simpa using ih
theorem star_none' {env : Env} {pos : Pos} : ∀ {es : List Expr}, (es.all fun e => !isStar e) = true → ((backTo pos (starEach es env)).all fun x => !x.1) = true := fun {es} h => by
  have := star_none (env := env) (pos := pos) h
  simp only [List.all_eq_true, List.any_eq_false] at this ⊢
  intro x hx
  have := this x hx
  simpa using this
theorem asg_cons {e : Expr} {es : List Expr} {env : Env} (h : isStar e = false) : assignEach (e :: es) env = (false, assign e env) :: assignEach es env := by
  cases e <;> first | rfl | cases h
theorem asg_len {env : Env} : ∀ {es : List Expr}, (es.all fun e => !isStar e) = true → (assignEach es env).length = es.length ∧ (assignEach es env).findIdx? (·.1) = none
  | [], _ => ⟨rfl, rfl⟩
  | e :: es, h => by
    simp only [List.all_cons, Bool.and_eq_true, Bool.not_eq_true'] at h
    obtain ⟨h1, h2⟩ := asg_len (env := env) (es := es) (by simpa using h.2)
    rw [asg_cons h.1]
    refine ⟨by rw [List.length_cons, List.length_cons, h1], ?_⟩
    rw [List.findIdx?_cons]
    simp only [Bool.false_eq_true, ↓reduceIte, h2, Option.map_none]
theorem plainT_ok {e : Expr} {env : Env} (h : plainT e = true) (whole : Sem Value) : isTrue e env whole = (do let v ← whole; standAt e.pos; holding [v] (truthy v)) := by
  unfold plainT at h
  split at h <;> first | cases h | skip
  rename_i n1 n2 n3 n4
  cases e <;> first | rfl | skip
  case UnaryOp op x p =>
    cases op <;> first | rfl | skip
    exact (n1 x p rfl).elim
  case BoolOp => exact (n2 _ _ _ rfl).elim
  case IfExp => exact (n3 _ _ _ _ rfl).elim
  case Compare => exact (n4 _ _ _ _ rfl).elim
theorem plainI_ok {b : Expr} (h : plainI b = true) : PlainIx b := fun o i => by
  cases b <;> first | rfl | cases h
theorem notComp_swap {e : Expr} {t : Option Expr} {n : Nat} {env : Env} (h : isComp e = false) : swapsWith e t n env = pure false := by
  cases e <;> first | rfl | cases h
theorem notSet_fold {e : Expr} {env : Env} (h : isSetD e = false) (x : Value) : foldedSetIterable e env x = pure x := by
  cases e <;> first | rfl | cases h

end Q

set_option maxHeartbeats 4000000
namespace Q
open PySem PySem.Spec PyProof.Rows L2 LamX
/-! ### lambdas with parameters -/
structure LamP (sc scope : Scope) (ps : List Str) : Prop where
  kind : scope.kind = .function
  co : scope.isCoroutine = false
  gen : scope.isGenerator = false
  own : ∀ y ∈ scope.names, y.2 ≠ .cell ∧ (y.2 = .local → y.1 ∈ ps)
  free : ∀ y ∈ scope.names, y.2 = .free → sc.names.lookup y.1 = some .cell ∨ sc.names.lookup y.1 = some .free
  par : ∀ x ∈ ps, scope.names.lookup x = some .local
def lamPB (sc scope : Scope) (ps : List Str) : Bool :=
  decide (scope.kind = .function) && !scope.isCoroutine && !scope.isGenerator && (scope.names.all fun y => !decide (y.2 = .cell) && (!decide (y.2 = .local) || decide (y.1 ∈ ps)) && (!decide (y.2 = .free) || kindIs sc y.1 .cell || kindIs sc y.1 .free)) && ps.all fun x => kindIs scope x .local
theorem lamP_by {sc scope : Scope} {ps : List Str} (h : lamPB sc scope ps = true) : LamP sc scope ps := by
  unfold lamPB at h
  simp only [Bool.and_eq_true, Bool.or_eq_true, Bool.not_eq_true', decide_eq_true_eq, decide_eq_false_iff_not, List.all_eq_true] at h
  obtain ⟨⟨⟨⟨h1, h2⟩, h3⟩, h4⟩, h5⟩ := h
  refine ⟨h1, h2, h3, fun y hy => ⟨(h4 y hy).1.1, fun e => ?_⟩, fun y hy e => ?_, fun x hx => kindIs_ok (h5 x hx)⟩
  · rcases (h4 y hy).1.2 with z | z
    · exact absurd e z
    · exact z
  · rcases (h4 y hy).2 with (z | z) | z
    · exact absurd e z
    · exact .inl (kindIs_ok z)
    · exact .inr (kindIs_ok z)
section
variable {X : Cx} {pins : List (Addr × Obj)} {σ σ' : L2.St} {H HZ : Hp} {s s1 : Shared} {ps : List Str} {us : List Value}
theorem LamP.has {scope : Scope} (L : LamP X.env.scope scope ps) (ok : X.Ok) (y : Str × NameKind) (hy : y ∈ scope.names) (e : y.2 = .free) : ∃ c, X.env.cells.lookup y.1 = some c :=
  ok.has _ (L.free y hy e)
/-- the lambda's body begins: its parameters in their slots -/
theorem lam_begins {A : Around} {outer : List Env} {E : XK} {scope : Scope} {f c' : Addr} {h₁ : Heap} {tk : Nat} (I : Inv X pins σ H s) (L : LamP X.env.scope scope ps) (e0 : Env0 X.prog X.w X.K X.mg X.base A outer s1 HZ) (hd : A.handled = none)
    (un : Un (frs X.stack) [] H HZ s.heap s1.heap) (hns : h₁.Ns s1.heap.objs.size fun y => (ps.zip us).reverse.lookup y) (kp : ∀ b o, s1.heap.get? b = some o → h₁.get? b = some o) (hlen : σ'.length = σ.length)
    (hp : ∀ (i : Nat) (y : Str) (v : V), X.N[i]? = some y → σ'[i]? = some (some v) → y ∈ ps → ∃ u, RelV v u ∧ (ps.zip us).reverse.lookup y = some u) (ho : ∀ (i : Nat) (y : Str) (v : V), X.N[i]? = some y → σ'[i]? = some (some v) → y ∉ ps → σ[i]? = some (some v)) :
    Inv (lamCx X A outer s1 HZ E scope f c') [] σ' HZ { s1 with heap := h₁, toks := tk } := by
  have there := fun y hy e => L.has I.ok y hy e
  have back : ∀ {y c}, (cloFrom X.env.cells scope.names []).lookup y = some c → X.env.cells.lookup y = some c := fun {y c} e => by
    rcases cloFrom_mem (PySem.mem_of_lookup e) with hm | ⟨h1, h2⟩
    · cases hm
    · obtain ⟨d, hdd⟩ := there _ h1 rfl
      have hdd : X.env.cells.lookup y = some d := hdd
      rw [hdd] at h2
      rw [h2]
      exact hdd
  have found : ∀ {y}, scope.names.lookup y = some .free → ∃ c, (cloFrom X.env.cells scope.names []).lookup y = some c := fun {y} hl =>
    mem_lookup (cloFrom_has (cells := X.env.cells) (acc := []) (PySem.mem_of_lookup hl))
  have still : ∀ {c : Addr} {v : Option Value}, H c = none → s.heap.IsCell c v → h₁.IsCell c v := fun {c v} n ⟨o, hoo, hdd⟩ => by
    obtain ⟨sl, q⟩ := un.any hoo n (by simp)
    exact ⟨_, kp _ _ q, hdd⟩
  have none_ex : ∀ b : Addr, b ∉ (lamCx X A outer s1 HZ E scope f c').ex := fun b z => absurd (show b ∈ ([] : List Addr) from z) (by simp)
  refine ⟨⟨e0.mod, L.kind, rfl, rfl, Nat.le_refl _, fun y z c e1 e2 => I.ok.inj y z c (back e1) (back e2), fun y hy => ?_, fun y c z _ => ?_, fun _ => hd, Around.frames_deeper e0.frames, .inr ⟨rfl, rfl⟩, fun b z => absurd z (none_ex b), e0.bs, e0.bsz, fun b _ _ => none_ex b,
      fun b z => absurd z (none_ex b), e0.funs, e0.frf⟩,
    rfl, e0.bare, Un.kept kp, ⟨_, hns, fun i y v e1 e2 e3 => ?_⟩, fun y c e => ?_, e0.hok.fresh (Nat.le_refl _), fun y c e => ?_, fun q hq => absurd (show q ∈ ([] : List (Addr × Obj)) ++ [] from hq) (by simp), e0.hok.kept kp, hlen.trans I.len⟩
  · rcases (show scope.names.lookup y = some .cell ∨ scope.names.lookup y = some .free from hy) with q | q
    · exact absurd rfl (L.own _ (PySem.mem_of_lookup q)).1
    · exact found q
  · exact absurd (show false = true from z) Bool.false_ne_true
  · rcases (show Vis scope y from e3) with k | k | k
    · obtain ⟨u, r, q⟩ := hp i y v e1 e2 ((L.own _ (PySem.mem_of_lookup k)).2 rfl)
      exact ⟨u, r, .inl ⟨k, q⟩⟩
    · exact absurd rfl (L.own _ (PySem.mem_of_lookup k)).1
    · have np : y ∉ ps := fun z => by
        rw [L.par y z] at k
        cases k
      obtain ⟨m, hn, hl⟩ := I.loc
      have fr := L.free _ (PySem.mem_of_lookup k) rfl
      obtain ⟨w', r, q⟩ := hl i y v e1 (ho i y v e1 e2 np) (fr.elim (fun k => .inr (.inl k)) fun k => .inr (.inr k))
      obtain ⟨c2, h2⟩ := found k
      refine ⟨w', r, .inr ⟨.inr k, c2, h2, ?_⟩⟩
      have c1 := back h2
      rcases q with ⟨k', _⟩ | ⟨_, c3, e', z⟩
      · have k' : X.env.scope.names.lookup y = some .local := k'
        rcases fr with k2 | k2
        · rw [show X.env.scope.names.lookup y = _ from k2] at k'; cases k'
        · rw [show X.env.scope.names.lookup y = _ from k2] at k'; cases k'
      · rw [c1] at e'
        cases e'
        exact still (I.freeC y _ c1) z
  · obtain ⟨w', z⟩ := I.cell y c (back e)
    exact ⟨w', still (I.freeC y c (back e)) z⟩
  · obtain ⟨v, o, ho, hd⟩ := I.cell y c (back e)
    exact un.free c o ho (I.freeC y c (back e)) (by simp)
/-- the lambda at f is run, in the context of the def that got it -/
theorem lam_runs {envg : Env} {f c' : Addr} {pm ctv : Value} {params : Arguments} {body : Expr} {scope : Scope} {k : Nat} {E : XK} {tb : TE} {Q : VK} {dV doc : Value} {us0 : List Value}
    (I : Inv X pins σ H s) (L : LamP X.env.scope scope ps) (hf : s1.heap.get? f = some (PySem.W.kdv_obj "<lambda>" (X.env.qual ++ "<lambda>") params (.expr body) scope (cloFrom X.env.cells scope.names []) dV doc pm c' ctv))
    (un : Un (frs X.stack) [] H HZ s.heap s1.heap) (hco : s1.heap.CodeRec (.ref c') (X.env.qual ++ "<lambda>")) (e0 : Env0 X.prog X.w X.K X.mg X.base (X.A.deeper envg) (envg :: X.stack) s1 HZ) (nl : s1.heap.NoLimit)
    (hbind : BindsTo s1 (PySem.W.kdv_fn "<lambda>" (X.env.qual ++ "<lambda>") params (.expr body) scope (cloFrom X.env.cells scope.names []) dV doc pm (.ref c') ctv) ⟨us0, []⟩ (ps.zip us)) (hr : Room (k + 1) (X.A.deeper envg)) (hlen : σ'.length = σ.length)
    (hp : ∀ (i : Nat) (y : Str) (v : V), X.N[i]? = some y → σ'[i]? = some (some v) → y ∈ ps → ∃ u, RelV v u ∧ (ps.zip us).reverse.lookup y = some u) (ho : ∀ (i : Nat) (y : Str) (v : V), X.N[i]? = some y → σ'[i]? = some (some v) → y ∉ ps → σ[i]? = some (some v))
    (hbody : Room k ((X.A.deeper envg).deeper (lamEnv X scope s1.heap.objs.size f c')) → PE (lamCx X (X.A.deeper envg) (envg :: X.stack) s1 HZ E scope f c') body tb) (ht : tb σ' HZ Q) :
    codeAny (model X.prog X.w) (X.A.deeper envg) (.call (.ref f) ⟨us0, []⟩) (CR (L2.CX X.prog X.w) (envg :: X.stack) X.prog X.w HZ s1 Q E) s1 := by
  refine PySem.W.kla_callFunE hr.depth hf rfl L.co L.gen rfl hco ?_
  refine hbind _ _ _ _ (wpAny_newFunctionEnv (fun y hy => (L.own y hy).1) (fun y hy => L.par _ (List.of_mem_zip hy).1) (fun h₁ hns hsb => ⟨nl.fresh _ hsb, ?_⟩) L.kind)
  show codeAny _ _ (.expr body (lamEnv X scope s1.heap.objs.size f c')) _ _
  have kp : ∀ b o, s1.heap.get? b = some o → h₁.get? b = some o := fun b o e => hsb.extBut b o (Nat.ne_of_lt (Heap.lt_size e)) (Heap.get?_push_of_some _ e)
  have J : Inv (lamCx X (X.A.deeper envg) (envg :: X.stack) s1 HZ E scope f c') [] σ' HZ { s1 with heap := h₁, toks := s1.toks + (ps.zip us).length } := lam_begins I L e0 hr.hd un hns kp hlen hp ho
  refine PySem.W.kla_codeExpr (wpAny_mono ((hbody (hr.deeper _)).run [] _ _ HZ Q J ht) (fun v s' hq => ?_) fun e s' hq => hq)
  obtain ⟨w', H', J', rv, q⟩ := hq
  exact ⟨w', H', J'.os, J'.bare, J'.base, J'.hok, rv, q⟩
end
end Q

set_option maxHeartbeats 4000000
namespace Q
open PySem PySem.Spec PyProof.Rows L2 LamX
/-- the world of a def that is called with a lambda, or with data -/
def Wd.inner (W : Wd) (xo : Addr → Prop) (H : Hp) (f : Addr) : Wd := ⟨W.T, W.mach, xo, H, f⟩
section
variable {K : PySem.W.Frag} {Wc : Wd} {xoC xoZ : Addr → Prop} {H H1 : Hp} {σ σZ : L2.St} {ρ ρZ : Rho} {ω ω1 : Om} {f : Addr}
/-- the names of the def that handed a lambda on, seen from the def that got it -/
theorem Good.lift (gC : Good K Wc xoC H σ ρ ω) (gZ : Good K (Wc.inner xoC H f) xoZ H1 σZ ρZ ω1) : Good K Wc xoZ H1 σ ρ ω1 := by
  have ev : Ev (Wc.inner xoC H f) xoC H xoZ H1 := gZ.ev
  have noA : ∀ a, ¬ Wc.ex a → ¬ (Wc.inner xoC H f).A xoC a := fun a n z => z.elim n fun z => z.2 z.1
  refine ⟨fun i e h => ?_, gZ.st, gC.eb, fun a h => gZ.sub a (gC.sub a h), gZ.tr, ?_, gC.apart⟩
  · obtain ⟨v, hv, ok⟩ := gC.slot i e h
    refine ⟨v, hv, ?_⟩
    cases e with
    | dat d => exact Dt.ev (W := Wc.inner xoC H f) gZ.eb (fun a z => z) ev ok
    | own ds =>
      obtain ⟨p, vs, e1, x, n, q, l⟩ := ok
      exact ⟨p, vs, e1, gZ.sub p x, n, ev.keep p _ q (.inl (noA p fun z => n (gC.eb p z))) (fun _ z => nomatch z), DtL.ev (W := Wc.inner xoC H f) gZ.eb (fun a z => z) ev l⟩
    | mach => exact ok
    | clo => exact ok
    | exc _ _ => trivial
  · refine gC.ev.trans ⟨fun a o h n t => ev.keep a o h (n.imp (fun n => noA a fun z => n (.inl z)) id) t, ev.new, ev.grown⟩
theorem not_ex_ext {W : Wd} {ω : Om} {H : Hp} {a : Addr} {φ : Heap → Prop} (st : W.St ω H) (h : H a = some (.ext φ)) : ¬ W.ex a := fun z => by
  have h2 := st.2
  unfold Wd.ex at z
  cases e : W.mach with
  | none => rw [e] at z; exact z
  | some m =>
    obtain ⟨p, c, g⟩ := m
    rw [e] at z h2
    cases ω with
    | none => exact h2
    | some mm =>
      obtain ⟨q1, q2, q3, _⟩ := h2
      rcases z with z | z | z
      · rw [z, q1] at h; cases h
      · rw [z, q2] at h; cases h
      · rw [z, q3] at h; cases h
end
/-- a name that holds a lambda is called -/
def cloM (i : Nat) (F : List PyData → M PyData) (fs : Rho → M (List PyData)) : Rho → M PyData := fun ρ => match ρ[i]? with
  | some (some .clo) => fs ρ >>= F
  | _ => bad
theorem cloM.inv {i : Nat} {F : List PyData → M PyData} {fs : Rho → M (List PyData)} {ρ : Rho} {ω : Om} {P : PyData → Om → Prop} {E : Str → List (Str × PyData) → Om → Prop} (h : RunP (cloM i F fs ρ ω) P E) :
    ρ[i]? = some (some .clo) ∧ RunP ((fs ρ >>= F) ω) P E := by
  unfold cloM at h
  cases e : ρ[i]? with
  | none => rw [e] at h; exact h.elim
  | some x =>
    cases x with
    | none => rw [e] at h; exact h.elim
    | some en =>
      cases en with
      | own ds => rw [e] at h; exact h.elim
      | dat d => rw [e] at h; exact h.elim
      | mach => rw [e] at h; exact h.elim
      | clo => rw [e] at h; exact ⟨rfl, h⟩
      | exc c f => rw [e] at h; exact h.elim
def CloOk (Z : Cx) (W : Wd) (a : Str) (F : List PyData → M PyData) : Prop :=
  ∀ (pn : List (Addr × Obj)) (xe : Value → Shared → Prop) (Wx : WX), Takes (Z.tr pn xe) Wx → ∀ (es : List Expr) (fs : Rho → M (List PyData)) (p1 p2 : Pos) (i : Nat), Z.N[i]? = some a → Vis Z.env.scope a → okN a = true → (es.all fun e => !isStar e) = true → (es = [] → fs = fun _ => pure []) →
    PA (Z.tr pn xe) es (tQA (Z.tr pn xe) W Wx fs) → PE (Z.tr pn xe) (.Call (.Name a p1) es [] p2) (tQ (Z.tr pn xe) W Wx (cloM i F fs))
/-- data put into places -/
def putR : Rho → List Nat → List PyData → Rho
  | ρ, i :: is, d :: ds => putR (ρ.set i (some (.dat d))) is ds
  | ρ, _, _ => ρ
def lamF (is : List Nat) (fb : Rho → M PyData) (ρ : Rho) (ds : List PyData) : M PyData := do
  need (decide (ds.length = is.length))
  fb (putR ρ is ds)
/-- the parameters: none, or one, or one that has a default and gets nothing -/
def parOk (X : Cx) (ps : List Str) (is : List Nat) : Prop := (ps = [] ∧ is = []) ∨ (∃ x i, ps = [x] ∧ is = [i] ∧ X.N[i]? = some x) ∨ ∃ x, ps = [x] ∧ is = [] ∧ ∀ i : Nat, X.N[i]? ≠ some x
def plainPs (params : Arguments) (ps : List Str) : Prop := ∀ (q : Str) (body : Expr) (scope : Scope) (cl : List (Str × Addr)) (pm cv ctv : Value) (us : List Value), us.length = ps.length → bindArgs (PySem.W.kla_fn "<lambda>" q params body scope cl pm cv ctv) ⟨us, []⟩ = pure (ps.zip us)
section
variable {X : Cx} {pins : List (Addr × Obj)} {σ : L2.St} {H : Hp} {s : Shared} {ps : List Str} {is : List Nat}
theorem clo_made {Ng : List Str} {qg : Str} {sg : Scope} {g f c' : Addr} {cdg pm ctv : Value} {params : Arguments} {body : Expr} {scope : Scope} {k : Nat} {a : Str} {Eg : XK} {dV doc : Value} {Wc : Wd} {xoC : Addr → Prop} {ρC : Rho} {ωC : Om} {fb : Rho → M PyData}
    (I : Inv X pins σ H s) (L : LamP X.env.scope scope ps) (hnd : X.N.Nodup) (hpar : parOk X ps is) (hf : s.heap.get? f = some (PySem.W.kdv_obj "<lambda>" (X.env.qual ++ "<lambda>") params (.expr body) scope (cloFrom X.env.cells scope.names []) dV doc pm c' ctv)) (hfn : H f = none) (hfr : f ∉ frs X.stack)
    (hco : H c' = some (CodeO c' (X.env.qual ++ "<lambda>")))
    (hbind : ∀ s2 : Shared, (∀ b o, s.heap.get? b = some o → H b = none → b ∉ frs X.stack → s2.heap.get? b = some o) → ∀ us : List Value, us.length = is.length → ∃ us' : List Value, us'.length = ps.length ∧ (is.length = ps.length → us' = us) ∧
      BindsTo s2 (PySem.W.kdv_fn "<lambda>" (X.env.qual ++ "<lambda>") params (.expr body) scope (cloFrom X.env.cells scope.names []) dV doc pm (.ref c') ctv) ⟨us, []⟩ (ps.zip us')) (gC : Good X.K Wc xoC H σ ρC ωC) (hr : Room (k + 2) X.A)
    (hbody : ∀ (A : Around) (outer : List Env) (s : Shared) (H : Hp) (E : XK), A.guards = X.A.guards → Room k (A.deeper (lamEnv X scope s.heap.objs.size f c')) → PE (lamCx X A outer s H E scope f c') body (tQ (lamCx X A outer s H E scope f c') Wc (fun cls d _ H => E cls d H) fb)) :
    CloOk (cxOf (L2.CX X.prog X.w) X.prog X.w X.K X.mg X.base Ng qg sg g cdg X.A X.stack s H Eg) (Wc.inner xoC H f) a (lamF is fb ρC) := by
  intro pn xe Wx tk es fs p1 p2 i hi hv hok hst hnil ha
  obtain ⟨n1, n2, n3⟩ := okN_ok hok
  generalize hZ : cxOf (L2.CX X.prog X.w) X.prog X.w X.K X.mg X.base Ng qg sg g cdg X.A X.stack s H Eg = Z at *
  refine ⟨fun pinsZ sZ σZ HZ Q IZ h => ?_⟩
  obtain ⟨xoZ, ρZ, ωZ, gZ, r⟩ := h
  obtain ⟨hclo, r⟩ := cloM.inv r
  obtain ⟨v0, hv0, ev0⟩ := gZ.slot i _ hclo
  have ev0 : v0 = .ref f := ev0
  subst ev0
  -- the call itself, its arguments known
  have core : ∀ (s2 : Shared) (H2 : Hp) (us : List Value) (vs : List V) (ds : List PyData) (ω2 : Om), Inv (Z.tr pn xe) pinsZ σZ H2 s2 → Vals vs us → DtL X.K xoZ H2 ds vs → Step (Wc.inner xoC H f) HZ H2 → (Wc.inner xoC H f).St ω2 H2 →
      RunP (lamF is fb ρC ds ω2) (fun d ω' => ∀ v H', Step (Wc.inner xoC H f) HZ H' → (Wc.inner xoC H f).St ω' H' → Dt X.K xoZ H' d v → Q v H') (ExP (Z.tr pn xe) (Wc.inner xoC H f) Wx xoZ σZ HZ) →
      wpAny (model X.prog X.w) (Z.tr pn xe).A (call (.ref f) us) (EP (Z.tr pn xe) pinsZ σZ Q) (Z.tr pn xe).xe s2 := by
    subst hZ
    intro s2 H2 us vs ds ω2 I2 rv l st t run
    have g2 := gZ.step st t
    have gL := Good.lift gC g2
    have un : Un (frs X.stack) [] H H2 s.heap s2.heap := I2.base
    have of2 := I2.base.keep f _ hf hfn hfr (fun z => nomatch (show f ∈ ([] : List Addr) from z))
    have ext' : H2 c' = some (CodeO c' (X.env.qual ++ "<lambda>")) := (Ev.step (W := Wc.inner xoC H f) g2.ev).keep c' _ hco (.inl (not_ex_ext gC.st hco)) (codeO_ne)
    obtain ⟨⟨oc, vs', t', hoc, hdc, hvc⟩, _, _⟩ := I2.hok c' _ ext'
    obtain ⟨hl, run⟩ := (RunP.bind run).need
    have hl : ds.length = is.length := of_decide_eq_true hl
    have hr1 : Room (k + 1) (X.A.deeper (envOfC qg sg s.heap.objs.size g cdg)) := hr.deeper _
    have hul : us.length = is.length := by rw [← rv.length, l.length, hl]
    obtain ⟨us', hlu, same', bt⟩ := hbind s2 (fun b o e n fr => I2.base.keep b o e n fr (fun z => nomatch (show b ∈ ([] : List Addr) from z))) us hul
    obtain ⟨σ', hlen, hp, ho, gl⟩ : ∃ σ' : L2.St, σ'.length = σ.length ∧ (∀ (i : Nat) (y : Str) (v : V), X.N[i]? = some y → σ'[i]? = some (some v) → y ∈ ps → ∃ u, RelV v u ∧ (ps.zip us').reverse.lookup y = some u) ∧
        (∀ (i : Nat) (y : Str) (v : V), X.N[i]? = some y → σ'[i]? = some (some v) → y ∉ ps → σ[i]? = some (some v)) ∧ Good X.K Wc xoZ H2 σ' (putR ρC is ds) ω2 := by
      rcases hpar with ⟨e1, e2⟩ | ⟨x, j, e1, e2, hj⟩ | ⟨x, e1, e2, hx⟩
      · subst e1 e2
        have e3 : ds = [] := List.eq_nil_of_length_eq_zero hl
        subst e3
        exact ⟨σ, rfl, fun _ _ _ _ _ z => absurd z (by simp), fun _ _ _ _ z _ => z, gL⟩
      · subst e1 e2
        have eu := same' rfl
        subst eu
        rcases ds with _ | ⟨d, _ | ⟨d2, r2⟩⟩
        · cases hl
        · obtain ⟨v, rfl, hd⟩ := one_of l
          cases rv with
          | cons r1 r2 =>
            cases r2
            rename_i u
            have hjl : j < σ.length := by rw [I.len]; exact (List.getElem?_eq_some_iff.mp hj).1
            have same : ∀ {i : Nat} {y : Str}, X.N[i]? = some y → y = x → i = j := fun {i y} h1 h2 => by
              subst h2
              exact (List.getElem?_inj (List.getElem?_eq_some_iff.mp h1).1 hnd).mp (h1.trans hj.symm)
            refine ⟨σ.set j (some v), List.length_set, fun i y w h1 h2 h3 => ?_, fun i y w h1 h2 h3 => ?_, gL.set hjl hd⟩
            · have ey : y = x := by simpa using h3
              have := same h1 ey
              subst this ey
              rw [List.getElem?_set_self hjl] at h2
              cases h2
              exact ⟨u, r1, by simp⟩
            · have ni : j ≠ i := fun z => by
                subst z
                rw [hj] at h1
                cases h1
                exact h3 (by simp)
              rw [List.getElem?_set_ne ni] at h2
              exact h2
        · cases hl
      · subst e1 e2
        have e3 : ds = [] := List.eq_nil_of_length_eq_zero hl
        subst e3
        refine ⟨σ, rfl, fun i y _ h1 _ h3 => ?_, fun _ _ _ _ z _ => z, gL⟩
        have ey : y = x := by simpa using h3
        rw [ey] at h1
        exact absurd h1 (hx i)
    have rc := lam_runs (E := WE Wx σZ) (Q := Q) (tb := tQ (lamCx X (X.A.deeper (envOfC qg sg s.heap.objs.size g cdg)) (envOfC qg sg s.heap.objs.size g cdg :: X.stack) s2 H2 (WE Wx σZ) scope f c') Wc (fun cls d _ H => WE Wx σZ cls d H) fb)
      I L of2 un ⟨c', oc, vs', t', rfl, hoc, hdc, hvc⟩ I2.env0 I2.nolimit bt hr1 hlen hp ho (fun hr' => hbody _ _ _ _ _ rfl hr') ⟨xoZ, _, ω2, gl, RunP.mono run (fun d o z v H' s' t' q => z v H' (st.trans ⟨s'.keep, s'.new⟩) t' q) fun c fs o z cls dd H' x' s' t' => z cls dd H' x' (st.trans ⟨s'.keep, s'.new⟩) t'⟩
    refine wpAny_call (codeAny_mono rc fun res s' hq => ?_)
    cases res with
    | error er => exact passAt tk σZ pinsZ H2 s2 er s' I2 hq
    | ok fl =>
      cases fl with
      | ret u => exact I2.after hq
      | next => exact hq.elim
      | brk => exact hq.elim
      | cont => exact hq.elim
  have hprog : Z.prog = X.prog := by rw [← hZ]; rfl
  have hw : Z.w = X.w := by rw [← hZ]; rfl
  have hK : Z.K = X.K := by rw [← hZ]; rfl
  subst hZ
  have pv : PE ((cxOf (L2.CX X.prog X.w) X.prog X.w X.K X.mg X.base Ng qg sg g cdg X.A X.stack s H Eg).tr pn xe) (.Name a p1) _ := pe_var (i := i) hi hv n1 n2
  refine wpAny_Call_Name_kw (thn (pv.run pinsZ sZ σZ HZ (fun v H1 => v = .ref f ∧ H1 = HZ) IZ ⟨.ref f, hv0, rfl, rfl⟩) fun u s1 ⟨v, H1, I1, r1, q1⟩ => ?_)
  obtain ⟨ev, eH⟩ := q1
  subst ev
  rw [eH] at I1
  obtain rfl : u = Value.ref f := r1
  have of1 := I1.base.keep f _ hf hfn hfr (fun z => nomatch (show f ∈ ([] : List Addr) from z))
  cases es with
  | nil =>
    refine PySem.W.callWith_F0 ⟨_, _, _, _, of1⟩ ?_
    rw [hnil rfl] at r
    exact core s1 HZ [] [] [] ωZ I1 .nil .nil (Step.refl _ _) gZ.st r
  | cons e rest =>
    have hst' := hst
    simp only [List.all_cons, Bool.and_eq_true, Bool.not_eq_true'] at hst'
    refine PySem.W.callWith_F ⟨_, _, _, _, of1⟩ ?_ (star_cons hst'.1) (star_none (by simpa using hst'.2))
    refine thn (ha.run p2 pinsZ s1 σZ HZ (fun vs H2 => ∃ ds ω2, Step (Wc.inner xoC H f) HZ H2 ∧ (Wc.inner xoC H f).St ω2 H2 ∧ DtL X.K xoZ H2 ds vs ∧
      RunP (lamF is fb ρC ds ω2) (fun d ω' => ∀ v H', Step (Wc.inner xoC H f) HZ H' → (Wc.inner xoC H f).St ω' H' → Dt X.K xoZ H' d v → Q v H') (ExP _ (Wc.inner xoC H f) Wx xoZ σZ HZ)) I1 ⟨xoZ, ρZ, ωZ, gZ, RunP.mono (RunP.bind r) (fun ds o z vs H2 s' t' q => ⟨ds, o, s', t', q, z⟩) fun _ _ _ e => e⟩) fun us s2 ⟨vs, H2, I2, r2, ds, ω2, st, t, l, run⟩ => ?_
    refine ⟨⟨_, _, _, _, I2.base.keep f _ hf hfn hfr (fun z => nomatch (show f ∈ ([] : List Addr) from z))⟩, ?_⟩
    exact core s2 H2 us vs ds ω2 I2 r2 l st t run
end
end Q

set_option maxHeartbeats 4000000
namespace Q
open PySem PySem.Spec PyProof.Rows L2 LamX
/-! ### what is handed on, one by one -/
def EntP (K : PySem.W.Frag) (W : Wd) (xo : Addr → Prop) (H : Hp) (v : V) : Ent → Prop
  | .dat d => Dt K xo H d v
  | .mach => ∃ p c g, W.mach = some (p, c, g) ∧ v = .ref p
  | _ => False
theorem EntP.step {K : PySem.W.Frag} {W : Wd} {xo : Addr → Prop} {H H1 : Hp} (eb : ∀ a, W.ex a → xo a) (s : Step W H H1) {v : V} {e : Ent} (h : EntP K W xo H v e) : EntP K W xo H1 v e := by
  cases e with
  | dat d => exact Dt.step eb s h
  | mach => exact h
  | own _ => exact h
  | clo => exact h
  | exc _ _ => exact h
theorem EtL.consP {K : PySem.W.Frag} {W : Wd} {xo : Addr → Prop} {H : Hp} {v : V} {e : Ent} {es : List Ent} {vs : List V} (h : EntP K W xo H v e) (t : EtL K W xo H es vs) : EtL K W xo H (e :: es) (v :: vs) := by
  simp only [EtL]
  refine ⟨v, vs, rfl, ?_, t⟩
  cases e <;> exact h
def tQ1 (X : Cx) (W : Wd) (Wx : WX) (f : Rho → M Ent) : TE := fun σ H Q => ∃ xo ρ ω, Good X.K W xo H σ ρ ω ∧
  RunP (f ρ ω) (fun e ω' => ∀ v H', Step W H H' → W.St ω' H' → EntP X.K W xo H' v e → Q v H') (ExP X W Wx xo σ H)
section
variable {X : Cx} {W : Wd} {Wx : WX}
theorem qh_any {e : Expr} {f : Rho → M PyData} (h : PE X e (tQ X W Wx f)) : PE X e (tQ1 X W Wx fun ρ => do let d ← f ρ; pure (.dat d)) := by
  refine PE.weak h fun σ H Q hq => ?_
  obtain ⟨xo, ρ, ω, g, r⟩ := hq
  exact ⟨xo, ρ, ω, g, RunP.mono (RunP.bind r) (fun d o z v H' s t q => (RunP.ret z) v H' s t q) fun _ _ _ e => e⟩
theorem qh_bad {e : Expr} : PE X e (tQ1 X W Wx fun _ => bad) := ⟨fun _ _ _ _ _ _ h => by obtain ⟨xo, ρ, ω, g, r⟩ := h; exact r.elim⟩
def nameH (i : Nat) : Rho → M Ent := fun ρ => match ρ[i]? with
  | some (some .mach) => pure .mach
  | some (some (.dat d)) => pure (.dat d)
  | _ => bad
theorem qh_name {i : Nat} {x : Str} {px : Pos} (hN : X.N[i]? = some x) (hv : Vis X.env.scope x) (hd : (x == ("__debug__" : Str)) = false) (hcd : (x == ("__classdict__" : Str)) = false) : PE X (.Name x px) (tQ1 X W Wx (nameH i)) := by
  refine PE.weak (pe_var hN hv hd hcd) fun σ H Q h => ?_
  obtain ⟨xo, ρ, ω, g, r⟩ := h
  have e0 : nameH i ρ = match ρ[i]? with | some (some .mach) => pure .mach | some (some (.dat d)) => pure (.dat d) | _ => bad := rfl
  rw [e0] at r
  cases e : ρ[i]? with
  | none => rw [e] at r; exact r.elim
  | some en =>
    cases en with
    | none => rw [e] at r; exact r.elim
    | some en =>
      obtain ⟨v, hv1, ok⟩ := g.slot i _ e
      refine ⟨v, hv1, ?_⟩
      rw [e] at r
      cases en with
      | own ds => exact r.elim
      | clo => exact r.elim
      | exc a b => exact r.elim
      | mach => exact (RunP.ret r) v H (Step.refl W H) g.st ok
      | dat d => exact (RunP.ret r) v H (Step.refl W H) g.st ok
def consH (f : Rho → M Ent) (fs : Rho → M (List Ent)) : Rho → M (List Ent) := fun ρ => do
  let e ← f ρ
  let es ← fs ρ
  pure (e :: es)
theorem qx_consH {e : Expr} {es : List Expr} {f : Rho → M Ent} {fs : Rho → M (List Ent)} (ha : PE X e (tQ1 X W Wx f)) (hr : PA X es (tQE X W Wx fs)) (hs : starEach (e :: es) X.env = (false, eval e X.env) :: starEach es X.env) :
    PA X (e :: es) (tQE X W Wx (consH f fs)) := by
  refine PA.weak (pa_cons ha hr hs) fun σ H Q h => ?_
  obtain ⟨xo, ρ, ω, g, r⟩ := h
  refine ⟨xo, ρ, ω, g, RunP.mono (RunP.bind r) (fun d ω1 r1 v H1 s t q => ?_) fun _ _ _ e => e⟩
  refine ⟨xo, ρ, ω1, g.step s t, RunP.mono (RunP.bind r1) (fun ds ω2 r2 vs H2 s2 t2 q2 => ?_) fun _ _ _ e => e.step s⟩
  exact (RunP.ret r2) (v :: vs) H2 (s.trans s2) t2 (.consP (q.step g.exo s2) q2)
end
/-! ### defs that get a lambda, the last of what they get -/
structure Hof (P : Program) (w : World) (K : PySem.W.Frag) (mg : Str → Option Value) (base : Heap) (T : List (Addr × Str)) (k : Nat) (x : Str) (g : Addr) (fd : FuncData) (ps Ng : List Str) (a qg : Str) (sg : Scope) (cdg : Value) (FF : (List PyData → M PyData) → List Ent → M PyData) : Prop where
  gm : mg x = some (.ref g)
  kp : PySem.W.keepIn K (.ref g) = true
  bd : L2.Binds K fd (ps ++ [a]) []
  len : ∀ F es ω P E, RunP (FF F es ω) P E → es.length = ps.length
  go : ∀ (F : List PyData → M PyData) (A : Around) (outer : List Env) (s : Shared) (H : Hp) (us : List Value) (vs : List V) (Q : VK) (E : XK) (W : Wd) (es : List Ent) (ω : Om), Room k A → A.guards = some [] → Env0 P w K mg base A outer s H → BindsTo s fd ⟨us, []⟩ ((ps ++ [a]).zip us) → Vals (vs ++ [.ref W.lam]) us →
    W.T = T → W.h0 = H → EtL K W W.b H es vs → W.St ω H → (∀ a, W.ex a → W.b a) → (∀ a, W.b a → H a ≠ none) → CloOk (cxOf (L2.CX P w) P w K mg base Ng qg sg g cdg A outer s H E) W a F →
    RunP (FF F es ω) (fun d ω' => ∀ v H', Step W H H' → W.St ω' H' → Dt K W.b H' d v → Q v H')
      (fun c fs ω' => ∀ cls dd H', ((∃ C, cls = .ref C ∧ mg c = some (.ref C)) ∧ ∃ gs : List (Str × V), H' dd = some (.xd gs) ∧ gs.map (·.1) = fs.map (·.1) ∧ DtL K W.b H' (fs.map (·.2)) (gs.map (·.2))) → Step W H H' → W.St ω' H' → E cls (some dd) H') →
    codeAny (model P w) A (.call (.ref g) ⟨us, []⟩) (CR (L2.CX P w) outer P w H s Q E) s
/-- the names of such a def at its start -/
theorem good_startH {K : PySem.W.Frag} {N : List Str} {W : Wd} {H : Hp} {es : List Ent} {vs : List V} {ω : Om} (l : EtL K W W.b H es vs) (st : W.St ω H) (eb : ∀ a, W.ex a → W.b a) (tr : ∀ a, W.b a → H a ≠ none) (h0 : W.h0 = H) (hN : es.length < N.length) :
    Good K W W.b H (L2.start N (vs ++ [.ref W.lam])) (es.map some ++ (some .clo :: List.replicate (N.length - es.length - 1) none)) ω := by
  have g := good_start (N := N) l st eb tr h0
  have hvl : vs.length = es.length := l.length
  have e1 : (es.map some ++ (some Ent.clo :: List.replicate (N.length - es.length - 1) none) : Rho) = (es.map some ++ List.replicate (N.length - es.length) none : Rho).set es.length (some .clo) := by
    obtain ⟨m, hm⟩ : ∃ m, N.length - es.length = m + 1 := ⟨N.length - es.length - 1, by omega⟩
    rw [hm, List.replicate_succ, List.set_append_right _ _ (by simp)]
    simp
  have e2 : L2.start N (vs ++ [.ref W.lam]) = (L2.start N vs).set vs.length (some (.ref W.lam)) := by
    unfold L2.start
    obtain ⟨m, hm⟩ : ∃ m, N.length - vs.length = m + 1 := ⟨N.length - vs.length - 1, by omega⟩
    have hm2 : N.length - (vs ++ [V.ref W.lam]).length = m := by simp; omega
    rw [hm, hm2, List.replicate_succ, List.set_append_right _ _ (by simp)]
    simp
  rw [e1, e2]
  have hσ : vs.length < (L2.start N vs).length := by
    unfold L2.start
    simp
    omega
  refine ⟨fun i e q => ?_, g.st, g.eb, g.sub, g.tr, g.ev, fun i j ds us v h1 h2 h3 h4 => ?_⟩
  · by_cases hi : es.length = i
    · subst hi
      rw [List.getElem?_set_self (by simp; omega)] at q
      cases q
      exact ⟨_, by rw [← hvl, List.getElem?_set_self hσ], rfl⟩
    · rw [List.getElem?_set_ne hi] at q
      obtain ⟨v, hv, ok⟩ := g.slot i e q
      exact ⟨v, by rw [List.getElem?_set_ne (by rw [hvl]; exact hi)]; exact hv, ok⟩
  · have ni : ∀ {i : Nat} {ds : List PyData}, ((es.map some ++ List.replicate (N.length - es.length) none : Rho).set es.length (some Ent.clo))[i]? = some (some (.own ds)) → es.length ≠ i := fun {i ds} q e => by
      subst e
      rw [List.getElem?_set_self (by simp; omega)] at q
      cases q
    have n1 := ni h1
    have n2 := ni h2
    rw [List.getElem?_set_ne n1] at h1
    rw [List.getElem?_set_ne n2] at h2
    rw [List.getElem?_set_ne (by rw [hvl]; exact n1)] at h3
    rw [List.getElem?_set_ne (by rw [hvl]; exact n2)] at h4
    exact g.apart i j ds us v h1 h2 h3 h4
def callH (ar n : Nat) (fb : (List PyData → M PyData) → Rho → M Fw) (F : List PyData → M PyData) (es : List Ent) : M PyData := do
  need (decide (es.length = ar))
  let fl ← fb F (es.map some ++ (some .clo :: List.replicate (n - es.length - 1) none))
  match fl with
  | .rt d => pure d
  | .nx _ => pure .none
  | _ => bad
/-- the rule for such a def -/
theorem hof_rule {P : Program} {w : World} {K : PySem.W.Frag} {mg : Str → Option Value} {base : Heap} {T : List (Addr × Str)} {x qual a : Str} {st : Stmt} {g : Addr} {fd : FuncData} {N ps : List Str} {k : Nat} {fb : (List PyData → M PyData) → Rho → M Fw} (F0 : Fun K x qual st g fd) (S : FnScope N (ps ++ [a]) (defScope st))
    (gm : mg x = some (.ref g)) (kp : PySem.W.keepIn K (.ref g) = true) (bd : L2.Binds K fd (ps ++ [a]) [])
    (body : ∀ (F : List PyData → M PyData) (cdv : Value) (A : Around) (outer : List Env) (s : Shared) (H : Hp) (E : XK) (W : Wd), W.T = T → fd.code = cdv → CloOk (cxOf (L2.CX P w) P w K mg base N qual (defScope st) g cdv A outer s H E) W a F → Room k (A.deeper (PyProof.Rows.envOfC qual (defScope st) s.heap.objs.size g cdv)) →
      (A.deeper (PyProof.Rows.envOfC qual (defScope st) s.heap.objs.size g cdv)).guards = some [] →
      PSs (cxOf (L2.CX P w) P w K mg base N qual (defScope st) g cdv A outer s H E) (defBody st) (tQS (cxOf (L2.CX P w) P w K mg base N qual (defScope st) g cdv A outer s H E) W (fun cls d _ H => E cls d H) (fb F))) :
    ∃ cdg, Hof P w K mg base T (k + 1) x g fd ps N a qual (defScope st) cdg (callH ps.length N.length fb) := by
  obtain ⟨oc, od, kV, doc, pm, an, cdv, ct, osl, efd, lk, hcd⟩ := F0.ex
  refine ⟨cdv, gm, kp, bd, fun F es ω P E h => of_decide_eq_true (RunP.bind h).need.1, fun F A outer s H us vs Q E W es ω hr hg e0 hb r hT h0 l st' eb tr clo run => ?_⟩
  subst efd
  have hl : vs.length = ps.length := by rw [l.length]; exact of_decide_eq_true (RunP.bind run).need.1
  refine LamX.run_ofS (N := N) (ps := ps ++ [a]) lk hcd S hr e0 hb r (by simp [hl]) fun hr' => ⟨_, body F cdv A outer s H E W hT rfl clo hr' hg, ?_⟩
  have hN : es.length < N.length := by
    have := congrArg List.length S.pre
    rw [List.length_take] at this
    simp at this
    rw [← l.length]
    omega
  refine ⟨W.b, _, ω, good_startH l st' eb tr h0 hN, RunP.mono (RunP.bind (RunP.bind run).need.2) (fun fl o z => ?_) fun c fs o z cls dd σ' H' x' xc ev tt => z cls dd H' xc ev.step tt⟩
  cases fl with
  | rt d => exact fun v H' xo' ev t q => (RunP.ret z) v H' ev.step t q
  | nx ρ' => exact fun σ' H' xo' ev g => (RunP.ret z) .non H' ev.step g.st .none
  | bk ρ' => exact z.elim
  | ct ρ' => exact z.elim
end Q

set_option maxHeartbeats 4000000
namespace Q
open PySem PySem.Spec PyProof.Rows L2 LamX
section
variable {X : Cx} {pins : List (Addr × Obj)} {σ : L2.St} {H : Hp} {s : Shared}
/-- a lambda's making; what stood stays, and nothing goes -/
theorem lam_tail {T : List (Addr × Str)} {c P : Addr} {params : Arguments} {body : Expr} {scope : Scope} {pos : Pos} {dV : Value} {E : Value → Shared → Prop} {Q : Value → Shared → Prop} (I : Inv X pins σ H s) (TB : TabB X.base X.mg c P) (hcode : X.env.code = .ref c)
    (hm : (P, X.env.qual ++ "<lambda>") ∈ T) (hu : ∀ p ∈ T, p.1 = P → p.2 = X.env.qual ++ "<lambda>") (hT : Tabs T H) (hfree : ∀ y ∈ scope.names, y.2 = .free → ∃ c, X.env.cells.lookup y.1 = some c)
    (h : ∀ (f c' : Addr) (pm ctv doc : Value) (H1 : Hp) (s' : Shared), Inv X pins σ H1 s' → ExtN H H1 → (∀ a, H1 a = none → H a = none) → Tabs T H1 → (∀ b o, s.heap.get? b = some o → b ≠ P → s'.heap.get? b = some o) →
      s'.heap.get? f = some (PySem.W.kdv_obj "<lambda>" (X.env.qual ++ "<lambda>") params (.expr body) scope (cloFrom X.env.cells scope.names []) dV doc pm c' ctv) → H1 f = none → f ∉ frs X.stack → H1 c' = some (CodeO c' (X.env.qual ++ "<lambda>")) →
      (∀ b, b < s.heap.objs.size → H b = none → H1 b = none) → Q (.ref f) s') :
    wpAny (model X.prog X.w) X.A (makeTail "<lambda>" (X.env.qual ++ "<lambda>") params (.expr body) scope X.env dV .none none pos pos.line) Q E s := by
  obtain ⟨ps, tabP, trip, among⟩ := hT _ hm
  have hP' : s.heap.get? P = some { cls := .none, data := .fields ps } := I.hok P _ tabP
  have bmP : s.heap.BuiltinsAt X.mg P := TB.bm.keeps I.bk
  have away : ∀ b, s.heap.objs.size ≤ b → b ∉ frs X.stack := fun b hb z => by
    rcases List.mem_cons.mp (I.stkSub _ z) with e | e
    · exact Nat.lt_irrefl _ (Nat.lt_of_lt_of_le (e ▸ I.lt) hb)
    · exact I.nofs hb e
  cases known : codeAmong pos ps.toList with
  | some cv =>
    obtain ⟨c', rfl, hco⟩ := among pos cv known
    refine PySem.W.kdv_makeTailHit (mg := X.mg) (c := c) (P := P) (ps := ps) (closure_ok hfree) I.ok.glob (I.mod.glob.keeps I.bk) hcode (TB.code.keeps I.bk) hP' trip known bmP fun ctv doc h' tk kept grown => ?_
    exact h h'.objs.size c' ((X.mg "__name__").getD .none) ctv doc H _ (I.kept fun b o e => Heap.get?_push_of_some _ (kept b o e)) (ExtN.refl H) (fun _ z => z) hT (fun b o e _ => Heap.get?_push_of_some _ (kept b o e)) (Heap.get?_push_size _ rfl) (I.hok.fresh grown) (away _ grown) hco fun _ _ z => z
  | none =>
    refine PySem.W.kdv_makeTail (mg := X.mg) (c := c) (P := P) (ps := ps) (closure_ok hfree) I.ok.glob (I.mod.glob.keeps I.bk) hcode (TB.code.keeps I.bk) hP' trip known TB.gP bmP fun c' ctv doc h' tk kept later before record table => ?_
    obtain ⟨c2, oc, vs, t, e2, hoc, hd, hv⟩ := record
    cases e2
    have c'0 : H c' = none := I.hok.fresh later
    have big : s.heap.objs.size ≤ h'.objs.size := Nat.le_trans later (Nat.le_of_lt before)
    have J := inv_table (t' := tk) (more := #[rawInt pos.line, rawInt pos.col, .ref c']) (h' := h'.push (PySem.W.kdv_obj "<lambda>" (X.env.qual ++ "<lambda>") params (.expr body) scope (cloFrom X.env.cells scope.names []) dV doc ((X.mg "__name__").getD .none) c' ctv)) I tabP
      (fun b o hb e => Heap.get?_push_of_some _ (kept b o hb e)) (Heap.get?_push_of_some _ table) later ⟨oc, vs, t, Heap.get?_push_of_some _ hoc, hd, hv⟩
    have ext : ExtN H (L2.upd (L2.upd H P (.tbl (ps ++ #[rawInt pos.line, rawInt pos.col, .ref c']))) c' (CodeO c' (X.env.qual ++ "<lambda>"))) := fun b o e n => by
      have d1 : b ≠ c' := ne_of_none e c'0
      have d2 : b ≠ P := fun z => n ps (Option.some.inj (e.symm.trans (z ▸ tabP)))
      rw [upd_ne d1, upd_ne d2, e]
    have new : ∀ a, L2.upd (L2.upd H P (.tbl (ps ++ #[rawInt pos.line, rawInt pos.col, .ref c']))) c' (CodeO c' (X.env.qual ++ "<lambda>")) a = none → H a = none := fun a e => by
      by_cases d1 : a = c'
      · rw [d1]; exact c'0
      · rw [upd_ne d1] at e
        by_cases d2 : a = P
        · rw [d2, upd_same] at e; cases e
        · rw [upd_ne d2] at e; exact e
    have row : (ps ++ #[rawInt pos.line, rawInt pos.col, .ref c']).toList = ps.toList ++ [rawInt pos.line, rawInt pos.col, .ref c'] := by simp
    refine h h'.objs.size c' ((X.mg "__name__").getD .none) ctv doc _ _ J ext new (fun p hp => ?_) (fun b o e hb => Heap.get?_push_of_some _ (kept b o hb e)) (Heap.get?_push_size _ rfl) ?_ (away _ big) upd_same fun b hb e => ?_
    · by_cases hb : p.1 = P
      · rw [hu p hp hb, hb]
        refine ⟨_, by rw [upd_ne (ne_of_none tabP c'0), upd_same], by rw [row]; exact PySem.TriplesOk_snoc _ _ _ _ trip, fun p' cv q => ?_⟩
        rw [row] at q
        rcases among_app _ trip q with z | z
        · obtain ⟨c0, e1, e2⟩ := among p' cv z
          exact ⟨c0, e1, ext _ _ e2 codeO_ne⟩
        · exact ⟨c', z, upd_same⟩
      · obtain ⟨ps', a1, a2, a3⟩ := hT p hp
        refine ⟨ps', by rw [upd_ne (ne_of_none a1 c'0), upd_ne hb]; exact a1, a2, fun p' cv q => ?_⟩
        obtain ⟨c0, e1, e2⟩ := a3 p' cv q
        exact ⟨c0, e1, ext _ _ e2 codeO_ne⟩
    · have n1 : h'.objs.size ≠ c' := Nat.ne_of_gt before
      have n2 : h'.objs.size ≠ P := Nat.ne_of_gt (Nat.lt_of_lt_of_le (Heap.lt_size hP') big)
      rw [upd_ne n1, upd_ne n2]
      exact I.hok.fresh big
    · rw [upd_ne (Nat.ne_of_lt (Nat.lt_of_lt_of_le hb later)), upd_ne (fun z => by rw [z, tabP] at e; cases e)]
      exact e
/-- what is known of a lambda that was made -/
structure Made (X : Cx) (pins : List (Addr × Obj)) (σ : L2.St) (H H1 : Hp) (T : List (Addr × Str)) (params : Arguments) (body : Expr) (scope : Scope) (n : Nat) (ps : List Str) (f c' : Addr) (dV doc pm ctv : Value) (s' : Shared) : Prop where
  inv : Inv X pins σ H1 s'
  ext : ExtN H H1
  new : ∀ a, H1 a = none → H a = none
  tabs : Tabs T H1
  obj : s'.heap.get? f = some (PySem.W.kdv_obj "<lambda>" (X.env.qual ++ "<lambda>") params (.expr body) scope (cloFrom X.env.cells scope.names []) dV doc pm c' ctv)
  free : H1 f = none
  away : f ∉ frs X.stack
  code : H1 c' = some (CodeO c' (X.env.qual ++ "<lambda>"))
  bind : ∀ s2 : Shared, (∀ b o, s'.heap.get? b = some o → H1 b = none → b ∉ frs X.stack → s2.heap.get? b = some o) → ∀ us : List Value, us.length = n → ∃ us' : List Value, us'.length = ps.length ∧ (n = ps.length → us' = us) ∧
    BindsTo s2 (PySem.W.kdv_fn "<lambda>" (X.env.qual ++ "<lambda>") params (.expr body) scope (cloFrom X.env.cells scope.names []) dV doc pm (.ref c') ctv) ⟨us, []⟩ (ps.zip us')
end
/-- parameters: none, or one, or one with a whole number as its default; how many are handed in -/
def parsOf (p : Arguments) : Option (List Str × Bool) := match p with
  | ⟨[], [], none, [], [], none, []⟩ => some ([], false)
  | ⟨[], [a], none, [], [], none, []⟩ => some ([a.arg], false)
  | ⟨[], [a], none, [], [], none, [.Constant (.int _) _ _]⟩ => some ([a.arg], true)
  | _ => none
section
variable {X : Cx} {pins : List (Addr × Obj)} {σ : L2.St} {H : Hp} {s : Shared}
theorem lam_laid {T : List (Addr × Str)} {c P : Addr} {params : Arguments} {body : Expr} {scope : Scope} {pos : Pos} {ps : List Str} {d : Bool} {Q : Value → Shared → Prop} (hps : parsOf params = some (ps, d)) (I : Inv X pins σ H s) (TB : TabB X.base X.mg c P) (hcode : X.env.code = .ref c)
    (hm : (P, X.env.qual ++ "<lambda>") ∈ T) (hu : ∀ p ∈ T, p.1 = P → p.2 = X.env.qual ++ "<lambda>") (hT : Tabs T H) (hfree : ∀ y ∈ scope.names, y.2 = .free → ∃ c, X.env.cells.lookup y.1 = some c)
    (h : ∀ (f c' : Addr) (dV doc pm ctv : Value) (H1 : Hp) (s' : Shared), Made X pins σ H H1 T params body scope (if d then 0 else ps.length) ps f c' dV doc pm ctv s' → Q (.ref f) s') :
    wpAny (model X.prog X.w) X.A (eval (.Lambda params body scope pos) X.env) Q X.xe s := by
  have plain : ∀ (hdef : defaultsOf params X.env = ([], [])), (∀ (doc pm cv ctv : Value) (us : List Value), us.length = ps.length → bindArgs (PySem.W.kdv_fn "<lambda>" (X.env.qual ++ "<lambda>") params (.expr body) scope (cloFrom X.env.cells scope.names []) .none doc pm cv ctv) ⟨us, []⟩ = pure (ps.zip us)) → d = false →
      wpAny (model X.prog X.w) X.A (eval (.Lambda params body scope pos) X.env) Q X.xe s := fun hdef hb hd => by
    subst hd
    refine PySem.W.kla_eval hdef ?_
    rw [makeFunction_eq]
    simp only [List.zip_nil_right, List.filterMap_nil, List.isEmpty_nil, if_true, pure_bind]
    refine lam_tail I TB hcode hm hu hT hfree fun f c' pm ctv doc H1 s' a1 a2 a3 a4 _ a6 a7 a8 a9 _ => h f c' .none doc pm ctv H1 s' ⟨a1, a2, a3, a4, a6, a7, a8, a9, fun s2 _ us hl => ⟨us, hl, fun _ => rfl, BindsTo.of_eq (hb doc pm _ ctv us hl)⟩⟩
  unfold parsOf at hps
  split at hps
  · cases hps
    exact plain rfl (fun doc pm cv ctv us hl => by
      have : us = [] := List.eq_nil_of_length_eq_zero hl
      subst this
      rfl) rfl
  · cases hps
    exact plain rfl (fun doc pm cv ctv us hl => by
      rcases us with _ | ⟨u, _ | ⟨u2, r⟩⟩
      · cases hl
      · rename_i a
        have e : ((List.lookup a.arg [(a.arg, u)] : Option Value)) = some u := by simp
        simp [bindArgs, PySem.W.kdv_fn, seqItems?, notAStandIn]
      · cases hl) rfl
  · rename_i a i p1 p2
    cases hps
    refine PySem.W.kdv_lam rfl rfl (PySem.W.kdv_all1 (thn ((pe_int (X := X) (i := i) (j := p1) (pos := p2)).run pins s σ H (fun v H1 => v = .int i ∧ H1 = H) I ⟨rfl, rfl⟩) fun u s1 ⟨v, H1, I1, r1, e1, e2⟩ => PySem.W.kdv_all0 ?_))
    subst e1
    rw [e2] at I1
    obtain ⟨t, rfl⟩ := r1
    rw [makeFunction_eq]
    simp only [List.zip_nil_right, List.filterMap_nil, List.isEmpty_nil, if_true, pure_bind, List.isEmpty_cons, Bool.false_eq_true, if_false]
    refine wpAny_bind (wpAny_newTextTuple ?_)
    have I2 : Inv X pins σ H { s1 with heap := s1.heap.push (PySem.W.kdv_tup [.int i t]) } := I1.kept fun b o e => Heap.get?_push_of_some _ e
    refine lam_tail I2 TB hcode hm hu hT hfree fun f c' pm ctv doc H2 s' a1 a2 a3 a4 a5 a6 a7 a8 a9 a10 => h f c' _ doc pm ctv H2 s' ⟨a1, a2, a3, a4, a6, a7, a8, a9, fun s2 kp us hl => ?_⟩
    have hus : us = [] := List.eq_nil_of_length_eq_zero hl
    subst hus
    have tH : H s1.heap.objs.size = none := I1.hok.fresh (Nat.le_refl _)
    have tP : s1.heap.objs.size ≠ P := fun z => by
      obtain ⟨ps, tabP, _⟩ := hT _ hm
      rw [z] at tH
      rw [tH] at tabP
      cases tabP
    have tfr : s1.heap.objs.size ∉ frs X.stack := fun z => by
      rcases List.mem_cons.mp (I1.stkSub _ z) with e | e
      · exact Nat.lt_irrefl _ (e ▸ I1.lt)
      · exact I1.nofs (Nat.le_refl _) e
    have tt := kp _ _ (a5 _ _ (Heap.get?_push_size _ rfl) tP) (a10 _ (by show _ < (s1.heap.push _).objs.size; rw [Heap.size_push]; exact Nat.lt_succ_self _) tH) tfr
    refine ⟨[.int i t], rfl, (fun z => by cases z), ?_⟩
    exact BindsTo.of_defaults (fd := PySem.W.kdv_fn "<lambda>" (X.env.qual ++ "<lambda>") _ (.expr body) scope (cloFrom X.env.cells scope.names []) (.ref s1.heap.objs.size) doc pm (.ref c') ctv) rfl tt rfl rfl (by simp [notAStandIn])
  · cases hps
end
end Q

set_option maxHeartbeats 4000000
namespace Q
open PySem PySem.Spec PyProof.Rows L2
/-! ### try: .. / except A as n: .. / except B as n: .. -/
/-- what leaves a clause's suite: the name is gone -/
def undone (D : Ends) (i : Nat) : Ends := { nx := fun σ H => D.nx (σ.set i none) H, rt := D.rt, bk := fun σ H => D.bk (σ.set i none) H, ct := fun σ H => D.ct (σ.set i none) H }
abbrev Clause := Value × (Addr → Value → Option Addr → TS)
def wClauses (K : PySem.W.Frag) (i : Nat) (out : WX) (D : Ends) : List Clause → WX
  | [] => out
  | (c, ts) :: more => fun cls d σ H => ∃ b, PySem.W.exmOne K cls c = some b ∧ (b = true → ∀ a, H a = none → ts a cls d (undone D i) (σ.set i (some (.ref a))) H) ∧ (b = false → wClauses K i out D more cls d σ H)
inductive Clauses (X : Cx) (n : Str) : List ExceptHandler → List Clause → Prop
  | nil : Clauses X n [] []
  | cons {x : Str} {c : Value} {ts : Addr → Value → Option Addr → TS} {s₀ : Stmt} {ss : List Stmt} {np pos' : Pos} {hds : List ExceptHandler} {l : List Clause} (hc : Names X x c)
      (su : ∀ (a : Addr) (oe : Obj) (cls : Value) (d : Option Addr) (pn : List (Addr × Obj)), Zc cls d oe → (∃ vs, oe.data = .fields vs) → PSs (X.suite a ((a, oe) :: pn)) (s₀ :: ss) (ts a cls d)) (r : Clauses X n hds l) :
      Clauses X n (.ExceptHandler (some (.Name x np)) (some n) (s₀ :: ss) pos' :: hds) ((c, ts) :: l)
section
variable {X : Cx} {body : List Stmt} {h₀ : ExceptHandler} {hds : List ExceptHandler} {l : List Clause} {pos : Pos} {tb : WX → TS} {out : WX} {n : Str} {i : Nat}
theorem ps_tries (hs : X.stack = X.env :: X.outer) (hf : X.env.frame = some X.env.locals) (hN : X.N.Nodup) (hi : X.N[i]? = some n) (hln : X.env.kindOf n = some .local) (tk : Takes X out)
    (hb : ∀ (W : WX) (pn : List (Addr × Obj)) (xe : Value → Shared → Prop), Takes (X.tr pn xe) W → PassesOwn (model X.prog X.w) X.A X.env xe → PSs (X.tr pn xe) body (tb W))
    (hh : Clauses X n (h₀ :: hds) l) : PS X (.Try body (h₀ :: hds) [] [] pos) (fun D σ H => tb (wClauses X.K i out D l) D σ H) := by
  refine ⟨fun pins s σ H D I h => ?_⟩
  have ok := I.ok
  have frames : X.A.frames = some (X.env :: X.outer) := by rw [ok.frames, hs]
  have own : Loc X.env.scope n := .inl hln
  refine wpAny_Try_except (wpAny_mono ((hb (wClauses X.K i out D l) (X.pn ++ pins) _ (fun u s' xx => ?_) PassesOwn.looking).run [] s σ H D (I.toTry _) h) (fun fl s1 done => ?_) fun e s1 he => he)
  · obtain ⟨a, B, sI, pins', σ', H', cls, d, rfl, J', nb, up, sky, na, os, ag, want⟩ := xx
    have J : Inv X pins σ' H' sI := J'.ofTry ok
    have above : Sky B (X.env :: X.outer) a (Zc cls d) X.env.locals s'.heap := hs ▸ sky
    show wpAny (model X.prog X.w) X.A (noteFrame (.ref a) X.env) _ _ _
    refine Sky.land Zc.steady frames hf above fun g3 fl3 up3 => ?_
    have J3 : Inv X pins σ' H' { s' with heap := g3 } := J.landed nb fl3.1 (up.trans up3) os ag
    obtain ⟨o3, w3, at3, z3, data3⟩ := fl3.there
    have off : a ∉ frs (X.env :: X.outer) := fun hm => by
      obtain ⟨_, o', e', hnf⟩ := fl3.2.2.1.mem hm
      rw [at3] at e'
      cases e'
      exact hnf _ data3
    have offL : a ≠ X.env.locals := fun z => off (List.mem_filterMap.mpr ⟨X.env, List.mem_cons_self, by rw [hf, z]⟩)
    have offF : a ∉ X.fs := fun hm => by
      obtain ⟨e, he, q⟩ := List.mem_filterMap.mp hm
      exact off (List.mem_filterMap.mpr ⟨e, List.mem_cons_of_mem _ he, q⟩)
    have S3 := J3.suite at3 data3 na offL offF
    have all : ∀ {hds' : List ExceptHandler} {l' : List Clause}, Clauses X n hds' l' → wClauses X.K i out D l' cls d σ' H' →
        wpAny (model X.prog X.w) X.A (handleBy (.ref a) X.env hds') (SP X pins D) X.xe { s' with heap := g3 } := by
      intro hds' l' hk
      induction hk with
      | nil =>
        intro want
        refine wpAny_handleBy_nil ?_
        obtain ⟨k1, k2, k3, oe, vs, T, oT, ts', he, hz, hd, h1, hr⟩ := id fl3
        unfold PySem.passOn
        refine wpAny_bind (wpAny_field he hd h1 ?_)
        rw [if_neg (show ¬ ((Value.ref T == Value.none) = true) by simp)]
        have fin : wpAny (model X.prog X.w) X.A (setFlight (Value.ref a) X.env.frame) (fun _ s4 => wpAny (model X.prog X.w) X.A (MonadExcept.throw (Value.ref a) : Sem Flow) (SP X pins D) X.xe s4) X.xe { s' with heap := g3 } := by
          rw [hf]
          refine HandSPX.setFlight_upZ fl3 fun g4 hh4 up4 => wpAny_throw (tk _ _ ?_)
          exact ⟨a, B, sI, pins, σ', H', cls, d, rfl, J, nb, (up.trans up3).trans up4, .inr (.inr (by rw [hs]; exact hh4)), na, os, ag, want⟩
        first
          | exact wpAny_bind (wpAny_pure (wpAny_bind fin))
          | exact wpAny_bind fin
      | @cons x c ts s₀ ss np pos' hds2 l2 hc su r ih =>
        intro want
        obtain ⟨b, eb, yes, no⟩ := want
        refine wpAny_handleBy_cons (codeAny_handlers_test ?_) (by intro q; cases q)
        have ty : PySem.W.Looks (model X.prog X.w) g3 (typeOf (.ref a)) cls := fun A Q E s k q => wpAny_typeOf_ref (k _ _ at3) (by rw [z3.1]; exact q)
        have ask := PySem.W.exm_one (M := model X.prog X.w) J3.kIn ty eb
        have named : ∀ {Q : Value → Shared → Prop} {E : Value → Shared → Prop}, Q c { s' with heap := g3 } → wpAny (model X.prog X.w) (X.A.mark (some (.ref a))) (eval (.Name x np) X.env) Q E { s' with heap := g3 } := fun {Q E} q => by
          obtain ⟨hg, hdbg, hm | ⟨hm, hv, hnn⟩⟩ := hc
          · exact ld_glob (X := X.suite a ((a, o3) :: (X.pn ++ pins))) S3 hg hm q hdbg
          · exact ld_blt (X := X.suite a ((a, o3) :: (X.pn ++ pins))) S3 hg hm hv q hnn hdbg
        refine named (ask.here ?_)
        cases b with
        | false =>
          show wpAny _ X.A (handleBy (.ref a) X.env hds2) _ _ _
          exact ih (no rfl)
        | true =>
          refine codeAny_handlers_suite_as ?_
          refine HandSPX.lands_againZ fl3 fun g4 fl4 up4 => ?_
          have J4 : Inv X pins σ' H' { s' with heap := g4 } := J.landed nb fl4.1 ((up.trans up3).trans up4) os ag
          obtain ⟨o4, w4, at4, z4, data4⟩ := fl4.there
          have S4 := J4.suite at4 data4 na offL offF
          refine store_ok (X := X.suite a ((a, o4) :: (X.pn ++ pins))) (v := .ref a) S4 hN hi own rfl (fun s5 S5 => ?_) (.inr hln)
          refine wpAny_mono ((su a o4 cls d (X.pn ++ pins) z4 ⟨_, data4⟩).run [] s5 _ H' _ S5 (yes rfl a na)) (fun fl s6 got => ?_) fun _ _ z => False.elim z
          have ends : ∀ {σ6 : L2.St} {H6 : Hp} {Q : Shared → Prop}, Inv (X.suite a ((a, o4) :: (X.pn ++ pins))) [] σ6 H6 s6 → (∀ s7, Inv X pins (σ6.set i none) H6 s7 → Q s7) →
              wpAny (model X.prog X.w) X.A (do bindName X.env n .none; unbindBehindTheSuite X.env n pos') (fun _ s7 => Q s7) X.xe s6 := fun S6 hq => gone_ok (S6.unsuite ok) hN hi hln hq
          cases fl with
          | ret u =>
            obtain ⟨v6, σ6, H6, S6, r6, q6⟩ := got
            exact ends S6 fun s7 J7 => ⟨_, _, _, J7, r6, q6⟩
          | next =>
            obtain ⟨σ6, H6, S6, q6⟩ := got
            exact ends S6 fun s7 J7 => ⟨_, _, J7, q6⟩
          | brk =>
            obtain ⟨σ6, H6, S6, q6⟩ := got
            exact ends S6 fun s7 J7 => ⟨_, _, J7, q6⟩
          | cont =>
            obtain ⟨σ6, H6, S6, q6⟩ := got
            exact ends S6 fun s7 J7 => ⟨_, _, J7, q6⟩
    exact all hh want
  · cases fl with
    | ret u =>
      obtain ⟨v, σ', H', J', r, q⟩ := done
      exact ⟨v, σ', H', J'.ofTry ok, r, q⟩
    | next =>
      obtain ⟨σ', H', J', q⟩ := done
      exact wpAny_execs_nil ⟨σ', H', J'.ofTry ok, q⟩
    | brk =>
      obtain ⟨σ', H', J', q⟩ := done
      exact ⟨σ', H', J'.ofTry ok, q⟩
    | cont =>
      obtain ⟨σ', H', J', q⟩ := done
      exact ⟨σ', H', J'.ofTry ok, q⟩
end
end Q

set_option maxHeartbeats 4000000
namespace Q
open PySem PySem.Spec PyProof.Rows L2
/-! ### what a clause of a try makes of the error that it took -/
def evU (n : Str) (fs : List (Str × PyData)) : Nat → Expr → Option PyData
  | 0, _ => none
  | k + 1, e => match e with
    | .Constant (.str x) _ _ => some (.str x)
    | .Constant (.int x) _ _ => some (.int x)
    | .Constant (.bool x) _ _ => some (.bool x)
    | .Constant .none _ _ => some .none
    | .Tuple es _ _ => if es.length ≤ 1000 ∧ (es.all fun e => !isStar e) = true then (es.mapM (evU n fs k)).map .tuple else none
    | .Attribute (.Name m _) f _ => if m = n then fs.lookup f else none
    | .Compare a [.Eq] [b] _ => if behindInMarks .Eq b = false then (match evU n fs k a, evU n fs k b with
      | some (.int i), some (.int j) => some (.bool (decide (i = j)))
      | _, _ => none) else none
    | _ => none
def usesF (n : Str) : Nat → Expr → List Str
  | 0, _ => []
  | k + 1, e => match e with
    | .Tuple es _ _ => es.flatMap (usesF n k)
    | .Attribute (.Name _ _) f _ => [f]
    | .Compare a _ [b] _ => usesF n k a ++ usesF n k b
    | _ => []
theorem eqD_ints {i j : Int} : cmpD .Eq (.int i) (.int j) = some (decide (i = j)) := by
  show (if okD (.int i) && okD (.int j) then some (PyData.eqv (.int i) (.int j)) else none) = _
  rfl
section
variable {X : Cx} {W : Wd}
/-- what is known in such a clause -/
structure Took (X : Cx) (W : Wd) (i : Nat) (a : Addr) (C : Addr) (dd : Addr) (fs : List (Str × PyData)) (σ : L2.St) (H : Hp) : Prop where
  at_ : σ[i]? = some (some (.ref a))
  fl : ∃ gs : List (Str × V), H dd = some (.xd gs) ∧ gs.map (·.1) = fs.map (·.1) ∧ DtL X.K W.b H (fs.map (·.2)) (gs.map (·.2))
  tr : ∀ a, W.b a → H a ≠ none
theorem Took.same {i : Nat} {a C dd : Addr} {fs : List (Str × PyData)} {σ : L2.St} {H H' : Hp} (t : Took X W i a C dd fs σ H) (s : Same H H') : Took X W i a C dd fs σ H' := by
  obtain ⟨gs, h1, h2, h3⟩ := t.fl
  exact ⟨t.at_, ⟨gs, s _ _ h1, h2, h3.same s⟩, fun a h z => t.tr a h (s.free z)⟩
def tU (X : Cx) (W : Wd) (i : Nat) (a C dd : Addr) (fs : List (Str × PyData)) (val : Option PyData) : TE := fun σ H Q => Took X W i a C dd fs σ H ∧ ∃ d, val = some d ∧ ∀ v H', Same H H' → Dt X.K W.b H' d v → Q v H'
def tUA (X : Cx) (W : Wd) (i : Nat) (a C dd : Addr) (fs : List (Str × PyData)) (val : Option (List PyData)) : TA := fun σ H Q => Took X W i a C dd fs σ H ∧ ∃ ds, val = some ds ∧ ∀ vs H', Same H H' → DtL X.K W.b H' ds vs → Q vs H'
theorem look_fields {K : PySem.W.Frag} {xo : Addr → Prop} {H : Hp} {f : Str} {d : PyData} : ∀ {fs : List (Str × PyData)} {gs : List (Str × V)}, gs.map (·.1) = fs.map (·.1) → DtL K xo H (fs.map (·.2)) (gs.map (·.2)) → fs.lookup f = some d → ∃ v, gs.lookup f = some v ∧ Dt K xo H d v
  | [], gs, _, _, h => by cases h
  | (k, x) :: fs, [], e, _, _ => by cases e
  | (k, x) :: fs, (k2, v) :: gs, e, l, h => by
    simp only [List.map_cons, List.cons.injEq] at e
    obtain ⟨e1, e2⟩ := e
    simp only [List.map_cons, DtL] at l
    obtain ⟨v', r, e3, a, b⟩ := l
    injection e3 with e4 e5
    subst e4 e5
    rw [List.lookup_cons] at h ⊢
    rw [show k2 = k from e1]
    cases q : f == k with
    | true => rw [q] at h; cases h; exact ⟨v, rfl, a⟩
    | false => rw [q] at h; exact look_fields e2 b h
theorem evU_ok (hu0 : X.A.units + 65 < cLine) {i : Nat} {n : Str} {a C dd : Addr} {oe : Obj} {pn : List (Addr × Obj)} {fs : List (Str × PyData)} (hi : X.N[i]? = some n) (hv : Vis X.env.scope n) (hok : okN n = true) (T : XfC X.K C) (hz : Zc (.ref C) (some dd) oe) (hf : ∃ vs, oe.data = .fields vs) (hl : ∀ es : List PyData, True) :
    ∀ (k : Nat) (e : Expr), (∀ f ∈ usesF n k e, PySem.W.findIn X.K (.ref C) f = some none) → PE (X.suite a ((a, oe) :: pn)) e (tU X W i a C dd fs (evU n fs k e))
  | 0, e, _ => ⟨fun _ _ _ _ _ _ h => by obtain ⟨_, d, z, _⟩ := h; cases z⟩
  | k + 1, e, hu => by
    have no : ∀ {e : Expr}, PE (X.suite a ((a, oe) :: pn)) e (tU X W i a C dd fs none) := fun {e} => ⟨fun _ _ _ _ _ _ h => by obtain ⟨_, d, z, _⟩ := h; cases z⟩
    unfold evU
    split
    · exact PE.weak pe_str fun σ H Q h => by obtain ⟨_, d, z, q⟩ := h; cases z; exact q _ H (Same.refl H) (.str _)
    · exact PE.weak pe_int fun σ H Q h => by obtain ⟨_, d, z, q⟩ := h; cases z; exact q _ H (Same.refl H) (.int _)
    · exact PE.weak pe_bl fun σ H Q h => by obtain ⟨_, d, z, q⟩ := h; cases z; exact q _ H (Same.refl H) (.bool _)
    · exact PE.weak pe_non fun σ H Q h => by obtain ⟨_, d, z, q⟩ := h; cases z; exact q _ H (Same.refl H) .none
    · rename_i es kk p
      split
      · rename_i h
        obtain ⟨h1, h2⟩ := h
        have key : ∀ es : List Expr, (es.all fun e => !isStar e) = true → (∀ e ∈ es, ∀ f ∈ usesF n k e, PySem.W.findIn X.K (.ref C) f = some none) → PA (X.suite a ((a, oe) :: pn)) es (tUA X W i a C dd fs (es.mapM (evU n fs k))) := by
          intro es
          induction es with
          | nil =>
            intro _ _
            exact PA.weak pa_nil fun σ H Q h => by obtain ⟨_, d, z, q⟩ := h; cases z; exact q [] H (Same.refl H) .nil
          | cons e es ih =>
            intro h hu
            simp only [List.all_cons, Bool.and_eq_true, Bool.not_eq_true'] at h
            refine PA.weak (pa_cons (evU_ok hu0 (fs := fs) hi hv hok T hz hf hl k e (hu e List.mem_cons_self)) (ih (by simpa using h.2) fun e he => hu e (List.mem_cons_of_mem _ he)) (star_cons h.1)) fun σ H Q h => ?_
            obtain ⟨tk, ds, z, q⟩ := h
            rw [List.mapM_cons] at z
            cases z1 : evU n fs k e with
            | none => rw [z1] at z; cases z
            | some d1 =>
              cases z2 : es.mapM (evU n fs k) with
              | none => rw [z1, z2] at z; cases z
              | some ds2 =>
                rw [z1, z2] at z
                cases z
                refine ⟨tk, d1, rfl, fun v H1 s1 q1 => ⟨tk.same s1, ds2, rfl, fun vs H2 s2 q2 => q (v :: vs) H2 (s1.trans s2) (.cons (q1.same s2) q2)⟩⟩
        refine PE.weak (pe_tup (key es h2 fun e he f hfm => hu f (List.mem_flatMap.mpr ⟨e, he, hfm⟩))) fun σ H Q h => ?_
        obtain ⟨tk, d, z, q⟩ := h
        cases zz : es.mapM (evU n fs k) with
        | none => rw [zz] at z; cases z
        | some ds =>
          rw [zz] at z
          cases z
          refine ⟨tk, ds, rfl, fun vs H1 s1 l => ⟨?_, fun p hp => q _ _ (s1.trans (same_upd hp)) (newTup hp (fun a h z => tk.tr a h (s1.free z)) l)⟩⟩
          have e1 : ds.length = es.length := by
            have : ∀ (es : List Expr) (ds : List PyData), es.mapM (evU n fs k) = some ds → ds.length = es.length := by
              intro es
              induction es with
              | nil => intro ds h; cases h; rfl
              | cons e es ih =>
                intro ds h
                rw [List.mapM_cons] at h
                cases q1 : evU n fs k e with
                | none => rw [q1] at h; cases h
                | some d1 =>
                  cases q2 : es.mapM (evU n fs k) with
                  | none => rw [q1, q2] at h; cases h
                  | some ds2 =>
                    rw [q1, q2] at h
                    cases h
                    rw [List.length_cons, List.length_cons, ih ds2 q2]
            exact this es ds zz
          rw [l.length, e1]
          exact small_line (Nat.le_trans h1 (by decide))
      · exact no
    · rename_i m p f p2
      split
      · rename_i e
        subst e
        obtain ⟨n1, n2, n3⟩ := okN_ok hok
        refine PE.weak (pe_xf (n := f) T (hu f (List.mem_cons_self)) hz hf (pe_var (X := X.suite a ((a, oe) :: pn)) (i := i) hi hv n1 n2)) fun σ H Q h => ?_
        obtain ⟨tk, d, z, q⟩ := h
        obtain ⟨gs, g1, g2, g3⟩ := tk.fl
        obtain ⟨v, l1, l2⟩ := look_fields g2 g3 z
        exact ⟨.ref a, tk.at_, rfl, rfl, dd, gs, v, rfl, g1, l1, q v H (Same.refl H) l2⟩
      · exact no
    · rename_i x y p
      split
      · rename_i hm
        refine PE.weak (pe_cmpR (X := X.suite a ((a, oe) :: pn)) (cmpD_ok (X := X.suite a ((a, oe) :: pn)) hu0 .Eq) (evU_ok hu0 (fs := fs) hi hv hok T hz hf hl k x fun f hfm => hu f (List.mem_append.mpr (.inl hfm))) (evU_ok hu0 (fs := fs) hi hv hok T hz hf hl k y fun f hfm => hu f (List.mem_append.mpr (.inr hfm))) hm) fun σ H Q h => ?_
        obtain ⟨tk, d, z, q⟩ := h
        split at z
        · rename_i i0 j0 e1 e2
          cases z
          refine ⟨tk, .int i0, e1, fun v1 H1 s1 q1 => ⟨tk.same s1, .int j0, e2, fun v2 H2 s2 q2 => ?_⟩⟩
          exact ⟨W.b, .int i0, .int j0, decide (i0 = j0), q1.same s2, q2, eqD_ints, q _ H2 (s1.trans s2) (.bool _)⟩
        · cases z
      · exact no
    · exact no
end
end Q

set_option maxHeartbeats 4000000
namespace Q
open PySem L2
/-! ### a, b = x, y -/
theorem Good.take {K : PySem.W.Frag} {W : Wd} {xo : Addr → Prop} {H : Hp} {σ : St} {ρ : Rho} {ω : Om} {i : Nat} {p : Addr} {vs : List V} {ds : List PyData} (g : Good K W xo H σ ρ ω) (hi : i < σ.length) (xp : xo p) (np : ¬ W.b p) (hq : H p = some (.lst vs)) (l : DtL K xo H ds vs)
    (alone : ∀ (j : Nat) (es : List PyData) (v : V), ρ[j]? = some (some (.own es)) → σ[j]? = some (some v) → v ≠ .ref p) : Good K W xo H (σ.set i (some (.ref p))) (ρ.set i (some (.own ds))) ω := by
  have inner : ∀ {j : Nat} {es : List PyData}, (ρ.set i (some (.own ds)))[j]? = some (some (.own es)) → i ≠ j → ρ[j]? = some (some (.own es)) := fun {j es} q e => by rw [List.getElem?_set_ne e] at q; exact q
  refine ⟨fun j e q => ?_, g.st, g.eb, g.sub, g.tr, g.ev, fun j k es us u h1 h2 h3 h4 => ?_⟩
  · by_cases hj : i = j
    · subst hj
      have hl : i < ρ.length := by
        have := (List.getElem?_eq_some_iff.mp q).1
        rw [List.length_set] at this; exact this
      rw [List.getElem?_set_self hl] at q
      cases q
      exact ⟨_, List.getElem?_set_self hi, p, vs, rfl, xp, np, hq, l⟩
    · rw [List.getElem?_set_ne hj] at q
      obtain ⟨u, a, b⟩ := g.slot j e q
      exact ⟨u, by rw [List.getElem?_set_ne hj]; exact a, b⟩
  · by_cases hj : i = j
    · by_cases hk : i = k
      · rw [← hj, ← hk]
      · subst hj
        rw [List.getElem?_set_self hi] at h3
        cases h3
        rw [List.getElem?_set_ne hk] at h4
        exact (alone _ _ _ (inner h2 hk) h4 rfl).elim
    · by_cases hk : i = k
      · subst hk
        rw [List.getElem?_set_self hi] at h4
        cases h4
        rw [List.getElem?_set_ne hj] at h3
        exact (alone _ _ _ (inner h1 hj) h3 rfl).elim
      · rw [List.getElem?_set_ne hj] at h3
        rw [List.getElem?_set_ne hk] at h4
        exact g.apart j k es us u (inner h1 hj) (inner h2 hk) h3 h4
theorem Good.noOwn {K : PySem.W.Frag} {W : Wd} {xo : Addr → Prop} {H : Hp} {σ : St} {ρ : Rho} {ω : Om} {p : Addr} (g : Good K W xo H σ ρ ω) (hp : H p = none) (j : Nat) (es : List PyData) (v : V) (h1 : ρ[j]? = some (some (.own es))) (h2 : σ[j]? = some (some v)) : v ≠ .ref p := fun e => by
  obtain ⟨w, hw, q, us, ew, _, _, hq, _⟩ := g.slot j _ h1
  rw [h2] at hw
  cases hw
  rw [e] at ew
  cases ew
  rw [hp] at hq; cases hq
def nvE : Nv → Ent
  | .inl ds => .own ds
  | .inr d => .dat d
def parM (is : List Nat) (fa fb : Rho → M Nv) (i j : Nat) : Rho → M Fw := fun ρ => do
  let r1 ← fa (relR is ρ)
  let r2 ← fb (relR is ρ)
  pure (.nx (((relR is ρ).set i (some (nvE r1))).set j (some (nvE r2))))
section
variable {X : Cx} {W : Wd} {Wx : WX}
theorem par_read {is : List Nat} {fa fb : Rho → M Nv} {i j : Nat} {D : Ends} {σ : St} {H : Hp} (hi : i < σ.length) (hj : j < σ.length) (hij : i ≠ j) (h : tQS X W Wx (parM is fa fb i j) D σ H) :
    tQN X W Wx fa σ H fun v H1 => tQN X W Wx fb σ H1 fun w H2 => D.nx ((σ.set i (some v)).set j (some w)) H2 := by
  obtain ⟨xo, ρ, ω, g0, r⟩ := h
  obtain ⟨xo1, s1, g⟩ := g0.rel is
  have hj' : ∀ v, j < (σ.set i (some v)).length := fun v => by rw [List.length_set]; exact hj
  refine ⟨xo1, relR is ρ, ω, g, RunP.mono (RunP.bind r) (fun r1 ω1 z1 => ?_) fun c fs o z => z.exp g.sub⟩
  cases r1 with
  | inr d1 =>
    intro v H1 st1 t1 q1
    have g1 := g.step st1 t1
    refine ⟨xo1, relR is ρ, ω1, g1, RunP.mono (RunP.bind z1) (fun r2 ω2 z2 => ?_) fun c fs o z => (z.exp g.sub).step st1⟩
    cases r2 with
    | inr d2 =>
      intro w H2 st2 t2 q2
      have g2 := (g1.step st2 t2).set hi (q1.step g1.exo st2)
      exact (RunP.ret z2) _ H2 xo1 ((st1.trans st2).ev fun a z => .inl (s1 a z)) (g2.set (hj' v) q2)
    | inl ds2 =>
      intro p vs H2 st2 t2 n2 e2 l2
      have gs := g1.set hi q1
      refine (RunP.ret z2) _ H2 (more xo1 p) ((st1.trans st2).ev ?_) (gs.ownG (hj' v) st2 t2 n2 e2 l2)
      intro a h
      rcases h with h | h
      · exact .inl (s1 a h)
      · rw [h]; exact .inr (st1.new p n2)
  | inl ds1 =>
    intro p vs H1 st1 t1 n1 e1 l1
    have gf : Good X.K W (more xo1 p) H1 σ (relR is ρ) ω1 := g.fresh n1 st1 (by rw [e1]; exact fun z => nomatch z) t1
    have np : ¬ W.b p := fun z => g.tr p (g.sub p z) n1
    have nex : ¬ W.ex p := fun z => np (g.eb p z)
    refine ⟨more xo1 p, relR is ρ, ω1, gf, RunP.mono (RunP.bind z1) (fun r2 ω2 z2 => ?_) fun c fs o z => (z.exp gf.sub).step st1⟩
    cases r2 with
    | inr d2 =>
      intro w H2 st2 t2 q2
      have g2 := gf.step st2 t2
      have at2 : H2 p = some (.lst vs) := st2.keep p _ e1 (.inl nex) fun _ z => nomatch z
      have g3 := g2.take hi (.inr rfl) np at2 (l1.step gf.exo st2) (g.noOwn n1)
      refine (RunP.ret z2) _ H2 (more xo1 p) ((st1.trans st2).ev ?_) (g3.set (hj' _) q2)
      intro a h
      rcases h with h | h
      · exact .inl (s1 a h)
      · rw [h]; exact .inr n1
    | inl ds2 =>
      intro p2 vs2 H2 st2 t2 n2 e2 l2
      have g3 := gf.take hi (.inr rfl) np e1 l1 (g.noOwn n1)
      refine (RunP.ret z2) _ H2 (more (more xo1 p) p2) ((st1.trans st2).ev ?_) (g3.ownG (hj' _) st2 t2 n2 e2 l2)
      intro a h
      rcases h with (h | h) | h
      · exact .inl (s1 a h)
      · rw [h]; exact .inr n1
      · rw [h]; exact .inr (st1.new p2 n2)
theorem qs_par {i j : Nat} {x y : Str} {a b : Expr} {fa fb : Rho → M Nv} {px py pt pt2 pos : Pos} {kt k2 : Nat} (is : List Nat) (hc : X.calm = true) (hN : X.N.Nodup) (hi : X.N[i]? = some x) (hj : X.N[j]? = some y) (hij : i ≠ j) (hx : X.env.scope.names.lookup x = some .local) (hy : X.env.scope.names.lookup y = some .local)
    (ha : PE X a (tQN X W Wx fa)) (hb : PE X b (tQN X W Wx fb)) (sa : isStar a = false) (sb : isStar b = false) (hw : swappedStores [.Tuple [.Name x px, .Name y py] kt pt] (.Tuple [a, b] k2 pt2) X.env = pure (some [x, y])) :
    PS X (.Assign [.Tuple [.Name x px, .Name y py] kt pt] (.Tuple [a, b] k2 pt2) pos) (tQS X W Wx (parM is fa fb i j)) := by
  refine ⟨fun pins s σ H D I h => ?_⟩
  have hil : i < σ.length := by rw [I.len]; exact (List.getElem?_eq_some_iff.mp hi).1
  have hjl : j < σ.length := by rw [I.len]; exact (List.getElem?_eq_some_iff.mp hj).1
  refine (ps_par hc hN hi hj hij hx hy (pa_cons ha (pa_cons hb pa_nil (star_cons sb)) (star_cons sa)) hw rfl).run pins s σ H D I ?_
  obtain ⟨xo, ρ, ω, g, r⟩ := par_read hil hjl hij h
  refine ⟨xo, ρ, ω, g, RunP.mono r (fun r1 o z => ?_) fun _ _ _ z => z⟩
  cases r1 with
  | inr d =>
    intro v H1 s1 t1 q1
    obtain ⟨xo2, ρ2, ω2, g2, r2⟩ := z v H1 s1 t1 q1
    refine ⟨xo2, ρ2, ω2, g2, RunP.mono r2 (fun r2 o z => ?_) fun _ _ _ z => z⟩
    cases r2 with
    | inr d => exact fun w H2 s2 t2 q2 => ⟨_, _, rfl, z w H2 s2 t2 q2⟩
    | inl ds => exact fun p vs H2 s2 t2 n e l => ⟨_, _, rfl, z p vs H2 s2 t2 n e l⟩
  | inl ds =>
    intro p vs H1 s1 t1 n1 e1 l1
    obtain ⟨xo2, ρ2, ω2, g2, r2⟩ := z p vs H1 s1 t1 n1 e1 l1
    refine ⟨xo2, ρ2, ω2, g2, RunP.mono r2 (fun r2 o z => ?_) fun _ _ _ z => z⟩
    cases r2 with
    | inr d => exact fun w H2 s2 t2 q2 => ⟨_, _, rfl, z w H2 s2 t2 q2⟩
    | inl ds => exact fun p vs H2 s2 t2 n e l => ⟨_, _, rfl, z p vs H2 s2 t2 n e l⟩
/-- the two stores are turned about -/
def parB (sc : Scope) (x y : Str) (px py : Pos) (a b : Expr) : Bool := decide ((if sc.kind.isAnnotationScope then ScopeKind.function else sc.kind) = .function) && kindIs sc x .local && kindIs sc y .local && decide (px.line = py.line) && decide (x ≠ y) && !isStar a && !isStar b && !([a, b].all (foldedForSure 8)) && !([a, b].all (constantsAlone 8))
/-- two names that don't both stand in the row of a def's own -/
def unlB (sc : Scope) (x y : Str) : Bool := !(kindIs sc x .local) || !(kindIs sc y .local)
theorem kindIs_no {sc : Scope} {x : Str} {k : NameKind} (h : kindIs sc x k = false) : sc.names.lookup x ≠ some k := fun e => by
  unfold kindIs at h
  rw [e] at h
  simp at h
theorem unlB_ok {env : Env} {x y : Str} {px py pt pt2 : Pos} {kt k2 : Nat} {a b : Expr} (h : unlB env.scope x y = true) : swappedStores [.Tuple [.Name x px, .Name y py] kt pt] (.Tuple [a, b] k2 pt2) env = pure none := by
  unfold unlB at h
  rw [Bool.or_eq_true, Bool.not_eq_true', Bool.not_eq_true'] at h
  unfold swappedStores
  by_cases h0 : env.blockKind = .function
  · rcases h with h | h
    · have z : ¬ env.kindOf x = some .local := kindIs_no h
      simp [h0, z, Expr.pos]
      intro _ _ hl
      have := Nat.le_trans (Nat.le_of_eq hl.symm) (List.length_filterMap_le _ _)
      simp at this
    · have z : ¬ env.kindOf y = some .local := kindIs_no h
      simp [h0, z, Expr.pos]
      intro _ _ hl
      simp only [List.filterMap_cons, List.filterMap_nil, z, false_and, if_false] at hl
      split at hl <;> simp at hl
  · simp [h0]
theorem parB_ok {env : Env} {x y : Str} {px py pt pt2 : Pos} {kt k2 : Nat} {a b : Expr} (h : parB env.scope x y px py a b = true) : swappedStores [.Tuple [.Name x px, .Name y py] kt pt] (.Tuple [a, b] k2 pt2) env = pure (some [x, y]) := by
  unfold parB at h
  simp only [Bool.and_eq_true, decide_eq_true_eq, Bool.not_eq_true'] at h
  obtain ⟨⟨⟨⟨⟨⟨⟨⟨h1, h2⟩, h3⟩, h4⟩, h5⟩, h6⟩, h7⟩, h8⟩, h9⟩ := h
  have k1 : env.blockKind = .function := h1
  have k2' : env.kindOf x = some .local := kindIs_ok h2
  have k3 : env.kindOf y = some .local := kindIs_ok h3
  have st : ([a, b].any fun | .Starred .. => true | _ => false) = false := by
    have e : ∀ e : Expr, isStar e = (match e with | .Starred .. => true | _ => false) := fun e => by cases e <;> rfl
    simp only [List.any_cons, List.any_nil, Bool.or_false, ← e, h6, h7]
  have hyx : (y == x) = false := by simpa using Ne.symm h5
  have hxy : (x == y) = false := by simpa using h5
  have dd : ([x, y] : List Str).eraseDups.length = 2 := by
    simp [List.eraseDups_cons, List.filter, hyx, hxy]
  unfold swappedStores
  simp only [k1]
  simp [k2', k3, h4, h8, h9, st, dd, Expr.pos]
  all_goals
    intro z
    rcases z with z | z
    · have za : isStar a = true := by cases a <;> first | rfl | (exact absurd z (by simp))
      rw [h6] at za; cases za
    · have zb : isStar b = true := by cases b <;> first | rfl | (exact absurd z (by simp))
      rw [h7] at zb; cases zb
end
end Q

set_option maxHeartbeats 4000000
namespace Q
open PySem PySem.Spec PyProof.Rows L2

/-! ### dicts by a comprehension, keys of whole numbers -/
section
variable {X : Cx}
abbrev KeysAt (K : PySem.W.Frag) (H : Hp) (xs : List (PyData × Addr × V)) : Prop := ∀ x ∈ xs, isKeyD x.1 = true ∧ KyAt K H x.1 (.ref x.2.1)
/-- what one item does: the pair is put -/
def dPut (K : PySem.W.Frag) (D : Addr) (tk tv : TE) (σ2 : L2.St) (H3 : Hp) (Nx : Hp → Prop) : Prop := tk σ2 H3 fun y H4 => tv σ2 H4 fun z H5 =>
  ∃ (xs : List (PyData × Addr × V)) (d : PyData) (b : Addr), y = .ref b ∧ H5 D = some (DicN D xs) ∧ KeysAt K H5 xs ∧ xs.length < sizeLine ∧ isKeyD d = true ∧ KyAt K H5 d (.ref b) ∧ Nx (upd H5 D (DicN D (putN xs d b z)))
def dTurn (K : PySem.W.Frag) (D : Addr) (g : TG) (tt : TT) (tk tv : TE) (vs : List Nat) (σ : L2.St) (x : V) (H' : Hp) (Nx : Hp → Prop) : Prop :=
  g x (wipe σ vs) H' fun σ2 H2 => wipe σ2 vs = wipe σ vs ∧ tt σ2 H2 fun b H3 => if b = true then dPut K D tk tv σ2 H3 Nx else Nx H3
def dGoes (K : PySem.W.Frag) (D : Addr) (J : It) (g : TG) (tt : TT) (tk tv : TE) (vs : List Nat) (σ : L2.St) (H1 : Hp) (Qd : Hp → Prop) : Prop :=
  ∃ Z : Nat → Nat → Hp → Prop, (∃ m, Z 0 m (upd H1 D (DicN D []))) ∧ ∀ i m H, Z i m H →
    (J.stop i H ∧ Qd H) ∨ (J.go i H ∧ ∃ Nx : Hp → Prop, (∀ H', Nx H' → ∃ m', m' < m ∧ Z (i + 1) m' H') ∧ ∀ x H', J.yld i H x H' → dTurn K D g tt tk tv vs σ x H' Nx)
def tDn (K : PySem.W.Frag) (wi : TI) (g : TG) (tt : TT) (tk tv : TE) (vs : List Nat) : TE := fun σ H Q => wi σ H fun J H1 => ∀ D, H1 D = none → dGoes K D J g tt tk tv vs σ H1 fun H => Q (.ref D) H
abbrev PgS (X : Cx) (scope : Scope) (tg : Expr) (g : TG) : Prop := ∀ (s : Shared) (H : Hp) (C : Addr) (cl : List (Str × Addr)) (fp : List Addr), PG (X.blk s H scope (compEnvC scope cl C X.env) fp) tg g
abbrev PtS (X : Cx) (scope : Scope) (ifs : List Expr) (tt : TT) : Prop := ∀ (s : Shared) (H : Hp) (C : Addr) (cl : List (Str × Addr)) (fp : List Addr), PTs (X.blk s H scope (compEnvC scope cl C X.env) fp) ifs tt
abbrev PeS (X : Cx) (scope : Scope) (e : Expr) (te : TE) : Prop := ∀ (s : Shared) (H : Hp) (C : Addr) (cl : List (Str × Addr)) (fp : List Addr), PE (X.blk s H scope (compEnvC scope cl C X.env) fp) e te
theorem dn_core {pins : List (Addr × Obj)} {s : Shared} {σ : L2.St} {H : Hp} {Q : VK} {kx vx tg iter : Expr} {ifs : List Expr} {scope : Scope} {own : List (Str × Nat)} {pos pos' : Pos} {wi : TI} {g : TG} {tt : TT} {tk tv : TE} {use : Option (Value → Sem Unit)} {Qf : Value → Shared → Prop}
    (hc : X.calm = true) (hN : X.N.Nodup) (hu : X.A.units + 9 < cLine) (I : Inv X pins σ H s) (hi : PI X tg iter wi) (ok : BlkOk X.N X.env.scope scope own) (hg : PgS X scope tg g) (ht : PtS X scope ifs tt) (hk : PeS X scope kx tk) (he : PeS X scope vx tv) (hs : ∀ x, foldedSetIterable iter X.env x = pure x)
    (h : tDn X.K wi g tt tk tv (own.map (·.2)) σ H Q)
    (hEnd : ∀ D C s' m H', Inv X pins σ H' s' → Q (.ref D) H' → s'.heap.Ns C m → FpOk X pins H' C → compPost (model X.prog X.w) X.A X.xe use Qf (.ref D) C (.ok .next) s') :
    wpAny (model X.prog X.w) X.A (comprehension (.DictComp kx vx [⟨tg, iter, ifs, 0⟩] scope pos) scope X.env pos' newDict false (eval iter X.env) use) Qf X.xe s := by
  have cellsOk : ∀ y ∈ scope.names, y.2 = .free → ∃ c, X.env.cells.lookup y.1 = some c := fun y hy e => (ok.free y hy e).elim (fun k => I.ok.has _ (.inl k)) fun k => I.ok.has _ (.inr k)
  refine wpAny_comprehension_free (use := use) rfl hs (closure_ok cellsOk) ok.kind (fun y hy e => by rw [ok.uniq y hy, e])
    (thn (hi.run pins s σ H _ I h) fun xv s1 hx => thn hx fun itv s2 h2 => ?_)
  obtain ⟨it, fp, tn, J, H2, e, I2, T, st2, f2, q⟩ := h2
  subst e
  refine wpAny_newObj_type (newEnv_comp ?_)
  generalize hD : s2.heap.objs.size = D
  obtain ⟨Z, ⟨m0, z0⟩, turn⟩ := q D (I2.hok.fresh (Nat.le_of_eq hD))
  generalize hs3 : ({ s2 with heap := s2.heap.push { cls := .type "dict", data := .dict #[] } } : Shared) = s3
  have grew : s3.heap = s2.heap.push { cls := .type "dict", data := .dict #[] } := by rw [← hs3]
  have I3 : Inv X pins σ (upd H2 D (DicN D [])) s3 := by
    rw [← hs3]
    refine I2.laid (t' := s2.toks) (fun b o e => Heap.get?_push_of_some _ e) (Nat.le_of_eq hD) ?_
    rw [← hD]
    exact dicN_empty s2.heap I2.big
  have inside : ∀ b ∈ fp, b < s2.heap.objs.size := fun b hb => let ⟨o, e, _⟩ := T.obj _ _ st2 b hb; Heap.lt_size e
  have f3 : ∀ b ∈ fp, FpOk X pins (upd H2 D (DicN D [])) b ∧ b < s3.heap.objs.size := fun b hb => by
    have hlt := inside b hb
    refine ⟨⟨?_, (f2 b hb).2⟩, by rw [grew, Heap.size_push]; exact Nat.lt_succ_of_lt hlt⟩
    rw [upd_ne (by rw [← hD]; exact Nat.ne_of_lt hlt)]
    exact (f2 b hb).1
  have st3 : tn 0 s3.heap := T.keep _ _ _ st2 fun b _ o e => by rw [grew]; exact Heap.get?_push_of_some _ e
  have I4 := block_start I3 ok hN f3
  generalize hcl : cellsFrom (s3.heap.objs.size + 1) scope.names (cloFrom X.env.cells scope.names []) = cl at I4
  have nfp : ∀ b ∈ fp, (upd H2 D (DicN D [])) b = none := fun b hb => (f3 b hb).1.1
  generalize hH3 : upd H2 D (DicN D []) = H3 at I3 I4 z0 nfp f3
  have pg := hg s3 H3 s3.heap.objs.size cl fp
  have pt := ht s3 H3 s3.heap.objs.size cl fp
  have pk := hk s3 H3 s3.heap.objs.size cl fp
  have pe := he s3 H3 s3.heap.objs.size cl fp
  show codeAny _ _ (.compStart (.DictComp kx vx [⟨tg, iter, ifs, 0⟩] scope pos) 0 (.ref it) (.ref D) (compEnvC scope cl s3.heap.objs.size X.env)) (compPost (model X.prog X.w) X.A X.xe use Qf (.ref D) s3.heap.objs.size) { s3 with heap := pushCells (s3.heap.push { cls := .type "dict", data := .dict #[] }) scope.names }
  generalize hce : compEnvC scope cl s3.heap.objs.size X.env = ce at I4 pg pt pk pe ⊢
  have cL : ce.locals = s3.heap.objs.size := by subst hce; rfl
  generalize hs4 : ({ s3 with heap := pushCells (s3.heap.push { cls := .type "dict", data := .dict #[] }) scope.names } : Shared) = s4 at I4 ⊢
  have st4 : tn 0 s4.heap := T.keep _ _ _ st3 fun b _ o e => by rw [← hs4]; exact pushCells_keeps _ _ _ _ (Heap.get?_push_of_some _ e)
  have stat : ∀ {σ' : L2.St} {H' : Hp} {s' : Shared}, Inv (X.blk s3 H3 scope ce fp) [] σ' H' s' → (∀ b ∈ fp, H' b = none) → ∀ b ∈ fp, FpOk (X.blk s3 H3 scope ce fp) [] H' b := fun {σ' H' s'} I' hn b hb =>
    ⟨hn b hb, (I'.ok.exf b hb).1, I'.ok.exfs b hb, .inl hb, fun x c e => (I'.ok.exf b hb).2 x c e, fun p hp => absurd (show p ∈ ([] : List (Addr × Obj)) ++ [] from hp) (by simp)⟩
  have loop : codeAny (model X.prog X.w) X.A (.compLoop (.DictComp kx vx [⟨tg, iter, ifs, 0⟩] scope pos) 0 (.ref it) (.ref D) ce) (compPost (model X.prog X.w) X.A X.xe use Qf (.ref D) s3.heap.objs.size) s4 := by
    refine compLoop_anyD (fun n s' => ∃ i H', Inv (X.blk s3 H3 scope ce fp) [] (wipe σ (own.map (·.2))) H' s' ∧ tn i s'.heap ∧ (∀ b ∈ fp, H' b = none) ∧ Z i n H') ?_ m0 ⟨0, H3, I4, st4, nfp, z0⟩
    rintro n s5 ⟨i, H5, I5, st5, n5, w5⟩
    rcases turn i n H5 w5 with ⟨stop, qq⟩ | ⟨go, Nx, hNx, step⟩
    · refine thnF (T.done (X.blk s3 H3 scope ce fp) rfl rfl rfl hc i [] s5 _ H5 (fun _ _ => False) I5 (stat I5 n5) st5 stop) fun r s6 ⟨hr, I6⟩ => ?_
      subst hr
      have I7 : Inv X pins σ H5 s6 := I3.call' (ch := fp) I6.os I6.base I6.hok I6.bare fun b hb => ⟨(f3 b hb).1.2.2.2.1, (f3 b hb).1.2.1, (f3 b hb).1.2.2.2.2.1, (f3 b hb).1.2.2.2.2.2⟩
      have nC : H5 s3.heap.objs.size = none := by
        have z : H5 ce.locals = none := I6.free
        rwa [cL] at z
      obtain ⟨m, hn, _⟩ := I6.loc
      have hn : s6.heap.Ns ce.locals m := hn
      rw [cL] at hn
      exact hEnd D s3.heap.objs.size s6 m H5 I7 qq hn (I3.fpOk (Nat.le_refl _) nC)
    · refine thnF (T.item (X.blk s3 H3 scope ce fp) rfl rfl rfl hc i [] s5 _ H5 (fun _ _ => False) I5 (stat I5 n5) st5 go) fun r s6 ⟨u, hr, h6⟩ => ?_
      subst hr
      refine thnF h6 fun _ s7 ⟨x, H7, I7, r7, y7, st7, n7⟩ => ?_
      have I7' := I7.pinned (stat I7 n7) (T.obj _ _ st7)
      refine thnF (pg.run _ s7 _ H7 x u _ I7' r7 (step x H7 y7)) fun _ s8 ⟨σ8, H8, I8, hw8, q8⟩ => ?_
      refine thnF (pt.run _ s8 σ8 H8 _ I8 q8) fun b s9 ⟨H9, I9, q9⟩ => ?_
      have fin : ∀ {s' : Shared} {H' : Hp}, Inv (X.blk s3 H3 scope ce fp) ([] ++ pinsAt fp s7.heap) σ8 H' s' → Nx H' → ∃ m, m < n ∧ ∃ i H', Inv (X.blk s3 H3 scope ce fp) [] (wipe σ (own.map (·.2))) H' s' ∧ tn i s'.heap ∧ (∀ b ∈ fp, H' b = none) ∧ Z i m H' := fun {s' H'} I' nx => by
        obtain ⟨m', hm, w'⟩ := hNx H' nx
        have pin' : ∀ b ∈ fp, ∀ o, s7.heap.get? b = some o → s'.heap.get? b = some o ∧ H' b = none := fun b hb o e =>
          let z := I'.pin (b, o) (List.mem_append_right _ (List.mem_append_right _ (mem_pinsAt hb e)))
          ⟨z.1, z.2.1⟩
        have hl : (wipe σ (own.map (·.2))).length = σ8.length := by rw [← hw8, wipe_length]
        refine ⟨m', hm, i + 1, H', (I'.unpinned (pins := [])).weak hl (fun j v e => ?_), T.keep _ _ _ st7 fun b hb o e => (pin' b hb o e).1, fun b hb => ?_, w'⟩
        · rw [← hw8] at e
          exact (wipe_some e).1
        · obtain ⟨o, e, _⟩ := T.obj _ _ st7 b hb
          exact (pin' b hb o e).2
      cases b with
      | false =>
        simp only [Bool.false_eq_true, if_false] at q9 ⊢
        exact fin I9 q9
      | true =>
        simp only [if_true] at q9 ⊢
        refine thnF (pk.run _ s9 σ8 H9 _ I9 q9) fun z s10 ⟨yk, H10, I10, r10, q10⟩ => ?_
        refine thnF (pe.run _ s10 σ8 H10 _ I10 q10) fun z2 s11 ⟨yv, H11, I11, r11, xs, d, b, ek, hD11, kx11, hz11, kd, ky, nx⟩ => ?_
        subst ek
        obtain rfl : z = Value.ref b := r10
        exact dn_set (X := X.blk s3 H3 scope ce fp) hu I11 hD11 kx11 hz11 kd ky r11 fun s12 I12 => fin I12 nx
  exact codeAny_compStart_dict loop (T.self X.A 0 _ _ _ st4 loop)
theorem pe_dn {kx vx tg iter : Expr} {ifs : List Expr} {scope : Scope} {own : List (Str × Nat)} {pos : Pos} {wi : TI} {g : TG} {tt : TT} {tk tv : TE} (hc : X.calm = true) (hN : X.N.Nodup) (hu : X.A.units + 9 < cLine) (hi : PI X tg iter wi) (ok : BlkOk X.N X.env.scope scope own)
    (hg : PgS X scope tg g) (ht : PtS X scope ifs tt) (hk : PeS X scope kx tk) (he : PeS X scope vx tv) (hs : ∀ x, foldedSetIterable iter X.env x = pure x) :
    PE X (.DictComp kx vx [⟨tg, iter, ifs, 0⟩] scope pos) (tDn X.K wi g tt tk tv (own.map (·.2))) := by
  refine ⟨fun pins s σ H Q I h => ?_⟩
  rw [arm_eval_DictComp]
  refine dn_core hc hN hu I hi ok hg ht hk he hs h fun D C s' m H' I' q hn f => ⟨m, hn, fun h'' sb => ?_⟩
  obtain ⟨p0, p1, p2, p3, p4, p5⟩ := f
  exact ⟨.ref D, H', I'.turned (t' := s'.toks) (fun b o hb e => (sb.2 b hb).trans e) p0 p1 p3 p4 p5, rfl, q⟩
/-- y = {..}, on one row -/
theorem ps_setDn {i : Nat} {y : Str} {py : Pos} {kx vx tg iter : Expr} {ifs : List Expr} {scope : Scope} {own : List (Str × Nat)} {pos spos : Pos} {wi : TI} {g : TG} {tt : TT} {tk tv : TE} (hc : X.calm = true) (hN : X.N.Nodup) (hu : X.A.units + 9 < cLine) (hy : X.N[i]? = some y) (hyl : X.env.scope.names.lookup y = some .local)
    (hsw : swapsWith (.DictComp kx vx [⟨tg, iter, ifs, 0⟩] scope pos) (some (.Name y py)) spos.line X.env = pure true) (hi : PI X tg iter wi) (ok : BlkOk X.N X.env.scope scope own)
    (hg : PgS X scope tg g) (ht : PtS X scope ifs tt) (hk : PeS X scope kx tk) (he : PeS X scope vx tv) (hs : ∀ x, foldedSetIterable iter X.env x = pure x) :
    PS X (.Assign [.Name y py] (.DictComp kx vx [⟨tg, iter, ifs, 0⟩] scope pos) spos) (tAsg (tDn X.K wi g tt tk tv (own.map (·.2))) (gName i)) := by
  refine ⟨fun pins s σ H D I h => ?_⟩
  rw [exec_Assign_Name_used _ _ _ _ hsw]
  refine wpAny_bind (wpAny_standAt (wpAny_bind ?_))
  show wpAny _ X.A (do let _ ← comprehension (.DictComp kx vx [⟨tg, iter, ifs, 0⟩] scope pos) scope X.env (firstIterPos [⟨tg, iter, ifs, 0⟩] pos) newDict false (eval iter X.env) (some (assign (.Name y py) X.env))) _ _ s
  have h : tDn X.K wi g tt tk tv (own.map (·.2)) σ H (fun x H1 => gName i x σ H1 D.nx) := h
  refine wpAny_bind (thn (dn_core (Qf := fun _ s' => SP X pins D .next s') hc hN hu I hi ok hg ht hk he hs h fun L C s' m H' I' q hn f => ?_) fun _ s' hq => wpAny_pure (wpAny_pure hq))
  show wpAny _ _ (assign (.Name y py) X.env (.ref L)) _ _ _
  refine wpAny_assign_Name (store_ok2 (v := V.ref L) I' hN hy (.inl hyl) rfl (fun s2 I2 ⟨a, sb, ha⟩ => ?_) (.inr hyl))
  obtain ⟨p0, p1, p2, p3, p4, p5⟩ := f
  have haC : C ≠ a := ha.elim (fun z => by rw [z]; exact p1) fun z e => p4 y a z e.symm
  exact ⟨m, hn.sameBut sb haC, fun h3 sb3 => ⟨_, H', I2.turned (t' := s2.toks) (fun b o hb e => (sb3.2 b hb).trans e) p0 p1 p3 p4 p5, q⟩⟩
end
section
variable {J : It} {n : Nat} {G : Hp → Prop} {Y : Nat → Hp → V → Hp → Prop} {K : PySem.W.Frag}
theorem dn_it (w : Walk J n G Y) {D : Addr} {g : TG} {tt : TT} {tk tv : TE} {vs : List Nat} {σ : L2.St} {H1 : Hp} {Qd : Hp → Prop} (Pv : Nat → Hp → Prop) (h0 : Pv 0 (upd H1 D (DicN D []))) (hG : ∀ i H, i ≤ n → Pv i H → G H)
    (hs : ∀ i x H H', i < n → Pv i H → Y i H x H' → dTurn K D g tt tk tv vs σ x H' (Pv (i + 1))) (hd : ∀ H, Pv n H → Qd H) : dGoes K D J g tt tk tv vs σ H1 Qd := by
  refine ⟨fun i m H => i + m = n ∧ Pv i H, ⟨n, by simp, h0⟩, ?_⟩
  rintro i m H ⟨hm, p⟩
  have q := hG i H (by omega) p
  by_cases hlt : i < n
  · exact .inr ⟨w.goes i H hlt q, Pv (i + 1), fun H' p' => ⟨m - 1, by omega, by omega, p'⟩, fun x H' y => hs i x H H' hlt p (w.yields i H x H' hlt q y)⟩
  · have e : i = n := by omega
    subst e
    exact .inl ⟨w.stops H q, hd H p⟩
end
def dcM (g : PyData → Rho → Option Rho) (ft : Rho → M Bool) (fk fv : Rho → M PyData) (ρ : Rho) : List PyData → List (PyData × PyData) → M (List (PyData × PyData))
  | [], acc => pure acc
  | d :: ds, acc => do
    let ρ' ← get? (g d ρ)
    let b ← safe (ft ρ')
    if b then do
      let k ← safe (fk ρ')
      let v ← safe (fv ρ')
      need (isKeyD k && flat v && decide (acc.length < line))
      dcM g ft fk fv ρ ds (putD acc k v)
    else dcM g ft fk fv ρ ds acc
def dictM (fi : Rho → M (List PyData)) (vs : List Nat) (g : PyData → Rho → Option Rho) (ft : Rho → M Bool) (fk fv : Rho → M PyData) : Rho → M PyData := fun ρ => do
  let ds ← fi ρ
  let r ← dcM g ft fk fv (wipeR ρ vs) ds []
  pure (.dict r)
theorem dt_flV {K : PySem.W.Frag} {xo : Addr → Prop} {H : Hp} {d : PyData} {v : V} (f : flat d = true) (h : Dt K xo H d v) : v = flV d := by
  cases d <;> first | (exact Bool.noConfusion f) | (simp only [Dt] at h; exact h)
theorem KyAt.step {K : PySem.W.Frag} {W : Wd} {H H' : Hp} {d : PyData} {v : V} (h : KyAt K H d v) (s : Step W H H') : KyAt K H' d v := h.carry fun b o e st nt => s.keep b o e (.inr st) nt
theorem KyAt.upd {K : PySem.W.Frag} {H : Hp} {D : Addr} {o u : HO} {d : PyData} {v : V} (h : KyAt K H d v) (hD : H D = some o) (ns : ¬ stays o) : KyAt K (upd H D u) d v := h.carry fun b q e st _ => by
  rw [upd_ne]
  · exact e
  · rintro rfl
    rw [hD] at e
    cases e
    exact ns st
section
variable {X : Cx} {W : Wd} {Wx : WX}
theorem dc_read {fi : Rho → M (List PyData)} {vs : List Nat} {g : PyData → Rho → Option Rho} {ft : Rho → M Bool} {fk fv : Rho → M PyData} {σ : L2.St} {H : Hp} {Q : VK} (hq : tQ X W Wx (dictM fi vs g ft fk fv) σ H Q) :
    tDn X.K (tQI X W Wx fi) (tQG X W vs g) (tQT X W W0 ft) (tQ X W W0 fk) (tQ X W W0 fv) vs σ H Q := by
  obtain ⟨xo, ρ, ω, Gd, r⟩ := hq
  refine ⟨xo, ρ, ω, Gd, RunP.mono (RunP.bind r) (fun ds ω1 r1 J H1 s1 t1 wk hz => ?_) fun _ _ _ e => e⟩
  intro D hD
  have G1 := Gd.step s1 t1
  have nD : ¬ W.ex D := not_ex_new G1 hD
  obtain ⟨Gh, Y, walk, kG, yl⟩ := wk
  let P1 : List (PyData × PyData) → Om → Prop := fun r ω2 => RunP ((pure (PyData.dict r) : M PyData) ω2) (fun d ω' => ∀ v H', Step W H H' → W.St ω' H' → Dt X.K xo H' d v → Q v H') (ExP X W Wx xo σ H)
  refine dn_it walk (fun i H' => ∃ (ω' : Om) (xs : List (PyData × Addr × PyData)), H' D = some (DicN D (xs.map fun x => (x.1, x.2.1, flV x.2.2))) ∧ (∀ x ∈ xs, flat x.2.2 = true ∧ isKeyD x.1 = true ∧ KyAt X.K H' x.1 (.ref x.2.1)) ∧
      Good X.K W (more xo D) H' (wipe σ vs) (wipeR ρ vs) ω' ∧ Step W H1 H' ∧
      RunP (dcM g ft fk fv (wipeR ρ vs) (ds.drop i) (xs.map fun x => (x.1, x.2.2)) ω') P1 (ExP X W Wx xo σ H)) ?_ (fun i H' _ ⟨_, _, _, _, _, s, _⟩ => kG _ H' (s.ev Grown.refl)) ?_ ?_
  · have st0 : W.St ω1 (L2.upd H1 D (DicN D [])) := St.same t1 (same_upd hD)
    have sp0 : Step W H1 (L2.upd H1 D (DicN D [])) := Step.upd hD
    refine ⟨ω1, [], upd_same, (fun _ z => nomatch z), (G1.fresh hD sp0 (by rw [upd_same]; exact fun z => nomatch z) st0).wipe vs, sp0, ?_⟩
    exact RunP.bind r1
  · rintro i x H2 H3 hi ⟨ω2, xs, eD, hk, G2, s2, r2⟩ hy
    obtain ⟨sm, d, ed, hd⟩ := yl i (more xo D) H2 x H3 hi (s2.ev (Grown.more hD)) hy
    have st3 : W.St ω2 H3 := St.same G2.st sm
    have hdrop : ds.drop i = d :: ds.drop (i + 1) := by
      obtain ⟨h1, h2⟩ := List.getElem?_eq_some_iff.mp ed
      rw [List.drop_eq_getElem_cons h1, h2]
    rw [hdrop] at r2
    have r3 : RunP ((get? (g d (wipeR ρ vs)) >>= fun ρ' => safe (ft ρ') >>= fun b => if b then (safe (fk ρ') >>= fun k => safe (fv ρ') >>= fun v => need (isKeyD k && flat v && decide ((xs.map fun x => (x.1, x.2.2)).length < line)) >>= fun _ => dcM g ft fk fv (wipeR ρ vs) (ds.drop (i + 1)) (putD (xs.map fun x => (x.1, x.2.2)) k v)) else dcM g ft fk fv (wipeR ρ vs) (ds.drop (i + 1)) (xs.map fun x => (x.1, x.2.2))) ω2) P1 (ExP X W Wx xo σ H) := r2
    obtain ⟨ρ', eg, r4⟩ := (RunP.bind r3).get
    have G3 : Good X.K W (more xo D) H3 (wipe σ vs) (wipeR ρ vs) ω2 := G2.step (Step.of_same sm) st3
    have hd' : Dt X.K (more xo D) H3 d x := hd
    refine ⟨more xo D, wipeR ρ vs, ω2, d, ρ', G3, hd', eg, fun σ2 o2 G4 => ⟨?_, ?_⟩⟩
    · rw [o2.wipe]
      exact (Off.wipe (⟨by rw [wipe_length], fun j hj => by rw [wipe_get, if_neg hj]⟩ : Off vs σ (wipe σ vs)))
    · refine ⟨more xo D, ρ', ω2, G4, RunP.mono (safe.inv (E' := ExP X W W0 (more xo D) σ2 H3) (RunP.bind r4)) (fun b ω3 r5 H5 s5 t5 => ?_) fun _ _ _ e => e⟩
      have s35 : Step W H2 H5 := (Step.of_same sm).trans s5
      have eD5 := s35.keep _ _ eD (.inl nD) fun _ z => by unfold DicN at z; cases z
      cases b with
      | false => exact iteF ⟨ω3, xs, eD5, fun x hx => ⟨(hk x hx).1, (hk x hx).2.1, (hk x hx).2.2.step s35⟩, G3.step s5 t5, s2.trans s35, r5⟩
      | true =>
        have r5 : RunP ((safe (fk ρ') >>= fun k => safe (fv ρ') >>= fun v => need (isKeyD k && flat v && decide ((xs.map fun x => (x.1, x.2.2)).length < line)) >>= fun _ => dcM g ft fk fv (wipeR ρ vs) (ds.drop (i + 1)) (putD (xs.map fun x => (x.1, x.2.2)) k v)) ω3) P1 (ExP X W Wx xo σ H) := r5
        refine iteT ?_
        refine ⟨more xo D, ρ', ω3, G4.step s5 t5, RunP.mono (safe.inv (E' := ExP X W W0 (more xo D) σ2 H5) (RunP.bind r5)) (fun k ω4 r6 y H6 s6 t6 q6 => ?_) fun _ _ _ e => e⟩
        refine ⟨more xo D, ρ', ω4, (G4.step s5 t5).step s6 t6, RunP.mono (safe.inv (E' := ExP X W W0 (more xo D) σ2 H6) (RunP.bind r6)) (fun v ω5 r7 z H7 s7 t7 q7 => ?_) fun _ _ _ e => e⟩
        obtain ⟨e7, r8⟩ := (RunP.bind r7).need
        simp only [Bool.and_eq_true, decide_eq_true_eq, List.length_map] at e7
        obtain ⟨⟨kk, fl⟩, hl⟩ := e7
        have s27 : Step W H2 H7 := (s35.trans s6).trans s7
        have s17 : Step W H1 H7 := s2.trans s27
        have eD7 := s27.keep _ _ eD (.inl nD) fun _ z => by unfold DicN at z; cases z
        have q6' : Dt X.K (more xo D) H7 k y := Dt.step (fun a h => .inl (G1.exo a h)) s7 q6
        obtain ⟨ky, b, rfl⟩ := q6'.key kk
        have ez : z = flV v := dt_flV fl q7
        subst ez
        refine ⟨_, k, b, rfl, eD7, fun x hx => ?_, ?_, kk, ky, ω5, putN xs k b v, ?_, fun x hx => ?_, ?_, s17.at_new hD, ?_⟩
        · obtain ⟨x0, hx0, rfl⟩ := List.mem_map.mp hx
          exact ⟨(hk x0 hx0).2.1, (hk x0 hx0).2.2.step s27⟩
        · rw [List.length_map, sizeLine_eq]
          unfold line at hl
          omega
        · rw [putN_map]; exact upd_same
        · have ns : ¬ stays (DicN D (xs.map fun x => (x.1, x.2.1, flV x.2.2))) := fun z => by unfold DicN at z; exact z
          rcases putN_mem hx with ⟨x0, hx0, e1, e2, e3⟩ | e
          · refine ⟨?_, by rw [e1]; exact (hk x0 hx0).2.1, by rw [e1, e2]; exact ((hk x0 hx0).2.2.step s27).upd eD7 ns⟩
            rcases e3 with e3 | e3
            · rw [e3]; exact (hk x0 hx0).1
            · rw [e3]; exact fl
          · rw [e]
            exact ⟨fl, kk, ky.upd eD7 ns⟩
        · exact (G1.fresh hD (s17.at_new hD) (by rw [upd_same]; exact fun z => nomatch z) (St.upd t7 eD7 (fun _ z => by unfold DicN at z; cases z) DicN_ne_code nD)).wipe vs
        · rw [putN_put]
          exact r8
  · rintro H2 ⟨ω2, xs, eD, hk, G2, s2, r2⟩
    rw [List.drop_length] at r2
    have r3 : P1 (xs.map fun x => (x.1, x.2.2)) ω2 := RunP.ret (E := ExP X W Wx xo σ H) r2
    have r3 := RunP.ret r3
    refine r3 (.ref D) H2 (s1.trans s2) G2.st ?_
    simp only [Dt]
    exact ⟨D, rfl, fun z => G1.tr D z hD, .inr ⟨xs, eD, rfl, hk⟩⟩
theorem qe_dc {kx vx tg iter : Expr} {ifs : List Expr} {scope : Scope} {own : List (Str × Nat)} {pos : Pos} {fi : Rho → M (List PyData)} {g : PyData → Rho → Option Rho} {ft : Rho → M Bool} {fk fv : Rho → M PyData}
    (hc : X.calm = true) (hN : X.N.Nodup) (hu : X.A.units + 9 < cLine) (hi : PI X tg iter (tQI X W Wx fi)) (ok : BlkOk X.N X.env.scope scope own)
    (hg : ∀ (s : Shared) (H : Hp) (C : Addr) (cl : List (Str × Addr)) (fp : List Addr), PG (X.blk s H scope (compEnvC scope cl C X.env) fp) tg (tQG X W (own.map (·.2)) g))
    (ht : ∀ (s : Shared) (H : Hp) (C : Addr) (cl : List (Str × Addr)) (fp : List Addr), PTs (X.blk s H scope (compEnvC scope cl C X.env) fp) ifs (tQT X W W0 ft))
    (hk : ∀ (s : Shared) (H : Hp) (C : Addr) (cl : List (Str × Addr)) (fp : List Addr), PE (X.blk s H scope (compEnvC scope cl C X.env) fp) kx (tQ X W W0 fk))
    (he : ∀ (s : Shared) (H : Hp) (C : Addr) (cl : List (Str × Addr)) (fp : List Addr), PE (X.blk s H scope (compEnvC scope cl C X.env) fp) vx (tQ X W W0 fv)) (hs : ∀ x, foldedSetIterable iter X.env x = pure x) :
    PE X (.DictComp kx vx [⟨tg, iter, ifs, 0⟩] scope pos) (tQ X W Wx (dictM fi (own.map (·.2)) g ft fk fv)) :=
  PE.weak (pe_dn hc hN hu hi ok hg ht hk he hs) fun _ _ _ h => dc_read h
/-- {} -/
theorem qe_dict0 {pos : Pos} : PE X (.Dict [] [] pos) (tQ X W Wx fun _ => pure (.dict [])) := by
  refine PE.weak pe_dnewK fun σ H Q h => ?_
  obtain ⟨xo, ρ, ω, g, r⟩ := h
  intro p hp
  have r := RunP.ret r
  refine r (.ref p) _ (Step.upd hp) (St.same g.st (same_upd hp)) ?_
  simp only [Dt]
  exact ⟨p, rfl, fun z => g.tr p z hp, .inl ⟨[], upd_same, rfl, fun _ z => nomatch z⟩⟩
theorem qs_setDc {i : Nat} {y : Str} {py : Pos} {kx vx tg iter : Expr} {ifs : List Expr} {scope : Scope} {own : List (Str × Nat)} {pos spos : Pos} {fi : Rho → M (List PyData)} {g : PyData → Rho → Option Rho} {ft : Rho → M Bool} {fk fv : Rho → M PyData} (is : List Nat) (hc : X.calm = true) (hN : X.N.Nodup) (hu : X.A.units + 9 < cLine) (hy : X.N[i]? = some y) (hyl : X.env.scope.names.lookup y = some .local)
    (hsw : swapsWith (.DictComp kx vx [⟨tg, iter, ifs, 0⟩] scope pos) (some (.Name y py)) spos.line X.env = pure true) (hi : PI X tg iter (tQI X W Wx fi)) (ok : BlkOk X.N X.env.scope scope own)
    (hg : PgS X scope tg (tQG X W (own.map (·.2)) g)) (ht : PtS X scope ifs (tQT X W W0 ft)) (hk : PeS X scope kx (tQ X W W0 fk)) (he : PeS X scope vx (tQ X W W0 fv)) (hs : ∀ x, foldedSetIterable iter X.env x = pure x) :
    PS X (.Assign [.Name y py] (.DictComp kx vx [⟨tg, iter, ifs, 0⟩] scope pos) spos) (tQS X W Wx (asgN is (fun ρ => do let d ← dictM fi (own.map (·.2)) g ft fk fv ρ; pure (.inr d)) i)) := by
  refine ⟨fun pins s σ H D I h => ?_⟩
  have hl : i < σ.length := by rw [I.len]; exact (List.getElem?_eq_some_iff.mp hy).1
  refine (ps_setDn hc hN hu hy hyl hsw hi ok hg ht hk he hs).run pins s σ H D I (dc_read ?_)
  obtain ⟨xo, ρ, ω, g0, r⟩ := asgN_read hl h
  exact ⟨xo, ρ, ω, g0, RunP.mono (RunP.bind r) (fun d o z => RunP.ret z) fun _ _ _ e => e⟩
end
end Q

set_option maxHeartbeats 4000000
namespace Q
open PySem PySem.Spec PyProof.Rows L2
theorem DtL.set {K : PySem.W.Frag} {xo : Addr → Prop} {H : Hp} : ∀ {ds : List PyData} {vs : List V} {d : PyData} {v : V} (j : Nat), DtL K xo H ds vs → Dt K xo H d v → DtL K xo H (ds.set j d) (vs.set j v)
  | [], vs, d, v, j, l, h => by simp only [DtL] at l; subst l; exact .nil
  | e :: es, vs, d, v, j, l, h => by
    simp only [DtL] at l
    obtain ⟨w, r, rfl, a, b⟩ := l
    cases j with
    | zero => exact .cons h b
    | succ j => exact .cons a (b.set j h)
/-! ### items of a name's own list -/
def ownIxM (i : Nat) (fa fb : Rho → M PyData) : Rho → M PyData := fun ρ => match ρ[i]? with
  | some (some (.own ds)) => do
    let y ← fb ρ
    get? (itemD (.list ds) y)
  | _ => do
    let x ← fa ρ
    let y ← fb ρ
    get? (itemD x y)
def storeM (i : Nat) (is isb : List Nat) (f fb : Rho → M PyData) : Rho → M Fw := fun ρ => match ρ[i]? with
  | some (some (.own _)) => do
    let d ← f (relR is ρ)
    let k ← fb (relR isb (after is d ρ))
    match (after is d ρ)[i]? with
    | some (some (.own ds)) => (match k with
      | .int kk => (match ixN ds.length kk with
        | some j => pure (.nx ((after is d ρ).set i (some (.own (ds.set j d)))))
        | none => bad)
      | _ => bad)
    | _ => bad
  | _ => bad
section
variable {X : Cx} {W : Wd} {Wx : WX}
theorem qe_ixOwn {i : Nat} {x : Str} {b : Expr} {fa fb : Rho → M PyData} {px pos : Pos} (hN : X.N[i]? = some x) (hv : Vis X.env.scope x) (hd : (x == ("__debug__" : Str)) = false) (hcd : (x == ("__classdict__" : Str)) = false) (ha : PE X (.Name x px) (tQ X W Wx fa)) (hb : PE X b (tQ X W Wx fb)) (hs : PlainIx b) :
    PE X (.Subscript (.Name x px) b pos) (tQ X W Wx (ownIxM i fa fb)) := by
  refine ⟨fun pins s σ H Q I h => ?_⟩
  obtain ⟨xo, ρ, ω, g, r⟩ := h
  by_cases ow : ∃ ds, ρ[i]? = some (some (.own ds))
  · obtain ⟨ds, hi⟩ := ow
    have r2 : RunP ((fb ρ >>= fun y => get? (itemD (.list ds) y)) ω) (fun d ω' => ∀ v H', Step W H H' → W.St ω' H' → Dt X.K xo H' d v → Q v H') (ExP X W Wx xo σ H) := by
      unfold ownIxM at r
      rw [hi] at r
      exact r
    obtain ⟨p, vs, hσ, xp, np, hp, l⟩ := own_at g hi
    refine (pe_ix ix_list (pe_var hN hv hd hcd) hb hs).run pins s σ H Q I ⟨.ref p, hσ, xo, ρ, ω, g, RunP.mono (RunP.bind r2) (fun y o z v H1 s t q => ?_) fun _ _ _ e => e⟩
    obtain ⟨d, ed, k⟩ := RunP.get z
    cases y <;> first | (cases ed; done) | skip
    rename_i kk
    cases q.intE
    have ed : L2.atI ds kk = some d := ed
    have hp1 : H1 p = some (.lst vs) := s.keep _ _ hp (.inl fun z => np (g.eb _ z)) fun _ z => nomatch z
    obtain ⟨w, h1, h2⟩ := (l.step g.exo s).atI ed
    exact ⟨p, vs, kk, w, rfl, rfl, SqL.of hp1, h1, k w H1 s t h2⟩
  · have r2 : RunP ((fa ρ >>= fun x => fb ρ >>= fun y => get? (itemD x y)) ω) (fun d ω' => ∀ v H', Step W H H' → W.St ω' H' → Dt X.K xo H' d v → Q v H') (ExP X W Wx xo σ H) := by
      have e0 : ownIxM i fa fb ρ = (fa ρ >>= fun x => fb ρ >>= fun y => get? (itemD x y)) := by
        unfold ownIxM
        cases e : ρ[i]? with
        | none => rfl
        | some x =>
          cases x with
          | none => rfl
          | some en =>
            cases en with
            | own ds => exact absurd ⟨ds, e⟩ ow
            | dat d => rfl
            | mach => rfl
            | clo => rfl
            | exc c f => rfl
      rw [e0] at r
      exact r
    exact (qe_ix ha hb hs).run pins s σ H Q I ⟨xo, ρ, ω, g, r2⟩
theorem qs_store {i : Nat} {x : Str} {b e : Expr} {f fb : Rho → M PyData} {px pb pos : Pos} (is isb : List Nat) (hN : X.N[i]? = some x) (hv : Vis X.env.scope x) (hd : (x == ("__debug__" : Str)) = false) (hcd : (x == ("__classdict__" : Str)) = false) (he : PE X e (tQ X W Wx f)) (hb : PE X b (tQ X W Wx fb))
    (ha : ∀ v, assign (.Subscript (.Name x px) b pb) X.env v = (do
      let ov ← holding [v] (eval (.Name x px) X.env)
      let iv ← holding [v, ov] (eval b X.env)
      standAt pb
      holding [v, ov, iv] (setItem ov iv v)
      release [v, ov, iv] []))
    (hs : swapsWithSole [.Subscript (.Name x px) b pb] e pos.line X.env = pure false) (hw : swappedStores [.Subscript (.Name x px) b pb] e X.env = pure none) :
    PS X (.Assign [.Subscript (.Name x px) b pb] e pos) (tQS X W Wx (storeM i is isb f fb)) := by
  refine PS.weak (ps_asg he (pg_sub (pe_var hN hv hd hcd) hb set_list ha) hs hw rfl) fun D σ H h => ?_
  obtain ⟨xo, ρ, ω, g, r⟩ := h
  obtain ⟨ds0, hi, r⟩ := ownM.inv (k := fun _ => f (relR is ρ) >>= fun d => fb (relR isb (after is d ρ)) >>= fun k => match (after is d ρ)[i]? with
    | some (some (.own ds)) => (match k with
      | .int kk => (match ixN ds.length kk with
        | some j => pure (.nx ((after is d ρ).set i (some (.own (ds.set j d)))))
        | none => bad)
      | _ => bad)
    | _ => bad) r
  obtain ⟨p, vs, hσ, xp, np, hp, l⟩ := own_at g hi
  obtain ⟨xo1, sb, g1⟩ := g.rel is
  refine ⟨xo1, relR is ρ, ω, g1, RunP.mono (RunP.bind r) (fun d o z v H1 s t q => ?_) fun c fs o z => z.exp g1.sub⟩
  refine ⟨.ref p, hσ, ?_⟩
  obtain ⟨xo2, sb2, g2, q2⟩ := Good.after sb (g1.step s t) (g.step s t) q
  obtain ⟨xo3, sb3, g3⟩ := g2.rel isb
  refine ⟨xo3, _, o, g3, RunP.mono (RunP.bind z) (fun k o2 z2 y H2 s2 t2 q3 => ?_) fun c fs o z => (ExS.step (s.ev fun a z => .inl (sb2 a z)) z).exp g3.sub⟩
  obtain ⟨ds, hi2, z3⟩ := ownM.inv z2
  cases k <;> first | (exact z3.elim) | skip
  rename_i kk
  have z4 : RunP ((match ixN ds.length kk with | some j => pure (.nx ((after is d ρ).set i (some (.own (ds.set j d))))) | none => bad : M Fw) o2) _ _ := z3
  cases ej : ixN ds.length kk with
  | none => rw [ej] at z4; exact z4.elim
  | some j =>
    rw [ej] at z4
    cases q3.intE
    have g4 := g2.step s2 t2
    obtain ⟨p2, us, hσ2, xp2, np2, hp2, l2⟩ := own_at g4 hi2
    rw [hσ] at hσ2
    cases hσ2
    refine ⟨p, us, kk, j, rfl, rfl, hp2, by rw [l2.length]; exact ej, ?_⟩
    have ev : Ev W xo H xo2 H2 := (s.trans s2).ev fun a z => .inl (sb2 a z)
    exact (RunP.ret z4) σ _ xo2 (ev.put xp2 np2 hp2) (g4.put hi2 hσ xp2 np2 hp2 (l2.set j (q2.step g4.exo s2)))
end
end Q

set_option maxHeartbeats 4000000
/-! sorted(set(xs)): of a list of tuples of numbers, of a tuple of numbers -/
namespace QS
open PySem PySem.W PySem.Calls PySem.SeqAt PyProof.Rows
abbrev PrI := Addr × List Int
/-- what such a pair stands for -/
def prnD (q : PrI) : PyData := .tuple (q.2.map PyData.int)
section
variable {prog : Program} {w : World} {A : Around} {E : Value → Shared → Prop} {s : Shared}
theorem reads_ints {h : Heap} : ∀ {k : List Int} {vs : List Value}, PySem.ItemsAre (intKind prog w) k vs → ∃ as, ReadsAll h vs (k.map PyData.int) as
  | [], _, .nil => ⟨_, .nil⟩
  | n :: k, _, .cons e t => by
    obtain ⟨as, r⟩ := reads_ints (h := h) t
    obtain ⟨tk, rfl⟩ := Value.isInt_shape e
    exact ⟨_, .cons (.int n tk) r⟩
theorem reads_pr {h : Heap} {q : PrI} (x : L2.IsT prog w h q.2 q.1) : ∃ as, Reads h (.ref q.1) (prnD q) as := by
  obtain ⟨o, items, n, ho, hc, hd, hi⟩ := x
  obtain ⟨as, r⟩ := reads_ints (h := h) hi
  exact ⟨_, .tuple ho hc hd r⟩
theorem alike_ints : ∀ k k' : List Int, alikeAll (k.map PyData.int) (k'.map PyData.int) = true := by
  intro k
  induction k with
  | nil => intro k'; cases k' <;> simp [alikeAll]
  | cons n k ih => intro k'; cases k' with
    | nil => simp [alikeAll]
    | cons m k' => simp [alikeAll, alike, ih]
theorem alike_pr (q r : PrI) : alike (prnD q) (prnD r) = true := by
  show alike (.tuple _) (.tuple _) = true
  simp only [alike]
  exact alike_ints _ _
theorem alike_prs (L : List PrI) : AllAlike (L.map prnD) := fun a ha b hb => by
  obtain ⟨q, _, rfl⟩ := List.mem_map.mp ha
  obtain ⟨r, _, rfl⟩ := List.mem_map.mp hb
  exact alike_pr q r
theorem depth_ints : ∀ k : List Int, PyData.depthAll (k.map PyData.int) ≤ 1 := by
  intro k
  induction k with
  | nil => simp [PyData.depthAll]
  | cons n k ih => simp only [List.map_cons, PyData.depthAll, PyData.depth]; omega
theorem each_refs {L : List PrI} : ∀ {L1 : List PrI}, (∀ q ∈ L1, q ∈ L) → EachIs (fun v q => v = Value.ref q.1 ∧ q ∈ L) (L1.map fun q => Value.ref q.1) L1
  | [], _ => .nil
  | q :: L1, h => .cons ⟨rfl, h q List.mem_cons_self⟩ (each_refs fun r hr => h r (List.mem_cons_of_mem _ hr))
theorem of_each_refs {L : List PrI} : ∀ {out : List Value} {L1 : List PrI}, EachIs (fun v q => v = Value.ref q.1 ∧ q ∈ L) out L1 → out = L1.map (fun q => Value.ref q.1) ∧ ∀ q ∈ L1, q ∈ L
  | _, [], .nil => ⟨rfl, fun _ h => nomatch h⟩
  | _, q :: L1, .cons ⟨e, m⟩ t => by
    obtain ⟨h1, h2⟩ := of_each_refs t
    refine ⟨by rw [h1, e]; rfl, fun r hr => ?_⟩
    rcases List.mem_cons.mp hr with z | z
    · rw [z]; exact m
    · exact h2 r z
theorem le_pr (q r : PrI) : dataLe false prnD q r = dataLe false id (prnD q) (prnD r) := by
  simp only [dataLe_eq, id]
theorem merge_pr (L : List PrI) : (L.mergeSort (dataLe false prnD)).map prnD = sortL (L.map prnD) := by
  refine sorted_one (alike_prs L) ((List.mergeSort_perm _ _).map prnD) (List.pairwise_map.mpr ?_)
  refine (List.pairwise_mergeSort (le := dataLe false prnD) (fun a b c h1 h2 => ?_) (fun a b => ?_) L).imp fun {q r} h => by rw [le_pr] at h; exact h
  · rw [le_pr] at h1 h2 ⊢
    exact le_trans' _ _ _ h1 h2
  · rw [le_pr, le_pr]
    exact le_total' _ _
theorem sortL_perm_eq {xs ys : List PyData} (hal : AllAlike xs) (p : ys.Perm xs) : sortL ys = sortL xs :=
  sorted_one hal ((sortL_perm ys).trans p) (sortL_sorted ys)
/-- the members of a list of references, found again among pairs -/
theorem found_again {L : List PrI} : ∀ vs : List Value, (∀ v ∈ vs, v ∈ L.map fun q => Value.ref q.1) → ∃ L1 : List PrI, vs = L1.map (fun q => Value.ref q.1) ∧ ∀ q ∈ L1, q ∈ L
  | [], _ => ⟨[], rfl, fun _ h => nomatch h⟩
  | v :: vs, hv => by
    obtain ⟨L1, e1, m1⟩ := found_again vs fun u hu => hv u (List.mem_cons_of_mem _ hu)
    obtain ⟨q, hq, e⟩ := List.mem_map.mp (hv v List.mem_cons_self)
    exact ⟨q :: L1, by rw [e1, ← e]; rfl, fun r hr => (List.mem_cons.mp hr).elim (fun z => z ▸ hq) (m1 r)⟩
/-- pairs whose references are alike stand for the same data -/
theorem prs_perm {L L1 : List PrI} (one : ∀ q ∈ L, ∀ r ∈ L, q.1 = r.1 → q.2 = r.2) (m1 : ∀ q ∈ L1, q ∈ L) (p : (L1.map fun q => Value.ref q.1).Perm (L.map fun q => Value.ref q.1)) : (L1.map prnD).Perm (L.map prnD) := by
  let g : Value → PyData := fun v => match v with
    | .ref a => (match L.find? fun q => q.1 == a with | some q => prnD q | none => .none)
    | _ => .none
  have gq : ∀ q ∈ L, g (Value.ref q.1) = prnD q := fun q hq => by
    show (match L.find? fun r => r.1 == q.1 with | some r => prnD r | none => .none) = _
    cases hf : L.find? (fun r => r.1 == q.1) with
    | none =>
      have z := List.find?_eq_none.mp hf q hq
      simp at z
    | some r =>
      have e1 : r.1 = q.1 := by simpa using List.find?_some hf
      have e2 := one r (List.mem_of_find?_eq_some hf) q hq e1
      show prnD r = prnD q
      unfold prnD
      rw [e2]
  have k1 : (L1.map fun q => Value.ref q.1).map g = L1.map prnD := by
    rw [List.map_map]
    exact List.map_congr_left fun q hq => gq q (m1 q hq)
  have k2 : (L.map fun q => Value.ref q.1).map g = L.map prnD := by
    rw [List.map_map]
    exact List.map_congr_left fun q hq => gq q hq
  rw [← k1, ← k2]
  exact p.map g
/-- sorted(s), s a set of tuples of numbers -/
theorem sorted_setD {a : Addr} {L : List PrI} {es : Array (Int × Value)} {ep : Nat} {t : SetTable} {Q : Value → Shared → Prop} (R : L2.SetTR prog w s.heap a L es ep t) (hh : A.handled = none) (hu : A.units + 8 < cLine)
    (hQ : ∀ s' p (out : List Value) (c : Nat) (L' : List PrI), (∀ b o, s.heap.get? b = some o → s'.heap.get? b = some o) → s'.gens = s.gens → s'.os = s.os → s.heap.objs.size ≤ p →
      s'.heap.get? p = some (seqObj "list" out.toArray c) → out = L'.map (fun q => Value.ref q.1) → (∀ q ∈ L', q ∈ L) → L'.length < 64 → L'.map prnD = sortL (L.map prnD) → Q (.ref p) s') :
    wpAny (model prog w) A (call (.builtin "sorted") [.ref a]) Q E s := by
  obtain ⟨o, ho, hex, hd⟩ := R.ob
  have hsz := R.size
  have hfew := R.few
  refine call_function_entry_kw kind_sorted plain_sorted entry_sorted (args_sorted1 _) ?_
  unfold Builtin.«sorted»
  refine wpAny_bind (m := checkCount "sorted" 1 1 _) (wpAny_pure ?_)
  refine wpAny_bind (L2.collect_set (A := A.in1) hh ⟨o, ho, hex.1, hd⟩ R.fits (by unfold scanBound; omega) R.tab.ris R.led fun s1 vs k1 hz g1 o1 pm => ?_)
  have hes : es.toList.map (·.2) = L.map fun q => Value.ref q.1 := by
    rw [R.rows, L2.rowsOf, List.map_map]
    rfl
  rw [hes] at pm
  obtain ⟨L1, rfl, m1⟩ := found_again vs fun v hv => pm.mem_iff.mp hv
  have len1 : L1.length = L.length := by simpa using pm.length_eq
  have pd : (L1.map prnD).Perm (L.map prnD) := prs_perm (fun q hq r hr e => by
    have x := R.tup q hq
    rw [e] at x
    exact x.inj (R.tup r hr)) m1 pm
  have hvl : (L1.map fun q => Value.ref q.1).length ≤ sizeLine := by rw [List.length_map, len1, sizeLine_eq]; omega
  refine wpAny_bind (wpAny_newList ?_ hvl)
  generalize hv : (L1.map fun q => Value.ref q.1) = vs at hvl
  have hoL : (s1.heap.push (seqObj "list" vs.toArray 0)).get? s1.heap.objs.size = some (seqObj "list" vs.toArray 0) := Heap.get?_push_size _ rfl
  have old : ∀ b u, s.heap.get? b = some u → (sortingHeap (s1.heap.push (seqObj "list" vs.toArray 0)) s1.heap.objs.size vs).get? b = some u := fun b u e => by
    have q := k1 b u e
    have hlt := Heap.lt_size q
    exact sortingHeap_old (Nat.ne_of_lt hlt) (Heap.get?_push_of_some _ q)
  have er : EachIs (fun v q => ∃ as, Reads (sortingHeap (s1.heap.push (seqObj "list" vs.toArray 0)) s1.heap.objs.size vs) v (prnD q) as) vs L1 := by
    rw [← hv] at old ⊢
    refine (each_refs m1).mono fun v q ⟨e, m⟩ => ?_
    rw [e]
    exact reads_pr (L2.isT_keep (R.tup q m) old)
  have S : SortsAt prog w A.in1.in1 { s1 with heap := sortingHeap (s1.heap.push (seqObj "list" vs.toArray 0)) s1.heap.objs.size vs } (dataKind (sortingHeap (s1.heap.push (seqObj "list" vs.toArray 0)) s1.heap.objs.size vs) (L1.map prnD)) vs :=
    sorts_at (s := { s1 with heap := sortingHeap (s1.heap.push (seqObj "list" vs.toArray 0)) s1.heap.objs.size vs }) (each_map prnD er) (alike_prs L1) (.inl fun d hd => by
      obtain ⟨q, _, rfl⟩ := List.mem_map.mp hd
      exact ⟨_, rfl⟩) fun d hd => by
      obtain ⟨q, _, rfl⟩ := List.mem_map.mp hd
      have := depth_ints q.2
      show A.units + 1 + 1 + (PyData.depthAll (q.2.map PyData.int) + 1) < cLine
      omega
  have data := sortVals_data (enc := prnD) false (hv ▸ each_refs m1) er (alike_prs L1)
  obtain ⟨e2, m2⟩ := of_each_refs data
  refine wpAny_bind (wpAny_holding (wpAny_call_entry_kw slot_list_sort ⟨_, hoL, rfl⟩ entry_list_sort ?_ (args_list_sort _)))
  refine wpAny_mono (list_sort_vals (s := { s1 with heap := s1.heap.push (seqObj "list" vs.toArray 0) }) hoL S hvl (P := fun f s' => f = .done (.ret .none) ∧ s' = _) ⟨rfl, rfl⟩) (fun f s' hf => ?_) fun _ _ e => e
  obtain ⟨rfl, rfl⟩ := hf
  obtain ⟨c, hc⟩ := sortedHeap_at (vs := vs) (out := (sortVals (dataKind (sortingHeap (s1.heap.push (seqObj "list" vs.toArray 0)) s1.heap.objs.size vs) (L1.map prnD)) false vs vs).toArray) hoL
  refine ⟨_, rfl, wpAny_pure ⟨_, rfl, hQ _ s1.heap.objs.size _ c _ (fun b u e => ?_) g1 o1 hz hc e2 m2 ?_ ?_⟩⟩
  · have q := k1 b u e
    have hlt := Heap.lt_size q
    show (sortedHeap (s1.heap.push (seqObj "list" vs.toArray 0)) s1.heap.objs.size vs _).get? b = some u
    rw [sortedHeap_old (Nat.ne_of_lt hlt) (by rw [size_push']; exact Nat.lt_succ_of_lt hlt)]
    exact Heap.get?_push_of_some _ q
  · rw [(List.mergeSort_perm _ _).length_eq, len1]
    exact hfew
  · rw [merge_pr]
    exact sortL_perm_eq (alike_prs L) pd
end
end QS


set_option maxHeartbeats 4000000
/-! set(xs) of a list of whole numbers -/
namespace QS
open PySem PySem.Spec PyProof.Rows L2
section
variable {P : Program} {w : World} {A : Around} {E : Value → Shared → Prop} {s : Shared}
/-- a set as it is made -/
abbrev bare (w : World) : Obj := { cls := .type "set", dict := none, data := .set #[] 0 (.fresh 0 0 (!w.params.followText "set-order")) }
/-- what is known behind set(l) -/
def SetDone (w : World) (s : Shared) (ns : List Int) (r : Value) (s2 : Shared) : Prop := r = .none ∧ ∃ (hp : Heap) (tk c : Nat), s2 = { s with heap := hp, toks := tk } ∧ SetR w hp s.heap.objs.size (fun j => decide (j ∈ ns)) c ∧ c ≤ ns.length ∧ ∀ b o, s.heap.get? b = some o → hp.get? b = some o
set_option maxHeartbeats 8000000 in
theorem set_list_ints {l : Addr} {items : Array Value} (ns : List Int) {Q : Value → Shared → Prop} (quiet : A.handled = none) (at_l : s.heap.IsList l items) (are : IntsAre items.toList ns) (few : ns.length + 1 < scanBound)
    (fin : ∀ (hp : Heap) (tk c : Nat), SetR w hp s.heap.objs.size (fun j => decide (j ∈ ns)) c → c ≤ ns.length → (∀ b o, s.heap.get? b = some o → hp.get? b = some o) → Q (.ref s.heap.objs.size) { s with heap := hp, toks := tk }) :
    wpAny (model P w) A (call (.type "set") [.ref l]) Q E s := by
  have size_ns : items.size = ns.length := (Array.length_toList).symm.trans (IntsAre.length are)
  obtain ⟨mc, mtl, mro⟩ := F.called_set.mro
  have made := F.called_set.made
  have sub := F.called_set.sub
  have nt := F.called_set.notType
  have cc := F.called_set.canCreate
  have tc := F.typeCall_set_1 (.ref l)
  refine wpAny_call (codeAny_of_tree (show wpAny _ _ (callAny (.type "set") _) _ _ _ from ?_))
  refine wpAny_pure ⟨Code.quiet_builtin _ (by decide +kernel), codeAny_builtin F.entry_type_call ?_⟩
  rw [Around.under_plain (weight_type_call_type "set" [.ref l] []) rfl]
  repeat (any_goals (first | assumption | wp_step))
  refine codeAny_mono (code_set_led1 (w := w) (.ref l) (E := E) (Q₁ := fun o s1 => o = .ref s.heap.objs.size ∧ s1 = { s with heap := s.heap.push (bare w) }) ⟨rfl, rfl⟩) fun made_r s1 told => ?_
  rcases made_r with e | fl
  · exact told
  rcases fl with _ | _ | _ | ob <;> first | exact told.elim | skip
  · obtain ⟨eo, es⟩ := told
    subst eo es
    have new_at : (s.heap.push (bare w)).get? s.heap.objs.size = some (bare w) := Heap.get?_push_size _ rfl
    have ty : Shared.TypeIs { s with heap := s.heap.push (bare w) } (.ref s.heap.objs.size) "set" := ⟨_, new_at, rfl⟩
    have lk := F.called_set.init.lookup
    have bd := F.called_set.init.bind (.ref s.heap.objs.size)
    repeat (any_goals (first | assumption | wp_step))
    refine codeAny_mono (codeAny_call_builtin (R := wants (SetDone w s ns) E) F.called_set.init.plain F.entry_set_init (check_set_init_1 ty ?_)) fun r2 s2 told2 => ?_
    · obtain ⟨ob, ob_at, oc, on, od⟩ := at_l
      obtain ⟨x1, x2, x3, x4⟩ := ob
      dsimp only at oc od
      subst oc od
      have grown : (s.heap.push (bare w)).get? l = some { cls := .type "list", dict := x2, data := .seq items on, slots := x4 } := Heap.get?_push_of_some _ ob_at
      have n1 := F.sub_list_set
      have n2 := F.sub_list_frozenset
      have n3 : (Value.type "list" == Value.type "dict") = false := by decide
      have list_now : (s.heap.push (bare w)).IsList l items := ⟨_, grown, rfl, on, rfl⟩
      unfold Builtin.«set.__init__» noKeywords Builtin.Frozenset.updateFrom
      generalize epi : pyIter = PI
      wp_walk
      subst epi
      refine wpAny_pyIter_list list_now (wpAny_bind (wpAny_runValue ?_))
      have below : l < s.heap.objs.size := Heap.lt_size ob_at
      have q3 : A.in1.in1.in1.handled = none := by simp [quiet]
      have it_ne : l ≠ (s.heap.push (bare w)).objs.size := fun z => by
        rw [Heap.size_push] at z
        exact Nat.ne_of_lt (Nat.lt_succ_of_lt below) z
      have apart : s.heap.objs.size ∉ [(s.heap.push (bare w)).objs.size, l] := fun z => by
        rw [Heap.size_push] at z
        rcases List.mem_cons.mp z with z | z
        · omega
        · exact Nat.ne_of_gt below (List.mem_singleton.mp z)
      have each : ∀ (i : Nat) (v : Value), items[i]? = some v → ∃ k t, ns[i]? = some k ∧ v = .int k t := fun i v hv => by
        have lt : i < ns.length := size_ns ▸ (Array.getElem?_eq_some_iff.mp hv).1
        obtain ⟨t, e⟩ := PyProof.Rows.IntsAre.int_at are i v (by rw [Array.getElem?_toList]; exact hv)
        have g := List.getElem?_eq_getElem lt
        exact ⟨ns[i], t, g, by rw [e, List.getD_eq_getElem?_getD, g]; rfl⟩
      have start : ((s.heap.push (bare w)).push { cls := .type "list_iterator", data := .fields #[.ref l, .int 0 0] }).get? s.heap.objs.size = some (bare w) := Heap.get?_push_of_some _ new_at
      refine set_update_ints ((Walks.list q3 _ l it_ne items).toS) s.heap.objs.size apart ns size_ns few each (items.size - 0) 0 _ (by omega) (Nat.zero_le _) ⟨⟨_, Heap.get?_push_size _ rfl, rfl, rfl⟩, list_now.push _⟩ ⟨0, Nat.le_refl 0, setR_new_at start⟩ fun t2 c2 moved c2le R2 => ?_
      obtain ⟨hp, g2, d2, tk, os2⟩ := t2
      have e1 : g2 = s.gens := moved.gens
      have e2 : d2 = s.drawn := moved.drawn
      have e3 : os2 = s.os := moved.os
      subst e1 e2 e3
      show wpAny _ _ _ _ _ _
      refine wpAny_pure (show wpAny _ _ (ret Value.none) _ _ _ from wpAny_pure ⟨rfl, hp, tk, c2, rfl, R2, size_ns ▸ c2le, fun b o e => ?_⟩)
      have b0 : b < s.heap.objs.size := Heap.lt_size e
      refine moved.heap b o (fun z => ?_) (Heap.get?_push_of_some _ (Heap.get?_push_of_some _ e))
      rcases List.mem_cons.mp z with z | z
      · exact Nat.ne_of_lt b0 z
      · have y := List.mem_singleton.mp z
        rw [Heap.size_push] at y
        exact Nat.ne_of_lt (Nat.lt_succ_of_lt b0) y
    · rcases r2 with e | fl2
      · exact told2
      rcases fl2 with _ | _ | _ | r <;> first | exact told2.elim | skip
      · obtain ⟨er, hp, tk, c2, e2, R2, c2le, kept⟩ := told2
        subst er e2
        repeat (any_goals (first | assumption | wp_step))
        exact fin _ _ _ R2 c2le kept
end
end QS

set_option maxHeartbeats 4000000
namespace Q
open PySem PySem.Spec PyProof.Rows L2
open QS (PrI prnD)
def isNum : PyData → Bool
  | .int _ => true
  | _ => false
def isNumT : PyData → Bool
  | .tuple xs => xs.all isNum
  | _ => false
/-- without those that come again further on -/
def once : List PyData → List PyData
  | [] => []
  | x :: xs => if xs.any (PyData.eqv x) then once xs else x :: once xs
/-- sorted(set(d)) -/
def setSort : PyData → Option PyData
  | .list ds => if (ds.all isNumT || ds.all isNum) && decide (ds.length < 64) then some (.list (QS.sortL (once ds))) else none
  | .tuple ds => if ds.all isNum && decide (ds.length < 64) then some (.list (QS.sortL (once ds))) else none
  | _ => none
theorem nums {ds : List PyData} (h : ds.all isNum = true) : ∃ k : List Int, ds = k.map PyData.int := by
  induction ds with
  | nil => exact ⟨[], rfl⟩
  | cons d ds ih =>
    rw [List.all_cons, Bool.and_eq_true] at h
    obtain ⟨k, rfl⟩ := ih h.2
    have := h.1
    cases d <;> first | (cases this; done) | skip
    exact ⟨_ :: k, rfl⟩
theorem numT {d : PyData} (h : isNumT d = true) : ∃ k : List Int, d = .tuple (k.map PyData.int) := by
  cases d <;> first | (cases h; done) | skip
  obtain ⟨k, rfl⟩ := nums h
  exact ⟨k, rfl⟩
theorem once_sub : ∀ {ds : List PyData} {d : PyData}, d ∈ once ds → d ∈ ds
  | [], _, h => h
  | x :: xs, d, h => by
    unfold once at h
    split at h
    · exact List.mem_cons_of_mem _ (once_sub h)
    · rcases List.mem_cons.mp h with z | z
      · rw [z]; exact List.mem_cons_self
      · exact List.mem_cons_of_mem _ (once_sub z)
theorem once_mem {ds : List PyData} (hal : PySem.W.AllAlike ds) {d : PyData} (h : d ∈ ds) : d ∈ once ds := by
  induction ds generalizing d with
  | nil => exact h
  | cons x xs ih =>
    have hx : PySem.W.AllAlike xs := fun a ha b hb => hal a (List.mem_cons_of_mem _ ha) b (List.mem_cons_of_mem _ hb)
    unfold once
    split
    · rename_i c
      rcases List.mem_cons.mp h with z | z
      · obtain ⟨y, hy, e⟩ := List.any_eq_true.mp c
        have := QS.alike_eq x y (hal x List.mem_cons_self y (List.mem_cons_of_mem _ hy)) e
        rw [z, this]
        exact ih hx hy
      · exact ih hx z
    · rcases List.mem_cons.mp h with z | z
      · rw [z]; exact List.mem_cons_self
      · exact List.mem_cons_of_mem _ (ih hx z)
theorem once_nodup : ∀ {ds : List PyData}, (∀ d ∈ ds, PyData.eqv d d = true) → (once ds).Nodup
  | [], _ => .nil
  | x :: xs, hr => by
    unfold once
    split
    · exact once_nodup fun d hd => hr d (List.mem_cons_of_mem _ hd)
    · rename_i c
      refine List.nodup_cons.mpr ⟨fun m => c ?_, once_nodup fun d hd => hr d (List.mem_cons_of_mem _ hd)⟩
      exact List.any_eq_true.mpr ⟨x, once_sub m, hr x List.mem_cons_self⟩
theorem eqv_nums : ∀ k : List Int, PyData.eqvAll (k.map PyData.int) (k.map PyData.int) = true
  | [] => by simp [PyData.eqvAll]
  | n :: k => by simp [PyData.eqvAll, PyData.eqv, eqv_nums k]
theorem eqv_numT (k : List Int) : PyData.eqv (.tuple (k.map PyData.int)) (.tuple (k.map PyData.int)) = true := by
  simp only [PyData.eqv]
  exact eqv_nums k
/-- what has the members of a list, each once, is sorted the same -/
theorem once_sort {ds ys : List PyData} (hal : PySem.W.AllAlike ds) (hr : ∀ d ∈ ds, PyData.eqv d d = true) (nd : ys.Nodup) (sub : ∀ d ∈ ys, d ∈ ds) (all : ∀ d ∈ ds, d ∈ ys) : QS.sortL ys = QS.sortL (once ds) := by
  refine QS.sortL_perm_eq (fun a ha b hb => hal a (once_sub ha) b (once_sub hb)) ?_
  refine (List.perm_ext_iff_of_nodup nd (once_nodup hr)).mpr fun d => ⟨fun h => once_mem hal (sub d h), fun h => all d (once_sub h)⟩
section
variable {K : PySem.W.Frag} {xo : Addr → Prop} {H : Hp}
theorem dtl_nums : ∀ {k : List Int} {vs : List V}, DtL K xo H (k.map PyData.int) vs → vs = k.map V.int
  | [], vs, l => by simpa only [List.map_nil, DtL] using l
  | n :: k, vs, l => by
    simp only [List.map_cons, DtL] at l
    obtain ⟨v, r, e, a, b⟩ := l
    simp only [Dt] at a
    rw [e, a, dtl_nums b]
    rfl
theorem dtl_of_nums : ∀ {k : List Int}, DtL K xo H (k.map PyData.int) (k.map V.int)
  | [] => by simp only [List.map_nil, DtL]
  | n :: k => by
    simp only [List.map_cons, DtL]
    exact ⟨_, _, rfl, by simp only [Dt], dtl_of_nums⟩
theorem dtl_pairs : ∀ {ds : List PyData} {vs : List V}, DtL K xo H ds vs → ds.all isNumT = true → ∃ ks : List PrI, vs = ks.map (fun p => V.ref p.1) ∧ ds = ks.map prnD ∧ ∀ p ∈ ks, SqT K H p.1 (p.2.map V.int) ∧ Dt K xo H (prnD p) (.ref p.1)
  | [], vs, l, _ => by
    simp only [DtL] at l
    exact ⟨[], l, rfl, fun _ h => nomatch h⟩
  | d :: ds, vs, l, h => by
    rw [List.all_cons, Bool.and_eq_true] at h
    obtain ⟨k, rfl⟩ := numT h.1
    simp only [DtL] at l
    obtain ⟨v, r, e, a, b⟩ := l
    obtain ⟨ks, e1, e2, m⟩ := dtl_pairs b h.2
    obtain ⟨c, ws, rfl, q, lw⟩ := a.tupE
    refine ⟨(c, k) :: ks, by rw [e, e1]; rfl, by rw [e2]; rfl, fun p hp => ?_⟩
    rcases List.mem_cons.mp hp with z | z
    · rw [z]
      refine ⟨?_, a⟩
      rw [dtl_nums lw] at q
      exact q
    · exact m p z
theorem dtl_prs : ∀ {L : List PrI}, (∀ p ∈ L, Dt K xo H (prnD p) (.ref p.1)) → DtL K xo H (L.map prnD) (L.map fun p => V.ref p.1)
  | [], _ => by simp only [List.map_nil, DtL]
  | p :: L, h => by
    simp only [List.map_cons, DtL]
    exact ⟨_, _, rfl, h p List.mem_cons_self, dtl_prs fun q hq => h q (List.mem_cons_of_mem _ hq)⟩
end
section
variable {X : Cx}
theorem ints_inj : ∀ {k k' : List Int}, k.map PyData.int = k'.map PyData.int → k = k'
  | [], [], _ => rfl
  | [], _ :: _, h => nomatch h
  | _ :: _, [], h => nomatch h
  | n :: k, m :: k', h => by
    simp only [List.map_cons, List.cons.injEq, PyData.int.injEq] at h
    rw [h.1, ints_inj h.2]
/-- set(xs) -/
def rSetQ (K : PySem.W.Frag) (P : Program) (w : World) : List V → Hp → VK → Prop := fun xs H Q => rSetOfT K P w xs H Q ∨ ∃ (a : Addr) (ns : List Int), xs = [V.ref a] ∧ (SqT K H a (ns.map V.int) ∨ SqL K H a (ns.map V.int)) ∧ ns.length < 64 ∧
  ∀ b c, H b = none → c ≤ ns.length → Q (.ref b) (upd H b (SetO w b (fun j => decide (j ∈ ns)) c))
theorem c_setQ (hc : X.calm = true) (hu : X.A.units + 70 < cLine) : CallR X (.type "set") (rSetQ X.K X.prog X.w) := by
  intro pins s σ H xs us Q I r h
  rcases h with h | ⟨a, ns, rfl, ha, hl, q⟩
  · exact cr_setOfT hc (by omega) pins s σ H xs us Q I r h
  · rw [Vals.ref1 r]
    have hn : H s.heap.objs.size = none := I.hok.fresh (Nat.le_refl _)
    rcases ha with ha | ha
    · obtain ⟨its, rv, pl, hz⟩ := I.tuple ha
      refine call_set_tupI (P := X.prog) (w := X.w) ns (I.ok.hd hc) pl (by simpa using Vals.ints rv) (by unfold scanBound; omega) fun h' tk c R hcl k => ?_
      exact ⟨.ref s.heap.objs.size, upd H s.heap.objs.size (SetO X.w s.heap.objs.size (fun j => decide (j ∈ ns)) c), I.laid (t' := tk) k (Nat.le_refl _) (setO_new R), rfl, q _ c hn hcl⟩
    · obtain ⟨its, rv, pl, hz⟩ := I.list ha
      refine QS.set_list_ints (P := X.prog) (w := X.w) ns (I.ok.hd hc) pl.isList (by simpa using Vals.ints rv) (by unfold scanBound; omega) fun h' tk c R hcl k => ?_
      exact ⟨.ref s.heap.objs.size, upd H s.heap.objs.size (SetO X.w s.heap.objs.size (fun j => decide (j ∈ ns)) c), I.laid (t' := tk) k (Nat.le_refl _) (setO_new R), rfl, q _ c hn hcl⟩
/-- sorted(s) -/
def rSortQ (K : PySem.W.Frag) (P : Program) (w : World) : List V → Hp → VK → Prop := fun vs H Q => rSortedSet w vs H Q ∨ ∃ (a : Addr) (L : List PrI), vs = [V.ref a] ∧ H a = some (SetTO P w a L) ∧ (∀ p ∈ L, SqT K H p.1 (p.2.map V.int)) ∧
  ∀ (L' : List PrI) (p : Addr), (∀ q ∈ L', q ∈ L) → (L.map prnD).Nodup → L'.map prnD = QS.sortL (L.map prnD) → H p = none → Q (.ref p) (upd H p (.lst (L'.map fun q => V.ref q.1)))
theorem c_sortQ (hc : X.calm = true) (hu : X.A.units + 70 < cLine) : CallR X (.builtin "sorted") (rSortQ X.K X.prog X.w) := by
  intro pins s σ H vs us Q I r h
  rcases h with h | ⟨a, L, rfl, ha, hk, q⟩
  · exact cr_sortedSet hc pins s σ H vs us Q I r h
  · have R0 : SetT0 X.prog X.w s.heap a L := (I.hok a _ ha).1
    obtain ⟨es, ep, t, R⟩ := R0.full fun p hp => I.isT (hk p hp)
    rw [Vals.ref1 r]
    refine QS.sorted_setD R (I.ok.hd hc) (by omega) fun s' p out c L' k g o hp hg hout sub few srt => ?_
    have hlen : (L'.map fun q => V.ref q.1).length ≤ sizeLine := by rw [List.length_map, sizeLine_eq]; omega
    have hn : H p = none := I.hok.fresh hp
    have hv : Vals (L'.map fun q => V.ref q.1) out := by rw [hout]; exact vals_of_refs L'
    have J : Inv X pins σ (upd H p (.lst (L'.map fun q => V.ref q.1))) { s with heap := s'.heap, gens := s'.gens, drawn := s'.drawn, toks := s'.toks } :=
      I.call (ch := []) (Un.laid k hp hn) (I.hok.laid k hp ⟨hlen, out, c, hv, hg⟩) (by rw [g]; exact I.bare) (fun _ z => nomatch z)
    have e : s' = { s with heap := s'.heap, gens := s'.gens, drawn := s'.drawn, toks := s'.toks } := by
      cases s'
      cases s
      cases o
      rfl
    rw [e]
    have nd : (L.map prnD).Nodup := by
      have := List.pairwise_map.mp R.nd
      refine List.pairwise_map.mpr (this.imp fun {x y} ne e => ne ?_)
      have e1 : x.2.map PyData.int = y.2.map PyData.int := by
        have e : PyData.tuple (x.2.map PyData.int) = PyData.tuple (y.2.map PyData.int) := e
        injection e
      exact ints_inj e1
    exact ⟨.ref p, _, J, rfl, q L' p sub nd srt hn⟩
variable {W : Wd} {Wx : WX}
theorem alike_num {k : List Int} : PySem.W.AllAlike (k.map PyData.int) := fun a ha b hb => by
  obtain ⟨m, _, rfl⟩ := List.mem_map.mp ha
  obtain ⟨n, _, rfl⟩ := List.mem_map.mp hb
  simp [W.alike]
theorem nums_sort {ns ms : List Int} (ord : ms.Pairwise (fun a b => a < b)) (mem : ∀ n, n ∈ ms ↔ decide (n ∈ ns) = true) : PyData.list (QS.sortL (once (ns.map PyData.int))) = .list (ms.map PyData.int) := by
  have nd : (ms.map PyData.int).Nodup := by
    refine List.pairwise_map.mpr (ord.imp fun {x y} lt e => ?_)
    injection e with e
    omega
  rw [← once_sort (ys := ms.map PyData.int) (alike_num (k := ns)) (fun d hd => ?_) nd (fun d hd => ?_) fun d hd => ?_]
  · refine congrArg PyData.list (Eq.symm <| QS.sorted_one alike_num (.refl _) (List.pairwise_map.mpr (ord.imp fun {x y} lt => ?_)))
    show (!PySem.W.dataLt (PyData.int y) (PyData.int x)) = true
    rw [PySem.W.dataLt_int]
    simp
    omega
  · obtain ⟨n, _, rfl⟩ := List.mem_map.mp hd
    simp [PyData.eqv]
  · obtain ⟨n, hn, rfl⟩ := List.mem_map.mp hd
    exact List.mem_map.mpr ⟨n, by simpa using (mem n).mp hn, rfl⟩
  · obtain ⟨n, hn, rfl⟩ := List.mem_map.mp hd
    exact List.mem_map.mpr ⟨n, (mem n).mpr (by simpa using hn), rfl⟩
/-- sorted(set(e)) -/
theorem qe_sortSet {e : Expr} {f : Rho → M PyData} {p p2 pos pos2 : Pos} (hc : X.calm = true) (hu : X.A.units + 70 < cLine) (hg : Gl X "sorted") (hm : X.mg "sorted" = none) (hg2 : Gl X "set") (hm2 : X.mg "set" = none) (he : PE X e (tQ X W Wx f)) (hs : starEach [e] X.env = [(false, eval e X.env)]) :
    PE X (.Call (.Name "sorted" p) [.Call (.Name "set" p2) [e] [] pos2] [] pos) (tQ X W Wx fun ρ => do let d ← f ρ; get? (setSort d)) := by
  refine PE.weak (pe_callB (c_sortQ hc hu) hg hm (by decide +kernel) (pa_cons (pe_callTy (c_setQ hc hu) hg2 hm2 (by decide +kernel) (pa_cons he pa_nil hs) (by decide) (by decide) hs) pa_nil)) fun σ H Q h => ?_
  obtain ⟨xo, ρ, ω, g, r⟩ := h
  refine ⟨xo, ρ, ω, g, RunP.mono (RunP.bind r) (fun d ω1 r1 x H1 s1 t1 q1 => ?_) fun _ _ _ e => e⟩
  have g1 := g.step s1 t1
  obtain ⟨w, ew, k⟩ := RunP.get r1
  have fin : ∀ {a p : Addr} {o : HO} {vs : List V} {ds : List PyData}, H1 a = none → (upd H1 a o) p = none → w = .list ds → DtL X.K xo H1 ds vs → Q (.ref p) (upd (upd H1 a o) p (.lst vs)) := fun {a p o vs ds} ha hp ew l => by
    have sm : Same H1 (upd (upd H1 a o) p (.lst vs)) := (same_upd ha).trans (same_upd hp)
    refine k _ _ (s1.trans (Step.of_same sm)) (St.same t1 sm) ?_
    rw [ew]
    refine newLst hp (fun b hb z => ?_) (l.same (same_upd ha))
    have := g1.tr b hb
    cases hH : H1 b with
    | none => exact this hH
    | some u => rw [same_upd ha b u hH] at z; cases z
  cases d <;> first | (cases ew; done) | skip
  case list ds =>
    obtain ⟨a, vs, rfl, q, l⟩ := q1.lstE
    have e2 : (if (ds.all isNumT || ds.all isNum) && decide (ds.length < 64) then some (PyData.list (QS.sortL (once ds))) else none) = some w := ew
    split at e2
    · rename_i c
      cases e2
      rw [Bool.and_eq_true, decide_eq_true_eq, Bool.or_eq_true] at c
      rcases c.1 with c1 | c1
      rotate_left
      · obtain ⟨ns, rfl⟩ := nums c1
        obtain rfl := dtl_nums l
        have c2 : ns.length < 64 := by simpa using c.2
        refine .inr ⟨a, ns, rfl, .inr q.sq, c2, fun b n hb hn => ?_⟩
        refine .inl ⟨b, _, n, rfl, upd_same, by omega, fun ms p ord mem len hp => fin hb hp ?_ (dtl_of_nums (k := ms))⟩
        exact nums_sort ord mem
      obtain ⟨ks, rfl, rfl, mk⟩ := dtl_pairs l c1
      refine .inl ⟨a, ks, rfl, q.sq, fun p hp => (mk p hp).1, by simpa using c.2, fun b L hb sub all => ?_⟩
      refine .inr ⟨b, L, rfl, upd_same, fun p hp => ?_, fun L' p sub' nd srt hp => ?_⟩
      · exact (mk p (sub p hp)).1.elim (fun h => .inl (h.elim (fun h => .inl (same_upd hb _ _ h)) fun ⟨o, h⟩ => .inr ⟨o, same_upd hb _ _ h⟩)) fun h => .inr h
      · refine fin hb hp ?_ (dtl_prs fun q hq => (mk q (sub q (sub' q hq))).2)
        rw [srt, once_sort (ds := ks.map prnD) (QS.alike_prs ks) (fun d hd => ?_) nd (fun d hd => ?_) fun d hd => ?_]
        · obtain ⟨q, _, rfl⟩ := List.mem_map.mp hd
          exact eqv_numT _
        · obtain ⟨q, hq, rfl⟩ := List.mem_map.mp hd
          exact List.mem_map.mpr ⟨q, sub q hq, rfl⟩
        · obtain ⟨q, hq, rfl⟩ := List.mem_map.mp hd
          obtain ⟨q', hq', e⟩ := List.mem_map.mp (all q hq)
          exact List.mem_map.mpr ⟨q', hq', by unfold QS.prnD; rw [e]⟩
    · cases e2
  case tuple ds =>
    obtain ⟨a, vs, rfl, q, l⟩ := q1.tupE
    have e2 : (if ds.all isNum && decide (ds.length < 64) then some (PyData.list (QS.sortL (once ds))) else none) = some w := ew
    split at e2
    · rename_i c
      cases e2
      rw [Bool.and_eq_true, decide_eq_true_eq] at c
      obtain ⟨ns, rfl⟩ := nums c.1
      obtain rfl := dtl_nums l
      have c2 : ns.length < 64 := by simpa using c.2
      refine .inr ⟨a, ns, rfl, .inl q, c2, fun b n hb hn => ?_⟩
      refine .inl ⟨b, _, n, rfl, upd_same, by omega, fun ms p ord mem len hp => fin hb hp ?_ (dtl_of_nums (k := ms))⟩
      exact nums_sort ord mem
    · cases e2
end
end Q

set_option maxHeartbeats 4000000
/-! xs[::-1], a list's and a tuple's -/
namespace QS
open PySem PySem.W PySem.Calls PySem.SeqAt PyProof.Rows
section
variable {prog : Program} {w : World} {A : Around} {E : Value → Shared → Prop} {s : Shared}
theorem back_adjust (n : Nat) : Builtin.Slice.sliceAdjust none none (-1) (n : Int) = ((n : Int) - 1, -1) := by
  simp [Builtin.Slice.sliceAdjust]
theorem back_places (n : Nat) : Builtin.Slice.slicePlaces ((n : Int) - 1) (-1) (-1) = n := by
  unfold Builtin.Slice.slicePlaces
  rw [if_neg (by omega)]
  by_cases h : (n : Int) - 1 > -1
  · rw [if_pos h]
    have : (- -1 : Int) = 1 := by decide
    rw [this, Int.ediv_one]
    omega
  · rw [if_neg h]
    omega
theorem fm_congr {α β : Type} {f g : α → Option β} : ∀ {l : List α}, (∀ x ∈ l, f x = g x) → l.filterMap f = l.filterMap g
  | [], _ => rfl
  | x :: l, h => by rw [List.filterMap_cons, List.filterMap_cons, h x List.mem_cons_self, fm_congr fun y hy => h y (List.mem_cons_of_mem _ hy)]
theorem back_pick (xs : Array Value) : ((List.range xs.size).filterMap fun (m : Nat) => xs[(((xs.size : Int) - 1) + (m : Int) * (-1)).toNat]?).toArray = xs.toList.reverse.toArray := by
  have e : (List.range xs.size).filterMap (fun (m : Nat) => xs[(((xs.size : Int) - 1) + (m : Int) * (-1)).toNat]?) = ((List.range xs.size).map fun k => xs.size - 1 - k).filterMap (xs[·]?) := by
    rw [List.filterMap_map]
    refine fm_congr fun m hm => ?_
    have := List.mem_range.mp hm
    have q : (((xs.size : Int) - 1) + (m : Int) * (-1)).toNat = xs.size - 1 - m := by omega
    rw [q]
    rfl
  rw [e, krv_range, List.filterMap_reverse, krv_all]
theorem applied_back {sl : Addr} {vl vu vs : Value} {n : Nat} {Q : Int × Int × Nat → Shared → Prop} (hs : s.heap.IsSliceOf sl vl vu vs) (pl : IsPart vl none) (pu : IsPart vu none) (ps : IsPart vs (some (-1)))
    (h : Q ((n : Int) - 1, -1, n) s) : wpAny (model prog w) A (Builtin.Slice.sliceApplied (.ref sl) (pure (n : Int))) Q E s := by
  obtain ⟨os, k1, k2, k3⟩ := id hs
  unfold Builtin.Slice.sliceApplied Builtin.Slice.sliceFields
  refine wpAny_bind (wpAny_bind (wpAny_field k1 k3 (x := vl) rfl (wpAny_bind (wpAny_field k1 k3 (x := vu) rfl (wpAny_bind (wpAny_field k1 k3 (x := vs) rfl (wpAny_pure ?_)))))))
  refine wpAny_bind (HT.slicePart_ ps ?_)
  show wpAny _ _ (if ((-1 : Int) == 0) = true then _ else _) _ _ s
  rw [if_neg (by decide)]
  refine wpAny_bind (HT.slicePart_ pl (wpAny_bind (HT.slicePart_ pu (wpAny_bind (wpAny_pure ?_)))))
  show wpAny _ _ (match Builtin.Slice.sliceAdjust none none (-1) (n : Int) with | (lo, hi) => pure (lo, (-1 : Int), Builtin.Slice.slicePlaces lo hi (-1))) _ _ s
  rw [back_adjust]
  show wpAny _ _ (pure ((n : Int) - 1, (-1 : Int), Builtin.Slice.slicePlaces ((n : Int) - 1) (-1) (-1))) _ _ s
  rw [back_places]
  exact wpAny_pure h
theorem item_back {t sl : Addr} {items : Array Value} {vl vu vs : Value} {Q : Value → Shared → Prop} (ht : PyProof.Rows.IsTup s.heap t items) (hs : s.heap.IsSliceOf sl vl vu vs) (pl : IsPart vl none) (pu : IsPart vu none) (ps : IsPart vs (some (-1)))
    (h : Q (.ref s.heap.objs.size) { s with heap := s.heap.push { cls := .type "tuple", data := .seq items.toList.reverse.toArray } }) (hsz : items.size ≤ sizeLine) :
    wpAny (model prog w) A (getItem (.ref t) (.ref sl)) Q E s := by
  have fit : sizeOk (.seq items.toList.reverse.toArray) := by
    show items.toList.reverse.toArray.size ≤ sizeLine
    rw [List.size_toArray, List.length_reverse, Array.length_toList]
    exact hsz
  have hTs : s.TypeIs (.ref sl) "slice" := let ⟨os, k1, k2, _⟩ := hs; ⟨os, k1, k2⟩
  unfold getItem
  try with_reducible refine wpAny_holding ?_
  first | refine wpAny_bind (wpAny_pure ?_) | skip
  refine wpAny_bind (wpAny_sequenceKey ht.typeIs (by decide) ?_)
  refine wpAny_bind (wpAny_callSpecial?_slot (name := Str.ofString "__getitem__") ht.typeIs PyProof.Rows.slot_tuple_getitem (wpAny_call_entry PyProof.Rows.slot_tuple_getitem ht.typeIs entry_tuple_getitem ?_ (args_tuple_getitem _ _)))
  show wpAny _ _ (Builtin.Tuple.tupleItemsOf (.ref t) >>= _) _ _ s
  refine wpAny_bind (PyProof.Rows.tupleItemsOf_ ht (wpAny_bind (wpAny_typeOf hTs ?_)))
  rw [if_pos (by decide)]
  refine wpAny_bind (applied_back hs pl pu ps ?_)
  show wpAny _ _ (if (((items.size : Int) - 1) == 0 && (-1 : Int) == 1 && items.size == items.size) = true then _ else _) _ _ s
  rw [if_neg (by simp), back_pick]
  first
    | exact wpAny_bind (m := Builtin.Tuple.tupleExact _) (wpAny_newObj_type (wpAny_pure ⟨_, rfl, wpAny_pure h⟩) fit)
    | exact wpAny_bind (m := Builtin.Tuple.tupleExact _) (wpAny_newObj_type (wpAny_bind (wpAny_pure (wpAny_pure ⟨_, rfl, wpAny_pure h⟩))) fit)
    | exact wpAny_bind (wpAny_bind (m := Builtin.Tuple.tupleExact _) (wpAny_newObj_type (wpAny_pure (wpAny_pure ⟨_, rfl, wpAny_pure h⟩)) fit))
    | exact wpAny_bind (wpAny_bind (m := Builtin.Tuple.tupleExact _) (wpAny_newObj_type (wpAny_pure ⟨_, rfl, wpAny_pure h⟩) fit))
end
end QS

namespace Q
open PySem PySem.Spec PyProof.Rows L2
def backD : PyData → Option PyData
  | .list ds => some (.list ds.reverse)
  | .tuple ds => some (.tuple ds.reverse)
  | _ => none
/-- -1 as it is written -/
def isBack : Option Expr → Bool
  | some (.UnaryOp .USub (.Constant (.int 1) _ _) _) => true
  | _ => false
section
variable {X : Cx}
def tBack (K : PySem.W.Frag) (te : TE) : TE := fun σ H Q => te σ H fun x H1 => ∃ a xs, x = .ref a ∧ ((SqL K H1 a xs ∧ ∀ p, H1 p = none → Q (.ref p) (upd H1 p (.lst xs.reverse))) ∨ (SqT K H1 a xs ∧ ∀ p, H1 p = none → Q (.ref p) (upd H1 p (.tup xs.reverse))))
theorem pe_back {e : Expr} {te : TE} {k : Nat} {p1 p2 p3 pos : Pos} (he : PE X e te) : PE X (.Subscript e (.Slice none none (some (.UnaryOp .USub (.Constant (.int 1) k p1) p2)) p3) pos) (tBack X.K te) := by
  refine ⟨fun pins s σ H Q I h => Subscript_ (thn (he.run pins s σ H _ I h) fun v s1 ⟨x, H1, I1, r1, a, xs, ex, hq⟩ => ?_)⟩
  subst ex
  obtain rfl : v = Value.ref a := r1
  have one : PO X (some (.UnaryOp .USub (.Constant (.int 1) k p1) p2)) (tPart (tUn (rU fun i => .int (-i)) (tC (.int 1)))) := po_some (pe_un un_neg pe_int)
  refine wpAny_Slice (thn (po_none.run pins s1 σ H1 (fun o J => o = none ∧ J = H1) I1 ⟨rfl, rfl⟩) fun vl s2 ⟨_, H2, I2, pl, ez, ey⟩ => ?_)
  subst ez ey
  refine thn (po_none.run pins s2 σ _ (fun o J => o = none ∧ J = H2) I2 ⟨rfl, rfl⟩) fun vu s3 ⟨_, H3, I3, pu, ez, ey⟩ => ?_
  subst ez ey
  refine thn (one.run pins s3 σ _ (fun o J => o = some (-1) ∧ J = H3) I3 ⟨1, rfl, -1, rfl, rfl, rfl⟩) fun vs s4 ⟨_, H4, I4, ps, ez, ey⟩ => ?_
  subst ez ey
  have I5 : Inv X pins σ H4 { s4 with heap := s4.heap.push { cls := .type "slice", data := .fields #[vl, vu, vs] } } := I4.kept (t' := s4.toks) fun b ob q => Heap.get?_push_of_some _ q
  show wpAny (model X.prog X.w) X.A (subscriptTail e (.Slice none none (some (.UnaryOp .USub (.Constant (.int 1) k p1) p2)) p3) (.ref a) (.ref s4.heap.objs.size)) (EP X pins σ Q) X.xe { s4 with heap := s4.heap.push { cls := .type "slice", data := .fields #[vl, vu, vs] } }
  rcases hq with ⟨hx, q⟩ | ⟨hx, q⟩
  · obtain ⟨its, r, ht, hz⟩ := I5.list hx
    have hlen := r.length
    refine tail_any (ops := [.ref a, .ref s4.heap.objs.size]) ht.isList.typeIs (PySem.slot_list_getitem.lookup) ?_ (by with_unfolding_all rfl)
    refine wpAny_getItem_list_slice ht.isList (Heap.IsSliceOf.new _ vl vu vs) pl pu ps (by decide) ?_ (by rw [List.size_toArray]; omega)
    rw [PySem.W.krv_pick]
    refine ⟨.ref _, _, I5.laid (t' := s4.toks) (o := .lst xs.reverse) (fun b ob q => Heap.get?_push_of_some _ q) (Nat.le_refl _) ?_, rfl, q _ (I5.hok.fresh (Nat.le_refl _))⟩
    exact ⟨by rw [List.length_reverse]; exact hz, _, 0, r.reverse, Heap.get?_push_size _ rfl⟩
  · obtain ⟨its, r, ht, hz⟩ := I5.tuple hx
    have hlen := r.length
    refine tail_any (ops := [.ref a, .ref s4.heap.objs.size]) ht.typeIs (PyProof.Rows.slot_tuple_getitem.lookup) ?_ (by with_unfolding_all rfl)
    refine QS.item_back ht (Heap.IsSliceOf.new _ vl vu vs) pl pu ps ?_ (by rw [List.size_toArray]; omega)
    refine ⟨.ref _, _, I5.laid (t' := s4.toks) (o := .tup xs.reverse) (fun b ob q => Heap.get?_push_of_some _ q) (Nat.le_refl _) ?_, rfl, q _ (I5.hok.fresh (Nat.le_refl _))⟩
    exact ⟨by rw [List.length_reverse]; exact hz, _, r.reverse, IsTup.new _ _⟩
theorem dtl_snoc {K : PySem.W.Frag} {xo : Addr → Prop} {H : Hp} {d : PyData} {v : V} (h : Dt K xo H d v) : ∀ {ds : List PyData} {vs : List V}, DtL K xo H ds vs → DtL K xo H (ds ++ [d]) (vs ++ [v])
  | [], vs, l => by
    simp only [DtL] at l
    subst l
    simp only [List.nil_append, DtL]
    exact ⟨v, [], rfl, h, rfl⟩
  | d0 :: ds, vs, l => by
    simp only [DtL] at l
    obtain ⟨v0, r, e, a, b⟩ := l
    subst e
    simp only [List.cons_append, DtL]
    exact ⟨v0, _, rfl, a, dtl_snoc h b⟩
theorem dtl_rev {K : PySem.W.Frag} {xo : Addr → Prop} {H : Hp} : ∀ {ds : List PyData} {vs : List V}, DtL K xo H ds vs → DtL K xo H ds.reverse vs.reverse
  | [], vs, l => by
    simp only [DtL] at l
    subst l
    simp only [List.reverse_nil, DtL]
  | d :: ds, vs, l => by
    simp only [DtL] at l
    obtain ⟨v, r, e, a, b⟩ := l
    subst e
    rw [List.reverse_cons, List.reverse_cons]
    exact dtl_snoc a (dtl_rev b)
variable {W : Wd} {Wx : WX}
theorem qe_back {e : Expr} {f : Rho → M PyData} {st : Option Expr} {p3 pos : Pos} (hb : isBack st = true) (he : PE X e (tQ X W Wx f)) : PE X (.Subscript e (.Slice none none st p3) pos) (tQ X W Wx fun ρ => do let d ← f ρ; get? (backD d)) := by
  have : ∃ k p1 p2, st = some (.UnaryOp .USub (.Constant (.int 1) k p1) p2) := by
    unfold isBack at hb
    split at hb
    · exact ⟨_, _, _, rfl⟩
    · cases hb
  obtain ⟨k, p1, p2, rfl⟩ := this
  refine PE.weak (pe_back he) fun σ H Q h => ?_
  obtain ⟨xo, ρ, ω, g, r⟩ := h
  refine ⟨xo, ρ, ω, g, RunP.mono (RunP.bind r) (fun d ω1 r1 x H1 s1 t1 q1 => ?_) fun _ _ _ e => e⟩
  have g1 := g.step s1 t1
  obtain ⟨w, ew, k⟩ := RunP.get r1
  cases d <;> first | (cases ew; done) | skip
  case list ds =>
    cases ew
    obtain ⟨a, vs, rfl, q, l⟩ := q1.lstE
    exact ⟨a, vs, rfl, .inl ⟨q.sq, fun p hp => k _ _ (s1.trans (Step.of_same (same_upd hp))) (St.same t1 (same_upd hp)) (newLst hp g1.tr (dtl_rev l))⟩⟩
  case tuple ds =>
    cases ew
    obtain ⟨a, vs, rfl, q, l⟩ := q1.tupE
    exact ⟨a, vs, rfl, .inr ⟨q, fun p hp => k _ _ (s1.trans (Step.of_same (same_upd hp))) (St.same t1 (same_upd hp)) (newTup hp g1.tr (dtl_rev l))⟩⟩
end
end Q

set_option maxHeartbeats 4000000
/-! {"a": 3, "b": 5}[x]: a display of texts or whole numbers and whole numbers, asked at once -/
namespace Q
open PySem PySem.Spec PyProof.Rows L2
def keyOf : PyData → Option Key
  | .int i => some (.inl i)
  | .str s => some (.inr s)
  | _ => none
/-- such a display's pairs -/
def dispK : List (Option Expr) → List Expr → Option (List (Key × Int))
  | [], [] => some []
  | some (.Constant (.str s) _ _) :: ks, .Constant (.int v) _ _ :: vs => (dispK ks vs).map ((.inr s, v) :: ·)
  | some (.Constant (.int i) _ _) :: ks, .Constant (.int v) _ _ :: vs => (dispK ks vs).map ((.inl i, v) :: ·)
  | _, _ => none
def asV (kvs : List (Key × Int)) : List (Key × V) := kvs.map fun p => (p.1, V.int p.2)
/-- what stands at a key -/
def dixD (kvs : List (Key × Int)) (d : PyData) : Option PyData := match keyOf d with
  | some k => (match valV (mergeK [] (asV kvs)) k with
    | some (.int j) => some (.int j)
    | _ => none)
  | none => none
section
variable {X : Cx} {W : Wd} {Wx : WX}
theorem disp_pps {pos : Pos} : ∀ {keys : List (Option Expr)} {values : List Expr} {kvs : List (Key × Int)}, dispK keys values = some kvs →
    PPs X pos keys values (kvs.map fun p => (tC (kV p.1), tC (V.int p.2))) ∧ keys.all (·.isSome) = true ∧ keys.length = values.length ∧ keys.length = kvs.length
  | [], [], kvs, h => by
    cases h
    exact ⟨pps_nil, rfl, rfl, rfl⟩
  | [], _ :: _, kvs, h => by cases h
  | none :: ks, [], kvs, h => by cases h
  | none :: ks, _ :: _, kvs, h => by cases h
  | some k :: ks, [], kvs, h => by
    unfold dispK at h
    split at h <;> first | (cases h; done) | skip
    all_goals (rename_i e1 e2; first | (cases e1; done) | (cases e2; done))
  | some k :: ks, v :: vs, kvs, h => by
    unfold dispK at h
    split at h
    · rename_i e1 e2; cases e1
    · rename_i e1 e2
      cases e1; cases e2
      obtain ⟨l, e, q⟩ := Option.map_eq_some_iff.mp h
      subst q
      obtain ⟨h1, h2, h3, h4⟩ := disp_pps (pos := pos) e
      exact ⟨pps_cons pe_str pe_int h1, by simpa using h2, by simp [h3], by simp [h4]⟩
    · rename_i e1 e2
      cases e1; cases e2
      obtain ⟨l, e, q⟩ := Option.map_eq_some_iff.mp h
      subst q
      obtain ⟨h1, h2, h3, h4⟩ := disp_pps (pos := pos) e
      exact ⟨pps_cons pe_int pe_int h1, by simpa using h2, by simp [h3], by simp [h4]⟩
    · cases h
theorem pairs_consts (σ : St) (H : Hp) (Q : List (V × V) → Hp → Prop) : ∀ (kvs : List (Key × Int)) (pre : List (V × V) → List (V × V)), Q (pre ((asV kvs).map fun kv => (kV kv.1, kv.2))) H → tPairs (kvs.map fun p => (tC (kV p.1), tC (V.int p.2))) σ H fun ps H' => Q (pre ps) H'
  | [], pre, h => h
  | p :: kvs, pre, h => pairs_consts σ H Q kvs (fun ps => pre ((kV p.1, V.int p.2) :: ps)) h
theorem qe_dix {keys : List (Option Expr)} {values : List Expr} {b : Expr} {p1 pos : Pos} {kvs : List (Key × Int)} {fb : Rho → M PyData} (hu : X.A.units + 1 < cLine) (hd : dispK keys values = some kvs) (h0 : kvs ≠ []) (h15 : kvs.length ≤ 15) (hb : PE X b (tQ X W Wx fb)) (hs : NoSl b) :
    PE X (.Subscript (.Dict keys values p1) b pos) (tQ X W Wx fun ρ => do let d ← fb ρ; get? (dixD kvs d)) := by
  obtain ⟨hp, ha, hl, hk⟩ := disp_pps (X := X) (pos := p1) hd
  refine PE.weak (pe_dget hu (pe_disp hp ha hl (fun z => h0 (by rw [z] at hk; exact List.length_eq_zero_iff.mp hk.symm)) (by omega)) hb hs) fun σ H Q h => ?_
  obtain ⟨xo, ρ, ω, g, r⟩ := h
  intro p n
  refine pairs_consts σ (upd H p (.dK [])) (fun ps H2 => H2 p = some (.dK []) ∧ ∃ kvs : List (Key × V), ps = kvs.map (fun kv => (kV kv.1, kv.2)) ∧ kvs.length ≤ 15 ∧ (tQ X W Wx fb σ (upd H2 p (.dK (mergeK [] kvs))) fun y H2 => ∃ a v, V.ref p = .ref a ∧ DGet H2 a y (some v) ∧ Q v H2)) kvs id ⟨upd_same, asV kvs, rfl, by unfold asV; rw [List.length_map]; exact h15, ?_⟩
  rw [upd_upd]
  have st1 : Step W H (upd H p (.dK (mergeK [] (asV kvs)))) := Step.upd n
  have e1 : (upd H p (.dK (mergeK [] (asV kvs)))) p = some (.dK (mergeK [] (asV kvs))) := upd_same
  have gf := g.fresh n st1 (by rw [e1]; exact fun z => nomatch z) (St.same g.st (same_upd n))
  have nex : ¬ W.ex p := fun z => g.tr p (g.exo p z) n
  refine ⟨more xo p, ρ, ω, gf, RunP.mono (RunP.bind r) (fun d ω1 z => ?_) fun c fs o z => ?_⟩
  · intro v H2 st2 t2 q2
    obtain ⟨w, ew, k⟩ := RunP.get z
    have at2 : H2 p = some (.dK (mergeK [] (asV kvs))) := st2.keep p _ e1 (.inl nex) fun _ z => nomatch z
    unfold dixD at ew
    split at ew
    · rename_i key ek
      split at ew
      · rename_i j ej
        cases ew
        have ev : v = kV key := by
          cases d <;> first | (cases ek; done) | skip
          · cases ek; simp only [Dt] at q2; exact q2
          · cases ek; simp only [Dt] at q2; exact q2
        refine ⟨p, V.int j, rfl, .inl ⟨_, key, .inl at2, ev, ej.symm⟩, k _ H2 (st1.trans st2) t2 (by simp only [Dt])⟩
      · cases ew
    · cases ew
  · intro cls dd H' x s t
    obtain ⟨hc, gs, e1, e2, e3⟩ := x
    exact z cls dd H' ⟨hc, gs, e1, e2, e3.carry (fun a q => .inl q) fun a o e _ _ => e⟩ (st1.trans s) t
end
def maxL : Option (List Int) → Option PyData
  | some (n :: ms) => some (.int (ms.foldl max n))
  | _ => none
def minL : Option (List Int) → Option PyData
  | some (n :: ms) => some (.int (ms.foldl min n))
  | _ => none
theorem fold_max : ∀ (ms : List Int) (n : Int), ms.foldl max n ∈ n :: ms ∧ ∀ y ∈ n :: ms, y ≤ ms.foldl max n
  | [], n => ⟨List.mem_cons_self, fun y h => by rw [List.mem_singleton.mp h]; exact Int.le_refl _⟩
  | m :: ms, n => by
    obtain ⟨h1, h2⟩ := fold_max ms (max n m)
    refine ⟨?_, fun y hy => ?_⟩
    · rcases List.mem_cons.mp h1 with e | e
      · rw [List.foldl_cons, e]
        rcases Int.le_total n m with q | q
        · rw [Int.max_eq_right q]; simp
        · rw [Int.max_eq_left q]; simp
      · rw [List.foldl_cons]; exact List.mem_cons_of_mem _ (List.mem_cons_of_mem _ e)
    · rw [List.foldl_cons]
      have h3 := h2 (max n m) List.mem_cons_self
      rcases List.mem_cons.mp hy with rfl | hy
      · exact Int.le_trans (Int.le_max_left _ _) h3
      · rcases List.mem_cons.mp hy with rfl | hy
        · exact Int.le_trans (Int.le_max_right _ _) h3
        · exact h2 y (List.mem_cons_of_mem _ hy)
theorem fold_min : ∀ (ms : List Int) (n : Int), ms.foldl min n ∈ n :: ms ∧ ∀ y ∈ n :: ms, ms.foldl min n ≤ y
  | [], n => ⟨List.mem_cons_self, fun y h => by rw [List.mem_singleton.mp h]; exact Int.le_refl _⟩
  | m :: ms, n => by
    obtain ⟨h1, h2⟩ := fold_min ms (min n m)
    refine ⟨?_, fun y hy => ?_⟩
    · rcases List.mem_cons.mp h1 with e | e
      · rw [List.foldl_cons, e]
        rcases Int.le_total n m with q | q
        · rw [Int.min_eq_left q]; simp
        · rw [Int.min_eq_right q]; simp
      · rw [List.foldl_cons]; exact List.mem_cons_of_mem _ (List.mem_cons_of_mem _ e)
    · rw [List.foldl_cons]
      have h3 := h2 (min n m) List.mem_cons_self
      rcases List.mem_cons.mp hy with rfl | hy
      · exact Int.le_trans h3 (Int.min_le_left _ _)
      · rcases List.mem_cons.mp hy with rfl | hy
        · exact Int.le_trans h3 (Int.min_le_right _ _)
        · exact h2 y (List.mem_cons_of_mem _ hy)
def maxF : List PyData → Option PyData
  | [.int i, .int j] => some (.int (if j > i then j else i))
  | [.list ds] => maxL (intsD ds)
  | _ => none
def minF : List PyData → Option PyData
  | [.int i, .int j] => some (.int (if j < i then j else i))
  | [.list ds] => minL (intsD ds)
  | _ => none
section
variable {X : Cx}
theorem two_ints {K : PySem.W.Frag} {xo : Addr → Prop} {H : Hp} {xs : List V} {i j : Int} (l : DtL K xo H [.int i, .int j] xs) : xs = [.int i, .int j] := by
  simp only [DtL, Dt] at l
  obtain ⟨v, r, e, rfl, v2, r2, e2, rfl, rfl⟩ := l
  rw [e, e2]
theorem c_max (hc : X.calm = true) : CallR X (.builtin "max") (rFn X.K maxF) := by
  intro pins s σ H xs us Q I r h
  obtain ⟨xo, ds, w, l, tr, hf, q⟩ := h
  match ds, hf, l with
  | [.int i, .int j], hf, l =>
    cases hf
    exact call_max2 hc pins s σ H xs us Q I r ⟨i, j, two_ints l, q _ H (Same.refl H) (by simp only [Dt])⟩
  | [.list es], hf, l =>
    have hf : maxL (intsD es) = some w := hf
    cases hi : intsD es with
    | none => rw [hi] at hf; cases hf
    | some ns =>
      cases ns with
      | nil => rw [hi] at hf; cases hf
      | cons n ms =>
        rw [hi] at hf
        cases hf
        obtain ⟨v, rfl, dv⟩ := one_of l
        obtain ⟨a, vs, rfl, ha, la⟩ := dv.lstE
        have ev := intsD_vs hi la
        subst ev
        refine cr_max hc pins s σ H _ us Q I r ⟨a, n :: ms, rfl, ha.sq, Nat.succ_pos _, fun m h1 h2 => ?_⟩
        obtain ⟨f1, f2⟩ := fold_max ms n
        have e : m = ms.foldl max n := Int.le_antisymm (f2 m h1) (h2 _ f1)
        subst e
        exact q _ H (Same.refl H) (.int _)
theorem c_min (hc : X.calm = true) : CallR X (.builtin "min") (rFn X.K minF) := by
  intro pins s σ H xs us Q I r h
  obtain ⟨xo, ds, w, l, tr, hf, q⟩ := h
  match ds, hf, l with
  | [.int i, .int j], hf, l =>
    cases hf
    exact call_min2 hc pins s σ H xs us Q I r ⟨i, j, two_ints l, q _ H (Same.refl H) (by simp only [Dt])⟩
  | [.list es], hf, l =>
    have hf : minL (intsD es) = some w := hf
    cases hi : intsD es with
    | none => rw [hi] at hf; cases hf
    | some ns =>
      cases ns with
      | nil => rw [hi] at hf; cases hf
      | cons n ms =>
        rw [hi] at hf
        cases hf
        obtain ⟨v, rfl, dv⟩ := one_of l
        obtain ⟨a, vs, rfl, ha, la⟩ := dv.lstE
        have ev := intsD_vs hi la
        subst ev
        refine cr_min hc pins s σ H _ us Q I r ⟨a, n :: ms, rfl, ha.sq, Nat.succ_pos _, fun m h1 h2 => ?_⟩
        obtain ⟨f1, f2⟩ := fold_min ms n
        have e : m = ms.foldl min n := Int.le_antisymm (h2 _ f1) (f2 m h1)
        subst e
        exact q _ H (Same.refl H) (.int _)
end
end Q

set_option maxHeartbeats 4000000
/-! list(range(n)); while -/
namespace Q
open PySem PySem.Spec PyProof.Rows L2
def rangeD : PyData → Option PyData
  | .int n => if n ≤ 16777216 ∧ -4611686018427387904 ≤ n then some (.list (upD 0 n.toNat)) else none
  | _ => none
section
variable {X : Cx} {W : Wd} {Wx : WX}
theorem dtl_rg {K : PySem.W.Frag} {xo : Addr → Prop} {H : Hp} (n : Int) : DtL K xo H (upD 0 n.toNat) (rgV 0 n) := by
  have e1 : upD 0 n.toNat = ((List.range n.toNat).map fun i => ((0 : Int) + (i : Nat))).map PyData.int := by
    unfold upD
    rw [List.map_map]; rfl
  have e2 : rgV 0 n = ((List.range n.toNat).map fun i => ((0 : Int) + (i : Nat))).map V.int := by
    unfold rgV
    rw [List.map_map, Int.sub_zero]; rfl
  rw [e1, e2]
  exact dtl_of_nums
theorem qe_listRg {a : Expr} {fa : Rho → M PyData} {p p2 pos pos2 : Pos} (hc : X.calm = true) (hg : Gl X "list") (hm : X.mg "list" = none) (hg2 : Gl X "range") (hm2 : X.mg "range" = none) (ha : PE X a (tQ X W Wx fa)) (na : starEach [a] X.env = (false, eval a X.env) :: starEach [] X.env) :
    PE X (.Call (.Name "list" p) [.Call (.Name "range" p2) [a] [] pos2] [] pos) (tQ X W Wx fun ρ => do let d ← fa ρ; get? (rangeD d)) := by
  refine PE.weak (pe_listRg hc hg hm (prg_1 hg2 hm2 ha na)) fun σ H Q h => ?_
  obtain ⟨xo, ρ, ω, g, r⟩ := h
  refine ⟨xo, ρ, ω, g, RunP.mono (RunP.bind r) (fun d ω1 r1 x H1 s1 t1 q1 => ?_) fun _ _ _ e => e⟩
  have g1 := g.step s1 t1
  obtain ⟨w, ew, k⟩ := RunP.get r1
  cases d <;> first | (cases ew; done) | skip
  rename_i n
  have e2 : (if n ≤ 16777216 ∧ -4611686018427387904 ≤ n then some (PyData.list (upD 0 n.toNat)) else none) = some w := ew
  split at e2
  · rename_i c
    cases e2
    refine ⟨n, q1.intE, ⟨by decide, by decide, by omega, by omega, by omega⟩, fun q hq => ?_⟩
    exact k _ _ (s1.trans (Step.upd hq)) (St.same t1 (same_upd hq)) (newLst hq g1.tr (dtl_rg n))
  · cases e2
end
/-! while -/
def whileM (is : List Nat) (c : Rho → M Bool) (fb : Rho → M Fw) : Nat → Rho → M Fw
  | 0, _ => bad
  | k + 1, ρ => do
    let b ← c (relR is ρ)
    if b then (do
      let fl ← fb ρ
      match fl with
      | .nx ρ' => whileM is c fb k ρ'
      | .ct ρ' => whileM is c fb k ρ'
      | .bk ρ' => pure (.nx ρ')
      | .rt d => pure (.rt d))
    else pure (.nx ρ)
section
variable {X : Cx} {W : Wd} {Wx : WX}
theorem qs_while {c : Expr} {body : List Stmt} {fc : Rho → M Bool} {fb : Rho → M Fw} {pos : Pos} (is : List Nat) (n : Nat) (hp : PassesOwn (model X.prog X.w) X.A X.env X.xe) (hc : PT X c (tQT X W Wx fc)) (hb : PSs X body (tQS X W Wx fb)) :
    PS X (.While c body [] pos) (tQS X W Wx (whileM is fc fb n)) := by
  refine PS.weak (ps_while hp hc hb) fun D σ H h => ?_
  obtain ⟨xo, ρ, ω, G, r⟩ := h
  refine ⟨fun m σ' H' => ∃ (xo' : Addr → Prop) (ρ' : Rho) (ω' : Om), Ev W xo H xo' H' ∧ Good X.K W xo' H' σ' ρ' ω' ∧ RunP (whileM is fc fb m ρ' ω') (FlP X W xo H D) (ExS X W Wx xo H), ⟨n, xo, ρ, ω, Ev.refl, G, r⟩, ?_⟩
  rintro m σ2 H2 ⟨xo2, ρ2, ω2, e2, G2, r2⟩
  cases m with
  | zero => exact r2.elim
  | succ k =>
    have r3 : RunP ((fc (relR is ρ2) >>= fun b => if b then (fb ρ2 >>= fun fl => match fl with
      | .nx ρ' => whileM is fc fb k ρ'
      | .ct ρ' => whileM is fc fb k ρ'
      | .bk ρ' => pure (.nx ρ')
      | .rt d => pure (.rt d)) else pure (.nx ρ2)) ω2) _ _ := r2
    obtain ⟨xo3, sb, G3⟩ := G2.rel is
    refine ⟨xo3, relR is ρ2, ω2, G3, RunP.mono (RunP.bind r3) (fun b o z H3 s3 t3 => ?_) fun c fs o z => (z.step e2).exp G3.sub⟩
    have G4 := G2.step s3 t3
    have e4 : Ev W xo H xo2 H3 := e2.trans (s3.ev Grown.refl)
    cases b with
    | false =>
      refine iteF ?_
      exact (RunP.ret (a := Fw.nx ρ2) (show RunP ((pure (Fw.nx ρ2) : M Fw) o) _ _ from z)) σ2 H3 xo2 e4 G4
    | true =>
      refine iteT ?_
      have z : RunP ((fb ρ2 >>= fun fl => match fl with
        | .nx ρ' => whileM is fc fb k ρ'
        | .ct ρ' => whileM is fc fb k ρ'
        | .bk ρ' => pure (.nx ρ')
        | .rt d => pure (.rt d)) o) (FlP X W xo H D) (ExS X W Wx xo H) := z
      refine ⟨fun σ' H' => ∃ (xo' : Addr → Prop) (ρ' : Rho) (ω' : Om), Ev W xo H xo' H' ∧ Good X.K W xo' H' σ' ρ' ω' ∧ RunP (whileM is fc fb k ρ' ω') (FlP X W xo H D) (ExS X W Wx xo H), fun σ' H' q => ⟨k, Nat.lt_succ_self k, q⟩, ?_⟩
      refine ⟨xo2, ρ2, o, G4, RunP.mono (RunP.bind z) (fun fl o2 z2 => ?_) fun c fs o z => z.step e4⟩
      cases fl with
      | nx ρ' => exact fun σ' H' xo' e5 G5 => ⟨xo', ρ', o2, e4.trans e5, G5, z2⟩
      | ct ρ' => exact fun σ' H' xo' e5 G5 => ⟨xo', ρ', o2, e4.trans e5, G5, z2⟩
      | bk ρ' => exact fun σ' H' xo' e5 G5 => (RunP.ret z2) σ' H' xo' (e4.trans e5) G5
      | rt d => exact fun v H' xo' e5 t q => (RunP.ret z2) v H' xo' (e4.trans e5) t q
end
end Q

set_option maxHeartbeats 4000000
/-! for x, y, z in zip(xs, ys, zs), three lists of one length -/
namespace Q
open PySem PySem.Spec PyProof.Rows L2
/-- the items of three lists, each time in a new triple -/
def It3 (K : PySem.W.Frag) (a b c : Addr) : It :=
  ⟨fun i H => ∃ (xs ys zs : List V) (x y z : V), (SqL K H a xs ∧ xs[i]? = some x) ∧ (SqL K H b ys ∧ ys[i]? = some y) ∧ SqL K H c zs ∧ zs[i]? = some z,
   fun i H v H' => ∃ T x y z, v = .ref T ∧ H T = none ∧ H' = L2.upd H T (.tup [x, y, z]) ∧ (∀ l, SqL K H a l → l[i]? = some x) ∧ (∀ l, SqL K H b l → l[i]? = some y) ∧ ∀ l, SqL K H c l → l[i]? = some z,
   fun i H => ∃ xs ys zs : List V, (SqL K H a xs ∧ xs.length = i) ∧ (SqL K H b ys ∧ ys.length = i) ∧ SqL K H c zs ∧ zs.length = i⟩
/-- how the walk stands -/
def Tn3 (a b c z TI TO i1 i2 i3 : Addr) (i : Nat) (h : Heap) : Prop :=
  IsZip h z TI TO .none ∧ IsTupOf3 h TI (.ref i1) (.ref i2) (.ref i3) ∧ (∃ v1 v2 v3, IsTupOf3 h TO v1 v2 v3) ∧ h.IsListIter i1 a i ∧ h.IsListIter i2 b i ∧ h.IsListIter i3 c i
theorem it_at {h : Heap} {j l : Addr} {i : Nat} (x : h.IsListIter j l i) : ∃ o, h.get? j = some o ∧ ∀ v, o.data ≠ .cell v := by
  obtain ⟨o, ho, _, hd⟩ := x
  exact ⟨o, ho, fun v q => by rw [hd] at q; cases q⟩
theorem six {b z TI TO i1 i2 i3 : Addr} (h : b ∈ [z, TI, TO, i1, i2, i3]) : b = z ∨ b = TI ∨ b = TO ∨ b = i1 ∨ b = i2 ∨ b = i3 := by simpa using h
theorem tn3_obj {a b c z TI TO i1 i2 i3 : Addr} {i : Nat} {h : Heap} (st : Tn3 a b c z TI TO i1 i2 i3 i h) {d : Addr} (hd : d ∈ [z, TI, TO, i1, i2, i3]) : ∃ o, h.get? d = some o ∧ ∀ v, o.data ≠ .cell v := by
  obtain ⟨s1, s2, ⟨_, _, _, s3⟩, s4, s5, s6⟩ := st
  rcases six hd with q | q | q | q | q | q <;> subst q
  · exact ⟨_, s1, fun v q => nomatch q⟩
  · exact ⟨_, s2, fun v q => nomatch q⟩
  · exact ⟨_, s3, fun v q => nomatch q⟩
  · exact it_at s4
  · exact it_at s5
  · exact it_at s6
theorem turn3 {P : Program} {w : World} {K : PySem.W.Frag} {elts : List Expr} {kk : Nat} {tpos : Pos} {a b c z TI TO i1 i2 i3 : Addr} (S : ZipSep3 z TI TO i1 i2 i3 [i1, a] [i2, b] [i3, c]) (n1 : a ≠ i1) (n2 : b ≠ i2) (n3 : c ≠ i3) :
    Turn P w K (.Tuple elts kk tpos) (It3 K a b c) [z, TI, TO, i1, i2, i3] z (Tn3 a b c z TI TO i1 i2 i3) where
  mem := by simp
  obj := fun i h st d hd => tn3_obj st hd
  keep := fun i h h' st k => by
    obtain ⟨s1, s2, ⟨v1, v2, v3, s3⟩, s4, s5, s6⟩ := st
    exact ⟨k z (by simp) _ s1, k TI (by simp) _ s2, ⟨v1, v2, v3, k TO (by simp) _ s3⟩, s4.at fun o q => k i1 (by simp) o q, s5.at fun o q => k i2 (by simp) o q, s6.at fun o q => k i3 (by simp) o q⟩
  item := by
    intro X hP hw hK hc i pins s σ H E I hf st hg
    subst hP hw hK
    obtain ⟨xs, ys, zs, x, y, u, ⟨qx, ex⟩, ⟨qy, ey⟩, qz, ez⟩ := hg
    obtain ⟨j1, r1, p1, _⟩ := I.list qx
    obtain ⟨j2, r2, p2, _⟩ := I.list qy
    obtain ⟨j3, r3, p3, _⟩ := I.list qz
    obtain ⟨x', gx, rx⟩ := r1.get ex
    obtain ⟨y', gy, ry⟩ := r2.get ey
    obtain ⟨u', gu, ru⟩ := r3.get ez
    have quiet : X.A.in1.handled = none := I.ok.hd hc
    have G := GoesN.zip3 (prog := X.prog) (w := X.w) (A := X.A) (elts := elts) (x1 := kk) (pos := tpos) S (.list quiet i1 a n1 j1.toArray) (.list quiet i2 b n2 j2.toArray) (.list quiet i3 c n3 j3.toArray)
    have below : ∀ d ∈ [z, TI, TO, i1, i2, i3], d < s.heap.objs.size := fun d hd => by
      obtain ⟨o, ho, _⟩ := tn3_obj st hd
      exact Heap.lt_size ho
    obtain ⟨s1, s2, s3, s4, s5, s6⟩ := st
    have l1 := (List.getElem?_eq_some_iff.mp gx).1
    have l2 := (List.getElem?_eq_some_iff.mp gy).1
    have l3 := (List.getElem?_eq_some_iff.mp gu).1
    refine G.goes i s _ E (by simp only [List.size_toArray]; omega) ⟨s1, s2, s3, ⟨s4, p1.isList⟩, ⟨s5, p2.isList⟩, ⟨s6, p3.isList⟩⟩ fun v h' tk hY st' kept _ => ?_
    obtain ⟨T, vx, vy, vu, rfl, newT, fx, fy, fu, tup⟩ := hY
    have hx : vx = x' := by
      have e : j1[i]? = some vx := by simpa using fx
      rw [gx] at e; exact (Option.some.inj e).symm
    have hy : vy = y' := by
      have e : j2[i]? = some vy := by simpa using fy
      rw [gy] at e; exact (Option.some.inj e).symm
    have hu : vu = u' := by
      have e : j3[i]? = some vu := by simpa using fu
      rw [gu] at e; exact (Option.some.inj e).symm
    subst hx hy hu
    have new : ObjOk X.prog X.w (L2.upd H T (.tup [x, y, u])) h' T (.tup [x, y, u]) := ⟨by show 3 ≤ sizeLine; decide, [vx, vy, vu], .cons rx (.cons ry (.cons ru .nil)), tup⟩
    have J : Inv X pins σ (L2.upd H T (.tup [x, y, u])) { s with heap := h', toks := tk } := I.turnedNew (ch := [z, TO, i1, i2, i3]) kept (fun d hd => hf d (by
      simp only [List.mem_cons, List.not_mem_nil, or_false] at hd ⊢
      rcases hd with q | q | q | q | q <;> simp [q])) newT new
    obtain ⟨t1, t2, t3, t4, t5, t6⟩ := st'
    refine ⟨.ref T, _, J, rfl, ⟨T, x, y, u, rfl, I.hok.fresh newT, rfl, fun l hl => by rw [I.list_inj hl qx]; exact ex, fun l hl => by rw [I.list_inj hl qy]; exact ey, fun l hl => by rw [I.list_inj hl qz]; exact ez⟩, ⟨t1, t2, t3, t4.1, t5.1, t6.1⟩, fun d hd => ?_⟩
    have lt := below d hd
    rw [L2.upd_ne (Nat.ne_of_lt (Nat.lt_of_lt_of_le lt newT))]
    exact (hf d hd).1
  done := by
    intro X hP hw hK hc i pins s σ H E I hf st hg
    subst hP hw hK
    obtain ⟨xs, ys, zs, ⟨qx, ex⟩, ⟨qy, ey⟩, qz, ez⟩ := hg
    obtain ⟨j1, r1, p1, _⟩ := I.list qx
    obtain ⟨j2, r2, p2, _⟩ := I.list qy
    obtain ⟨j3, r3, p3, _⟩ := I.list qz
    have quiet : X.A.in1.handled = none := I.ok.hd hc
    have G := GoesN.zip3 (prog := X.prog) (w := X.w) (A := X.A) (elts := elts) (x1 := kk) (pos := tpos) S (.list quiet i1 a n1 j1.toArray) (.list quiet i2 b n2 j2.toArray) (.list quiet i3 c n3 j3.toArray)
    obtain ⟨s1, s2, s3, s4, s5, s6⟩ := st
    have e1 := r1.length
    have e2 := r2.length
    have e3 := r3.length
    have en : min (min j1.toArray.size j2.toArray.size) j3.toArray.size = i := by
      simp only [List.size_toArray]
      omega
    rw [en] at G
    refine G.stops s _ E ⟨s1, s2, s3, ⟨s4, p1.isList⟩, ⟨s5, p2.isList⟩, ⟨s6, p3.isList⟩⟩ fun h' tk kept _ => ?_
    exact I.turnedL (ch := [z, TO, i1, i2, i3]) kept (fun d hd => hf d (by
      simp only [List.mem_cons, List.not_mem_nil, or_false] at hd ⊢
      rcases hd with q | q | q | q | q <;> simp [q]))
  self := fun A i s Q E st h => wpAny_pyIter_zip st.1 h
def iZip3 (K : PySem.W.Frag) (ta : TA) : TI := fun σ H R => ta σ H fun vs H1 => ∃ a b c xs ys zs, vs = [.ref a, .ref b, .ref c] ∧ SqL K H1 a xs ∧ SqL K H1 b ys ∧ SqL K H1 c zs ∧ R (It3 K a b c) H1
theorem pi_zip3 {X : Cx} {e e2 e3 : Expr} {ta : TA} {p pos tpos : Pos} {elts : List Expr} {kk : Nat} (hg : Gl X "zip") (hm : X.mg "zip" = none) (ha : PA X [e, e2, e3] ta)
    (hs : starEach [e, e2, e3] X.env = (false, eval e X.env) :: starEach [e2, e3] X.env) (hpl : (backTo pos (starEach [e2, e3] X.env)).any (·.1) = false) :
    PI X (.Tuple elts kk tpos) (.Call (.Name "zip" p) [e, e2, e3] [] pos) (iZip3 X.K ta) := by
  refine ⟨fun pins s σ H R I h => ?_⟩
  refine Call_ (ld_blt I hg hm PyProof.Rows.boot_zip (PyProof.Rows.callWith_type1 (thn (ha.run pos pins s σ H _ I h) fun us s1 ⟨vs, H1, I1, r1, q1⟩ => ?_) hs hpl))
  obtain ⟨a, b, c, xs, ys, zs, ex, qx, qy, qz, q⟩ := q1
  subst ex
  obtain ⟨v1, us, rfl, ra, r1⟩ : ∃ v1 us', us = v1 :: us' ∧ RelV (.ref a) v1 ∧ Vals [.ref b, .ref c] us' := by cases r1 with | cons r rr => exact ⟨_, _, rfl, r, rr⟩
  obtain ⟨v2, us, rfl, rb, r1⟩ : ∃ v2 us', us = v2 :: us' ∧ RelV (.ref b) v2 ∧ Vals [.ref c] us' := by cases r1 with | cons r rr => exact ⟨_, _, rfl, r, rr⟩
  obtain ⟨v3, us, rfl, rc, r1⟩ : ∃ v3 us', us = v3 :: us' ∧ RelV (.ref c) v3 ∧ Vals [] us' := by cases r1 with | cons r rr => exact ⟨_, _, rfl, r, rr⟩
  cases r1
  cases ra
  cases rb
  cases rc
  obtain ⟨j1, _, p1, _⟩ := I1.list qx
  obtain ⟨j2, _, p2, _⟩ := I1.list qy
  obtain ⟨j3, _, p3, _⟩ := I1.list qz
  have la : a < s1.heap.objs.size := p1.lt
  have lb : b < s1.heap.objs.size := p2.lt
  have lc : c < s1.heap.objs.size := p3.lt
  have one : ∀ {d : Addr}, d < s1.heap.objs.size → ∀ b ∈ [d], b < s1.heap.objs.size := fun h b hb => by rw [List.mem_singleton.mp hb]; exact h
  refine zip_begins3 (begins_list a j1.toArray) (begins_list b j2.toArray) (begins_list c j3.toArray) p1.isList p2.isList p3.isList fun h' hz hTI hTO h1 h2 h3 hsz kept => wpAny_pyIter_zip hz ?_
  have I2 : Inv X pins σ H1 { s1 with heap := h' } := I1.kept (t' := s1.toks) kept
  have fresh : ∀ d ∈ [s1.heap.objs.size + 5, s1.heap.objs.size + 3, s1.heap.objs.size + 4, s1.heap.objs.size, s1.heap.objs.size + 1, s1.heap.objs.size + 2], FpOk X pins H1 d := fun d hd => by
    have le : s1.heap.objs.size ≤ d := by
      rcases six hd with z | z | z | z | z | z <;> rw [z] <;> first | exact Nat.le_add_right _ _ | exact Nat.le_refl _
    exact I1.fpOk le (I1.hok.fresh le)
  exact ⟨s1.heap.objs.size + 5, [s1.heap.objs.size + 5, s1.heap.objs.size + 3, s1.heap.objs.size + 4, s1.heap.objs.size, s1.heap.objs.size + 1, s1.heap.objs.size + 2], _, _, H1, rfl, I2,
    turn3 (zip_sep3 (one la) (one lb) (one lc)) (Nat.ne_of_lt la) (Nat.ne_of_lt (Nat.lt_succ_of_lt lb)) (Nat.ne_of_lt (Nat.lt_succ_of_lt (Nat.lt_succ_of_lt lc))),
    ⟨hz, hTI, ⟨_, _, _, hTO⟩, ⟨_, h1, rfl, rfl⟩, ⟨_, h2, rfl, rfl⟩, ⟨_, h3, rfl, rfl⟩⟩, fresh, q⟩
def zip3D (ds es fs : List PyData) : List PyData := (List.zip ds (List.zip es fs)).map fun p => .tuple [p.1, p.2.1, p.2.2]
def zipM3 (fs : Rho → M (List PyData)) : Rho → M (List PyData) := fun ρ => do
  let ds ← fs ρ
  get? (match ds with | [.list es, .list us, .list ws] => if es.length ≤ line ∧ us.length = es.length ∧ ws.length = es.length then some (zip3D es us ws) else none | _ => none)
theorem zip3D_get {ds es fs : List PyData} {i : Nat} {d e f : PyData} (h1 : ds[i]? = some d) (h2 : es[i]? = some e) (h3 : fs[i]? = some f) : (zip3D ds es fs)[i]? = some (.tuple [d, e, f]) := by
  unfold zip3D
  rw [List.getElem?_map]
  have : (List.zip ds (List.zip es fs))[i]? = some (d, e, f) := by
    rw [List.getElem?_zip_eq_some]
    refine ⟨h1, ?_⟩
    rw [List.getElem?_zip_eq_some]
    exact ⟨h2, h3⟩
  rw [this]
  rfl
theorem zip3D_length {ds es fs : List PyData} (h1 : es.length = ds.length) (h2 : fs.length = ds.length) : (zip3D ds es fs).length = ds.length := by
  unfold zip3D
  rw [List.length_map, List.length_zip, List.length_zip]
  omega
section
variable {X : Cx} {W : Wd} {Wx : WX}
theorem wk_zip3 {a b c : Addr} {H1 : Hp} {ds es fs : List PyData} {vs ws us : List V} {xo : Addr → Prop} (eb : ∀ b, W.ex b → W.b b) (sub : ∀ b, W.b b → xo b) (ha : LsAt X.K xo H1 a vs) (hb : LsAt X.K xo H1 b ws) (hc : LsAt X.K xo H1 c us)
    (l : DtL X.K xo H1 ds vs) (m : DtL X.K xo H1 es ws) (n : DtL X.K xo H1 fs us) (h1 : es.length = ds.length) (h2 : fs.length = ds.length) : Wk X.K W xo (It3 X.K a b c) (zip3D ds es fs) H1 := by
  have ln := zip3D_length h1 h2
  refine ⟨fun H => SqL X.K H a vs ∧ SqL X.K H b ws ∧ SqL X.K H c us, fun i H v H' => ∃ T x y z, v = .ref T ∧ H T = none ∧ H' = L2.upd H T (.tup [x, y, z]) ∧ vs[i]? = some x ∧ ws[i]? = some y ∧ us[i]? = some z, ⟨fun i H hi q => ?_, fun H q => ?_, fun i H v H' hi q y => ?_⟩, fun xo' H' s => ⟨ha.evs eb sub s, hb.evs eb sub s, hc.evs eb sub s⟩, fun i xo' H x H' hi s y => ?_⟩
  · rw [ln] at hi
    have k1 : i < vs.length := by rw [l.length]; exact hi
    have k2 : i < ws.length := by rw [m.length, h1]; exact hi
    have k3 : i < us.length := by rw [n.length, h2]; exact hi
    exact ⟨vs, ws, us, vs[i], ws[i], us[i], ⟨q.1, by simp [k1]⟩, ⟨q.2.1, by simp [k2]⟩, q.2.2, by simp [k3]⟩
  · exact ⟨vs, ws, us, ⟨q.1, by rw [ln, l.length]⟩, ⟨q.2.1, by rw [ln, m.length, h1]⟩, q.2.2, by rw [ln, n.length, h2]⟩
  · obtain ⟨T, x, y, z, e1, e2, e3, e4, e5, e6⟩ := y
    exact ⟨T, x, y, z, e1, e2, e3, e4 _ q.1, e5 _ q.2.1, e6 _ q.2.2⟩
  · obtain ⟨T, x, y, z, rfl, nT, rfl, e1, e2, e3⟩ := y
    rw [ln] at hi
    obtain ⟨v, f1, f2⟩ := l.get (i := i) (d := ds[i]) (by simp [hi])
    obtain ⟨w, g1, g2⟩ := m.get (i := i) (d := es[i]'(by omega)) (by simp)
    obtain ⟨u, k1, k2⟩ := n.get (i := i) (d := fs[i]'(by omega)) (by simp)
    rw [f1] at e1
    rw [g1] at e2
    rw [k1] at e3
    cases e1
    cases e2
    cases e3
    refine ⟨same_upd nT, _, zip3D_get (i := i) (d := ds[i]) (e := es[i]'(by omega)) (f := fs[i]'(by omega)) (by simp [hi]) (by simp) (by simp), ?_⟩
    simp only [Dt]
    exact ⟨T, _, rfl, SqT.of upd_same, (DtL.cons (f2.ev eb sub s) (.cons (g2.ev eb sub s) (.cons (k2.ev eb sub s) .nil))).same (same_upd nT)⟩
theorem three_of {K : PySem.W.Frag} {xo : Addr → Prop} {H : Hp} {d e f : PyData} {vs : List V} (h : DtL K xo H [d, e, f] vs) : ∃ x y z, vs = [x, y, z] ∧ Dt K xo H d x ∧ Dt K xo H e y ∧ Dt K xo H f z := by
  simp only [DtL] at h
  obtain ⟨x, _, rfl, hx, y, _, rfl, hy, z, _, rfl, hz, rfl⟩ := h
  exact ⟨x, y, z, rfl, hx, hy, hz⟩
theorem qi_zip3 {e e2 e3 : Expr} {fs : Rho → M (List PyData)} {p pos tpos : Pos} {elts : List Expr} {kk : Nat} (hg : Gl X "zip") (hm : X.mg "zip" = none) (ha : PA X [e, e2, e3] (tQA X W Wx fs))
    (hs : starEach [e, e2, e3] X.env = (false, eval e X.env) :: starEach [e2, e3] X.env) (hpl : (backTo pos (starEach [e2, e3] X.env)).any (·.1) = false) :
    PI X (.Tuple elts kk tpos) (.Call (.Name "zip" p) [e, e2, e3] [] pos) (tQI X W Wx (zipM3 fs)) := by
  refine PI.weak (pi_zip3 hg hm ha hs hpl) fun σ H R h => ?_
  obtain ⟨xo, ρ, ω, g, r⟩ := h
  refine ⟨xo, ρ, ω, g, RunP.mono (RunP.bind r) (fun ds o z vs H1 s t q => ?_) fun _ _ _ e => e⟩
  obtain ⟨es, e1, k⟩ := RunP.get z
  split at e1
  · rename_i n1 n2 n3
    split at e1
    · rename_i hz
      cases e1
      obtain ⟨v1, v2, v3, rfl, d1, d2, d3⟩ := three_of q
      obtain ⟨a, as, rfl, qa, la⟩ := d1.lstE
      obtain ⟨b, bs, rfl, qb, lb⟩ := d2.lstE
      obtain ⟨c, cs, rfl, qc, lc⟩ := d3.lstE
      exact ⟨a, b, c, as, bs, cs, rfl, qa.sq, qb.sq, qc.sq, k _ H1 s t (wk_zip3 g.eb g.sub qa qb qc la lb lc hz.2.1 hz.2.2) (by rw [zip3D_length hz.2.1 hz.2.2]; exact hz.1)⟩
    · cases e1
  · cases e1
end
end Q

set_option maxHeartbeats 4000000
/-! x, y, z = [], [], [] -/
namespace Q
open PySem PySem.Spec PyProof.Rows L2
def triB (sc : Scope) (x y z : Str) (px py pz : Pos) : Bool := decide ((if sc.kind.isAnnotationScope then ScopeKind.function else sc.kind) = .function) && kindIs sc x .local && kindIs sc y .local && kindIs sc z .local && decide (px.line = py.line) && decide (px.line = pz.line) && decide (x ≠ y) && decide (x ≠ z) && decide (y ≠ z)
theorem triB_ok {env : Env} {x y z : Str} {px py pz pt pt2 p1 p2 p3 : Pos} {kt k2 : Nat} (h : triB env.scope x y z px py pz = true) : swappedStores [.Tuple [.Name x px, .Name y py, .Name z pz] kt pt] (.Tuple [.List [] p1, .List [] p2, .List [] p3] k2 pt2) env = pure (some [x, y, z]) := by
  unfold triB at h
  simp only [Bool.and_eq_true, decide_eq_true_eq] at h
  obtain ⟨⟨⟨⟨⟨⟨⟨⟨h1, h2⟩, h3⟩, h4⟩, h5⟩, h6⟩, h7⟩, h8⟩, h9⟩ := h
  have b : env.blockKind = .function := h1
  have k1 : env.kindOf x = some .local := kindIs_ok h2
  have k2' : env.kindOf y = some .local := kindIs_ok h3
  have k3 : env.kindOf z = some .local := kindIs_ok h4
  have e1 : (y == x) = false := by simpa using Ne.symm h7
  have e2 : (z == x) = false := by simpa using Ne.symm h8
  have e3 : (z == y) = false := by simpa using Ne.symm h9
  have dd : ([x, y, z] : List Str).eraseDups.length = 3 := by
    simp [List.eraseDups_cons, List.filter, e1, e2, e3]
  have f1 : ∀ p, foldedForSure 8 (.List [] p) = false := fun p => rfl
  have f2 : ∀ p, constantsAlone 8 (.List [] p) = false := fun p => rfl
  have l5 : py.line = px.line := h5.symm
  have l6 : pz.line = px.line := h6.symm
  unfold swappedStores
  simp [b, k1, k2', k3, l5, l6, dd, f1, f2, Expr.pos]
def new3M (i j l : Nat) : Rho → M Fw := fun ρ => pure (.nx (((ρ.set i (some (.own []))).set j (some (.own []))).set l (some (.own []))))
section
variable {X : Cx} {W : Wd} {Wx : WX}
theorem qs_new3 {i j l : Nat} {x y z : Str} {px py pz pt pt2 p1 p2 p3 pos : Pos} {kt k2 : Nat} (hc : X.calm = true) (hN : X.N.Nodup) (hi : X.N[i]? = some x) (hj : X.N[j]? = some y) (hl : X.N[l]? = some z) (hij : i ≠ j) (hil : i ≠ l) (hjl : j ≠ l) (ht : triB X.env.scope x y z px py pz = true) :
    PS X (.Assign [.Tuple [.Name x px, .Name y py, .Name z pz] kt pt] (.Tuple [.List [] p1, .List [] p2, .List [] p3] k2 pt2) pos) (tQS X W Wx (new3M i j l)) := by
  have h' := ht
  unfold triB at h'
  simp only [Bool.and_eq_true, decide_eq_true_eq] at h'
  obtain ⟨⟨⟨⟨⟨⟨⟨⟨_, h2⟩, h3⟩, h4⟩, _⟩, _⟩, _⟩, _⟩, _⟩ := h'
  refine ⟨fun pins s σ H D I h => ?_⟩
  have li : i < σ.length := by rw [I.len]; exact (List.getElem?_eq_some_iff.mp hi).1
  have lj : j < σ.length := by rw [I.len]; exact (List.getElem?_eq_some_iff.mp hj).1
  have ll : l < σ.length := by rw [I.len]; exact (List.getElem?_eq_some_iff.mp hl).1
  refine (ps_par3 hc hN hi hj hl hij hil hjl (kindIs_ok h2) (kindIs_ok h3) (kindIs_ok h4) (pa_cons (pe_lst pa_nil) (pa_cons (pe_lst pa_nil) (pa_cons (pe_lst pa_nil) pa_nil))) (triB_ok ht) rfl).run pins s σ H D I ?_
  obtain ⟨xo, ρ, ω, g, r⟩ := h
  refine ⟨by decide, fun a ha => ⟨by decide, fun b hb => ⟨by decide, fun c hc => ⟨_, _, _, rfl, ?_⟩⟩⟩⟩
  have g1 := g.own li ha (ds := []) (vs := []) .nil
  have g2 := g1.own (by rw [List.length_set]; exact lj) hb (ds := []) (vs := []) .nil
  have g3 := g2.own (by rw [List.length_set, List.length_set]; exact ll) hc (ds := []) (vs := []) .nil
  have s1 : Step W H (upd H a (.lst [])) := Step.upd ha
  have s2 : Step W (upd H a (.lst [])) _ := Step.upd (o := .lst []) hb
  have s3 : Step W (upd (upd H a (.lst [])) b (.lst [])) _ := Step.upd (o := .lst []) hc
  refine (RunP.ret r) _ _ _ (((s1.trans s2).trans s3).ev fun d hd => ?_) g3
  rcases hd with ((hd | hd) | hd) | hd
  · exact .inl hd
  · rw [hd]; exact .inr ha
  · rw [hd]; exact .inr (s1.new b hb)
  · rw [hd]; exact .inr ((s1.trans s2).new c hc)
end
end Q

set_option maxHeartbeats 4000000
namespace Q
open PySem PySem.Spec PyProof.Rows L2 LamX
/-! ### name += number, name -= number -/
def augM (is : List Nat) (i : Nat) (h : Int → Int → Int) (f : Rho → M PyData) : Rho → M Fw := fun ρ => match ρ[i]? with
  | some (some (.dat (.int a))) => do
    let d ← f (relR is ρ)
    match d with
    | .int b => pure (.nx (ρ.set i (some (.dat (.int (h a b))))))
    | _ => bad
  | _ => bad
theorem augM.inv {is : List Nat} {i : Nat} {h : Int → Int → Int} {f : Rho → M PyData} {ρ : Rho} {ω : Om} {P : Fw → Om → Prop} {E : Str → List (Str × PyData) → Om → Prop} (r : RunP (augM is i h f ρ ω) P E) :
    ∃ a, ρ[i]? = some (some (.dat (.int a))) ∧ RunP ((f (relR is ρ) >>= fun d => match d with
      | .int b => pure (Fw.nx (ρ.set i (some (.dat (.int (h a b))))))
      | _ => bad) ω) P E := by
  unfold augM at r
  cases e : ρ[i]? with
  | none => rw [e] at r; exact r.elim
  | some o => cases o with
    | none => rw [e] at r; exact r.elim
    | some en => cases en with
      | dat d =>
        rw [e] at r
        cases d <;> first | exact r.elim | exact ⟨_, rfl, r⟩
      | _ => rw [e] at r; exact r.elim
def opI : Operator → Option (Int → Int → Int)
  | .Add => some fun i j => i + j
  | .Sub => some fun i j => i - j
  | _ => none
section
variable {X : Cx} {W : Wd} {Wx : WX}
theorem qs_aug {i : Nat} {x : Str} {e : Expr} {f : Rho → M PyData} {pos pos' : Pos} {op : Operator} {h : Int → Int → Int} (is : List Nat) (hN : X.N.Nodup) (hi : X.N[i]? = some x) (hx : Loc X.env.scope x) (he : PE X e (tQ X W Wx f)) (ho : PIp X op (ipI h)) (hf : X.fn x = true ∨ X.env.scope.names.lookup x = some .local) :
    PS X (.AugAssign (.Name x pos') op e pos) (tQS X W Wx (augM is i h f)) := by
  refine ⟨fun pins s σ H D I hq => ?_⟩
  have hl : i < σ.length := by rw [I.len]; exact (List.getElem?_eq_some_iff.mp hi).1
  refine (ps_aug hN hi hx he ho hf).run pins s σ H D I ?_
  obtain ⟨xo, ρ, ω, g, r⟩ := hq
  obtain ⟨a, ha, r⟩ := augM.inv r
  obtain ⟨v, hv, dv⟩ := g.slot i _ ha
  refine ⟨v, hv, (tQS.expr g r).mono fun y H1 ⟨d, ω1, xo1, s1, sb, g1, g0, q, z⟩ => ?_⟩
  have ea : v = .int a := (show Dt X.K xo H (.int a) v from dv).intE
  cases d <;> first | exact z.elim | skip
  rename_i b
  refine ⟨a, b, ea, q.intE, ?_⟩
  exact (RunP.ret z) _ H1 xo (s1.ev fun _ z => .inl z) (g0.set hl (.int _))
theorem opI_ok {op : Operator} {h : Int → Int → Int} (e : opI op = some h) : PIp X op (ipI h) := by
  cases op <;> first | (cases e; done) | (cases e; exact ip_add) | (cases e; exact ip_sub)
end
end Q

set_option maxHeartbeats 4000000
namespace Q
open PySem PySem.Spec PyProof.Rows L2 LamX
/-! ### for x in reversed(list or tuple) -/
def revM (f : Rho → M PyData) : Rho → M (List PyData) := fun ρ => do
  let d ← f ρ
  let ds ← get? (itemsD d)
  need (decide (ds.length ≤ line))
  pure ds.reverse
theorem walk_revT {K : PySem.W.Frag} {a : Addr} {xs : List V} : Walk (RT.ItvT K a xs.length) xs.length (fun H => SqT K H a xs) (fun i H x H' => H' = H ∧ xs[xs.length - 1 - i]? = some x) :=
  ⟨fun i _ hi q => ⟨hi, xs, xs[xs.length - 1 - i]'(by omega), q, by simp [show xs.length - 1 - i < xs.length by omega]⟩, fun _ _ => Nat.le_refl _, fun _ _ _ _ _ q y => ⟨y.1, y.2 xs q⟩⟩
section
variable {K : PySem.W.Frag} {W : Wd} {xo : Addr → Prop} {H H1 : Hp} {ds : List PyData} {vs : List V} {a : Addr}
/-- the items from behind -/
theorem from_behind {xo' : Addr → Prop} {H' : Hp} {i : Nat} {x : V} (eb : ∀ b, W.ex b → W.b b) (sub : ∀ b, W.b b → xo b) (l : DtL K xo H1 ds vs) (hi : i < ds.reverse.length) (s : Ev W xo H1 xo' H') (hx : vs[vs.length - 1 - i]? = some x) : ∃ d, ds.reverse[i]? = some d ∧ Dt K xo' H' d x := by
  have hl := l.length
  rw [List.length_reverse] at hi
  have lt : ds.length - 1 - i < ds.length := by omega
  refine ⟨ds[ds.length - 1 - i], by rw [List.getElem?_reverse hi, List.getElem?_eq_getElem lt], ?_⟩
  obtain ⟨v, h1, h2⟩ := l.get (i := ds.length - 1 - i) (d := ds[ds.length - 1 - i]) (by simp [lt])
  rw [hl, h1] at hx
  cases hx
  exact h2.ev eb sub s
theorem wk_rev (eb : ∀ b, W.ex b → W.b b) (sub : ∀ b, W.b b → xo b) (h : LsAt K xo H1 a vs) (l : DtL K xo H1 ds vs) : Wk K W xo (Itv K a vs.length) ds.reverse H1 := by
  refine ⟨fun H => SqL K H a vs, fun i H x H' => H' = H ∧ vs[vs.length - 1 - i]? = some x, ?_, fun xo' H' s => h.evs eb sub s, fun i xo' H x H' hi s y => ?_⟩
  · rw [List.length_reverse, ← l.length]; exact walk_rev
  · obtain ⟨e, hx⟩ := y
    subst e
    exact ⟨Same.refl _, from_behind eb sub l hi s hx⟩
theorem wk_revT (eb : ∀ b, W.ex b → W.b b) (sub : ∀ b, W.b b → xo b) (h : SqT K H1 a vs) (l : DtL K xo H1 ds vs) : Wk K W xo (RT.ItvT K a vs.length) ds.reverse H1 := by
  refine ⟨fun H => SqT K H a vs, fun i H x H' => H' = H ∧ vs[vs.length - 1 - i]? = some x, ?_, fun xo' H' s => SqT.ev s h, fun i xo' H x H' hi s y => ?_⟩
  · rw [List.length_reverse, ← l.length]; exact walk_revT
  · obtain ⟨e, hx⟩ := y
    subst e
    exact ⟨Same.refl _, from_behind eb sub l hi s hx⟩
end
section
variable {X : Cx} {W : Wd} {Wx : WX} {tg : Expr}
theorem qi_rev {e : Expr} {f : Rho → M PyData} {p pos : Pos} (hg : Gl X "reversed") (hm : X.mg "reversed" = none) (he : PE X e (tQ X W Wx f)) (hs : starEach [e] X.env = (false, eval e X.env) :: starEach [] X.env) :
    PI X tg (.Call (.Name "reversed" p) [e] [] pos) (tQI X W Wx (revM f)) := by
  refine PI.weak (RT.pi_revA hg hm he hs) fun σ H R h => ?_
  obtain ⟨xo, ρ, ω, g, r⟩ := h
  refine ⟨xo, ρ, ω, g, RunP.mono (RunP.bind r) (fun d o z v H1 st t q => ?_) fun _ _ _ e => e⟩
  obtain ⟨ds, e1, z2⟩ := (RunP.bind z).get
  obtain ⟨e2, z3⟩ := (RunP.bind z2).need
  have e2 : ds.reverse.length ≤ line := by rw [List.length_reverse]; exact of_decide_eq_true e2
  cases d <;> first | (exfalso; simp [itemsD] at e1; done) | skip
  case list es =>
    cases e1
    obtain ⟨a, vs, rfl, ha, la⟩ := q.lstE
    exact ⟨a, vs, rfl, .inl ⟨ha.sq, z3 _ H1 st t (wk_rev g.eb g.sub ha la) e2⟩⟩
  case tuple es =>
    cases e1
    obtain ⟨a, vs, rfl, ha, la⟩ := q.tupE
    exact ⟨a, vs, rfl, .inr ⟨ha, z3 _ H1 st t (wk_revT g.eb g.sub ha la) e2⟩⟩
end
end Q

set_option maxHeartbeats 4000000
namespace Q
open PySem PySem.Spec PyProof.Rows L2 LamX
/-! ### [e, ..] * n: a list of its own -/
def repN (fs : Rho → M (List PyData)) (fb : Rho → M PyData) : Rho → M Nv := fun ρ => do
  let ds ← fs ρ
  need (decide (ds.length ≤ line))
  let d ← fb ρ
  match d with
  | .int k => do
    need (decide ((-(2 ^ 63) ≤ k ∧ k < 2 ^ 63) ∧ ds.length * k.toNat ≤ line))
    pure (.inl (List.replicate k.toNat ds).flatten)
  | _ => bad
section
variable {X : Cx} {W : Wd} {Wx : WX}
theorem qn_rep {es : List Expr} {b : Expr} {p1 pos : Pos} {fs : Rho → M (List PyData)} {fb : Rho → M PyData} (h : PA X es (tQA X W Wx fs)) (hb : PE X b (tQ X W Wx fb)) : PE X (.BinOp (.List es p1) .Mult b pos) (tQN X W Wx (repN fs fb)) := by
  refine PE.weak (pe_op op_rep (pe_lst h) hb) fun σ H Q hq => ?_
  obtain ⟨xo, ρ, ω, g, r⟩ := hq
  refine ⟨xo, ρ, ω, g, RunP.mono (RunP.bind r) (fun ds o z vs H1 s t q => ?_) fun _ _ _ e => e⟩
  obtain ⟨e, z2⟩ := (RunP.bind z).need
  have e' : ds.length ≤ line := of_decide_eq_true e
  refine ⟨by rw [q.length]; exact small_line e', fun p hp => ?_⟩
  have sp : Step W H (L2.upd H1 p (.lst vs)) := s.trans (Step.upd hp)
  have tp := St.same t (same_upd (o := .lst vs) hp)
  have gf : Good X.K W xo (L2.upd H1 p (.lst vs)) σ ρ o := g.step sp tp
  have nex : ¬ W.ex p := fun z => g.tr p (g.sub p (g.eb p z)) (s.new p hp)
  refine ⟨xo, ρ, o, gf, RunP.mono (RunP.bind z2) (fun d o2 z3 y H2 s2 t2 q2 => ?_) fun _ _ _ e => e.step sp⟩
  cases d <;> first | exact z3.elim | skip
  rename_i k
  obtain ⟨e3, z4⟩ := (RunP.bind z3).need
  obtain ⟨⟨b1, b2⟩, e4⟩ := of_decide_eq_true e3
  have at2 : H2 p = some (.lst vs) := s2.keep p _ upd_same (.inl nex) fun _ z => nomatch z
  refine ⟨p, k, vs, rfl, q2.intE, at2, b1, b2, by rw [q.length, sizeLine_eq]; exact e4, fun p2 hp2 => ?_⟩
  have kq : NwP X W xo H Q (.inl (List.replicate k.toNat ds).flatten) o2 := RunP.ret z4
  have l2 : DtL X.K xo H2 ds vs := (q.same (same_upd hp)).step gf.exo s2
  exact kq p2 _ _ ((sp.trans s2).trans (Step.upd hp2)) (St.same t2 (same_upd hp2)) (sp.new p2 (s2.new p2 hp2)) upd_same ((DtL.more hp2 _ _ (l2.rep k.toNat)).same (same_upd hp2))
end
end Q

set_option maxHeartbeats 4000000
namespace Q
open PySem PySem.Spec PyProof.Rows L2 LamX
/-! ### name.extend(a new list) -/
def extM (i : Nat) (is : List Nat) (f : Rho → M Nv) : Rho → M Fw := fun ρ => match ρ[i]? with
  | some (some (.own _)) => do
    let r ← f (relR is ρ)
    match r with
    | .inl ds1 => match (relR is ρ)[i]? with
      | some (some (.own ds)) => do
        need (decide (ds.length + ds1.length ≤ line))
        pure (.nx ((relR is ρ).set i (some (.own (ds ++ ds1)))))
      | _ => bad
    | _ => bad
  | _ => bad
theorem extM.inv {i : Nat} {is : List Nat} {f : Rho → M Nv} {ρ : Rho} {ω : Om} {P : Fw → Om → Prop} {E : Str → List (Str × PyData) → Om → Prop} (h : RunP (extM i is f ρ ω) P E) :
    (∃ ds, ρ[i]? = some (some (.own ds))) ∧ RunP ((f (relR is ρ) >>= fun r => match r with
    | .inl ds1 => match (relR is ρ)[i]? with
      | some (some (.own ds)) => (need (decide (ds.length + ds1.length ≤ line)) >>= fun _ => pure (Fw.nx ((relR is ρ).set i (some (.own (ds ++ ds1))))))
      | _ => bad
    | _ => bad) ω) P E := by
  unfold extM at h
  obtain ⟨ds, e, r⟩ := ownM.inv (k := fun _ => f (relR is ρ) >>= fun r => match r with
    | .inl ds1 => match (relR is ρ)[i]? with
      | some (some (.own ds)) => (need (decide (ds.length + ds1.length ≤ line)) >>= fun _ => pure (Fw.nx ((relR is ρ).set i (some (.own (ds ++ ds1))))))
      | _ => bad
    | _ => bad) h
  exact ⟨⟨ds, e⟩, r⟩
section
variable {X : Cx} {W : Wd} {Wx : WX}
theorem qs_ext {i : Nat} {x : Str} {e : Expr} {f : Rho → M Nv} {px pa cpos spos : Pos} (is : List Nat) (hN : X.N[i]? = some x) (hv : Vis X.env.scope x) (he : PE X e (tQN X W Wx f))
    (hpe : ∀ {to : TE} {t : TA}, PE X (.Name x px) to → PA X [e] t → PE X (.Call (.Attribute (.Name x px) "extend" pa) [e] [] cpos) (tBM X.K "list" rExtend to t))
    (se : starEach [e] X.env = (false, eval e X.env) :: starEach [] X.env)
    (hs : swapsWith (.Call (.Attribute (.Name x px) "extend" pa) [e] [] cpos) none spos.line X.env = pure false := by rfl) (hd : (x == ("__debug__" : Str)) = false := by decide) (hcd : (x == ("__classdict__" : Str)) = false := by decide) :
    PS X (.Expr (.Call (.Attribute (.Name x px) "extend" pa) [e] [] cpos) spos) (tQS X W Wx (extM i is f)) := by
  refine PS.weak (ps_expr (hpe (pe_var hN hv hd hcd) (pa_cons he pa_nil se)) hs) fun D σ H h => ?_
  obtain ⟨xo, ρ, ω, g, r⟩ := h
  obtain ⟨⟨ds0, hi⟩, r⟩ := extM.inv r
  obtain ⟨p, vs, hσ, xp, np, hp, l⟩ := own_at g hi
  refine ⟨.ref p, hσ, .inl ⟨rfl, vs, .inl (.inl hp)⟩, ?_⟩
  obtain ⟨xo1, sb, g1⟩ := g.rel is
  refine ⟨xo1, relR is ρ, ω, g1, RunP.mono (RunP.bind r) (fun r1 o z => ?_) fun c fs o z => z.exp g1.sub⟩
  cases r1 with
  | inr d => exact z.elim
  | inl ds1 =>
    intro p1 vs1 H1 st1 t1 n1 e1 l1
    obtain ⟨ds, hi2, z2⟩ := ownM.inv z
    obtain ⟨el, z3⟩ := (RunP.bind z2).need
    have gf : Good X.K W (more xo1 p1) H1 σ (relR is ρ) o := g1.fresh n1 st1 (by rw [e1]; exact fun z => nomatch z) t1
    obtain ⟨p2, us, hσ2, xp2, np2, hp2, l2⟩ := own_at gf hi2
    rw [hσ] at hσ2
    cases hσ2
    refine ⟨p, p1, us, vs1, rfl, rfl, hp2, e1, by rw [l2.length, l1.length, sizeLine_eq]; exact of_decide_eq_true el, ?_⟩
    have ev : Ev W xo H (more xo1 p1) H1 := st1.ev fun a h => by
      rcases h with h | h
      · exact .inl (sb a h)
      · rw [h]; exact .inr n1
    exact (RunP.ret z3) σ _ (more xo1 p1) (ev.put xp2 np2 hp2) (gf.put hi2 hσ xp2 np2 hp2 (l2.app l1))
end
end Q

set_option maxHeartbeats 4000000
namespace Q
open PySem PySem.Spec PyProof.Rows L2 LamX
/-! ### max(a list of whole numbers, default=e) -/
def maxDF (d k : PyData) : Option PyData := match d with
  | .list ds => match intsD ds with
    | some [] => some k
    | some (n :: ns) => some (.int (ns.foldl max n))
    | none => none
  | _ => none
def rMaxDef (K : PySem.W.Frag) : List V → List V → Hp → VK → Prop := fun xs zs H Q => ∃ (a : Addr) (ns : List Int) (z : V), xs = [V.ref a] ∧ zs = [z] ∧ SqL K H a (ns.map V.int) ∧ (ns = [] → Q z H) ∧ ∀ n ms, ns = n :: ms → Q (.int (ms.foldl max n)) H
theorem reads_ints {h : Heap} {its : List Value} {ns : List Int} (i : IntsAre its ns) : ReadsAll h its (ns.map PyData.int) [] := by
  induction i with
  | nil => exact .nil
  | cons n t _ ih => exact .cons (.int n t) ih
theorem alike_ints (ns : List Int) : PySem.W.AlikeAll (ns.map PyData.int) := by
  refine ⟨fun x hx y hy => ?_, fun x hx e => ?_⟩
  · obtain ⟨i, _, rfl⟩ := List.mem_map.mp hx
    obtain ⟨j, _, rfl⟩ := List.mem_map.mp hy
    rfl
  · obtain ⟨i, _, rfl⟩ := List.mem_map.mp hx
    cases e
theorem flat_ints : ∀ ns : List Int, PyData.depthAll (ns.map PyData.int) = 0
  | [] => rfl
  | n :: ns => by
    simp only [List.map_cons, PyData.depthAll, PyData.depth, flat_ints ns, Nat.max_self]
section
variable {X : Cx}
theorem cr_maxDef (hc : X.calm = true) (hu : X.A.units + 65 < cLine) : CallRK X (.builtin "max") [Str.ofString "default"] (rMaxDef X.K) := by
  intro pins s σ H xs zs us ws Q I r r2 h
  obtain ⟨a, ns, z, rfl, rfl, hs, q0, q1⟩ := h
  obtain ⟨its, rv, hl, _⟩ := I.list hs
  rw [Vals.ref1 r]
  cases r2 with
  | cons rz rn =>
    cases rn with
    | nil =>
      refine PySem.W.max_list_default (xs := ns.map PyData.int) (as := []) (I.ok.hd hc) hl.isList (by simpa using reads_ints rv.ints) (alike_ints ns) (by rw [flat_ints]; omega) (fun e h' tk hk => ⟨z, H, I.kept hk, rz, q0 (List.map_eq_nil_iff.mp e)⟩) (fun y ys i v h' tk bs e hv rd hk => ?_)
      cases ns with
      | nil => cases e
      | cons n ms =>
        rw [List.map_cons] at e
        injection e with e1 e2
        subst e1 e2
        rw [PySem.W.maxD_ints] at rd
        cases rd
        exact ⟨.int _, H, I.kept hk, ⟨_, rfl⟩, q1 n ms rfl⟩
def maxDM (fa fk : Rho → M PyData) : Rho → M PyData := fun ρ => do
  let d ← fa ρ
  let k ← fk ρ
  get? (maxDF d k)
variable {W : Wd} {Wx : WX}
theorem qe_maxDef {e k : Expr} {fa fk : Rho → M PyData} {p pos kp : Pos} (hc : X.calm = true) (hu : X.A.units + 65 < cLine) (hg : Gl X "max") (hm : X.mg "max" = none) (he : PE X e (tQ X W Wx fa)) (hk : PE X k (tQ X W Wx fk)) (hs : isStar e = false) :
    PE X (.Call (.Name "max" p) [e] [⟨some (Str.ofString "default"), k, kp⟩] pos) (tQ X W Wx (maxDM fa fk)) := by
  have se : starEach [e] X.env = (false, eval e X.env) :: starEach [] X.env := star_cons hs
  refine PE.weak (pe_callBK (cr_maxDef hc hu) hg hm boot_max (pa_cons he pa_nil se) (pk_cons hk pk_nil) (by decide) (by decide) (by rw [se]; rfl) (by rw [se]; rfl)) fun σ H Q h => ?_
  obtain ⟨xo, ρ, ω, g, r⟩ := h
  refine ⟨xo, ρ, ω, g, RunP.mono (RunP.bind r) (fun d ω1 r1 x H1 s1 t1 q1 => ?_) fun _ _ _ e => e⟩
  refine ⟨xo, ρ, ω1, g.step s1 t1, RunP.mono (RunP.bind r1) (fun e ω2 r2 y H2 s2 t2 q2 => ?_) fun _ _ _ e => e.step s1⟩
  obtain ⟨w, ew, kk⟩ := RunP.get r2
  unfold maxDF at ew
  cases d <;> first | (cases ew; done) | skip
  rename_i ds
  have q1' := q1.step g.exo s2
  obtain ⟨a, vs, rfl, ha, la⟩ := q1'.lstE
  cases hi : intsD ds with
  | none => simp only [hi] at ew; cases ew
  | some ns =>
    have ev := intsD_vs hi la
    subst ev
    refine ⟨a, ns, y, rfl, rfl, ha.sq, fun z => ?_, fun n ms z => ?_⟩
    · subst z
      simp only [hi] at ew
      cases ew
      exact kk y H2 (s1.trans s2) t2 q2
    · subst z
      simp only [hi] at ew
      cases ew
      exact kk _ H2 (s1.trans s2) t2 (.int _)
end
end Q

set_option maxHeartbeats 4000000
namespace Q
open PySem L2 LamX

/-! ### the text's own look: what is known of names before a run -/
inductive Gk where
  | blt
  | con (d : PyData)
  | fn (F : List Ent → M PyData)
  | err (f : Str)
  | hof (FF : (List PyData → M PyData) → List Ent → M PyData)
structure Cz where
  N : List Str
  sc : Scope
  fn : Str → Bool
  j : Nat
  k : Nat
  G : Str → Option Gk
  L : Str → Option (List PyData → M PyData)
  tb : Option (Addr × Addr)
  mt : Str → Str → Option Bool
def locB (c : Cz) (x : Str) : Bool := kindIs c.sc x .local || (kindIs c.sc x .cell && c.fn x)
def GOk (P : Program) (w : World) (K : PySem.W.Frag) (mg : Str → Option Value) (base : Heap) (T : List (Addr × Str)) (j k : Nat) (x : Str) : Gk → Prop
  | .blt => mg x = none
  | .con d => ∃ v u, mg x = some u ∧ RelV v u ∧ ∀ (xo : Addr → Prop) H, (∀ a, xo a → H a ≠ none) → Dt K xo H d v
  | .fn F => ∃ f fd ps n, mg x = some (.ref f) ∧ PySem.W.keepIn K (.ref f) = true ∧ L2.Binds K fd ps [] ∧ FnG P w K mg base j f fd ps (spG K mg T n F) ∧ (∀ es ω P E, RunP (F es ω) P E → es.length = n)
  | .err f => ∃ C, Err1 K mg P w base x f C ∧ XfC K C
  | .hof FF => ∃ g fd ps Ng a qg sg cdg, Hof P w K mg base T k x g fd ps Ng a qg sg cdg FF
structure Agr (X : Cx) (W : Wd) (c : Cz) : Prop where
  nm : X.N = c.N
  nd : c.N.Nodup
  sc : X.env.scope = c.sc
  fn : ∀ x, c.fn x = true → X.fn x = true
  calm : X.calm = true
  gd : X.A.guards = some []
  rm : Room c.k X.A
  two : 2 ≤ c.k
  jk : c.j ≤ c.k
  gl : ∀ x g, c.G x = some g → GOk X.prog X.w X.K X.mg X.base W.T c.j c.k x g
  lo : ∀ x F, c.L x = some F → CloOk X W x F
  tab : ∀ cc PP, c.tb = some (cc, PP) → X.env.code = .ref cc ∧ TabB X.base X.mg cc PP ∧ (PP, X.env.qual ++ "<lambda>") ∈ W.T ∧ ∀ p ∈ W.T, p.1 = PP → p.2 = X.env.qual ++ "<lambda>"
  mt : ∀ c1 h b C1 C2, c.mt c1 h = some b → X.mg c1 = some (.ref C1) → X.mg h = some (.ref C2) → PySem.W.exmOne X.K (.ref C1) (.ref C2) = some b
section
variable {X : Cx} {W : Wd} {Wx : WX} {c : Cz}
theorem Agr.hu (a : Agr X W c) : X.A.units + 65 < cLine := by have := a.rm.un; omega
theorem Agr.hu2 (a : Agr X W c) : X.A.units + 70 < cLine := by have := a.rm.un; omega
theorem Agr.vis (a : Agr X W c) {x : Str} (h : visB c.sc x = true) : Vis X.env.scope x := by rw [a.sc]; exact visB_ok h
theorem Agr.ix (a : Agr X W c) {x : Str} {i : Nat} (h : idx c.N x = some i) : X.N[i]? = some x := by rw [a.nm]; exact idx_ok h
theorem Agr.glob (a : Agr X W c) {x : Str} (h : kindIs c.sc x .globalImplicit = true) : Gl X x := by
  show X.env.scope.names.lookup x = _
  rw [a.sc]; exact kindIs_ok h
theorem Agr.loc (a : Agr X W c) {x : Str} (h : locB c x = true) : Loc X.env.scope x ∧ (X.fn x = true ∨ X.env.scope.names.lookup x = some .local) := by
  rw [a.sc]
  unfold locB at h
  rw [Bool.or_eq_true, Bool.and_eq_true] at h
  rcases h with h | ⟨h, h2⟩
  · exact ⟨.inl (kindIs_ok h), .inr (kindIs_ok h)⟩
  · exact ⟨.inr (kindIs_ok h), .inl (a.fn x h2)⟩
end

/-! ### built-ins by name -/
def bltF (x : Str) : Option (List PyData → Option PyData) :=
  if x = "len" then some lenF else if x = "tuple" then some tupleF else if x = "list" then some listF else if x = "int" then some intF else
  if x = "all" then some allF else if x = "any" then some anyF else if x = "sum" then some sumF2 else if x = "sorted" then some sortF else if x = "repr" then some reprF else if x = "max" then some maxF else if x = "min" then some minF else none
section
variable {X : Cx} {W : Wd} {Wx : WX} {c : Cz}
theorem qe_blt {x : Str} {f : List PyData → Option PyData} {p pos : Pos} {e : Expr} {es : List Expr} {fs : Rho → M (List PyData)} (hc : X.calm = true) (hgd : X.A.guards = some []) (hu : X.A.units + 70 < cLine) (hx : bltF x = some f) (hg : Gl X x) (hm : X.mg x = none) (ha : PA X (e :: es) (tQA X W Wx fs)) (hs : ((e :: es).all fun e => !isStar e) = true) :
    PE X (.Call (.Name x p) (e :: es) [] pos) (tQ X W Wx fun ρ => do let ds ← fs ρ; get? (f ds)) := by
  have he : starEach (e :: es) X.env = (false, eval e X.env) :: starEach es X.env := star_cons (by simp only [List.all_cons, Bool.and_eq_true, Bool.not_eq_true'] at hs; exact hs.1)
  have hp : (backTo pos (starEach es X.env)).any (·.1) = false := star_none (by simp only [List.all_cons, Bool.and_eq_true, Bool.not_eq_true'] at hs; simpa using hs.2)
  unfold bltF at hx
  split at hx
  · rename_i q; cases hx; subst q; exact qe_callB c_len hg hm (by decide +kernel) ha (by decide) (by decide) he hp
  split at hx
  · rename_i q; cases hx; subst q; exact qe_callTy c_tuple hg hm (by decide +kernel) ha (by decide) (by decide) he hp
  split at hx
  · rename_i q; cases hx; subst q; exact qe_callTy c_list hg hm (by decide +kernel) ha (by decide) (by decide) he hp
  split at hx
  · rename_i q; cases hx; subst q; exact qe_callTy c_int hg hm (by decide +kernel) ha (by decide) (by decide) he hp
  split at hx
  · rename_i q; cases hx; subst q; exact qe_callB (c_all hc) hg hm (by decide +kernel) ha (by decide) (by decide) he hp
  split at hx
  · rename_i q; cases hx; subst q; exact qe_callB (c_any hc) hg hm (by decide +kernel) ha (by decide) (by decide) he hp
  split at hx
  · rename_i q; cases hx; subst q; exact qe_callB (c_sum2 hc) hg hm (by decide +kernel) ha (by decide) (by decide) he hp
  split at hx
  · rename_i q; cases hx; subst q; exact qe_callB (c_sorted hu) hg hm (by decide +kernel) ha (by decide) (by decide) he hp
  split at hx
  · rename_i q; cases hx; subst q; exact qe_callB (c_repr hgd hu) hg hm (by decide +kernel) ha (by decide) (by decide) he hp
  split at hx
  · rename_i q; cases hx; subst q; exact qe_callB (c_max hc) hg hm (by decide +kernel) ha (by decide) (by decide) he hp
  split at hx
  · rename_i q; cases hx; subst q; exact qe_callB (c_min hc) hg hm (by decide +kernel) ha (by decide) (by decide) he hp
  · cases hx
/-- x() -/
theorem qe_callG0 {k : Nat} {f : Addr} {fd : FuncData} {ps : List Str} {x : Str} {p pos : Pos} {F : List Ent → M PyData} {n : Nat} (G : FnG X.prog X.w X.K X.mg X.base k f fd ps (spG X.K X.mg W.T n F)) (hn : ∀ es ω P E, RunP (F es ω) P E → es.length = n) (hr : Room k X.A) (hgd : X.A.guards = some []) (hg : Gl X x) (hm : X.mg x = some (.ref f)) (hk : PySem.W.keepIn X.K (.ref f) = true) (hb : L2.Binds X.K fd ps []) (tk : Takes X Wx)
    (hdb : (x == ("__debug__" : Str)) = false) : PE X (.Call (.Name x p) [] [] pos) (tQ X W Wx fun _ => F []) := by
  refine ⟨fun pins s σ H Q I h => ?_⟩
  have h' : tQ X W Wx (callE F fun _ => pure []) σ H Q := h
  obtain ⟨xo, ρ, ω, g, r⟩ := call_read hn h'
  have q := (RunP.ret r) [] H (Step.refl W H) g.st .nil
  refine wpAny_Call_Name_kw (ld_glob I hg hm ?_ hdb)
  exact PySem.W.callWith_K0 I.kIn hk (run_G G hr hgd hb tk I .nil q)
end
end Q

set_option maxHeartbeats 4000000
namespace Q
open PySem L2 LamX

/-! ### the runs of a text, by their text -/
structure EvR where
  E : Cz → Expr → Rho → M PyData
  N : Cz → Expr → Rho → M Nv
  T : Cz → Expr → Rho → M Bool
  I : Cz → Expr → Expr → Rho → M (List PyData)
  S : Cz → Stmt → Rho → M Fw
def badR : EvR := ⟨fun _ _ _ => bad, fun _ _ _ => bad, fun _ _ _ => bad, fun _ _ _ _ => bad, fun _ _ _ => bad⟩
section
variable (r : EvR)
def evA (c : Cz) : List Expr → Rho → M (List PyData)
  | [] => fun _ => pure []
  | e :: es => if isStar e then fun _ => bad else fun ρ => do
    let d ← r.E c e ρ
    let ds ← evA c es ρ
    pure (d :: ds)
def evH (c : Cz) : Expr → Rho → M Ent
  | .Name x p => if okN x && visB c.sc x then (match idx c.N x with
      | some i => nameH i
      | none => fun _ => bad) else fun ρ => do let d ← r.E c (.Name x p) ρ; pure (.dat d)
  | e => fun ρ => do let d ← r.E c e ρ; pure (.dat d)
def evX (c : Cz) : List Expr → Rho → M (List Ent)
  | [] => fun _ => pure []
  | e :: es => if isStar e then fun _ => bad else consH (evH r c e) (evX c es)
def evBo (c : Cz) (op : BoolOp) : List Expr → Rho → M PyData
  | [] => fun _ => bad
  | a :: rest => match rest with
    | [] => r.E c a
    | _ :: _ => match op with
      | .And => andTM (r.E c a) (evBo c op rest)
      | .Or => orTM (r.E c a) (evBo c op rest)
def evBT (c : Cz) (op : BoolOp) : List Expr → Rho → M Bool
  | [] => fun _ => bad
  | a :: rest => match rest with
    | [] => r.T c a
    | _ :: _ => match op with
      | .And => andM (r.T c a) (evBT c op rest)
      | .Or => orM (r.T c a) (evBT c op rest)
def evO (c : Cz) : Option Expr → Rho → M (Option Int)
  | none => fun _ => pure none
  | some e => intM (r.E c e)
def evTs (c : Cz) : List Expr → Rho → M Bool
  | [] => fun _ => pure true
  | [t] => r.T c t
  | _ => fun _ => bad
end
def evG (c : Cz) (is : List Nat) : Nat → Expr → PyData → Rho → Option Rho
  | 0, _ => fun _ _ => none
  | n + 1, e => match e with
    | .Name x _ => if locB c x then (match idx c.N x with
        | some i => if is.contains i then setD i else fun _ _ => none
        | none => fun _ _ => none) else fun _ _ => none
    | .Tuple es _ _ => if (es.all fun e => !isStar e) then tupG es.length (es.foldr (fun e gs => consG (evG c is n e) gs) nilG) else fun _ _ => none
    | _ => fun _ _ => none
def ownOf (N : List Str) (scope : Scope) : List (Str × Nat) := scope.names.filterMap fun y => if y.2 = .local ∨ y.2 = .cell then (idx N y.1).map (y.1, ·) else none
def blkCz (c : Cz) (scope : Scope) : Cz := { c with sc := relS scope c.sc, fn := fun x => scope.names.lookup x == some .cell, L := fun _ => none, tb := none }
/-- a lambda's body -/
def lamCz (c : Cz) (scope : Scope) : Cz := { c with sc := scope, fn := fun _ => false, k := c.k - 2, G := fun x => match c.G x with | some (.hof _) => none | g => g, L := fun _ => none, tb := none }
def splitLast : List Expr → Option (List Expr × Expr)
  | [] => none
  | [e] => some ([], e)
  | e :: es => (splitLast es).map fun p => (e :: p.1, p.2)
theorem splitLast_ok : ∀ {l : List Expr} {es : List Expr} {e : Expr}, splitLast l = some (es, e) → l = es ++ [e]
  | [], _, _, h => by cases h
  | [x], _, _, h => by cases h; rfl
  | x :: y :: r, es, e, h => by
    have h' : (splitLast (y :: r)).map (fun p => (x :: p.1, p.2)) = some (es, e) := h
    cases q : splitLast (y :: r) with
    | none => rw [q] at h'; cases h'
    | some p =>
      rw [q] at h'
      cases h'
      have := splitLast_ok (l := y :: r) (es := p.1) (e := p.2) q
      rw [this]; rfl
def blkB (c : Cz) (scope : Scope) : Bool := blkC c.N c.sc scope (ownOf c.N scope)
section
variable (r : EvR)
def evLc (c : Cz) (elt tg iter : Expr) (ifs : List Expr) (scope : Scope) : Rho → M PyData :=
  if blkB c scope && !isSetD iter then
    listM (r.I c tg iter) ((ownOf c.N scope).map (·.2)) (evG (blkCz c scope) ((ownOf c.N scope).map (·.2)) 4 tg) (evTs r (blkCz c scope) ifs) (r.E (blkCz c scope) elt)
  else fun _ => bad
def evDc (c : Cz) (kx vx tg iter : Expr) (ifs : List Expr) (scope : Scope) : Rho → M PyData :=
  if blkB c scope && !isSetD iter then
    dictM (r.I c tg iter) ((ownOf c.N scope).map (·.2)) (evG (blkCz c scope) ((ownOf c.N scope).map (·.2)) 4 tg) (evTs r (blkCz c scope) ifs) (r.E (blkCz c scope) kx) (r.E (blkCz c scope) vx)
  else fun _ => bad
def isBlt (c : Cz) (x : Str) : Bool := kindIs c.sc x .globalImplicit && match c.G x with | some .blt => true | _ => false
/-- the places of a lambda's parameters -/
def parIs (N : List Str) (ps : List Str) (d : Bool) : Option (List Nat) := if d then (match ps with | [x] => if N.contains x then none else some [] | _ => none) else ps.mapM (idx N)
def evHof (c : Cz) (FF : (List PyData → M PyData) → List Ent → M PyData) (args : List Expr) : Rho → M PyData :=
  match splitLast args with
  | some (es, .Lambda params body scope _) => (match parsOf params, c.tb with
    | some (ps, d), some _ => (match parIs c.N ps d with
      | some is => if lamPB c.sc scope ps && decide (c.j + 2 ≤ c.k ∧ 4 ≤ c.k) && es.all (fun e => !isStar e) then fun ρ => do
          let ents ← evX r c es ρ
          FF (lamF is (r.E (lamCz c scope) body) ρ) ents
        else fun _ => bad
      | none => fun _ => bad)
    | _, _ => fun _ => bad)
  | _ => fun _ => bad
/-- set(e), alone among the arguments -/
def setArg : List Expr → Option Expr
  | [.Call (.Name t _) [e] [] _] => if t = "set" then some e else none
  | _ => none
/-- range(e), alone among the arguments -/
def rgArg : List Expr → Option Expr
  | [.Call (.Name t _) [e] [] _] => if t = "range" then some e else none
  | _ => none
def evCall0 (c : Cz) (x : Str) (args : List Expr) : Rho → M PyData :=
  if visB c.sc x then (match c.L x, idx c.N x with
    | some F, some i => if okN x && args.all (fun e => !isStar e) then cloM i F (evA r c args) else fun _ => bad
    | _, _ => fun _ => bad) else
  if x = "isinstance" then (match args with
    | [e, .Name t _] => if isBlt c x && isBlt c t && (isaT t .none).isSome && !isStar e then isaM t (r.E c e) else fun _ => bad
    | _ => fun _ => bad) else
  match args with
  | [] => if okN x && kindIs c.sc x .globalImplicit then match c.G x with
      | some (.fn F) => fun _ => F []
      | _ => fun _ => bad
    else fun _ => bad
  | e :: es => if okN x && kindIs c.sc x .globalImplicit && ((e :: es).all fun e => !isStar e) then match c.G x with
      | some (.fn F) => callE F (evX r c (e :: es))
      | some (.hof FF) => evHof r c FF (e :: es)
      | some .blt => (match bltF x with
        | some f => fun ρ => do let ds ← evA r c (e :: es) ρ; get? (f ds)
        | none => fun _ => bad)
      | _ => fun _ => bad
    else fun _ => bad
def evCall (c : Cz) (x : Str) (args : List Expr) : Rho → M PyData := match (if x = "sorted" then setArg args else none) with
  | some e => if isBlt c "sorted" && isBlt c "set" && !isStar e then fun ρ => do let d ← r.E c e ρ; get? (setSort d) else fun _ => bad
  | none => (match (if x = "list" then rgArg args else none) with
    | some e => if isBlt c "list" && isBlt c "range" && !isStar e then fun ρ => do let d ← r.E c e ρ; get? (rangeD d) else fun _ => bad
    | none => evCall0 r c x args)
def evName (c : Cz) (x : Str) : Rho → M PyData :=
  if okN x then
    if visB c.sc x then (match idx c.N x with
      | some i => fun ρ => datAt ρ i
      | none => fun _ => bad)
    else if kindIs c.sc x .globalImplicit then (match c.G x with
      | some (.con d) => fun _ => pure d
      | _ => fun _ => bad)
    else fun _ => bad
  else fun _ => bad
def evE (c : Cz) : Expr → Rho → M PyData
  | .Name x _ => evName c x
  | .Constant k _ _ => (match k with
    | .int i => fun _ => pure (.int i)
    | .bool b => fun _ => pure (.bool b)
    | .none => fun _ => pure .none
    | .str x => fun _ => pure (.str x)
    | _ => fun _ => bad)
  | .Tuple es _ _ => if es.length ≤ 1000 then fun ρ => do let ds ← evA r c es ρ; need (decide (ds.length ≤ line)); pure (.tuple ds) else fun _ => bad
  | .List es _ => fun ρ => do let ds ← evA r c es ρ; need (decide (ds.length ≤ line)); pure (.list ds)
  | .BinOp a op b _ => fun ρ => do let x ← r.E c a ρ; let y ← r.E c b ρ; get? (binD op x y)
  | .UnaryOp op a _ => (match op with
    | .Not => notM (r.E c a)
    | .USub => (fun ρ => do let d ← r.E c a ρ; get? (match d with | .int i => some (.int (-i)) | _ => none))
    | _ => fun _ => bad)
  | .BoolOp op vs _ => evBo r c op vs
  | .IfExp t a b _ => fun ρ => do let z ← r.T c t ρ; if z then r.E c a ρ else r.E c b ρ
  | .Compare a [op] [b] _ => if behindInMarks op b then fun _ => bad else fun ρ => do let z ← cmpM op (r.E c a) (r.E c b) ρ; pure (.bool z)
  | .Compare a [op, op'] [b, d] _ => if lastMarks [op, op'] [b, d] then fun _ => bad else fun ρ => do let z ← chainM op op' (r.E c a) (r.E c b) (r.E c d) ρ; pure (.bool z)
  | .Subscript a (.Slice lo hi none _) _ => fun ρ => do let d ← r.E c a ρ; let l ← evO r c lo ρ; let h ← evO r c hi ρ; get? (cutD d l h)
  | .Subscript a (.Slice none none st _) _ => if isBack st then fun ρ => do let d ← r.E c a ρ; get? (backD d) else fun _ => bad
  | .Subscript (.Dict keys values _) b _ => (match dispK keys values with
    | some kvs => if kvs ≠ [] ∧ kvs.length ≤ 15 ∧ plainI b = true then fun ρ => do let d ← r.E c b ρ; get? (dixD kvs d) else fun _ => bad
    | none => fun _ => bad)
  | .Subscript a b _ => if plainI b then fun ρ => do let x ← r.E c a ρ; let y ← r.E c b ρ; get? (itemD x y) else fun _ => bad
  | .Call (.Name x _) args [] _ => evCall r c x args
  | .Call (.Name x _) [e] [⟨some kw, k, _⟩] _ => if x = "max" ∧ kw = Str.ofString "default" ∧ isBlt c "max" = true ∧ isStar e = false then maxDM (r.E c e) (r.E c k) else fun _ => bad
  | .ListComp elt [⟨tg, iter, ifs, 0⟩] scope _ => evLc r c elt tg iter ifs scope
  | .DictComp kx vx [⟨tg, iter, ifs, 0⟩] scope _ => evDc r c kx vx tg iter ifs scope
  | .Dict [] [] _ => fun _ => pure (.dict [])
  | _ => fun _ => bad
def evT (c : Cz) : Expr → Rho → M Bool
  | .UnaryOp .Not a _ => fun ρ => do let b ← r.T c a ρ; pure (!b)
  | .BoolOp op vs _ => evBT r c op vs
  | .Compare a [op] [b] _ => if behindInMarks op b then fun _ => bad else cmpM op (r.E c a) (r.E c b)
  | .Compare a [op, op'] [b, d] _ => if lastMarks [op, op'] [b, d] then fun _ => bad else chainM op op' (r.E c a) (r.E c b) (r.E c d)
  | e => if plainT e then truM (r.E c e) else fun _ => bad
def evI (c : Cz) (tg : Expr) : Expr → Rho → M (List PyData)
  | .Call (.Name f p) args [] pos => if isBlt c f then
      (match args with
      | [a] => if isStar a then fun _ => bad else if f = "range" then rng1M (evA r c [a]) else if f = "enumerate" ∧ isTupD tg = true then enumM2 (evA r c [a]) else if f = "reversed" then revM (r.E c a) else seqM (r.E c (.Call (.Name f p) [a] [] pos))
      | [a, b] => if isStar a || isStar b then fun _ => bad else if f = "range" then rng2M (evA r c [a, b]) else if f = "zip" ∧ isTupD tg = true then zipM (evA r c [a, b]) else seqM (r.E c (.Call (.Name f p) [a, b] [] pos))
      | [a, b, d] => if isStar a || isStar b || isStar d then fun _ => bad else if f = "zip" ∧ isTupD tg = true then zipM3 (evA r c [a, b, d]) else seqM (r.E c (.Call (.Name f p) [a, b, d] [] pos))
      | _ => seqM (r.E c (.Call (.Name f p) args [] pos)))
    else seqM (r.E c (.Call (.Name f p) args [] pos))
  | e => seqM (r.E c e)
end

/-! ### what the runs by text are good for -/
structure RE (r : EvR) : Prop where
  E : ∀ (X : Cx) (W : Wd) (Wx : WX) (c : Cz), Agr X W c → Takes X Wx → ∀ e, PE X e (tQ X W Wx (r.E c e))
  N : ∀ (X : Cx) (W : Wd) (Wx : WX) (c : Cz), Agr X W c → Takes X Wx → ∀ e, PE X e (tQN X W Wx (r.N c e))
  T : ∀ (X : Cx) (W : Wd) (Wx : WX) (c : Cz), Agr X W c → Takes X Wx → ∀ e, PT X e (tQT X W Wx (r.T c e))
  I : ∀ (X : Cx) (W : Wd) (Wx : WX) (c : Cz), Agr X W c → Takes X Wx → ∀ tg e, PI X tg e (tQI X W Wx (r.I c tg e))
theorem badR_ok : RE badR := ⟨fun _ _ _ _ _ _ _ => qe_bad, fun _ _ _ _ _ _ _ => qn_bad, fun _ _ _ _ _ _ _ => qt_bad, fun _ _ _ _ _ _ _ _ => qi_bad⟩
theorem Agr.blk {X : Cx} {W : Wd} {c : Cz} (a : Agr X W c) (s : Shared) (H : Hp) (scope : Scope) (C : Addr) (cl : List (Str × Addr)) (fp : List Addr) : Agr (X.blk s H scope (compEnvC scope cl C X.env) fp) W (blkCz c scope) :=
  ⟨a.nm, a.nd, by show relS scope X.env.scope = relS scope c.sc; rw [a.sc], fun x h => h, a.calm, a.gd, a.rm, a.two, a.jk, a.gl, (fun _ _ z => nomatch z), (fun _ _ z => nomatch z), a.mt⟩
section
variable {r : EvR} {X : Cx} {W : Wd} {Wx : WX} {c : Cz}
theorem evA_ok (R : RE r) (a : Agr X W c) (tk : Takes X Wx) : ∀ es, PA X es (tQA X W Wx (evA r c es))
  | [] => qa_nil
  | e :: es => by
    unfold evA
    split
    · exact qa_bad
    · rename_i h
      exact qa_cons (R.E X W Wx c a tk e) (evA_ok R a tk es) (star_cons (by simpa using h))
theorem evH_ok (R : RE r) (a : Agr X W c) (tk : Takes X Wx) (e : Expr) : PE X e (tQ1 X W Wx (evH r c e)) := by
  unfold evH
  split
  · split
    · rename_i h
      rw [Bool.and_eq_true] at h
      obtain ⟨h1, h2, h3⟩ := okN_ok h.1
      split
      · rename_i i hi
        exact qh_name (a.ix hi) (a.vis h.2) h1 h2
      · exact qh_bad
    · exact qh_any (R.E X W Wx c a tk _)
  · exact qh_any (R.E X W Wx c a tk _)
theorem evX_ok (R : RE r) (a : Agr X W c) (tk : Takes X Wx) : ∀ es, PA X es (tQE X W Wx (evX r c es))
  | [] => qx_nil
  | e :: es => by
    unfold evX
    split
    · exact qx_bad
    · rename_i h
      exact qx_consH (evH_ok R a tk e) (evX_ok R a tk es) (star_cons (by simpa using h))
theorem evBo_ok (R : RE r) (a : Agr X W c) (tk : Takes X Wx) {op : BoolOp} {pos : Pos} : ∀ vs, PE X (.BoolOp op vs pos) (tQ X W Wx (evBo r c op vs))
  | [] => qe_bad
  | [e] => qe_one (R.E X W Wx c a tk e)
  | e :: e2 :: rest => by
    have ih := evBo_ok R a tk (op := op) (pos := pos) (e2 :: rest)
    cases op with
    | And => exact qe_andT (R.E X W Wx c a tk e) ih
    | Or => exact qe_orT (R.E X W Wx c a tk e) ih
theorem qw_bad {e : Expr} : PW X e (tQT X W Wx fun _ => bad) := ⟨fun _ _ _ _ _ _ _ h => by obtain ⟨xo, ρ, ω, g, r⟩ := h; exact r.elim⟩
theorem evBT_ok (R : RE r) (a : Agr X W c) (tk : Takes X Wx) {op : BoolOp} {pos : Pos} : ∀ vs, PW X (.BoolOp op vs pos) (tQT X W Wx (evBT r c op vs))
  | [] => qw_bad
  | [e] => by
    cases op with
    | And => exact qw_and1 (R.T X W Wx c a tk e)
    | Or => exact qw_or1 (R.T X W Wx c a tk e)
  | e :: e2 :: rest => by
    have ih := evBT_ok R a tk (op := op) (pos := pos) (e2 :: rest)
    cases op with
    | And => exact qw_and (R.T X W Wx c a tk e) ih
    | Or => exact qw_or (R.T X W Wx c a tk e) ih
theorem evO_ok (R : RE r) (a : Agr X W c) (tk : Takes X Wx) : ∀ e, PO X e (tQO X W Wx (evO r c e))
  | none => qo_none
  | some e => qo_some (R.E X W Wx c a tk e)
theorem evTs_ok (R : RE r) (a : Agr X W c) (tk : Takes X Wx) : ∀ es, PTs X es (tQT X W Wx (evTs r c es))
  | [] => qts_nil
  | [e] => qts_one (R.T X W Wx c a tk e)
  | _ :: _ :: _ => qts_bad
theorem evG_ok (a : Agr X W c) (is : List Nat) : ∀ n e, PG X e (tQG X W is (evG c is n e))
  | 0, e => qg_bad
  | n + 1, e => by
    unfold evG
    split
    · rename_i x p
      split
      · rename_i h
        split
        · rename_i i hi
          split
          · rename_i hm
            exact qg_name (a.nm ▸ a.nd) (a.ix hi) (a.loc h).1 (a.loc h).2 (by simpa using hm)
          · exact qg_bad
        · exact qg_bad
      · exact qg_bad
    · rename_i es k p
      split
      · rename_i h
        have key : ∀ es : List Expr, (es.all fun e => !isStar e) = true → PGs X es (tQGs X W is (es.foldr (fun e gs => consG (evG c is n e) gs) nilG)) := by
          intro es
          induction es with
          | nil => intro _; exact qgs_nil
          | cons e es ih =>
            intro h
            simp only [List.all_cons, Bool.and_eq_true, Bool.not_eq_true'] at h
            exact qgs_cons (evG_ok a is n e) (ih (by simpa using h.2)) (by rw [asg_cons h.1]; rfl)
        exact qg_tup a.calm (key es h) (asg_len h).1 (asg_len h).2
      · exact qg_bad
    · exact qg_bad
theorem evLc_ok (R : RE r) (a : Agr X W c) (tk : Takes X Wx) {elt tg iter : Expr} {ifs : List Expr} {scope : Scope} {pos : Pos} : PE X (.ListComp elt [⟨tg, iter, ifs, 0⟩] scope pos) (tQ X W Wx (evLc r c elt tg iter ifs scope)) := by
  unfold evLc
  split
  · rename_i h
    rw [Bool.and_eq_true, Bool.not_eq_true'] at h
    refine qe_lc a.calm (a.nm ▸ a.nd) (R.I X W Wx c a tk tg iter) (blkOk_by (by rw [a.nm, a.sc]; exact h.1)) (fun s H C cl fp => evG_ok (a.blk s H scope C cl fp) _ _ _) (fun s H C cl fp => evTs_ok R (a.blk s H scope C cl fp) LamX.takes0 _) (fun s H C cl fp => R.E _ _ _ _ (a.blk s H scope C cl fp) LamX.takes0 _) (notSet_fold h.2)
  · exact qe_bad
theorem evDc_ok (R : RE r) (a : Agr X W c) (tk : Takes X Wx) {kx vx tg iter : Expr} {ifs : List Expr} {scope : Scope} {pos : Pos} : PE X (.DictComp kx vx [⟨tg, iter, ifs, 0⟩] scope pos) (tQ X W Wx (evDc r c kx vx tg iter ifs scope)) := by
  unfold evDc
  split
  · rename_i h
    rw [Bool.and_eq_true, Bool.not_eq_true'] at h
    exact qe_dc a.calm (a.nm ▸ a.nd) (by have := a.hu; omega) (R.I X W Wx c a tk tg iter) (blkOk_by (by rw [a.nm, a.sc]; exact h.1)) (fun s H C cl fp => evG_ok (a.blk s H scope C cl fp) _ _ _) (fun s H C cl fp => evTs_ok R (a.blk s H scope C cl fp) LamX.takes0 _) (fun s H C cl fp => R.E _ _ _ _ (a.blk s H scope C cl fp) LamX.takes0 _) (fun s H C cl fp => R.E _ _ _ _ (a.blk s H scope C cl fp) LamX.takes0 _) (notSet_fold h.2)
  · exact qe_bad
theorem isBlt_ok (a : Agr X W c) {x : Str} (h : isBlt c x = true) : Gl X x ∧ X.mg x = none := by
  unfold isBlt at h
  rw [Bool.and_eq_true] at h
  refine ⟨a.glob h.1, ?_⟩
  have h2 := h.2
  split at h2
  · rename_i q
    exact a.gl x _ q
  · cases h2
/-- what stands ahead of a lambda is run, then the lambda is made -/
theorem spl_lam (R : RE r) (a : Agr X W c) (tk : Takes X Wx) {lam : Expr} {pos : Pos} (hl : isStar lam = false) {pins : List (Addr × Obj)} {σ : L2.St} {xo : Addr → Prop} {ρ : Rho} : ∀ (es : List Expr) (s : Shared) (H : Hp) (ω : Om) (Q : List Value → Shared → Prop) (P : List Ent → Om → Prop), L2.Inv X pins σ H s → Good X.K W xo H σ ρ ω → (es.all fun e => !isStar e) = true →
    RunP (evX r c es ρ ω) P (ExP X W Wx xo σ H) →
    (∀ us vs ents ω' s' H', L2.Inv X pins σ H' s' → L2.Vals vs us → EtL X.K W xo H' ents vs → Step W H H' → W.St ω' H' → P ents ω' → wpAny (model X.prog X.w) X.A (eval lam X.env) (fun u s'' => Q (us ++ [u]) s'') X.xe s') →
    wpAny (model X.prog X.w) X.A (spliced (backTo pos (starEach (es ++ [lam]) X.env))) Q X.xe s
  | [], s, H, ω, Q, P, I, g, _, run, k => by
    rw [List.nil_append, star_cons hl]
    show wpAny _ _ (spliced ((false, eval lam X.env) :: backTo pos (starEach [] X.env))) _ _ s
    exact Calls.spliced_cons (wpAny_mono (k [] [] [] ω s H I .nil .nil (Step.refl W H) g.st (RunP.ret run)) (fun u s' q => Calls.spliced_nil q) fun _ _ z => z)
  | e :: es, s, H, ω, Q, P, I, g, hst, run, k => by
    simp only [List.all_cons, Bool.and_eq_true, Bool.not_eq_true'] at hst
    rw [List.cons_append, star_cons hst.1]
    show wpAny _ _ (spliced ((false, eval e X.env) :: backTo pos (starEach (es ++ [lam]) X.env))) _ _ s
    have e0 : evX r c (e :: es) = consH (evH r c e) (evX r c es) := by
      show (if isStar e then (fun _ => bad) else consH (evH r c e) (evX r c es)) = _
      rw [hst.1]; rfl
    rw [e0] at run
    refine Calls.spliced_cons (L2.thn ((evH_ok R a tk e).run pins s σ H (fun v H1 => ∃ en ω1, Step W H H1 ∧ W.St ω1 H1 ∧ EntP X.K W xo H1 v en ∧ RunP (evX r c es ρ ω1) (fun ens ω2 => P (en :: ens) ω2) (ExP X W Wx xo σ H)) I
      ⟨xo, ρ, ω, g, RunP.mono (RunP.bind run) (fun en ω1 r1 v H1 s1 t1 q1 => ⟨en, ω1, s1, t1, q1, RunP.mono (RunP.bind r1) (fun ens ω2 r2 => RunP.ret r2) fun _ _ _ z => z⟩) fun _ _ _ z => z⟩) fun u s1 hh => ?_)
    obtain ⟨v, H1, I1, r1, en, ω1, st1, t1, q1, run1⟩ := hh
    refine spl_lam R a tk hl es s1 H1 ω1 (fun vs s2 => Q (u :: vs) s2) _ I1 (g.step st1 t1) (by simpa using hst.2) (RunP.mono run1 (fun _ _ z => z) fun _ _ _ z => z.step st1) fun us vs ents ω' s' H' I' rv l st t p => ?_
    exact k (u :: us) (v :: vs) (en :: ents) ω' s' H' I' (.cons r1 rv) (.consP (q1.step g.exo st) l) (st1.trans st) t p
theorem mapM_par {N : List Str} {ps : List Str} {is : List Nat} (h : ps.mapM (idx N) = some is) (hp : ps = [] ∨ ∃ x, ps = [x]) (hN : X.N = N) : parOk X ps is := by
  rcases hp with e | ⟨x, e⟩
  · subst e
    cases h
    exact .inl ⟨rfl, rfl⟩
  · subst e
    cases q : idx N x with
    | none => simp [q] at h
    | some i =>
      simp [q] at h
      exact .inr (.inl ⟨x, i, rfl, h.symm, by rw [hN]; exact idx_ok q⟩)
theorem parsOf_shape {p : Arguments} {ps : List Str} {d : Bool} (h : parsOf p = some (ps, d)) : ps = [] ∨ ∃ x, ps = [x] := by
  unfold parsOf at h
  split at h <;> cases h
  · exact .inl rfl
  · exact .inr ⟨_, rfl⟩
  · exact .inr ⟨_, rfl⟩
theorem parIs_ok {N : List Str} {ps : List Str} {d : Bool} {is : List Nat} (h : parIs N ps d = some is) (hp : ps = [] ∨ ∃ x, ps = [x]) (hN : X.N = N) : parOk X ps is ∧ (if d then 0 else ps.length) = is.length := by
  unfold parIs at h
  cases d with
  | false =>
    have h : ps.mapM (idx N) = some is := h
    refine ⟨mapM_par h hp hN, ?_⟩
    rcases mapM_par h hp hN with ⟨e1, e2⟩ | ⟨x, i, e1, e2, _⟩ | ⟨x, e1, e2, hx⟩
    · rw [e1, e2]; rfl
    · rw [e1, e2]; rfl
    · exfalso
      subst e1 e2
      cases q : idx N x <;> simp [q] at h
  | true =>
    rcases hp with e | ⟨x, e⟩
    · subst e; cases h
    · subst e
      have h : (if N.contains x then none else some []) = some is := h
      split at h
      · cases h
      · rename_i hc
        cases h
        refine ⟨.inr (.inr ⟨x, rfl, rfl, fun i z => hc ?_⟩), rfl⟩
        rw [hN] at z
        simpa using List.mem_of_getElem? z
theorem Agr.lam {f c' : Addr} {L : Addr} {A : Around} {outer : List Env} {s : Shared} {H : Hp} {E : XK} {scope : Scope} (a : Agr X W c) (hg : A.guards = X.A.guards) (hr : Room (c.k - 2) (A.deeper (lamEnv X scope s.heap.objs.size f c'))) (hk : c.j + 2 ≤ c.k ∧ 4 ≤ c.k) : Agr (lamCx X A outer s H E scope f c') W (lamCz c scope) :=
  ⟨a.nm, a.nd, rfl, (fun _ z => nomatch z), rfl, hg.trans a.gd, hr, by show 2 ≤ c.k - 2; omega, by show c.j ≤ c.k - 2; omega, fun x g h => by
    have h' : (match c.G x with | some (.hof _) => none | g => g) = some g := h
    cases q : c.G x with
    | none => rw [q] at h'; cases h'
    | some g0 =>
      have k0 := a.gl x _ q
      rw [q] at h'
      cases g0 with
      | hof FF => cases h'
      | blt => cases h'; exact k0
      | con d => cases h'; exact k0
      | fn F => cases h'; exact k0
      | err f => cases h'; exact k0, (fun _ _ z => nomatch z), (fun _ _ z => nomatch z), a.mt⟩
theorem evHof_ok (R : RE r) (a : Agr X W c) (tk : Takes X Wx) {FF : (List PyData → M PyData) → List Ent → M PyData} {x : Str} {args : List Expr} {p pos : Pos} (hF : c.G x = some (.hof FF)) (hg : Gl X x) (hdb : (x == ("__debug__" : Str)) = false) (hst : (args.all fun e => !isStar e) = true) : PE X (.Call (.Name x p) args [] pos) (tQ X W Wx (evHof r c FF args)) := by
  obtain ⟨g, fd, ps0, Ng, an, qg, sg, cdg, hof⟩ := a.gl x _ hF
  unfold evHof
  split
  · rename_i es params body scope lp hsp
    split
    · rename_i ps d tb hps htb
      split
      · rename_i is his
        split
        · rename_i hc
          simp only [Bool.and_eq_true, decide_eq_true_eq] at hc
          obtain ⟨⟨h1, h2⟩, h3⟩ := hc
          obtain ⟨cc, PP⟩ := tb
          obtain ⟨hcode, TB, hm, hu⟩ := a.tab cc PP htb
          have L : LamP X.env.scope scope ps := by rw [a.sc]; exact lamP_by h1
          have hargs := splitLast_ok hsp
          subst hargs
          refine ⟨fun pins s σ H Q I h => ?_⟩
          obtain ⟨xo, ρ, ω, gd, run⟩ := h
          refine wpAny_Call_Name_kw (ld_glob I hg hof.gm ?_ hdb)
          have main : wpAny (model X.prog X.w) X.A (spliced (backTo pos (starEach (es ++ [.Lambda params body scope lp]) X.env))) (fun us s1 => X.K.In s1.heap ∧ wpAny (model X.prog X.w) X.A (call (.ref g) ([] ++ us)) (L2.EP X pins σ Q) X.xe s1) X.xe s := by
            refine spl_lam R a tk rfl es s H ω _ (fun ents ω1 => RunP (FF (lamF is (r.E (lamCz c scope) body) ρ) ents ω1) (fun d ω' => ∀ v H', Step W H H' → W.St ω' H' → Dt X.K xo H' d v → Q v H') (ExP X W Wx xo σ H)) I gd h3 (RunP.mono (RunP.bind run) (fun _ _ z => z) fun _ _ _ z => z) fun us vs ents ω1 s1 H1 I1 rv l st1 t1 run1 => ?_
            refine lam_laid hps I1 TB hcode hm hu t1.1 (fun y hy e => L.has I1.ok y hy e) fun f c' dV doc pm ctv H2 s2 ⟨I2, eN, nw, T2, hf, hfn, hfr, hco, hbd⟩ => ?_
            obtain ⟨hpo, hlen0⟩ := parIs_ok (X := X) his (parsOf_shape hps) a.nm
            rw [hlen0] at hbd
            refine ⟨I2.kIn, ?_⟩
            have st2 : Step W H1 H2 := ⟨fun b o e _ n => eN b o e n, nw⟩
            have tt2 : W.St ω1 H2 := by
              refine ⟨T2, ?_⟩
              have h2 := t1.2
              cases q : W.mach with
              | none => rw [q] at h2; cases ω1 <;> exact h2
              | some m =>
                obtain ⟨p0, c0, g0⟩ := m
                rw [q] at h2
                cases ω1 with
                | none => exact h2
                | some mm =>
                  obtain ⟨z1, z2, z3, z4⟩ := h2
                  exact ⟨eN _ _ z1 (fun _ z => nomatch z), eN _ _ z2 (fun _ z => nomatch z), eN _ _ z3 (fun _ z => nomatch z), z4⟩
            have g2 := gd.step (st1.trans st2) tt2
            have hr2 : Room (c.k - 2 + 2) X.A := a.rm.mono (by omega)
            have clo : CloOk (cxOf (L2.CX X.prog X.w) X.prog X.w X.K X.mg X.base Ng qg sg g cdg X.A X.stack s2 H2 (WE Wx σ)) (W.inner xo H2 f) an (lamF is (r.E (lamCz c scope) body) ρ) :=
              clo_made (Eg := WE Wx σ) I2 L (a.nm ▸ a.nd) hpo hf hfn hfr hco hbd g2 hr2 fun A outer s' H' E hgA hrA => R.E _ _ _ _ (Agr.lam (L := 0) a hgA hrA h2) (takes_of rfl rfl rfl rfl) body
            have hlen : vs.length = ps0.length := by rw [l.length]; exact hof.len _ _ _ _ _ run1
            have ul : (us ++ [Value.ref f]).length = (ps0 ++ [an]).length := by
              rw [List.length_append, List.length_append, ← rv.length, hlen]
              rfl
            have bb := hof.bd s2 (us ++ [.ref f]) I2.kIn (by rw [List.append_nil]; exact ul)
            rw [List.append_nil] at bb
            have rv2 : L2.Vals (vs ++ [.ref f]) (us ++ [.ref f]) := rv.append (.cons rfl .nil)
            have l2 : EtL X.K (W.inner xo H2 f) xo H2 ents vs := by
              have l' := EtL.step gd.exo st2 l
              exact (by
                have key : ∀ {es : List Ent} {vs : List V}, EtL X.K W xo H2 es vs → EtL X.K (W.inner xo H2 f) xo H2 es vs := by
                  intro es
                  induction es with
                  | nil => intro vs h; simp only [EtL] at h ⊢; exact h
                  | cons e es ih =>
                    intro vs h
                    simp only [EtL] at h ⊢
                    obtain ⟨v, r, e1, a, b⟩ := h
                    refine ⟨v, r, e1, ?_, ih b⟩
                    cases e <;> exact a
                exact key l')
            refine wpAny_call (codeAny_mono (hof.go _ X.A X.stack s2 H2 (us ++ [Value.ref f]) vs Q (WE Wx σ) (W.inner xo H2 f) ents ω1 a.rm a.gd I2.env0 bb (show L2.Vals (vs ++ [V.ref f]) (us ++ [Value.ref f]) from rv2) rfl rfl l2 tt2 g2.exo g2.tr clo
              (RunP.mono run1 (fun d o z v H' s' t q => z v H' ((st1.trans st2).trans ⟨s'.keep, s'.new⟩) t q) fun c0 fs o z cls dd H' x' s' t => z cls dd H' x' ((st1.trans st2).trans ⟨s'.keep, s'.new⟩) t)) fun res s' hq => ?_)
            cases res with
            | error er => exact passAt tk σ pins H2 s2 er s' I2 hq
            | ok fl =>
              cases fl with
              | ret u => exact I2.after hq
              | next => exact hq.elim
              | brk => exact hq.elim
              | cont => exact hq.elim
          cases es with
          | nil => exact PySem.W.callWith_K (h₀ := X.base) I.ok.mod.kin hof.kp main rfl rfl
          | cons e0 es0 =>
            rw [List.cons_append] at main hst ⊢
            simp only [List.all_cons, Bool.and_eq_true, Bool.not_eq_true'] at hst
            exact PySem.W.callWith_K (h₀ := X.base) I.ok.mod.kin hof.kp main (star_cons hst.1) (star_none (by simpa using hst.2))
        · exact qe_bad
      · exact qe_bad
    · exact qe_bad
  · exact qe_bad
theorem evCall0_ok (R : RE r) (a : Agr X W c) (tk : Takes X Wx) {x : Str} {args : List Expr} {p pos : Pos} : PE X (.Call (.Name x p) args [] pos) (tQ X W Wx (evCall0 r c x args)) := by
  unfold evCall0
  split
  · rename_i hv
    split
    · rename_i F i hF hi
      split
      · rename_i h
        rw [Bool.and_eq_true] at h
        have k := a.lo x F hF X.pn X.xe Wx tk args (evA r c args) p pos i (a.ix hi) (a.vis hv) h.1 h.2 (fun e => by rw [e]; rfl) (evA_ok R a tk args)
        exact k
      · exact qe_bad
    · exact qe_bad
  split
  · rename_i ex
    subst ex
    split
    · rename_i e t p2
      split
      · rename_i h
        simp only [Bool.and_eq_true, Bool.not_eq_true'] at h
        obtain ⟨⟨⟨h1, h2⟩, h3⟩, h4⟩ := h
        obtain ⟨g1, m1⟩ := isBlt_ok a h1
        obtain ⟨g2, m2⟩ := isBlt_ok a h2
        exact qe_isa h3 g1 m1 g2 m2 (R.E X W Wx c a tk e) (by rw [star_cons h4]; rfl)
      · exact qe_bad
    · exact qe_bad
  split
  · split
    · rename_i h
      rw [Bool.and_eq_true] at h
      obtain ⟨n1, n2, n3⟩ := okN_ok h.1
      split
      · rename_i F hF
        obtain ⟨f, fd, ps, n, m1, m2, m3, m4, m5⟩ := a.gl x _ hF
        exact qe_callG0 m4 m5 (a.rm.mono a.jk) a.gd (a.glob h.2) m1 m2 m3 tk n1
      · exact qe_bad
    · exact qe_bad
  · rename_i e es
    split
    · rename_i h
      rw [Bool.and_eq_true, Bool.and_eq_true] at h
      obtain ⟨⟨h1, h2⟩, h3⟩ := h
      obtain ⟨n1, n2, n3⟩ := okN_ok h1
      have h3' := h3
      simp only [List.all_cons, Bool.and_eq_true, Bool.not_eq_true'] at h3'
      split
      · rename_i F hF
        obtain ⟨f, fd, ps, n, m1, m2, m3, m4, m5⟩ := a.gl x _ hF
        exact qe_callG m4 m5 (a.rm.mono a.jk) a.gd (a.glob h2) m1 m2 m3 tk (evX_ok R a tk (e :: es)) n1 (star_cons h3'.1) (star_none (by simpa using h3'.2))
      · rename_i FF hF
        exact evHof_ok R a tk hF (a.glob h2) n1 h3
      · rename_i hF
        split
        · rename_i f hf
          exact qe_blt a.calm a.gd a.hu2 hf (a.glob h2) (a.gl x _ hF) (evA_ok R a tk (e :: es)) h3
        · exact qe_bad
      · exact qe_bad
    · exact qe_bad
theorem setArg_ok {args : List Expr} {e : Expr} (h : setArg args = some e) : ∃ p pos, args = [.Call (.Name "set" p) [e] [] pos] := by
  unfold setArg at h
  split at h
  · split at h
    · rename_i q
      cases h
      subst q
      exact ⟨_, _, rfl⟩
    · cases h
  · cases h
theorem rgArg_ok {args : List Expr} {e : Expr} (h : rgArg args = some e) : ∃ p pos, args = [.Call (.Name "range" p) [e] [] pos] := by
  unfold rgArg at h
  split at h
  · split at h
    · rename_i q
      cases h
      subst q
      exact ⟨_, _, rfl⟩
    · cases h
  · cases h
theorem evCall_ok (R : RE r) (a : Agr X W c) (tk : Takes X Wx) {x : Str} {args : List Expr} {p pos : Pos} : PE X (.Call (.Name x p) args [] pos) (tQ X W Wx (evCall r c x args)) := by
  unfold evCall
  split
  · rename_i e he
    split at he
    · rename_i ex
      subst ex
      obtain ⟨p2, pos2, rfl⟩ := setArg_ok he
      split
      · rename_i h
        simp only [Bool.and_eq_true, Bool.not_eq_true'] at h
        obtain ⟨⟨h1, h2⟩, h3⟩ := h
        obtain ⟨g1, m1⟩ := isBlt_ok a h1
        obtain ⟨g2, m2⟩ := isBlt_ok a h2
        exact qe_sortSet a.calm a.hu2 g1 m1 g2 m2 (R.E X W Wx c a tk e) (star_cons h3)
      · exact qe_bad
    · cases he
  · split
    · rename_i e he
      split at he
      · rename_i ex
        subst ex
        obtain ⟨p2, pos2, rfl⟩ := rgArg_ok he
        split
        · rename_i h
          simp only [Bool.and_eq_true, Bool.not_eq_true'] at h
          obtain ⟨⟨h1, h2⟩, h3⟩ := h
          obtain ⟨g1, m1⟩ := isBlt_ok a h1
          obtain ⟨g2, m2⟩ := isBlt_ok a h2
          exact qe_listRg a.calm g1 m1 g2 m2 (R.E X W Wx c a tk e) (star_cons h3)
        · exact qe_bad
      · cases he
    · exact evCall0_ok R a tk
theorem evName_ok (a : Agr X W c) {x : Str} {p : Pos} : PE X (.Name x p) (tQ X W Wx (evName c x)) := by
  unfold evName
  split
  · rename_i h1
    obtain ⟨n1, n2, n3⟩ := okN_ok h1
    split
    · rename_i h
      split
      · rename_i i hi
        exact qe_var (a.ix hi) (a.vis h) n1 n2
      · exact qe_bad
    · split
      · rename_i h
        split
        · rename_i d hd
          obtain ⟨v, u, m1, m2, m3⟩ := a.gl x _ hd
          exact qe_glob (a.glob h) m1 m2 m3 n1
        · exact qe_bad
      · exact qe_bad
  · exact qe_bad
def negF : PyData → Option PyData
  | .int i => some (.int (-i))
  | _ => none
theorem qe_neg {e : Expr} {f : Rho → M PyData} {pos : Pos} (h : PE X e (tQ X W Wx f)) : PE X (.UnaryOp .USub e pos) (tQ X W Wx fun ρ => do let d ← f ρ; get? (match d with | .int i => some (.int (-i)) | _ => none)) := by
  refine PE.weak (pe_un un_neg h) fun σ H Q hq => ?_
  obtain ⟨xo, ρ, ω, g, r⟩ := hq
  refine ⟨xo, ρ, ω, g, RunP.mono (RunP.bind r) (fun d o z v H' s t q => ?_) fun _ _ _ e => e⟩
  obtain ⟨i, ei, k⟩ := RunP.get z
  cases d <;> first | (exfalso; simp at ei; done) | skip
  cases ei
  exact ⟨_, q.intE, k _ H' s t (.int _)⟩
end
end Q

set_option maxHeartbeats 4000000
namespace Q
open PySem L2
section
variable {r : EvR} {X : Cx} {W : Wd} {Wx : WX} {c : Cz}
theorem evE_ok (R : RE r) (a : Agr X W c) (tk : Takes X Wx) (e : Expr) : PE X e (tQ X W Wx (evE r c e)) := by
  unfold evE
  split
  · exact evName_ok a
  · split
    · exact qe_int
    · exact qe_bl
    · exact qe_non
    · exact qe_str
    · exact qe_bad
  · split
    · rename_i h
      exact qe_tup (evA_ok R a tk _) h
    · exact qe_bad
  · exact qe_lst (evA_ok R a tk _)
  · exact qe_bin (R.E X W Wx c a tk _) (R.E X W Wx c a tk _)
  · split
    · exact qe_notT (R.E X W Wx c a tk _)
    · exact qe_neg (R.E X W Wx c a tk _)
    · exact qe_bad
  · exact evBo_ok R a tk _
  · exact qe_if (R.T X W Wx c a tk _) (R.E X W Wx c a tk _) (R.E X W Wx c a tk _)
  · split
    · exact qe_bad
    · rename_i h
      exact qe_cmp a.hu (R.E X W Wx c a tk _) (R.E X W Wx c a tk _) (by simpa using h)
  · split
    · exact qe_bad
    · rename_i h
      exact qe_chain a.hu (R.E X W Wx c a tk _) (R.E X W Wx c a tk _) (R.E X W Wx c a tk _) (by simpa using h)
  · exact qe_slice (R.E X W Wx c a tk _) (evO_ok R a tk _) (evO_ok R a tk _)
  · split
    · rename_i h
      exact qe_back h (R.E X W Wx c a tk _)
    · exact qe_bad
  · split
    · rename_i kvs hd
      split
      · rename_i h
        exact qe_dix (by have := a.hu; omega) hd h.1 h.2.1 (R.E X W Wx c a tk _) (plainI_ok h.2.2)
      · exact qe_bad
    · exact qe_bad
  · split
    · rename_i h
      exact qe_ix (R.E X W Wx c a tk _) (R.E X W Wx c a tk _) (plainI_ok h)
    · exact qe_bad
  · exact evCall_ok R a tk
  · split
    · rename_i h
      obtain ⟨hx, hk, hb, hs⟩ := h
      subst hx hk
      obtain ⟨hg, hm⟩ := isBlt_ok a hb
      exact qe_maxDef a.calm a.hu hg hm (R.E X W Wx c a tk _) (R.E X W Wx c a tk _) hs
    · exact qe_bad
  · exact evLc_ok R a tk
  · exact evDc_ok R a tk
  · exact qe_dict0
  · exact qe_bad
theorem evT_ok (R : RE r) (a : Agr X W c) (tk : Takes X Wx) (e : Expr) : PT X e (tQT X W Wx (evT r c e)) := by
  unfold evT
  split
  · exact qt_not (R.T X W Wx c a tk _)
  · exact (evBT_ok R a tk _).pt
  · split
    · exact qt_bad
    · rename_i h
      exact qt_cmp a.hu (R.E X W Wx c a tk _) (R.E X W Wx c a tk _) (by simpa using h)
  · split
    · exact qt_bad
    · rename_i h
      exact qt_chain a.hu (R.E X W Wx c a tk _) (R.E X W Wx c a tk _) (R.E X W Wx c a tk _) (by simpa using h)
  · split
    · rename_i h
      exact qt_tru (R.E X W Wx c a tk _) (plainT_ok h)
    · exact qt_bad
theorem tupD {e : Expr} (h : isTupD e = true) : ∃ es k p, e = .Tuple es k p := by
  cases e <;> first | cases h | skip
  exact ⟨_, _, _, rfl⟩
theorem evI_ok (R : RE r) (a : Agr X W c) (tk : Takes X Wx) (tg e : Expr) : PI X tg e (tQI X W Wx (evI r c tg e)) := by
  unfold evI
  split
  · rename_i f p args pos
    split
    · rename_i hb
      obtain ⟨hg, hm⟩ := isBlt_ok a hb
      split
      · rename_i ar
        split
        · exact qi_bad
        · rename_i hs
          have hs : isStar ar = false := by simpa using hs
          split
          · rename_i ef
            subst ef
            exact qi_range1 hg hm (evA_ok R a tk _) (star_cons hs)
          · split
            · rename_i ef
              obtain ⟨ef, et⟩ := ef
              subst ef
              obtain ⟨es, k, p', rfl⟩ := tupD et
              exact qi_enum2 hg hm (evA_ok R a tk _) (star_cons hs)
            · split
              · rename_i ef
                subst ef
                exact qi_rev hg hm (R.E X W Wx c a tk _) (star_cons hs)
              · exact qi_seq (R.E X W Wx c a tk _)
      · rename_i ar br
        split
        · exact qi_bad
        · rename_i hs
          have hs : isStar ar = false ∧ isStar br = false := by simpa using hs
          have e2 : starEach [br] X.env = [(false, eval br X.env)] := star_cons hs.2
          have e1 : starEach [ar, br] X.env = [(false, eval ar X.env), (false, eval br X.env)] := by rw [star_cons hs.1, e2]
          split
          · rename_i ef
            subst ef
            exact qi_range2 hg hm (evA_ok R a tk _) e1 e2
          · split
            · rename_i ef
              obtain ⟨ef, et⟩ := ef
              subst ef
              obtain ⟨es, k, p', rfl⟩ := tupD et
              refine qi_zip hg hm (evA_ok R a tk _) (star_cons hs.1) (star_none ?_)
              simp [hs.2]
            · exact qi_seq (R.E X W Wx c a tk _)
      · rename_i ar br dr
        split
        · exact qi_bad
        · rename_i hs
          have hs : (isStar ar = false ∧ isStar br = false) ∧ isStar dr = false := by simpa using hs
          split
          · rename_i ef
            obtain ⟨ef, et⟩ := ef
            subst ef
            obtain ⟨es, k, p', rfl⟩ := tupD et
            refine qi_zip3 hg hm (evA_ok R a tk _) (star_cons hs.1.1) (star_none ?_)
            simp [hs.1.2, hs.2]
          · exact qi_seq (R.E X W Wx c a tk _)
      · exact qi_seq (R.E X W Wx c a tk _)
    · exact qi_seq (R.E X W Wx c a tk _)
  · exact qi_seq (R.E X W Wx c a tk _)
end

/-- an expression that a name takes -/
def evN (r : EvR) (c : Cz) : Expr → Rho → M Nv
  | .List es _ => fun ρ => do let ds ← evA r c es ρ; need (decide (ds.length ≤ line)); pure (.inl ds)
  | .ListComp elt [⟨tg, iter, ifs, 0⟩] scope _ => if blkB c scope && !isSetD iter then
      listN (r.I c tg iter) ((ownOf c.N scope).map (·.2)) (evG (blkCz c scope) ((ownOf c.N scope).map (·.2)) 4 tg) (evTs r (blkCz c scope) ifs) (r.E (blkCz c scope) elt)
    else fun _ => bad
  | .BinOp a .Add b _ => fun ρ => do let x ← r.E c a ρ; let y ← r.E c b ρ; get? (addN x y)
  | .BinOp (.List es _) .Mult b _ => repN (evA r c es) (r.E c b)
  | .IfExp t a b _ => fun ρ => do let z ← r.T c t ρ; if z then r.N c a ρ else r.N c b ρ
  | e => fun ρ => do let d ← evE r c e ρ; pure (.inr d)
theorem evN_ok {r : EvR} {X : Cx} {W : Wd} {Wx : WX} {c : Cz} (R : RE r) (a : Agr X W c) (tk : Takes X Wx) (e : Expr) : PE X e (tQN X W Wx (evN r c e)) := by
  unfold evN
  split
  · exact qn_lst (evA_ok R a tk _)
  · split
    · rename_i h
      rw [Bool.and_eq_true, Bool.not_eq_true'] at h
      exact qn_lc a.calm (a.nm ▸ a.nd) (R.I X W Wx c a tk _ _) (blkOk_by (by rw [a.nm, a.sc]; exact h.1)) (fun s H C cl fp => evG_ok (a.blk s H _ C cl fp) _ _ _) (fun s H C cl fp => evTs_ok R (a.blk s H _ C cl fp) LamX.takes0 _) (fun s H C cl fp => R.E _ _ _ _ (a.blk s H _ C cl fp) LamX.takes0 _) (notSet_fold h.2)
    · exact qn_bad
  · exact qn_add (R.E X W Wx c a tk _) (R.E X W Wx c a tk _)
  · exact qn_rep (evA_ok R a tk _) (R.E X W Wx c a tk _)
  · exact qn_if (R.T X W Wx c a tk _) (R.N X W Wx c a tk _) (R.N X W Wx c a tk _)
  · exact qn_any (evE_ok R a tk _)
/-! ### statements by their text -/
/-- the names in an expression -/
def nmE : Nat → Expr → List Str
  | 0, _ => []
  | n + 1, e => match e with
    | .Name x _ => [x]
    | .BoolOp _ vs _ => vs.flatMap (nmE n)
    | .BinOp a _ b _ => nmE n a ++ nmE n b
    | .UnaryOp _ a _ => nmE n a
    | .IfExp a b d _ => nmE n a ++ nmE n b ++ nmE n d
    | .Compare a _ bs _ => nmE n a ++ bs.flatMap (nmE n)
    | .Call f args _ _ => nmE n f ++ args.flatMap (nmE n)
    | .Attribute a _ _ => nmE n a
    | .Subscript a b _ => nmE n a ++ nmE n b
    | .List es _ => es.flatMap (nmE n)
    | .Tuple es _ _ => es.flatMap (nmE n)
    | .Set es _ _ => es.flatMap (nmE n)
    | .ListComp a gs _ _ => nmE n a ++ gs.flatMap fun g => nmE n g.iter ++ g.ifs.flatMap (nmE n)
    | .DictComp a b gs _ _ => nmE n a ++ nmE n b ++ gs.flatMap fun g => nmE n g.iter ++ g.ifs.flatMap (nmE n)
    | .Slice a b d _ => (a.toList ++ b.toList ++ d.toList).flatMap (nmE n)
    | .Lambda _ a _ _ => nmE n a
    | _ => []
def sl (c : Cz) (e : Expr) : List Nat := (nmE 40 e).filterMap (idx c.N)
def swB (sc : Scope) (t : Str) (pl vl : Nat) (scope : Scope) : Bool := (if sc.kind.isAnnotationScope then ScopeKind.function else sc.kind) == .function && sc.names.lookup t == some .local && pl == vl && !(scope.names.any fun (n, k) => n == t && (k == .local || k == .cell))
/-- what a clause's suite makes of an error's field -/
def runSuite (c : Cz) (n f : Str) (fs : List (Str × PyData)) : List Stmt → Option Fw
  | [.Return (some e) _] => if (usesF n 10 e).all (fun g => decide (g = f)) then (evU n fs 10 e).map .rt else none
  | [.Assign [.Name x _] e _] => if locB c x && decide (x ≠ n) && !isComp e && (usesF n 10 e).all (fun g => decide (g = f)) then (match idx c.N x with
      | some j => (evU n fs 10 e).map fun d => .nx ((List.replicate c.N.length none).set j (some (.dat d)))
      | none => none) else none
  | _ => none
def okClause (c : Cz) (n : Str) : ExceptHandler → Bool
  | .ExceptHandler (some (.Name h _)) (some n') suite _ => decide (n' = n) && kindIs c.sc h .globalImplicit && okN h && (match c.G h with | some (.err _) => true | _ => false) && (match suite with | [.Return (some _) _] => true | [.Assign [.Name _ _] _ _] => true | _ => false)
  | _ => false
def catchM (c : Cz) (n : Str) : List ExceptHandler → Str → List (Str × PyData) → M Fw
  | [], c0, fs => throw c0 fs
  | .ExceptHandler (some (.Name h _)) _ suite _ :: more, c0, fs => (match c.mt c0 h with
    | some true => (match c.G c0 with
      | some (.err f) => get? (runSuite c n f fs suite)
      | _ => bad)
    | some false => catchM c n more c0 fs
    | none => bad)
  | _ :: _, _, _ => bad
def tryM (fb : Rho → M Fw) (k : Str → List (Str × PyData) → M Fw) : Rho → M Fw := fun ρ o => match fb ρ o with
  | .ok a o' => .ok a o'
  | .exn c fs o' => k c fs o'
  | .bad => .bad
section
variable (r : EvR)
def evSs (c : Cz) : List Stmt → Rho → M Fw
  | [] => fun ρ => pure (.nx ρ)
  | s :: rest => seqS (r.S c s) (evSs c rest)
def evAsg (c : Cz) (x : Str) (pxl : Nat) (pos : Pos) : Expr → Rho → M Fw
  | .ListComp elt [⟨tg, iter, ifs, 0⟩] scope p => if locB c x then match idx c.N x with
      | some i => if swB c.sc x pxl p.line scope then
          (if blkB c scope && !isSetD iter then
            asgN (sl c (.ListComp elt [⟨tg, iter, ifs, 0⟩] scope p)) (listN (r.I c tg iter) ((ownOf c.N scope).map (·.2)) (evG (blkCz c scope) ((ownOf c.N scope).map (·.2)) 4 tg) (evTs r (blkCz c scope) ifs) (r.E (blkCz c scope) elt)) i
          else fun _ => bad)
        else asgN (sl c (.ListComp elt [⟨tg, iter, ifs, 0⟩] scope p)) (r.N c (.ListComp elt [⟨tg, iter, ifs, 0⟩] scope p)) i
      | none => fun _ => bad
    else fun _ => bad
  | .DictComp kx vx [⟨tg, iter, ifs, 0⟩] scope p => if locB c x then match idx c.N x with
      | some i => if swB c.sc x pxl p.line scope then
          (if blkB c scope && !isSetD iter then
            asgN (sl c (.DictComp kx vx [⟨tg, iter, ifs, 0⟩] scope p)) (fun ρ => do let d ← dictM (r.I c tg iter) ((ownOf c.N scope).map (·.2)) (evG (blkCz c scope) ((ownOf c.N scope).map (·.2)) 4 tg) (evTs r (blkCz c scope) ifs) (r.E (blkCz c scope) kx) (r.E (blkCz c scope) vx) ρ; pure (.inr d)) i
          else fun _ => bad)
        else asgN (sl c (.DictComp kx vx [⟨tg, iter, ifs, 0⟩] scope p)) (r.N c (.DictComp kx vx [⟨tg, iter, ifs, 0⟩] scope p)) i
      | none => fun _ => bad
    else fun _ => bad
  | e => if locB c x && !isComp e then match idx c.N x with
      | some i => asgN (sl c e) (r.N c e) i
      | none => fun _ => bad
    else fun _ => bad
def evS (c : Cz) : Stmt → Rho → M Fw
  | .Return (some e) _ => retM (sl c e) (r.E c e)
  | .If t a b _ => ifM (sl c t) (r.T c t) (evSs r c a) (evSs r c b)
  | .For tg iter body [] _ => if isSetD iter then fun _ => bad else loopM (sl c iter) (r.I c tg iter) (evG c (List.range c.N.length) 4 tg) (evSs r c body)
  | .While t body [] _ => whileM (sl c t) (r.T c t) (evSs r c body) 1000
  | .AugAssign (.Name x _) op e _ => if locB c x then (match idx c.N x, opI op with
      | some i, some h => augM (sl c e) i h (r.E c e)
      | _, _ => fun _ => bad)
    else fun _ => bad
  | .Assign [.Name x px] e pos => evAsg r c x px.line pos e
  | .Assign [.Tuple [.Name x px, .Name y py] kt pt] (.Tuple [a, b] k2 pt2) _ => if parB c.sc x y px py a b then (match idx c.N x, idx c.N y with
      | some i, some j => if i ≠ j then parM (sl c (.Tuple [a, b] k2 pt2)) (r.N c a) (r.N c b) i j else fun _ => bad
      | _, _ => fun _ => bad)
    else if unlB c.sc x y then asgM (sl c (.Tuple [a, b] k2 pt2)) (r.E c (.Tuple [a, b] k2 pt2)) (evG c (List.range c.N.length) 4 (.Tuple [.Name x px, .Name y py] kt pt)) else fun _ => bad
  | .Assign [.Tuple [.Name x px, .Name y py, .Name z pz] _ _] (.Tuple [.List [] _, .List [] _, .List [] _] _ _) _ => if triB c.sc x y z px py pz then (match idx c.N x, idx c.N y, idx c.N z with
      | some i, some j, some l => if i ≠ j ∧ i ≠ l ∧ j ≠ l then new3M i j l else fun _ => bad
      | _, _, _ => fun _ => bad)
    else fun _ => bad
  | .Assign [.Subscript (.Name x px) b pb] e _ => if okN x && visB c.sc x && plainI b && !isComp e && !isTupD e then match idx c.N x with
      | some i => storeM i (sl c e) (sl c b) (r.E c e) (r.E c b)
      | none => fun _ => bad
    else fun _ => bad
  | .Assign [.Tuple ts k p] e _ => if isComp e || isTupD e then fun _ => bad else asgM (sl c e) (r.E c e) (evG c (List.range c.N.length) 4 (.Tuple ts k p))
  | .Expr (.Call (.Attribute (.Name x px) m ap) [e] [] cp) _ => if m = "append" ∧ okN x = true ∧ visB c.sc x = true ∧ isStar e = false ∧ ap.endLine = cp.line then match idx c.N x with
      | some i => appM i (sl c e) (r.E c e)
      | none => fun _ => bad
    else if m = "extend" ∧ okN x = true ∧ visB c.sc x = true ∧ isStar e = false ∧ ap.endLine = cp.line then match idx c.N x with
      | some i => extM i (sl c e) (r.N c e)
      | none => fun _ => bad
    else fun _ => bad
  | .Expr e _ => if isComp e then fun _ => bad else dropM (sl c e) (r.E c e)
  | .Raise (some (.Call (.Name x _) [e] [] _)) none _ => if okN x && kindIs c.sc x .globalImplicit && !isStar e then match c.G x with
      | some (.err f) => raiseM (sl c e) x f (r.E c e)
      | _ => fun _ => bad
    else fun _ => bad
  | .Try body (.ExceptHandler t (some n) b p :: hds) [] [] _ => if okN n && kindIs c.sc n .local && (.ExceptHandler t (some n) b p :: hds).all (okClause c n) then match idx c.N n with
      | some _ => tryM (evSs r c body) (catchM c n (.ExceptHandler t (some n) b p :: hds))
      | none => fun _ => bad
    else fun _ => bad
  | .Pass _ => fun ρ => pure (.nx ρ)
  | .Break _ => fun ρ => pure (.bk ρ)
  | .Continue _ => fun ρ => pure (.ct ρ)
  | _ => fun _ => bad
def evStep : EvR := ⟨evE r, evN r, evT r, evI r, evS r⟩
end
/-- the runs by text, with so much to go down -/
def ev : Nat → EvR
  | 0 => badR
  | n + 1 => evStep (ev n)
theorem ev_RE : ∀ n, RE (ev n)
  | 0 => badR_ok
  | n + 1 => ⟨fun X W Wx c a tk e => evE_ok (ev_RE n) a tk e, fun X W Wx c a tk e => evN_ok (ev_RE n) a tk e, fun X W Wx c a tk e => evT_ok (ev_RE n) a tk e, fun X W Wx c a tk tg e => evI_ok (ev_RE n) a tk tg e⟩
end Q

set_option maxHeartbeats 4000000
namespace Q
open PySem L2
structure Pass (X : Cx) : Prop where
  own : PassesOwn (model X.prog X.w) X.A X.env X.xe
  st : X.stack = X.env :: X.outer
  fr : X.env.frame = some X.env.locals
structure RS (r : EvR) : Prop extends RE r where
  S : ∀ (X : Cx) (W : Wd) (Wx : WX) (c : Cz), Agr X W c → Takes X Wx → Pass X → ∀ s, PS X s (tQS X W Wx (r.S c s))
section
variable {r : EvR} {X : Cx} {W : Wd} {Wx : WX} {c : Cz}
theorem swB_ok (a : Agr X W c) {x : Str} {px : Pos} {elt : Expr} {gs : List Comprehension} {scope : Scope} {p : Pos} {n : Nat} : swapsWith (.ListComp elt gs scope p) (some (.Name x px)) n X.env = pure (swB c.sc x px.line p.line scope) := by
  have e : X.env.scope = c.sc := a.sc
  unfold swapsWith swB Env.blockKind Env.kindOf
  rw [e]
  rfl
theorem swD_ok (a : Agr X W c) {x : Str} {px : Pos} {kx vx : Expr} {gs : List Comprehension} {scope : Scope} {p : Pos} {n : Nat} : swapsWith (.DictComp kx vx gs scope p) (some (.Name x px)) n X.env = pure (swB c.sc x px.line p.line scope) := by
  have e : X.env.scope = c.sc := a.sc
  unfold swapsWith swB Env.blockKind Env.kindOf
  rw [e]
  rfl
theorem tup_swap {e : Expr} {ts : List Expr} {k : Nat} {p : Pos} {n : Nat} {env : Env} (h : isComp e = false) : swapsWithSole [.Tuple ts k p] e n env = pure false := by
  cases e <;> first | rfl | cases h
theorem asg_sub {a b : Expr} {p : Pos} {env : Env} (h : plainI b = true) : ∀ v, assign (.Subscript a b p) env v = (do
      let ov ← holding [v] (eval a env)
      let iv ← holding [v, ov] (eval b env)
      standAt p
      holding [v, ov, iv] (setItem ov iv v)
      release [v, ov, iv] []) := by
  intro v
  cases b <;> first | rfl | cases h
theorem sub_swap {e a b : Expr} {p : Pos} {n : Nat} {env : Env} (h : isComp e = false) : swapsWithSole [.Subscript a b p] e n env = pure false := by
  cases e <;> first | rfl | cases h
theorem sub_stores {e a b : Expr} {p : Pos} {env : Env} (h : isTupD e = false) : swappedStores [.Subscript a b p] e env = pure none := by
  cases e <;> first | rfl | cases h
theorem tup_stores {e : Expr} {ts : List Expr} {k : Nat} {p : Pos} {env : Env} (h : isTupD e = false) : swappedStores [.Tuple ts k p] e env = pure none := by
  cases e <;> first | rfl | cases h
theorem evSs_ok (R : RS r) (a : Agr X W c) (tk : Takes X Wx) (hp : Pass X) : ∀ ss, PSs X ss (tQS X W Wx (evSs r c ss))
  | [] => qss_nil
  | s :: ss => qss_cons (R.S X W Wx c a tk hp s) (evSs_ok R a tk hp ss)
theorem evAsg_ok (R : RS r) (a : Agr X W c) (tk : Takes X Wx) {x : Str} {px pos : Pos} (e : Expr) : PS X (.Assign [.Name x px] e pos) (tQS X W Wx (evAsg r c x px.line pos e)) := by
  have nd : X.N.Nodup := a.nm ▸ a.nd
  unfold evAsg
  split
  · split
    · rename_i h
      split
      · rename_i i hi
        split
        · rename_i hsw
          split
          · rename_i hb
            rw [Bool.and_eq_true, Bool.not_eq_true'] at hb
            have hyl : X.env.scope.names.lookup x = some .local := by
              rw [a.sc]
              unfold swB at hsw
              simp only [Bool.and_eq_true, beq_iff_eq] at hsw
              exact hsw.1.1.2
            exact qs_setLcN _ a.calm nd (a.ix hi) hyl (by rw [swB_ok a, hsw]) (R.I X W Wx c a tk _ _) (blkOk_by (by rw [a.nm, a.sc]; exact hb.1)) (fun s H C cl fp => evG_ok (a.blk s H _ C cl fp) _ _ _) (fun s H C cl fp => evTs_ok R.toRE (a.blk s H _ C cl fp) LamX.takes0 _) (fun s H C cl fp => R.E _ _ _ _ (a.blk s H _ C cl fp) LamX.takes0 _) (notSet_fold hb.2)
          · exact qs_bad
        · rename_i hsw
          exact qs_setN _ nd (a.ix hi) (a.loc h).1 (R.N X W Wx c a tk _) (by rw [swB_ok a]; simp [hsw]) (a.loc h).2
      · exact qs_bad
    · exact qs_bad
  · split
    · rename_i h
      split
      · rename_i i hi
        split
        · rename_i hsw
          split
          · rename_i hb
            rw [Bool.and_eq_true, Bool.not_eq_true'] at hb
            have hyl : X.env.scope.names.lookup x = some .local := by
              rw [a.sc]
              unfold swB at hsw
              simp only [Bool.and_eq_true, beq_iff_eq] at hsw
              exact hsw.1.1.2
            exact qs_setDc _ a.calm nd (by have := a.hu; omega) (a.ix hi) hyl (by rw [swD_ok a, hsw]) (R.I X W Wx c a tk _ _) (blkOk_by (by rw [a.nm, a.sc]; exact hb.1)) (fun s H C cl fp => evG_ok (a.blk s H _ C cl fp) _ _ _) (fun s H C cl fp => evTs_ok R.toRE (a.blk s H _ C cl fp) LamX.takes0 _) (fun s H C cl fp => R.E _ _ _ _ (a.blk s H _ C cl fp) LamX.takes0 _) (fun s H C cl fp => R.E _ _ _ _ (a.blk s H _ C cl fp) LamX.takes0 _) (notSet_fold hb.2)
          · exact qs_bad
        · rename_i hsw
          exact qs_setN _ nd (a.ix hi) (a.loc h).1 (R.N X W Wx c a tk _) (by rw [swD_ok a]; simp [hsw]) (a.loc h).2
      · exact qs_bad
    · exact qs_bad
  · split
    · rename_i h
      rw [Bool.and_eq_true, Bool.not_eq_true'] at h
      split
      · rename_i i hi
        exact qs_setN _ nd (a.ix hi) (a.loc h.1).1 (R.N X W Wx c a tk _) (notComp_swap h.2) (a.loc h.1).2
      · exact qs_bad
    · exact qs_bad
theorem Agr.tr (a : Agr X W c) (pn : List (Addr × Obj)) (xe : Value → Shared → Prop) : Agr (X.tr pn xe) W c :=
  ⟨a.nm, a.nd, a.sc, a.fn, a.calm, a.gd, a.rm, a.two, a.jk, a.gl, fun x F h => a.lo x F h, a.tab, a.mt⟩
/-- what is wished of a clause -/
def tCl (X : Cx) (W : Wd) (c : Cz) (n : Str) (i : Nat) (suite : List Stmt) : Addr → Value → Option Addr → TS := fun a cls d D σ H => ∃ C dd f fs fl, cls = .ref C ∧ d = some dd ∧ XfC X.K C ∧ PySem.W.findIn X.K (.ref C) f = some none ∧ (i < σ.length → Took X W i a C dd fs σ H) ∧
  runSuite c n f fs suite = some fl ∧ match fl with
    | .rt d0 => ∀ v H', Same H H' → Dt X.K W.b H' d0 v → D.rt v H'
    | .nx ρ => ∀ j d0, j < c.N.length → ρ = (List.replicate c.N.length none).set j (some (.dat d0)) → ∀ v H', Same H H' → Dt X.K W.b H' d0 v → σ.length = c.N.length → D.nx (σ.set j (some v)) H'
    | _ => False
theorem uses_all {n f : Str} {k : Nat} {e : Expr} {K : PySem.W.Frag} {C : Addr} (h : (usesF n k e).all (fun g => decide (g = f)) = true) (hn : PySem.W.findIn K (.ref C) f = some none) : ∀ g ∈ usesF n k e, PySem.W.findIn K (.ref C) g = some none := fun g hg => by
  have := List.all_eq_true.mp h g hg
  rw [of_decide_eq_true this]; exact hn
theorem clause_ok (a : Agr X W c) {n : Str} {i : Nat} (hi : X.N[i]? = some n) (hok : okN n = true) (hv : X.env.scope.names.lookup n = some .local) {suite : List Stmt} {s₀ : Stmt} {ss : List Stmt} (es : suite = s₀ :: ss) (aa : Addr) (oe : Obj) (cls : Value) (d : Option Addr) (pn : List (Addr × Obj)) (hz : Zc cls d oe) (hf : ∃ vs, oe.data = .fields vs) :
    PSs (X.suite aa ((aa, oe) :: pn)) (s₀ :: ss) (tCl X W c n i suite aa cls d) := by
  refine ⟨fun pins s σ H D I h => ?_⟩
  obtain ⟨C, dd, f, fs, fl, rfl, rfl, T, hno, took, hs, want⟩ := h
  have hil : i < σ.length := by rw [I.len]; exact (List.getElem?_eq_some_iff.mp hi).1
  have took := took hil
  have len : σ.length = c.N.length := I.len.trans (congrArg List.length a.nm)
  unfold runSuite at hs
  split at hs
  · rename_i e p
    split at hs
    · rename_i hu
      obtain ⟨d0, q1, q2⟩ := Option.map_eq_some_iff.mp hs
      subst q2
      cases es
      exact (pss_one (ps_ret (evU_ok a.hu (W := W) (dd := dd) (fs := fs) hi (.inl hv) hok T hz hf (fun _ => trivial) 10 e (uses_all hu hno)))).run pins s σ H D I ⟨took, d0, q1, fun v H' s' q => want v H' s' q⟩
    · cases hs
  · rename_i x px e p
    split at hs
    · rename_i hc
      simp only [Bool.and_eq_true, Bool.not_eq_true', decide_eq_true_eq] at hc
      obtain ⟨⟨⟨hl, hne⟩, hcomp⟩, hu⟩ := hc
      split at hs
      · rename_i j hj
        obtain ⟨d0, q1, q2⟩ := Option.map_eq_some_iff.mp hs
        subst q2
        cases es
        have hjl : j < c.N.length := (List.getElem?_eq_some_iff.mp (idx_ok hj)).1
        exact (pss_one (ps_set (X := X.suite aa ((aa, oe) :: pn)) (a.nm ▸ a.nd) (a.ix hj) (a.loc hl).1 (evU_ok a.hu (W := W) (dd := dd) (fs := fs) hi (.inl hv) hok T hz hf (fun _ => trivial) 10 e (uses_all hu hno)) (notComp_swap hcomp) (a.loc hl).2)).run pins s σ H D I ⟨took, d0, q1, fun v H' s' q => want j d0 hjl rfl v H' s' q len⟩
      · cases hs
    · cases hs
  · cases hs
theorem clauses_ok (a : Agr X W c) {n : Str} {i : Nat} (hi : X.N[i]? = some n) (hok : okN n = true) (hv : X.env.scope.names.lookup n = some .local) {xo : Addr → Prop} {H : Hp} {ρ : Rho} {ω : Om} {σ : L2.St} (g : Good X.K W xo H σ ρ ω) (D : Ends) : ∀ (hds : List ExceptHandler), hds.all (okClause c n) = true → ∃ l, Clauses X n hds l ∧
    ∀ c0 fs o, RunP (catchM c n hds c0 fs o) (FlP X W xo H D) (ExS X W Wx xo H) → ExS X W (wClauses X.K i Wx D l) xo H c0 fs o
  | [], _ => ⟨[], .nil, fun c0 fs o h => h⟩
  | hd :: hds, hc => by
    simp only [List.all_cons, Bool.and_eq_true] at hc
    obtain ⟨hc1, hc2⟩ := hc
    obtain ⟨l, cl, ih⟩ := clauses_ok a hi hok hv g D hds (by simpa using hc2)
    unfold okClause at hc1
    split at hc1
    · rename_i h hp n' suite p
      simp only [Bool.and_eq_true, decide_eq_true_eq] at hc1
      obtain ⟨⟨⟨⟨rfl, k1⟩, k2⟩, k3⟩, k4⟩ := hc1
      split at k3
      · rename_i f hf
        obtain ⟨C2, Er, T2⟩ := a.gl _ _ hf
        obtain ⟨n1, n2, n3⟩ := okN_ok k2
        obtain ⟨s₀, ss, es⟩ : ∃ s₀ ss, suite = s₀ :: ss := by
          cases suite with
          | nil => cases k4
          | cons s₀ ss => exact ⟨s₀, ss, rfl⟩
        refine ⟨(.ref C2, tCl X W c n' i suite) :: l, ?_, fun c0 fs o hr => ?_⟩
        · rw [es]
          exact .cons ⟨a.glob k1, n1, .inl Er.gC⟩ (fun aa oe cls d pn hz hf => by rw [← es]; exact es ▸ clause_ok a hi hok hv es aa oe cls d pn hz hf) cl
        · intro cls dd σ' H' xo' hx ev st
          obtain ⟨⟨C1, ecls, m1⟩, flds⟩ := id hx
          subst ecls
          have e0 : catchM c n' (.ExceptHandler (some (.Name h hp)) (some n') suite p :: hds) c0 fs = (match c.mt c0 h with
            | some true => (match c.G c0 with | some (.err f) => get? (runSuite c n' f fs suite) | _ => bad)
            | some false => catchM c n' hds c0 fs
            | none => bad) := rfl
          rw [e0] at hr
          cases hm : c.mt c0 h with
          | none => rw [hm] at hr; exact hr.elim
          | some b =>
            have hex := a.mt c0 h b C1 C2 hm m1 Er.gC
            rw [hm] at hr
            cases b with
            | false => exact ⟨false, hex, (fun z => nomatch z), fun _ => ih c0 fs o hr _ dd σ' H' xo' hx ev st⟩
            | true =>
              refine ⟨true, hex, fun _ aa haa => ?_, fun z => nomatch z⟩
              cases hg : c.G c0 with
              | none => rw [hg] at hr; exact hr.elim
              | some gk =>
                rw [hg] at hr
                cases gk with
                | blt => exact hr.elim
                | con d => exact hr.elim
                | fn F => exact hr.elim
                | hof F => exact hr.elim
                | err f1 =>
                  obtain ⟨C1', Er1, T1⟩ := a.gl _ _ hg
                  have ec : C1' = C1 := by
                    have := Er1.gC
                    rw [m1] at this
                    exact (Value.ref.inj (Option.some.inj this)).symm
                  subst ec
                  obtain ⟨fl, hfl, hk⟩ := RunP.get hr
                  have trb : ∀ a, W.b a → H' a ≠ none := fun a h z => g.tr a (g.sub a h) (ev.new a z)
                  have evb : Ev W xo H W.b H' := ⟨ev.keep, ev.new, fun a z => .inl (g.sub a z)⟩
                  refine ⟨C1', dd, f1, fs, fl, rfl, rfl, T1, Er1.no, fun hl => ⟨List.getElem?_set_self (by simpa using hl), flds, trb⟩, hfl, ?_⟩
                  cases fl with
                  | rt d0 => exact fun v H2 s2 q2 => hk v H2 xo' (ev.trans ((Step.of_same s2).ev Grown.refl)) (St.same st s2) q2
                  | nx ρ' =>
                    intro j d0 hjl eρ v H2 s2 q2 hlen
                    have ev2 : Ev W xo H W.b H2 := evb.trans ((Step.of_same s2).ev Grown.refl)
                    show D.nx _ H2
                    refine hk _ H2 W.b ev2 ⟨fun k e q => ?_, St.same st s2, g.eb, fun _ z => z, fun a h z => trb a h (s2.free z), ⟨(g.ev.trans ev2).keep, (g.ev.trans ev2).new, fun a z => .inl z⟩, fun k1 k2 ds us v h1 _ _ _ => ?_⟩
                    · rw [eρ] at q
                      by_cases hjk : j = k
                      · subst hjk
                        rw [List.getElem?_set_self (by simpa using hjl)] at q
                        cases q
                        have hij : i ≠ j := by
                          intro z
                          -- the clause's own name is not written by its suite
                          exact absurd hfl (by
                            intro hfl
                            have hfl' := hfl
                            unfold runSuite at hfl'
                            split at hfl'
                            · split at hfl'
                              · obtain ⟨_, _, q⟩ := Option.map_eq_some_iff.mp hfl'
                                cases q
                              · cases hfl'
                            · rename_i x px e p
                              split at hfl'
                              · rename_i hcc
                                simp only [Bool.and_eq_true, Bool.not_eq_true', decide_eq_true_eq] at hcc
                                split at hfl'
                                · rename_i j' hj'
                                  obtain ⟨d1, _, q⟩ := Option.map_eq_some_iff.mp hfl'
                                  have q3 : (List.replicate c.N.length none : Rho).set j' (some (.dat d1)) = (List.replicate c.N.length none : Rho).set j (some (.dat d0)) := (Fw.nx.inj q).trans eρ
                                  have hjl' : j' < c.N.length := (List.getElem?_eq_some_iff.mp (idx_ok hj')).1
                                  have ejj : j' = j := by
                                    by_cases w : j' = j
                                    · exact w
                                    · exfalso
                                      have z1 := congrArg (fun l : Rho => l[j']?) q3
                                      simp only [List.getElem?_set_self (show j' < (List.replicate c.N.length none : Rho).length by simpa using hjl'), List.getElem?_set_ne (Ne.symm w), List.getElem?_replicate, hjl', if_true] at z1
                                      cases z1
                                  rw [ejj, ← z] at hj'
                                  have nn := idx_ok hj'
                                  rw [← a.nm, hi] at nn
                                  exact hcc.1.1.2 (Option.some.inj nn).symm
                                · cases hfl'
                              · cases hfl'
                            · cases hfl')
                        exact ⟨v, by rw [List.getElem?_set_ne hij, List.getElem?_set_self (by rw [hlen]; exact hjl)], q2⟩
                      · rw [List.getElem?_set_ne hjk, List.getElem?_replicate] at q
                        split at q <;> cases q
                    · rw [eρ] at h1
                      by_cases hjk : j = k1
                      · subst hjk
                        rw [List.getElem?_set_self (by simpa using hjl)] at h1
                        cases h1
                      · rw [List.getElem?_set_ne hjk, List.getElem?_replicate] at h1
                        split at h1 <;> cases h1
                  | bk ρ' =>
                    exfalso
                    unfold runSuite at hfl
                    split at hfl
                    · split at hfl
                      · obtain ⟨_, _, q⟩ := Option.map_eq_some_iff.mp hfl; cases q
                      · cases hfl
                    · split at hfl
                      · split at hfl
                        · obtain ⟨_, _, q⟩ := Option.map_eq_some_iff.mp hfl; cases q
                        · cases hfl
                      · cases hfl
                    · cases hfl
                  | ct ρ' =>
                    exfalso
                    unfold runSuite at hfl
                    split at hfl
                    · split at hfl
                      · obtain ⟨_, _, q⟩ := Option.map_eq_some_iff.mp hfl; cases q
                      · cases hfl
                    · split at hfl
                      · split at hfl
                        · obtain ⟨_, _, q⟩ := Option.map_eq_some_iff.mp hfl; cases q
                        · cases hfl
                      · cases hfl
                    · cases hfl
      · cases k3
    · cases hc1
theorem try_ok (R : RS r) (a : Agr X W c) (tk : Takes X Wx) (hp : Pass X) {n : Str} {i : Nat} (hi : X.N[i]? = some n) (hok : okN n = true) (hv : X.env.scope.names.lookup n = some .local) {body : List Stmt} {h₀ : ExceptHandler} {hds : List ExceptHandler} {pos : Pos} (hall : (h₀ :: hds).all (okClause c n) = true) :
    PS X (.Try body (h₀ :: hds) [] [] pos) (tQS X W Wx (tryM (evSs r c body) (catchM c n (h₀ :: hds)))) := by
  refine ⟨fun pins s σ H D I h => ?_⟩
  obtain ⟨xo, ρ, ω, g, run⟩ := h
  obtain ⟨l, cl, key⟩ := clauses_ok (Wx := Wx) a hi hok hv g D (h₀ :: hds) hall
  refine (ps_tries hp.st hp.fr (a.nm ▸ a.nd) hi hv tk (tb := fun W' => tQS X W W' (evSs r c body)) (fun W' pn xe tk' po => evSs_ok R (a.tr pn xe) tk' ⟨po, hp.st, hp.fr⟩ body) cl).run pins s σ H D I ?_
  refine ⟨xo, ρ, ω, g, ?_⟩
  unfold tryM at run
  cases e : evSs r c body ρ ω with
  | ok fl o => rw [e] at run; exact run
  | exn c0 fs o => rw [e] at run; exact key c0 fs o run
  | bad => rw [e] at run; exact run.elim
theorem evS_ok (R : RS r) (a : Agr X W c) (tk : Takes X Wx) (hp : Pass X) (s : Stmt) : PS X s (tQS X W Wx (evS r c s)) := by
  unfold evS
  split
  · exact qs_ret _ (R.E X W Wx c a tk _)
  · exact qs_if _ (R.T X W Wx c a tk _) (evSs_ok R a tk hp _) (evSs_ok R a tk hp _)
  · split
    · exact qs_bad
    · rename_i h
      exact qs_for _ hp.own a.calm (R.I X W Wx c a tk _ _) (evG_ok a _ _ _) (evSs_ok R a tk hp _) (notSet_fold (by simpa using h))
  · exact qs_while _ _ hp.own (R.T X W Wx c a tk _) (evSs_ok R a tk hp _)
  · split
    · rename_i h
      split
      · rename_i i g hi hg
        exact qs_aug _ (a.nm ▸ a.nd) (a.ix hi) (a.loc h).1 (R.E X W Wx c a tk _) (opI_ok hg) (a.loc h).2
      · exact qs_bad
    · exact qs_bad
  · exact evAsg_ok R a tk _
  · split
    · rename_i h
      split
      · rename_i i j hi hj
        split
        · rename_i hij
          have h' := h
          unfold parB at h'
          simp only [Bool.and_eq_true, decide_eq_true_eq, Bool.not_eq_true'] at h'
          obtain ⟨⟨⟨⟨⟨⟨⟨⟨h1, h2⟩, h3⟩, h4⟩, h5⟩, h6⟩, h7⟩, h8⟩, h9⟩ := h'
          exact qs_par _ a.calm (a.nm ▸ a.nd) (a.ix hi) (a.ix hj) hij (by rw [a.sc]; exact kindIs_ok h2) (by rw [a.sc]; exact kindIs_ok h3) (R.N X W Wx c a tk _) (R.N X W Wx c a tk _) h6 h7 (parB_ok (by rw [a.sc]; exact h))
        · exact qs_bad
      · exact qs_bad
    · split
      · rename_i h
        exact qs_asg _ (R.E X W Wx c a tk _) (evG_ok a _ _ _) rfl (unlB_ok (by rw [a.sc]; exact h)) rfl
      · exact qs_bad
  · split
    · rename_i h
      split
      · rename_i i j l hi hj hl
        split
        · rename_i hd
          exact qs_new3 a.calm (a.nm ▸ a.nd) (a.ix hi) (a.ix hj) (a.ix hl) hd.1 hd.2.1 hd.2.2 (by rw [a.sc]; exact h)
        · exact qs_bad
      · exact qs_bad
    · exact qs_bad
  · split
    · rename_i h
      simp only [Bool.and_eq_true, Bool.not_eq_true'] at h
      obtain ⟨⟨⟨⟨h1, h2⟩, h3⟩, h4⟩, h5⟩ := h
      obtain ⟨n1, n2, n3⟩ := okN_ok h1
      split
      · rename_i i hi
        exact qs_store _ _ (a.ix hi) (a.vis h2) n1 n2 (R.E X W Wx c a tk _) (R.E X W Wx c a tk _) (asg_sub h3) (sub_swap h4) (sub_stores h5)
      · exact qs_bad
    · exact qs_bad
  · split
    · exact qs_bad
    · rename_i h
      simp only [Bool.or_eq_true, not_or, Bool.not_eq_true] at h
      exact qs_asg _ (R.E X W Wx c a tk _) (evG_ok a _ _ _) (tup_swap h.1) (tup_stores h.2) rfl
  · split
    · rename_i h
      obtain ⟨hm, h1, h2, h3, h4⟩ := h
      subst hm
      obtain ⟨n1, n2, n3⟩ := okN_ok h1
      split
      · rename_i i hi
        refine qs_app _ (a.ix hi) (a.vis h2) (R.E X W Wx c a tk _) (fun h5 h6 => ?_) (evA_one R.toRE a tk h3) (notComp_swap rfl) n1 n2
        refine pe_bm PySem.F.plainAttrs_list PySem.F.slot_list_append PySem.F.type_list_append mt_append h5 h6 rfl ?_ (by simpa using h4) (star_cons h3) (by rfl)
        rw [star_cons h3]
        rfl
      · exact qs_bad
    · split
      · rename_i h
        obtain ⟨hm, h1, h2, h3, h4⟩ := h
        subst hm
        obtain ⟨n1, n2, n3⟩ := okN_ok h1
        split
        · rename_i i hi
          refine qs_ext _ (a.ix hi) (a.vis h2) (R.N X W Wx c a tk _) (fun h5 h6 => ?_) (star_cons h3) (notComp_swap rfl) n1 n2
          refine pe_bm PySem.F.plainAttrs_list PySem.F.slot_list_extend PySem.F.type_list_extend mt_extend h5 h6 rfl ?_ (by simpa using h4) (star_cons h3) (by rfl)
          rw [star_cons h3]
          rfl
        · exact qs_bad
      · exact qs_bad
  · split
    · exact qs_bad
    · rename_i h
      exact qs_expr _ (R.E X W Wx c a tk _) (notComp_swap (by simpa using h))
  · split
    · rename_i h
      rw [Bool.and_eq_true, Bool.and_eq_true, Bool.not_eq_true'] at h
      obtain ⟨⟨h1, h2⟩, h3⟩ := h
      obtain ⟨n1, n2, n3⟩ := okN_ok h1
      split
      · rename_i f hf
        obtain ⟨C, Er, _⟩ := a.gl _ _ hf
        exact qs_raise1 _ a.calm (a.rm.mono a.two) Er tk (a.glob h2) (R.E X W Wx c a tk _) (evA_one R.toRE a tk h3) n1 (star_cons h3) rfl
      · exact qs_bad
    · exact qs_bad
  · split
    · rename_i h
      rw [Bool.and_eq_true, Bool.and_eq_true] at h
      split
      · rename_i i hi
        exact try_ok R a tk hp (a.ix hi) h.1.1 (by rw [a.sc]; exact kindIs_ok h.1.2) h.2
      · exact qs_bad
    · exact qs_bad
  · exact qs_pass
  · exact qs_break
  · exact qs_continue
  · exact qs_bad
where
  evA_one {r : EvR} {X : Cx} {W : Wd} {Wx : WX} {c : Cz} (R : RE r) (a : Agr X W c) (tk : Takes X Wx) {e : Expr} (h : isStar e = false) : PA X [e] (tQA X W Wx fun ρ => do let d ← r.E c e ρ; pure [d]) := qa_cons (R.E X W Wx c a tk e) qa_nil (star_cons h)
end
theorem badR_S : RS badR := ⟨badR_ok, fun _ _ _ _ _ _ _ _ => qs_bad⟩
theorem ev_RS : ∀ n, RS (ev n)
  | 0 => badR_S
  | n + 1 => ⟨ev_RE (n + 1), fun X W Wx c a tk hp s => evS_ok (ev_RS n) a tk hp s⟩
/-- a def's function, by its text -/
def defF (n : Nat) (c : Cz) (ar : Nat) (st : Stmt) : List Ent → M PyData := callM ar c.N.length (evSs (ev n) c (defBody st))
def defC (N : List Str) (st : Stmt) (j k : Nat) (G : Str → Option Gk) (tb : Option (Addr × Addr)) (mt : Str → Str → Option Bool) : Cz := ⟨N, defScope st, fun _ => true, j, k, G, fun _ => none, tb, mt⟩
def lamC (c : Cz) (a : Str) (F : List PyData → M PyData) : Cz := { c with L := fun x => if x = a then some F else none }
def hofF (n : Nat) (c : Cz) (ar : Nat) (a : Str) (st : Stmt) : (List PyData → M PyData) → List Ent → M PyData := callH ar c.N.length fun F => evSs (ev n) (lamC c a F) (defBody st)
theorem takes_def {P : Program} {w : World} {K : PySem.W.Frag} {mg : Str → Option Value} {base : Heap} {N : List Str} {qual : Str} {scope : Scope} {f : Addr} {cd : Value} {A : Around} {outer : List Env} {s : Shared} {H : Hp} {E : XK} :
    Takes (cxOf (L2.CX P w) P w K mg base N qual scope f cd A outer s H E) (fun cls d _ H => E cls d H) := takes_of rfl rfl rfl rfl
/-- what is known of a def's table of code -/
def TbOk (base : Heap) (mg : Str → Option Value) (T : List (Addr × Str)) (fd : FuncData) (qual : Str) (tb : Option (Addr × Addr)) : Prop := ∀ cc PP, tb = some (cc, PP) → fd.code = .ref cc ∧ LamX.TabB base mg cc PP ∧ (PP, qual ++ ".<locals>." ++ "<lambda>") ∈ T ∧ ∀ p ∈ T, p.1 = PP → p.2 = qual ++ ".<locals>." ++ "<lambda>"
section
variable {P : Program} {w : World} {K : PySem.W.Frag} {mg : Str → Option Value} {base : Heap} {T : List (Addr × Str)}
theorem def_ok (n : Nat) {x qual : Str} {st : Stmt} {f : Addr} {fd : FuncData} {N ps : List Str} {j k : Nat} {G : Str → Option Gk} {tb : Option (Addr × Addr)} {mt : Str → Str → Option Bool} (F : Fun K x qual st f fd) (S : FnScope N ps (defScope st))
    (h2 : 2 ≤ k) (hj : j ≤ k) (gl : ∀ x g, G x = some g → GOk P w K mg base T j k x g) (tab : TbOk base mg T fd qual tb) (hmt : ∀ c1 h b C1 C2, mt c1 h = some b → mg c1 = some (.ref C1) → mg h = some (.ref C2) → PySem.W.exmOne K (.ref C1) (.ref C2) = some b) : FnG P w K mg base (k + 1) f fd ps (spG K mg T ps.length (defF n (defC N st j k G tb mt) ps.length st)) :=
  fnG_ok F S fun cdv A outer s H E W hT hc hcd hr hg => by
    refine evSs_ok (ev_RS n) ⟨rfl, S.nd, rfl, fun _ _ => rfl, rfl, hg, hr, h2, hj, fun x g h => ?_, (fun x F z => nomatch (show (none : Option (List PyData → M PyData)) = some F from z)), fun cc PP z => ?_, hmt⟩ ?_ ?_ _
    · rw [hT]; exact gl x g h
    · obtain ⟨a1, a2, a3, a4⟩ := tab cc PP z
      refine ⟨hc.symm.trans a1, a2, ?_, ?_⟩
      · rw [hT]; exact a3
      · rw [hT]; exact a4
    · exact takes_def
    · exact ⟨passes_of rfl, rfl, rfl⟩
theorem hof_ok (n : Nat) {x qual a : Str} {st : Stmt} {g : Addr} {fd : FuncData} {N ps : List Str} {j k : Nat} {G : Str → Option Gk} {tb : Option (Addr × Addr)} {mt : Str → Str → Option Bool} (F : Fun K x qual st g fd) (S : FnScope N (ps ++ [a]) (defScope st))
    (gm : mg x = some (.ref g)) (kp : PySem.W.keepIn K (.ref g) = true) (bd : L2.Binds K fd (ps ++ [a]) [])
    (h2 : 2 ≤ k) (hj : j ≤ k) (gl : ∀ x g, G x = some g → GOk P w K mg base T j k x g) (tab : TbOk base mg T fd qual tb) (hmt : ∀ c1 h b C1 C2, mt c1 h = some b → mg c1 = some (.ref C1) → mg h = some (.ref C2) → PySem.W.exmOne K (.ref C1) (.ref C2) = some b) : ∃ cdg, Hof P w K mg base T (k + 1) x g fd ps N a qual (defScope st) cdg (hofF n (defC N st j k G tb mt) ps.length a st) :=
  hof_rule F S gm kp bd fun FF cdv A outer s H E W hT hc clo hr hg => by
    refine evSs_ok (ev_RS n) ⟨rfl, S.nd, rfl, fun _ _ => rfl, rfl, hg, hr, h2, hj, fun x g h => ?_, fun x F0 z => ?_, fun cc PP z => ?_, hmt⟩ ?_ ?_ _
    · rw [hT]; exact gl x g h
    · have z' : (if x = a then some FF else none) = some F0 := z
      split at z'
      · rename_i e
        cases z'
        subst e
        exact clo
      · cases z'
    · obtain ⟨a1, a2, a3, a4⟩ := tab cc PP z
      refine ⟨hc.symm.trans a1, a2, ?_, ?_⟩
      · rw [hT]; exact a3
      · rw [hT]; exact a4
    · exact takes_def
    · exact ⟨passes_of rfl, rfl, rfl⟩
end
end Q

set_option maxHeartbeats 4000000
namespace Q
open PySem L2

/-! ### the runs of a text without the text: its pieces by short names -/
abbrev RE1 := Rho → M PyData
abbrev RB := Rho → M Bool
abbrev RL := Rho → M (List PyData)
abbrev RN := Rho → M Nv
abbrev RF := Rho → M Fw
def eV (i : Nat) : RE1 := fun ρ => datAt ρ i
def eK (d : PyData) : RE1 := fun _ => pure d
def aN : RL := fun _ => pure []
def aC (e : RE1) (es : RL) : RL := fun ρ => do let d ← e ρ; let ds ← es ρ; pure (d :: ds)
def eTup (f : RL) : RE1 := fun ρ => do let ds ← f ρ; need (decide (ds.length ≤ line)); pure (.tuple ds)
def eLst (f : RL) : RE1 := fun ρ => do let ds ← f ρ; need (decide (ds.length ≤ line)); pure (.list ds)
def eBin (op : Operator) (a b : RE1) : RE1 := fun ρ => do let x ← a ρ; let y ← b ρ; get? (binD op x y)
def eNeg (a : RE1) : RE1 := fun ρ => do let d ← a ρ; get? (match d with | .int i => some (.int (-i)) | _ => none)
def eIf (t : RB) (a b : RE1) : RE1 := fun ρ => do let z ← t ρ; if z then a ρ else b ρ
def eCmp (op : CmpOp) (a b : RE1) : RE1 := fun ρ => do let z ← cmpM op a b ρ; pure (.bool z)
def eChain (op op' : CmpOp) (a b d : RE1) : RE1 := fun ρ => do let z ← chainM op op' a b d ρ; pure (.bool z)
def oN : Rho → M (Option Int) := fun _ => pure none
def eCut (a : RE1) (lo hi : Rho → M (Option Int)) : RE1 := fun ρ => do let d ← a ρ; let l ← lo ρ; let h ← hi ρ; get? (cutD d l h)
def eIx (a b : RE1) : RE1 := fun ρ => do let x ← a ρ; let y ← b ρ; get? (itemD x y)
def hN : Rho → M (List Ent) := fun _ => pure []
def hD (e : RE1) : Rho → M Ent := fun ρ => do let d ← e ρ; pure (.dat d)
def eBlt (f : List PyData → Option PyData) (as : RL) : RE1 := fun ρ => do let ds ← as ρ; get? (f ds)
def eSet (a : RE1) : RE1 := fun ρ => do let d ← a ρ; get? (setSort d)
def eRg (a : RE1) : RE1 := fun ρ => do let d ← a ρ; get? (rangeD d)
def eDix (kvs : List (Key × Int)) (a : RE1) : RE1 := fun ρ => do let d ← a ρ; get? (dixD kvs d)
def eBack (a : RE1) : RE1 := fun ρ => do let d ← a ρ; get? (backD d)
def eHof (FF : (List PyData → M PyData) → List Ent → M PyData) (as : Rho → M (List Ent)) (is : List Nat) (body : RE1) : RE1 := fun ρ => do
  let ents ← as ρ
  FF (lamF is body ρ) ents
def eDic0 : RE1 := fun _ => pure (.dict [])
def tY : RB := fun _ => pure true
def tNot (t : RB) : RB := fun ρ => do let b ← t ρ; pure (!b)
def nLst (f : RL) : RN := fun ρ => do let ds ← f ρ; need (decide (ds.length ≤ line)); pure (.inl ds)
def nAdd (a b : RE1) : RN := fun ρ => do let x ← a ρ; let y ← b ρ; get? (addN x y)
def nIf (t : RB) (a b : RN) : RN := fun ρ => do let z ← t ρ; if z then a ρ else b ρ
def nD (e : RE1) : RN := fun ρ => do let d ← e ρ; pure (.inr d)
def sN : RF := fun ρ => pure (.nx ρ)
def sBk : RF := fun ρ => pure (.bk ρ)
def sCt : RF := fun ρ => pure (.ct ρ)
/-- the suites of a try, by the classes; mt tells which class is caught by which name -/
def catchL (mt : Str → Str → Option Bool) : List (Str × (List (Str × PyData) → Option Fw)) → Str → List (Str × PyData) → M Fw
  | [], c0, fs => throw c0 fs
  | (h, act) :: more, c0, fs => (match mt c0 h with
    | some true => get? (act fs)
    | some false => catchL mt more c0 fs
    | none => bad)
/-- of these classes, none under another one -/
def mtE (errs : List Str) : Str → Str → Option Bool := fun a b => if errs.contains a && errs.contains b then some (decide (a = b)) else none
theorem mtE_eq {errs : List Str} (a b : Str) (h : mtE errs a b = some true) : a = b := by
  unfold mtE at h
  split at h
  · exact of_decide_eq_true (Option.some.inj h)
  · cases h
theorem catchM_eq {c : Cz} {mt : Str → Str → Option Bool} {n : Str} {h : Str} {hp p : Pos} {nn : Option Str} {suite : List Stmt} {hds : List ExceptHandler} {more : List (Str × (List (Str × PyData) → Option Fw))} {act : List (Str × PyData) → Option Fw} {f : Str} (hm : c.mt = mt) (hx : ∀ a b, mt a b = some true → a = b) (hg : c.G h = some (.err f))
    (ha : (fun fs => runSuite c n f fs suite) = act) (ih : catchM c n hds = catchL mt more) : catchM c n (.ExceptHandler (some (.Name h hp)) nn suite p :: hds) = catchL mt ((h, act) :: more) := by
  funext c0 fs
  show (match c.mt c0 h with
    | some true => (match c.G c0 with
      | some (.err f) => get? (runSuite c n f fs suite)
      | _ => bad)
    | some false => catchM c n hds c0 fs
    | none => bad) = (match mt c0 h with
    | some true => get? (act fs)
    | some false => catchL mt more c0 fs
    | none => bad)
  rw [hm, ih]
  cases e : mt c0 h with
  | none => rfl
  | some b =>
    cases b with
    | false => rfl
    | true =>
      have e2 := hx _ _ e
      subst e2
      show (match c.G c0 with
        | some (.err f) => get? (runSuite c n f fs suite)
        | _ => bad) = get? (act fs)
      rw [hg, ← ha]
/-- a try's clauses, by their text -/
def clausesOf (c : Cz) (n : Str) : List ExceptHandler → Option (List (Str × (List (Str × PyData) → Option Fw)))
  | [] => some []
  | .ExceptHandler (some (.Name h _)) _ suite _ :: more => (match c.G h with
    | some (.err f) => (clausesOf c n more).map fun l => (h, fun fs => runSuite c n f fs suite) :: l
    | _ => none)
  | _ :: _ => none
theorem catch_all {c : Cz} {mt : Str → Str → Option Bool} {n : Str} (hm : c.mt = mt) (hx : ∀ a b, mt a b = some true → a = b) : ∀ {hds : List ExceptHandler} {l : List (Str × (List (Str × PyData) → Option Fw))}, clausesOf c n hds = some l → catchM c n hds = catchL mt l
  | [], l, h => by cases h; rfl
  | .ExceptHandler t nn suite p :: more, l, h => by
    cases t with
    | none => cases h
    | some e =>
      cases e <;> first | (cases h; done) | skip
      rename_i x px
      have h' : (match c.G x with
        | some (.err f) => (clausesOf c n more).map fun l => (x, fun fs => runSuite c n f fs suite) :: l
        | _ => none) = some l := h
      cases hg : c.G x with
      | none => rw [hg] at h'; cases h'
      | some gk =>
        rw [hg] at h'
        cases gk <;> first | (cases h'; done) | skip
        rename_i f
        obtain ⟨l2, e2, e3⟩ := Option.map_eq_some_iff.mp h'
        subst e3
        exact catchM_eq hm hx hg rfl (catch_all hm hx e2)
def handlersOf (st : Stmt) : List ExceptHandler := match defBody st with
  | [.Try _ hs _ _ _] => hs
  | _ => []
/-! ### what a run comes to -/
section
variable {α β : Type} {m : M α} {f : α → M β} {ω o : Om} {a : α} {ρ : Rho}
theorem bind_ok (h : m ω = .ok a o) : (m >>= f) ω = f a o := by
  show M.bnd m f ω = _
  unfold M.bnd
  rw [h]
theorem bind_exn {c : Str} {fs : List (Str × PyData)} (h : m ω = .exn c fs o) : (m >>= f) ω = .exn c fs o := by
  show M.bnd m f ω = _
  unfold M.bnd
  rw [h]
@[simp] theorem run_pure : (pure a : M α) ω = .ok a ω := rfl
@[simp] theorem run_ret : (M.ret a : M α) ω = .ok a ω := rfl
@[simp] theorem run_get : get? (some a) ω = .ok a ω := rfl
@[simp] theorem run_need : need true ω = .ok () ω := rfl
theorem run_bind : (m >>= f) ω = match m ω with | .ok a o => f a o | .exn c fs o => .exn c fs o | .bad => .bad := rfl
end
end Q

set_option maxHeartbeats 4000000
namespace Q
open PySem L2 LamX

/-! ### defs with a reading of one's own -/
section
variable {P : Program} {w : World} {K : PySem.W.Frag} {mg : Str → Option Value} {base : Heap}
theorem fnG_raw {x qual : Str} {st : Stmt} {f : Addr} {fd : FuncData} {N ps : List Str} {k : Nat} {sp : Sp} (F : Fun K x qual st f fd) (S : FnScope N ps (defScope st)) (len : ∀ vs H Q E, sp vs H Q E → vs.length = ps.length)
    (body : ∀ (cdv : Value) (A : Around) (outer : List Env) (s : Shared) (H : Hp) (vs : List V) (Q : VK) (E : XK), Room k (A.deeper (PyProof.Rows.envOfC qual (defScope st) s.heap.objs.size f cdv)) → (A.deeper (PyProof.Rows.envOfC qual (defScope st) s.heap.objs.size f cdv)).guards = some [] → sp vs H Q E →
      ∃ t, PSs (cxOf (L2.CX P w) P w K mg base N qual (defScope st) f cdv A outer s H E) (defBody st) t ∧ t { nx := fun _ H' => Q .non H', rt := Q } (L2.start N vs) H) :
    FnG P w K mg base (k + 1) f fd ps sp := by
  refine ⟨len, fun A outer s H args us vs Q E hr hg e0 hb r h => ?_⟩
  obtain ⟨oc, od, kV, doc, pm, an, cdv, ct, osl, rfl, lk, hcd⟩ := F.ex
  exact LamX.run_ofS (N := N) lk hcd S hr e0 hb r (len _ _ _ _ h) fun hr' => body cdv A outer s H vs Q E hr' hg h
end
section
variable {X : Cx} {Wx : WX} {k : Nat} {f : Addr} {fd : FuncData} {ps : List Str} {x : Str} {p pos : Pos} {e : Expr} {es : List Expr} {F : List Ent → M PyData}
def tCS (Wx : WX) (sp : Sp) (ta : TA) : TE := fun σ H Q => ta σ H fun vs H1 => sp vs H1 Q fun cls d H' => Wx cls d σ H'
theorem pe_callS {sp : Sp} {ta : TA} (G : FnG X.prog X.w X.K X.mg X.base k f fd ps sp) (hr : Room k X.A) (hgd : X.A.guards = some []) (hg : Gl X x) (hm : X.mg x = some (.ref f)) (hk : PySem.W.keepIn X.K (.ref f) = true) (hb : L2.Binds X.K fd ps []) (tk : Takes X Wx)
    (ha : PA X (e :: es) ta) (hdb : (x == ("__debug__" : Str)) = false := by decide) (he : starEach (e :: es) X.env = (false, eval e X.env) :: starEach es X.env := by rfl) (hpl : (backTo pos (starEach es X.env)).any (·.1) = false := by rfl) :
    PE X (.Call (.Name x p) (e :: es) [] pos) (tCS Wx sp ta) := by
  refine ⟨fun pins s σ H Q I h => ?_⟩
  refine wpAny_Call_Name_kw (ld_glob I hg hm ?_ hdb)
  refine PySem.W.callWith_K (h₀ := X.base) I.ok.mod.kin hk (thn (ha.run pos pins s σ H _ I h) fun us s1 ⟨vs, H1, I1, r, q⟩ => ⟨I1.kIn, ?_⟩) he hpl
  exact run_G G hr hgd hb tk I1 r q
end

section
variable {P : Program} {w : World} {K : PySem.W.Frag} {mg : Str → Option Value} {base : Heap}
/-- what is known of a def's text where it runs -/
theorem agr_def {qual : Str} {st : Stmt} {f : Addr} {cdv : Value} {N ps : List Str} {j k : Nat} {G : Str → Option Gk} {tb : Option (Addr × Addr)} {mt : Str → Str → Option Bool} {A : Around} {outer : List Env} {s : Shared} {H : Hp} {E : XK} {W : Wd} (S : FnScope N ps (defScope st))
    (h2 : 2 ≤ k) (hj : j ≤ k) (gl : ∀ x g, G x = some g → GOk P w K mg base W.T j k x g)
    (tab : ∀ cc PP, tb = some (cc, PP) → cdv = .ref cc ∧ LamX.TabB base mg cc PP ∧ (PP, qual ++ ".<locals>." ++ "<lambda>") ∈ W.T ∧ ∀ p ∈ W.T, p.1 = PP → p.2 = qual ++ ".<locals>." ++ "<lambda>")
    (hmt : ∀ c1 h b C1 C2, mt c1 h = some b → mg c1 = some (.ref C1) → mg h = some (.ref C2) → PySem.W.exmOne K (.ref C1) (.ref C2) = some b)
    (hr : Room k (A.deeper (PyProof.Rows.envOfC qual (defScope st) s.heap.objs.size f cdv))) (hg : (A.deeper (PyProof.Rows.envOfC qual (defScope st) s.heap.objs.size f cdv)).guards = some []) :
    Agr (cxOf (L2.CX P w) P w K mg base N qual (defScope st) f cdv A outer s H E) W (defC N st j k G tb mt) :=
  ⟨rfl, S.nd, rfl, fun _ _ => rfl, rfl, hg, hr, h2, hj, gl, (fun x F z => nomatch (show (none : Option (List PyData → M PyData)) = some F from z)), tab, hmt⟩
theorem pass_def {qual : Str} {st : Stmt} {f : Addr} {cdv : Value} {N : List Str} {A : Around} {outer : List Env} {s : Shared} {H : Hp} {E : XK} : Pass (cxOf (L2.CX P w) P w K mg base N qual (defScope st) f cdv A outer s H E) := ⟨passes_of rfl, rfl, rfl⟩
end
/-! ### the draws -/
def mixV (cell n : Int) : Int := ((((cell * (1 + 2 * n) * 48271).fmod 2147483647 + 7919 * n * n + 104729 * n) * 69621).fmod 2147483629).fdiv 7
def mOk (m : Mach) : Bool := decide (m.cells.length = 64) && decide (m.great.length ≤ 63) && decide (0 ≤ m.spot) && decide (m.spot < 1048576) && m.cells.all fun x => decide (0 ≤ x) && decide (x < 2147483648)
def lowV (m : Mach) (lim : Int) : Int := (mixV (mixV ((L2.atI m.cells (m.spot % 64)).getD 0 + 31 * (m.spot / 64)) m.spot) (m.spot + 7)) % lim
def drawV (m : Mach) (lim : Int) : Int × Mach :=
  if m.great = [] then (lowV m lim, { m with spot := m.spot + 1 })
  else match L2.atI m.great (m.spot % (m.great.length : Int)) with
    | some cell => if 0 < cell then (cell % lim, { m with spot := m.spot + 1, great := m.great.set (m.spot % (m.great.length : Int)).toNat (cell / lim) }) else (lowV m lim, { m with spot := m.spot + 1 })
    | none => (0, m)
def drawM (es : List Ent) : M PyData := fun ω => match es, ω with
  | [.mach, .dat (.int lim)], some m => if mOk m && decide (0 < lim) && decide (lim < 1073741824) then .ok (.int (drawV m lim).1) (some (drawV m lim).2) else .bad
  | _, _ => .bad
theorem drawM_inv {es : List Ent} {ω : Om} {P : PyData → Om → Prop} {E : Str → List (Str × PyData) → Om → Prop} (h : RunP (drawM es ω) P E) :
    ∃ lim m, es = [.mach, .dat (.int lim)] ∧ ω = some m ∧ mOk m = true ∧ 0 < lim ∧ lim < 1073741824 ∧ P (.int (drawV m lim).1) (some (drawV m lim).2) := by
  unfold drawM at h
  split at h
  · rename_i lim m
    split at h
    · rename_i c
      rw [Bool.and_eq_true, Bool.and_eq_true, decide_eq_true_eq, decide_eq_true_eq] at c
      exact ⟨lim, m, rfl, rfl, c.1.1, c.1.2, c.2, h⟩
    · exact h.elim
  · exact h.elim
theorem drawM_len (es : List Ent) (ω : Om) (P : PyData → Om → Prop) (E : Str → List (Str × PyData) → Om → Prop) (h : RunP (drawM es ω) P E) : es.length = 2 := by
  obtain ⟨lim, m, rfl, _⟩ := drawM_inv h
  rfl
end Q
namespace Q
open PySem L2 LamX
/-! ### the draws' dict -/
def drK (c g : Addr) (n : Int) : List (Key × V) := [(.inr (Str.ofString "cells"), .ref c), (.inr (Str.ofString "great"), .ref g), (.inr (Str.ofString "spot"), .int n)]
theorem drK_cells (c g : Addr) (n : Int) : valV (drK c g n) (.inr "cells" : Key) = some (.ref c) := rfl
theorem drK_great (c g : Addr) (n : Int) : valV (drK c g n) (.inr "great" : Key) = some (.ref g) := rfl
theorem drK_spot (c g : Addr) (n : Int) : valV (drK c g n) (.inr "spot" : Key) = some (.int n) := rfl
theorem drK_put (c g : Addr) (n k : Int) : putK (drK c g n) (.inr "spot" : Key) (.int k) = drK c g k := rfl
theorem drK_get {H : Hp} {p c g : Addr} {n : Int} (h : H p = some (.dK (drK c g n))) : DGet H p (.str "cells") (some (.ref c)) ∧ DGet H p (.str "great") (some (.ref g)) ∧ DGet H p (.str "spot") (some (.int n)) :=
  ⟨DGet.k (k := Sum.inr "cells") h, DGet.k (k := Sum.inr "great") h, DGet.k (k := Sum.inr "spot") h⟩
theorem dtInts {K : PySem.W.Frag} {xo : Addr → Prop} {H : Hp} : ∀ ns : List Int, DtL K xo H (ns.map PyData.int) (ns.map V.int)
  | [] => .nil
  | n :: ns => .cons (.int n) (dtInts ns)
theorem okInts (ns : List Int) : okD (.list (ns.map PyData.int)) = true := PySem.W.ke_shaped_ints ns
theorem ne_nil_ints (ns : List Int) : cmpD .NotEq (.list (ns.map PyData.int)) (.list []) = some (!ns.isEmpty) := by
  show (if okD (.list (ns.map PyData.int)) && okD (.list []) then some (PyData.eqv (.list (ns.map PyData.int)) (.list [])) else none).map (!·) = _
  rw [if_pos (by rw [okInts, Bool.true_and]; exact okInts [])]
  cases ns with
  | nil => rfl
  | cons n ns => rfl
/-! ### the beginning: cells, great ones -/
def cellsOk (cs : List Int) : Prop := cs.length = 64 ∧ ∀ x ∈ cs, 0 ≤ x ∧ x < 2147483648
/-- what is handed on of a new list of cells -/
def NewL (T : List (Addr × Str)) (H : Hp) (p : Addr) (vs : List V) (H' : Hp) : Prop := H p = none ∧ H' p = some (.lst vs) ∧ (∀ b o, H b = some o → (∀ ps, o ≠ .tbl ps) → H' b = some o) ∧ (∀ b, H' b = none → H b = none) ∧ Tabs T H'
def spFold (K : PySem.W.Frag) (T : List (Addr × Str)) : Sp := fun vs H Q _ => ∃ (a : Addr) (ns : List Int), vs = [.ref a] ∧ SqL K H a (ns.map V.int) ∧ ns.length ≤ 63 ∧ Tabs T H ∧
  ∀ p H' cs, cellsOk cs → NewL T H p (cs.map V.int) H' → Q (.ref p) H'
def spBegun (K : PySem.W.Frag) (T : List (Addr × Str)) : Sp := fun vs H Q _ => ∃ (a : Addr) (ns : List Int), vs = [.ref a] ∧ SqL K H a (ns.map V.int) ∧ ns.length ≤ 63 ∧ Tabs T H ∧
  ∀ p c g m H', m.spot = 0 → cellsOk m.cells → m.great.length = ns.length → H p = none → H c = none → H g = none → machAt H' p c g m → (∀ b o, H b = some o → (∀ ps, o ≠ .tbl ps) → H' b = some o) → (∀ b, H' b = none → H b = none) → Tabs T H' → Q (.ref p) H'
theorem dt_ints {K : PySem.W.Frag} {H : Hp} {a : Addr} {ns : List Int} (h : SqL K H a (ns.map V.int)) : Dt K (fun _ => False) H (.list (ns.map PyData.int)) (.ref a) := by
  simp only [Dt]
  refine ⟨a, _, rfl, ?_, dtInts ns⟩
  rcases h with (h | h) | h
  · exact .inl ⟨fun z => z, h⟩
  · exact .inr (.inl h)
  · exact .inr (.inr h)
theorem ints_of {K : PySem.W.Frag} {xo : Addr → Prop} {H : Hp} : ∀ (ns : List Int) (vs : List V), DtL K xo H (ns.map PyData.int) vs → vs = ns.map V.int
  | [], vs, h => by simp only [List.map_nil, DtL] at h; exact h
  | n :: ns, vs, h => by
    simp only [List.map_cons, DtL] at h
    obtain ⟨v, r, e, a, b⟩ := h
    cases Dt.intE a
    rw [e, ints_of ns r b]
    rfl
end Q

set_option maxHeartbeats 4000000
namespace Q
open PySem L2 LamX

/-! ### going through a run -/
section
variable {α β : Type} {ρ : Rho} {ω : Om}
@[simp] theorem x_bind {m : M α} {f : α → M β} : (m >>= f) ω = match m ω with | .ok a o => f a o | .exn c fs o => .exn c fs o | .bad => .bad := rfl
@[simp] theorem x_datAt {i : Nat} : datAt ρ i ω = (match ρ[i]? with | some (some (.dat d)) => (pure d : M PyData) | _ => bad) ω := rfl
@[simp] theorem x_eV {i : Nat} : eV i ρ ω = datAt ρ i ω := rfl
@[simp] theorem x_eK {d : PyData} : eK d ρ ω = .ok d ω := rfl
@[simp] theorem x_aN : aN ρ ω = .ok [] ω := rfl
@[simp] theorem x_aC {e : RE1} {es : RL} : aC e es ρ ω = (e ρ >>= fun d => es ρ >>= fun ds => (pure (d :: ds) : M (List PyData))) ω := rfl
@[simp] theorem x_need {b : Bool} : need b ω = if b then .ok () ω else .bad := rfl
@[simp] theorem x_get {x : Option α} : get? x ω = match x with | some a => .ok a ω | none => .bad := rfl
@[simp] theorem x_bad : (bad : M α) ω = .bad := rfl
@[simp] theorem x_throw {c : Str} {fs : List (Str × PyData)} : (throw c fs : M α) ω = .exn c fs ω := rfl
@[simp] theorem x_eTup {f : RL} : eTup f ρ ω = (f ρ >>= fun ds => need (decide (ds.length ≤ line)) >>= fun _ => (pure (PyData.tuple ds) : M PyData)) ω := rfl
@[simp] theorem x_eLst {f : RL} : eLst f ρ ω = (f ρ >>= fun ds => need (decide (ds.length ≤ line)) >>= fun _ => (pure (PyData.list ds) : M PyData)) ω := rfl
@[simp] theorem x_eBin {op : Operator} {a b : RE1} : eBin op a b ρ ω = (a ρ >>= fun x => b ρ >>= fun y => get? (binD op x y)) ω := rfl
@[simp] theorem x_eNeg {a : RE1} : eNeg a ρ ω = (a ρ >>= fun d => get? (match d with | .int i => some (PyData.int (-i)) | _ => none)) ω := rfl
@[simp] theorem x_eIf {t : RB} {a b : RE1} : eIf t a b ρ ω = (t ρ >>= fun z => if z then a ρ else b ρ) ω := rfl
@[simp] theorem x_cmpM {op : CmpOp} {a b : RE1} : cmpM op a b ρ ω = (a ρ >>= fun x => b ρ >>= fun y => get? (cmpD op x y)) ω := rfl
@[simp] theorem x_eCmp {op : CmpOp} {a b : RE1} : eCmp op a b ρ ω = (cmpM op a b ρ >>= fun z => (pure (.bool z) : M PyData)) ω := rfl
@[simp] theorem x_eCut {a : RE1} {lo hi : Rho → M (Option Int)} : eCut a lo hi ρ ω = (a ρ >>= fun d => lo ρ >>= fun l => hi ρ >>= fun h => get? (cutD d l h)) ω := rfl
@[simp] theorem x_oN : oN ρ ω = .ok none ω := rfl
@[simp] theorem x_intM {f : RE1} : intM f ρ ω = (f ρ >>= fun d => get? (match d with | .int i => some (some i) | _ => none)) ω := rfl
@[simp] theorem x_eIx {a b : RE1} : eIx a b ρ ω = (a ρ >>= fun x => b ρ >>= fun y => get? (itemD x y)) ω := rfl
@[simp] theorem x_hN : hN ρ ω = .ok [] ω := rfl
@[simp] theorem x_hD {e : RE1} : hD e ρ ω = (e ρ >>= fun d => (pure (.dat d) : M Ent)) ω := rfl
@[simp] theorem x_consH {f : Rho → M Ent} {fs : Rho → M (List Ent)} : consH f fs ρ ω = (f ρ >>= fun e => fs ρ >>= fun es => (pure (e :: es) : M (List Ent))) ω := rfl
@[simp] theorem x_nameH {i : Nat} : nameH i ρ ω = (match ρ[i]? with | some (some .mach) => (pure .mach : M Ent) | some (some (.dat d)) => pure (.dat d) | _ => bad) ω := rfl
@[simp] theorem x_eBlt {f : List PyData → Option PyData} {as : RL} : eBlt f as ρ ω = (as ρ >>= fun ds => get? (f ds)) ω := rfl
@[simp] theorem x_eSet {a : RE1} : eSet a ρ ω = (a ρ >>= fun d => get? (setSort d)) ω := rfl
@[simp] theorem x_eRg {a : RE1} : eRg a ρ ω = (a ρ >>= fun d => get? (rangeD d)) ω := rfl
@[simp] theorem x_eDix {kvs : List (Key × Int)} {a : RE1} : eDix kvs a ρ ω = (a ρ >>= fun d => get? (dixD kvs d)) ω := rfl
@[simp] theorem x_eBack {a : RE1} : eBack a ρ ω = (a ρ >>= fun d => get? (backD d)) ω := rfl
@[simp] theorem x_callE {F : List Ent → M PyData} {fs : Rho → M (List Ent)} : callE F fs ρ ω = (fs ρ >>= fun es => F es) ω := rfl
@[simp] theorem x_tY : tY ρ ω = .ok true ω := rfl
@[simp] theorem x_tNot {t : RB} : tNot t ρ ω = (t ρ >>= fun b => (pure (!b) : M Bool)) ω := rfl
@[simp] theorem x_truM {f : RE1} : truM f ρ ω = (f ρ >>= fun d => need (okT d) >>= fun _ => (pure (truth d) : M Bool)) ω := rfl
@[simp] theorem x_andM {f k : RB} : andM f k ρ ω = (f ρ >>= fun b => if b then k ρ else (pure false : M Bool)) ω := rfl
@[simp] theorem x_orM {f k : RB} : orM f k ρ ω = (f ρ >>= fun b => if b then (pure true : M Bool) else k ρ) ω := rfl
@[simp] theorem x_andTM {f k : RE1} : andTM f k ρ ω = (f ρ >>= fun d => need (okT d) >>= fun _ => if truth d then k ρ else (pure d : M PyData)) ω := rfl
@[simp] theorem x_orTM {f k : RE1} : orTM f k ρ ω = (f ρ >>= fun d => need (okT d) >>= fun _ => if truth d then (pure d : M PyData) else k ρ) ω := rfl
@[simp] theorem x_notM {f : RE1} : notM f ρ ω = (f ρ >>= fun d => need (okT d) >>= fun _ => (pure (.bool (!truth d)) : M PyData)) ω := rfl
@[simp] theorem x_isaM {t : Str} {f : RE1} : isaM t f ρ ω = (f ρ >>= fun d => get? (isaT t d) >>= fun r => (pure (.bool r.2) : M PyData)) ω := rfl
@[simp] theorem x_chainM {op op' : CmpOp} {a b d : RE1} : chainM op op' a b d ρ ω = (a ρ >>= fun x => b ρ >>= fun y => get? (cmpD op x y) >>= fun r => if r then (d ρ >>= fun z => get? (cmpD op' y z)) else (pure false : M Bool)) ω := rfl
@[simp] theorem x_eChain {op op' : CmpOp} {a b d : RE1} : eChain op op' a b d ρ ω = (chainM op op' a b d ρ >>= fun z => (pure (.bool z) : M PyData)) ω := rfl
@[simp] theorem x_nLst {f : RL} : nLst f ρ ω = (f ρ >>= fun ds => need (decide (ds.length ≤ line)) >>= fun _ => (pure (Sum.inl ds) : M Nv)) ω := rfl
@[simp] theorem x_nAdd {a b : RE1} : nAdd a b ρ ω = (a ρ >>= fun x => b ρ >>= fun y => get? (addN x y)) ω := rfl
@[simp] theorem x_nIf {t : RB} {a b : RN} : nIf t a b ρ ω = (t ρ >>= fun z => if z then a ρ else b ρ) ω := rfl
@[simp] theorem x_nD {e : RE1} : nD e ρ ω = (e ρ >>= fun d => (pure (Sum.inr d) : M Nv)) ω := rfl
@[simp] theorem x_sN : sN ρ ω = .ok (.nx ρ) ω := rfl
@[simp] theorem x_sBk : sBk ρ ω = .ok (.bk ρ) ω := rfl
@[simp] theorem x_sCt : sCt ρ ω = .ok (.ct ρ) ω := rfl
@[simp] theorem x_seqS {f k : RF} : seqS f k ρ ω = (f ρ >>= fun fl => match fl with | .nx ρ' => k ρ' | fl => (pure fl : M Fw)) ω := rfl
@[simp] theorem x_retM {is : List Nat} {f : RE1} : retM is f ρ ω = (f (relR is ρ) >>= fun d => (pure (.rt d) : M Fw)) ω := rfl
@[simp] theorem x_ifM {is : List Nat} {c : RB} {f k : RF} : ifM is c f k ρ ω = (c (relR is ρ) >>= fun b => if b then f ρ else k ρ) ω := rfl
@[simp] theorem x_asgM {is : List Nat} {f : RE1} {g : PyData → Rho → Option Rho} : asgM is f g ρ ω = (f (relR is ρ) >>= fun d => get? (g d (after is d ρ)) >>= fun ρ' => (pure (.nx ρ') : M Fw)) ω := rfl
@[simp] theorem x_asgN {is : List Nat} {f : RN} {i : Nat} : asgN is f i ρ ω = (f (relR is ρ) >>= fun r => match r with | .inl ds => (pure (.nx ((relR is ρ).set i (some (.own ds)))) : M Fw) | .inr d => pure (.nx ((after is d ρ).set i (some (.dat d))))) ω := rfl
@[simp] theorem x_dropM {is : List Nat} {f : RE1} : dropM is f ρ ω = (f (relR is ρ) >>= fun _ => (pure (.nx ρ) : M Fw)) ω := rfl
@[simp] theorem x_raiseM {is : List Nat} {c f : Str} {fe : RE1} : raiseM is c f fe ρ ω = (fe (relR is ρ) >>= fun d => (throw c [(f, d)] : M Fw)) ω := rfl
@[simp] theorem x_seqM {f : RE1} : seqM f ρ ω = (f ρ >>= fun d => get? (itemsD d) >>= fun ds => need (decide (ds.length ≤ line)) >>= fun _ => (pure ds : M (List PyData))) ω := rfl
@[simp] theorem x_loopM {is : List Nat} {fi : RL} {g : PyData → Rho → Option Rho} {body : RF} : loopM is fi g body ρ ω = (fi (relR is ρ) >>= fun ds => forM g body ds (relR is ρ)) ω := rfl
@[simp] theorem x_forM_nil {g : PyData → Rho → Option Rho} {body : RF} : forM g body [] ρ ω = .ok (.nx ρ) ω := rfl
theorem x_forM_cons {g : PyData → Rho → Option Rho} {body : RF} {d : PyData} {ds : List PyData} : forM g body (d :: ds) ρ ω = (get? (g d ρ) >>= fun ρ1 => body ρ1 >>= fun fl => match fl with
      | .nx ρ' => forM g body ds ρ'
      | .ct ρ' => forM g body ds ρ'
      | .bk ρ' => (pure (.nx ρ') : M Fw)
      | .rt d => pure (.rt d)) ω := rfl
@[simp] theorem x_callM {ar n : Nat} {fb : RF} {es : List Ent} : callM ar n fb es ω = (need (decide (es.length = ar)) >>= fun _ => fb (es.map some ++ List.replicate (n - es.length) none) >>= fun fl => match fl with | .rt d => (pure d : M PyData) | .nx _ => pure .none | _ => bad) ω := rfl
@[simp] theorem x_relR_nil : relR [] ρ = ρ := rfl
@[simp] theorem x_relR {i : Nat} {is : List Nat} : relR (i :: is) ρ = match (relR is ρ)[i]? with | some (some (.own ds)) => (relR is ρ).set i (some (.dat (.list ds))) | _ => relR is ρ := rfl
@[simp] theorem x_after {is : List Nat} {d : PyData} : after is d ρ = if flat d then ρ else relR is ρ := rfl
end
end Q

set_option maxHeartbeats 4000000
namespace Q
open PySem PySem.Spec PyProof.Rows L2 LamX

/-! ### the law's end, for defs that keep to their promise where nothing is being shown -/
/-- what stands about when the law is called: the tables of code, empty, and the script, locked where the top didn't write it -/
def startH (K : PySem.W.Frag) (ts : List Addr) (a : Addr) (vs : List Value) (ns : List Int) : Hp := fun b =>
  if b ∈ ts then some (.tbl #[]) else if b = a ∧ K.lookup a = none then some (.frz { cls := .type "list", data := .seq vs.toArray } (.lst (ns.map V.int))) else none
section
variable {P : Program} {w : World} {K : PySem.W.Frag} {mg mb : Str → Option Value} {k : Nat} {fa a : Addr} {ct : List (Addr × Addr)} {fd : FuncData} {x : Str} {sp : Sp} {z : Shared} {vs : List Value} {ns : List Int}
theorem law_callG (kin : K.In z.heap) (hgl : z.heap.Ns mainGlobals mg) (hbi : z.heap.Ns builtinsNs mb) (boot : ∀ y : Str, y ≠ "__name__" → mb y = bootBuiltins y) (nolim : z.heap.NoLimit) (nogen : z.gens = #[])
    (emp : ∀ q ∈ ct, z.heap.get? q.2 = some { cls := .none, data := .fields #[] }) (out : ∀ q ∈ ct, K.lookup q.2 = none) (cod : ∀ q ∈ ct, PySem.W.CodeHd z.heap q.1 q.2)
    (bmod : ∃ (bm : Addr) (ob : Obj), mg "__builtins__" = some (.ref bm) ∧ bm ≠ builtinsNs ∧ z.heap.get? bm = some ob ∧ ob.cls = .type "module" ∧ ob.dict = some builtinsNs ∧ ob.data = .plain)
    (lst : z.heap.get? a = some { cls := .type "list", data := .seq vs.toArray }) (are : IntsAre vs ns) (short : ns.length ≤ sizeLine) (rm : Room k callerA)
    (all : ∀ base : Heap, K.In base → base.Ns mainGlobals mg → (∀ q ∈ ct, TabB base mg q.1 q.2) → FnG P w K mg base k fa fd [x] sp) (bnd : ∀ (s : Shared) (u : Value), BindsTo s fd ⟨[u], []⟩ [(x, u)])
    (ask : ∀ H : Hp, (∀ q ∈ ct, H q.2 = some (.tbl #[])) → SqL K H a (ns.map V.int) → sp [.ref a] H (fun v _ => v = .bl true) fun _ _ _ => False) :
    codeAny (model P w) callerA (.call (.ref fa) ⟨[.ref a], []⟩) (fun r s' => r = .ok (.ret (.bool true)) ∧ OldK z.heap s'.heap ∧ s'.os = z.os ∧ AllBare s'.gens) z := by
  let ts := ct.map (·.2)
  let H0 := startH K ts a vs ns
  have inT : ∀ {b : Addr}, b ∈ ts → ∃ q ∈ ct, q.2 = b := fun hb => by
    obtain ⟨q, hq, e⟩ := List.mem_map.mp hb
    exact ⟨q, hq, e⟩
  have mT : ∀ {q : Addr × Addr}, q ∈ ct → q.2 ∈ ts := fun hq => List.mem_map.mpr ⟨_, hq, rfl⟩
  have empT : ∀ {b : Addr}, b ∈ ts → z.heap.get? b = some { cls := .none, data := .fields #[] } := fun hb => by
    obtain ⟨q, hq, rfl⟩ := inT hb
    exact emp q hq
  have hT : ∀ {b : Addr}, b ∈ ts → H0 b = some (.tbl #[]) := fun hb => if_pos hb
  have aT : a ∉ ts := fun hb => by
    have e := empT hb
    rw [lst] at e
    exact nomatch congrArg Obj.data (Option.some.inj e)
  have hO : ∀ {b : Addr} {u : HO}, H0 b = some u → b ∈ ts ∧ u = .tbl #[] ∨ b ∉ ts ∧ b = a ∧ K.lookup a = none ∧ u = .frz { cls := .type "list", data := .seq vs.toArray } (.lst (ns.map V.int)) := fun {b u} e => by
    by_cases hb : b ∈ ts
    · rw [hT hb] at e
      exact .inl ⟨hb, (Option.some.inj e).symm⟩
    · have e1 : (if b = a ∧ K.lookup a = none then some (HO.frz { cls := .type "list", data := .seq vs.toArray } (.lst (ns.map V.int))) else none) = some u := (if_neg hb).symm.trans e
      split at e1
      · rename_i q
        exact .inr ⟨hb, q.1, q.2, (Option.some.inj e1).symm⟩
      · cases e1
  -- an object that is neither a list nor a table is not among them
  have off : ∀ {b : Addr} {o : Obj}, z.heap.get? b = some o → (∀ us n, o.data ≠ .seq us n) → o.data ≠ .fields #[] → H0 b = none := fun {b o} e n1 n2 => by
    cases q : H0 b with
    | none => rfl
    | some u =>
      rcases hO q with ⟨hb, _⟩ | ⟨_, hb, _⟩
      · rw [empT hb] at e; cases e; exact (n2 rfl).elim
      · rw [hb, lst] at e; cases e; exact (n1 _ _ rfl).elim
  have ns' : ∀ {b : Addr} {m : Str → Option Value}, z.heap.Ns b m → (hidT z.heap H0).Ns b m := fun ⟨o, es, n, e, d, r⟩ =>
    ⟨o, es, n, hidT_get e (off e (fun _ _ q => by rw [d] at q; cases q) fun q => by rw [d] at q; cases q), d, r⟩
  have kinB : K.In (hidT z.heap H0) := fun b o e => hidT_get (kin b o e) (by
    cases q : H0 b with
    | none => rfl
    | some u =>
      rcases hO q with ⟨hb, _⟩ | ⟨_, hb, hk, _⟩
      · obtain ⟨p, hp, rfl⟩ := inT hb
        rw [out p hp] at e; cases e
      · rw [hb, hk] at e; cases e)
  have modB : L2.Mod K mg (hidT z.heap H0) := by
    obtain ⟨m1, l1, l2⟩ := nolim
    exact ⟨kinB, ns' hgl, ⟨mb, ns' hbi, boot⟩, ⟨m1, ns' l1, l2⟩⟩
  have tabB : ∀ q ∈ ct, TabB (hidT z.heap H0) mg q.1 q.2 := fun q hq => by
    refine ⟨?_, ?_, fun e => ?_⟩
    · obtain ⟨o, us, f1, f2, f3, f4, f5, f6, f7, e1, ec, e2, e3, more⟩ := cod q hq
      refine ⟨o, us, f1, f2, f3, f4, f5, f6, f7, hidT_get e1 (off e1 (fun _ _ y => by rw [e2] at y; cases y) fun y => ?_), ec, e2, e3, more⟩
      rw [e2] at y
      cases y
      simp at e3
    · obtain ⟨bm, ob, b1, b2, b3, b4, b5, b6⟩ := bmod
      refine ⟨bm, ob, b1, b2, fun y => ?_, fun y => ?_, hidT_get b3 (off b3 (fun _ _ y => by rw [b6] at y; cases y) fun y => by rw [b6] at y; cases y), b4, b5, b6⟩
      · obtain ⟨o, es, n, e, d, _⟩ := hgl
        rw [y, e] at b3
        cases b3
        rw [d] at b6; cases b6
      · rw [y, emp q hq] at b3
        cases b3; cases b6
    · obtain ⟨o, es, n, e1, d, _⟩ := hgl
      rw [e, emp q hq] at e1
      cases e1; cases d
  have rv := vals_ints are
  have okH : HOk P w H0 z.heap := fun b u e => by
    rcases hO e with ⟨hb, rfl⟩ | ⟨_, rfl, _, rfl⟩
    · exact empT hb
    · exact ⟨lst, by rw [List.length_map]; exact short, vs, _, rv, lst⟩
  have scr : SqL K H0 a (ns.map V.int) := by
    cases q : K.lookup a with
    | none => exact .inl (.inr ⟨_, (if_neg aT).trans (if_pos ⟨rfl, q⟩)⟩)
    | some o =>
      have e := kin a o q
      rw [lst] at e
      cases e
      exact .inr ⟨_, vs.toArray, _, q, rfl, rfl, rfl, by rw [List.size_toArray, are.length]; exact short, by simpa using rv⟩
  have env : Env0 P w K mg (hidT z.heap H0) callerA [] z H0 :=
    ⟨rfl, modB, fun b o e => of_hidT e, Nat.le_of_eq (hidT_size _ _), trivial, fun b hb => (nomatch hb), okH, .of_eq nogen⟩
  refine codeAny_mono ((all _ kinB (ns' hgl) tabB).go callerA [] z H0 ⟨[.ref a], []⟩ [.ref a] [.ref a] _ _ rm rfl env (bnd z (.ref a)) (.cons rfl .nil) (ask H0 (fun q hq => hT (mT hq)) scr)) fun r s' h => ?_
  cases r with
  | error e =>
    obtain ⟨_, _, _, _, _, _, _, _, _, _, _, _, no⟩ := (show L2.CX P w [] H0 z (fun _ _ _ => False) e s' from h)
    exact no.elim
  | ok fl =>
    cases fl with
    | next => exact (show False from h).elim
    | brk => exact (show False from h).elim
    | cont => exact (show False from h).elim
    | ret u =>
      obtain ⟨v, H', os, bare, un, okH', rel, q⟩ := (show L2.CE [] P w H0 z (fun v _ => v = .bl true) u s' from h)
      cases (show v = .bl true from q)
      cases (show u = Value.bool true from rel)
      have same : ∀ {b : Addr} {o : Obj}, b ∉ ts → z.heap.get? b = some o → s'.heap.get? b = some o := fun {b o} nb e => by
        cases y : H0 b with
        | none => exact un.keep b o e y (fun y => nomatch y) (fun y => nomatch y)
        | some u =>
          rcases hO y with ⟨hb, _⟩ | ⟨_, _, _, eu⟩
          · exact (nb hb).elim
          · rw [eu] at y
            have y2 := un.frzs b _ _ y
            have o1 := (okH b _ y).1
            rw [e] at o1
            cases o1
            exact (okH' b _ y2).1
      have more : ∀ q ∈ ct, ∃ us : Array Value, s'.heap.get? q.2 = some { cls := .none, data := .fields us } := fun q hq => by
        obtain ⟨us, y⟩ := un.tbls q.2 #[] (hT (mT hq))
        exact ⟨_, okH' q.2 _ y⟩
      refine ⟨rfl, ⟨fun b o e => ?_, fun b o e => ?_⟩, os, bare⟩
      · by_cases hb : b ∈ ts
        · obtain ⟨q, hq, rfl⟩ := inT hb
          obtain ⟨us, e2⟩ := more q hq
          rw [emp q hq] at e
          cases e
          exact .inr (.inl ⟨((cod q hq).tab (emp q hq)).isCodeTable, rfl, #[], us, rfl, by rw [Array.empty_append]; exact e2⟩)
        · exact .inl (same hb e)
      · by_cases hb : b ∈ ts
        · obtain ⟨q, hq, rfl⟩ := inT hb
          obtain ⟨us, e2⟩ := more q hq
          exact ⟨_, e2⟩
        · exact ⟨o, same hb e⟩
end
end Q

set_option maxHeartbeats 4000000
namespace Q
open PySem PySem.Spec PyProof.Rows L2 LamX

/-! ### the walk's end -/
/-- what is known of the law's promise behind the top -/
def LawG (l : PySem.W.OpenLaw) (w : World) (K : PySem.W.Frag) (k n : Nat) (x : Str) (mg : Str → Option Value) (fa : Addr) (h : Heap) : Prop :=
  ∃ (fd : FuncData) (ct : List (Addr × Addr)) (sp : Sp),
    ((∀ q ∈ ct, h.get? q.2 = some { cls := .none, data := .fields #[] }) ∧ (∀ q ∈ ct, K.lookup q.2 = none) ∧ (∀ q ∈ ct, PySem.W.CodeHd h q.1 q.2)) ∧ (∀ (s : Shared) (u : Value), BindsTo s fd ⟨[u], []⟩ [(x, u)]) ∧
    (∀ (H : Hp) (a : Addr) (ns : List Int), ns.length ≤ n → (∀ q ∈ ct, H q.2 = some (.tbl #[])) → SqL K H a (ns.map V.int) → sp [.ref a] H (fun v _ => v = .bl true) fun _ _ _ => False) ∧
    ∀ base : Heap, K.In base → base.Ns mainGlobals mg → (∀ q ∈ ct, TabB base mg q.1 q.2) → FnG l.prog w K mg base k fa fd [x] sp
theorem walkG {l : PySem.W.OpenLaw} {n k : Nat} {q : Program} {loose : List Str} {XP : (Str → Option Value) → Heap → Prop} {YP : World → Heap → Prop} {d : DefRec} {x : Str} (most : l.most = some n) (small : n ≤ sizeLine) (plain : d.params.defaults = []) (rm : Room k callerA)
    (tell : ∀ (w : World) (mg : Str → Option Value) (fa : Addr) (h : Heap), YP w h → h.Ns mainGlobals mg → mg d.name = some (.ref fa) → ∃ K : PySem.W.Frag, K.In h ∧ LawG l w K k n x mg fa h) :
    PySem.W.WalkO q loose XP YP l.row.toRowW d [] (fun f vs => PySem.call f vs) := by
  refine Att.attach_callB most plain fun w z0 z mg mb fa o pm cd doc a vs ns G Y ho hd hcd hmg lst are len bits nogen => ?_
  obtain ⟨K, kin, fd, ct, sp, ⟨emp, out, cod⟩, bnd, ask, all⟩ := tell w mg fa _ Y G.T.g hmg
  exact law_callG kin G.T.g G.T.b G.T.builtins G.T.nolimit nogen emp out cod G.T.bmain lst are (Nat.le_trans len small) rm all bnd fun H hH hS => ask H a ns len hH hS

/-! ### facts of the top -/
theorem fun_of {K : PySem.W.Frag} {x qual : Str} {st : Stmt} {kws : List (Str × V)} {f : Addr} {fd : FuncData} (F : FunD K x qual (defArgs st) (defBody st) (defScope st) [] kws f fd) : Fun K x qual st f fd := by
  obtain ⟨oc, od, dV, kV, doc, pm, an, cdv, ct, osl, e, lk, hcd, hD, hK⟩ := F.ex
  rcases hD with ⟨_, rfl⟩ | ⟨no, _⟩
  · exact ⟨⟨oc, od, kV, doc, pm, an, cdv, ct, osl, e, lk, hcd⟩, F.kp⟩
  · exact absurd rfl no
/-- an error class, by a look -/
def oexB (K : PySem.W.Frag) (C : Addr) : Bool := (match K.lookup C with
  | some ⟨.type t, _, .cls ⟨_, _, .ref D :: bm, _, _, true, _, _, _, _, false⟩, ⟨[_, _, _, _, some (.builtin id), _]⟩⟩ => decide (t = "type") && (decide (D = C) && (decide (id = "ValueError.__new__") && PySem.HandSPX.refsVE bm))
  | _ => false) && (decide (PySem.W.findIn K (.ref C) "__setattr__" = some (some (.builtin "object.__setattr__"))) && (decide (PySem.W.subIn K (.ref C) (.type "BaseException") = some true) && (decide (PySem.W.typeIn K (.ref C) = some (.type "type")) && PySem.W.keepIn K (.ref C))))
theorem band {a b : Bool} (h : (a && b) = true) : a = true ∧ b = true := Bool.and_eq_true_iff.mp h
theorem oexB_ok {K : PySem.W.Frag} {C : Addr} (h : oexB K C = true) : OexC K C := by
  obtain ⟨h1, h⟩ := band h
  obtain ⟨h2, h⟩ := band h
  obtain ⟨h3, h⟩ := band h
  obtain ⟨h4, h5⟩ := band h
  refine ⟨?_, of_decide_eq_true h2, of_decide_eq_true h3, of_decide_eq_true h4, h5⟩
  split at h1
  · rename_i t dd nm bs D bm N q sn sub ab col k0 k1 k2 k3 id k5 e
    obtain ⟨g1, h1⟩ := band h1
    obtain ⟨g2, h1⟩ := band h1
    obtain ⟨g3, g4⟩ := band h1
    have e1 := of_decide_eq_true g1
    have e2 := of_decide_eq_true g2
    have e3 := of_decide_eq_true g3
    subst e1 e2 e3
    exact ⟨nm, q, N, bs, bm, sn, sub, ab, col, dd, k0, k1, k2, k3, k5, e, g4⟩
  · cases h1
/-- .. and its __init__ -/
def iniB (K : PySem.W.Frag) (c f : Str) : Bool := oexB K (He.ga K c) && (decide (PySem.W.findIn K (.ref (He.ga K c)) f = some none) && (decide (PySem.W.findIn K (.ref (He.ga K c)) "__init__" = some (some (.ref (He.ma K (He.ga K c) "__init__")))) && (decide (PySem.W.typeIn K (.ref (He.ma K (He.ga K c) "__init__")) = some (.type "function")) && xfB K (He.ga K c))))
/-- the errors beside one another -/
def exmB (K : PySem.W.Frag) (errs : List Str) : Bool := errs.all fun a => errs.all fun b => decide (PySem.W.exmOne K (.ref (He.ga K a)) (.ref (He.ga K b)) = some (decide (a = b)))
theorem exmB_ok {K : PySem.W.Frag} {h : Heap} {mg : Str → Option Value} {errs : List Str} (kin : K.In h) (G : h.Ns mainGlobals mg) (gl : ∀ x ∈ errs, (He.Fa.glo x).ok K = true) (e : exmB K errs = true) :
    ∀ c1 c2 b C1 C2, mtE errs c1 c2 = some b → mg c1 = some (.ref C1) → mg c2 = some (.ref C2) → PySem.W.exmOne K (.ref C1) (.ref C2) = some b := by
  intro c1 c2 b C1 C2 hm h1 h2
  unfold mtE at hm
  split at hm
  · rename_i q
    obtain ⟨q1, q2⟩ := band q
    have m1 : c1 ∈ errs := by simpa using q1
    have m2 : c2 ∈ errs := by simpa using q2
    have g1 := He.glo_ok kin G (gl c1 m1)
    have g2 := He.glo_ok kin G (gl c2 m2)
    rw [h1] at g1
    rw [h2] at g2
    cases g1
    cases g2
    cases hm
    exact of_decide_eq_true (List.all_eq_true.mp (List.all_eq_true.mp e c1 m1) c2 m2)
  · cases hm
theorem err1_of {P : Program} {w : World} {K : PySem.W.Frag} {h base : Heap} {mg : Str → Option Value} {c f qual : Str} {st : Stmt} {q1 q2 q3 q4 : Pos} {kws : List (Str × V)} {fd : FuncData} (kin : K.In h) (G : h.Ns mainGlobals mg) (gl : (He.Fa.glo c).ok K = true) (e : iniB K c f = true)
    (F : FunD K "__init__" qual (defArgs st) (defBody st) (defScope st) [] kws (He.ma K (He.ga K c) "__init__") fd) (S : FnScope ["self", f] ["self", f] (defScope st))
    (hb : defBody st = [.Assign [.Attribute (.Name "self" q1) f q2] (.Name f q3) q4]) (h0 : (defScope st).names.lookup ("self" : Str) = some NameKind.local) (h1 : (defScope st).names.lookup f = some NameKind.local) (d1 : (f == ("__debug__" : Str)) = false) (d2 : (f == ("__classdict__" : Str)) = false)
    (bd : L2.Binds K fd ["self", f] []) : ∃ C, Err1 K mg P w base c f C ∧ XfC K C := by
  obtain ⟨e1, e⟩ := band e
  obtain ⟨e2, e⟩ := band e
  obtain ⟨e3, e⟩ := band e
  obtain ⟨e4, e5⟩ := band e
  exact ⟨He.ga K c, ⟨He.glo_ok kin G gl, oexB_ok e1, of_decide_eq_true e2, _, fd, of_decide_eq_true e3, of_decide_eq_true e4, init_ok (fun_of F) S hb h0 h1 d1 d2, bd⟩, xfB_ok e5⟩
end Q

set_option maxHeartbeats 4000000
namespace Q
open PySem PySem.Spec PyProof.Rows L2 LamX

/-! ### each def by its text, from what the top says -/
theorem Hof.mono {P : Program} {w : World} {K : PySem.W.Frag} {mg : Str → Option Value} {base : Heap} {T : List (Addr × Str)} {j k : Nat} {x : Str} {g : Addr} {fd : FuncData} {ps Ng : List Str} {a qg : Str} {sg : Scope} {cdg : Value} {FF : (List PyData → M PyData) → List Ent → M PyData}
    (h : Hof P w K mg base T j x g fd ps Ng a qg sg cdg FF) (l : j ≤ k) : Hof P w K mg base T k x g fd ps Ng a qg sg cdg FF :=
  ⟨h.gm, h.kp, h.bd, h.len, fun F A outer s H us vs Q E W es ω hr => h.go F A outer s H us vs Q E W es ω (hr.mono l)⟩
theorem GOk.mono {P : Program} {w : World} {K : PySem.W.Frag} {mg : Str → Option Value} {base : Heap} {T : List (Addr × Str)} {j k j' k' : Nat} {x : Str} {g : Gk} (h : GOk P w K mg base T j k x g) (lj : j ≤ j') (lk : k ≤ k') : GOk P w K mg base T j' k' x g := by
  cases g with
  | blt => exact h
  | con d => exact h
  | fn F =>
    obtain ⟨f, fd, ps, n, h1, h2, h3, h4, h5⟩ := h
    exact ⟨f, fd, ps, n, h1, h2, h3, h4.mono lj, h5⟩
  | err f => exact h
  | hof FF =>
    obtain ⟨g, fd, ps, Ng, a, qg, sg, cdg, hh⟩ := h
    exact ⟨g, fd, ps, Ng, a, qg, sg, cdg, hh.mono lk⟩
theorem gl_nil {P : Program} {w : World} {K : PySem.W.Frag} {mg : Str → Option Value} {base : Heap} {T : List (Addr × Str)} {j k : Nat} : ∀ x g, ([] : List (Str × Gk)).lookup x = some g → GOk P w K mg base T j k x g := fun x g h => nomatch h
theorem gl_cons {P : Program} {w : World} {K : PySem.W.Frag} {mg : Str → Option Value} {base : Heap} {T : List (Addr × Str)} {j k j1 k1 : Nat} {y : Str} {u : Gk} {l : List (Str × Gk)} (h : GOk P w K mg base T j1 k1 y u) (t : ∀ x g, l.lookup x = some g → GOk P w K mg base T j k x g) (lj : j1 ≤ j := by decide) (lk : k1 ≤ k := by decide) :
    ∀ x g, ((y, u) :: l).lookup x = some g → GOk P w K mg base T j k x g := fun x g e => by
  rw [List.lookup_cons] at e
  split at e
  · rename_i q
    rw [eq_of_beq q]
    cases e
    exact h.mono lj lk
  · exact t x g e
def Ts (tf : List He.Defn) (K : PySem.W.Frag) : List (Addr × Str) := tf.map fun p => ((He.cT K p).2, p.1 ++ ".<locals>." ++ "<lambda>")
/-- what stands about where the law is called -/
structure Tp (fa : List He.Fa) (fn : List He.DefD) (tf : List He.Defn) (ex : PySem.W.Frag → Bool) (errs : List Str) (w : World) (K : PySem.W.Frag) (mg : Str → Option Value) (h base : Heap) : Prop where
  kin : K.In h
  ns : h.Ns mainGlobals mg
  says : He.SaysX fa fn [] tf ex w h K
  kb : K.In base
  nb : base.Ns mainGlobals mg
  tabs : ∀ q ∈ tf.map (He.cT K), TabB base mg q.1 q.2
  apart : (tf.map fun p => (He.cT K p).2).Nodup
  plain : ∀ p ∈ tf, p.2 = none
  hmt : ∀ c1 h b C1 C2, mtE errs c1 h = some b → mg c1 = some (.ref C1) → mg h = some (.ref C2) → PySem.W.exmOne K (.ref C1) (.ref C2) = some b
section
variable {P : Program} {fa : List He.Fa} {fn : List He.DefD} {tf : List He.Defn} {ex : PySem.W.Frag → Bool} {errs : List Str} {w : World} {K : PySem.W.Frag} {mg : Str → Option Value} {h base : Heap}
theorem nodup_inj {α β : Type} {f : α → β} : ∀ {l : List α}, (l.map f).Nodup → ∀ {a b : α}, a ∈ l → b ∈ l → f a = f b → a = b
  | [], _, a, b, ha, _, _ => nomatch ha
  | x :: l, nd, a, b, ha, hb, e => by
    rw [List.map_cons, List.nodup_cons] at nd
    rcases List.mem_cons.mp ha with ea | ha2
    · rcases List.mem_cons.mp hb with eb | hb2
      · rw [ea, eb]
      · exact absurd (List.mem_map.mpr ⟨b, hb2, by rw [← e, ea]⟩) nd.1
    · rcases List.mem_cons.mp hb with eb | hb2
      · exact absurd (List.mem_map.mpr ⟨a, ha2, by rw [e, eb]⟩) nd.1
      · exact nodup_inj nd.2 ha2 hb2 e
theorem Tp.glo (t : Tp fa fn tf ex errs w K mg h base) {x : Str} (i : Nat) (hi : fa[i]? = some (.glo x) := by rfl) : mg x = some (.ref (He.ga K x)) := He.glo_ok t.kin t.ns (t.says.t.d.fact i hi)
theorem Tp.blt (t : Tp fa fn tf ex errs w K mg h base) {P : Program} {j k : Nat} {x : Str} (i : Nat) (hi : fa[i]? = some (.free x) := by rfl) : GOk P w K mg base (Ts tf K) j k x .blt := He.free_ok t.kin t.ns (t.says.t.d.fact i hi)
theorem Tp.int (t : Tp fa fn tf ex errs w K mg h base) {P : Program} {j k : Nat} {x : Str} {n : Int} (i : Nat) (hi : fa[i]? = some (.int x n) := by rfl) : GOk P w K mg base (Ts tf K) j k x (.con (.int n)) := by
  obtain ⟨tk, e⟩ := He.int_ok t.kin t.ns (t.says.t.d.fact i hi)
  exact ⟨.int n, _, e, ⟨tk, rfl⟩, fun xo H _ => .int n⟩
theorem Tp.fd (t : Tp fa fn tf ex errs w K mg h base) {x : Str} {st : Stmt} (i : Nat) (hi : fn[i]? = some (⟨(x, none), x, x, defArgs st, defBody st, defScope st, [], []⟩ : He.DefD)) : ∃ fd, FunD K x x (defArgs st) (defBody st) (defScope st) [] [] (He.ga K x) fd := t.says.t.d.def_ i hi
theorem Tp.tab (t : Tp fa fn tf ex errs w K mg h base) {x : Str} {st : Stmt} {fd : FuncData} (F : Fun K x x st (He.ga K x) fd) (m : (x, none) ∈ tf) : TbOk base mg (Ts tf K) fd x (some (He.cT K (x, none))) := by
  intro cc PP e
  cases e
  obtain ⟨oc, od, kV, doc, pm, an, cdv, ct, osl, efd, lk, hcd⟩ := F.ex
  subst efd
  obtain ⟨c, rfl⟩ := He.codeIn_ref hcd
  have ec : He.codeOf K (x, none) = c := He.codeOf_eq (p := (x, none)) lk rfl
  refine ⟨congrArg Value.ref ec.symm, t.tabs _ (List.mem_map.mpr ⟨_, m, rfl⟩), List.mem_map.mpr ⟨_, m, rfl⟩, fun p hp q => ?_⟩
  obtain ⟨p2, hp2, rfl⟩ := List.mem_map.mp hp
  have e2 := nodup_inj t.apart hp2 m q
  rw [e2]
theorem fn_end (t : Tp fa fn tf ex errs w K mg h base) {x : Str} {st : Stmt} {N ps : List Str} {j k : Nat} {G : Str → Option Gk} {m : List Ent → M PyData} (i1 i2 : Nat) (c : ∀ tb, defF 40 (defC N st j k G tb (mtE errs)) ps.length st = m) (S : FnScope N ps (defScope st))
    (bd : ∀ (kV doc pm : Value) (an : Option Addr) (cdv ct : Value) (us : List Value), us.length = ps.length → bindArgs (PySem.W.fnOf x x (defArgs st) (defBody st) (defScope st) .none kV doc pm an cdv ct) ⟨us, []⟩ = pure (ps.zip us))
    (gl : ∀ x g, G x = some g → GOk P w K mg base (Ts tf K) j k x g) (len : ∀ es ω P E, RunP (m es ω) P E → es.length = ps.length) (h1 : fa[i1]? = some (.glo x) := by rfl) (h2 : fn[i2]? = some (⟨(x, none), x, x, defArgs st, defBody st, defScope st, [], []⟩ : He.DefD) := by rfl)
    (hk : 2 ≤ k := by decide) (hj : j ≤ k := by decide) : GOk P w K mg base (Ts tf K) (k + 1) (k + 1) x (.fn m) := by
  obtain ⟨fd, F⟩ := t.fd i2 h2
  have F' := fun_of F
  have e := def_ok (P := P) (w := w) (mg := mg) (base := base) (T := Ts tf K) 40 F' S hk hj gl (tb := none) (mt := mtE errs) (fun cc PP z => nomatch z) t.hmt
  rw [c] at e
  exact ⟨_, fd, ps, ps.length, t.glo i1 h1, F.kp, FunD.bindsN F bd, e, len⟩
theorem fn_endL (t : Tp fa fn tf ex errs w K mg h base) {x : Str} {st : Stmt} {N ps : List Str} {j k : Nat} {G : Str → Option Gk} {m : List Ent → M PyData} (i1 i2 : Nat) (c : ∀ tb, defF 40 (defC N st j k G (some tb) (mtE errs)) ps.length st = m) (S : FnScope N ps (defScope st))
    (bd : ∀ (kV doc pm : Value) (an : Option Addr) (cdv ct : Value) (us : List Value), us.length = ps.length → bindArgs (PySem.W.fnOf x x (defArgs st) (defBody st) (defScope st) .none kV doc pm an cdv ct) ⟨us, []⟩ = pure (ps.zip us))
    (gl : ∀ x g, G x = some g → GOk P w K mg base (Ts tf K) j k x g) (len : ∀ es ω P E, RunP (m es ω) P E → es.length = ps.length) (hm : (x, none) ∈ tf) (h1 : fa[i1]? = some (.glo x) := by rfl) (h2 : fn[i2]? = some (⟨(x, none), x, x, defArgs st, defBody st, defScope st, [], []⟩ : He.DefD) := by rfl)
    (hk : 2 ≤ k := by decide) (hj : j ≤ k := by decide) : GOk P w K mg base (Ts tf K) (k + 1) (k + 1) x (.fn m) := by
  obtain ⟨fd, F⟩ := t.fd i2 h2
  have F' := fun_of F
  have e := def_ok (P := P) (w := w) (mg := mg) (base := base) (T := Ts tf K) 40 F' S hk hj gl (mt := mtE errs) (t.tab F' hm) t.hmt
  rw [c] at e
  exact ⟨_, fd, ps, ps.length, t.glo i1 h1, F.kp, FunD.bindsN F bd, e, len⟩
theorem hof_end (t : Tp fa fn tf ex errs w K mg h base) {x a : Str} {st : Stmt} {N ps : List Str} {j k : Nat} {G : Str → Option Gk} {m : (List PyData → M PyData) → List Ent → M PyData} (i1 i2 : Nat) (c : ∀ tb, hofF 40 (defC N st j k G tb (mtE errs)) ps.length a st = m) (S : FnScope N (ps ++ [a]) (defScope st))
    (bd : ∀ (kV doc pm : Value) (an : Option Addr) (cdv ct : Value) (us : List Value), us.length = (ps ++ [a]).length → bindArgs (PySem.W.fnOf x x (defArgs st) (defBody st) (defScope st) .none kV doc pm an cdv ct) ⟨us, []⟩ = pure ((ps ++ [a]).zip us))
    (gl : ∀ x g, G x = some g → GOk P w K mg base (Ts tf K) j k x g) (h1 : fa[i1]? = some (.glo x) := by rfl) (h2 : fn[i2]? = some (⟨(x, none), x, x, defArgs st, defBody st, defScope st, [], []⟩ : He.DefD) := by rfl)
    (hk : 2 ≤ k := by decide) (hj : j ≤ k := by decide) : GOk P w K mg base (Ts tf K) (k + 1) (k + 1) x (.hof m) := by
  obtain ⟨fd, F⟩ := t.fd i2 h2
  obtain ⟨cdg, hh⟩ := hof_ok (P := P) (w := w) (mg := mg) (base := base) (T := Ts tf K) 40 (fun_of F) S (t.glo i1 h1) F.kp (FunD.bindsN F bd) hk hj gl (tb := none) (mt := mtE errs) (fun cc PP z => nomatch z) t.hmt
  rw [c] at hh
  exact ⟨_, fd, ps, N, a, _, _, cdg, hh⟩
theorem err_end (t : Tp fa fn tf ex errs w K mg h base) {j k : Nat} {c f qual : Str} {st : Stmt} {q1 q2 q3 q4 : Pos} (i1 i2 : Nat) (e : iniB K c f = true) (S : FnScope ["self", f] ["self", f] (defScope st))
    (hb : defBody st = [.Assign [.Attribute (.Name "self" q1) f q2] (.Name f q3) q4]) (h0 : (defScope st).names.lookup ("self" : Str) = some NameKind.local) (h1 : (defScope st).names.lookup f = some NameKind.local) (d1 : (f == ("__debug__" : Str)) = false) (d2 : (f == ("__classdict__" : Str)) = false)
    (bd : ∀ (kV doc pm : Value) (an : Option Addr) (cdv ct : Value) (us : List Value), us.length = 2 → bindArgs (PySem.W.fnOf "__init__" qual (defArgs st) (defBody st) (defScope st) .none kV doc pm an cdv ct) ⟨us, []⟩ = pure ((["self", f] : List Str).zip us))
    (g1 : fa[i1]? = some (.glo c) := by rfl) (g2 : fn[i2]? = some (⟨(c, some "__init__"), "__init__", qual, defArgs st, defBody st, defScope st, [], []⟩ : He.DefD) := by rfl) : GOk P w K mg base (Ts tf K) j k c (.err f) := by
  obtain ⟨fd, F⟩ := t.says.t.d.def_ i2 g2
  exact err1_of t.kin t.ns (t.says.t.d.fact i1 g1) e F S hb h0 h1 d1 d2 (FunD.bindsN F bd)
end
end Q

set_option maxHeartbeats 4000000
namespace Q
open PySem PySem.Spec PyProof.Rows L2 LamX
/-! ### a def that calls itself: by how deep it goes -/
def recM (B : (List Ent → M PyData) → List Ent → M PyData) : Nat → List Ent → M PyData
  | 0 => fun _ _ => .bad
  | d + 1 => B (recM B d)
section
variable {P : Program} {fa : List He.Fa} {fn : List He.DefD} {tf : List He.Defn} {ex : PySem.W.Frag → Bool} {errs : List Str} {w : World} {K : PySem.W.Frag} {mg : Str → Option Value} {h base : Heap}
theorem rec_end (t : Tp fa fn tf ex errs w K mg h base) {x : Str} {st : Stmt} {N ps : List Str} {k : Nat} {G : (List Ent → M PyData) → Str → Option Gk} {B : (List Ent → M PyData) → List Ent → M PyData} (i1 i2 : Nat)
    (c : ∀ F j k tb, defF 40 (defC N st j k (G F) tb (mtE errs)) ps.length st = B F) (S : FnScope N ps (defScope st))
    (bd : ∀ (kV doc pm : Value) (an : Option Addr) (cdv ct : Value) (us : List Value), us.length = ps.length → bindArgs (PySem.W.fnOf x x (defArgs st) (defBody st) (defScope st) .none kV doc pm an cdv ct) ⟨us, []⟩ = pure (ps.zip us))
    (gl : ∀ F d, GOk P w K mg base (Ts tf K) (k + d) (k + d) x (.fn F) → ∀ y g, G F y = some g → GOk P w K mg base (Ts tf K) (k + d) (k + d) y g) (len : ∀ F es ω P E, RunP (B F es ω) P E → es.length = ps.length)
    (h1 : fa[i1]? = some (.glo x) := by rfl) (h2 : fn[i2]? = some (⟨(x, none), x, x, defArgs st, defBody st, defScope st, [], []⟩ : He.DefD) := by rfl) (hk : 2 ≤ k := by decide) :
    ∀ d, GOk P w K mg base (Ts tf K) (k + d) (k + d) x (.fn (recM B d))
  | 0 => by
    obtain ⟨fd, F⟩ := t.fd i2 h2
    refine ⟨_, fd, ps, ps.length, t.glo i1 h1, F.kp, FunD.bindsN F bd, ⟨fun vs H Q E h => h.1, fun A outer s H args us vs Q E _ _ _ _ _ h => ?_⟩, fun es ω P E r => ?_⟩
    · obtain ⟨_, W, es, ω, _, _, _, _, _, _, r⟩ := h
      exact r.elim
    · exact r.elim
  | d + 1 => fn_end t i1 i2 (fun tb => c (recM B d) (k + d) (k + d) tb) S bd (gl (recM B d) d (rec_end t i1 i2 c S bd gl len h1 h2 hk d)) (len (recM B d)) h1 h2 (Nat.le_trans hk (Nat.le_add_right _ _)) (Nat.le_refl _)
/-! a tuple that a module's top has laid -/
def sameB : Value → PyData → Bool
  | .none, .none => true
  | .bool a, .bool b => decide (a = b)
  | .int i _, .int j => decide (i = j)
  | .str x _, .str y => decide (x = y)
  | _, _ => false
def samesB : List Value → List PyData → Bool
  | [], [] => true
  | v :: vs, d :: ds => sameB v d && samesB vs ds
  | _, _ => false
def tupB (K : PySem.W.Frag) (x : Str) (ds : List PyData) : Bool := match K.lookup (He.ga K x) with
  | some o => decide (o.cls = .type "tuple") && (match o.data with
    | .seq its _ => decide (its.size ≤ sizeLine) && samesB its.toList ds
    | _ => false)
  | none => false
theorem sameB_ok {v : Value} {d : PyData} (h : sameB v d = true) : ∃ x : V, RelV x v ∧ ∀ (K : PySem.W.Frag) (xo : Addr → Prop) (H : Hp), Dt K xo H d x := by
  unfold sameB at h
  split at h
  · exact ⟨.non, rfl, fun K xo H => .none⟩
  · rw [of_decide_eq_true h]; exact ⟨.bl _, rfl, fun K xo H => .bool _⟩
  · rw [of_decide_eq_true h]; exact ⟨.int _, ⟨_, rfl⟩, fun K xo H => .int _⟩
  · rw [of_decide_eq_true h]; exact ⟨.str _, ⟨_, rfl⟩, fun K xo H => .str _⟩
  · cases h
theorem samesB_ok : ∀ {vs : List Value} {ds : List PyData}, samesB vs ds = true → ∃ xs : List V, Vals xs vs ∧ ∀ (K : PySem.W.Frag) (xo : Addr → Prop) (H : Hp), DtL K xo H ds xs
  | [], [], _ => ⟨[], .nil, fun K xo H => .nil⟩
  | v :: vs, d :: ds, h => by
    unfold samesB at h
    obtain ⟨h1, h2⟩ := band h
    obtain ⟨x, r, q⟩ := sameB_ok h1
    obtain ⟨xs, rs, qs⟩ := samesB_ok h2
    exact ⟨x :: xs, .cons r rs, fun K xo H => .cons (q K xo H) (qs K xo H)⟩
  | [], _ :: _, h => by cases h
  | _ :: _, [], h => by cases h
theorem Tp.tup (t : Tp fa fn tf ex errs w K mg h base) {P : Program} {j k : Nat} {x : Str} {ds : List PyData} (i : Nat) (c : tupB K x ds = true) (hi : fa[i]? = some (.glo x) := by rfl) : GOk P w K mg base (Ts tf K) j k x (.con (.tuple ds)) := by
  refine ⟨.ref (He.ga K x), _, t.glo i hi, rfl, fun xo H _ => ?_⟩
  unfold tupB at c
  cases e : K.lookup (He.ga K x) with
  | none => rw [e] at c; cases c
  | some o =>
    rw [e] at c
    obtain ⟨c1, c2⟩ := band c
    cases ed : o.data with
    | seq its n =>
      rw [ed] at c2
      obtain ⟨c3, c4⟩ := band c2
      obtain ⟨xs, rs, qs⟩ := samesB_ok c4
      simp only [Dt]
      exact ⟨_, xs, rfl, .inr ⟨o, its, n, e, of_decide_eq_true c1, ed, of_decide_eq_true c3, rs⟩, qs K xo H⟩
    | _ => rw [ed] at c2; cases c2
end
end Q

set_option maxHeartbeats 4000000
namespace Q
open PySem L2
def top (i : Nat) : Stmt := PySem.Challenge.pw_floorpowers_k04_whole_all_families_and_w.main.body.getD i (.Pass ⟨0, 0, 0, 0⟩)
def errs : List Str := ["BadNumber", "BadFamily", "BadPaper", "TooGreat"]
def mtEq : Str → Str → Option Bool := mtE errs
def gt (l : List (Str × Gk)) : Str → Option Gk := fun x => l.lookup x
def uT (l : List (Option PyData)) : Option PyData := (l.mapM id).map .tuple
def uEq (a b : Option PyData) : Option PyData := match a, b with | some (.int i), some (.int j) => some (.bool (decide (i = j))) | _, _ => none
def m_is_integer_from : List Ent → M PyData := callM 3 3
  (seqS (retM [0, 0, 1, 0, 2] (andTM (isaM "int" (eV 0)) (andTM (notM (isaM "bool" (eV 0))) (eChain .LtE .LtE (eV 1) (eV 0) (eV 2)))))
  sN)
def N_is_integer_from : List Str := ["value", "low", "high"]
def G_is_integer_from : List (Str × Gk) := [("isinstance", .blt), ("int", .blt), ("bool", .blt)]
theorem c_is_integer_from (tb : Option (Addr × Addr)) : defF 40 (defC N_is_integer_from (top 7) 2 2 (gt G_is_integer_from) tb mtEq) 3 (top 7) = m_is_integer_from := by kernel_rfl
def m_is_tuple_of : List Ent → M PyData := callM 2 2
  (seqS (retM [0, 0, 1] (andTM (isaM "tuple" (eV 0)) (eCmp .Eq (eBlt lenF (aC (eV 0) aN)) (eV 1))))
  sN)
def N_is_tuple_of : List Str := ["value", "many"]
def G_is_tuple_of : List (Str × Gk) := [("isinstance", .blt), ("tuple", .blt), ("len", .blt)]
theorem c_is_tuple_of (tb : Option (Addr × Addr)) : defF 40 (defC N_is_tuple_of (top 8) 2 2 (gt G_is_tuple_of) tb mtEq) 2 (top 8) = m_is_tuple_of := by kernel_rfl
def m_is_word_of : List Ent → M PyData := callM 2 2
  (seqS (retM [0, 0, 1] (andTM (isaM "str" (eV 0)) (eCmp .In (eV 0) (eV 1))))
  sN)
def N_is_word_of : List Str := ["value", "words"]
def G_is_word_of : List (Str × Gk) := [("isinstance", .blt), ("str", .blt)]
theorem c_is_word_of (tb : Option (Addr × Addr)) : defF 40 (defC N_is_word_of (top 9) 2 2 (gt G_is_word_of) tb mtEq) 2 (top 9) = m_is_word_of := by kernel_rfl
def m_climb_fault : (List PyData → M PyData) → List Ent → M PyData := callH 1 4 fun F =>
  (seqS (ifM [0] (tNot (truM (isaM "tuple" (eV 0))))
    (seqS (retM [] (eTup (aC (eK .none) aN)))
    sN)
    sN)
  (seqS (loopM [0] (enumM2 (aC (eV 0) aN)) (tupG 2 (consG (setD 2) (consG (setD 3) nilG)))
    (seqS (ifM [1, 3] (tNot (truM (cloM 1 F (aC (eV 3) aN))))
      (seqS (retM [2] (eTup (aC (eV 2) aN)))
      sN)
      sN)
    (seqS (ifM [2, 0, 2, 3] (andM (cmpM .Gt (eV 2) (eK (.int 0))) (tNot (cmpM .Lt (eIx (eV 0) (eBin .Sub (eV 2) (eK (.int 1)))) (eV 3))))
      (seqS (retM [2] (eTup (aC (eV 2) aN)))
      sN)
      sN)
    sN)))
  (seqS (retM [] (eTup aN))
  sN)))
def N_climb_fault : List Str := ["value", "is_item", "number", "item"]
def G_climb_fault : List (Str × Gk) := [("isinstance", .blt), ("tuple", .blt), ("enumerate", .blt)]
theorem c_climb_fault (tb : Option (Addr × Addr)) : hofF 40 (defC N_climb_fault (top 10) 2 2 (gt G_climb_fault) tb mtEq) 1 "is_item" (top 10) = m_climb_fault := by kernel_rfl
def m_subset_fault : List Ent → M PyData := callM 2 3
  (seqS (retM [1, 2, 0] (eHof m_climb_fault (consH (nameH 1) hN) [2] (callE m_is_integer_from (consH (nameH 2) (consH (hD (eK (.int 0))) (consH (hD (eBin .Sub (eV 0) (eK (.int 1)))) hN))))))
  sN)
def N_subset_fault : List Str := ["many", "value", "item"]
def G_subset_fault : List (Str × Gk) := [("climb_fault", .hof m_climb_fault), ("is_integer_from", .fn m_is_integer_from)]
theorem c_subset_fault (tb : Addr × Addr) : defF 40 (defC N_subset_fault (top 12) 3 5 (gt G_subset_fault) (some tb) mtEq) 2 (top 12) = m_subset_fault := by kernel_rfl
def m_all_subsets : List Ent → M PyData := callM 1 5
  (seqS (asgN [] (nLst (aC (eTup aN) aN)) 1)
  (seqS (loopM [0] (rng1M (aC (eV 0) aN)) (setD 2)
    (seqS (asgN [1, 4, 2, 1] (nAdd (eV 1) (listM (seqM (eV 1)) [3, 4] (setD 4) tY (eBin .Add (eV 4) (eTup (aC (eV 2) aN))))) 1)
    sN))
  (seqS (retM [1] (eBlt tupleF (aC (eBlt sortF (aC (eV 1) aN)) aN)))
  sN)))
def N_all_subsets : List Str := ["many", "subsets", "item", ".0", "subset"]
def G_all_subsets : List (Str × Gk) := [("range", .blt), ("tuple", .blt), ("sorted", .blt)]
theorem c_all_subsets (tb : Option (Addr × Addr)) : defF 40 (defC N_all_subsets (top 13) 2 2 (gt G_all_subsets) tb mtEq) 1 (top 13) = m_all_subsets := by kernel_rfl
def m_is_within : List Ent → M PyData := callM 2 4
  (seqS (retM [3, 1, 0] (eBlt allF (aC (listM (seqM (eV 0)) [2, 3] (setD 3) tY (eCmp .In (eV 3) (eV 1))) aN)))
  sN)
def N_is_within : List Str := ["subset", "far_subset", ".0", "item"]
def G_is_within : List (Str × Gk) := [("all", .blt)]
theorem c_is_within (tb : Option (Addr × Addr)) : defF 40 (defC N_is_within (top 14) 2 2 (gt G_is_within) tb mtEq) 2 (top 14) = m_is_within := by kernel_rfl
def m_is_over_one : List Ent → M PyData := callM 2 4
  (seqS (retM [3, 1, 0] (eBlt anyF (aC (listM (seqM (eV 0)) [2, 3] (setD 3) tY (callE m_is_within (consH (nameH 3) (consH (nameH 1) hN)))) aN)))
  sN)
def N_is_over_one : List Str := ["subsets", "subset", ".0", "one"]
def G_is_over_one : List (Str × Gk) := [("any", .blt), ("is_within", .fn m_is_within)]
theorem c_is_over_one (tb : Option (Addr × Addr)) : defF 40 (defC N_is_over_one (top 15) 3 3 (gt G_is_over_one) tb mtEq) 2 (top 15) = m_is_over_one := by kernel_rfl
def m_exchanged : List Ent → M PyData := callM 3 5
  (seqS (retM [4, 1, 2, 4, 0] (eBlt tupleF (aC (eBlt sortF (aC (listM (seqM (eV 0)) [3, 4] (setD 4) tY (eIf (cmpM .Eq (eV 4) (eV 1)) (eV 2) (eV 4))) aN)) aN)))
  sN)
def N_exchanged : List Str := ["subset", "item", "new_item", ".0", "one"]
def G_exchanged : List (Str × Gk) := [("tuple", .blt), ("sorted", .blt)]
theorem c_exchanged (tb : Option (Addr × Addr)) : defF 40 (defC N_exchanged (top 16) 2 2 (gt G_exchanged) tb mtEq) 3 (top 16) = m_exchanged := by kernel_rfl
def m_is_known_without : List Ent → M PyData := callM 3 5
  (seqS (retM [4, 1, 4, 2, 0] (eCmp .In (eBlt tupleF (aC (listM (seqM (eV 1)) [3, 4] (setD 4) (cmpM .NotEq (eV 4) (eV 2)) (eV 4)) aN)) (eV 0)))
  sN)
def N_is_known_without : List Str := ["known", "subset", "item", ".0", "one"]
def G_is_known_without : List (Str × Gk) := [("tuple", .blt)]
theorem c_is_known_without (tb : Option (Addr × Addr)) : defF 40 (defC N_is_known_without (top 18) 2 2 (gt G_is_known_without) tb mtEq) 3 (top 18) = m_is_known_without := by kernel_rfl
def m_least_of_closed : List Ent → M PyData := callM 1 5
  (seqS (asgN [3, 0] (nD (dictM (seqM (eV 0)) [2, 3] (setD 3) tY (eV 3) (eK (.bool true)))) 1)
  (seqS (retM [3, 0, 1, 3, 4, 3] (eBlt tupleF (aC (listM (seqM (eV 0)) [2, 3] (setD 3) (tNot (truM (eBlt anyF (aC (listM (seqM (eV 3)) [2, 4] (setD 4) tY (callE m_is_known_without (consH (nameH 1) (consH (nameH 3) (consH (nameH 4) hN))))) aN)))) (eV 3)) aN)))
  sN))
def N_least_of_closed : List Str := ["subsets", "known", ".0", "subset", "item"]
def G_least_of_closed : List (Str × Gk) := [("tuple", .blt), ("any", .blt), ("is_known_without", .fn m_is_known_without)]
theorem c_least_of_closed (tb : Option (Addr × Addr)) : defF 40 (defC N_least_of_closed (top 17) 3 3 (gt G_least_of_closed) tb mtEq) 1 (top 17) = m_least_of_closed := by kernel_rfl
def m_need_many : List Ent → M PyData := callM 1 1
  (seqS (ifM [0] (tNot (truM (callE m_is_integer_from (consH (nameH 0) (consH (hD (eK (.int 1))) (consH (hD (eK (.int 5))) hN))))))
    (seqS (raiseM [0] "BadNumber" "value" (eV 0))
    sN)
    sN)
  (seqS (retM [0] (eV 0))
  sN))
def N_need_many : List Str := ["many"]
def G_need_many : List (Str × Gk) := [("is_integer_from", .fn m_is_integer_from), ("MOST_MEMBERS", .con (.int 5)), ("BadNumber", .err "value")]
theorem c_need_many (tb : Option (Addr × Addr)) : defF 40 (defC N_need_many (top 21) 3 3 (gt G_need_many) tb mtEq) 1 (top 21) = m_need_many := by kernel_rfl
def m_may_stand_behind : List Ent → M PyData := callM 2 4
  (seqS (retM [3, 1, 3, 1, 1, 3, 0] (eBlt allF (aC (listM (seqM (eV 0)) [2, 3] (setD 3) tY (andTM (eCmp .Lt (eV 3) (eV 1)) (andTM (notM (callE m_is_within (consH (nameH 3) (consH (nameH 1) hN)))) (notM (callE m_is_within (consH (nameH 1) (consH (nameH 3) hN))))))) aN)))
  sN)
def N_may_stand_behind : List Str := ["lots", "lot", ".0", "ahead"]
def G_may_stand_behind : List (Str × Gk) := [("all", .blt), ("is_within", .fn m_is_within)]
theorem c_may_stand_behind (tb : Option (Addr × Addr)) : defF 40 (defC N_may_stand_behind (top 26) 3 3 (gt G_may_stand_behind) tb mtEq) 2 (top 26) = m_may_stand_behind := by kernel_rfl
def m_family_fault : List Ent → M PyData := callM 2 4
  (seqS (ifM [1] (tNot (truM (isaM "tuple" (eV 1))))
    (seqS (retM [] (eTup (aC (eK .none) aN)))
    sN)
    sN)
  (seqS (loopM [1] (enumM2 (aC (eV 1) aN)) (tupG 2 (consG (setD 2) (consG (setD 3) nilG)))
    (seqS (ifM [0, 3, 1, 2, 3] (orM (truM (callE m_subset_fault (consH (nameH 0) (consH (nameH 3) hN)))) (tNot (truM (callE m_may_stand_behind (consH (hD (eCut (eV 1) oN (intM (eV 2)))) (consH (nameH 3) hN))))))
      (seqS (retM [2] (eTup (aC (eV 2) aN)))
      sN)
      sN)
    sN))
  (seqS (retM [] (eTup aN))
  sN)))
def N_family_fault : List Str := ["many", "value", "number", "lot"]
def G_family_fault : List (Str × Gk) := [("isinstance", .blt), ("tuple", .blt), ("enumerate", .blt), ("subset_fault", .fn m_subset_fault), ("may_stand_behind", .fn m_may_stand_behind)]
theorem c_family_fault (tb : Option (Addr × Addr)) : defF 40 (defC N_family_fault (top 25) 6 6 (gt G_family_fault) tb mtEq) 2 (top 25) = m_family_fault := by kernel_rfl
def m_need_family_below : List Ent → M PyData := callM 2 3
  (seqS (asgN [0, 1] (nD (callE m_family_fault (consH (nameH 0) (consH (nameH 1) hN)))) 2)
  (seqS (ifM [2] (truM (eV 2))
    (seqS (raiseM [2] "BadFamily" "place" (eIx (eV 2) (eK (.int 0))))
    sN)
    sN)
  (seqS (retM [1] (eV 1))
  sN)))
def N_need_family_below : List Str := ["many", "family", "fault"]
def G_need_family_below : List (Str × Gk) := [("family_fault", .fn m_family_fault), ("BadFamily", .err "place")]
theorem c_need_family_below (tb : Option (Addr × Addr)) : defF 40 (defC N_need_family_below (top 27) 7 7 (gt G_need_family_below) tb mtEq) 2 (top 27) = m_need_family_below := by kernel_rfl
def m_need_family : List Ent → M PyData := callM 2 2
  (seqS (dropM [0] (callE m_need_many (consH (nameH 0) hN)))
  (seqS (retM [0, 1] (callE m_need_family_below (consH (nameH 0) (consH (nameH 1) hN))))
  sN))
def N_need_family : List Str := ["many", "family"]
def G_need_family : List (Str × Gk) := [("need_many", .fn m_need_many), ("need_family_below", .fn m_need_family_below)]
theorem c_need_family (tb : Option (Addr × Addr)) : defF 40 (defC N_need_family (top 28) 8 8 (gt G_need_family) tb mtEq) 2 (top 28) = m_need_family := by kernel_rfl
def m_lost_by : List Ent → M PyData := callM 3 4
  (seqS (loopM [0] (seqM (eV 0)) (setD 3)
    (seqS (ifM [2, 3, 1, 3, 0, 3, 2, 1] (andM (cmpM .In (eV 2) (eV 3)) (andM (cmpM .NotIn (eV 1) (eV 3)) (tNot (truM (callE m_is_over_one (consH (nameH 0) (consH (hD (callE m_exchanged (consH (nameH 3) (consH (nameH 2) (consH (nameH 1) hN))))) hN)))))))
      (seqS (retM [3] (eV 3))
      sN)
      sN)
    sN))
  (seqS (retM [] (eK .none))
  sN))
def N_lost_by : List Str := ["family", "member", "far_member", "lot"]
def G_lost_by : List (Str × Gk) := [("is_over_one", .fn m_is_over_one), ("exchanged", .fn m_exchanged)]
theorem c_lost_by (tb : Option (Addr × Addr)) : defF 40 (defC N_lost_by (top 29) 4 4 (gt G_lost_by) tb mtEq) 3 (top 29) = m_lost_by := by kernel_rfl
def m_unlike_pair : List Ent → M PyData := callM 2 4
  (seqS (loopM [0] (rng1M (aC (eV 0) aN)) (setD 2)
    (seqS (loopM [2] (rng1M (aC (eV 2) aN)) (setD 3)
      (seqS (ifM [1, 2, 3, 1, 3, 2] (andM (cmpM .IsNot (callE m_lost_by (consH (nameH 1) (consH (nameH 2) (consH (nameH 3) hN)))) (eK .none)) (cmpM .IsNot (callE m_lost_by (consH (nameH 1) (consH (nameH 3) (consH (nameH 2) hN)))) (eK .none)))
        (seqS (retM [3, 2] (eTup (aC (eV 3) (aC (eV 2) aN))))
        sN)
        sN)
      sN))
    sN))
  (seqS (retM [] (eK .none))
  sN))
def N_unlike_pair : List Str := ["many", "family", "member", "far_member"]
def G_unlike_pair : List (Str × Gk) := [("range", .blt), ("lost_by", .fn m_lost_by)]
theorem c_unlike_pair (tb : Option (Addr × Addr)) : defF 40 (defC N_unlike_pair (top 30) 5 5 (gt G_unlike_pair) tb mtEq) 2 (top 30) = m_unlike_pair := by kernel_rfl
def m_rows_by_strength : List Ent → M PyData := callM 2 8
  (seqS (asgN [] (nLst aN) 2)
  (seqS (asgN [0] (nD (eRg (eV 0))) 3)
  (seqS (whileM [3] (truM (eV 3))
    (seqS (asgN [6, 3, 1, 6, 7, 3] (listN (seqM (eV 3)) [5, 6] (setD 6) (truM (eBlt allF (aC (listM (seqM (eV 3)) [5, 7] (setD 7) tY (eCmp .Is (callE m_lost_by (consH (nameH 1) (consH (nameH 6) (consH (nameH 7) hN)))) (eK .none))) aN))) (eV 6)) 4)
    (seqS (appM 2 [4] (eBlt tupleF (aC (eV 4) aN)))
    (seqS (asgN [6, 3, 6, 4] (listN (seqM (eV 3)) [5, 6] (setD 6) (cmpM .NotIn (eV 6) (eV 4)) (eV 6)) 3)
    sN))) 1000)
  (seqS (retM [2] (eBlt tupleF (aC (eV 2) aN)))
  sN))))
def N_rows_by_strength : List Str := ["many", "family", "rows", "left", "row", ".0", "one", "other"]
def G_rows_by_strength : List (Str × Gk) := [("list", .blt), ("range", .blt), ("all", .blt), ("lost_by", .fn m_lost_by), ("tuple", .blt)]
theorem c_rows_by_strength (tb : Option (Addr × Addr)) : defF 40 (defC N_rows_by_strength (top 31) 5 5 (gt G_rows_by_strength) tb mtEq) 2 (top 31) = m_rows_by_strength := by kernel_rfl
def m_strength_rows : List Ent → M PyData := callM 2 2
  (seqS (dropM [0, 1] (callE m_need_family (consH (nameH 0) (consH (nameH 1) hN))))
  (seqS (ifM [0, 1] (cmpM .IsNot (callE m_unlike_pair (consH (nameH 0) (consH (nameH 1) hN))) (eK .none))
    (seqS (retM [] (eK .none))
    sN)
    sN)
  (seqS (retM [0, 1] (callE m_rows_by_strength (consH (nameH 0) (consH (nameH 1) hN))))
  sN)))
def N_strength_rows : List Str := ["many", "family"]
def G_strength_rows : List (Str × Gk) := [("need_family", .fn m_need_family), ("unlike_pair", .fn m_unlike_pair), ("rows_by_strength", .fn m_rows_by_strength)]
theorem c_strength_rows (tb : Option (Addr × Addr)) : defF 40 (defC N_strength_rows (top 32) 9 9 (gt G_strength_rows) tb mtEq) 2 (top 32) = m_strength_rows := by kernel_rfl
def m_family_count : List Ent → M PyData := callM 1 1
  (seqS (retM [0] (eIx (eK (.tuple [(.int 2), (.int 3), (.int 6), (.int 20), (.int 168), (.int 7581)])) (callE m_need_many (consH (nameH 0) hN))))
  sN)
def N_family_count : List Str := ["many"]
def G_family_count : List (Str × Gk) := [("FAMILY_COUNTS", .con (.tuple [(.int 2), (.int 3), (.int 6), (.int 20), (.int 168), (.int 7581)])), ("need_many", .fn m_need_many)]
theorem c_family_count (tb : Option (Addr × Addr)) : defF 40 (defC N_family_count (top 33) 4 4 (gt G_family_count) tb mtEq) 1 (top 33) = m_family_count := by kernel_rfl
def m_all_families : List Ent → M PyData := callM 1 5
  (seqS (ifM [0] (cmpM .Gt (callE m_family_count (consH (nameH 0) hN)) (eK (.int 200)))
    (seqS (raiseM [] "TooGreat" "most" (eK (.int 200)))
    sN)
    sN)
  (seqS (asgN [] (nLst (aC (eTup aN) aN)) 1)
  (seqS (loopM [0] (seqM (callE m_all_subsets (consH (nameH 0) hN))) (setD 2)
    (seqS (asgN [1, 4, 2, 1, 4, 2] (nAdd (eV 1) (listM (seqM (eV 1)) [3, 4] (setD 4) (truM (callE m_may_stand_behind (consH (nameH 4) (consH (nameH 2) hN)))) (eBin .Add (eV 4) (eTup (aC (eV 2) aN))))) 1)
    sN))
  (seqS (retM [1] (eBlt tupleF (aC (eBlt sortF (aC (eV 1) aN)) aN)))
  sN))))
def N_all_families : List Str := ["many", "families", "lot", ".0", "family"]
def G_all_families : List (Str × Gk) := [("family_count", .fn m_family_count), ("MOST_FAMILIES", .con (.int 200)), ("TooGreat", .err "most"), ("all_subsets", .fn m_all_subsets), ("may_stand_behind", .fn m_may_stand_behind), ("tuple", .blt), ("sorted", .blt)]
theorem c_all_families (tb : Option (Addr × Addr)) : defF 40 (defC N_all_families (top 34) 5 5 (gt G_all_families) tb mtEq) 1 (top 34) = m_all_families := by kernel_rfl
def m_is_weighing : List Ent → M PyData := callM 2 4
  (seqS (ifM [1, 1, 0] (orM (tNot (truM (callE m_is_tuple_of (consH (nameH 1) (consH (hD (eK (.int 2))) hN))))) (tNot (truM (callE m_is_tuple_of (consH (hD (eIx (eV 1) (eK (.int 0)))) (consH (nameH 0) hN))))))
    (seqS (retM [] (eK (.bool false)))
    sN)
    sN)
  (seqS (retM [3, 1, 1] (andTM (eBlt allF (aC (listM (seqM (eIx (eV 1) (eK (.int 0)))) [2, 3] (setD 3) tY (callE m_is_integer_from (consH (nameH 3) (consH (hD (eK (.int 0))) (consH (hD (eK (.int 99))) hN))))) aN)) (callE m_is_integer_from (consH (hD (eIx (eV 1) (eK (.int 1)))) (consH (hD (eK (.int 0))) (consH (hD (eK (.int 500))) hN))))))
  sN))
def N_is_weighing : List Str := ["many", "value", ".0", "load"]
def G_is_weighing : List (Str × Gk) := [("is_tuple_of", .fn m_is_tuple_of), ("all", .blt), ("is_integer_from", .fn m_is_integer_from), ("MOST_LOAD", .con (.int 99)), ("MOST_QUOTA", .con (.int 500))]
theorem c_is_weighing (tb : Option (Addr × Addr)) : defF 40 (defC N_is_weighing (top 38) 3 3 (gt G_is_weighing) tb mtEq) 2 (top 38) = m_is_weighing := by kernel_rfl
def m_load_of : List Ent → M PyData := callM 2 4
  (seqS (retM [0, 3, 1] (eBlt sumF2 (aC (listM (seqM (eV 1)) [2, 3] (setD 3) tY (eIx (eV 0) (eV 3))) aN)))
  sN)
def N_load_of : List Str := ["loads", "lot", ".0", "member"]
def G_load_of : List (Str × Gk) := [("sum", .blt)]
theorem c_load_of (tb : Option (Addr × Addr)) : defF 40 (defC N_load_of (top 39) 2 2 (gt G_load_of) tb mtEq) 2 (top 39) = m_load_of := by kernel_rfl
def m_family_weighed : List Ent → M PyData := callM 3 5
  (seqS (retM [4, 0, 1, 4, 2] (callE m_least_of_closed (consH (hD (listM (seqM (callE m_all_subsets (consH (nameH 0) hN))) [3, 4] (setD 4) (cmpM .GtE (callE m_load_of (consH (nameH 1) (consH (nameH 4) hN))) (eV 2)) (eV 4))) hN)))
  sN)
def N_family_weighed : List Str := ["many", "loads", "quota", ".0", "lot"]
def G_family_weighed : List (Str × Gk) := [("least_of_closed", .fn m_least_of_closed), ("all_subsets", .fn m_all_subsets), ("load_of", .fn m_load_of)]
theorem c_family_weighed (tb : Option (Addr × Addr)) : defF 40 (defC N_family_weighed (top 40) 4 4 (gt G_family_weighed) tb mtEq) 3 (top 40) = m_family_weighed := by kernel_rfl
def m_weighed_family : List Ent → M PyData := callM 2 2
  (seqS (dropM [0] (callE m_need_many (consH (nameH 0) hN)))
  (seqS (ifM [0, 1] (tNot (truM (callE m_is_weighing (consH (nameH 0) (consH (nameH 1) hN)))))
    (seqS (raiseM [] "BadPaper" "word" (eK (.str "weighing")))
    sN)
    sN)
  (seqS (retM [0, 1, 1] (callE m_family_weighed (consH (nameH 0) (consH (hD (eIx (eV 1) (eK (.int 0)))) (consH (hD (eIx (eV 1) (eK (.int 1)))) hN)))))
  sN)))
def N_weighed_family : List Str := ["many", "weighing"]
def G_weighed_family : List (Str × Gk) := [("need_many", .fn m_need_many), ("is_weighing", .fn m_is_weighing), ("BadPaper", .err "word"), ("family_weighed", .fn m_family_weighed)]
theorem c_weighed_family (tb : Option (Addr × Addr)) : defF 40 (defC N_weighed_family (top 41) 5 5 (gt G_weighed_family) tb mtEq) 2 (top 41) = m_weighed_family := by kernel_rfl
def m_is_weighed : List Ent → M PyData := callM 2 2
  (seqS (dropM [0, 1] (callE m_need_family (consH (nameH 0) (consH (nameH 1) hN))))
  (seqS (retM [0, 1] (eCmp .Is (callE m_unlike_pair (consH (nameH 0) (consH (nameH 1) hN))) (eK .none)))
  sN))
def N_is_weighed : List Str := ["many", "family"]
def G_is_weighed : List (Str × Gk) := [("need_family", .fn m_need_family), ("unlike_pair", .fn m_unlike_pair)]
theorem c_is_weighed (tb : Option (Addr × Addr)) : defF 40 (defC N_is_weighed (top 42) 9 9 (gt G_is_weighed) tb mtEq) 2 (top 42) = m_is_weighed := by kernel_rfl
def m_low_loads : List Ent → M PyData := callM 2 8
  (seqS (asgN [0] (repN (aC (eK (.int 0)) aN) (eV 0)) 2)
  (seqS (asgN [] (nD (eK (.int 0))) 3)
  (seqS (loopM [0, 1] (revM (callE m_rows_by_strength (consH (nameH 0) (consH (nameH 1) hN)))) (setD 4)
    (seqS (ifM [3, 4, 7, 1] (orM (cmpM .Gt (eV 3) (eK (.int 0))) (truM (eBlt anyF (aC (listM (seqM (eV 1)) [6, 7] (setD 7) tY (eCmp .In (eIx (eV 4) (eK (.int 0))) (eV 7))) aN))))
      (seqS (augM [] 3 (fun i j => i + j) (eK (.int 1)))
      sN)
      sN)
    (seqS (loopM [4] (seqM (eV 4)) (setD 5)
      (seqS (storeM 2 [3] [5] (eV 3) (eV 5))
      sN))
    sN)))
  (seqS (retM [2] (eBlt tupleF (aC (eV 2) aN)))
  sN))))
def N_low_loads : List Str := ["many", "family", "lows", "low", "row", "member", ".0", "lot"]
def G_low_loads : List (Str × Gk) := [("reversed", .blt), ("rows_by_strength", .fn m_rows_by_strength), ("any", .blt), ("tuple", .blt)]
theorem c_low_loads (tb : Option (Addr × Addr)) : defF 40 (defC N_low_loads (top 43) 6 6 (gt G_low_loads) tb mtEq) 2 (top 43) = m_low_loads := by kernel_rfl
def b_loads_summing (F : List Ent → M PyData) : List Ent → M PyData := callM 2 6
  (seqS (ifM [0] (cmpM .Eq (eBlt lenF (aC (eV 0) aN)) (eK (.int 1)))
    (seqS (retM [1] (eLst (aC (eTup (aC (eV 1) aN)) aN)))
    sN)
    sN)
  (seqS (asgN [] (nLst aN) 2)
  (seqS (loopM [0, 1, 0] (rng2M (aC (eIx (eV 0) (eK (.int 0))) (aC (eBin .Add (eBin .Sub (eV 1) (eBlt sumF2 (aC (eCut (eV 0) (intM (eK (.int 1))) oN) aN))) (eK (.int 1))) aN))) (setD 3)
    (seqS (extM 2 [3, 5, 0, 1, 3] (listN (seqM (callE F (consH (hD (eCut (eV 0) (intM (eK (.int 1))) oN)) (consH (hD (eBin .Sub (eV 1) (eV 3))) hN)))) [4, 5] (setD 5) tY (eBin .Add (eTup (aC (eV 3) aN)) (eV 5))))
    sN))
  (seqS (retM [2] (eV 2))
  sN))))
def m_loads_summing : List Ent → M PyData := recM b_loads_summing 12
def N_loads_summing : List Str := ["lows", "total", "found", "load", ".0", "rest"]
def G_loads_summing (F : List Ent → M PyData) : List (Str × Gk) := [("len", .blt), ("range", .blt), ("sum", .blt), ("loads_summing", .fn F)]
theorem c_loads_summing (F : List Ent → M PyData) (j k : Nat) (tb : Option (Addr × Addr)) : defF 40 (defC N_loads_summing (top 44) j k (gt (G_loads_summing F)) tb mtEq) 2 (top 44) = b_loads_summing F := by kernel_rfl
def m_least_quota : List Ent → M PyData := callM 3 6
  (seqS (asgN [2, 5, 1] (nD (maxDM (listM (seqM (eV 1)) [4, 5] (setD 5) tY (eBin .Add (callE m_load_of (consH (nameH 2) (consH (nameH 5) hN))) (eK (.int 1)))) (eK (.int 0)))) 3)
  (seqS (ifM [2, 5, 3, 0] (truM (eBlt allF (aC (listM (seqM (eV 0)) [4, 5] (setD 5) tY (eCmp .GtE (callE m_load_of (consH (nameH 2) (consH (nameH 5) hN))) (eV 3))) aN)))
    (seqS (retM [3] (eV 3))
    sN)
    sN)
  (seqS (retM [] (eK .none))
  sN)))
def N_least_quota : List Str := ["family", "losing", "loads", "quota", ".0", "lot"]
def G_least_quota : List (Str × Gk) := [("max", .blt), ("load_of", .fn m_load_of), ("all", .blt)]
theorem c_least_quota (tb : Option (Addr × Addr)) : defF 40 (defC N_least_quota (top 45) 3 3 (gt G_least_quota) tb mtEq) 3 (top 45) = m_least_quota := by kernel_rfl
def m_found_weighing : List Ent → M PyData := callM 2 9
  (seqS (asgN [8, 0, 1, 8] (listN (seqM (callE m_all_subsets (consH (nameH 0) hN))) [7, 8] (setD 8) (tNot (truM (callE m_is_over_one (consH (nameH 1) (consH (nameH 8) hN))))) (eV 8)) 2)
  (seqS (asgN [0, 1] (nD (callE m_low_loads (consH (nameH 0) (consH (nameH 1) hN)))) 3)
  (seqS (loopM [3, 0] (rng2M (aC (eBlt sumF2 (aC (eV 3) aN)) (aC (eBin .Add (eBin .Mult (eK (.int 99)) (eV 0)) (eK (.int 1))) aN))) (setD 4)
    (seqS (loopM [3, 4] (seqM (callE m_loads_summing (consH (nameH 3) (consH (nameH 4) hN)))) (setD 5)
      (seqS (asgN [1, 2, 5] (nD (callE m_least_quota (consH (nameH 1) (consH (nameH 2) (consH (nameH 5) hN))))) 6)
      (seqS (ifM [6] (cmpM .IsNot (eV 6) (eK .none))
        (seqS (retM [5, 6] (eTup (aC (eV 5) (aC (eV 6) aN))))
        sN)
        sN)
      sN)))
    sN))
  (seqS (retM [] (eK .none))
  sN))))
def N_found_weighing : List Str := ["many", "family", "losing", "lows", "total", "loads", "quota", ".0", "lot"]
def G_found_weighing : List (Str × Gk) := [("all_subsets", .fn m_all_subsets), ("is_over_one", .fn m_is_over_one), ("low_loads", .fn m_low_loads), ("range", .blt), ("sum", .blt), ("MOST_LOAD", .con (.int 99)), ("loads_summing", .fn m_loads_summing), ("least_quota", .fn m_least_quota)]
theorem c_found_weighing (tb : Option (Addr × Addr)) : defF 40 (defC N_found_weighing (top 46) 14 14 (gt G_found_weighing) tb mtEq) 2 (top 46) = m_found_weighing := by kernel_rfl
def m_least_weighing : List Ent → M PyData := callM 2 2
  (seqS (ifM [0, 1] (tNot (truM (callE m_is_weighed (consH (nameH 0) (consH (nameH 1) hN)))))
    (seqS (retM [] (eK .none))
    sN)
    sN)
  (seqS (retM [0, 1] (callE m_found_weighing (consH (nameH 0) (consH (nameH 1) hN))))
  sN))
def N_least_weighing : List Str := ["many", "family"]
def G_least_weighing : List (Str × Gk) := [("is_weighed", .fn m_is_weighed), ("found_weighing", .fn m_found_weighing)]
theorem c_least_weighing (tb : Option (Addr × Addr)) : defF 40 (defC N_least_weighing (top 47) 15 15 (gt G_least_weighing) tb mtEq) 2 (top 47) = m_least_weighing := by kernel_rfl
def m_full_weighing : List Ent → M PyData := callM 2 7
  (seqS (asgN [0, 1] (nD (callE m_least_weighing (consH (nameH 0) (consH (nameH 1) hN)))) 2)
  (seqS (ifM [2] (cmpM .Is (eV 2) (eK .none))
    (seqS (retM [] (eK .none))
    sN)
    sN)
  (seqS (asgM [2] (eV 2) (tupG 2 (consG (setD 3) (consG (setD 4) nilG))))
  (seqS (retM [6, 3, 4] (eTup (aC (eBlt tupleF (aC (listM (seqM (eV 3)) [5, 6] (setD 6) tY (eBin .Add (eBin .Mult (eK (.int 6)) (eV 6)) (eK (.int 1)))) aN)) (aC (eBin .Mult (eK (.int 6)) (eV 4)) aN))))
  sN))))
def N_full_weighing : List Str := ["many", "family", "least", "loads", "quota", ".0", "load"]
def G_full_weighing : List (Str × Gk) := [("least_weighing", .fn m_least_weighing), ("tuple", .blt)]
theorem c_full_weighing (tb : Option (Addr × Addr)) : defF 40 (defC N_full_weighing (top 48) 16 16 (gt G_full_weighing) tb mtEq) 2 (top 48) = m_full_weighing := by kernel_rfl
def m_weighing_paper : List Ent → M PyData := callM 2 9
  (seqS (dropM [0, 1] (callE m_need_family (consH (nameH 0) (consH (nameH 1) hN))))
  (seqS (asgN [0, 1] (nD (callE m_unlike_pair (consH (nameH 0) (consH (nameH 1) hN)))) 2)
  (seqS (ifM [2] (cmpM .Is (eV 2) (eK .none))
    (seqS (asgM [0, 1] (callE m_found_weighing (consH (nameH 0) (consH (nameH 1) hN))) (tupG 2 (consG (setD 3) (consG (setD 4) nilG))))
    (seqS (retM [3, 4] (eTup (aC (eK (.str "loads")) (aC (eV 3) (aC (eV 4) aN)))))
    sN))
    sN)
  (seqS (asgM [2] (eV 2) (tupG 2 (consG (setD 5) (consG (setD 6) nilG))))
  (seqS (asgN [1, 6, 5] (nD (callE m_lost_by (consH (nameH 1) (consH (nameH 6) (consH (nameH 5) hN))))) 7)
  (seqS (asgN [1, 5, 6] (nD (callE m_lost_by (consH (nameH 1) (consH (nameH 5) (consH (nameH 6) hN))))) 8)
  (seqS (retM [7, 8, 5, 6] (eTup (aC (eK (.str "swap")) (aC (eV 7) (aC (eV 8) (aC (eV 5) (aC (eV 6) aN)))))))
  sN)))))))
def N_weighing_paper : List Str := ["many", "family", "pair", "loads", "quota", "member", "far_member", "lot", "far_lot"]
def G_weighing_paper : List (Str × Gk) := [("need_family", .fn m_need_family), ("unlike_pair", .fn m_unlike_pair), ("found_weighing", .fn m_found_weighing), ("lost_by", .fn m_lost_by)]
theorem c_weighing_paper (tb : Option (Addr × Addr)) : defF 40 (defC N_weighing_paper (top 49) 15 15 (gt G_weighing_paper) tb mtEq) 2 (top 49) = m_weighing_paper := by kernel_rfl
def m_need_paper_form : List Ent → M PyData := callM 1 1
  (seqS (ifM [0, 0] (andM (truM (callE m_is_tuple_of (consH (nameH 0) (consH (hD (eK (.int 3))) hN)))) (truM (callE m_is_word_of (consH (hD (eIx (eV 0) (eK (.int 0)))) (consH (hD (eTup (aC (eK (.str "loads")) aN))) hN)))))
    (seqS (retM [] (eK (.str "loads")))
    sN)
    sN)
  (seqS (ifM [0, 0] (andM (truM (callE m_is_tuple_of (consH (nameH 0) (consH (hD (eK (.int 5))) hN)))) (truM (callE m_is_word_of (consH (hD (eIx (eV 0) (eK (.int 0)))) (consH (hD (eTup (aC (eK (.str "swap")) aN))) hN)))))
    (seqS (retM [] (eK (.str "swap")))
    sN)
    sN)
  (seqS (raiseM [] "BadPaper" "word" (eK (.str "form")))
  sN)))
def N_need_paper_form : List Str := ["paper"]
def G_need_paper_form : List (Str × Gk) := [("is_tuple_of", .fn m_is_tuple_of), ("is_word_of", .fn m_is_word_of), ("BadPaper", .err "word")]
theorem c_need_paper_form (tb : Option (Addr × Addr)) : defF 40 (defC N_need_paper_form (top 50) 3 3 (gt G_need_paper_form) tb mtEq) 1 (top 50) = m_need_paper_form := by kernel_rfl
def m_do_loads_hold : List Ent → M PyData := callM 4 4
  (seqS (retM [0, 2, 3, 0, 2, 3, 1] (andTM (callE m_is_weighing (consH (nameH 0) (consH (hD (eTup (aC (eV 2) (aC (eV 3) aN)))) hN))) (eCmp .Eq (callE m_family_weighed (consH (nameH 0) (consH (nameH 2) (consH (nameH 3) hN)))) (eV 1))))
  sN)
def N_do_loads_hold : List Str := ["many", "family", "loads", "quota"]
def G_do_loads_hold : List (Str × Gk) := [("is_weighing", .fn m_is_weighing), ("family_weighed", .fn m_family_weighed)]
theorem c_do_loads_hold (tb : Option (Addr × Addr)) : defF 40 (defC N_do_loads_hold (top 51) 5 5 (gt G_do_loads_hold) tb mtEq) 4 (top 51) = m_do_loads_hold := by kernel_rfl
def m_does_swap_hold : List Ent → M PyData := callM 3 7
  (seqS (asgM [2] (eV 2) (tupG 4 (consG (setD 3) (consG (setD 4) (consG (setD 5) (consG (setD 6) nilG))))))
  (seqS (ifM [0, 3, 0, 4] (orM (truM (callE m_subset_fault (consH (nameH 0) (consH (nameH 3) hN)))) (truM (callE m_subset_fault (consH (nameH 0) (consH (nameH 4) hN)))))
    (seqS (retM [] (eK (.bool false)))
    sN)
    sN)
  (seqS (ifM [5, 0, 6, 0] (orM (tNot (truM (callE m_is_integer_from (consH (nameH 5) (consH (hD (eK (.int 0))) (consH (hD (eBin .Sub (eV 0) (eK (.int 1)))) hN)))))) (tNot (truM (callE m_is_integer_from (consH (nameH 6) (consH (hD (eK (.int 0))) (consH (hD (eBin .Sub (eV 0) (eK (.int 1)))) hN)))))))
    (seqS (retM [] (eK (.bool false)))
    sN)
    sN)
  (seqS (ifM [5, 3, 5, 4, 6, 3, 6, 4] (orM (cmpM .NotIn (eV 5) (eV 3)) (orM (cmpM .In (eV 5) (eV 4)) (orM (cmpM .In (eV 6) (eV 3)) (cmpM .NotIn (eV 6) (eV 4)))))
    (seqS (retM [] (eK (.bool false)))
    sN)
    sN)
  (seqS (ifM [1, 3, 1, 4] (orM (tNot (truM (callE m_is_over_one (consH (nameH 1) (consH (nameH 3) hN))))) (tNot (truM (callE m_is_over_one (consH (nameH 1) (consH (nameH 4) hN))))))
    (seqS (retM [] (eK (.bool false)))
    sN)
    sN)
  (seqS (ifM [1, 3, 5, 6] (truM (callE m_is_over_one (consH (nameH 1) (consH (hD (callE m_exchanged (consH (nameH 3) (consH (nameH 5) (consH (nameH 6) hN))))) hN))))
    (seqS (retM [] (eK (.bool false)))
    sN)
    sN)
  (seqS (retM [1, 4, 6, 5] (notM (callE m_is_over_one (consH (nameH 1) (consH (hD (callE m_exchanged (consH (nameH 4) (consH (nameH 6) (consH (nameH 5) hN))))) hN)))))
  sN)))))))
def N_does_swap_hold : List Str := ["many", "family", "swap", "lot", "far_lot", "member", "far_member"]
def G_does_swap_hold : List (Str × Gk) := [("subset_fault", .fn m_subset_fault), ("is_integer_from", .fn m_is_integer_from), ("is_over_one", .fn m_is_over_one), ("exchanged", .fn m_exchanged)]
theorem c_does_swap_hold (tb : Option (Addr × Addr)) : defF 40 (defC N_does_swap_hold (top 52) 6 6 (gt G_does_swap_hold) tb mtEq) 3 (top 52) = m_does_swap_hold := by kernel_rfl
def m_check_weighing : List Ent → M PyData := callM 3 5
  (seqS (dropM [0, 1] (callE m_need_family (consH (nameH 0) (consH (nameH 1) hN))))
  (seqS (asgN [2] (nD (callE m_need_paper_form (consH (nameH 2) hN))) 3)
  (seqS (ifM [3] (cmpM .Eq (eV 3) (eK (.str "loads")))
    (seqS (asgN [0, 1, 2, 2] (nD (callE m_do_loads_hold (consH (nameH 0) (consH (nameH 1) (consH (hD (eIx (eV 2) (eK (.int 1)))) (consH (hD (eIx (eV 2) (eK (.int 2)))) hN)))))) 4)
    sN)
    (seqS (asgN [0, 1, 2] (nD (callE m_does_swap_hold (consH (nameH 0) (consH (nameH 1) (consH (hD (eCut (eV 2) (intM (eK (.int 1))) oN)) hN))))) 4)
    sN))
  (seqS (ifM [4] (tNot (truM (eV 4)))
    (seqS (raiseM [3] "BadPaper" "word" (eV 3))
    sN)
    sN)
  (seqS (retM [3] (eV 3))
  sN)))))
def N_check_weighing : List Str := ["many", "family", "paper", "word", "does_hold"]
def G_check_weighing : List (Str × Gk) := [("need_family", .fn m_need_family), ("need_paper_form", .fn m_need_paper_form), ("do_loads_hold", .fn m_do_loads_hold), ("does_swap_hold", .fn m_does_swap_hold), ("BadPaper", .err "word")]
theorem c_check_weighing (tb : Option (Addr × Addr)) : defF 40 (defC N_check_weighing (top 53) 9 9 (gt G_check_weighing) tb mtEq) 3 (top 53) = m_check_weighing := by kernel_rfl
def m__law_mixed : List Ent → M PyData := callM 2 3
  (seqS (asgN [0, 1, 1, 1, 1] (nAdd (eBin .Add (eBin .Mod (eBlt intF (aC (eBin .Mult (eBin .Mult (eV 0) (eBin .Add (eK (.int 1)) (eBin .Mult (eK (.int 2)) (eV 1)))) (eK (.int 48271))) aN)) (eK (.int 2147483647))) (eBin .Mult (eBin .Mult (eK (.int 7919)) (eV 1)) (eV 1))) (eBin .Mult (eK (.int 104729)) (eV 1))) 2)
  (seqS (retM [2] (eBin .FloorDiv (eBin .Mod (eBlt intF (aC (eBin .Mult (eV 2) (eK (.int 69621))) aN)) (eK (.int 2147483629))) (eK (.int 7))))
  sN))
def N__law_mixed : List Str := ["cell", "n", "blend"]
def G__law_mixed : List (Str × Gk) := [("int", .blt)]
theorem c__law_mixed (tb : Option (Addr × Addr)) : defF 40 (defC N__law_mixed (top 55) 2 2 (gt G__law_mixed) tb mtEq) 2 (top 55) = m__law_mixed := by kernel_rfl
def m__law_draw : List Ent → M PyData := drawM
def m__law_folded : List Ent → M PyData := callM 1 5
  (seqS (asgN [1] (listN (rng1M (aC (eK (.int 64)) aN)) [4, 1] (setD 1) tY (eBin .Add (eK (.int 17)) (eV 1))) 2)
  (seqS (loopM [0] (enumM2 (aC (eV 0) aN)) (tupG 2 (consG (setD 1) (consG (setD 3) nilG)))
    (seqS (storeM 2 [2, 1, 3] [1] (eBin .Mod (eBlt intF (aC (eBin .Add (eBin .Mult (eIx (eV 2) (eBin .Mod (eBlt intF (aC (eV 1) aN)) (eK (.int 64)))) (eK (.int 48271))) (eV 3)) aN)) (eK (.int 2147483647))) (eBin .Mod (eBlt intF (aC (eV 1) aN)) (eK (.int 64))))
    sN))
  (seqS (loopM [] (rng2M (aC (eK (.int 1)) (aC (eK (.int 64)) aN))) (setD 1)
    (seqS (storeM 2 [2, 1, 2, 1] [1] (eBin .Mod (eBlt intF (aC (eBin .Add (eIx (eV 2) (eV 1)) (eBin .Mult (eIx (eV 2) (eBin .Sub (eV 1) (eK (.int 1)))) (eK (.int 16807)))) aN)) (eK (.int 2147483647))) (eV 1))
    sN))
  (seqS (retM [2] (eV 2))
  sN))))
def N__law_folded : List Str := ["script", "n", "found", "cell", ".0"]
def G__law_folded : List (Str × Gk) := [("range", .blt), ("enumerate", .blt), ("int", .blt)]
theorem c__law_folded (tb : Option (Addr × Addr)) : defF 40 (defC N__law_folded (top 56) 2 2 (gt G__law_folded) tb mtEq) 1 (top 56) = m__law_folded := by kernel_rfl
def m__law_like : List Ent → M PyData := callM 2 2
  (seqS (retM [0, 1] (eCmp .Eq (eBlt reprF (aC (eV 0) aN)) (eBlt reprF (aC (eV 1) aN))))
  sN)
def N__law_like : List Str := ["got", "due"]
def G__law_like : List (Str × Gk) := [("repr", .blt)]
theorem c__law_like (tb : Option (Addr × Addr)) : defF 40 (defC N__law_like (top 59) 2 2 (gt G__law_like) tb mtEq) 2 (top 59) = m__law_like := by kernel_rfl
def m__law_of : List Ent → M PyData := callM 2 2
  (seqS (retM [1, 0, 1] (eIx (eV 1) (callE m__law_draw (consH (nameH 0) (consH (hD (eBlt lenF (aC (eV 1) aN))) hN)))))
  sN)
def N__law_of : List Str := ["m", "some"]
def G__law_of : List (Str × Gk) := [("_law_draw", .fn m__law_draw), ("len", .blt)]
theorem c__law_of (tb : Option (Addr × Addr)) : defF 40 (defC N__law_of (top 60) 4 4 (gt G__law_of) tb mtEq) 2 (top 60) = m__law_of := by kernel_rfl
def m__law_lots : List Ent → M PyData := callM 1 5
  (seqS (asgN [] (nLst (aC (eTup aN) aN)) 1)
  (seqS (loopM [0] (rng1M (aC (eV 0) aN)) (setD 2)
    (seqS (asgN [1, 4, 2, 1] (nAdd (eV 1) (listM (seqM (eV 1)) [3, 4] (setD 4) tY (eBin .Add (eV 4) (eTup (aC (eV 2) aN))))) 1)
    sN))
  (seqS (retM [1] (eBlt sortF (aC (eV 1) aN)))
  sN)))
def N__law_lots : List Str := ["many", "found", "k", ".0", "lot"]
def G__law_lots : List (Str × Gk) := [("range", .blt), ("sorted", .blt)]
theorem c__law_lots (tb : Option (Addr × Addr)) : defF 40 (defC N__law_lots (top 61) 2 2 (gt G__law_lots) tb mtEq) 1 (top 61) = m__law_lots := by kernel_rfl
def m__law_within : List Ent → M PyData := callM 2 4
  (seqS (retM [3, 0, 3, 1] (eCmp .Eq (listM (seqM (eV 0)) [2, 3] (setD 3) (cmpM .NotIn (eV 3) (eV 1)) (eV 3)) (eLst aN)))
  sN)
def N__law_within : List Str := ["lot", "far", ".0", "one"]
def G__law_within : List (Str × Gk) := []
theorem c__law_within (tb : Option (Addr × Addr)) : defF 40 (defC N__law_within (top 62) 2 2 (gt G__law_within) tb mtEq) 2 (top 62) = m__law_within := by kernel_rfl
def m__law_has : List Ent → M PyData := callM 2 4
  (seqS (retM [0, 3, 1] (eCmp .NotEq (listM (seqM (eV 0)) [2, 3] (setD 3) (truM (callE m__law_within (consH (nameH 3) (consH (nameH 1) hN)))) (eK (.int 1))) (eLst aN)))
  sN)
def N__law_has : List Str := ["some", "lot", ".0", "least"]
def G__law_has : List (Str × Gk) := [("_law_within", .fn m__law_within)]
theorem c__law_has (tb : Option (Addr × Addr)) : defF 40 (defC N__law_has (top 63) 3 3 (gt G__law_has) tb mtEq) 2 (top 63) = m__law_has := by kernel_rfl
def m__law_bare : List Ent → M PyData := callM 1 5
  (seqS (asgN [0] (nD (eSet (eV 0))) 1)
  (seqS (retM [3, 1, 1, 4, 3, 4, 3] (eBlt tupleF (aC (listM (seqM (eV 1)) [2, 3] (setD 3) (cmpM .Eq (listM (seqM (eV 1)) [2, 4] (setD 4) (andM (cmpM .NotEq (eV 4) (eV 3)) (truM (callE m__law_within (consH (nameH 4) (consH (nameH 3) hN))))) (eK (.int 1))) (eLst aN)) (eV 3)) aN)))
  sN))
def N__law_bare : List Str := ["some", "lots_so", ".0", "lot", "far"]
def G__law_bare : List (Str × Gk) := [("sorted", .blt), ("set", .blt), ("tuple", .blt), ("_law_within", .fn m__law_within)]
theorem c__law_bare (tb : Option (Addr × Addr)) : defF 40 (defC N__law_bare (top 64) 3 3 (gt G__law_bare) tb mtEq) 1 (top 64) = m__law_bare := by kernel_rfl
def m__law_family : List Ent → M PyData := callM 2 6
  (seqS (asgN [0] (nD (callE m__law_draw (consH (nameH 0) (consH (hD (eK (.int 9))) hN)))) 2)
  (seqS (ifM [2] (cmpM .Lt (eV 2) (eK (.int 2)))
    (seqS (retM [2] (eIx (eLst (aC (eTup aN) (aC (eTup (aC (eTup aN) aN)) aN))) (eV 2)))
    sN)
    sN)
  (seqS (asgN [0] (nAdd (eK (.int 2)) (callE m__law_draw (consH (nameH 0) (consH (hD (eK (.int 4))) hN)))) 3)
  (seqS (retM [5, 1, 5, 0, 3] (callE m__law_bare (consH (hD (listM (seqM (callE m__law_lots (consH (nameH 1) hN))) [4, 5] (setD 5) (andM (cmpM .NotEq (eV 5) (eTup aN)) (cmpM .Eq (callE m__law_draw (consH (nameH 0) (consH (nameH 3) hN))) (eK (.int 0)))) (eV 5))) hN)))
  sN))))
def N__law_family : List Str := ["m", "many", "way", "share_so", ".0", "lot"]
def G__law_family : List (Str × Gk) := [("_law_draw", .fn m__law_draw), ("_law_bare", .fn m__law_bare), ("_law_lots", .fn m__law_lots)]
theorem c__law_family (tb : Option (Addr × Addr)) : defF 40 (defC N__law_family (top 65) 4 4 (gt G__law_family) tb mtEq) 2 (top 65) = m__law_family := by kernel_rfl
def b__law_every (F : List Ent → M PyData) : List Ent → M PyData := callM 1 7
  (seqS (ifM [0] (cmpM .Eq (eV 0) (eK (.int 0)))
    (seqS (retM [] (eLst (aC (eTup aN) (aC (eTup (aC (eTup aN) aN)) aN))))
    sN)
    sN)
  (seqS (parM [0] (nD (callE F (consH (hD (eBin .Sub (eV 0) (eK (.int 1)))) hN))) (nLst aN) 1 2)
  (seqS (loopM [1] (seqM (eV 1)) (setD 3)
    (seqS (loopM [1] (seqM (eV 1)) (setD 4)
      (seqS (ifM [3, 4, 6] (cmpM .Eq (listM (seqM (eV 3)) [5, 6] (setD 6) (tNot (truM (callE m__law_has (consH (nameH 4) (consH (nameH 6) hN))))) (eK (.int 1))) (eLst aN))
        (seqS (appM 2 [3, 6, 0, 4] (callE m__law_bare (consH (hD (eBin .Add (eBlt listF (aC (eV 3) aN)) (listM (seqM (eV 4)) [5, 6] (setD 6) tY (eBin .Add (eV 6) (eTup (aC (eBin .Sub (eV 0) (eK (.int 1))) aN)))))) hN)))
        sN)
        sN)
      sN))
    sN))
  (seqS (retM [2] (eBlt sortF (aC (eV 2) aN)))
  sN))))
def m__law_every : List Ent → M PyData := recM b__law_every 12
def N__law_every : List Str := ["many", "less", "found", "low", "high", ".0", "lot"]
def G__law_every (F : List Ent → M PyData) : List (Str × Gk) := [("_law_every", .fn F), ("_law_has", .fn m__law_has), ("_law_bare", .fn m__law_bare), ("list", .blt), ("sorted", .blt)]
theorem c__law_every (F : List Ent → M PyData) (j k : Nat) (tb : Option (Addr × Addr)) : defF 40 (defC N__law_every (top 66) j k (gt (G__law_every F)) tb mtEq) 1 (top 66) = b__law_every F := by kernel_rfl
def b__law_loads (F : List Ent → M PyData) : List Ent → M PyData := callM 2 6
  (seqS (ifM [0] (cmpM .Eq (eV 0) (eK (.int 1)))
    (seqS (retM [1] (eLst (aC (eTup (aC (eV 1) aN)) aN)))
    sN)
    sN)
  (seqS (asgN [] (nLst aN) 2)
  (seqS (loopM [1] (rng1M (aC (eBin .Add (eV 1) (eK (.int 1))) aN)) (setD 3)
    (seqS (asgN [2, 3, 5, 0, 1, 3] (nAdd (eV 2) (listM (seqM (callE F (consH (hD (eBin .Sub (eV 0) (eK (.int 1)))) (consH (hD (eBin .Sub (eV 1) (eV 3))) hN)))) [4, 5] (setD 5) tY (eBin .Add (eTup (aC (eV 3) aN)) (eV 5)))) 2)
    sN))
  (seqS (retM [2] (eV 2))
  sN))))
def m__law_loads : List Ent → M PyData := recM b__law_loads 12
def N__law_loads : List Str := ["many", "total", "found", "first", ".0", "rest"]
def G__law_loads (F : List Ent → M PyData) : List (Str × Gk) := [("range", .blt), ("_law_loads", .fn F)]
theorem c__law_loads (F : List Ent → M PyData) (j k : Nat) (tb : Option (Addr × Addr)) : defF 40 (defC N__law_loads (top 67) j k (gt (G__law_loads F)) tb mtEq) 2 (top 67) = b__law_loads F := by kernel_rfl
def m__law_quota : List Ent → M PyData := callM 3 10
  (seqS (parM [] (nLst (aC (eBin .Sub (eK (.int 0)) (eK (.int 1))) aN)) (nLst aN) 3 4)
  (seqS (loopM [0] (seqM (callE m__law_lots (consH (nameH 0) hN))) (setD 5)
    (seqS (asgN [2, 9, 5] (nD (eBlt sumF2 (aC (listM (seqM (eV 5)) [8, 9] (setD 9) tY (eIx (eV 2) (eV 9))) aN))) 6)
    (seqS (ifM [1, 5] (truM (callE m__law_has (consH (nameH 1) (consH (nameH 5) hN))))
      (seqS (appM 4 [6] (eV 6))
      sN)
      (seqS (appM 3 [6] (eV 6))
      sN))
    sN)))
  (seqS (asgN [3] (nAdd (eBlt maxF (aC (eV 3) aN)) (eK (.int 1))) 7)
  (seqS (retM [4, 6, 7, 7] (eIf (cmpM .Eq (listM (seqM (eV 4)) [8, 6] (setD 6) (cmpM .Lt (eV 6) (eV 7)) (eK (.int 1))) (eLst aN)) (eLst (aC (eV 7) aN)) (eLst aN)))
  sN))))
def N__law_quota : List Str := ["many", "family_so", "loads_so", "out", "own", "lot", "load", "quota", ".0", "k"]
def G__law_quota : List (Str × Gk) := [("_law_lots", .fn m__law_lots), ("sum", .blt), ("_law_has", .fn m__law_has), ("max", .blt)]
theorem c__law_quota (tb : Option (Addr × Addr)) : defF 40 (defC N__law_quota (top 68) 4 4 (gt G__law_quota) tb mtEq) 3 (top 68) = m__law_quota := by kernel_rfl
def m__law_least : List Ent → M PyData := callM 2 5
  (seqS (loopM [] (rng1M (aC (eK (.int 11)) aN)) (setD 2)
    (seqS (loopM [0, 2] (seqM (callE m__law_loads (consH (nameH 0) (consH (nameH 2) hN)))) (setD 3)
      (seqS (asgN [0, 1, 3] (nD (callE m__law_quota (consH (nameH 0) (consH (nameH 1) (consH (nameH 3) hN))))) 4)
      (seqS (ifM [4] (cmpM .NotEq (eV 4) (eLst aN))
        (seqS (retM [3, 4] (eLst (aC (eTup (aC (eV 3) (aC (eIx (eV 4) (eK (.int 0))) aN))) aN)))
        sN)
        sN)
      sN)))
    sN))
  (seqS (retM [] (eLst aN))
  sN))
def N__law_least : List Str := ["many", "family_so", "total", "loads_so", "found"]
def G__law_least : List (Str × Gk) := [("range", .blt), ("_law_loads", .fn m__law_loads), ("_law_quota", .fn m__law_quota)]
theorem c__law_least (tb : Option (Addr × Addr)) : defF 40 (defC N__law_least (top 69) 14 14 (gt G__law_least) tb mtEq) 2 (top 69) = m__law_least := by kernel_rfl
def m__law_swapped : List Ent → M PyData := callM 3 5
  (seqS (retM [4, 2, 1, 4, 0] (eBlt tupleF (aC (eBlt sortF (aC (listM (seqM (eV 0)) [3, 4] (setD 4) tY (eIf (cmpM .Eq (eV 4) (eV 2)) (eV 1) (eV 4))) aN)) aN)))
  sN)
def N__law_swapped : List Str := ["lot", "k", "far", ".0", "one"]
def G__law_swapped : List (Str × Gk) := [("tuple", .blt), ("sorted", .blt)]
theorem c__law_swapped (tb : Option (Addr × Addr)) : defF 40 (defC N__law_swapped (top 70) 2 2 (gt G__law_swapped) tb mtEq) 3 (top 70) = m__law_swapped := by kernel_rfl
def m__law_is_apart : List Ent → M PyData := callM 2 8
  (seqS (loopM [0] (rng1M (aC (eV 0) aN)) (setD 2)
    (seqS (loopM [2] (rng1M (aC (eV 2) aN)) (setD 3)
      (seqS (asgN [] (nLst (aC (eK (.bool false)) (aC (eK (.bool false)) aN))) 4)
      (seqS (loopM [0] (seqM (callE m__law_lots (consH (nameH 0) hN))) (setD 5)
        (seqS (ifM [1, 5, 2, 5, 3, 5] (andM (truM (callE m__law_has (consH (nameH 1) (consH (nameH 5) hN)))) (cmpM .NotEq (eCmp .In (eV 2) (eV 5)) (eCmp .In (eV 3) (eV 5))))
          (seqS (asgM [2, 5, 2, 3, 3, 2] (eIf (cmpM .In (eV 2) (eV 5)) (eTup (aC (eV 2) (aC (eV 3) aN))) (eTup (aC (eV 3) (aC (eV 2) aN)))) (tupG 2 (consG (setD 6) (consG (setD 7) nilG))))
          (seqS (ifM [1, 5, 7, 6] (tNot (truM (callE m__law_has (consH (nameH 1) (consH (hD (callE m__law_swapped (consH (nameH 5) (consH (nameH 7) (consH (nameH 6) hN))))) hN)))))
            (seqS (storeM 4 [] [2, 5] (eK (.bool true)) (eBlt intF (aC (eCmp .In (eV 2) (eV 5)) aN)))
            sN)
            sN)
          sN))
          sN)
        sN))
      (seqS (ifM [4] (cmpM .Eq (eV 4) (eLst (aC (eK (.bool true)) (aC (eK (.bool true)) aN))))
        (seqS (retM [] (eK (.bool true)))
        sN)
        sN)
      sN))))
    sN))
  (seqS (retM [] (eK (.bool false)))
  sN))
def N__law_is_apart : List Str := ["many", "family_so", "k", "far", "marks", "lot", "one", "other"]
def G__law_is_apart : List (Str × Gk) := [("range", .blt), ("_law_lots", .fn m__law_lots), ("_law_has", .fn m__law_has), ("_law_swapped", .fn m__law_swapped), ("int", .blt)]
theorem c__law_is_apart (tb : Option (Addr × Addr)) : defF 40 (defC N__law_is_apart (top 71) 4 4 (gt G__law_is_apart) tb mtEq) 2 (top 71) = m__law_is_apart := by kernel_rfl
def m__law_paper_right : List Ent → M PyData := callM 4 11
  (seqS (ifM [2, 3] (cmpM .NotEq (eIx (eV 2) (eK (.int 0))) (eIx (eLst (aC (eK (.str "swap")) (aC (eK (.str "loads")) aN))) (eBlt intF (aC (eV 3) aN))))
    (seqS (retM [] (eK (.bool false)))
    sN)
    sN)
  (seqS (ifM [3] (truM (eV 3))
    (seqS (asgN [4, 0, 2, 5, 4, 2] (listN (seqM (callE m__law_lots (consH (nameH 0) hN))) [10, 4] (setD 4) (cmpM .GtE (eBlt sumF2 (aC (listM (seqM (eV 4)) [10, 5] (setD 5) tY (eIx (eIx (eV 2) (eK (.int 1))) (eV 5))) aN)) (eIx (eV 2) (eK (.int 2)))) (eV 4)) 6)
    (seqS (retM [6, 1, 0, 1, 2] (andTM (eCmp .Eq (callE m__law_bare (consH (nameH 6) hN)) (eV 1)) (eCmp .Eq (callE m_check_weighing (consH (nameH 0) (consH (nameH 1) (consH (nameH 2) hN)))) (eK (.str "loads")))))
    sN))
    sN)
  (seqS (asgM [2] (eV 2) (tupG 5 (consG (setD 7) (consG (setD 4) (consG (setD 8) (consG (setD 5) (consG (setD 9) nilG)))))))
  (seqS (ifM [1, 4, 1, 8] (orM (tNot (truM (callE m__law_has (consH (nameH 1) (consH (nameH 4) hN))))) (tNot (truM (callE m__law_has (consH (nameH 1) (consH (nameH 8) hN))))))
    (seqS (retM [] (eK (.bool false)))
    sN)
    sN)
  (seqS (ifM [5, 4, 5, 8, 9, 8, 9, 4] (orM (cmpM .NotIn (eV 5) (eV 4)) (orM (cmpM .In (eV 5) (eV 8)) (orM (cmpM .NotIn (eV 9) (eV 8)) (cmpM .In (eV 9) (eV 4)))))
    (seqS (retM [] (eK (.bool false)))
    sN)
    sN)
  (seqS (ifM [1, 4, 9, 5] (truM (callE m__law_has (consH (nameH 1) (consH (hD (callE m__law_swapped (consH (nameH 4) (consH (nameH 9) (consH (nameH 5) hN))))) hN))))
    (seqS (retM [] (eK (.bool false)))
    sN)
    sN)
  (seqS (ifM [1, 8, 5, 9] (truM (callE m__law_has (consH (nameH 1) (consH (hD (callE m__law_swapped (consH (nameH 8) (consH (nameH 5) (consH (nameH 9) hN))))) hN))))
    (seqS (retM [] (eK (.bool false)))
    sN)
    sN)
  (seqS (retM [0, 1, 2] (eCmp .Eq (callE m_check_weighing (consH (nameH 0) (consH (nameH 1) (consH (nameH 2) hN)))) (eK (.str "swap"))))
  sN))))))))
def N__law_paper_right : List Str := ["many", "family_so", "paper_so", "is_so", "lot", "k", "own", "word", "far", "other", ".0"]
def G__law_paper_right : List (Str × Gk) := [("int", .blt), ("_law_lots", .fn m__law_lots), ("sum", .blt), ("_law_bare", .fn m__law_bare), ("check_weighing", .fn m_check_weighing), ("_law_has", .fn m__law_has), ("_law_swapped", .fn m__law_swapped)]
theorem c__law_paper_right (tb : Option (Addr × Addr)) : defF 40 (defC N__law_paper_right (top 72) 10 10 (gt G__law_paper_right) tb mtEq) 4 (top 72) = m__law_paper_right := by kernel_rfl
def m__law_family_right : List Ent → M PyData := callM 2 7
  (seqS (asgN [0, 1] (nD (notM (callE m__law_is_apart (consH (nameH 0) (consH (nameH 1) hN))))) 2)
  (seqS (ifM [0, 1, 2, 0, 1, 2] (orM (cmpM .NotEq (callE m_is_weighed (consH (nameH 0) (consH (nameH 1) hN))) (eV 2)) (cmpM .Eq (eCmp .Is (callE m_strength_rows (consH (nameH 0) (consH (nameH 1) hN))) (eK .none)) (eV 2)))
    (seqS (retM [] (eK (.bool false)))
    sN)
    sN)
  (seqS (ifM [0, 1, 0, 1, 2] (tNot (truM (callE m__law_paper_right (consH (nameH 0) (consH (nameH 1) (consH (hD (callE m_weighing_paper (consH (nameH 0) (consH (nameH 1) hN)))) (consH (nameH 2) hN)))))))
    (seqS (retM [] (eK (.bool false)))
    sN)
    sN)
  (seqS (parM [0, 1, 0, 1] (nD (callE m_least_weighing (consH (nameH 0) (consH (nameH 1) hN)))) (nD (callE m_full_weighing (consH (nameH 0) (consH (nameH 1) hN)))) 3 4)
  (seqS (ifM [2] (tNot (truM (eV 2)))
    (seqS (retM [3, 4] (andTM (eCmp .Is (eV 3) (eK .none)) (eCmp .Is (eV 4) (eK .none))))
    sN)
    sN)
  (seqS (ifM [3, 0, 1] (tNot (truM (callE m__law_like (consH (hD (eLst (aC (eV 3) aN))) (consH (hD (callE m__law_least (consH (nameH 0) (consH (nameH 1) hN)))) hN)))))
    (seqS (retM [] (eK (.bool false)))
    sN)
    sN)
  (seqS (ifM [4, 6, 3, 3] (tNot (truM (callE m__law_like (consH (nameH 4) (consH (hD (eTup (aC (eBlt tupleF (aC (listM (seqM (eIx (eV 3) (eK (.int 0)))) [5, 6] (setD 6) tY (eBin .Add (eBin .Mult (eK (.int 6)) (eV 6)) (eK (.int 1)))) aN)) (aC (eBin .Mult (eK (.int 6)) (eIx (eV 3) (eK (.int 1)))) aN)))) hN)))))
    (seqS (retM [] (eK (.bool false)))
    sN)
    sN)
  (seqS (retM [0, 3, 0, 4, 1, 1] (eCmp .Eq (eLst (aC (callE m_weighed_family (consH (nameH 0) (consH (nameH 3) hN))) (aC (callE m_weighed_family (consH (nameH 0) (consH (nameH 4) hN))) aN))) (eLst (aC (eV 1) (aC (eV 1) aN)))))
  sN))))))))
def N__law_family_right : List Str := ["many", "family_so", "is_so", "told", "full", ".0", "load"]
def G__law_family_right : List (Str × Gk) := [("_law_is_apart", .fn m__law_is_apart), ("is_weighed", .fn m_is_weighed), ("strength_rows", .fn m_strength_rows), ("_law_paper_right", .fn m__law_paper_right), ("weighing_paper", .fn m_weighing_paper), ("least_weighing", .fn m_least_weighing), ("full_weighing", .fn m_full_weighing), ("_law_like", .fn m__law_like), ("_law_least", .fn m__law_least), ("tuple", .blt), ("weighed_family", .fn m_weighed_family)]
theorem c__law_family_right (tb : Option (Addr × Addr)) : defF 40 (defC N__law_family_right (top 73) 17 17 (gt G__law_family_right) tb mtEq) 2 (top 73) = m__law_family_right := by kernel_rfl
def m__law_is_too_great : List Ent → M PyData := callM 0 1
  (seqS (tryM (seqS (dropM [] (callE m_all_families (consH (hD (eK (.int 5))) hN)))
  sN)
  (catchL mtEq [("TooGreat", fun fs => ((uEq (fs.lookup ("most" : Str)) (some (.int 200)))).map .rt)]))
  (seqS (retM [] (eK (.bool false)))
  sN))
def N__law_is_too_great : List Str := ["error"]
def G__law_is_too_great : List (Str × Gk) := [("all_families", .fn m_all_families), ("TooGreat", .err "most")]
theorem c__law_is_too_great (tb : Option (Addr × Addr)) : defF 40 (defC N__law_is_too_great (top 74) 6 6 (gt G__law_is_too_great) tb mtEq) 0 (top 74) = m__law_is_too_great := by kernel_rfl
def m__law_hand_right : List Ent → M PyData := callM 0 2
  (seqS (asgN [] (nLst (aC (callE m_least_weighing (consH (hD (eK (.int 3))) (consH (hD (eTup aN)) hN))) (aC (callE m_least_weighing (consH (hD (eK (.int 3))) (consH (hD (eTup (aC (eTup aN) aN))) hN))) (aC (callE m_least_weighing (consH (hD (eK (.int 3))) (consH (hD (eTup (aC (eTup (aC (eK (.int 0)) (aC (eK (.int 1)) aN))) (aC (eTup (aC (eK (.int 0)) (aC (eK (.int 2)) aN))) aN)))) hN))) aN)))) 0)
  (seqS (ifM [0] (cmpM .NotEq (eV 0) (eLst (aC (eTup (aC (eTup (aC (eK (.int 0)) (aC (eK (.int 0)) (aC (eK (.int 0)) aN)))) (aC (eK (.int 1)) aN))) (aC (eTup (aC (eTup (aC (eK (.int 0)) (aC (eK (.int 0)) (aC (eK (.int 0)) aN)))) (aC (eK (.int 0)) aN))) (aC (eTup (aC (eTup (aC (eK (.int 2)) (aC (eK (.int 1)) (aC (eK (.int 1)) aN)))) (aC (eK (.int 3)) aN))) aN)))))
    (seqS (retM [] (eK (.bool false)))
    sN)
    sN)
  (seqS (ifM [] (tNot (truM (callE m__law_family_right (consH (hD (eK (.int 4))) (consH (hD (eTup (aC (eTup (aC (eK (.int 0)) (aC (eK (.int 1)) aN))) (aC (eTup (aC (eK (.int 2)) (aC (eK (.int 3)) aN))) aN)))) hN)))))
    (seqS (retM [] (eK (.bool false)))
    sN)
    sN)
  (seqS (asgN [] (nD (callE m_weighed_family (consH (hD (eK (.int 5))) (consH (hD (eTup (aC (eTup (aC (eK (.int 3)) (aC (eK (.int 2)) (aC (eK (.int 2)) (aC (eK (.int 1)) (aC (eK (.int 1)) aN)))))) (aC (eK (.int 5)) aN)))) hN)))) 1)
  (seqS (retM [1, 1, 1] (andTM (callE m_is_weighed (consH (hD (eK (.int 5))) (consH (nameH 1) hN))) (eCmp .Eq (callE m_weighed_family (consH (hD (eK (.int 5))) (consH (hD (callE m_full_weighing (consH (hD (eK (.int 5))) (consH (nameH 1) hN)))) hN))) (eV 1))))
  sN)))))
def N__law_hand_right : List Str := ["told", "five"]
def G__law_hand_right : List (Str × Gk) := [("least_weighing", .fn m_least_weighing), ("_law_family_right", .fn m__law_family_right), ("weighed_family", .fn m_weighed_family), ("is_weighed", .fn m_is_weighed), ("full_weighing", .fn m_full_weighing)]
theorem c__law_hand_right (tb : Option (Addr × Addr)) : defF 40 (defC N__law_hand_right (top 75) 18 18 (gt G__law_hand_right) tb mtEq) 0 (top 75) = m__law_hand_right := by kernel_rfl
def lawRest : RF :=
  (seqS (asgN [1] (nD (callE m__law_every (consH (hD (eBin .Add (eK (.int 1)) (callE m__law_draw (consH (nameH 1) (consH (hD (eK (.int 3))) hN))))) hN))) 2)
  (seqS (asgN [2] (nD (eDix [(.inl (3), 1), (.inl (6), 2), (.inl (20), 3)] (eBlt lenF (aC (eV 2) aN)))) 3)
  (seqS (ifM [3, 3, 2, 2] (tNot (truM (callE m__law_like (consH (hD (eLst (aC (callE m_all_families (consH (nameH 3) hN)) (aC (callE m_family_count (consH (nameH 3) hN)) aN)))) (consH (hD (eLst (aC (eBlt tupleF (aC (eV 2) aN)) (aC (eBlt lenF (aC (eV 2) aN)) aN)))) hN)))))
    (seqS (retM [] (eK (.bool false)))
    sN)
    sN)
  (seqS (loopM [3, 2, 1, 2] (seqM (eIf (cmpM .Lt (eV 3) (eK (.int 3))) (eV 2) (listM (rng1M (aC (eK (.int 8)) aN)) [5, 6] (setD 6) tY (callE m__law_of (consH (nameH 1) (consH (nameH 2) hN)))))) (setD 4)
    (seqS (ifM [3, 4] (tNot (truM (callE m__law_family_right (consH (nameH 3) (consH (nameH 4) hN)))))
      (seqS (retM [] (eK (.bool false)))
      sN)
      sN)
    sN))
  (seqS (ifM [] (orM (cmpM .NotEq (callE m_family_count (consH (hD (eK (.int 4))) hN)) (eK (.int 168))) (orM (tNot (truM (fun _ => m__law_is_too_great []))) (tNot (truM (fun _ => m__law_hand_right [])))))
    (seqS (retM [] (eK (.bool false)))
    sN)
    sN)
  (seqS (ifM [1] (cmpM .Eq (callE m__law_draw (consH (nameH 1) (consH (hD (eK (.int 4))) hN))) (eK (.int 0)))
    (seqS (ifM [] (orM (cmpM .NotEq (callE m_family_count (consH (hD (eK (.int 5))) hN)) (eK (.int 7581))) (tNot (truM (callE m__law_like (consH (hD (callE m_all_families (consH (hD (eK (.int 4))) hN))) (consH (hD (eBlt tupleF (aC (callE m__law_every (consH (hD (eK (.int 4))) hN)) aN))) hN))))))
      (seqS (retM [] (eK (.bool false)))
      sN)
      sN)
    sN)
    sN)
  (seqS (retM [1] (callE m__law_family_right (consH (hD (eK (.int 4))) (consH (hD (callE m__law_family (consH (nameH 1) (consH (hD (eK (.int 4))) hN)))) hN))))
  sN)))))))
def N_law : List Str := ["script", "m", "small", "many", "family_so", ".0", "k"]
def G_law : List (Str × Gk) := [("_law_every", .fn m__law_every), ("_law_draw", .fn m__law_draw), ("len", .blt), ("_law_like", .fn m__law_like), ("all_families", .fn m_all_families), ("family_count", .fn m_family_count), ("tuple", .blt), ("_law_of", .fn m__law_of), ("range", .blt), ("_law_family_right", .fn m__law_family_right), ("_law_is_too_great", .fn m__law_is_too_great), ("_law_hand_right", .fn m__law_hand_right), ("_law_family", .fn m__law_family)]
theorem c_law (tb : Option (Addr × Addr)) : evSs (ev 40) (defC N_law (top 76) 19 19 (gt G_law) tb mtEq) ((defBody (top 76)).drop 1) = lawRest := by kernel_rfl
end Q

set_option maxHeartbeats 4000000
namespace Q
open PySem L2 LamX
theorem run_mixed (a b : Int) (ω : Om) (b0 : 0 ≤ b) (b1 : b < 1100000) : m__law_mixed [.dat (.int a), .dat (.int b)] ω = .ok (.int (mixV a b)) ω := by
  have h1 : -18446744073709551616 < 1 + 2 * b ∧ 1 + 2 * b < 18446744073709551616 := by omega
  have h2 : -18446744073709551616 < b ∧ b < 18446744073709551616 := by omega
  simp [m__law_mixed, List.replicate, binD, addD, mulD, modD, fdivD, intF, addN, h1, h2, flat, mixV]
/-! ### the cells -/
def fold1 : RF := asgN [1] (listN (rng1M (aC (eK (.int 64)) aN)) [4, 1] (setD 1) tY (eBin .Add (eK (.int 17)) (eV 1))) 2
def foldB : RF := seqS (storeM 2 [2, 1, 3] [1] (eBin .Mod (eBlt intF (aC (eBin .Add (eBin .Mult (eIx (eV 2) (eBin .Mod (eBlt intF (aC (eV 1) aN)) (eK (.int 64)))) (eK (.int 48271))) (eV 3)) aN)) (eK (.int 2147483647))) (eBin .Mod (eBlt intF (aC (eV 1) aN)) (eK (.int 64)))) sN
def fold2 : RF := loopM [0] (enumM2 (aC (eV 0) aN)) (tupG 2 (consG (setD 1) (consG (setD 3) nilG))) foldB
def foldC : RF := seqS (storeM 2 [2, 1, 2, 1] [1] (eBin .Mod (eBlt intF (aC (eBin .Add (eIx (eV 2) (eV 1)) (eBin .Mult (eIx (eV 2) (eBin .Sub (eV 1) (eK (.int 1)))) (eK (.int 16807)))) aN)) (eK (.int 2147483647))) (eV 1)) sN
def fold3 : RF := loopM [] (rng2M (aC (eK (.int 1)) (aC (eK (.int 64)) aN))) (setD 1) foldC
def intsR (cs : List Int) : Ent := .own (cs.map PyData.int)
theorem at_ints (cs : List Int) (k : Int) (h0 : 0 ≤ k) (h1 : k < cs.length) : L2.atI (cs.map PyData.int) k = some (.int (cs.getD k.toNat 0)) := by
  unfold L2.atI L2.ixN
  rw [List.length_map, if_pos h0, if_pos h1]
  show (cs.map PyData.int)[k.toNat]? = _
  rw [List.getElem?_map, List.getD, List.getElem?_eq_getElem (by omega)]
  rfl
theorem ix_ok (n : Nat) (k : Int) (h0 : 0 ≤ k) (h1 : k < n) : L2.ixN n k = some k.toNat := by
  unfold L2.ixN
  rw [if_pos h0, if_pos h1]
theorem set_ok {cs : List Int} (h : cellsOk cs) (j : Nat) {v : Int} (h0 : 0 ≤ v) (h1 : v < 2147483648) : cellsOk (cs.set j v) :=
  ⟨by rw [List.length_set]; exact h.1, fun x hx => by
    rcases List.mem_or_eq_of_mem_set hx with q | q
    · exact h.2 x q
    · subst q; exact ⟨h0, h1⟩⟩
theorem foldB_run (sc : PyData) (i x : Int) (x4 : Option Ent) (cs : List Int) (ω : Om) (hi : 0 ≤ i) (h : cellsOk cs) : ∃ cs', cellsOk cs' ∧
    foldB [some (.dat sc), some (.dat (.int i)), some (intsR cs), some (.dat (.int x)), x4] ω = .ok (.nx [some (.dat sc), some (.dat (.int i)), some (intsR cs'), some (.dat (.int x)), x4]) ω := by
  have k0 : 0 ≤ i.fmod 64 := by rw [Int.fmod_eq_emod_of_nonneg i (by decide)]; exact Int.emod_nonneg _ (by decide)
  have k1 : i.fmod 64 < (cs.length : Int) := by rw [h.1, Int.fmod_eq_emod_of_nonneg i (by decide)]; exact Int.emod_lt_of_pos _ (by decide)
  have e1 := at_ints cs (i.fmod 64) k0 k1
  have e2 := ix_ok cs.length (i.fmod 64) k0 k1
  refine ⟨cs.set (i.fmod 64).toNat ((cs.getD (i.fmod 64).toNat 0 * 48271 + x).fmod 2147483647), set_ok h _ ?_ ?_, ?_⟩
  · rw [Int.fmod_eq_emod_of_nonneg _ (by decide)]; exact Int.emod_nonneg _ (by decide)
  · rw [Int.fmod_eq_emod_of_nonneg _ (by decide)]; exact Int.lt_trans (Int.emod_lt_of_pos _ (by decide)) (by decide)
  · simp [foldB, storeM, intsR, binD, addD, mulD, modD, intF, flat, itemD, e1, e2, List.map_set]
theorem fold2_go (sc : PyData) (x4 : Option Ent) (ω : Om) : ∀ (xs : List Int) (k : Nat) (x1 x3 : Option Ent) (cs : List Int), cellsOk cs → ∃ (y1 y3 : Option Ent) (cs' : List Int), cellsOk cs' ∧
    forM (tupG 2 (consG (setD 1) (consG (setD 3) nilG))) foldB ((List.range' k xs.length).zipWith (fun (i : Nat) d => PyData.tuple [.int i, d]) (xs.map PyData.int)) [some (.dat sc), x1, some (intsR cs), x3, x4] ω = .ok (.nx [some (.dat sc), y1, some (intsR cs'), y3, x4]) ω
  | [], k, x1, x3, cs, h => ⟨x1, x3, cs, h, rfl⟩
  | x :: xs, k, x1, x3, cs, h => by
    obtain ⟨cs1, h1, e1⟩ := foldB_run sc (k : Int) x x4 cs ω (Int.natCast_nonneg k) h
    obtain ⟨y1, y3, cs2, h2, e2⟩ := fold2_go sc x4 ω xs (k + 1) (some (.dat (.int k))) (some (.dat (.int x))) cs1 h1
    refine ⟨y1, y3, cs2, h2, ?_⟩
    rw [List.length_cons, List.range'_succ, List.map_cons, List.zipWith_cons_cons, x_forM_cons]
    simp [tupG, consG, nilG, setD, e1, e2]
theorem fold2_run (xs : List Int) (x1 x3 x4 : Option Ent) (cs : List Int) (ω : Om) (h : cellsOk cs) (hl : xs.length ≤ 63) : ∃ (y1 y3 : Option Ent) (cs' : List Int), cellsOk cs' ∧
    fold2 [some (.dat (.list (xs.map PyData.int))), x1, some (intsR cs), x3, x4] ω = .ok (.nx [some (.dat (.list (xs.map PyData.int))), y1, some (intsR cs'), y3, x4]) ω := by
  obtain ⟨y1, y3, cs', h', e⟩ := fold2_go (.list (xs.map PyData.int)) x4 ω xs 0 x1 x3 cs h
  refine ⟨y1, y3, cs', h', ?_⟩
  have hz : xs.length ≤ line := Nat.le_trans hl (by decide)
  have er : enumD (xs.map PyData.int) = (List.range' 0 xs.length).zipWith (fun (i : Nat) d => PyData.tuple [.int i, d]) (xs.map PyData.int) := by
    unfold enumD
    rw [List.length_map, List.range_eq_range']
  simp [fold2, enumM2, hz, er, e]
theorem foldC_run (sc : PyData) (i : Int) (x3 x4 : Option Ent) (cs : List Int) (ω : Om) (h0 : 1 ≤ i) (h1 : i < 64) (h : cellsOk cs) : ∃ cs', cellsOk cs' ∧
    foldC [some (.dat sc), some (.dat (.int i)), some (intsR cs), x3, x4] ω = .ok (.nx [some (.dat sc), some (.dat (.int i)), some (intsR cs'), x3, x4]) ω := by
  have e1 := at_ints cs i (by omega) (by rw [h.1]; exact h1)
  have e3 := at_ints cs (i - 1) (by omega) (by rw [h.1]; omega)
  have e2 := ix_ok cs.length i (by omega) (by rw [h.1]; exact h1)
  refine ⟨cs.set i.toNat ((cs.getD i.toNat 0 + cs.getD (i - 1).toNat 0 * 16807).fmod 2147483647), set_ok h _ ?_ ?_, ?_⟩
  · rw [Int.fmod_eq_emod_of_nonneg _ (by decide)]; exact Int.emod_nonneg _ (by decide)
  · rw [Int.fmod_eq_emod_of_nonneg _ (by decide)]; exact Int.lt_trans (Int.emod_lt_of_pos _ (by decide)) (by decide)
  · simp [foldC, storeM, intsR, binD, addD, subD, mulD, modD, intF, flat, itemD, e1, e2, e3, List.map_set]
theorem fold3_go (sc : PyData) (x3 x4 : Option Ent) (ω : Om) : ∀ (is : List Int) (x1 : Option Ent) (cs : List Int), (∀ i ∈ is, 1 ≤ i ∧ i < 64) → cellsOk cs → ∃ (y1 : Option Ent) (cs' : List Int), cellsOk cs' ∧
    forM (setD 1) foldC (is.map PyData.int) [some (.dat sc), x1, some (intsR cs), x3, x4] ω = .ok (.nx [some (.dat sc), y1, some (intsR cs'), x3, x4]) ω
  | [], x1, cs, _, h => ⟨x1, cs, h, rfl⟩
  | i :: is, x1, cs, hi, h => by
    obtain ⟨cs1, h1, e1⟩ := foldC_run sc i x3 x4 cs ω (hi i (by simp)).1 (hi i (by simp)).2 h
    obtain ⟨y1, cs2, h2, e2⟩ := fold3_go sc x3 x4 ω is (some (.dat (.int i))) cs1 (fun j hj => hi j (by simp [hj])) h1
    refine ⟨y1, cs2, h2, ?_⟩
    rw [List.map_cons, x_forM_cons]
    simp [setD, e1, e2]
theorem fold3_run (sc : PyData) (x1 x3 x4 : Option Ent) (cs : List Int) (ω : Om) (h : cellsOk cs) : ∃ (y1 : Option Ent) (cs' : List Int), cellsOk cs' ∧
    fold3 [some (.dat sc), x1, some (intsR cs), x3, x4] ω = .ok (.nx [some (.dat sc), y1, some (intsR cs'), x3, x4]) ω := by
  obtain ⟨y1, cs', h', e⟩ := fold3_go sc x3 x4 ω ((List.range 63).map fun i => (1 : Int) + (i : Nat)) x1 cs (fun i hi => by
    obtain ⟨j, hj, rfl⟩ := List.mem_map.mp hi
    rw [List.mem_range] at hj
    omega) h
  refine ⟨y1, cs', h', ?_⟩
  have er : upD 1 63 = ((List.range 63).map fun i => (1 : Int) + (i : Nat)).map PyData.int := by
    unfold upD
    rw [List.map_map]
    rfl
  rw [← er] at e
  simp [fold3, rng2M, e]
theorem fold1_run (sc : PyData) (ω : Om) : ∃ (y1 : Option Ent) (cs' : List Int), cellsOk cs' ∧ fold1 [some (.dat sc), none, none, none, none] ω = .ok (.nx [some (.dat sc), y1, some (intsR cs'), none, none]) ω := by
  refine ⟨none, (List.range 64).map fun i => (17 : Int) + (i : Nat), ⟨by simp, fun x hx => ?_⟩, by kernel_rfl⟩
  obtain ⟨j, hj, rfl⟩ := List.mem_map.mp hx
  rw [List.mem_range] at hj
  omega
end Q

set_option maxHeartbeats 4000000
namespace Q
open PySem L2 LamX
section
variable {P : Program} {w : World} {K : PySem.W.Frag} {mg : Str → Option Value} {base : Heap} {T : List (Addr × Str)}
def N_draw : List Str := ["m", "limit", "n", "lot", "here", "cell"]
theorem scDraw : FnScope N_draw ["m", "limit"] (defScope (top 57)) := ⟨rfl, rfl, rfl, by decide +kernel, rfl, by decide +kernel, by decide +kernel⟩
theorem ok_draw {k : Nat} {f fm : Addr} {fd fdm : FuncData} {psm : List Str} {Fm : List Ent → M PyData} (F : Fun K "_law_draw" "_law_draw" (top 57) f fd)
    (Gm : FnG P w K mg base k fm fdm psm (spG K mg T 2 Fm)) (hmm : mg "_law_mixed" = some (.ref fm)) (hkm : PySem.W.keepIn K (.ref fm) = true) (hbm : L2.Binds K fdm psm [])
    (hmix : ∀ (a b : Int) (ω : Om), 0 ≤ b → b < 1100000 → Fm [.dat (.int a), .dat (.int b)] ω = .ok (.int (mixV a b)) ω) (zi : mg "int" = none) (zl : mg "len" = none) (hk : 2 ≤ k) :
    FnG P w K mg base (k + 1) f fd ["m", "limit"] (spG K mg T 2 drawM) := by
  refine fnG_raw F scDraw (fun vs H Q E h => h.1) fun cdv A outer s H vs Q E hr hgd h => ?_
  have tk := @takes_def P w K mg base N_draw "_law_draw" (defScope (top 57)) f cdv A outer s H E
  have hu := hu_of hr
  have hu64 : (A.deeper (PyProof.Rows.envOfC "_law_draw" (defScope (top 57)) s.heap.objs.size f cdv)).units + 64 < cLine := by have := hr.un; omega
  -- the last two rows
  obtain ⟨hl, W, es, ω, hT, h0, l, st, eb, tr, run⟩ := h
  obtain ⟨lim, m, rfl, rfl, ok, l0, l1, hq⟩ := drawM_inv run
  simp only [EtL] at l
  obtain ⟨v, r, rfl, ⟨p, c, g, hm, rfl⟩, v2, r2, rfl, hd, rfl⟩ := l
  cases hd.intE
  have sm := st.2
  rw [hm] at sm
  obtain ⟨hp, hc, hg, npc, npg, ncg⟩ := (show machAt H p c g m from sm)
  have hp : H p = some (.dK (drK c g m.spot)) := hp
  simp only [mOk, Bool.and_eq_true, decide_eq_true_eq, List.all_eq_true] at ok
  obtain ⟨⟨⟨⟨ok1, ok2⟩, ok3⟩, ok4⟩, ok5⟩ := ok
  -- what is left behind
  have fin : ∀ (m' : Mach) (v : Int) (H' : Hp), (∀ a o, H a = some o → (∀ ps, o ≠ .tbl ps) → a ≠ p → a ≠ g → H' a = some o) → Tabs W.T H' → (∀ a, H' a = none → H a = none) → H' p = some (.dK (drK c g m'.spot)) → H' g = some (.lst (m'.great.map V.int)) → m'.cells = m.cells → drawV m lim = (v, m') → Q (.int v) H' := by
    intro m' v H' kp tb nw hp' hg' ec e
    rw [e] at hq
    have ex : ∀ a, W.ex a ↔ (a = p ∨ a = c ∨ a = g) := fun a => by unfold Wd.ex; rw [hm]
    refine hq _ H' ⟨fun a o ha hn ht => kp a o ha ht (fun z => ?_) (fun z => ?_), nw⟩ ⟨tb, ?_⟩ (.int v)
    · subst z
      rcases hn with n | n
      · exact n ((ex _).mpr (.inl rfl))
      · rw [hp] at ha; cases ha; exact n
    · subst z
      rcases hn with n | n
      · exact n ((ex _).mpr (.inr (.inr rfl)))
      · rw [hg] at ha; cases ha; exact n
    · rw [hm]
      exact ⟨hp', by rw [ec]; exact kp c _ hc (fun _ z => nomatch z) npc.symm ncg, hg', npc, npg, ncg⟩
  have low : ∃ t, PSs (cxOf (L2.CX P w) P w K mg base N_draw "_law_draw" (defScope (top 57)) f cdv A outer s H E) ((defBody (top 57)).drop 3) t ∧
      ∀ (x3 x4 x5 : Option V) (H2 : Hp), (∀ a o, H a = some o → (∀ ps, o ≠ .tbl ps) → a ≠ p → a ≠ g → H2 a = some o) → Tabs W.T H2 → (∀ a, H2 a = none → H a = none) → H2 p = some (.dK (drK c g (m.spot + 1))) → H2 g = some (.lst (m.great.map V.int)) →
        drawV m lim = (lowV m lim, { m with spot := m.spot + 1 }) → t { nx := fun _ H' => Q .non H', rt := Q } [some (.ref p), some (.int lim), some (.int m.spot), x3, x4, x5] H2 := by
    refine ⟨_, pss_cons (ps_set (i := 3) scDraw.nd rfl (.inl rfl) (pe_dget hu (pv 0) pe_str (fun _ _ => rfl)))
      (pss_one (ps_ret (pe_op op_mod (pe_callTy call_int1 (by rfl) zi (by decide +kernel) (pa_cons
        (pe_callS Gm hr hgd (by rfl) hmm hkm hbm tk (pa_cons
          (pe_callS Gm hr hgd (by rfl) hmm hkm hbm tk (pa_cons (pe_op op_add (pe_ix ix_list (pv 3) (pe_op op_mod (pe_callTy call_int1 (by rfl) zi (by decide +kernel) (pa_cons (pv 2) pa_nil)) pe_int) (fun _ _ => rfl)) (pe_op op_mul pe_int (pe_op op_fdiv (pv 2) pe_int))) (pa_cons (pv 2) pa_nil)))
          (pa_cons (pe_op op_add (pv 2) pe_int) pa_nil))) pa_nil)) (pv 1)))), ?_⟩
    intro x3 x4 x5 H2 kp tb nw hp2 hg2 ed
    have hc2 : H2 c = some (.lst (m.cells.map V.int)) := kp c _ hc (fun _ z => nomatch z) npc.symm ncg
    refine ⟨_, rfl, p, .ref c, rfl, (drK_get hp2).1, ?_⟩
    have hlt : m.spot % 64 < 64 := Int.emod_lt_of_pos _ (by decide)
    have hge : 0 ≤ m.spot % 64 := Int.emod_nonneg _ (by decide)
    obtain ⟨z, hz⟩ : ∃ z, L2.atI m.cells (m.spot % 64) = some z := by
      unfold L2.atI L2.ixN
      rw [if_pos hge, if_pos (by rw [ok1]; exact hlt)]
      show ∃ z, m.cells[(m.spot % 64).toNat]? = some z
      exact ⟨_, List.getElem?_eq_getElem (by rw [ok1]; omega)⟩
    have hzV : L2.atI (m.cells.map V.int) (m.spot % 64) = some (V.int z) := by
      unfold L2.atI L2.ixN at hz ⊢
      rw [List.length_map]
      rw [if_pos hge, if_pos (by rw [ok1]; exact hlt)] at hz ⊢
      show (m.cells.map V.int)[(m.spot % 64).toNat]? = _
      rw [List.getElem?_map, show m.cells[(m.spot % 64).toNat]? = some z from hz]
      rfl
    have call : ∀ (a b : Int) (H3 : Hp) (Q' : VK) (E' : XK), 0 ≤ b → b < 1100000 → Tabs W.T H3 → (∀ H4, (∀ a o, H3 a = some o → (∀ ps, o ≠ .tbl ps) → H4 a = some o) → Tabs W.T H4 → (∀ a, H4 a = none → H3 a = none) → Q' (.int (mixV a b)) H4) →
        spG K mg T 2 Fm [.int a, .int b] H3 Q' E' := by
      intro a b H3 Q' E' b0 b1 tb3 k
      refine ⟨rfl, ⟨T, none, fun _ => False, H3, 0⟩, [.dat (.int a), .dat (.int b)], none, rfl, rfl, .cons (.int a) (.cons (.int b) .nil), ⟨by rw [← hT]; exact tb3, trivial⟩, fun a z => z, fun a z => z.elim, ?_⟩
      rw [hmix a b none b0 b1]
      intro v H' sp st' d
      cases d.intE
      exact k H' (fun a o e n => sp.keep a o e (.inl fun z => z) n) (by rw [hT]; exact st'.1) sp.new
    -- lot[int(n) % 64] + 31 * (n // 64)
    refine ⟨_, rfl, _, rfl, .inl ⟨m.spot, rfl, ?_⟩⟩
    refine ⟨m.spot, 64, rfl, rfl, (show (0 : Int) < 64 by decide), c, _, _, _, rfl, rfl, .inl (.inl hc2), hzV, ?_⟩
    refine ⟨_, rfl, m.spot, 64, rfl, rfl, ⟨by decide, by decide⟩, 31, _, rfl, rfl, .inl ⟨by decide, by decide⟩, z, _, rfl, rfl, _, rfl, ?_⟩
    refine call _ _ _ _ _ ok3 (by omega) tb fun H4 k4 tb4 n4 => ?_
    refine ⟨_, rfl, m.spot, 7, rfl, rfl, ?_⟩
    refine call _ _ _ _ _ (by omega) (by omega) tb4 fun H5 k5 tb5 n5 => ?_
    refine .inl ⟨_, rfl, _, rfl, _, _, rfl, rfl, l0, ?_⟩
    have el : lowV m lim = (mixV (mixV (z + 31 * (m.spot / 64)) m.spot) (m.spot + 7)) % lim := by unfold lowV; rw [hz]; rfl
    rw [el] at ed
    refine fin { m with spot := m.spot + 1 } _ H5 (fun a o e n ap ag => k5 a o (k4 a o (kp a o e n ap ag) n) n) tb5 (fun a e => nw a (n4 a (n5 a e))) (k5 _ _ (k4 _ _ hp2 (fun _ z => nomatch z)) (fun _ z => nomatch z)) (k5 _ _ (k4 _ _ hg2 (fun _ z => nomatch z)) (fun _ z => nomatch z)) rfl ed
  obtain ⟨tL, dL, rL⟩ := low
  refine ⟨_, pss_cons (ps_set (i := 2) scDraw.nd rfl (.inl rfl) (pe_dget hu (pv 0) pe_str (fun _ _ => rfl)))
    (pss_cons (ps_dput hu (pv 0) pe_str (pe_op op_add (pv 2) pe_int) rfl)
    (pss_cons (ps_if (pt_cmpR (cmpD_ne hu64) (pe_dget hu (pv 0) pe_str (fun _ _ => rfl)) (pe_lst pa_nil) (nomark _))
      (pss_cons (ps_set (i := 3) scDraw.nd rfl (.inl rfl) (pe_dget hu (pv 0) pe_str (fun _ _ => rfl)))
      (pss_cons (ps_set (i := 4) scDraw.nd rfl (.inl rfl) (pe_op op_mod (pe_callTy call_int1 (by rfl) zi (by decide +kernel) (pa_cons (pv 2) pa_nil)) (pe_callB call_len_seq (by rfl) zl (by decide +kernel) (pa_cons (pv 3) pa_nil))))
      (pss_cons (ps_set (i := 5) scDraw.nd rfl (.inl rfl) (pe_ix ix_list (pv 3) (pv 4) (fun _ _ => rfl)))
      (pss_one (ps_if (pt_cmpR op_gt (pv 5) pe_int (nomark _))
        (pss_cons (ps_asg (pe_op op_fdiv (pv 5) (pv 1)) (pg_sub (pv 3) (pv 4) set_list))
        (pss_one (ps_ret (pe_op op_mod (pe_callTy call_int1 (by rfl) zi (by decide +kernel) (pa_cons (pv 5) pa_nil)) (pv 1)))))
        pss_nil)))))
      pss_nil)
    dL)), ?_⟩
  -- n = m['spot']; m['spot'] = n + 1
  refine ⟨.ref p, rfl, p, .int m.spot, rfl, (drK_get hp).2.2, ?_⟩
  refine ⟨_, rfl, _, _, rfl, rfl, ?_⟩
  refine ⟨_, rfl, p, _, rfl, DPut.k (k := Sum.inr "spot") hp (show 3 < sizeLine by decide), ?_⟩
  -- m['great'] != []
  obtain ⟨H1, eH1⟩ : ∃ H1, H1 = upd H p (.dK (putK (drK c g m.spot) (.inr "spot" : Key) (.int (m.spot + 1)))) := ⟨_, rfl⟩
  have hp1 : H1 p = some (.dK (drK c g (m.spot + 1))) := by rw [eH1, upd_same, drK_put]
  have ne1 : ∀ a, a ≠ p → H1 a = H a := fun a n => by rw [eH1, upd_ne n]
  rw [← eH1]
  refine ⟨_, rfl, p, .ref g, rfl, (drK_get hp1).2.1, ?_⟩
  refine ⟨by decide, fun q0 hq0 => ?_⟩
  obtain ⟨H2, eH2⟩ : ∃ H2, H2 = upd H1 q0 (.lst []) := ⟨_, rfl⟩
  rw [← eH2]
  have qp : p ≠ q0 := ne_of_none hp1 hq0
  have hg1 : H1 g = some (.lst (m.great.map V.int)) := by rw [ne1 g npg.symm]; exact hg
  have qg : g ≠ q0 := ne_of_none hg1 hq0
  have ne2 : ∀ a, a ≠ q0 → H2 a = H1 a := fun a n => by rw [eH2, upd_ne n]
  have hp2 : H2 p = some (.dK (drK c g (m.spot + 1))) := by rw [ne2 p qp]; exact hp1
  have hg2 : H2 g = some (.lst (m.great.map V.int)) := by rw [ne2 g qg]; exact hg1
  have kp2 : ∀ a o, H a = some o → a ≠ p → H2 a = some o := fun a o e n => by
    have e1 : H1 a = some o := by rw [ne1 a n]; exact e
    rw [ne2 a (ne_of_none e1 hq0)]; exact e1
  have nw2 : ∀ a, H2 a = none → H a = none := fun a e => by
    by_cases h1 : a = q0
    · rw [h1, eH2, upd_same] at e; cases e
    · rw [ne2 a h1] at e
      by_cases h2 : a = p
      · rw [h2, hp1] at e; cases e
      · rw [ne1 a h2] at e; exact e
  have tb2 : Tabs W.T H2 := fun q hq => by
    obtain ⟨ps, e1, e2, e3⟩ := st.1 q hq
    refine ⟨ps, kp2 _ _ e1 (fun z => ?_), e2, fun pos cv hcv => ?_⟩
    · rw [z, hp] at e1; cases e1
    · obtain ⟨cc, f1, f2⟩ := e3 pos cv hcv
      exact ⟨cc, f1, kp2 _ _ f2 (fun z => by rw [z, hp] at f2; unfold LamX.CodeO at f2; cases f2)⟩
  refine ⟨fun _ => False, .list (m.great.map .int), .list [], !m.great.isEmpty, ?_, ?_, ne_nil_ints _, _, rfl, ?_⟩
  · simp only [Dt]
    exact ⟨g, _, rfl, .of (fun z => z) hg2, dtInts _⟩
  · simp only [Dt]
    exact ⟨q0, [], rfl, .of (fun z => z) (by rw [eH2, upd_same]), .nil⟩
  cases eg : m.great with
  | nil =>
    refine iteF ?_
    refine rL none none none H2 (fun a o e _ n _ => kp2 a o e n) tb2 nw2 hp2 hg2 ?_
    unfold drawV
    rw [if_pos eg]
  | cons g0 gs =>
    refine iteT ?_
    have gl : (0 : Int) < (m.great.length : Int) := by rw [eg]; simp
    have gne : ¬ m.great = [] := by rw [eg]; exact fun z => nomatch z
    have hlt : m.spot % (m.great.length : Int) < (m.great.length : Int) := Int.emod_lt_of_pos _ gl
    have hge : 0 ≤ m.spot % (m.great.length : Int) := Int.emod_nonneg _ (by omega)
    obtain ⟨z, hz⟩ : ∃ z, L2.atI m.great (m.spot % (m.great.length : Int)) = some z := by
      unfold L2.atI L2.ixN
      rw [if_pos hge, if_pos hlt]
      show ∃ z, m.great[(m.spot % (m.great.length : Int)).toNat]? = some z
      exact ⟨_, List.getElem?_eq_getElem (by omega)⟩
    have hzV : L2.atI (m.great.map V.int) (m.spot % (m.great.length : Int)) = some (V.int z) := by
      unfold L2.atI L2.ixN at hz ⊢
      rw [List.length_map]
      rw [if_pos hge, if_pos hlt] at hz ⊢
      show (m.great.map V.int)[_]? = _
      rw [List.getElem?_map, show m.great[(m.spot % (m.great.length : Int)).toNat]? = some z from hz]
      rfl
    refine ⟨_, rfl, p, .ref g, rfl, (drK_get hp2).2.1, ?_⟩
    refine ⟨_, rfl, .inl ⟨m.spot, rfl, _, rfl, g, _, rfl, .inl (.inl (.inl hg2)), m.spot, _, rfl, rfl, (by rw [List.length_map]; exact gl), ?_⟩⟩
    refine ⟨_, rfl, _, rfl, g, _, _, _, rfl, rfl, .inl (.inl hg2), (by rw [List.length_map]; exact hzV), ?_⟩
    refine ⟨_, rfl, z, 0, rfl, rfl, _, rfl, ?_⟩
    refine ite2 (fun hz0 => ?_) (fun hz0 => ?_)
    · refine ⟨_, rfl, _, rfl, z, lim, rfl, rfl, ⟨l0, l1⟩, _, rfl, _, rfl, g, _, _, (m.spot % (m.great.length : Int)).toNat, rfl, rfl, hg2, ?_, ?_⟩
      · unfold L2.ixN
        rw [List.length_map, if_pos hge, if_pos hlt]
      · refine ⟨_, rfl, .inl ⟨z, rfl, _, rfl, z, lim, rfl, rfl, l0, ?_⟩⟩
        have ne3 : ∀ a (o : HO), a ≠ g → upd H2 g o a = H2 a := fun a o n => upd_ne n
        have ed : drawV m lim = (z % lim, { m with spot := m.spot + 1, great := m.great.set (m.spot % (m.great.length : Int)).toNat (z / lim) }) := by
          unfold drawV
          rw [if_neg gne, hz]
          exact if_pos (of_decide_eq_true hz0)
        refine fin { m with spot := m.spot + 1, great := m.great.set (m.spot % (m.great.length : Int)).toNat (z / lim) } _ _ (fun a o e n ap ag => by rw [ne3 a _ ag]; exact kp2 a o e ap) ?_ (fun a e => ?_) (by rw [ne3 p _ npg]; exact hp2) (by rw [upd_same, List.map_set]) rfl ed
        · intro q hq
          obtain ⟨ps, e1, e2, e3⟩ := tb2 q hq
          refine ⟨ps, by rw [ne3 _ _ fun z => by rw [z, hg2] at e1; cases e1]; exact e1, e2, fun pos cv hcv => ?_⟩
          obtain ⟨cc, f1, f2⟩ := e3 pos cv hcv
          exact ⟨cc, f1, by rw [ne3 _ _ fun z => by rw [z, hg2] at f2; unfold LamX.CodeO at f2; cases f2]; exact f2⟩
        · by_cases h1 : a = g
          · rw [h1, upd_same] at e; cases e
          · rw [ne3 a _ h1] at e; exact nw2 a e
    · refine rL _ _ _ H2 (fun a o e _ n _ => kp2 a o e n) tb2 nw2 hp2 hg2 ?_
      unfold drawV
      rw [if_neg gne, hz]
      exact if_neg fun z => hz0 (decide_eq_true z)
end
end Q

set_option maxHeartbeats 4000000
namespace Q
open PySem L2 LamX
abbrev P0 : Stmt := .Pass ⟨0, 0, 0, 0⟩
theorem scFold : FnScope N__law_folded ["script"] (defScope (top 56)) := ⟨rfl, rfl, rfl, by decide +kernel, rfl, by decide +kernel, by decide +kernel⟩
theorem fold_is1 : (ev 40).S (defC N__law_folded (top 56) 2 2 (gt G__law_folded) none mtEq) ((defBody (top 56)).getD 0 P0) = fold1 := by kernel_rfl
theorem fold_is2 : (ev 40).S (defC N__law_folded (top 56) 2 2 (gt G__law_folded) none mtEq) ((defBody (top 56)).getD 1 P0) = fold2 := by kernel_rfl
theorem fold_is3 : (ev 40).S (defC N__law_folded (top 56) 2 2 (gt G__law_folded) none mtEq) ((defBody (top 56)).getD 2 P0) = fold3 := by kernel_rfl
section
variable {P : Program} {w : World} {K : PySem.W.Frag} {mg : Str → Option Value} {base : Heap} {T : List (Addr × Str)}
theorem ok_folded {f : Addr} {fd : FuncData} (F : Fun K "_law_folded" "_law_folded" (top 56) f fd) (gl : ∀ T x g, gt G__law_folded x = some g → GOk P w K mg base T 2 2 x g) (hmt : ∀ c1 h b C1 C2, mtEq c1 h = some b → mg c1 = some (.ref C1) → mg h = some (.ref C2) → PySem.W.exmOne K (.ref C1) (.ref C2) = some b) :
    FnG P w K mg base 3 f fd ["script"] (spFold K T) := by
  refine fnG_raw F scFold (fun vs H Q E ⟨a, ns, e, _⟩ => by rw [e]; rfl) fun cdv A outer s H vs Q E hr hgd h => ?_
  obtain ⟨a, ns, rfl, hs, hl, tb, q⟩ := h
  have ag : ∀ W : Wd, Agr (cxOf (L2.CX P w) P w K mg base N__law_folded "_law_folded" (defScope (top 56)) f cdv A outer s H E) W (defC N__law_folded (top 56) 2 2 (gt G__law_folded) none mtEq) := fun W =>
    agr_def scFold (by decide) (by decide) (gl W.T) (fun cc PP z => nomatch z) hmt hr hgd
  obtain ⟨W, eW⟩ : ∃ W : Wd, W = ⟨T, none, fun _ => False, H, 0⟩ := ⟨_, rfl⟩
  have p1 := fold_is1 ▸ (ev_RS 40).S _ W _ _ (ag W) takes_def pass_def ((defBody (top 56)).getD 0 P0)
  have p2 := fold_is2 ▸ (ev_RS 40).S _ W _ _ (ag W) takes_def pass_def ((defBody (top 56)).getD 1 P0)
  have p3 := fold_is3 ▸ (ev_RS 40).S _ W _ _ (ag W) takes_def pass_def ((defBody (top 56)).getD 2 P0)
  refine ⟨_, pss_cons p1 (pss_cons p2 (pss_cons p3 (pss_one (ps_ret (pv 2))))), ?_⟩
  subst eW
  obtain ⟨y1, cs1, c1, e1⟩ := fold1_run (.list (ns.map PyData.int)) none
  obtain ⟨y1b, y3b, cs2, c2, e2⟩ := fold2_run ns y1 none none cs1 none c1 hl
  obtain ⟨y1c, cs3, c3, e3⟩ := fold3_run (.list (ns.map PyData.int)) y1b y3b none cs2 none c2
  have g0 := good_start (N := N__law_folded) (K := K) (W := ⟨T, none, fun _ => False, H, 0⟩) (H := H) (es := [.dat (.list (ns.map PyData.int))]) (vs := [.ref a]) (ω := none) (.cons (dt_ints hs) .nil) ⟨tb, trivial⟩ (fun a z => z) (fun a z => z.elim) rfl
  refine ⟨_, _, none, g0, ?_⟩
  show RunP (fold1 [some (.dat (.list (ns.map PyData.int))), none, none, none, none] none) _ _
  rw [e1]
  intro σ1 H1 xo1 ev1 g1
  refine ⟨xo1, _, none, g1, ?_⟩
  rw [e2]
  intro σ2 H2 xo2 ev2 g2
  refine ⟨xo2, _, none, g2, ?_⟩
  rw [e3]
  intro σ3 H3 xo3 ev3 g3
  obtain ⟨v, hv, p, vs, rfl, xp, _, hp, l⟩ := g3.slot 2 _ rfl
  have ev := (ev1.trans ev2).trans ev3
  rw [ints_of cs3 vs l] at hp
  refine ⟨_, hv, q p H3 cs3 c3 ⟨(ev.grown p xp).elim False.elim id, hp, fun b o e n => ev.keep b o e (.inl fun z => z.elim id fun z => z.1) n, ev.new, g3.st.1⟩⟩
end
/-! ### the beginning of the draws -/
def N_begun : List Str := ["script", "m", ".0", "cell"]
theorem scBegun : FnScope N_begun ["script"] (defScope (top 58)) := ⟨rfl, rfl, rfl, by decide +kernel, rfl, by decide +kernel, by decide +kernel⟩
def asgE : Stmt → Expr
  | .Assign _ e _ => e
  | _ => .Name "" ⟨0, 0, 0, 0⟩
def greatN : RN := listN (seqM (eV 0)) [2, 3] (setD 3) tY (eIf (cmpM .GtE (eV 3) (eBin .Pow (eK (.int 10)) (eK (.int 18)))) (eV 3) (eK (.int 0)))
theorem great_is : (ev 40).N (defC N_begun (top 58) 2 3 (fun _ => none) none mtEq) (asgE ((defBody (top 58)).getD 1 P0)) = greatN := by kernel_rfl
@[simp] theorem x_safe_ok {α : Type} {m : M α} {ω : Om} {a : α} (h : m ω = .ok a ω) : safe m ω = .ok a ω := by
  unfold safe
  rw [h]
theorem great_go (s1 s2 : Option Ent) (ω : Om) : ∀ xs : List Int, compM (setD 3) tY (eIf (cmpM .GtE (eV 3) (eBin .Pow (eK (.int 10)) (eK (.int 18)))) (eV 3) (eK (.int 0))) [s1, s2, none, none] (xs.map PyData.int) ω = .ok ((xs.map fun x => if 10 ^ 18 ≤ x then x else 0).map PyData.int) ω
  | [] => rfl
  | x :: xs => by
    have ih := great_go s1 s2 ω xs
    rw [List.map_cons, compM]
    by_cases hx : 1000000000000000000 ≤ x
    · simp [setD, binD, powD, cmpD, ih, hx, safe]
    · simp [setD, binD, powD, cmpD, ih, hx, safe]
theorem great_run (xs : List Int) (s2 s3 s4 : Option Ent) (ω : Om) (hl : xs.length ≤ 63) : greatN [some (.dat (.list (xs.map PyData.int))), s2, s3, s4] ω = .ok (.inl ((xs.map fun x => if 10 ^ 18 ≤ x then x else 0).map PyData.int)) ω := by
  have hz : xs.length ≤ line := Nat.le_trans hl (by decide)
  have e := great_go (some (.dat (.list (xs.map PyData.int)))) s2 ω xs
  simp [greatN, listN, wipeR, itemsD, hz, e]
section
variable {P : Program} {w : World} {K : PySem.W.Frag} {mg : Str → Option Value} {base : Heap} {T : List (Addr × Str)}
theorem tabs_upd {T : List (Addr × Str)} {H : Hp} {a : Addr} {o u : HO} (h : Tabs T H) (e : H a = some o) (n1 : ∀ ps, o ≠ .tbl ps) (n2 : ∀ c q, o ≠ LamX.CodeO c q) : Tabs T (L2.upd H a u) := fun q hq => by
  obtain ⟨ps, e1, e2, e3⟩ := h q hq
  refine ⟨ps, by rw [upd_ne fun z => n1 ps (by rw [z, e] at e1; exact Option.some.inj e1)]; exact e1, e2, fun pos cv hcv => ?_⟩
  obtain ⟨cc, f1, f2⟩ := e3 pos cv hcv
  exact ⟨cc, f1, by rw [upd_ne fun z => n2 _ _ (by rw [z, e] at f2; exact Option.some.inj f2)]; exact f2⟩
theorem tabs_new {T : List (Addr × Str)} {H : Hp} {a : Addr} {u : HO} (h : Tabs T H) (e : H a = none) : Tabs T (L2.upd H a u) := Tabs.ext h (same_upd e)
theorem dk_not_code {kvs : List (Key × V)} (c : Addr) (q : Str) : HO.dK kvs ≠ LamX.CodeO c q := fun z => by
  have z' : HO.dK kvs = HO.ext _ := z
  cases z'
theorem ok_begun {f ff : Addr} {fd fdf : FuncData} (F : Fun K "_law_begun" "_law_begun" (top 58) f fd)
    (Gf : FnG P w K mg base 3 ff fdf ["script"] (spFold K T)) (hmf : mg "_law_folded" = some (.ref ff)) (hkf : PySem.W.keepIn K (.ref ff) = true) (hbf : L2.Binds K fdf ["script"] [])
    (hmt : ∀ c1 h b C1 C2, mtEq c1 h = some b → mg c1 = some (.ref C1) → mg h = some (.ref C2) → PySem.W.exmOne K (.ref C1) (.ref C2) = some b) :
    FnG P w K mg base 4 f fd ["script"] (spBegun K T) := by
  refine fnG_raw F scBegun (fun vs H Q E ⟨a, ns, e, _⟩ => by rw [e]; rfl) fun cdv A outer s H vs Q E hr hgd h => ?_
  obtain ⟨a, ns, rfl, hs, hl, tb, q⟩ := h
  have hu := hu_of hr
  have tk := @takes_def P w K mg base N_begun "_law_begun" (defScope (top 58)) f cdv A outer s H E
  have ag : ∀ W : Wd, Agr (cxOf (L2.CX P w) P w K mg base N_begun "_law_begun" (defScope (top 58)) f cdv A outer s H E) W (defC N_begun (top 58) 2 3 (fun _ => none) none mtEq) := fun W =>
    agr_def scBegun (by decide) (by decide) (fun x g z => nomatch z) (fun cc PP z => nomatch z) hmt hr hgd
  have pc : ∀ W, PE (cxOf (L2.CX P w) P w K mg base N_begun "_law_begun" (defScope (top 58)) f cdv A outer s H E) (asgE ((defBody (top 58)).getD 1 P0)) (tQN _ W (fun cls d _ H => E cls d H) greatN) := fun W =>
    great_is ▸ (ev_RS 40).toRE.N _ W _ _ (ag W) takes_def (asgE ((defBody (top 58)).getD 1 P0))
  have pcA : PE (cxOf (L2.CX P w) P w K mg base N_begun "_law_begun" (defScope (top 58)) f cdv A outer s H E) (asgE ((defBody (top 58)).getD 1 P0)) (fun σ H' Q' => ∃ W, tQN (cxOf (L2.CX P w) P w K mg base N_begun "_law_begun" (defScope (top 58)) f cdv A outer s H E) W (fun cls d _ H => E cls d H) greatN σ H' Q') :=
    ⟨fun pins s σ H Q I ⟨W, h⟩ => (pc W).run pins s σ H Q I h⟩
  -- the dict is made first, its cells behind it
  have key : ∀ p H1 c H2 cs g H3, H p = none → H1 = upd H p (.dK []) → cellsOk cs → NewL T H1 c (cs.map V.int) H2 → H2 g = none → H3 = upd (upd H2 g (.lst [])) p (.dK (drK c g 0)) → ∃ W : Wd, tQN (cxOf (L2.CX P w) P w K mg base N_begun "_law_begun" (defScope (top 58)) f cdv A outer s H E) W (fun cls d _ H => E cls d H) greatN [some (.ref a), some (.ref p), none, none] H3
      fun v H4 => ∃ g', v = .ref g' ∧ H4 p = some (.dK (drK c g 0)) ∧ ∀ H5, H5 = upd H4 p (.dK (drK c g' 0)) → Q (.ref p) H5 := by
    intro p H1 c H2 cs g H3 hp e1 ok N hg e3
    obtain ⟨n1, n2, n3, n4, n5⟩ := N
    have hp1 : H1 p = some (.dK []) := by rw [e1, upd_same]
    have hp2 : H2 p = some (.dK []) := n3 p _ hp1 fun _ z => nomatch z
    have pg : p ≠ g := ne_of_none hp2 hg
    have cg : c ≠ g := ne_of_none n2 hg
    have cp : c ≠ p := fun z => by rw [z, hp1] at n1; cases n1
    have hc0 : H c = none := by rw [e1, upd_ne cp] at n1; exact n1
    have hg0 : H g = none := by
      have z := n4 g hg
      rw [e1, upd_ne pg.symm] at z; exact z
    have hp3 : H3 p = some (.dK (drK c g 0)) := by rw [e3, upd_same]
    have hc3 : H3 c = some (.lst (cs.map V.int)) := by rw [e3, upd_ne cp, upd_ne cg]; exact n2
    have k3 : ∀ b o, H b = some o → (∀ ps, o ≠ .tbl ps) → H3 b = some o := fun b o e n => by
      have bp : b ≠ p := fun z => by rw [z, hp] at e; cases e
      have bg : b ≠ g := fun z => by rw [z, hg0] at e; cases e
      rw [e3, upd_ne bp, upd_ne bg]
      exact n3 b o (by rw [e1, upd_ne bp]; exact e) n
    have m3 : ∀ b, H3 b = none → H b = none := fun b e => by
      by_cases bp : b = p
      · rw [bp, hp3] at e; cases e
      · by_cases bg : b = g
        · rw [bg]; exact hg0
        · rw [e3, upd_ne bp, upd_ne bg] at e
          have z := n4 b e
          rw [e1, upd_ne bp] at z; exact z
    have t3 : Tabs T H3 := by
      rw [e3]
      exact tabs_upd (tabs_new n5 hg) (o := .dK []) (by rw [upd_ne pg]; exact hp2) (fun _ z => nomatch z) dk_not_code
    have hs3 : SqL K H3 a (ns.map V.int) := by
      rcases hs with (hs | ⟨o, hs⟩) | hs
      · exact .inl (.inl (k3 _ _ hs fun _ z => nomatch z))
      · exact .inl (.inr ⟨o, k3 _ _ hs fun _ z => nomatch z⟩)
      · exact .inr hs
    refine ⟨⟨T, none, fun _ => False, H3, 0⟩, fun _ => False, [some (.dat (.list (ns.map PyData.int))), none, none, none], none, ⟨fun i e z => ?_, ⟨t3, trivial⟩, fun a z => z, fun a z => z, fun a z => z.elim, Ev.refl, fun i j ds es v z _ _ _ => ?_⟩, ?_⟩
    · match i, z with
      | 0, z => cases z; exact ⟨_, rfl, dt_ints hs3⟩
      | 1, z => cases z
      | 2, z => cases z
      | 3, z => cases z
      | i + 4, z => cases z
    · match i, z with
      | 0, z => cases z
      | 1, z => cases z
      | 2, z => cases z
      | 3, z => cases z
      | i + 4, z => cases z
    · rw [great_run ns none none none none hl]
      intro g' vs H4 st st4 hn h4 l
      rw [ints_of _ vs l] at h4
      have kp4 : ∀ b o, H3 b = some o → (∀ ps, o ≠ .tbl ps) → H4 b = some o := fun b o e n => st.keep b o e (.inl fun z => z) n
      have hp4 := kp4 _ _ hp3 fun _ z => nomatch z
      have hc4 := kp4 _ _ hc3 fun _ z => nomatch z
      refine ⟨g', rfl, hp4, fun H5 e5 => ?_⟩
      have pg' : p ≠ g' := ne_of_none hp3 hn
      have cg' : c ≠ g' := ne_of_none hc3 hn
      refine q p c g' ⟨cs, ns.map fun x => if 10 ^ 18 ≤ x then x else 0, 0⟩ H5 rfl ok (by rw [List.length_map]) hp hc0 (m3 g' hn) ⟨by rw [e5, upd_same]; rfl, by rw [e5, upd_ne cp]; exact hc4, by rw [e5, upd_ne pg'.symm]; exact h4, cp.symm, pg', cg'⟩ (fun b o e n => ?_) (fun b e => ?_) ?_
      · have bp : b ≠ p := fun z => by rw [z, hp] at e; cases e
        rw [e5, upd_ne bp]
        exact kp4 b o (k3 b o e n) n
      · by_cases bp : b = p
        · rw [bp]; exact hp
        · rw [e5, upd_ne bp] at e
          exact m3 b (st.new b e)
      · rw [e5]
        exact tabs_upd st4.1 hp4 (fun _ z => nomatch z) dk_not_code
  refine ⟨_, pss_cons (ps_set (i := 1) scBegun.nd rfl (.inl rfl) (pe_disp (pps_cons pe_str (pe_callS Gf hr hgd (by rfl) hmf hkf hbf tk (pa_cons (pv 0) pa_nil)) (pps_cons pe_str (pe_lst pa_nil) (pps_cons pe_str pe_int pps_nil))) (by rfl) (by rfl) (by simp) (by decide)))
    (pss_cons (ps_dput hu (pv 1) pe_str pcA rfl)
    (pss_one (ps_ret (pv 1)))), ?_⟩
  intro p hp
  have hs1 : SqL K (upd H p (.dK [])) a (ns.map V.int) := by
    rcases hs with (hs | ⟨o, hs⟩) | hs
    · exact .inl (.inl (by rw [upd_ne (ne_of_none hs hp)]; exact hs))
    · exact .inl (.inr ⟨o, by rw [upd_ne (ne_of_none hs hp)]; exact hs⟩)
    · exact .inr hs
  refine ⟨_, rfl, a, ns, rfl, hs1, hl, tabs_new tb hp, fun c H2 cs ok N => ?_⟩
  have hp2 : H2 p = some (.dK []) := N.2.2.1 p _ upd_same fun _ z => nomatch z
  refine ⟨by decide, fun g hg => ?_⟩
  have hp3 : upd H2 g (.lst []) p = some (.dK []) := by rw [upd_ne (ne_of_none hp2 hg)]; exact hp2
  refine ⟨hp3, [(.inr "cells", .ref c), (.inr "great", .ref g), (.inr "spot", .int 0)], rfl, (show 3 ≤ 15 by decide), ?_⟩
  obtain ⟨W, hW⟩ := key p _ c H2 cs g _ hp rfl ok N hg rfl
  refine ⟨W, ?_⟩
  obtain ⟨xo, ρ, ω, G, r⟩ := hW
  refine ⟨xo, ρ, ω, G, RunP.mono r (fun n o z => ?_) fun _ _ _ z => z⟩
  cases n with
  | inr d =>
    intro v H4 st t dd
    obtain ⟨g', rfl, h4, k⟩ := z v H4 st t dd
    exact ⟨_, rfl, p, _, rfl, DPut.k (k := Sum.inr "great") h4 (show 3 < sizeLine by decide), _, rfl, k _ rfl⟩
  | inl ds =>
    intro g1 vs H4 st t n e l
    obtain ⟨g', eg, h4, k⟩ := z g1 vs H4 st t n e l
    rw [eg]
    exact ⟨_, rfl, p, _, rfl, DPut.k (k := Sum.inr "great") h4 (show 3 < sizeLine by decide), _, rfl, k _ rfl⟩
end
end Q

set_option maxHeartbeats 0
namespace Q
open PySem PySem.Spec PyProof.Rows L2 LamX
/-! ### the top's run, and what it leaves -/
def glos : List Str := (["is_integer_from", "is_tuple_of", "is_word_of", "climb_fault", "subset_fault", "all_subsets", "is_within", "is_over_one", "exchanged", "least_of_closed", "is_known_without", "need_many", "family_fault", "may_stand_behind", "need_family_below", "need_family", "lost_by", "unlike_pair", "rows_by_strength", "strength_rows"] : List Str) ++ (["family_count", "all_families", "is_weighing", "load_of", "family_weighed", "weighed_family", "is_weighed", "low_loads", "loads_summing", "least_quota", "found_weighing", "least_weighing", "full_weighing", "weighing_paper", "need_paper_form", "do_loads_hold", "does_swap_hold", "check_weighing", "_law_mixed", "_law_folded"] : List Str) ++ (["_law_draw", "_law_begun", "_law_like", "_law_of", "_law_lots", "_law_within", "_law_has", "_law_bare", "_law_family", "_law_every", "_law_loads", "_law_quota", "_law_least", "_law_swapped", "_law_is_apart", "_law_paper_right", "_law_family_right", "_law_is_too_great", "_law_hand_right", "law"] : List Str) ++ (["BadNumber", "BadFamily", "BadPaper", "TooGreat", "FAMILY_COUNTS"] : List Str)
def frees : List Str := (["all", "any", "bool", "enumerate", "int", "isinstance", "len", "list", "max", "range", "repr", "reversed", "set", "sorted", "str", "sum", "tuple"] : List Str)
def inits : List (Str × Int) := ([("MOST_MEMBERS", 5), ("MOST_FAMILIES", 200), ("MOST_LOAD", 99), ("MOST_QUOTA", 500)] : List (Str × Int))
def fa : List He.Fa := glos.map He.Fa.glo ++ frees.map He.Fa.free ++ inits.map fun p => He.Fa.int p.1 p.2
def dOf (x : Str) (i : Nat) : He.DefD := ⟨(x, none), x, x, defArgs (top i), defBody (top i), defScope (top i), [], []⟩
def eOf (c q : Str) (i j : Nat) : He.DefD := ⟨(c, some "__init__"), "__init__", q, defArgs (inClass (top i) j), defBody (inClass (top i) j), defScope (inClass (top i) j), [], []⟩
def fn : List He.DefD := ([dOf "is_integer_from" 7, dOf "is_tuple_of" 8, dOf "is_word_of" 9, dOf "climb_fault" 10, dOf "subset_fault" 12, dOf "all_subsets" 13, dOf "is_within" 14, dOf "is_over_one" 15, dOf "exchanged" 16, dOf "least_of_closed" 17, dOf "is_known_without" 18, dOf "need_many" 21, dOf "family_fault" 25, dOf "may_stand_behind" 26, dOf "need_family_below" 27, dOf "need_family" 28, dOf "lost_by" 29, dOf "unlike_pair" 30, dOf "rows_by_strength" 31, dOf "strength_rows" 32] : List He.DefD) ++ ([dOf "family_count" 33, dOf "all_families" 34, dOf "is_weighing" 38, dOf "load_of" 39, dOf "family_weighed" 40, dOf "weighed_family" 41, dOf "is_weighed" 42, dOf "low_loads" 43, dOf "loads_summing" 44, dOf "least_quota" 45, dOf "found_weighing" 46, dOf "least_weighing" 47, dOf "full_weighing" 48, dOf "weighing_paper" 49, dOf "need_paper_form" 50, dOf "do_loads_hold" 51, dOf "does_swap_hold" 52, dOf "check_weighing" 53, dOf "_law_mixed" 55, dOf "_law_folded" 56] : List He.DefD) ++ ([dOf "_law_draw" 57, dOf "_law_begun" 58, dOf "_law_like" 59, dOf "_law_of" 60, dOf "_law_lots" 61, dOf "_law_within" 62, dOf "_law_has" 63, dOf "_law_bare" 64, dOf "_law_family" 65, dOf "_law_every" 66, dOf "_law_loads" 67, dOf "_law_quota" 68, dOf "_law_least" 69, dOf "_law_swapped" 70, dOf "_law_is_apart" 71, dOf "_law_paper_right" 72, dOf "_law_family_right" 73, dOf "_law_is_too_great" 74, dOf "_law_hand_right" 75, dOf "law" 76] : List He.DefD) ++ ([eOf "BadNumber" "BadNumber.__init__" 2 0, eOf "BadFamily" "BadFamily.__init__" 3 0, eOf "BadPaper" "BadPaper.__init__" 4 0, eOf "TooGreat" "TooGreat.__init__" 5 0] : List He.DefD)
def tf : List He.Defn := [("subset_fault", none)]
def ex (K : PySem.W.Frag) : Bool := tupB K "FAMILY_COUNTS" [.int 2, .int 3, .int 6, .int 20, .int 168, .int 7581] && iniB K "BadNumber" "value" && iniB K "BadFamily" "place" && iniB K "BadPaper" "word" && iniB K "TooGreat" "most" && decide (tf.map fun p => (He.cT K p).2).Nodup && exmB K errs
abbrev Rw : PySem.W.OpenRow := PySem.W.OpenLaw.row PySem.Challenge.rw_floorpowers_k04_whole_all_families_and_w
abbrev hk : PySem.W.Hook := He.hookX 5 fa fn [] tf ex
def ob (s : PySem.W.SharedT) : He.AlX := He.obsX 5 fa fn [] tf ex (HandSHeadRun.getT s)
theorem ob_eq (s : PySem.W.SharedT) : ob s = hk.obs s.abs := He.obsX_eq (HandSHeadRun.getT_eq s)
def loose : List Str := (["__name__", "FloorError", "BadNumber", "BadFamily", "BadPaper", "TooGreat", "is_integer_from", "is_tuple_of", "is_word_of", "climb_fault", "subset_fault", "all_subsets", "is_within", "is_over_one", "exchanged", "least_of_closed", "is_known_without", "MOST_MEMBERS", "need_many", "FAMILY_COUNTS"] : List Str) ++ (["MOST_FAMILIES", "family_fault", "may_stand_behind", "need_family_below", "need_family", "lost_by", "unlike_pair", "rows_by_strength", "strength_rows", "family_count", "all_families", "MOST_LOAD", "MOST_QUOTA", "is_weighing", "load_of", "family_weighed", "weighed_family", "is_weighed", "low_loads", "loads_summing"] : List Str) ++ (["least_quota", "found_weighing", "least_weighing", "full_weighing", "weighing_paper", "need_paper_form", "do_loads_hold", "does_swap_hold", "check_weighing", "_law_mixed", "_law_folded", "_law_draw", "_law_begun", "_law_like", "_law_of", "_law_lots", "_law_within", "_law_has", "_law_bare", "_law_family"] : List Str) ++ (["_law_every", "_law_loads", "_law_quota", "_law_least", "_law_swapped", "_law_is_apart", "_law_paper_right", "_law_family_right", "_law_is_too_great", "_law_hand_right"] : List Str)
theorem top_run (w : World) : HandSHeadRun.RunEq Rw (PySem.W.view Rw.prog [76]) hk ob 4000 loose w := by
  intro os
  kernel_rfl
end Q

set_option maxHeartbeats 4000000
namespace Q
open PySem PySem.Spec PyProof.Rows L2 LamX
abbrev TP := Tp fa fn tf ex errs
section
variable {w : World} {K : PySem.W.Frag} {mg : Str → Option Value} {h base : Heap}
theorem ok_BadNumber (t : TP w K mg h base) {j k : Nat} : GOk Rw.prog w K mg base (Ts tf K) j k "BadNumber" (.err "value") :=
  err_end (P := Rw.prog) (st := inClass (top 2) 0) (qual := "BadNumber.__init__") t 60 60 (band (band (band (band (band (band (t.says.more : ex K = true)).1).1).1).1).1).2 ⟨rfl, rfl, rfl, by decide +kernel, rfl, by decide +kernel, by decide +kernel⟩ rfl rfl rfl (by decide +kernel) (by decide +kernel) (fun _ _ _ _ _ _ us hl => match us, hl with | [_, _], _ => rfl)
theorem ok_BadFamily (t : TP w K mg h base) {j k : Nat} : GOk Rw.prog w K mg base (Ts tf K) j k "BadFamily" (.err "place") :=
  err_end (P := Rw.prog) (st := inClass (top 3) 0) (qual := "BadFamily.__init__") t 61 61 (band (band (band (band (band (t.says.more : ex K = true)).1).1).1).1).2 ⟨rfl, rfl, rfl, by decide +kernel, rfl, by decide +kernel, by decide +kernel⟩ rfl rfl rfl (by decide +kernel) (by decide +kernel) (fun _ _ _ _ _ _ us hl => match us, hl with | [_, _], _ => rfl)
theorem ok_BadPaper (t : TP w K mg h base) {j k : Nat} : GOk Rw.prog w K mg base (Ts tf K) j k "BadPaper" (.err "word") :=
  err_end (P := Rw.prog) (st := inClass (top 4) 0) (qual := "BadPaper.__init__") t 62 62 (band (band (band (band (t.says.more : ex K = true)).1).1).1).2 ⟨rfl, rfl, rfl, by decide +kernel, rfl, by decide +kernel, by decide +kernel⟩ rfl rfl rfl (by decide +kernel) (by decide +kernel) (fun _ _ _ _ _ _ us hl => match us, hl with | [_, _], _ => rfl)
theorem ok_TooGreat (t : TP w K mg h base) {j k : Nat} : GOk Rw.prog w K mg base (Ts tf K) j k "TooGreat" (.err "most") :=
  err_end (P := Rw.prog) (st := inClass (top 5) 0) (qual := "TooGreat.__init__") t 63 63 (band (band (band (t.says.more : ex K = true)).1).1).2 ⟨rfl, rfl, rfl, by decide +kernel, rfl, by decide +kernel, by decide +kernel⟩ rfl rfl rfl (by decide +kernel) (by decide +kernel) (fun _ _ _ _ _ _ us hl => match us, hl with | [_, _], _ => rfl)
theorem ok_is_integer_from (t : TP w K mg h base) : GOk Rw.prog w K mg base (Ts tf K) 3 3 "is_integer_from" (.fn m_is_integer_from) :=
  fn_end (P := Rw.prog) (st := top 7) (ps := ["value", "low", "high"]) t 0 0 c_is_integer_from ⟨rfl, rfl, rfl, by decide +kernel, rfl, by decide +kernel, by decide +kernel⟩ (fun _ _ _ _ _ _ us hl => match us, hl with | [_, _, _], _ => rfl) (show ∀ x g, gt G_is_integer_from x = some g → GOk Rw.prog w K mg base (Ts tf K) 2 2 x g from (gl_cons (t.blt (P := Rw.prog) (j := 0) (k := 0) 70) (gl_cons (t.blt (P := Rw.prog) (j := 0) (k := 0) 69) (gl_cons (t.blt (P := Rw.prog) (j := 0) (k := 0) 67) gl_nil)))) callM_len
theorem ok_is_tuple_of (t : TP w K mg h base) : GOk Rw.prog w K mg base (Ts tf K) 3 3 "is_tuple_of" (.fn m_is_tuple_of) :=
  fn_end (P := Rw.prog) (st := top 8) (ps := ["value", "many"]) t 1 1 c_is_tuple_of ⟨rfl, rfl, rfl, by decide +kernel, rfl, by decide +kernel, by decide +kernel⟩ (fun _ _ _ _ _ _ us hl => match us, hl with | [_, _], _ => rfl) (show ∀ x g, gt G_is_tuple_of x = some g → GOk Rw.prog w K mg base (Ts tf K) 2 2 x g from (gl_cons (t.blt (P := Rw.prog) (j := 0) (k := 0) 70) (gl_cons (t.blt (P := Rw.prog) (j := 0) (k := 0) 81) (gl_cons (t.blt (P := Rw.prog) (j := 0) (k := 0) 71) gl_nil)))) callM_len
theorem ok_is_word_of (t : TP w K mg h base) : GOk Rw.prog w K mg base (Ts tf K) 3 3 "is_word_of" (.fn m_is_word_of) :=
  fn_end (P := Rw.prog) (st := top 9) (ps := ["value", "words"]) t 2 2 c_is_word_of ⟨rfl, rfl, rfl, by decide +kernel, rfl, by decide +kernel, by decide +kernel⟩ (fun _ _ _ _ _ _ us hl => match us, hl with | [_, _], _ => rfl) (show ∀ x g, gt G_is_word_of x = some g → GOk Rw.prog w K mg base (Ts tf K) 2 2 x g from (gl_cons (t.blt (P := Rw.prog) (j := 0) (k := 0) 70) (gl_cons (t.blt (P := Rw.prog) (j := 0) (k := 0) 79) gl_nil))) callM_len
theorem ok_climb_fault (t : TP w K mg h base) : GOk Rw.prog w K mg base (Ts tf K) 3 3 "climb_fault" (.hof m_climb_fault) :=
  hof_end (P := Rw.prog) (st := top 10) (ps := ["value"]) (a := "is_item") t 3 3 c_climb_fault ⟨rfl, rfl, rfl, by decide +kernel, rfl, by decide +kernel, by decide +kernel⟩ (fun _ _ _ _ _ _ us hl => match us, hl with | [_, _], _ => rfl) (show ∀ x g, gt G_climb_fault x = some g → GOk Rw.prog w K mg base (Ts tf K) 2 2 x g from (gl_cons (t.blt (P := Rw.prog) (j := 0) (k := 0) 70) (gl_cons (t.blt (P := Rw.prog) (j := 0) (k := 0) 81) (gl_cons (t.blt (P := Rw.prog) (j := 0) (k := 0) 68) gl_nil))))
theorem ok_subset_fault (t : TP w K mg h base) : GOk Rw.prog w K mg base (Ts tf K) 6 6 "subset_fault" (.fn m_subset_fault) :=
  fn_endL (P := Rw.prog) (st := top 12) (ps := ["many", "value"]) t 4 4 c_subset_fault ⟨rfl, rfl, rfl, by decide +kernel, rfl, by decide +kernel, by decide +kernel⟩ (fun _ _ _ _ _ _ us hl => match us, hl with | [_, _], _ => rfl) (show ∀ x g, gt G_subset_fault x = some g → GOk Rw.prog w K mg base (Ts tf K) 3 5 x g from (gl_cons (ok_climb_fault t) (gl_cons (ok_is_integer_from t) gl_nil))) callM_len (by simp [tf])
theorem ok_all_subsets (t : TP w K mg h base) : GOk Rw.prog w K mg base (Ts tf K) 3 3 "all_subsets" (.fn m_all_subsets) :=
  fn_end (P := Rw.prog) (st := top 13) (ps := ["many"]) t 5 5 c_all_subsets ⟨rfl, rfl, rfl, by decide +kernel, rfl, by decide +kernel, by decide +kernel⟩ (fun _ _ _ _ _ _ us hl => match us, hl with | [_], _ => rfl) (show ∀ x g, gt G_all_subsets x = some g → GOk Rw.prog w K mg base (Ts tf K) 2 2 x g from (gl_cons (t.blt (P := Rw.prog) (j := 0) (k := 0) 74) (gl_cons (t.blt (P := Rw.prog) (j := 0) (k := 0) 81) (gl_cons (t.blt (P := Rw.prog) (j := 0) (k := 0) 78) gl_nil)))) callM_len
theorem ok_is_within (t : TP w K mg h base) : GOk Rw.prog w K mg base (Ts tf K) 3 3 "is_within" (.fn m_is_within) :=
  fn_end (P := Rw.prog) (st := top 14) (ps := ["subset", "far_subset"]) t 6 6 c_is_within ⟨rfl, rfl, rfl, by decide +kernel, rfl, by decide +kernel, by decide +kernel⟩ (fun _ _ _ _ _ _ us hl => match us, hl with | [_, _], _ => rfl) (show ∀ x g, gt G_is_within x = some g → GOk Rw.prog w K mg base (Ts tf K) 2 2 x g from (gl_cons (t.blt (P := Rw.prog) (j := 0) (k := 0) 65) gl_nil)) callM_len
theorem ok_is_over_one (t : TP w K mg h base) : GOk Rw.prog w K mg base (Ts tf K) 4 4 "is_over_one" (.fn m_is_over_one) :=
  fn_end (P := Rw.prog) (st := top 15) (ps := ["subsets", "subset"]) t 7 7 c_is_over_one ⟨rfl, rfl, rfl, by decide +kernel, rfl, by decide +kernel, by decide +kernel⟩ (fun _ _ _ _ _ _ us hl => match us, hl with | [_, _], _ => rfl) (show ∀ x g, gt G_is_over_one x = some g → GOk Rw.prog w K mg base (Ts tf K) 3 3 x g from (gl_cons (t.blt (P := Rw.prog) (j := 0) (k := 0) 66) (gl_cons (ok_is_within t) gl_nil))) callM_len
theorem ok_exchanged (t : TP w K mg h base) : GOk Rw.prog w K mg base (Ts tf K) 3 3 "exchanged" (.fn m_exchanged) :=
  fn_end (P := Rw.prog) (st := top 16) (ps := ["subset", "item", "new_item"]) t 8 8 c_exchanged ⟨rfl, rfl, rfl, by decide +kernel, rfl, by decide +kernel, by decide +kernel⟩ (fun _ _ _ _ _ _ us hl => match us, hl with | [_, _, _], _ => rfl) (show ∀ x g, gt G_exchanged x = some g → GOk Rw.prog w K mg base (Ts tf K) 2 2 x g from (gl_cons (t.blt (P := Rw.prog) (j := 0) (k := 0) 81) (gl_cons (t.blt (P := Rw.prog) (j := 0) (k := 0) 78) gl_nil))) callM_len
theorem ok_is_known_without (t : TP w K mg h base) : GOk Rw.prog w K mg base (Ts tf K) 3 3 "is_known_without" (.fn m_is_known_without) :=
  fn_end (P := Rw.prog) (st := top 18) (ps := ["known", "subset", "item"]) t 10 10 c_is_known_without ⟨rfl, rfl, rfl, by decide +kernel, rfl, by decide +kernel, by decide +kernel⟩ (fun _ _ _ _ _ _ us hl => match us, hl with | [_, _, _], _ => rfl) (show ∀ x g, gt G_is_known_without x = some g → GOk Rw.prog w K mg base (Ts tf K) 2 2 x g from (gl_cons (t.blt (P := Rw.prog) (j := 0) (k := 0) 81) gl_nil)) callM_len
theorem ok_least_of_closed (t : TP w K mg h base) : GOk Rw.prog w K mg base (Ts tf K) 4 4 "least_of_closed" (.fn m_least_of_closed) :=
  fn_end (P := Rw.prog) (st := top 17) (ps := ["subsets"]) t 9 9 c_least_of_closed ⟨rfl, rfl, rfl, by decide +kernel, rfl, by decide +kernel, by decide +kernel⟩ (fun _ _ _ _ _ _ us hl => match us, hl with | [_], _ => rfl) (show ∀ x g, gt G_least_of_closed x = some g → GOk Rw.prog w K mg base (Ts tf K) 3 3 x g from (gl_cons (t.blt (P := Rw.prog) (j := 0) (k := 0) 81) (gl_cons (t.blt (P := Rw.prog) (j := 0) (k := 0) 66) (gl_cons (ok_is_known_without t) gl_nil)))) callM_len
theorem ok_need_many (t : TP w K mg h base) : GOk Rw.prog w K mg base (Ts tf K) 4 4 "need_many" (.fn m_need_many) :=
  fn_end (P := Rw.prog) (st := top 21) (ps := ["many"]) t 11 11 c_need_many ⟨rfl, rfl, rfl, by decide +kernel, rfl, by decide +kernel, by decide +kernel⟩ (fun _ _ _ _ _ _ us hl => match us, hl with | [_], _ => rfl) (show ∀ x g, gt G_need_many x = some g → GOk Rw.prog w K mg base (Ts tf K) 3 3 x g from (gl_cons (ok_is_integer_from t) (gl_cons (t.int (P := Rw.prog) (j := 0) (k := 0) 82) (gl_cons (ok_BadNumber t (j := 0) (k := 0)) gl_nil)))) callM_len
theorem ok_may_stand_behind (t : TP w K mg h base) : GOk Rw.prog w K mg base (Ts tf K) 4 4 "may_stand_behind" (.fn m_may_stand_behind) :=
  fn_end (P := Rw.prog) (st := top 26) (ps := ["lots", "lot"]) t 13 13 c_may_stand_behind ⟨rfl, rfl, rfl, by decide +kernel, rfl, by decide +kernel, by decide +kernel⟩ (fun _ _ _ _ _ _ us hl => match us, hl with | [_, _], _ => rfl) (show ∀ x g, gt G_may_stand_behind x = some g → GOk Rw.prog w K mg base (Ts tf K) 3 3 x g from (gl_cons (t.blt (P := Rw.prog) (j := 0) (k := 0) 65) (gl_cons (ok_is_within t) gl_nil))) callM_len
theorem ok_family_fault (t : TP w K mg h base) : GOk Rw.prog w K mg base (Ts tf K) 7 7 "family_fault" (.fn m_family_fault) :=
  fn_end (P := Rw.prog) (st := top 25) (ps := ["many", "value"]) t 12 12 c_family_fault ⟨rfl, rfl, rfl, by decide +kernel, rfl, by decide +kernel, by decide +kernel⟩ (fun _ _ _ _ _ _ us hl => match us, hl with | [_, _], _ => rfl) (show ∀ x g, gt G_family_fault x = some g → GOk Rw.prog w K mg base (Ts tf K) 6 6 x g from (gl_cons (t.blt (P := Rw.prog) (j := 0) (k := 0) 70) (gl_cons (t.blt (P := Rw.prog) (j := 0) (k := 0) 81) (gl_cons (t.blt (P := Rw.prog) (j := 0) (k := 0) 68) (gl_cons (ok_subset_fault t) (gl_cons (ok_may_stand_behind t) gl_nil)))))) callM_len
theorem ok_need_family_below (t : TP w K mg h base) : GOk Rw.prog w K mg base (Ts tf K) 8 8 "need_family_below" (.fn m_need_family_below) :=
  fn_end (P := Rw.prog) (st := top 27) (ps := ["many", "family"]) t 14 14 c_need_family_below ⟨rfl, rfl, rfl, by decide +kernel, rfl, by decide +kernel, by decide +kernel⟩ (fun _ _ _ _ _ _ us hl => match us, hl with | [_, _], _ => rfl) (show ∀ x g, gt G_need_family_below x = some g → GOk Rw.prog w K mg base (Ts tf K) 7 7 x g from (gl_cons (ok_family_fault t) (gl_cons (ok_BadFamily t (j := 0) (k := 0)) gl_nil))) callM_len
theorem ok_need_family (t : TP w K mg h base) : GOk Rw.prog w K mg base (Ts tf K) 9 9 "need_family" (.fn m_need_family) :=
  fn_end (P := Rw.prog) (st := top 28) (ps := ["many", "family"]) t 15 15 c_need_family ⟨rfl, rfl, rfl, by decide +kernel, rfl, by decide +kernel, by decide +kernel⟩ (fun _ _ _ _ _ _ us hl => match us, hl with | [_, _], _ => rfl) (show ∀ x g, gt G_need_family x = some g → GOk Rw.prog w K mg base (Ts tf K) 8 8 x g from (gl_cons (ok_need_many t) (gl_cons (ok_need_family_below t) gl_nil))) callM_len
theorem ok_lost_by (t : TP w K mg h base) : GOk Rw.prog w K mg base (Ts tf K) 5 5 "lost_by" (.fn m_lost_by) :=
  fn_end (P := Rw.prog) (st := top 29) (ps := ["family", "member", "far_member"]) t 16 16 c_lost_by ⟨rfl, rfl, rfl, by decide +kernel, rfl, by decide +kernel, by decide +kernel⟩ (fun _ _ _ _ _ _ us hl => match us, hl with | [_, _, _], _ => rfl) (show ∀ x g, gt G_lost_by x = some g → GOk Rw.prog w K mg base (Ts tf K) 4 4 x g from (gl_cons (ok_is_over_one t) (gl_cons (ok_exchanged t) gl_nil))) callM_len
theorem ok_unlike_pair (t : TP w K mg h base) : GOk Rw.prog w K mg base (Ts tf K) 6 6 "unlike_pair" (.fn m_unlike_pair) :=
  fn_end (P := Rw.prog) (st := top 30) (ps := ["many", "family"]) t 17 17 c_unlike_pair ⟨rfl, rfl, rfl, by decide +kernel, rfl, by decide +kernel, by decide +kernel⟩ (fun _ _ _ _ _ _ us hl => match us, hl with | [_, _], _ => rfl) (show ∀ x g, gt G_unlike_pair x = some g → GOk Rw.prog w K mg base (Ts tf K) 5 5 x g from (gl_cons (t.blt (P := Rw.prog) (j := 0) (k := 0) 74) (gl_cons (ok_lost_by t) gl_nil))) callM_len
theorem ok_rows_by_strength (t : TP w K mg h base) : GOk Rw.prog w K mg base (Ts tf K) 6 6 "rows_by_strength" (.fn m_rows_by_strength) :=
  fn_end (P := Rw.prog) (st := top 31) (ps := ["many", "family"]) t 18 18 c_rows_by_strength ⟨rfl, rfl, rfl, by decide +kernel, rfl, by decide +kernel, by decide +kernel⟩ (fun _ _ _ _ _ _ us hl => match us, hl with | [_, _], _ => rfl) (show ∀ x g, gt G_rows_by_strength x = some g → GOk Rw.prog w K mg base (Ts tf K) 5 5 x g from (gl_cons (t.blt (P := Rw.prog) (j := 0) (k := 0) 72) (gl_cons (t.blt (P := Rw.prog) (j := 0) (k := 0) 74) (gl_cons (t.blt (P := Rw.prog) (j := 0) (k := 0) 65) (gl_cons (ok_lost_by t) (gl_cons (t.blt (P := Rw.prog) (j := 0) (k := 0) 81) gl_nil)))))) callM_len
theorem ok_strength_rows (t : TP w K mg h base) : GOk Rw.prog w K mg base (Ts tf K) 10 10 "strength_rows" (.fn m_strength_rows) :=
  fn_end (P := Rw.prog) (st := top 32) (ps := ["many", "family"]) t 19 19 c_strength_rows ⟨rfl, rfl, rfl, by decide +kernel, rfl, by decide +kernel, by decide +kernel⟩ (fun _ _ _ _ _ _ us hl => match us, hl with | [_, _], _ => rfl) (show ∀ x g, gt G_strength_rows x = some g → GOk Rw.prog w K mg base (Ts tf K) 9 9 x g from (gl_cons (ok_need_family t) (gl_cons (ok_unlike_pair t) (gl_cons (ok_rows_by_strength t) gl_nil)))) callM_len
theorem ok_family_count (t : TP w K mg h base) : GOk Rw.prog w K mg base (Ts tf K) 5 5 "family_count" (.fn m_family_count) :=
  fn_end (P := Rw.prog) (st := top 33) (ps := ["many"]) t 20 20 c_family_count ⟨rfl, rfl, rfl, by decide +kernel, rfl, by decide +kernel, by decide +kernel⟩ (fun _ _ _ _ _ _ us hl => match us, hl with | [_], _ => rfl) (show ∀ x g, gt G_family_count x = some g → GOk Rw.prog w K mg base (Ts tf K) 4 4 x g from (gl_cons (t.tup (P := Rw.prog) (j := 0) (k := 0) 64 (band (band (band (band (band (band (t.says.more : ex K = true)).1).1).1).1).1).1) (gl_cons (ok_need_many t) gl_nil))) callM_len
theorem ok_all_families (t : TP w K mg h base) : GOk Rw.prog w K mg base (Ts tf K) 6 6 "all_families" (.fn m_all_families) :=
  fn_end (P := Rw.prog) (st := top 34) (ps := ["many"]) t 21 21 c_all_families ⟨rfl, rfl, rfl, by decide +kernel, rfl, by decide +kernel, by decide +kernel⟩ (fun _ _ _ _ _ _ us hl => match us, hl with | [_], _ => rfl) (show ∀ x g, gt G_all_families x = some g → GOk Rw.prog w K mg base (Ts tf K) 5 5 x g from (gl_cons (ok_family_count t) (gl_cons (t.int (P := Rw.prog) (j := 0) (k := 0) 83) (gl_cons (ok_TooGreat t (j := 0) (k := 0)) (gl_cons (ok_all_subsets t) (gl_cons (ok_may_stand_behind t) (gl_cons (t.blt (P := Rw.prog) (j := 0) (k := 0) 81) (gl_cons (t.blt (P := Rw.prog) (j := 0) (k := 0) 78) gl_nil)))))))) callM_len
theorem ok_is_weighing (t : TP w K mg h base) : GOk Rw.prog w K mg base (Ts tf K) 4 4 "is_weighing" (.fn m_is_weighing) :=
  fn_end (P := Rw.prog) (st := top 38) (ps := ["many", "value"]) t 22 22 c_is_weighing ⟨rfl, rfl, rfl, by decide +kernel, rfl, by decide +kernel, by decide +kernel⟩ (fun _ _ _ _ _ _ us hl => match us, hl with | [_, _], _ => rfl) (show ∀ x g, gt G_is_weighing x = some g → GOk Rw.prog w K mg base (Ts tf K) 3 3 x g from (gl_cons (ok_is_tuple_of t) (gl_cons (t.blt (P := Rw.prog) (j := 0) (k := 0) 65) (gl_cons (ok_is_integer_from t) (gl_cons (t.int (P := Rw.prog) (j := 0) (k := 0) 84) (gl_cons (t.int (P := Rw.prog) (j := 0) (k := 0) 85) gl_nil)))))) callM_len
theorem ok_load_of (t : TP w K mg h base) : GOk Rw.prog w K mg base (Ts tf K) 3 3 "load_of" (.fn m_load_of) :=
  fn_end (P := Rw.prog) (st := top 39) (ps := ["loads", "lot"]) t 23 23 c_load_of ⟨rfl, rfl, rfl, by decide +kernel, rfl, by decide +kernel, by decide +kernel⟩ (fun _ _ _ _ _ _ us hl => match us, hl with | [_, _], _ => rfl) (show ∀ x g, gt G_load_of x = some g → GOk Rw.prog w K mg base (Ts tf K) 2 2 x g from (gl_cons (t.blt (P := Rw.prog) (j := 0) (k := 0) 80) gl_nil)) callM_len
theorem ok_family_weighed (t : TP w K mg h base) : GOk Rw.prog w K mg base (Ts tf K) 5 5 "family_weighed" (.fn m_family_weighed) :=
  fn_end (P := Rw.prog) (st := top 40) (ps := ["many", "loads", "quota"]) t 24 24 c_family_weighed ⟨rfl, rfl, rfl, by decide +kernel, rfl, by decide +kernel, by decide +kernel⟩ (fun _ _ _ _ _ _ us hl => match us, hl with | [_, _, _], _ => rfl) (show ∀ x g, gt G_family_weighed x = some g → GOk Rw.prog w K mg base (Ts tf K) 4 4 x g from (gl_cons (ok_least_of_closed t) (gl_cons (ok_all_subsets t) (gl_cons (ok_load_of t) gl_nil)))) callM_len
theorem ok_weighed_family (t : TP w K mg h base) : GOk Rw.prog w K mg base (Ts tf K) 6 6 "weighed_family" (.fn m_weighed_family) :=
  fn_end (P := Rw.prog) (st := top 41) (ps := ["many", "weighing"]) t 25 25 c_weighed_family ⟨rfl, rfl, rfl, by decide +kernel, rfl, by decide +kernel, by decide +kernel⟩ (fun _ _ _ _ _ _ us hl => match us, hl with | [_, _], _ => rfl) (show ∀ x g, gt G_weighed_family x = some g → GOk Rw.prog w K mg base (Ts tf K) 5 5 x g from (gl_cons (ok_need_many t) (gl_cons (ok_is_weighing t) (gl_cons (ok_BadPaper t (j := 0) (k := 0)) (gl_cons (ok_family_weighed t) gl_nil))))) callM_len
theorem ok_is_weighed (t : TP w K mg h base) : GOk Rw.prog w K mg base (Ts tf K) 10 10 "is_weighed" (.fn m_is_weighed) :=
  fn_end (P := Rw.prog) (st := top 42) (ps := ["many", "family"]) t 26 26 c_is_weighed ⟨rfl, rfl, rfl, by decide +kernel, rfl, by decide +kernel, by decide +kernel⟩ (fun _ _ _ _ _ _ us hl => match us, hl with | [_, _], _ => rfl) (show ∀ x g, gt G_is_weighed x = some g → GOk Rw.prog w K mg base (Ts tf K) 9 9 x g from (gl_cons (ok_need_family t) (gl_cons (ok_unlike_pair t) gl_nil))) callM_len
theorem ok_low_loads (t : TP w K mg h base) : GOk Rw.prog w K mg base (Ts tf K) 7 7 "low_loads" (.fn m_low_loads) :=
  fn_end (P := Rw.prog) (st := top 43) (ps := ["many", "family"]) t 27 27 c_low_loads ⟨rfl, rfl, rfl, by decide +kernel, rfl, by decide +kernel, by decide +kernel⟩ (fun _ _ _ _ _ _ us hl => match us, hl with | [_, _], _ => rfl) (show ∀ x g, gt G_low_loads x = some g → GOk Rw.prog w K mg base (Ts tf K) 6 6 x g from (gl_cons (t.blt (P := Rw.prog) (j := 0) (k := 0) 76) (gl_cons (ok_rows_by_strength t) (gl_cons (t.blt (P := Rw.prog) (j := 0) (k := 0) 66) (gl_cons (t.blt (P := Rw.prog) (j := 0) (k := 0) 81) gl_nil))))) callM_len
theorem ok_loads_summing (t : TP w K mg h base) : GOk Rw.prog w K mg base (Ts tf K) 14 14 "loads_summing" (.fn m_loads_summing) :=
  rec_end (P := Rw.prog) (st := top 44) (ps := ["lows", "total"]) (k := 2) (G := fun F => gt (G_loads_summing F)) (B := b_loads_summing) t 28 28 (fun F j k tb => c_loads_summing F j k tb) ⟨rfl, rfl, rfl, by decide +kernel, rfl, by decide +kernel, by decide +kernel⟩ (fun _ _ _ _ _ _ us hl => match us, hl with | [_, _], _ => rfl) (fun F d own => show ∀ y g, gt (G_loads_summing F) y = some g → GOk Rw.prog w K mg base (Ts tf K) (2 + d) (2 + d) y g from (gl_cons (t.blt (P := Rw.prog) (j := 0) (k := 0) 71) (gl_cons (t.blt (P := Rw.prog) (j := 0) (k := 0) 74) (gl_cons (t.blt (P := Rw.prog) (j := 0) (k := 0) 80) (gl_cons own gl_nil (by omega) (by omega)) (by omega) (by omega)) (by omega) (by omega)) (by omega) (by omega))) (fun F => callM_len) rfl rfl (by decide) 12
theorem ok_least_quota (t : TP w K mg h base) : GOk Rw.prog w K mg base (Ts tf K) 4 4 "least_quota" (.fn m_least_quota) :=
  fn_end (P := Rw.prog) (st := top 45) (ps := ["family", "losing", "loads"]) t 29 29 c_least_quota ⟨rfl, rfl, rfl, by decide +kernel, rfl, by decide +kernel, by decide +kernel⟩ (fun _ _ _ _ _ _ us hl => match us, hl with | [_, _, _], _ => rfl) (show ∀ x g, gt G_least_quota x = some g → GOk Rw.prog w K mg base (Ts tf K) 3 3 x g from (gl_cons (t.blt (P := Rw.prog) (j := 0) (k := 0) 73) (gl_cons (ok_load_of t) (gl_cons (t.blt (P := Rw.prog) (j := 0) (k := 0) 65) gl_nil)))) callM_len
theorem ok_found_weighing (t : TP w K mg h base) : GOk Rw.prog w K mg base (Ts tf K) 15 15 "found_weighing" (.fn m_found_weighing) :=
  fn_end (P := Rw.prog) (st := top 46) (ps := ["many", "family"]) t 30 30 c_found_weighing ⟨rfl, rfl, rfl, by decide +kernel, rfl, by decide +kernel, by decide +kernel⟩ (fun _ _ _ _ _ _ us hl => match us, hl with | [_, _], _ => rfl) (show ∀ x g, gt G_found_weighing x = some g → GOk Rw.prog w K mg base (Ts tf K) 14 14 x g from (gl_cons (ok_all_subsets t) (gl_cons (ok_is_over_one t) (gl_cons (ok_low_loads t) (gl_cons (t.blt (P := Rw.prog) (j := 0) (k := 0) 74) (gl_cons (t.blt (P := Rw.prog) (j := 0) (k := 0) 80) (gl_cons (t.int (P := Rw.prog) (j := 0) (k := 0) 84) (gl_cons (ok_loads_summing t) (gl_cons (ok_least_quota t) gl_nil))))))))) callM_len
theorem ok_least_weighing (t : TP w K mg h base) : GOk Rw.prog w K mg base (Ts tf K) 16 16 "least_weighing" (.fn m_least_weighing) :=
  fn_end (P := Rw.prog) (st := top 47) (ps := ["many", "family"]) t 31 31 c_least_weighing ⟨rfl, rfl, rfl, by decide +kernel, rfl, by decide +kernel, by decide +kernel⟩ (fun _ _ _ _ _ _ us hl => match us, hl with | [_, _], _ => rfl) (show ∀ x g, gt G_least_weighing x = some g → GOk Rw.prog w K mg base (Ts tf K) 15 15 x g from (gl_cons (ok_is_weighed t) (gl_cons (ok_found_weighing t) gl_nil))) callM_len
theorem ok_full_weighing (t : TP w K mg h base) : GOk Rw.prog w K mg base (Ts tf K) 17 17 "full_weighing" (.fn m_full_weighing) :=
  fn_end (P := Rw.prog) (st := top 48) (ps := ["many", "family"]) t 32 32 c_full_weighing ⟨rfl, rfl, rfl, by decide +kernel, rfl, by decide +kernel, by decide +kernel⟩ (fun _ _ _ _ _ _ us hl => match us, hl with | [_, _], _ => rfl) (show ∀ x g, gt G_full_weighing x = some g → GOk Rw.prog w K mg base (Ts tf K) 16 16 x g from (gl_cons (ok_least_weighing t) (gl_cons (t.blt (P := Rw.prog) (j := 0) (k := 0) 81) gl_nil))) callM_len
theorem ok_weighing_paper (t : TP w K mg h base) : GOk Rw.prog w K mg base (Ts tf K) 16 16 "weighing_paper" (.fn m_weighing_paper) :=
  fn_end (P := Rw.prog) (st := top 49) (ps := ["many", "family"]) t 33 33 c_weighing_paper ⟨rfl, rfl, rfl, by decide +kernel, rfl, by decide +kernel, by decide +kernel⟩ (fun _ _ _ _ _ _ us hl => match us, hl with | [_, _], _ => rfl) (show ∀ x g, gt G_weighing_paper x = some g → GOk Rw.prog w K mg base (Ts tf K) 15 15 x g from (gl_cons (ok_need_family t) (gl_cons (ok_unlike_pair t) (gl_cons (ok_found_weighing t) (gl_cons (ok_lost_by t) gl_nil))))) callM_len
theorem ok_need_paper_form (t : TP w K mg h base) : GOk Rw.prog w K mg base (Ts tf K) 4 4 "need_paper_form" (.fn m_need_paper_form) :=
  fn_end (P := Rw.prog) (st := top 50) (ps := ["paper"]) t 34 34 c_need_paper_form ⟨rfl, rfl, rfl, by decide +kernel, rfl, by decide +kernel, by decide +kernel⟩ (fun _ _ _ _ _ _ us hl => match us, hl with | [_], _ => rfl) (show ∀ x g, gt G_need_paper_form x = some g → GOk Rw.prog w K mg base (Ts tf K) 3 3 x g from (gl_cons (ok_is_tuple_of t) (gl_cons (ok_is_word_of t) (gl_cons (ok_BadPaper t (j := 0) (k := 0)) gl_nil)))) callM_len
theorem ok_do_loads_hold (t : TP w K mg h base) : GOk Rw.prog w K mg base (Ts tf K) 6 6 "do_loads_hold" (.fn m_do_loads_hold) :=
  fn_end (P := Rw.prog) (st := top 51) (ps := ["many", "family", "loads", "quota"]) t 35 35 c_do_loads_hold ⟨rfl, rfl, rfl, by decide +kernel, rfl, by decide +kernel, by decide +kernel⟩ (fun _ _ _ _ _ _ us hl => match us, hl with | [_, _, _, _], _ => rfl) (show ∀ x g, gt G_do_loads_hold x = some g → GOk Rw.prog w K mg base (Ts tf K) 5 5 x g from (gl_cons (ok_is_weighing t) (gl_cons (ok_family_weighed t) gl_nil))) callM_len
theorem ok_does_swap_hold (t : TP w K mg h base) : GOk Rw.prog w K mg base (Ts tf K) 7 7 "does_swap_hold" (.fn m_does_swap_hold) :=
  fn_end (P := Rw.prog) (st := top 52) (ps := ["many", "family", "swap"]) t 36 36 c_does_swap_hold ⟨rfl, rfl, rfl, by decide +kernel, rfl, by decide +kernel, by decide +kernel⟩ (fun _ _ _ _ _ _ us hl => match us, hl with | [_, _, _], _ => rfl) (show ∀ x g, gt G_does_swap_hold x = some g → GOk Rw.prog w K mg base (Ts tf K) 6 6 x g from (gl_cons (ok_subset_fault t) (gl_cons (ok_is_integer_from t) (gl_cons (ok_is_over_one t) (gl_cons (ok_exchanged t) gl_nil))))) callM_len
theorem ok_check_weighing (t : TP w K mg h base) : GOk Rw.prog w K mg base (Ts tf K) 10 10 "check_weighing" (.fn m_check_weighing) :=
  fn_end (P := Rw.prog) (st := top 53) (ps := ["many", "family", "paper"]) t 37 37 c_check_weighing ⟨rfl, rfl, rfl, by decide +kernel, rfl, by decide +kernel, by decide +kernel⟩ (fun _ _ _ _ _ _ us hl => match us, hl with | [_, _, _], _ => rfl) (show ∀ x g, gt G_check_weighing x = some g → GOk Rw.prog w K mg base (Ts tf K) 9 9 x g from (gl_cons (ok_need_family t) (gl_cons (ok_need_paper_form t) (gl_cons (ok_do_loads_hold t) (gl_cons (ok_does_swap_hold t) (gl_cons (ok_BadPaper t (j := 0) (k := 0)) gl_nil)))))) callM_len
theorem ok__law_mixed (t : TP w K mg h base) : GOk Rw.prog w K mg base (Ts tf K) 3 3 "_law_mixed" (.fn m__law_mixed) :=
  fn_end (P := Rw.prog) (st := top 55) (ps := ["cell", "n"]) t 38 38 c__law_mixed ⟨rfl, rfl, rfl, by decide +kernel, rfl, by decide +kernel, by decide +kernel⟩ (fun _ _ _ _ _ _ us hl => match us, hl with | [_, _], _ => rfl) (show ∀ x g, gt G__law_mixed x = some g → GOk Rw.prog w K mg base (Ts tf K) 2 2 x g from (gl_cons (t.blt (P := Rw.prog) (j := 0) (k := 0) 69) gl_nil)) callM_len
theorem ok__law_draw (t : TP w K mg h base) : GOk Rw.prog w K mg base (Ts tf K) 4 4 "_law_draw" (.fn m__law_draw) := by
  obtain ⟨fm, fdm, psm, n, hm, hk, hb, Gm, len⟩ := ok__law_mixed t
  have n2 : 2 = n := len [.dat (.int 0), .dat (.int 0)] none (fun _ _ => True) (fun _ _ _ => True) (by rw [run_mixed 0 0 none (by decide) (by decide)]; trivial)
  subst n2
  obtain ⟨fd, F⟩ := t.fd (x := "_law_draw") (st := top 57) 40 rfl
  exact ⟨_, fd, ["m", "limit"], 2, t.glo 40, F.kp, FunD.bindsN F (fun _ _ _ _ _ _ us hl => match us, hl with | [_, _], _ => rfl), ok_draw (fun_of F) Gm hm hk hb run_mixed (t.blt (P := Rw.prog) (j := 0) (k := 0) 69) (t.blt (P := Rw.prog) (j := 0) (k := 0) 71) (by decide), drawM_len⟩
theorem ok__law_like (t : TP w K mg h base) : GOk Rw.prog w K mg base (Ts tf K) 3 3 "_law_like" (.fn m__law_like) :=
  fn_end (P := Rw.prog) (st := top 59) (ps := ["got", "due"]) t 42 42 c__law_like ⟨rfl, rfl, rfl, by decide +kernel, rfl, by decide +kernel, by decide +kernel⟩ (fun _ _ _ _ _ _ us hl => match us, hl with | [_, _], _ => rfl) (show ∀ x g, gt G__law_like x = some g → GOk Rw.prog w K mg base (Ts tf K) 2 2 x g from (gl_cons (t.blt (P := Rw.prog) (j := 0) (k := 0) 75) gl_nil)) callM_len
theorem ok__law_of (t : TP w K mg h base) : GOk Rw.prog w K mg base (Ts tf K) 5 5 "_law_of" (.fn m__law_of) :=
  fn_end (P := Rw.prog) (st := top 60) (ps := ["m", "some"]) t 43 43 c__law_of ⟨rfl, rfl, rfl, by decide +kernel, rfl, by decide +kernel, by decide +kernel⟩ (fun _ _ _ _ _ _ us hl => match us, hl with | [_, _], _ => rfl) (show ∀ x g, gt G__law_of x = some g → GOk Rw.prog w K mg base (Ts tf K) 4 4 x g from (gl_cons (ok__law_draw t) (gl_cons (t.blt (P := Rw.prog) (j := 0) (k := 0) 71) gl_nil))) callM_len
theorem ok__law_lots (t : TP w K mg h base) : GOk Rw.prog w K mg base (Ts tf K) 3 3 "_law_lots" (.fn m__law_lots) :=
  fn_end (P := Rw.prog) (st := top 61) (ps := ["many"]) t 44 44 c__law_lots ⟨rfl, rfl, rfl, by decide +kernel, rfl, by decide +kernel, by decide +kernel⟩ (fun _ _ _ _ _ _ us hl => match us, hl with | [_], _ => rfl) (show ∀ x g, gt G__law_lots x = some g → GOk Rw.prog w K mg base (Ts tf K) 2 2 x g from (gl_cons (t.blt (P := Rw.prog) (j := 0) (k := 0) 74) (gl_cons (t.blt (P := Rw.prog) (j := 0) (k := 0) 78) gl_nil))) callM_len
theorem ok__law_within (t : TP w K mg h base) : GOk Rw.prog w K mg base (Ts tf K) 3 3 "_law_within" (.fn m__law_within) :=
  fn_end (P := Rw.prog) (st := top 62) (ps := ["lot", "far"]) t 45 45 c__law_within ⟨rfl, rfl, rfl, by decide +kernel, rfl, by decide +kernel, by decide +kernel⟩ (fun _ _ _ _ _ _ us hl => match us, hl with | [_, _], _ => rfl) (show ∀ x g, gt G__law_within x = some g → GOk Rw.prog w K mg base (Ts tf K) 2 2 x g from gl_nil) callM_len
theorem ok__law_has (t : TP w K mg h base) : GOk Rw.prog w K mg base (Ts tf K) 4 4 "_law_has" (.fn m__law_has) :=
  fn_end (P := Rw.prog) (st := top 63) (ps := ["some", "lot"]) t 46 46 c__law_has ⟨rfl, rfl, rfl, by decide +kernel, rfl, by decide +kernel, by decide +kernel⟩ (fun _ _ _ _ _ _ us hl => match us, hl with | [_, _], _ => rfl) (show ∀ x g, gt G__law_has x = some g → GOk Rw.prog w K mg base (Ts tf K) 3 3 x g from (gl_cons (ok__law_within t) gl_nil)) callM_len
theorem ok__law_bare (t : TP w K mg h base) : GOk Rw.prog w K mg base (Ts tf K) 4 4 "_law_bare" (.fn m__law_bare) :=
  fn_end (P := Rw.prog) (st := top 64) (ps := ["some"]) t 47 47 c__law_bare ⟨rfl, rfl, rfl, by decide +kernel, rfl, by decide +kernel, by decide +kernel⟩ (fun _ _ _ _ _ _ us hl => match us, hl with | [_], _ => rfl) (show ∀ x g, gt G__law_bare x = some g → GOk Rw.prog w K mg base (Ts tf K) 3 3 x g from (gl_cons (t.blt (P := Rw.prog) (j := 0) (k := 0) 78) (gl_cons (t.blt (P := Rw.prog) (j := 0) (k := 0) 77) (gl_cons (t.blt (P := Rw.prog) (j := 0) (k := 0) 81) (gl_cons (ok__law_within t) gl_nil))))) callM_len
theorem ok__law_family (t : TP w K mg h base) : GOk Rw.prog w K mg base (Ts tf K) 5 5 "_law_family" (.fn m__law_family) :=
  fn_end (P := Rw.prog) (st := top 65) (ps := ["m", "many"]) t 48 48 c__law_family ⟨rfl, rfl, rfl, by decide +kernel, rfl, by decide +kernel, by decide +kernel⟩ (fun _ _ _ _ _ _ us hl => match us, hl with | [_, _], _ => rfl) (show ∀ x g, gt G__law_family x = some g → GOk Rw.prog w K mg base (Ts tf K) 4 4 x g from (gl_cons (ok__law_draw t) (gl_cons (ok__law_bare t) (gl_cons (ok__law_lots t) gl_nil)))) callM_len
theorem ok__law_every (t : TP w K mg h base) : GOk Rw.prog w K mg base (Ts tf K) 16 16 "_law_every" (.fn m__law_every) :=
  rec_end (P := Rw.prog) (st := top 66) (ps := ["many"]) (k := 4) (G := fun F => gt (G__law_every F)) (B := b__law_every) t 49 49 (fun F j k tb => c__law_every F j k tb) ⟨rfl, rfl, rfl, by decide +kernel, rfl, by decide +kernel, by decide +kernel⟩ (fun _ _ _ _ _ _ us hl => match us, hl with | [_], _ => rfl) (fun F d own => show ∀ y g, gt (G__law_every F) y = some g → GOk Rw.prog w K mg base (Ts tf K) (4 + d) (4 + d) y g from (gl_cons own (gl_cons (ok__law_has t) (gl_cons (ok__law_bare t) (gl_cons (t.blt (P := Rw.prog) (j := 0) (k := 0) 72) (gl_cons (t.blt (P := Rw.prog) (j := 0) (k := 0) 78) gl_nil (by omega) (by omega)) (by omega) (by omega)) (by omega) (by omega)) (by omega) (by omega)) (by omega) (by omega))) (fun F => callM_len) rfl rfl (by decide) 12
theorem ok__law_loads (t : TP w K mg h base) : GOk Rw.prog w K mg base (Ts tf K) 14 14 "_law_loads" (.fn m__law_loads) :=
  rec_end (P := Rw.prog) (st := top 67) (ps := ["many", "total"]) (k := 2) (G := fun F => gt (G__law_loads F)) (B := b__law_loads) t 50 50 (fun F j k tb => c__law_loads F j k tb) ⟨rfl, rfl, rfl, by decide +kernel, rfl, by decide +kernel, by decide +kernel⟩ (fun _ _ _ _ _ _ us hl => match us, hl with | [_, _], _ => rfl) (fun F d own => show ∀ y g, gt (G__law_loads F) y = some g → GOk Rw.prog w K mg base (Ts tf K) (2 + d) (2 + d) y g from (gl_cons (t.blt (P := Rw.prog) (j := 0) (k := 0) 74) (gl_cons own gl_nil (by omega) (by omega)) (by omega) (by omega))) (fun F => callM_len) rfl rfl (by decide) 12
theorem ok__law_quota (t : TP w K mg h base) : GOk Rw.prog w K mg base (Ts tf K) 5 5 "_law_quota" (.fn m__law_quota) :=
  fn_end (P := Rw.prog) (st := top 68) (ps := ["many", "family_so", "loads_so"]) t 51 51 c__law_quota ⟨rfl, rfl, rfl, by decide +kernel, rfl, by decide +kernel, by decide +kernel⟩ (fun _ _ _ _ _ _ us hl => match us, hl with | [_, _, _], _ => rfl) (show ∀ x g, gt G__law_quota x = some g → GOk Rw.prog w K mg base (Ts tf K) 4 4 x g from (gl_cons (ok__law_lots t) (gl_cons (t.blt (P := Rw.prog) (j := 0) (k := 0) 80) (gl_cons (ok__law_has t) (gl_cons (t.blt (P := Rw.prog) (j := 0) (k := 0) 73) gl_nil))))) callM_len
theorem ok__law_least (t : TP w K mg h base) : GOk Rw.prog w K mg base (Ts tf K) 15 15 "_law_least" (.fn m__law_least) :=
  fn_end (P := Rw.prog) (st := top 69) (ps := ["many", "family_so"]) t 52 52 c__law_least ⟨rfl, rfl, rfl, by decide +kernel, rfl, by decide +kernel, by decide +kernel⟩ (fun _ _ _ _ _ _ us hl => match us, hl with | [_, _], _ => rfl) (show ∀ x g, gt G__law_least x = some g → GOk Rw.prog w K mg base (Ts tf K) 14 14 x g from (gl_cons (t.blt (P := Rw.prog) (j := 0) (k := 0) 74) (gl_cons (ok__law_loads t) (gl_cons (ok__law_quota t) gl_nil)))) callM_len
theorem ok__law_swapped (t : TP w K mg h base) : GOk Rw.prog w K mg base (Ts tf K) 3 3 "_law_swapped" (.fn m__law_swapped) :=
  fn_end (P := Rw.prog) (st := top 70) (ps := ["lot", "k", "far"]) t 53 53 c__law_swapped ⟨rfl, rfl, rfl, by decide +kernel, rfl, by decide +kernel, by decide +kernel⟩ (fun _ _ _ _ _ _ us hl => match us, hl with | [_, _, _], _ => rfl) (show ∀ x g, gt G__law_swapped x = some g → GOk Rw.prog w K mg base (Ts tf K) 2 2 x g from (gl_cons (t.blt (P := Rw.prog) (j := 0) (k := 0) 81) (gl_cons (t.blt (P := Rw.prog) (j := 0) (k := 0) 78) gl_nil))) callM_len
theorem ok__law_is_apart (t : TP w K mg h base) : GOk Rw.prog w K mg base (Ts tf K) 5 5 "_law_is_apart" (.fn m__law_is_apart) :=
  fn_end (P := Rw.prog) (st := top 71) (ps := ["many", "family_so"]) t 54 54 c__law_is_apart ⟨rfl, rfl, rfl, by decide +kernel, rfl, by decide +kernel, by decide +kernel⟩ (fun _ _ _ _ _ _ us hl => match us, hl with | [_, _], _ => rfl) (show ∀ x g, gt G__law_is_apart x = some g → GOk Rw.prog w K mg base (Ts tf K) 4 4 x g from (gl_cons (t.blt (P := Rw.prog) (j := 0) (k := 0) 74) (gl_cons (ok__law_lots t) (gl_cons (ok__law_has t) (gl_cons (ok__law_swapped t) (gl_cons (t.blt (P := Rw.prog) (j := 0) (k := 0) 69) gl_nil)))))) callM_len
theorem ok__law_paper_right (t : TP w K mg h base) : GOk Rw.prog w K mg base (Ts tf K) 11 11 "_law_paper_right" (.fn m__law_paper_right) :=
  fn_end (P := Rw.prog) (st := top 72) (ps := ["many", "family_so", "paper_so", "is_so"]) t 55 55 c__law_paper_right ⟨rfl, rfl, rfl, by decide +kernel, rfl, by decide +kernel, by decide +kernel⟩ (fun _ _ _ _ _ _ us hl => match us, hl with | [_, _, _, _], _ => rfl) (show ∀ x g, gt G__law_paper_right x = some g → GOk Rw.prog w K mg base (Ts tf K) 10 10 x g from (gl_cons (t.blt (P := Rw.prog) (j := 0) (k := 0) 69) (gl_cons (ok__law_lots t) (gl_cons (t.blt (P := Rw.prog) (j := 0) (k := 0) 80) (gl_cons (ok__law_bare t) (gl_cons (ok_check_weighing t) (gl_cons (ok__law_has t) (gl_cons (ok__law_swapped t) gl_nil)))))))) callM_len
theorem ok__law_family_right (t : TP w K mg h base) : GOk Rw.prog w K mg base (Ts tf K) 18 18 "_law_family_right" (.fn m__law_family_right) :=
  fn_end (P := Rw.prog) (st := top 73) (ps := ["many", "family_so"]) t 56 56 c__law_family_right ⟨rfl, rfl, rfl, by decide +kernel, rfl, by decide +kernel, by decide +kernel⟩ (fun _ _ _ _ _ _ us hl => match us, hl with | [_, _], _ => rfl) (show ∀ x g, gt G__law_family_right x = some g → GOk Rw.prog w K mg base (Ts tf K) 17 17 x g from (gl_cons (ok__law_is_apart t) (gl_cons (ok_is_weighed t) (gl_cons (ok_strength_rows t) (gl_cons (ok__law_paper_right t) (gl_cons (ok_weighing_paper t) (gl_cons (ok_least_weighing t) (gl_cons (ok_full_weighing t) (gl_cons (ok__law_like t) (gl_cons (ok__law_least t) (gl_cons (t.blt (P := Rw.prog) (j := 0) (k := 0) 81) (gl_cons (ok_weighed_family t) gl_nil)))))))))))) callM_len
theorem ok__law_is_too_great (t : TP w K mg h base) : GOk Rw.prog w K mg base (Ts tf K) 7 7 "_law_is_too_great" (.fn m__law_is_too_great) :=
  fn_end (P := Rw.prog) (st := top 74) (ps := []) t 57 57 c__law_is_too_great ⟨rfl, rfl, rfl, by decide +kernel, rfl, by decide +kernel, by decide +kernel⟩ (fun _ _ _ _ _ _ us hl => match us, hl with | [], _ => rfl) (show ∀ x g, gt G__law_is_too_great x = some g → GOk Rw.prog w K mg base (Ts tf K) 6 6 x g from (gl_cons (ok_all_families t) (gl_cons (ok_TooGreat t (j := 0) (k := 0)) gl_nil))) callM_len
theorem ok__law_hand_right (t : TP w K mg h base) : GOk Rw.prog w K mg base (Ts tf K) 19 19 "_law_hand_right" (.fn m__law_hand_right) :=
  fn_end (P := Rw.prog) (st := top 75) (ps := []) t 58 58 c__law_hand_right ⟨rfl, rfl, rfl, by decide +kernel, rfl, by decide +kernel, by decide +kernel⟩ (fun _ _ _ _ _ _ us hl => match us, hl with | [], _ => rfl) (show ∀ x g, gt G__law_hand_right x = some g → GOk Rw.prog w K mg base (Ts tf K) 18 18 x g from (gl_cons (ok_least_weighing t) (gl_cons (ok__law_family_right t) (gl_cons (ok_weighed_family t) (gl_cons (ok_is_weighed t) (gl_cons (ok_full_weighing t) gl_nil)))))) callM_len
end
end Q

set_option maxHeartbeats 4000000
namespace Q
open PySem PySem.Spec PyProof.Rows L2 LamX
def MainT : Prop := ∀ (e0 : Option Ent) (m : Mach), m.spot = 0 → cellsOk m.cells → m.great.length ≤ 63 → ∃ ω', lawRest [e0, some .mach, none, none, none, none, none] (some m) = .ok (.rt (.bool true)) ω'
def spLaw (K : PySem.W.Frag) (T : List (Addr × Str)) : Sp := fun vs H Q _ => ∃ (a : Addr) (ns : List Int), vs = [.ref a] ∧ SqL K H a (ns.map V.int) ∧ ns.length ≤ 63 ∧ Tabs T H ∧ ∀ H', Q (.bl true) H'
theorem scLaw : FnScope N_law ["script"] (defScope (top 76)) := ⟨rfl, rfl, rfl, by decide +kernel, rfl, by decide +kernel, by decide +kernel⟩
section
variable {w : World} {K : PySem.W.Frag} {mg : Str → Option Value} {h base : Heap}
theorem ok_folded1 (t : TP w K mg h base) : ∃ ff fdf, mg "_law_folded" = some (.ref ff) ∧ PySem.W.keepIn K (.ref ff) = true ∧ L2.Binds K fdf ["script"] [] ∧ FnG Rw.prog w K mg base 3 ff fdf ["script"] (spFold K (Ts tf K)) := by
  obtain ⟨fd, F⟩ := t.fd (x := "_law_folded") (st := top 56) 39 rfl
  refine ⟨_, fd, t.glo 39, F.kp, FunD.bindsN F (fun _ _ _ _ _ _ us hl => match us, hl with | [_], _ => rfl), ok_folded (fun_of F) (fun T => ?_) t.hmt⟩
  refine gl_cons (j1 := 0) (k1 := 0) (He.free_ok t.kin t.ns (t.says.t.d.fact 74 rfl)) (gl_cons (j1 := 0) (k1 := 0) (He.free_ok t.kin t.ns (t.says.t.d.fact 68 rfl)) (gl_cons (j1 := 0) (k1 := 0) (He.free_ok t.kin t.ns (t.says.t.d.fact 69 rfl)) gl_nil))
theorem ok_begun1 (t : TP w K mg h base) : ∃ ff fdf, mg "_law_begun" = some (.ref ff) ∧ PySem.W.keepIn K (.ref ff) = true ∧ L2.Binds K fdf ["script"] [] ∧ FnG Rw.prog w K mg base 4 ff fdf ["script"] (spBegun K (Ts tf K)) := by
  obtain ⟨fd, F⟩ := t.fd (x := "_law_begun") (st := top 58) 41 rfl
  obtain ⟨ff, fdf, e1, e2, e3, e4⟩ := ok_folded1 t
  exact ⟨_, fd, t.glo 41, F.kp, FunD.bindsN F (fun _ _ _ _ _ _ us hl => match us, hl with | [_], _ => rfl), ok_begun (fun_of F) e4 e1 e2 e3 t.hmt⟩
theorem gl_law (t : TP w K mg h base) : ∀ x g, gt G_law x = some g → GOk Rw.prog w K mg base (Ts tf K) 19 19 x g :=
  gl_cons (ok__law_every t) (gl_cons (ok__law_draw t) (gl_cons (t.blt (P := Rw.prog) (j := 0) (k := 0) 71) (gl_cons (ok__law_like t) (gl_cons (ok_all_families t) (gl_cons (ok_family_count t) (gl_cons (t.blt (P := Rw.prog) (j := 0) (k := 0) 81) (gl_cons (ok__law_of t) (gl_cons (t.blt (P := Rw.prog) (j := 0) (k := 0) 74) (gl_cons (ok__law_family_right t) (gl_cons (ok__law_is_too_great t) (gl_cons (ok__law_hand_right t) (gl_cons (ok__law_family t) gl_nil))))))))))))
theorem ok_law (hmain : MainT) (t : TP w K mg h base) {f : Addr} {fd : FuncData} (F : Fun K "law" "law" (top 76) f fd) : FnG Rw.prog w K mg base 20 f fd ["script"] (spLaw K (Ts tf K)) := by
  refine fnG_raw F scLaw (fun vs H Q E ⟨a, ns, e, _⟩ => by rw [e]; rfl) fun cdv A outer s H vs Q E hr hgd hh => ?_
  obtain ⟨a, ns, rfl, hs, hl, tb, q⟩ := hh
  obtain ⟨ff, fdf, e1, e2, e3, e4⟩ := ok_begun1 t
  have tk := @takes_def Rw.prog w K mg base N_law "law" (defScope (top 76)) f cdv A outer s H E
  have ag : ∀ W : Wd, W.T = Ts tf K → Agr (cxOf (L2.CX Rw.prog w) Rw.prog w K mg base N_law "law" (defScope (top 76)) f cdv A outer s H E) W (defC N_law (top 76) 19 19 (gt G_law) none mtEq) := fun W hW =>
    agr_def scLaw (by decide) (by decide) (by rw [hW]; exact gl_law t) (fun cc PP z => nomatch z) t.hmt hr hgd
  have pr : PSs (cxOf (L2.CX Rw.prog w) Rw.prog w K mg base N_law "law" (defScope (top 76)) f cdv A outer s H E) ((defBody (top 76)).drop 1) (fun D σ H' => ∃ W : Wd, W.T = Ts tf K ∧ tQS (cxOf (L2.CX Rw.prog w) Rw.prog w K mg base N_law "law" (defScope (top 76)) f cdv A outer s H E) W (fun cls d _ H => E cls d H) lawRest D σ H') :=
    ⟨fun pins s1 σ H1 D I ⟨W, hW, z⟩ => (c_law none ▸ evSs_ok (ev_RS 40) (ag W hW) takes_def pass_def ((defBody (top 76)).drop 1)).run pins s1 σ H1 D I z⟩
  refine ⟨_, pss_cons (ps_set (i := 1) scLaw.nd rfl (by first | exact .inl rfl | exact .inr rfl) (pe_callS e4 (hr.mono (by decide)) hgd (by rfl) e1 e2 e3 tk (pa_cons (pv 0) pa_nil))) pr, ?_⟩
  refine ⟨_, rfl, a, ns, rfl, hs, hl, tb, fun p c g m H' m0 mc mg' hp hc hg mach kp nw tb' => ?_⟩
  have hs' : SqL K H' a (ns.map V.int) := by
    rcases hs with (hs | ⟨o, hs⟩) | hs
    · exact .inl (.inl (kp _ _ hs fun _ z => nomatch z))
    · exact .inl (.inr ⟨o, kp _ _ hs fun _ z => nomatch z⟩)
    · exact .inr hs
  obtain ⟨hp', hc', hg', npc, npg, ncg⟩ := id mach
  have dts : Dt K (fun b => b = p ∨ b = c ∨ b = g) H' (.list (ns.map PyData.int)) (.ref a) := by
    simp only [Dt]
    refine ⟨a, _, rfl, ?_, dtInts ns⟩
    rcases hs with (hs | ⟨o, hs⟩) | hs
    · refine .inl ⟨fun z => ?_, kp _ _ hs fun _ z => nomatch z⟩
      rcases z with z | z | z
      · rw [z, hp] at hs; cases hs
      · rw [z, hc] at hs; cases hs
      · rw [z, hg] at hs; cases hs
    · exact .inr (.inl ⟨o, kp _ _ hs fun _ z => nomatch z⟩)
    · exact .inr (.inr hs)
  obtain ⟨ω', run⟩ := hmain (some (.dat (.list (ns.map PyData.int)))) m m0 mc (by rw [mg']; exact hl)
  refine ⟨⟨Ts tf K, some (p, c, g), fun b => b = p ∨ b = c ∨ b = g, H', 0⟩, rfl, fun b => b = p ∨ b = c ∨ b = g, [some (.dat (.list (ns.map PyData.int))), some .mach, none, none, none, none, none], some m, ⟨fun i e z => ?_, ⟨tb', mach⟩, fun b z => z, fun b z => z, fun b z => ?_, Ev.refl, fun i j ds es v z _ _ _ => ?_⟩, ?_⟩
  · match i, z with
    | 0, z => cases z; exact ⟨_, rfl, dts⟩
    | 1, z => cases z; exact ⟨_, rfl, p, c, g, rfl, rfl⟩
    | 2, z => cases z
    | 3, z => cases z
    | 4, z => cases z
    | 5, z => cases z
    | 6, z => cases z
    | i + 7, z => cases z
  · rcases z with z | z | z
    · rw [z, hp']; exact fun z => nomatch z
    · rw [z, hc']; exact fun z => nomatch z
    · rw [z, hg']; exact fun z => nomatch z
  · match i, z with
    | 0, z => cases z
    | 1, z => cases z
    | 2, z => cases z
    | 3, z => cases z
    | 4, z => cases z
    | 5, z => cases z
    | 6, z => cases z
    | i + 7, z => cases z
  · rw [run]
    intro v H2 xo' ev st d
    cases d.boolE
    exact q H2
end
end Q

namespace Q
open PySem PySem.Spec PyProof.Rows L2 LamX
theorem tell (hmain : MainT) (w : World) (mg : Str → Option Value) (fa0 : Addr) (h : Heap) (Y : hk.says w h) (G : h.Ns mainGlobals mg) (e : mg "law" = some (.ref fa0)) : ∃ K : PySem.W.Frag, K.In h ∧ LawG PySem.Challenge.rw_floorpowers_k04_whole_all_families_and_w w K 20 63 "script" mg fa0 h := by
  obtain ⟨K, kin, c⟩ := Y
  have ee := e.symm.trans (He.glo_ok kin G (c.t.d.fact 59 (f := .glo "law") rfl))
  cases ee
  obtain ⟨fd, F⟩ := c.t.d.def_ 59 (d := dOf "law" 76) rfl
  have eq : ∀ q ∈ tf.map (He.cT K), ∃ p ∈ tf, He.cT K p = q := fun q hq => by
    obtain ⟨p, hp, e⟩ := List.mem_map.mp hq
    exact ⟨p, hp, e⟩
  have m1 := band (c.more : ex K = true)
  have sub : ∀ x ∈ errs, x ∈ glos := by decide +kernel
  have tp : ∀ base : Heap, K.In base → base.Ns mainGlobals mg → (∀ q ∈ tf.map (He.cT K), TabB base mg q.1 q.2) → TP w K mg h base := fun base kb nb tb =>
    ⟨kin, G, c, kb, nb, tb, of_decide_eq_true (band m1.1).2, by simp [tf], exmB_ok kin G (fun x hx => c.t.d.facts (List.mem_append.mpr (.inl (List.mem_append.mpr (.inl (List.mem_map.mpr ⟨x, sub x hx, rfl⟩)))))) m1.2⟩
  refine ⟨K, kin, fd, tf.map (He.cT K), spLaw K (Ts tf K), ⟨fun q hq => ?_, fun q hq => ?_, fun q hq => ?_⟩, fun s u => FunD.bindsA (ps := ["script"]) F (fun _ _ _ _ _ _ us hl => match us, hl with | [_], _ => rfl) s [u] rfl, fun H a ns hl ht hs => ⟨a, ns, rfl, hs, hl, fun p hp => ?_, fun _ => rfl⟩, fun base kb nb tb => ok_law hmain (tp base kb nb tb) (fun_of F)⟩
  · obtain ⟨p, hp, rfl⟩ := eq q hq
    exact c.empty p hp
  · obtain ⟨p, hp, rfl⟩ := eq q hq
    exact c.out p hp
  · obtain ⟨p, hp, rfl⟩ := eq q hq
    exact PySem.W.codeHd_of_K kin (c.hd p hp)
  · obtain ⟨p2, hp2, rfl⟩ := List.mem_map.mp hp
    exact TabS.nil (ht _ (List.mem_map.mpr ⟨p2, hp2, rfl⟩))
end Q
open PySem PySem.W PySem.Calls PyProof.Rows
set_option maxHeartbeats 0 in
theorem k04_of (hmain : Q.MainT) : PySem.Challenge.rw_floorpowers_k04_whole_all_families_and_w.Holds := by
  w_on; o_law
  refine HandSHeadRun.head_any (r := OpenLaw.row PySem.Challenge.rw_floorpowers_k04_whole_all_families_and_w) (q := view (OpenLaw.row PySem.Challenge.rw_floorpowers_k04_whole_all_families_and_w).prog [76]) (H := Q.hk) (ob := Q.ob) (M := 4000) (loose := Q.loose) (d := HandSHeadRun.topDef (OpenLaw.row PySem.Challenge.rw_floorpowers_k04_whole_all_families_and_w).prog 76) (kwd := []) Q.ob_eq
    (by kernel_rfl) (fun s => by kernel_rfl) Q.top_run (by kernel_rfl) (by kernel_rfl) (by kernel_rfl) (by rfl) (by first | assumption | decide +kernel) (by decide +kernel) ⟨rfl, rfl, rfl, rfl, rfl, by decide +kernel⟩ ?hw ?hc
  case hw => w_witness2
  case hc =>
    refine Q.walkG (l := PySem.Challenge.rw_floorpowers_k04_whole_all_families_and_w) (n := 63) (k := 20) (x := "script") rfl (by decide) (by kernel_rfl) ⟨rfl, by decide, by decide⟩ fun w mg fa h Y G hmg0 => ?_
    have hmg : mg ("law" : PySem.Str) = some (.ref fa) := by
      have e : (HandSHeadRun.topDef (OpenLaw.row PySem.Challenge.rw_floorpowers_k04_whole_all_families_and_w).prog 76).name = ("law" : PySem.Str) := by kernel_rfl
      rw [← e]
      exact hmg0
    exact Q.tell hmain w mg fa h Y G hmg

set_option maxHeartbeats 4000000
namespace Q
open PySem L2 LamX

/-! ### comprehensions, whole -/
theorem compM_run {g : PyData → Rho → Option Rho} {ft : Rho → M Bool} {fe : Rho → M PyData} {ρ : Rho} {ω : Om} (p : PyData → Bool) (f : PyData → PyData) : ∀ (xs : List PyData), (∀ x ∈ xs, ∃ ρ', g x ρ = some ρ' ∧ ft ρ' ω = .ok (p x) ω ∧ (p x = true → fe ρ' ω = .ok (f x) ω)) →
    compM g ft fe ρ xs ω = .ok ((xs.filter p).map f) ω
  | [], _ => rfl
  | x :: xs, h => by
    obtain ⟨ρ', e1, e2, e3⟩ := h x (by simp)
    have ih := compM_run (g := g) (ft := ft) (fe := fe) (ρ := ρ) (ω := ω) p f xs fun y hy => h y (by simp [hy])
    rw [compM]
    cases hp : p x with
    | true => simp [e1, e2, e3 hp, hp, ih, safe, List.filter_cons]
    | false => simp [e1, e2, hp, ih, safe, List.filter_cons]
theorem listM_run {fi : Rho → M (List PyData)} {vs : List Nat} {g : PyData → Rho → Option Rho} {ft : Rho → M Bool} {fe : Rho → M PyData} {ρ : Rho} {ω : Om} {xs : List PyData} (p : PyData → Bool) (f : PyData → PyData) (hi : fi ρ ω = .ok xs ω)
    (h : ∀ x ∈ xs, ∃ ρ', g x (wipeR ρ vs) = some ρ' ∧ ft ρ' ω = .ok (p x) ω ∧ (p x = true → fe ρ' ω = .ok (f x) ω)) : listM fi vs g ft fe ρ ω = .ok (.list ((xs.filter p).map f)) ω := by
  have e := compM_run (g := g) (ft := ft) (fe := fe) (ρ := wipeR ρ vs) (ω := ω) p f xs h
  simp [listM, hi, e]
theorem listN_run {fi : Rho → M (List PyData)} {vs : List Nat} {g : PyData → Rho → Option Rho} {ft : Rho → M Bool} {fe : Rho → M PyData} {ρ : Rho} {ω : Om} {xs : List PyData} (p : PyData → Bool) (f : PyData → PyData) (hi : fi ρ ω = .ok xs ω)
    (h : ∀ x ∈ xs, ∃ ρ', g x (wipeR ρ vs) = some ρ' ∧ ft ρ' ω = .ok (p x) ω ∧ (p x = true → fe ρ' ω = .ok (f x) ω)) : listN fi vs g ft fe ρ ω = .ok (.inl ((xs.filter p).map f)) ω := by
  have e := compM_run (g := g) (ft := ft) (fe := fe) (ρ := wipeR ρ vs) (ω := ω) p f xs h
  simp [listN, hi, e]
theorem boolsD_map {α : Type} (xs : List α) (f : α → Bool) : boolsD (xs.map fun x => PyData.bool (f x)) = some (xs.map f) := by
  induction xs with
  | nil => rfl
  | cons x xs ih => simp [boolsD, ih]
theorem intsD_map (xs : List Int) : intsD (xs.map PyData.int) = some xs := by
  induction xs with
  | nil => rfl
  | cons x xs ih => simp [intsD, ih]
@[simp] theorem isaT_int (d : PyData) : isaT (Str.ofString "int") d = some ("int", match d with | .int _ => true | .bool _ => true | _ => false) := by cases d <;> kernel_rfl
@[simp] theorem isaT_bool (d : PyData) : isaT (Str.ofString "bool") d = some ("bool", match d with | .bool _ => true | _ => false) := by cases d <;> kernel_rfl
@[simp] theorem isaT_tuple (d : PyData) : isaT (Str.ofString "tuple") d = some ("tuple", match d with | .tuple _ => true | _ => false) := by cases d <;> kernel_rfl
@[simp] theorem isaT_list (d : PyData) : isaT (Str.ofString "list") d = some ("list", match d with | .list _ => true | _ => false) := by cases d <;> kernel_rfl
/-! ### == -/
@[simp] theorem eqD_int (a b : Int) : eqD (.int a) (.int b) = some (decide (a = b)) := by
  show some (a == b) = _
  rfl
@[simp] theorem eqD_str (a b : Str) : eqD (.str a) (.str b) = some (decide (a = b)) := rfl
theorem okL_of {xs : List PyData} (h : ∀ x ∈ xs, okD x = true) (hd : ∀ x ∈ xs, x.depth ≤ 60) : PyData.canLayAll0 xs = true ∧ PyData.depthAll xs ≤ 60 := by
  induction xs with
  | nil => exact ⟨rfl, Nat.zero_le _⟩
  | cons x xs ih =>
    obtain ⟨i1, i2⟩ := ih (fun y hy => h y (by simp [hy])) (fun y hy => hd y (by simp [hy]))
    have h1 := h x (by simp)
    have h2 := hd x (by simp)
    unfold okD SeqAt.shaped at h1
    rw [Bool.and_eq_true] at h1
    refine ⟨by simp only [PyData.canLayAll0, h1.1, i1, Bool.and_self], ?_⟩
    simp only [PyData.depthAll]
    omega
/-! ### values, told -/
def intIn (d : PyData) (lo hi : Int) : Bool := match d with
  | .int i => decide (lo ≤ i) && decide (i ≤ hi)
  | _ => false
theorem run_iif (d : PyData) (lo hi : Int) (ω : Om) : m_is_integer_from [.dat d, .dat (.int lo), .dat (.int hi)] ω = .ok (.bool (intIn d lo hi)) ω := by
  cases d with
  | int i => by_cases h : lo ≤ i <;> simp [m_is_integer_from, cmpD, truth, okT, intIn, h]
  | _ => simp [m_is_integer_from, cmpD, truth, okT, intIn]
def isTup (d : PyData) (n : Int) : Bool := match d with
  | .tuple ds => decide ((ds.length : Int) = n)
  | _ => false
/-! ### ascending tuples -/
def tp (l : List Int) : PyData := .tuple (l.map PyData.int)
/-- the number of the first thing that isn't above the one ahead, or none -/
def climbK (lo hi : Int) : Option Int → Nat → List PyData → Option Nat
  | _, _, [] => none
  | prev, k, d :: ds => match d with
    | .int i => if decide (lo ≤ i) && decide (i ≤ hi) && (match prev with | some p => decide (p < i) | none => true) then climbK lo hi (some i) (k + 1) ds else some k
    | _ => some k
def lastI : List PyData → Option Int
  | [] => none
  | d :: ds => match ds with
    | [] => (match d with | .int i => some i | _ => none)
    | _ :: _ => lastI ds
theorem lastI_app (pre : List PyData) (i : Int) : lastI (pre ++ [.int i]) = some i := by
  induction pre with
  | nil => rfl
  | cons d ds ih =>
    cases ds with
    | nil => rfl
    | cons e es => exact ih
theorem lastI_at (pre : List PyData) (rest : List PyData) (i : Int) (h : pre ≠ []) (e : lastI pre = some i) : L2.atI (pre ++ rest) (((pre.length : Nat) : Int) - 1) = some (.int i) := by
  have hl : 0 < pre.length := List.length_pos_iff.mpr h
  unfold L2.atI L2.ixN
  rw [if_pos (by omega), if_pos (by rw [List.length_append]; omega)]
  show (pre ++ rest)[(((pre.length : Nat) : Int) - 1).toNat]? = _
  have ek : (((pre.length : Nat) : Int) - 1).toNat = pre.length - 1 := by omega
  rw [ek, List.getElem?_append_left (by omega)]
  clear ek
  induction pre with
  | nil => exact absurd rfl h
  | cons d ds ih =>
    cases ds with
    | nil =>
      cases d <;> first | (cases e; done) | skip
      rename_i j
      have : j = i := Option.some.inj e
      subst this
      rfl
    | cons d2 ds2 =>
      have e2 : lastI (d2 :: ds2) = some i := e
      have := ih (by simp) e2 (by simp)
      simpa using this
def climbB (F : List PyData → M PyData) : RF :=
  (seqS (ifM [1, 3] (tNot (truM (cloM 1 F (aC (eV 3) aN))))
      (seqS (retM [2] (eTup (aC (eV 2) aN)))
      sN)
      sN)
    (seqS (ifM [2, 0, 2, 3] (andM (cmpM .Gt (eV 2) (eK (.int 0))) (tNot (cmpM .Lt (eIx (eV 0) (eBin .Sub (eV 2) (eK (.int 1)))) (eV 3))))
      (seqS (retM [2] (eTup (aC (eV 2) aN)))
      sN)
      sN)
    sN))
@[simp] theorem x_cloM {i : Nat} {F : List PyData → M PyData} {fs : RL} {ρ : Rho} {ω : Om} : cloM i F fs ρ ω = (match ρ[i]? with | some (some .clo) => fs ρ >>= F | _ => bad) ω := rfl
section
variable (F : List PyData → M PyData) (lo hi : Int) (hF : ∀ d ω, F [d] ω = .ok (.bool (intIn d lo hi)) ω) (all : List PyData) (ω : Om)
include hF
theorem climbB_no (k : Nat) (d : PyData) (h : intIn d lo hi = false) : climbB F [some (.dat (.tuple all)), some .clo, some (.dat (.int k)), some (.dat d)] ω = .ok (.rt (.tuple [.int k])) ω := by
  have hz : (1 : Nat) ≤ line := by decide
  simp [climbB, hF, h, okT, truth, hz]
theorem climbB_first (i : Int) (h : intIn (.int i) lo hi = true) : climbB F [some (.dat (.tuple all)), some .clo, some (.dat (.int 0)), some (.dat (.int i))] ω = .ok (.nx [some (.dat (.tuple all)), some .clo, some (.dat (.int 0)), some (.dat (.int i))]) ω := by
  simp [climbB, hF, h, okT, truth, cmpD]
theorem climbB_next (k : Nat) (q i : Int) (h : intIn (.int i) lo hi = true) (hk : 0 < k) (hq : L2.atI all ((k : Int) - 1) = some (.int q)) : climbB F [some (.dat (.tuple all)), some .clo, some (.dat (.int k)), some (.dat (.int i))] ω =
    .ok (if q < i then .nx [some (.dat (.tuple all)), some .clo, some (.dat (.int k)), some (.dat (.int i))] else .rt (.tuple [.int k])) ω := by
  have hz : (1 : Nat) ≤ line := by decide
  have hk' : (0 : Int) < k := by omega
  by_cases hl : q < i
  · simp [climbB, hF, h, okT, truth, cmpD, hk, binD, subD, itemD, hq, ltD, hl]
  · simp [climbB, hF, h, okT, truth, cmpD, hk, binD, subD, itemD, hq, ltD, hl, hz]
theorem climb_go : ∀ (rest pre : List PyData) (x2 x3 : Option Ent), all = pre ++ rest → (pre ≠ [] → (lastI pre).isSome = true) →
    ∃ ρ', forM (tupG 2 (consG (setD 2) (consG (setD 3) nilG))) (climbB F) ((List.range' pre.length rest.length).zipWith (fun (i : Nat) d => PyData.tuple [.int i, d]) rest) [some (.dat (.tuple all)), some .clo, x2, x3] ω =
      match climbK lo hi (lastI pre) pre.length rest with | none => .ok (.nx ρ') ω | some k => .ok (.rt (.tuple [.int k])) ω
  | [], pre, x2, x3, _, _ => ⟨_, rfl⟩
  | d :: rest, pre, x2, x3, e, hp => by
    have ih := fun (i : Int) (hd : d = .int i) => climb_go rest (pre ++ [d]) (some (.dat (.int (pre.length : Nat)))) (some (.dat d)) (by rw [e]; simp) (fun _ => by rw [hd, lastI_app]; rfl)
    rw [List.length_cons, List.range'_succ, List.zipWith_cons_cons]
    simp only [x_forM_cons]
    have eg : tupG 2 (consG (setD 2) (consG (setD 3) nilG)) (.tuple [.int (pre.length : Nat), d]) [some (.dat (.tuple all)), some .clo, x2, x3] = some [some (.dat (.tuple all)), some .clo, some (.dat (.int (pre.length : Nat))), some (.dat d)] := by simp [tupG, consG, nilG, setD]
    rw [eg]
    by_cases hin : intIn d lo hi = true
    · cases d with
      | int i =>
        obtain ⟨ρ', ih⟩ := ih i rfl
        rw [lastI_app, List.length_append] at ih
        have hr : (decide (lo ≤ i) && decide (i ≤ hi)) = true := hin
        cases pre with
        | nil =>
          refine ⟨ρ', ?_⟩
          have eb := climbB_first F lo hi hF all ω i hin
          have ek : climbK lo hi (lastI []) ([] : List PyData).length (PyData.int i :: rest) = climbK lo hi (some i) 1 rest := by
            simp only [climbK, hr, lastI, Bool.true_and, if_true, List.length_nil]
          rw [ek]
          simp [eb]
          simpa using ih
        | cons p ps =>
          obtain ⟨q, hq⟩ := Option.isSome_iff_exists.mp (hp (by simp))
          have ea := lastI_at (p :: ps) (PyData.int i :: rest) q (by simp) hq
          rw [← e] at ea
          have eb := climbB_next F lo hi hF all ω (p :: ps).length q i hin (by simp) ea
          refine ⟨ρ', ?_⟩
          by_cases hlt : q < i
          · have ek : climbK lo hi (lastI (p :: ps)) (p :: ps).length (PyData.int i :: rest) = climbK lo hi (some i) ((p :: ps).length + 1) rest := by
              rw [hq]; simp only [climbK, hr, hlt, Bool.true_and, if_true, decide_true]
            rw [ek]
            rw [if_pos hlt] at eb
            simp only [x_bind, x_get, eb]
            exact ih
          · have ek : climbK lo hi (lastI (p :: ps)) (p :: ps).length (PyData.int i :: rest) = some (p :: ps).length := by
              rw [hq]; simp only [climbK, hr, hlt, Bool.true_and, decide_false]; rfl
            rw [ek]
            rw [if_neg hlt] at eb
            simp only [x_bind, x_get, eb]
            rfl
      | _ => cases hin
    · have hin' : intIn d lo hi = false := by simpa using hin
      have eb := climbB_no F lo hi hF all ω pre.length d hin'
      have ek : climbK lo hi (lastI pre) pre.length (d :: rest) = some pre.length := by
        cases d with
        | int i =>
          have hr : (decide (lo ≤ i) && decide (i ≤ hi)) = false := hin'
          simp only [climbK, hr, Bool.false_and]; rfl
        | _ => rfl
      refine ⟨[], ?_⟩
      rw [ek]
      simp only [x_bind, x_get, eb]
      rfl
end
/-- how a value isn't a lot -/
def faultD (many : Int) (d : PyData) : PyData := match d with
  | .tuple ds => (match climbK 0 (many - 1) none 0 ds with | none => .tuple [] | some k => .tuple [.int k])
  | _ => .tuple [.none]
theorem run_subset_fault (many : Int) (d : PyData) (ω : Om) (hl : ∀ ds, d = .tuple ds → ds.length ≤ 1000) : m_subset_fault [.dat (.int many), .dat d] ω = .ok (faultD many d) ω := by
  have hz : (1 : Nat) ≤ line := by decide
  have h0 : (0 : Nat) ≤ line := by decide
  have key : ∀ (F : List PyData → M PyData), (∀ e ω, F [e] ω = .ok (.bool (intIn e 0 (many - 1))) ω) → m_climb_fault F [.dat d] ω = .ok (faultD many d) ω := by
    intro F hF
    cases d with
    | tuple ds =>
      obtain ⟨ρ', e⟩ := climb_go F 0 (many - 1) hF ds ω ds [] none none rfl (fun h => absurd rfl h)
      have hs : ds.length ≤ line := Nat.le_trans (hl ds rfl) (by decide)
      have en : enumD ds = (List.range' 0 ds.length).zipWith (fun (i : Nat) d => PyData.tuple [.int i, d]) ds := by unfold enumD; rw [List.range_eq_range']
      simp only [List.length_nil] at e
      have e2 : lastI [] = none := rfl
      rw [e2] at e
      unfold climbB at e
      simp [m_climb_fault, callH, okT, truth, enumM2, hs, en, faultD, e]
      cases climbK 0 (many - 1) none 0 ds with
      | none => simp
      | some k => simp
    | _ => simp [m_climb_fault, callH, okT, truth, faultD, hz]
  have e1 : ∀ ρ, eHof m_climb_fault (consH (nameH 1) hN) [2] (callE m_is_integer_from (consH (nameH 2) (consH (hD (eK (.int 0))) (consH (hD (eBin .Sub (eV 0) (eK (.int 1)))) hN)))) ρ ω = (consH (nameH 1) hN ρ >>= fun ents => m_climb_fault (lamF [2] (callE m_is_integer_from (consH (nameH 2) (consH (hD (eK (.int 0))) (consH (hD (eBin .Sub (eV 0) (eK (.int 1)))) hN)))) ρ) ents) ω := fun ρ => rfl
  have e2 := key (lamF [2] (callE m_is_integer_from (consH (nameH 2) (consH (hD (eK (.int 0))) (consH (hD (eBin .Sub (eV 0) (eK (.int 1)))) hN)))) [some (.dat (.int many)), some (.dat d), none]) (fun e ω => by
    have r := run_iif e 0 (many - 1) ω
    simp [lamF, putR, binD, subD, r])
  simp [m_subset_fault, e1, e2]
end Q

set_option maxHeartbeats 4000000
namespace Q
open PySem L2 LamX
/-! ### small checks -/
theorem run_need_many (n : Int) (h : 1 ≤ n ∧ n ≤ 5) (ω : Om) : m_need_many [.dat (.int n)] ω = .ok (.int n) ω := by
  have r := run_iif (.int n) 1 5 ω
  have e : intIn (.int n) 1 5 = true := by simp [intIn, h]
  rw [e] at r
  simp [m_need_many, r, okT, truth]
theorem faultD_cases (many : Int) (d : PyData) : faultD many d = .tuple [] ∨ ∃ v, faultD many d = .tuple [v] ∧ (v = .none ∨ ∃ k : Nat, v = .int k) := by
  unfold faultD
  split
  · split
    · exact .inl rfl
    · rename_i k _
      exact .inr ⟨_, rfl, .inr ⟨k, rfl⟩⟩
  · exact .inr ⟨_, rfl, .inl rfl⟩
/-! ### lots as lists of whole numbers -/
theorem canLay_ints (l : List Int) : PyData.canLayAll0 (l.map PyData.int) = true := by
  induction l with
  | nil => rfl
  | cons i l ih => simp only [List.map_cons, PyData.canLayAll0, PyData.canLay0, ih, Bool.and_self]
theorem depth_ints (l : List Int) : PyData.depthAll (l.map PyData.int) = 0 := by
  induction l with
  | nil => rfl
  | cons i l ih => simp only [List.map_cons, PyData.depthAll, PyData.depth, ih]; rfl
@[simp] theorem ok_int (i : Int) : okD (.int i) = true := rfl
@[simp] theorem ok_tup (l : List Int) : okD (.tuple (l.map PyData.int)) = true := by
  unfold okD SeqAt.shaped
  simp only [PyData.canLay0, PyData.depth, canLay_ints, depth_ints]
  rfl
@[simp] theorem ok_lst (l : List Int) : okD (.list (l.map PyData.int)) = true := by
  unfold okD SeqAt.shaped
  simp only [PyData.canLay0, PyData.depth, canLay_ints, depth_ints]
  rfl
@[simp] theorem eqv_int (a b : Int) : PyData.eqv (.int a) (.int b) = decide (a = b) := rfl
def hasI (l : List Int) (i : Int) : Bool := l.contains i
theorem hasI_mem {l : List Int} {i : Int} : hasI l i = true ↔ i ∈ l := by unfold hasI; simp
def inL (a b : List Int) : Bool := a.all (hasI b)
theorem inL_iff {a b : List Int} : inL a b = true ↔ ∀ i ∈ a, i ∈ b := by
  unfold inL
  rw [List.all_eq_true]
  exact ⟨fun h i hi => hasI_mem.mp (h i hi), fun h i hi => hasI_mem.mpr (h i hi)⟩
theorem any_eqv (l : List Int) (i : Int) : ((l.map PyData.int).any fun d => PyData.eqv d (.int i)) = hasI l i := by
  induction l with
  | nil => rfl
  | cons a l ih =>
    have e0 : hasI (a :: l) i = (i == a || hasI l i) := List.contains_cons
    rw [List.map_cons, List.any_cons, ih, e0, eqv_int]
    by_cases h : a = i
    · subst h; simp
    · have h2 : ¬ i = a := fun z => h z.symm
      simp [h, h2]
theorem inD_tp (l : List Int) (i : Int) : inD (.int i) (tp l) = some (hasI l i) := by
  show (if okD (.int i) && okD (.tuple (l.map PyData.int)) then some ((l.map PyData.int).any fun d => PyData.eqv d (.int i)) else none) = _
  rw [ok_int, ok_tup, any_eqv]
  rfl
def numI (n : Nat) : List Int := (List.range n).map fun (i : Nat) => ((i : Nat) : Int)
theorem upD_num (n : Nat) : upD 0 n = (numI n).map PyData.int := by
  unfold upD numI
  rw [List.map_map]
  exact List.map_congr_left fun i _ => by simp
def restI (n : Nat) (l : List Int) : List Int := (numI n).filter fun i => !hasI l i
theorem filter_map_int (l : List Int) (p : Int → Bool) (q : PyData → Bool) (h : ∀ i, q (.int i) = p i) : (l.map PyData.int).filter q = (l.filter p).map PyData.int := by
  induction l with
  | nil => rfl
  | cons a l ih =>
    rw [List.map_cons, List.filter_cons, List.filter_cons, h, ih]
    split <;> rfl
def asI : PyData → Int
  | .int i => i
  | _ => 0
/-- a comprehension over whole numbers -/
theorem list_ints {fi : Rho → M (List PyData)} {vs : List Nat} {g : PyData → Rho → Option Rho} {ft : Rho → M Bool} {fe : Rho → M PyData} {ρ : Rho} {ω : Om} {l : List Int} (p : Int → Bool) (f : Int → PyData) (hi : fi ρ ω = .ok (l.map PyData.int) ω)
    (h : ∀ i ∈ l, ∃ ρ', g (.int i) (wipeR ρ vs) = some ρ' ∧ ft ρ' ω = .ok (p i) ω ∧ (p i = true → fe ρ' ω = .ok (f i) ω)) : listM fi vs g ft fe ρ ω = .ok (.list ((l.filter p).map f)) ω := by
  have e := listM_run (fi := fi) (vs := vs) (g := g) (ft := ft) (fe := fe) (ρ := ρ) (ω := ω) (fun d => p (asI d)) (fun d => f (asI d)) hi (fun x hx => by
    obtain ⟨i, hi, rfl⟩ := List.mem_map.mp hx
    exact h i hi)
  rw [e, filter_map_int l p _ fun i => rfl, List.map_map]
  rfl
theorem run_is_within (a b : List Int) (ha : a.length ≤ 1000) (ω : Om) : m_is_within [.dat (tp a), .dat (tp b)] ω = .ok (.bool (inL a b)) ω := by
  have hz : a.length ≤ line := Nat.le_trans ha (by decide)
  have e := list_ints (fi := seqM (eV 0)) (vs := [2, 3]) (g := setD 3) (ft := tY) (fe := eCmp .In (eV 3) (eV 1)) (ρ := [some (.dat (tp a)), some (.dat (tp b)), none, none]) (ω := ω) (l := a) (fun i => true) (fun i => .bool (hasI b i))
    (by simp [itemsD, tp, hz])
    (fun i hi => ⟨_, rfl, by simp, fun _ => by simp [wipeR, cmpD, inD_tp]⟩)
  have ef : a.filter (fun _ => true) = a := List.filter_eq_self.mpr fun _ _ => rfl
  rw [ef] at e
  have e2 : (a.map fun i => PyData.bool (hasI b i)) = a.map fun i => PyData.bool (hasI b i) := rfl
  simp [m_is_within, e, allF, boolsD_map, inL]
theorem run_law_within (a b : List Int) (ha : a.length ≤ 1000) (ω : Om) : m__law_within [.dat (tp a), .dat (tp b)] ω = .ok (.bool (inL a b)) ω := by
  have hz : a.length ≤ line := Nat.le_trans ha (by decide)
  have h0 : (0 : Nat) ≤ line := by decide
  have e := list_ints (fi := seqM (eV 0)) (vs := [2, 3]) (g := setD 3) (ft := cmpM .NotIn (eV 3) (eV 1)) (fe := eV 3) (ρ := [some (.dat (tp a)), some (.dat (tp b)), none, none]) (ω := ω) (l := a) (fun i => !hasI b i) PyData.int
    (by simp [itemsD, tp, hz])
    (fun i hi => ⟨_, rfl, by simp [wipeR, cmpD, inD_tp], fun _ => by simp [wipeR]⟩)
  have eq : eqD (.list ((a.filter fun i => !hasI b i).map PyData.int)) (.list []) = some (inL a b) := by
    show (if okD (.list _) && okD (.list (([] : List Int).map PyData.int)) then some (PyData.eqv _ _) else none) = _
    rw [ok_lst, ok_lst]
    show some (PyData.eqv (.list ((a.filter fun i => !hasI b i).map PyData.int)) (.list [])) = _
    congr 1
    cases h : a.filter fun i => !hasI b i with
    | nil =>
      have h2 : (inL a b) = true := by
        unfold inL
        rw [List.all_eq_true]
        intro i hi
        have h3 := List.filter_eq_nil_iff.mp h i hi
        simpa using h3
      rw [h2]; rfl
    | cons x xs =>
      have hx : x ∈ a.filter fun i => !hasI b i := by rw [h]; simp
      have h3 := List.mem_filter.mp hx
      have h2 : (inL a b) = false := by
        unfold inL
        rw [List.all_eq_false]
        exact ⟨x, h3.1, by simpa using h3.2⟩
      rw [h2]; rfl
  simp [m__law_within, e, cmpD, eq, h0]
end Q

set_option maxHeartbeats 4000000
namespace Q
open PySem L2 LamX
/-! ### all lots -/
def neI (i j : Int) : Bool := decide (j ≠ i)
/-- a lot without a member -/
def dropI (l : List Int) (i : Int) : List Int := l.filter (neI i)
def subsF : Nat → Nat → List (List Int)
  | _, 0 => [[]]
  | k, m + 1 => [] :: ((subsF (k + 1) m).map fun l => ((k : Nat) : Int) :: l) ++ (subsF (k + 1) m).tail
def LN (n : Nat) : List (List Int) := subsF 0 n
theorem subs1 (ω : Om) : m_all_subsets [.dat (.int 1)] ω = .ok (.tuple ((LN 1).map tp)) ω := by kernel_rfl
theorem subs2 (ω : Om) : m_all_subsets [.dat (.int 2)] ω = .ok (.tuple ((LN 2).map tp)) ω := by kernel_rfl
theorem subs3 (ω : Om) : m_all_subsets [.dat (.int 3)] ω = .ok (.tuple ((LN 3).map tp)) ω := by kernel_rfl
theorem subs4 (ω : Om) : m_all_subsets [.dat (.int 4)] ω = .ok (.tuple ((LN 4).map tp)) ω := by kernel_rfl
theorem subs5 (ω : Om) : m_all_subsets [.dat (.int 5)] ω = .ok (.tuple ((LN 5).map tp)) ω := by kernel_rfl
theorem lots1 (ω : Om) : m__law_lots [.dat (.int 1)] ω = .ok (.list ((LN 1).map tp)) ω := by kernel_rfl
theorem lots2 (ω : Om) : m__law_lots [.dat (.int 2)] ω = .ok (.list ((LN 2).map tp)) ω := by kernel_rfl
theorem lots3 (ω : Om) : m__law_lots [.dat (.int 3)] ω = .ok (.list ((LN 3).map tp)) ω := by kernel_rfl
theorem lots4 (ω : Om) : m__law_lots [.dat (.int 4)] ω = .ok (.list ((LN 4).map tp)) ω := by kernel_rfl
theorem lots5 (ω : Om) : m__law_lots [.dat (.int 5)] ω = .ok (.list ((LN 5).map tp)) ω := by kernel_rfl
theorem five {n : Nat} (h : 1 ≤ n ∧ n ≤ 5) : n = 1 ∨ n = 2 ∨ n = 3 ∨ n = 4 ∨ n = 5 := by omega
theorem run_all_subsets {n : Nat} (h : 1 ≤ n ∧ n ≤ 5) (ω : Om) : m_all_subsets [.dat (.int n)] ω = .ok (.tuple ((LN n).map tp)) ω := by
  rcases five h with rfl | rfl | rfl | rfl | rfl
  · exact subs1 ω
  · exact subs2 ω
  · exact subs3 ω
  · exact subs4 ω
  · exact subs5 ω
theorem run_law_lots {n : Nat} (h : 1 ≤ n ∧ n ≤ 5) (ω : Om) : m__law_lots [.dat (.int n)] ω = .ok (.list ((LN n).map tp)) ω := by
  rcases five h with rfl | rfl | rfl | rfl | rfl
  · exact lots1 ω
  · exact lots2 ω
  · exact lots3 ω
  · exact lots4 ω
  · exact lots5 ω
theorem LN_le {n : Nat} (h : 1 ≤ n ∧ n ≤ 5) : (LN n).length ≤ 32 ∧ ∀ l ∈ LN n, l.length ≤ 5 := by
  rcases five h with rfl | rfl | rfl | rfl | rfl <;> decide +kernel
theorem LN_nodup {n : Nat} (h : 1 ≤ n ∧ n ≤ 5) : (LN n).Nodup := by
  rcases five h with rfl | rfl | rfl | rfl | rfl <;> decide +kernel
theorem LN_ok {n : Nat} (h : 1 ≤ n ∧ n ≤ 5) : ∀ l ∈ LN n, climbK 0 ((n : Int) - 1) none 0 (l.map PyData.int) = none := by
  rcases five h with rfl | rfl | rfl | rfl | rfl <;> decide +kernel
/-- a lot with one member fewer is one -/
theorem LN_less {n : Nat} (h : 1 ≤ n ∧ n ≤ 5) : ∀ l ∈ LN n, ∀ i ∈ l, dropI l i ∈ LN n := by
  rcases five h with rfl | rfl | rfl | rfl | rfl <;> decide +kernel
/-- members of lots are places of the weights -/
theorem LN_mem {n : Nat} (h : 1 ≤ n ∧ n ≤ 5) : ∀ l ∈ LN n, (∀ i ∈ l, 0 ≤ i ∧ i < n) ∧ l.Nodup := by
  rcases five h with rfl | rfl | rfl | rfl | rfl <;> decide +kernel
/-- one lot within another one, and not all of it -/
theorem LN_sub {n : Nat} (h : 1 ≤ n ∧ n ≤ 5) : ∀ l ∈ LN n, ∀ m ∈ LN n, m ≠ l → inL m l = true → ∃ i ∈ l, inL m (dropI l i) = true := by
  rcases five h with rfl | rfl | rfl | rfl | rfl <;> decide +kernel
end Q

set_option maxHeartbeats 4000000
namespace Q
open PySem L2 LamX
/-! ### lots as keys -/
theorem numKeys_ints (l : List Int) : numKeys (l.map PyData.int) = some (l.map NestedKey.num) := by
  induction l with
  | nil => rfl
  | cons i l ih => simp [numKeys, numKey, ih]
theorem numKey_tp (l : List Int) : numKey (tp l) = some (.tup (l.map NestedKey.num)) := by
  show (match numKeys (l.map PyData.int) with | some ks => some (NestedKey.tup ks) | none => none) = _
  rw [numKeys_ints]
theorem depth_nums (l : List Int) : NestedKey.depthAll (l.map NestedKey.num) = 0 := by
  induction l with
  | nil => rfl
  | cons i l ih => simp [NestedKey.depthAll, NestedKey.depth, ih]
theorem isKey_tp (l : List Int) : isKeyD (tp l) = true := by
  show (match numKey (.tuple (l.map PyData.int)) with | some k => decide (k.depth ≤ 8) | none => false) = true
  have e := numKey_tp l
  unfold tp at e
  rw [e]
  simp [NestedKey.depth, depth_nums]
theorem sameKey_tp (a b : List Int) : sameKey (tp a) (tp b) = decide (a = b) := by
  unfold sameKey
  rw [numKey_tp, numKey_tp]
  by_cases h : a = b
  · subst h; simp
  · have : ¬ (some (NestedKey.tup (a.map NestedKey.num)) = some (NestedKey.tup (b.map NestedKey.num))) := fun z => by
      have z2 := NestedKey.tup.inj (Option.some.inj z)
      exact h ((List.map_inj_right fun x y q => NestedKey.num.inj q).mp z2)
    rw [decide_eq_false h, decide_eq_false this]
def hasL (xs : List (List Int)) (l : List Int) : Bool := xs.any fun m => decide (m = l)
theorem hasL_mem {xs : List (List Int)} {l : List Int} : hasL xs l = true ↔ l ∈ xs := by
  unfold hasL
  rw [List.any_eq_true]
  exact ⟨fun ⟨m, h, e⟩ => by rw [← of_decide_eq_true e]; exact h, fun h => ⟨l, h, decide_eq_true rfl⟩⟩
def knownD (xs : List (List Int)) : PyData := .dict (xs.map fun l => (tp l, PyData.bool true))
theorem inD_known (xs : List (List Int)) (l : List Int) : inD (tp l) (knownD xs) = some (hasL xs l) := by
  show (if isKeyD (tp l) && ((xs.map fun l => (tp l, PyData.bool true)).all fun p => isKeyD p.1) then some ((xs.map fun l => (tp l, PyData.bool true)).any fun p => sameKey p.1 (tp l)) else none) = _
  have h1 : ((xs.map fun l => (tp l, PyData.bool true)).all fun p => isKeyD p.1) = true := by
    rw [List.all_eq_true]
    intro p hp
    obtain ⟨m, _, rfl⟩ := List.mem_map.mp hp
    exact isKey_tp m
  rw [isKey_tp, h1]
  show some _ = some _
  congr 1
  rw [List.any_map]
  unfold hasL
  exact congrArg (List.any xs) (funext fun m => sameKey_tp m l)
theorem dc_go (ρ : Rho) (ω : Om) (hρ : ρ.length = 5) : ∀ (xs acc : List (List Int)), (acc ++ xs).Nodup → (acc ++ xs).length ≤ 1000 →
    dcM (setD 3) tY (eV 3) (eK (.bool true)) ρ (xs.map tp) (acc.map fun l => (tp l, PyData.bool true)) ω = .ok ((acc ++ xs).map fun l => (tp l, PyData.bool true)) ω
  | [], acc, _, _ => by rw [List.append_nil]; rfl
  | x :: xs, acc, nd, hl => by
    have ea : acc ++ x :: xs = (acc ++ [x]) ++ xs := by simp
    have ih := dc_go ρ ω hρ xs (acc ++ [x]) (by rw [← ea]; exact nd) (by rw [← ea]; exact hl)
    rw [List.map_cons, dcM]
    have nx : x ∉ acc := fun h => by
      rw [List.nodup_append] at nd
      exact nd.2.2 x h x (by simp) rfl
    have ha : ((acc.map fun l => (tp l, PyData.bool true)).any fun p => sameKey p.1 (tp x)) = false := by
      rw [List.any_map, List.any_eq_false]
      intro m hm
      show ¬ (sameKey (tp m) (tp x)) = true
      rw [sameKey_tp]
      intro z
      exact nx (of_decide_eq_true z ▸ hm)
    have hz : acc.length < line := by
      rw [List.length_append, List.length_cons] at hl
      have : (1000 : Nat) < line := by decide
      omega
    have ep : putD (acc.map fun l => (tp l, PyData.bool true)) (tp x) (.bool true) = (acc ++ [x]).map fun l => (tp l, PyData.bool true) := by
      unfold putD
      rw [ha]
      simp
    have hd : datAt (ρ.set 3 (some (.dat (tp x)))) 3 ω = .ok (tp x) ω := by
      simp [hρ]
    rw [ea, ← ih]
    simp [setD, safe, isKey_tp, flat, hz, ep, hρ]
theorem eqD_ne (i j : Int) : cmpD .NotEq (.int j) (.int i) = some (neI i j) := by
  show (eqD (.int j) (.int i)).map (!·) = _
  rw [eqD_int]
  unfold neI
  by_cases h : j = i <;> simp [h]
theorem run_known_without (xs : List (List Int)) (l : List Int) (i : Int) (hl : l.length ≤ 1000) (ω : Om) : m_is_known_without [.dat (knownD xs), .dat (tp l), .dat (.int i)] ω = .ok (.bool (hasL xs (dropI l i))) ω := by
  have hz : l.length ≤ line := Nat.le_trans hl (by decide)
  have e := list_ints (fi := seqM (eV 1)) (vs := [3, 4]) (g := setD 4) (ft := cmpM .NotEq (eV 4) (eV 2)) (fe := eV 4) (ρ := [some (.dat (knownD xs)), some (.dat (tp l)), some (.dat (.int i)), none, none]) (ω := ω) (l := l) (neI i) PyData.int
    (by simp [itemsD, tp, hz])
    (fun j hj => ⟨_, rfl, by simp [wipeR, eqD_ne], fun _ => by simp [wipeR]⟩)
  have ek : cmpD .In (.tuple ((l.filter (neI i)).map PyData.int)) (knownD xs) = some (hasL xs (dropI l i)) := inD_known xs (dropI l i)
  simp [m_is_known_without, e, tupleF, ek]
/-- a comprehension over lots -/
theorem list_lots {fi : Rho → M (List PyData)} {vs : List Nat} {g : PyData → Rho → Option Rho} {ft : Rho → M Bool} {fe : Rho → M PyData} {ρ : Rho} {ω : Om} {xs : List (List Int)} (p : List Int → Bool) (f : List Int → PyData) (hi : fi ρ ω = .ok (xs.map tp) ω)
    (h : ∀ l ∈ xs, ∃ ρ', g (tp l) (wipeR ρ vs) = some ρ' ∧ ft ρ' ω = .ok (p l) ω ∧ (p l = true → fe ρ' ω = .ok (f l) ω)) : listM fi vs g ft fe ρ ω = .ok (.list ((xs.filter p).map f)) ω := by
  have un : ∀ l : List Int, ((match tp l with | .tuple ds => ds.map asI | _ => []) : List Int) = l := fun l => by
    show (l.map PyData.int).map asI = l
    rw [List.map_map]
    exact List.map_id' l
  have e := listM_run (fi := fi) (vs := vs) (g := g) (ft := ft) (fe := fe) (ρ := ρ) (ω := ω) (fun d => p (match d with | .tuple ds => ds.map asI | _ => [])) (fun d => f (match d with | .tuple ds => ds.map asI | _ => [])) hi (fun x hx => by
    obtain ⟨l, hl, rfl⟩ := List.mem_map.mp hx
    rw [un l]
    exact h l hl)
  rw [e]
  congr 2
  clear e h hi
  induction xs with
  | nil => rfl
  | cons l xs ih =>
    rw [List.map_cons, List.filter_cons, List.filter_cons, un l]
    split
    · rw [List.map_cons, List.map_cons, un l, ih]
    · exact ih
/-- whether a lot has one with a member fewer among others -/
def overB (xs : List (List Int)) (l : List Int) : Bool := l.any fun i => hasL xs (dropI l i)
theorem anyF_map (l : List Int) (f : Int → Bool) : anyF [.list (l.map fun i => PyData.bool (f i))] = some (.bool (l.any f)) := by
  show (boolsD _).map _ = _
  rw [boolsD_map]
  simp [List.any_map]
theorem run_least_of_closed (xs : List (List Int)) (hx : xs.length ≤ 1000) (hl : ∀ l ∈ xs, l.length ≤ 1000) (nd : xs.Nodup) (ω : Om) : m_least_of_closed [.dat (.list (xs.map tp))] ω = .ok (.tuple ((xs.filter fun l => !overB xs l).map tp)) ω := by
  have hz : xs.length ≤ line := Nat.le_trans hx (by decide)
  have ed := dc_go [some (.dat (.list (xs.map tp))), none, none, none, none] ω rfl xs [] (by simpa using nd) (by simpa using hx)
  have edic : dictM (seqM (eV 0)) [2, 3] (setD 3) tY (eV 3) (eK (.bool true)) [some (.dat (.list (xs.map tp))), none, none, none, none] ω = .ok (knownD xs) ω := by
    simp only [List.map_nil, List.nil_append] at ed
    simp [dictM, itemsD, hz, wipeR, ed, knownD]
  have inner : ∀ l ∈ xs, listM (seqM (eV 3)) [2, 4] (setD 4) tY (callE m_is_known_without (consH (nameH 1) (consH (nameH 3) (consH (nameH 4) hN)))) [some (.dat (.list (xs.map tp))), some (.dat (knownD xs)), none, some (.dat (tp l)), none] ω = .ok (.list (l.map fun i => PyData.bool (hasL xs (dropI l i)))) ω := fun l h => by
    have hz2 : l.length ≤ line := Nat.le_trans (hl l h) (by decide)
    have e := list_ints (fi := seqM (eV 3)) (vs := [2, 4]) (g := setD 4) (ft := tY) (fe := callE m_is_known_without (consH (nameH 1) (consH (nameH 3) (consH (nameH 4) hN)))) (ρ := [some (.dat (.list (xs.map tp))), some (.dat (knownD xs)), none, some (.dat (tp l)), none]) (ω := ω) (l := l) (fun _ => true) (fun i => .bool (hasL xs (dropI l i)))
      (by simp [itemsD, tp, hz2])
      (fun i hi => ⟨_, rfl, by simp, fun _ => by simp [wipeR, run_known_without xs l i (hl l h)]⟩)
    rw [List.filter_eq_self.mpr fun _ _ => rfl] at e
    exact e
  have outer := list_lots (fi := seqM (eV 0)) (vs := [2, 3]) (g := setD 3) (ft := tNot (truM (eBlt anyF (aC (listM (seqM (eV 3)) [2, 4] (setD 4) tY (callE m_is_known_without (consH (nameH 1) (consH (nameH 3) (consH (nameH 4) hN))))) aN)))) (fe := eV 3) (ρ := [some (.dat (.list (xs.map tp))), some (.dat (knownD xs)), none, none, none]) (ω := ω) (xs := xs) (fun l => !overB xs l) tp
    (by simp [itemsD, hz])
    (fun l h => ⟨_, rfl, by simp [wipeR, inner l h, anyF_map, okT, truth, overB], fun _ => by simp [wipeR]⟩)
  have fl : flat (knownD xs) = false := rfl
  simp [m_least_of_closed, edic, fl, outer, tupleF]
end Q

set_option maxHeartbeats 4000000
namespace Q
open PySem L2 LamX
/-! ### weights, shares -/
def areW (d : PyData) : Bool := match d with
  | .tuple ds => decide (1 ≤ ds.length) && decide (ds.length ≤ 5) && ds.all fun e => intIn e 1 99
  | _ => false
theorem boolsD_all (ds : List PyData) (p : PyData → Bool) : allF [.list (ds.map fun e => PyData.bool (p e))] = some (.bool (ds.all p)) := by
  show (boolsD _).map _ = _
  rw [boolsD_map]
  simp [List.all_map]
def isB (d : PyData) : Bool := match d with | .bool _ => true | _ => false
def isS (d : PyData) : Bool := match d with
  | .tuple [p, q, m] => intIn q 1 9 && (match q with | .int k => intIn p 1 k | _ => false) && isB m
  | _ => false
end Q

set_option maxHeartbeats 4000000
namespace Q
open PySem L2 LamX
/-! ### the law's own looks -/
theorem eqD_nil (l : List Int) : eqD (.list (l.map PyData.int)) (.list []) = some l.isEmpty := by
  show (if okD (.list (l.map PyData.int)) && okD (.list (([] : List Int).map PyData.int)) then some (PyData.eqv (.list (l.map PyData.int)) (.list [])) else none) = _
  rw [ok_lst, ok_lst]
  cases l <;> rfl
theorem ones_map (xs : List PyData) : (xs.map fun _ => PyData.int 1) = (xs.map fun _ => (1 : Int)).map PyData.int := by
  rw [List.map_map]; rfl
theorem at_0 (p : PyData) (ds : List PyData) : L2.atI (p :: ds) 0 = some p := by
  unfold L2.atI L2.ixN
  rw [if_pos (by decide), if_pos (by rw [List.length_cons]; omega)]
  rfl
theorem at_1 (p q : PyData) (ds : List PyData) : L2.atI (p :: q :: ds) 1 = some q := by
  unfold L2.atI L2.ixN
  rw [if_pos (by decide), if_pos (by rw [List.length_cons, List.length_cons]; omega)]
  rfl
theorem at_2 (p q m : PyData) (ds : List PyData) : L2.atI (p :: q :: m :: ds) 2 = some m := by
  unfold L2.atI L2.ixN
  rw [if_pos (by decide), if_pos (by rw [List.length_cons, List.length_cons, List.length_cons]; omega)]
  rfl
/-! ### what is said of a call -/
section
variable {F : List PyData → M PyData} {ω : Om} {d v : PyData}
end
end Q

set_option maxHeartbeats 4000000
namespace Q
open PySem L2 LamX
/-! ### which lots carry -/
def shr (p q : Int) (b : Bool) : PyData := .tuple [.int p, .int q, .bool b]
def sumW (ws l : List Int) : Int := (l.map fun i => ws.getD i.toNat 0).sum
theorem map_map_int {α : Type} (l : List α) (f : α → Int) : (l.map fun i => PyData.int (f i)) = (l.map f).map PyData.int := by rw [List.map_map]; rfl
def carB (ws : List Int) (p q : Int) (b : Bool) (l : List Int) : Bool := if b then decide (p * ws.sum < q * sumW ws l) else decide (p * ws.sum ≤ q * sumW ws l)
/-- weights that are weights -/
theorem areW_tp {ws : List Int} (h1 : 1 ≤ ws.length ∧ ws.length ≤ 5) (h : ∀ w ∈ ws, 1 ≤ w ∧ w ≤ 99) : areW (tp ws) = true := by
  unfold areW tp
  have e : ((ws.map PyData.int).all fun e => intIn e 1 99) = true := by
    rw [List.all_map, List.all_eq_true]
    intro w hw
    simp [intIn, h w hw]
  simp [h1, e]
theorem isS_shr {p q : Int} {b : Bool} (hp : 1 ≤ p ∧ p ≤ q) (hq : 1 ≤ q ∧ q ≤ 9) : isS (shr p q b) = true := by
  simp [isS, shr, intIn, hp, hq, isB]
theorem tp_len {l : List Int} (h : l.length ≤ 1000) : ∀ ds, tp l = .tuple ds → ds.length ≤ 1000 := fun ds e => by
  cases e
  rw [List.length_map]; exact h
theorem faultD_LN {n : Nat} (hn : 1 ≤ n ∧ n ≤ 5) {l : List Int} (hl : l ∈ LN n) : faultD n (tp l) = .tuple [] := by
  unfold faultD tp
  simp only [LN_ok hn l hl]
section
variable {n : Nat} (hn : 1 ≤ n ∧ n ≤ 5) {ws : List Int} (hw : ws.length = n) (hW : ∀ w ∈ ws, 1 ≤ w ∧ w ≤ 99) {p q : Int} {b : Bool} (hp : 1 ≤ p ∧ p ≤ q) (hq : 1 ≤ q ∧ q ≤ 9) (ω : Om)
include hn hw hW
include hp hq
end
end Q

set_option maxHeartbeats 4000000
namespace Q
open PySem L2 LamX
/-! ### texts of values -/
structure Fine (d : PyData) (dp sz : Nat) : Prop where
  sh : d.showable = true
  ba : bareD d = true
  de : d.depth ≤ dp
  le : d.shown.length ≤ sz
theorem Fine.mono {d : PyData} {dp sz dp' sz' : Nat} (h : Fine d dp sz) (h1 : dp ≤ dp' := by decide) (h2 : sz ≤ sz' := by decide) : Fine d dp' sz' := ⟨h.sh, h.ba, Nat.le_trans h.de h1, Nat.le_trans h.le h2⟩
theorem Fine.int {i : Int} (h : i.natAbs < 10 ^ 20) : Fine (.int i) 0 21 := by
  refine ⟨?_, rfl, Nat.le_refl _, ?_⟩
  · show decide (i.natAbs.log2 < 1920) = true
    rw [decide_eq_true_eq]
    by_cases h0 : i.natAbs = 0
    · rw [h0]; decide
    · rw [Nat.log2_lt h0]
      exact Nat.lt_trans h (by decide +kernel)
  · show (Str.ofString (toString i)).length ≤ 21
    rw [PySem.ofString_length]
    exact int_text_length_le10 (k := 20) (by decide) h
theorem Fine.none : Fine .none 0 4 := ⟨rfl, rfl, Nat.le_refl _, by decide +kernel⟩
theorem Fine.bool (b : Bool) : Fine (.bool b) 0 5 := by
  refine ⟨rfl, rfl, Nat.le_refl _, ?_⟩
  cases b <;> decide +kernel
theorem fine_all {xs : List PyData} {dp sz : Nat} (h : ∀ x ∈ xs, Fine x dp sz) : PyData.showableAll xs = true ∧ bareL xs = true ∧ PyData.depthAll xs ≤ dp ∧ ((PyData.shownAll xs).map (·.length)).sum ≤ xs.length * sz ∧ (PyData.shownAll xs).length = xs.length := by
  induction xs with
  | nil => exact ⟨rfl, rfl, Nat.zero_le _, Nat.zero_le _, rfl⟩
  | cons x xs ih =>
    obtain ⟨i1, i2, i3, i4, i5⟩ := ih fun y hy => h y (by simp [hy])
    have hx := h x (by simp)
    refine ⟨by simp only [PyData.showableAll, hx.sh, i1, Bool.and_self], by simp only [bareL, hx.ba, i2, Bool.and_self], ?_, ?_, ?_⟩
    · have := hx.de
      simp only [PyData.depthAll]
      omega
    · have := hx.le
      simp only [PyData.shownAll, List.map_cons, List.sum_cons, List.length_cons]
      rw [Nat.succ_mul]
      omega
    · simp only [PyData.shownAll, List.length_cons, i5]
theorem Fine.list {xs : List PyData} {dp sz n : Nat} (h : ∀ x ∈ xs, Fine x dp sz) (hn : xs.length ≤ n) : Fine (.list xs) (dp + 1) (n * (sz + 2) + 3) := by
  obtain ⟨i1, i2, i3, i4, i5⟩ := fine_all h
  refine ⟨i1, i2, Nat.succ_le_succ i3, ?_⟩
  have h1 := listText_len_le (PyData.shownAll xs)
  have h2 : xs.length * (sz + 2) ≤ n * (sz + 2) := Nat.mul_le_mul_right _ hn
  rw [Nat.mul_add] at h2
  show (listText (PyData.shownAll xs)).length ≤ _
  omega
theorem Fine.tuple {xs : List PyData} {dp sz n : Nat} (h : ∀ x ∈ xs, Fine x dp sz) (hn : xs.length ≤ n) : Fine (.tuple xs) (dp + 1) (n * (sz + 2) + 3) := by
  obtain ⟨i1, i2, i3, i4, i5⟩ := fine_all h
  refine ⟨i1, i2, Nat.succ_le_succ i3, ?_⟩
  have h1 := tupleText_len_le (PyData.shownAll xs)
  have h2 : xs.length * (sz + 2) ≤ n * (sz + 2) := Nat.mul_le_mul_right _ hn
  rw [Nat.mul_add] at h2
  show (tupleText (PyData.shownAll xs)).length ≤ _
  omega
theorem reprF_ok {d : PyData} {dp sz : Nat} (h : Fine d dp sz) (h1 : dp ≤ 64) (h2 : sz ≤ 16777216) : reprF [d] = some (.str d.shown) := by
  have e1 := Nat.le_trans h.de h1
  have e2 : d.shown.length ≤ line := Nat.le_trans h.le h2
  show (if d.showable && bareD d && decide (d.depth ≤ 64) && decide (d.shown.length ≤ line) then some (PyData.str d.shown) else none) = _
  rw [h.sh, h.ba, decide_eq_true e1, decide_eq_true e2]
  rfl
theorem run_like {d : PyData} {dp sz : Nat} (h : Fine d dp sz) (ω : Om) (h1 : dp ≤ 64 := by decide) (h2 : sz ≤ 16777216 := by decide) : m__law_like [.dat d, .dat d] ω = .ok (.bool true) ω := by
  simp [m__law_like, reprF_ok h h1 h2, cmpD]
theorem Fine.ints {l : List Int} (h : ∀ i ∈ l, i.natAbs < 10 ^ 20) : ∀ x ∈ l.map PyData.int, Fine x 0 21 := fun x hx => by
  obtain ⟨i, hi, rfl⟩ := List.mem_map.mp hx
  exact .int (h i hi)
end Q

set_option maxHeartbeats 4000000
namespace Q
open PySem L2 LamX
theorem carB_eq (ws : List Int) (p q : Int) (b : Bool) (l : List Int) : carB ws p q b l = (decide (0 < q * sumW ws l - p * ws.sum) || (decide (q * sumW ws l - p * ws.sum = 0) && !b)) := by
  unfold carB
  generalize q * sumW ws l = x
  generalize p * ws.sum = y
  cases b <;> rw [Bool.eq_iff_iff] <;> simp <;> omega
theorem sumW_le {ws : List Int} (hW : ∀ w ∈ ws, 1 ≤ w ∧ w ≤ 99) : ∀ l : List Int, 0 ≤ sumW ws l ∧ sumW ws l ≤ 99 * l.length
  | [] => ⟨Int.le_refl _, by simp [sumW]⟩
  | i :: l => by
    have ih := sumW_le hW l
    have e : sumW ws (i :: l) = ws.getD i.toNat 0 + sumW ws l := rfl
    have hw : 0 ≤ ws.getD i.toNat 0 ∧ ws.getD i.toNat 0 ≤ 99 := by
      rw [List.getD]
      cases h : ws[i.toNat]? with
      | none => simp
      | some w =>
        have hm := hW w (List.mem_of_getElem? h)
        show 0 ≤ w ∧ w ≤ 99
        omega
    rw [e, List.length_cons]
    constructor
    · omega
    · push_cast
      omega
theorem at_last (ds : List PyData) (x : PyData) : L2.atI (ds ++ [x]) (-1) = some x := by
  unfold L2.atI L2.ixN
  rw [if_neg (by decide), if_pos (by rw [List.length_append, List.length_singleton]; omega)]
  show (ds ++ [x])[((-1 : Int) + ((ds ++ [x]).length : Nat)).toNat]? = _
  have e : ((-1 : Int) + ((ds ++ [x]).length : Nat)).toNat = ds.length := by rw [List.length_append, List.length_singleton]; omega
  rw [e]
  simp
section
variable {n : Nat} (hn : 1 ≤ n ∧ n ≤ 5) {ws : List Int} (hw : ws.length = n) (hW : ∀ w ∈ ws, 1 ≤ w ∧ w ≤ 99) {p q : Int} {b : Bool} (hp : 1 ≤ p ∧ p ≤ q) (hq : 1 ≤ q ∧ q ≤ 9) (ω : Om)
include hn hw hW hp hq
end
section
variable {n : Nat} (hn : 1 ≤ n ∧ n ≤ 5) {ws : List Int} (hw : ws.length = n) (hW : ∀ w ∈ ws, 1 ≤ w ∧ w ≤ 99) {p q : Int} {b : Bool} (hp : 1 ≤ p ∧ p ≤ q) (hq : 1 ≤ q ∧ q ≤ 9) (ω : Om)
include hn hw hW hp hq
end
end Q

set_option maxHeartbeats 4000000
namespace Q
open PySem L2 LamX
/-! ### comprehensions over anything -/
theorem compM_map {α : Type} {g : PyData → Rho → Option Rho} {ft : Rho → M Bool} {fe : Rho → M PyData} {ρ : Rho} {ω : Om} (h : α → PyData) (p : α → Bool) (f : α → PyData) : ∀ (ys : List α), (∀ y ∈ ys, ∃ ρ', g (h y) ρ = some ρ' ∧ ft ρ' ω = .ok (p y) ω ∧ (p y = true → fe ρ' ω = .ok (f y) ω)) →
    compM g ft fe ρ (ys.map h) ω = .ok ((ys.filter p).map f) ω
  | [], _ => rfl
  | y :: ys, H => by
    obtain ⟨ρ', e1, e2, e3⟩ := H y (by simp)
    have ih := compM_map (g := g) (ft := ft) (fe := fe) (ρ := ρ) (ω := ω) h p f ys fun z hz => H z (by simp [hz])
    rw [List.map_cons, compM]
    cases hp : p y with
    | true => simp [e1, e2, e3 hp, hp, ih, safe, List.filter_cons]
    | false => simp [e1, e2, hp, ih, safe, List.filter_cons]
theorem listM_map {α : Type} {fi : Rho → M (List PyData)} {vs : List Nat} {g : PyData → Rho → Option Rho} {ft : Rho → M Bool} {fe : Rho → M PyData} {ρ : Rho} {ω : Om} {ys : List α} (h : α → PyData) (p : α → Bool) (f : α → PyData) (hi : fi ρ ω = .ok (ys.map h) ω)
    (H : ∀ y ∈ ys, ∃ ρ', g (h y) (wipeR ρ vs) = some ρ' ∧ ft ρ' ω = .ok (p y) ω ∧ (p y = true → fe ρ' ω = .ok (f y) ω)) : listM fi vs g ft fe ρ ω = .ok (.list ((ys.filter p).map f)) ω := by
  have e := compM_map (g := g) (ft := ft) (fe := fe) (ρ := wipeR ρ vs) (ω := ω) h p f ys H
  simp [listM, hi, e]
theorem listN_map {α : Type} {fi : Rho → M (List PyData)} {vs : List Nat} {g : PyData → Rho → Option Rho} {ft : Rho → M Bool} {fe : Rho → M PyData} {ρ : Rho} {ω : Om} {ys : List α} (h : α → PyData) (p : α → Bool) (f : α → PyData) (hi : fi ρ ω = .ok (ys.map h) ω)
    (H : ∀ y ∈ ys, ∃ ρ', g (h y) (wipeR ρ vs) = some ρ' ∧ ft ρ' ω = .ok (p y) ω ∧ (p y = true → fe ρ' ω = .ok (f y) ω)) : listN fi vs g ft fe ρ ω = .ok (.inl ((ys.filter p).map f)) ω := by
  have e := compM_map (g := g) (ft := ft) (fe := fe) (ρ := wipeR ρ vs) (ω := ω) h p f ys H
  simp [listN, hi, e]
theorem eqvAll_ints : ∀ a b : List Int, PyData.eqvAll (a.map PyData.int) (b.map PyData.int) = decide (a = b)
  | [], [] => rfl
  | [], _ :: _ => rfl
  | _ :: _, [] => rfl
  | x :: a, y :: b => by
    have ih := eqvAll_ints a b
    simp only [List.map_cons, PyData.eqvAll, ih, eqv_int]
    by_cases h : x = y
    · subst h; simp
    · simp [h]
theorem eqD_tp (a b : List Int) : eqD (tp a) (tp b) = some (decide (a = b)) := by
  show (if okD (.tuple (a.map PyData.int)) && okD (.tuple (b.map PyData.int)) then some (PyData.eqvAll (a.map PyData.int) (b.map PyData.int)) else none) = _
  rw [ok_tup, ok_tup, eqvAll_ints]
  rfl
def neL (a b : List Int) : Bool := !decide (a = b)
theorem neD_tp (a b : List Int) : cmpD .NotEq (tp a) (tp b) = some (neL a b) := by
  show (eqD (tp a) (tp b)).map (!·) = _
  rw [eqD_tp]; rfl
/-! ### the least ones, either way -/
def under (xs : List (List Int)) (l : List Int) : Bool := xs.any fun m => neL m l && inL m l
theorem sumW_erase (ws : List Int) : ∀ (l : List Int) (i : Int), i ∈ l → sumW ws l = ws.getD i.toNat 0 + sumW ws (l.erase i)
  | [], i, h => nomatch h
  | a :: l, i, h => by
    by_cases e : a = i
    · subst e
      rw [List.erase_cons_head]; rfl
    · have h2 : i ∈ l := by
        rcases List.mem_cons.mp h with q | q
        · exact absurd q.symm e
        · exact q
      have ih := sumW_erase ws l i h2
      have e2 : (a :: l).erase i = a :: l.erase i := List.erase_cons_tail (by simpa using e)
      rw [e2]
      show ws.getD a.toNat 0 + sumW ws l = ws.getD i.toNat 0 + (ws.getD a.toNat 0 + sumW ws (l.erase i))
      omega
theorem sumW_mono {ws : List Int} (hW : ∀ w ∈ ws, 1 ≤ w ∧ w ≤ 99) : ∀ (m l : List Int), m.Nodup → (∀ i ∈ m, i ∈ l) → sumW ws m ≤ sumW ws l
  | [], l, _, _ => (sumW_le hW l).1
  | i :: m, l, nd, h => by
    rw [List.nodup_cons] at nd
    have hi := h i (by simp)
    rw [sumW_erase ws l i hi]
    have ih := sumW_mono hW m (l.erase i) nd.2 fun j hj => (List.mem_erase_of_ne (fun z => nd.1 (by rw [← z]; exact hj))).mpr (h j (by simp [hj]))
    show ws.getD i.toNat 0 + sumW ws m ≤ _
    omega
theorem carB_mono {ws : List Int} (hW : ∀ w ∈ ws, 1 ≤ w ∧ w ≤ 99) {p q : Int} {b : Bool} (hq : 1 ≤ q) {m l : List Int} (nd : m.Nodup) (h : ∀ i ∈ m, i ∈ l) (hm : carB ws p q b m = true) : carB ws p q b l = true := by
  have h1 := Int.mul_le_mul_of_nonneg_left (sumW_mono hW m l nd h) (show (0 : Int) ≤ q by omega)
  unfold carB at hm ⊢
  cases b
  · simp only [if_neg Bool.false_ne_true, decide_eq_true_eq, Bool.false_eq_true, if_false] at hm ⊢
    omega
  · simp only [if_true, decide_eq_true_eq] at hm ⊢
    omega
theorem mem_dropI {l : List Int} {i j : Int} : j ∈ dropI l i ↔ j ∈ l ∧ j ≠ i := by
  unfold dropI neI
  rw [List.mem_filter, decide_eq_true_eq]
theorem under_eq {n : Nat} (hn : 1 ≤ n ∧ n ≤ 5) {ws : List Int} (hW : ∀ w ∈ ws, 1 ≤ w ∧ w ≤ 99) {p q : Int} {b : Bool} (hq : 1 ≤ q) {l : List Int} (hl : l ∈ LN n) :
    under ((LN n).filter (carB ws p q b)) l = overB ((LN n).filter (carB ws p q b)) l := by
  rw [Bool.eq_iff_iff]
  unfold under overB
  rw [List.any_eq_true, List.any_eq_true]
  constructor
  · rintro ⟨m, hm, h⟩
    rw [Bool.and_eq_true] at h
    obtain ⟨h1, h2⟩ := h
    obtain ⟨hmL, hmc⟩ := List.mem_filter.mp hm
    have ne : m ≠ l := fun z => by unfold neL at h1; rw [decide_eq_true z] at h1; cases h1
    obtain ⟨i, hi, hs⟩ := LN_sub hn l hl m hmL ne h2
    refine ⟨i, hi, hasL_mem.mpr (List.mem_filter.mpr ⟨LN_less hn l hl i hi, ?_⟩)⟩
    exact carB_mono hW hq (LN_mem hn m hmL).2 (inL_iff.mp hs) hmc
  · rintro ⟨i, hi, h⟩
    have hm := hasL_mem.mp h
    refine ⟨dropI l i, hm, ?_⟩
    rw [Bool.and_eq_true]
    refine ⟨?_, inL_iff.mpr fun j hj => (mem_dropI.mp hj).1⟩
    unfold neL
    rw [Bool.not_eq_true', decide_eq_false_iff_not]
    intro z
    rw [← z] at hi
    exact (mem_dropI.mp hi).2 rfl
end Q

set_option maxHeartbeats 4000000
namespace Q
open PySem L2 LamX
theorem tps_fine {n : Nat} (hn : 1 ≤ n ∧ n ≤ 5) {xs : List (List Int)} (h : ∀ l ∈ xs, l ∈ LN n) : ∀ x ∈ xs.map tp, Fine x 1 118 := fun x hx => by
  obtain ⟨l, hl, rfl⟩ := List.mem_map.mp hx
  exact Fine.tuple (n := 5) (Fine.ints fun i hi => by have := (LN_mem hn l (h l hl)).1 i hi; omega) (by rw [List.length_map]; exact (LN_le hn).2 l (h l hl))
section
variable {n : Nat} (hn : 1 ≤ n ∧ n ≤ 5) {ws : List Int} (hw : ws.length = n) (hW : ∀ w ∈ ws, 1 ≤ w ∧ w ≤ 99) {p q : Int} {b : Bool} (hp : 1 ≤ p ∧ p ≤ q) (hq : 1 ≤ q ∧ q ≤ 9) (ω : Om)
include hn hw hW hp hq
end
end Q

set_option maxHeartbeats 4000000
namespace Q
open PySem L2 LamX
section
variable {n : Nat} (hn : 1 ≤ n ∧ n ≤ 5) (ω : Om)
include hn
theorem run_need_many' : m_need_many [.dat (.int n)] ω = .ok (.int n) ω := run_need_many n (by omega) ω
theorem rest_fine (l : List Int) : Fine (tp (restI n l)) 1 118 := Fine.tuple (n := 5) (Fine.ints fun i hi => by
    have h := (List.mem_filter.mp hi).1
    unfold numI at h
    obtain ⟨k, hk, rfl⟩ := List.mem_map.mp h
    rw [List.mem_range] at hk
    omega) (by
    rw [List.length_map]
    refine Nat.le_trans (List.length_filter_le _ _) ?_
    unfold numI
    rw [List.length_map, List.length_range]
    exact hn.2)
theorem rest_list {ρ : Rho} {i j k v : Nat} (l : List Int) (hk : (wipeR ρ [v, k]).length > k) (h0 : ρ[i]? = some (some (.dat (.int n)))) (hj : ∀ d : PyData, ((wipeR ρ [v, k]).set k (some (.dat d)))[j]? = some (some (.dat (tp l)))) :
    listM (rng1M (aC (eV i) aN)) [v, k] (setD k) (cmpM .NotIn (eV k) (eV j)) (eV k) ρ ω = .ok (.list ((restI n l).map PyData.int)) ω := by
  refine list_ints (l := numI n) (fun i => !hasI l i) PyData.int ?_ fun a ha => ⟨_, rfl, ?_, fun _ => ?_⟩
  · have h1 : ((n : Nat) : Int) ≤ 16777216 := by omega
    have h2 : -4611686018427387904 ≤ ((n : Nat) : Int) := by omega
    simp [rng1M, h0, h1, h2, upD_num]
  · have hh : ((wipeR ρ [v, k]).set k (some (.dat (.int a))))[k]? = some (some (.dat (.int a))) := List.getElem?_set_self hk
    simp [hh, hj, cmpD, inD_tp]
  · have hh : ((wipeR ρ [v, k]).set k (some (.dat (.int a))))[k]? = some (some (.dat (.int a))) := List.getElem?_set_self hk
    simp [hh]
end
end Q

set_option maxHeartbeats 4000000
namespace Q
open PySem L2 LamX
/-! ### draws -/
def GoodM (b : Int) (ω : Om) : Prop := ∃ m : Mach, ω = some m ∧ cellsOk m.cells ∧ m.great.length ≤ 63 ∧ 0 ≤ m.spot ∧ m.spot ≤ b
theorem GoodM.mono {b b' : Int} {ω : Om} (g : GoodM b ω) (h : b ≤ b') : GoodM b' ω := by
  obtain ⟨m, e, h1, h2, h3, h4⟩ := g
  exact ⟨m, e, h1, h2, h3, Int.le_trans h4 h⟩
theorem GoodM.nn {b : Int} {ω : Om} (g : GoodM b ω) : 0 ≤ b := by
  obtain ⟨m, e, h1, h2, h3, h4⟩ := g
  omega
theorem draw_run {b : Int} {ω : Om} (g : GoodM b ω) {lim : Int} (h0 : 0 < lim) (hb : b < 1048576 := by omega) (h1 : lim < 1073741824 := by omega) : ∃ r ω', m__law_draw [.mach, .dat (.int lim)] ω = .ok (.int r) ω' ∧ (0 ≤ r ∧ r < lim) ∧ GoodM (b + 1) ω' := by
  obtain ⟨m, rfl, c, gl, s0, s1⟩ := g
  have ok : mOk m = true := by
    unfold mOk
    rw [decide_eq_true c.1, decide_eq_true gl, decide_eq_true s0, decide_eq_true (show m.spot < 1048576 by omega)]
    simp only [Bool.true_and, Bool.and_true, List.all_eq_true, Bool.and_eq_true, decide_eq_true_eq]
    exact fun x hx => c.2 x hx
  refine ⟨(drawV m lim).1, some (drawV m lim).2, ?_, ?_, ?_⟩
  · show (if mOk m && decide (0 < lim) && decide (lim < 1073741824) then Res.ok (PyData.int (drawV m lim).1) (some (drawV m lim).2) else .bad) = _
    rw [ok, decide_eq_true h0, decide_eq_true h1]
    rfl
  · have low : 0 ≤ lowV m lim ∧ lowV m lim < lim := ⟨Int.emod_nonneg _ (by omega), Int.emod_lt_of_pos _ h0⟩
    unfold drawV
    split
    · exact low
    · split
      · split
        · exact ⟨Int.emod_nonneg _ (by omega), Int.emod_lt_of_pos _ h0⟩
        · exact low
      · exact ⟨Int.le_refl _, h0⟩
  · unfold drawV
    split
    · exact ⟨_, rfl, c, gl, by show 0 ≤ m.spot + 1; omega, by show m.spot + 1 ≤ b + 1; omega⟩
    · split
      · split
        · exact ⟨_, rfl, c, by show (m.great.set _ _).length ≤ 63; rw [List.length_set]; exact gl, by show 0 ≤ m.spot + 1; omega, by show m.spot + 1 ≤ b + 1; omega⟩
        · exact ⟨_, rfl, c, gl, by show 0 ≤ m.spot + 1; omega, by show m.spot + 1 ≤ b + 1; omega⟩
      · exact ⟨_, rfl, c, gl, s0, by show m.spot ≤ b + 1; omega⟩
theorem at_in {ds : List PyData} {r : Int} (h0 : 0 ≤ r) (h1 : r < ds.length) : ∃ d, L2.atI ds r = some d ∧ d ∈ ds := by
  unfold L2.atI L2.ixN
  rw [if_pos h0, if_pos h1]
  have h2 : r.toNat < ds.length := by omega
  exact ⟨ds[r.toNat], List.getElem?_eq_getElem h2, List.getElem_mem h2⟩
/-- drawn weights -/
theorem ws_go {most : Int} (hm : 1 ≤ most ∧ most ≤ 99) (s : Option Ent) : ∀ (xs : List PyData) {b : Int} {ω : Om}, GoodM b ω → b + xs.length < 1048576 → ∃ (ws : List Int) (ω' : Om), compM (setD 3) tY (eBin .Add (eK (.int 1)) (callE m__law_draw (consH (nameH 0) (consH (nameH 1) hN)))) [some .mach, some (.dat (.int most)), s, none] xs ω = .ok (ws.map PyData.int) ω' ∧ ws.length = xs.length ∧ (∀ w ∈ ws, 1 ≤ w ∧ w ≤ 99) ∧ GoodM (b + xs.length) ω'
  | [], b, ω, g, _ => ⟨[], ω, rfl, rfl, (fun w h => nomatch h), by simpa using g⟩
  | x :: xs, b, ω, g, hb => by
    rw [List.length_cons] at hb
    have hb1 : b + 1 + (xs.length : Int) < 1048576 := by omega
    obtain ⟨r, ω1, e1, hr, g1⟩ := draw_run g (lim := most) (by omega) (by omega) (by omega)
    obtain ⟨ws, ω2, e2, hl, hw, g2⟩ := ws_go hm s xs g1 hb1
    refine ⟨(1 + r) :: ws, ω2, ?_, by simp [hl], fun w h => ?_, ?_⟩
    · rw [compM]
      simp [setD, safe, e1, binD, addD, e2]
    · rcases List.mem_cons.mp h with rfl | h
      · omega
      · exact hw w h
    · have : b + ((x :: xs).length : Int) = b + 1 + (xs.length : Int) := by rw [List.length_cons]; omega
      rw [this]
      exact g2
end Q

set_option maxHeartbeats 4000000
namespace Q
open PySem L2 LamX
/-! ### values with something otherwise -/
structure Near (d : PyData) : Prop where
  fine : Fine d 2 311
  len : ∀ ds, d = .tuple ds → ds.length ≤ 1000
theorem Near.tup {ds : List PyData} (h : ∀ x ∈ ds, Fine x 1 26) (hl : ds.length ≤ 11) : Near (.tuple ds) :=
  ⟨Fine.tuple (n := 11) h hl, fun es e => by cases e; omega⟩
theorem Near.lst {ds : List PyData} (h : ∀ x ∈ ds, Fine x 1 26) (hl : ds.length ≤ 11) : Near (.list ds) :=
  ⟨Fine.list (n := 11) h hl, fun es e => nomatch e⟩
theorem Near.atom {d : PyData} (h : Fine d 1 26) (n : ∀ ds, d = .tuple ds → ds.length ≤ 1000) : Near d := ⟨h.mono, n⟩
def someD : List PyData := [.none, .tuple [], .int 0, .tuple [.none], .str "1", .list [.int 1], .dict [], .bool true, .tuple [.int 0], .tuple [.int 0, .int 0], .tuple [.int 1, .int 0], .tuple [.int 0, .int 1, .int 2, .int 3, .int 4, .int 5]]
theorem someD_near : ∀ d ∈ someD, Near d := by
  intro d hd
  have hl : ∀ ds, d = .tuple ds → ds.length ≤ 1000 := by
    intro ds e
    subst e
    simp only [someD, List.mem_cons, List.not_mem_nil, or_false, reduceCtorEq, false_or, PyData.tuple.injEq] at hd
    rcases hd with rfl | rfl | rfl | rfl | rfl | rfl <;> decide
  refine ⟨?_, hl⟩
  clear hl
  simp only [someD, List.mem_cons, List.not_mem_nil, or_false] at hd
  rcases hd with rfl | rfl | rfl | rfl | rfl | rfl | rfl | rfl | rfl | rfl | rfl | rfl <;> exact ⟨by decide +kernel, by decide +kernel, by decide +kernel, by decide +kernel⟩
def otherD : List PyData := [.none, .bool true, .bool false, .int 0, .int (-1), .int 1, .int 2, .int 5, .int 9, .int 10, .int 99, .int 100, .str "1", .tuple [.int 1], .int 9223372036854775808]
theorem otherD_fine : ∀ d ∈ otherD, Fine d 1 26 := by
  intro d hd
  simp only [otherD, List.mem_cons, List.not_mem_nil, or_false] at hd
  rcases hd with rfl | rfl | rfl | rfl | rfl | rfl | rfl | rfl | rfl | rfl | rfl | rfl | rfl | rfl | rfl <;> exact ⟨by decide +kernel, by decide +kernel, by decide +kernel, by decide +kernel⟩
theorem cut_mem {ds : List PyData} {lo hi : Option Int} : ∀ x ∈ cutL ds lo hi, x ∈ ds := fun x h => List.mem_of_mem_drop (List.mem_of_mem_take h)
theorem cut_len {ds : List PyData} {lo hi : Option Int} : (cutL ds lo hi).length ≤ ds.length := by
  unfold cutL
  rw [List.length_take, List.length_drop]
  omega
theorem eqD_tup_nil {ds : List PyData} (h : okD (.tuple ds) = true) : eqD (.tuple ds) (.tuple []) = some ds.isEmpty := by
  show (if okD (.tuple ds) && okD (.tuple (([] : List Int).map PyData.int)) then some (PyData.eqv (.tuple ds) (.tuple [])) else none) = _
  rw [h, ok_tup]
  cases ds <;> rfl
@[simp] theorem x_eDic0 {ρ : Rho} {ω : Om} : eDic0 ρ ω = .ok (.dict []) ω := rfl
end Q

set_option maxHeartbeats 4000000
namespace Q
open PySem L2 LamX
/-! ### how a value is due as a lot -/
section
variable (many : Int) (all : List PyData) (ω : Om)
end
/-- the word that is due -/
def dueD (many : Int) (d : PyData) : PyData := match d with
  | .tuple ds => (match climbK 0 (many - 1) none 0 ds with | none => .list [d] | some k => .tuple [.str "lot", .int k])
  | _ => .tuple [.str "lot", .none]
theorem ite_none {c : Bool} {A : Option Nat} {k : Nat} (h : (if c = true then A else some k) = none) : A = none := by
  cases c
  · cases h
  · exact h
theorem ite_some {c : Bool} {A : Option Nat} {k j : Nat} (h : (if c = true then A else some k) = some j) : A = some j ∨ j = k := by
  cases c
  · exact .inr (Option.some.inj h).symm
  · exact .inl h
theorem climb_ints (lo hi : Int) : ∀ (ds : List PyData) (prev : Option Int) (k : Nat), climbK lo hi prev k ds = none → ∃ l : List Int, ds = l.map PyData.int
  | [], _, _, _ => ⟨[], rfl⟩
  | d :: ds, prev, k, h => by
    cases d <;> first | (cases h; done) | skip
    rename_i i
    obtain ⟨l, rfl⟩ := climb_ints lo hi ds (some i) (k + 1) (ite_none h)
    exact ⟨i :: l, rfl⟩
theorem climb_lt (lo hi : Int) : ∀ (ds : List PyData) (prev : Option Int) (k j : Nat), climbK lo hi prev k ds = some j → j < k + ds.length
  | [], _, _, _, h => nomatch h
  | d :: ds, prev, k, j, h => by
    rw [List.length_cons]
    cases d
    case int i =>
      rcases ite_some h with h | h
      · have := climb_lt lo hi ds (some i) (k + 1) j h
        omega
      · omega
    all_goals
      simp only [climbK] at h
      cases h
      omega
theorem due_of {many : Int} {d : PyData} (hl : ∀ ds, d = .tuple ds → ds.length ≤ 1000) : (faultD many d = .tuple [] ∧ dueD many d = .list [d] ∧ ∃ l : List Int, d = tp l) ∨ ∃ v, faultD many d = .tuple [v] ∧ dueD many d = .tuple [.str "lot", v] ∧ Fine v 0 21 := by
  cases d with
  | tuple ds =>
    unfold faultD dueD
    simp only
    cases h : climbK 0 (many - 1) none 0 ds with
    | none =>
      obtain ⟨l, rfl⟩ := climb_ints _ _ _ _ _ h
      exact .inl ⟨rfl, rfl, l, rfl⟩
    | some k =>
      have h1 := climb_lt _ _ _ _ _ _ h
      have h2 := hl ds rfl
      exact .inr ⟨_, rfl, rfl, .int (by omega)⟩
  | _ => exact .inr ⟨_, rfl, rfl, Fine.none.mono⟩
end Q

set_option maxHeartbeats 4000000
namespace Q
open PySem L2 LamX
/-! ### families as data -/
def fm (F : List (List Int)) : PyData := .tuple (F.map tp)
def overF (F : List (List Int)) (l : List Int) : Bool := F.any fun m => inL m l
theorem anyF_bools {α : Type} (xs : List α) (f : α → Bool) : anyF [.list (xs.map fun x => PyData.bool (f x))] = some (.bool (xs.any f)) := by
  show (boolsD _).map _ = _
  rw [boolsD_map]
  simp [List.any_map]
theorem allF_bools {α : Type} (xs : List α) (f : α → Bool) : allF [.list (xs.map fun x => PyData.bool (f x))] = some (.bool (xs.all f)) := by
  show (boolsD _).map _ = _
  rw [boolsD_map]
  simp [List.all_map]
theorem alike_tp (a b : List Int) : PySem.W.alike (tp a) (tp b) = true := by
  show PySem.W.alike (.tuple _) (.tuple _) = true
  simp only [PySem.W.alike]
  exact QS.alike_ints _ _
def ltL (a b : List Int) : Bool := PySem.W.dataLt (tp a) (tp b)
theorem ltD_tp (a b : List Int) : cmpD .Lt (tp a) (tp b) = some (ltL a b) := by
  show (if PySem.W.alike (tp a) (tp b) && okD (.tuple (a.map PyData.int)) && okD (.tuple (b.map PyData.int)) then some (PySem.W.dataLt (tp a) (tp b)) else none) = _
  rw [alike_tp, ok_tup, ok_tup]
  rfl
theorem ltL_trans {a b c : List Int} (h1 : ltL a b = true) (h2 : ltL b c = true) : ltL a c = true :=
  (PyProof.Rows.listOrd PyProof.Rows.itemOrd).trans _ _ _ h1 h2
section
variable (F : List (List Int)) (l : List Int) (hF : F.length ≤ 1000) (hm : ∀ m ∈ F, m.length ≤ 1000) (ω : Om)
include hF hm
theorem run_is_over_one : m_is_over_one [.dat (fm F), .dat (tp l)] ω = .ok (.bool (overF F l)) ω := by
  have hz : F.length ≤ line := Nat.le_trans hF (by decide)
  have e := listM_map (fi := seqM (eV 0)) (vs := [2, 3]) (g := setD 3) (ft := tY) (fe := callE m_is_within (consH (nameH 3) (consH (nameH 1) hN))) (ρ := [some (.dat (fm F)), some (.dat (tp l)), none, none]) (ω := ω) (ys := F) tp (fun _ => true) (fun m => .bool (inL m l))
    (by simp [itemsD, fm, hz])
    (fun m h => ⟨_, rfl, by simp, fun _ => by simp [wipeR, run_is_within m l (hm m h)]⟩)
  rw [List.filter_eq_self.mpr fun _ _ => rfl] at e
  simp [m_is_over_one, e, anyF_bools, overF]
theorem run_law_has : m__law_has [.dat (fm F), .dat (tp l)] ω = .ok (.bool (overF F l)) ω := by
  have hz : F.length ≤ line := Nat.le_trans hF (by decide)
  have h0 : (0 : Nat) ≤ line := by decide
  have e := listM_map (fi := seqM (eV 0)) (vs := [2, 3]) (g := setD 3) (ft := truM (callE m__law_within (consH (nameH 3) (consH (nameH 1) hN)))) (fe := eK (.int 1)) (ρ := [some (.dat (fm F)), some (.dat (tp l)), none, none]) (ω := ω) (ys := F) tp (fun m => inL m l) (fun m => .int 1)
    (by simp [itemsD, fm, hz])
    (fun m h => ⟨_, rfl, by simp [wipeR, run_law_within m l (hm m h), okT, truth], fun _ => by simp⟩)
  have eo : ((F.filter fun m => inL m l).map fun _ => PyData.int 1) = ((F.filter fun m => inL m l).map fun _ => (1 : Int)).map PyData.int := by rw [List.map_map]; rfl
  rw [eo] at e
  have en := eqD_nil ((F.filter fun m => inL m l).map fun _ => (1 : Int))
  have ef : ((F.filter fun m => inL m l).map fun _ => (1 : Int)).isEmpty = !overF F l := by
    rw [List.isEmpty_map]
    unfold overF
    cases h : F.filter fun m => inL m l with
    | nil =>
      have : (F.any fun m => inL m l) = false := by
        rw [List.any_eq_false]
        exact List.filter_eq_nil_iff.mp h
      rw [this]; rfl
    | cons x xs =>
      have hx : x ∈ F.filter fun m => inL m l := by rw [h]; simp
      have h3 := List.mem_filter.mp hx
      have : (F.any fun m => inL m l) = true := List.any_eq_true.mpr ⟨x, h3.1, h3.2⟩
      rw [this]; rfl
  rw [ef] at en
  clear ef eo
  generalize ((F.filter fun m => inL m l).map fun _ => (1 : Int)) = ys at e en
  simp [m__law_has, e, cmpD, en, h0]
end
/-- whether a lot may stand right behind another one -/
def apart (a l : List Int) : Bool := ltL a l && (!inL a l && !inL l a)
theorem run_may_stand (P : List (List Int)) (l : List Int) (hP : P.length ≤ 1000) (hm : ∀ m ∈ P, m.length ≤ 1000) (hl : l.length ≤ 1000) (ω : Om) : m_may_stand_behind [.dat (fm P), .dat (tp l)] ω = .ok (.bool (P.all fun a => apart a l)) ω := by
  have hz : P.length ≤ line := Nat.le_trans hP (by decide)
  have e := listM_map (fi := seqM (eV 0)) (vs := [2, 3]) (g := setD 3) (ft := tY) (fe := andTM (eCmp .Lt (eV 3) (eV 1)) (andTM (notM (callE m_is_within (consH (nameH 3) (consH (nameH 1) hN)))) (notM (callE m_is_within (consH (nameH 1) (consH (nameH 3) hN)))))) (ρ := [some (.dat (fm P)), some (.dat (tp l)), none, none]) (ω := ω) (ys := P) tp (fun _ => true) (fun a => .bool (apart a l))
    (by simp [itemsD, fm, hz])
    (fun m h => ⟨_, rfl, by simp, fun _ => by
      have r1 := run_is_within m l (hm m h) ω
      have r2 := run_is_within l m hl ω
      unfold apart
      cases h1 : ltL m l
      · simp [wipeR, ltD_tp, h1, okT, truth]
      · cases h2 : inL m l <;> cases h3 : inL l m <;> simp [wipeR, ltD_tp, h1, r1, r2, h2, h3, okT, truth]⟩)
  rw [List.filter_eq_self.mpr fun _ _ => rfl] at e
  simp [m_may_stand_behind, e, allF_bools]
section
variable {n : Nat} (hn : 1 ≤ n ∧ n ≤ 5) (F : List (List Int)) (hF : F.length ≤ 1000) (hm : ∀ m ∈ F, m.length ≤ 1000) (ω : Om)
include hn hF hm
end
/-! ### the first lot that may not stand there -/
def famK (pre : List (List Int)) : List (List Int) → Option Nat
  | [] => none
  | l :: rest => if pre.all fun a => apart a l then famK (pre ++ [l]) rest else some pre.length
theorem cut_pre {α : Type} (pre rest : List α) : cutL (pre ++ rest) none (some ((pre.length : Nat) : Int)) = pre := by
  have e1 : HT.sIx (pre ++ rest).length 0 none = 0 := rfl
  have e2 : HT.sIx (pre ++ rest).length (pre ++ rest).length (some ((pre.length : Nat) : Int)) = pre.length := by
    rw [HT.sIx_nat, List.length_append]
    omega
  unfold cutL
  rw [e1, e2]
  simp
end Q

set_option maxHeartbeats 4000000
namespace Q
open PySem L2 LamX
/-! ### the program's look at a family -/
def famB : RF :=
    (seqS (ifM [0, 3, 1, 2, 3] (orM (truM (callE m_subset_fault (consH (nameH 0) (consH (nameH 3) hN)))) (tNot (truM (callE m_may_stand_behind (consH (hD (eCut (eV 1) oN (intM (eV 2)))) (consH (nameH 3) hN))))))
      (seqS (retM [2] (eTup (aC (eV 2) aN)))
      sN)
      sN)
    sN)
section
variable {n : Nat} (hn : 1 ≤ n ∧ n ≤ 5) (all : List (List Int)) (ha : all.length ≤ 1000) (ω : Om)
include hn ha
theorem famB_run (pre rest : List (List Int)) (l : List Int) (hp : ∀ m ∈ pre, m ∈ LN n) (hl : l ∈ LN n) (e : all = pre ++ l :: rest) :
    famB [some (.dat (.int n)), some (.dat (fm all)), some (.dat (.int (pre.length : Nat))), some (.dat (tp l))] ω =
      .ok (if pre.all fun a => apart a l then .nx [some (.dat (.int n)), some (.dat (fm all)), some (.dat (.int (pre.length : Nat))), some (.dat (tp l))] else .rt (.tuple [.int (pre.length : Nat)])) ω := by
  have h1 : (1 : Nat) ≤ line := by decide
  have h5 : ∀ m ∈ LN n, m.length ≤ 1000 := fun m h => Nat.le_trans ((LN_le hn).2 m h) (by decide)
  have hpl : pre.length ≤ 1000 := by
    rw [e, List.length_append] at ha
    omega
  have r1 := run_subset_fault n (tp l) ω (tp_len (h5 l hl))
  rw [faultD_LN hn hl] at r1
  have r2 := run_may_stand pre l hpl (fun m h => h5 m (hp m h)) (h5 l hl) ω
  have ec : cutD (fm all) none (some ((pre.length : Nat) : Int)) = some (fm pre) := by
    rw [e]
    show some (PyData.tuple (cutL ((pre ++ l :: rest).map tp) none (some ((pre.length : Nat) : Int)))) = _
    have e2 := cut_pre (pre.map tp) ((l :: rest).map tp)
    rw [← List.map_append, List.length_map] at e2
    rw [e2]
    rfl
  cases hb : pre.all fun a => apart a l with
  | true =>
    rw [hb] at r2
    simp [famB, r1, okT, truth, ec, r2]
  | false =>
    rw [hb] at r2
    simp [famB, r1, okT, truth, ec, r2, h1]
theorem fam_go : ∀ (rest pre : List (List Int)) (x2 x3 : Option Ent), (∀ m ∈ pre, m ∈ LN n) → (∀ m ∈ rest, m ∈ LN n) → all = pre ++ rest →
    ∃ ρ', forM (tupG 2 (consG (setD 2) (consG (setD 3) nilG))) famB ((List.range' pre.length rest.length).zipWith (fun (i : Nat) d => PyData.tuple [.int i, d]) (rest.map tp)) [some (.dat (.int n)), some (.dat (fm all)), x2, x3] ω =
      match famK pre rest with | none => .ok (.nx ρ') ω | some k => .ok (.rt (.tuple [.int k])) ω
  | [], pre, x2, x3, _, _, _ => ⟨_, rfl⟩
  | l :: rest, pre, x2, x3, hp, hr, e => by
    obtain ⟨ρ', ih⟩ := fam_go rest (pre ++ [l]) (some (.dat (.int (pre.length : Nat)))) (some (.dat (tp l))) (fun m h => by
      rcases List.mem_append.mp h with h | h
      · exact hp m h
      · rw [List.mem_singleton.mp h]; exact hr l (by simp)) (fun m h => hr m (by simp [h])) (by rw [e]; simp)
    rw [List.length_append] at ih
    have eb := famB_run hn all ha ω pre rest l hp (hr l (by simp)) e
    refine ⟨ρ', ?_⟩
    rw [List.length_cons, List.range'_succ, List.map_cons, List.zipWith_cons_cons]
    simp only [x_forM_cons]
    have eg : tupG 2 (consG (setD 2) (consG (setD 3) nilG)) (.tuple [.int (pre.length : Nat), tp l]) [some (.dat (.int n)), some (.dat (fm all)), x2, x3] = some [some (.dat (.int n)), some (.dat (fm all)), some (.dat (.int (pre.length : Nat))), some (.dat (tp l))] := by simp [tupG, consG, nilG, setD]
    rw [eg]
    unfold famK
    cases hb : pre.all fun a => apart a l with
    | true =>
      rw [hb, if_pos rfl] at eb
      simp only [x_bind, x_get, eb, if_true]
      exact ih
    | false =>
      rw [hb, if_neg Bool.false_ne_true] at eb
      simp only [x_bind, x_get, eb, if_false, Bool.false_eq_true]
      rfl
theorem run_family_fault (hA : ∀ m ∈ all, m ∈ LN n) : m_family_fault [.dat (.int n), .dat (fm all)] ω = .ok (match famK [] all with | none => .tuple [] | some k => .tuple [.int k]) ω := by
  have h0 : (0 : Nat) ≤ line := by decide
  obtain ⟨ρ', e⟩ := fam_go hn all ha ω all [] none none (fun m h => nomatch h) hA rfl
  have hs : (all.map tp).length ≤ line := by rw [List.length_map]; exact Nat.le_trans ha (by decide)
  have en : enumD (all.map tp) = (List.range' 0 all.length).zipWith (fun (i : Nat) d => PyData.tuple [.int i, d]) (all.map tp) := by unfold enumD; rw [List.range_eq_range', List.length_map]
  simp only [List.length_nil] at e
  unfold famB at e
  have ef : fm all = .tuple (all.map tp) := rfl
  rw [ef] at e ⊢
  generalize all.map tp = A at e hs en
  simp [m_family_fault, okT, truth, enumM2, hs, en, e]
  cases famK [] all with
  | none => simp
  | some k => simp
theorem run_need_family (hA : ∀ m ∈ all, m ∈ LN n) : m_need_family [.dat (.int n), .dat (fm all)] ω = (match famK [] all with | none => .ok (fm all) ω | some k => .exn "BadFamily" [("place", .int k)] ω) := by
  have r1 := run_need_many n (by omega) ω
  have r2 := run_family_fault hn all ha ω hA
  cases h : famK [] all with
  | none =>
    rw [h] at r2
    simp [m_need_family, m_need_family_below, r1, r2, okT, truth]
  | some k =>
    rw [h] at r2
    simp [m_need_family, m_need_family_below, r1, r2, okT, truth, itemD, L2.atI, L2.ixN]
end
/-! ### the law's look -/
theorem LN_sets {n : Nat} (hn : 1 ≤ n ∧ n ≤ 5) : ∀ l ∈ LN n, setSort (tp l) = some (.list (l.map PyData.int)) := by
  refine List.map_inj_left.mp ?_
  rcases five hn with rfl | rfl | rfl | rfl | rfl <;> kernel_rfl
theorem eqD_lst (a b : List Int) : eqD (.list (a.map PyData.int)) (.list (b.map PyData.int)) = some (decide (a = b)) := by
  show (if okD (.list (a.map PyData.int)) && okD (.list (b.map PyData.int)) then some (PyData.eqvAll (a.map PyData.int) (b.map PyData.int)) else none) = _
  rw [ok_lst, ok_lst, eqvAll_ints]
  rfl
/-- no earlier one within it, or it within an earlier one -/
def clear (a l : List Int) : Bool := !inL a l && !inL l a
section
variable {n : Nat} (hn : 1 ≤ n ∧ n ≤ 5) (all : List (List Int)) (ha : all.length ≤ 1000) (ω : Om)
include hn ha
theorem dueB2_rel (pre rest : List (List Int)) (l : List Int) (hp : ∀ m ∈ pre, m ∈ LN n) (hl : l ∈ LN n) (e : all = pre ++ l :: rest) (x4 : Option Ent) :
    cmpM .NotEq (listM (seqM (eCut (eV 1) oN (intM (eV 2)))) [4, 5] (setD 5) (orM (truM (callE m__law_within (consH (nameH 5) (consH (nameH 3) hN)))) (truM (callE m__law_within (consH (nameH 3) (consH (nameH 5) hN))))) (eK (.int 1))) (eLst aN) [some (.dat (.int n)), some (.dat (fm all)), some (.dat (.int (pre.length : Nat))), some (.dat (tp l)), none, none] ω = .ok (!pre.all fun a => clear a l) ω := by
  have h5 : ∀ m ∈ LN n, m.length ≤ 1000 := fun m h => Nat.le_trans ((LN_le hn).2 m h) (by decide)
  have h0 : (0 : Nat) ≤ line := by decide
  have hpl : pre.length ≤ line := by
    rw [e, List.length_append] at ha
    exact Nat.le_trans (show pre.length ≤ 1000 by omega) (by decide)
  have ec : cutD (fm all) none (some ((pre.length : Nat) : Int)) = some (.tuple (pre.map tp)) := by
    rw [e]
    show some (PyData.tuple (cutL ((pre ++ l :: rest).map tp) none (some ((pre.length : Nat) : Int)))) = _
    have e2 := cut_pre (pre.map tp) ((l :: rest).map tp)
    rw [← List.map_append, List.length_map] at e2
    rw [e2]
  have e1 := listM_map (fi := seqM (eCut (eV 1) oN (intM (eV 2)))) (vs := [4, 5]) (g := setD 5) (ft := orM (truM (callE m__law_within (consH (nameH 5) (consH (nameH 3) hN)))) (truM (callE m__law_within (consH (nameH 3) (consH (nameH 5) hN))))) (fe := eK (.int 1)) (ρ := [some (.dat (.int n)), some (.dat (fm all)), some (.dat (.int (pre.length : Nat))), some (.dat (tp l)), none, none]) (ω := ω) (ys := pre) tp (fun a => !clear a l) (fun m => .int 1)
    (by simp [ec, itemsD, hpl])
    (fun m h => ⟨_, rfl, by
      have r1 := run_law_within m l (h5 m (hp m h)) ω
      have r2 := run_law_within l m (h5 l hl) ω
      unfold clear
      cases h2 : inL m l <;> cases h3 : inL l m <;> simp [wipeR, r1, r2, h2, h3, okT, truth], fun _ => by simp⟩)
  have eo : ((pre.filter fun a => !clear a l).map fun _ => PyData.int 1) = ((pre.filter fun a => !clear a l).map fun _ => (1 : Int)).map PyData.int := by rw [List.map_map]; rfl
  rw [eo] at e1
  have en := eqD_nil ((pre.filter fun a => !clear a l).map fun _ => (1 : Int))
  have ef : ((pre.filter fun a => !clear a l).map fun _ => (1 : Int)).isEmpty = pre.all fun a => clear a l := by
    rw [List.isEmpty_map]
    cases h : pre.filter fun a => !clear a l with
    | nil =>
      have : (pre.all fun a => clear a l) = true := by
        rw [List.all_eq_true]
        intro a haa
        have := List.filter_eq_nil_iff.mp h a haa
        simpa using this
      rw [this]; rfl
    | cons x xs =>
      have hx : x ∈ pre.filter fun a => !clear a l := by rw [h]; simp
      have h3 := List.mem_filter.mp hx
      have : (pre.all fun a => clear a l) = false := by
        rw [List.all_eq_false]
        exact ⟨x, h3.1, by simpa using h3.2⟩
      rw [this]; rfl
  rw [ef] at en
  clear ef eo
  generalize ((pre.filter fun a => !clear a l).map fun _ => (1 : Int)) = ys at e1 en
  simp [e1, cmpD, en, h0]
end
def lastLt (pre : List (List Int)) (l : List Int) : Bool := match pre.getLast? with | none => true | some q => ltL q l
theorem apart_eq {pre : List (List Int)} {l : List Int} (hc : pre.Pairwise fun a b => ltL a b = true) : (pre.all fun a => apart a l) = (lastLt pre l && pre.all fun a => clear a l) := by
  rw [Bool.eq_iff_iff, Bool.and_eq_true, List.all_eq_true, List.all_eq_true]
  unfold lastLt
  constructor
  · intro h
    refine ⟨?_, fun a ha => ?_⟩
    · cases e : pre.getLast? with
      | none => rfl
      | some q =>
        have hq : q ∈ pre := List.mem_of_getLast? e
        have := h q hq
        unfold apart at this
        rw [Bool.and_eq_true] at this
        exact this.1
    · have := h a ha
      unfold apart at this
      rw [Bool.and_eq_true] at this
      exact this.2
  · rintro ⟨h1, h2⟩ a ha
    unfold apart
    rw [Bool.and_eq_true]
    refine ⟨?_, h2 a ha⟩
    cases e : pre.getLast? with
    | none =>
      rw [List.getLast?_eq_none_iff] at e
      rw [e] at ha
      cases ha
    | some q =>
      rw [e] at h1
      obtain ⟨ys, rfl⟩ := List.getLast?_eq_some_iff.mp e
      rcases List.mem_append.mp ha with h | h
      · have := (List.pairwise_append.mp hc).2.2 a h q (by simp)
        exact ltL_trans this h1
      · rw [List.mem_singleton.mp h]; exact h1
end Q

set_option maxHeartbeats 4000000
namespace Q
open PySem L2 LamX
theorem at_pre (p : List PyData) (q : PyData) (rest : List PyData) : L2.atI ((p ++ [q]) ++ rest) (((p.length + 1 : Nat) : Int) - 1) = some q := by
  unfold L2.atI L2.ixN
  rw [if_pos (by omega), if_pos (by simp only [List.length_append, List.length_singleton]; omega)]
  show ((p ++ [q]) ++ rest)[(((p.length + 1 : Nat) : Int) - 1).toNat]? = _
  have e : (((p.length + 1 : Nat) : Int) - 1).toNat = p.length := by omega
  rw [e]
  simp
section
variable {n : Nat} (hn : 1 ≤ n ∧ n ≤ 5) (all : List (List Int)) (ha : all.length ≤ 1000) (ω : Om)
include hn ha
end
end Q

set_option maxHeartbeats 4000000
namespace Q
open PySem L2 LamX
/-! ### lots each once, ascending -/
theorem LN_asc {n : Nat} (hn : 1 ≤ n ∧ n ≤ 5) : (LN n).Pairwise fun a b => ltL a b = true := by
  rcases five hn with rfl | rfl | rfl | rfl | rfl <;> decide +kernel
theorem ltL_irr (a : List Int) : ltL a a = false := (PyProof.Rows.listOrd PyProof.Rows.itemOrd).irrefl _
theorem le_of_lt {a b : List Int} (h : ltL a b = true) : PySem.W.dataLe false id (tp a) (tp b) = true := by
  have : PySem.W.dataLt (tp b) (tp a) = false := by
    rw [Bool.eq_false_iff]
    intro z
    have q := ltL_trans h z
    rw [ltL_irr] at q
    cases q
  simpa [PySem.W.dataLe_eq] using this
/-- some lots, told by what is among them, in the turn of all -/
def among (n : Nat) (p : List Int → Bool) : List (List Int) := (LN n).filter p
theorem tp_inj {a b : List Int} (h : tp a = tp b) : a = b := ints_inj (PyData.tuple.inj h)
theorem AllAlike_tp (xs : List (List Int)) : PySem.W.AllAlike (xs.map tp) := fun a ha b hb => by
  obtain ⟨q, _, rfl⟩ := List.mem_map.mp ha
  obtain ⟨r, _, rfl⟩ := List.mem_map.mp hb
  exact alike_tp q r
theorem setSort_lots {n : Nat} (hn : 1 ≤ n ∧ n ≤ 5) {xs : List (List Int)} (h : ∀ l ∈ xs, l ∈ LN n) (hz : xs.length < 64) : setSort (.list (xs.map tp)) = some (.list (((LN n).filter (hasL xs)).map tp)) := by
  have e1 : (xs.map tp).all isNumT = true := by
    rw [List.all_eq_true]
    intro d hd
    obtain ⟨l, _, rfl⟩ := List.mem_map.mp hd
    show (l.map PyData.int).all isNum = true
    rw [List.all_eq_true]
    intro i hi
    obtain ⟨k, _, rfl⟩ := List.mem_map.mp hi
    rfl
  have e2 : decide ((xs.map tp).length < 64) = true := by rw [List.length_map]; exact decide_eq_true hz
  show (if ((xs.map tp).all isNumT || (xs.map tp).all isNum) && decide ((xs.map tp).length < 64) then some (PyData.list (QS.sortL (once (xs.map tp)))) else none) = _
  rw [e1, e2, Bool.true_or]
  show some (PyData.list _) = _
  congr 2
  have s1 := once_sort (ds := xs.map tp) (ys := ((LN n).filter (hasL xs)).map tp) (AllAlike_tp xs) (fun d hd => by
    obtain ⟨l, _, rfl⟩ := List.mem_map.mp hd
    exact eqv_numT l) (by
    refine List.Pairwise.map _ (fun a b (hab : a ≠ b) z => hab (tp_inj z)) ?_
    exact (LN_nodup hn).filter _) (fun d hd => by
    obtain ⟨l, hl, rfl⟩ := List.mem_map.mp hd
    exact List.mem_map.mpr ⟨l, hasL_mem.mp (List.mem_filter.mp hl).2, rfl⟩) (fun d hd => by
    obtain ⟨l, hl, rfl⟩ := List.mem_map.mp hd
    exact List.mem_map.mpr ⟨l, List.mem_filter.mpr ⟨h l hl, hasL_mem.mpr hl⟩, rfl⟩)
  rw [← s1]
  refine (QS.sorted_one (AllAlike_tp _) (.refl _) (List.pairwise_map.mpr ?_)).symm
  exact ((LN_asc hn).filter _).imp fun h => le_of_lt h
/-- those of some lots that have no other one within them -/
def leastL (n : Nat) (xs : List (List Int)) : List (List Int) := (LN n).filter fun l => hasL xs l && !under xs l
theorem bare_sub {n : Nat} {xs : List (List Int)} : ∀ l ∈ leastL n xs, l ∈ LN n ∧ l ∈ xs := fun l h => by
  obtain ⟨h1, h2⟩ := List.mem_filter.mp h
  rw [Bool.and_eq_true] at h2
  exact ⟨h1, hasL_mem.mp h2.1⟩
theorem under_congr {xs ys : List (List Int)} (h : ∀ m, m ∈ xs ↔ m ∈ ys) (l : List Int) : under xs l = under ys l := by
  unfold under
  rw [Bool.eq_iff_iff, List.any_eq_true, List.any_eq_true]
  exact ⟨fun ⟨m, h1, h2⟩ => ⟨m, (h m).mp h1, h2⟩, fun ⟨m, h1, h2⟩ => ⟨m, (h m).mpr h1, h2⟩⟩
theorem run_law_bare {n : Nat} (hn : 1 ≤ n ∧ n ≤ 5) {xs : List (List Int)} (h : ∀ l ∈ xs, l ∈ LN n) (hz : xs.length < 64) (ω : Om) : m__law_bare [.dat (.list (xs.map tp))] ω = .ok (fm (leastL n xs)) ω := by
  have hL := LN_le hn
  have h0 : (0 : Nat) ≤ line := by decide
  obtain ⟨S, hS⟩ : ∃ S, S = (LN n).filter (hasL xs) := ⟨_, rfl⟩
  have hSL : ∀ l ∈ S, l ∈ LN n := fun l q => by rw [hS] at q; exact (List.mem_filter.mp q).1
  have hSz : S.length ≤ line := by rw [hS]; exact Nat.le_trans (List.length_filter_le _ _) (Nat.le_trans hL.1 (by decide))
  have e0 := setSort_lots hn h hz
  rw [← hS] at e0
  have inner : ∀ l ∈ S, ∀ ω : Om, listM (seqM (eV 1)) [2, 4] (setD 4) (andM (cmpM .NotEq (eV 4) (eV 3)) (truM (callE m__law_within (consH (nameH 4) (consH (nameH 3) hN))))) (eK (.int 1))
      [some (.dat (.list (xs.map tp))), some (.dat (.list (S.map tp))), none, some (.dat (tp l)), none] ω = .ok (.list (((S.filter fun m => neL m l && inL m l).map fun _ => (1 : Int)).map PyData.int)) ω := fun l q ω => by
    have e := listM_map (fi := seqM (eV 1)) (vs := [2, 4]) (g := setD 4) (ft := andM (cmpM .NotEq (eV 4) (eV 3)) (truM (callE m__law_within (consH (nameH 4) (consH (nameH 3) hN))))) (fe := eK (.int 1))
      (ρ := [some (.dat (.list (xs.map tp))), some (.dat (.list (S.map tp))), none, some (.dat (tp l)), none]) (ω := ω) (ys := S) tp (fun m => neL m l && inL m l) (fun _ => .int 1)
      (by simp [itemsD, hSz])
      (fun m hm => ⟨_, rfl, by
        have r := run_law_within m l (Nat.le_trans (hL.2 m (hSL m hm)) (by decide)) ω
        cases hb : neL m l <;> simp [wipeR, neD_tp, hb, r, okT, truth], fun _ => by simp⟩)
    rw [e, List.map_map]
    rfl
  have e4 := listM_map (fi := seqM (eV 1)) (vs := [2, 3]) (g := setD 3) (ft := cmpM .Eq (listM (seqM (eV 1)) [2, 4] (setD 4) (andM (cmpM .NotEq (eV 4) (eV 3)) (truM (callE m__law_within (consH (nameH 4) (consH (nameH 3) hN))))) (eK (.int 1))) (eLst aN)) (fe := eV 3)
    (ρ := [some (.dat (.list (xs.map tp))), some (.dat (.list (S.map tp))), none, none, none]) (ω := ω) (ys := S) tp (fun l => !under S l) tp
    (by simp [itemsD, hSz])
    (fun l q => ⟨_, rfl, by
      have ei := inner l q ω
      have en := eqD_nil ((S.filter fun m => neL m l && inL m l).map fun _ => (1 : Int))
      have ef : ((S.filter fun m => neL m l && inL m l).map fun _ => (1 : Int)).isEmpty = !under S l := by
        rw [List.isEmpty_map]
        unfold under
        cases hh : S.filter fun m => neL m l && inL m l with
        | nil =>
          have : (S.any fun m => neL m l && inL m l) = false := by
            rw [List.any_eq_false]
            exact List.filter_eq_nil_iff.mp hh
          rw [this]; rfl
        | cons x xs =>
          have hx : x ∈ S.filter fun m => neL m l && inL m l := by rw [hh]; simp
          have h3 := List.mem_filter.mp hx
          have : (S.any fun m => neL m l && inL m l) = true := List.any_eq_true.mpr ⟨x, h3.1, h3.2⟩
          rw [this]; rfl
      rw [ef] at en
      clear ef
      generalize ((S.filter fun m => neL m l && inL m l).map fun _ => (1 : Int)) = ys at ei en
      simp [wipeR, ei, cmpD, en, h0], fun _ => by simp [wipeR]⟩)
  have same : (S.filter fun l => !under S l) = leastL n xs := by
    rw [hS, List.filter_filter]
    refine List.filter_congr fun l _ => ?_
    rw [under_congr (xs := (LN n).filter (hasL xs)) (ys := xs) (fun m => ⟨fun q => hasL_mem.mp (List.mem_filter.mp q).2, fun q => List.mem_filter.mpr ⟨h m q, hasL_mem.mpr q⟩⟩)]
    cases hasL xs l <;> cases under xs l <;> rfl
  rw [same] at e4
  have fl : ∀ ds, flat (.list ds) = false := fun _ => rfl
  simp [m__law_bare, e0, fl, e4, tupleF, fm]
/-! ### the least ones, by both -/
theorem inL_refl (l : List Int) : inL l l = true := inL_iff.mpr fun _ h => h
theorem inL_trans {a b c : List Int} (h1 : inL a b = true) (h2 : inL b c = true) : inL a c = true := inL_iff.mpr fun i h => inL_iff.mp h2 i (inL_iff.mp h1 i h)
theorem overF_iff {F : List (List Int)} {l : List Int} : overF F l = true ↔ ∃ m ∈ F, inL m l = true := by
  unfold overF
  rw [List.any_eq_true]
theorem least_bare {n : Nat} (hn : 1 ≤ n ∧ n ≤ 5) {xs : List (List Int)} (h : ∀ l ∈ xs, l ∈ LN n) :
    (((LN n).filter (overF xs)).filter fun l => !overB ((LN n).filter (overF xs)) l) = leastL n xs := by
  unfold leastL
  rw [List.filter_filter]
  refine List.filter_congr fun l hl => ?_
  have aB : overB ((LN n).filter (overF xs)) l = true ↔ ∃ i ∈ l, overF xs (dropI l i) = true := by
    unfold overB
    rw [List.any_eq_true]
    constructor
    · rintro ⟨i, hi, q⟩
      exact ⟨i, hi, (List.mem_filter.mp (hasL_mem.mp q)).2⟩
    · rintro ⟨i, hi, q⟩
      exact ⟨i, hi, hasL_mem.mpr (List.mem_filter.mpr ⟨LN_less hn l hl i hi, q⟩)⟩
  have aU : under xs l = true ↔ ∃ m ∈ xs, m ≠ l ∧ inL m l = true := by
    unfold under
    rw [List.any_eq_true]
    constructor
    · rintro ⟨m, hm, q⟩
      rw [Bool.and_eq_true] at q
      refine ⟨m, hm, fun z => ?_, q.2⟩
      have := q.1
      unfold neL at this
      rw [decide_eq_true z] at this
      cases this
    · rintro ⟨m, hm, ne, q⟩
      refine ⟨m, hm, ?_⟩
      rw [Bool.and_eq_true]
      refine ⟨?_, q⟩
      unfold neL
      rw [decide_eq_false ne]
      rfl
  have step : (∃ i ∈ l, overF xs (dropI l i) = true) ↔ ∃ m ∈ xs, m ≠ l ∧ inL m l = true := by
    constructor
    · rintro ⟨i, hi, q⟩
      obtain ⟨m, hm, hs⟩ := overF_iff.mp q
      refine ⟨m, hm, fun z => ?_, inL_iff.mpr fun j hj => (mem_dropI.mp (inL_iff.mp hs j hj)).1⟩
      subst z
      exact (mem_dropI.mp (inL_iff.mp hs i hi)).2 rfl
    · rintro ⟨m, hm, ne, q⟩
      obtain ⟨i, hi, hs⟩ := LN_sub hn l hl m (h m hm) ne q
      exact ⟨i, hi, overF_iff.mpr ⟨m, hm, hs⟩⟩
  rw [Bool.eq_iff_iff, Bool.and_eq_true, Bool.and_eq_true, Bool.not_eq_true', Bool.not_eq_true']
  rw [Bool.eq_false_iff, Bool.eq_false_iff, Ne, Ne, aB, aU, step]
  constructor
  · rintro ⟨h1, h2⟩
    refine ⟨?_, h1⟩
    obtain ⟨m, hm, q⟩ := overF_iff.mp h2
    by_cases z : m = l
    · rw [← z]; exact hasL_mem.mpr hm
    · exact absurd ⟨m, hm, z, q⟩ h1
  · rintro ⟨h1, h2⟩
    exact ⟨h2, overF_iff.mpr ⟨l, hasL_mem.mp h1, inL_refl l⟩⟩
theorem over_bare {n : Nat} (hn : 1 ≤ n ∧ n ≤ 5) {F : List (List Int)} : ∀ l, overF ((LN n).filter (overF F)) l = true → overF F l = true := fun l h => by
  obtain ⟨m, hm, q⟩ := overF_iff.mp h
  obtain ⟨k, hk, q2⟩ := overF_iff.mp (List.mem_filter.mp hm).2
  exact overF_iff.mpr ⟨k, hk, inL_trans q2 q⟩
/-- the family of all lots in a family -/
theorem bare_own {n : Nat} (hn : 1 ≤ n ∧ n ≤ 5) {F : List (List Int)} (h : ∀ l ∈ F, l ∈ LN n) : leastL n ((LN n).filter (overF F)) = leastL n F := by
  rw [← least_bare hn (xs := (LN n).filter (overF F)) (fun l q => (List.mem_filter.mp q).1), ← least_bare hn h]
  have e : (LN n).filter (overF ((LN n).filter (overF F))) = (LN n).filter (overF F) := List.filter_congr fun l hl => by
    rw [Bool.eq_iff_iff]
    refine ⟨over_bare hn l, fun q => ?_⟩
    exact overF_iff.mpr ⟨l, List.mem_filter.mpr ⟨hl, q⟩, inL_refl l⟩
  rw [e]
theorem bare_bare {n : Nat} {xs : List (List Int)} : leastL n (leastL n xs) = leastL n xs := by
  have k : ∀ l ∈ leastL n xs, under (leastL n xs) l = false := fun l hl => by
    rw [Bool.eq_false_iff]
    intro z
    unfold under at z
    obtain ⟨m, hm, q⟩ := List.any_eq_true.mp z
    have h2 := (List.mem_filter.mp hl).2
    rw [Bool.and_eq_true, Bool.not_eq_true'] at h2
    have : under xs l = true := by
      unfold under
      exact List.any_eq_true.mpr ⟨m, (bare_sub m hm).2, q⟩
    rw [h2.2] at this
    cases this
  show (LN n).filter _ = (LN n).filter _
  refine List.filter_congr fun l hl => ?_
  cases hb : hasL xs l && !under xs l with
  | true =>
    have hm : l ∈ leastL n xs := List.mem_filter.mpr ⟨hl, hb⟩
    rw [hasL_mem.mpr hm, k l hm]
    rfl
  | false =>
    have : hasL (leastL n xs) l = false := by
      rw [Bool.eq_false_iff]
      intro z
      have := (List.mem_filter.mp (hasL_mem.mp z)).2
      rw [hb] at this
      cases this
    rw [this]
    rfl
/-- what is bare is a family -/
theorem famK_none {F : List (List Int)} : ∀ {pre : List (List Int)}, (pre ++ F).Pairwise (fun a b => apart a b = true) → famK pre F = none := by
  induction F with
  | nil => intro pre _; rfl
  | cons l F ih =>
    intro pre h
    unfold famK
    have e : pre ++ l :: F = (pre ++ [l]) ++ F := by simp
    have : (pre.all fun a => apart a l) = true := by
      rw [List.all_eq_true]
      intro a ha
      exact (List.pairwise_append.mp h).2.2 a ha l (by simp)
    rw [this, if_pos rfl]
    exact ih (by rw [← e]; exact h)
theorem bare_family {n : Nat} (hn : 1 ≤ n ∧ n ≤ 5) (xs : List (List Int)) : famK [] (leastL n xs) = none := by
  refine famK_none ?_
  rw [List.nil_append]
  have p1 : (leastL n xs).Pairwise fun a b => ltL a b = true := (LN_asc hn).filter _
  refine p1.imp_of_mem fun {a b} ha hb h => ?_
  have ne : a ≠ b := fun z => by
    rw [z, ltL_irr] at h
    cases h
  have no : ∀ {x y : List Int}, x ∈ leastL n xs → y ∈ leastL n xs → x ≠ y → inL x y = false := fun {x y} hx hy q => by
    rw [Bool.eq_false_iff]
    intro z
    have h2 := (List.mem_filter.mp hy).2
    rw [Bool.and_eq_true, Bool.not_eq_true'] at h2
    have : under xs y = true := by
      unfold under
      refine List.any_eq_true.mpr ⟨x, (bare_sub x hx).2, ?_⟩
      unfold neL
      rw [decide_eq_false q, z]
      rfl
    rw [h2.2] at this
    cases this
  unfold apart
  rw [h, no ha hb ne, no hb ha fun z => ne z.symm]
  rfl
end Q

set_option maxHeartbeats 4000000
namespace Q
open PySem L2 LamX
/-! ### a family with something otherwise -/
def oddN (n : Nat) : List PyData := [.none, .int 0, .str "()", .dict [], .tuple [.none], .tuple [.list [.int 0]], .tuple [.tuple [.int 0, .int 0]], .tuple [.tuple [.int n]], .tuple [.tuple [], .tuple []], .tuple [.tuple [.bool true]], .tuple [.tuple [.int 1, .int 0]]]
/-! ### what is done with families -/
theorem cut_fm (F : List (List Int)) (lo hi : Option Int) : cutD (fm F) lo hi = some (fm (cutL F lo hi)) := by
  show some (PyData.tuple (cutL (F.map tp) lo hi)) = some (.tuple ((cutL F lo hi).map tp))
  unfold cutL
  rw [List.length_map, ← List.map_drop, ← List.map_take]
theorem add_fm {F G : List (List Int)} (h : F.length + G.length ≤ 1000) : binD .Add (fm F) (fm G) = some (fm (F ++ G)) := by
  show (if (F.map tp).length + (G.map tp).length ≤ line then some (PyData.tuple (F.map tp ++ G.map tp)) else none) = _
  rw [List.length_map, List.length_map, if_pos (Nat.le_trans h (by decide)), ← List.map_append]
  rfl
theorem back_fm (F : List (List Int)) : backD (fm F) = some (fm F.reverse) := by
  show some (PyData.tuple (F.map tp).reverse) = some (.tuple (F.reverse.map tp))
  rw [List.map_reverse]
theorem lst_fm (F : List (List Int)) : listF [fm F] = some (.list (F.map tp)) := rfl
theorem len_fm (F : List (List Int)) : lenF [fm F] = some (.int (F.length : Nat)) := by
  show some (PyData.int _) = _
  rw [List.length_map]
theorem of_map {zs : List PyData} {xs : List (List Int)} (h : ∀ z ∈ zs, z ∈ xs.map tp) : ∃ ys : List (List Int), zs = ys.map tp ∧ ∀ y ∈ ys, y ∈ xs := by
  induction zs with
  | nil => exact ⟨[], rfl, fun _ h => nomatch h⟩
  | cons z zs ih =>
    obtain ⟨ys, e, m⟩ := ih fun y hy => h y (by simp [hy])
    obtain ⟨y, hy, e2⟩ := List.mem_map.mp (h z (by simp))
    refine ⟨y :: ys, by rw [e, ← e2]; rfl, fun x hx => ?_⟩
    rcases List.mem_cons.mp hx with q | q
    · rw [q]; exact hy
    · exact m x q
theorem noDict_ints : ∀ l : List Int, PyData.hasDictAll (l.map PyData.int) = false
  | [] => rfl
  | i :: l => by
    simp only [List.map_cons, PyData.hasDictAll, PyData.hasDict, noDict_ints l, Bool.or_self]
theorem sort_fm {xs : List (List Int)} (hx : xs.length ≤ 1000) : ∃ ys : List (List Int), sortF [fm xs] = some (.list (ys.map tp)) ∧ (∀ y ∈ ys, y ∈ xs) ∧ ys.length = xs.length := by
  have ok : okSort (xs.map tp) = true := by
    unfold okSort
    rw [Bool.and_eq_true, Bool.and_eq_true, Bool.and_eq_true]
    refine ⟨⟨⟨?_, ?_⟩, ?_⟩, ?_⟩
    · rw [List.all_eq_true]
      intro a ha
      rw [List.all_eq_true]
      intro b hb
      exact AllAlike_tp xs a ha b hb
    · rw [Bool.or_eq_true, List.all_eq_true]
      refine .inl fun a ha => ?_
      obtain ⟨l, _, rfl⟩ := List.mem_map.mp ha
      rfl
    · rw [List.all_eq_true]
      intro a ha
      obtain ⟨l, _, rfl⟩ := List.mem_map.mp ha
      have e1 : (tp l).hasDict = false := by
        show PyData.hasDict (.tuple _) = false
        simp only [PyData.hasDict]
        exact noDict_ints l
      have e2 : (tp l).depth ≤ 64 := by
        show PyData.depth (.tuple _) ≤ 64
        simp only [PyData.depth, depth_ints]
        omega
      rw [e1, decide_eq_true e2]
      rfl
    · rw [List.length_map]
      exact decide_eq_true (Nat.le_trans hx (by decide))
  obtain ⟨ys, e, m⟩ := of_map (zs := QS.sortL (xs.map tp)) (xs := xs) fun z hz => (QS.sortL_perm _).mem_iff.mp hz
  refine ⟨ys, ?_, m, ?_⟩
  · show (if okSort (xs.map tp) then some (PyData.list (QS.sortL (xs.map tp))) else none) = _
    rw [ok, e]
    rfl
  · have := (QS.sortL_perm (xs.map tp)).length_eq
    rw [e, List.length_map, List.length_map] at this
    exact this
end Q

set_option maxHeartbeats 4000000
namespace Q
open PySem L2 LamX
theorem len_lst (xs : List (List Int)) : lenF [.list (xs.map tp)] = some (.int (xs.length : Nat)) := by
  show some (PyData.int _) = _
  rw [List.length_map]
theorem flat_tp (l : List Int) : flat (tp l) = false := rfl
theorem flat_fm (F : List (List Int)) : flat (fm F) = false := rfl
theorem one_fm (l : List Int) : PyData.tuple [tp l] = fm [l] := rfl
theorem tup_fm (ys : List (List Int)) : tupleF [.list (ys.map tp)] = some (fm ys) := rfl
section
variable {n : Nat} (hn : 1 ≤ n ∧ n ≤ 5)
include hn
/-- a drawn family -/
theorem fams_go (share : Int) (hs : 2 ≤ share ∧ share ≤ 5) (x2 x4 : Option Ent) : ∀ (xs : List (List Int)) {b : Int} {ω : Om}, GoodM b ω → b + xs.length < 1048000 → ∃ (ys : List (List Int)) (ω' : Om),
    compM (setD 5) (andM (cmpM .NotEq (eV 5) (eTup aN)) (cmpM .Eq (callE m__law_draw (consH (nameH 0) (consH (nameH 3) hN))) (eK (.int 0)))) (eV 5) [some .mach, some (.dat (.int n)), x2, some (.dat (.int share)), none, none] (xs.map tp) ω = .ok (ys.map tp) ω' ∧ (∀ y ∈ ys, y ∈ xs) ∧ ys.length ≤ xs.length ∧ GoodM (b + xs.length) ω'
  | [], b, ω, g, _ => ⟨[], ω, rfl, (fun y h => nomatch h), Nat.le_refl _, by simpa using g⟩
  | x :: xs, b, ω, g, hb => by
    rw [List.length_cons] at hb
    have h0 : (0 : Nat) ≤ line := by decide
    have eb : b + ((x :: xs).length : Int) = b + 1 + (xs.length : Int) := by rw [List.length_cons]; omega
    have en : cmpD .NotEq (tp x) (.tuple []) = some (neL x []) := neD_tp x []
    cases hx : neL x [] with
    | false =>
      rw [hx] at en
      obtain ⟨ys, ω2, e2, m, hl, g2⟩ := fams_go share hs x2 x4 xs (g.mono (show b ≤ b + 1 by omega)) (by omega)
      refine ⟨ys, ω2, ?_, fun y h => by simp [m y h], by rw [List.length_cons]; omega, by rw [eb]; exact g2⟩
      rw [List.map_cons, compM]
      simp [setD, safe, h0, en, e2]
    | true =>
      rw [hx] at en
      obtain ⟨r, ω1, e1, hr, g1⟩ := draw_run g (lim := share) (by omega) (by omega) (by omega)
      obtain ⟨ys, ω2, e2, m, hl, g2⟩ := fams_go share hs x2 x4 xs g1 (by omega)
      by_cases hz : r = 0
      · subst hz
        refine ⟨x :: ys, ω2, ?_, fun y h => ?_, by rw [List.length_cons, List.length_cons]; omega, by rw [eb]; exact g2⟩
        · rw [List.map_cons, compM]
          have e0 : cmpD .Eq (.int 0) (.int 0) = some true := rfl
          simp [setD, safe, h0, en, e1, e0, e2]
        · rcases List.mem_cons.mp h with q | q
          · simp [q]
          · simp [m y q]
      · refine ⟨ys, ω2, ?_, fun y h => by simp [m y h], by rw [List.length_cons]; omega, by rw [eb]; exact g2⟩
        rw [List.map_cons, compM]
        have e0 : cmpD .Eq (.int r) (.int 0) = some false := by
          show eqD (.int r) (.int 0) = some false
          rw [eqD_int, decide_eq_false hz]
        simp [setD, safe, h0, en, e1, e0, e2]
theorem family_run {b : Int} {ω : Om} (g : GoodM b ω) (hb : b < 1000000) : ∃ (xs : List (List Int)) (ω' : Om), m__law_family [.mach, .dat (.int n)] ω = .ok (fm (leastL n xs)) ω' ∧ (∀ l ∈ xs, l ∈ LN n) ∧ xs.length < 64 ∧ GoodM (b + 40) ω' := by
  have h0 : (0 : Nat) ≤ line := by decide
  have h1 : (1 : Nat) ≤ line := by decide
  have h2 : (2 : Nat) ≤ line := by decide
  have hL := LN_le hn
  obtain ⟨way, ω1, e1, hw, g1⟩ := draw_run g (lim := 9) (by decide) (by omega) (by decide)
  by_cases w0 : way = 0
  · subst w0
    have z : leastL n [] = [] := List.filter_eq_nil_iff.mpr fun l _ => by simp [hasL]
    refine ⟨[], ω1, ?_, (fun l h => nomatch h), by decide, g1.mono (by omega)⟩
    rw [z]
    simp [m__law_family, e1, flat, cmpD, ltD, h0, h1, h2, itemD, at_0]
    rfl
  · by_cases w1 : way = 1
    · subst w1
      have z : leastL n [[]] = [[]] := by rcases five hn with rfl | rfl | rfl | rfl | rfl <;> decide +kernel
      have hm : ([] : List Int) ∈ LN n := by rcases five hn with rfl | rfl | rfl | rfl | rfl <;> decide +kernel
      refine ⟨[[]], ω1, ?_, fun l h => by rw [List.mem_singleton.mp h]; exact hm, by decide, g1.mono (by omega)⟩
      rw [z]
      simp [m__law_family, e1, flat, cmpD, ltD, h0, h1, h2, itemD, at_1]
      rfl
    · obtain ⟨r, ω2, e2, hr, g2⟩ := draw_run g1 (lim := 4) (by decide) (by omega) (by decide)
      have hl2 : ¬ way < 2 := by omega
      have e3 := run_law_lots hn ω2
      have hz : ((LN n).map tp).length ≤ line := by rw [List.length_map]; exact Nat.le_trans hL.1 (by decide)
      obtain ⟨ys, ω3, e4, m, hy, g3⟩ := fams_go hn (2 + r) (by omega) (some (.dat (.int way))) none (LN n) g2 (by have := hL.1; omega)
      have e5 := run_law_bare hn m (by have := hL.1; omega) ω3
      have eN : addN (.int 2) (.int r) = some (.inr (.int (2 + r))) := rfl
      refine ⟨ys, ω3, ?_, m, by have := hL.1; omega, g3.mono (by have := hL.1; omega)⟩
      generalize (LN n).map tp = A at e3 hz e4
      simp [m__law_family, e1, flat, cmpD, ltD, hl2, e2, eN, listM, e3, itemsD, hz, wipeR, e4, e5]
end
end Q

set_option maxHeartbeats 4000000
namespace Q
open PySem L2 LamX
@[simp] theorem x_eHof {FF : (List PyData → M PyData) → List Ent → M PyData} {as : Rho → M (List Ent)} {is : List Nat} {body : RE1} {ρ : Rho} {ω : Om} : eHof FF as is body ρ ω = (as ρ >>= fun ents => FF (lamF is body ρ) ents) ω := rfl
theorem famK_lt : ∀ {F pre : List (List Int)} {k : Nat}, famK pre F = some k → k < pre.length + F.length
  | [], _, _, h => nomatch h
  | l :: F, pre, k, h => by
    unfold famK at h
    rw [List.length_cons]
    split at h
    · have := famK_lt h
      rw [List.length_append, List.length_singleton] at this
      omega
    · have := Option.some.inj h
      omega
theorem fine_fm {n : Nat} (hn : 1 ≤ n ∧ n ≤ 5) {G : List (List Int)} (h : ∀ l ∈ G, l ∈ LN n) (hz : G.length ≤ 40) : Fine (fm G) 2 4803 := Fine.tuple (n := 40) (tps_fine hn h) (by rw [List.length_map]; exact hz)
theorem fine_famw : Fine (.str "family") 0 21 := ⟨rfl, rfl, Nat.le_refl _, by decide +kernel⟩
theorem one_fine {d : PyData} {dp sz : Nat} (h : Fine d dp sz) : Fine (.list [d]) (dp + 1) (1 * (sz + 2) + 3) := Fine.list (n := 1) (fun x hx => by
  rcases List.mem_cons.mp hx with rfl | hx
  · exact h
  · cases hx) (Nat.le_refl _)
theorem two_fine {d e : PyData} {dp sz : Nat} (h : Fine d dp sz) (h2 : Fine e dp sz) : Fine (.tuple [d, e]) (dp + 1) (2 * (sz + 2) + 3) := Fine.tuple (n := 2) (fun x hx => by
  rcases List.mem_cons.mp hx with rfl | hx
  · exact h
  · rcases List.mem_cons.mp hx with rfl | hx
    · exact h2
    · cases hx) (Nat.le_refl _)
theorem two_fineL {d e : PyData} {dp sz : Nat} (h : Fine d dp sz) (h2 : Fine e dp sz) : Fine (.list [d, e]) (dp + 1) (2 * (sz + 2) + 3) := Fine.list (n := 2) (fun x hx => by
  rcases List.mem_cons.mp hx with rfl | hx
  · exact h
  · rcases List.mem_cons.mp hx with rfl | hx
    · exact h2
    · cases hx) (Nat.le_refl _)
section
variable {n : Nat} (hn : 1 ≤ n ∧ n ≤ 5)
include hn
end
end Q

set_option maxHeartbeats 4000000
namespace Q
open PySem L2 LamX
/-! ### the family of some lots -/
theorem run_least_of_tup (xs : List (List Int)) (hx : xs.length ≤ 1000) (hl : ∀ l ∈ xs, l.length ≤ 1000) (nd : xs.Nodup) (ω : Om) : m_least_of_closed [.dat (fm xs)] ω = .ok (fm (xs.filter fun l => !overB xs l)) ω := by
  have hz : xs.length ≤ line := Nat.le_trans hx (by decide)
  have ed := dc_go [some (.dat (fm xs)), none, none, none, none] ω rfl xs [] (by simpa using nd) (by simpa using hx)
  have it : itemsD (fm xs) = some (xs.map tp) := rfl
  have edic : dictM (seqM (eV 0)) [2, 3] (setD 3) tY (eV 3) (eK (.bool true)) [some (.dat (fm xs)), none, none, none, none] ω = .ok (knownD xs) ω := by
    simp only [List.map_nil, List.nil_append] at ed
    simp [dictM, it, hz, wipeR, ed, knownD]
  have inner : ∀ l ∈ xs, listM (seqM (eV 3)) [2, 4] (setD 4) tY (callE m_is_known_without (consH (nameH 1) (consH (nameH 3) (consH (nameH 4) hN)))) [some (.dat (fm xs)), some (.dat (knownD xs)), none, some (.dat (tp l)), none] ω = .ok (.list (l.map fun i => PyData.bool (hasL xs (dropI l i)))) ω := fun l h => by
    have hz2 : l.length ≤ line := Nat.le_trans (hl l h) (by decide)
    have e := list_ints (fi := seqM (eV 3)) (vs := [2, 4]) (g := setD 4) (ft := tY) (fe := callE m_is_known_without (consH (nameH 1) (consH (nameH 3) (consH (nameH 4) hN)))) (ρ := [some (.dat (fm xs)), some (.dat (knownD xs)), none, some (.dat (tp l)), none]) (ω := ω) (l := l) (fun _ => true) (fun i => .bool (hasL xs (dropI l i)))
      (by simp [itemsD, tp, hz2])
      (fun i hi => ⟨_, rfl, by simp, fun _ => by simp [wipeR, run_known_without xs l i (hl l h)]⟩)
    rw [List.filter_eq_self.mpr fun _ _ => rfl] at e
    exact e
  have outer := list_lots (fi := seqM (eV 0)) (vs := [2, 3]) (g := setD 3) (ft := tNot (truM (eBlt anyF (aC (listM (seqM (eV 3)) [2, 4] (setD 4) tY (callE m_is_known_without (consH (nameH 1) (consH (nameH 3) (consH (nameH 4) hN))))) aN)))) (fe := eV 3) (ρ := [some (.dat (fm xs)), some (.dat (knownD xs)), none, none, none]) (ω := ω) (xs := xs) (fun l => !overB xs l) tp
    (by simp [it, hz])
    (fun l h => ⟨_, rfl, by simp [wipeR, inner l h, anyF_map, okT, truth, overB], fun _ => by simp [wipeR]⟩)
  have fl : flat (knownD xs) = false := rfl
  simp [m_least_of_closed, edic, fl, outer, tupleF]
  rfl
def needB : RF :=
    (seqS (ifM [0, 3] (truM (callE m_subset_fault (consH (nameH 0) (consH (nameH 3) hN))))
      (seqS (raiseM [2] "BadFamily" "place" (eV 2))
      sN)
      sN)
    sN)
section
variable {n : Nat} (hn : 1 ≤ n ∧ n ≤ 5) (all : PyData) (ω : Om)
include hn
theorem need_go : ∀ (pre : List (List Int)) (rest : List PyData) (k : Nat) (x2 x3 : Option Ent), (∀ m ∈ pre, m ∈ LN n) → ∃ y2 y3 : Option Ent,
    forM (tupG 2 (consG (setD 2) (consG (setD 3) nilG))) needB ((List.range' k (pre.length + rest.length)).zipWith (fun (i : Nat) d => PyData.tuple [.int i, d]) (pre.map tp ++ rest)) [some (.dat (.int n)), some (.dat all), x2, x3] ω =
    forM (tupG 2 (consG (setD 2) (consG (setD 3) nilG))) needB ((List.range' (k + pre.length) rest.length).zipWith (fun (i : Nat) d => PyData.tuple [.int i, d]) rest) [some (.dat (.int n)), some (.dat all), y2, y3] ω
  | [], rest, k, x2, x3, _ => ⟨x2, x3, by simp⟩
  | l :: pre, rest, k, x2, x3, h => by
    obtain ⟨y2, y3, ih⟩ := need_go pre rest (k + 1) (some (.dat (.int (k : Nat)))) (some (.dat (tp l))) fun m q => h m (by simp [q])
    refine ⟨y2, y3, ?_⟩
    have e1 : (l :: pre).length + rest.length = (pre.length + rest.length) + 1 := by rw [List.length_cons]; omega
    have e2 : k + (l :: pre).length = k + 1 + pre.length := by rw [List.length_cons]; omega
    rw [e1, e2, ← ih, List.range'_succ, List.map_cons, List.cons_append, List.zipWith_cons_cons, x_forM_cons]
    have r := run_subset_fault n (tp l) ω (tp_len (Nat.le_trans ((LN_le hn).2 l (h l (by simp))) (by decide)))
    rw [faultD_LN hn (h l (by simp))] at r
    simp [tupG, consG, nilG, setD, needB, r, okT, truth]
end
end Q

set_option maxHeartbeats 4000000
namespace Q
open PySem L2 LamX
/-! ### lots that have all greater ones with them -/
def Up (n : Nat) (p : List Int → Bool) : Prop := ∀ l ∈ LN n, ∀ m ∈ LN n, inL l m = true → p l = true → p m = true
section
variable {n : Nat} (hn : 1 ≤ n ∧ n ≤ 5)
include hn
theorem up_self {p : List Int → Bool} (h : Up n p) : (LN n).filter (overF ((LN n).filter p)) = (LN n).filter p := List.filter_congr fun l hl => by
  rw [Bool.eq_iff_iff]
  constructor
  · intro q
    obtain ⟨m, hm, hs⟩ := overF_iff.mp q
    obtain ⟨h1, h2⟩ := List.mem_filter.mp hm
    exact h m h1 l hl hs h2
  · intro q
    exact overF_iff.mpr ⟨l, List.mem_filter.mpr ⟨hl, q⟩, inL_refl l⟩
theorem up_over (F : List (List Int)) : Up n (overF F) := fun l _ m _ hs q => by
  obtain ⟨k, hk, h⟩ := overF_iff.mp q
  exact overF_iff.mpr ⟨k, hk, inL_trans h hs⟩
theorem LN_len : ∀ l ∈ LN n, ∀ m ∈ LN n, m ≠ l → inL m l = true → m.length < l.length := by
  rcases five hn with rfl | rfl | rfl | rfl | rfl <;> decide +kernel
theorem LN_rest : ∀ l ∈ LN n, restI n l ∈ LN n ∧ restI n (restI n l) = l := by
  rcases five hn with rfl | rfl | rfl | rfl | rfl <;> decide +kernel
theorem rest_sub {l m : List Int} (h : inL l m = true) : inL (restI n m) (restI n l) = true := inL_iff.mpr fun i hi => by
  obtain ⟨h1, h2⟩ := List.mem_filter.mp hi
  refine List.mem_filter.mpr ⟨h1, ?_⟩
  rw [Bool.not_eq_true'] at h2 ⊢
  rw [Bool.eq_false_iff] at h2 ⊢
  exact fun z => h2 (hasI_mem.mpr (inL_iff.mp h i (hasI_mem.mp z)))
/-- a least one lies within each -/
theorem least_below {xs : List (List Int)} (hx : ∀ l ∈ xs, l ∈ LN n) : ∀ (k : Nat) (l : List Int), l.length ≤ k → l ∈ xs → ∃ m ∈ leastL n xs, inL m l = true := by
  intro k
  induction k with
  | zero =>
    intro l hk hl
    cases hu : under xs l with
    | false => exact ⟨l, List.mem_filter.mpr ⟨hx l hl, by rw [hasL_mem.mpr hl, hu]; rfl⟩, inL_refl l⟩
    | true =>
      obtain ⟨m, hm, q⟩ := List.any_eq_true.mp hu
      rw [Bool.and_eq_true] at q
      have ne : m ≠ l := fun z => by have := q.1; unfold neL at this; rw [decide_eq_true z] at this; cases this
      have := LN_len hn l (hx l hl) m (hx m hm) ne q.2
      omega
  | succ k ih =>
    intro l hk hl
    cases hu : under xs l with
    | false => exact ⟨l, List.mem_filter.mpr ⟨hx l hl, by rw [hasL_mem.mpr hl, hu]; rfl⟩, inL_refl l⟩
    | true =>
      obtain ⟨m, hm, q⟩ := List.any_eq_true.mp hu
      rw [Bool.and_eq_true] at q
      have ne : m ≠ l := fun z => by have := q.1; unfold neL at this; rw [decide_eq_true z] at this; cases this
      have lt := LN_len hn l (hx l hl) m (hx m hm) ne q.2
      obtain ⟨m2, h2, s2⟩ := ih m (by omega) hm
      exact ⟨m2, h2, inL_trans s2 q.2⟩
/-- the least ones tell the same lots -/
theorem over_least {p : List Int → Bool} (h : Up n p) {l : List Int} (hl : l ∈ LN n) : overF (leastL n ((LN n).filter p)) l = p l := by
  rw [Bool.eq_iff_iff]
  constructor
  · intro q
    obtain ⟨m, hm, hs⟩ := overF_iff.mp q
    obtain ⟨h1, h2⟩ := bare_sub m hm
    exact h m h1 l hl hs (List.mem_filter.mp h2).2
  · intro q
    obtain ⟨m, hm, hs⟩ := least_below hn (xs := (LN n).filter p) (fun l q => (List.mem_filter.mp q).1) l.length l (Nat.le_refl _) (List.mem_filter.mpr ⟨hl, q⟩)
    exact overF_iff.mpr ⟨m, hm, hs⟩
theorem least_congr {p q : List Int → Bool} (h : ∀ l ∈ LN n, p l = q l) : leastL n ((LN n).filter p) = leastL n ((LN n).filter q) := by
  rw [List.filter_congr h]
/-- all that bar -/
def bars (n : Nat) (F : List (List Int)) (l : List Int) : Bool := !overF F (restI n l)
theorem up_bars (F : List (List Int)) : Up n (bars n F) := fun l hl m hm hs q => by
  unfold bars at q ⊢
  rw [Bool.not_eq_true'] at q ⊢
  rw [Bool.eq_false_iff] at q ⊢
  exact fun z => q (up_over hn F _ (LN_rest hn m hm).1 _ (LN_rest hn l hl).1 (rest_sub hn hs) z)
theorem up_and {p q : List Int → Bool} (hp : Up n p) (hq : Up n q) : Up n fun l => p l && q l := fun l hl m hm hs z => by
  rw [Bool.and_eq_true] at z ⊢
  exact ⟨hp l hl m hm hs z.1, hq l hl m hm hs z.2⟩
theorem up_or {p q : List Int → Bool} (hp : Up n p) (hq : Up n q) : Up n fun l => p l || q l := fun l hl m hm hs z => by
  rw [Bool.or_eq_true] at z ⊢
  exact z.imp (hp l hl m hm hs) (hq l hl m hm hs)
theorem few (p : List Int → Bool) : ((LN n).filter p).length ≤ 32 := Nat.le_trans (List.length_filter_le _ _) (LN_le hn).1
theorem sub_filter {p : List Int → Bool} : ∀ l ∈ (LN n).filter p, l ∈ LN n := fun l h => (List.mem_filter.mp h).1
/-- the least ones of lots with all greater ones, by the program -/
theorem run_least_up {p : List Int → Bool} (h : Up n p) (ω : Om) : m_least_of_closed [.dat (.list (((LN n).filter p).map tp))] ω = .ok (fm (leastL n ((LN n).filter p))) ω := by
  have hL := LN_le hn
  have r := run_least_of_closed ((LN n).filter p) (Nat.le_trans (few hn p) (by decide)) (fun l hl => Nat.le_trans (hL.2 l (sub_filter hn l hl)) (by decide)) ((LN_nodup hn).filter _) ω
  have b := least_bare hn (xs := (LN n).filter p) (sub_filter hn)
  rw [up_self hn h] at b
  rw [b] at r
  exact r
theorem run_least_upT {p : List Int → Bool} (h : Up n p) (ω : Om) : m_least_of_closed [.dat (fm ((LN n).filter p))] ω = .ok (fm (leastL n ((LN n).filter p))) ω := by
  have hL := LN_le hn
  have r := run_least_of_tup ((LN n).filter p) (Nat.le_trans (few hn p) (by decide)) (fun l hl => Nat.le_trans (hL.2 l (sub_filter hn l hl)) (by decide)) ((LN_nodup hn).filter _) ω
  have b := least_bare hn (xs := (LN n).filter p) (sub_filter hn)
  rw [up_self hn h] at b
  rw [b] at r
  exact r
end
/-- a family -/
structure Fam (n : Nat) (F : List (List Int)) : Prop where
  sub : ∀ l ∈ F, l ∈ LN n
  few : F.length ≤ 32
  fam : famK [] F = none
  least : leastL n F = F
theorem fam_least {n : Nat} (hn : 1 ≤ n ∧ n ≤ 5) (xs : List (List Int)) : Fam n (leastL n xs) :=
  ⟨fun l h => (bare_sub l h).1, Nat.le_trans (List.length_filter_le _ _) (LN_le hn).1, bare_family hn xs, bare_bare⟩
section
variable {n : Nat} (hn : 1 ≤ n ∧ n ≤ 5) {F G : List (List Int)} (hF : Fam n F) (hG : Fam n G) (ω : Om)
include hn
theorem lens {F : List (List Int)} (hF : ∀ l ∈ F, l ∈ LN n) : ∀ m ∈ F, m.length ≤ 1000 := fun m h => Nat.le_trans ((LN_le hn).2 m (hF m h)) (by decide)
include hF
theorem run_need_fam : m_need_family [.dat (.int n), .dat (fm F)] ω = .ok (fm F) ω := by
  have r := run_need_family hn F (by have := hF.few; omega) ω hF.sub
  rw [hF.fam] at r
  exact r
theorem run_need_fam_below : m_need_family_below [.dat (.int n), .dat (fm F)] ω = .ok (fm F) ω := by
  have r := run_family_fault hn F (by have := hF.few; omega) ω hF.sub
  rw [hF.fam] at r
  simp [m_need_family_below, r, okT, truth]
include hG
theorem over_app (l : List Int) : overF (F ++ G) l = (overF F l || overF G l) := by
  unfold overF
  rw [List.any_append]
end
end Q

set_option maxHeartbeats 4000000
namespace Q
open PySem L2 LamX
theorem one_le : (1 : Nat) ≤ line := by decide
/-! ### who matters, is needed, is enough -/
def matI (F : List (List Int)) (k : Int) : Bool := F.any fun m => hasI m k
def needI (F : List (List Int)) (k : Int) : Bool := F.all fun m => hasI m k
theorem rng_run {n : Nat} (hn : n ≤ 5) {ρ : Rho} {ω : Om} (h : ρ[0]? = some (some (.dat (.int n)))) : rng1M (aC (eV 0) aN) ρ ω = .ok ((numI n).map PyData.int) ω := by
  have h1 : ((n : Nat) : Int) ≤ 16777216 := by omega
  have h2 : -4611686018427387904 ≤ ((n : Nat) : Int) := by omega
  simp [rng1M, h, h1, h2, upD_num]
theorem sub_fine {n : Nat} (hn : n ≤ 5) (p : Int → Bool) : Fine (tp ((numI n).filter p)) 1 118 := Fine.tuple (n := 5) (Fine.ints fun i hi => by
  obtain ⟨h1, _⟩ := List.mem_filter.mp hi
  obtain ⟨j, hj, rfl⟩ := List.mem_map.mp h1
  have := List.mem_range.mp hj
  omega) (by
  rw [List.length_map]
  have := List.length_filter_le p (numI n)
  have h : (numI n).length = n := by unfold numI; rw [List.length_map, List.length_range]
  omega)
theorem inD_bools {α : Type} (xs : List α) (f : α → Bool) : inD (.bool false) (.list (xs.map fun x => PyData.bool (f x))) = some (xs.any fun x => !f x) := by
  obtain ⟨h1, h2⟩ := okL_of (xs := xs.map fun x => PyData.bool (f x)) (fun x hx => by
    obtain ⟨l, _, rfl⟩ := List.mem_map.mp hx
    rfl) (fun x hx => by
    obtain ⟨l, _, rfl⟩ := List.mem_map.mp hx
    exact Nat.zero_le _)
  have ok : okD (.list (xs.map fun x => PyData.bool (f x))) = true := by
    unfold okD SeqAt.shaped
    rw [Bool.and_eq_true]
    refine ⟨h1, decide_eq_true ?_⟩
    simp only [PyData.depth]
    omega
  show (if okD (.bool false) && okD (.list (xs.map fun x => PyData.bool (f x))) then some ((xs.map fun x => PyData.bool (f x)).any fun d => PyData.eqv d (.bool false)) else none) = _
  have o1 : okD (.bool false) = true := rfl
  rw [o1, ok, List.any_map]
  have e : ((fun d => PyData.eqv d (.bool false)) ∘ fun x => PyData.bool (f x)) = fun x => !f x := funext fun x => by
    show PyData.eqv (.bool (f x)) (.bool false) = _
    cases f x <;> rfl
  rw [e]
  rfl
theorem inD_lots (xs : List (List Int)) (l : List Int) : inD (tp l) (.list (xs.map tp)) = some (hasL xs l) := by
  have ok : okD (.list (xs.map tp)) = true := by
    obtain ⟨h1, h2⟩ := okL_of (xs := xs.map tp) (fun x hx => by
      obtain ⟨l, _, rfl⟩ := List.mem_map.mp hx
      exact ok_tup l) (fun x hx => by
      obtain ⟨l, _, rfl⟩ := List.mem_map.mp hx
      show PyData.depth (.tuple (l.map PyData.int)) ≤ 60
      simp only [PyData.depth, depth_ints]
      omega)
    unfold okD SeqAt.shaped
    rw [Bool.and_eq_true]
    refine ⟨h1, decide_eq_true ?_⟩
    simp only [PyData.depth]
    omega
  show (if okD (tp l) && okD (.list (xs.map tp)) then some ((xs.map tp).any fun d => PyData.eqv d (tp l)) else none) = _
  have o1 : okD (tp l) = true := ok_tup l
  rw [o1, ok, List.any_map]
  have e : ((fun d => PyData.eqv d (tp l)) ∘ tp) = fun m => decide (m = l) := funext fun m => eqvAll_ints m l
  rw [e]
  rfl
section
variable {n : Nat} (hn : 1 ≤ n ∧ n ≤ 5) {F G : List (List Int)} (hF : Fam n F) (ω : Om)
include hn hF
theorem who_inner (k : Int) : listM (seqM (eV 1)) [2, 4] (setD 4) tY (eCmp .In (eV 3) (eV 4)) [some (.dat (.int n)), some (.dat (fm F)), none, some (.dat (.int k)), none] ω = .ok (.list (F.map fun m => PyData.bool (hasI m k))) ω := by
  have hz : F.length ≤ line := Nat.le_trans hF.few (by decide)
  have e := listM_map (fi := seqM (eV 1)) (vs := [2, 4]) (g := setD 4) (ft := tY) (fe := eCmp .In (eV 3) (eV 4)) (ρ := [some (.dat (.int n)), some (.dat (fm F)), none, some (.dat (.int k)), none]) (ω := ω) (ys := F) tp (fun _ => true) (fun m => .bool (hasI m k))
    (by simp [itemsD, fm, hz])
    (fun m h => ⟨_, rfl, by simp, fun _ => by simp [wipeR, cmpD, inD_tp]⟩)
  rw [List.filter_eq_self.mpr fun _ _ => rfl] at e
  exact e
/-! what the law looks at -/
theorem own_self {m : List Int} (h : m ∈ F) : m ∈ (LN n).filter (overF F) := List.mem_filter.mpr ⟨hF.sub m h, overF_iff.mpr ⟨m, h, inL_refl m⟩⟩
theorem mat_eq (k : Int) : (((LN n).filter (overF F)).any fun l => !overF F (dropI l k)) = matI F k := by
  rw [Bool.eq_iff_iff]
  constructor
  · intro q
    obtain ⟨l, hl, z⟩ := List.any_eq_true.mp q
    obtain ⟨h1, h2⟩ := List.mem_filter.mp hl
    obtain ⟨m, hm, s⟩ := overF_iff.mp h2
    rw [Bool.not_eq_true'] at z
    refine List.any_eq_true.mpr ⟨m, hm, ?_⟩
    cases hk : hasI m k with
    | true => rfl
    | false =>
      have : overF F (dropI l k) = true := overF_iff.mpr ⟨m, hm, inL_iff.mpr fun i hi => mem_dropI.mpr ⟨inL_iff.mp s i hi, fun e => by
        rw [e] at hi
        rw [hasI_mem.mpr hi] at hk
        cases hk⟩⟩
      rw [this] at z
      cases z
  · intro q
    obtain ⟨m, hm, hk⟩ := List.any_eq_true.mp q
    refine List.any_eq_true.mpr ⟨m, own_self hn hF hm, ?_⟩
    rw [Bool.not_eq_true', Bool.eq_false_iff]
    intro z
    obtain ⟨m2, h2, s⟩ := overF_iff.mp z
    have s' : inL m2 m = true := inL_iff.mpr fun i hi => (mem_dropI.mp (inL_iff.mp s i hi)).1
    have hne : neL m m2 = true := by
      unfold neL
      rw [Bool.not_eq_true', decide_eq_false_iff_not]
      intro e
      rw [← e] at s
      exact (mem_dropI.mp (inL_iff.mp s k (hasI_mem.mp hk))).2 rfl
    have hne' : neL m2 m = true := by
      unfold neL at hne ⊢
      rw [Bool.not_eq_true', decide_eq_false_iff_not] at hne ⊢
      exact fun e => hne e.symm
    have hu : under F m = false := by
      have hl := hF.least
      have hm' := hm
      rw [← hl] at hm'
      have := (List.mem_filter.mp hm').2
      rw [Bool.and_eq_true, Bool.not_eq_true'] at this
      exact this.2
    have : under F m = true := by
      unfold under
      refine List.any_eq_true.mpr ⟨m2, h2, ?_⟩
      rw [Bool.and_eq_true]
      exact ⟨by first | exact hne | exact hne', s'⟩
    rw [hu] at this
    cases this
theorem need_eq (k : Int) : (((LN n).filter (overF F)).filter fun l => !hasI l k).isEmpty = needI F k := by
  rw [Bool.eq_iff_iff, List.isEmpty_iff, List.filter_eq_nil_iff]
  constructor
  · intro q
    refine List.all_eq_true.mpr fun m hm => ?_
    have := q m (own_self hn hF hm)
    cases h : hasI m k with
    | true => rfl
    | false => rw [h] at this; exact absurd rfl this
  · intro q l hl z
    obtain ⟨m, hm, s⟩ := overF_iff.mp (List.mem_filter.mp hl).2
    have h1 := List.all_eq_true.mp q m hm
    have h2 := hasI_mem.mpr (inL_iff.mp s k (hasI_mem.mp h1))
    rw [h2] at z
    cases z
theorem one_LN : ∀ k ∈ numI n, [k] ∈ LN n := by
  rcases five hn with rfl | rfl | rfl | rfl | rfl <;> decide +kernel
theorem en_eq {k : Int} (hk : k ∈ numI n) : hasL ((LN n).filter (overF F)) [k] = overF F [k] := by
  rw [Bool.eq_iff_iff, hasL_mem, List.mem_filter]
  exact ⟨fun h => h.2, fun h => ⟨one_LN hn hF k hk, h⟩⟩
theorem LN_num {l : List Int} (hl : l ∈ LN n) : ∀ i ∈ l, i ∈ numI n := fun i hi => by
  have := (LN_mem hn l hl).1 i hi
  refine List.mem_map.mpr ⟨i.toNat, List.mem_range.mpr (by omega), by omega⟩
theorem bar_eq {k : Int} (hk : k ∈ numI n) : bars n F [k] = needI F k := by
  rw [Bool.eq_iff_iff]
  unfold bars
  rw [Bool.not_eq_true', Bool.eq_false_iff]
  constructor
  · intro q
    refine List.all_eq_true.mpr fun m hm => ?_
    cases h : hasI m k with
    | true => rfl
    | false =>
      refine absurd (overF_iff.mpr ⟨m, hm, inL_iff.mpr fun i hi => List.mem_filter.mpr ⟨LN_num hn hF (hF.sub m hm) i hi, ?_⟩⟩) q
      rw [Bool.not_eq_true', Bool.eq_false_iff]
      intro z
      have : i = k := List.mem_singleton.mp (hasI_mem.mp z)
      rw [this] at hi
      rw [hasI_mem.mpr hi] at h
      cases h
  · intro q z
    obtain ⟨m, hm, s⟩ := overF_iff.mp z
    have h1 := hasI_mem.mp (List.all_eq_true.mp q m hm)
    have h2 := (List.mem_filter.mp (inL_iff.mp s k h1)).2
    rw [Bool.not_eq_true', Bool.eq_false_iff] at h2
    exact h2 (hasI_mem.mpr (List.mem_singleton.mpr rfl))
theorem enough_contrary : ((numI n).filter fun k => overF (leastL n ((LN n).filter (bars n F))) [k]) = (numI n).filter (needI F) := List.filter_congr fun k hk => by
  rw [over_least hn (up_bars hn F) (one_LN hn hF k hk), bar_eq hn hF hk]
end
end Q

set_option maxHeartbeats 4000000
namespace Q
open PySem L2 LamX
/-! ### who is as strong as whom -/
def swI (f k : Int) (i : Int) : Int := if i = f then k else i
def swL (l : List Int) (f k : Int) : List Int := l.map (swI f k)
theorem mem_swL {l : List Int} {f k i : Int} : i ∈ swL l f k ↔ (i ∈ l ∧ i ≠ f) ∨ (i = k ∧ f ∈ l) := by
  unfold swL
  rw [List.mem_map]
  constructor
  · rintro ⟨j, hj, e⟩
    unfold swI at e
    by_cases h : j = f
    · rw [if_pos h] at e
      exact .inr ⟨e.symm, h ▸ hj⟩
    · rw [if_neg h] at e
      exact .inl ⟨e ▸ hj, e ▸ h⟩
  · rintro (⟨h, ne⟩ | ⟨rfl, h⟩)
    · exact ⟨i, h, by unfold swI; rw [if_neg ne]⟩
    · exact ⟨f, h, by unfold swI; rw [if_pos rfl]⟩
theorem over_mono {F : List (List Int)} {a b : List Int} (h : ∀ i ∈ a, i ∈ b) (q : overF F a = true) : overF F b = true := by
  obtain ⟨m, hm, s⟩ := overF_iff.mp q
  exact overF_iff.mpr ⟨m, hm, inL_iff.mpr fun i hi => h i (inL_iff.mp s i hi)⟩
theorem over_mem {F : List (List Int)} {a b : List Int} (h : ∀ i, i ∈ a ↔ i ∈ b) : overF F a = overF F b := by
  rw [Bool.eq_iff_iff]
  exact ⟨over_mono fun i hi => (h i).mp hi, over_mono fun i hi => (h i).mpr hi⟩
def lostP (F : List (List Int)) (k far : Int) (m : List Int) : Bool := hasI m far && (!hasI m k && !overF F (swL m far k))
def lostB (F : List (List Int)) (k far : Int) : Bool := F.any (lostP F k far)
theorem hasI_no {l : List Int} {i : Int} (h : i ∉ l) : hasI l i = false := by
  cases e : hasI l i with
  | false => rfl
  | true => exact absurd (hasI_mem.mp e) h
theorem strong_all {F : List (List Int)} {k far : Int} (h : lostB F k far = false) {l : List Int} (hf : far ∈ l) (hk : k ∉ l) (ho : overF F l = true) : overF F (swL l far k) = true := by
  obtain ⟨m, hm, s⟩ := overF_iff.mp ho
  have s' := inL_iff.mp s
  by_cases hfm : far ∈ m
  · have hp : lostP F k far m = false := by
      cases e : lostP F k far m with
      | false => rfl
      | true =>
        have : lostB F k far = true := List.any_eq_true.mpr ⟨m, hm, e⟩
        rw [h] at this
        cases this
    unfold lostP at hp
    rw [hasI_mem.mpr hfm, hasI_no (fun z => hk (s' k z))] at hp
    have q : overF F (swL m far k) = true := by
      cases e : overF F (swL m far k) with
      | true => rfl
      | false => rw [e] at hp; cases hp
    refine over_mono (fun i hi => ?_) q
    rcases mem_swL.mp hi with ⟨h1, h2⟩ | ⟨h1, _⟩
    · exact mem_swL.mpr (.inl ⟨s' i h1, h2⟩)
    · exact mem_swL.mpr (.inr ⟨h1, hf⟩)
  · exact overF_iff.mpr ⟨m, hm, inL_iff.mpr fun i hi => mem_swL.mpr (.inl ⟨s' i hi, fun e => hfm (e ▸ hi)⟩)⟩
theorem strong_trans {F : List (List Int)} {a b c : Int} (h1 : lostB F a b = false) (h2 : lostB F b c = false) : lostB F a c = false := by
  cases e : lostB F a c with
  | false => rfl
  | true =>
    exfalso
    obtain ⟨m, hm, p⟩ := List.any_eq_true.mp e
    unfold lostP at p
    rw [Bool.and_eq_true, Bool.and_eq_true, Bool.not_eq_true', Bool.not_eq_true'] at p
    obtain ⟨pc, pa, po⟩ := p
    have hc := hasI_mem.mp pc
    have ha : a ∉ m := fun z => by rw [hasI_mem.mpr z] at pa; cases pa
    have ho : overF F m = true := overF_iff.mpr ⟨m, hm, inL_refl m⟩
    by_cases ab : a = b
    · subst ab
      rw [strong_all h2 hc ha ho] at po
      cases po
    by_cases bc : b = c
    · subst bc
      rw [strong_all h1 hc ha ho] at po
      cases po
    have fin : overF F (swL m c a) = true := by
      by_cases hb : b ∈ m
      · have o1 := strong_all h1 hb ha ho
        have o2 := strong_all h2 (l := swL m b a) (mem_swL.mpr (.inl ⟨hc, fun z => bc z.symm⟩)) (fun z => by
          rcases mem_swL.mp z with ⟨_, q⟩ | ⟨q, _⟩
          · exact q rfl
          · exact ab q.symm) o1
        refine over_mono (fun i hi => ?_) o2
        rcases mem_swL.mp hi with ⟨q, ne⟩ | ⟨rfl, _⟩
        · rcases mem_swL.mp q with ⟨q1, _⟩ | ⟨rfl, _⟩
          · exact mem_swL.mpr (.inl ⟨q1, ne⟩)
          · exact mem_swL.mpr (.inr ⟨rfl, hc⟩)
        · exact mem_swL.mpr (.inl ⟨hb, bc⟩)
      · have o1 := strong_all h2 hc hb ho
        have o2 := strong_all h1 (l := swL m c b) (mem_swL.mpr (.inr ⟨rfl, hc⟩)) (fun z => by
          rcases mem_swL.mp z with ⟨q, _⟩ | ⟨q, _⟩
          · exact ha q
          · exact ab q) o1
        refine over_mono (fun i hi => ?_) o2
        rcases mem_swL.mp hi with ⟨q, ne⟩ | ⟨rfl, _⟩
        · rcases mem_swL.mp q with ⟨q1, q2⟩ | ⟨rfl, _⟩
          · exact mem_swL.mpr (.inl ⟨q1, q2⟩)
          · exact absurd rfl ne
        · exact mem_swL.mpr (.inr ⟨rfl, hc⟩)
    rw [fin] at po
    cases po
theorem sort_mem {l : List Int} (hl : l.length ≤ 1000) : ∃ ys : List Int, sortF [.list (l.map PyData.int)] = some (.list (ys.map PyData.int)) ∧ ∀ i, i ∈ ys ↔ i ∈ l := by
  have ok : okSort (l.map PyData.int) = true := by
    unfold okSort
    rw [Bool.and_eq_true, Bool.and_eq_true, Bool.and_eq_true]
    refine ⟨⟨⟨?_, ?_⟩, ?_⟩, ?_⟩
    · rw [List.all_eq_true]
      intro a ha
      rw [List.all_eq_true]
      intro b hb
      obtain ⟨i, _, rfl⟩ := List.mem_map.mp ha
      obtain ⟨j, _, rfl⟩ := List.mem_map.mp hb
      simp [PySem.W.alike]
    · rw [Bool.or_eq_true, List.all_eq_true, List.all_eq_true]
      refine .inr fun a ha => ?_
      obtain ⟨i, _, rfl⟩ := List.mem_map.mp ha
      rfl
    · rw [List.all_eq_true]
      intro a ha
      obtain ⟨i, _, rfl⟩ := List.mem_map.mp ha
      rfl
    · rw [List.length_map]
      exact decide_eq_true (Nat.le_trans hl (by decide))
  have key : ∀ zs : List PyData, (∀ z ∈ zs, z ∈ l.map PyData.int) → ∃ ys : List Int, zs = ys.map PyData.int := by
    intro zs
    induction zs with
    | nil => exact fun _ => ⟨[], rfl⟩
    | cons z zs ih =>
      intro h
      obtain ⟨ys, e⟩ := ih fun y hy => h y (by simp [hy])
      obtain ⟨i, _, e2⟩ := List.mem_map.mp (h z (by simp))
      exact ⟨i :: ys, by rw [e, ← e2]; rfl⟩
  obtain ⟨ys, e⟩ := key (QS.sortL (l.map PyData.int)) fun z hz => (QS.sortL_perm _).mem_iff.mp hz
  have mi : ∀ (zs : List Int) (i : Int), PyData.int i ∈ zs.map PyData.int ↔ i ∈ zs := fun zs i => by
    rw [List.mem_map]
    constructor
    · rintro ⟨j, hj, e⟩
      injection e with e
      exact e ▸ hj
    · exact fun h => ⟨i, h, rfl⟩
  refine ⟨ys, ?_, fun i => ?_⟩
  · show (if okSort (l.map PyData.int) then some (PyData.list (QS.sortL (l.map PyData.int))) else none) = _
    rw [ok, e]
    rfl
  · have := (QS.sortL_perm (l.map PyData.int)).mem_iff (a := PyData.int i)
    rw [e, mi, mi] at this
    exact this
theorem run_exchanged (l : List Int) (hl : l.length ≤ 1000) (a b : Int) : ∃ ys : List Int, (∀ ω, m_exchanged [.dat (tp l), .dat (.int a), .dat (.int b)] ω = .ok (tp ys) ω) ∧ ∀ i, i ∈ ys ↔ i ∈ swL l a b := by
  have hz : l.length ≤ line := Nat.le_trans hl (by decide)
  have eqi : ∀ i j : Int, cmpD .Eq (.int i) (.int j) = some (decide (i = j)) := fun i j => rfl
  obtain ⟨ys, es, mem⟩ := sort_mem (l := swL l a b) (by unfold swL; rw [List.length_map]; exact hl)
  have t : tupleF [.list (ys.map PyData.int)] = some (tp ys) := rfl
  refine ⟨ys, fun ω => ?_, mem⟩
  have e1 := list_ints (fi := seqM (eV 0)) (vs := [3, 4]) (g := setD 4) (ft := tY) (fe := eIf (cmpM .Eq (eV 4) (eV 1)) (eV 2) (eV 4)) (ρ := [some (.dat (tp l)), some (.dat (.int a)), some (.dat (.int b)), none, none]) (ω := ω) (l := l) (fun _ => true) (fun i => .int (swI a b i))
    (by simp [itemsD, tp, hz])
    (fun i hi => ⟨_, rfl, by simp, fun _ => by by_cases h : i = a <;> simp [wipeR, eqi, h, swI]⟩)
  rw [List.filter_eq_self.mpr fun _ _ => rfl, map_map_int] at e1
  unfold swL at es
  generalize (l.map (swI a b)) = zs at e1 es
  generalize ys.map PyData.int = Ys at es t
  simp [m_exchanged, e1, es, t]
def lbB : RF := seqS (ifM [2, 3, 1, 3, 0, 3, 2, 1] (andM (cmpM .In (eV 2) (eV 3)) (andM (cmpM .NotIn (eV 1) (eV 3)) (tNot (truM (callE m_is_over_one (consH (nameH 0) (consH (hD (callE m_exchanged (consH (nameH 3) (consH (nameH 2) (consH (nameH 1) hN))))) hN))))))) (seqS (retM [3] (eV 3)) sN) sN) sN
theorem lost_is : m_lost_by = callM 3 4 (seqS (loopM [0] (seqM (eV 0)) (setD 3) lbB) (seqS (retM [] (eK .none)) sN)) := rfl
def sbB : RF := seqS (ifM [3, 4, 2, 4, 1, 4] (andM (cmpM .In (eV 3) (eV 4)) (andM (cmpM .NotIn (eV 2) (eV 4)) (truM (callE m__law_has (consH (nameH 1) (consH (nameH 4) hN)))))) (seqS (ifM [1, 6, 3, 2, 6, 4] (tNot (truM (callE m__law_has (consH (nameH 1) (consH (hD (eBlt tupleF (aC (listM (seqM (eV 4)) [5, 6] (setD 6) tY (eIf (cmpM .Eq (eV 6) (eV 3)) (eV 2) (eV 6))) aN))) hN))))) (seqS (retM [] (eK (.bool false))) sN) sN) sN) sN) sN
def lostD (F : List (List Int)) (k far : Int) : PyData := match F.find? (lostP F k far) with | some m => tp m | none => .none
def strP (F : List (List Int)) (k far : Int) (l : List Int) : Bool := hasI l far && (!hasI l k && overF F l) && !overF F (swL l far k)
section
variable {n : Nat} (hn : 1 ≤ n ∧ n ≤ 5) {F : List (List Int)} (hF : Fam n F) (ω : Om) (k far : Int)
include hn hF
theorem lbB_run (m : List Int) (hm : m ∈ F) : lbB [some (.dat (fm F)), some (.dat (.int k)), some (.dat (.int far)), some (.dat (tp m))] ω
    = .ok (if lostP F k far m then .rt (tp m) else .nx [some (.dat (fm F)), some (.dat (.int k)), some (.dat (.int far)), some (.dat (tp m))]) ω := by
  obtain ⟨ys, e, mem⟩ := run_exchanged m (lens hn hF.sub m hm) far k
  have o := run_is_over_one F ys (by have := hF.few; omega) (lens hn hF.sub) ω
  rw [over_mem mem] at o
  have q : ∀ i, cmpD .In (.int i) (tp m) = some (hasI m i) := fun i => inD_tp m i
  have qn : ∀ i, cmpD .NotIn (.int i) (tp m) = some (!hasI m i) := fun i => by
    show (inD (.int i) (tp m)).map (!·) = _
    rw [inD_tp]; rfl
  unfold lostP
  cases h1 : hasI m far <;> cases h2 : hasI m k <;> cases h3 : overF F (swL m far k) <;> rw [h3] at o <;> simp [lbB, q, qn, h1, h2, e, o, okT, truth]
theorem lost_go : ∀ (rest : List (List Int)) (x3 : Option Ent), (∀ m ∈ rest, m ∈ F) → ∃ y3 : Option Ent, forM (setD 3) lbB (rest.map tp) [some (.dat (fm F)), some (.dat (.int k)), some (.dat (.int far)), x3] ω
    = .ok (match rest.find? (lostP F k far) with | some m => .rt (tp m) | none => .nx [some (.dat (fm F)), some (.dat (.int k)), some (.dat (.int far)), y3]) ω
  | [], x3, _ => ⟨x3, by simp⟩
  | m :: rest, x3, h => by
    have q := lbB_run hn hF ω k far m (h m (by simp))
    obtain ⟨y3, r⟩ := lost_go rest (some (.dat (tp m))) fun j hj => h j (by simp [hj])
    refine ⟨y3, ?_⟩
    rw [List.map_cons, x_forM_cons]
    simp only [setD]
    cases hp : lostP F k far m with
    | true => rw [hp] at q; simp [safe, q, hp, List.find?_cons]
    | false =>
      rw [hp] at q
      rw [List.find?_cons_of_neg (by rw [hp]; exact Bool.false_ne_true)]
      simp [safe, q, r]
theorem run_lost_by : m_lost_by [.dat (fm F), .dat (.int k), .dat (.int far)] ω = .ok (lostD F k far) ω := by
  have hz : F.length ≤ line := Nat.le_trans hF.few (by decide)
  obtain ⟨y3, r⟩ := lost_go hn hF ω k far F none fun _ h => h
  have it : itemsD (fm F) = some (F.map tp) := rfl
  have hz2 : (F.map tp).length ≤ line := by rw [List.length_map]; exact hz
  rw [lost_is]
  unfold lostD
  generalize F.map tp = Z at r it hz2
  cases h : F.find? (lostP F k far) <;> rw [h] at r <;> simp [it, hz2, r]
theorem lostD_is : cmpD .Is (lostD F k far) .none = some (!lostB F k far) ∧ cmpD .IsNot (lostD F k far) .none = some (lostB F k far) := by
  unfold lostD lostB
  cases h : F.find? (lostP F k far) with
  | some m =>
    have : F.any (lostP F k far) = true := List.any_eq_true.mpr ⟨m, List.mem_of_find?_eq_some h, List.find?_some h⟩
    rw [this]
    exact ⟨rfl, rfl⟩
  | none =>
    have : F.any (lostP F k far) = false := by
      rw [List.any_eq_false]
      exact List.find?_eq_none.mp h
    rw [this]
    exact ⟨rfl, rfl⟩
theorem sbB_run (l : List Int) (hl : l ∈ LN n) : sbB [some (.dat (.int n)), some (.dat (fm F)), some (.dat (.int k)), some (.dat (.int far)), some (.dat (tp l)), none, none] ω
    = .ok (if strP F k far l then .rt (.bool false) else .nx [some (.dat (.int n)), some (.dat (fm F)), some (.dat (.int k)), some (.dat (.int far)), some (.dat (tp l)), none, none]) ω := by
  have fF : F.length ≤ 1000 := by have := hF.few; omega
  have lF := lens hn hF.sub
  have o1 := run_law_has F l fF lF ω
  have o2 : m__law_has [.dat (fm F), .dat (.tuple ((swL l far k).map PyData.int))] ω = .ok (.bool (overF F (swL l far k))) ω := run_law_has F (swL l far k) fF lF ω
  have hz : l.length ≤ line := Nat.le_trans ((LN_le hn).2 l hl) (by decide)
  have eqi : ∀ i j : Int, cmpD .Eq (.int i) (.int j) = some (decide (i = j)) := fun i j => rfl
  have e := list_ints (fi := seqM (eV 4)) (vs := [5, 6]) (g := setD 6) (ft := tY) (fe := eIf (cmpM .Eq (eV 6) (eV 3)) (eV 2) (eV 6)) (ρ := [some (.dat (.int n)), some (.dat (fm F)), some (.dat (.int k)), some (.dat (.int far)), some (.dat (tp l)), none, none]) (ω := ω) (l := l) (fun _ => true) (fun i => .int (swI far k i))
    (by simp [itemsD, tp, hz])
    (fun i hi => ⟨_, rfl, by simp, fun _ => by by_cases h : i = far <;> simp [wipeR, eqi, h, swI]⟩)
  rw [List.filter_eq_self.mpr fun _ _ => rfl, map_map_int] at e
  have es : l.map (swI far k) = swL l far k := rfl
  rw [es] at e
  have q : ∀ i, cmpD .In (.int i) (tp l) = some (hasI l i) := fun i => inD_tp l i
  have qn : ∀ i, cmpD .NotIn (.int i) (tp l) = some (!hasI l i) := fun i => by
    show (inD (.int i) (tp l)).map (!·) = _
    rw [inD_tp]; rfl
  unfold strP
  generalize (swL l far k).map PyData.int = Z at e o2
  cases h1 : hasI l far <;> cases h2 : hasI l k <;> cases h4 : overF F l <;> cases h3 : overF F (swL l far k) <;> rw [h3] at o2 <;> rw [h4] at o1 <;> simp [sbB, q, qn, h1, h2, e, o1, o2, tupleF, okT, truth]
theorem str_go : ∀ (rest : List (List Int)) (x4 : Option Ent), (∀ m ∈ rest, m ∈ LN n) → ∃ y4 : Option Ent, forM (setD 4) sbB (rest.map tp) [some (.dat (.int n)), some (.dat (fm F)), some (.dat (.int k)), some (.dat (.int far)), x4, none, none] ω
    = .ok (if rest.any (strP F k far) then .rt (.bool false) else .nx [some (.dat (.int n)), some (.dat (fm F)), some (.dat (.int k)), some (.dat (.int far)), y4, none, none]) ω
  | [], x4, _ => ⟨x4, by simp⟩
  | m :: rest, x4, h => by
    have q := sbB_run hn hF ω k far m (h m (by simp))
    obtain ⟨y4, r⟩ := str_go rest (some (.dat (tp m))) fun j hj => h j (by simp [hj])
    refine ⟨y4, ?_⟩
    rw [List.map_cons, x_forM_cons, List.any_cons]
    simp only [setD]
    cases hp : strP F k far m with
    | true => rw [hp] at q; simp [safe, q]
    | false => rw [hp] at q; simp [safe, q, r]
theorem str_eq : (LN n).any (strP F k far) = lostB F k far := by
  rw [Bool.eq_iff_iff]
  constructor
  · intro z
    obtain ⟨l, hl, p⟩ := List.any_eq_true.mp z
    unfold strP at p
    rw [Bool.and_eq_true, Bool.and_eq_true, Bool.and_eq_true, Bool.not_eq_true', Bool.not_eq_true'] at p
    obtain ⟨⟨p1, p2, p3⟩, p4⟩ := p
    cases e : lostB F k far with
    | true => rfl
    | false =>
      rw [strong_all e (hasI_mem.mp p1) (fun z => by rw [hasI_mem.mpr z] at p2; cases p2) p3] at p4
      cases p4
  · intro z
    obtain ⟨m, hm, p⟩ := List.any_eq_true.mp z
    refine List.any_eq_true.mpr ⟨m, hF.sub m hm, ?_⟩
    have ho : overF F m = true := overF_iff.mpr ⟨m, hm, inL_refl m⟩
    unfold lostP at p
    unfold strP
    rw [ho, Bool.and_true]
    rw [Bool.and_assoc]
    exact p
end
end Q

set_option maxHeartbeats 4000000
namespace Q
open PySem L2 LamX
/-! ### rows of those as strong as one another -/
def rowT (T : Int → Int → Bool) (left : List Int) : List Int := left.filter fun k => left.all fun j => T k j
def pl (T : Int → Int → Bool) : Nat → List Int → Option (List (List Int))
  | 0, _ => none
  | m + 1, left => if left.isEmpty then some [] else (pl T m (left.filter fun k => !hasI (rowT T left) k)).map (rowT T left :: ·)
theorem pl_len {T : Int → Int → Bool} : ∀ {m : Nat} {left : List Int} {rows : List (List Int)}, pl T m left = some rows → rows.length ≤ m
  | 0, _, _, h => by cases h
  | m + 1, left, rows, h => by
    unfold pl at h
    split at h
    · cases h; exact Nat.zero_le _
    · obtain ⟨r, hr, rfl⟩ := Option.map_eq_some_iff.mp h
      have := pl_len hr
      simp only [List.length_cons]
      omega
theorem all_congr {left : List Int} {p q : Int → Bool} (h : ∀ j ∈ left, p j = q j) : left.all p = left.all q := by
  induction left with
  | nil => rfl
  | cons a l ih => rw [List.all_cons, List.all_cons, h a (by simp), ih fun j hj => h j (by simp [hj])]
theorem pl_congr {T S : Int → Int → Bool} : ∀ (m : Nat) (left : List Int), (∀ k ∈ left, ∀ j ∈ left, T k j = S k j) → pl T m left = pl S m left
  | 0, _, _ => rfl
  | m + 1, left, h => by
    have e : rowT T left = rowT S left := List.filter_congr fun k hk => all_congr fun j hj => h k hk j hj
    unfold pl
    rw [e, pl_congr m (left.filter fun k => !hasI (rowT S left) k) fun k hk j hj => h k (List.mem_filter.mp hk).1 j (List.mem_filter.mp hj).1]
def cGe (cs : List Nat) (k j : Int) : Bool := Nat.ble (cs.getD j.toNat 0) (cs.getD k.toNat 0)
def tops (n : Nat) (cs : List Nat) : List Nat := ((List.range (n + 1)).filter fun i => cs.contains i).reverse
def dueC (n : Nat) (cs : List Nat) : List (List Int) := (tops n cs).map fun one => (numI n).filter fun k => Nat.beq (cs.getD k.toNat 0) one
def allC (n : Nat) : Nat → List (List Nat)
  | 0 => [[]]
  | m + 1 => (allC n m).flatMap fun cs => (List.range n).map fun i => (i + 1) :: cs
def chk (n : Nat) (cs : List Nat) : Bool := match pl (cGe cs) 6 (numI n) with
  | some rows => decide (rows = dueC n cs)
  | none => false
theorem chk1 : (allC 1 1).all (chk 1) = true := by decide +kernel
theorem chk2 : (allC 2 2).all (chk 2) = true := by decide +kernel
theorem chk3 : (allC 3 3).all (chk 3) = true := by decide +kernel
theorem chk4 : (allC 4 4).all (chk 4) = true := by decide +kernel
theorem chk5 : (allC 5 5).all (chk 5) = true := by decide +kernel
theorem allC_mem {n : Nat} : ∀ (m : Nat) (cs : List Nat), cs.length = m → (∀ c ∈ cs, 1 ≤ c ∧ c ≤ n) → cs ∈ allC n m
  | 0, cs, h, _ => by
    rw [List.length_eq_zero_iff.mp h]
    exact List.mem_singleton.mpr rfl
  | m + 1, [], h, _ => by cases h
  | m + 1, c :: cs, h, hc => by
    refine List.mem_flatMap.mpr ⟨cs, allC_mem m cs (by simpa using h) fun d hd => hc d (by simp [hd]), ?_⟩
    have := hc c (by simp)
    exact List.mem_map.mpr ⟨c - 1, List.mem_range.mpr (by omega), by rw [Nat.sub_add_cancel this.1]⟩
theorem pl_due {n : Nat} (hn : 1 ≤ n ∧ n ≤ 5) {cs : List Nat} (hl : cs.length = n) (hc : ∀ c ∈ cs, 1 ≤ c ∧ c ≤ n) : pl (cGe cs) 6 (numI n) = some (dueC n cs) := by
  have h : chk n cs = true := by
    have m := allC_mem n cs hl hc
    rcases five hn with rfl | rfl | rfl | rfl | rfl
    · exact List.all_eq_true.mp chk1 cs m
    · exact List.all_eq_true.mp chk2 cs m
    · exact List.all_eq_true.mp chk3 cs m
    · exact List.all_eq_true.mp chk4 cs m
    · exact List.all_eq_true.mp chk5 cs m
  unfold chk at h
  cases e : pl (cGe cs) 6 (numI n) with
  | none => rw [e] at h; cases h
  | some rows =>
    rw [e] at h
    have h2 : decide (rows = dueC n cs) = true := h
    rw [of_decide_eq_true h2]
/-! counts -/
def cnt (n : Nat) (T : Int → Int → Bool) (k : Int) : Nat := ((numI n).filter (T k)).length
def cntL (n : Nat) (T : Int → Int → Bool) : List Nat := (numI n).map (cnt n T)
theorem numI_len (n : Nat) : (numI n).length = n := by unfold numI; rw [List.length_map, List.length_range]
theorem num_mem {n : Nat} {k : Int} (h : k ∈ numI n) : 0 ≤ k ∧ k < n := by
  obtain ⟨j, hj, rfl⟩ := List.mem_map.mp h
  have := List.mem_range.mp hj
  omega
theorem num_mk {n : Nat} {k : Int} (h : 0 ≤ k ∧ k < n) : k ∈ numI n := List.mem_map.mpr ⟨k.toNat, List.mem_range.mpr (by omega), by omega⟩
theorem num_at {n : Nat} {k : Int} (h : k ∈ numI n) : (numI n)[k.toNat]? = some k := by
  have := num_mem h
  unfold numI
  rw [List.getElem?_map, List.getElem?_range (by omega)]
  show some _ = _
  congr 1
  show ((k.toNat : Nat) : Int) = k
  omega
theorem cntL_at {n : Nat} {T : Int → Int → Bool} {k : Int} (h : k ∈ numI n) : (cntL n T).getD k.toNat 0 = cnt n T k := by
  unfold cntL
  rw [List.getD_eq_getElem?_getD, List.getElem?_map, num_at h]
  rfl
theorem filter_le {p q : Int → Bool} : ∀ (xs : List Int), (∀ x ∈ xs, p x = true → q x = true) → (xs.filter p).length ≤ (xs.filter q).length ∧ ((∃ x ∈ xs, q x = true ∧ p x = false) → (xs.filter p).length < (xs.filter q).length)
  | [], _ => ⟨Nat.le_refl _, fun ⟨_, h, _⟩ => nomatch h⟩
  | x :: xs, h => by
    have ih := filter_le xs fun y hy => h y (by simp [hy])
    have hx := h x (by simp)
    rw [List.filter_cons, List.filter_cons]
    cases hp : p x with
    | true =>
      rw [hx hp]
      simp only [if_true, List.length_cons]
      refine ⟨by omega, ?_⟩
      rintro ⟨y, hy, h1, h2⟩
      rcases List.mem_cons.mp hy with rfl | hy
      · rw [hp] at h2; cases h2
      · have := ih.2 ⟨y, hy, h1, h2⟩
        omega
    | false =>
      cases hq : q x with
      | true =>
        simp only [if_true, if_false, List.length_cons, Bool.false_eq_true]
        exact ⟨by omega, fun _ => by omega⟩
      | false =>
        simp only [if_false, Bool.false_eq_true]
        refine ⟨ih.1, ?_⟩
        rintro ⟨y, hy, h1, h2⟩
        rcases List.mem_cons.mp hy with rfl | hy
        · rw [hq] at h1; cases h1
        · exact ih.2 ⟨y, hy, h1, h2⟩
/-- one that tells all apart, by counts -/
theorem by_counts {n : Nat} {T : Int → Int → Bool} (refl : ∀ k, T k k = true) (trans : ∀ a b c, T a b = true → T b c = true → T a c = true) (total : ∀ k ∈ numI n, ∀ j ∈ numI n, T k j = true ∨ T j k = true)
    {k j : Int} (hk : k ∈ numI n) (hj : j ∈ numI n) : T k j = cGe (cntL n T) k j := by
  unfold cGe
  rw [cntL_at hk, cntL_at hj]
  cases h : T k j with
  | true =>
    symm
    refine Nat.ble_eq.mpr ?_
    exact (filter_le (numI n) fun x _ q => trans k j x h q).1
  | false =>
    symm
    have h2 : T j k = true := (total k hk j hj).resolve_left (by rw [h]; exact Bool.false_ne_true)
    have lt := (filter_le (p := T k) (q := T j) (numI n) fun x _ q => trans j k x h2 q).2 ⟨j, hj, refl j, h⟩
    rw [Bool.eq_false_iff]
    intro z
    have := Nat.le_of_ble_eq_true z
    unfold cnt at this
    omega
theorem cnt_in {n : Nat} {T : Int → Int → Bool} (refl : ∀ k, T k k = true) : ∀ c ∈ cntL n T, 1 ≤ c ∧ c ≤ n := fun c hc => by
  obtain ⟨k, hk, rfl⟩ := List.mem_map.mp hc
  unfold cnt
  have h1 := List.length_filter_le (T k) (numI n)
  rw [numI_len] at h1
  exact ⟨List.length_pos_of_mem (List.mem_filter.mpr ⟨hk, refl k⟩), h1⟩
theorem rows_due {n : Nat} (hn : 1 ≤ n ∧ n ≤ 5) {T : Int → Int → Bool} (refl : ∀ k, T k k = true) (trans : ∀ a b c, T a b = true → T b c = true → T a c = true) (total : ∀ k ∈ numI n, ∀ j ∈ numI n, T k j = true ∨ T j k = true) :
    pl T 6 (numI n) = some (dueC n (cntL n T)) := by
  rw [pl_congr 6 (numI n) fun k hk j hj => by_counts refl trans total hk hj]
  exact pl_due hn (by unfold cntL; rw [List.length_map, numI_len]) (cnt_in refl)
end Q

set_option maxHeartbeats 4000000
namespace Q
open PySem L2 LamX
/-! ### two that can't be compared; the rows -/
def apB (F : List (List Int)) (k j : Int) : Bool := lostB F k j && lostB F j k
def inB : RF := seqS (ifM [1, 2, 3, 1, 3, 2] (andM (cmpM .IsNot (callE m_lost_by (consH (nameH 1) (consH (nameH 2) (consH (nameH 3) hN)))) (eK .none)) (cmpM .IsNot (callE m_lost_by (consH (nameH 1) (consH (nameH 3) (consH (nameH 2) hN)))) (eK .none))) (seqS (retM [3, 2] (eTup (aC (eV 3) (aC (eV 2) aN)))) sN) sN) sN
def ouB : RF := seqS (loopM [2] (rng1M (aC (eV 2) aN)) (setD 3) inB) sN
theorem unlike_is : m_unlike_pair = callM 2 4 (seqS (loopM [0] (rng1M (aC (eV 0) aN)) (setD 2) ouB) (seqS (retM [] (eK .none)) sN)) := rfl
theorem rng_runI {n : Nat} (hn : n ≤ 5) {ρ : Rho} {ω : Om} {i : Nat} (h : ρ[i]? = some (some (.dat (.int n)))) : rng1M (aC (eV i) aN) ρ ω = .ok ((numI n).map PyData.int) ω := by
  have h1 : ((n : Nat) : Int) ≤ 16777216 := by omega
  have h2 : -4611686018427387904 ≤ ((n : Nat) : Int) := by omega
  simp [rng1M, h, h1, h2, upD_num]
def wB : RF := seqS (asgN [6, 3, 1, 6, 7, 3] (listN (seqM (eV 3)) [5, 6] (setD 6) (truM (eBlt allF (aC (listM (seqM (eV 3)) [5, 7] (setD 7) tY (eCmp .Is (callE m_lost_by (consH (nameH 1) (consH (nameH 6) (consH (nameH 7) hN)))) (eK .none))) aN))) (eV 6)) 4) (seqS (appM 2 [4] (eBlt tupleF (aC (eV 4) aN))) (seqS (asgN [6, 3, 6, 4] (listN (seqM (eV 3)) [5, 6] (setD 6) (cmpM .NotIn (eV 6) (eV 4)) (eV 6)) 3) sN))
theorem rows_is : m_rows_by_strength = callM 2 8 (seqS (asgN [] (nLst aN) 2) (seqS (asgN [0] (nD (eRg (eV 0))) 3) (seqS (whileM [3] (truM (eV 3)) wB 1000) (seqS (retM [2] (eBlt tupleF (aC (eV 2) aN))) sN)))) := rfl
theorem inD_lst (l : List Int) (i : Int) : inD (.int i) (.list (l.map PyData.int)) = some (hasI l i) := by
  show (if okD (.int i) && okD (.list (l.map PyData.int)) then some ((l.map PyData.int).any fun d => PyData.eqv d (.int i)) else none) = _
  rw [ok_int, ok_lst, any_eqv]
  rfl
def TT (F : List (List Int)) (k j : Int) : Bool := !lostB F k j
section
variable {n : Nat} (hn : 1 ≤ n ∧ n ≤ 5) {F : List (List Int)} (hF : Fam n F) (ω : Om)
include hn hF
theorem inB_run (k j : Int) : inB [some (.dat (.int n)), some (.dat (fm F)), some (.dat (.int k)), some (.dat (.int j))] ω
    = .ok (if apB F k j then .rt (.tuple [.int j, .int k]) else .nx [some (.dat (.int n)), some (.dat (fm F)), some (.dat (.int k)), some (.dat (.int j))]) ω := by
  have r1 := run_lost_by hn hF ω k j
  have r2 := run_lost_by hn hF ω j k
  have c1 := (lostD_is hn hF k j).2
  have c2 := (lostD_is hn hF j k).2
  have h2 : (2 : Nat) ≤ line := by decide
  generalize lostD F k j = D1 at r1 c1
  generalize lostD F j k = D2 at r2 c2
  unfold apB
  cases h3 : lostB F k j <;> cases h4 : lostB F j k <;> rw [h3] at c1 <;> rw [h4] at c2 <;> simp [inB, r1, r2, c1, c2, h2]
theorem inB_go (k : Int) : ∀ (js : List Int) (x3 : Option Ent), ∃ (y3 : Option Ent) (j : Int), forM (setD 3) inB (js.map PyData.int) [some (.dat (.int n)), some (.dat (fm F)), some (.dat (.int k)), x3] ω
    = .ok (if js.any (apB F k) then .rt (.tuple [.int j, .int k]) else .nx [some (.dat (.int n)), some (.dat (fm F)), some (.dat (.int k)), y3]) ω
  | [], x3 => ⟨x3, 0, by simp⟩
  | j :: js, x3 => by
    have q := inB_run hn hF ω k j
    obtain ⟨y3, j2, r⟩ := inB_go k js (some (.dat (.int j)))
    cases hp : apB F k j with
    | true =>
      rw [hp] at q
      refine ⟨y3, j, ?_⟩
      rw [List.map_cons, x_forM_cons, List.any_cons, hp]
      simp only [setD]
      simp [safe, q]
    | false =>
      rw [hp] at q
      refine ⟨y3, j2, ?_⟩
      rw [List.map_cons, x_forM_cons, List.any_cons, hp, Bool.false_or]
      simp only [setD]
      simp [safe, q, r]
theorem ouB_go : ∀ (ks : List Int) (x2 x3 : Option Ent), (∀ k ∈ ks, k ∈ numI n) → ∃ (y2 y3 : Option Ent) (j k : Int), forM (setD 2) ouB (ks.map PyData.int) [some (.dat (.int n)), some (.dat (fm F)), x2, x3] ω
    = .ok (if ks.any (fun k => (numI k.toNat).any (apB F k)) then .rt (.tuple [.int j, .int k]) else .nx [some (.dat (.int n)), some (.dat (fm F)), y2, y3]) ω
  | [], x2, x3, _ => ⟨x2, x3, 0, 0, by simp⟩
  | k :: ks, x2, x3, hk => by
    have nm := num_mem (hk k (by simp))
    have ek : ((k.toNat : Nat) : Int) = k := by omega
    obtain ⟨y3, j, r⟩ := inB_go hn hF ω k (numI k.toNat) x3
    have rg := rng_runI (n := k.toNat) (by omega) (ω := ω) (i := 2) (ρ := [some (.dat (.int n)), some (.dat (fm F)), some (.dat (.int k)), x3]) (by rw [ek]; rfl)
    obtain ⟨z2, z3, j2, k2, r2⟩ := ouB_go ks (some (.dat (.int k))) y3 fun i hi => hk i (by simp [hi])
    generalize (numI k.toNat).map PyData.int = K at r rg
    cases hp : (numI k.toNat).any (apB F k) with
    | true =>
      rw [hp] at r
      refine ⟨z2, z3, j, k, ?_⟩
      have ob : ouB [some (.dat (.int n)), some (.dat (fm F)), some (.dat (.int k)), x3] ω = .ok (.rt (.tuple [.int j, .int k])) ω := by simp [ouB, rg, r]
      rw [List.map_cons, x_forM_cons, List.any_cons, hp]
      simp only [setD]
      simp [safe, ob]
    | false =>
      rw [hp] at r
      refine ⟨z2, z3, j2, k2, ?_⟩
      have ob : ouB [some (.dat (.int n)), some (.dat (fm F)), some (.dat (.int k)), x3] ω = .ok (.nx [some (.dat (.int n)), some (.dat (fm F)), some (.dat (.int k)), y3]) ω := by simp [ouB, rg, r]
      rw [List.map_cons, x_forM_cons, List.any_cons, hp, Bool.false_or]
      simp only [setD]
      generalize (ks.any fun k => (numI k.toNat).any (apB F k)) = B at r2 ⊢
      simp [safe, ob, r2]
theorem run_unlike : ∃ d, m_unlike_pair [.dat (.int n), .dat (fm F)] ω = .ok d ω ∧ cmpD .IsNot d .none = some ((numI n).any fun k => (numI k.toNat).any (apB F k)) := by
  obtain ⟨y2, y3, j, k, r⟩ := ouB_go hn hF ω (numI n) none none fun _ h => h
  have rg := rng_runI hn.2 (ω := ω) (i := 0) (ρ := [some (.dat (.int n)), some (.dat (fm F)), none, none]) rfl
  generalize (numI n).map PyData.int = K at r rg
  rw [unlike_is]
  cases hp : (numI n).any fun k => (numI k.toNat).any (apB F k) with
  | true => rw [hp] at r; exact ⟨.tuple [.int j, .int k], by simp [rg, r], rfl⟩
  | false => rw [hp] at r; exact ⟨.none, by simp [rg, r], rfl⟩
theorem wB_run (left : List Int) (hl : left.length ≤ 5) (R : List PyData) (hR : R.length < line) (x3 : Ent) (x4 : Option Ent) (h3 : x3 = .own (left.map PyData.int) ∨ x3 = .dat (.list (left.map PyData.int))) :
    ∃ y4, wB [some (.dat (.int n)), some (.dat (fm F)), some (.own R), some x3, x4, none, none, none] ω
      = .ok (.nx [some (.dat (.int n)), some (.dat (fm F)), some (.own (R ++ [tp (rowT (TT F) left)])), some (.own ((left.filter fun k => !hasI (rowT (TT F) left) k).map PyData.int)), y4, none, none, none]) ω := by
  have hz : left.length ≤ line := Nat.le_trans hl (by decide)
  have inner : ∀ k, listM (seqM (eV 3)) [5, 7] (setD 7) tY (eCmp .Is (callE m_lost_by (consH (nameH 1) (consH (nameH 6) (consH (nameH 7) hN)))) (eK .none)) [some (.dat (.int n)), some (.dat (fm F)), some (.own R), some (.dat (.list (left.map PyData.int))), x4, none, some (.dat (.int k)), none] ω = .ok (.list (left.map fun j => PyData.bool (TT F k j))) ω := fun k => by
    have e := list_ints (fi := seqM (eV 3)) (vs := [5, 7]) (g := setD 7) (ft := tY) (fe := eCmp .Is (callE m_lost_by (consH (nameH 1) (consH (nameH 6) (consH (nameH 7) hN)))) (eK .none)) (ρ := [some (.dat (.int n)), some (.dat (fm F)), some (.own R), some (.dat (.list (left.map PyData.int))), x4, none, some (.dat (.int k)), none]) (ω := ω) (l := left) (fun _ => true) (fun j => .bool (TT F k j))
      (by simp [itemsD, hz])
      (fun j hj => ⟨_, rfl, by simp, fun _ => by simp [wipeR, run_lost_by hn hF ω k j, (lostD_is hn hF k j).1, TT]⟩)
    rw [List.filter_eq_self.mpr fun _ _ => rfl] at e
    exact e
  have e1 := listN_map (fi := seqM (eV 3)) (vs := [5, 6]) (g := setD 6) (ft := truM (eBlt allF (aC (listM (seqM (eV 3)) [5, 7] (setD 7) tY (eCmp .Is (callE m_lost_by (consH (nameH 1) (consH (nameH 6) (consH (nameH 7) hN)))) (eK .none))) aN))) (fe := eV 6)
    (ρ := [some (.dat (.int n)), some (.dat (fm F)), some (.own R), some (.dat (.list (left.map PyData.int))), x4, none, none, none]) (ω := ω) (ys := left) PyData.int (fun k => left.all fun j => TT F k j) PyData.int
    (by simp [itemsD, hz])
    (fun k hk => ⟨_, rfl, by simp [wipeR, inner k, allF_bools, okT, truth], fun _ => by simp [wipeR]⟩)
  have er : left.filter (fun k => left.all fun j => TT F k j) = rowT (TT F) left := rfl
  rw [er] at e1
  have e3 := fun (x2 : Option Ent) => listN_map (fi := seqM (eV 3)) (vs := [5, 6]) (g := setD 6) (ft := cmpM .NotIn (eV 6) (eV 4)) (fe := eV 6)
    (ρ := [some (.dat (.int n)), some (.dat (fm F)), x2, some (.dat (.list (left.map PyData.int))), some (.dat (.list ((rowT (TT F) left).map PyData.int))), none, none, none]) (ω := ω) (ys := left) PyData.int (fun k => !hasI (rowT (TT F) left) k) PyData.int
    (by simp [itemsD, hz])
    (fun k hk => ⟨_, rfl, by simp [wipeR, cmpD, inD_lst], fun _ => by simp [wipeR]⟩)
  have t : tupleF [.list ((rowT (TT F) left).map PyData.int)] = some (tp (rowT (TT F) left)) := rfl
  have fl : flat (tp (rowT (TT F) left)) = false := rfl
  clear inner er hz
  generalize (left.filter fun k => !hasI (rowT (TT F) left) k).map PyData.int = L2 at e3 ⊢
  generalize tp (rowT (TT F) left) = D at t fl ⊢
  generalize (rowT (TT F) left).map PyData.int = L1 at e1 e3 t
  generalize left.map PyData.int = L at e1 e3 h3
  refine ⟨some (.dat (.list L1)), ?_⟩
  rcases h3 with rfl | rfl <;> simp [wB, e1, appM, t, fl, hR, e3]
theorem while_go : ∀ (m : Nat) (left : List Int) (rows : List (List Int)) (k : Nat) (R : List PyData) (x3 : Ent) (x4 : Option Ent), pl (TT F) m left = some rows → m ≤ k → left.length ≤ 5 → R.length + m ≤ 1000 → (x3 = .own (left.map PyData.int) ∨ x3 = .dat (.list (left.map PyData.int))) →
    ∃ y3 y4, whileM [3] (truM (eV 3)) wB k [some (.dat (.int n)), some (.dat (fm F)), some (.own R), some x3, x4, none, none, none] ω = .ok (.nx [some (.dat (.int n)), some (.dat (fm F)), some (.own (R ++ rows.map tp)), y3, y4, none, none, none]) ω
  | 0, _, _, _, _, _, _, h, _, _, _, _ => by cases h
  | m + 1, left, rows, 0, R, x3, x4, h, hk, hl, hR, h3 => by omega
  | m + 1, left, rows, k + 1, R, x3, x4, h, hk, hl, hR, h3 => by
    unfold pl at h
    cases he : left.isEmpty with
    | true =>
      rw [he] at h
      cases h
      have : left = [] := List.isEmpty_iff.mp he
      subst this
      refine ⟨some x3, x4, ?_⟩
      rcases h3 with rfl | rfl <;> simp [whileM, okT, truth]
    | false =>
      rw [he] at h
      obtain ⟨r, hr, rfl⟩ := Option.map_eq_some_iff.mp h
      obtain ⟨y4, w⟩ := wB_run hn hF ω left hl R (Nat.lt_of_le_of_lt (Nat.le_trans (Nat.le_add_right _ _) hR) (by decide)) x3 x4 h3
      obtain ⟨z3, z4, g⟩ := while_go m (left.filter fun k => !hasI (rowT (TT F) left) k) r k (R ++ [tp (rowT (TT F) left)]) (.own ((left.filter fun k => !hasI (rowT (TT F) left) k).map PyData.int)) y4 hr (by omega) (Nat.le_trans (List.length_filter_le _ _) hl) (by rw [List.length_append]; simp only [List.length_cons, List.length_nil]; omega) (.inl rfl)
      refine ⟨z3, z4, ?_⟩
      have er : (R ++ [tp (rowT (TT F) left)]) ++ r.map tp = R ++ (rowT (TT F) left :: r).map tp := by rw [List.append_assoc]; rfl
      rw [er] at g
      have ne : (left.map PyData.int).isEmpty = false := by rw [List.isEmpty_map]; exact he
      generalize (left.filter fun k => !hasI (rowT (TT F) left) k).map PyData.int = L2 at w g
      generalize R ++ (rowT (TT F) left :: r).map tp = R2 at g ⊢
      generalize R ++ [tp (rowT (TT F) left)] = R1 at w g
      generalize left.map PyData.int = L at w h3 ne
      rcases h3 with rfl | rfl <;> simp [whileM, okT, truth, ne, w, g]
theorem run_rows {rows : List (List Int)} (h : pl (TT F) 6 (numI n) = some rows) : m_rows_by_strength [.dat (.int n), .dat (fm F)] ω = .ok (fm rows) ω := by
  obtain ⟨y3, y4, r⟩ := while_go hn hF ω 6 (numI n) rows 1000 [] (.dat (.list ((numI n).map PyData.int))) none h (by decide) (by rw [numI_len]; exact hn.2) (by decide) (.inr rfl)
  have rg : rangeD (.int n) = some (.list ((numI n).map PyData.int)) := by
    have h1 : ((n : Nat) : Int) ≤ 16777216 := by omega
    have h2 : -4611686018427387904 ≤ ((n : Nat) : Int) := by omega
    show (if ((n : Nat) : Int) ≤ 16777216 ∧ -4611686018427387904 ≤ ((n : Nat) : Int) then some (PyData.list (upD 0 ((n : Int)).toNat)) else none) = _
    rw [if_pos ⟨h1, h2⟩, Int.toNat_natCast, upD_num]
  have t : tupleF [.list (rows.map tp)] = some (fm rows) := rfl
  rw [List.nil_append] at r
  rw [rows_is]
  have h0 : (0 : Nat) ≤ line := by decide
  have fl : ∀ ds, flat (.list ds) = false := fun _ => rfl
  generalize rows.map tp = Z at r t
  generalize fm rows = D at t ⊢
  generalize (numI n).map PyData.int = K at r rg
  simp [h0, rg, fl, r, t]
theorem run_strength_rows : ((numI n).any (fun k => (numI k.toNat).any (apB F k)) = true → m_strength_rows [.dat (.int n), .dat (fm F)] ω = .ok .none ω)
    ∧ ((numI n).any (fun k => (numI k.toNat).any (apB F k)) = false → ∀ rows, pl (TT F) 6 (numI n) = some rows → m_strength_rows [.dat (.int n), .dat (fm F)] ω = .ok (fm rows) ω) := by
  have r1 := run_need_fam hn hF ω
  obtain ⟨d, r2, c⟩ := run_unlike hn hF ω
  constructor
  · intro h
    rw [h] at c
    simp [m_strength_rows, r1, r2, c]
  · intro h rows hp
    rw [h] at c
    have r3 := run_rows hn hF ω hp
    generalize fm rows = D at r3 ⊢
    simp [m_strength_rows, r1, r2, c, r3]
end
end Q

set_option maxHeartbeats 4000000
namespace Q
open PySem L2 LamX
/-! ### all families, by going through lots -/
def stepF (acc : List (List (List Int))) (l : List Int) : List (List (List Int)) := acc ++ (acc.filter fun F => F.all fun m => apart m l).map fun F => F ++ [l]
theorem mem_steps : ∀ (ls : List (List Int)) (acc : List (List (List Int))) (pre rest : List (List Int)), pre ∈ acc → rest.Sublist ls → famK pre rest = none → pre ++ rest ∈ ls.foldl stepF acc
  | [], acc, pre, rest, h, s, _ => by
    rw [List.sublist_nil.mp s, List.append_nil]; exact h
  | l :: ls, acc, pre, rest, h, s, k => by
    rw [List.foldl_cons]
    cases s with
    | cons _ s => exact mem_steps ls _ pre rest (List.mem_append.mpr (.inl h)) s k
    | cons_cons _ s =>
      rename_i r
      unfold famK at k
      cases hb : pre.all fun a => apart a l with
      | false => rw [hb] at k; cases k
      | true =>
        rw [hb] at k
        have := mem_steps ls (stepF acc l) (pre ++ [l]) r (List.mem_append.mpr (.inr (List.mem_map.mpr ⟨pre, List.mem_filter.mpr ⟨h, hb⟩, rfl⟩))) s k
        simpa using this
def famsN (n : Nat) : List (List (List Int)) := (LN n).foldl stepF [[]]
theorem mem_famsN {n : Nat} {F : List (List Int)} (h : Fam n F) : F ∈ famsN n := by
  have s : (leastL n F).Sublist (LN n) := List.filter_sublist
  rw [h.least] at s
  have := mem_steps (LN n) [[]] [] F (by simp) s h.fam
  rw [List.nil_append] at this
  exact this
/-! ### the least quota by which loads weigh a family -/
def outL (n : Nat) (F : List (List Int)) (ws : List Int) : List Int := ((LN n).filter fun l => !overF F l).map (sumW ws)
def ownL (n : Nat) (F : List (List Int)) (ws : List Int) : List Int := ((LN n).filter fun l => overF F l).map (sumW ws)
def quoI (n : Nat) (F : List (List Int)) (ws : List Int) : Int := (outL n F ws).foldl max (-1) + 1
def quoB (n : Nat) (F : List (List Int)) (ws : List Int) : Bool := (ownL n F ws).all fun a => !decide (a < quoI n F ws)
def qB : RF := seqS (asgN [2, 9, 5] (nD (eBlt sumF2 (aC (listM (seqM (eV 5)) [8, 9] (setD 9) tY (eIx (eV 2) (eV 9))) aN))) 6)
    (seqS (ifM [1, 5] (truM (callE m__law_has (consH (nameH 1) (consH (nameH 5) hN))))
      (seqS (appM 4 [6] (eV 6))
      sN)
      (seqS (appM 3 [6] (eV 6))
      sN))
    sN)
theorem mem_LN {n : Nat} (hn : 1 ≤ n ∧ n ≤ 5) : ∀ l ∈ LN n, ∀ i ∈ l, 0 ≤ i ∧ i < n := by
  rcases five hn with rfl | rfl | rfl | rfl | rfl <;> decide +kernel
section
variable {n : Nat} (hn : 1 ≤ n ∧ n ≤ 5) {F : List (List Int)} (hF : Fam n F) {ws : List Int} (hw : ws.length = n) (ω : Om)
include hn hF hw
theorem qB_run (l : List Int) (hl : l ∈ LN n) (x6 : Option Ent) (O I : List PyData) (ho : O.length < 1000) (hi : I.length < 1000) :
    qB [some (.dat (.int n)), some (.dat (fm F)), some (.dat (tp ws)), some (.own O), some (.own I), some (.dat (tp l)), x6, none, none, none] ω =
      .ok (.nx [some (.dat (.int n)), some (.dat (fm F)), some (.dat (tp ws)), some (.own (if overF F l then O else O ++ [.int (sumW ws l)])), some (.own (if overF F l then I ++ [.int (sumW ws l)] else I)), some (.dat (tp l)), some (.dat (.int (sumW ws l))), none, none, none]) ω := by
  have hz : l.length ≤ line := Nat.le_trans ((LN_le hn).2 l hl) (by decide)
  have e := list_ints (fi := seqM (eV 5)) (vs := [8, 9]) (g := setD 9) (ft := tY) (fe := eIx (eV 2) (eV 9)) (ρ := [some (.dat (.int n)), some (.dat (fm F)), some (.dat (tp ws)), some (.own O), some (.own I), some (.dat (tp l)), x6, none, none, none]) (ω := ω) (l := l) (fun _ => true) (fun i => .int (ws.getD i.toNat 0))
    (by simp [itemsD, tp, hz])
    (fun i hi => ⟨_, rfl, by simp, fun _ => by
      have h := mem_LN hn l hl i hi
      have ea := at_ints ws i h.1 (by rw [hw]; exact h.2)
      simp [wipeR, itemD, tp, ea]⟩)
  rw [List.filter_eq_self.mpr fun _ _ => rfl, map_map_int] at e
  have es : sumF2 [.list ((l.map fun i => ws.getD i.toNat 0).map PyData.int)] = some (.int (sumW ws l)) := by
    show (intsD _).map _ = _
    rw [intsD_map]; rfl
  have hh := run_law_has F l (Nat.le_trans hF.few (by decide)) (lens hn hF.sub) ω
  generalize (l.map fun i => ws.getD i.toNat 0) = ys at e es
  have h1 : O.length < line := Nat.lt_of_lt_of_le ho (by decide)
  have h2 : I.length < line := Nat.lt_of_lt_of_le hi (by decide)
  cases hb : overF F l with
  | true =>
    rw [hb] at hh
    simp [qB, e, es, flat, hh, okT, truth, appM, h2]
  | false =>
    rw [hb] at hh
    simp [qB, e, es, flat, hh, okT, truth, appM, h1]
theorem q_go : ∀ (ls : List (List Int)) (x5 x6 : Option Ent) (os is : List Int), (∀ l ∈ ls, l ∈ LN n) → os.length + ls.length < 1000 → is.length + ls.length < 1000 → (x6 = none ∨ ∃ d, x6 = some (.dat (.int d))) → ∃ y5 y6 : Option Ent, (y6 = none ∨ ∃ d, y6 = some (.dat (.int d))) ∧
    forM (setD 5) qB (ls.map tp) [some (.dat (.int n)), some (.dat (fm F)), some (.dat (tp ws)), some (.own (os.map PyData.int)), some (.own (is.map PyData.int)), x5, x6, none, none, none] ω =
      .ok (.nx [some (.dat (.int n)), some (.dat (fm F)), some (.dat (tp ws)), some (.own ((os ++ (ls.filter fun l => !overF F l).map (sumW ws)).map PyData.int)), some (.own ((is ++ (ls.filter fun l => overF F l).map (sumW ws)).map PyData.int)), y5, y6, none, none, none]) ω
  | [], x5, x6, os, is, _, _, _, h6 => ⟨x5, x6, h6, by simp⟩
  | l :: ls, x5, x6, os, is, hl, ho, hi, h6 => by
    rw [List.length_cons] at ho hi
    have e := qB_run hn hF hw ω l (hl l (by simp)) x6 (os.map PyData.int) (is.map PyData.int) (by rw [List.length_map]; omega) (by rw [List.length_map]; omega)
    obtain ⟨y5, y6, h, ih⟩ := q_go ls (some (.dat (tp l))) (some (.dat (.int (sumW ws l)))) (if overF F l then os else os ++ [sumW ws l]) (if overF F l then is ++ [sumW ws l] else is) (fun m h => hl m (by simp [h])) (by split <;> (try simp only [List.length_append, List.length_cons, List.length_nil]) <;> omega) (by split <;> (try simp only [List.length_append, List.length_cons, List.length_nil]) <;> omega) (.inr ⟨_, rfl⟩)
    refine ⟨y5, y6, h, ?_⟩
    rw [List.map_cons, x_forM_cons]
    have eg : setD 5 (tp l) [some (.dat (.int n)), some (.dat (fm F)), some (.dat (tp ws)), some (.own (os.map PyData.int)), some (.own (is.map PyData.int)), x5, x6, none, none, none] = some [some (.dat (.int n)), some (.dat (fm F)), some (.dat (tp ws)), some (.own (os.map PyData.int)), some (.own (is.map PyData.int)), some (.dat (tp l)), x6, none, none, none] := rfl
    rw [eg]
    simp only [x_bind, x_get, e]
    cases hb : overF F l <;> rw [hb] at ih <;> simpa [hb, List.filter_cons] using ih
theorem run_quota : m__law_quota [.dat (.int n), .dat (fm F), .dat (tp ws)] ω = .ok (.list (if quoB n F ws then [.int (quoI n F ws)] else [])) ω := by
  have hL := LN_le hn
  have hz : (LN n).length ≤ line := Nat.le_trans hL.1 (by decide)
  have h0 : (0 : Nat) ≤ line := by decide
  have h1 : (1 : Nat) ≤ line := by decide
  have e1 := run_law_lots hn ω
  obtain ⟨y5, y6, h6, eq⟩ := q_go hn hF hw ω (LN n) none none [-1] [] (fun _ h => h) (by have := hL.1; simp; omega) (by have := hL.1; simp; omega) (.inl rfl)
  have em : maxF [.list (([-1] ++ outL n F ws).map PyData.int)] = some (.int ((outL n F ws).foldl max (-1))) := by
    show maxL (intsD _) = _
    rw [intsD_map]; rfl
  have ew : (([] : List Int) ++ ((LN n).filter fun l => overF F l).map (sumW ws)).map PyData.int = (ownL n F ws).map PyData.int := by rw [List.nil_append]; rfl
  have eo : ([-1] ++ ((LN n).filter fun l => !overF F l).map (sumW ws)).map PyData.int = ([-1] ++ outL n F ws).map PyData.int := rfl
  rw [ew, eo] at eq
  have hwl : (ownL n F ws).length ≤ line := by
    unfold ownL
    rw [List.length_map]
    exact Nat.le_trans (List.length_filter_le _ _) hz
  generalize ho : ([-1] ++ outL n F ws).map PyData.int = O at eq em
  obtain ⟨W, hW⟩ : ∃ W, W = ownL n F ws := ⟨_, rfl⟩
  have ec := fun (o : Ent) (q : Option Ent) => list_ints (fi := seqM (eV 4)) (vs := [8, 6]) (g := setD 6) (ft := cmpM .Lt (eV 6) (eV 7)) (fe := eK (.int 1)) (ρ := [some (.dat (.int n)), some (.dat (fm F)), some (.dat (tp ws)), some o, some (.dat (.list (W.map PyData.int))), y5, q, some (.dat (.int (quoI n F ws))), none, none]) (ω := ω) (l := W) (fun a => decide (a < quoI n F ws)) (fun _ => .int 1)
    (by rw [hW]; simp [itemsD, hwl])
    (fun a ha => ⟨_, rfl, by simp [wipeR, cmpD, ltD], fun _ => by simp⟩)
  have eo1 : ((W.filter fun a => decide (a < quoI n F ws)).map fun _ => PyData.int 1) = ((W.filter fun a => decide (a < quoI n F ws)).map fun _ => (1 : Int)).map PyData.int := by rw [List.map_map]; rfl
  rw [eo1] at ec
  have en := eqD_nil ((W.filter fun a => decide (a < quoI n F ws)).map fun _ => (1 : Int))
  have ef : ((W.filter fun a => decide (a < quoI n F ws)).map fun _ => (1 : Int)).isEmpty = quoB n F ws := by
    rw [List.isEmpty_map]
    unfold quoB
    rw [← hW]
    cases h : W.filter fun a => decide (a < quoI n F ws) with
    | nil =>
      have : (W.all fun a => !decide (a < quoI n F ws)) = true := by
        rw [List.all_eq_true]
        intro a ha
        have := List.filter_eq_nil_iff.mp h a ha
        simpa using this
      rw [this]; rfl
    | cons x xs =>
      have hx : x ∈ W.filter fun a => decide (a < quoI n F ws) := by rw [h]; simp
      have h3 := List.mem_filter.mp hx
      have : (W.all fun a => !decide (a < quoI n F ws)) = false := by
        rw [List.all_eq_false]
        exact ⟨x, h3.1, by rw [h3.2]; simp⟩
      rw [this]; rfl
  rw [ef] at en
  rw [← hW] at eq
  clear ef eo1
  generalize ((W.filter fun a => decide (a < quoI n F ws)).map fun _ => (1 : Int)) = ys at ec en
  have hs : m__law_quota = callM 3 10 (seqS (parM [] (nLst (aC (eBin .Sub (eK (.int 0)) (eK (.int 1))) aN)) (nLst aN) 3 4)
  (seqS (loopM [0] (seqM (callE m__law_lots (consH (nameH 0) hN))) (setD 5) qB)
  (seqS (asgN [3] (nAdd (eBlt maxF (aC (eV 3) aN)) (eK (.int 1))) 7)
  (seqS (retM [4, 6, 7, 7] (eIf (cmpM .Eq (listM (seqM (eV 4)) [8, 6] (setD 6) (cmpM .Lt (eV 6) (eV 7)) (eK (.int 1))) (eLst aN)) (eLst (aC (eV 7) aN)) (eLst aN)))
  sN)))) := rfl
  rw [hs]
  simp only [List.map_cons, List.map_nil] at eq
  have p1 : parM [] (nLst (aC (eBin .Sub (eK (.int 0)) (eK (.int 1))) aN)) (nLst aN) 3 4 [some (.dat (.int n)), some (.dat (fm F)), some (.dat (tp ws)), none, none, none, none, none, none, none] ω
      = .ok (.nx [some (.dat (.int n)), some (.dat (fm F)), some (.dat (tp ws)), some (.own [.int (-1)]), some (.own []), none, none, none, none, none]) ω := by
    simp [parM, nvE, h0, h1, binD, subD]
  have ea : addN (.int ((outL n F ws).foldl max (-1))) (.int 1) = some (.inr (.int (quoI n F ws))) := rfl
  generalize quoI n F ws = k at *
  generalize quoB n F ws = b at *
  rcases h6 with rfl | ⟨d, rfl⟩ <;> cases b <;> simp [p1, e1, itemsD, hz, eq, em, ea, flat, ec, cmpD, en, h0, h1]
end
end Q

set_option maxHeartbeats 4000000
namespace Q
open PySem L2 LamX
/-! ### the law's own least weighing -/
def LD : Nat → Nat → List (List Int)
  | 0, _ => []
  | 1, t => [[(t : Int)]]
  | n + 2, t => (List.range (t + 1)).flatMap fun f => (LD (n + 1) (t - f)).map fun r => (f : Int) :: r
theorem ld1_0 (ω : Om) : m__law_loads [.dat (.int 1), .dat (.int 0)] ω = .ok (.list ((LD 1 0).map tp)) ω := by kernel_rfl
theorem ld1_1 (ω : Om) : m__law_loads [.dat (.int 1), .dat (.int 1)] ω = .ok (.list ((LD 1 1).map tp)) ω := by kernel_rfl
theorem ld1_2 (ω : Om) : m__law_loads [.dat (.int 1), .dat (.int 2)] ω = .ok (.list ((LD 1 2).map tp)) ω := by kernel_rfl
theorem ld1_3 (ω : Om) : m__law_loads [.dat (.int 1), .dat (.int 3)] ω = .ok (.list ((LD 1 3).map tp)) ω := by kernel_rfl
theorem ld1_4 (ω : Om) : m__law_loads [.dat (.int 1), .dat (.int 4)] ω = .ok (.list ((LD 1 4).map tp)) ω := by kernel_rfl
theorem ld1_5 (ω : Om) : m__law_loads [.dat (.int 1), .dat (.int 5)] ω = .ok (.list ((LD 1 5).map tp)) ω := by kernel_rfl
theorem ld1_6 (ω : Om) : m__law_loads [.dat (.int 1), .dat (.int 6)] ω = .ok (.list ((LD 1 6).map tp)) ω := by kernel_rfl
theorem ld1_7 (ω : Om) : m__law_loads [.dat (.int 1), .dat (.int 7)] ω = .ok (.list ((LD 1 7).map tp)) ω := by kernel_rfl
theorem ld1_8 (ω : Om) : m__law_loads [.dat (.int 1), .dat (.int 8)] ω = .ok (.list ((LD 1 8).map tp)) ω := by kernel_rfl
theorem ld1_9 (ω : Om) : m__law_loads [.dat (.int 1), .dat (.int 9)] ω = .ok (.list ((LD 1 9).map tp)) ω := by kernel_rfl
theorem ld1_10 (ω : Om) : m__law_loads [.dat (.int 1), .dat (.int 10)] ω = .ok (.list ((LD 1 10).map tp)) ω := by kernel_rfl
theorem ld2_0 (ω : Om) : m__law_loads [.dat (.int 2), .dat (.int 0)] ω = .ok (.list ((LD 2 0).map tp)) ω := by kernel_rfl
theorem ld2_1 (ω : Om) : m__law_loads [.dat (.int 2), .dat (.int 1)] ω = .ok (.list ((LD 2 1).map tp)) ω := by kernel_rfl
theorem ld2_2 (ω : Om) : m__law_loads [.dat (.int 2), .dat (.int 2)] ω = .ok (.list ((LD 2 2).map tp)) ω := by kernel_rfl
theorem ld2_3 (ω : Om) : m__law_loads [.dat (.int 2), .dat (.int 3)] ω = .ok (.list ((LD 2 3).map tp)) ω := by kernel_rfl
theorem ld2_4 (ω : Om) : m__law_loads [.dat (.int 2), .dat (.int 4)] ω = .ok (.list ((LD 2 4).map tp)) ω := by kernel_rfl
theorem ld2_5 (ω : Om) : m__law_loads [.dat (.int 2), .dat (.int 5)] ω = .ok (.list ((LD 2 5).map tp)) ω := by kernel_rfl
theorem ld2_6 (ω : Om) : m__law_loads [.dat (.int 2), .dat (.int 6)] ω = .ok (.list ((LD 2 6).map tp)) ω := by kernel_rfl
theorem ld2_7 (ω : Om) : m__law_loads [.dat (.int 2), .dat (.int 7)] ω = .ok (.list ((LD 2 7).map tp)) ω := by kernel_rfl
theorem ld2_8 (ω : Om) : m__law_loads [.dat (.int 2), .dat (.int 8)] ω = .ok (.list ((LD 2 8).map tp)) ω := by kernel_rfl
theorem ld2_9 (ω : Om) : m__law_loads [.dat (.int 2), .dat (.int 9)] ω = .ok (.list ((LD 2 9).map tp)) ω := by kernel_rfl
theorem ld2_10 (ω : Om) : m__law_loads [.dat (.int 2), .dat (.int 10)] ω = .ok (.list ((LD 2 10).map tp)) ω := by kernel_rfl
theorem ld3_0 (ω : Om) : m__law_loads [.dat (.int 3), .dat (.int 0)] ω = .ok (.list ((LD 3 0).map tp)) ω := by kernel_rfl
theorem ld3_1 (ω : Om) : m__law_loads [.dat (.int 3), .dat (.int 1)] ω = .ok (.list ((LD 3 1).map tp)) ω := by kernel_rfl
theorem ld3_2 (ω : Om) : m__law_loads [.dat (.int 3), .dat (.int 2)] ω = .ok (.list ((LD 3 2).map tp)) ω := by kernel_rfl
theorem ld3_3 (ω : Om) : m__law_loads [.dat (.int 3), .dat (.int 3)] ω = .ok (.list ((LD 3 3).map tp)) ω := by kernel_rfl
theorem ld3_4 (ω : Om) : m__law_loads [.dat (.int 3), .dat (.int 4)] ω = .ok (.list ((LD 3 4).map tp)) ω := by kernel_rfl
theorem ld3_5 (ω : Om) : m__law_loads [.dat (.int 3), .dat (.int 5)] ω = .ok (.list ((LD 3 5).map tp)) ω := by kernel_rfl
theorem ld3_6 (ω : Om) : m__law_loads [.dat (.int 3), .dat (.int 6)] ω = .ok (.list ((LD 3 6).map tp)) ω := by kernel_rfl
theorem ld3_7 (ω : Om) : m__law_loads [.dat (.int 3), .dat (.int 7)] ω = .ok (.list ((LD 3 7).map tp)) ω := by kernel_rfl
theorem ld3_8 (ω : Om) : m__law_loads [.dat (.int 3), .dat (.int 8)] ω = .ok (.list ((LD 3 8).map tp)) ω := by kernel_rfl
theorem ld3_9 (ω : Om) : m__law_loads [.dat (.int 3), .dat (.int 9)] ω = .ok (.list ((LD 3 9).map tp)) ω := by kernel_rfl
theorem ld3_10 (ω : Om) : m__law_loads [.dat (.int 3), .dat (.int 10)] ω = .ok (.list ((LD 3 10).map tp)) ω := by kernel_rfl
theorem ld4_0 (ω : Om) : m__law_loads [.dat (.int 4), .dat (.int 0)] ω = .ok (.list ((LD 4 0).map tp)) ω := by kernel_rfl
theorem ld4_1 (ω : Om) : m__law_loads [.dat (.int 4), .dat (.int 1)] ω = .ok (.list ((LD 4 1).map tp)) ω := by kernel_rfl
theorem ld4_2 (ω : Om) : m__law_loads [.dat (.int 4), .dat (.int 2)] ω = .ok (.list ((LD 4 2).map tp)) ω := by kernel_rfl
theorem ld4_3 (ω : Om) : m__law_loads [.dat (.int 4), .dat (.int 3)] ω = .ok (.list ((LD 4 3).map tp)) ω := by kernel_rfl
theorem ld4_4 (ω : Om) : m__law_loads [.dat (.int 4), .dat (.int 4)] ω = .ok (.list ((LD 4 4).map tp)) ω := by kernel_rfl
theorem ld4_5 (ω : Om) : m__law_loads [.dat (.int 4), .dat (.int 5)] ω = .ok (.list ((LD 4 5).map tp)) ω := by kernel_rfl
theorem ld4_6 (ω : Om) : m__law_loads [.dat (.int 4), .dat (.int 6)] ω = .ok (.list ((LD 4 6).map tp)) ω := by kernel_rfl
theorem ld4_7 (ω : Om) : m__law_loads [.dat (.int 4), .dat (.int 7)] ω = .ok (.list ((LD 4 7).map tp)) ω := by kernel_rfl
theorem ld4_8 (ω : Om) : m__law_loads [.dat (.int 4), .dat (.int 8)] ω = .ok (.list ((LD 4 8).map tp)) ω := by kernel_rfl
theorem ld4_9 (ω : Om) : m__law_loads [.dat (.int 4), .dat (.int 9)] ω = .ok (.list ((LD 4 9).map tp)) ω := by kernel_rfl
theorem ld4_10 (ω : Om) : m__law_loads [.dat (.int 4), .dat (.int 10)] ω = .ok (.list ((LD 4 10).map tp)) ω := by kernel_rfl
theorem four {n : Nat} (h : 1 ≤ n ∧ n ≤ 4) : n = 1 ∨ n = 2 ∨ n = 3 ∨ n = 4 := by omega
theorem elev {t : Nat} (h : t < 11) : t = 0 ∨ t = 1 ∨ t = 2 ∨ t = 3 ∨ t = 4 ∨ t = 5 ∨ t = 6 ∨ t = 7 ∨ t = 8 ∨ t = 9 ∨ t = 10 := by omega
theorem run_loads {n : Nat} (hn : 1 ≤ n ∧ n ≤ 4) {t : Nat} (ht : t < 11) (ω : Om) : m__law_loads [.dat (.int n), .dat (.int t)] ω = .ok (.list ((LD n t).map tp)) ω := by
  rcases four hn with rfl | rfl | rfl | rfl
  · rcases elev ht with rfl | rfl | rfl | rfl | rfl | rfl | rfl | rfl | rfl | rfl | rfl
    · exact ld1_0 ω
    · exact ld1_1 ω
    · exact ld1_2 ω
    · exact ld1_3 ω
    · exact ld1_4 ω
    · exact ld1_5 ω
    · exact ld1_6 ω
    · exact ld1_7 ω
    · exact ld1_8 ω
    · exact ld1_9 ω
    · exact ld1_10 ω
  · rcases elev ht with rfl | rfl | rfl | rfl | rfl | rfl | rfl | rfl | rfl | rfl | rfl
    · exact ld2_0 ω
    · exact ld2_1 ω
    · exact ld2_2 ω
    · exact ld2_3 ω
    · exact ld2_4 ω
    · exact ld2_5 ω
    · exact ld2_6 ω
    · exact ld2_7 ω
    · exact ld2_8 ω
    · exact ld2_9 ω
    · exact ld2_10 ω
  · rcases elev ht with rfl | rfl | rfl | rfl | rfl | rfl | rfl | rfl | rfl | rfl | rfl
    · exact ld3_0 ω
    · exact ld3_1 ω
    · exact ld3_2 ω
    · exact ld3_3 ω
    · exact ld3_4 ω
    · exact ld3_5 ω
    · exact ld3_6 ω
    · exact ld3_7 ω
    · exact ld3_8 ω
    · exact ld3_9 ω
    · exact ld3_10 ω
  · rcases elev ht with rfl | rfl | rfl | rfl | rfl | rfl | rfl | rfl | rfl | rfl | rfl
    · exact ld4_0 ω
    · exact ld4_1 ω
    · exact ld4_2 ω
    · exact ld4_3 ω
    · exact ld4_4 ω
    · exact ld4_5 ω
    · exact ld4_6 ω
    · exact ld4_7 ω
    · exact ld4_8 ω
    · exact ld4_9 ω
    · exact ld4_10 ω
theorem LD_len : ∀ (n t : Nat), ∀ L ∈ LD n t, L.length = n
  | 0, _, L, h => by cases h
  | 1, t, L, h => by rw [List.mem_singleton.mp h]; rfl
  | n + 2, t, L, h => by
    obtain ⟨f, _, h⟩ := List.mem_flatMap.mp h
    obtain ⟨r, hr, rfl⟩ := List.mem_map.mp h
    rw [List.length_cons, LD_len (n + 1) (t - f) r hr]
theorem LD_few {n : Nat} (hn : 1 ≤ n ∧ n ≤ 4) {t : Nat} (ht : t < 11) : (LD n t).length ≤ line := by
  have h : ((List.range 11).all fun t => ([1, 2, 3, 4].all fun n => decide ((LD n t).length ≤ 1000))) = true := by decide +kernel
  have h1 := List.all_eq_true.mp (List.all_eq_true.mp h t (List.mem_range.mpr ht)) n (by rcases four hn with rfl | rfl | rfl | rfl <;> simp)
  exact Nat.le_trans (of_decide_eq_true h1) (by decide)
/-- what is told by loads -/
def lwD (n : Nat) (F : List (List Int)) (L : List Int) : PyData := .list [.tuple [tp L, .int (quoI n F L)]]
def lwT (n : Nat) (F : List (List Int)) (t : Nat) : Option (List Int) := (LD n t).find? (quoB n F)
def lwA (n : Nat) (F : List (List Int)) : List Nat → Option (List Int)
  | [] => none
  | t :: ts => match lwT n F t with
    | some L => some L
    | none => lwA n F ts
def leastW (n : Nat) (F : List (List Int)) : PyData := match lwA n F (List.range 11) with
  | some L => lwD n F L
  | none => .list []
def lI : RF := seqS (asgN [0, 1, 3] (nD (callE m__law_quota (consH (nameH 0) (consH (nameH 1) (consH (nameH 3) hN))))) 4)
      (seqS (ifM [4] (cmpM .NotEq (eV 4) (eLst aN))
        (seqS (retM [3, 4] (eLst (aC (eTup (aC (eV 3) (aC (eIx (eV 4) (eK (.int 0))) aN))) aN)))
        sN)
        sN)
      sN)
def lO : RF := seqS (loopM [0, 2] (seqM (callE m__law_loads (consH (nameH 0) (consH (nameH 2) hN)))) (setD 3) lI) sN
theorem least_is : m__law_least = callM 2 5 (seqS (loopM [] (rng1M (aC (eK (.int 11)) aN)) (setD 2) lO) (seqS (retM [] (eLst aN)) sN)) := rfl
section
variable {n : Nat} (hn : 1 ≤ n ∧ n ≤ 4) {F : List (List Int)} (hF : Fam n F) (ω : Om)
include hn hF
theorem lI_run (t : Int) (L : List Int) (hL : L.length = n) (x4 : Option Ent) : lI [some (.dat (.int n)), some (.dat (fm F)), some (.dat (.int t)), some (.dat (tp L)), x4] ω =
    .ok (if quoB n F L then .rt (lwD n F L) else .nx [some (.dat (.int n)), some (.dat (fm F)), some (.dat (.int t)), some (.dat (tp L)), some (.dat (.list []))]) ω := by
  have e := run_quota (show 1 ≤ n ∧ n ≤ 5 by omega) hF hL ω
  have h0 : (0 : Nat) ≤ line := by decide
  have h1 : (1 : Nat) ≤ line := by decide
  have h2 : (2 : Nat) ≤ line := by decide
  unfold lwD
  generalize quoI n F L = q at e ⊢
  cases hb : quoB n F L with
  | true =>
    rw [hb] at e
    have en := eqD_nil [q]
    have ez : L2.atI [PyData.int q] 0 = some (.int q) := rfl
    simp [lI, e, flat, cmpD, h0, h1, h2, itemD, ez]
    rw [show eqD (.list [.int q]) (.list []) = some false from en]
    simp [flat, h0, h1, h2, itemD, ez]
  | false =>
    rw [hb] at e
    have en : eqD (.list []) (.list []) = some true := eqD_nil []
    simp [lI, e, flat, cmpD, h0, en]
theorem lI_go (t : Int) : ∀ (Ls : List (List Int)) (x3 x4 : Option Ent), (∀ L ∈ Ls, L.length = n) → ∃ y3 y4 : Option Ent, forM (setD 3) lI (Ls.map tp) [some (.dat (.int n)), some (.dat (fm F)), some (.dat (.int t)), x3, x4] ω =
    .ok (match Ls.find? (quoB n F) with | some L => .rt (lwD n F L) | none => .nx [some (.dat (.int n)), some (.dat (fm F)), some (.dat (.int t)), y3, y4]) ω
  | [], x3, x4, _ => ⟨x3, x4, rfl⟩
  | L :: Ls, x3, x4, h => by
    have e := lI_run hn hF ω t L (h L (by simp)) x4
    obtain ⟨y3, y4, ih⟩ := lI_go t Ls (some (.dat (tp L))) (some (.dat (.list []))) fun M hM => h M (by simp [hM])
    refine ⟨y3, y4, ?_⟩
    rw [List.map_cons, x_forM_cons]
    have eg : setD 3 (tp L) [some (.dat (.int n)), some (.dat (fm F)), some (.dat (.int t)), x3, x4] = some [some (.dat (.int n)), some (.dat (fm F)), some (.dat (.int t)), some (.dat (tp L)), x4] := rfl
    rw [eg, List.find?_cons]
    simp only [x_bind, x_get, e]
    cases hb : quoB n F L with
    | true => rfl
    | false => exact ih
theorem lO_go : ∀ (ts : List Nat) (x2 x3 x4 : Option Ent), (∀ t ∈ ts, t < 11) → ∃ y2 y3 y4 : Option Ent, forM (setD 2) lO (ts.map fun (t : Nat) => PyData.int t) [some (.dat (.int n)), some (.dat (fm F)), x2, x3, x4] ω =
    .ok (match lwA n F ts with | some L => .rt (lwD n F L) | none => .nx [some (.dat (.int n)), some (.dat (fm F)), y2, y3, y4]) ω
  | [], x2, x3, x4, _ => ⟨x2, x3, x4, rfl⟩
  | t :: ts, x2, x3, x4, h => by
    have ht := h t (by simp)
    have e1 := run_loads hn ht ω
    have hz := LD_few hn ht
    obtain ⟨z3, z4, e2⟩ := lI_go hn hF ω t (LD n t) x3 x4 (LD_len n t)
    obtain ⟨y2, y3, y4, ih⟩ := lO_go ts (some (.dat (.int t))) z3 z4 fun u hu => h u (by simp [hu])
    refine ⟨y2, y3, y4, ?_⟩
    rw [List.map_cons, x_forM_cons]
    have eg : setD 2 (PyData.int t) [some (.dat (.int n)), some (.dat (fm F)), x2, x3, x4] = some [some (.dat (.int n)), some (.dat (fm F)), some (.dat (.int t)), x3, x4] := rfl
    rw [eg]
    unfold lwA lwT
    have hl : (LD n t).length ≤ line := hz
    cases hf : (LD n t).find? (quoB n F) with
    | some L =>
      rw [hf] at e2
      have : lO [some (.dat (.int n)), some (.dat (fm F)), some (.dat (.int t)), x3, x4] ω = .ok (.rt (lwD n F L)) ω := by
        simp [lO, e1, itemsD, hl, e2]
      simp only [x_bind, x_get, this]
      rfl
    | none =>
      rw [hf] at e2
      have : lO [some (.dat (.int n)), some (.dat (fm F)), some (.dat (.int t)), x3, x4] ω = .ok (.nx [some (.dat (.int n)), some (.dat (fm F)), some (.dat (.int t)), z3, z4]) ω := by
        simp [lO, e1, itemsD, hl, e2]
      simp only [x_bind, x_get, this]
      exact ih
theorem run_least : m__law_least [.dat (.int n), .dat (fm F)] ω = .ok (leastW n F) ω := by
  obtain ⟨y2, y3, y4, e⟩ := lO_go hn hF ω (List.range 11) none none none fun t h => List.mem_range.mp h
  have er : rng1M (aC (eK (.int 11)) aN) [some (.dat (.int n)), some (.dat (fm F)), none, none, none] ω = .ok ((List.range 11).map fun (t : Nat) => PyData.int t) ω := by rfl
  have h0 : (0 : Nat) ≤ line := by decide
  rw [least_is]
  unfold leastW
  cases hf : lwA n F (List.range 11) with
  | some L =>
    rw [hf] at e
    simp [er, e]
  | none =>
    rw [hf] at e
    simp [er, e, h0]
end
end Q

set_option maxHeartbeats 4000000
namespace Q
open PySem L2 LamX
/-! ### data read back -/
def deI : PyData → Option Int
  | .int i => some i
  | _ => none
def deL : List PyData → Option (List Int)
  | [] => some []
  | d :: ds => match deI d, deL ds with
    | some i, some l => some (i :: l)
    | _, _ => none
def deT : PyData → Option (List Int)
  | .tuple ds => deL ds
  | _ => none
def deTs : List PyData → Option (List (List Int))
  | [] => some []
  | d :: ds => match deT d, deTs ds with
    | some i, some l => some (i :: l)
    | _, _ => none
def deF : PyData → Option (List (List Int))
  | .tuple ds => deTs ds
  | _ => none
theorem deL_ok : ∀ {ds : List PyData} {l : List Int}, deL ds = some l → ds = l.map PyData.int
  | [], l, h => by cases h; rfl
  | d :: ds, l, h => by
    unfold deL at h
    split at h
    · rename_i i m h1 h2
      cases h
      cases d <;> cases h1
      rw [deL_ok h2]; rfl
    · cases h
theorem deT_ok {d : PyData} {l : List Int} (h : deT d = some l) : d = tp l := by
  cases d <;> first | (cases h; done) | skip
  rw [deL_ok (show deL _ = some l from h)]; rfl
theorem deTs_ok : ∀ {ds : List PyData} {F : List (List Int)}, deTs ds = some F → ds = F.map tp
  | [], l, h => by cases h; rfl
  | d :: ds, l, h => by
    unfold deTs at h
    split at h
    · rename_i i m h1 h2
      cases h
      rw [deT_ok h1, deTs_ok h2]; rfl
    · cases h
theorem deF_ok {d : PyData} {F : List (List Int)} (h : deF d = some F) : d = fm F := by
  cases d <;> first | (cases h; done) | skip
  rw [deTs_ok (show deTs _ = some F from h)]; rfl
/-! ### leaves by functions -/
def smallF (F : List (List Int)) : Bool := Nat.ble F.length 1000 && F.all fun m => Nat.ble m.length 1000
theorem smallF_ok {F : List (List Int)} (h : smallF F = true) : F.length ≤ 1000 ∧ ∀ m ∈ F, m.length ≤ 1000 := by
  unfold smallF at h
  rw [Bool.and_eq_true, List.all_eq_true] at h
  exact ⟨Nat.le_of_ble_eq_true h.1, fun m hm => Nat.le_of_ble_eq_true (h.2 m hm)⟩
def io : List Ent → M PyData := fun es => match es with
  | [.dat d, .dat e] => (match deF d, deT e with
    | some F, some l => bif smallF F then fun ω => .ok (.bool (overF F l)) ω else m_is_over_one es
    | _, _ => m_is_over_one es)
  | _ => m_is_over_one es
theorem io_is : m_is_over_one = io := by
  funext es
  unfold io
  split
  · rename_i d e
    split
    · rename_i F l hF hl
      cases hs : smallF F with
      | false => rfl
      | true =>
        rw [deF_ok hF, deT_ok hl]
        funext ω
        exact run_is_over_one F l (smallF_ok hs).1 (smallF_ok hs).2 ω
    · rfl
  · rfl
def ha : List Ent → M PyData := fun es => match es with
  | [.dat d, .dat e] => (match deF d, deT e with
    | some F, some l => bif smallF F then fun ω => .ok (.bool (overF F l)) ω else m__law_has es
    | _, _ => m__law_has es)
  | _ => m__law_has es
theorem ha_is : m__law_has = ha := by
  funext es
  unfold ha
  split
  · rename_i d e
    split
    · rename_i F l hF hl
      cases hs : smallF F with
      | false => rfl
      | true =>
        rw [deF_ok hF, deT_ok hl]
        funext ω
        exact run_law_has F l (smallF_ok hs).1 (smallF_ok hs).2 ω
    · rfl
  · rfl
def inside (ws l : List Int) : Bool := Nat.ble l.length 1000 && l.all fun i => match i with | .ofNat k => Nat.blt k ws.length | _ => false
theorem inside_ok {ws l : List Int} (h : inside ws l = true) : l.length ≤ 1000 ∧ ∀ i ∈ l, 0 ≤ i ∧ i < ws.length := by
  unfold inside at h
  rw [Bool.and_eq_true, List.all_eq_true] at h
  refine ⟨Nat.le_of_ble_eq_true h.1, fun i hi => ?_⟩
  have := h.2 i hi
  cases i with
  | ofNat k =>
    have : k + 1 ≤ ws.length := Nat.le_of_ble_eq_true this
    constructor
    · exact Int.natCast_nonneg k
    · show (k : Int) < ws.length
      omega
  | negSucc k => cases this
def lo : List Ent → M PyData := fun es => match es with
  | [.dat d, .dat e] => (match deT d, deT e with
    | some ws, some l => bif inside ws l then fun ω => .ok (.int (sumW ws l)) ω else m_load_of es
    | _, _ => m_load_of es)
  | _ => m_load_of es
theorem run_load_of (ws l : List Int) (hl : l.length ≤ 1000) (h : ∀ i ∈ l, 0 ≤ i ∧ i < ws.length) (ω : Om) : m_load_of [.dat (tp ws), .dat (tp l)] ω = .ok (.int (sumW ws l)) ω := by
  have hz : l.length ≤ line := Nat.le_trans hl (by decide)
  have e := list_ints (fi := seqM (eV 1)) (vs := [2, 3]) (g := setD 3) (ft := tY) (fe := eIx (eV 0) (eV 3)) (ρ := [some (.dat (tp ws)), some (.dat (tp l)), none, none]) (ω := ω) (l := l) (fun _ => true) (fun i => .int (ws.getD i.toNat 0))
    (by simp [itemsD, tp, hz])
    (fun i hi => ⟨_, rfl, by simp, fun _ => by
      have ea := at_ints ws i (h i hi).1 (h i hi).2
      simp [wipeR, itemD, tp, ea]⟩)
  rw [List.filter_eq_self.mpr fun _ _ => rfl, map_map_int] at e
  unfold sumW
  generalize (l.map fun i => ws.getD i.toNat 0) = ys at e ⊢
  simp [m_load_of, e, sumF2, intsD_map]
theorem lo_is : m_load_of = lo := by
  funext es
  unfold lo
  split
  · rename_i d e
    split
    · rename_i ws l hF hl
      cases hs : inside ws l with
      | false => rfl
      | true =>
        rw [deT_ok hF, deT_ok hl]
        funext ω
        exact run_load_of ws l (inside_ok hs).1 (inside_ok hs).2 ω
    · rfl
  · rfl
/-! ### the texts over them -/
def p_lost_by : List Ent → M PyData := callM 3 4
  (seqS (loopM [0] (seqM (eV 0)) (setD 3)
    (seqS (ifM [2, 3, 1, 3, 0, 3, 2, 1] (andM (cmpM .In (eV 2) (eV 3)) (andM (cmpM .NotIn (eV 1) (eV 3)) (tNot (truM (callE io (consH (nameH 0) (consH (hD (callE m_exchanged (consH (nameH 3) (consH (nameH 2) (consH (nameH 1) hN))))) hN)))))))
      (seqS (retM [3] (eV 3))
      sN)
      sN)
    sN))
  (seqS (retM [] (eK .none))
  sN))
theorem pe_lost_by : m_lost_by = p_lost_by := by
  unfold m_lost_by p_lost_by
  rw [io_is]
def p_unlike_pair : List Ent → M PyData := callM 2 4
  (seqS (loopM [0] (rng1M (aC (eV 0) aN)) (setD 2)
    (seqS (loopM [2] (rng1M (aC (eV 2) aN)) (setD 3)
      (seqS (ifM [1, 2, 3, 1, 3, 2] (andM (cmpM .IsNot (callE p_lost_by (consH (nameH 1) (consH (nameH 2) (consH (nameH 3) hN)))) (eK .none)) (cmpM .IsNot (callE p_lost_by (consH (nameH 1) (consH (nameH 3) (consH (nameH 2) hN)))) (eK .none)))
        (seqS (retM [3, 2] (eTup (aC (eV 3) (aC (eV 2) aN))))
        sN)
        sN)
      sN))
    sN))
  (seqS (retM [] (eK .none))
  sN))
theorem pe_unlike_pair : m_unlike_pair = p_unlike_pair := by
  unfold m_unlike_pair p_unlike_pair
  rw [pe_lost_by]
def p_rows_by_strength : List Ent → M PyData := callM 2 8
  (seqS (asgN [] (nLst aN) 2)
  (seqS (asgN [0] (nD (eRg (eV 0))) 3)
  (seqS (whileM [3] (truM (eV 3))
    (seqS (asgN [6, 3, 1, 6, 7, 3] (listN (seqM (eV 3)) [5, 6] (setD 6) (truM (eBlt allF (aC (listM (seqM (eV 3)) [5, 7] (setD 7) tY (eCmp .Is (callE p_lost_by (consH (nameH 1) (consH (nameH 6) (consH (nameH 7) hN)))) (eK .none))) aN))) (eV 6)) 4)
    (seqS (appM 2 [4] (eBlt tupleF (aC (eV 4) aN)))
    (seqS (asgN [6, 3, 6, 4] (listN (seqM (eV 3)) [5, 6] (setD 6) (cmpM .NotIn (eV 6) (eV 4)) (eV 6)) 3)
    sN))) 1000)
  (seqS (retM [2] (eBlt tupleF (aC (eV 2) aN)))
  sN))))
theorem pe_rows_by_strength : m_rows_by_strength = p_rows_by_strength := by
  unfold m_rows_by_strength p_rows_by_strength
  rw [pe_lost_by]
def p_strength_rows : List Ent → M PyData := callM 2 2
  (seqS (dropM [0, 1] (callE m_need_family (consH (nameH 0) (consH (nameH 1) hN))))
  (seqS (ifM [0, 1] (cmpM .IsNot (callE p_unlike_pair (consH (nameH 0) (consH (nameH 1) hN))) (eK .none))
    (seqS (retM [] (eK .none))
    sN)
    sN)
  (seqS (retM [0, 1] (callE p_rows_by_strength (consH (nameH 0) (consH (nameH 1) hN))))
  sN)))
theorem pe_strength_rows : m_strength_rows = p_strength_rows := by
  unfold m_strength_rows p_strength_rows
  rw [pe_unlike_pair, pe_rows_by_strength]
def p_family_weighed : List Ent → M PyData := callM 3 5
  (seqS (retM [4, 0, 1, 4, 2] (callE m_least_of_closed (consH (hD (listM (seqM (callE m_all_subsets (consH (nameH 0) hN))) [3, 4] (setD 4) (cmpM .GtE (callE lo (consH (nameH 1) (consH (nameH 4) hN))) (eV 2)) (eV 4))) hN)))
  sN)
theorem pe_family_weighed : m_family_weighed = p_family_weighed := by
  unfold m_family_weighed p_family_weighed
  rw [lo_is]
def p_weighed_family : List Ent → M PyData := callM 2 2
  (seqS (dropM [0] (callE m_need_many (consH (nameH 0) hN)))
  (seqS (ifM [0, 1] (tNot (truM (callE m_is_weighing (consH (nameH 0) (consH (nameH 1) hN)))))
    (seqS (raiseM [] "BadPaper" "word" (eK (.str "weighing")))
    sN)
    sN)
  (seqS (retM [0, 1, 1] (callE p_family_weighed (consH (nameH 0) (consH (hD (eIx (eV 1) (eK (.int 0)))) (consH (hD (eIx (eV 1) (eK (.int 1)))) hN)))))
  sN)))
theorem pe_weighed_family : m_weighed_family = p_weighed_family := by
  unfold m_weighed_family p_weighed_family
  rw [pe_family_weighed]
def p_is_weighed : List Ent → M PyData := callM 2 2
  (seqS (dropM [0, 1] (callE m_need_family (consH (nameH 0) (consH (nameH 1) hN))))
  (seqS (retM [0, 1] (eCmp .Is (callE p_unlike_pair (consH (nameH 0) (consH (nameH 1) hN))) (eK .none)))
  sN))
theorem pe_is_weighed : m_is_weighed = p_is_weighed := by
  unfold m_is_weighed p_is_weighed
  rw [pe_unlike_pair]
def p_low_loads : List Ent → M PyData := callM 2 8
  (seqS (asgN [0] (repN (aC (eK (.int 0)) aN) (eV 0)) 2)
  (seqS (asgN [] (nD (eK (.int 0))) 3)
  (seqS (loopM [0, 1] (revM (callE p_rows_by_strength (consH (nameH 0) (consH (nameH 1) hN)))) (setD 4)
    (seqS (ifM [3, 4, 7, 1] (orM (cmpM .Gt (eV 3) (eK (.int 0))) (truM (eBlt anyF (aC (listM (seqM (eV 1)) [6, 7] (setD 7) tY (eCmp .In (eIx (eV 4) (eK (.int 0))) (eV 7))) aN))))
      (seqS (augM [] 3 (fun i j => i + j) (eK (.int 1)))
      sN)
      sN)
    (seqS (loopM [4] (seqM (eV 4)) (setD 5)
      (seqS (storeM 2 [3] [5] (eV 3) (eV 5))
      sN))
    sN)))
  (seqS (retM [2] (eBlt tupleF (aC (eV 2) aN)))
  sN))))
theorem pe_low_loads : m_low_loads = p_low_loads := by
  unfold m_low_loads p_low_loads
  rw [pe_rows_by_strength]
def p_least_quota : List Ent → M PyData := callM 3 6
  (seqS (asgN [2, 5, 1] (nD (maxDM (listM (seqM (eV 1)) [4, 5] (setD 5) tY (eBin .Add (callE lo (consH (nameH 2) (consH (nameH 5) hN))) (eK (.int 1)))) (eK (.int 0)))) 3)
  (seqS (ifM [2, 5, 3, 0] (truM (eBlt allF (aC (listM (seqM (eV 0)) [4, 5] (setD 5) tY (eCmp .GtE (callE lo (consH (nameH 2) (consH (nameH 5) hN))) (eV 3))) aN)))
    (seqS (retM [3] (eV 3))
    sN)
    sN)
  (seqS (retM [] (eK .none))
  sN)))
theorem pe_least_quota : m_least_quota = p_least_quota := by
  unfold m_least_quota p_least_quota
  rw [lo_is]
def p_found_weighing : List Ent → M PyData := callM 2 9
  (seqS (asgN [8, 0, 1, 8] (listN (seqM (callE m_all_subsets (consH (nameH 0) hN))) [7, 8] (setD 8) (tNot (truM (callE io (consH (nameH 1) (consH (nameH 8) hN))))) (eV 8)) 2)
  (seqS (asgN [0, 1] (nD (callE p_low_loads (consH (nameH 0) (consH (nameH 1) hN)))) 3)
  (seqS (loopM [3, 0] (rng2M (aC (eBlt sumF2 (aC (eV 3) aN)) (aC (eBin .Add (eBin .Mult (eK (.int 99)) (eV 0)) (eK (.int 1))) aN))) (setD 4)
    (seqS (loopM [3, 4] (seqM (callE m_loads_summing (consH (nameH 3) (consH (nameH 4) hN)))) (setD 5)
      (seqS (asgN [1, 2, 5] (nD (callE p_least_quota (consH (nameH 1) (consH (nameH 2) (consH (nameH 5) hN))))) 6)
      (seqS (ifM [6] (cmpM .IsNot (eV 6) (eK .none))
        (seqS (retM [5, 6] (eTup (aC (eV 5) (aC (eV 6) aN))))
        sN)
        sN)
      sN)))
    sN))
  (seqS (retM [] (eK .none))
  sN))))
theorem pe_found_weighing : m_found_weighing = p_found_weighing := by
  unfold m_found_weighing p_found_weighing
  rw [io_is, pe_low_loads, pe_least_quota]
def p_least_weighing : List Ent → M PyData := callM 2 2
  (seqS (ifM [0, 1] (tNot (truM (callE p_is_weighed (consH (nameH 0) (consH (nameH 1) hN)))))
    (seqS (retM [] (eK .none))
    sN)
    sN)
  (seqS (retM [0, 1] (callE p_found_weighing (consH (nameH 0) (consH (nameH 1) hN))))
  sN))
theorem pe_least_weighing : m_least_weighing = p_least_weighing := by
  unfold m_least_weighing p_least_weighing
  rw [pe_is_weighed, pe_found_weighing]
def p_full_weighing : List Ent → M PyData := callM 2 7
  (seqS (asgN [0, 1] (nD (callE p_least_weighing (consH (nameH 0) (consH (nameH 1) hN)))) 2)
  (seqS (ifM [2] (cmpM .Is (eV 2) (eK .none))
    (seqS (retM [] (eK .none))
    sN)
    sN)
  (seqS (asgM [2] (eV 2) (tupG 2 (consG (setD 3) (consG (setD 4) nilG))))
  (seqS (retM [6, 3, 4] (eTup (aC (eBlt tupleF (aC (listM (seqM (eV 3)) [5, 6] (setD 6) tY (eBin .Add (eBin .Mult (eK (.int 6)) (eV 6)) (eK (.int 1)))) aN)) (aC (eBin .Mult (eK (.int 6)) (eV 4)) aN))))
  sN))))
theorem pe_full_weighing : m_full_weighing = p_full_weighing := by
  unfold m_full_weighing p_full_weighing
  rw [pe_least_weighing]
def p_weighing_paper : List Ent → M PyData := callM 2 9
  (seqS (dropM [0, 1] (callE m_need_family (consH (nameH 0) (consH (nameH 1) hN))))
  (seqS (asgN [0, 1] (nD (callE p_unlike_pair (consH (nameH 0) (consH (nameH 1) hN)))) 2)
  (seqS (ifM [2] (cmpM .Is (eV 2) (eK .none))
    (seqS (asgM [0, 1] (callE p_found_weighing (consH (nameH 0) (consH (nameH 1) hN))) (tupG 2 (consG (setD 3) (consG (setD 4) nilG))))
    (seqS (retM [3, 4] (eTup (aC (eK (.str "loads")) (aC (eV 3) (aC (eV 4) aN)))))
    sN))
    sN)
  (seqS (asgM [2] (eV 2) (tupG 2 (consG (setD 5) (consG (setD 6) nilG))))
  (seqS (asgN [1, 6, 5] (nD (callE p_lost_by (consH (nameH 1) (consH (nameH 6) (consH (nameH 5) hN))))) 7)
  (seqS (asgN [1, 5, 6] (nD (callE p_lost_by (consH (nameH 1) (consH (nameH 5) (consH (nameH 6) hN))))) 8)
  (seqS (retM [7, 8, 5, 6] (eTup (aC (eK (.str "swap")) (aC (eV 7) (aC (eV 8) (aC (eV 5) (aC (eV 6) aN)))))))
  sN)))))))
theorem pe_weighing_paper : m_weighing_paper = p_weighing_paper := by
  unfold m_weighing_paper p_weighing_paper
  rw [pe_lost_by, pe_unlike_pair, pe_found_weighing]
def p_do_loads_hold : List Ent → M PyData := callM 4 4
  (seqS (retM [0, 2, 3, 0, 2, 3, 1] (andTM (callE m_is_weighing (consH (nameH 0) (consH (hD (eTup (aC (eV 2) (aC (eV 3) aN)))) hN))) (eCmp .Eq (callE p_family_weighed (consH (nameH 0) (consH (nameH 2) (consH (nameH 3) hN)))) (eV 1))))
  sN)
theorem pe_do_loads_hold : m_do_loads_hold = p_do_loads_hold := by
  unfold m_do_loads_hold p_do_loads_hold
  rw [pe_family_weighed]
def p_does_swap_hold : List Ent → M PyData := callM 3 7
  (seqS (asgM [2] (eV 2) (tupG 4 (consG (setD 3) (consG (setD 4) (consG (setD 5) (consG (setD 6) nilG))))))
  (seqS (ifM [0, 3, 0, 4] (orM (truM (callE m_subset_fault (consH (nameH 0) (consH (nameH 3) hN)))) (truM (callE m_subset_fault (consH (nameH 0) (consH (nameH 4) hN)))))
    (seqS (retM [] (eK (.bool false)))
    sN)
    sN)
  (seqS (ifM [5, 0, 6, 0] (orM (tNot (truM (callE m_is_integer_from (consH (nameH 5) (consH (hD (eK (.int 0))) (consH (hD (eBin .Sub (eV 0) (eK (.int 1)))) hN)))))) (tNot (truM (callE m_is_integer_from (consH (nameH 6) (consH (hD (eK (.int 0))) (consH (hD (eBin .Sub (eV 0) (eK (.int 1)))) hN)))))))
    (seqS (retM [] (eK (.bool false)))
    sN)
    sN)
  (seqS (ifM [5, 3, 5, 4, 6, 3, 6, 4] (orM (cmpM .NotIn (eV 5) (eV 3)) (orM (cmpM .In (eV 5) (eV 4)) (orM (cmpM .In (eV 6) (eV 3)) (cmpM .NotIn (eV 6) (eV 4)))))
    (seqS (retM [] (eK (.bool false)))
    sN)
    sN)
  (seqS (ifM [1, 3, 1, 4] (orM (tNot (truM (callE io (consH (nameH 1) (consH (nameH 3) hN))))) (tNot (truM (callE io (consH (nameH 1) (consH (nameH 4) hN))))))
    (seqS (retM [] (eK (.bool false)))
    sN)
    sN)
  (seqS (ifM [1, 3, 5, 6] (truM (callE io (consH (nameH 1) (consH (hD (callE m_exchanged (consH (nameH 3) (consH (nameH 5) (consH (nameH 6) hN))))) hN))))
    (seqS (retM [] (eK (.bool false)))
    sN)
    sN)
  (seqS (retM [1, 4, 6, 5] (notM (callE io (consH (nameH 1) (consH (hD (callE m_exchanged (consH (nameH 4) (consH (nameH 6) (consH (nameH 5) hN))))) hN)))))
  sN)))))))
theorem pe_does_swap_hold : m_does_swap_hold = p_does_swap_hold := by
  unfold m_does_swap_hold p_does_swap_hold
  rw [io_is]
def p_check_weighing : List Ent → M PyData := callM 3 5
  (seqS (dropM [0, 1] (callE m_need_family (consH (nameH 0) (consH (nameH 1) hN))))
  (seqS (asgN [2] (nD (callE m_need_paper_form (consH (nameH 2) hN))) 3)
  (seqS (ifM [3] (cmpM .Eq (eV 3) (eK (.str "loads")))
    (seqS (asgN [0, 1, 2, 2] (nD (callE p_do_loads_hold (consH (nameH 0) (consH (nameH 1) (consH (hD (eIx (eV 2) (eK (.int 1)))) (consH (hD (eIx (eV 2) (eK (.int 2)))) hN)))))) 4)
    sN)
    (seqS (asgN [0, 1, 2] (nD (callE p_does_swap_hold (consH (nameH 0) (consH (nameH 1) (consH (hD (eCut (eV 2) (intM (eK (.int 1))) oN)) hN))))) 4)
    sN))
  (seqS (ifM [4] (tNot (truM (eV 4)))
    (seqS (raiseM [3] "BadPaper" "word" (eV 3))
    sN)
    sN)
  (seqS (retM [3] (eV 3))
  sN)))))
theorem pe_check_weighing : m_check_weighing = p_check_weighing := by
  unfold m_check_weighing p_check_weighing
  rw [pe_do_loads_hold, pe_does_swap_hold]
def p__law_quota : List Ent → M PyData := callM 3 10
  (seqS (parM [] (nLst (aC (eBin .Sub (eK (.int 0)) (eK (.int 1))) aN)) (nLst aN) 3 4)
  (seqS (loopM [0] (seqM (callE m__law_lots (consH (nameH 0) hN))) (setD 5)
    (seqS (asgN [2, 9, 5] (nD (eBlt sumF2 (aC (listM (seqM (eV 5)) [8, 9] (setD 9) tY (eIx (eV 2) (eV 9))) aN))) 6)
    (seqS (ifM [1, 5] (truM (callE ha (consH (nameH 1) (consH (nameH 5) hN))))
      (seqS (appM 4 [6] (eV 6))
      sN)
      (seqS (appM 3 [6] (eV 6))
      sN))
    sN)))
  (seqS (asgN [3] (nAdd (eBlt maxF (aC (eV 3) aN)) (eK (.int 1))) 7)
  (seqS (retM [4, 6, 7, 7] (eIf (cmpM .Eq (listM (seqM (eV 4)) [8, 6] (setD 6) (cmpM .Lt (eV 6) (eV 7)) (eK (.int 1))) (eLst aN)) (eLst (aC (eV 7) aN)) (eLst aN)))
  sN))))
theorem pe__law_quota : m__law_quota = p__law_quota := by
  unfold m__law_quota p__law_quota
  rw [ha_is]
def p__law_is_apart : List Ent → M PyData := callM 2 8
  (seqS (loopM [0] (rng1M (aC (eV 0) aN)) (setD 2)
    (seqS (loopM [2] (rng1M (aC (eV 2) aN)) (setD 3)
      (seqS (asgN [] (nLst (aC (eK (.bool false)) (aC (eK (.bool false)) aN))) 4)
      (seqS (loopM [0] (seqM (callE m__law_lots (consH (nameH 0) hN))) (setD 5)
        (seqS (ifM [1, 5, 2, 5, 3, 5] (andM (truM (callE ha (consH (nameH 1) (consH (nameH 5) hN)))) (cmpM .NotEq (eCmp .In (eV 2) (eV 5)) (eCmp .In (eV 3) (eV 5))))
          (seqS (asgM [2, 5, 2, 3, 3, 2] (eIf (cmpM .In (eV 2) (eV 5)) (eTup (aC (eV 2) (aC (eV 3) aN))) (eTup (aC (eV 3) (aC (eV 2) aN)))) (tupG 2 (consG (setD 6) (consG (setD 7) nilG))))
          (seqS (ifM [1, 5, 7, 6] (tNot (truM (callE ha (consH (nameH 1) (consH (hD (callE m__law_swapped (consH (nameH 5) (consH (nameH 7) (consH (nameH 6) hN))))) hN)))))
            (seqS (storeM 4 [] [2, 5] (eK (.bool true)) (eBlt intF (aC (eCmp .In (eV 2) (eV 5)) aN)))
            sN)
            sN)
          sN))
          sN)
        sN))
      (seqS (ifM [4] (cmpM .Eq (eV 4) (eLst (aC (eK (.bool true)) (aC (eK (.bool true)) aN))))
        (seqS (retM [] (eK (.bool true)))
        sN)
        sN)
      sN))))
    sN))
  (seqS (retM [] (eK (.bool false)))
  sN))
theorem pe__law_is_apart : m__law_is_apart = p__law_is_apart := by
  unfold m__law_is_apart p__law_is_apart
  rw [ha_is]
def p__law_paper_right : List Ent → M PyData := callM 4 11
  (seqS (ifM [2, 3] (cmpM .NotEq (eIx (eV 2) (eK (.int 0))) (eIx (eLst (aC (eK (.str "swap")) (aC (eK (.str "loads")) aN))) (eBlt intF (aC (eV 3) aN))))
    (seqS (retM [] (eK (.bool false)))
    sN)
    sN)
  (seqS (ifM [3] (truM (eV 3))
    (seqS (asgN [4, 0, 2, 5, 4, 2] (listN (seqM (callE m__law_lots (consH (nameH 0) hN))) [10, 4] (setD 4) (cmpM .GtE (eBlt sumF2 (aC (listM (seqM (eV 4)) [10, 5] (setD 5) tY (eIx (eIx (eV 2) (eK (.int 1))) (eV 5))) aN)) (eIx (eV 2) (eK (.int 2)))) (eV 4)) 6)
    (seqS (retM [6, 1, 0, 1, 2] (andTM (eCmp .Eq (callE m__law_bare (consH (nameH 6) hN)) (eV 1)) (eCmp .Eq (callE p_check_weighing (consH (nameH 0) (consH (nameH 1) (consH (nameH 2) hN)))) (eK (.str "loads")))))
    sN))
    sN)
  (seqS (asgM [2] (eV 2) (tupG 5 (consG (setD 7) (consG (setD 4) (consG (setD 8) (consG (setD 5) (consG (setD 9) nilG)))))))
  (seqS (ifM [1, 4, 1, 8] (orM (tNot (truM (callE ha (consH (nameH 1) (consH (nameH 4) hN))))) (tNot (truM (callE ha (consH (nameH 1) (consH (nameH 8) hN))))))
    (seqS (retM [] (eK (.bool false)))
    sN)
    sN)
  (seqS (ifM [5, 4, 5, 8, 9, 8, 9, 4] (orM (cmpM .NotIn (eV 5) (eV 4)) (orM (cmpM .In (eV 5) (eV 8)) (orM (cmpM .NotIn (eV 9) (eV 8)) (cmpM .In (eV 9) (eV 4)))))
    (seqS (retM [] (eK (.bool false)))
    sN)
    sN)
  (seqS (ifM [1, 4, 9, 5] (truM (callE ha (consH (nameH 1) (consH (hD (callE m__law_swapped (consH (nameH 4) (consH (nameH 9) (consH (nameH 5) hN))))) hN))))
    (seqS (retM [] (eK (.bool false)))
    sN)
    sN)
  (seqS (ifM [1, 8, 5, 9] (truM (callE ha (consH (nameH 1) (consH (hD (callE m__law_swapped (consH (nameH 8) (consH (nameH 5) (consH (nameH 9) hN))))) hN))))
    (seqS (retM [] (eK (.bool false)))
    sN)
    sN)
  (seqS (retM [0, 1, 2] (eCmp .Eq (callE p_check_weighing (consH (nameH 0) (consH (nameH 1) (consH (nameH 2) hN)))) (eK (.str "swap"))))
  sN))))))))
theorem pe__law_paper_right : m__law_paper_right = p__law_paper_right := by
  unfold m__law_paper_right p__law_paper_right
  rw [pe_check_weighing, ha_is]
end Q

set_option maxHeartbeats 4000000
namespace Q
open PySem L2 LamX
/-! ### quotas of four members, by numbers -/
def mxI : Int → List Bool → List Int → Int
  | q, b :: bs, s :: ss => mxI (if b then q else max q s) bs ss
  | q, _, _ => q
def alI (q : Int) : List Bool → List Int → Bool
  | b :: bs, s :: ss => (!b || !decide (s < q)) && alI q bs ss
  | _, _ => true
def mxN : Nat → List Bool → List Nat → Nat
  | q, b :: bs, s :: ss => (fun r => Nat.rec (motive := fun _ => Nat) (mxN 0 bs ss) (fun k _ => mxN (k + 1) bs ss) r) (bif b then q else bif Nat.ble q s then s + 1 else q)
  | q, _, _ => q
def alN (q : Nat) : List Bool → List Nat → Bool
  | b :: bs, s :: ss => bif b && Nat.blt s q then false else alN q bs ss
  | _, _ => true
theorem mxN_cons (q : Nat) (b : Bool) (bs : List Bool) (s : Nat) (ss : List Nat) : mxN q (b :: bs) (s :: ss) = mxN (bif b then q else bif Nat.ble q s then s + 1 else q) bs ss := by
  show Nat.rec (motive := fun _ => Nat) (mxN 0 bs ss) (fun k _ => mxN (k + 1) bs ss) (bif b then q else bif Nat.ble q s then s + 1 else q) = _
  cases (bif b then q else bif Nat.ble q s then s + 1 else q) <;> rfl
theorem mx_filter {α : Type} (f : α → Bool) (g : α → Int) : ∀ (ls : List α) (q : Int), ((ls.filter fun l => !f l).map g).foldl max q = mxI q (ls.map f) (ls.map g)
  | [], q => rfl
  | l :: ls, q => by
    rw [List.map_cons, List.map_cons, mxI, ← mx_filter f g ls]
    cases h : f l <;> simp [List.filter_cons, h]
theorem al_filter {α : Type} (f : α → Bool) (g : α → Int) (q : Int) : ∀ (ls : List α), ((ls.filter fun l => f l).map g).all (fun a => !decide (a < q)) = alI q (ls.map f) (ls.map g)
  | [] => rfl
  | l :: ls => by
    rw [List.map_cons, List.map_cons, alI, ← al_filter f g q ls]
    cases h : f l <;> simp [List.filter_cons, h]
theorem mx_nat : ∀ (bs : List Bool) (ss : List Nat) (q : Nat), mxI ((q : Int) - 1) bs (ss.map Int.ofNat) + 1 = (mxN q bs ss : Int)
  | [], ss, q => by simp [mxI, mxN]
  | _ :: _, [], q => by simp [mxI, mxN]
  | b :: bs, s :: ss, q => by
    rw [List.map_cons, mxI, mxN_cons]
    have e : (if b = true then (q : Int) - 1 else max ((q : Int) - 1) (Int.ofNat s)) = (((bif b then q else bif Nat.ble q s then s + 1 else q) : Nat) : Int) - 1 := by
      cases b with
      | true => rfl
      | false =>
        show max ((q : Int) - 1) (s : Int) = (((bif Nat.ble q s then s + 1 else q) : Nat) : Int) - 1
        cases h : Nat.ble q s with
        | true =>
          have := Nat.le_of_ble_eq_true h
          show _ = ((s + 1 : Nat) : Int) - 1
          omega
        | false =>
          have : ¬ q ≤ s := fun z => by rw [Nat.ble_eq_true_of_le z] at h; cases h
          show _ = (q : Int) - 1
          omega
    rw [e]
    exact mx_nat bs ss _
theorem al_nat (q : Nat) : ∀ (bs : List Bool) (ss : List Nat), alI q bs (ss.map Int.ofNat) = alN q bs ss
  | [], ss => by simp [alI, alN]
  | _ :: _, [] => by simp [alI, alN]
  | b :: bs, s :: ss => by
    rw [List.map_cons, alI, alN, al_nat q bs ss]
    have e : decide ((Int.ofNat s) < (q : Int)) = Nat.blt s q := by
      cases h : Nat.blt s q with
      | true =>
        have : s < q := Nat.le_of_ble_eq_true h
        exact decide_eq_true (by show (s : Int) < q; omega)
      | false =>
        have : ¬ s < q := fun z => by
          have h2 : Nat.blt s q = true := Nat.ble_eq_true_of_le z
          rw [h2] at h; cases h
        exact decide_eq_false (by show ¬ (s : Int) < q; omega)
    rw [e]
    cases b <;> cases Nat.blt s q <;> rfl
def sum4 (a b c d : Nat) : List Nat := [0, a, a + b, a + b + c, a + b + c + d, a + b + d, a + c, a + c + d, a + d, b, b + c, b + c + d, b + d, c, c + d, d]
theorem LN4 : LN 4 = [[], [0], [0, 1], [0, 1, 2], [0, 1, 2, 3], [0, 1, 3], [0, 2], [0, 2, 3], [0, 3], [1], [1, 2], [1, 2, 3], [1, 3], [2], [2, 3], [3]] := by decide +kernel
theorem sums4 (a b c d : Nat) : (LN 4).map (sumW [(a : Int), b, c, d]) = (sum4 a b c d).map Int.ofNat := by
  rw [LN4]
  simp [sumW, sum4]
  omega
def bsF (F : List (List Int)) : List Bool := (LN 4).map (overF F)
theorem quoI_nat (F : List (List Int)) (a b c d : Nat) : quoI 4 F [(a : Int), b, c, d] = (mxN 0 (bsF F) (sum4 a b c d) : Int) := by
  unfold quoI outL
  rw [mx_filter, sums4]
  exact mx_nat (bsF F) (sum4 a b c d) 0
theorem quoB_nat (F : List (List Int)) (a b c d : Nat) : quoB 4 F [(a : Int), b, c, d] = alN (mxN 0 (bsF F) (sum4 a b c d)) (bsF F) (sum4 a b c d) := by
  unfold quoB
  rw [quoI_nat]
  unfold ownL
  rw [al_filter, sums4]
  exact al_nat _ _ _
/-- a strict look -/
def look4 (bs : List Bool) (ss : List Nat) : Option Nat := Nat.rec (motive := fun _ => Option Nat) (bif alN 0 bs ss then some 0 else none) (fun k _ => bif alN (k + 1) bs ss then some (k + 1) else none) (mxN 0 bs ss)
theorem look4_eq (bs : List Bool) (ss : List Nat) : look4 bs ss = bif alN (mxN 0 bs ss) bs ss then some (mxN 0 bs ss) else none := by
  unfold look4
  cases mxN 0 bs ss <;> rfl
def find4 (bs : List Bool) : List (List Int) → Option (List Int × Nat)
  | [.ofNat a, .ofNat b, .ofNat c, .ofNat d] :: Ls => (match look4 bs (sum4 a b c d) with
    | some q => some ([.ofNat a, .ofNat b, .ofNat c, .ofNat d], q)
    | none => find4 bs Ls)
  | _ => none
def first4 (bs : List Bool) : List Nat → Option (List Int × Nat)
  | [] => none
  | t :: ts => match find4 bs (LD 4 t) with
    | some r => some r
    | none => first4 bs ts
def leastN (F : List (List Int)) : PyData := match first4 (bsF F) (List.range 11) with
  | some (L, q) => .list [.tuple [tp L, .int q]]
  | none => .list []
theorem find4_ok (F : List (List Int)) : ∀ (Ls : List (List Int)), (∀ L ∈ Ls, ∃ a b c d : Nat, L = [(a : Int), b, c, d]) → find4 (bsF F) Ls = (Ls.find? (quoB 4 F)).map fun L => (L, (quoI 4 F L).toNat)
  | [], _ => rfl
  | L :: Ls, h => by
    obtain ⟨a, b, c, d, rfl⟩ := h L (by simp)
    have ih := find4_ok F Ls fun M hM => h M (by simp [hM])
    show (match look4 (bsF F) (sum4 a b c d) with
      | some q => some ([Int.ofNat a, Int.ofNat b, Int.ofNat c, Int.ofNat d], q)
      | none => find4 (bsF F) Ls) = _
    rw [look4_eq, List.find?_cons, quoB_nat, ih]
    cases hb : alN (mxN 0 (bsF F) (sum4 a b c d)) (bsF F) (sum4 a b c d) with
    | true =>
      show some ([Int.ofNat a, Int.ofNat b, Int.ofNat c, Int.ofNat d], mxN 0 (bsF F) (sum4 a b c d)) = some ([(a : Int), b, c, d], (quoI 4 F [(a : Int), b, c, d]).toNat)
      rw [quoI_nat]
      rfl
    | false => rfl
theorem LD4 : ∀ (t : Nat), ∀ L ∈ LD 4 t, ∃ a b c d : Nat, L = [(a : Int), b, c, d] := fun t L h => by
  obtain ⟨a, _, h⟩ := List.mem_flatMap.mp h
  obtain ⟨r1, hr1, rfl⟩ := List.mem_map.mp h
  obtain ⟨b, _, h2⟩ := List.mem_flatMap.mp hr1
  obtain ⟨r2, hr2, rfl⟩ := List.mem_map.mp h2
  obtain ⟨c, _, h3⟩ := List.mem_flatMap.mp hr2
  obtain ⟨r3, hr3, rfl⟩ := List.mem_map.mp h3
  exact ⟨a, b, c, _, by rw [List.mem_singleton.mp hr3]⟩
theorem first4_ok (F : List (List Int)) : ∀ ts : List Nat, first4 (bsF F) ts = (lwA 4 F ts).map fun L => (L, (quoI 4 F L).toNat)
  | [] => rfl
  | t :: ts => by
    unfold first4 lwA lwT
    rw [find4_ok F (LD 4 t) (LD4 t), first4_ok F ts]
    cases (LD 4 t).find? (quoB 4 F) <;> rfl
theorem lwA_mem {F : List (List Int)} : ∀ {ts : List Nat} {L : List Int}, lwA 4 F ts = some L → ∃ a b c d : Nat, L = [(a : Int), b, c, d]
  | [], L, h => by cases h
  | t :: ts, L, h => by
    unfold lwA lwT at h
    cases hf : (LD 4 t).find? (quoB 4 F) with
    | some M =>
      rw [hf] at h
      cases h
      exact LD4 t _ (List.mem_of_find?_eq_some hf)
    | none =>
      rw [hf] at h
      exact lwA_mem h
theorem leastN_ok (F : List (List Int)) : leastW 4 F = leastN F := by
  unfold leastN leastW
  rw [first4_ok]
  cases h : lwA 4 F (List.range 11) with
  | none => rfl
  | some L =>
    obtain ⟨a, b, c, d, rfl⟩ := lwA_mem h
    show lwD 4 F _ = .list [.tuple [tp _, .int ((quoI 4 F [(a : Int), b, c, d]).toNat : Nat)]]
    unfold lwD
    rw [quoI_nat]
    rfl
end Q

set_option maxHeartbeats 4000000
namespace Q
open PySem L2 LamX
/-! ### each family, one by one -/
def frB (LE : List Ent → M PyData) : List Ent → M PyData := callM 2 7
  (seqS (asgN [0, 1] (nD (notM (callE p__law_is_apart (consH (nameH 0) (consH (nameH 1) hN))))) 2)
  (seqS (ifM [0, 1, 2, 0, 1, 2] (orM (cmpM .NotEq (callE p_is_weighed (consH (nameH 0) (consH (nameH 1) hN))) (eV 2)) (cmpM .Eq (eCmp .Is (callE p_strength_rows (consH (nameH 0) (consH (nameH 1) hN))) (eK .none)) (eV 2)))
    (seqS (retM [] (eK (.bool false)))
    sN)
    sN)
  (seqS (ifM [0, 1, 0, 1, 2] (tNot (truM (callE p__law_paper_right (consH (nameH 0) (consH (nameH 1) (consH (hD (callE p_weighing_paper (consH (nameH 0) (consH (nameH 1) hN)))) (consH (nameH 2) hN)))))))
    (seqS (retM [] (eK (.bool false)))
    sN)
    sN)
  (seqS (parM [0, 1, 0, 1] (nD (callE p_least_weighing (consH (nameH 0) (consH (nameH 1) hN)))) (nD (callE p_full_weighing (consH (nameH 0) (consH (nameH 1) hN)))) 3 4)
  (seqS (ifM [2] (tNot (truM (eV 2)))
    (seqS (retM [3, 4] (andTM (eCmp .Is (eV 3) (eK .none)) (eCmp .Is (eV 4) (eK .none))))
    sN)
    sN)
  (seqS (ifM [3, 0, 1] (tNot (truM (callE m__law_like (consH (hD (eLst (aC (eV 3) aN))) (consH (hD (callE LE (consH (nameH 0) (consH (nameH 1) hN)))) hN)))))
    (seqS (retM [] (eK (.bool false)))
    sN)
    sN)
  (seqS (ifM [4, 6, 3, 3] (tNot (truM (callE m__law_like (consH (nameH 4) (consH (hD (eTup (aC (eBlt tupleF (aC (listM (seqM (eIx (eV 3) (eK (.int 0)))) [5, 6] (setD 6) tY (eBin .Add (eBin .Mult (eK (.int 6)) (eV 6)) (eK (.int 1)))) aN)) (aC (eBin .Mult (eK (.int 6)) (eIx (eV 3) (eK (.int 1)))) aN)))) hN)))))
    (seqS (retM [] (eK (.bool false)))
    sN)
    sN)
  (seqS (retM [0, 3, 0, 4, 1, 1] (eCmp .Eq (eLst (aC (callE p_weighed_family (consH (nameH 0) (consH (nameH 3) hN))) (aC (callE p_weighed_family (consH (nameH 0) (consH (nameH 4) hN))) aN))) (eLst (aC (eV 1) (aC (eV 1) aN)))))
  sN))))))))
theorem fr_is : m__law_family_right = frB m__law_least := by
  unfold m__law_family_right frB
  rw [pe_strength_rows, pe_weighed_family, pe_is_weighed, pe_least_weighing, pe_full_weighing, pe_weighing_paper, pe__law_is_apart, pe__law_paper_right]
def famOk (n : Nat) (F : List (List Int)) : Bool := (famsN n).contains F && decide (famK [] F = none) && decide (leastL n F = F) && F.all (LN n).contains && decide (F.length ≤ 32)
def LEp (n : Nat) (F : List (List Int)) (W : PyData) : List Ent → M PyData := fun es => match es with
  | [.dat (.int k), .dat d] => (match deF d with
    | some G => if decide (k = n) && decide (G = F) then fun ω => .ok W ω else m__law_least es
    | none => m__law_least es)
  | _ => m__law_least es
theorem LEp_is {n : Nat} (hn : 1 ≤ n ∧ n ≤ 4) {F : List (List Int)} (hF : Fam n F) {W : PyData} (hW : leastW n F = W) : m__law_least = LEp n F W := by
  funext es
  unfold LEp
  split
  · rename_i k d
    split
    · rename_i G hG
      split
      · rename_i h
        rw [Bool.and_eq_true, decide_eq_true_eq, decide_eq_true_eq] at h
        obtain ⟨rfl, rfl⟩ := h
        rw [deF_ok hG, ← hW]
        funext ω
        exact run_least hn hF ω
      · rfl
    · rfl
  · rfl
def frOne (n : Nat) (ω : Om) (F : List (List Int)) : Res PyData := frB (LEp n F (leastW n F)) [.dat (.int n), .dat (fm F)] ω
def frFour (ω : Om) (F : List (List Int)) : Res PyData := frB (LEp 4 F (leastN F)) [.dat (.int (4 : Nat)), .dat (fm F)] ω
theorem fr1 (ω : Om) : (famsN 1).map (frOne 1 ω) = (famsN 1).map fun _ => .ok (.bool true) ω := by kernel_rfl
theorem fr2 (ω : Om) : (famsN 2).map (frOne 2 ω) = (famsN 2).map fun _ => .ok (.bool true) ω := by kernel_rfl
theorem fr3 (ω : Om) : (famsN 3).map (frOne 3 ω) = (famsN 3).map fun _ => .ok (.bool true) ω := by kernel_rfl
end Q

set_option maxHeartbeats 4000000
namespace Q
open PySem L2 LamX
def ch4 (a k : Nat) : List (List (List Int)) := ((famsN 4).drop a).take k
theorem fr4_0 (ω : Om) : (ch4 0 12).map (frFour ω) = (ch4 0 12).map fun _ => .ok (.bool true) ω := by kernel_rfl
theorem fr4_12 (ω : Om) : (ch4 12 12).map (frFour ω) = (ch4 12 12).map fun _ => .ok (.bool true) ω := by kernel_rfl
theorem fr4_24 (ω : Om) : (ch4 24 12).map (frFour ω) = (ch4 24 12).map fun _ => .ok (.bool true) ω := by kernel_rfl
theorem fr4_36 (ω : Om) : (ch4 36 12).map (frFour ω) = (ch4 36 12).map fun _ => .ok (.bool true) ω := by kernel_rfl
theorem fr4_48 (ω : Om) : (ch4 48 12).map (frFour ω) = (ch4 48 12).map fun _ => .ok (.bool true) ω := by kernel_rfl
theorem fr4_60 (ω : Om) : (ch4 60 12).map (frFour ω) = (ch4 60 12).map fun _ => .ok (.bool true) ω := by kernel_rfl
theorem fr4_72 (ω : Om) : (ch4 72 12).map (frFour ω) = (ch4 72 12).map fun _ => .ok (.bool true) ω := by kernel_rfl
theorem fr4_84 (ω : Om) : (ch4 84 12).map (frFour ω) = (ch4 84 12).map fun _ => .ok (.bool true) ω := by kernel_rfl
theorem fr4_96 (ω : Om) : (ch4 96 12).map (frFour ω) = (ch4 96 12).map fun _ => .ok (.bool true) ω := by kernel_rfl
theorem fr4_108 (ω : Om) : (ch4 108 12).map (frFour ω) = (ch4 108 12).map fun _ => .ok (.bool true) ω := by kernel_rfl
theorem fr4_120 (ω : Om) : (ch4 120 12).map (frFour ω) = (ch4 120 12).map fun _ => .ok (.bool true) ω := by kernel_rfl
theorem fr4_132 (ω : Om) : (ch4 132 12).map (frFour ω) = (ch4 132 12).map fun _ => .ok (.bool true) ω := by kernel_rfl
theorem fr4_144 (ω : Om) : (ch4 144 12).map (frFour ω) = (ch4 144 12).map fun _ => .ok (.bool true) ω := by kernel_rfl
theorem fr4_156 (ω : Om) : (ch4 156 12).map (frFour ω) = (ch4 156 12).map fun _ => .ok (.bool true) ω := by kernel_rfl
theorem fr4 (ω : Om) : ∀ F ∈ famsN 4, frFour ω F = .ok (.bool true) ω := by
  have hs : famsN 4 = ch4 0 12 ++ (ch4 12 12 ++ (ch4 24 12 ++ (ch4 36 12 ++ (ch4 48 12 ++ (ch4 60 12 ++ (ch4 72 12 ++ (ch4 84 12 ++ (ch4 96 12 ++ (ch4 108 12 ++ (ch4 120 12 ++ (ch4 132 12 ++ (ch4 144 12 ++ (ch4 156 12))))))))))))) := by kernel_rfl
  intro F hF
  rw [hs] at hF
  simp only [List.mem_append] at hF
  rcases hF with h | h | h | h | h | h | h | h | h | h | h | h | h | h
  · exact List.map_inj_left.mp (fr4_0 ω) F h
  · exact List.map_inj_left.mp (fr4_12 ω) F h
  · exact List.map_inj_left.mp (fr4_24 ω) F h
  · exact List.map_inj_left.mp (fr4_36 ω) F h
  · exact List.map_inj_left.mp (fr4_48 ω) F h
  · exact List.map_inj_left.mp (fr4_60 ω) F h
  · exact List.map_inj_left.mp (fr4_72 ω) F h
  · exact List.map_inj_left.mp (fr4_84 ω) F h
  · exact List.map_inj_left.mp (fr4_96 ω) F h
  · exact List.map_inj_left.mp (fr4_108 ω) F h
  · exact List.map_inj_left.mp (fr4_120 ω) F h
  · exact List.map_inj_left.mp (fr4_132 ω) F h
  · exact List.map_inj_left.mp (fr4_144 ω) F h
  · exact List.map_inj_left.mp (fr4_156 ω) F h
theorem fr_run {n : Nat} (hn : 1 ≤ n ∧ n ≤ 4) {F : List (List Int)} (hF : Fam n F) (ω : Om) : m__law_family_right [.dat (.int n), .dat (fm F)] ω = .ok (.bool true) ω := by
  have hm := mem_famsN hF
  have e : m__law_family_right [.dat (.int n), .dat (fm F)] ω = frB m__law_least [.dat (.int n), .dat (fm F)] ω := by rw [fr_is]
  rw [e]
  have e2 : frB m__law_least [.dat (.int n), .dat (fm F)] ω = frOne n ω F := by
    unfold frOne
    rw [← LEp_is hn hF rfl]
  rcases four hn with rfl | rfl | rfl | rfl
  · rw [e2]; exact List.map_inj_left.mp (fr1 ω) F hm
  · rw [e2]; exact List.map_inj_left.mp (fr2 ω) F hm
  · rw [e2]; exact List.map_inj_left.mp (fr3 ω) F hm
  · have e3 : frB m__law_least [.dat (.int (4 : Nat)), .dat (fm F)] ω = frFour ω F := by
      unfold frFour
      rw [← LEp_is hn hF (leastN_ok F)]
    rw [e3]
    exact fr4 ω F hm
def SD (n : Nat) : List PyData := match m__law_every [.dat (.int n)] none with
  | .ok (.list ds) _ => ds
  | _ => []
theorem three {n : Nat} (h : 1 ≤ n ∧ n ≤ 3) : n = 1 ∨ n = 2 ∨ n = 3 := by omega
theorem every_run {n : Nat} (hn : 1 ≤ n ∧ n ≤ 3) (ω : Om) : m__law_every [.dat (.int n)] ω = .ok (.list (SD n)) ω := by
  rcases three hn with rfl | rfl | rfl <;> kernel_rfl
def sdOk (n : Nat) : Bool := (SD n).all fun d => match deF d with | some F => famOk n F | none => false
theorem sd1 : sdOk 1 = true := by decide +kernel
theorem sd2 : sdOk 2 = true := by decide +kernel
theorem sd3 : sdOk 3 = true := by decide +kernel
theorem SD_fam {n : Nat} (hn : 1 ≤ n ∧ n ≤ 3) : ∀ d ∈ SD n, ∃ F, Fam n F ∧ d = fm F := fun d hd => by
  have h : sdOk n = true := by rcases three hn with rfl | rfl | rfl <;> first | exact sd1 | exact sd2 | exact sd3
  have h1 := List.all_eq_true.mp h d hd
  split at h1
  · rename_i F hF
    unfold famOk at h1
    simp only [Bool.and_eq_true, decide_eq_true_eq, List.all_eq_true, List.contains_iff_mem] at h1
    exact ⟨F, ⟨h1.1.2, h1.2, h1.1.1.1.2, h1.1.1.2⟩, deF_ok hF⟩
  · cases h1
end Q

set_option maxHeartbeats 4000000
namespace Q
open PySem L2 LamX
/-! ### all families of four, by both -/
def ms : List Ent → M PyData := fun es => match es with
  | [.dat d, .dat e] => (match deF d, deT e with
    | some F, some l => bif smallF F && Nat.ble l.length 1000 then fun ω => .ok (.bool (F.all fun a => apart a l)) ω else m_may_stand_behind es
    | _, _ => m_may_stand_behind es)
  | _ => m_may_stand_behind es
theorem ms_is : m_may_stand_behind = ms := by
  funext es
  unfold ms
  split
  · rename_i d e
    split
    · rename_i F l hF hl
      cases hs : (smallF F && Nat.ble l.length 1000) with
      | false => rfl
      | true =>
        rw [Bool.and_eq_true] at hs
        rw [deF_ok hF, deT_ok hl]
        funext ω
        exact run_may_stand F l (smallF_ok hs.1).1 (smallF_ok hs.1).2 (Nat.le_of_ble_eq_true hs.2) ω
    · rfl
  · rfl
def ba : List Ent → M PyData := fun es => match es with
  | [.dat (.list ds)] => (match deTs ds with
    | some xs => bif xs.all (fun l => (LN 4).contains l) && Nat.blt xs.length 64 then fun ω => .ok (fm (leastL 4 xs)) ω else m__law_bare es
    | none => m__law_bare es)
  | _ => m__law_bare es
theorem ba_is : m__law_bare = ba := by
  funext es
  unfold ba
  split
  · rename_i ds
    split
    · rename_i xs hx
      cases hs : (xs.all (fun l => (LN 4).contains l) && Nat.blt xs.length 64) with
      | false => rfl
      | true =>
        rw [Bool.and_eq_true, List.all_eq_true] at hs
        rw [deTs_ok hx]
        funext ω
        exact run_law_bare (n := 4) (by decide) (fun l hl => List.contains_iff_mem.mp (hs.1 l hl)) (Nat.le_of_ble_eq_true hs.2) ω
    · rfl
  · rfl
def pb__law_every (F : List Ent → M PyData) : List Ent → M PyData := callM 1 7
  (seqS (ifM [0] (cmpM .Eq (eV 0) (eK (.int 0)))
    (seqS (retM [] (eLst (aC (eTup aN) (aC (eTup (aC (eTup aN) aN)) aN))))
    sN)
    sN)
  (seqS (parM [0] (nD (callE F (consH (hD (eBin .Sub (eV 0) (eK (.int 1)))) hN))) (nLst aN) 1 2)
  (seqS (loopM [1] (seqM (eV 1)) (setD 3)
    (seqS (loopM [1] (seqM (eV 1)) (setD 4)
      (seqS (ifM [3, 4, 6] (cmpM .Eq (listM (seqM (eV 3)) [5, 6] (setD 6) (tNot (truM (callE ha (consH (nameH 4) (consH (nameH 6) hN))))) (eK (.int 1))) (eLst aN))
        (seqS (appM 2 [3, 6, 0, 4] (callE ba (consH (hD (eBin .Add (eBlt listF (aC (eV 3) aN)) (listM (seqM (eV 4)) [5, 6] (setD 6) tY (eBin .Add (eV 6) (eTup (aC (eBin .Sub (eV 0) (eK (.int 1))) aN)))))) hN)))
        sN)
        sN)
      sN))
    sN))
  (seqS (retM [2] (eBlt sortF (aC (eV 2) aN)))
  sN))))
theorem pb_is : b__law_every = pb__law_every := by
  funext F
  unfold b__law_every pb__law_every
  rw [ha_is, ba_is]
def p_all_families : List Ent → M PyData := callM 1 5
  (seqS (ifM [0] (cmpM .Gt (callE m_family_count (consH (nameH 0) hN)) (eK (.int 200)))
    (seqS (raiseM [] "TooGreat" "most" (eK (.int 200)))
    sN)
    sN)
  (seqS (asgN [] (nLst (aC (eTup aN) aN)) 1)
  (seqS (loopM [0] (seqM (callE m_all_subsets (consH (nameH 0) hN))) (setD 2)
    (seqS (asgN [1, 4, 2, 1, 4, 2] (nAdd (eV 1) (listM (seqM (eV 1)) [3, 4] (setD 4) (truM (callE ms (consH (nameH 4) (consH (nameH 2) hN)))) (eBin .Add (eV 4) (eTup (aC (eV 2) aN))))) 1)
    sN))
  (seqS (retM [1] (eBlt tupleF (aC (eBlt sortF (aC (eV 1) aN)) aN)))
  sN))))
theorem pa_is : m_all_families = p_all_families := by
  unfold m_all_families p_all_families
  rw [ms_is]
def SD4 : List PyData := match recM pb__law_every 12 [.dat (.int 4)] none with
  | .ok (.list ds) _ => ds
  | _ => []
theorem every4 (ω : Om) : m__law_every [.dat (.int 4)] ω = .ok (.list SD4) ω := by
  show recM b__law_every 12 [.dat (.int 4)] ω = _
  rw [pb_is]
  kernel_rfl
theorem all4 (ω : Om) : m_all_families [.dat (.int 4)] ω = .ok (.tuple SD4) ω := by
  rw [pa_is]
  kernel_rfl
theorem all1 (ω : Om) : m_all_families [.dat (.int 1)] ω = .ok (.tuple (SD 1)) ω := by rw [pa_is]; kernel_rfl
theorem all2 (ω : Om) : m_all_families [.dat (.int 2)] ω = .ok (.tuple (SD 2)) ω := by rw [pa_is]; kernel_rfl
theorem all3 (ω : Om) : m_all_families [.dat (.int 3)] ω = .ok (.tuple (SD 3)) ω := by rw [pa_is]; kernel_rfl
theorem hand4 (ω : Om) : m__law_hand_right [] ω = .ok (.bool true) ω := by kernel_rfl
theorem great4 (ω : Om) : m__law_is_too_great [] ω = .ok (.bool true) ω := by kernel_rfl
end Q

set_option maxHeartbeats 4000000
namespace Q
open PySem L2 LamX
/-! ### the law -/
theorem of_run {b : Int} {ω : Om} (g : GoodM b ω) {ds : List PyData} (h0 : ds ≠ []) (hl : ds.length ≤ 1000) (hb : b < 1048576 := by omega) : ∃ d ω', m__law_of [.mach, .dat (.list ds)] ω = .ok d ω' ∧ d ∈ ds ∧ GoodM (b + 1) ω' := by
  have hp : (0 : Int) < (ds.length : Nat) := by
    have := List.length_pos_iff.mpr h0
    omega
  obtain ⟨r, ω', e, hr, g'⟩ := draw_run g (lim := (ds.length : Nat)) hp hb (by omega)
  obtain ⟨d, ed, hd⟩ := at_in hr.1 hr.2
  refine ⟨d, ω', ?_, hd, g'⟩
  simp [m__law_of, lenF, e, itemD, ed]
theorem ofs_go (n : Nat) (x0 x3 x4 : Option Ent) {ds : List PyData} (h0 : ds ≠ []) (hl : ds.length ≤ 1000) : ∀ (xs : List PyData) {b : Int} {ω : Om}, GoodM b ω → b + xs.length < 1048000 → ∃ (ys : List PyData) (ω' : Om),
    compM (setD 6) tY (callE m__law_of (consH (nameH 1) (consH (nameH 2) hN))) [x0, some .mach, some (.dat (.list ds)), x3, x4, none, none] xs ω = .ok ys ω' ∧ (∀ y ∈ ys, y ∈ ds) ∧ ys.length = xs.length ∧ GoodM (b + xs.length) ω'
  | [], b, ω, g, _ => ⟨[], ω, rfl, (fun y h => nomatch h), rfl, by simpa using g⟩
  | x :: xs, b, ω, g, hb => by
    rw [List.length_cons] at hb
    have eb : b + ((x :: xs).length : Int) = b + 1 + (xs.length : Int) := by rw [List.length_cons]; omega
    obtain ⟨d, ω1, e1, hd, g1⟩ := of_run g h0 hl (by omega)
    obtain ⟨ys, ω2, e2, m, hy, g2⟩ := ofs_go n x0 x3 x4 h0 hl xs g1 (by omega)
    refine ⟨d :: ys, ω2, ?_, fun y h => ?_, by simp [hy], by rw [eb]; exact g2⟩
    · rw [compM]
      simp [setD, safe, e1, e2]
    · rcases List.mem_cons.mp h with q | q
      · rw [q]; exact hd
      · exact m y q
def lB4 : RF := seqS (ifM [3, 4] (tNot (truM (callE m__law_family_right (consH (nameH 3) (consH (nameH 4) hN)))))
      (seqS (retM [] (eK (.bool false)))
      sN)
      sN)
    sN
theorem b4_go (n : Nat) (hn : 1 ≤ n ∧ n ≤ 4) (x0 : Option Ent) (d2 : PyData) (ω : Om) : ∀ (ds : List PyData) (x4 : Option Ent), (∀ d ∈ ds, ∃ F, Fam n F ∧ d = fm F) → ∃ y4 : Option Ent,
    forM (setD 4) lB4 ds [x0, some .mach, some (.dat d2), some (.dat (.int n)), x4, none, none] ω = .ok (.nx [x0, some .mach, some (.dat d2), some (.dat (.int n)), y4, none, none]) ω
  | [], x4, _ => ⟨x4, rfl⟩
  | d :: ds, x4, h => by
    obtain ⟨F, hF, rfl⟩ := h d (by simp)
    obtain ⟨y4, ih⟩ := b4_go n hn x0 d2 ω ds (some (.dat (fm F))) fun e he => h e (by simp [he])
    have r := fr_run hn hF ω
    refine ⟨y4, ?_⟩
    rw [x_forM_cons]
    have eg : setD 4 (fm F) [x0, some .mach, some (.dat d2), some (.dat (.int n)), x4, none, none] = some [x0, some .mach, some (.dat d2), some (.dat (.int n)), some (.dat (fm F)), none, none] := rfl
    rw [eg]
    have : lB4 [x0, some .mach, some (.dat d2), some (.dat (.int n)), some (.dat (fm F)), none, none] ω = .ok (.nx [x0, some .mach, some (.dat d2), some (.dat (.int n)), some (.dat (fm F)), none, none]) ω := by
      generalize fm F = G at r ⊢
      simp [lB4, r, okT, truth]
    simp only [x_bind, x_get, this]
    exact ih
def ls4 : RF := loopM [3, 2, 1, 2] (seqM (eIf (cmpM .Lt (eV 3) (eK (.int 3))) (eV 2) (listM (rng1M (aC (eK (.int 8)) aN)) [5, 6] (setD 6) tY (callE m__law_of (consH (nameH 1) (consH (nameH 2) hN)))))) (setD 4) lB4
theorem ls4_run (n : Nat) (hn : 1 ≤ n ∧ n ≤ 3) (x0 : Option Ent) {b : Int} {ω : Om} (g : GoodM b ω) (hb : b < 1000) : ∃ (y4 : Option Ent) (ω' : Om), GoodM (b + 8) ω' ∧
    ls4 [x0, some .mach, some (.dat (.list (SD n))), some (.dat (.int n)), none, none, none] ω = .ok (.nx [x0, some .mach, some (.dat (.list (SD n))), some (.dat (.int n)), y4, none, none]) ω' := by
  have hs : (SD n).length ≤ 1000 ∧ SD n ≠ [] := by rcases three hn with rfl | rfl | rfl <;> decide +kernel
  have hsl : (SD n).length ≤ line := Nat.le_trans hs.1 (by decide)
  have hf : ∀ d ∈ SD n, ∃ F, Fam n F ∧ d = fm F := SD_fam hn
  by_cases h3 : n = 3
  · subst h3
    obtain ⟨ys, ω1, e1, m, hy, g1⟩ := ofs_go 3 x0 (some (.dat (.int (3 : Nat)))) none hs.2 hs.1 (upD 0 8) g (by rw [upD_length]; omega)
    obtain ⟨y4, e2⟩ := b4_go 3 (by decide) x0 (.list (SD 3)) ω1 ys none fun d hd => hf d (m d hd)
    rw [upD_length] at hy g1
    have hz : ys.length ≤ line := by rw [hy]; decide
    refine ⟨y4, ω1, by simpa using g1, ?_⟩
    have lt : cmpD .Lt (.int (3 : Nat)) (.int 3) = some false := rfl
    generalize SD 3 = S at *
    generalize ((3 : Nat) : Int) = k at lt e1 e2 ⊢
    simp [ls4, listM, rng1M, e1, wipeR, lt, itemsD, hz, e2, safe]
  · have hlt : (n : Int) < 3 := by omega
    obtain ⟨y4, e2⟩ := b4_go n (by omega) x0 (.list (SD n)) ω (SD n) none hf
    refine ⟨y4, ω, g.mono (by omega), ?_⟩
    have lt : cmpD .Lt (.int n) (.int 3) = some true := by show some (decide _) = _; rw [decide_eq_true hlt]
    generalize SD n = S at *
    simp [ls4, lt, itemsD, hsl, e2]
end Q

set_option maxHeartbeats 4000000
namespace Q
open PySem L2 LamX
def ls1 : RF := asgN [1] (nD (callE m__law_every (consH (hD (eBin .Add (eK (.int 1)) (callE m__law_draw (consH (nameH 1) (consH (hD (eK (.int 3))) hN))))) hN))) 2
def ls2 : RF := asgN [2] (nD (eDix [(.inl (3), 1), (.inl (6), 2), (.inl (20), 3)] (eBlt lenF (aC (eV 2) aN)))) 3
def ls3 : RF := ifM [3, 3, 2, 2] (tNot (truM (callE m__law_like (consH (hD (eLst (aC (callE m_all_families (consH (nameH 3) hN)) (aC (callE m_family_count (consH (nameH 3) hN)) aN)))) (consH (hD (eLst (aC (eBlt tupleF (aC (eV 2) aN)) (aC (eBlt lenF (aC (eV 2) aN)) aN)))) hN)))))
    (seqS (retM [] (eK (.bool false)))
    sN)
    sN
def ls5 : RF := ifM [] (orM (cmpM .NotEq (callE m_family_count (consH (hD (eK (.int 4))) hN)) (eK (.int 168))) (orM (tNot (truM (fun _ => m__law_is_too_great []))) (tNot (truM (fun _ => m__law_hand_right [])))))
    (seqS (retM [] (eK (.bool false)))
    sN)
    sN
def ls6 : RF := ifM [1] (cmpM .Eq (callE m__law_draw (consH (nameH 1) (consH (hD (eK (.int 4))) hN))) (eK (.int 0)))
    (seqS (ifM [] (orM (cmpM .NotEq (callE m_family_count (consH (hD (eK (.int 5))) hN)) (eK (.int 7581))) (tNot (truM (callE m__law_like (consH (hD (callE m_all_families (consH (hD (eK (.int 4))) hN))) (consH (hD (eBlt tupleF (aC (callE m__law_every (consH (hD (eK (.int 4))) hN)) aN))) hN))))))
      (seqS (retM [] (eK (.bool false)))
      sN)
      sN)
    sN)
    sN
def ls7 : RF := retM [1] (callE m__law_family_right (consH (hD (eK (.int 4))) (consH (hD (callE m__law_family (consH (nameH 1) (consH (hD (eK (.int 4))) hN)))) hN)))
theorem law_is : lawRest = seqS ls1 (seqS ls2 (seqS ls3 (seqS ls4 (seqS ls5 (seqS ls6 (seqS ls7 sN)))))) := rfl
theorem s1_run (x0 : Option Ent) {b : Int} {ω : Om} (g : GoodM b ω) (hb : b < 1000) : ∃ (n : Nat) (ω' : Om), (1 ≤ n ∧ n ≤ 3) ∧ GoodM (b + 1) ω' ∧
    ls1 [x0, some .mach, none, none, none, none, none] ω = .ok (.nx [x0, some .mach, some (.dat (.list (SD n))), none, none, none, none]) ω' := by
  obtain ⟨r, ω1, e1, hr, g1⟩ := draw_run g (lim := 3) (by decide) (by omega) (by decide)
  have ec : (((1 + r).toNat : Nat) : Int) = 1 + r := by omega
  have hn : 1 ≤ (1 + r).toNat ∧ (1 + r).toNat ≤ 3 := by omega
  have e2 := every_run hn ω1
  rw [ec] at e2
  refine ⟨(1 + r).toNat, ω1, hn, g1, ?_⟩
  have ea : binD .Add (.int 1) (.int r) = some (.int (1 + r)) := rfl
  generalize SD (1 + r).toNat = S at *
  simp [ls1, e1, ea, e2, flat]
theorem s2_run (n : Nat) (hn : 1 ≤ n ∧ n ≤ 3) (x0 : Option Ent) (ω : Om) : ls2 [x0, some .mach, some (.dat (.list (SD n))), none, none, none, none] ω = .ok (.nx [x0, some .mach, some (.dat (.list (SD n))), some (.dat (.int n)), none, none, none]) ω := by
  rcases three hn with rfl | rfl | rfl <;> kernel_rfl
end Q

set_option maxHeartbeats 4000000
namespace Q
open PySem L2 LamX
theorem sd_sub {n : Nat} (hn : 1 ≤ n ∧ n ≤ 3) : ∀ d ∈ SD n, Fine d 2 4803 := fun d hd => by
  obtain ⟨F, hF, rfl⟩ := SD_fam hn d hd
  exact fine_fm (by omega) hF.sub (by have := hF.few; omega)
theorem sd_few {n : Nat} (hn : 1 ≤ n ∧ n ≤ 3) : (SD n).length ≤ 20 := by rcases three hn with rfl | rfl | rfl <;> decide +kernel
theorem all_run {n : Nat} (hn : 1 ≤ n ∧ n ≤ 3) (ω : Om) : m_all_families [.dat (.int n)] ω = .ok (.tuple (SD n)) ω := by
  rcases three hn with rfl | rfl | rfl
  · exact all1 ω
  · exact all2 ω
  · exact all3 ω
theorem count_run {n : Nat} (hn : 1 ≤ n ∧ n ≤ 3) (ω : Om) : m_family_count [.dat (.int n)] ω = .ok (.int (SD n).length) ω := by
  rcases three hn with rfl | rfl | rfl <;> kernel_rfl
theorem s3_run (n : Nat) (hn : 1 ≤ n ∧ n ≤ 3) (x0 : Option Ent) (ω : Om) : ls3 [x0, some .mach, some (.dat (.list (SD n))), some (.dat (.int n)), none, none, none] ω = .ok (.nx [x0, some .mach, some (.dat (.list (SD n))), some (.dat (.int n)), none, none, none]) ω := by
  have e1 := all_run hn ω
  have e2 := count_run hn ω
  have hl := sd_few hn
  have f1 : Fine (.tuple (SD n)) 3 96103 := Fine.tuple (n := 20) (sd_sub hn) hl
  have f2 : Fine (.int (SD n).length) 3 96103 := (Fine.int (i := ((SD n).length : Int)) (by
    have : ((SD n).length : Int).natAbs = (SD n).length := Int.natAbs_natCast _
    rw [this]
    exact Nat.lt_of_le_of_lt hl (by decide))).mono
  have f3 : Fine (.list [.tuple (SD n), .int (SD n).length]) 4 192213 := Fine.list (n := 2) (fun x hx => by
    rcases List.mem_cons.mp hx with rfl | hx
    · exact f1
    · rw [List.mem_singleton.mp hx]; exact f2) (Nat.le_refl _)
  have rl := run_like f3 ω
  have t1 : tupleF [.list (SD n)] = some (.tuple (SD n)) := rfl
  have t2 : lenF [.list (SD n)] = some (.int (SD n).length) := rfl
  have h2 : (2 : Nat) ≤ line := by decide
  generalize ((SD n).length : Int) = k at *
  generalize SD n = S at *
  simp [ls3, e1, e2, t1, t2, rl, okT, truth, h2]
theorem sd4_ok : ((SD4.all fun d => match deF d with | some F => F.all (fun l => (LN 4).contains l) && Nat.ble F.length 40 | none => false) && Nat.ble SD4.length 200) = true := by decide +kernel
theorem like4 (ω : Om) : m__law_like [.dat (.tuple SD4), .dat (.tuple SD4)] ω = .ok (.bool true) ω := by
  have h := sd4_ok
  rw [Bool.and_eq_true, List.all_eq_true] at h
  refine run_like (Fine.tuple (n := 200) (dp := 2) (sz := 4803) (fun d hd => ?_) (Nat.le_of_ble_eq_true h.2)) ω
  have h1 := h.1 d hd
  split at h1
  · rename_i F hF
    rw [Bool.and_eq_true, List.all_eq_true] at h1
    rw [deF_ok hF]
    exact fine_fm (n := 4) (by decide) (fun l hl => List.contains_iff_mem.mp (h1.1 l hl)) (Nat.le_of_ble_eq_true h1.2)
  · cases h1
theorem cnt4 (ω : Om) : m_family_count [.dat (.int 4)] ω = .ok (.int 168) ω := by kernel_rfl
theorem cnt5 (ω : Om) : m_family_count [.dat (.int 5)] ω = .ok (.int 7581) ω := by kernel_rfl
theorem neq_same (i : Int) : cmpD .NotEq (.int i) (.int i) = some false := by
  show (eqD (.int i) (.int i)).map (!·) = _
  rw [eqD_int, decide_eq_true rfl]; rfl
theorem s5_run (ρ : Rho) (ω : Om) : ls5 ρ ω = .ok (.nx ρ) ω := by
  simp [ls5, cnt4, neq_same, great4, hand4, okT, truth]
def ls6b : RF := ifM [] (orM (cmpM .NotEq (callE m_family_count (consH (hD (eK (.int 5))) hN)) (eK (.int 7581))) (tNot (truM (callE m__law_like (consH (hD (callE m_all_families (consH (hD (eK (.int 4))) hN))) (consH (hD (eBlt tupleF (aC (callE m__law_every (consH (hD (eK (.int 4))) hN)) aN))) hN))))))
      (seqS (retM [] (eK (.bool false)))
      sN)
      sN
theorem s6b_gen (E4 E5 E6 E7 : List Ent → M PyData) (S : List PyData) (ω : Om) (c5 : E7 [.dat (.int 5)] ω = .ok (.int 7581) ω) (e1 : E5 [.dat (.int 4)] ω = .ok (.tuple S) ω) (e2 : E4 [.dat (.int 4)] ω = .ok (.list S) ω) (e3 : E6 [.dat (.tuple S), .dat (.tuple S)] ω = .ok (.bool true) ω) (ρ : Rho) :
    ifM [] (orM (cmpM .NotEq (callE E7 (consH (hD (eK (.int 5))) hN)) (eK (.int 7581))) (tNot (truM (callE E6 (consH (hD (callE E5 (consH (hD (eK (.int 4))) hN))) (consH (hD (eBlt tupleF (aC (callE E4 (consH (hD (eK (.int 4))) hN)) aN))) hN))))))
      (seqS (retM [] (eK (.bool false))) sN) sN ρ ω = .ok (.nx ρ) ω := by
  have a1 : callE E7 (consH (hD (eK (.int 5))) hN) ρ ω = .ok (.int 7581) ω := c5
  have a2 : cmpM .NotEq (callE E7 (consH (hD (eK (.int 5))) hN)) (eK (.int 7581)) ρ ω = .ok false ω := by
    rw [x_cmpM, bind_ok a1]
    show get? (cmpD .NotEq (.int 7581) (.int 7581)) ω = _
    rw [neq_same]; rfl
  have a3 : callE E5 (consH (hD (eK (.int 4))) hN) ρ ω = .ok (.tuple S) ω := e1
  have b1 : callE E4 (consH (hD (eK (.int 4))) hN) ρ ω = .ok (.list S) ω := e2
  have b2 : aC (callE E4 (consH (hD (eK (.int 4))) hN)) aN ρ ω = .ok [.list S] ω := by
    rw [x_aC, bind_ok b1]; rfl
  have a4 : eBlt tupleF (aC (callE E4 (consH (hD (eK (.int 4))) hN)) aN) ρ ω = .ok (.tuple S) ω := by
    rw [x_eBlt, bind_ok b2]; rfl
  have a5 : callE E6 (consH (hD (callE E5 (consH (hD (eK (.int 4))) hN))) (consH (hD (eBlt tupleF (aC (callE E4 (consH (hD (eK (.int 4))) hN)) aN))) hN)) ρ ω = .ok (.bool true) ω := by
    have c1 : hD (callE E5 (consH (hD (eK (.int 4))) hN)) ρ ω = .ok (.dat (.tuple S)) ω := by rw [x_hD, bind_ok a3]; rfl
    have c2 : hD (eBlt tupleF (aC (callE E4 (consH (hD (eK (.int 4))) hN)) aN)) ρ ω = .ok (.dat (.tuple S)) ω := by rw [x_hD, bind_ok a4]; rfl
    have c3 : consH (hD (eBlt tupleF (aC (callE E4 (consH (hD (eK (.int 4))) hN)) aN))) hN ρ ω = .ok [.dat (.tuple S)] ω := by rw [x_consH, bind_ok c2]; rfl
    have c4 : consH (hD (callE E5 (consH (hD (eK (.int 4))) hN))) (consH (hD (eBlt tupleF (aC (callE E4 (consH (hD (eK (.int 4))) hN)) aN))) hN) ρ ω = .ok [.dat (.tuple S), .dat (.tuple S)] ω := by rw [x_consH, bind_ok c1, bind_ok c3]; rfl
    rw [x_callE, bind_ok c4, e3]
  have a6 : truM (callE E6 (consH (hD (callE E5 (consH (hD (eK (.int 4))) hN))) (consH (hD (eBlt tupleF (aC (callE E4 (consH (hD (eK (.int 4))) hN)) aN))) hN))) ρ ω = .ok true ω := by
    rw [x_truM, bind_ok a5]; rfl
  have a7 : tNot (truM (callE E6 (consH (hD (callE E5 (consH (hD (eK (.int 4))) hN))) (consH (hD (eBlt tupleF (aC (callE E4 (consH (hD (eK (.int 4))) hN)) aN))) hN)))) ρ ω = .ok false ω := by
    rw [x_tNot, bind_ok a6]; rfl
  generalize tNot (truM (callE E6 (consH (hD (callE E5 (consH (hD (eK (.int 4))) hN))) (consH (hD (eBlt tupleF (aC (callE E4 (consH (hD (eK (.int 4))) hN)) aN))) hN)))) = B at a7 ⊢
  generalize cmpM .NotEq (callE E7 (consH (hD (eK (.int 5))) hN)) (eK (.int 7581)) = A at a2 ⊢
  have a8 : orM A B ρ ω = .ok false ω := by
    rw [x_orM, bind_ok a2]
    exact a7
  rw [x_ifM]
  show (orM A B ρ >>= _) ω = _
  rw [bind_ok a8]
  rfl
theorem s6b_run (ρ : Rho) (ω : Om) : ls6b ρ ω = .ok (.nx ρ) ω := by
  unfold ls6b
  exact s6b_gen _ _ _ _ SD4 ω (cnt5 ω) (all4 ω) (every4 ω) (like4 ω) ρ
theorem s6_run (x0 : Option Ent) (d2 d3 : PyData) (x4 : Option Ent) {b : Int} {ω : Om} (g : GoodM b ω) (hb : b < 1000) : ∃ ω' : Om, GoodM (b + 1) ω' ∧
    ls6 [x0, some .mach, some (.dat d2), some (.dat d3), x4, none, none] ω = .ok (.nx [x0, some .mach, some (.dat d2), some (.dat d3), x4, none, none]) ω' := by
  obtain ⟨r, ω1, e1, hr, g1⟩ := draw_run g (lim := 4) (by decide) (by omega) (by decide)
  refine ⟨ω1, g1, ?_⟩
  have hs : ls6 = ifM [1] (cmpM .Eq (callE m__law_draw (consH (nameH 1) (consH (hD (eK (.int 4))) hN))) (eK (.int 0))) (seqS ls6b sN) sN := by unfold ls6 ls6b; rfl
  have e2 := s6b_run [x0, some .mach, some (.dat d2), some (.dat d3), x4, none, none] ω1
  rw [hs]
  generalize ls6b = B at e2 ⊢
  have c1 : cmpM .Eq (callE m__law_draw (consH (nameH 1) (consH (hD (eK (.int 4))) hN))) (eK (.int 0)) [x0, some .mach, some (.dat d2), some (.dat d3), x4, none, none] ω = .ok (decide (r = 0)) ω1 := by
    have ee : cmpD .Eq (.int r) (.int 0) = some (decide (r = 0)) := eqD_int r 0
    simp [e1, ee]
  generalize cmpM .Eq (callE m__law_draw (consH (nameH 1) (consH (hD (eK (.int 4))) hN))) (eK (.int 0)) = C at c1 ⊢
  have c2 : seqS B sN [x0, some .mach, some (.dat d2), some (.dat d3), x4, none, none] ω1 = .ok (.nx [x0, some .mach, some (.dat d2), some (.dat d3), x4, none, none]) ω1 := by
    rw [x_seqS, bind_ok e2]; rfl
  rw [x_ifM]
  show (C [x0, some .mach, some (.dat d2), some (.dat d3), x4, none, none] >>= _) ω = _
  rw [bind_ok c1]
  cases decide (r = 0) with
  | true => exact c2
  | false => rfl
end Q

set_option maxHeartbeats 4000000
namespace Q
open PySem L2 LamX
theorem main_run (e0 : Option Ent) (m : Mach) (h0 : m.spot = 0) (hc : cellsOk m.cells) (hg : m.great.length ≤ 63) : ∃ ω', lawRest [e0, some .mach, none, none, none, none, none] (some m) = .ok (.rt (.bool true)) ω' := by
  have g : GoodM 0 (some m) := ⟨m, rfl, hc, hg, by omega, by omega⟩
  obtain ⟨n, ω1, hn, g1, e1⟩ := s1_run e0 g (by decide)
  have e2 := s2_run n hn e0 ω1
  have e3 := s3_run n hn e0 ω1
  obtain ⟨y4, ω4, g4, e4⟩ := ls4_run n hn e0 g1 (by decide)
  have e5 := s5_run [e0, some .mach, some (.dat (.list (SD n))), some (.dat (.int n)), y4, none, none] ω4
  obtain ⟨ω6, g6, e6⟩ := s6_run e0 (.list (SD n)) (.int n) y4 g4 (by decide)
  obtain ⟨xs, ω7, e7, hx, hl, g7⟩ := family_run (n := 4) (by decide) g6 (by decide)
  have e8 := fr_run (n := 4) (by decide) (fam_least (by decide) xs) ω7
  refine ⟨ω7, ?_⟩
  rw [law_is]
  have e9 : ls7 [e0, some .mach, some (.dat (.list (SD n))), some (.dat (.int n)), y4, none, none] ω6 = .ok (.rt (.bool true)) ω7 := by
    generalize SD n = S
    have e7' : m__law_family [.mach, .dat (.int 4)] ω6 = .ok (fm (leastL 4 xs)) ω7 := e7
    have e8' : m__law_family_right [.dat (.int 4), .dat (fm (leastL 4 xs))] ω7 = .ok (.bool true) ω7 := e8
    generalize fm (leastL 4 xs) = G at e7' e8'
    simp [ls7, e7', e8']
  simp [e1, e2, e3, e4, e5, e6, e9]
end Q

open PySem PySem.W PySem.Calls PyProof.Rows
set_option maxHeartbeats 0 in
theorem PySem.Challenge.cw_floorpowers_k04_whole_all_families_and_w_holds : PySem.Challenge.rw_floorpowers_k04_whole_all_families_and_w.Holds := by
  exact k04_of Q.main_run

